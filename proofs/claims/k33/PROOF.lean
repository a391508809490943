import PyProof.Rows.All
import Wide.All
import OpenK.AllK
import Wide.FinOn
import HandS.ForMost
import HandS.WideBits
import HandS.IsInst
import HandS.Style
import HandS.AnyAll
import HandS.Nested
import HandS.Walk
import HandS.Evl
import HandS.EndTab
import HandS.SortInts
import HandS.SortRule
import HandS.Conv
import HandS.Star
import HandS.Codes
import HandS.Wide
import HandS.Zip
import HandS.DictComp
import HandS.SetFor
import HandS.SetKeys
import HandS.StrMore
import HandS.Replace
import PyProof.ReprRoads
import PyProof.ReprLen
import HandS.Small
import HandS.More
import KE.KDictPairs
import KE.GoesMore
import KE.GoesEnum
import PyProof.SumAny
import PyProof.WalksPairs
import PyProof.GenCompT
import HandS.GenList
import HandS.Lambda
import HandS.Set
import HandS.SetBool
import HandS.Comp
import HandS.Strs
import HandS.Deep
import PySem.Challenge.RW_tinrecall_k33_great_batches
set_option Elab.async false
set_option linter.all false
set_option maxRecDepth 100000
set_option maxHeartbeats 5000000
/-! ## sum(.. for a, b in ..): a generator expression over a list or a tuple of pairs of whole numbers -/
namespace GP
open PySem PySem.Spec PyProof.Rows L2 GxR

/-- a walk whose items are tuples that stand still -/
theorem asTuples {prog : Program} {w : World} {A : Around} {it : Addr} {foot : List Addr} {n : Nat} {Item : Nat → Value → Prop} {At : Nat → Heap → Prop} (W : Walks prog w A it foot [it] n Item At) (loc : Nat → Addr) (held : Nat → Array Value)
    (isT : ∀ j v, j < n → Item j v → v = .ref (loc j)) (apt : ∀ j, j < n → loc j ≠ it)
    (letGo : ∀ (es : List Expr) (k : Nat) (pos : Pos) (j : Nat) (T : Addr) (s : Shared) (Q : Unit → Shared → Prop) (E : Value → Shared → Prop), At j s.heap → Q () s → wpAny (model prog w) A (letOwnedTupleGo (.Tuple es k pos) (.ref it) (.ref T)) Q E s) :
    WalksU prog w A it (foot ++ (List.range n).map loc) [it] n (fun j xs => xs = held j) (fun j h => At j h ∧ ∀ m, m < n → h.IsTuple (loc m) (held m))
      (fun j T h => (j < n ∧ T = loc j) ∧ At (j + 1) h ∧ ∀ m, m < n → h.IsTuple (loc m) (held m)) := by
  have inFoot : ∀ m, m < n → loc m ∈ foot ++ (List.range n).map loc := fun m hm => List.mem_append.mpr (.inr (List.mem_map.mpr ⟨m, List.mem_range.mpr hm, rfl⟩))
  constructor
  case sub => exact fun b hb => List.mem_append.mpr (.inl (W.sub b hb))
  case frame =>
    intro j h h' ⟨a1, a2⟩ kept
    refine ⟨W.frame j h h' a1 fun b hb => kept b (List.mem_append.mpr (.inl hb)), fun m hm => ?_⟩
    obtain ⟨o, e, r⟩ := a2 m hm
    exact ⟨o, kept _ (inFoot m hm) o e, r⟩
  case item =>
    intro j s Q E hj ⟨a1, a2⟩ fin
    refine W.item j s Q E hj a1 fun v h' tk hv a1' kept => ?_
    have still : ∀ m, m < n → h'.IsTuple (loc m) (held m) := fun m hm => by
      obtain ⟨o, e, r⟩ := a2 m hm
      exact ⟨o, kept _ o (fun z => apt m hm (List.mem_singleton.mp z)) e, r⟩
    rw [isT j v hj hv]
    exact fin (loc j) (held j) h' tk rfl (still j hj) ⟨⟨hj, rfl⟩, a1', still⟩ kept
  case go =>
    intro es k pos j T s Q E hm fin
    exact letGo es k pos (j + 1) T s Q E hm.2.1 (fin s.heap hm.2 fun _ _ _ e => e)
  case apart =>
    intro j T h hm z
    rw [hm.1.2] at z
    exact apt j hm.1.1 (List.mem_singleton.mp z)
  case done => exact fun s Q E a fin => W.done s Q E a.1 fin
  case self => exact fun j s Q E a fin => W.self j s Q E a.1 fin

/-- the values vs are tuples that hold the pairs ps -/
def Prs (H : Hp) (vs : List V) (ps : List (Int × Int)) : Prop := vs.length = ps.length ∧ ∀ (i : Nat) p, ps[i]? = some p → ∃ a, vs[i]? = some (.ref a) ∧ H a = some (.tup [.int p.1, .int p.2])

/-- what is asked of the expression's own scope: the two names are its locals, its captured names are the def's -/
def OwnScope (env : Env) (sc : Scope) (xa xb : Str) : Prop :=
  (sc.kind = .function ∧ sc.isCoroutine = false ∧ xa ≠ xb) ∧ (sc.names.lookup (".0" : Str) = some .local ∧ sc.names.lookup xa = some .local ∧ sc.names.lookup xb = some .local) ∧
  (∀ y ∈ sc.names, y.2 ≠ NameKind.cell) ∧ ∀ y ∈ sc.names, y.2 = NameKind.free → ∃ c, env.cells.lookup y.1 = some c

section
variable {X : Cx} {s : Shared} {H : Hp} {σ : L2.St} {pins : List (Addr × Obj)}
/-- a tracked pair in the machine's heap -/
theorem pair_in {T : Addr} {p : Int × Int} (I : Inv X pins σ H s) (e : H T = some (.tup [.int p.1, .int p.2])) : ∃ ta tb, s.heap.IsTuple T #[.int p.1 ta, .int p.2 tb] := by
  obtain ⟨_, its, r, t⟩ := I.hok T _ e
  cases r with
  | cons q1 r =>
    cases r with
    | cons q2 r =>
      cases r
      obtain ⟨ta, rfl⟩ := q1
      obtain ⟨tb, rfl⟩ := q2
      exact ⟨ta, tb, t⟩
/-- the pairs by place: where they stand and what they hold -/
theorem pairs_in {vs : List V} {ps : List (Int × Int)} {its : List Value} (I : Inv X pins σ H s) (hp : Prs H vs ps) (r : Vals vs its) :
    ∃ (loc : Nat → Addr) (held : Nat → Array Value), ∀ j, j < ps.length → its[j]? = some (.ref (loc j)) ∧ s.heap.IsTuple (loc j) (held j) ∧ ∃ p ta tb, ps[j]? = some p ∧ held j = #[.int p.1 ta, .int p.2 tb] := by
  have one : ∀ j, ∃ (T : Addr) (xs : Array Value), j < ps.length → its[j]? = some (.ref T) ∧ s.heap.IsTuple T xs ∧ ∃ p ta tb, ps[j]? = some p ∧ xs = #[.int p.1 ta, .int p.2 tb] := fun j => by
    by_cases hj : j < ps.length
    · obtain ⟨T, e1, e2⟩ := hp.2 j ps[j] (List.getElem?_eq_getElem hj)
      obtain ⟨u, eu, ru⟩ := r.get e1
      cases ru
      obtain ⟨ta, tb, t⟩ := pair_in I e2
      exact ⟨T, _, fun _ => ⟨eu, t, ps[j], ta, tb, List.getElem?_eq_getElem hj, rfl⟩⟩
    · exact ⟨0, #[], fun z => absurd z hj⟩
  exact ⟨fun j => (one j).choose, fun j => (one j).choose_spec.choose, fun j hj => (one j).choose_spec.choose_spec hj⟩

/-- what a walk over the pairs is, begun at the new iterator that o is -/
def Begun (X : Cx) (s : Shared) (P : Addr) (ps : List (Int × Int)) (o : Obj) : Prop :=
  ∃ (foot : List Addr) (Hold : Nat → Array Value → Prop) (At : Nat → Heap → Prop) (Mid : Nat → Addr → Heap → Prop),
    (∀ A' : Around, A'.handled = none → WalksU X.prog X.w A' s.heap.objs.size foot [s.heap.objs.size] ps.length (fun j xs => j < ps.length ∧ Hold j xs) At Mid) ∧
    (∀ j xs, j < ps.length → Hold j xs → ∃ p ta tb, ps[j]? = some p ∧ xs = #[.int p.1 ta, .int p.2 tb]) ∧ At 0 (s.heap.push o) ∧ ∀ b ∈ foot, b < s.heap.objs.size + 1 ∧ b ≠ P
theorem begin_pairs {a P : Addr} {vs : List V} {ps : List (Int × Int)} {tb : Array Value} {Q' : Value → Shared → Prop} (I : Inv X pins σ H s) (hS : SqL X.K H a vs ∨ SqT X.K H a vs) (hp : Prs H vs ps) (hP : H P = some (.tbl tb))
    (fin : ∀ o, Begun X s P ps o → Q' (.ref s.heap.objs.size) { s with heap := s.heap.push o }) : wpAny (model X.prog X.w) X.A (pyIter (.ref a)) Q' X.xe s := by
  have hPo : s.heap.get? P = some { cls := .none, data := .fields tb } := I.hok P _ hP
  have notP : ∀ (b : Addr) (o : Obj) (xs : Array Value) (n : Nat), s.heap.get? b = some o → o.data = .seq xs n → b ≠ P := fun b o xs n e d z => by
    rw [z, hPo] at e
    rw [← Option.some.inj e] at d
    cases d
  have newP : s.heap.objs.size ≠ P := fun z => Nat.lt_irrefl _ (Nat.lt_of_lt_of_eq (Heap.lt_size hPo) z)
  -- from a walk over the items to the pairs
  have mk : ∀ (its : List Value) (o : Obj) (At : Nat → Heap → Prop), Vals vs its → a < s.heap.objs.size → a ≠ P → At 0 (s.heap.push o) →
      (∀ A' : Around, A'.handled = none → Walks X.prog X.w A' s.heap.objs.size [s.heap.objs.size, a] [s.heap.objs.size] its.toArray.size (fun i v => its.toArray[i]? = some v) At) →
      (∀ (A' : Around) (es : List Expr) (k : Nat) (pos : Pos) (j : Nat) (T : Addr) (s' : Shared) (Q : Unit → Shared → Prop) (E : Value → Shared → Prop), At j s'.heap → Q () s' → wpAny (model X.prog X.w) A' (letOwnedTupleGo (.Tuple es k pos) (.ref s.heap.objs.size) (.ref T)) Q E s') →
      Begun X s P ps o := by
    intro its o At r ha haP a0 W go
    obtain ⟨loc, held, hl⟩ := pairs_in I hp r
    have ln : its.toArray.size = ps.length := by rw [List.size_toArray, ← r.length, hp.1]
    have below : ∀ m, m < ps.length → loc m < s.heap.objs.size ∧ loc m ≠ P := fun m hm => by
      obtain ⟨_, ⟨ob, e, _, n, d⟩, _⟩ := hl m hm
      exact ⟨Heap.lt_size e, notP _ _ _ _ e d⟩
    refine ⟨_, _, _, _, fun A' hA => (asTuples (ln ▸ W A' hA) loc held (fun j v hj e => ?_) (fun j hj => Nat.ne_of_lt (below j hj).1) (fun es k pos j T s' Q E => go A' es k pos j T s' Q E)).bound, fun j xs hj e => ?_, ⟨a0, fun m hm => ?_⟩, fun b hb => ?_⟩
    · have e2 : its[j]? = some v := by simpa using e
      rw [(hl j hj).1] at e2
      exact (Option.some.inj e2).symm
    · obtain ⟨_, _, p, ta, tb', e1, e2⟩ := hl j hj
      exact ⟨p, ta, tb', e1, (show xs = held j from e).trans e2⟩
    · obtain ⟨_, ⟨ob, e, rest⟩, _⟩ := hl m hm
      exact ⟨ob, Heap.get?_push_of_some _ e, rest⟩
    · rcases List.mem_append.mp hb with z | z
      · rcases List.mem_cons.mp z with e | e
        · rw [e]; exact ⟨Nat.lt_succ_self _, newP⟩
        · rw [List.mem_singleton.mp e]; exact ⟨Nat.lt_succ_of_lt ha, haP⟩
      · obtain ⟨m, hm, e⟩ := List.mem_map.mp z
        obtain ⟨h1, h2⟩ := below m (List.mem_range.mp hm)
        rw [← e]; exact ⟨Nat.lt_succ_of_lt h1, h2⟩
  rcases hS with hS | hS
  · obtain ⟨its, r, hl, _⟩ := I.list hS
    obtain ⟨o, e, c, n, d⟩ := hl.isList
    refine wpAny_pyIter_list hl.isList (fin _ (mk its _ _ r (Heap.lt_size e) (notP _ _ _ _ e d) ⟨⟨_, Heap.get?_push_size _ rfl, rfl, rfl⟩, ⟨o, Heap.get?_push_of_some _ e, c, n, d⟩⟩ (fun A' hA => Walks.list hA _ a (Nat.ne_of_lt (Heap.lt_size e)) its.toArray) ?_))
    exact fun A' es k pos j T s' Q E at_ q => wpAny_letOwnedTupleGo_listiter at_.1 q
  · obtain ⟨its, r, ⟨o, e, c, n, d⟩, _⟩ := I.tuple hS
    refine wpAny_pyIter_tuple (items := its.toArray) ⟨o, e, c, n, d⟩ (fin _ (mk its _ _ r (Heap.lt_size e) (notP _ _ _ _ e d) ⟨⟨_, Heap.get?_push_size _ rfl, rfl, rfl⟩, ⟨o, Heap.get?_push_of_some _ e, c, n, d⟩⟩ (fun A' hA => Walks.tuple hA _ a (Nat.ne_of_lt (Heap.lt_size e)) its.toArray) ?_))
    exact fun A' es k pos j T s' Q E at_ q => letGo_tupleiter at_.1 q

/-- the expression's code object is made, or found: the table may grow, all else stands -/
theorem code_there {c P : Addr} {gpos : Pos} {qual : Str} {sc : Scope} {tb : Array Value} {Q' : Value → Shared → Prop} {E : Value → Shared → Prop} (hcode : X.env.code = .ref c) (C : PySem.W.CodeHd s.heap c P) (hP : s.heap.get? P = some { cls := .none, data := .fields tb }) (ok : TriplesOk tb.toList)
    (fin : ∀ (code : Value) (h' : Heap) (tk : Nat) (more : Array Value), Heap.ExtBut P s.heap h' → s.heap.objs.size ≤ h'.objs.size → h'.get? P = some { cls := .none, data := .fields (tb ++ more) } → TriplesOk (tb ++ more).toList → Q' code { s with heap := h', toks := tk }) :
    wpAny (model X.prog X.w) X.A (genexprCode X.env gpos qual sc) Q' E s := by
  cases found : codeAmong gpos tb.toList with
  | some old =>
    refine wpAny_genexprCode_hit hcode (C.code hP ok) found ?_
    have e : tb ++ #[] = tb := by simp
    exact fin old s.heap s.toks #[] (Heap.ExtBut.refl _ _) (Nat.le_refl _) (by rw [e]; exact hP) (by rw [e]; exact ok)
  | none =>
    refine wpAny_genexprCodeX hcode (C.code hP ok) (C.tab hP) found fun c' h' tk ext le lt isC _ tab _ => ?_
    obtain ⟨_, _, _, _, _, _, _, _, _, _, _, _, _, _, _, _, _, _, _, okT, _⟩ := isC
    exact fin _ h' tk _ ext (Nat.le_trans le (Nat.le_of_lt lt)) tab.2 okT

/-- the element at a pair of whole numbers: what it gives, wherever the expression runs later -/
def EltAt (X : Cx) (s₁ : Shared) (P : Addr) (sc : Scope) (xa xb : Str) (elt : Expr) (Gives : Int → Int → Value → Prop) : Prop :=
  ∀ (L : Addr) (code : Value) (A' : Around) (E' : Value → Shared → Prop) (a b : Int) (ta tb : Tok) (s₂ : Shared) (m : Str → Option Value), A'.handled = none →
    (∀ x o, x ≠ P → s₁.heap.get? x = some o → s₂.heap.get? x = some o) → s₂.heap.Ns L m → m xa = some (.int a ta) → m xb = some (.int b tb) →
    wpAny (model X.prog X.w) A' (eval elt (genEnv sc (cloFrom X.env.cells sc.names []) L code builtinsNs X.env)) (fun y s₃ => Gives a b y ∧ Keeps s₂ s₃) E' s₂

/-- the generator at g, in the state s₅, before its first item; H₁: what was held when it was made -/
def Fresh (X : Cx) (pins : List (Addr × Obj)) (σ : L2.St) (H₁ : Hp) (P : Addr) (ps : List (Int × Int)) (Gives : Int → Int → Value → Prop) (g : Addr) (s₅ : Shared) : Prop :=
  ∃ (foot writes : List Addr) (Gens : Array GenState → Array GenState → Prop) (Item : Nat → Value → Prop) (At : Nat → Shared → Prop),
    (WalksS X.prog X.w X.A.in1 g foot writes Gens ps.length Item At ∧ At 0 s₅ ∧ ∀ b ∈ foot, b < s₅.heap.objs.size) ∧
    (∀ j v, Item j v → ∃ p, ps[j]? = some p ∧ Gives p.1 p.2 v) ∧ ∀ s₆, Moved writes Gens s₅ s₆ → ∃ H₂, Tabbed P H₁ H₂ ∧ Inv X pins σ H₂ s₆

theorem gen_made {c P : Addr} {elt iter : Expr} {xa xb : Str} {pa pb pt gpos : Pos} {kt : Nat} {sc : Scope} {te : TE} {k : Nat} {Q' : Value → Shared → Prop} {Want : List (Int × Int) → Hp → Prop} {Gives : Int → Int → Value → Prop}
    (room : Room k X.A) (TB : TabB X.base X.mg c P) (hcode : X.env.code = .ref c) (own : OwnScope X.env sc xa xb) (walked : PE X iter te) (plain : ∀ v, genFold iter X.env v = pure v) (I : Inv X pins σ H s)
    (each : ∀ s₁ H₁, Inv X pins σ H₁ s₁ → TabG H₁ P → EltAt X s₁ P sc xa xb elt Gives)
    (h : te σ H fun v H₁ => ∃ (a : Addr) (vs : List V) (ps : List (Int × Int)), v = .ref a ∧ (SqL X.K H₁ a vs ∨ SqT X.K H₁ a vs) ∧ Prs H₁ vs ps ∧ TabG H₁ P ∧ Want ps H₁)
    (fin : ∀ ps H₁ g s₅, Want ps H₁ → Fresh X pins σ H₁ P ps Gives g s₅ → Q' (.ref g) s₅) :
    wpAny (model X.prog X.w) X.A (eval (.GeneratorExp elt [⟨.Tuple [.Name xa pa, .Name xb pb] kt pt, iter, [], 0⟩] sc gpos) X.env) Q' X.xe s := by
  obtain ⟨⟨o1, o2, o3⟩, ⟨o4, o5, o6⟩, o7, o8⟩ := own
  have deep : X.A.depth < recursionLimit := by have := room.dp; omega
  refine wpAny_GeneratorExp_walksQT room.hd o2 (closure_ok o8) o7 o4 o5 o6 o3 o1 deep (thn (walked.run pins s σ H _ I h) fun u s₁ had => ?_) plain
  obtain ⟨_, H₁, I₁, rel, a, vs, ps, rfl, hS, hp, ⟨tb, hP, ok⟩, want⟩ := had
  cases rel
  have tabAt : s₁.heap.get? P = some { cls := .none, data := .fields tb } := I₁.hok P _ hP
  refine begin_pairs I₁ hS hp hP fun o beg => ?_
  obtain ⟨foot, Hold, At, Mid, W, holds, at0, low⟩ := beg
  have statics : cStatics < s₁.heap.objs.size ∧ cStatics ≠ P := by
    obtain ⟨_, ns, _⟩ := I₁.nolimit
    refine ⟨ns.lt, fun z => ?_⟩
    obtain ⟨ob, _, _, e, d, _⟩ := ns
    rw [z, tabAt] at e
    rw [← Option.some.inj e] at d
    cases d
  have quiet : (s₁.heap.push o).NoLimit := I₁.nolimit.push o
  refine ⟨quiet, code_there hcode (TB.code.keeps fun b u e => Heap.get?_push_of_some _ (I₁.bk b u e)) (Heap.get?_push_of_some _ tabAt) ok fun code h₃ tk more ext le tab₃ ok₃ => ?_⟩
  rw [Heap.size_push] at le
  have stays : ∀ b u, b ≠ P → s₁.heap.get? b = some u → h₃.get? b = some u := fun b u hb e => ext b u hb (Heap.get?_push_of_some _ e)
  obtain ⟨bm, ob, f1, f2, f3, f4, f5, f6, f7, f8⟩ := TB.bm
  have globals : Heap.Ns h₃ X.env.globals X.mg := by
    rw [I₁.ok.glob]
    exact ((I₁.mod.glob.keeps I₁.bk).push o).extBut ext TB.gP
  refine wpAny_builtinsFor (m := X.mg) globals f1 f2 (stays bm ob f4 (I₁.bk bm ob f5)) f6 f7 f8 ?_
  have later : ∀ b u, s₁.heap.get? b = some u → b ∉ [h₃.objs.size, s₁.heap.objs.size] := fun b u e z => by
    have lt := Heap.lt_size e
    rcases List.mem_cons.mp z with z' | z'
    · exact Nat.lt_irrefl _ (Nat.lt_of_lt_of_le (z' ▸ lt) (Nat.le_of_succ_le le))
    · exact Nat.lt_irrefl _ (List.mem_singleton.mp z' ▸ lt)
  refine ⟨_, _, _, _, _, _, _, fun _ => true, fun i y => i < ps.length → ∃ p, ps[i]? = some p ∧ Gives p.1 p.2 y, rfl, W, fun i xs hx => ?_, ?_, fun b hb => Nat.lt_of_lt_of_le (low b hb).1 le, quiet.extBut ext statics.2, fun z => Nat.ne_of_lt statics.1 (List.mem_singleton.mp z), fun ref kept => ⟨?_, ?_⟩, ?_⟩
  · obtain ⟨p, ta, tb', _, e⟩ := holds i xs hx.1 hx.2
    exact ⟨_, _, e⟩
  · exact (W X.A room.hd).frame _ _ _ at0 fun b hb u e => ext b u (low b hb).2 e
  · intro A' E' i va vb s₂ m _ _ _ _ _ _
    rw [List.forIn_nil]
    exact wpAny_pure ⟨rfl, _, _, rfl, fun _ _ e => e⟩
  · intro A' E' i va vb s₂ m calm hx _ ns ea eb still
    obtain ⟨p, ta, tb', ep, e⟩ := holds i _ hx.1 hx.2
    have e1 : va = .int p.1 ta := by have z := congrArg (·[0]?) e; simpa using z
    have e2 : vb = .int p.2 tb' := by have z := congrArg (·[1]?) e; simpa using z
    subst e1 e2
    refine wpAny_mono (each s₁ H₁ I₁ ⟨tb, hP, ok⟩ _ code A' E' p.1 p.2 ta tb' s₂ m calm (fun b u hb q => ?_) ns ea eb) (fun y s₃ r => ⟨fun _ => ⟨p, ep, r.1⟩, r.2⟩) fun _ _ q => q
    have q3 := stays b u hb q
    exact still b (List.mem_range.mpr (Heap.lt_size q3)) (fun z => later b u q (List.mem_cons_of_mem _ z)) u (kept b u q3)
  · intro g h₅ tk₅ gs bare above size kept W₅ at₅
    rw [GxR.passing_true, List.length_range] at W₅
    have above' : h₃.objs.size < g := above
    have size' : h₅.objs.size = g + 1 := size
    refine fin ps H₁ g _ want ⟨_, _, _, _, _, ⟨W₅.in4_1, at₅, fun b hb => ?_⟩, fun j v it => ?_, fun s₆ mv => ?_⟩
    · show b < h₅.objs.size
      rw [size']
      rcases List.mem_cons.mp hb with eg | e
      · rw [eg]; exact Nat.lt_succ_self g
      · refine Nat.lt_succ_of_le (Nat.le_trans ?_ (Nat.le_of_lt above'))
        rcases List.mem_cons.mp e with e' | e'
        · rw [e']; exact Nat.le_refl _
        · exact Nat.le_of_lt (List.mem_range.mp e')
    · obtain ⟨i, ei, hg⟩ := it
      have lt : j < ps.length := by
        have z := (List.getElem?_eq_some_iff.mp ei).1
        rwa [List.length_range] at z
      rw [List.getElem?_range lt] at ei
      cases ei
      exact hg lt
    · have all : ∀ b u, b ≠ P → s₁.heap.get? b = some u → s₆.heap.get? b = some u := fun b u hb e => mv.heap b u (later b u e) (kept b u (stays b u hb e))
      have tab₆ := mv.heap P _ (later P _ tabAt) (kept P _ tab₃)
      have J := inv_tab (more := more) (d' := s₆.drawn) (t' := s₆.toks) I₁ hP all tab₆ (AllBare.movedS (I₁.bare.push bare) mv)
      rw [sh_eta s₁ s₆ mv.os] at J
      exact ⟨_, ⟨⟨tb ++ more, upd_same, ok₃⟩, fun b hb => upd_ne hb⟩, J⟩

/-- the sum of g over the pairs -/
def sumP (g : Int → Int → Int) (ps : List (Int × Int)) : Int := (ps.map fun p => g p.1 p.2).sum
theorem preSum_is (g : Int → Int → Int) (ps : List (Int × Int)) (val : Nat → Int) (h : ∀ i p, ps[i]? = some p → val i = g p.1 p.2) : ∀ n, n ≤ ps.length → preSum val n = sumP g (ps.take n)
  | 0, _ => rfl
  | n + 1, hn => by
    have e : ps[n]? = some ps[n] := List.getElem?_eq_getElem hn
    show preSum val n + val n = _
    rw [preSum_is g ps val h n (by omega), h n _ e]
    unfold sumP
    rw [List.take_add_one, e, List.map_append, List.sum_append]
    show _ = _ + (g ps[n].1 ps[n].2 + 0)
    rw [Int.add_zero]
/-- what the reading of sum(..), any(..) over pairs asks: what is captured (Cap), the pairs, the table; then the answer -/
def tOver {α : Type} (K : PySem.W.Frag) (P : Addr) (Cap : L2.St → α → Prop) (ans : α → List (Int × Int) → V) (te : TE) : TE := fun σ H Q => ∃ x : α, Cap σ x ∧ te σ H fun v H₁ => ∃ (a : Addr) (vs : List V) (ps : List (Int × Int)), v = .ref a ∧ (SqL K H₁ a vs ∨ SqT K H₁ a vs) ∧ Prs H₁ vs ps ∧ TabG H₁ P ∧
  ∀ H₂, Tabbed P H₁ H₂ → Q (ans x ps) H₂
/-- how a built-in takes a generator over pairs -/
def Takes2 (X : Cx) (name : String) (Gives : Int → Int → Value → Prop) (ans : List (Int × Int) → V) : Prop :=
  ∀ (pins : List (Addr × Obj)) (σ : L2.St) (P : Addr) (ps : List (Int × Int)) (H₁ : Hp) (gen : Addr) (s₅ : Shared) (Q : VK), Fresh X pins σ H₁ P ps Gives gen s₅ → (∀ H₂, Tabbed P H₁ H₂ → Q (ans ps) H₂) →
    wpAny (model X.prog X.w) X.A (call (.builtin name) [.ref gen]) (EP X pins σ Q) X.xe s₅
theorem pe_over {α : Type} {name : String} {x : Str} {c P : Addr} {elt iter : Expr} {xa xb : Str} {pa pb pt p pos gpos : Pos} {kt : Nat} {sc : Scope} {Cap : L2.St → α → Prop} {Gives : α → Int → Int → Value → Prop} {ans : α → List (Int × Int) → V} {te : TE} {k : Nat} (takes : ∀ y, Takes2 X name (Gives y) (ans y))
    (room : Room k X.A) (glob : Gl X x) (free : X.mg x = none) (bltn : bootBuiltins x = some (.builtin name)) (TB : TabB X.base X.mg c P) (hcode : X.env.code = .ref c) (own : OwnScope X.env sc xa xb) (walked : PE X iter te)
    (each : ∀ pins σ s₁ H₁ y, Inv X pins σ H₁ s₁ → TabG H₁ P → Cap σ y → EltAt X s₁ P sc xa xb elt (Gives y)) (plain : ∀ v, genFold iter X.env v = pure v) (n1 : x ≠ "__name__" := by decide) (n2 : (x == ("__debug__" : Str)) = false := by decide)
    (one : starEach [.GeneratorExp elt [⟨.Tuple [.Name xa pa, .Name xb pb] kt pt, iter, [], 0⟩] sc gpos] X.env = [(false, eval (.GeneratorExp elt [⟨.Tuple [.Name xa pa, .Name xb pb] kt pt, iter, [], 0⟩] sc gpos) X.env)] := by rfl) :
    PE X (.Call (.Name x p) [.GeneratorExp elt [⟨.Tuple [.Name xa pa, .Name xb pb] kt pt, iter, [], 0⟩] sc gpos] [] pos) (tOver X.K P Cap ans te) := by
  constructor
  intro pins s σ H Q I h
  obtain ⟨y, cap, h⟩ := h
  refine wpAny_Call_Name_kw (ld_blt I glob free bltn (callWith_builtin1 ?_ one (by rfl)) n1 n2)
  rw [one]
  refine Calls.spliced_cons (gen_made (Want := fun ps H₁ => ∀ H₂, Tabbed P H₁ H₂ → Q (ans y ps) H₂) (Gives := Gives y) room TB hcode own walked plain I (fun s₁ H₁ J g => each pins σ s₁ H₁ y J g cap) h fun ps H₁ gen s₅ want fresh => Calls.spliced_nil ?_)
  exact takes y pins σ P ps H₁ gen s₅ Q fresh want
theorem takes_sum (g : Int → Int → Int) : Takes2 X "sum" (fun a b y => ∃ t, y = .int (g a b) t) (fun ps => .int (sumP g ps)) := by
  intro pins σ P ps H₁ gen s₅ Q fresh want
  obtain ⟨foot, writes, Gens, Item, At, ⟨W, a0, low⟩, items, behind⟩ := fresh
  let val : Nat → Int := fun i => (ps[i]?.map fun p => g p.1 p.2).getD 0
  have hv : ∀ i p, ps[i]? = some p → val i = g p.1 p.2 := fun i p e => by show (ps[i]?.map _).getD 0 = _; rw [e]; rfl
  refine call_sum_walkAnyS (W.self 0 _ _ _ a0 ⟨gen, foot, writes, Gens, ps.length, Item, At, val, rfl, W, a0, low, fun i v it => ?_, fun s₆ t mv => ?_⟩)
  · obtain ⟨p, e, t, ev⟩ := items i v it
    exact ⟨t, by rw [hv i p e]; exact ev⟩
  · obtain ⟨H₂, tabbed, J⟩ := behind s₆ mv
    refine ⟨.int (preSum val ps.length), H₂, J, ⟨t, rfl⟩, ?_⟩
    rw [preSum_is g ps val hv ps.length (Nat.le_refl _), List.take_length]
    exact want H₂ tabbed
def anyP (g : Int → Int → Bool) (ps : List (Int × Int)) : Bool := ps.any fun p => g p.1 p.2
theorem any_is {α : Type} (ps : List α) (f : α → Bool) (tr : Nat → Bool) (h : ∀ i p, ps[i]? = some p → tr i = f p) : (List.range ps.length).any tr = ps.any f := by
  rw [Bool.eq_iff_iff, List.any_eq_true (l := List.range _), List.any_eq_true]
  constructor
  · rintro ⟨i, hi, e⟩
    have lt := List.mem_range.mp hi
    exact ⟨ps[i], List.getElem_mem lt, by rw [← h i _ (List.getElem?_eq_getElem lt)]; exact e⟩
  · rintro ⟨p, hp, e⟩
    obtain ⟨i, lt, rfl⟩ := List.getElem_of_mem hp
    exact ⟨i, List.mem_range.mpr lt, by rw [h i _ (List.getElem?_eq_getElem lt)]; exact e⟩
theorem takes_any (g : Int → Int → Bool) : Takes2 X "any" (fun a b y => y = .bool (g a b)) (fun ps => .bl (anyP g ps)) := by
  intro pins σ P ps H₁ gen s₅ Q fresh want
  obtain ⟨foot, writes, Gens, Item, At, ⟨W, a0, low⟩, items, behind⟩ := fresh
  let tr : Nat → Bool := fun i => (ps[i]?.map fun p => g p.1 p.2).getD false
  have ht : ∀ i p, ps[i]? = some p → tr i = g p.1 p.2 := fun i p e => by show (ps[i]?.map _).getD false = _; rw [e]; rfl
  refine call_any_walkS (W.self 0 _ _ _ a0 ⟨gen, foot, writes, Gens, ps.length, Item, At, tr, rfl, W, a0, fun i v s' Q' E' it q => ?_, fun s₆ mv => ?_⟩)
  · obtain ⟨p, e, rfl⟩ := items i v it
    rw [ht i p e] at q
    exact wpAny_truthy_bool q
  · obtain ⟨H₂, tabbed, J⟩ := behind s₆ mv
    refine ⟨.bl _, H₂, J, rfl, ?_⟩
    rw [any_is ps (fun p => g p.1 p.2) tr ht]
    exact want H₂ tabbed
/-- a whole number that the expression captures, as its cell has it -/
theorem captured {i : Nat} {y : Str} {n : Int} {P : Addr} (I : Inv X pins σ H s) (hN : X.N[i]? = some y) (hk : X.env.scope.names.lookup y = some .cell) (hv : σ[i]? = some (some (.int n))) (g : TabG H P) :
    ∃ c t, X.env.cells.lookup y = some c ∧ s.heap.IsCell c (some (.int n t)) ∧ c ≠ P := by
  obtain ⟨tb, hP, _⟩ := g
  obtain ⟨m, _, look⟩ := I.loc
  obtain ⟨u, ⟨t, rfl⟩, l⟩ := look i y _ hN hv (.inr (.inl hk))
  rcases l with ⟨z, _⟩ | ⟨_, c, e, o, ho, hd⟩
  · rw [show X.env.kindOf y = some .cell from hk] at z
    cases z
  · refine ⟨c, t, e, ⟨o, ho, hd⟩, fun z => ?_⟩
    rw [z, I.hok P _ hP] at ho
    rw [← Option.some.inj ho] at hd
    cases hd
/-- the names of the module and the built-in ones, where the expression runs -/
theorem names_in {P : Addr} {s₂ : Shared} (I : Inv X pins σ H s) (g : TabG H P) (gP : mainGlobals ≠ P) (kept : ∀ x o, x ≠ P → s.heap.get? x = some o → s₂.heap.get? x = some o) :
    s₂.heap.Ns mainGlobals X.mg ∧ ∃ mb, s₂.heap.Ns builtinsNs mb ∧ ∀ x : Str, x ≠ "__name__" → mb x = bootBuiltins x := by
  obtain ⟨tb, hP, _⟩ := g
  obtain ⟨mb, b1, b2⟩ := I.mod.blt
  have at_ : ∀ b m, b ≠ P → s.heap.Ns b m → s₂.heap.Ns b m := fun b m hb ⟨o, es, ep, ho, r⟩ => ⟨o, es, ep, kept b o hb ho, r⟩
  refine ⟨at_ _ _ gP (I.mod.glob.keeps I.bk), mb, at_ _ _ (fun z => ?_) (b1.keeps I.bk), b2⟩
  obtain ⟨o, es, ep, ho, hd, _⟩ := b1.keeps I.bk
  rw [z, I.hok P _ hP] at ho
  rw [← Option.some.inj ho] at hd
  cases hd
end
end GP

namespace TK
open PySem PySem.Spec PyProof.Rows L2 GP
def topS (i : Nat) : Stmt := PySem.Challenge.pw_tinrecall_k33_great_batches.main.body.getD i (.Pass ⟨0, 0, 0, 0⟩)

/-- the draws' state: its dict at d, its cells at c -/
structure StAt (H : Hp) (d c : Addr) (t : Int) : Prop where
  dict : H d = some (.dK [(.inr "cells", .ref c), (.inr "turn", .int t)])
  cells : ∃ cs : List Int, H c = some (.lst (cs.map V.int)) ∧ cs ≠ [] ∧ cs.length ≤ 63
  pos : 0 ≤ t
theorem StAt.ne {H : Hp} {d c : Addr} {t : Int} (h : StAt H d c t) : d ≠ c := by
  obtain ⟨cs, hc, _⟩ := h.cells
  exact ne_of h.dict hc (by intro z; cases z)
/-- all but the state is as it was -/
def Kp (d c : Addr) (H H' : Hp) : Prop := ∀ b o, b ≠ d → b ≠ c → H b = some o → H' b = some o
theorem Kp.refl (d c : Addr) (H : Hp) : Kp d c H H := fun _ _ _ _ h => h
theorem Kp.trans {d c : Addr} {H H1 H2 : Hp} (a : Kp d c H H1) (b : Kp d c H1 H2) : Kp d c H H2 := fun x o h1 h2 h => b x o h1 h2 (a x o h1 h2 h)

theorem ixN_of {n j : Nat} (h : j < n) : ixN n (j : Int) = some j := by
  unfold ixN
  rw [if_pos (Int.natCast_nonneg j), if_pos (by omega), Int.toNat_natCast]
def spTake : Sp := fun vs H Q _ => ∃ (d c : Addr) (t m : Int), vs = [.ref d, .int m] ∧ StAt H d c t ∧ t < 2 ^ 60 ∧ 0 < m ∧ m.natAbs < 2 ^ 250 ∧
  ∀ r H', 0 ≤ r → r < m → StAt H' d c (t + 1) → Kp d c H H' → Q (.int r) H'

theorem same_upd {H : Hp} {p : Addr} {o : HO} (h : H p = none) : Same H (upd H p o) := fun b x e => by
  rw [upd_ne (ne_of_none e h)]
  exact e
theorem cut_front (xs : List V) (m : Nat) : cutV xs none (some (m : Int)) = xs.take m := by
  unfold cutV
  rw [HT.sIx_none, HT.sIx_nat]
  show List.take (min m xs.length - 0) (xs.drop 0) = xs.take m
  rw [Nat.sub_zero, List.drop_zero]
  by_cases h : m ≤ xs.length
  · rw [Nat.min_eq_left h]
  · rw [Nat.min_eq_right (by omega), List.take_length, List.take_of_length_le (by omega)]
theorem dp_ints {K : PySem.W.Frag} {H : Hp} : ∀ ns : List Int, DpAll K H (ns.map V.int) (ns.map PyData.int)
  | [] => .nil
  | n :: r => .cons (.int n) (dp_ints r)
theorem lay_ints : ∀ ns : List Int, PyData.canLayAll0 (ns.map PyData.int) = true
  | [] => by simp only [List.map_nil, PyData.canLayAll0]
  | n :: r => by
    rw [List.map_cons, PyData.canLayAll0, lay_ints r]
    simp [PyData.canLay0]
theorem depth_ints : ∀ ns : List Int, PyData.depthAll (ns.map PyData.int) = 0
  | [] => by simp only [List.map_nil, PyData.depthAll]
  | n :: r => by
    rw [List.map_cons, PyData.depthAll, depth_ints r]
    simp [PyData.depth]
theorem shaped_ints (ns : List Int) : SeqAt.shaped (PyData.list (ns.map PyData.int)) = true := by
  unfold SeqAt.shaped
  rw [PyData.canLay0, lay_ints, PyData.depth, depth_ints]
  rfl
theorem eqv_nil (n : Int) (r : List Int) : PyData.eqv (PyData.list ((n :: r).map PyData.int)) (PyData.list []) = false := by
  simp [PyData.eqv, PyData.eqvAll]
theorem eqv_nil0 : PyData.eqv (PyData.list (([] : List Int).map PyData.int)) (PyData.list []) = true := by
  simp [PyData.eqv, PyData.eqvAll]

/-- a def of the text that keeps a promise, as its callers see it -/
def Cal (P : Program) (w : World) (K : PySem.W.Frag) (mg : Str → Option Value) (base : Heap) (k : Nat) (x : Str) (ps : List Str) (sp : Sp) : Prop :=
  ∃ f fd, FnOk P w K mg base CX0 k f fd ps sp ∧ mg x = some (.ref f) ∧ PySem.W.keepIn K (.ref f) = true ∧ Binds K fd ps []
theorem pe_own {X : Cx} {k : Nat} {x : Str} {ps : List Str} {sp : Sp} {e : Expr} {es : List Expr} {t : TA} {p pos : Pos} (C : Cal X.prog X.w X.K X.mg X.base k x ps sp) (hr : Room k X.A) (hg : Gl X x) (ha : PA X (e :: es) t)
    (dbg : (x == ("__debug__" : Str)) = false := by decide) (one : starEach (e :: es) X.env = (false, eval e X.env) :: starEach es X.env := by rfl) (star : (backTo pos (starEach es X.env)).any (·.1) = false := by rfl) :
    PE X (.Call (.Name x p) (e :: es) [] pos) (tCall sp [] E0 t) := by
  obtain ⟨f, fd, F, hm, hk, hb⟩ := C
  exact pe_call F hr hg hm hk hb .nil pass0 ha dbg one star
theorem StAt.same {H H' : Hp} {d c : Addr} {t : Int} (h : StAt H d c t) (s : Same H H') : StAt H' d c t :=
  ⟨s _ _ h.dict, let ⟨cs, e, r⟩ := h.cells; ⟨cs, s _ _ e, r⟩, h.pos⟩
theorem Kp.same {H H' : Hp} (d c : Addr) (s : Same H H') : Kp d c H H' := fun b o _ _ e => s b o e
/-- what is made behind the state stays -/
theorem Kp.at {H H' : Hp} {d c a : Addr} {t : Int} {o : HO} (k : Kp d c H H') (S : StAt H d c t) (e : H a = some o) (h1 : ∀ kvs, o ≠ .dK kvs) (h2 : ∀ ns : List Int, o ≠ .lst (ns.map V.int)) : H' a = some o := by
  obtain ⟨cs, ec, _⟩ := S.cells
  refine k a o (fun z => ?_) (fun z => ?_) e
  · rw [z, S.dict] at e
    exact h1 _ (Option.some.inj e).symm
  · rw [z, ec] at e
    exact h2 _ (Option.some.inj e).symm
theorem StAt.upd {H : Hp} {d c l : Addr} {t : Int} {o : HO} (S : StAt H d c t) (h1 : l ≠ d) (h2 : l ≠ c) : StAt (L2.upd H l o) d c t := by
  refine ⟨by rw [upd_ne h1.symm]; exact S.dict, ?_, S.pos⟩
  obtain ⟨cs, ec, r⟩ := S.cells
  exact ⟨cs, by rw [upd_ne h2.symm]; exact ec, r⟩

theorem _root_.GP.Prs.same {H H' : Hp} {vs : List V} {ps : List (Int × Int)} (h : Prs H vs ps) (s : Same H H') : Prs H' vs ps :=
  ⟨h.1, fun i p e => let ⟨a, e1, e2⟩ := h.2 i p e; ⟨a, e1, s _ _ e2⟩⟩
theorem _root_.GP.Prs.kp {H H' : Hp} {d c : Addr} {t : Int} {vs : List V} {ps : List (Int × Int)} (h : Prs H vs ps) (S : StAt H d c t) (k : Kp d c H H') : Prs H' vs ps :=
  ⟨h.1, fun i p e => let ⟨a, e1, e2⟩ := h.2 i p e; ⟨a, e1, k.at S e2 (fun _ z => nomatch z) (fun _ z => nomatch z)⟩⟩
theorem _root_.GP.Prs.upd_lst {H : Hp} {l : Addr} {xs : List V} {o : HO} {vs : List V} {ps : List (Int × Int)} (h : Prs H vs ps) (hl : H l = some (.lst xs)) : Prs (upd H l o) vs ps :=
  ⟨h.1, fun i p e => let ⟨a, e1, e2⟩ := h.2 i p e; ⟨a, e1, by rw [upd_ne (ne_of e2 hl (fun z => nomatch z))]; exact e2⟩⟩
theorem _root_.GP.Prs.nil {H : Hp} : Prs H [] [] := ⟨rfl, fun i p e => by simp at e⟩
theorem _root_.GP.Prs.snoc {H : Hp} {a : Addr} {x y : Int} {vs : List V} {ps : List (Int × Int)} (h : Prs H vs ps) (e : H a = some (.tup [.int x, .int y])) : Prs H (vs ++ [.ref a]) (ps ++ [(x, y)]) := by
  refine ⟨by simp [h.1], fun i p ep => ?_⟩
  by_cases hi : i < ps.length
  · rw [List.getElem?_append_left hi] at ep
    obtain ⟨b, e1, e2⟩ := h.2 i p ep
    exact ⟨b, by rw [List.getElem?_append_left (by rw [h.1]; exact hi)]; exact e1, e2⟩
  · rw [List.getElem?_append_right (by omega)] at ep
    have hz : i - ps.length = 0 := by
      cases hq : i - ps.length with
      | zero => rfl
      | succ n => rw [hq] at ep; simp at ep
    rw [hz] at ep
    have ep' : (x, y) = p := by simpa using ep
    subst ep'
    refine ⟨a, ?_, e⟩
    rw [List.getElem?_append_right (by rw [h.1]; omega), h.1, hz]
    rfl
/-- rising stretches with gaps, from lo on -/
def Ris : Int → List (Int × Int) → Prop
  | _, [] => True
  | lo, p :: r => lo ≤ p.1 ∧ p.1 ≤ p.2 ∧ Ris (p.2 + 2) r
theorem Ris.snoc : ∀ {lo : Int} {ps : List (Int × Int)} {a b : Int}, Ris lo ps → lo ≤ a → (∀ p ∈ ps, p.2 + 2 ≤ a) → a ≤ b → Ris lo (ps ++ [(a, b)])
  | lo, [], a, b, _, h1, _, h3 => ⟨h1, h3, True.intro⟩
  | lo, p :: r, a, b, h, h1, h2, h3 => ⟨h.1, h.2.1, Ris.snoc h.2.2 (h2 p (List.mem_cons_self ..)) (fun q hq => h2 q (List.mem_cons_of_mem _ hq)) h3⟩
theorem pick2 {x y r : Int} (Pv : Int → Prop) (h0 : 0 ≤ r) (h1 : r < 2) (hx : Pv x) (hy : Pv y) : ∃ v, Pv v ∧ atI [V.int x, V.int y] r = some (.int v) := by
  have : r = 0 ∨ r = 1 := by omega
  rcases this with rfl | rfl
  · exact ⟨x, hx, rfl⟩
  · exact ⟨y, hy, rfl⟩
theorem pick3 {x y z r : Int} (Pv : Int → Prop) (h0 : 0 ≤ r) (h1 : r < 3) (hx : Pv x) (hy : Pv y) (hz : Pv z) : ∃ v, Pv v ∧ atI [V.int x, V.int y, V.int z] r = some (.int v) := by
  have : r = 0 ∨ r = 1 ∨ r = 2 := by omega
  rcases this with rfl | rfl | rfl
  · exact ⟨x, hx, rfl⟩
  · exact ⟨y, hy, rfl⟩
  · exact ⟨z, hz, rfl⟩
/-- a new object stands through the state's change -/
theorem Kp.new {H H' : Hp} {d c l : Addr} {t : Int} {o : HO} (k : Kp d c (upd H l o) H') (S : StAt H d c t) (n : H l = none) : H' l = some o := by
  obtain ⟨cs, ec, _⟩ := S.cells
  exact k l o (ne_of_none S.dict n).symm (ne_of_none ec n).symm upd_same
theorem drop_at {α : Type} {l : List α} {i : Nat} {x : α} (h : l[i]? = some x) : l.drop i = x :: l.drop (i + 1) := by
  obtain ⟨lt, e⟩ := List.getElem?_eq_some_iff.mp h
  rw [← e]
  exact List.drop_eq_getElem_cons lt
theorem prs_at {H : Hp} {vs : List V} {ps : List (Int × Int)} {i : Nat} {x : V} (h : Prs H vs ps) (e : vs[i]? = some x) : ∃ (p : Int × Int) (a : Addr), ps[i]? = some p ∧ x = .ref a ∧ H a = some (.tup [.int p.1, .int p.2]) := by
  obtain ⟨hi, _⟩ := List.getElem?_eq_some_iff.mp e
  have hi2 : i < ps.length := by rw [← h.1]; exact hi
  obtain ⟨a, e1, e2⟩ := h.2 i ps[i] (List.getElem?_eq_getElem hi2)
  rw [e] at e1
  exact ⟨ps[i], a, List.getElem?_eq_getElem hi2, Option.some.inj e1, e2⟩

theorem sumP_append (g : Int → Int → Int) (ps qs : List (Int × Int)) : sumP g (ps ++ qs) = sumP g ps + sumP g qs := by
  unfold sumP
  rw [List.map_append, List.sum_append]
def inB (n a b : Int) : Bool := decide (a ≤ n) && decide (n ≤ b)
theorem Ris.le : ∀ {lo : Int} {ps : List (Int × Int)}, Ris lo ps → ∀ p ∈ ps, lo ≤ p.1 ∧ p.1 ≤ p.2
  | _, [], _, _, hp => nomatch hp
  | lo, q :: r, h, p, hp => by
    rcases List.mem_cons.mp hp with e | e'
    · rw [e]; exact ⟨h.1, h.2.1⟩
    · have := Ris.le h.2.2 p e'
      have := h.2.1
      have := h.1
      omega

/-! ### walks over a list or a tuple -/
def Sq (K : PySem.W.Frag) (H : Hp) (a : Addr) (xs : List V) : Prop := SqL K H a xs ∨ SqT K H a xs
def iSeq (K : PySem.W.Frag) (tl : TE) : TI := fun σ H R => tl σ H fun x H1 => ∃ a, x = .ref a ∧ (((∃ xs, SqL K H1 a xs) ∧ R (Itl K a) H1) ∨ ((∃ xs, SqT K H1 a xs) ∧ R (Itt K a) H1))
/-- the iterator that was just laid is no one's -/
theorem lone {X : Cx} {pins : List (Addr × Obj)} {σ : L2.St} {H : Hp} {s : Shared} (I : Inv X pins σ H s) : ∀ b ∈ [s.heap.objs.size], FpOk X pins H b := fun b hb => by
  rw [List.mem_singleton.mp hb]
  exact I.fpOk (H' := H) (Nat.le_refl _) (I.hok.fresh (Nat.le_refl _))
theorem pi_seq {X : Cx} {tg l : Expr} {tl : TE} (walked : PE X l tl) : PI X tg l (iSeq X.K tl) := by
  constructor
  intro pins s σ H R I h
  refine thn (walked.run pins s σ H _ I h) fun u s1 had => ?_
  obtain ⟨_, H1, J, rel, a, rfl, had⟩ := had
  cases rel
  have laid : ∀ o, Inv X pins σ H1 { s1 with heap := s1.heap.push o } := fun o => J.kept (t' := s1.toks) fun _ _ e => Heap.get?_push_of_some _ e
  rcases had with ⟨⟨xs, hq⟩, q⟩ | ⟨⟨xs, hq⟩, q⟩
  · obtain ⟨its, _, isL, _⟩ := J.list hq
    exact wpAny_pyIter_list isL.isList ⟨_, _, _, _, H1, rfl, laid _, turn_list a _, ⟨_, Heap.get?_push_size _ rfl, rfl, rfl⟩, lone J, q⟩
  · obtain ⟨its, _, isT, _⟩ := J.tuple hq
    exact wpAny_pyIter_tuple (items := its.toArray) isT ⟨_, _, _, _, H1, rfl, laid _, turn_tuple a _, ⟨_, Heap.get?_push_size _ rfl, rfl, rfl⟩, lone J, q⟩
/-- the walked thing stands as it stood -/
def SqTo (K : PySem.W.Frag) (H H' : Hp) (a : Addr) (xs : List V) : Prop := (SqL K H a xs → SqL K H' a xs) ∧ (SqT K H a xs → SqT K H' a xs)
theorem SqTo.refl {K : PySem.W.Frag} {H : Hp} {a : Addr} {xs : List V} : SqTo K H H a xs := ⟨fun h => h, fun h => h⟩
theorem same_t {K : PySem.W.Frag} {H H' : Hp} {a : Addr} {xs : List V} (s : Same H H') (h : SqT K H a xs) : SqT K H' a xs :=
  h.elim (fun r => .inl (r.elim (fun e => .inl (s a _ e)) fun ⟨o, e⟩ => .inr ⟨o, s a _ e⟩)) .inr
theorem SqTo.same {K : PySem.W.Frag} {H H' : Hp} {a : Addr} {xs : List V} (s : Same H H') : SqTo K H H' a xs := ⟨s.seq, same_t s⟩
theorem Sq.same {K : PySem.W.Frag} {H H' : Hp} {a : Addr} {xs : List V} (h : Sq K H a xs) (s : Same H H') : Sq K H' a xs := h.elim (fun h => .inl (s.seq h)) fun h => .inr (same_t s h)
theorem Sq.list {K : PySem.W.Frag} {H : Hp} {a : Addr} {xs : List V} (h : H a = some (.lst xs)) : Sq K H a xs := .inl (SqL.of h)
theorem Sq.tup {K : PySem.W.Frag} {H : Hp} {a : Addr} {xs : List V} (h : H a = some (.tup xs)) : Sq K H a xs := .inr (.inl (.inl h))
abbrev ForR (J : It) (g : TG) (tb : TS) (D : Ends) (σ : L2.St) (H1 : Hp) : Prop := ∃ W : Nat → Nat → L2.St → Hp → Prop, (∃ m, W 0 m σ H1) ∧ ∀ i m σ H, W i m σ H →
  (J.stop i H ∧ D.nx σ H) ∨ (J.go i H ∧ ∃ N : L2.St → Hp → Prop, (∀ σ' H', N σ' H' → ∃ m', m' < m ∧ W (i + 1) m' σ' H') ∧ ∀ x H', J.yld i H x H' → g x σ H' fun σ2 H2 => tb { D with nx := N, ct := N, bk := D.nx } σ2 H2)
theorem for_seq {K : PySem.W.Frag} {a : Addr} {xs : List V} {g : TG} {tb : TS} {D : Ends} {σ : L2.St} {H1 : Hp} (hq : Sq K H1 a xs) (Pv : Nat → L2.St → Hp → Prop) (h0 : Pv 0 σ H1)
    (hl : ∀ i σ H', i ≤ xs.length → Pv i σ H' → SqTo K H1 H' a xs)
    (turn : ∀ i x σ H, xs[i]? = some x → Pv i σ H → g x σ H fun σ2 H2 => tb { D with nx := Pv (i + 1), ct := Pv (i + 1), bk := D.nx } σ2 H2) (fin : ∀ σ H, Pv xs.length σ H → D.nx σ H) :
    ((∃ xs, SqL K H1 a xs) ∧ ForR (Itl K a) g tb D σ H1) ∨ ((∃ xs, SqT K H1 a xs) ∧ ForR (Itt K a) g tb D σ H1) := by
  rcases hq with h | h
  · exact .inl ⟨⟨xs, h⟩, for_list (xs := xs) Pv h0 (fun i σ H' hi p => (hl i σ H' hi p).1 h) turn fin⟩
  · exact .inr ⟨⟨xs, h⟩, for_tup (xs := xs) Pv h0 (fun i σ H' hi p => (hl i σ H' hi p).2 h) turn fin⟩

/-! ### pairs as data -/
def pairD (p : Int × Int) : PyData := .tuple [.int p.1, .int p.2]
theorem dp_prs {K : PySem.W.Frag} {H : Hp} : ∀ {us : List V} {ps : List (Int × Int)}, Prs H us ps → DpAll K H us (ps.map pairD)
  | [], [], _ => .nil
  | [], _ :: _, h => nomatch h.1
  | _ :: _, [], h => nomatch h.1
  | u :: us, p :: ps, h => by
    obtain ⟨a, e1, e2⟩ := h.2 0 p rfl
    have eu : u = .ref a := Option.some.inj e1
    subst eu
    refine .cons (.tup (.inl (.inl e2)) (.cons (.int _) (.cons (.int _) .nil))) (dp_prs ⟨Nat.succ.inj h.1, fun i q e => ?_⟩)
    obtain ⟨b, f1, f2⟩ := h.2 (i + 1) q e
    exact ⟨b, f1, f2⟩
theorem lay_prs : ∀ ps : List (Int × Int), PyData.canLayAll0 (ps.map pairD) = true
  | [] => by simp only [List.map_nil, PyData.canLayAll0]
  | p :: r => by
    rw [List.map_cons, PyData.canLayAll0, lay_prs r]
    simp [pairD, PyData.canLay0, PyData.canLayAll0]
theorem depth_prs : ∀ ps : List (Int × Int), PyData.depthAll (ps.map pairD) ≤ 1
  | [] => by simp only [List.map_nil, PyData.depthAll]; omega
  | p :: r => by
    rw [List.map_cons, PyData.depthAll]  -- a pair, then the rest
    have := depth_prs r
    simp [pairD, PyData.depth, PyData.depthAll]
    omega
theorem shaped_prs (ps : List (Int × Int)) : SeqAt.shaped (PyData.list (ps.map pairD)) = true := by
  unfold SeqAt.shaped
  rw [PyData.canLay0, lay_prs, PyData.depth, Bool.true_and]
  exact decide_eq_true (by have := depth_prs ps; omega)
theorem eqv_prs (ps : List (Int × Int)) : PyData.eqv (PyData.list (ps.map pairD)) (PyData.list (ps.map pairD)) = true := SeqAt.eqv_refl _ (by rw [PyData.canLay0]; exact lay_prs ps)
theorem tabG_tabbed {Pt Pu : Addr} {H H2 : Hp} (g : GxR.TabG H Pu) (x : GxR.Tabbed Pt H H2) : GxR.TabG H2 Pu := by
  by_cases e : Pu = Pt
  · rw [e]; exact x.1
  · obtain ⟨ps, h, r⟩ := g
    exact ⟨ps, by rw [x.2 _ e]; exact h, r⟩

theorem Kp.free {H H' : Hp} {d c l : Addr} {t' : Int} (k : Kp d c H H') (S' : StAt H' d c t') (n : H' l = none) : H l = none := by
  cases e : H l with
  | none => rfl
  | some o =>
    obtain ⟨cs1, ec1, _⟩ := S'.cells
    have z := k l o (ne_of_none S'.dict n).symm (ne_of_none ec1 n).symm e
    rw [n] at z
    cases z
theorem StAt.off {H : Hp} {d c l : Addr} {t : Int} (S : StAt H d c t) (n : H l = none) : l ≠ d ∧ l ≠ c := by
  obtain ⟨cs1, ec1, _⟩ := S.cells
  exact ⟨(ne_of_none S.dict n).symm, (ne_of_none ec1 n).symm⟩
/-- no whole number among these: so it's not the draws' cells -/
def NoInt (xs : List V) : Prop := ∀ x ∈ xs, ∀ i, x ≠ .int i
theorem Kp.lst {H H' : Hp} {d c a : Addr} {t : Int} {xs : List V} (k : Kp d c H H') (S : StAt H d c t) (e : H a = some (.lst xs)) (h : NoInt xs) : H' a = some (.lst xs) := by
  obtain ⟨cs, ec, hne, _⟩ := S.cells
  refine k a _ (fun z => ?_) (fun z => ?_) e
  · rw [z, S.dict] at e
    cases e
  · rw [z, ec] at e
    have e' : cs.map V.int = xs := HO.lst.inj (Option.some.inj e)
    cases cs with
    | nil => exact hne rfl
    | cons n r => exact h (.int n) (e' ▸ List.mem_cons_self ..) n rfl
theorem Kp.tup {H H' : Hp} {d c a : Addr} {t : Int} {xs : List V} (k : Kp d c H H') (S : StAt H d c t) (e : H a = some (.tup xs)) : H' a = some (.tup xs) := k.at S e (fun _ z => nomatch z) (fun _ z => nomatch z)
theorem noInt_strs (xs : List Str) : NoInt (xs.map V.str) := fun x hx i e => by
  obtain ⟨y, _, rfl⟩ := List.mem_map.mp hx
  cases e
theorem noInt_prs {H : Hp} {us : List V} {ps : List (Int × Int)} (h : Prs H us ps) : NoInt us := fun x hx i e => by
  obtain ⟨j, hj, e1⟩ := List.getElem_of_mem hx
  obtain ⟨p, a, _, rfl, _⟩ := prs_at h (by rw [List.getElem?_eq_getElem hj, e1])
  cases e

/-- a text of one sign -/
def sgS (c : Nat) : Str := ⟨#[c]⟩
def sgn (c : Nat) : V := .str (sgS c)
def spNames : Sp := fun vs H Q _ => ∃ (d c : Addr) (t m : Int), vs = [.ref d, .int m] ∧ StAt H d c t ∧ t + 100 < 2 ^ 60 ∧ 0 ≤ m ∧ m ≤ 20 ∧
  ∀ (l : Addr) (xs : List Str) (t' : Int) H', H l = none → H' l = some (.lst (xs.map V.str)) → (∀ x ∈ xs, PyData.strOk x = true) → (xs.length : Int) = m → xs.Nodup → t ≤ t' → t' ≤ t + 20 → StAt H' d c t' → Kp d c H H' → Q (.ref l) H'
theorem join_small {cs : List Nat} (h : cs.length ≤ 10) : ((cs.map sgS).map (·.length)).sum + (cs.map sgS).length * ("" : Str).length ≤ 16777216 := by
  have e : ((cs.map sgS).map (·.length)).sum = cs.length := by
    induction cs with
    | nil => rfl
    | cons c r ih =>
      rw [List.map_cons, List.map_cons, List.sum_cons, ih (by rw [List.length_cons] at h; omega), List.length_cons]
      show 1 + r.length = r.length + 1
      omega
  rw [e, show ("" : Str).length = 0 from rfl, Nat.mul_zero]
  omega
theorem joinL_ones : ∀ cs : List Nat, TL.joinL [] (cs.map fun c => [c]) = cs
  | [] => rfl
  | [_] => rfl
  | c :: c2 :: r => by
    have ih := joinL_ones (c2 :: r)
    show [c] ++ ([] ++ TL.joinL [] ((c2 :: r).map fun c => [c])) = _
    rw [ih]
    rfl
theorem join_ok {cs : List Nat} (h : ∀ c ∈ cs, c < 1114112) : PyData.strOk (Txt.join "" (cs.map sgS)) = true := by
  have e : Txt.join "" (cs.map sgS) = SX.S cs := by
    have z := SX.join_S [] (cs.map fun c => [c])
    rw [joinL_ones, List.map_map] at z
    exact z
  rw [e]
  show (Array.all _ _) = true
  rw [Array.all_eq_true']
  intro c hc
  exact decide_eq_true (h c (by simpa using hc))
/-- words that are unlike at one sign -/
def Spelt (abc : Str) (N fi sv : Int) (js : Nat) (xs : List Str) : Prop := ∀ (k : Nat) x, xs[k]? = some x → ∃ (cs : List Nat) (ch : Nat), x = SX.S cs ∧ cs[js]? = some ch ∧ atI abc.cps.toList ((fi + sv * (k : Int)) % N) = some ch
theorem join_eq (cs : List Nat) : Txt.join "" (cs.map sgS) = SX.S cs := by
  have z := SX.join_S [] (cs.map fun c => [c])
  rw [joinL_ones, List.map_map] at z
  exact z
theorem Spelt.snoc {abc : Str} {N fi sv : Int} {js i : Nat} {xs : List Str} {cs : List Nat} {ch : Nat} (h : Spelt abc N fi sv js xs) (hl : xs.length = i) (e1 : cs[js]? = some ch) (e2 : atI abc.cps.toList ((fi + sv * (i : Int)) % N) = some ch) : Spelt abc N fi sv js (xs ++ [Txt.join "" (cs.map sgS)]) := fun k x e => by
  by_cases hk : k < xs.length
  · rw [List.getElem?_append_left hk] at e
    exact h k x e
  · rw [List.getElem?_append_right (by omega)] at e
    have hz : k - xs.length = 0 := by
      cases hq : k - xs.length with
      | zero => rfl
      | succ n => rw [hq] at e; cases e
    rw [hz] at e
    cases e
    have hki : k = i := by omega
    subst hki
    exact ⟨cs, ch, join_eq cs, e1, e2⟩
theorem Spelt.nodup {abc : Str} {N fi sv : Int} {js : Nat} {xs : List Str} (h : Spelt abc N fi sv js xs) (hN : 0 < N) (hl : (abc.cps.toList.length : Int) = N) (hn : abc.cps.toList.Nodup) (far : ∀ k k' : Nat, k < xs.length → k' < xs.length → (fi + sv * (k : Int)) % N = (fi + sv * (k' : Int)) % N → k = k') : xs.Nodup := by
  refine List.pairwise_iff_getElem.mpr fun i j hi hj hij ex => ?_
  obtain ⟨cs1, c1, e1, f1, g1⟩ := h i xs[i] (List.getElem?_eq_getElem hi)
  obtain ⟨cs2, c2, e2, f2, g2⟩ := h j xs[j] (List.getElem?_eq_getElem hj)
  rw [e1, e2] at ex
  have ec : cs1 = cs2 := SX.S_inj ex
  rw [ec, f2] at f1
  have ecc : c2 = c1 := Option.some.inj f1
  rw [← ecc] at g1
  obtain ⟨a, ha⟩ := Int.eq_ofNat_of_zero_le (Int.emod_nonneg (fi + sv * (i : Int)) (show N ≠ 0 by omega))
  obtain ⟨b, hb⟩ := Int.eq_ofNat_of_zero_le (Int.emod_nonneg (fi + sv * (j : Int)) (show N ≠ 0 by omega))
  have la := Int.emod_lt_of_pos (fi + sv * (i : Int)) hN
  have lb := Int.emod_lt_of_pos (fi + sv * (j : Int)) hN
  rw [ha] at g1 la
  rw [hb] at g2 lb
  have a1 : a < abc.cps.toList.length := by omega
  have b1 : b < abc.cps.toList.length := by omega
  have g1' : abc.cps.toList[a]? = some c2 := by
    have z := atI_nat (List.getElem?_eq_getElem a1)
    rw [z] at g1
    rw [List.getElem?_eq_getElem a1]
    exact g1
  have g2' : abc.cps.toList[b]? = some c2 := by
    have z := atI_nat (List.getElem?_eq_getElem b1)
    rw [z] at g2
    rw [List.getElem?_eq_getElem b1]
    exact g2
  have eab : a = b := (List.getElem?_inj a1 hn).mp (g1'.trans g2'.symm)
  have := far i j (by omega) hj (by rw [ha, hb, eab])
  omega
/-! ### _law_names -/

theorem snoc_cases {α : Type} (l : List α) : l = [] ∨ ∃ l' x, l = l' ++ [x] := by
  rcases List.eq_nil_or_concat l with h | ⟨l', x, h⟩
  · exact .inl h
  · exact .inr ⟨l', x, by rw [h]; simp⟩
theorem _root_.GP.Prs.last {H : Hp} {us : List V} {ps : List (Int × Int)} {p : Int × Int} (h : Prs H us (ps ++ [p])) : ∃ us' T, us = us' ++ [.ref T] ∧ H T = some (.tup [.int p.1, .int p.2]) ∧ Prs H us' ps := by
  have hl := h.1
  rw [List.length_append] at hl
  rcases snoc_cases us with e | ⟨us', x, e⟩
  · rw [e] at hl
    simp at hl
  · subst e
    rw [List.length_append] at hl
    have hl' : us'.length = ps.length := Nat.add_right_cancel hl
    obtain ⟨T, e1, e2⟩ := h.2 ps.length p (by rw [List.getElem?_append_right (Nat.le_refl _), Nat.sub_self]; rfl)
    rw [List.getElem?_append_right (by omega), hl', Nat.sub_self] at e1
    refine ⟨us', T, by rw [Option.some.inj e1], e2, hl', fun i q eq => ?_⟩
    have hi : i < ps.length := (List.getElem?_eq_some_iff.mp eq).1
    obtain ⟨b, f1, f2⟩ := h.2 i q (by rw [List.getElem?_append_left hi]; exact eq)
    rw [List.getElem?_append_left (by omega)] at f1
    exact ⟨b, f1, f2⟩
theorem eqv_pr_nil (ps : List (Int × Int)) : PyData.eqv (PyData.list (ps.map pairD)) (PyData.list []) = ps.isEmpty := by
  cases ps with
  | nil => simp [PyData.eqv, PyData.eqvAll]
  | cons p r => simp [PyData.eqv, PyData.eqvAll]
def rIxS (K : PySem.W.Frag) : R2 := fun x y H Q => ∃ p xs i v, x = .ref p ∧ y = .int i ∧ Sq K H p xs ∧ atI xs i = some v ∧ Q v H
theorem ix_seq {X : Cx} : IxR X (rIxS X.K) := by
  intro value slice pins s σ H x y v u Q I rx ry h hs
  obtain ⟨p, xs, i, z, e1, e2, hq, he, q⟩ := h
  rcases hq with hq | hq
  · exact ix_list value slice pins s σ H x y v u Q I rx ry ⟨p, xs, i, z, e1, e2, hq, he, q⟩ hs
  · exact ix_tup value slice pins s σ H x y v u Q I rx ry ⟨p, xs, i, z, e1, e2, hq, he, q⟩ hs

/-! ### the table of the def that holds the generator expression -/
theorem tab_at {Pt : Addr} {H H2 : Hp} {b : Addr} {o : HO} (g : GxR.TabG H Pt) (t : GxR.Tabbed Pt H H2) (e : H b = some o) (h : ∀ q, o ≠ .tbl q) : H2 b = some o := by
  obtain ⟨ps, hP, _⟩ := g
  rw [t.2 b (ne_of e hP (h ps))]
  exact e
theorem StAt.tab {Pt : Addr} {H H2 : Hp} {d c : Addr} {t : Int} (S : StAt H d c t) (g : GxR.TabG H Pt) (x : GxR.Tabbed Pt H H2) : StAt H2 d c t :=
  ⟨tab_at g x S.dict (fun _ z => nomatch z), let ⟨cs, e, r⟩ := S.cells; ⟨cs, tab_at g x e (fun _ z => nomatch z), r⟩, S.pos⟩
theorem _root_.GP.Prs.tab {Pt : Addr} {H H2 : Hp} {vs : List V} {ps : List (Int × Int)} (h : Prs H vs ps) (g : GxR.TabG H Pt) (x : GxR.Tabbed Pt H H2) : Prs H2 vs ps :=
  ⟨h.1, fun i p e => let ⟨a, e1, e2⟩ := h.2 i p e; ⟨a, e1, tab_at g x e2 (fun _ z => nomatch z)⟩⟩
theorem tabG_same {Pt : Addr} {H H' : Hp} (g : GxR.TabG H Pt) (s : Same H H') : GxR.TabG H' Pt := let ⟨ps, e, r⟩ := g; ⟨ps, s _ _ e, r⟩
theorem tabG_kp {Pt : Addr} {H H' : Hp} {d c : Addr} {t : Int} (g : GxR.TabG H Pt) (S : StAt H d c t) (k : Kp d c H H') : GxR.TabG H' Pt := let ⟨ps, e, r⟩ := g; ⟨ps, k.at S e (fun _ z => nomatch z) (fun _ z => nomatch z), r⟩
theorem tabG_upd {Pt : Addr} {H : Hp} {l : Addr} {o u : HO} (g : GxR.TabG H Pt) (e : H l = some o) (h : ∀ q, o ≠ .tbl q) : GxR.TabG (upd H l u) Pt := let ⟨ps, eP, r⟩ := g; ⟨ps, by rw [upd_ne (ne_of e eP (h ps)).symm]; exact eP, r⟩
theorem tabbed_free {Pt : Addr} {H H2 : Hp} {p : Addr} (g : GxR.TabG H Pt) (x : GxR.Tabbed Pt H H2) (h : H2 p = none) : H p = none := by
  obtain ⟨ps, e, _⟩ := x.1
  rw [← x.2 p (fun z => by rw [z, e] at h; cases h)]
  exact h

/-- a walk over what stood before a list was begun -/
theorem for_seqS {K : PySem.W.Frag} {a : Addr} {xs : List V} {g : TG} {tb : TS} {D : Ends} {σ : L2.St} {H0 H1 : Hp} (hq : Sq K H0 a xs) (s1 : Same H0 H1) (Pv : Nat → L2.St → Hp → Prop) (h0 : Pv 0 σ H1)
    (hl : ∀ i σ H', Pv i σ H' → Same H0 H')
    (turn : ∀ i x σ H, xs[i]? = some x → Pv i σ H → g x σ H fun σ2 H2 => tb { D with nx := Pv (i + 1), ct := Pv (i + 1), bk := D.nx } σ2 H2) (fin : ∀ σ H, Pv xs.length σ H → D.nx σ H) :
    ((∃ xs, SqL K H1 a xs) ∧ ForR (Itl K a) g tb D σ H1) ∨ ((∃ xs, SqT K H1 a xs) ∧ ForR (Itt K a) g tb D σ H1) := by
  rcases hq with h | h
  · exact .inl ⟨⟨xs, s1.seq h⟩, for_list (xs := xs) Pv h0 (fun i σ H' _ p => (hl i σ H' p).seq h) turn fin⟩
  · exact .inr ⟨⟨xs, same_t s1 h⟩, for_tup (xs := xs) Pv h0 (fun i σ H' _ p => same_t (hl i σ H' p) h) turn fin⟩

abbrev LcR (J : It) (g : TG) (tt : TT) (te : TE) (vs : List Nat) (σ : L2.St) (D : Addr) (Qd : Addr → Hp → Prop) (H1 : Hp) : Prop := ∃ W : Nat → Nat → Hp → Prop, (∃ m, W 0 m (upd H1 D (.lst []))) ∧ ∀ i m H, W i m H →
  (J.stop i H ∧ Qd D H) ∨ (J.go i H ∧ ∃ Nx : Hp → Prop, (∀ H', Nx H' → ∃ m', m' < m ∧ W (i + 1) m' H') ∧ ∀ x H', J.yld i H x H' → g x (wipe σ vs) H' fun σ2 H2 => wipe σ2 vs = wipe σ vs ∧ tt σ2 H2 fun b H3 => if b = true then
    te σ2 H3 fun y H4 => ∃ acc, H4 D = some (.lst acc) ∧ acc.length < sizeLine ∧ Nx (upd H4 D (.lst (acc ++ [y]))) else Nx H3)
theorem lc_seq {K : PySem.W.Frag} {a : Addr} {xs : List V} {g : TG} {tt : TT} {te : TE} {vs : List Nat} {σ : L2.St} {H1 : Hp} {Qd : Addr → Hp → Prop} (hq : Sq K H1 a xs) (Pv : Addr → Nat → Hp → Prop) (h0 : ∀ D, H1 D = none → Pv D 0 (upd H1 D (.lst [])))
    (still : ∀ D i H', H1 D = none → Pv D i H' → SqTo K H1 H' a xs)
    (turn : ∀ D i x H', H1 D = none → xs[i]? = some x → Pv D i H' → g x (wipe σ vs) H' fun σ2 H2 => wipe σ2 vs = wipe σ vs ∧ tt σ2 H2 fun b H3 =>
      if b = true then te σ2 H3 fun y H4 => ∃ acc, H4 D = some (.lst acc) ∧ acc.length < sizeLine ∧ Pv D (i + 1) (upd H4 D (.lst (acc ++ [y]))) else Pv D (i + 1) H3) (fin : ∀ D H', H1 D = none → Pv D xs.length H' → Qd D H') :
    ((∃ xs, SqL K H1 a xs) ∧ ∀ D, H1 D = none → LcR (Itl K a) g tt te vs σ D Qd H1) ∨ ((∃ xs, SqT K H1 a xs) ∧ ∀ D, H1 D = none → LcR (Itt K a) g tt te vs σ D Qd H1) := by
  rcases hq with h | h
  · exact .inl ⟨⟨xs, h⟩, fun D nD => lc_list (xs := xs) (Pv D) (h0 D nD) (fun i H' _ p => (still D i H' nD p).1 h) (fun i x H' e p => turn D i x H' nD e p) (fun H' p => fin D H' nD p)⟩
  · exact .inr ⟨⟨xs, h⟩, fun D nD => lc_tup (xs := xs) (Pv D) (h0 D nD) (fun i H' _ p => (still D i H' nD p).2 h) (fun i x H' e p => turn D i x H' nD e p) (fun H' p => fin D H' nD p)⟩

/-! ### sets by stretches: the mathematics -/
theorem inB_iff {n a b : Int} : inB n a b = true ↔ a ≤ n ∧ n ≤ b := by
  unfold inB
  rw [Bool.and_eq_true, decide_eq_true_eq (p := a ≤ n), decide_eq_true_eq]
theorem anyP_iff {n : Int} {ps : List (Int × Int)} : anyP (inB n) ps = true ↔ ∃ p ∈ ps, p.1 ≤ n ∧ n ≤ p.2 := by
  unfold anyP
  rw [List.any_eq_true]
  constructor
  · rintro ⟨p, hp, e⟩
    exact ⟨p, hp, inB_iff.mp e⟩
  · rintro ⟨p, hp, e⟩
    exact ⟨p, hp, inB_iff.mpr e⟩
/-- the same numbers -/
def Alike (ps qs : List (Int × Int)) : Prop := ∀ n : Int, (∃ p ∈ ps, p.1 ≤ n ∧ n ≤ p.2) ↔ ∃ p ∈ qs, p.1 ≤ n ∧ n ≤ p.2
theorem Alike.any {ps qs : List (Int × Int)} (h : Alike ps qs) (n : Int) : anyP (inB n) ps = anyP (inB n) qs := by
  rw [Bool.eq_iff_iff, anyP_iff, anyP_iff]
  exact h n
theorem Alike.symm {ps qs : List (Int × Int)} (h : Alike ps qs) : Alike qs ps := fun n => (h n).symm
theorem Alike.trans {ps qs rs : List (Int × Int)} (h : Alike ps qs) (h' : Alike qs rs) : Alike ps rs := fun n => (h n).trans (h' n)
theorem Alike.of_mem {ps qs : List (Int × Int)} (h : ∀ p, p ∈ ps ↔ p ∈ qs) : Alike ps qs := fun n => ⟨fun ⟨p, hp, e⟩ => ⟨p, (h p).mp hp, e⟩, fun ⟨p, hp, e⟩ => ⟨p, (h p).mpr hp, e⟩⟩
/-- of each set of numbers there is just one list -/
theorem ris_one : ∀ {rs rs' : List (Int × Int)} {lo lo' : Int}, Ris lo rs → Ris lo' rs' → Alike rs rs' → rs = rs'
  | [], [], _, _, _, _, _ => by rfl
  | [], q :: r, _, _, _, h', e => by
    obtain ⟨p, hp, _⟩ := (e q.1).mpr ⟨q, List.mem_cons_self .., Int.le_refl _, h'.2.1⟩
    exact nomatch hp
  | q :: r, [], _, _, h, _, e => by
    obtain ⟨p, hp, _⟩ := (e q.1).mp ⟨q, List.mem_cons_self .., Int.le_refl _, h.2.1⟩
    exact nomatch hp
  | (a, b) :: r, (a', b') :: r', lo, lo', h, h', e => by
    have hb : a ≤ b := h.2.1
    have hb' : a' ≤ b' := h'.2.1
    have tl : ∀ p ∈ r, b + 2 ≤ p.1 ∧ p.1 ≤ p.2 := Ris.le h.2.2
    have tl' : ∀ p ∈ r', b' + 2 ≤ p.1 ∧ p.1 ≤ p.2 := Ris.le h'.2.2
    have m1 : a' ≤ a := by
      obtain ⟨p, hp, e1, e2⟩ := (e a).mp ⟨(a, b), List.mem_cons_self .., Int.le_refl _, hb⟩
      rcases List.mem_cons.mp hp with z | z
      · rw [z] at e1; exact e1
      · have := tl' p z; omega
    have m2 : a ≤ a' := by
      obtain ⟨p, hp, e1, e2⟩ := (e a').mpr ⟨(a', b'), List.mem_cons_self .., Int.le_refl _, hb'⟩
      rcases List.mem_cons.mp hp with z | z
      · rw [z] at e1; exact e1
      · have := tl p z; omega
    have ea : a = a' := by omega
    have n1 : ¬ b < b' := fun lt => by
      obtain ⟨p, hp, e1, e2⟩ := (e (b + 1)).mpr ⟨(a', b'), List.mem_cons_self .., by show a' ≤ b + 1; omega, by show b + 1 ≤ b'; omega⟩
      rcases List.mem_cons.mp hp with z | z
      · rw [z] at e2; have : b + 1 ≤ b := e2; omega
      · have := tl p z; omega
    have n2 : ¬ b' < b := fun lt => by
      obtain ⟨p, hp, e1, e2⟩ := (e (b' + 1)).mp ⟨(a, b), List.mem_cons_self .., by show a ≤ b' + 1; omega, by show b' + 1 ≤ b; omega⟩
      rcases List.mem_cons.mp hp with z | z
      · rw [z] at e2; have : b' + 1 ≤ b' := e2; omega
      · have := tl' p z; omega
    have eb : b = b' := by omega
    subst ea eb
    have er : Alike r r' := fun n => by
      constructor
      · rintro ⟨p, hp, e1, e2⟩
        obtain ⟨p', hp', f1, f2⟩ := (e n).mp ⟨p, List.mem_cons_of_mem _ hp, e1, e2⟩
        rcases List.mem_cons.mp hp' with z | z
        · rw [z] at f2
          have : n ≤ b := f2
          have := tl p hp
          omega
        · exact ⟨p', z, f1, f2⟩
      · rintro ⟨p, hp, e1, e2⟩
        obtain ⟨p', hp', f1, f2⟩ := (e n).mpr ⟨p, List.mem_cons_of_mem _ hp, e1, e2⟩
        rcases List.mem_cons.mp hp' with z | z
        · rw [z] at f2
          have : n ≤ b := f2
          have := tl' p hp
          omega
        · exact ⟨p', z, f1, f2⟩
    rw [ris_one h.2.2 h'.2.2 er]
theorem Ris.front : ∀ {lo : Int} {rs : List (Int × Int)} {q : Int × Int}, Ris lo (rs ++ [q]) → Ris lo rs ∧ (∀ r ∈ rs, r.2 + 2 ≤ q.1) ∧ lo ≤ q.1 ∧ q.1 ≤ q.2
  | lo, [], q, h => ⟨True.intro, (fun _ z => nomatch z), h.1, h.2.1⟩
  | lo, r :: rs, q, h => by
    obtain ⟨h1, h2, h3, h4⟩ := Ris.front h.2.2
    refine ⟨⟨h.1, h.2.1, h1⟩, fun x hx => ?_, by have := h.1; have := h.2.1; omega, h4⟩
    rcases List.mem_cons.mp hx with z | z
    · rw [z]; exact h3
    · exact h2 x z
/-- what is told of pairs: a set of just their numbers -/
structure SetLike (ps rs : List (Int × Int)) : Prop where
  ris : ∃ lo, Ris lo rs
  same : Alike rs ps
  len : rs.length ≤ ps.length
/-- between two turns: the pairs so far, rising by their firsts, and what is merged of them -/
structure Mrg (pre rs : List (Int × Int)) : Prop extends SetLike pre rs where
  firsts : ∀ r ∈ rs, ∃ p ∈ pre, p.1 = r.1
theorem alike_snoc {pre : List (Int × Int)} {rs rs' : List (Int × Int)} {p : Int × Int} (h : Alike rs pre) (e : ∀ n, (∃ q ∈ rs', q.1 ≤ n ∧ n ≤ q.2) ↔ (∃ q ∈ rs, q.1 ≤ n ∧ n ≤ q.2) ∨ (p.1 ≤ n ∧ n ≤ p.2)) : Alike rs' (pre ++ [p]) := fun n => by
  rw [e n, h n]
  constructor
  · rintro (⟨q, hq, z⟩ | z)
    · exact ⟨q, List.mem_append_left _ hq, z⟩
    · exact ⟨p, List.mem_append_right _ (List.mem_singleton.mpr rfl), z⟩
  · rintro ⟨q, hq, z⟩
    rcases List.mem_append.mp hq with y | y
    · exact .inl ⟨q, y, z⟩
    · rw [List.mem_singleton.mp y] at z
      exact .inr z
theorem Mrg.join {pre rs : List (Int × Int)} {a b : Int} {p : Int × Int} (m : Mrg pre (rs ++ [(a, b)])) (hp : p.1 ≤ p.2) (ord : ∀ q ∈ pre, q.1 ≤ p.1) (near : p.1 ≤ b + 1) : Mrg (pre ++ [p]) (rs ++ [(a, if p.2 > b then p.2 else b)]) := by
  obtain ⟨lo, hr⟩ := m.ris
  obtain ⟨h1, h2, h3, h4⟩ := Ris.front hr
  obtain ⟨q, hq, eq⟩ := m.firsts (a, b) (List.mem_append_right _ (List.mem_singleton.mpr rfl))
  have hap : a ≤ p.1 := by have := ord q hq; have : q.1 = a := eq; omega
  have hab : a ≤ b := h4
  have big : a ≤ (if p.2 > b then p.2 else b) := by split <;> omega
  refine ⟨⟨⟨lo, h1.snoc h3 h2 big⟩, alike_snoc m.same fun n => ?_, ?_⟩, fun r hr => ?_⟩
  · constructor
    · rintro ⟨q, hq, z⟩
      rcases List.mem_append.mp hq with y | y
      · exact .inl ⟨q, List.mem_append_left _ y, z⟩
      · rw [List.mem_singleton.mp y] at z
        have z1 : a ≤ n := z.1
        have z2 : n ≤ (if p.2 > b then p.2 else b) := z.2
        by_cases c : n ≤ b
        · exact .inl ⟨(a, b), List.mem_append_right _ (List.mem_singleton.mpr rfl), z1, c⟩
        · refine .inr ⟨by omega, ?_⟩
          split at z2 <;> omega
    · rintro (⟨q, hq, z⟩ | z)
      · rcases List.mem_append.mp hq with y | y
        · exact ⟨q, List.mem_append_left _ y, z⟩
        · rw [List.mem_singleton.mp y] at z
          refine ⟨_, List.mem_append_right _ (List.mem_singleton.mpr rfl), z.1, ?_⟩
          have z2 : n ≤ b := z.2
          show n ≤ (if p.2 > b then p.2 else b)
          split <;> omega
      · refine ⟨_, List.mem_append_right _ (List.mem_singleton.mpr rfl), by show a ≤ n; omega, ?_⟩
        show n ≤ (if p.2 > b then p.2 else b)
        split <;> omega
  · have := m.len
    rw [List.length_append, List.length_append] at *
    show rs.length + 1 ≤ pre.length + 1
    have : rs.length + 1 ≤ pre.length := this
    omega
  · rcases List.mem_append.mp hr with y | y
    · obtain ⟨q, hq, e⟩ := m.firsts r (List.mem_append_left _ y)
      exact ⟨q, List.mem_append_left _ hq, e⟩
    · rw [List.mem_singleton.mp y]
      exact ⟨q, List.mem_append_left _ hq, eq⟩
theorem Mrg.new {pre rs : List (Int × Int)} {p : Int × Int} (m : Mrg pre rs) (hp : p.1 ≤ p.2) (ord : ∀ q ∈ pre, q.1 ≤ p.1) (far : ∀ r ∈ rs, r.2 + 2 ≤ p.1) : Mrg (pre ++ [p]) (rs ++ [p]) := by
  obtain ⟨lo, hr⟩ := m.ris
  refine ⟨⟨?_, alike_snoc m.same fun n => ?_, by have := m.len; rw [List.length_append, List.length_append]; show rs.length + 1 ≤ pre.length + 1; omega⟩, fun r hr => ?_⟩
  · cases rs with
    | nil => exact ⟨p.1, Int.le_refl _, hp, True.intro⟩
    | cons q r =>
      refine ⟨lo, hr.snoc ?_ far hp⟩
      have := hr.le q (List.mem_cons_self ..)
      have := far q (List.mem_cons_self ..)
      omega
  · constructor
    · rintro ⟨q, hq, z⟩
      rcases List.mem_append.mp hq with y | y
      · exact .inl ⟨q, y, z⟩
      · rw [List.mem_singleton.mp y] at z; exact .inr z
    · rintro (⟨q, hq, z⟩ | z)
      · exact ⟨q, List.mem_append_left _ hq, z⟩
      · exact ⟨p, List.mem_append_right _ (List.mem_singleton.mpr rfl), z⟩
  · rcases List.mem_append.mp hr with y | y
    · obtain ⟨q, hq, e⟩ := m.firsts r y
      exact ⟨q, List.mem_append_left _ hq, e⟩
    · rw [List.mem_singleton.mp y]
      exact ⟨p, List.mem_append_right _ (List.mem_singleton.mpr rfl), rfl⟩
theorem Mrg.nil : Mrg [] [] := ⟨⟨⟨0, True.intro⟩, fun _ => Iff.rfl, Nat.le_refl _⟩, fun _ z => nomatch z⟩

/-! ### sets put together: the mathematics -/
def InS (ps : List (Int × Int)) (n : Int) : Prop := ∃ p ∈ ps, p.1 ≤ n ∧ n ≤ p.2
theorem inS_nil {n : Int} : ¬ InS [] n := fun ⟨_, h, _⟩ => nomatch h
theorem inS_cons {p : Int × Int} {r : List (Int × Int)} {n : Int} : InS (p :: r) n ↔ (p.1 ≤ n ∧ n ≤ p.2) ∨ InS r n := by
  constructor
  · rintro ⟨q, hq, e⟩
    rcases List.mem_cons.mp hq with z | z
    · rw [z] at e; exact .inl e
    · exact .inr ⟨q, z, e⟩
  · rintro (e | ⟨q, hq, e⟩)
    · exact ⟨p, List.mem_cons_self .., e⟩
    · exact ⟨q, List.mem_cons_of_mem _ hq, e⟩
theorem inS_append {ps qs : List (Int × Int)} {n : Int} : InS (ps ++ qs) n ↔ InS ps n ∨ InS qs n := by
  constructor
  · rintro ⟨q, hq, e⟩
    rcases List.mem_append.mp hq with z | z
    · exact .inl ⟨q, z, e⟩
    · exact .inr ⟨q, z, e⟩
  · rintro (⟨q, hq, e⟩ | ⟨q, hq, e⟩)
    · exact ⟨q, List.mem_append_left _ hq, e⟩
    · exact ⟨q, List.mem_append_right _ hq, e⟩
theorem Ris.low {lo n : Int} {ps : List (Int × Int)} (h : Ris lo ps) (e : InS ps n) : lo ≤ n := by
  obtain ⟨p, hp, e1, e2⟩ := e
  have := h.le p hp
  omega
theorem Ris.mono : ∀ {lo lo' : Int} {ps : List (Int × Int)}, Ris lo ps → lo' ≤ lo → Ris lo' ps
  | _, _, [], _, _ => True.intro
  | _, _, _ :: _, h, e => ⟨Int.le_trans e h.1, h.2⟩
def mxI (i j : Int) : Int := if j > i then j else i
def mnI (i j : Int) : Int := if j < i then j else i
theorem mxI_le {i j n : Int} : mxI i j ≤ n ↔ i ≤ n ∧ j ≤ n := by unfold mxI; split <;> omega
theorem le_mxI {i j n : Int} : n ≤ mxI i j ↔ n ≤ i ∨ n ≤ j := by unfold mxI; split <;> omega
theorem le_mnI {i j n : Int} : n ≤ mnI i j ↔ n ≤ i ∧ n ≤ j := by unfold mnI; split <;> omega
theorem mnI_le {i j n : Int} : mnI i j ≤ n ↔ i ≤ n ∨ j ≤ n := by unfold mnI; split <;> omega
/-- going through both at once -/
def bothF : List (Int × Int) → List (Int × Int) → List (Int × Int)
  | [], _ => []
  | _ :: _, [] => []
  | p :: r, q :: s => (if mxI p.1 q.1 ≤ mnI p.2 q.2 then [(mxI p.1 q.1, mnI p.2 q.2)] else []) ++ (if p.2 < q.2 then bothF r (q :: s) else bothF (p :: r) s)
termination_by ps qs => ps.length + qs.length
theorem bothF_nil (ps : List (Int × Int)) : bothF ps [] = [] := by cases ps <;> rw [bothF]
theorem bothF_ris : ∀ {ps qs : List (Int × Int)} {lo lo' k : Int}, Ris lo ps → Ris lo' qs → (k ≤ lo ∨ k ≤ lo') → Ris k (bothF ps qs)
  | [], _, _, _, _, _, _, _ => by rw [bothF]; exact True.intro
  | _ :: _, [], _, _, _, _, _, _ => by rw [bothF]; exact True.intro
  | p :: r, q :: s, lo, lo', k, h, h', hk => by
    rw [bothF]
    have h1 := h.1
    have h2 := h.2.1
    have h1' := h'.1
    have h2' := h'.2.1
    by_cases c : mxI p.1 q.1 ≤ mnI p.2 q.2
    · rw [if_pos c]
      refine ⟨?_, c, ?_⟩
      · show k ≤ mxI p.1 q.1
        rw [le_mxI]
        omega
      · by_cases d : p.2 < q.2
        · rw [if_pos d]
          refine bothF_ris h.2.2 h' (.inl ?_)
          show mnI p.2 q.2 + 2 ≤ p.2 + 2
          have : mnI p.2 q.2 ≤ p.2 := mnI_le.mpr (.inl (Int.le_refl _))
          omega
        · rw [if_neg d]
          refine bothF_ris h h'.2.2 (.inr ?_)
          show mnI p.2 q.2 + 2 ≤ q.2 + 2
          have : mnI p.2 q.2 ≤ q.2 := mnI_le.mpr (.inr (Int.le_refl _))
          omega
    · rw [if_neg c, List.nil_append]
      by_cases d : p.2 < q.2
      · rw [if_pos d]
        refine bothF_ris h.2.2 h' ?_
        omega
      · rw [if_neg d]
        refine bothF_ris h h'.2.2 ?_
        omega
termination_by ps qs => ps.length + qs.length
theorem bothF_in {n : Int} : ∀ {ps qs : List (Int × Int)} {lo lo' : Int}, Ris lo ps → Ris lo' qs → (InS (bothF ps qs) n ↔ InS ps n ∧ InS qs n)
  | [], _, _, _, _, _ => by rw [bothF]; exact ⟨fun h => absurd h inS_nil, fun h => h.1⟩
  | _ :: _, [], _, _, _, _ => by rw [bothF]; exact ⟨fun h => absurd h inS_nil, fun h => h.2⟩
  | p :: r, q :: s, lo, lo', h, h' => by
    rw [bothF, inS_append, inS_cons, inS_cons]
    have e1 : InS (if mxI p.1 q.1 ≤ mnI p.2 q.2 then [(mxI p.1 q.1, mnI p.2 q.2)] else []) n ↔ (p.1 ≤ n ∧ n ≤ p.2) ∧ (q.1 ≤ n ∧ n ≤ q.2) := by
      by_cases c : mxI p.1 q.1 ≤ mnI p.2 q.2
      · rw [if_pos c, inS_cons]
        show ((mxI p.1 q.1 ≤ n ∧ n ≤ mnI p.2 q.2) ∨ InS [] n) ↔ _
        rw [mxI_le, le_mnI]
        constructor
        · rintro (z | z)
          · omega
          · exact absurd z inS_nil
        · intro z
          exact .inl (by omega)
      · rw [if_neg c]
        constructor
        · exact fun z => absurd z inS_nil
        · intro z
          refine absurd (Int.le_trans (mxI_le.mpr ⟨z.1.1, z.2.1⟩) (le_mnI.mpr ⟨z.1.2, z.2.2⟩)) c
    rw [e1]
    by_cases d : p.2 < q.2
    · rw [if_pos d, bothF_in h.2.2 h', inS_cons]
      have no : InS s n → ¬ n ≤ p.2 := fun z => by
        have := h'.2.2.low z
        omega
      constructor
      · rintro (⟨z1, z2⟩ | ⟨z1, z2⟩)
        · exact ⟨.inl z1, .inl z2⟩
        · exact ⟨.inr z1, z2⟩
      · rintro ⟨z1 | z1, z2 | z2⟩
        · exact .inl ⟨z1, z2⟩
        · exact absurd z1.2 (no z2)
        · exact .inr ⟨z1, .inl z2⟩
        · exact .inr ⟨z1, .inr z2⟩
    · rw [if_neg d, bothF_in h h'.2.2, inS_cons]
      have no : InS r n → ¬ n ≤ q.2 := fun z => by
        have := h.2.2.low z
        omega
      constructor
      · rintro (⟨z1, z2⟩ | ⟨z1, z2⟩)
        · exact ⟨.inl z1, .inl z2⟩
        · exact ⟨z1, .inr z2⟩
      · rintro ⟨z1 | z1, z2 | z2⟩
        · exact .inl ⟨z1, z2⟩
        · exact .inr ⟨.inl z1, z2⟩
        · exact absurd z2.2 (no z1)
        · exact .inr ⟨.inr z1, z2⟩
termination_by ps qs => ps.length + qs.length
/-- what lies between the stretches of a set -/
def gapsF (e : Int) : Int → List (Int × Int) → List (Int × Int)
  | st, [] => [(st, e)]
  | st, p :: r => (st, mnI (p.1 - 1) e) :: gapsF e (mxI st (p.2 + 1)) r
theorem gapsF_length (e : Int) : ∀ (qs : List (Int × Int)) (st : Int), (gapsF e st qs).length = qs.length + 1
  | [], _ => rfl
  | _ :: r, _ => by rw [gapsF, List.length_cons, gapsF_length e r, List.length_cons]
theorem gapsF_in {e n : Int} : ∀ {qs : List (Int × Int)} {lo st : Int}, Ris lo qs → (InS (gapsF e st qs) n ↔ (st ≤ n ∧ n ≤ e) ∧ ¬ InS qs n)
  | [], _, st, _ => by
    rw [gapsF, inS_cons]
    constructor
    · rintro (z | z)
      · exact ⟨z, inS_nil⟩
      · exact absurd z inS_nil
    · exact fun z => .inl z.1
  | p :: r, lo, st, h => by
    rw [gapsF, inS_cons, gapsF_in h.2.2, inS_cons]
    show ((st ≤ n ∧ n ≤ mnI (p.1 - 1) e) ∨ (mxI st (p.2 + 1) ≤ n ∧ n ≤ e) ∧ ¬ InS r n) ↔ _
    rw [le_mnI, mxI_le]
    have h2 := h.2.1
    have no : n ≤ p.2 + 1 → ¬ InS r n := fun z y => by
      have := h.2.2.low y
      omega
    constructor
    · rintro (z | ⟨z, y⟩)
      · refine ⟨by omega, ?_⟩
        rintro (x | x)
        · omega
        · exact no (by omega) x
      · refine ⟨by omega, ?_⟩
        rintro (x | x)
        · omega
        · exact y x
    · rintro ⟨z, y⟩
      by_cases c : n < p.1
      · exact .inl (by omega)
      · refine .inr ⟨?_, fun x => y (.inr x)⟩
        have : ¬ (p.1 ≤ n ∧ n ≤ p.2) := fun x => y (.inl x)
        omega
/-- a set of just the numbers of which pr holds -/
structure Told (pr : Int → Prop) (rs : List (Int × Int)) : Prop where
  ris : ∃ lo, Ris lo rs
  same : ∀ n, InS rs n ↔ pr n
theorem Told.one {pr pr' : Int → Prop} {rs rs' : List (Int × Int)} (h : Told pr rs) (h' : Told pr' rs') (e : ∀ n, pr n ↔ pr' n) : rs = rs' := by
  obtain ⟨lo, r⟩ := h.ris
  obtain ⟨lo', r'⟩ := h'.ris
  exact ris_one r r' fun n => (h.same n).trans ((e n).trans (h'.same n).symm)
theorem Told.of {lo : Int} {rs : List (Int × Int)} (h : Ris lo rs) : Told (InS rs) rs := ⟨⟨lo, h⟩, fun _ => Iff.rfl⟩
theorem SetLike.told {ps rs : List (Int × Int)} (h : SetLike ps rs) : Told (InS ps) rs := ⟨h.ris, h.same⟩
theorem Told.cong {pr pr' : Int → Prop} {rs : List (Int × Int)} (h : Told pr rs) (e : ∀ n, pr n ↔ pr' n) : Told pr' rs := ⟨h.ris, fun n => (h.same n).trans (e n)⟩
theorem Told.nneg {pr : Int → Prop} {rs : List (Int × Int)} (h : Told pr rs) (hn : ∀ n, pr n → 0 ≤ n) : Ris 0 rs := by
  obtain ⟨lo, r⟩ := h.ris
  cases rs with
  | nil => exact True.intro
  | cons p q => exact ⟨hn _ ((h.same _).mp (inS_cons.mpr (.inl ⟨Int.le_refl _, r.2.1⟩))), r.2⟩

theorem cut_back (xs : List V) (m : Nat) : cutV xs (some (m : Int)) none = xs.drop m := by
  unfold cutV
  rw [HT.sIx_none, HT.sIx_nat]
  by_cases h : m ≤ xs.length
  · rw [Nat.min_eq_left h]
    exact List.take_of_length_le (by rw [List.length_drop]; exact Nat.le_refl _)
  · rw [Nat.min_eq_right (by omega), Nat.sub_self, List.take_zero, List.drop_eq_nil_of_le (by omega)]
theorem _root_.GP.Prs.append {H : Hp} {us ws : List V} {ps qs : List (Int × Int)} (h : Prs H us ps) (h' : Prs H ws qs) : Prs H (us ++ ws) (ps ++ qs) := by
  refine ⟨by rw [List.length_append, List.length_append, h.1, h'.1], fun i p e => ?_⟩
  by_cases hi : i < ps.length
  · rw [List.getElem?_append_left hi] at e
    rw [List.getElem?_append_left (by rw [h.1]; exact hi)]
    exact h.2 i p e
  · rw [List.getElem?_append_right (by omega)] at e
    rw [List.getElem?_append_right (by rw [h.1]; omega), h.1]
    exact h'.2 _ p e
theorem _root_.GP.Prs.take {H : Hp} {us : List V} {ps : List (Int × Int)} (h : Prs H us ps) (n : Nat) : Prs H (us.take n) (ps.take n) := by
  refine ⟨by rw [List.length_take, List.length_take, h.1], fun i p e => ?_⟩
  rw [List.getElem?_take] at e ⊢
  split at e
  · rename_i hi
    rw [if_pos hi]
    exact h.2 i p e
  · cases e
theorem _root_.GP.Prs.drop {H : Hp} {us : List V} {ps : List (Int × Int)} (h : Prs H us ps) (n : Nat) : Prs H (us.drop n) (ps.drop n) := by
  refine ⟨by rw [List.length_drop, List.length_drop, h.1], fun i p e => ?_⟩
  rw [List.getElem?_drop] at e ⊢
  exact h.2 _ p e
theorem _root_.GP.Prs.reverse {H : Hp} {us : List V} {ps : List (Int × Int)} (h : Prs H us ps) : Prs H us.reverse ps.reverse := by
  refine ⟨by rw [List.length_reverse, List.length_reverse, h.1], fun i p e => ?_⟩
  have hi : i < ps.length := by
    have z := (List.getElem?_eq_some_iff.mp e).1
    rwa [List.length_reverse] at z
  rw [List.getElem?_reverse hi] at e
  rw [List.getElem?_reverse (by rw [h.1]; exact hi), h.1]
  exact h.2 _ p e

/-! ### set_of -/
/-- the pair that a tracked tuple holds -/
def pairOf (H : Hp) : V → Int × Int
  | .ref t => (match H t with
    | some (.tup [.int i, .int j]) => (i, j)
    | _ => (0, 0))
  | _ => (0, 0)
theorem pairOf_at {H : Hp} {t : Addr} {p : Int × Int} (e : H t = some (.tup [.int p.1, .int p.2])) : pairOf H (.ref t) = p := by
  show (match H t with | some (.tup [.int i, .int j]) => (i, j) | _ => (0, 0)) = p
  rw [e]
abbrev sSetOf : Stmt := topS 1
theorem scSetOf : FnScope ["pairs", "merged", "first", "last", "low", "high", "pair"] ["pairs"] (defScope sSetOf) := ⟨rfl, rfl, rfl, by decide +kernel, rfl, by decide +kernel, by decide +kernel⟩
def spSetOf (K : PySem.W.Frag) : Sp := fun vs H Q _ => ∃ (a : Addr) (us : List V) (ps : List (Int × Int)), vs = [.ref a] ∧ Sq K H a us ∧ Prs H us ps ∧ ps.length ≤ 900 ∧
  ∀ (l : Addr) (ws : List V) (rs : List (Int × Int)) H', H l = none → H' l = some (.lst ws) → Prs H' ws rs → SetLike ps rs → Same H H' → Q (.ref l) H'
section
variable {K : PySem.W.Frag} {mg : Str → Option Value} {P : Program} {w : World} {base : Heap}
theorem ok_setof {f : Addr} {fd : FuncData} {k : Nat} (F : Fun K "set_of" "set_of" sSetOf f fd) (mso : mg "sorted" = none) (mx : mg "max" = none) : FnOk P w K mg base CX0 (k + 1) f fd ["pairs"] (spSetOf K) := by
  refine F.ok scSetOf (fun vs H Q E h => ?_) (fun cdv A outer s H vs Q E hr h => ?_)
  · obtain ⟨a, us, ps, rfl, _⟩ := h
    rfl
  · obtain ⟨a, us, ps, rfl, hq, hp, hz, q⟩ := h
    refine ⟨_, pss_cons (ps_set (i := 1) scSetOf.nd rfl (.inl rfl) (pe_lst pa_nil))
      (pss_cons (ps_for PassesOwn.never rfl (pi_list (pe_callB cr_sortedPO (by rfl) mso (by decide +kernel) (pa_cons (pe_lc (own := [("pair", 6)]) (g := gName 6) (tt := tTest (tOp (rI0 fun i j => .bl (decide (i ≤ j))) (tOp (rIxT K) (tVar 6) (tC (.int 0))) (tOp (rIxT K) (tVar 6) (tC (.int 1))))) rfl scSetOf.nd (pi_seq (pv 0))
          (blkOk_by (own := [("pair", 6)]) (N := ["pairs", "merged", "first", "last", "low", "high", "pair"]) (sc := defScope sSetOf) (by decide +kernel))
          (fun _ _ _ _ _ => pg_name (i := 6) scSetOf.nd rfl (.inl rfl)) (fun _ _ _ _ _ => pts_one (pt_cmpR op_le (pe_ix ix_tup (pv 6) pe_int (fun _ _ => rfl)) (pe_ix ix_tup (pv 6) pe_int (fun _ _ => rfl)) (nomark _))) (fun _ _ _ _ _ => pv 6)) pa_nil)))
        (pg_tup rfl (pgs_cons (pg_name (i := 2) scSetOf.nd rfl (.inl rfl)) (pgs_cons (pg_name (i := 3) scSetOf.nd rfl (.inl rfl)) pgs_nil)))
        (pss_one (ps_if (PW.pt (pw_and (pt_truth (pv 1) (by intro _; rfl)) (pw_and1 (pt_cmpR op_le (pv 2) (pe_op op_add (pe_ix ix_tup (pe_ix ix_list (pv 1) (pe_un un_neg pe_int) (fun _ _ => rfl)) pe_int (fun _ _ => rfl)) pe_int) (nomark _)))))
          (pss_cons (ps_asg (pe_ix ix_list (pv 1) (pe_un un_neg pe_int) (fun _ _ => rfl)) (pg_tup rfl (pgs_cons (pg_name (i := 4) scSetOf.nd rfl (.inl rfl)) (pgs_cons (pg_name (i := 5) scSetOf.nd rfl (.inl rfl)) pgs_nil))))
          (pss_one (ps_asg (pe_tup (pa_cons (pv 4) (pa_cons (pe_callB (call_max2 rfl) (by rfl) mx (by decide +kernel) (pa_cons (pv 5) (pa_cons (pv 3) pa_nil))) pa_nil))) (pg_sub (pv 1) (pe_un un_neg pe_int) set_list))))
          (pss_one (ps_expr (pe_bm PySem.F.plainAttrs_list PySem.F.slot_list_append PySem.F.type_list_append mt_append (pv 1) (pa_cons (pe_tup (pa_cons (pv 2) (pa_cons (pv 3) pa_nil))) pa_nil)))))))
      (pss_one (ps_ret (pv 1)))), ?_⟩
    -- merged = []
    refine ⟨Nat.zero_le _, fun mg' nm => ?_⟩
    have s1 := same_upd (o := .lst []) nm
    have em1 : upd H mg' (.lst []) mg' = some (.lst []) := upd_same
    revert s1 em1
    generalize upd H mg' (.lst []) = H1
    intro s1 em1
    -- [pair for pair in pairs if ..]
    refine ⟨.ref a, rfl, a, rfl, lc_seq (xs := us) (hq.same s1) (fun D i H' => Same H1 H' ∧ ∃ ys, H' D = some (.lst ys) ∧ Prs H' ys ((ps.take i).filter fun p => decide (p.1 ≤ p.2)) ∧ ys.length ≤ i) (fun D nD => ⟨same_upd nD, [], upd_same, Prs.nil, Nat.le_refl _⟩)
      (fun D i H' nD hP => SqTo.same hP.1) (fun D i x H' nD hx hP => ?_) (fun D H2 nD hP => ?_)⟩
    · obtain ⟨sm, ys, eD, hys, hyl⟩ := hP
      obtain ⟨p, T, ep, rfl, eT⟩ := prs_at hp hx
      have hi : i < us.length := (List.getElem?_eq_some_iff.mp hx).1
      rw [hp.1] at hi
      have eT' := sm _ _ (s1 _ _ eT)
      refine ⟨rfl, _, rfl, T, _, 0, .int p.1, rfl, rfl, .inl (.inl eT'), atI_nat (j := 0) rfl, _, rfl, T, _, 1, .int p.2, rfl, rfl, .inl (.inl eT'), atI_nat (j := 1) rfl, p.1, p.2, rfl, rfl, _, rfl, ?_⟩
      have etake : (ps.take (i + 1)).filter (fun p => decide (p.1 ≤ p.2)) = (ps.take i).filter (fun p => decide (p.1 ≤ p.2)) ++ (if p.1 ≤ p.2 then [p] else []) := by
        rw [List.take_add_one, ep, List.filter_append]
        by_cases c : p.1 ≤ p.2
        · rw [if_pos c]; simp [c]
        · rw [if_neg c]; simp [c]
      refine ite2 (fun c => ?_) (fun c => ?_)
      · have c' := of_decide_eq_true c
        refine ⟨_, rfl, ys, eD, small1000 (by omega), fun b o e => ?_, _, upd_same, ?_, by rw [List.length_append]; show ys.length + 1 ≤ i + 1; omega⟩
        · rw [upd_ne (ne_of_none e nD)]
          exact sm b o e
        · rw [etake, if_pos c']
          exact (hys.snoc eT').upd_lst eD
      · have c' : ¬ p.1 ≤ p.2 := fun z => c (decide_eq_true z)
        refine ⟨sm, ys, eD, ?_, by omega⟩
        rw [etake, if_neg c', List.append_nil]
        exact hys
    · -- sorted
      obtain ⟨sm, ys, eD, hys, hyl⟩ := hP
      rw [hp.1, List.take_length] at hys
      refine ⟨D, ys, pairOf H2, rfl, SqL.of eD, fun x hx => ?_, fun zs g srt stb ng => ?_⟩
      · obtain ⟨i, hi, e⟩ := List.getElem_of_mem hx
        obtain ⟨p, T, _, rfl, eT⟩ := prs_at hys (by rw [List.getElem?_eq_getElem hi, e])
        exact ⟨T, rfl, by rw [pairOf_at eT]; exact eT⟩
      have sg := same_upd (o := .lst zs) ng
      have eg : upd H2 g (.lst zs) g = some (.lst zs) := upd_same
      have s3 : Same H (upd H2 g (.lst zs)) := (s1.trans sm).trans sg
      have em3 := sg _ _ (sm _ _ em1)
      -- the pairs of zs
      have each : ∀ x ∈ zs, ∃ T, x = .ref T ∧ H2 T = some (.tup [.int (pairOf H2 x).1, .int (pairOf H2 x).2]) := fun x hx => by
        obtain ⟨i, hi, e⟩ := List.getElem_of_mem (stb.perm.mem_iff.mp hx)
        obtain ⟨p, T, _, rfl, eT⟩ := prs_at hys (by rw [List.getElem?_eq_getElem hi, e])
        exact ⟨T, rfl, by rw [pairOf_at eT]; exact eT⟩
      have hzs : Prs H2 zs (zs.map (pairOf H2)) := ⟨by rw [List.length_map], fun i p e => by
        rw [List.getElem?_map] at e
        cases h : zs[i]? with
        | none => rw [h] at e; cases e
        | some x =>
          rw [h] at e
          cases e
          obtain ⟨T, rfl, eT⟩ := each x (List.mem_of_getElem? h)
          exact ⟨T, rfl, eT⟩⟩
      have hmap : ys.map (pairOf H2) = ps.filter fun p => decide (p.1 ≤ p.2) := by
        refine List.ext_getElem? fun i => ?_
        rw [List.getElem?_map]
        cases h : ys[i]? with
        | none =>
          have : (ps.filter fun p => decide (p.1 ≤ p.2))[i]? = none := by
            rw [List.getElem?_eq_none_iff] at h ⊢
            rw [← hys.1]
            exact h
          rw [this]
          rfl
        | some x =>
          obtain ⟨p, T, ep, rfl, eT⟩ := prs_at hys h
          rw [ep]
          show some (pairOf H2 (.ref T)) = some p
          rw [pairOf_at eT]
      have hperm : (zs.map (pairOf H2)).Perm (ps.filter fun p => decide (p.1 ≤ p.2)) := hmap ▸ stb.perm.map (pairOf H2)
      have hle : ∀ p ∈ zs.map (pairOf H2), p.1 ≤ p.2 := fun p hp' => by
        have := hperm.mem_iff.mp hp'
        exact of_decide_eq_true (List.mem_filter.mp this).2
      have hord : (zs.map (pairOf H2)).Pairwise fun x y => x.1 ≤ y.1 := by
        rw [List.pairwise_map]
        refine srt.imp fun {x y} h => ?_
        have := SrtO.lexB_no.mp h
        omega
      have hzl : zs.length ≤ 900 := by
        rw [stb.perm.length_eq, hys.1]
        exact Nat.le_trans (List.length_filter_le _ _) hz
      revert hzs hperm hle hord
      generalize zs.map (pairOf H2) = qs
      intro hzs hperm hle hord
      have hzs3 := hzs.same sg
      revert eg s3 em3 hzs3
      generalize upd H2 g (.lst zs) = H3
      intro eg s3 em3 hzs3
      have ngH : H g = none := (s1.trans sm).free ng
      have nmg : mg' ≠ g := ne_of_none (sm _ _ em1) ng
      -- the merging
      refine ⟨g, rfl, ⟨_, SqL.of eg⟩, for_list (xs := zs) (fun i σ H4 => ∃ (ms : List V) (rs : List (Int × Int)) (y2 y3 y4 y5 y6 : Option V), σ = [some (.ref a), some (.ref mg'), y2, y3, y4, y5, y6] ∧ Same H H4 ∧ H4 g = some (.lst zs) ∧ Prs H4 zs qs ∧ H4 mg' = some (.lst ms) ∧ Prs H4 ms rs ∧ Mrg (qs.take i) rs)
        ⟨[], [], _, _, _, _, _, rfl, s3, eg, hzs3, em3, Prs.nil, Mrg.nil⟩ (fun i σ H4 _ hP => ?_) (fun i x σ H4 hx hP => ?_) (fun σ H4 hP => ?_)⟩
      · obtain ⟨_, _, _, _, _, _, _, rfl, _, e, _⟩ := hP
        exact SqL.of e
      · obtain ⟨ms, rs, y2, y3, y4, y5, y6, rfl, sm4, eg4, hz4, em4, hms, m⟩ := hP
        obtain ⟨p, T, ep, rfl, eT⟩ := prs_at hz4 hx
        have hi : i < qs.length := (List.getElem?_eq_some_iff.mp ep).1
        have hp12 : p.1 ≤ p.2 := hle p (List.mem_of_getElem? ep)
        have ord : ∀ q ∈ qs.take i, q.1 ≤ p.1 := fun q hq' => by
          obtain ⟨j, hj, e⟩ := List.getElem_of_mem hq'
          rw [List.length_take] at hj
          rw [List.getElem_take] at e
          obtain ⟨_, e2⟩ := List.getElem?_eq_some_iff.mp ep
          rw [← e, ← e2]
          exact List.pairwise_iff_getElem.mp hord j i (by omega) hi (by omega)
        have etake : qs.take (i + 1) = qs.take i ++ [p] := by rw [List.take_add_one, ep]; rfl
        have hmsl : ms.length ≤ 900 := by
          have := m.len
          rw [List.length_take] at this
          have := hzs.1
          rw [hms.1]
          omega
        refine ⟨T, _, rfl, .inl (.inl eT), rfl, _, _, rfl, _, _, rfl, rfl, ?_⟩
        -- what a new tuple and a change of merged leave
        have grow : ∀ (T2 : Addr) (p2 : Int × Int) (ms2 : List V) (rs2 : List (Int × Int)), H4 T2 = none → Prs (upd H4 T2 (.tup [.int p2.1, .int p2.2])) ms2 rs2 →
            Same H (upd (upd H4 T2 (.tup [.int p2.1, .int p2.2])) mg' (.lst ms2)) ∧ upd (upd H4 T2 (.tup [.int p2.1, .int p2.2])) mg' (.lst ms2) g = some (.lst zs) ∧ Prs (upd (upd H4 T2 (.tup [.int p2.1, .int p2.2])) mg' (.lst ms2)) zs qs ∧ upd (upd H4 T2 (.tup [.int p2.1, .int p2.2])) mg' (.lst ms2) mg' = some (.lst ms2) ∧ Prs (upd (upd H4 T2 (.tup [.int p2.1, .int p2.2])) mg' (.lst ms2)) ms2 rs2 := by
          intro T2 p2 ms2 rs2 n2 h2
          have st := same_upd (o := .tup [.int p2.1, .int p2.2]) n2
          have em5 := st _ _ em4
          refine ⟨fun b o e => ?_, ?_, (hz4.same st).upd_lst em5, upd_same, h2.upd_lst em5⟩
          · rw [upd_ne (ne_of_none e nm)]
            exact st _ _ (sm4 _ _ e)
          · rw [upd_ne nmg.symm]
            exact st _ _ eg4
        -- append
        have app : (∀ r ∈ rs, r.2 + 2 ≤ p.1) → (tDrop (tBM K "list" rAppend (tVar 1) (tCons (tTup (tCons (tVar 2) (tCons (tVar 3) tNil))) tNil))) { nx := fun σ H4 => ∃ (ms : List V) (rs : List (Int × Int)) (y2 y3 y4 y5 y6 : Option V), σ = [some (.ref a), some (.ref mg'), y2, y3, y4, y5, y6] ∧ Same H H4 ∧ H4 g = some (.lst zs) ∧ Prs H4 zs qs ∧ H4 mg' = some (.lst ms) ∧ Prs H4 ms rs ∧ Mrg (qs.take (i + 1)) rs, rt := fun _ _ => False } [some (.ref a), some (.ref mg'), some (.int p.1), some (.int p.2), y4, y5, y6] H4 := by
          intro far
          refine ⟨.ref mg', rfl, .inl ⟨rfl, _, SqL.of em4⟩, _, rfl, _, rfl, (by show 2 ≤ sizeLine; decide), fun T2 n2 => ?_⟩
          have st := same_upd (o := .tup [.int p.1, .int p.2]) n2
          refine ⟨mg', _, _, rfl, rfl, st _ _ em4, small1000 (by omega), ?_⟩
          obtain ⟨g1, g2, g3, g4, g5⟩ := grow T2 p (ms ++ [.ref T2]) (rs ++ [p]) n2 ((hms.same st).snoc upd_same)
          exact ⟨_, _, _, _, _, _, _, rfl, g1, g2, g3, g4, g5, by rw [etake]; exact m.new hp12 ord far⟩
        rcases snoc_cases rs with e0 | ⟨rs', ⟨lo, hi'⟩, e0⟩
        · have e1 : ms = [] := List.eq_nil_of_length_eq_zero (by rw [hms.1, e0]; rfl)
          have em0 : H4 mg' = some (.lst []) := by rw [em4, e1]
          refine ⟨.ref mg', rfl, false, .inl ⟨[], SqL.of em0, rfl⟩, iteF (iteF ?_)⟩
          exact app (by rw [e0]; exact fun _ z => nomatch z)
        · subst e0
          obtain ⟨ms', T0, rfl, eT0, hms'⟩ := hms.last
          refine ⟨.ref mg', rfl, true, .inl ⟨_, SqL.of em4, by simp⟩, iteT ?_⟩
          refine ⟨_, rfl, .ref mg', rfl, 1, rfl, mg', _, -1, .ref T0, rfl, rfl, SqL.of em4, atI_last _ _, T0, _, 1, .int hi', rfl, rfl, .inl (.inl eT0), atI_nat (j := 1) rfl, hi', 1, rfl, rfl, p.1, _, rfl, rfl, _, rfl, ite2 (fun c => ?_) (fun c => ?_)⟩
          · have c' := of_decide_eq_true c
            refine ⟨.ref mg', rfl, 1, rfl, mg', _, -1, .ref T0, rfl, rfl, SqL.of em4, atI_last _ _, T0, _, rfl, .inl (.inl eT0), rfl, _, _, rfl, _, _, rfl, rfl, ?_⟩
            refine ⟨_, rfl, _, rfl, _, rfl, hi', p.2, rfl, (by show 2 ≤ sizeLine; decide), fun T2 n2 => ?_⟩
            have st := same_upd (o := .tup [.int lo, .int (if p.2 > hi' then p.2 else hi')]) n2
            have ei : ixN (ms' ++ [V.ref T0]).length (-1) = some ms'.length := by
              unfold ixN
              rw [if_neg (by decide), List.length_append, if_pos (by show -((ms'.length + 1 : Nat) : Int) ≤ -1; omega)]
              show some ((-1 : Int) + ((ms'.length + 1 : Nat) : Int)).toNat = _
              congr 1
              omega
            refine ⟨.ref mg', rfl, 1, rfl, mg', _, -1, ms'.length, rfl, rfl, st _ _ em4, ei, ?_⟩
            have es : (ms' ++ [V.ref T0]).set ms'.length (.ref T2) = ms' ++ [.ref T2] := by simp
            rw [es]
            obtain ⟨g1, g2, g3, g4, g5⟩ := grow T2 (lo, if p.2 > hi' then p.2 else hi') (ms' ++ [.ref T2]) (rs' ++ [(lo, if p.2 > hi' then p.2 else hi')]) n2 ((hms'.same st).snoc upd_same)
            exact ⟨_, _, _, _, _, _, _, rfl, g1, g2, g3, g4, g5, by rw [etake]; exact m.join hp12 ord c'⟩
          · have c' : ¬ p.1 ≤ hi' + 1 := fun z => c (decide_eq_true z)
            refine app fun r hr' => ?_
            obtain ⟨lo', hR⟩ := m.ris
            obtain ⟨_, h2, _, h4⟩ := Ris.front hR
            have h4' : lo ≤ hi' := h4
            rcases List.mem_append.mp hr' with y | y
            · have : r.2 + 2 ≤ lo := h2 r y
              omega
            · rw [List.mem_singleton.mp y]
              show hi' + 2 ≤ p.1
              omega
      · obtain ⟨ms, rs, y2, y3, y4, y5, y6, rfl, sm4, eg4, hz4, em4, hms, m⟩ := hP
        rw [hzs.1, List.take_length] at m
        refine ⟨_, rfl, q mg' ms rs H4 nm em4 hms ⟨m.ris, m.same.trans fun n => ?_, Nat.le_trans m.len (Nat.le_trans (Nat.le_of_eq hperm.length_eq) (List.length_filter_le _ _))⟩ sm4⟩
        constructor
        · rintro ⟨r, hr', e⟩
          exact ⟨r, (List.mem_filter.mp (hperm.mem_iff.mp hr')).1, e⟩
        · rintro ⟨r, hr', e⟩
          exact ⟨r, hperm.mem_iff.mpr (List.mem_filter.mpr ⟨hr', decide_eq_true (by omega)⟩), e⟩
end

def RetS (H : Hp) (pr : Int → Prop) (m : Nat) (Q : V → Hp → Prop) : Prop := ∀ (l : Addr) (ws : List V) (rs : List (Int × Int)) H', H l = none → H' l = some (.lst ws) → Prs H' ws rs → Told pr rs → rs.length ≤ m → Same H H' → Q (.ref l) H'

/-! ### things as data, all of it tracked -/
inductive Dat (H : Hp) : V → PyData → Prop
  | non : Dat H .non .none
  | bl (b : Bool) : Dat H (.bl b) (.bool b)
  | int (i : Int) : Dat H (.int i) (.int i)
  | str (x : Str) : Dat H (.str x) (.str x)
  | lst {a : Addr} {xs : List V} {ds : List PyData} : H a = some (.lst xs) → xs.length = ds.length → (∀ (i : Nat) x d, xs[i]? = some x → ds[i]? = some d → Dat H x d) → Dat H (.ref a) (.list ds)
  | tup {a : Addr} {xs : List V} {ds : List PyData} : H a = some (.tup xs) → xs.length = ds.length → (∀ (i : Nat) x d, xs[i]? = some x → ds[i]? = some d → Dat H x d) → Dat H (.ref a) (.tuple ds)
theorem Dat.same {H H' : Hp} {v : V} {d : PyData} (h : Dat H v d) (s : Same H H') : Dat H' v d := by
  induction h with
  | non => exact .non
  | bl b => exact .bl b
  | int i => exact .int i
  | str x => exact .str x
  | lst e l _ ih => exact .lst (s _ _ e) l ih
  | tup e l _ ih => exact .tup (s _ _ e) l ih
/-- at most so deep, no longer than these lines -/
def Sm : Nat → PyData → Prop
  | _, .none => True
  | _, .bool _ => True
  | _, .int _ => True
  | _, .str _ => True
  | n + 1, .list ds => ds.length ≤ 900 ∧ ∀ d ∈ ds, Sm n d
  | n + 1, .tuple ds => ds.length ≤ 900 ∧ ∀ d ∈ ds, Sm n d
  | _, _ => False
/-- no list, no tuple -/
def Flat (d : PyData) : Prop := d = .none ∨ (∃ b, d = .bool b) ∨ (∃ i, d = .int i) ∨ ∃ x, d = .str x
theorem Sm.cases {n : Nat} {d : PyData} (h : Sm (n + 1) d) : Flat d ∨ (∃ ds, d = .list ds ∧ ds.length ≤ 900 ∧ ∀ d ∈ ds, Sm n d) ∨ ∃ ds, d = .tuple ds ∧ ds.length ≤ 900 ∧ ∀ d ∈ ds, Sm n d := by
  cases d <;> first | exact .inl (.inl rfl) | exact .inl (.inr (.inl ⟨_, rfl⟩)) | exact .inl (.inr (.inr (.inl ⟨_, rfl⟩))) | exact .inl (.inr (.inr (.inr ⟨_, rfl⟩))) | exact .inr (.inl ⟨_, rfl, h.1, h.2⟩) | exact .inr (.inr ⟨_, rfl, h.1, h.2⟩) | exact h.elim
theorem Sm.flat {d : PyData} (h : Sm 0 d) : Flat d := by
  cases d <;> first | exact .inl rfl | exact .inr (.inl ⟨_, rfl⟩) | exact .inr (.inr (.inl ⟨_, rfl⟩)) | exact .inr (.inr (.inr ⟨_, rfl⟩)) | exact h.elim
theorem walk_zipTs {K : PySem.W.Frag} {a b : Addr} {xs ys : List V} {n : Nat} (h1 : xs.length = n) (h2 : ys.length = n) : Walk (RZ.ItzT K a b) n (fun H => SqT K H a xs ∧ SqT K H b ys) (YPair (fun i => xs[i]?) (fun i => ys[i]?)) where
  goes := fun i _ lt q => ⟨xs, ys, _, _, q.1, q.2, List.getElem?_eq_getElem (h1.symm ▸ lt), List.getElem?_eq_getElem (h2.symm ▸ lt)⟩
  stops := fun _ q => ⟨xs, ys, q.1, q.2, .inl (Nat.le_of_eq h1)⟩
  yields := fun i _ _ _ _ q ⟨T, x, z, e1, e2, e3, e4, e5⟩ => ⟨T, x, z, e1, e2, e3, e4 xs q.1, e5 ys q.2⟩
theorem prs_dat {H : Hp} {us : List V} {ps : List (Int × Int)} (h : Prs H us ps) : ∀ (i : Nat) x d, us[i]? = some x → (ps.map pairD)[i]? = some d → Dat H x d := fun i x d e1 e2 => by
  obtain ⟨p, a, ep, rfl, ea⟩ := prs_at h e1
  rw [List.getElem?_map, ep] at e2
  have ed : pairD p = d := Option.some.inj e2
  rw [← ed]
  refine .tup ea rfl fun j y d f1 f2 => ?_
  have hj : j < 2 := (List.getElem?_eq_some_iff.mp f1).1
  have : j = 0 ∨ j = 1 := by omega
  rcases this with rfl | rfl
  · cases f1; cases f2; exact .int _
  · cases f1; cases f2; exact .int _
theorem sm_prs {ps : List (Int × Int)} (h : ps.length ≤ 900) : Sm 2 (.list (ps.map pairD)) := by
  refine ⟨by rw [List.length_map]; exact h, fun d hd => ?_⟩
  obtain ⟨p, _, rfl⟩ := List.mem_map.mp hd
  exact ⟨by show 2 ≤ 900; decide, fun d hd => by
    rcases List.mem_cons.mp hd with e | e
    · rw [e]; trivial
    · rw [List.mem_singleton.mp e]; trivial⟩
theorem ints_dat {H : Hp} {a : Addr} {ns : List Int} (e : H a = some (.lst (ns.map V.int))) : Dat H (.ref a) (.list (ns.map PyData.int)) := .lst e (by rw [List.length_map, List.length_map]) fun i x d e1 e2 => by
  rw [List.getElem?_map] at e1 e2
  cases h : ns[i]? with
  | none => rw [h] at e1; cases e1
  | some n =>
    rw [h] at e1 e2
    cases e1
    cases e2
    exact .int n
theorem sm_ints {ns : List Int} (h : ns.length ≤ 900) : Sm 1 (.list (ns.map PyData.int)) := by
  refine ⟨by rw [List.length_map]; exact h, fun d hd => ?_⟩
  obtain ⟨p, _, rfl⟩ := List.mem_map.mp hd
  trivial

def SqH (H : Hp) (a : Addr) (xs : List V) : Prop := H a = some (.lst xs) ∨ H a = some (.tup xs)

/-! ### defs that are called while nothing is being shown: str of lists within lists -/
/-- a def keeps its promise where nothing is being shown -/
structure FnG (P : Program) (w : World) (K : PySem.W.Frag) (mg : Str → Option Value) (base : Heap) (CX : CXT) (k : Nat) (f : Addr) (fd : FuncData) (ps : List Str) (sp : Sp) : Prop where
  len : ∀ (vs : List V) (H : Hp) (Q : VK) (E : XK), sp vs H Q E → vs.length = ps.length
  run : ∀ (A : Around) (outer : List Env) (s : Shared) (H : Hp) (args : Args) (us : List Value) (vs : List V) (Q : VK) (E : XK), A.guards = some [] → Room k A → Env0 P w K mg base A outer s H → BindsTo s fd args (ps.zip us) → Vals vs us → sp vs H Q E → codeAny (model P w) A (Code.call (Value.ref f) args) (CR CX outer P w H s Q E) s
section
variable {CX : CXT} {P : Program} {w : World} {K : PySem.W.Frag} {mg : Str → Option Value} {base : Heap} {k : Nat}
theorem FnG.of {f : Addr} {fd : FuncData} {ps : List Str} {sp : Sp} (F : FnOk P w K mg base CX k f fd ps sp) : FnG P w K mg base CX k f fd ps sp :=
  ⟨F.len, fun A outer s H args us vs Q E _ hr e0 hb r hsp => F.run A outer s H args us vs Q E hr e0 hb r hsp⟩
theorem fn_ofG {f : Addr} {name qual : Str} {params : Arguments} {body : List Stmt} {scope : Scope} {dV kV doc pm cdv ct oc : Value} {an od : Option Addr} {osl : Array (Option Value)} {N ps : List Str} {sp : Sp}
    (lk : List.lookup f K = some { cls := oc, dict := od, data := Data.func (PySem.W.fnOf name qual params body scope dV kV doc pm an cdv ct), slots := osl }) (hcd : PySem.W.codeIn K cdv qual = true) (S : FnScope N ps scope)
    (len : ∀ (vs : List V) (H : Hp) (Q : VK) (E : XK), sp vs H Q E → vs.length = ps.length)
    (hbody : ∀ (A : Around) (outer : List Env) (s : Shared) (H : Hp) (vs : List V) (Q : VK) (E : XK), A.guards = some [] → Room k (A.deeper (PyProof.Rows.envOfC qual scope s.heap.objs.size f cdv)) → sp vs H Q E →
      ∃ t, PSs (cxOf CX P w K mg base N qual scope f cdv A outer s H E) body t ∧ t { nx := fun _ H' => Q V.non H', rt := Q } (L2.start N vs) H) :
    FnG P w K mg base CX (k + 1) f (PySem.W.fnOf name qual params body scope dV kV doc pm an cdv ct) ps sp := by
  refine ⟨len, fun A outer s H args us vs Q E hgd hr e0 hb r hsp => ?_⟩
  have hl := len vs H Q E hsp
  have KX := PySem.W.Frag.In.keeps e0.mod.kin fun b o e => (e0.bs b o e).1
  have lim := Heap.NoLimit.keeps e0.mod.nolimit fun b o e => (e0.bs b o e).1
  refine codeAny_call_function (Room.depth hr) (KX f _ lk) rfl S.co S.gen rfl (PySem.W.codeRec_of KX hcd) (hb (model P w) A.in1 _ _ (wpAny_newFunctionEnv_cells S.kind (fun x hy => ?_) fun env he s1 x => ?_))
  · obtain ⟨n, v⟩ := x
    rcases S.par n (List.of_mem_zip hy).1 with q | q
    · exact .inl q
    · exact .inr ⟨q, PySem.W.cellsFrom_some scope.names _ [] (.inl q)⟩
  · subst he
    refine ⟨Heap.NoLimit.keeps lim x.toInCall.keep, codeAny_func ?_⟩
    obtain ⟨t, ht, hq⟩ := hbody A outer s H vs Q E hgd (Room.deeper hr _) hsp
    have I := inv_start (CX := CX) (E := E) S hr.hd e0 hl r x
    refine wpAny_mono (ht.run [] s1 (L2.start N vs) H _ I hq) (fun fl s' hs => ?_) (fun e s' hs => hs)
    cases fl with
    | ret u =>
      obtain ⟨v, σ', H', J, rv, q⟩ := hs
      exact ⟨v, H', J.os, J.bare, J.base, J.hok, rv, q⟩
    | next =>
      obtain ⟨σ', H', J, q⟩ := hs
      exact ⟨V.non, H', J.os, J.bare, J.base, J.hok, rfl, q⟩
    | _ =>
      obtain ⟨_, _, _, q⟩ := hs
      exact q.elim
theorem Fun_okG {x qual : Str} {st : Stmt} {f : Addr} {fd : FuncData} {N ps : List Str} {sp : Sp} (F : Fun K x qual st f fd) (S : FnScope N ps (defScope st))
    (len : ∀ (vs : List V) (H : Hp) (Q : VK) (E : XK), sp vs H Q E → vs.length = ps.length)
    (hbody : ∀ (cdv : Value) (A : Around) (outer : List Env) (s : Shared) (H : Hp) (vs : List V) (Q : VK) (E : XK), A.guards = some [] → Room k (A.deeper (PyProof.Rows.envOfC qual (defScope st) s.heap.objs.size f cdv)) → sp vs H Q E →
      ∃ t, PSs (cxOf CX0 P w K mg base N qual (defScope st) f cdv A outer s H E).nox (defBody st) t ∧ t { nx := fun _ H' => Q V.non H', rt := Q } (L2.start N vs) H) :
    FnG P w K mg base CX0 (k + 1) f fd ps sp := by
  obtain ⟨oc, od, kV, doc, pm, an, cdv, ct, osl, rfl, lk, hcd⟩ := F.ex
  refine fn_ofG lk hcd S len fun A outer s H vs Q E hg hr hsp => ?_
  obtain ⟨t, h, q⟩ := hbody cdv A outer s H vs Q E hg hr hsp
  exact ⟨t, PSs.nox h, q⟩
end
theorem run_fnG {X : Cx} {CX : CXT} {k : Nat} {f : Addr} {fd : FuncData} {ps : List Str} {sp : Sp} {dvs : List V} {ds : List Value} {E : XK} {pins : List (Addr × Obj)} {σ : L2.St} {H : Hp} {s : Shared} {Q : VK} {us : List Value} {vs : List V}
    (F : FnG X.prog X.w X.K X.mg X.base CX k f fd ps sp) (hgd : X.A.guards = some []) (hr : Room k X.A) (hb : Binds X.K fd ps ds) (hd : Vals dvs ds) (hx : Passes CX X E) (I : L2.Inv X pins σ H s) (r : Vals vs us) (h : sp (vs ++ dvs) H Q E) :
    wpAny (model X.prog X.w) X.A (call (Value.ref f) us) (EP X pins σ Q) X.xe s := by
  have r2 := Vals.append r hd
  have hl : (us ++ ds).length = ps.length := by rw [← Vals.length r2]; exact F.len _ _ _ _ h
  refine wpAny_call (codeAny_mono (F.run X.A X.stack s H _ _ _ Q E hgd hr (Inv.env0 I) (hb s us (Inv.kIn I) hl) r2 h) fun r s' hq => ?_)
  cases r with
  | error e => exact hx pins σ H s e s' I hq
  | ok fl =>
    cases fl with
    | ret u => exact Inv.after I hq
    | _ => exact hq.elim
/-- a def of the text that keeps a promise where nothing is being shown, as its callers see it -/
def CalG (P : Program) (w : World) (K : PySem.W.Frag) (mg : Str → Option Value) (base : Heap) (k : Nat) (x : Str) (ps : List Str) (sp : Sp) : Prop :=
  ∃ f fd, FnG P w K mg base CX0 k f fd ps sp ∧ mg x = some (.ref f) ∧ PySem.W.keepIn K (.ref f) = true ∧ Binds K fd ps []
theorem pe_ownG {X : Cx} {k : Nat} {x : Str} {ps : List Str} {sp : Sp} {e : Expr} {es : List Expr} {t : TA} {p pos : Pos} (C : CalG X.prog X.w X.K X.mg X.base k x ps sp) (hgd : X.A.guards = some []) (hr : Room k X.A) (hg : Gl X x) (ha : PA X (e :: es) t)
    (dbg : (x == ("__debug__" : Str)) = false := by decide) (one : starEach (e :: es) X.env = (false, eval e X.env) :: starEach es X.env := by rfl) (star : (backTo pos (starEach es X.env)).any (·.1) = false := by rfl) :
    PE X (.Call (.Name x p) (e :: es) [] pos) (tCall sp [] E0 t) := by
  obtain ⟨f, fd, F, hm, hk, hb⟩ := C
  refine ⟨fun pins s σ H Q I h => wpAny_Call_Name_kw (ld_glob I hg hm (PySem.W.callWith_K I.ok.mod.kin hk (thn (ha.run pos pins s σ H _ I h) fun us s1 z => ?_) one star) dbg)⟩
  obtain ⟨vs, H1, I1, r, q⟩ := z
  exact ⟨Inv.kIn I1, run_fnG F hgd hr hb .nil pass0 I1 r q⟩
/-- str of data -/
def rStrD (K : PySem.W.Frag) : List V → Hp → VK → Prop := fun xs H Q => ∃ (a : Addr) (d : PyData), xs = [.ref a] ∧ Dp K H (.ref a) d ∧ d.showable = true ∧ d.hasDict = false ∧ d.depth ≤ 8 ∧ d.shown.length ≤ sizeLine ∧ Q (.str d.shown) H
theorem cr_strD {X : Cx} (hg : X.A.guards = some []) (hu : X.A.units + 11 < cLine) : CallR X (.type "str") (rStrD X.K) := fun pins s σ H xs us Q I hv h => by
  obtain ⟨a, d, rfl, hd, h1, h2, h3, h4, q⟩ := h
  cases hv with
  | cons ru hn =>
    cases hn
    cases ru
    obtain ⟨as, hR⟩ := Dp.reads I d (.ref a) (.ref a) hd rfl
    exact str_of_reads hR h1 (fun z => by rw [h2] at z; cases z) hg (by omega) (fun b o e => e) (fun h' u tk keep => ⟨.str d.shown, H, I.kept keep, ⟨u, rfl⟩, q⟩) h4
/-! ### the end -/
theorem law_callG {P : Program} {w : World} {K : PySem.W.Frag} {mg mb : Str → Option Value} {CX : CXT} {k : Nat} {fa a : Addr} {fd : FuncData} {x : Str} {sp : Sp} {s₁ : Shared} {vs : List Value} {ns : List Int}
    (KX : K.In s₁.heap) (hns : s₁.heap.Ns mainGlobals mg) (hb : s₁.heap.Ns builtinsNs mb) (hbb : ∀ (x : Str), x ≠ Str.ofString "__name__" → mb x = bootBuiltins x) (hlim : s₁.heap.NoLimit) (hg : s₁.gens = #[])
    (ha : s₁.heap.get? a = some { cls := Value.type "list", data := Data.seq vs.toArray }) (hi : PyProof.Rows.IntsAre vs ns) (hl : ns.length ≤ sizeLine) (hr : Room k callerA)
    (F : ∀ (base : Heap), K.In base → base.Ns mainGlobals mg → FnG P w K mg base CX k fa fd [x] sp) (hbind : ∀ (s : Shared) (u : Value), BindsTo s fd { pos := [u] } [(x, u)])
    (hsp : ∀ (H : Hp), Only H → SqL K H a (List.map V.int ns) → sp [V.ref a] H (fun v _ => v = V.bl true) fun _ _ _ => False) (hCX : ∀ (H : Hp) (e : Value) (s' : Shared), CX [] H s₁ (fun _ _ _ => False) e s' → False) :
    codeAny (model P w) callerA (Code.call (Value.ref fa) { pos := [Value.ref a] }) (fun r s' => r = Except.ok (Flow.ret (Value.bool true)) ∧ OldK s₁.heap s'.heap ∧ s'.os = s₁.os ∧ PyProof.Rows.AllBare s'.gens) s₁ := by
  have rv := vals_ints hi
  have lenV := PyProof.Rows.IntsAre.length hi
  have core : ∀ H : Hp, Only H → SqL K H a (List.map V.int ns) → HOk P w H s₁.heap → (∀ b, H b ≠ none → b = a) → (H a ≠ none → List.lookup a K = none) →
      codeAny (model P w) callerA (Code.call (Value.ref fa) { pos := [Value.ref a] }) (fun r s' => r = Except.ok (Flow.ret (Value.bool true)) ∧ OldK s₁.heap s'.heap ∧ s'.os = s₁.os ∧ PyProof.Rows.AllBare s'.gens) s₁ := by
    intro H hO hS hok hA hK
    have isA : ∀ {b : Addr} {u : HO}, H b = some u → b = a := fun {b u} hh => hA b (by rw [hh]; exact fun z => nomatch z)
    have noA : ∀ {b : Addr} {o : Obj} {es ep}, s₁.heap.get? b = some o → o.data = Data.dict es ep → H b = none := by
      intro b o es ep e d
      cases hh : H b with
      | none => rfl
      | some u =>
        rw [isA hh, ha] at e
        rw [← Option.some.inj e] at d
        cases d
    have nsK : ∀ {b : Addr} {m : Str → Option Value}, s₁.heap.Ns b m → (hidT s₁.heap H).Ns b m := fun {b m} z => by
      obtain ⟨o, es, ep, e, d, r⟩ := z
      exact ⟨o, es, ep, hidT_get e (noA e d), d, r⟩
    have hKb : K.In (hidT s₁.heap H) := fun b o e => hidT_get (KX b o e) (by
      cases hh : H b with
      | none => rfl
      | some u =>
        rw [isA hh, hK (by rw [isA hh] at hh; rw [hh]; exact fun z => nomatch z)] at e
        cases e)
    have hM : L2.Mod K mg (hidT s₁.heap H) := ⟨hKb, nsK hns, ⟨mb, nsK hb, hbb⟩, let ⟨mc, h1, h2⟩ := hlim; ⟨mc, nsK h1, h2⟩⟩
    have e0 : Env0 P w K mg (hidT s₁.heap H) callerA [] s₁ H := ⟨rfl, hM, fun b o e => of_hidT e, Nat.le_of_eq (hidT_size ..), trivial, fun b hb => (nomatch hb), hok, .of_eq hg⟩
    refine codeAny_mono ((F _ hKb (nsK hns)).run callerA [] s₁ H ⟨[.ref a], []⟩ [.ref a] [.ref a] (fun v _ => v = .bl true) (fun _ _ _ => False) rfl hr e0 (hbind s₁ (.ref a)) (.cons rfl .nil) (hsp H hO hS)) fun r s' h => ?_
    cases r with
    | error e => exact (hCX H e s' h).elim
    | ok fl =>
      cases fl with
      | ret u =>
        obtain ⟨v, H', os, bare, un, hok', r', q⟩ := h
        subst q
        cases r'
        refine ⟨rfl, OldK.of_keep fun b o e => ?_, os, bare⟩
        cases hh : H b with
        | none => exact un.keep b o e hh (fun z => nomatch z) (fun z => nomatch z)
        | some u =>
          rcases hO b with z | ⟨ob, xs, z⟩
          · rw [z] at hh; cases hh
          · have z2 := un.frzs b ob (HO.lst xs) z
            have e1 := (hok b _ z).1
            have e2 := (hok' b _ z2).1
            rw [e] at e1
            rw [Option.some.inj e1]
            exact e2
      | _ => exact h.elim
  cases hk : List.lookup a K with
  | none =>
    have at_a : (fun b => if b = a then some (HO.frz { cls := Value.type "list", data := Data.seq vs.toArray } (HO.lst (List.map V.int ns))) else none : Hp) a = some (HO.frz { cls := Value.type "list", data := Data.seq vs.toArray } (HO.lst (List.map V.int ns))) := if_pos rfl
    refine core (fun b => if b = a then some (HO.frz { cls := Value.type "list", data := Data.seq vs.toArray } (HO.lst (List.map V.int ns))) else none) (fun b => ?_) (.inl (.inr ⟨_, at_a⟩)) (fun b u z => ?_) (fun b z => ?_) (fun _ => hk)
    · by_cases hb : b = a
      · exact .inr ⟨_, _, if_pos hb⟩
      · exact .inl (if_neg hb)
    · by_cases hb : b = a
      · have z' := Eq.trans (Eq.symm (if_pos hb)) z
        cases z'
        subst hb
        exact ⟨ha, by rw [List.length_map]; exact hl, vs, 0, rv, ha⟩
      · have z' := Eq.trans (Eq.symm (if_neg hb)) z
        cases z'
    · by_cases hb : b = a
      · exact hb
      · exact absurd (if_neg hb) z
  | some o =>
    have e := KX a o hk
    rw [ha] at e
    cases e
    exact core (fun _ => none) (fun _ => .inl rfl) (.inr ⟨_, vs.toArray, 0, hk, rfl, rfl, rfl, by rw [List.size_toArray, lenV]; exact hl, rv⟩) (fun b u z => nomatch z) (fun b z => absurd rfl z) (fun z => absurd rfl z)
def LawAtG (l : PySem.W.OpenLaw) (w : World) (K : PySem.W.Frag) (k : Nat) (mg : Str → Option Value) (fa : Addr) : Prop :=
  ∃ (fd : FuncData) (sp : Sp), (∀ (s : Shared) (u : Value), BindsTo s fd { pos := [u] } [("_law_script", u)]) ∧ (∀ (H : Hp) (a : Addr) (ns : List Int), ns.length ≤ 63 → SqL K H a (List.map V.int ns) → sp [V.ref a] H (fun v _ => v = V.bl true) fun _ _ _ => False) ∧
    ∀ (base : Heap), K.In base → base.Ns mainGlobals mg → FnG l.prog w K mg base CX0 k fa fd ["_law_script"] sp
theorem law_endG {l : PySem.W.OpenLaw} {k : Nat} {q : Program} {loose : List Str} {XP : (Str → Option Value) → Heap → Prop} {YP : World → Heap → Prop} {d : DefRec} {K : Params → PySem.W.Frag} (most : l.most = some 63) (plain : d.params.defaults = []) (room : Room k callerA)
    (part : ∀ w h, YP w h → (K w.params).In h) (made : ∀ (w : World) (mg : Str → Option Value) (f : Addr) (h : Heap), (K w.params).In h → h.Ns mainGlobals mg → mg d.name = some (.ref f) → LawAtG l w (K w.params) k mg f) : PySem.W.WalkO q loose XP YP l.row.toRowW d [] (fun f vs => PySem.call f vs) := by
  refine Att.attach_callB most plain ?_
  intro w _ s₁ mg _ f _ _ _ _ a vs ns ground said _ _ _ name script nums len size still
  have X := part w _ said
  obtain ⟨fd, sp, e4, e5, e6⟩ := made w mg f _ X ground.T.g name
  exact law_callG X ground.T.g ground.T.b ground.T.builtins ground.T.nolimit still script nums (Nat.le_trans len (by decide)) room e6 e4 (fun H z1 z2 => e5 H a ns len z2) fun _ _ _ z => z

/-- an expression, then a word of what it gives: what follows is shown once -/
def tMid (te : TE) : TE := fun σ H Q => ∃ M : V → Hp → Prop, te σ H M ∧ ∀ v H', M v H' → Q v H'
theorem pe_mid {X : Cx} {e : Expr} {te : TE} (h : PE X e te) : PE X e (tMid te) := ⟨fun pins s σ H Q I ⟨M, h1, h2⟩ => thn (h.run pins s σ H M I h1) fun _ _ ⟨y, H1, I1, r, q⟩ => ⟨y, H1, I1, r, h2 _ _ q⟩⟩

/-! ### things as data; of the lists among them this holds -/
inductive DatN (N : Addr → Prop) (H : Hp) : V → PyData → Prop
  | non : DatN N H .non .none
  | bl (b : Bool) : DatN N H (.bl b) (.bool b)
  | int (i : Int) : DatN N H (.int i) (.int i)
  | str (x : Str) : DatN N H (.str x) (.str x)
  | lst {a : Addr} {xs : List V} {ds : List PyData} : N a → H a = some (.lst xs) → xs.length = ds.length → (∀ (i : Nat) x d, xs[i]? = some x → ds[i]? = some d → DatN N H x d) → DatN N H (.ref a) (.list ds)
  | tup {a : Addr} {xs : List V} {ds : List PyData} : H a = some (.tup xs) → xs.length = ds.length → (∀ (i : Nat) x d, xs[i]? = some x → ds[i]? = some d → DatN N H x d) → DatN N H (.ref a) (.tuple ds)
/-- tuples stay, and the lists of which this holds -/
structure Kps (N : Addr → Prop) (H H' : Hp) : Prop where
  tup : ∀ a xs, H a = some (.tup xs) → H' a = some (.tup xs)
  lst : ∀ a xs, N a → H a = some (.lst xs) → H' a = some (.lst xs)
theorem Kps.same {N : Addr → Prop} {H H' : Hp} (s : Same H H') : Kps N H H' := ⟨fun a xs e => s a _ e, fun a xs _ e => s a _ e⟩
theorem Kps.kp {N : Addr → Prop} {H H' : Hp} {d c : Addr} {t : Int} (k : Kp d c H H') (S : StAt H d c t) (hN : ∀ a, N a → a ≠ c) : Kps N H H' :=
  ⟨fun a xs e => k.tup S e, fun a xs n e => k a _ (fun z => by rw [z, S.dict] at e; cases e) (hN a n) e⟩
theorem Kps.upd {N : Addr → Prop} {H : Hp} {D : Addr} {ys : List V} {o : HO} (e : H D = some (.lst ys)) (hN : ∀ a, N a → a ≠ D) : Kps N H (upd H D o) :=
  ⟨fun a xs f => by rw [upd_ne (ne_of f e (fun z => nomatch z))]; exact f, fun a xs n f => by rw [upd_ne (hN a n)]; exact f⟩
theorem Kps.upd_dK {N : Addr → Prop} {H : Hp} {D : Addr} {ks : List (Key × V)} {o : HO} (e : H D = some (.dK ks)) : Kps N H (L2.upd H D o) :=
  ⟨fun a xs f => by rw [upd_ne (ne_of f e (fun z => nomatch z))]; exact f, fun a xs n f => by rw [upd_ne (ne_of f e (fun z => nomatch z))]; exact f⟩
theorem Kps.trans {N : Addr → Prop} {H H1 H2 : Hp} (a : Kps N H H1) (b : Kps N H1 H2) : Kps N H H2 := ⟨fun x xs e => b.tup x xs (a.tup x xs e), fun x xs n e => b.lst x xs n (a.lst x xs n e)⟩
theorem DatN.keep {N : Addr → Prop} {H H' : Hp} {v : V} {d : PyData} (h : DatN N H v d) (k : Kps N H H') : DatN N H' v d := by
  induction h with
  | non => exact .non
  | bl b => exact .bl b
  | int i => exact .int i
  | str x => exact .str x
  | lst n e l _ ih => exact .lst n (k.lst _ _ n e) l ih
  | tup e l _ ih => exact .tup (k.tup _ _ e) l ih
theorem DatN.same {N : Addr → Prop} {H H' : Hp} {v : V} {d : PyData} (h : DatN N H v d) (s : Same H H') : DatN N H' v d := h.keep (.same s)
theorem DatN.weak {N N' : Addr → Prop} {H : Hp} {v : V} {d : PyData} (h : DatN N H v d) (w : ∀ a xs, N a → H a = some (.lst xs) → N' a) : DatN N' H v d := by
  induction h with
  | non => exact .non
  | bl b => exact .bl b
  | int i => exact .int i
  | str x => exact .str x
  | lst n e l _ ih => exact .lst (w _ _ n e) e l ih
  | tup e l _ ih => exact .tup e l ih
theorem DatN.dat {N : Addr → Prop} {H : Hp} {v : V} {d : PyData} (h : DatN N H v d) : Dat H v d := by
  induction h with
  | non => exact .non
  | bl b => exact .bl b
  | int i => exact .int i
  | str x => exact .str x
  | lst n e l _ ih => exact .lst e l ih
  | tup e l _ ih => exact .tup e l ih
theorem dpAll_of {K : PySem.W.Frag} {H : Hp} : ∀ {xs : List V} {ds : List PyData}, xs.length = ds.length → (∀ (i : Nat) x d, xs[i]? = some x → ds[i]? = some d → Dp K H x d) → DpAll K H xs ds
  | [], [], _, _ => .nil
  | [], _ :: _, e, _ => nomatch e
  | _ :: _, [], e, _ => nomatch e
  | x :: xs, d :: ds, e, h => .cons (h 0 x d rfl rfl) (dpAll_of (Nat.succ.inj e) fun i y c e1 e2 => h (i + 1) y c e1 e2)
theorem DatN.dp {K : PySem.W.Frag} {N : Addr → Prop} {H : Hp} {v : V} {d : PyData} (h : DatN N H v d) : Dp K H v d := by
  induction h with
  | non => exact .non
  | bl b => exact .bl b
  | int i => exact .int i
  | str x => exact .str x
  | lst n e l _ ih => exact .lst (SqL.of e) (dpAll_of l ih)
  | tup e l _ ih => exact .tup (.inl (.inl e)) (dpAll_of l ih)
/-- things one by one as data -/
def EchN (N : Addr → Prop) (H : Hp) (xs : List V) (ds : List PyData) : Prop := xs.length = ds.length ∧ ∀ (i : Nat) x d, xs[i]? = some x → ds[i]? = some d → DatN N H x d
theorem EchN.keep {N : Addr → Prop} {H H' : Hp} {xs : List V} {ds : List PyData} (h : EchN N H xs ds) (k : Kps N H H') : EchN N H' xs ds := ⟨h.1, fun i x d e1 e2 => (h.2 i x d e1 e2).keep k⟩
theorem EchN.same {N : Addr → Prop} {H H' : Hp} {xs : List V} {ds : List PyData} (h : EchN N H xs ds) (s : Same H H') : EchN N H' xs ds := h.keep (.same s)
theorem EchN.weak {N N' : Addr → Prop} {H : Hp} {xs : List V} {ds : List PyData} (h : EchN N H xs ds) (w : ∀ a xs, N a → H a = some (.lst xs) → N' a) : EchN N' H xs ds := ⟨h.1, fun i x d e1 e2 => (h.2 i x d e1 e2).weak w⟩
theorem EchN.nil {N : Addr → Prop} {H : Hp} : EchN N H [] [] := ⟨rfl, fun _ _ _ e => nomatch e⟩
theorem EchN.cons {N : Addr → Prop} {H : Hp} {x : V} {d : PyData} {xs : List V} {ds : List PyData} (h : DatN N H x d) (hr : EchN N H xs ds) : EchN N H (x :: xs) (d :: ds) :=
  ⟨congrArg (· + 1) hr.1, fun i y e e1 e2 => by
    cases i with
    | zero => cases e1; cases e2; exact h
    | succ i => exact hr.2 i y e e1 e2⟩
theorem EchN.one {N : Addr → Prop} {H : Hp} {x : V} {d : PyData} (h : DatN N H x d) : EchN N H [x] [d] := .cons h .nil
theorem getElem?_two {α β : Type} {xs ys : List α} {us ws : List β} (l : xs.length = us.length) {i : Nat} {x : α} {u : β} (e1 : (xs ++ ys)[i]? = some x) (e2 : (us ++ ws)[i]? = some u) : (xs[i]? = some x ∧ us[i]? = some u) ∨ (ys[i - xs.length]? = some x ∧ ws[i - xs.length]? = some u) := by
  by_cases hi : i < xs.length
  · rw [List.getElem?_append_left hi] at e1
    rw [List.getElem?_append_left (by omega)] at e2
    exact .inl ⟨e1, e2⟩
  · rw [List.getElem?_append_right (by omega)] at e1 e2
    rw [← l] at e2
    exact .inr ⟨e1, e2⟩
theorem EchN.app {N : Addr → Prop} {H : Hp} {xs ys : List V} {ds es : List PyData} (h : EchN N H xs ds) (h' : EchN N H ys es) : EchN N H (xs ++ ys) (ds ++ es) :=
  ⟨by rw [List.length_append, List.length_append, h.1, h'.1], fun i v p e1 e2 => (getElem?_two h.1 e1 e2).elim (fun z => h.2 i v p z.1 z.2) (fun z => h'.2 _ v p z.1 z.2)⟩
theorem EchN.snoc {N : Addr → Prop} {H : Hp} {xs : List V} {ds : List PyData} {x : V} {d : PyData} (h : EchN N H xs ds) (h' : DatN N H x d) : EchN N H (xs ++ [x]) (ds ++ [d]) := h.app (.one h')
theorem EchN.at {N : Addr → Prop} {H : Hp} {xs : List V} {ds : List PyData} {i : Nat} {x : V} (h : EchN N H xs ds) (e : xs[i]? = some x) : ∃ d, ds[i]? = some d ∧ DatN N H x d := by
  have hi : i < ds.length := by rw [← h.1]; exact (List.getElem?_eq_some_iff.mp e).1
  exact ⟨_, List.getElem?_eq_getElem hi, h.2 i x _ e (List.getElem?_eq_getElem hi)⟩
theorem EchN.atM {α : Type} {N : Addr → Prop} {H : Hp} {xs : List V} {f : α → PyData} {ys : List α} {i : Nat} {x : V} (h : EchN N H xs (ys.map f)) (e : xs[i]? = some x) : ∃ y, ys[i]? = some y ∧ DatN N H x (f y) := by
  obtain ⟨d, e1, e2⟩ := h.at e
  rw [List.getElem?_map] at e1
  cases h : ys[i]? with
  | none => rw [h] at e1; cases e1
  | some y => rw [h] at e1; cases e1; exact ⟨y, rfl, e2⟩
theorem DatN.list {N : Addr → Prop} {H : Hp} {v : V} {ds : List PyData} (h : DatN N H v (.list ds)) : ∃ a xs, v = .ref a ∧ N a ∧ H a = some (.lst xs) ∧ EchN N H xs ds := by
  cases h with
  | lst n e l r => exact ⟨_, _, rfl, n, e, l, r⟩
theorem DatN.tuple {N : Addr → Prop} {H : Hp} {v : V} {ds : List PyData} (h : DatN N H v (.tuple ds)) : ∃ a xs, v = .ref a ∧ H a = some (.tup xs) ∧ EchN N H xs ds := by
  cases h with
  | tup e l r => exact ⟨_, _, rfl, e, l, r⟩
theorem EchN.lst {N : Addr → Prop} {H : Hp} {a : Addr} {xs : List V} {ds : List PyData} (h : EchN N H xs ds) (n : N a) (e : H a = some (.lst xs)) : DatN N H (.ref a) (.list ds) := .lst n e h.1 h.2
theorem EchN.tup {N : Addr → Prop} {H : Hp} {a : Addr} {xs : List V} {ds : List PyData} (h : EchN N H xs ds) (e : H a = some (.tup xs)) : DatN N H (.ref a) (.tuple ds) := .tup e h.1 h.2
theorem EchN.inv {N : Addr → Prop} {H : Hp} {xs : List V} {d : PyData} {ds : List PyData} (h : EchN N H xs (d :: ds)) : ∃ x xs', xs = x :: xs' ∧ DatN N H x d ∧ EchN N H xs' ds := by
  cases xs with
  | nil => exact nomatch h.1
  | cons x xs => exact ⟨x, xs, rfl, h.2 0 x d rfl rfl, Nat.succ.inj h.1, fun i y e e1 e2 => h.2 (i + 1) y e e1 e2⟩
theorem EchN.inv0 {N : Addr → Prop} {H : Hp} {xs : List V} (h : EchN N H xs []) : xs = [] := List.eq_nil_of_length_eq_zero h.1
theorem DatN.inv_int {N : Addr → Prop} {H : Hp} {v : V} {i : Int} (h : DatN N H v (.int i)) : v = .int i := by cases h; rfl
theorem DatN.inv_str {N : Addr → Prop} {H : Hp} {v : V} {x : Str} (h : DatN N H v (.str x)) : v = .str x := by cases h; rfl
theorem DatN.inv_non {N : Addr → Prop} {H : Hp} {v : V} (h : DatN N H v .none) : v = .non := by cases h; rfl
theorem DatN.inv_bl {N : Addr → Prop} {H : Hp} {v : V} {b : Bool} (h : DatN N H v (.bool b)) : v = .bl b := by cases h; rfl
theorem echN_ints {N : Addr → Prop} {H : Hp} (ns : List Int) : EchN N H (ns.map V.int) (ns.map PyData.int) := ⟨by rw [List.length_map, List.length_map], fun i x d e1 e2 => by
  rw [List.getElem?_map] at e1 e2
  cases h : ns[i]? with
  | none => rw [h] at e1; cases e1
  | some n =>
    rw [h] at e1 e2
    cases e1
    cases e2
    exact .int n⟩
theorem echN_strs {N : Addr → Prop} {H : Hp} (ns : List Str) : EchN N H (ns.map V.str) (ns.map PyData.str) := ⟨by rw [List.length_map, List.length_map], fun i x d e1 e2 => by
  rw [List.getElem?_map] at e1 e2
  cases h : ns[i]? with
  | none => rw [h] at e1; cases e1
  | some n =>
    rw [h] at e1 e2
    cases e1
    cases e2
    exact .str n⟩
theorem EchN.ints {N : Addr → Prop} {H : Hp} : ∀ {xs : List V} {ns : List Int}, EchN N H xs (ns.map PyData.int) → xs = ns.map V.int
  | _, [], h => h.inv0
  | _, n :: r, h => by
    obtain ⟨x, xs', rfl, h1, h2⟩ := EchN.inv h
    rw [h1.inv_int, EchN.ints h2]
    rfl
theorem EchN.strs {N : Addr → Prop} {H : Hp} : ∀ {xs : List V} {ns : List Str}, EchN N H xs (ns.map PyData.str) → xs = ns.map V.str
  | _, [], h => h.inv0
  | _, n :: r, h => by
    obtain ⟨x, xs', rfl, h1, h2⟩ := EchN.inv h
    rw [h1.inv_str, EchN.strs h2]
    rfl
/-- pairs of whole numbers -/
theorem _root_.GP.Prs.ech {N : Addr → Prop} {H : Hp} {us : List V} {ps : List (Int × Int)} (h : Prs H us ps) : EchN N H us (ps.map pairD) := ⟨by rw [List.length_map]; exact h.1, fun i x d e1 e2 => by
  obtain ⟨p, a, ep, rfl, ea⟩ := prs_at h e1
  rw [List.getElem?_map, ep] at e2
  cases e2
  exact EchN.tup (.cons (.int _) (.one (.int _))) ea⟩
theorem EchN.prs {N : Addr → Prop} {H : Hp} {us : List V} {ps : List (Int × Int)} (h : EchN N H us (ps.map pairD)) : Prs H us ps := ⟨by have := h.1; rwa [List.length_map] at this, fun i p ep => by
  have hi : i < us.length := by
    rw [h.1, List.length_map]
    exact (List.getElem?_eq_some_iff.mp ep).1
  obtain ⟨y, e1, e2⟩ := h.atM (List.getElem?_eq_getElem hi)
  rw [ep] at e1
  cases e1
  obtain ⟨a, xs, ev, ea, r⟩ := e2.tuple
  obtain ⟨x1, r1, rfl, d1, r2⟩ := r.inv
  obtain ⟨x2, r3, rfl, d2, r4⟩ := r2.inv
  rw [r4.inv0, d1.inv_int, d2.inv_int] at ea
  exact ⟨a, by rw [List.getElem?_eq_getElem hi, ev], ea⟩⟩
/-- new since then -/
abbrev NewIn (H : Hp) : Addr → Prop := fun a => H a = none
def setD (ps : List (Int × Int)) : PyData := .list (ps.map pairD)
/-! ### what can be shown -/
structure Shw (n w : Nat) (d : PyData) : Prop where
  sh : d.showable = true
  nd : d.hasDict = false
  dp : d.depth ≤ n
  ls : d.leavesShort 40 = true
  wt : d.weight ≤ w
theorem Shw.mono {n w n' w' : Nat} {d : PyData} (h : Shw n w d) (h1 : n ≤ n') (h2 : w ≤ w') : Shw n' w' d := ⟨h.sh, h.nd, Nat.le_trans h.dp h1, h.ls, Nat.le_trans h.wt h2⟩
theorem Shw.int {n : Nat} {i : Int} (h : i.natAbs < 10 ^ 39) : Shw n 131 (.int i) := by
  refine ⟨?_, by rw [PyData.hasDict], by rw [PyData.depth]; omega, ?_, ?_⟩
  · rw [PyData.showable]
    by_cases z : i.natAbs = 0
    · rw [z]; decide
    · exact decide_eq_true (Nat.lt_trans ((Nat.log2_lt (k := 130) z).mpr (Nat.lt_trans h (by decide))) (by decide))
  · rw [PyData.leavesShort]
    have e := int_text_length_le10 (k := 39) (by decide) h
    refine decide_eq_true ?_
    show (Str.ofString (toString i)).length ≤ 40
    rw [PySem.ofString_length]
    exact e
  · rw [PyData.weight]
    split
    · omega
    · by_cases z : i.natAbs = 0
      · rw [z]; decide
      · have : i.natAbs.log2 < 130 := (Nat.log2_lt z).mpr (Nat.lt_trans h (by decide))
        omega
theorem Shw.str {n w : Nat} {x : Str} (h : PyData.strOk x = true) (hl : x.length ≤ w) : Shw n w (.str x) := by
  refine ⟨by rw [PyData.showable], by rw [PyData.hasDict], by rw [PyData.depth]; omega, ?_, by rw [PyData.weight]; exact hl⟩
  rw [PyData.leavesShort, List.all_eq_true]
  intro c hc
  have h' : x.cps.all (· < 0x110000) = true := h
  rw [Array.all_eq_true'] at h'
  have := of_decide_eq_true (h' c (by simpa using hc))
  exact decide_eq_true (Nat.lt_trans this (by decide))
theorem Shw.none {n w : Nat} : Shw n w .none := ⟨by rw [PyData.showable], by rw [PyData.hasDict], by rw [PyData.depth]; omega, by rw [PyData.leavesShort], by rw [PyData.weight]; omega⟩
theorem Shw.bool {n w : Nat} {b : Bool} : Shw n w (.bool b) := ⟨by rw [PyData.showable], by rw [PyData.hasDict], by rw [PyData.depth]; omega, by rw [PyData.leavesShort], by rw [PyData.weight]; omega⟩
theorem shwAll : ∀ {n w : Nat} {ds : List PyData}, (∀ d ∈ ds, Shw n w d) → PyData.showableAll ds = true ∧ PyData.hasDictAll ds = false ∧ PyData.depthAll ds ≤ n ∧ PyData.leavesShortAll 40 ds = true ∧ PyData.weightAll ds ≤ ds.length * (w + 1)
  | n, w, [], _ => by simp [PyData.leavesShortAll, PyData.weightAll, PyData.showableAll, PyData.hasDictAll, PyData.depthAll]
  | n, w, d :: r, h => by
    obtain ⟨g1, g2, g3, g4, g5⟩ := shwAll (ds := r) fun q hq => h q (List.mem_cons_of_mem _ hq)
    obtain ⟨h1, h2, h3, h4, h5⟩ := h d (List.mem_cons_self ..)
    refine ⟨by rw [PyData.showableAll, h1, g1]; rfl, by rw [PyData.hasDictAll, h2, g2]; rfl, by rw [PyData.depthAll]; omega, by rw [PyData.leavesShortAll, h4, g4]; rfl, ?_⟩
    rw [PyData.weightAll, List.length_cons, Nat.succ_mul]
    omega
theorem Shw.list {n w m W : Nat} {ds : List PyData} (h : ∀ d ∈ ds, Shw n w d) (hl : ds.length ≤ m) (hW : m * (w + 1) ≤ W) : Shw (n + 1) W (.list ds) := by
  obtain ⟨g1, g2, g3, g4, g5⟩ := shwAll h
  have := Nat.mul_le_mul_right (w + 1) hl
  exact ⟨by rw [PyData.showable]; exact g1, by rw [PyData.hasDict]; exact g2, by rw [PyData.depth]; omega, by rw [PyData.leavesShort]; exact g4, by rw [PyData.weight]; omega⟩
theorem Shw.tuple {n w m W : Nat} {ds : List PyData} (h : ∀ d ∈ ds, Shw n w d) (hl : ds.length ≤ m) (hW : m * (w + 1) ≤ W) : Shw (n + 1) W (.tuple ds) := by
  obtain ⟨g1, g2, g3, g4, g5⟩ := shwAll h
  have := Nat.mul_le_mul_right (w + 1) hl
  exact ⟨by rw [PyData.showable]; exact g1, by rw [PyData.hasDict]; exact g2, by rw [PyData.depth]; omega, by rw [PyData.leavesShort]; exact g4, by rw [PyData.weight]; omega⟩
theorem Shw.listM {α : Type} {n w m W : Nat} {f : α → PyData} {ys : List α} (h : ∀ y ∈ ys, Shw n w (f y)) (hl : ys.length ≤ m) (hW : m * (w + 1) ≤ W) : Shw (n + 1) W (.list (ys.map f)) :=
  .list (fun d hd => by obtain ⟨y, hy, rfl⟩ := List.mem_map.mp hd; exact h y hy) (by rw [List.length_map]; exact hl) hW
theorem all2 {α : Type} {P : α → Prop} {x y : α} (h1 : P x) (h2 : P y) : ∀ z ∈ [x, y], P z := fun z hz => by
  rcases List.mem_cons.mp hz with e | e
  · rw [e]; exact h1
  · rw [List.mem_singleton.mp e]; exact h2
theorem all3 {α : Type} {P : α → Prop} {x y u : α} (h1 : P x) (h2 : P y) (h3 : P u) : ∀ z ∈ [x, y, u], P z := fun z hz => by
  rcases List.mem_cons.mp hz with e | e
  · rw [e]; exact h1
  · exact all2 h2 h3 z e
theorem Shw.shown {w : Nat} {d : PyData} (h : Shw 8 w d) (hw : w ≤ 390000) : d.showable = true ∧ d.hasDict = false ∧ d.depth ≤ 8 ∧ d.shown.length ≤ sizeLine :=
  ⟨h.sh, h.nd, h.dp, by
    have z := PyData.shown_le 40 (by decide) d h.ls
    have := h.wt
    exact Nat.le_trans z (Nat.le_trans (show (40 + 2) * d.weight + 40 ≤ 16380040 by omega) (by decide))⟩

/-! ### comprehensions, by what they make -/
/-- a thing's truth, as a test -/
def tTru (K : PySem.W.Frag) (te : TE) : TT := fun σ H Q => te σ H fun x H' => ∃ k, TruV K x H' k ∧ Q k H'
abbrev LcW (J : It) (g : TG) (tt : TT) (te : TE) (vs : List Nat) (σ : L2.St) (D : Addr) (Qd : Hp → Prop) (H1 : Hp) : Prop := ∃ W : Nat → Nat → Hp → Prop, (∃ m, W 0 m (upd H1 D (.lst []))) ∧ ∀ i m H, W i m H →
  (J.stop i H ∧ Qd H) ∨ (J.go i H ∧ ∃ Nx : Hp → Prop, (∀ H', Nx H' → ∃ m', m' < m ∧ W (i + 1) m' H') ∧ ∀ x H', J.yld i H x H' → g x (wipe σ vs) H' fun σ2 H2 => wipe σ2 vs = wipe σ vs ∧ tt σ2 H2 fun b H3 => if b = true then
    te σ2 H3 fun y H4 => ∃ acc, H4 D = some (.lst acc) ∧ acc.length < sizeLine ∧ Nx (upd H4 D (.lst (acc ++ [y]))) else Nx H3)
/-- each item makes something new, all else stays -/
theorem lc_new {J : It} {n : Nat} {G : Hp → Prop} {Y : Nat → Hp → V → Hp → Prop} (w : Walk J n G Y) {g : TG} {tt : TT} {te : TE} {vs : List Nat} {σ : L2.St} {H1 : Hp} {D : Addr} {Qd : Hp → Prop} (ds : List PyData) (nD : H1 D = none) (hn : ds.length = n) (hz : n ≤ 1000) (hG : ∀ H, Same H1 H → G H)
    (turn : ∀ i x d H H' (Kt : V → Hp → Prop) (Kn : Hp → Prop), ds[i]? = some d → Same H1 H → Y i H x H' → (∀ y H4, Same H H4 → DatN (NewIn H) H4 y d → Kt y H4) → g x (wipe σ vs) H' fun σ2 H2 => wipe σ2 vs = wipe σ vs ∧ tt σ2 H2 fun b H3 => if b = true then te σ2 H3 Kt else Kn H3)
    (fin : ∀ H, Same H1 H → DatN (NewIn H1) H (.ref D) (.list ds) → Qd H) : LcW J g tt te vs σ D Qd H1 := by
  refine lc_it w (fun j H => Same H1 H ∧ ∃ ws, H D = some (.lst ws) ∧ EchN (fun a => H1 a = none ∧ a ≠ D) H ws (ds.take j)) ⟨same_upd nD, [], upd_same, .nil⟩ (fun i H _ p => hG H p.1) (fun i x H H' hi hP hy => ?_) (fun H hP => ?_)
  · obtain ⟨sm, ws, eD, hws⟩ := hP
    have hd : ds[i]? = some ds[i] := List.getElem?_eq_getElem (by omega)
    refine turn i x _ H H' _ _ hd sm hy fun y H4 s4 hd4 => ?_
    have eD4 := s4 _ _ eD
    have hl : ws.length ≤ 1000 := by
      rw [hws.1, List.length_take]
      omega
    have hl' : ws.length < 1000 := by
      rw [hws.1, List.length_take]
      omega
    refine ⟨ws, eD4, Nat.lt_of_lt_of_le hl' (by decide), fun b o e => ?_, ws ++ [y], upd_same, ?_⟩
    · rw [upd_ne (ne_of_none e nD)]
      exact s4 _ _ (sm b o e)
    · rw [List.take_add_one, hd]
      have k : Kps (fun a => H1 a = none ∧ a ≠ D) H4 (upd H4 D (.lst (ws ++ [y]))) := .upd eD4 fun a z => z.2
      refine ((hws.same s4).keep k).snoc (DatN.keep (hd4.weak fun a xs (z : H a = none) e => ⟨sm.free z, fun q => ?_⟩) k)
      rw [q, eD] at z
      cases z
  · obtain ⟨sm, ws, eD, hws⟩ := hP
    rw [List.take_of_length_le (by omega)] at hws
    exact fin H sm ((hws.weak fun a _ z _ => z.1).lst nD eD)
/-- each item makes something new by draws -/
theorem lc_draw {α : Type} (f : α → PyData) (R : Nat → α → Prop) (T : Int) {J : It} {n : Nat} {G : Hp → Prop} {Y : Nat → Hp → V → Hp → Prop} (w : Walk J n G Y) {g : TG} {tt : TT} {te : TE} {vs : List Nat} {σ : L2.St} {H1 : Hp} {D d c : Addr} {t1 : Int} {Qd : Hp → Prop} (S1 : StAt H1 d c t1) (nD : H1 D = none) (hz : n ≤ 1000) (hG : ∀ H, Kp d c H1 H → G H)
    (turn : ∀ i x H H' t (Kt : V → Hp → Prop) (Kn : Hp → Prop), i < n → t1 ≤ t → t ≤ t1 + T * (i : Int) → StAt H d c t → Kp d c H1 H → Y i H x H' → (∀ z y t' H4, R i z → DatN (NewIn H) H4 y (f z) → t ≤ t' → t' ≤ t + T → StAt H4 d c t' → Kp d c H H4 → Kt y H4) →
      g x (wipe σ vs) H' fun σ2 H2 => wipe σ2 vs = wipe σ vs ∧ tt σ2 H2 fun b H3 => if b = true then te σ2 H3 Kt else Kn H3)
    (fin : ∀ (H : Hp) (t : Int) (zs : List α), zs.length = n → (∀ (i : Nat) z, zs[i]? = some z → R i z) → t1 ≤ t → t ≤ t1 + T * (n : Int) → StAt H d c t → Kp d c H1 H → DatN (NewIn H1) H (.ref D) (.list (zs.map f)) → Qd H) : LcW J g tt te vs σ D Qd H1 := by
  have off := S1.off nD
  refine lc_it w (fun j H => ∃ (t : Int) (ws : List V) (zs : List α), H D = some (.lst ws) ∧ EchN (fun a => H1 a = none ∧ a ≠ D) H ws (zs.map f) ∧ zs.length = j ∧ (∀ (i : Nat) z, zs[i]? = some z → R i z) ∧ t1 ≤ t ∧ t ≤ t1 + T * (j : Int) ∧ StAt H d c t ∧ Kp d c H1 H)
    ⟨t1, [], [], upd_same, .nil, rfl, (fun _ _ e => nomatch e), Int.le_refl _, by omega, S1.same (same_upd nD), Kp.same d c (same_upd nD)⟩ (fun i H _ hP => ?_) (fun i x H H' hi hP hy => ?_) (fun H hP => ?_)
  · obtain ⟨_, _, _, _, _, _, _, _, _, _, k⟩ := hP
    exact hG H k
  · obtain ⟨t, ws, zs, eD, hws, hzl, hR, t0, t2, hS, k⟩ := hP
    refine turn i x H H' t _ _ hi t0 t2 hS k hy fun z y t' H4 hz' hd4 u0 u1 hS4 k4 => ?_
    have eD4 := k4 _ _ off.1 off.2 eD
    have hwl : ws.length = i := by rw [hws.1, List.length_map, hzl]
    have kk : Kps (fun a => H1 a = none ∧ a ≠ D) H4 (upd H4 D (.lst (ws ++ [y]))) := .upd eD4 fun a z => z.2
    have k1 : Kps (fun a => H1 a = none ∧ a ≠ D) H H4 := .kp k4 hS fun a z q => by
      obtain ⟨cs, ec, _⟩ := S1.cells
      rw [q, ec] at z
      exact nomatch z.1
    refine ⟨ws, eD4, Nat.lt_of_lt_of_le (show ws.length < 1000 by omega) (by decide), t', ws ++ [y], zs ++ [z], upd_same, ?_, by rw [List.length_append, hzl]; rfl, fun j q e => ?_, by omega, ?_, hS4.upd off.1 off.2, fun b o b1 b2 e => ?_⟩
    · rw [List.map_append]
      refine ((hws.keep k1).keep kk).snoc (DatN.keep (hd4.weak fun a xs (z : H a = none) e => ⟨?_, fun q => ?_⟩) kk)
      · cases e1 : H1 a with
        | none => rfl
        | some o =>
          by_cases z1 : a = d
          · rw [z1, hS.dict] at z; cases z
          · by_cases z2 : a = c
            · obtain ⟨cs, ec, _⟩ := hS.cells
              rw [z2, ec] at z; cases z
            · have := k a o z1 z2 e1
              rw [this] at z
              cases z
      · rw [q, eD] at z
        cases z
    · by_cases hj : j < zs.length
      · rw [List.getElem?_append_left hj] at e
        exact hR j q e
      · rw [List.getElem?_append_right (by omega)] at e
        have hj0 : j - zs.length < 1 := (List.getElem?_eq_some_iff.mp e).1
        have ej : j = i := by omega
        subst ej
        rw [hzl, Nat.sub_self] at e
        cases e
        exact hz'
    · have : T * ((i + 1 : Nat) : Int) = T * (i : Int) + T := by
        rw [Int.natCast_add, Int.mul_add]
        omega
      omega
    · rw [upd_ne (ne_of_none e nD)]
      exact k4 b o b1 b2 (k b o b1 b2 e)
  · obtain ⟨t, ws, zs, eD, hws, hzl, hR, t0, t2, hS, k⟩ := hP
    exact fin H t zs hzl hR t0 t2 hS k ((hws.weak fun a _ z _ => z.1).lst nD eD)
/-- those items of which this holds -/
theorem lc_keep {K : PySem.W.Frag} {a : Addr} {xs : List V} (pb : V → Bool) {g : TG} {tt : TT} {te : TE} {vs : List Nat} {σ : L2.St} {H1 : Hp} {D : Addr} {Qd : Hp → Prop} (nD : H1 D = none) (ea : H1 a = some (.lst xs)) (hz : xs.length ≤ 1000)
    (turn : ∀ (i : Nat) (x : V) (H : Hp) (Kt : V → Hp → Prop) (Kn : Hp → Prop), xs[i]? = some x → Same H1 H → (∀ H4, Same H H4 → pb x = true → Kt x H4) → (∀ H4, Same H H4 → pb x = false → Kn H4) → g x (wipe σ vs) H fun σ2 H2 => wipe σ2 vs = wipe σ vs ∧ tt σ2 H2 fun b H3 => if b = true then te σ2 H3 Kt else Kn H3)
    (fin : ∀ H, Same H1 H → H D = some (.lst (xs.filter pb)) → Qd H) : LcW (Itl K a) g tt te vs σ D Qd H1 := by
  refine lc_it walk_list (fun j H => Same H1 H ∧ H D = some (.lst ((xs.take j).filter pb))) ⟨same_upd nD, upd_same⟩ (fun i H _ p => SqL.of (p.1 _ _ ea)) (fun i x H H' hi hP hy => ?_) (fun H hP => ?_)
  · obtain ⟨sm, eD⟩ := hP
    obtain ⟨rfl, hx⟩ := hy
    have et : (xs.take (i + 1)).filter pb = (xs.take i).filter pb ++ (if pb x = true then [x] else []) := by
      rw [List.take_add_one, hx, List.filter_append]
      by_cases c : pb x = true
      · rw [if_pos c]
        show _ ++ List.filter pb [x] = _
        rw [List.filter_cons_of_pos c]
        rfl
      · rw [if_neg c]
        show _ ++ List.filter pb [x] = _
        rw [List.filter_cons_of_neg c]
        rfl
    have hl : ((xs.take i).filter pb).length ≤ i := Nat.le_trans (List.length_filter_le ..) (by rw [List.length_take]; omega)
    refine turn i x H' _ _ hx sm (fun H4 s4 c => ?_) (fun H4 s4 c => ?_)
    · refine ⟨_, s4 _ _ eD, Nat.lt_of_lt_of_le (show _ < 1000 by omega) (by decide), fun b o e => ?_, ?_⟩
      · rw [upd_ne (ne_of_none e nD)]
        exact s4 _ _ (sm b o e)
      · rw [upd_same, et, if_pos c]
    · refine ⟨sm.trans s4, ?_⟩
      rw [et, if_neg (by rw [c]; decide), List.append_nil]
      exact s4 _ _ eD
  · obtain ⟨sm, eD⟩ := hP
    rw [List.take_length] at eD
    exact fin H sm eD
theorem lc_new_seq {K : PySem.W.Frag} {a : Addr} {xs : List V} {g : TG} {tt : TT} {te : TE} {vs : List Nat} {σ : L2.St} {H1 : Hp} {Qd : Addr → Hp → Prop} (hq : SqH H1 a xs) (ds : List PyData) (hn : ds.length = xs.length) (hz : xs.length ≤ 1000)
    (turn : ∀ (i : Nat) (x : V) (d : PyData) (H : Hp) (Kt : V → Hp → Prop) (Kn : Hp → Prop), xs[i]? = some x → ds[i]? = some d → Same H1 H → (∀ y H4, Same H H4 → DatN (NewIn H) H4 y d → Kt y H4) → g x (wipe σ vs) H fun σ2 H2 => wipe σ2 vs = wipe σ vs ∧ tt σ2 H2 fun b H3 => if b = true then te σ2 H3 Kt else Kn H3)
    (fin : ∀ D H, H1 D = none → Same H1 H → DatN (NewIn H1) H (.ref D) (.list ds) → Qd D H) :
    ((∃ xs, SqL K H1 a xs) ∧ ∀ D, H1 D = none → LcR (Itl K a) g tt te vs σ D Qd H1) ∨ ((∃ xs, SqT K H1 a xs) ∧ ∀ D, H1 D = none → LcR (Itt K a) g tt te vs σ D Qd H1) := by
  rcases hq with h | h
  · exact .inl ⟨⟨xs, SqL.of h⟩, fun D nD => lc_new (walk_list (xs := xs)) ds nD hn hz (fun H s => SqL.of (s _ _ h)) (fun i x d H H' Kt Kn hd sm hy k => by obtain ⟨rfl, hx⟩ := hy; exact turn i x d H' Kt Kn hx hd sm k) (fun H s d => fin D H nD s d)⟩
  · exact .inr ⟨⟨xs, .inl (.inl h)⟩, fun D nD => lc_new (walk_tup (xs := xs)) ds nD hn hz (fun H s => .inl (.inl (s _ _ h))) (fun i x d H H' Kt Kn hd sm hy k => by obtain ⟨rfl, hx⟩ := hy; exact turn i x d H' Kt Kn hx hd sm k) (fun H s d => fin D H nD s d)⟩
theorem lc_new_list {K : PySem.W.Frag} {a : Addr} {xs : List V} {g : TG} {tt : TT} {te : TE} {vs : List Nat} {σ : L2.St} {H1 : Hp} {D : Addr} {Qd : Hp → Prop} (nD : H1 D = none) (hq : H1 a = some (.lst xs)) (ds : List PyData) (hn : ds.length = xs.length) (hz : xs.length ≤ 1000)
    (turn : ∀ (i : Nat) (x : V) (d : PyData) (H : Hp) (Kt : V → Hp → Prop) (Kn : Hp → Prop), xs[i]? = some x → ds[i]? = some d → Same H1 H → (∀ y H4, Same H H4 → DatN (NewIn H) H4 y d → Kt y H4) → g x (wipe σ vs) H fun σ2 H2 => wipe σ2 vs = wipe σ vs ∧ tt σ2 H2 fun b H3 => if b = true then te σ2 H3 Kt else Kn H3)
    (fin : ∀ H, Same H1 H → DatN (NewIn H1) H (.ref D) (.list ds) → Qd H) : LcW (Itl K a) g tt te vs σ D Qd H1 :=
  lc_new (walk_list (xs := xs)) ds nD hn hz (fun H s => SqL.of (s _ _ hq)) (fun i x d H H' Kt Kn hd sm hy k => by obtain ⟨rfl, hx⟩ := hy; exact turn i x d H' Kt Kn hx hd sm k) fin

theorem nodup_len {α : Type} [DecidableEq α] : ∀ {l m : List α}, l.Nodup → (∀ x ∈ l, x ∈ m) → l.length ≤ m.length
  | [], _, _, _ => Nat.zero_le _
  | x :: r, m, nd, h => by
    have nx := (List.nodup_cons.mp nd).1
    have ih := nodup_len (m := m.erase x) (List.nodup_cons.mp nd).2 fun y hy => by
      have hne : y ≠ x := fun e => nx (e ▸ hy)
      exact (List.mem_erase_of_ne hne).mpr (h y (List.mem_cons_of_mem _ hy))
    have e := List.length_erase_of_mem (h x (List.mem_cons_self ..))
    have pos : 0 < m.length := List.length_pos_of_mem (h x (List.mem_cons_self ..))
    rw [List.length_cons]
    omega

open Classical in
/-- the one list of a set -/
noncomputable def canon (pr : Int → Prop) : List (Int × Int) := if h : ∃ rs, Told pr rs then Classical.choose h else []
theorem Told.canon {pr : Int → Prop} {rs : List (Int × Int)} (h : Told pr rs) : rs = canon pr := by
  unfold TK.canon
  rw [dif_pos ⟨rs, h⟩]
  exact h.one (Classical.choose_spec (p := fun rs => Told pr rs) ⟨rs, h⟩) fun _ => Iff.rfl
theorem canon_cong {pr pr' : Int → Prop} (h : ∀ n, pr n ↔ pr' n) : canon pr = canon pr' := by rw [show pr = pr' from funext fun n => propext (h n)]

/-! ### numbers within their bounds; texts as lists of signs -/
theorem mulw {i j : Int} (hi : i.natAbs < 2 ^ 250) (hj : j.natAbs < 2 ^ 250) : CMulW i j := wide_mul hi hj (by decide) (by decide) (by decide)
theorem divw {i j : Int} (h : 0 < j) (hj : j.natAbs < 2 ^ 250) : CDivW i j := wide_div h hj (by decide) (by decide)
theorem S_of (z : Str) : z = SX.S z.cps.toList := (SX.S_tl z).symm
theorem S_cps (a : List Nat) : (SX.S a).cps.toList = a := by simp [SX.S]
theorem cutS_take (a : List Nat) (k : Nat) : cutS (SX.S a) none (some (k : Int)) = SX.S (a.take k) := by
  unfold cutS
  rw [HT.sIx_none, HT.sIx_nat, SX.S_len, S_cps, List.drop_zero, Nat.sub_zero]
  by_cases h : k ≤ a.length
  · rw [Nat.min_eq_left h]
  · rw [Nat.min_eq_right (by omega), List.take_of_length_le (Nat.le_refl _), List.take_of_length_le (by omega)]
theorem cutS_drop (a : List Nat) (k : Nat) : cutS (SX.S a) (some (k : Int)) none = SX.S (a.drop k) := by
  unfold cutS
  rw [HT.sIx_none, HT.sIx_nat, SX.S_len, S_cps]
  by_cases h : k ≤ a.length
  · rw [Nat.min_eq_left h, List.take_of_length_le (by rw [List.length_drop]; omega)]
  · rw [Nat.min_eq_right (by omega), List.drop_eq_nil_of_le (Nat.le_refl _), List.drop_eq_nil_of_le (by omega), List.take_nil]
theorem cutS_mid (a : List Nat) (i j : Nat) : cutS (SX.S a) (some (i : Int)) (some (j : Int)) = SX.S ((a.drop i).take (j - i)) := by
  unfold cutS
  rw [HT.sIx_nat, HT.sIx_nat, SX.S_len, S_cps]
  by_cases h : i ≤ a.length
  · rw [Nat.min_eq_left h]
    by_cases h2 : j ≤ a.length
    · rw [Nat.min_eq_left h2]
    · rw [Nat.min_eq_right (by omega), List.take_of_length_le (by rw [List.length_drop]; omega), List.take_of_length_le (by rw [List.length_drop]; omega)]
  · rw [Nat.min_eq_right (by omega : a.length ≤ i), List.drop_eq_nil_of_le (Nat.le_refl _), List.drop_eq_nil_of_le (by omega), List.take_nil, List.take_nil]
/-- the sign at a place within -/
theorem sign_at {a : List Nat} {j : Nat} (h : j < a.length) : atI (SX.S a).cps.toList (j : Int) = some a[j] := by
  rw [S_cps]
  exact atI_nat (List.getElem?_eq_getElem h)
theorem S_le {a : List Nat} (h : a.length ≤ 10000) : (SX.S a).length ≤ sizeLine := by rw [SX.S_len]; exact Nat.le_trans h (by decide)
theorem strOk_S {a : List Nat} (h : ∀ c ∈ a, c < 1114112) : PyData.strOk (SX.S a) = true := by
  show (Array.all _ _) = true
  rw [Array.all_eq_true']
  intro c hc
  exact decide_eq_true (h c (by simpa using hc))
theorem join_signs (cs : List Nat) : Txt.join "" (cs.map sgS) = SX.S cs := by
  have z := SX.join_S [] (cs.map fun c => [c])
  rw [joinL_ones, List.map_map] at z
  exact z
theorem join_fits {cs : List Nat} (h : cs.length ≤ 10000) : ((cs.map sgS).map (·.length)).sum + (cs.map sgS).length * ("" : Str).length ≤ 16777216 := by
  have e : ∀ cs : List Nat, ((cs.map sgS).map (·.length)).sum = cs.length := fun cs => by
    induction cs with
    | nil => rfl
    | cons c r ih =>
      rw [List.map_cons, List.map_cons, List.sum_cons, ih, List.length_cons]
      show 1 + r.length = r.length + 1
      omega
  rw [e, show ("" : Str).length = 0 from rfl, Nat.mul_zero]
  omega

/-! ## generator expressions: a frame of their own, its rules those of any body -/
namespace GX
open PySem PySem.Spec PyProof.Rows L2 GenW
/-- the object at c is a code object with its table at P -/
def CodeG (c P : Addr) : HO := .ext fun h => PySem.W.CodeHd h c P
theorem codeG_ne {c P : Addr} (ps : Array Value) : CodeG c P ≠ .tbl ps := fun z => by
  unfold CodeG at z
  cases z
/-- all but tables stands, tables stay tables -/
structure NoTab (H H2 : Hp) : Prop where
  keep : ∀ b o, H b = some o → (∀ ps, o ≠ .tbl ps) → H2 b = some o
  tab : ∀ b ps, H b = some (.tbl ps) → ∃ qs, H2 b = some (.tbl qs)
theorem NoTab.refl (H : Hp) : NoTab H H := ⟨fun _ _ e _ => e, fun _ ps e => ⟨ps, e⟩⟩
theorem NoTab.trans {H H1 H2 : Hp} (a : NoTab H H1) (b : NoTab H1 H2) : NoTab H H2 := ⟨fun x o e n => b.keep x o (a.keep x o e n) n, fun x ps e => let ⟨qs, e1⟩ := a.tab x ps e; b.tab x qs e1⟩
theorem NoTab.of {H H1 : Hp} (k : ∀ b o, H b = some o → H1 b = some o) : NoTab H H1 := ⟨fun b o e _ => k b o e, fun b ps e => ⟨ps, k _ _ e⟩⟩
theorem NoTab.free {H H1 : Hp} {p : Addr} (n : NoTab H H1) (h : H1 p = none) : H p = none := by
  cases e : H p with
  | none => rfl
  | some o =>
    by_cases ct : ∃ q, o = .tbl q
    · obtain ⟨q, rfl⟩ := ct
      obtain ⟨qs, e1⟩ := n.tab p q e
      rw [h] at e1
      cases e1
    · have e1 := n.keep p o e fun ps z => ct ⟨ps, z⟩
      rw [h] at e1
      cases e1
theorem NoTab.lst {H H1 : Hp} {a : Addr} {xs : List V} (n : NoTab H H1) (e : H a = some (.lst xs)) : H1 a = some (.lst xs) := n.keep _ _ e fun _ z => nomatch z
theorem NoTab.tup {H H1 : Hp} {a : Addr} {xs : List V} (n : NoTab H H1) (e : H a = some (.tup xs)) : H1 a = some (.tup xs) := n.keep _ _ e fun _ z => nomatch z
theorem NoTab.code {H H1 : Hp} {a c P : Addr} (n : NoTab H H1) (e : H a = some (CodeG c P)) : H1 a = some (CodeG c P) := n.keep _ _ e codeG_ne
theorem NoTab.sqL {K : PySem.W.Frag} {H H1 : Hp} {a : Addr} {xs : List V} (n : NoTab H H1) (h : SqL K H a xs) : SqL K H1 a xs :=
  h.elim (fun z => z.elim (fun e => .inl (.inl (n.lst e))) fun ⟨o, e⟩ => .inl (.inr ⟨o, n.keep _ _ e fun _ z => nomatch z⟩)) .inr
theorem NoTab.sqT {K : PySem.W.Frag} {H H1 : Hp} {a : Addr} {xs : List V} (n : NoTab H H1) (h : SqT K H a xs) : SqT K H1 a xs :=
  h.elim (fun z => z.elim (fun e => .inl (.inl (n.tup e))) fun ⟨o, e⟩ => .inl (.inr ⟨o, n.keep _ _ e fun _ z => nomatch z⟩)) .inr
/-- a list that was new may change -/
theorem NoTab.new {H H1 : Hp} {a : Addr} {o : HO} (n : NoTab H H1) (e : H a = none) : NoTab H (L2.upd H1 a o) :=
  ⟨fun b u hb nt => by rw [upd_ne (ne_of_none hb e)]; exact n.keep b u hb nt, fun b ps hb => let ⟨qs, e1⟩ := n.tab b ps hb; ⟨qs, by rw [upd_ne (ne_of_none hb e)]; exact e1⟩⟩
/-- the table at P: each code object that it tells is known, and its own table, which is none of Xs -/
def TabQ (Xs : List Addr) (H : Hp) (P : Addr) : Prop := ∃ ps : Array Value, H P = some (.tbl ps) ∧ TriplesOk ps.toList ∧ ∀ (pos : Pos) (cv : Value), codeAmong pos ps.toList = some cv → ∃ c' P', cv = .ref c' ∧ H c' = some (CodeG c' P') ∧ P' ∉ Xs ∧ GxR.TabG H P'
theorem TabQ.nil {Xs : List Addr} {H : Hp} {P : Addr} (h : H P = some (.tbl #[])) : TabQ Xs H P := ⟨#[], h, True.intro, fun pos cv hc => by
  have z : codeAmong pos [] = some cv := hc
  simp [codeAmong] at z⟩
/-- the tables of the defs that hold generator expressions, those of lambdas with their names -/
structure Mq where
  ms : List Addr
  ls : List (Addr × Str)
instance : Membership Addr Mq := ⟨fun M a => a ∈ M.ms⟩
theorem Mq.mem {M : Mq} {a : Addr} : a ∈ M ↔ a ∈ M.ms := Iff.rfl
/-- the tables at Ms, of the defs that hold generator expressions or lambdas; Xs: all tables of defs -/
structure TQ (Ms : Mq) (Xs : List Addr) (H : Hp) : Prop where
  all : ∀ x ∈ Xs, ∃ ps, H x = some (.tbl ps)
  gx : ∀ m ∈ Ms, TabQ Xs H m ∧ m ∈ Xs
  lam : ∀ l ∈ Ms.ls, l.1 ∈ Xs ∧ l.1 ∉ Ms.ms ∧ LamX.TabS H l.1 l.2
theorem tabS_keep {H H2 : Hp} {P : Addr} {q : Str} (t : LamX.TabS H P q) (k : ∀ ps, H P = some (.tbl ps) → H2 P = some (.tbl ps)) (ko : ∀ b c q, H b = some (LamX.CodeO c q) → H2 b = some (LamX.CodeO c q)) : LamX.TabS H2 P q := by
  obtain ⟨ps, a, b, c⟩ := t
  refine ⟨ps, k _ a, b, fun pos cv hc => ?_⟩
  obtain ⟨c', e1, e2⟩ := c pos cv hc
  exact ⟨c', e1, ko _ _ _ e2⟩
theorem codeO_ne {c : Addr} {q : Str} (ps : Array Value) : LamX.CodeO c q ≠ .tbl ps := fun z => by
  unfold LamX.CodeO at z
  cases z
theorem tabG_same {H H2 : Hp} {P : Addr} (h : GxR.TabG H P) (k : ∀ b o, H b = some o → H2 b = some o) : GxR.TabG H2 P := let ⟨ps, a, b⟩ := h; ⟨ps, k _ _ a, b⟩
theorem TQ.same {Ms : Mq} {Xs : List Addr} {H H2 : Hp} (h : TQ Ms Xs H) (k : ∀ b o, H b = some o → H2 b = some o) : TQ Ms Xs H2 := by
  refine ⟨fun x hx => let ⟨ps, e⟩ := h.all x hx; ⟨ps, k _ _ e⟩, fun m hm => ?_, fun l hl => let ⟨a, b, c⟩ := h.lam l hl; ⟨a, b, c.ext k⟩⟩
  obtain ⟨⟨ps, a, b, c⟩, hx⟩ := h.gx m hm
  refine ⟨⟨ps, k _ _ a, b, fun pos cv hc => ?_⟩, hx⟩
  obtain ⟨c', P', e1, e2, e3, e4⟩ := c pos cv hc
  exact ⟨c', P', e1, k _ _ e2, e3, tabG_same e4 k⟩
/-- all that is no table may change, where no code object does -/
theorem TQ.keep {Ms : Mq} {Xs : List Addr} {H H2 : Hp} (h : TQ Ms Xs H) (k : ∀ b ps, H b = some (.tbl ps) → H2 b = some (.tbl ps)) (kc : ∀ b c P, H b = some (CodeG c P) → H2 b = some (CodeG c P)) (ko : ∀ b c q, H b = some (LamX.CodeO c q) → H2 b = some (LamX.CodeO c q)) : TQ Ms Xs H2 := by
  refine ⟨fun x hx => let ⟨ps, e⟩ := h.all x hx; ⟨ps, k _ _ e⟩, fun m hm => ?_, fun l hl => let ⟨a, b, c⟩ := h.lam l hl; ⟨a, b, tabS_keep c (k _) ko⟩⟩
  obtain ⟨⟨ps, a, b, c⟩, hx⟩ := h.gx m hm
  refine ⟨⟨ps, k _ _ a, b, fun pos cv hc => ?_⟩, hx⟩
  obtain ⟨c', P', e1, e2, e3, q, f1, f2⟩ := c pos cv hc
  exact ⟨c', P', e1, kc _ _ _ e2, e3, q, k _ _ f1, f2⟩
theorem TQ.upd {Ms : Mq} {Xs : List Addr} {H : Hp} {l : Addr} {xs : List V} {o : HO} (h : TQ Ms Xs H) (e : H l = some (.lst xs)) : TQ Ms Xs (L2.upd H l o) :=
  h.keep (fun b ps hb => by rw [upd_ne (ne_of hb e (fun z => nomatch z))]; exact hb) (fun b c P hb => by rw [upd_ne (ne_of hb e (fun z => by unfold CodeG at z; cases z))]; exact hb) (fun b c q hb => by rw [upd_ne (ne_of hb e (fun z => by unfold LamX.CodeO at z; cases z))]; exact hb)
/-- all but the object at P stands -/
def But (P : Addr) (H H2 : Hp) : Prop := ∀ b o, b ≠ P → H b = some o → H2 b = some o
theorem But.noTab {P : Addr} {H H2 : Hp} (h : But P H H2) {q q2 : Array Value} (e : H P = some (.tbl q)) (e2 : H2 P = some (.tbl q2)) : NoTab H H2 :=
  ⟨fun b o hb n => h b o (fun z => n q (by rw [z, e] at hb; exact (Option.some.inj hb).symm)) hb, fun b ps hb => by
    by_cases z : b = P
    · exact ⟨q2, by rw [z]; exact e2⟩
    · exact ⟨ps, h b _ z hb⟩⟩
/-- a table that is none of a def's has grown -/
theorem TQ.but {Ms : Mq} {Xs : List Addr} {H H2 : Hp} {P : Addr} (h : TQ Ms Xs H) (n : P ∉ Xs) (t : GxR.TabG H P) (t2 : GxR.TabG H2 P) (k : But P H H2) : TQ Ms Xs H2 := by
  obtain ⟨q0, hq0, _⟩ := t
  refine ⟨fun x hx => let ⟨ps, e⟩ := h.all x hx; ⟨ps, k _ _ (fun z => n (z ▸ hx)) e⟩, fun m hm => ?_, fun l hl => let ⟨a, b, c⟩ := h.lam l hl; ⟨a, b, tabS_keep c (fun _ => k _ _ (fun z => n (z ▸ a))) fun b c q e => k _ _ (ne_of e hq0 (codeO_ne q0)) e⟩⟩
  obtain ⟨⟨ps, a, b, c⟩, hx⟩ := h.gx m hm
  refine ⟨⟨ps, k _ _ (fun z => n (z ▸ hx)) a, b, fun pos cv hc => ?_⟩, hx⟩
  obtain ⟨c', P', e1, e2, e3, e4⟩ := c pos cv hc
  refine ⟨c', P', e1, k _ _ (ne_of e2 hq0 (codeG_ne q0)) e2, e3, ?_⟩
  by_cases e : P' = P
  · rw [e]; exact t2
  · obtain ⟨q, h1, h2⟩ := e4
    exact ⟨q, k _ _ e h1, h2⟩
/-- a lambda's own table has grown -/
theorem TQ.lamS {Ms : Mq} {Xs : List Addr} {H H2 : Hp} {P : Addr} {q : Str} (h : TQ Ms Xs H) (hl : (P, q) ∈ Ms.ls) (hu : ∀ l ∈ Ms.ls, l.1 = P → l.2 = q) (t2 : LamX.TabS H2 P q) (k : But P H H2) : TQ Ms Xs H2 := by
  obtain ⟨hX, hM, q0, hq0, _⟩ := h.lam _ hl
  obtain ⟨q2, hq2, _⟩ := id t2
  refine ⟨fun x hx => ?_, fun m hm => ?_, fun l hl' => ?_⟩
  · by_cases e : x = P
    · exact ⟨q2, by rw [e]; exact hq2⟩
    · obtain ⟨ps, e0⟩ := h.all x hx
      exact ⟨ps, k _ _ e e0⟩
  · obtain ⟨⟨ps, a, b, c⟩, hx⟩ := h.gx m hm
    refine ⟨⟨ps, k _ _ (fun z => hM (z ▸ hm)) a, b, fun pos cv hc => ?_⟩, hx⟩
    obtain ⟨c', P', e1, e2, e3, q, h1, h2⟩ := c pos cv hc
    exact ⟨c', P', e1, k _ _ (ne_of e2 hq0 (codeG_ne q0)) e2, e3, q, k _ _ (fun z => e3 (z ▸ hX)) h1, h2⟩
  · obtain ⟨a, b, c⟩ := h.lam l hl'
    refine ⟨a, b, ?_⟩
    by_cases e : l.1 = P
    · rw [e, hu l hl' e]
      exact t2
    · exact tabS_keep c (fun _ => k _ _ e) fun b c q e => k _ _ (ne_of e hq0 (codeO_ne q0)) e
section
variable {X : Cx} {pins : List (Addr × Obj)} {σ : L2.St} {H : Hp} {s : Shared}
theorem codeHd_stay {c P : Addr} {h1 h2 : Heap} (x : PySem.W.CodeHd h1 c P) (k : ∀ o, h1.get? c = some o → h2.get? c = some o) : PySem.W.CodeHd h2 c P :=
  let ⟨o, vs, file, tf, flags, tg, inF, text, tt, e, r⟩ := x; ⟨o, vs, file, tf, flags, tg, inF, text, tt, k _ e, r⟩
/-- the table's object is written, the code object at c and its table at P2 are new -/
theorem inv_code {P c P2 : Addr} {ps more : Array Value} {h' : Heap} {t' : Nat} (I : Inv X pins σ H s) (hP : H P = some (.tbl ps)) (k : ∀ b o, b ≠ P → s.heap.get? b = some o → h'.get? b = some o)
    (hm : h'.get? P = some { cls := .none, data := .fields (ps ++ more) }) (hc : s.heap.objs.size ≤ c) (hp2 : s.heap.objs.size ≤ P2) (ncp : c ≠ P2) (ho : PySem.W.CodeHd h' c P2) (hq : h'.get? P2 = some { cls := .none, data := .fields #[] }) :
    Inv X pins σ (upd (upd (upd H P (.tbl (ps ++ more))) c (CodeG c P2)) P2 (.tbl #[])) { s with heap := h', toks := t' } := by
  have nC : H c = none := I.hok.fresh hc
  have nQ : H P2 = none := I.hok.fresh hp2
  have nPc : P ≠ c := ne_of_none hP nC
  have nPq : P ≠ P2 := ne_of_none hP nQ
  have at_ : ∀ b, b ≠ P → b ≠ c → b ≠ P2 → upd (upd (upd H P (.tbl (ps ++ more))) c (CodeG c P2)) P2 (.tbl #[]) b = H b := fun b h1 h2 h3 => by rw [upd_ne h3, upd_ne h2, upd_ne h1]
  have atP : upd (upd (upd H P (.tbl (ps ++ more))) c (CodeG c P2)) P2 (.tbl #[]) P = some (.tbl (ps ++ more)) := by rw [upd_ne nPq, upd_ne nPc, upd_same]
  have nP : ∀ b u, H b = some u → (∀ q, u ≠ .tbl q) → b ≠ P := fun b u e q z => by
    rw [z, hP] at e
    exact q ps (Option.some.inj e).symm
  have nN : ∀ b, H b = none → b ≠ P := fun b e z => by
    rw [z, hP] at e
    cases e
  have lt' : ∀ b o, s.heap.get? b = some o → b ≠ c ∧ b ≠ P2 := fun b o e => ⟨fun z => by
    rw [z] at e
    exact Nat.lt_irrefl _ (Nat.lt_of_lt_of_le (Heap.lt_size e) hc), fun z => by
    rw [z] at e
    exact Nat.lt_irrefl _ (Nat.lt_of_lt_of_le (Heap.lt_size e) hp2)⟩
  have sm : ∀ b u, H b = some u → b ≠ c ∧ b ≠ P2 := fun b u e => ⟨ne_of_none e nC, ne_of_none e nQ⟩
  refine I.step (g' := s.gens) (d' := s.drawn) (ch := []) (fun b hb => absurd hb (by simp)) (fun b o _ _ _ e n => k b o (nN b n) e) (fun b o _ _ _ e n => ⟨o.slots, k b o (nN b n) e⟩)
    (fun b o _ e n => by rw [at_ b (nN b n) (lt' b o e).1 (lt' b o e).2]; exact n) (fun b o _ e => ?_) (fun b xs e => by rw [at_ b (nP b _ e (fun q z => by cases z)) (sm b _ e).1 (sm b _ e).2]; exact e) (fun b o u e => by rw [at_ b (nP b _ e (fun q z => by cases z)) (sm b _ e).1 (sm b _ e).2]; exact e) (fun b qs e => ?_) (fun m hn => ?_) (fun b u e => ?_) I.bare
  · by_cases hb : b = P
    · rw [hb]
      exact ⟨_, hm⟩
    · exact ⟨o, k b o hb e⟩
  · by_cases hb : b = P
    · rw [hb, hP] at e
      cases e
      rw [hb, atP]
      exact ⟨more, rfl⟩
    · rw [at_ b hb (sm b _ e).1 (sm b _ e).2, e]
      exact ⟨#[], by simp⟩
  · obtain ⟨ob, es, ep, ho, r⟩ := hn
    exact ⟨ob, es, ep, k _ ob (nN _ I.free) ho, r⟩
  · by_cases hb2 : b = P2
    · rw [hb2, upd_same] at e
      cases e
      rw [hb2]
      exact hq
    · by_cases hb : b = c
      · rw [hb, upd_ne ncp, upd_same] at e
        cases e
        rw [hb]
        refine ⟨ho, ?_, fun h1 h2 a st => codeHd_stay a st⟩
        obtain ⟨o, _, _, _, _, _, _, _, _, e, _⟩ := ho
        exact ⟨o, e⟩
      · by_cases hbP : b = P
        · rw [hbP, atP] at e
          cases e
          rw [hbP]
          exact hm
        · rw [at_ b hbP hb hb2] at e
          refine (I.hok b u e).stay (fun d v hd q => k d v ?_ q) (fun d q => by rw [at_ d (nP d _ q (fun q z => by cases z)) (sm d _ q).1 (sm d _ q).2]; exact q) fun d xs q => by rw [at_ d (nP d _ q (fun q z => by cases z)) (sm d _ q).1 (sm d _ q).2]; exact q
          rcases hd with z | z
          · rw [z]
            exact hbP
          · exact nP d _ z (fun q z => by cases z)
end
/-- the making of a generator expression's code object, as it is read -/
abbrev TC := L2.St → Hp → (Value → Hp → Prop) → Prop
structure PC (X : Cx) (gpos : Pos) (scope : Scope) (tc : TC) : Prop where
  run : ∀ (pins : List (Addr × Obj)) (s : Shared) (σ : L2.St) (H : Hp) (Q : Value → Hp → Prop) (E : Value → Shared → Prop), Inv X pins σ H s → tc σ H Q →
    wpAny (model X.prog X.w) X.A (genexprCode X.env gpos (X.env.qual ++ "<genexpr>") scope) (fun code s' => ∃ H', Inv X pins σ H' s' ∧ s.heap.objs.size ≤ s'.heap.objs.size ∧ Q code H') E s
/-- of a def's own code object -/
def tCo (Ms : Mq) (Xs : List Addr) (P : Addr) : TC := fun _ H Q => TQ Ms Xs H ∧ P ∈ Ms ∧ ∀ (H2 : Hp) (c' P' : Addr), NoTab H H2 → TQ Ms Xs H2 → P' ∉ Xs → H2 c' = some (CodeG c' P') → GxR.TabG H2 P' → Q (.ref c') H2
theorem pc_own {X : Cx} {Ms : Mq} {Xs : List Addr} {c P : Addr} {gpos : Pos} {scope : Scope} (TB : GxR.TabB X.base X.mg c P) (hcode : X.env.code = .ref c) : PC X gpos scope (tCo Ms Xs P) := by
  refine ⟨fun pins s σ H Q E I h => ?_⟩
  obtain ⟨tq, hPm, q⟩ := h
  obtain ⟨⟨ps, hP, ok, kn⟩, hPx⟩ := tq.gx P hPm
  have hP' : s.heap.get? P = some { cls := .none, data := .fields ps } := I.hok P _ hP
  have C := TB.code.keeps I.bk
  cases found : codeAmong gpos ps.toList with
  | some old =>
    obtain ⟨c', P', rfl, e2, e3, e4⟩ := kn gpos _ found
    exact wpAny_genexprCode_hit hcode (C.code hP' ok) found ⟨H, I, Nat.le_refl _, q H c' P' (NoTab.refl _) tq e3 e2 e4⟩
  | none =>
    refine wpAny_genexprCodeX hcode (C.code hP' ok) (C.tab hP') found fun c' h' tk ext le lt isC _ tab ⟨P', le2, isC2, tab2⟩ => ?_
    obtain ⟨_, _, _, _, _, _, _, _, _, _, _, _, _, _, _, _, _, _, _, okT, _⟩ := isC
    have hd2 := PySem.W.CodeHd.of isC2 tab2
    have ncp : c' ≠ P' := by
      obtain ⟨_, _, _, _, _, _, _, _, _, _, _, _, _, _, _, _, _, _, hne⟩ := hd2
      exact hne
    have J := inv_code (t' := tk) I hP (fun b o hb e => ext b o hb e) tab.2 le le2 ncp hd2 tab2.2
    have nC : H c' = none := I.hok.fresh le
    have nQ : H P' = none := I.hok.fresh le2
    have nPc : P ≠ c' := ne_of_none hP nC
    have nPq : P ≠ P' := ne_of_none hP nQ
    have nX : P' ∉ Xs := fun z => by
      obtain ⟨ps0, e⟩ := tq.all P' z
      rw [nQ] at e
      cases e
    have eL : (ps ++ #[rawInt gpos.line, rawInt gpos.col, .ref c']).toList = ps.toList ++ [rawInt gpos.line, rawInt gpos.col, .ref c'] := by simp
    have kp : But P H (upd (upd (upd H P (.tbl (ps ++ #[rawInt gpos.line, rawInt gpos.col, .ref c']))) c' (CodeG c' P')) P' (.tbl #[])) := fun b o hb e => by
      rw [upd_ne (ne_of_none e nQ), upd_ne (ne_of_none e nC), upd_ne hb]
      exact e
    have eC : upd (upd (upd H P (.tbl (ps ++ #[rawInt gpos.line, rawInt gpos.col, .ref c']))) c' (CodeG c' P')) P' (.tbl #[]) c' = some (CodeG c' P') := by rw [upd_ne ncp, upd_same]
    have tG : GxR.TabG (upd (upd (upd H P (.tbl (ps ++ #[rawInt gpos.line, rawInt gpos.col, .ref c']))) c' (CodeG c' P')) P' (.tbl #[])) P' := ⟨#[], upd_same, True.intro⟩
    have eP : upd (upd (upd H P (.tbl (ps ++ #[rawInt gpos.line, rawInt gpos.col, .ref c']))) c' (CodeG c' P')) P' (.tbl #[]) P = some (.tbl (ps ++ #[rawInt gpos.line, rawInt gpos.col, .ref c'])) := by rw [upd_ne nPq, upd_ne nPc, upd_same]
    have sub : ∀ c0 P0, H c0 = some (CodeG c0 P0) → P0 ∉ Xs → GxR.TabG H P0 → GxR.TabG (upd (upd (upd H P (.tbl (ps ++ #[rawInt gpos.line, rawInt gpos.col, .ref c']))) c' (CodeG c' P')) P' (.tbl #[])) P0 := fun c0 P0 _ e3 ⟨q0, f1, f2⟩ => ⟨q0, kp _ _ (fun z => e3 (z ▸ hPx)) f1, f2⟩
    refine ⟨_, J, Nat.le_trans le (Nat.le_of_lt lt), q _ c' P' (kp.noTab hP eP) ⟨fun x hx => ?_, fun m hm => ?_, fun l hl => let ⟨a, b, c⟩ := tq.lam l hl; ⟨a, b, tabS_keep c (fun _ => kp _ _ (fun z => b (by rw [z]; exact hPm))) fun b c q e => kp _ _ (ne_of e hP (codeO_ne ps)) e⟩⟩ nX eC tG⟩
    · by_cases e : x = P
      · exact ⟨_, by rw [e]; exact eP⟩
      · obtain ⟨ps0, e0⟩ := tq.all x hx
        exact ⟨ps0, kp _ _ e e0⟩
    · by_cases e : m = P
      · subst e
        refine ⟨⟨_, eP, okT, fun pos cv hcv => ?_⟩, hPx⟩
        rw [eL] at hcv
        rcases LamX.among_app _ ok hcv with z | z
        · obtain ⟨c0, P0, e1, e2, e3, e4⟩ := kn pos cv z
          exact ⟨c0, P0, e1, kp _ _ (ne_of e2 hP (codeG_ne ps)) e2, e3, sub c0 P0 e2 e3 e4⟩
        · exact ⟨c', P', z, eC, nX, tG⟩
      · obtain ⟨⟨ps0, a, b, c⟩, hx⟩ := tq.gx m hm
        refine ⟨⟨ps0, kp _ _ e a, b, fun pos cv hc => ?_⟩, hx⟩
        obtain ⟨c0, P0, e1, e2, e3, e4⟩ := c pos cv hc
        exact ⟨c0, P0, e1, kp _ _ (ne_of e2 hP (codeG_ne ps)) e2, e3, sub c0 P0 e2 e3 e4⟩
/-- of the code object of the generator expression around -/
def tCj (Ms : Mq) (Xs : List Addr) (code : Value) : TC := fun _ H Q => ∃ c P, code = .ref c ∧ H c = some (CodeG c P) ∧ P ∉ Xs ∧ GxR.TabG H P ∧ TQ Ms Xs H ∧ ∀ (H2 : Hp) (code' : Value), NoTab H H2 → TQ Ms Xs H2 → GxR.TabG H2 P → Q code' H2
theorem pc_in {X : Cx} {Ms : Mq} {Xs : List Addr} {code : Value} {gpos : Pos} {scope : Scope} (hcode : X.env.code = code) : PC X gpos scope (tCj Ms Xs code) := by
  refine ⟨fun pins s σ H Q E I h => ?_⟩
  obtain ⟨c, P, ec, hC, nX, ⟨ps, hP, ok⟩, tq, q⟩ := h
  rw [ec] at hcode
  have hP' : s.heap.get? P = some { cls := .none, data := .fields ps } := I.hok P _ hP
  have C : PySem.W.CodeHd s.heap c P := (I.hok c _ hC).1
  cases found : codeAmong gpos ps.toList with
  | some old => exact wpAny_genexprCode_hit hcode (C.code hP' ok) found ⟨H, I, Nat.le_refl _, q H _ (NoTab.refl _) tq ⟨ps, hP, ok⟩⟩
  | none =>
    refine wpAny_genexprCodeX hcode (C.code hP' ok) (C.tab hP') found fun c' h' tk ext le lt isC _ tab _ => ?_
    obtain ⟨_, _, _, _, _, _, _, _, _, _, _, _, _, _, _, _, _, _, _, okT, _⟩ := isC
    have J := GxR.inv_tab (more := #[rawInt gpos.line, rawInt gpos.col, .ref c']) (g' := s.gens) (d' := s.drawn) (t' := tk) I hP (fun b o hb e => ext b o hb e) tab.2 I.bare
    have kp : But P H (upd H P (.tbl (ps ++ #[rawInt gpos.line, rawInt gpos.col, .ref c']))) := fun b o hb e => by rw [upd_ne hb]; exact e
    have t2 : GxR.TabG (upd H P (.tbl (ps ++ #[rawInt gpos.line, rawInt gpos.col, .ref c']))) P := ⟨_, upd_same, okT⟩
    exact ⟨_, J, Nat.le_trans le (Nat.le_of_lt lt), q _ _ (kp.noTab hP upd_same) (tq.but nX ⟨ps, hP, ok⟩ t2 kp) t2⟩
end GX

namespace GX
open PySem PySem.Spec PyProof.Rows L2 GenW
/-- the context of a generator expression's frame, which runs in the around B -/
abbrev gcx (X : Cx) (B : Around) (s : Shared) (H : Hp) (scope : Scope) (genv : Env) (fp : List Addr) : Cx :=
  { X with A := B, s_0 := s, H_0 := H, env := genv, outer := X.stack, stack := genv :: X.stack, ex := fp, fn := fun x => scope.names.lookup x == some .cell, calm := true, pn := [], xe := fun _ _ => False }
/-- the names of a generator expression: its own (with their places in N), or captured -/
structure GOk (N : List Str) (sc scope : Scope) (own : List (Str × Nat)) : Prop where
  blk : BlkOk N sc scope own
  dot : scope.names.lookup (".0" : Str) = some .local
  co : scope.isCoroutine = false
def gokB (N : List Str) (sc scope : Scope) (own : List (Str × Nat)) : Bool := blkC N sc scope own && decide (scope.names.lookup (".0" : Str) = some .local) && !scope.isCoroutine
theorem gok_by {N : List Str} {sc scope : Scope} {own : List (Str × Nat)} (h : gokB N sc scope own = true) : GOk N sc scope own := by
  unfold gokB at h
  simp only [Bool.and_eq_true, Bool.not_eq_true', decide_eq_true_eq] at h
  exact ⟨blkOk_by h.1.1, h.1.2, h.2⟩
abbrev frameH (h : Heap) (names : List (Str × NameKind)) : Heap := pushCells (h.push { cls := .type "frame", data := .dict #[] }) names
theorem newGenEnv {M : Model} {A : Around} {E : Value → Shared → Prop} {s : Shared} {scope : Scope} {globals : Addr} {cl : List (Str × Addr)} {qual : Str} {code it : Value} {bi : Addr} {Q : Env → Shared → Prop} (hk : scope.kind = .function) (h0 : scope.names.lookup (".0" : Str) = some .local)
    (h : ∀ h', h'.Ns s.heap.objs.size (fun y => if y = (".0" : Str) then some it else none) → Heap.SameBut s.heap.objs.size (frameH s.heap scope.names) h' →
      Q { scope, locals := s.heap.objs.size, globals, cells := cellsFrom (s.heap.objs.size + 1) scope.names cl, qual, func := none, code, frame := some s.heap.objs.size, builtins := bi } { s with heap := h', toks := s.toks + 1 }) :
    wpAny M A (newFunctionEnv scope globals cl [(".0", it)] qual none code none bi) Q E s := by
  simp only [newFunctionEnv, Option.isSome_none, Bool.false_eq_true, if_false]
  refine wpAny_bind (wpAny_alloc ?_)
  refine wpAny_bind (wpAny_layCells _ (fun name kind cells => by cases hkc : kind == NameKind.cell <;> simp [hkc]) _ _ _ _ ?_)
  rw [show ({ s with heap := s.heap.push { cls := .type "frame", data := .dict #[] } } : Shared).heap.objs.size = s.heap.objs.size + 1 from Heap.size_push ..]
  rw [List.forIn_cons]
  refine wpAny_bind (wpAny_bind (wpAny_bind (wpAny_storeName_local (m := fun _ => none) h0 ((Heap.Ns.new s.heap (.type "frame")).keeps (pushCells_keeps _ _)) (fun h' hn' hs' => ?_) (by
    show (scope.kind == .class || (scope.kind == .module && _)) = false
    rw [hk]; rfl))))
  refine wpAny_pure ?_
  dsimp only
  rw [List.forIn_nil]
  exact wpAny_pure (wpAny_pure (h h' hn' hs'))
abbrev gEnv (X : Cx) (scope : Scope) (s : Shared) (code : Value) : Env := genEnv scope (cellsFrom (s.heap.objs.size + 1) scope.names (cloFrom X.env.cells scope.names [])) s.heap.objs.size code builtinsNs X.env
section
variable {X : Cx} {pins : List (Addr × Obj)} {σ : L2.St} {H : Hp} {s : Shared}
/-- what the around of the frame is to be -/
structure BOk (X : Cx) (B : Around) (genv : Env) : Prop where
  hd : B.handled = none
  fr : B.frames = some (genv :: X.stack)
theorem gx_start {B : Around} {scope : Scope} {own : List (Str × Nat)} {fp : List Addr} {code it : Value} {h' : Heap} {t' : Nat} (I : Inv X pins σ H s) (ok : GOk X.N X.env.scope scope own) (hN : X.N.Nodup) (hfp : ∀ b ∈ fp, FpOk X pins H b ∧ b < s.heap.objs.size)
    (hB : BOk X B (gEnv X scope s code)) (hn' : h'.Ns s.heap.objs.size (fun y => if y = (".0" : Str) then some it else none)) (hs' : Heap.SameBut s.heap.objs.size (frameH s.heap scope.names) h') :
    Inv (gcx X B s H scope (gEnv X scope s code) fp) [] (wipe σ (own.map (·.2))) H { s with heap := h', toks := t' } := by
  obtain ⟨ok, hdot, hco⟩ := ok
  have hfree : ∀ y ∈ scope.names, y.2 = .free → ∃ c, X.env.cells.lookup y.1 = some c := fun y hy e => by
    rcases ok.free y hy e with k | k
    · exact I.ok.has _ (.inl k)
    · exact I.ok.has _ (.inr k)
  generalize hcenv : gEnv X scope s code = cenv at hB ⊢
  have kp0 : ∀ b o, s.heap.get? b = some o → (frameH s.heap scope.names).get? b = some o := fun b o e => pushCells_keeps _ _ _ _ (Heap.get?_push_of_some _ e)
  have kp : ∀ b o, s.heap.get? b = some o → h'.get? b = some o := fun b o e => hs'.extBut b o (Nat.ne_of_lt (Heap.lt_size e)) (kp0 b o e)
  have hL : cenv.locals = s.heap.objs.size := by rw [← hcenv]; rfl
  have hcl : cenv.cells = cellsFrom (s.heap.objs.size + 1) scope.names (cloFrom X.env.cells scope.names []) := by rw [← hcenv]; rfl
  have hsc : cenv.scope = scope := by rw [← hcenv]; rfl
  rw [← Heap.size_push s.heap { cls := .type "frame", data := .dict #[] }] at hcl
  have cm : ∀ {y c}, (y, c) ∈ cloFrom X.env.cells scope.names [] → X.env.cells.lookup y = some c ∧ c < s.heap.objs.size := fun {y c} hm => by
    rcases cloFrom_mem hm with hm | ⟨h1, rfl⟩
    · cases hm
    · obtain ⟨c, hc⟩ := hfree _ h1 rfl
      rw [hc]
      obtain ⟨w, z⟩ := I.cell _ _ hc
      exact ⟨rfl, z.lt⟩
  have mem : ∀ {y c}, cenv.cells.lookup y = some c → (X.env.cells.lookup y = some c ∧ c < s.heap.objs.size) ∨ (s.heap.objs.size + 1 ≤ c ∧ CellAt h' c none) := fun {y c} e => by
    rw [hcl] at e
    rcases cells_mem (PySem.mem_of_lookup e) with hm | ⟨_, h2, h3⟩
    · exact .inl (cm hm)
    · rw [Heap.size_push] at h2
      exact .inr ⟨h2, h3.sameBut hs' (Nat.ne_of_gt h2)⟩
  have look : ∀ {y}, scope.names.lookup y = some .free → ∃ c, cenv.cells.lookup y = some c ∧ X.env.cells.lookup y = some c := fun {y} hl => by
    have hy : (y, NameKind.free) ∈ scope.names := PySem.mem_of_lookup hl
    obtain ⟨c', e'⟩ := mem_lookup (cells_acc (names := scope.names) (n := (s.heap.push { cls := .type "frame", data := .dict #[] }).objs.size) (cloFrom_has (cells := X.env.cells) (acc := []) hy))
    rw [← hcl] at e'
    refine ⟨c', e', ?_⟩
    rw [hcl] at e'
    rcases cells_mem (PySem.mem_of_lookup e') with hm | ⟨h1, _, _⟩
    · exact (cm hm).1
    · have := ok.uniq _ h1
      rw [hl] at this; cases this
  have okB : (gcx X B s H scope cenv fp).Ok := by
    refine ⟨I.ok.mod, by show cenv.scope.kind = _; rw [hsc]; exact ok.kind, by show cenv.globals = _; rw [← hcenv]; exact I.ok.glob, by show cenv.builtins = _; rw [← hcenv]; rfl, by show s.heap.objs.size ≤ cenv.locals; rw [hL]; exact Nat.le_refl _,
      fun y z c e1 e2 => ?_, fun y hy => ?_, fun y c z e => ?_, fun _ => hB.hd, hB.fr, .inr ⟨rfl, by show cenv.frame = _; rw [← hcenv]; rfl⟩, fun b hb => ⟨?_, fun y c e z => ?_⟩, I.bs, Nat.le_trans I.ok.bsz I.sz, fun b o e hb => ?_, fun b hb z => ?_, I.stack, I.stkFree⟩
    · have e1 : cenv.cells.lookup y = some c := e1
      have e2 : cenv.cells.lookup z = some c := e2
      rw [hcl] at e1 e2
      refine cells_inj (fun p hp => ?_) (fun y z c a b => I.ok.inj y z c (cm a).1 (cm b).1) (PySem.mem_of_lookup e1) (PySem.mem_of_lookup e2)
      rw [Heap.size_push]
      exact Nat.lt_succ_of_lt (cm (y := p.1) (c := p.2) hp).2
    · show ∃ c, cenv.cells.lookup y = some c
      have key : ∀ k, cenv.kindOf y = some k → (k = .cell ∨ k = .free) → ∃ c, cenv.cells.lookup y = some c := fun k hk hk' => by
        have hk : scope.names.lookup y = some k := by
          unfold Env.kindOf at hk
          rw [hsc] at hk
          exact hk
        rcases hk' with rfl | rfl
        · obtain ⟨c, hm⟩ := cells_has (n := (s.heap.push { cls := .type "frame", data := .dict #[] }).objs.size) (acc := cloFrom X.env.cells scope.names []) (PySem.mem_of_lookup hk)
          obtain ⟨c', e'⟩ := mem_lookup hm
          exact ⟨c', by rw [hcl]; exact e'⟩
        · obtain ⟨c, h1, _⟩ := look hk
          exact ⟨c, h1⟩
      rcases hy with hy | hy
      · exact key _ hy (.inl rfl)
      · exact key _ hy (.inr rfl)
    · have z : (scope.names.lookup y == some NameKind.cell) = true := z
      have z : scope.names.lookup y = some .cell := by simpa using z
      have e : cenv.cells.lookup y = some c := e
      rw [hcl] at e
      rcases cells_mem (PySem.mem_of_lookup e) with hm | ⟨_, h2, _⟩
      · rcases cloFrom_mem hm with hm | ⟨h1, _⟩
        · cases hm
        · have q := ok.uniq _ h1
          rw [z] at q; cases q
      · rw [Heap.size_push] at h2
        exact Nat.le_of_succ_le h2
    · show b ≠ cenv.locals
      rw [hL]; exact Nat.ne_of_lt (hfp b hb).2
    · have e : cenv.cells.lookup y = some c := e
      rcases mem e with ⟨h1, _⟩ | ⟨h1, _⟩
      · exact (hfp b hb).1.2.2.2.2.1 y c h1 z
      · have h2 : s.heap.objs.size + 1 ≤ b := by rw [← z]; exact h1
        exact absurd (Nat.lt_of_lt_of_le (hfp b hb).2 (Nat.le_of_succ_le h2)) (Nat.lt_irrefl _)
    · rcases (hfp b hb).1.2.2.2.1 with z | z
      · exact I.ok.noex b o e z
      · exact absurd (Nat.lt_of_lt_of_le (Heap.lt_size e) (Nat.le_trans I.ok.bsz z)) (Nat.lt_irrefl _)
    · rcases List.mem_cons.mp (I.stkSub b z) with z | z
      · exact (hfp b hb).1.2.1 z
      · exact (hfp b hb).1.2.2.1 z
  refine ⟨okB, rfl, I.bare, Un.kept kp, ⟨fun y => if y = (".0" : Str) then some it else none, ?_, fun i y av e1 e2 e3 => ?_⟩, fun y c e => ?_, ?_, fun y c e => ?_, fun p hp => ?_, I.hok.kept kp, by rw [wipe_length]; exact I.len⟩
  · show Heap.Ns _ cenv.locals _
    rw [hL]
    exact hn'
  · obtain ⟨e2, hne⟩ := wipe_some e2
    have hfr : scope.names.lookup y = some .free := by
      have e3 : Vis cenv.scope y := e3
      rw [hsc] at e3
      have no : ∀ k, scope.names.lookup y = some k → ¬ (k = .local ∨ k = .cell) := fun k e hh => by
        rcases ok.own _ (PySem.mem_of_lookup e) hh with e' | e'
        · obtain ⟨p, hp, hpy⟩ := List.mem_map.mp e'
          have e3 := ok.ix p hp
          have : p.1 = y := hpy
          rw [this] at e3
          exact hne (List.mem_map.mpr ⟨p, hp, nodup_ix hN e3 e1⟩)
        · exact e' (List.mem_of_getElem? e1)
      rcases e3 with e3 | e3 | e3
      · exact absurd (.inl rfl) (no _ e3)
      · exact absurd (.inr rfl) (no _ e3)
      · exact e3
    have hkf : cenv.kindOf y = some .free := by
      unfold Env.kindOf
      rw [hsc]
      exact hfr
    obtain ⟨m, hn, hl⟩ := I.loc
    have hvis : Vis X.env.scope y := (ok.free _ (PySem.mem_of_lookup hfr) rfl).elim (fun k => .inr (.inl k)) (fun k => .inr (.inr k))
    obtain ⟨w, r, q⟩ := hl i y av e1 e2 hvis
    refine ⟨w, r, .inr ⟨.inr hkf, ?_⟩⟩
    obtain ⟨c, h1, h2⟩ := look hfr
    rcases q with ⟨k, _⟩ | ⟨_, c', e', z⟩
    · have k : X.env.scope.names.lookup y = some .local := k
      rcases ok.free _ (PySem.mem_of_lookup hfr) rfl with k' | k' <;> rw [show X.env.scope.names.lookup y = _ from k'] at k <;> cases k
    · rw [h2] at e'; cases e'
      exact ⟨c, h1, z.keeps kp⟩
  · have e : cenv.cells.lookup y = some c := e
    rcases mem e with ⟨h1, _⟩ | ⟨_, z⟩
    · obtain ⟨w, z⟩ := I.cell y c h1
      exact ⟨w, z.keeps kp⟩
    · exact ⟨_, z⟩
  · show H cenv.locals = none
    rw [hL]; exact I.hok.fresh (Nat.le_refl _)
  · have e : cenv.cells.lookup y = some c := e
    rcases mem e with ⟨h1, _⟩ | ⟨h1, _⟩
    · exact I.freeC y c h1
    · exact I.hok.fresh (Nat.le_of_succ_le h1)
  · exact absurd (show p ∈ ([] : List (Addr × Obj)) ++ [] from hp) (by simp)
/-- the table of generators and the heap have grown -/
theorem inv_gens {g' : Array GenState} {t' : Nat} {d' : Drawn} {h' : Heap} (I : Inv X pins σ H s) (k : ∀ b o, s.heap.get? b = some o → h'.get? b = some o) (hg : AllBare g') : Inv X pins σ H { s with heap := h', gens := g', drawn := d', toks := t' } :=
  I.step (ch := []) (fun b hb => absurd hb (by simp)) (fun b o _ _ _ e _ => k b o e) (fun b o _ _ _ e _ => ⟨o.slots, k b o e⟩) (fun _ _ _ _ n => n) (fun b o _ e => ⟨o, k b o e⟩) (fun _ _ e => e) (fun _ _ _ e => e) (fun b ps e => ⟨#[], by rw [e]; simp⟩)
    (fun m hn => hn.keeps k) (I.hok.kept k) hg
theorem over_gen {A : Around} {elt tg iter : Expr} {ifs : List Expr} {scope : Scope} {pos : Pos} {it acc : Value} {env : Env} : A.over (.compLoop (.GeneratorExp elt [⟨tg, iter, ifs, 0⟩] scope pos) 0 it acc env) [] = A.deeper env := by
  first
    | rfl
    | (obtain ⟨hd, d, fr, gs, u⟩ := A; simp [Around.over, Around.deeper, marksOver, frameCount, unitsOf, envsOf, guardsOf, pushEnvs, pushGuards, Code.envs, Code.env?, Code.isFrame, Code.guards, Code.isGuard, Code.weight, Code.frames, Code.isCreation, Code.isCaller, Code.cUnits])
theorem over_gen0 {A : Around} {elt tg iter : Expr} {ifs : List Expr} {scope : Scope} {pos : Pos} {it acc : Value} {env : Env} : A.over (.compStart (.GeneratorExp elt [⟨tg, iter, ifs, 0⟩] scope pos) 0 it acc env) [] = A.deeper env := by
  first
    | rfl
    | (obtain ⟨hd, d, fr, gs, u⟩ := A; simp [Around.over, Around.deeper, marksOver, frameCount, unitsOf, envsOf, guardsOf, pushEnvs, pushGuards, Code.envs, Code.env?, Code.isFrame, Code.guards, Code.isGuard, Code.weight, Code.frames, Code.isCreation, Code.isCaller, Code.cUnits])
end
end GX

namespace GX
open PySem PySem.Spec PyProof.Rows L2 GenW
/-- what a consumer of the items does with one: N is what is wanted where it goes on -/
abbrev Stps (α : Type) := α → V → Hp → (α → Hp → Prop) → Prop
/-- while the generator sleeps: the objects at Ss may be others, all else is kept -/
structure Slp (Ss : List Addr) (s s' : Shared) : Prop where
  os : s'.os = s.os
  bare : AllBare s'.gens
  keep : ∀ b o, b ∉ Ss → s.heap.get? b = some o → s'.heap.get? b = some o
  own : ∀ b ∈ Ss, ∃ o, s'.heap.get? b = some o ∧ ∀ v, o.data ≠ .cell v
/-- the consumer's objects are none of the generator's -/
structure SsOk (Xg : Cx) (gp : Addr × Obj) (fp Ss : List Addr) : Prop where
  all : ∀ b ∈ Ss, Xg.s_0.heap.objs.size ≤ b ∧ b ≠ Xg.env.locals ∧ (∀ x c, Xg.env.cells.lookup x = some c → c ≠ b) ∧ b ∉ fp ∧ b ≠ gp.1
  pn : Xg.pn = []
/-- the generator's state at turn i -/
def GSt (Xg : Cx) (gp : Addr × Obj) (fp : List Addr) (tn : Nat → Heap → Prop) (Ss : List Addr) (σ0 : L2.St) (i : Nat) (H : Hp) (s : Shared) : Prop :=
  ∃ cp : List (Addr × Obj), cp.map (·.1) = Ss ∧ Inv Xg (gp :: cp) σ0 H s ∧ tn i s.heap ∧ ∀ b ∈ fp, H b = none
section
variable {Xg : Cx} {gp : Addr × Obj} {fp : List Addr} {tn : Nat → Heap → Prop} {Ss : List Addr} {σ0 : L2.St} {i : Nat} {H : Hp} {s s' : Shared}
theorem pins_exist : ∀ (Ss : List Addr) (h : Heap), (∀ b ∈ Ss, ∃ o, h.get? b = some o ∧ ∀ v, o.data ≠ .cell v) → ∃ cp : List (Addr × Obj), cp.map (·.1) = Ss ∧ ∀ p ∈ cp, h.get? p.1 = some p.2 ∧ ∀ v, p.2.data ≠ .cell v
  | [], _, _ => ⟨[], rfl, fun _ h => nomatch h⟩
  | b :: r, h, k => by
    obtain ⟨o, e, d⟩ := k b (List.mem_cons_self ..)
    obtain ⟨cp, e1, e2⟩ := pins_exist r h fun x hx => k x (List.mem_cons_of_mem _ hx)
    refine ⟨(b, o) :: cp, by rw [List.map_cons, e1], fun p hp => ?_⟩
    rcases List.mem_cons.mp hp with z | z
    · rw [z]; exact ⟨e, d⟩
    · exact e2 p z
theorem GSt.woken {P : Program} {w : World} {K : PySem.W.Frag} {tg : Expr} {J : It} {it : Addr} (T : Turn P w K tg J fp it tn) (hS : SsOk Xg gp fp Ss) (h : GSt Xg gp fp tn Ss σ0 i H s) (z : Slp Ss s s') : GSt Xg gp fp tn Ss σ0 i H s' := by
  obtain ⟨cp, ecp, I, st, nf⟩ := h
  have free : ∀ b ∈ Ss, H b = none ∧ b ∉ Xg.fs := fun b hb => by
    rw [← ecp] at hb
    obtain ⟨p, hp, rfl⟩ := List.mem_map.mp hb
    obtain ⟨_, h2, _, h4, _⟩ := I.pin p (List.mem_append_right _ (List.mem_cons_of_mem _ hp))
    exact ⟨h2, h4⟩
  obtain ⟨z1, z2, z3, z4⟩ := z
  obtain ⟨hh, g, d, t, o⟩ := s'
  have ho : o = s.os := z1
  subst ho
  have I0 : Inv Xg [gp] σ0 H s := I.pins_of fun p hp => I.pin p (List.mem_append_right _ (by rw [List.mem_singleton.mp hp]; exact List.mem_cons_self ..))
  have nt : ∀ b u, H b = some u → b ∉ Ss := fun b u q hb => by rw [(free b hb).1] at q; cases q
  have J : Inv Xg [gp] σ0 H { s with heap := hh, gens := g, drawn := d, toks := t } := by
    refine I0.step (g' := g) (t' := t) (d' := d) (ch := Ss) (fun b hb => ?_) (fun b ob _ _ hc q _ => z3 b ob hc q) (fun b ob _ _ hc q _ => ⟨ob.slots, z3 b ob hc q⟩) (fun _ _ _ _ n => n) (fun b ob hc q => ⟨ob, z3 b ob hc q⟩)
      (fun _ _ q => q) (fun _ _ _ q => q) (fun b ps q => ⟨#[], by rw [q]; simp⟩) (fun m hm => ?_) (fun b u q => ?_) z2
    · obtain ⟨a1, a2, a3, a4, a5⟩ := hS.all b hb
      refine ⟨.inr a1, a2, a3, fun p hp => ?_⟩
      rw [hS.pn] at hp
      rw [List.mem_singleton.mp hp]
      exact Ne.symm a5
    · obtain ⟨ob, es, ep, ho, r⟩ := hm
      exact ⟨ob, es, ep, z3 _ ob (fun q => (hS.all _ q).2.1 rfl) ho, r⟩
    · refine (I0.hok b u q).stay (fun c v hc y => z3 c v ?_ y) (fun _ y => y) fun _ _ y => y
      rcases hc with y | y
      · rw [y]; exact nt b u q
      · exact nt c _ y
  obtain ⟨cp2, e2, k2⟩ := pins_exist Ss hh z4
  refine ⟨cp2, e2, J.pins_of fun p hp => ?_, T.keep _ _ _ st fun b hb ob e => z3 b ob (fun q => (hS.all b q).2.2.2.1 hb) e, nf⟩
  rcases List.mem_cons.mp hp with hp | hp
  · rw [hp]
    exact J.pin gp (List.mem_append_right _ (List.mem_cons_self ..))
  · have hm : p.1 ∈ Ss := by rw [← e2]; exact List.mem_map_of_mem hp
    exact ⟨(k2 p hp).1, (free _ hm).1, (hS.all _ hm).2.1, (free _ hm).2, (k2 p hp).2⟩
end
section
variable {α : Type} (CRel : α → Heap → Prop) (Stp : Stps α) (Fin : α → Hp → Prop) (Xg : Cx) (gp : Addr × Obj) (fp : List Addr) (tn : Nat → Heap → Prop) (Ss : List Addr) (σ0 : L2.St)
def YG : Protocol := fun _ s₀ v s kap => ∃ (i : Nat) (x : V) (acc : α) (H : Hp) (Nx : α → Hp → Prop), RelV x v ∧ GSt Xg gp fp tn Ss σ0 i H s ∧ CRel acc s₀.heap ∧ (∀ b ∈ Ss, s.heap.get? b = s₀.heap.get? b) ∧ Stp acc x H Nx ∧
  ∀ s' acc', Slp Ss s s' → CRel acc' s'.heap → Nx acc' H → kap (.send .none) s'
def RGp : Shared → Shared → Prop := fun s₀ s => ∃ (acc : α) (H : Hp) (cp : List (Addr × Obj)), cp.map (·.1) = Ss ∧ Inv Xg (gp :: cp) σ0 H s ∧ CRel acc s₀.heap ∧ (∀ b ∈ Ss, s.heap.get? b = s₀.heap.get? b) ∧ Fin acc H
def RG : GenEnd := fun _ s₀ r s => r = .ok .next ∧ RGp CRel Fin Xg gp Ss σ0 s₀ s
/-- the reading of the turns -/
def TurnsR (J : It) (g : TG) (tt : TT) (te : TE) (vs : List Nat) (σ : L2.St) (W : Nat → Nat → α → Hp → Prop) : Prop := ∀ i m a H, W i m a H →
  (J.stop i H ∧ Fin a H) ∨ (J.go i H ∧ ∃ Nx : α → Hp → Prop, (∀ a' H', Nx a' H' → ∃ m', m' < m ∧ W (i + 1) m' a' H') ∧ ∀ x H', J.yld i H x H' → g x (wipe σ vs) H' fun σ2 H2 => wipe σ2 vs = wipe σ vs ∧ tt σ2 H2 fun b H3 =>
    if b = true then te σ2 H3 fun y H4 => Stp a y H4 Nx else Nx a H3)
end
section
variable {α : Type} {CRel : α → Heap → Prop} {Stp : Stps α} {Fin : α → Hp → Prop} {Xg : Cx} {gp : Addr × Obj} {fp : List Addr} {tn : Nat → Heap → Prop} {Ss : List Addr} {σ : L2.St}
theorem gx_loop {B : Around} {tg elt iter : Expr} {ifs : List Expr} {scope : Scope} {gpos : Pos} {it : Addr} {J : It} {g : TG} {tt : TT} {te : TE} {vs : List Nat} {W : Nat → Nat → α → Hp → Prop} (hov : B.deeper Xg.env = Xg.A) (hc : Xg.calm = true) (hco : Xg.env.scope.isCoroutine = false) (hxe : Xg.xe = fun _ _ => False)
    (T : Turn Xg.prog Xg.w Xg.K tg J fp it tn) (hfp : ∀ b ∈ fp, ∀ H', H' b = none → FpOk Xg [] H' b) (hS : SsOk Xg gp fp Ss) (hgf : gp.1 ∉ fp) (hg : PG Xg tg g) (ht : PTs Xg ifs tt) (he : PE Xg elt te) (turn : TurnsR Stp Fin J g tt te vs σ W) :
    ∀ (m n i : Nat) (acc : α) (H : Hp) (s₀ s : Shared), m < n → W i m acc H → CRel acc s₀.heap → (∀ b ∈ Ss, s.heap.get? b = s₀.heap.get? b) → GSt Xg gp fp tn Ss (wipe σ vs) i H s →
      Seg (model Xg.prog Xg.w) B (RG CRel Fin Xg gp Ss (wipe σ vs)) (YG CRel Stp Xg gp fp tn Ss (wipe σ vs)) n s₀ (.compLoop (.GeneratorExp elt [⟨tg, iter, ifs, 0⟩] scope gpos) 0 (.ref it) .none Xg.env)
        ((model Xg.prog Xg.w).den (.compLoop (.GeneratorExp elt [⟨tg, iter, ifs, 0⟩] scope gpos) 0 (.ref it) .none Xg.env)) [] s := by
  have hover : B.over (.compLoop (.GeneratorExp elt [⟨tg, iter, ifs, 0⟩] scope gpos) 0 (.ref it) .none Xg.env) [] = Xg.A := over_gen.trans hov
  intro m
  induction m using Nat.strongRecOn with
  | ind m ih =>
    intro n i acc H s₀ s hmn w crel ksS hst
    obtain ⟨cp, ecp, I, st, nf⟩ := hst
    have fpOk : ∀ {pins : List (Addr × Obj)} {σ' : L2.St} {H' : Hp} {s' : Shared}, pins.map (·.1) = gp.1 :: Ss → Inv Xg pins σ' H' s' → (∀ b ∈ fp, H' b = none) → ∀ b ∈ fp, FpOk Xg pins H' b := fun {pins σ' H' s'} ep I' hn b hb => by
      obtain ⟨a0, a1, a2, a3, a4, _⟩ := hfp b hb H' (hn b hb)
      refine ⟨a0, a1, a2, a3, a4, fun p hp z => ?_⟩
      rw [hS.pn, List.nil_append] at hp
      have hm : p.1 ∈ gp.1 :: Ss := by rw [← ep]; exact List.mem_map_of_mem hp
      rcases List.mem_cons.mp hm with q | q
      · rw [z] at q; exact hgf (q ▸ hb)
      · rw [z] at q; exact (hS.all b q).2.2.2.1 hb
    have epin : (gp :: cp).map (·.1) = gp.1 :: Ss := by rw [List.map_cons, ecp]
    have ownSs : ∀ {extra : List (Addr × Obj)} {σ' : L2.St} {H' : Hp} {s' : Shared}, Inv Xg ((gp :: cp) ++ extra) σ' H' s' → ∀ b ∈ Ss, s'.heap.get? b = s₀.heap.get? b := fun {extra σ' H' s'} I' b hb => by
      rw [← ksS b hb]
      rw [← ecp] at hb
      obtain ⟨p, hp, rfl⟩ := List.mem_map.mp hb
      rw [(I'.pin p (List.mem_append_right _ (List.mem_append_left _ (List.mem_cons_of_mem _ hp)))).1, (I.pin p (List.mem_append_right _ (List.mem_cons_of_mem _ hp))).1]
    have I := I
    show Seg _ B _ _ _ s₀ _ ((compTurn (.GeneratorExp elt [⟨tg, iter, ifs, 0⟩] scope gpos) 0 (.ref it) .none Xg.env).onRaise (leaving Xg.env)) [] s
    rw [compTurn_gen, Sem.onRaise_eq_wrap]
    refine seg_bind_wrap (wpAny_standAt ?_)
    rcases turn i m acc H w with ⟨stop, qf⟩ | ⟨go, Nx, hNx, step⟩
    · refine seg_bind_wrap ?_
      rw [hover]
      refine wpAny_mono (T.done Xg rfl rfl rfl hc i (gp :: cp) s (wipe σ vs) H (fun _ _ => False) I (fpOk epin I nf) st stop) (fun r s1 ⟨hr, I1⟩ => ?_) fun _ _ z => z.elim
      subst hr
      exact seg_end (.ok .next) ⟨rfl, acc, H, cp, ecp, I1, crel, ownSs (extra := []) (by rw [List.append_nil]; exact I1), qf⟩
    · refine seg_bind_wrap ?_
      rw [hover]
      refine wpAny_mono (T.item Xg rfl rfl rfl hc i (gp :: cp) s (wipe σ vs) H (fun _ _ => False) I (fpOk epin I nf) st go) (fun r s1 ⟨u, hr, h1⟩ => ?_) fun _ _ z => z.elim
      subst hr
      refine seg_bind_wrap ?_
      rw [hover]
      refine wpAny_mono h1 (fun _ s2 ⟨x, H2, I2, rx, y2, st2, n2⟩ => ?_) fun _ _ z => z.elim
      have I2' := I2.pinned (fpOk epin I2 n2) (T.obj _ _ st2)
      have hxe' : ∀ {α : Type} {t : Sem α} {Q : α → Shared → Prop} {E : Value → Shared → Prop} {s : Shared}, wpAny (model Xg.prog Xg.w) Xg.A t Q Xg.xe s → wpAny (model Xg.prog Xg.w) Xg.A t Q E s := fun h => wpAny_mono h (fun _ _ z => z) fun _ _ z => by rw [hxe] at z; exact z.elim
      refine seg_bind_wrap ?_
      rw [hover]
      refine wpAny_mono (hxe' (hg.run _ s2 (wipe σ vs) H2 x u _ I2' rx (step x H2 y2))) (fun _ s3 ⟨σ3, H3, I3, hw3, q3⟩ => ?_) fun _ _ z => z
      refine seg_bind_wrap ?_
      rw [hover]
      refine wpAny_mono (hxe' (ht.run _ s3 σ3 H3 _ I3 q3)) (fun b s4 ⟨H4, I4, q4⟩ => ?_) fun _ _ z => z
      -- the turn's end
      have fin : ∀ {s' : Shared} {H' : Hp}, Inv Xg ((gp :: cp) ++ pinsAt fp s2.heap) σ3 H' s' → GSt Xg gp fp tn Ss (wipe σ vs) (i + 1) H' s' := fun {s' H'} I' => by
        have pin' : ∀ b ∈ fp, ∀ o, s2.heap.get? b = some o → s'.heap.get? b = some o ∧ H' b = none := fun b hb o e =>
          let z := I'.pin (b, o) (List.mem_append_right _ (List.mem_append_right _ (mem_pinsAt hb e)))
          ⟨z.1, z.2.1⟩
        have hl : (wipe σ vs).length = σ3.length := by rw [← hw3, wipe_length]
        refine ⟨cp, ecp, (I'.unpinned (pins := gp :: cp)).weak hl (fun j v e => ?_), T.keep _ _ _ st2 fun b hb o e => (pin' b hb o e).1, fun b hb => ?_⟩
        · rw [← hw3] at e
          exact (wipe_some e).1
        · obtain ⟨o, e, _⟩ := T.obj _ _ st2 b hb
          exact (pin' b hb o e).2
      cases b with
      | false =>
        simp only [Bool.false_eq_true, if_false] at q4 ⊢
        obtain ⟨m', hm, w'⟩ := hNx _ _ q4
        exact seg_again rfl (ih m' hm n (i + 1) acc H4 s₀ s4 (by omega) w' crel (ownSs I4) (fin I4))
      | true =>
        simp only [if_true] at q4 ⊢
        have hy : ∀ v, yieldOut Xg.env v = yieldValue v := fun v => by simp only [yieldOut, hco, Bool.false_eq_true, if_false]
        simp only [hy]
        obtain ⟨n', rfl⟩ : ∃ n', n = n' + 1 := ⟨n - 1, by omega⟩
        rw [Sem.bind_eq_wrap', Sem.bind_eq_wrap', Sem.wrap_wrap, Sem.wrap_wrap]
        refine seg_wrap ?_
        rw [hover]
        refine wpAny_mono (hxe' (he.run _ s4 σ3 H4 _ I4 q4)) (fun yv s5 ⟨y, H5, I5, ry, q5⟩ => ?_) fun _ _ z => z
        refine seg_at (seg_yield rfl rfl rfl ⟨i + 1, y, acc, H5, Nx, ry, fin I5, crel, ownSs I5, q5, fun s6 acc' sl cr nx => ?_⟩)
        obtain ⟨m', hm, w'⟩ := hNx _ _ nx
        exact seg_again rfl (ih m' hm n' (i + 1) acc' H5 s6 s6 (by omega) w' cr (fun _ _ => rfl) ((fin I5).woken T hS sl))
end
end GX

namespace GX
open PySem PySem.Spec PyProof.Rows L2 GenW
section
variable {X : Cx} {pins : List (Addr × Obj)} {σ : L2.St} {H : Hp} {s : Shared}
/-- the generator is made: at a, its frame laid, its first turn not begun; s3: the state ahead of its frame -/
structure Made (X : Cx) (pins : List (Addr × Obj)) (σ : L2.St) (tg elt iter : Expr) (ifs : List Expr) (scope : Scope) (gpos : Pos) (own : List (Str × Nat)) (J : It) (code : Value) (H3 : Hp) (s3 : Shared) (it : Addr) (fp : List Addr) (tn : Nat → Heap → Prop) (a : Addr) (g : Nat) (gob : Obj) (s5 : Shared) : Prop where
  inv : Inv X pins σ H3 s3
  turn : Turn X.prog X.w X.K tg J fp it tn
  fps : ∀ b ∈ fp, FpOk X pins H3 b ∧ b < s3.heap.objs.size
  st : tn 0 s5.heap
  ag : s3.heap.objs.size ≤ a
  get : s5.heap.get? a = some gob
  obj : gob.cls = .type "generator" ∧ (∃ nm qn, gob.data = .fields #[.int g 0, nm, qn]) ∧ gob.slots = #[]
  gen : s5.gens[g]? = some (.fresh (.compStart (.GeneratorExp elt [⟨tg, iter, ifs, 0⟩] scope gpos) 0 (.ref it) .none (gEnv X scope s3 code)))
  sub : ∀ B : Around, BOk X B (gEnv X scope s3 code) → Inv (gcx X B s3 H3 scope (gEnv X scope s3 code) fp) [(a, gob)] (wipe σ (own.map (·.2))) H3 s5
theorem Made.isGen {tg elt iter : Expr} {ifs : List Expr} {scope : Scope} {gpos : Pos} {own : List (Str × Nat)} {J : It} {code : Value} {H3 : Hp} {s3 : Shared} {it : Addr} {fp : List Addr} {tn : Nat → Heap → Prop} {a : Addr} {g : Nat} {gob : Obj} {s5 : Shared} (M : Made X pins σ tg elt iter ifs scope gpos own J code H3 s3 it fp tn a g gob s5)
    {h : Heap} (e : h.get? a = some gob) : h.IsGen a g := let ⟨h1, ⟨nm, qn, h2⟩, h3⟩ := M.obj; ⟨gob, nm, qn, e, h1, h2, h3⟩
theorem gx_eval {tg elt iter : Expr} {ifs : List Expr} {scope : Scope} {gpos : Pos} {own : List (Str × Nat)} {ti : TI} {tc : TC} {P0 : Addr} {k : Nat} {Want : It → Value → Hp → Prop} {Q' : Value → Shared → Prop} (I : Inv X pins σ H s) (hN : X.N.Nodup) (room : Room k X.A) (hi : PI X tg iter ti) (hpc : PC X gpos scope tc) (BA : X.base.BuiltinsAt X.mg P0) (ok : GOk X.N X.env.scope scope own)
    (hs : ∀ v, genFold iter X.env v = pure v) (h : ti σ H fun J H1 => tc σ H1 fun code H2 => Want J code H2)
    (fin : ∀ J code H3 s3 it fp tn a g gob s5, Want J code H3 → Made X pins σ tg elt iter ifs scope gpos own J code H3 s3 it fp tn a g gob s5 → Q' (.ref a) s5) :
    wpAny (model X.prog X.w) X.A (eval (.GeneratorExp elt [⟨tg, iter, ifs, 0⟩] scope gpos) X.env) Q' X.xe s := by
  have hfree : ∀ y ∈ scope.names, y.2 = .free → ∃ c, X.env.cells.lookup y.1 = some c := fun y hy e => by
    rcases ok.blk.free y hy e with k | k
    · exact I.ok.has _ (.inl k)
    · exact I.ok.has _ (.inr k)
  have deep : X.A.depth < recursionLimit := by have := room.dp; omega
  rw [eval_GeneratorExp1 _ _ _ _ _ _ _ ok.co, closure_ok hfree]
  refine wpAny_bind (thn (hi.run pins s σ H _ I h) fun xv s1 h1 => ?_)
  refine wpAny_bind (wpAny_standAt ?_)
  refine wpAny_bind (wpAny_of_eq (hs xv) ?_)
  refine wpAny_bind (wpAny_holding (thn h1 fun itv s2 h2 => ?_))
  obtain ⟨it, fp, tn, J, H2, e, I2, T, st2, f2, q2⟩ := h2
  subst e
  refine wpAny_bind (wpAny_enterFrame I2.nolimit deep ?_)
  refine wpAny_bind (wpAny_pure ?_)
  have sz : ∀ b ∈ fp, b < s2.heap.objs.size := fun b hb => by
    obtain ⟨o, e, _⟩ := T.obj _ _ st2 b hb
    exact Heap.lt_size e
  have I2' := I2.pinned f2 (T.obj _ _ st2)
  refine wpAny_bind (thn (hpc.run _ s2 σ H2 _ _ I2' q2) fun code s3 ⟨H3, I3', le3, want⟩ => ?_)
  have pin3 : ∀ b ∈ fp, ∀ o, s2.heap.get? b = some o → s3.heap.get? b = some o ∧ H3 b = none := fun b hb o e =>
    let z := I3'.pin (b, o) (List.mem_append_right _ (List.mem_append_right _ (mem_pinsAt hb e)))
    ⟨z.1, z.2.1⟩
  have I3 : Inv X pins σ H3 s3 := I3'.unpinned
  have st3 : tn 0 s3.heap := T.keep _ _ _ st2 fun b hb o e => (pin3 b hb o e).1
  have f3 : ∀ b ∈ fp, FpOk X pins H3 b ∧ b < s3.heap.objs.size := fun b hb => by
    obtain ⟨o, e, _⟩ := T.obj _ _ st2 b hb
    exact ⟨⟨(pin3 b hb o e).2, (f2 b hb).2⟩, Heap.lt_size (pin3 b hb o e).1⟩
  obtain ⟨bm, ob, b1, b2, _, _, b3, b4, b5, b6⟩ := BA
  have glob : s3.heap.Ns X.env.globals X.mg := by rw [I3.ok.glob]; exact I3.mod.glob.keeps I3.bk
  refine wpAny_bind (wpAny_builtinsFor (m := X.mg) glob b1 b2 (I3.bk bm ob b3) b4 b5 b6 ?_)
  refine wpAny_bind (newGenEnv (s := s3) ok.blk.kind ok.dot fun h' hn' hs' => ?_)
  simp only [newGenerator, newFields]
  refine wpAny_bind (wpAny_newGen (wpAny_bind (wpAny_mkText (wpAny_bind (wpAny_mkText (wpAny_newObj_type ?_ (by size_fits)))))))
  have kp0 : ∀ b o, s3.heap.get? b = some o → h'.get? b = some o := fun b o e => hs'.extBut b o (Nat.ne_of_lt (Heap.lt_size e)) (pushCells_keeps _ _ _ _ (Heap.get?_push_of_some _ e))
  have hsz : s3.heap.objs.size < h'.objs.size := hn'.lt
  refine fin J code H3 s3 it fp tn h'.objs.size s3.gens.size _ _ want ⟨I3, T, f3, ?_, Nat.le_of_lt hsz, Heap.get?_push_size _ rfl, ⟨rfl, ⟨_, _, rfl⟩, rfl⟩, Array.getElem?_push_size .., fun B hB => ?_⟩
  · exact T.keep _ _ _ st3 fun b _ o e => Heap.get?_push_of_some _ (kp0 b o e)
  · have I4 := gx_start (t' := s3.toks + 1) (it := .ref it) I3 ok hN f3 hB hn' hs'
    have I5 := inv_gens (g' := s3.gens.push (.fresh (.compStart (.GeneratorExp elt [⟨tg, iter, ifs, 0⟩] scope gpos) 0 (.ref it) .none (gEnv X scope s3 code)))) (d' := s3.drawn) (t' := s3.toks + 1 + 1 + 1) (h' := h'.push { cls := .type "generator", data := .fields #[.int s3.gens.size 0, .str "<genexpr>" (s3.toks + 1), .str (X.env.qual ++ "<genexpr>") (s3.toks + 1 + 1)] }) I4 (fun b o e => Heap.get?_push_of_some _ e) (I3.bare.push rfl)
    refine I5.pins_of fun p hp => ?_
    rw [List.mem_singleton.mp hp]
    have nw : H3 h'.objs.size = none := I4.hok.fresh (Nat.le_refl _)
    exact ⟨Heap.get?_push_size _ rfl, nw, Nat.ne_of_gt I4.lt, I4.nofs (Nat.le_refl _), fun v z => by cases z⟩
end
end GX

namespace GX
open PySem PySem.Spec PyProof.Rows L2 GenW
section
variable {X : Cx} {pins : List (Addr × Obj)} {σ : L2.St} {tg elt iter : Expr} {ifs : List Expr} {scope : Scope} {gpos : Pos} {own : List (Str × Nat)} {J : It} {code : Value} {H3 : Hp} {s3 : Shared} {it : Addr} {fp : List Addr} {tn : Nat → Heap → Prop} {a : Addr} {g : Nat} {gob : Obj} {s5 : Shared}
/-- back in the def's context -/
theorem Made.back (M : Made X pins σ tg elt iter ifs scope gpos own J code H3 s3 it fp tn a g gob s5) {B : Around} {ps : List (Addr × Obj)} {σ' : L2.St} {H : Hp} {s1 s' : Shared} (I1 : Inv (gcx X B s3 H3 scope (gEnv X scope s3 code) fp) ps σ' H s1) (ho : s'.os = s1.os) (hb : AllBare s'.gens) (k : ∀ b o, s1.heap.get? b = some o → s'.heap.get? b = some o) : Inv X pins σ H s' := by
  refine M.inv.call' (ch := fp) (ho.trans I1.os) (I1.base.trans (Un.kept k)) (I1.hok.kept k) hb fun b hb => ?_
  have f := (M.fps b hb).1
  exact ⟨f.2.2.2.1, f.2.1, f.2.2.2.2.1, f.2.2.2.2.2⟩
abbrev Made.cx (_ : Made X pins σ tg elt iter ifs scope gpos own J code H3 s3 it fp tn a g gob s5) (A : Around) : Cx := gcx X (A.deeper (gEnv X scope s3 code)) s3 H3 scope (gEnv X scope s3 code) fp
theorem Made.bok (_ : Made X pins σ tg elt iter ifs scope gpos own J code H3 s3 it fp tn a g gob s5) {A : Around} (hd : A.handled = none) (hf : A.frames = some X.stack) : BOk X (A.deeper (gEnv X scope s3 code)) (gEnv X scope s3 code) := ⟨hd, Around.frames_deeper hf⟩
theorem Made.ss (M : Made X pins σ tg elt iter ifs scope gpos own J code H3 s3 it fp tn a g gob s5) {A : Around} (hB : BOk X (A.deeper (gEnv X scope s3 code)) (gEnv X scope s3 code)) {Ss : List Addr} (h : ∀ b ∈ Ss, s5.heap.objs.size ≤ b) : SsOk (M.cx A) (a, gob) fp Ss := by
  have I5 := M.sub _ hB
  refine ⟨fun b hb => ?_, rfl⟩
  have lt := h b hb
  refine ⟨Nat.le_trans I5.sz lt, Nat.ne_of_gt (Nat.lt_of_lt_of_le I5.lt lt), fun x c e z => ?_, fun z => ?_, fun z => ?_⟩
  · obtain ⟨v, q⟩ := I5.cell x c e
    have := q.lt
    rw [z] at this
    exact Nat.lt_irrefl _ (Nat.lt_of_lt_of_le this lt)
  · have := (M.fps b z).2
    exact Nat.lt_irrefl _ (Nat.lt_of_lt_of_le this (Nat.le_trans I5.sz lt))
  · have e := M.get
    have z : b = a := z
    rw [← z] at e
    exact Nat.lt_irrefl _ (Nat.lt_of_lt_of_le (Heap.lt_size e) lt)
/-- the first turn -/
theorem Made.wake (M : Made X pins σ tg elt iter ifs scope gpos own J code H3 s3 it fp tn a g gob s5) {α : Type} {CRel : α → Heap → Prop} {Stp : Stps α} {Fin : α → Hp → Prop} {Ss : List Addr} {g' : TG} {tt : TT} {te : TE} {W : Nat → Nat → α → Hp → Prop} {A : Around} {m0 n : Nat} {a0 : α} {s2 : Shared}
    (hco : scope.isCoroutine = false) (hd : A.handled = none) (hf : A.frames = some X.stack) (hg : PG (M.cx A) tg g') (ht : PTs (M.cx A) ifs tt) (he : PE (M.cx A) elt te) (turn : TurnsR Stp Fin J g' tt te (own.map (·.2)) σ W) (w0 : W 0 m0 a0 H3) (hmn : m0 < n)
    (ho : s2.os = s5.os) (hb : AllBare s2.gens) (hk : ∀ b o, s5.heap.get? b = some o → s2.heap.get? b = some o) (hS : ∀ b ∈ Ss, s5.heap.objs.size ≤ b ∧ ∃ o, s2.heap.get? b = some o ∧ ∀ v, o.data ≠ .cell v) (cr : CRel a0 s2.heap) :
    Seg (model X.prog X.w) A (RG CRel Fin (M.cx A) (a, gob) Ss (wipe σ (own.map (·.2)))) (YG CRel Stp (M.cx A) (a, gob) fp tn Ss (wipe σ (own.map (·.2)))) n s2 (.compStart (.GeneratorExp elt [⟨tg, iter, ifs, 0⟩] scope gpos) 0 (.ref it) .none (gEnv X scope s3 code))
      ((model X.prog X.w).den (.compStart (.GeneratorExp elt [⟨tg, iter, ifs, 0⟩] scope gpos) 0 (.ref it) .none (gEnv X scope s3 code))) [] s2 := by
  have hB := M.bok hd hf
  have I5 := M.sub _ hB
  have SO := M.ss hB fun b hb => (hS b hb).1
  have hgf : a ∉ fp := fun z => Nat.lt_irrefl _ (Nat.lt_of_lt_of_le (M.fps a z).2 M.ag)
  have fpOk : ∀ b ∈ fp, ∀ H' : Hp, H' b = none → FpOk (M.cx A) [] H' b := fun b hb H' hn => by
    refine ⟨hn, (I5.ok.exf b hb).1, I5.ok.exfs b hb, .inl hb, fun x c e => (I5.ok.exf b hb).2 x c e, fun p hp => absurd (show p ∈ ([] : List (Addr × Obj)) ++ [] from hp) (by simp)⟩
  have I2 : Inv (M.cx A) [(a, gob)] (wipe σ (own.map (·.2))) H3 s2 := by
    have J := inv_gens (g' := s2.gens) (d' := s2.drawn) (t' := s2.toks) I5 hk hb
    rw [GxR.sh_eta s5 s2 ho] at J
    exact J
  obtain ⟨cp, ecp, hcp⟩ := pins_exist Ss s2.heap fun b hb => (hS b hb).2
  have st2 : GSt (M.cx A) (a, gob) fp tn Ss (wipe σ (own.map (·.2))) 0 H3 s2 := by
    refine ⟨cp, ecp, I2.pins_of fun p hp => ?_, M.turn.keep _ _ _ M.st fun b _ o e => hk b o e, fun b hb => (M.fps b hb).1.1⟩
    rcases List.mem_cons.mp hp with z | z
    · rw [z]
      exact I2.pin (a, gob) (List.mem_append_right _ (List.mem_cons_self ..))
    · have hm : p.1 ∈ Ss := by rw [← ecp]; exact List.mem_map_of_mem z
      have lt := (hS _ hm).1
      exact ⟨(hcp p z).1, I5.hok.fresh lt, (SO.all _ hm).2.1, I5.nofs lt, (hcp p z).2⟩
  have loop := gx_loop (iter := iter) (gpos := gpos) (B := A) (CRel := CRel) (Xg := M.cx A) (scope := scope) (it := it) rfl rfl hco rfl M.turn fpOk SO hgf hg ht he turn m0 n 0 a0 H3 s2 s2 hmn w0 cr (fun _ _ => rfl) st2
  have hover : A.over (.compStart (.GeneratorExp elt [⟨tg, iter, ifs, 0⟩] scope gpos) 0 (.ref it) .none (gEnv X scope s3 code)) [] = A.deeper (gEnv X scope s3 code) := over_gen0
  show Seg _ A _ _ _ s2 _ ((compStart (.GeneratorExp elt [⟨tg, iter, ifs, 0⟩] scope gpos) 0 (.ref it) .none (gEnv X scope s3 code)).onRaise (leaving (gEnv X scope s3 code))) [] s2
  unfold compStart
  rw [Sem.onRaise_eq_wrap]
  show Seg _ A _ _ _ s2 _ ((ask >>= _).wrap _ _ _ _) [] s2
  have st := M.turn.keep _ _ _ M.st fun b _ o e => hk b o e
  refine seg_bind_wrap (wpAny_askSetting ?_)
  split
  · exact seg_again rfl loop
  · first
      | exact seg_bind_wrap (wpAny_rule (seg_bind_wrap (wpAny_standAt (seg_bind_wrap (M.turn.self _ 0 s2 _ _ st (seg_again rfl loop))))))
      | (refine seg_bind_wrap (wpAny_rule ?_); show Seg _ A _ _ _ s2 _ ((standAt iter.pos >>= _).wrap _ _ _ _) [] s2; exact seg_bind_wrap (wpAny_standAt (seg_bind_wrap (M.turn.self _ 0 s2 _ _ st (seg_again rfl loop)))))
/-- next -/
theorem Made.next (M : Made X pins σ tg elt iter ifs scope gpos own J code H3 s3 it fp tn a g gob s5) {α : Type} {CRel : α → Heap → Prop} {Stp : Stps α} {Fin : α → Hp → Prop} {Ss : List Addr} {σ0 : L2.St} {A : Around} {n : Nat} {s : Shared} {gs : GenState} {Qo : Option Value → Shared → Prop} {E : Value → Shared → Prop}
    (hh : A.handled = none) (hdp : A.depth < recursionLimit) (hG : s.heap.get? a = some gob) (hl : s.heap.NoLimit) (hgs : s.gens[g]? = some gs)
    (hgo : gs.Goes (model X.prog X.w) A.in1 (RG CRel Fin (M.cx A.in1) (a, gob) Ss σ0) (YG CRel Stp (M.cx A.in1) (a, gob) fp tn Ss σ0) n (.send .none) (s.setGen g .running))
    (hY : ∀ v s1 gs' i x acc H Nx, gs'.bare = true → RelV x v → GSt (M.cx A.in1) (a, gob) fp tn Ss σ0 i H s1 → CRel acc s.heap → (∀ b ∈ Ss, s1.heap.get? b = s.heap.get? b) → Stp acc x H Nx → g < s1.gens.size →
      (∀ s' acc', Slp Ss s1 s' → CRel acc' s'.heap → Nx acc' H → ∃ n', n = n' + 1 ∧ gs'.Goes (model X.prog X.w) A.in1 (RG CRel Fin (M.cx A.in1) (a, gob) Ss σ0) (YG CRel Stp (M.cx A.in1) (a, gob) fp tn Ss σ0) n' (.send .none) s') → Qo (some v) (s1.setGen g gs'))
    (hP : ∀ s1 h', RGp CRel Fin (M.cx A.in1) (a, gob) Ss σ0 (s.setGen g .running) s1 → (∀ b o, s1.heap.get? b = some o → h'.get? b = some o) → Qo none { s1.setGen g .finished with heap := h' }) :
    wpAny (model X.prog X.w) A (pyNext (.ref a)) Qo E s := by
  have hgl : g < s.gens.size := (Array.getElem?_eq_some_iff.mp hgs).1
  refine wpAny_mono (wpAny_gsz (n := g + 1) hgl (wpAny_pyNext_genexpQ (n := n) (P := fun _ => RGp CRel Fin (M.cx A.in1) (a, gob) Ss σ0) (Y := YG CRel Stp (M.cx A.in1) (a, gob) fp tn Ss σ0) (Q := fun r s' => g + 1 ≤ s'.gens.size → Qo r s') (E := fun e s' => g + 1 ≤ s'.gens.size → E e s') hh hl hdp (M.isGen hG) hgs hgo (fun v s1 gs' hb hv hsz => ?_) (fun s1 hp h' hk _ => hP s1 h' hp hk))) (fun _ _ z => z) (fun _ _ z => z)
  obtain ⟨i, x, acc, H, Nx, rx, st, cr, ks, sp, kap⟩ := hv
  have hsz1 : g < s1.gens.size := by
    have q : (s1.setGen g gs').gens.size = s1.gens.size := setGen_size _ _ _
    omega
  refine hY v s1 gs' i x acc H Nx hb rx st cr ks sp hsz1 fun s' acc' sl cr' nx => ?_
  have z := kap s' acc' sl cr' nx
  cases n with
  | zero => exact z.elim
  | succ n' => exact ⟨n', rfl, z⟩
end
end GX

namespace GX
open PySem PySem.Spec PyProof.Rows L2 GenW
def stAll (Q : VK) : Stps Unit := fun _ y H N => ∃ b, y = .bl b ∧ if b = true then N () H else Q (.bl false) H
def fiAll (Q : VK) : Unit → Hp → Prop := fun _ H => Q (.bl true) H
def stAny (Q : VK) : Stps Unit := fun _ y H N => ∃ b, y = .bl b ∧ if b = true then Q (.bl true) H else N () H
def fiAny (Q : VK) : Unit → Hp → Prop := fun _ H => Q (.bl false) H
def stSum (Q : VK) : Stps Int := fun acc y H N => ∃ i, y = .int i ∧ N (acc + i) H
def fiSum (Q : VK) : Int → Hp → Prop := fun acc H => Q (.int acc) H
def crU : Unit → Heap → Prop := fun _ _ => True
abbrev lstO (xs : Array Value) (c : Nat) : Obj := { cls := .type "list", dict := none, data := .seq xs c, slots := #[] }
def crSum (S : Addr) : Int → Heap → Prop := fun acc h => ∃ t c, h.get? S = some (lstO #[.int acc t] c)
section
variable {X : Cx} {pins : List (Addr × Obj)} {σ : L2.St} {tg elt iter : Expr} {ifs : List Expr} {scope : Scope} {gpos : Pos} {own : List (Str × Nat)} {J : It} {code : Value} {H3 : Hp} {s3 : Shared} {it : Addr} {fp : List Addr} {tn : Nat → Heap → Prop} {a : Addr} {g : Nat} {gob : Obj} {s5 : Shared}
theorem gst_get {Xg : Cx} {gp : Addr × Obj} {fp : List Addr} {tn : Nat → Heap → Prop} {Ss : List Addr} {σ0 : L2.St} {i : Nat} {H : Hp} {s : Shared} (h : GSt Xg gp fp tn Ss σ0 i H s) : s.heap.get? gp.1 = some gp.2 ∧ s.heap.NoLimit ∧ AllBare s.gens ∧ ∀ b ∈ Ss, H b = none := by
  obtain ⟨cp, ecp, I, _, _⟩ := h
  refine ⟨(I.pin gp (List.mem_append_right _ (List.mem_cons_self ..))).1, I.nolimit, I.bare, fun b hb => ?_⟩
  rw [← ecp] at hb
  obtain ⟨p, hp, rfl⟩ := List.mem_map.mp hb
  exact (I.pin p (List.mem_append_right _ (List.mem_cons_of_mem _ hp))).2.1
theorem Made.all_loop (M : Made X pins σ tg elt iter ifs scope gpos own J code H3 s3 it fp tn a g gob s5) {A : Around} {σ0 : L2.St} {R : Result → Shared → Prop} {Q : VK} (hh : A.handled = none) (hdp : A.depth < recursionLimit)
    (hret : ∀ v u H s', Inv X pins σ H s' → RelV v u → Q v H → R (.ok (.ret u)) s') : ∀ (n : Nat) (s : Shared) (gs : GenState), s.heap.get? a = some gob → s.heap.NoLimit → s.gens[g]? = some gs →
    gs.Goes (model X.prog X.w) A.in1.in1 (RG crU (fiAll Q) (M.cx A.in1.in1) (a, gob) [] σ0) (YG crU (stAll Q) (M.cx A.in1.in1) (a, gob) fp tn [] σ0) n (.send .none) (s.setGen g .running) →
    codeAny (model X.prog X.w) A (.builtin "all.loop" ⟨[.ref a], []⟩) R s := by
  intro n
  induction n with
  | zero =>
    intro s gs hG hl hgs hgo
    refine codeAny_builtin F.entry_all_loop ?_
    rw [Around.under_plainId F.plain_all_loop _]
    show wpAny _ A.in1 (pyNext (.ref a) >>= _) _ _ s
    refine wpAny_bind (M.next (A := A.in1) hh hdp hG hl hgs hgo (fun v s1 gs' i x acc H Nx hb rx st cr ks sp hsz kap => ?_) (fun s1 h' hp hk => ?_))
    · obtain ⟨b, rfl, q⟩ := sp
      cases rx
      refine wpAny_bind (wpAny_holding (wpAny_truthy_bool ?_))
      refine wpAny_bind (wpAny_letGo ?_)
      obtain ⟨_, _, bare, _⟩ := gst_get st
      cases b with
      | true =>
        simp only [if_true] at q
        obtain ⟨n', hn, _⟩ := kap s1 () ⟨rfl, bare, fun _ _ _ e => e, fun _ h => nomatch h⟩ trivial q
        omega
      | false =>
        simp only [Bool.false_eq_true, if_false] at q ⊢
        obtain ⟨cp, _, I1, _, _⟩ := st
        exact wpAny_bind (wpAny_rule (wpAny_pure (hret (.bl false) _ H _ (M.back I1 rfl (allBare_setGen bare hb) fun _ _ e => e) rfl q)))
    · obtain ⟨acc, H, cp, _, I1, _, _, q⟩ := hp
      exact wpAny_bind (wpAny_rule (wpAny_pure (hret (.bl true) _ H _ (M.back I1 rfl (allBare_setGen I1.bare rfl) hk) rfl q)))
  | succ n ih =>
    intro s gs hG hl hgs hgo
    refine codeAny_builtin F.entry_all_loop ?_
    rw [Around.under_plainId F.plain_all_loop _]
    show wpAny _ A.in1 (pyNext (.ref a) >>= _) _ _ s
    refine wpAny_bind (M.next (A := A.in1) hh hdp hG hl hgs hgo (fun v s1 gs' i x acc H Nx hb rx st cr ks sp hsz kap => ?_) (fun s1 h' hp hk => ?_))
    · obtain ⟨b, rfl, q⟩ := sp
      cases rx
      refine wpAny_bind (wpAny_holding (wpAny_truthy_bool ?_))
      refine wpAny_bind (wpAny_letGo ?_)
      obtain ⟨eG, nl, bare, _⟩ := gst_get st
      cases b with
      | true =>
        simp only [if_true] at q ⊢
        obtain ⟨n', hn, go'⟩ := kap ((s1.setGen g gs').setGen g .running) () ⟨rfl, allBare_setGen (s := s1.setGen g gs') (allBare_setGen bare hb) rfl, fun _ _ _ e => e, fun _ h => nomatch h⟩ trivial q
        obtain rfl : n' = n := by omega
        exact wpAny_pure ⟨plainId_quiet F.plain_all_loop _, ih _ gs' eG nl (setGen_at hsz) go'⟩
      | false =>
        simp only [Bool.false_eq_true, if_false] at q ⊢
        obtain ⟨cp, _, I1, _, _⟩ := st
        exact wpAny_bind (wpAny_rule (wpAny_pure (hret (.bl false) _ H _ (M.back I1 rfl (allBare_setGen bare hb) fun _ _ e => e) rfl q)))
    · obtain ⟨acc, H, cp, _, I1, _, _, q⟩ := hp
      exact wpAny_bind (wpAny_rule (wpAny_pure (hret (.bl true) _ H _ (M.back I1 rfl (allBare_setGen I1.bare rfl) hk) rfl q)))
theorem Made.any_loop (M : Made X pins σ tg elt iter ifs scope gpos own J code H3 s3 it fp tn a g gob s5) {A : Around} {σ0 : L2.St} {R : Result → Shared → Prop} {Q : VK} (hh : A.handled = none) (hdp : A.depth < recursionLimit)
    (hret : ∀ v u H s', Inv X pins σ H s' → RelV v u → Q v H → R (.ok (.ret u)) s') : ∀ (n : Nat) (s : Shared) (gs : GenState), s.heap.get? a = some gob → s.heap.NoLimit → s.gens[g]? = some gs →
    gs.Goes (model X.prog X.w) A.in1.in1 (RG crU (fiAny Q) (M.cx A.in1.in1) (a, gob) [] σ0) (YG crU (stAny Q) (M.cx A.in1.in1) (a, gob) fp tn [] σ0) n (.send .none) (s.setGen g .running) →
    codeAny (model X.prog X.w) A (.builtin "any.loop" ⟨[.ref a], []⟩) R s := by
  intro n
  induction n with
  | zero =>
    intro s gs hG hl hgs hgo
    refine codeAny_builtin F.entry_any_loop ?_
    rw [Around.under_plainId F.plain_any_loop _]
    show wpAny _ A.in1 (pyNext (.ref a) >>= _) _ _ s
    refine wpAny_bind (M.next (A := A.in1) hh hdp hG hl hgs hgo (fun v s1 gs' i x acc H Nx hb rx st cr ks sp hsz kap => ?_) (fun s1 h' hp hk => ?_))
    · obtain ⟨b, rfl, q⟩ := sp
      cases rx
      refine wpAny_bind (wpAny_holding (wpAny_truthy_bool ?_))
      refine wpAny_bind (wpAny_letGo ?_)
      obtain ⟨_, _, bare, _⟩ := gst_get st
      cases b with
      | false =>
        simp only [Bool.false_eq_true, if_false] at q
        obtain ⟨n', hn, _⟩ := kap s1 () ⟨rfl, bare, fun _ _ _ e => e, fun _ h => nomatch h⟩ trivial q
        omega
      | true =>
        simp only [if_true] at q ⊢
        obtain ⟨cp, _, I1, _, _⟩ := st
        exact wpAny_bind (wpAny_rule (wpAny_pure (hret (.bl true) _ H _ (M.back I1 rfl (allBare_setGen bare hb) fun _ _ e => e) rfl q)))
    · obtain ⟨acc, H, cp, _, I1, _, _, q⟩ := hp
      exact wpAny_bind (wpAny_rule (wpAny_pure (hret (.bl false) _ H _ (M.back I1 rfl (allBare_setGen I1.bare rfl) hk) rfl q)))
  | succ n ih =>
    intro s gs hG hl hgs hgo
    refine codeAny_builtin F.entry_any_loop ?_
    rw [Around.under_plainId F.plain_any_loop _]
    show wpAny _ A.in1 (pyNext (.ref a) >>= _) _ _ s
    refine wpAny_bind (M.next (A := A.in1) hh hdp hG hl hgs hgo (fun v s1 gs' i x acc H Nx hb rx st cr ks sp hsz kap => ?_) (fun s1 h' hp hk => ?_))
    · obtain ⟨b, rfl, q⟩ := sp
      cases rx
      refine wpAny_bind (wpAny_holding (wpAny_truthy_bool ?_))
      refine wpAny_bind (wpAny_letGo ?_)
      obtain ⟨eG, nl, bare, _⟩ := gst_get st
      cases b with
      | false =>
        simp only [Bool.false_eq_true, if_false] at q ⊢
        obtain ⟨n', hn, go'⟩ := kap ((s1.setGen g gs').setGen g .running) () ⟨rfl, allBare_setGen (s := s1.setGen g gs') (allBare_setGen bare hb) rfl, fun _ _ _ e => e, fun _ h => nomatch h⟩ trivial q
        obtain rfl : n' = n := by omega
        exact wpAny_pure ⟨plainId_quiet F.plain_any_loop _, ih _ gs' eG nl (setGen_at hsz) go'⟩
      | true =>
        simp only [if_true] at q ⊢
        obtain ⟨cp, _, I1, _, _⟩ := st
        exact wpAny_bind (wpAny_rule (wpAny_pure (hret (.bl true) _ H _ (M.back I1 rfl (allBare_setGen bare hb) fun _ _ e => e) rfl q)))
    · obtain ⟨acc, H, cp, _, I1, _, _, q⟩ := hp
      exact wpAny_bind (wpAny_rule (wpAny_pure (hret (.bl false) _ H _ (M.back I1 rfl (allBare_setGen I1.bare rfl) hk) rfl q)))
/-- the consumer has written its list -/
theorem slp_upd {S : Addr} {s1 : Shared} {g : Nat} {gs' gs2 : GenState} {f : Obj → Obj} {o : Obj} {tk : Nat} (bare : AllBare s1.gens) (hb : gs'.bare = true) (hb2 : gs2.bare = true) (eS : (s1.heap.update S f).get? S = some o) (nc : ∀ v, o.data ≠ .cell v) :
    Slp [S] s1 (({ s1.setGen g gs' with heap := s1.heap.update S f, toks := tk } : Shared).setGen g gs2) where
  os := rfl
  bare := allBare_setGen (s := { s1.setGen g gs' with heap := s1.heap.update S f, toks := tk }) (allBare_setGen (s := s1) bare hb) hb2
  keep := fun b o hb e => (Heap.get?_update_other _ _ (fun z => hb (by rw [z]; exact List.mem_singleton.mpr rfl))).trans e
  own := fun b hb => by rw [List.mem_singleton.mp hb]; exact ⟨o, eS, nc⟩
theorem Made.sum_loop (M : Made X pins σ tg elt iter ifs scope gpos own J code H3 s3 it fp tn a g gob s5) {A : Around} {σ0 : L2.St} {R : Result → Shared → Prop} {Q : VK} {S : Addr} (hh : A.handled = none) (hdp : A.depth < recursionLimit) (hSa : a ≠ S) (hSc : cStatics ≠ S)
    (hret : ∀ v u H s', Inv X pins σ H s' → RelV v u → Q v H → R (.ok (.ret u)) s') : ∀ (n : Nat) (s : Shared) (gs : GenState) (acc : Int) (t : Tok) (c : Nat) (st : Int), (st = 0 ∨ st = 2) → s.heap.get? a = some gob → s.heap.NoLimit → s.gens[g]? = some gs → s.heap.get? S = some (lstO #[.int acc t] c) →
    gs.Goes (model X.prog X.w) A.in1.in1 (RG (crSum S) (fiSum Q) (M.cx A.in1.in1) (a, gob) [S] σ0) (YG (crSum S) (stSum Q) (M.cx A.in1.in1) (a, gob) fp tn [S] σ0) n (.send .none) (s.setGen g .running) →
    codeAny (model X.prog X.w) A (.builtin "sum.loop" ⟨[.ref a, .ref S, rawInt st, rawInt 0], []⟩) R s := by
  have same : ∀ {acc acc' : Int} {t : Tok} {c : Nat} {h : Heap}, h.get? S = some (lstO #[.int acc t] c) → crSum S acc' h → acc' = acc := fun {acc acc' t c h} e ⟨t', c', e'⟩ => by
    rw [e] at e'
    cases e'
    rfl
  intro n
  induction n with
  | zero =>
    intro s gs acc t c st hst hG hl hgs eS hgo
    refine codeAny_builtin F.entry_sum_loop ?_
    rw [Around.under_plainId F.plain_sum_loop _]
    show wpAny _ A.in1 (seqItems? (.ref S) >>= _) _ _ s
    refine wpAny_bind (wpAny_seqItems eS rfl ?_)
    show wpAny _ A.in1 (tryCatch (pyNext (.ref a)) _ >>= _) _ _ s
    refine wpAny_bind (wpAny_tryCatch (M.next (A := A.in1) hh hdp hG hl hgs hgo (fun v s1 gs' i x acc' H Nx hb rx st' cr ks sp hsz kap => ?_) (fun s1 h' hp hk => ?_)))
    · obtain ⟨j, rfl, q⟩ := sp
      obtain ⟨eG, nl, bare, _⟩ := gst_get st'
      have e1 : s1.heap.get? S = some (lstO #[.int acc t] c) := by rw [ks S (List.mem_singleton.mpr rfl)]; exact eS
      have e2 := Heap.get?_update_self (Obj.mapSeq fun _ => #[Value.int (acc' + j) 0]) e1 rfl
      obtain ⟨n', hn, _⟩ := kap _ (acc' + j) (slp_upd (g := g) (gs' := .running) (gs2 := .running) (tk := 0) bare rfl rfl e2 (fun v z => by cases z)) ⟨0, _, e2⟩ q
      omega
    · obtain ⟨acc', H, cp, _, I1, cr, ks, q⟩ := hp
      rw [same eS cr] at q
      exact wpAny_pure (hret (.int acc) _ H _ (M.back I1 rfl (allBare_setGen I1.bare rfl) hk) ⟨t, rfl⟩ q)
  | succ n ih =>
    intro s gs acc t c st hst hG hl hgs eS hgo
    refine codeAny_builtin F.entry_sum_loop ?_
    rw [Around.under_plainId F.plain_sum_loop _]
    show wpAny _ A.in1 (seqItems? (.ref S) >>= _) _ _ s
    refine wpAny_bind (wpAny_seqItems eS rfl ?_)
    show wpAny _ A.in1 (tryCatch (pyNext (.ref a)) _ >>= _) _ _ s
    refine wpAny_bind (wpAny_tryCatch (M.next (A := A.in1) hh hdp hG hl hgs hgo (fun v s1 gs' i x acc' H Nx hb rx st' cr ks sp hsz kap => ?_) (fun s1 h' hp hk => ?_)))
    · obtain ⟨j, rfl, q⟩ := sp
      obtain ⟨tj, rfl⟩ := rx
      rw [same eS cr] at q
      obtain ⟨eG, nl, bare, _⟩ := gst_get st'
      have e1 : s1.heap.get? S = some (lstO #[.int acc t] c) := by rw [ks S (List.mem_singleton.mpr rfl)]; exact eS
      have on : ∀ (s2 : Shared) (tk : Tok) (c2 : Nat) (st2 : Int), (st2 = 0 ∨ st2 = 2) → s2.os = s1.os → AllBare s2.gens → s2.gens[g]? = some gs' → (∀ b o, b ≠ S → s1.heap.get? b = some o → s2.heap.get? b = some o) → s2.heap.get? S = some (lstO #[.int (acc + j) tk] c2) →
          codeAny (model X.prog X.w) A (.builtin "sum.loop" ⟨[.ref a, .ref S, rawInt st2, rawInt 0], []⟩) R s2 := fun s2 tk c2 st2 h2 ho hbb hg2 kp e2 => by
        obtain ⟨n', hn, go'⟩ := kap (s2.setGen g .running) (acc + j) ⟨ho, allBare_setGen hbb rfl, fun b o hb e => kp b o (fun z => hb (by rw [z]; exact List.mem_singleton.mpr rfl)) e, fun b hb => by rw [List.mem_singleton.mp hb]; exact ⟨_, e2, fun v z => by cases z⟩⟩ ⟨tk, c2, e2⟩ q
        obtain rfl : n' = n := by omega
        refine ih s2 gs' (acc + j) tk c2 st2 h2 (kp a _ hSa eG) ?_ hg2 e2 go'
        obtain ⟨mc, hns, hnn⟩ := nl
        exact ⟨mc, hns.at' fun o e => kp _ o hSc e, hnn⟩
      rcases hst with rfl | rfl
      · show wpAny _ A.in1 (if (_ : Bool) = true then (mkInt (acc + j) >>= _) else _) _ _ _
        split
        · refine wpAny_bind (wpAny_mkInt ?_)
          show wpAny _ A.in1 (updateSeq S (fun _ => #[.int (acc + j) s1.toks]) >>= _) _ _ _
          refine wpAny_bind ?_
          refine wpAny_updateSeq e1 rfl (wpAny_pure ⟨plainId_quiet F.plain_sum_loop _, ?_⟩)
          exact on _ _ _ 0 (.inl rfl) rfl (allBare_setGen bare hb) (setGen_at hsz) (fun b o hb e => (Heap.get?_update_other _ _ (Ne.symm hb)).trans e) (Heap.get?_update_self _ e1 rfl)
        · refine wpAny_bind (wpAny_rule ?_)
          refine wpAny_bind (wpAny_attempt (wpAny_holding (wpAny_add_int ?_)))
          show wpAny _ A.in1 (updateSeq S (fun _ => #[.int (acc + j) s1.toks]) >>= _) _ _ _
          refine wpAny_bind (wpAny_updateSeq e1 rfl ?_)
          have e2 := Heap.get?_update_self (Obj.mapSeq fun _ => #[Value.int (acc + j) s1.toks]) e1 rfl
          refine wpAny_bind (wpAny_letGo ?_)
          refine wpAny_bind (wpAny_updateSeq e2 rfl (wpAny_pure ⟨plainId_quiet F.plain_sum_loop _, ?_⟩))
          exact on _ _ _ 2 (.inr rfl) rfl (allBare_setGen bare hb) (setGen_at hsz) (fun b o hb e => (Heap.get?_update_other _ _ (Ne.symm hb)).trans ((Heap.get?_update_other _ _ (Ne.symm hb)).trans e)) (Heap.get?_update_self _ e2 rfl)
      · show wpAny _ A.in1 ((holding [Value.int j tj] (binaryOp .Add (.int acc t) (.int j tj))).attempt >>= _) _ _ _
        refine wpAny_bind (wpAny_attempt (wpAny_holding (wpAny_add_int ?_)))
        show wpAny _ A.in1 (updateSeq S (fun _ => #[.int (acc + j) s1.toks]) >>= _) _ _ _
        refine wpAny_bind (wpAny_updateSeq e1 rfl ?_)
        have e2 := Heap.get?_update_self (Obj.mapSeq fun _ => #[Value.int (acc + j) s1.toks]) e1 rfl
        refine wpAny_bind (wpAny_letGo ?_)
        refine wpAny_bind (wpAny_updateSeq e2 rfl (wpAny_pure ⟨plainId_quiet F.plain_sum_loop _, ?_⟩))
        exact on _ _ _ 2 (.inr rfl) rfl (allBare_setGen bare hb) (setGen_at hsz) (fun b o hb e => (Heap.get?_update_other _ _ (Ne.symm hb)).trans ((Heap.get?_update_other _ _ (Ne.symm hb)).trans e)) (Heap.get?_update_self _ e2 rfl)
    · obtain ⟨acc', H, cp, _, I1, cr, ks, q⟩ := hp
      rw [same eS cr] at q
      exact wpAny_pure (hret (.int acc) _ H _ (M.back I1 rfl (allBare_setGen I1.bare rfl) hk) ⟨t, rfl⟩ q)
end
end GX

namespace GX
open PySem PySem.Spec PyProof.Rows L2 GenW
def tGx {α : Type} (a0 : α) (Stp : VK → Stps α) (Fin : VK → α → Hp → Prop) (tc : TC) (ti : TI) (g : TG) (tt : TT) (te : Value → TE) (vs : List Nat) : TE := fun σ H Q => ti σ H fun J H1 => tc σ H1 fun code H2 => ∃ W : Nat → Nat → α → Hp → Prop, (∃ m, W 0 m a0 H2) ∧ TurnsR (Stp Q) (Fin Q) J g tt (te code) vs σ W
/-- a rule that holds in the expression's frame, whichever it is -/
abbrev Fam (X : Cx) (k : Nat) (scope : Scope) (Pp : Cx → Value → Prop) : Prop := ∀ (B : Around) (s : Shared) (H : Hp) (code : Value) (fp : List Addr), Room k B → B.guards = X.A.guards → Pp (gcx X B s H scope (gEnv X scope s code) fp) code
def crMax (S : Addr) : Option Int → Heap → Prop
  | none, h => ∃ c, h.get? S = some (lstO #[] c)
  | some m, h => ∃ t c, h.get? S = some (lstO #[.int m t, .int m t] c)
def stMax (Q : VK) : Stps (Option Int) := fun acc y H N => ∃ i, y = .int i ∧ N (some (match acc with | none => i | some j => if j < i then i else j)) H
def stMin (Q : VK) : Stps (Option Int) := fun acc y H N => ∃ i, y = .int i ∧ N (some (match acc with | none => i | some j => if i < j then i else j)) H
def fiMax (Q : VK) : Option Int → Hp → Prop := fun acc H => ∃ m, acc = some m ∧ Q (.int m) H
section
variable {X : Cx} {pins : List (Addr × Obj)} {σ : L2.St} {tg elt iter : Expr} {ifs : List Expr} {scope : Scope} {gpos : Pos} {own : List (Str × Nat)} {J : It} {code : Value} {H3 : Hp} {s3 : Shared} {it : Addr} {fp : List Addr} {tn : Nat → Heap → Prop} {a : Addr} {g : Nat} {gob : Obj} {s5 : Shared}
theorem crMax_none {S : Addr} {acc : Option Int} {h : Heap} {c : Nat} (e : h.get? S = some (lstO #[] c)) (x : crMax S acc h) : acc = none := by
  cases acc with
  | none => rfl
  | some m =>
    obtain ⟨t, c', e'⟩ := x
    rw [e] at e'
    cases e'
theorem crMax_some {S : Addr} {acc : Option Int} {h : Heap} {c : Nat} {m : Int} {t : Tok} (e : h.get? S = some (lstO #[.int m t, .int m t] c)) (x : crMax S acc h) : acc = some m := by
  cases acc with
  | none =>
    obtain ⟨c', e'⟩ := x
    rw [e] at e'
    cases e'
  | some m' =>
    obtain ⟨t', c', e'⟩ := x
    rw [e] at e'
    cases e'
    rfl
theorem Made.max_loop (M : Made X pins σ tg elt iter ifs scope gpos own J code H3 s3 it fp tn a g gob s5) {A : Around} {σ0 : L2.St} {R : Result → Shared → Prop} {Q : VK} {S : Addr} (hh : A.handled = none) (hdp : A.depth < recursionLimit) (hSa : a ≠ S) (hSc : cStatics ≠ S) (hS5 : s3.heap.objs.size ≤ S)
    (hret : ∀ v u H s', Inv X pins σ H s' → RelV v u → Q v H → R (.ok (.ret u)) s') : ∀ (n : Nat) (s : Shared) (gs : GenState) (c : Nat), s.heap.get? a = some gob → s.heap.NoLimit → s.gens[g]? = some gs →
    (s.heap.get? S = some (lstO #[] c) ∨ ∃ m t, s.heap.get? S = some (lstO #[.int m t, .int m t] c)) →
    gs.Goes (model X.prog X.w) A.in1.in1 (RG (crMax S) (fiMax Q) (M.cx A.in1.in1) (a, gob) [S] σ0) (YG (crMax S) (stMax Q) (M.cx A.in1.in1) (a, gob) fp tn [S] σ0) n (.send .none) (s.setGen g .running) →
    codeAny (model X.prog X.w) A (.builtin "max.loop" ⟨[.ref a, .none, .ref S], []⟩) R s := by
  have hname : (toString "max" ++ toString ".loop" : String) = "max.loop" := by decide
  intro n
  induction n with
  | zero =>
    intro s gs c hG hl hgs eS hgo
    refine codeAny_builtin F.entry_max_loop ?_
    rw [Around.under_plainId F.plain_max_loop _]
    show wpAny _ A.in1 (seqItems? (.ref S) >>= _) _ _ s
    have dead : ∀ {o : Obj} {v : Value} {s1 : Shared} {i : Nat} {x : V} {acc : Option Int} {H : Hp} {Nx : Option Int → Hp → Prop} {gs' : GenState}, (∃ xs c2, o = lstO xs c2) → s1.heap.get? S = some o → GSt (M.cx A.in1.in1) (a, gob) fp tn [S] σ0 i H s1 → stMax Q acc x H Nx →
        (∀ s' acc', Slp [S] s1 s' → crMax S acc' s'.heap → Nx acc' H → ∃ n', 0 = n' + 1 ∧ gs'.Goes (model X.prog X.w) A.in1.in1 (RG (crMax S) (fiMax Q) (M.cx A.in1.in1) (a, gob) [S] σ0) (YG (crMax S) (stMax Q) (M.cx A.in1.in1) (a, gob) fp tn [S] σ0) n' (.send .none) s') → False := fun {o v s1 i x acc H Nx gs'} ho e1 st' sp kap => by
      obtain ⟨j, rfl, q⟩ := sp
      obtain ⟨xs, c2, rfl⟩ := ho
      obtain ⟨eG, nl, bare, _⟩ := gst_get st'
      generalize (match acc with | none => j | some k => if k < j then j else k) = m' at q
      have e2 := Heap.get?_update_self (Obj.mapSeq fun _ => #[Value.int m' 0, Value.int m' 0]) e1 rfl
      obtain ⟨n', hn, _⟩ := kap _ (some m') (slp_upd (g := g) (gs' := .running) (gs2 := .running) (tk := 0) bare rfl rfl e2 (fun v z => by cases z)) ⟨0, _, e2⟩ q
      omega
    rcases eS with eS | ⟨m, t, eS⟩
    · refine wpAny_bind (wpAny_seqItems eS rfl ?_)
      show wpAny _ A.in1 (tryCatch (pyNext (.ref a)) _ >>= _) _ _ s
      refine wpAny_bind (wpAny_tryCatch (M.next (A := A.in1) hh hdp hG hl hgs hgo (fun v s1 gs' i x acc' H Nx hb rx st' cr ks sp hsz kap => ?_) (fun s1 h' hp hk => ?_)))
      · exact (dead (v := v) ⟨_, _, rfl⟩ (by rw [ks S (List.mem_singleton.mpr rfl)]; exact eS) st' sp kap).elim
      · obtain ⟨acc', H, cp, _, I1, cr, ks, m, em, q⟩ := hp
        have := crMax_none (h := s.heap) eS cr
        rw [this] at em
        cases em
    · refine wpAny_bind (wpAny_seqItems eS rfl ?_)
      show wpAny _ A.in1 (tryCatch (pyNext (.ref a)) _ >>= _) _ _ s
      refine wpAny_bind (wpAny_tryCatch (M.next (A := A.in1) hh hdp hG hl hgs hgo (fun v s1 gs' i x acc' H Nx hb rx st' cr ks sp hsz kap => ?_) (fun s1 h' hp hk => ?_)))
      · exact (dead (v := v) ⟨_, _, rfl⟩ (by rw [ks S (List.mem_singleton.mpr rfl)]; exact eS) st' sp kap).elim
      · obtain ⟨acc', H, cp, ecp, I1, cr, ks, m', em, q⟩ := hp
        have := crMax_some (h := s.heap) eS cr
        rw [this] at em
        cases em
        have e1 : h'.get? S = some (lstO #[.int m t, .int m t] c) := hk _ _ (by rw [ks S (List.mem_singleton.mpr rfl)]; exact eS)
        have nS : H S = none := by
          have hm : S ∈ cp.map (·.1) := by rw [ecp]; exact List.mem_singleton.mpr rfl
          obtain ⟨p, hp, e⟩ := List.mem_map.mp hm
          rw [← e]
          exact (I1.pin p (List.mem_append_right _ (List.mem_cons_of_mem _ hp))).2.1
        show wpAny _ A.in1 (updateSeq S (fun _ => #[]) >>= _) _ _ _
        refine wpAny_bind ?_
        refine wpAny_updateSeq e1 rfl (wpAny_bind (wpAny_letGo (wpAny_pure ?_)))
        have J1 := M.back (s' := { s1.setGen g .finished with heap := h' }) I1 rfl (allBare_setGen I1.bare rfl) hk
        obtain ⟨f0, f1, f2, f3, f4, f5⟩ := M.inv.fpOk hS5 nS
        exact hret (.int m) _ H _ (J1.turned (t' := s1.toks) (fun b o hb e => (Heap.get?_update_other _ _ (Ne.symm hb)).trans e) f0 f1 f3 f4 f5) ⟨t, rfl⟩ q
  | succ n ih =>
    intro s gs c hG hl hgs eS hgo
    refine codeAny_builtin F.entry_max_loop ?_
    rw [Around.under_plainId F.plain_max_loop _]
    show wpAny _ A.in1 (seqItems? (.ref S) >>= _) _ _ s
    rcases eS with eS | ⟨m, t, eS⟩
    · refine wpAny_bind (wpAny_seqItems eS rfl ?_)
      show wpAny _ A.in1 (tryCatch (pyNext (.ref a)) _ >>= _) _ _ s
      refine wpAny_bind (wpAny_tryCatch (M.next (A := A.in1) hh hdp hG hl hgs hgo (fun v s1 gs' i x acc' H Nx hb rx st' cr ks sp hsz kap => ?_) (fun s1 h' hp hk => ?_)))
      · obtain ⟨j, rfl, q⟩ := sp
        obtain ⟨tj, rfl⟩ := rx
        rw [crMax_none (h := s.heap) eS cr] at q
        obtain ⟨eG, nl, bare, _⟩ := gst_get st'
        have e1 : s1.heap.get? S = some (lstO #[] c) := by rw [ks S (List.mem_singleton.mpr rfl)]; exact eS
        show wpAny _ A.in1 (updateSeq S (fun _ => #[.int j tj, .int j tj]) >>= _) _ _ _
        refine wpAny_bind ?_
        refine wpAny_updateSeq e1 rfl ?_
        have e2 := Heap.get?_update_self (Obj.mapSeq fun _ => #[Value.int j tj, Value.int j tj]) e1 rfl
        rw [hname]
        refine wpAny_pure ⟨plainId_quiet F.plain_max_loop _, ?_⟩
        obtain ⟨n', hn, go'⟩ := kap _ (some j) (slp_upd (g := g) (gs' := gs') (gs2 := .running) (tk := s1.toks) bare hb rfl e2 (fun v z => by cases z)) ⟨tj, _, e2⟩ q
        obtain rfl : n' = n := by omega
        refine ih { s1.setGen g gs' with heap := s1.heap.update S (Obj.mapSeq fun _ => #[Value.int j tj, Value.int j tj]) } gs' _ ((Heap.get?_update_other _ _ (Ne.symm hSa)).trans eG) ?_ (setGen_at hsz) (.inr ⟨j, tj, e2⟩) go'
        obtain ⟨mc, hns, hnn⟩ := nl
        exact ⟨mc, hns.at' fun o e => (Heap.get?_update_other _ _ (Ne.symm hSc)).trans e, hnn⟩
      · obtain ⟨acc', H, cp, _, I1, cr, ks, m, em, q⟩ := hp
        have := crMax_none (h := s.heap) eS cr
        rw [this] at em
        cases em
    · refine wpAny_bind (wpAny_seqItems eS rfl ?_)
      show wpAny _ A.in1 (tryCatch (pyNext (.ref a)) _ >>= _) _ _ s
      refine wpAny_bind (wpAny_tryCatch (M.next (A := A.in1) hh hdp hG hl hgs hgo (fun v s1 gs' i x acc' H Nx hb rx st' cr ks sp hsz kap => ?_) (fun s1 h' hp hk => ?_)))
      · obtain ⟨j, rfl, q⟩ := sp
        obtain ⟨tj, rfl⟩ := rx
        rw [crMax_some (h := s.heap) eS cr] at q
        obtain ⟨eG, nl, bare, _⟩ := gst_get st'
        have e1 : s1.heap.get? S = some (lstO #[.int m t, .int m t] c) := by rw [ks S (List.mem_singleton.mpr rfl)]; exact eS
        show wpAny _ A.in1 (tryCatch (holding [.int j tj, .int j tj] (richCompare .Gt (.int j tj) (.int m t) >>= _)) _ >>= _) _ _ _
        refine wpAny_bind (wpAny_tryCatch (wpAny_holding (wpAny_bind (P.gt_int ?_))))
        refine wpAny_bind (wpAny_holding (wpAny_truthy_bool ?_))
        refine wpAny_bind (wpAny_letGo (wpAny_pure ?_))
        by_cases hb' : m < j
        · rw [decide_eq_true hb']
          simp only [if_true]
          have q : Nx (some j) H := by
            have z : Nx (some (if m < j then j else m)) H := q
            rw [if_pos hb'] at z
            exact z
          refine wpAny_bind ?_
          refine wpAny_updateSeq e1 rfl (wpAny_bind (wpAny_letGo ?_))
          have e2 := Heap.get?_update_self (Obj.mapSeq fun _ => #[Value.int j tj, Value.int j tj]) e1 rfl
          rw [hname]
          refine wpAny_pure ⟨plainId_quiet F.plain_max_loop _, ?_⟩
          obtain ⟨n', hn, go'⟩ := kap _ (some j) (slp_upd (g := g) (gs' := gs') (gs2 := .running) (tk := s1.toks) bare hb rfl e2 (fun v z => by cases z)) ⟨tj, _, e2⟩ q
          obtain rfl : n' = n := by omega
          refine ih { s1.setGen g gs' with heap := s1.heap.update S (Obj.mapSeq fun _ => #[Value.int j tj, Value.int j tj]) } gs' _ ((Heap.get?_update_other _ _ (Ne.symm hSa)).trans eG) ?_ (setGen_at hsz) (.inr ⟨j, tj, e2⟩) go'
          obtain ⟨mc, hns, hnn⟩ := nl
          exact ⟨mc, hns.at' fun o e => (Heap.get?_update_other _ _ (Ne.symm hSc)).trans e, hnn⟩
        · rw [decide_eq_false hb']
          simp only [Bool.false_eq_true, if_false]
          have q : Nx (some m) H := by
            have z : Nx (some (if m < j then j else m)) H := q
            rw [if_neg hb'] at z
            exact z
          refine wpAny_bind (wpAny_letGo ?_)
          rw [hname]
          refine wpAny_pure ⟨plainId_quiet F.plain_max_loop _, ?_⟩
          obtain ⟨n', hn, go'⟩ := kap ((s1.setGen g gs').setGen g .running) (some m) ⟨rfl, allBare_setGen (s := s1.setGen g gs') (allBare_setGen bare hb) rfl, fun _ _ _ e => e, fun b hb => by rw [List.mem_singleton.mp hb]; exact ⟨_, e1, fun v z => by cases z⟩⟩ ⟨t, _, e1⟩ q
          obtain rfl : n' = n := by omega
          exact ih _ gs' _ eG nl (setGen_at hsz) (.inr ⟨m, t, e1⟩) go'
      · obtain ⟨acc', H, cp, ecp, I1, cr, ks, m', em, q⟩ := hp
        have := crMax_some (h := s.heap) eS cr
        rw [this] at em
        cases em
        have e1 : h'.get? S = some (lstO #[.int m t, .int m t] c) := hk _ _ (by rw [ks S (List.mem_singleton.mpr rfl)]; exact eS)
        have nS : H S = none := by
          have hm : S ∈ cp.map (·.1) := by rw [ecp]; exact List.mem_singleton.mpr rfl
          obtain ⟨p, hp, e⟩ := List.mem_map.mp hm
          rw [← e]
          exact (I1.pin p (List.mem_append_right _ (List.mem_cons_of_mem _ hp))).2.1
        show wpAny _ A.in1 (updateSeq S (fun _ => #[]) >>= _) _ _ _
        refine wpAny_bind ?_
        refine wpAny_updateSeq e1 rfl (wpAny_bind (wpAny_letGo (wpAny_pure ?_)))
        have J1 := M.back (s' := { s1.setGen g .finished with heap := h' }) I1 rfl (allBare_setGen I1.bare rfl) hk
        obtain ⟨f0, f1, f2, f3, f4, f5⟩ := M.inv.fpOk hS5 nS
        exact hret (.int m) _ H _ (J1.turned (t' := s1.toks) (fun b o hb e => (Heap.get?_update_other _ _ (Ne.symm hb)).trans e) f0 f1 f3 f4 f5) ⟨t, rfl⟩ q
end
end GX

namespace GX
open PySem PySem.Spec PyProof.Rows L2 GenW
section
variable {X : Cx} {tg elt iter : Expr} {ifs : List Expr} {scope : Scope} {gpos p pos : Pos} {own : List (Str × Nat)} {ti : TI} {tc : TC} {P0 : Addr} {k : Nat} {g' : TG} {tt : TT} {te : Value → TE}
theorem room_in {A : Around} (r : Room (k + 3) A) (e : Env) : Room k (A.in1.in1.deeper e) := ⟨r.hd, by have := r.dp; show A.depth + 1 + 3 * k + 5 < _; omega, by have := r.un; show A.units + 1 + 1 + 3 + 16 * k + 200 < _; omega⟩
theorem pe_allX (hr : Room (k + 3) X.A) (hN : X.N.Nodup) (glob : Gl X "all") (free : X.mg "all" = none) (BA : X.base.BuiltinsAt X.mg P0) (hi : PI X tg iter ti) (hpc : PC X gpos scope tc) (ok : GOk X.N X.env.scope scope own)
    (hg : Fam X k scope fun Y _ => PG Y tg g') (ht : Fam X k scope fun Y _ => PTs Y ifs tt) (he : Fam X k scope fun Y code => PE Y elt (te code)) (hs : ∀ v, genFold iter X.env v = pure v := by intro _; rfl)
    (one : starEach [.GeneratorExp elt [⟨tg, iter, ifs, 0⟩] scope gpos] X.env = [(false, eval (.GeneratorExp elt [⟨tg, iter, ifs, 0⟩] scope gpos) X.env)] := by rfl) :
    PE X (.Call (.Name "all" p) [.GeneratorExp elt [⟨tg, iter, ifs, 0⟩] scope gpos] [] pos) (tGx () stAll fiAll tc ti g' tt te (own.map (·.2))) := by
  constructor
  intro pins s σ H Q I h
  refine wpAny_Call_Name_kw (ld_blt I glob free (show bootBuiltins "all" = some (.builtin "all") by decide +kernel) (callWith_builtin1 ?_ one (by rfl)) (by decide) (by decide))
  rw [one]
  refine Calls.spliced_cons (gx_eval I hN hr hi hpc BA ok hs h fun J code H3 s3 it fp tn a g gob s5 want M => Calls.spliced_nil ?_)
  obtain ⟨W, ⟨m0, w0⟩, turn⟩ := want
  have hd : X.A.depth < recursionLimit := by have := hr.dp; omega
  have hB := M.bok (A := X.A.in1.in1) hr.hd I.ok.frames
  have I5 := M.sub _ hB
  have rm := room_in hr (gEnv X scope s3 code)
  refine call_function_tree F.kind_all F.plain_all F.entry_all (F.args_all1 _) ?_
  unfold Builtin.«all»
  refine wpAny_bind (m := oneArg "all" _) (wpAny_pure ?_)
  refine wpAny_bind (wpAny_pyIter_gen (M.isGen M.get) ?_)
  refine wpAny_pure ⟨plainId_quiet F.plain_all_loop _, M.all_loop (σ0 := wipe σ (own.map (·.2))) hr.hd hd (fun v u H s' I' r q => ⟨v, H, I', r, q⟩) (m0 + 1) s5 _ M.get I5.nolimit M.gen ?_⟩
  refine ⟨rfl, ?_⟩
  exact M.wake (A := X.A.in1.in1) (s2 := s5.setGen g .running) ok.co hr.hd I.ok.frames (hg _ _ _ _ _ rm rfl) (ht _ _ _ _ _ rm rfl) (he _ _ _ _ _ rm rfl) turn w0 (Nat.lt_succ_self _) rfl (allBare_setGen I5.bare rfl) (fun _ _ e => e) (fun _ h => nomatch h) trivial
theorem pe_anyX (hr : Room (k + 3) X.A) (hN : X.N.Nodup) (glob : Gl X "any") (free : X.mg "any" = none) (BA : X.base.BuiltinsAt X.mg P0) (hi : PI X tg iter ti) (hpc : PC X gpos scope tc) (ok : GOk X.N X.env.scope scope own)
    (hg : Fam X k scope fun Y _ => PG Y tg g') (ht : Fam X k scope fun Y _ => PTs Y ifs tt) (he : Fam X k scope fun Y code => PE Y elt (te code)) (hs : ∀ v, genFold iter X.env v = pure v := by intro _; rfl)
    (one : starEach [.GeneratorExp elt [⟨tg, iter, ifs, 0⟩] scope gpos] X.env = [(false, eval (.GeneratorExp elt [⟨tg, iter, ifs, 0⟩] scope gpos) X.env)] := by rfl) :
    PE X (.Call (.Name "any" p) [.GeneratorExp elt [⟨tg, iter, ifs, 0⟩] scope gpos] [] pos) (tGx () stAny fiAny tc ti g' tt te (own.map (·.2))) := by
  constructor
  intro pins s σ H Q I h
  refine wpAny_Call_Name_kw (ld_blt I glob free (show bootBuiltins "any" = some (.builtin "any") by decide +kernel) (callWith_builtin1 ?_ one (by rfl)) (by decide) (by decide))
  rw [one]
  refine Calls.spliced_cons (gx_eval I hN hr hi hpc BA ok hs h fun J code H3 s3 it fp tn a g gob s5 want M => Calls.spliced_nil ?_)
  obtain ⟨W, ⟨m0, w0⟩, turn⟩ := want
  have hd : X.A.depth < recursionLimit := by have := hr.dp; omega
  have hB := M.bok (A := X.A.in1.in1) hr.hd I.ok.frames
  have I5 := M.sub _ hB
  have rm := room_in hr (gEnv X scope s3 code)
  refine call_function_tree F.kind_any F.plain_any F.entry_any (F.args_any1 _) ?_
  unfold Builtin.«any»
  refine wpAny_bind (m := oneArg "any" _) (wpAny_pure ?_)
  refine wpAny_bind (wpAny_pyIter_gen (M.isGen M.get) ?_)
  refine wpAny_pure ⟨plainId_quiet F.plain_any_loop _, M.any_loop (σ0 := wipe σ (own.map (·.2))) hr.hd hd (fun v u H s' I' r q => ⟨v, H, I', r, q⟩) (m0 + 1) s5 _ M.get I5.nolimit M.gen ?_⟩
  refine ⟨rfl, ?_⟩
  exact M.wake (A := X.A.in1.in1) (s2 := s5.setGen g .running) ok.co hr.hd I.ok.frames (hg _ _ _ _ _ rm rfl) (ht _ _ _ _ _ rm rfl) (he _ _ _ _ _ rm rfl) turn w0 (Nat.lt_succ_self _) rfl (allBare_setGen I5.bare rfl) (fun _ _ e => e) (fun _ h => nomatch h) trivial
theorem pe_sumX (hr : Room (k + 3) X.A) (hN : X.N.Nodup) (glob : Gl X "sum") (free : X.mg "sum" = none) (BA : X.base.BuiltinsAt X.mg P0) (hi : PI X tg iter ti) (hpc : PC X gpos scope tc) (ok : GOk X.N X.env.scope scope own)
    (hg : Fam X k scope fun Y _ => PG Y tg g') (ht : Fam X k scope fun Y _ => PTs Y ifs tt) (he : Fam X k scope fun Y code => PE Y elt (te code)) (hs : ∀ v, genFold iter X.env v = pure v := by intro _; rfl)
    (one : starEach [.GeneratorExp elt [⟨tg, iter, ifs, 0⟩] scope gpos] X.env = [(false, eval (.GeneratorExp elt [⟨tg, iter, ifs, 0⟩] scope gpos) X.env)] := by rfl) :
    PE X (.Call (.Name "sum" p) [.GeneratorExp elt [⟨tg, iter, ifs, 0⟩] scope gpos] [] pos) (tGx 0 stSum fiSum tc ti g' tt te (own.map (·.2))) := by
  constructor
  intro pins s σ H Q I h
  refine wpAny_Call_Name_kw (ld_blt I glob free (show bootBuiltins "sum" = some (.builtin "sum") by decide +kernel) (callWith_builtin1 ?_ one (by rfl)) (by decide) (by decide))
  rw [one]
  refine Calls.spliced_cons (gx_eval I hN hr hi hpc BA ok hs h fun J code H3 s3 it fp tn a g gob s5 want M => Calls.spliced_nil ?_)
  obtain ⟨W, ⟨m0, w0⟩, turn⟩ := want
  have hd : X.A.depth < recursionLimit := by have := hr.dp; omega
  have hB := M.bok (A := X.A.in1.in1) hr.hd I.ok.frames
  have I5 := M.sub _ hB
  have rm := room_in hr (gEnv X scope s3 code)
  have hSc : cStatics < s5.heap.objs.size := let ⟨_, hn, _⟩ := I5.nolimit; hn.lt
  refine call_function_tree F.kind_sum F.plain_sum F.entry_sum (F.args_sum1 _) ?_
  unfold Builtin.«sum»
  simp only [List.length_cons, List.length_nil]
  rw [if_neg (by decide)]
  refine wpAny_bind (wpAny_of_eq (show Builtin.Builtins.bindParams "sum" ["start"] 0 { } = pure [none] from rfl) ?_)
  refine wpAny_bind (wpAny_pyIter_gen (M.isGen M.get) ?_)
  refine wpAny_bind (wpAny_mkInt ?_)
  refine wpAny_bind (wpAny_pure ?_)
  simp only [List.forIn_cons, List.forIn_nil]
  refine wpAny_bind (wpAny_bind (wpAny_bind (wpAny_isInstance (T := "int") (b := false) (typeIs_int _ _ _) PySem.sub_int_str ?_)))
  simp only [Bool.false_eq_true, if_false]
  refine wpAny_pure (wpAny_bind (wpAny_bind (wpAny_isInstance (T := "int") (b := false) (typeIs_int _ _ _) PySem.sub_int_bytes ?_)))
  simp only [Bool.false_eq_true, if_false]
  refine wpAny_pure (wpAny_bind (wpAny_bind (wpAny_isInstance (T := "int") (b := false) (typeIs_int _ _ _) PySem.sub_int_bytearray ?_)))
  simp only [Bool.false_eq_true, if_false]
  refine wpAny_pure (wpAny_pure ?_)
  refine wpAny_bind (wpAny_newObj_type ?_)
  have eS : ({ s5 with heap := s5.heap.push { cls := .type "list", data := .seq #[Value.int 0 s5.toks] }, toks := s5.toks + 1 } : Shared).heap.get? s5.heap.objs.size = some (lstO #[.int 0 s5.toks] 0) := Heap.get?_push_size _ rfl
  have kp : ∀ b o, s5.heap.get? b = some o → (s5.heap.push { cls := .type "list", data := .seq #[Value.int 0 s5.toks] }).get? b = some o := fun b o e => Heap.get?_push_of_some _ e
  have al : a < s5.heap.objs.size := Heap.lt_size M.get
  refine wpAny_pure ⟨plainId_quiet F.plain_sum_loop _, M.sum_loop (σ0 := wipe σ (own.map (·.2))) hr.hd hd (Nat.ne_of_lt al) (Nat.ne_of_lt hSc) (fun v u H s' I' r q => ⟨v, H, I', r, q⟩) (m0 + 1) _ _ 0 _ 0 0 (.inl rfl) (kp _ _ M.get) (I5.nolimit.keeps kp) M.gen eS ?_⟩
  refine ⟨rfl, ?_⟩
  refine M.wake (A := X.A.in1.in1) ok.co hr.hd I.ok.frames (hg _ _ _ _ _ rm rfl) (ht _ _ _ _ _ rm rfl) (he _ _ _ _ _ rm rfl) turn w0 (Nat.lt_succ_self _) rfl (allBare_setGen (s := { s5 with heap := _, toks := _ }) I5.bare rfl) kp (fun b hb => ?_) ⟨_, _, eS⟩
  rw [List.mem_singleton.mp hb]
  exact ⟨Nat.le_refl _, _, eS, fun v z => by cases z⟩
theorem pe_maxX (hr : Room (k + 3) X.A) (hN : X.N.Nodup) (glob : Gl X "max") (free : X.mg "max" = none) (BA : X.base.BuiltinsAt X.mg P0) (hi : PI X tg iter ti) (hpc : PC X gpos scope tc) (ok : GOk X.N X.env.scope scope own)
    (hg : Fam X k scope fun Y _ => PG Y tg g') (ht : Fam X k scope fun Y _ => PTs Y ifs tt) (he : Fam X k scope fun Y code => PE Y elt (te code)) (hs : ∀ v, genFold iter X.env v = pure v := by intro _; rfl)
    (one : starEach [.GeneratorExp elt [⟨tg, iter, ifs, 0⟩] scope gpos] X.env = [(false, eval (.GeneratorExp elt [⟨tg, iter, ifs, 0⟩] scope gpos) X.env)] := by rfl) :
    PE X (.Call (.Name "max" p) [.GeneratorExp elt [⟨tg, iter, ifs, 0⟩] scope gpos] [] pos) (tGx none stMax fiMax tc ti g' tt te (own.map (·.2))) := by
  constructor
  intro pins s σ H Q I h
  have hname : (toString "max" ++ toString ".loop" : String) = "max.loop" := by decide
  refine wpAny_Call_Name_kw (ld_blt I glob free (show bootBuiltins "max" = some (.builtin "max") by decide +kernel) (callWith_builtin1 ?_ one (by rfl)) (by decide) (by decide))
  rw [one]
  refine Calls.spliced_cons (gx_eval I hN hr hi hpc BA ok hs h fun J code H3 s3 it fp tn a g gob s5 want M => Calls.spliced_nil ?_)
  obtain ⟨W, ⟨m0, w0⟩, turn⟩ := want
  have hd : X.A.depth < recursionLimit := by have := hr.dp; omega
  have hB := M.bok (A := X.A.in1.in1) hr.hd I.ok.frames
  have I5 := M.sub _ hB
  have rm := room_in hr (gEnv X scope s3 code)
  have hSc : cStatics < s5.heap.objs.size := let ⟨_, hn, _⟩ := I5.nolimit; hn.lt
  refine call_function_tree F.kind_max F.plain_max F.entry_max (F.args_max1 _) ?_
  show wpAny _ X.A.in1 (Builtin.Builtins.bindParams "max" ["key", "default"] 0 ⟨[], []⟩ >>= _) _ _ _
  refine wpAny_bind (wpAny_of_eq (show Builtin.Builtins.bindParams "max" ["key", "default"] 0 ⟨[], []⟩ = pure [none, none] from rfl) ?_)
  refine wpAny_bind (wpAny_pure ?_)
  refine wpAny_bind (wpAny_pyIter_gen (M.isGen M.get) ?_)
  refine wpAny_bind (wpAny_newObj_type ?_)
  have eS : ({ s5 with heap := s5.heap.push { cls := .type "list", data := .seq #[] } } : Shared).heap.get? s5.heap.objs.size = some (lstO #[] 0) := Heap.get?_push_size _ rfl
  have kp : ∀ b o, s5.heap.get? b = some o → (s5.heap.push { cls := .type "list", data := .seq #[] }).get? b = some o := fun b o e => Heap.get?_push_of_some _ e
  have al : a < s5.heap.objs.size := Heap.lt_size M.get
  rw [hname]
  refine wpAny_pure ⟨plainId_quiet F.plain_max_loop _, M.max_loop (σ0 := wipe σ (own.map (·.2))) hr.hd hd (Nat.ne_of_lt al) (Nat.ne_of_lt hSc) I5.sz (fun v u H s' I' r q => ⟨v, H, I', r, q⟩) (m0 + 1) _ _ 0 (kp _ _ M.get) (I5.nolimit.keeps kp) M.gen (.inl eS) ?_⟩
  refine ⟨rfl, ?_⟩
  refine M.wake (A := X.A.in1.in1) ok.co hr.hd I.ok.frames (hg _ _ _ _ _ rm rfl) (ht _ _ _ _ _ rm rfl) (he _ _ _ _ _ rm rfl) turn w0 (Nat.lt_succ_self _) rfl (allBare_setGen (s := { s5 with heap := _ }) I5.bare rfl) kp (fun b hb => ?_) ⟨_, eS⟩
  rw [List.mem_singleton.mp hb]
  exact ⟨Nat.le_refl _, _, eS, fun v z => by cases z⟩
end
end GX

namespace GX
open PySem PySem.Spec PyProof.Rows L2 GenW
section
variable {J : It} {n : Nat} {G : Hp → Prop} {Y : Nat → Hp → V → Hp → Prop} {g : TG} {tt : TT} {te : TE} {vs : List Nat} {σ : L2.St} {Q : VK} {H2 : Hp}
theorem turns_all (w : Walk J n G Y) (fb : Nat → Bool) (Iv : Hp → Prop) (h0 : Iv H2) (hG : ∀ H, Iv H → G H)
    (turn : ∀ i x H H' (Kt : V → Hp → Prop) (Kn : Hp → Prop), i < n → Iv H → Y i H x H' → (∀ H4, Iv H4 → Kt (.bl (fb i)) H4) → (fb i = true → ∀ H4, Iv H4 → Kn H4) → g x (wipe σ vs) H' fun σ2 H2 => wipe σ2 vs = wipe σ vs ∧ tt σ2 H2 fun b H3 => if b = true then te σ2 H3 Kt else Kn H3)
    (fin : ∀ H b, Iv H → (b = true ↔ ∀ i, i < n → fb i = true) → Q (.bl b) H) : ∃ W : Nat → Nat → Unit → Hp → Prop, (∃ m, W 0 m () H2) ∧ TurnsR (stAll Q) (fiAll Q) J g tt te vs σ W := by
  refine ⟨fun i m _ H => m = n - i ∧ i ≤ n ∧ Iv H ∧ ∀ j, j < i → fb j = true, ⟨n, by simp, Nat.zero_le _, h0, fun j h => absurd h (Nat.not_lt_zero _)⟩, ?_⟩
  rintro i m _ H ⟨rfl, hi, iv, al⟩
  have q := hG H iv
  by_cases hlt : i < n
  · refine .inr ⟨w.goes i H hlt q, fun _ H' => Iv H' ∧ fb i = true, fun _ H' ⟨z1, z2⟩ => ⟨n - (i + 1), by omega, rfl, hlt, z1, fun j hj => ?_⟩, fun x H' y => turn i x H H' _ _ hlt iv (w.yields i H x H' hlt q y) (fun H4 iv4 => ⟨fb i, rfl, ?_⟩) (fun e H4 iv4 => ⟨iv4, e⟩)⟩
    · by_cases e : j = i
      · rw [e]; exact z2
      · exact al j (by omega)
    · cases e : fb i with
      | true => rw [if_pos rfl]; exact ⟨iv4, rfl⟩
      | false =>
        rw [if_neg Bool.false_ne_true]
        refine fin H4 false iv4 ⟨(fun z => nomatch z), fun z => ?_⟩
        rw [z i hlt] at e
        cases e
  · have e : i = n := by omega
    subst e
    exact .inl ⟨w.stops H q, fin H true iv ⟨fun _ j hj => al j hj, fun _ => rfl⟩⟩
theorem turns_any (w : Walk J n G Y) (fb : Nat → Bool) (Iv : Hp → Prop) (h0 : Iv H2) (hG : ∀ H, Iv H → G H)
    (turn : ∀ i x H H' (Kt : V → Hp → Prop) (Kn : Hp → Prop), i < n → Iv H → Y i H x H' → (∀ H4, Iv H4 → Kt (.bl (fb i)) H4) → (fb i = false → ∀ H4, Iv H4 → Kn H4) → g x (wipe σ vs) H' fun σ2 H2 => wipe σ2 vs = wipe σ vs ∧ tt σ2 H2 fun b H3 => if b = true then te σ2 H3 Kt else Kn H3)
    (fin : ∀ H b, Iv H → (b = true ↔ ∃ i, i < n ∧ fb i = true) → Q (.bl b) H) : ∃ W : Nat → Nat → Unit → Hp → Prop, (∃ m, W 0 m () H2) ∧ TurnsR (stAny Q) (fiAny Q) J g tt te vs σ W := by
  refine ⟨fun i m _ H => m = n - i ∧ i ≤ n ∧ Iv H ∧ ∀ j, j < i → fb j = false, ⟨n, by simp, Nat.zero_le _, h0, fun j h => absurd h (Nat.not_lt_zero _)⟩, ?_⟩
  rintro i m _ H ⟨rfl, hi, iv, al⟩
  have q := hG H iv
  by_cases hlt : i < n
  · refine .inr ⟨w.goes i H hlt q, fun _ H' => Iv H' ∧ fb i = false, fun _ H' ⟨z1, z2⟩ => ⟨n - (i + 1), by omega, rfl, hlt, z1, fun j hj => ?_⟩, fun x H' y => turn i x H H' _ _ hlt iv (w.yields i H x H' hlt q y) (fun H4 iv4 => ⟨fb i, rfl, ?_⟩) (fun e H4 iv4 => ⟨iv4, e⟩)⟩
    · by_cases e : j = i
      · rw [e]; exact z2
      · exact al j (by omega)
    · cases e : fb i with
      | true => rw [if_pos rfl]; exact fin H4 true iv4 ⟨fun _ => ⟨i, hlt, e⟩, fun _ => rfl⟩
      | false => rw [if_neg Bool.false_ne_true]; exact ⟨iv4, rfl⟩
  · have e : i = n := by omega
    subst e
    refine .inl ⟨w.stops H q, fin H false iv ⟨(fun z => nomatch z), fun ⟨j, hj, z⟩ => ?_⟩⟩
    rw [al j hj] at z
    cases z
theorem turns_sum (w : Walk J n G Y) (v : Nat → Int) (Iv : Hp → Prop) (h0 : Iv H2) (hG : ∀ H, Iv H → G H)
    (turn : ∀ i x H H' (Kt : V → Hp → Prop) (Kn : Hp → Prop), i < n → Iv H → Y i H x H' → (∀ H4, Iv H4 → Kt (.int (v i)) H4) → (v i = 0 → ∀ H4, Iv H4 → Kn H4) → g x (wipe σ vs) H' fun σ2 H2 => wipe σ2 vs = wipe σ vs ∧ tt σ2 H2 fun b H3 => if b = true then te σ2 H3 Kt else Kn H3)
    (fin : ∀ H, Iv H → Q (.int (preSum v n)) H) : ∃ W : Nat → Nat → Int → Hp → Prop, (∃ m, W 0 m 0 H2) ∧ TurnsR (stSum Q) (fiSum Q) J g tt te vs σ W := by
  refine ⟨fun i m acc H => m = n - i ∧ i ≤ n ∧ Iv H ∧ acc = preSum v i, ⟨n, by simp, Nat.zero_le _, h0, rfl⟩, ?_⟩
  rintro i m acc H ⟨rfl, hi, iv, rfl⟩
  have q := hG H iv
  by_cases hlt : i < n
  · refine .inr ⟨w.goes i H hlt q, fun acc' H' => Iv H' ∧ acc' = preSum v (i + 1), fun acc' H' ⟨z1, z2⟩ => ⟨n - (i + 1), by omega, rfl, hlt, z1, z2⟩, fun x H' y => turn i x H H' _ _ hlt iv (w.yields i H x H' hlt q y) (fun H4 iv4 => ⟨v i, rfl, iv4, rfl⟩) (fun e H4 iv4 => ⟨iv4, ?_⟩)⟩
    show preSum v i = preSum v i + v i
    omega
  · have e : i = n := by omega
    subst e
    exact .inl ⟨w.stops H q, fin H iv⟩
theorem turns_max (w : Walk J n G Y) (v : Nat → Int) (hn : 0 < n) (Iv : Hp → Prop) (h0 : Iv H2) (hG : ∀ H, Iv H → G H)
    (turn : ∀ i x H H' (Kt : V → Hp → Prop) (Kn : Hp → Prop), i < n → Iv H → Y i H x H' → (∀ H4, Iv H4 → Kt (.int (v i)) H4) → g x (wipe σ vs) H' fun σ2 H2 => wipe σ2 vs = wipe σ vs ∧ tt σ2 H2 fun b H3 => if b = true then te σ2 H3 Kt else Kn H3)
    (fin : ∀ H m, Iv H → (∃ i, i < n ∧ v i = m) → (∀ i, i < n → v i ≤ m) → Q (.int m) H) : ∃ W : Nat → Nat → Option Int → Hp → Prop, (∃ m, W 0 m none H2) ∧ TurnsR (stMax Q) (fiMax Q) J g tt te vs σ W := by
  refine ⟨fun i m acc H => m = n - i ∧ i ≤ n ∧ Iv H ∧ ((i = 0 ∧ acc = none) ∨ ∃ k, acc = some k ∧ (∃ j, j < i ∧ v j = k) ∧ ∀ j, j < i → v j ≤ k), ⟨n, by simp, Nat.zero_le _, h0, .inl ⟨rfl, rfl⟩⟩, ?_⟩
  rintro i m acc H ⟨rfl, hi, iv, hacc⟩
  have q := hG H iv
  by_cases hlt : i < n
  · refine .inr ⟨w.goes i H hlt q, fun acc' H' => Iv H' ∧ ∃ k, acc' = some k ∧ (∃ j, j < i + 1 ∧ v j = k) ∧ ∀ j, j < i + 1 → v j ≤ k, fun acc' H' ⟨z1, z2⟩ => ⟨n - (i + 1), by omega, rfl, hlt, z1, .inr z2⟩, fun x H' y => turn i x H H' _ _ hlt iv (w.yields i H x H' hlt q y) (fun H4 iv4 => ⟨v i, rfl, iv4, ?_⟩)⟩
    rcases hacc with ⟨rfl, rfl⟩ | ⟨k, rfl, ⟨j, hj, ej⟩, al⟩
    · exact ⟨v 0, rfl, ⟨0, by omega, rfl⟩, fun j hj => by
        have e : j = 0 := by omega
        rw [e]
        exact Int.le_refl _⟩
    · refine ⟨_, rfl, ?_, fun j' hj' => ?_⟩
      · by_cases c : k < v i
        · exact ⟨i, by omega, (if_pos c).symm⟩
        · exact ⟨j, by omega, by rw [ej]; exact (if_neg c).symm⟩
      · show v j' ≤ if k < v i then v i else k
        by_cases e : j' = i
        · rw [e]; split <;> omega
        · have := al j' (by omega)
          split <;> omega
  · have e : i = n := by omega
    subst e
    rcases hacc with ⟨e, _⟩ | ⟨k, rfl, hk, al⟩
    · omega
    · exact .inl ⟨w.stops H q, k, rfl, fin H k iv hk al⟩
end
end GX

namespace GX
open PySem PySem.Spec PyProof.Rows L2 GenW
section
variable {X : Cx} {pins : List (Addr × Obj)} {σ : L2.St} {tg elt iter : Expr} {ifs : List Expr} {scope : Scope} {gpos : Pos} {own : List (Str × Nat)} {J : It} {code : Value} {H3 : Hp} {s3 : Shared} {it : Addr} {fp : List Addr} {tn : Nat → Heap → Prop} {a : Addr} {g : Nat} {gob : Obj} {s5 : Shared}
theorem Made.min_loop (M : Made X pins σ tg elt iter ifs scope gpos own J code H3 s3 it fp tn a g gob s5) {A : Around} {σ0 : L2.St} {R : Result → Shared → Prop} {Q : VK} {S : Addr} (hh : A.handled = none) (hdp : A.depth < recursionLimit) (hSa : a ≠ S) (hSc : cStatics ≠ S) (hS5 : s3.heap.objs.size ≤ S)
    (hret : ∀ v u H s', Inv X pins σ H s' → RelV v u → Q v H → R (.ok (.ret u)) s') : ∀ (n : Nat) (s : Shared) (gs : GenState) (c : Nat), s.heap.get? a = some gob → s.heap.NoLimit → s.gens[g]? = some gs →
    (s.heap.get? S = some (lstO #[] c) ∨ ∃ m t, s.heap.get? S = some (lstO #[.int m t, .int m t] c)) →
    gs.Goes (model X.prog X.w) A.in1.in1 (RG (crMax S) (fiMax Q) (M.cx A.in1.in1) (a, gob) [S] σ0) (YG (crMax S) (stMin Q) (M.cx A.in1.in1) (a, gob) fp tn [S] σ0) n (.send .none) (s.setGen g .running) →
    codeAny (model X.prog X.w) A (.builtin "min.loop" ⟨[.ref a, .none, .ref S], []⟩) R s := by
  have hname : (toString "min" ++ toString ".loop" : String) = "min.loop" := by decide
  intro n
  induction n with
  | zero =>
    intro s gs c hG hl hgs eS hgo
    refine codeAny_builtin F.entry_min_loop ?_
    rw [Around.under_plainId F.plain_min_loop _]
    show wpAny _ A.in1 (seqItems? (.ref S) >>= _) _ _ s
    have dead : ∀ {o : Obj} {v : Value} {s1 : Shared} {i : Nat} {x : V} {acc : Option Int} {H : Hp} {Nx : Option Int → Hp → Prop} {gs' : GenState}, (∃ xs c2, o = lstO xs c2) → s1.heap.get? S = some o → GSt (M.cx A.in1.in1) (a, gob) fp tn [S] σ0 i H s1 → stMin Q acc x H Nx →
        (∀ s' acc', Slp [S] s1 s' → crMax S acc' s'.heap → Nx acc' H → ∃ n', 0 = n' + 1 ∧ gs'.Goes (model X.prog X.w) A.in1.in1 (RG (crMax S) (fiMax Q) (M.cx A.in1.in1) (a, gob) [S] σ0) (YG (crMax S) (stMin Q) (M.cx A.in1.in1) (a, gob) fp tn [S] σ0) n' (.send .none) s') → False := fun {o v s1 i x acc H Nx gs'} ho e1 st' sp kap => by
      obtain ⟨j, rfl, q⟩ := sp
      obtain ⟨xs, c2, rfl⟩ := ho
      obtain ⟨eG, nl, bare, _⟩ := gst_get st'
      generalize (match acc with | none => j | some k => if j < k then j else k) = m' at q
      have e2 := Heap.get?_update_self (Obj.mapSeq fun _ => #[Value.int m' 0, Value.int m' 0]) e1 rfl
      obtain ⟨n', hn, _⟩ := kap _ (some m') (slp_upd (g := g) (gs' := .running) (gs2 := .running) (tk := 0) bare rfl rfl e2 (fun v z => by cases z)) ⟨0, _, e2⟩ q
      omega
    rcases eS with eS | ⟨m, t, eS⟩
    · refine wpAny_bind (wpAny_seqItems eS rfl ?_)
      show wpAny _ A.in1 (tryCatch (pyNext (.ref a)) _ >>= _) _ _ s
      refine wpAny_bind (wpAny_tryCatch (M.next (A := A.in1) hh hdp hG hl hgs hgo (fun v s1 gs' i x acc' H Nx hb rx st' cr ks sp hsz kap => ?_) (fun s1 h' hp hk => ?_)))
      · exact (dead (v := v) ⟨_, _, rfl⟩ (by rw [ks S (List.mem_singleton.mpr rfl)]; exact eS) st' sp kap).elim
      · obtain ⟨acc', H, cp, _, I1, cr, ks, m, em, q⟩ := hp
        have := crMax_none (h := s.heap) eS cr
        rw [this] at em
        cases em
    · refine wpAny_bind (wpAny_seqItems eS rfl ?_)
      show wpAny _ A.in1 (tryCatch (pyNext (.ref a)) _ >>= _) _ _ s
      refine wpAny_bind (wpAny_tryCatch (M.next (A := A.in1) hh hdp hG hl hgs hgo (fun v s1 gs' i x acc' H Nx hb rx st' cr ks sp hsz kap => ?_) (fun s1 h' hp hk => ?_)))
      · exact (dead (v := v) ⟨_, _, rfl⟩ (by rw [ks S (List.mem_singleton.mpr rfl)]; exact eS) st' sp kap).elim
      · obtain ⟨acc', H, cp, ecp, I1, cr, ks, m', em, q⟩ := hp
        have := crMax_some (h := s.heap) eS cr
        rw [this] at em
        cases em
        have e1 : h'.get? S = some (lstO #[.int m t, .int m t] c) := hk _ _ (by rw [ks S (List.mem_singleton.mpr rfl)]; exact eS)
        have nS : H S = none := by
          have hm : S ∈ cp.map (·.1) := by rw [ecp]; exact List.mem_singleton.mpr rfl
          obtain ⟨p, hp, e⟩ := List.mem_map.mp hm
          rw [← e]
          exact (I1.pin p (List.mem_append_right _ (List.mem_cons_of_mem _ hp))).2.1
        show wpAny _ A.in1 (updateSeq S (fun _ => #[]) >>= _) _ _ _
        refine wpAny_bind ?_
        refine wpAny_updateSeq e1 rfl (wpAny_bind (wpAny_letGo (wpAny_pure ?_)))
        have J1 := M.back (s' := { s1.setGen g .finished with heap := h' }) I1 rfl (allBare_setGen I1.bare rfl) hk
        obtain ⟨f0, f1, f2, f3, f4, f5⟩ := M.inv.fpOk hS5 nS
        exact hret (.int m) _ H _ (J1.turned (t' := s1.toks) (fun b o hb e => (Heap.get?_update_other _ _ (Ne.symm hb)).trans e) f0 f1 f3 f4 f5) ⟨t, rfl⟩ q
  | succ n ih =>
    intro s gs c hG hl hgs eS hgo
    refine codeAny_builtin F.entry_min_loop ?_
    rw [Around.under_plainId F.plain_min_loop _]
    show wpAny _ A.in1 (seqItems? (.ref S) >>= _) _ _ s
    rcases eS with eS | ⟨m, t, eS⟩
    · refine wpAny_bind (wpAny_seqItems eS rfl ?_)
      show wpAny _ A.in1 (tryCatch (pyNext (.ref a)) _ >>= _) _ _ s
      refine wpAny_bind (wpAny_tryCatch (M.next (A := A.in1) hh hdp hG hl hgs hgo (fun v s1 gs' i x acc' H Nx hb rx st' cr ks sp hsz kap => ?_) (fun s1 h' hp hk => ?_)))
      · obtain ⟨j, rfl, q⟩ := sp
        obtain ⟨tj, rfl⟩ := rx
        rw [crMax_none (h := s.heap) eS cr] at q
        obtain ⟨eG, nl, bare, _⟩ := gst_get st'
        have e1 : s1.heap.get? S = some (lstO #[] c) := by rw [ks S (List.mem_singleton.mpr rfl)]; exact eS
        show wpAny _ A.in1 (updateSeq S (fun _ => #[.int j tj, .int j tj]) >>= _) _ _ _
        refine wpAny_bind ?_
        refine wpAny_updateSeq e1 rfl ?_
        have e2 := Heap.get?_update_self (Obj.mapSeq fun _ => #[Value.int j tj, Value.int j tj]) e1 rfl
        rw [hname]
        refine wpAny_pure ⟨plainId_quiet F.plain_min_loop _, ?_⟩
        obtain ⟨n', hn, go'⟩ := kap _ (some j) (slp_upd (g := g) (gs' := gs') (gs2 := .running) (tk := s1.toks) bare hb rfl e2 (fun v z => by cases z)) ⟨tj, _, e2⟩ q
        obtain rfl : n' = n := by omega
        refine ih { s1.setGen g gs' with heap := s1.heap.update S (Obj.mapSeq fun _ => #[Value.int j tj, Value.int j tj]) } gs' _ ((Heap.get?_update_other _ _ (Ne.symm hSa)).trans eG) ?_ (setGen_at hsz) (.inr ⟨j, tj, e2⟩) go'
        obtain ⟨mc, hns, hnn⟩ := nl
        exact ⟨mc, hns.at' fun o e => (Heap.get?_update_other _ _ (Ne.symm hSc)).trans e, hnn⟩
      · obtain ⟨acc', H, cp, _, I1, cr, ks, m, em, q⟩ := hp
        have := crMax_none (h := s.heap) eS cr
        rw [this] at em
        cases em
    · refine wpAny_bind (wpAny_seqItems eS rfl ?_)
      show wpAny _ A.in1 (tryCatch (pyNext (.ref a)) _ >>= _) _ _ s
      refine wpAny_bind (wpAny_tryCatch (M.next (A := A.in1) hh hdp hG hl hgs hgo (fun v s1 gs' i x acc' H Nx hb rx st' cr ks sp hsz kap => ?_) (fun s1 h' hp hk => ?_)))
      · obtain ⟨j, rfl, q⟩ := sp
        obtain ⟨tj, rfl⟩ := rx
        rw [crMax_some (h := s.heap) eS cr] at q
        obtain ⟨eG, nl, bare, _⟩ := gst_get st'
        have e1 : s1.heap.get? S = some (lstO #[.int m t, .int m t] c) := by rw [ks S (List.mem_singleton.mpr rfl)]; exact eS
        show wpAny _ A.in1 (tryCatch (holding [.int j tj, .int j tj] (richCompare .Lt (.int j tj) (.int m t) >>= _)) _ >>= _) _ _ _
        refine wpAny_bind (wpAny_tryCatch (wpAny_holding (wpAny_bind (P.lt_int ?_))))
        refine wpAny_bind (wpAny_holding (wpAny_truthy_bool ?_))
        refine wpAny_bind (wpAny_letGo (wpAny_pure ?_))
        by_cases hb' : j < m
        · rw [decide_eq_true hb']
          simp only [if_true]
          have q : Nx (some j) H := by
            have z : Nx (some (if j < m then j else m)) H := q
            rw [if_pos hb'] at z
            exact z
          refine wpAny_bind ?_
          refine wpAny_updateSeq e1 rfl (wpAny_bind (wpAny_letGo ?_))
          have e2 := Heap.get?_update_self (Obj.mapSeq fun _ => #[Value.int j tj, Value.int j tj]) e1 rfl
          rw [hname]
          refine wpAny_pure ⟨plainId_quiet F.plain_min_loop _, ?_⟩
          obtain ⟨n', hn, go'⟩ := kap _ (some j) (slp_upd (g := g) (gs' := gs') (gs2 := .running) (tk := s1.toks) bare hb rfl e2 (fun v z => by cases z)) ⟨tj, _, e2⟩ q
          obtain rfl : n' = n := by omega
          refine ih { s1.setGen g gs' with heap := s1.heap.update S (Obj.mapSeq fun _ => #[Value.int j tj, Value.int j tj]) } gs' _ ((Heap.get?_update_other _ _ (Ne.symm hSa)).trans eG) ?_ (setGen_at hsz) (.inr ⟨j, tj, e2⟩) go'
          obtain ⟨mc, hns, hnn⟩ := nl
          exact ⟨mc, hns.at' fun o e => (Heap.get?_update_other _ _ (Ne.symm hSc)).trans e, hnn⟩
        · rw [decide_eq_false hb']
          simp only [Bool.false_eq_true, if_false]
          have q : Nx (some m) H := by
            have z : Nx (some (if j < m then j else m)) H := q
            rw [if_neg hb'] at z
            exact z
          refine wpAny_bind (wpAny_letGo ?_)
          rw [hname]
          refine wpAny_pure ⟨plainId_quiet F.plain_min_loop _, ?_⟩
          obtain ⟨n', hn, go'⟩ := kap ((s1.setGen g gs').setGen g .running) (some m) ⟨rfl, allBare_setGen (s := s1.setGen g gs') (allBare_setGen bare hb) rfl, fun _ _ _ e => e, fun b hb => by rw [List.mem_singleton.mp hb]; exact ⟨_, e1, fun v z => by cases z⟩⟩ ⟨t, _, e1⟩ q
          obtain rfl : n' = n := by omega
          exact ih _ gs' _ eG nl (setGen_at hsz) (.inr ⟨m, t, e1⟩) go'
      · obtain ⟨acc', H, cp, ecp, I1, cr, ks, m', em, q⟩ := hp
        have := crMax_some (h := s.heap) eS cr
        rw [this] at em
        cases em
        have e1 : h'.get? S = some (lstO #[.int m t, .int m t] c) := hk _ _ (by rw [ks S (List.mem_singleton.mpr rfl)]; exact eS)
        have nS : H S = none := by
          have hm : S ∈ cp.map (·.1) := by rw [ecp]; exact List.mem_singleton.mpr rfl
          obtain ⟨p, hp, e⟩ := List.mem_map.mp hm
          rw [← e]
          exact (I1.pin p (List.mem_append_right _ (List.mem_cons_of_mem _ hp))).2.1
        show wpAny _ A.in1 (updateSeq S (fun _ => #[]) >>= _) _ _ _
        refine wpAny_bind ?_
        refine wpAny_updateSeq e1 rfl (wpAny_bind (wpAny_letGo (wpAny_pure ?_)))
        have J1 := M.back (s' := { s1.setGen g .finished with heap := h' }) I1 rfl (allBare_setGen I1.bare rfl) hk
        obtain ⟨f0, f1, f2, f3, f4, f5⟩ := M.inv.fpOk hS5 nS
        exact hret (.int m) _ H _ (J1.turned (t' := s1.toks) (fun b o hb e => (Heap.get?_update_other _ _ (Ne.symm hb)).trans e) f0 f1 f3 f4 f5) ⟨t, rfl⟩ q
end
section
variable {X : Cx} {tg elt iter : Expr} {ifs : List Expr} {scope : Scope} {gpos p pos : Pos} {own : List (Str × Nat)} {ti : TI} {tc : TC} {P0 : Addr} {k : Nat} {g' : TG} {tt : TT} {te : Value → TE}
theorem pe_minX (hr : Room (k + 3) X.A) (hN : X.N.Nodup) (glob : Gl X "min") (free : X.mg "min" = none) (BA : X.base.BuiltinsAt X.mg P0) (hi : PI X tg iter ti) (hpc : PC X gpos scope tc) (ok : GOk X.N X.env.scope scope own)
    (hg : Fam X k scope fun Y _ => PG Y tg g') (ht : Fam X k scope fun Y _ => PTs Y ifs tt) (he : Fam X k scope fun Y code => PE Y elt (te code)) (hs : ∀ v, genFold iter X.env v = pure v := by intro _; rfl)
    (one : starEach [.GeneratorExp elt [⟨tg, iter, ifs, 0⟩] scope gpos] X.env = [(false, eval (.GeneratorExp elt [⟨tg, iter, ifs, 0⟩] scope gpos) X.env)] := by rfl) :
    PE X (.Call (.Name "min" p) [.GeneratorExp elt [⟨tg, iter, ifs, 0⟩] scope gpos] [] pos) (tGx none stMin fiMax tc ti g' tt te (own.map (·.2))) := by
  constructor
  intro pins s σ H Q I h
  have hname : (toString "min" ++ toString ".loop" : String) = "min.loop" := by decide
  refine wpAny_Call_Name_kw (ld_blt I glob free (show bootBuiltins "min" = some (.builtin "min") by decide +kernel) (callWith_builtin1 ?_ one (by rfl)) (by decide) (by decide))
  rw [one]
  refine Calls.spliced_cons (gx_eval I hN hr hi hpc BA ok hs h fun J code H3 s3 it fp tn a g gob s5 want M => Calls.spliced_nil ?_)
  obtain ⟨W, ⟨m0, w0⟩, turn⟩ := want
  have hd : X.A.depth < recursionLimit := by have := hr.dp; omega
  have hB := M.bok (A := X.A.in1.in1) hr.hd I.ok.frames
  have I5 := M.sub _ hB
  have rm := room_in hr (gEnv X scope s3 code)
  have hSc : cStatics < s5.heap.objs.size := let ⟨_, hn, _⟩ := I5.nolimit; hn.lt
  refine call_function_tree F.kind_min F.plain_min F.entry_min (F.args_min1 _) ?_
  show wpAny _ X.A.in1 (Builtin.Builtins.bindParams "min" ["key", "default"] 0 ⟨[], []⟩ >>= _) _ _ _
  refine wpAny_bind (wpAny_of_eq (show Builtin.Builtins.bindParams "min" ["key", "default"] 0 ⟨[], []⟩ = pure [none, none] from rfl) ?_)
  refine wpAny_bind (wpAny_pure ?_)
  refine wpAny_bind (wpAny_pyIter_gen (M.isGen M.get) ?_)
  refine wpAny_bind (wpAny_newObj_type ?_)
  have eS : ({ s5 with heap := s5.heap.push { cls := .type "list", data := .seq #[] } } : Shared).heap.get? s5.heap.objs.size = some (lstO #[] 0) := Heap.get?_push_size _ rfl
  have kp : ∀ b o, s5.heap.get? b = some o → (s5.heap.push { cls := .type "list", data := .seq #[] }).get? b = some o := fun b o e => Heap.get?_push_of_some _ e
  have al : a < s5.heap.objs.size := Heap.lt_size M.get
  rw [hname]
  refine wpAny_pure ⟨plainId_quiet F.plain_min_loop _, M.min_loop (σ0 := wipe σ (own.map (·.2))) hr.hd hd (Nat.ne_of_lt al) (Nat.ne_of_lt hSc) I5.sz (fun v u H s' I' r q => ⟨v, H, I', r, q⟩) (m0 + 1) _ _ 0 (kp _ _ M.get) (I5.nolimit.keeps kp) M.gen (.inl eS) ?_⟩
  refine ⟨rfl, ?_⟩
  refine M.wake (A := X.A.in1.in1) ok.co hr.hd I.ok.frames (hg _ _ _ _ _ rm rfl) (ht _ _ _ _ _ rm rfl) (he _ _ _ _ _ rm rfl) turn w0 (Nat.lt_succ_self _) rfl (allBare_setGen (s := { s5 with heap := _ }) I5.bare rfl) kp (fun b hb => ?_) ⟨_, eS⟩
  rw [List.mem_singleton.mp hb]
  exact ⟨Nat.le_refl _, _, eS, fun v z => by cases z⟩
end
section
variable {J : It} {n : Nat} {G : Hp → Prop} {Y : Nat → Hp → V → Hp → Prop} {g : TG} {tt : TT} {te : TE} {vs : List Nat} {σ : L2.St} {Q : VK} {H2 : Hp}
theorem turns_min (w : Walk J n G Y) (v : Nat → Int) (hn : 0 < n) (Iv : Hp → Prop) (h0 : Iv H2) (hG : ∀ H, Iv H → G H)
    (turn : ∀ i x H H' (Kt : V → Hp → Prop) (Kn : Hp → Prop), i < n → Iv H → Y i H x H' → (∀ H4, Iv H4 → Kt (.int (v i)) H4) → g x (wipe σ vs) H' fun σ2 H2 => wipe σ2 vs = wipe σ vs ∧ tt σ2 H2 fun b H3 => if b = true then te σ2 H3 Kt else Kn H3)
    (fin : ∀ H m, Iv H → (∃ i, i < n ∧ v i = m) → (∀ i, i < n → m ≤ v i) → Q (.int m) H) : ∃ W : Nat → Nat → Option Int → Hp → Prop, (∃ m, W 0 m none H2) ∧ TurnsR (stMin Q) (fiMax Q) J g tt te vs σ W := by
  refine ⟨fun i m acc H => m = n - i ∧ i ≤ n ∧ Iv H ∧ ((i = 0 ∧ acc = none) ∨ ∃ k, acc = some k ∧ (∃ j, j < i ∧ v j = k) ∧ ∀ j, j < i → k ≤ v j), ⟨n, by simp, Nat.zero_le _, h0, .inl ⟨rfl, rfl⟩⟩, ?_⟩
  rintro i m acc H ⟨rfl, hi, iv, hacc⟩
  have q := hG H iv
  by_cases hlt : i < n
  · refine .inr ⟨w.goes i H hlt q, fun acc' H' => Iv H' ∧ ∃ k, acc' = some k ∧ (∃ j, j < i + 1 ∧ v j = k) ∧ ∀ j, j < i + 1 → k ≤ v j, fun acc' H' ⟨z1, z2⟩ => ⟨n - (i + 1), by omega, rfl, hlt, z1, .inr z2⟩, fun x H' y => turn i x H H' _ _ hlt iv (w.yields i H x H' hlt q y) (fun H4 iv4 => ⟨v i, rfl, iv4, ?_⟩)⟩
    rcases hacc with ⟨rfl, rfl⟩ | ⟨k, rfl, ⟨j, hj, ej⟩, al⟩
    · exact ⟨v 0, rfl, ⟨0, by omega, rfl⟩, fun j hj => by
        have e : j = 0 := by omega
        rw [e]
        exact Int.le_refl _⟩
    · refine ⟨_, rfl, ?_, fun j' hj' => ?_⟩
      · by_cases c : v i < k
        · exact ⟨i, by omega, (if_pos c).symm⟩
        · exact ⟨j, by omega, by rw [ej]; exact (if_neg c).symm⟩
      · show (if v i < k then v i else k) ≤ v j'
        by_cases e : j' = i
        · rw [e]; split <;> omega
        · have := al j' (by omega)
          split <;> omega
  · have e : i = n := by omega
    subst e
    rcases hacc with ⟨e, _⟩ | ⟨k, rfl, hk, al⟩
    · omega
    · exact .inl ⟨w.stops H q, k, rfl, fin H k iv hk al⟩
end
end GX

/-! ### the cheapest places -/
/-- how far back the place ahead of s may lie -/
structure BackAt (rs : List (Int × Int)) (s b : Int) : Prop where
  lo : 0 ≤ b
  all : ∀ r ∈ rs, r.2 + 2 ≤ s → r.1 + 1 ≤ b
  one : b = 0 ∨ ∃ r ∈ rs, r.2 + 2 ≤ s ∧ b = r.1 + 1
theorem BackAt.lt {rs : List (Int × Int)} {s b : Int} (h : BackAt rs s b) (hr : ∀ r ∈ rs, r.1 ≤ r.2) (hs : 1 ≤ s) : b < s := by
  rcases h.one with z | ⟨r, h1, h2, h3⟩
  · omega
  · have := hr r h1
    omega
/-- places from the last to the first, each no further back than may be -/
def Way (rs : List (Int × Int)) : Int → List Int → Prop
  | s, [] => BackAt rs s 0
  | s, x :: l => x + 1 < s ∧ 0 ≤ x ∧ (∃ b, BackAt rs s b ∧ b ≤ x + 1) ∧ Way rs (x + 1) l
theorem BackAt.eq {rs : List (Int × Int)} {s b b' : Int} (h : BackAt rs s b) (h' : BackAt rs s b') : b = b' := by
  have a1 : b ≤ b' := by
    rcases h.one with z | ⟨r, h1, h2, h3⟩
    · have := h'.lo; omega
    · have := h'.all r h1 h2; omega
  have a2 : b' ≤ b := by
    rcases h'.one with z | ⟨r, h1, h2, h3⟩
    · have := h.lo; omega
    · have := h.all r h1 h2; omega
  omega
/-- each run that ends ahead of s has one of l -/
def HitB (rs : List (Int × Int)) (s : Int) (l : List Int) : Prop := ∀ r ∈ rs, r.2 + 2 ≤ s → ∃ x ∈ l, r.1 ≤ x ∧ x ≤ r.2
theorem Way.hit {rs : List (Int × Int)} : ∀ {l : List Int} {s : Int}, (∀ r ∈ rs, 0 ≤ r.1) → Way rs s l → HitB rs s l
  | [], s, h0, h => fun r hr e => by
    have := h.all r hr e
    have := h0 r hr
    omega
  | x :: l, s, h0, h => fun r hr e => by
    obtain ⟨h1, h2, ⟨b, hb, hx⟩, h4⟩ := h
    by_cases c : r.2 + 2 ≤ x + 1
    · obtain ⟨y, hy, e1⟩ := Way.hit h0 h4 r hr c
      exact ⟨y, List.mem_cons_of_mem _ hy, e1⟩
    · have := hb.all r hr e
      exact ⟨x, List.mem_cons_self .., by omega, by omega⟩
theorem back_ex (rs : List (Int × Int)) (h0 : ∀ r ∈ rs, 0 ≤ r.1) (s : Int) : ∃ b, BackAt rs s b := by
  induction rs with
  | nil => exact ⟨0, Int.le_refl _, (fun _ h => nomatch h), .inl rfl⟩
  | cons r rs ih =>
    obtain ⟨b, hb⟩ := ih fun x hx => h0 x (List.mem_cons_of_mem _ hx)
    have hr0 := h0 r (List.mem_cons_self ..)
    by_cases c : r.2 + 2 ≤ s ∧ b < r.1 + 1
    · refine ⟨r.1 + 1, by omega, fun x hx e => ?_, .inr ⟨r, List.mem_cons_self .., c.1, rfl⟩⟩
      rcases List.mem_cons.mp hx with z | z
      · rw [z]; omega
      · have := hb.all x z e; omega
    · refine ⟨b, hb.lo, fun x hx e => ?_, ?_⟩
      · rcases List.mem_cons.mp hx with z | z
        · rw [z] at e ⊢; omega
        · exact hb.all x z e
      · rcases hb.one with z | ⟨x, h1, h2, h3⟩
        · exact .inl z
        · exact .inr ⟨x, List.mem_cons_of_mem _ h1, h2, h3⟩
/-- falling, all within -/
def Fall : Int → List Int → Prop
  | _, [] => True
  | s, x :: l => x + 1 < s ∧ 0 ≤ x ∧ Fall (x + 1) l
theorem Fall.lt : ∀ {l : List Int} {s : Int}, Fall s l → ∀ x ∈ l, x + 1 < s
  | y :: l, s, h, x, hx => by
    rcases List.mem_cons.mp hx with z | z
    · rw [z]; exact h.1
    · have := Fall.lt h.2.2 x z
      have := h.1
      omega
theorem Way.fall {rs : List (Int × Int)} : ∀ {l : List Int} {s : Int}, Way rs s l → Fall s l
  | [], _, _ => trivial
  | _ :: _, _, h => ⟨h.1, h.2.1, Way.fall h.2.2.2⟩
theorem Way.of {rs : List (Int × Int)} (h0 : ∀ r ∈ rs, 0 ≤ r.1) : ∀ {l : List Int} {s : Int}, Fall s l → HitB rs s l → Way rs s l
  | [], s, _, h => ⟨Int.le_refl _, fun r hr e => (let ⟨_, hx, _⟩ := h r hr e; nomatch hx), .inl rfl⟩
  | x :: l, s, f, h => by
    obtain ⟨b, hb⟩ := back_ex rs h0 s
    refine ⟨f.1, f.2.1, ⟨b, hb, ?_⟩, Way.of h0 f.2.2 fun r hr e => ?_⟩
    · rcases hb.one with z | ⟨r, h1, h2, h3⟩
      · have := f.2.1; omega
      · obtain ⟨y, hy, e1, e2⟩ := h r h1 h2
        rcases List.mem_cons.mp hy with z | z
        · rw [z] at e1; omega
        · have := Fall.lt f.2.2 y z; omega
    · obtain ⟨y, hy, e1, e2⟩ := h r hr (by have := f.1; omega)
      rcases List.mem_cons.mp hy with z | z
      · rw [z] at e2; omega
      · exact ⟨y, z, e1, e2⟩
/-- what places cost -/
def costF (pr : Int → Int) (l : List Int) : Int := (l.map pr).sum
/-- the least costs up to the k-th spot: c of a spot with its own price, back where it comes from -/
structure Costs (rs : List (Int × Int)) (pr : Int → Int) (k : Int) (c back : Int → Int) : Prop where
  zero : c 0 = 0
  from_ : ∀ s, 1 ≤ s → s ≤ k → 0 ≤ back s ∧ back s < s ∧ (∃ b, BackAt rs s b ∧ b ≤ back s) ∧ c s = c (back s) + pr (s - 1)
  least : ∀ s, 1 ≤ s → s ≤ k → ∀ b o, BackAt rs s b → b ≤ o → o < s → c s ≤ c o + pr (s - 1)
theorem Costs.low {rs : List (Int × Int)} {pr : Int → Int} {k : Int} {c back : Int → Int} (C : Costs rs pr k c back) : ∀ {l : List Int} {s : Int}, 1 ≤ s → s ≤ k → Way rs s l → c s ≤ costF pr l + pr (s - 1)
  | [], s, h1, h2, h => by
    have := C.least s h1 h2 0 0 h (Int.le_refl _) (by omega)
    have := C.zero
    show c s ≤ 0 + _
    omega
  | x :: l, s, h1, h2, h => by
    obtain ⟨e1, e2, ⟨b, hb, hx⟩, h4⟩ := h
    have a1 := C.least s h1 h2 b (x + 1) hb hx e1
    have a2 := C.low (l := l) (s := x + 1) (by omega) (by omega) h4
    have e : x + 1 - 1 = x := by omega
    rw [e] at a2
    show c s ≤ (pr x + costF pr l) + _
    omega
/-- the way back from a spot -/
theorem Costs.way {rs : List (Int × Int)} {pr : Int → Int} {k : Int} {c back : Int → Int} (C : Costs rs pr k c back) {l : List Int} {s : Int} (h1 : 1 ≤ s) (h2 : s ≤ k) (h : if back s = 0 then l = [] else ∃ l', l = (back s - 1) :: l' ∧ Way rs (back s) l' ∧ costF pr l' + pr (back s - 1) = c (back s)) : Way rs s l ∧ costF pr l + pr (s - 1) = c s := by
  obtain ⟨f1, f2, ⟨b, hb, f3⟩, f4⟩ := C.from_ s h1 h2
  split at h
  · next z =>
    subst h
    rw [z] at f3 f4
    have b0 : b = 0 := by have := hb.lo; omega
    subst b0
    refine ⟨hb, ?_⟩
    have := C.zero
    show 0 + _ = _
    omega
  · next z =>
    obtain ⟨l', rfl, hw, hc⟩ := h
    refine ⟨⟨by omega, by omega, ⟨b, hb, by omega⟩, by rw [show back s - 1 + 1 = back s by omega]; exact hw⟩, ?_⟩
    show (pr (back s - 1) + costF pr l') + _ = _
    omega

/-! ### rows that are lists or tuples -/
def IntsQ (H : Hp) (a : Addr) (ns : List Int) : Prop := SqH H a (ns.map V.int)
def LsQ (H : Hp) (a : Addr) (rs : List (Int × Int)) : Prop := ∃ us, SqH H a us ∧ Prs H us rs
theorem SqH.sq {K : PySem.W.Frag} {H : Hp} {a : Addr} {xs : List V} (h : SqH H a xs) : Sq K H a xs := h.elim (fun e => .inl (SqL.of e)) (fun e => .inr (.inl (.inl e)))
theorem SqH.lq {K : PySem.W.Frag} {H : Hp} {a : Addr} {xs : List V} (h : SqH H a xs) : SqL K H a xs ∨ SqT K H a xs := h.elim (fun e => .inl (SqL.of e)) (fun e => .inr (.inl (.inl e)))
theorem SqH.same {H H' : Hp} {a : Addr} {xs : List V} (h : SqH H a xs) (s : Same H H') : SqH H' a xs := h.elim (fun e => .inl (s _ _ e)) (fun e => .inr (s _ _ e))
theorem SqH.kp {H H' : Hp} {a d c : Addr} {xs : List V} (h : SqH H a xs) (h1 : a ≠ d) (h2 : a ≠ c) (k : Kp d c H H') : SqH H' a xs := h.elim (fun e => .inl (k _ _ h1 h2 e)) (fun e => .inr (k _ _ h1 h2 e))
theorem LsQ.same {H H' : Hp} {a : Addr} {rs : List (Int × Int)} (h : LsQ H a rs) (s : Same H H') : LsQ H' a rs := by
  obtain ⟨us, e, p⟩ := h
  exact ⟨us, e.same s, p.1, fun i r er => let ⟨x, h1, h2⟩ := p.2 i r er; ⟨x, h1, s _ _ h2⟩⟩
theorem SqH.ql {K : PySem.W.Frag} {H : Hp} {a : Addr} {xs : List V} (h : SqH H a xs) : SqT K H a xs ∨ SqL K H a xs := h.elim (fun e => .inr (SqL.of e)) (fun e => .inl (.inl (.inl e)))

/-! ### things: data that is tracked, none of it the draws' own list -/
inductive Thg (c : List Addr) (H : Hp) : V → PyData → Prop
  | non : Thg c H .non .none
  | bl (b : Bool) : Thg c H (.bl b) (.bool b)
  | int (i : Int) : Thg c H (.int i) (.int i)
  | str (x : Str) : Thg c H (.str x) (.str x)
  | lst {a : Addr} {xs : List V} {ds : List PyData} : H a = some (.lst xs) → a ∉ c → xs.length = ds.length → (∀ (i : Nat) x d, xs[i]? = some x → ds[i]? = some d → Thg c H x d) → Thg c H (.ref a) (.list ds)
  | tup {a : Addr} {xs : List V} {ds : List PyData} : H a = some (.tup xs) → xs.length = ds.length → (∀ (i : Nat) x d, xs[i]? = some x → ds[i]? = some d → Thg c H x d) → Thg c H (.ref a) (.tuple ds)
/-- a row of things -/
def ThgL (c : List Addr) (H : Hp) (xs : List V) (ds : List PyData) : Prop := xs.length = ds.length ∧ ∀ (i : Nat) x d, xs[i]? = some x → ds[i]? = some d → Thg c H x d
theorem Thg.ext {c : List Addr} {H H' : Hp} {v : V} {d : PyData} (h : Thg c H v d) (kl : ∀ a xs, a ∉ c → H a = some (.lst xs) → H' a = some (.lst xs)) (kt : ∀ a xs, H a = some (.tup xs) → H' a = some (.tup xs)) : Thg c H' v d := by
  induction h with
  | non => exact .non
  | bl b => exact .bl b
  | int i => exact .int i
  | str x => exact .str x
  | lst e n l _ ih => exact .lst (kl _ _ n e) n l ih
  | tup e l _ ih => exact .tup (kt _ _ e) l ih
theorem Thg.same {c : List Addr} {H H' : Hp} {v : V} {d : PyData} (h : Thg c H v d) (s : Same H H') : Thg c H' v d := h.ext (fun _ _ _ e => s _ _ e) fun _ _ e => s _ _ e
theorem Thg.noTab {c : List Addr} {H H' : Hp} {v : V} {d : PyData} (h : Thg c H v d) (n : GX.NoTab H H') : Thg c H' v d := h.ext (fun _ _ _ e => n.lst e) fun _ _ e => n.tup e
theorem Thg.kp {c d0 : Addr} {cs : List Addr} {H H' : Hp} {t : Int} {v : V} {d : PyData} (h : Thg cs H v d) (S : StAt H d0 c t) (k : Kp d0 c H H') (m : c ∈ cs) : Thg cs H' v d :=
  h.ext (fun a xs n e => k a _ (ne_of e S.dict (fun z => nomatch z)) (fun z => n (z ▸ m)) e) fun a xs e => by
    obtain ⟨cs, ec, _⟩ := S.cells
    exact k a _ (ne_of e S.dict (fun z => nomatch z)) (ne_of e ec (fun z => nomatch z)) e
theorem ThgL.same {c : List Addr} {H H' : Hp} {xs : List V} {ds : List PyData} (h : ThgL c H xs ds) (s : Same H H') : ThgL c H' xs ds := ⟨h.1, fun i x d e1 e2 => (h.2 i x d e1 e2).same s⟩
theorem ThgL.noTab {c : List Addr} {H H' : Hp} {xs : List V} {ds : List PyData} (h : ThgL c H xs ds) (s : GX.NoTab H H') : ThgL c H' xs ds := ⟨h.1, fun i x d e1 e2 => (h.2 i x d e1 e2).noTab s⟩
theorem ThgL.kp {c d0 : Addr} {cs : List Addr} {H H' : Hp} {t : Int} {xs : List V} {ds : List PyData} (h : ThgL cs H xs ds) (S : StAt H d0 c t) (k : Kp d0 c H H') (m : c ∈ cs) : ThgL cs H' xs ds := ⟨h.1, fun i x d e1 e2 => (h.2 i x d e1 e2).kp S k m⟩
theorem ThgL.nil {c : List Addr} {H : Hp} : ThgL c H [] [] := ⟨rfl, fun i x d e => by simp at e⟩
theorem ThgL.append {c : List Addr} {H : Hp} {xs ys : List V} {ds es : List PyData} (h : ThgL c H xs ds) (h' : ThgL c H ys es) : ThgL c H (xs ++ ys) (ds ++ es) := by
  refine ⟨by rw [List.length_append, List.length_append, h.1, h'.1], fun i x d e1 e2 => ?_⟩
  by_cases c1 : i < xs.length
  · rw [List.getElem?_append_left c1] at e1
    rw [List.getElem?_append_left (by rw [← h.1]; exact c1)] at e2
    exact h.2 i x d e1 e2
  · rw [List.getElem?_append_right (by omega)] at e1
    rw [List.getElem?_append_right (by rw [← h.1]; omega), ← h.1] at e2
    exact h'.2 _ x d e1 e2
theorem ThgL.one {c : List Addr} {H : Hp} {x : V} {d : PyData} (h : Thg c H x d) : ThgL c H [x] [d] := ⟨rfl, fun i y e e1 e2 => by
  cases i with
  | zero => cases e1; cases e2; exact h
  | succ i => simp at e1⟩
theorem ThgL.cons {c : List Addr} {H : Hp} {x : V} {d : PyData} {xs : List V} {ds : List PyData} (h : Thg c H x d) (hs : ThgL c H xs ds) : ThgL c H (x :: xs) (d :: ds) := (ThgL.one h).append hs
theorem ThgL.take {c : List Addr} {H : Hp} {xs : List V} {ds : List PyData} (h : ThgL c H xs ds) (n : Nat) : ThgL c H (xs.take n) (ds.take n) := by
  refine ⟨by rw [List.length_take, List.length_take, h.1], fun i x d e1 e2 => ?_⟩
  rw [List.getElem?_take] at e1 e2
  split at e1
  · rename_i c1
    rw [if_pos c1] at e2
    exact h.2 i x d e1 e2
  · cases e1
theorem ThgL.drop {c : List Addr} {H : Hp} {xs : List V} {ds : List PyData} (h : ThgL c H xs ds) (n : Nat) : ThgL c H (xs.drop n) (ds.drop n) := by
  refine ⟨by rw [List.length_drop, List.length_drop, h.1], fun i x d e1 e2 => ?_⟩
  rw [List.getElem?_drop] at e1 e2
  exact h.2 _ x d e1 e2
theorem ThgL.reverse {c : List Addr} {H : Hp} {xs : List V} {ds : List PyData} (h : ThgL c H xs ds) : ThgL c H xs.reverse ds.reverse := by
  refine ⟨by rw [List.length_reverse, List.length_reverse, h.1], fun i x d e1 e2 => ?_⟩
  have l1 := (List.getElem?_eq_some_iff.mp e1).1
  rw [List.length_reverse] at l1
  rw [List.getElem?_reverse l1] at e1
  rw [List.getElem?_reverse (by rw [← h.1]; exact l1), ← h.1] at e2
  exact h.2 _ x d e1 e2
theorem ThgL.set {c : List Addr} {H : Hp} {xs : List V} {ds : List PyData} {x : V} {d : PyData} (h : ThgL c H xs ds) (n : Nat) (hx : Thg c H x d) : ThgL c H (xs.set n x) (ds.set n d) := by
  refine ⟨by rw [List.length_set, List.length_set, h.1], fun i y e e1 e2 => ?_⟩
  rw [List.getElem?_set] at e1 e2
  split at e1
  · rename_i c1
    rw [if_pos c1] at e2
    split at e1
    · cases e1
      split at e2
      · cases e2; exact hx
      · cases e2
    · cases e1
  · rename_i c1
    rw [if_neg c1] at e2
    exact h.2 i y e e1 e2
theorem Thg.dp {K : PySem.W.Frag} {c : List Addr} {H : Hp} {v : V} {d : PyData} (h : Thg c H v d) : Dp K H v d := by
  have all : ∀ (xs : List V) (ds : List PyData), xs.length = ds.length → (∀ (i : Nat) x d, xs[i]? = some x → ds[i]? = some d → Dp K H x d) → DpAll K H xs ds := by
    intro xs
    induction xs with
    | nil => intro ds l _; cases ds with | nil => exact .nil | cons => cases l
    | cons x xs ih => intro ds l k; cases ds with | nil => cases l | cons e es => exact .cons (k 0 x e rfl rfl) (ih es (Nat.succ.inj l) fun i y f e1 e2 => k (i + 1) y f e1 e2)
  induction h with
  | non => exact .non
  | bl b => exact .bl b
  | int i => exact .int i
  | str x => exact .str x
  | lst e n l _ ih => exact .lst (SqL.of e) (all _ _ l ih)
  | tup e l _ ih => exact .tup (.inl (.inl e)) (all _ _ l ih)
/-- the parts of a list or a tuple -/
def rowOf : PyData → Option (List PyData)
  | .list ds => some ds
  | .tuple ds => some ds
  | _ => none
theorem Thg.row {c : List Addr} {H : Hp} {v : V} {d : PyData} {ds : List PyData} (h : Thg c H v d) (e : rowOf d = some ds) : ∃ a xs, v = .ref a ∧ SqH H a xs ∧ ThgL c H xs ds := by
  cases h with
  | non => cases e
  | bl b => cases e
  | int i => cases e
  | str x => cases e
  | lst e1 n l k => cases e; exact ⟨_, _, rfl, .inl e1, l, k⟩
  | tup e1 l k => cases e; exact ⟨_, _, rfl, .inr e1, l, k⟩
def isNumD : PyData → Bool
  | .int i => decide (0 ≤ i)
  | _ => false
def intD : PyData → Int
  | .int i => i
  | _ => 0
/-- the numbers of a row of numbers from 0 up -/
def numsOf (d : PyData) : Option (List Int) := match rowOf d with
  | some ds => if ds.all isNumD then some (ds.map intD) else none
  | none => none
theorem isNumD_int {d : PyData} (h : isNumD d = true) : ∃ i, d = .int i ∧ 0 ≤ i := by
  cases d <;> first | cases h | exact ⟨_, rfl, of_decide_eq_true h⟩
theorem nums_of {c : List Addr} {H : Hp} {v : V} {d : PyData} {ns : List Int} (h : Thg c H v d) (e : numsOf d = some ns) : ∃ a, v = .ref a ∧ IntsQ H a ns ∧ ∀ n ∈ ns, 0 ≤ n := by
  unfold numsOf at e
  cases hr : rowOf d with
  | none => rw [hr] at e; cases e
  | some ds =>
    rw [hr] at e
    by_cases c1 : ds.all isNumD = true
    · have e : (if ds.all isNumD then some (ds.map intD) else none) = some ns := e
      rw [if_pos c1] at e
      cases e
      obtain ⟨a, xs, rfl, hs, hl⟩ := h.row hr
      rw [List.all_eq_true] at c1
      have ex : xs = (ds.map intD).map V.int := by
        refine List.ext_getElem? fun i => ?_
        rw [List.getElem?_map, List.getElem?_map]
        cases hd : ds[i]? with
        | none =>
          rw [List.getElem?_eq_none_iff] at hd
          rw [List.getElem?_eq_none (by rw [hl.1]; exact hd)]
          rfl
        | some d =>
          have lt := (List.getElem?_eq_some_iff.mp hd).1
          have hx : xs[i]? = some (xs[i]'(by rw [hl.1]; exact lt)) := List.getElem?_eq_getElem _
          obtain ⟨j, rfl, _⟩ := isNumD_int (c1 d (List.mem_of_getElem? hd))
          have := hl.2 i _ _ hx hd
          rw [hx]
          generalize xs[i]'(by rw [hl.1]; exact lt) = x at this
          cases this
          rfl
      refine ⟨a, rfl, by rw [ex] at hs; exact hs, fun n hn => ?_⟩
      obtain ⟨d, hd, rfl⟩ := List.mem_map.mp hn
      obtain ⟨j, rfl, h0⟩ := isNumD_int (c1 d hd)
      exact h0
    · have e : (if ds.all isNumD then some (ds.map intD) else none) = some ns := e
      rw [if_neg c1] at e
      cases e
theorem thg_ints {c : List Addr} {H : Hp} {ns : List Int} : ThgL c H (ns.map V.int) (ns.map PyData.int) := ⟨by rw [List.length_map, List.length_map], fun i x d e1 e2 => by
  rw [List.getElem?_map] at e1 e2
  cases h : ns[i]? with
  | none => rw [h] at e1; cases e1
  | some n => rw [h] at e1 e2; cases e1; cases e2; exact .int n⟩
def incB (ns : List Int) : Bool := decide (ns.Pairwise (· < ·))
theorem inc_adj : ∀ {ns : List Int}, (∀ i, i + 1 < ns.length → ns.getD i 0 < ns.getD (i + 1) 0) → ns.Pairwise (· < ·)
  | [], _ => .nil
  | [x], _ => List.pairwise_singleton _ _
  | x :: y :: r, h => by
    have ih := inc_adj (ns := y :: r) fun i hi => h (i + 1) (by simp only [List.length_cons] at hi ⊢; omega)
    have h0 : x < y := h 0 (by simp)
    refine List.pairwise_cons.mpr ⟨fun z hz => ?_, ih⟩
    rcases List.mem_cons.mp hz with e | e
    · rw [e]; exact h0
    · have := (List.pairwise_cons.mp ih).1 z e
      omega
theorem inc_iff {ns : List Int} : ns.Pairwise (· < ·) ↔ ∀ i, i + 1 < ns.length → ns.getD i 0 < ns.getD (i + 1) 0 := ⟨fun h i hi => by
  rw [List.getD_eq_getElem?_getD, List.getD_eq_getElem?_getD, List.getElem?_eq_getElem (by omega), List.getElem?_eq_getElem hi]
  exact List.pairwise_iff_getElem.mp h i (i + 1) (by omega) hi (by omega), inc_adj⟩
def hitB (rs : List (Int × Int)) (row : List Int) : Bool := rs.all fun r => row.any fun n => decide (r.1 ≤ n) && decide (n ≤ r.2)

/-! ### enumerate over a list or a tuple -/
theorem meets_enB {v : Value} {o : Obj} {G : Heap → Prop} (B : Begins v o G) : Meets (Builtin.«enumerate.__new__» ⟨[.type "enumerate", v], []⟩) (fun _ R s => G s.heap ∧
    R (.ok (.ret (.ref (s.heap.push o).objs.size))) { s with heap := (s.heap.push o).push { cls := .type "enumerate", data := .fields #[.none, .bool false, .ref s.heap.objs.size, rawInt 0, .none, .none] } }) :=
  .of_wp fun prog w A R s given => by
    obtain ⟨hp, g, d, tk, os⟩ := s
    obtain ⟨hg, given⟩ := given
    have sub0 := sub_enumerate
    have begun : ∀ {A' : Around} {E' Q' : Value → Shared → Prop}, Q' (.ref hp.objs.size) ⟨hp.push o, g, d, tk, os⟩ → wpAny (model prog w) A' (pyIter v) Q' E' ⟨hp, g, d, tk, os⟩ := fun q => B.iter prog w _ _ ⟨hp, g, d, tk, os⟩ _ hg q
    wp_walk using begun
    refine wpAny_stack_any fun stk => wpAny_pure ?_
    split
    · rename_i c0 _ _ _ _ _
      cases (c0 == Value.type "enumerate") <;> (wp_walk using begun; exact ⟨_, rfl, given⟩)
    · wp_walk using begun
      exact ⟨_, rfl, given⟩
theorem call_enB {prog : Program} {w : World} {A : Around} {E Q : Value → Shared → Prop} {s : Shared} {v : Value} {o : Obj} {G : Heap → Prop} (B : Begins v o G) (hg : G s.heap)
    (h : ∀ h', IsEnum h' (s.heap.objs.size + 1) s.heap.objs.size 0 .none → h'.get? s.heap.objs.size = some o → (∀ b o, s.heap.get? b = some o → h'.get? b = some o) → Q (.ref (s.heap.objs.size + 1)) { s with heap := h' }) : wpAny (model prog w) A (call (.type "enumerate") [v]) Q E s := by
  refine callType_new F.called_enumerate (by decide) (F.typeCall_enumerate_1 _) (F.newCall_enumerate_1 _) (fun obj => F.args_object_init_2 obj _) F.entry_enumerate_new (meets_enB B) ⟨hg, ?_⟩
  have z1 : (s.heap.push o).objs.size = s.heap.objs.size + 1 := Heap.size_push ..
  show _ ∧ _
  rw [z1]
  have made : IsEnum ((s.heap.push o).push { cls := .type "enumerate", data := .fields #[.none, .bool false, .ref s.heap.objs.size, rawInt 0, .none, .none] }) (s.heap.objs.size + 1) s.heap.objs.size 0 .none := by
    have e0 := Heap.get?_push_size (s.heap.push o) (o := { cls := .type "enumerate", data := .fields #[.none, .bool false, .ref s.heap.objs.size, rawInt 0, .none, .none] }) rfl
    rw [z1] at e0
    exact e0
  exact ⟨⟨_, made, rfl⟩, h _ made (Heap.get?_push_of_some _ (Heap.get?_push_size _ B.free)) fun b o x => Heap.get?_push_of_some _ (Heap.get?_push_of_some _ x)⟩
/-- the tuple at a as it stands, each item in a new pair -/
def IteT (K : PySem.W.Frag) (a : Addr) : It := ⟨fun i H => ∃ (xs : List V) (x : V), SqT K H a xs ∧ xs[i]? = some x, fun i H v H' => ∃ T x, v = .ref T ∧ H T = none ∧ H' = upd H T (.tup [.int (i : Nat), x]) ∧ ∀ xs, SqT K H a xs → xs[i]? = some x, fun i H => ∃ xs : List V, SqT K H a xs ∧ xs.length = i⟩
theorem turn_enT {P : Program} {w : World} {K : PySem.W.Frag} {elts : List Expr} {kk : Nat} {tpos : Pos} (a e it : Addr) (nei : e ≠ it) (nea : e ≠ a) (nai : a ≠ it) :
    Turn P w K (.Tuple elts kk tpos) (IteT K a) [e, it] e (fun i h => (∃ old, IsEnum h e it ((i : Nat) : Int) old) ∧ h.IsTupleIter it a i) where
  mem := List.mem_cons_self ..
  obj := fun i h ⟨⟨old, he⟩, ⟨o, ho, hc, hd⟩⟩ b hb => by
    rcases List.mem_cons.mp hb with z | z
    · subst z
      exact ⟨_, he, fun v q => nomatch q⟩
    · rw [List.mem_singleton.mp z]
      exact ⟨o, ho, fun v q => by rw [hd] at q; cases q⟩
  keep := fun i h h' ⟨⟨old, he⟩, hi⟩ k => ⟨⟨old, k e (List.mem_cons_self ..) _ he⟩, hi.at fun o q => k it (List.mem_cons_of_mem _ (List.mem_singleton.mpr rfl)) o q⟩
  item := by
    intro X hP hw hK hc i pins s σ H E I hf st hg
    subst hP hw hK
    obtain ⟨⟨old, he⟩, hit⟩ := st
    obtain ⟨xs, x, hq, hx⟩ := hg
    obtain ⟨its, rv, isT, _⟩ := I.tuple hq
    obtain ⟨u, hu, ru⟩ := rv.get hx
    have lte : e < s.heap.objs.size := Heap.lt_size he
    have lti : it < s.heap.objs.size := let ⟨_, q, _⟩ := hit; Heap.lt_size q
    have hui : its.toArray[i]? = some u := by simpa using hu
    have lt : i < its.toArray.size := (Array.getElem?_eq_some_iff.mp hui).1
    have D := Draws.tuple (prog := X.prog) (w := X.w) (A := X.A.in1) (I.ok.hd hc) it a nai its.toArray
    refine wpAny_pyNext_enum_itemD D he ⟨hit, isT⟩ lt nei (by intro z; rcases List.mem_cons.mp z with z | z; exact nei z; exact nea (List.mem_singleton.mp z)) fun x' h' tk hx' ho st' hT hsz hk => ?_
    have ex : u = x' := Option.some.inj (hui.symm.trans hx')
    subst ex
    refine ⟨_, rfl, wpAny_letOwnedTupleGo_enum (s := { s with heap := h', toks := tk + 1 }) ho fun h'' he' sb => ?_⟩
    have hT2 := (sb.2 _ (Nat.ne_of_gt lte)).trans hT
    have new : ObjOk X.prog X.w (upd H s.heap.objs.size (.tup [.int (i : Nat), x])) h'' s.heap.objs.size (.tup [.int (i : Nat), x]) := ⟨by show 2 ≤ sizeLine; decide, [.int i tk, u], .cons ⟨_, rfl⟩ (.cons ru .nil), ⟨_, hT2, rfl, _, rfl⟩⟩
    have I1 : Inv X pins σ (upd H s.heap.objs.size (.tup [.int (i : Nat), x])) { s with heap := h'', toks := tk + 1 } :=
      I.turnedNew (t' := tk + 1) (ch := [e, it]) (fun b ob hb q => (sb.2 b (fun z => hb (z ▸ List.mem_cons_self ..))).trans (hk b ob (fun z => hb (z ▸ List.mem_cons_self ..)) (fun z => hb (z ▸ List.mem_cons_of_mem _ (List.mem_singleton.mpr rfl))) q)) hf (Nat.le_refl _) new
    refine ⟨.ref s.heap.objs.size, _, I1, rfl, ⟨_, x, rfl, I.hok.fresh (Nat.le_refl _), rfl, fun ys hy => by rw [I.tuple_inj hy hq]; exact hx⟩, ⟨⟨u, ?_⟩, st'.1.at fun o q => (sb.2 it nei.symm).trans q⟩, fun b hb => ?_⟩
    · have e1 : ((i + 1 : Nat) : Int) = (i : Int) + 1 := by omega
      exact e1 ▸ he'
    · have ltb : b < s.heap.objs.size := by
        rcases List.mem_cons.mp hb with z | z
        · exact z ▸ lte
        · exact (List.mem_singleton.mp z) ▸ lti
      rw [upd_ne (Nat.ne_of_lt ltb)]
      exact (hf b hb).1
  done := by
    intro X hP hw hK hc i pins s σ H E I hf st hg
    subst hP hw hK
    obtain ⟨⟨old, he⟩, hit⟩ := st
    obtain ⟨xs, hq, hx⟩ := hg
    obtain ⟨its, rv, isT, _⟩ := I.tuple hq
    obtain ⟨f0, f1, _, f3, f4, f5⟩ := hf it (List.mem_cons_of_mem _ (List.mem_singleton.mpr rfl))
    have hl : its.toArray.size = i := by
      have := rv.length
      simp
      omega
    have D := Draws.tuple (prog := X.prog) (w := X.w) (A := X.A.in1) (I.ok.hd hc) it a nai its.toArray
    exact wpAny_pyNext_enum_endD D he (hl.symm ▸ ⟨hit, isT⟩) fun h' eb => ⟨rfl, I.turned (t' := s.toks) (fun b o hb q => eb b o hb q) f0 f1 f3 f4 f5⟩
  self := fun A i s Q E ⟨⟨_, he⟩, _⟩ h => wpAny_pyIter_enum he h
def iEnS (K : PySem.W.Frag) (ta : TA) : TI := fun σ H R => ta σ H fun vs H1 => ∃ a, vs = [.ref a] ∧ (((∃ xs, SqL K H1 a xs) ∧ R (Ite K a) H1) ∨ ((∃ xs, SqT K H1 a xs) ∧ R (IteT K a) H1))
theorem pi_enS {X : Cx} {e : Expr} {ta : TA} {p pos tpos : Pos} {elts : List Expr} {kk : Nat} (hg : Gl X "enumerate") (hm : X.mg "enumerate" = none) (ha : PA X [e] ta) (hs : starEach [e] X.env = [(false, eval e X.env)] := by rfl) : PI X (.Tuple elts kk tpos) (.Call (.Name "enumerate" p) [e] [] pos) (iEnS X.K ta) := by
  constructor
  intro pins s σ H R I h
  refine Call_ (ld_blt I hg hm boot_enumerate (PyProof.Rows.callWith_type1 (thn (ha.run pos pins s σ H _ I h) fun us s1 had => ?_) hs rfl))
  obtain ⟨_, H1, J, rel, a, rfl, had⟩ := had
  cases rel with | cons r rr => ?_
  cases rr
  cases r
  have apart : ∀ b ∈ [s1.heap.objs.size + 1, s1.heap.objs.size], FpOk X pins H1 b := fun b hb => by
    have le : s1.heap.objs.size ≤ b := by
      rcases List.mem_cons.mp hb with z | z
      · rw [z]; exact Nat.le_succ _
      · rw [List.mem_singleton.mp z]; exact Nat.le_refl _
    exact J.fpOk le (J.hok.fresh le)
  rcases had with ⟨⟨xs, hq⟩, q⟩ | ⟨⟨xs, hq⟩, q⟩
  · obtain ⟨its, _, isL, _⟩ := J.list hq
    exact call_enumerate_list isL.isList fun h' he hit _ hk => wpAny_pyIter_enum he ⟨_, _, _, _, H1, rfl, J.kept (t' := s1.toks) hk, turn_enum a _ _, ⟨⟨.none, he⟩, hit, Nat.succ_ne_self _⟩, apart, q⟩
  · obtain ⟨its, _, isT, _⟩ := J.tuple hq
    have lta : a < s1.heap.objs.size := let ⟨_, ho, _⟩ := id isT; Heap.lt_size ho
    exact call_enB (begins_tuple a its.toArray) isT fun h' he hit hk => wpAny_pyIter_enum he ⟨_, _, _, _, H1, rfl, J.kept (t' := s1.toks) hk, turn_enT a _ _ (Nat.succ_ne_self _) (Nat.ne_of_gt (Nat.lt_succ_of_lt lta)) (Nat.ne_of_lt lta), ⟨⟨.none, he⟩, ⟨_, hit, rfl, rfl⟩⟩, apart, q⟩
theorem walk_enT {K : PySem.W.Frag} {a : Addr} {xs : List V} : Walk (IteT K a) xs.length (fun H => SqT K H a xs) (YPair (fun i => some (.int (i : Nat))) (fun i => xs[i]?)) where
  goes := fun i _ hi q => ⟨xs, xs[i], q, List.getElem?_eq_getElem hi⟩
  stops := fun _ q => ⟨xs, q, rfl⟩
  yields := fun i H v H' _ q ⟨T, x, h1, h2, h3, h4⟩ => ⟨T, .int (i : Nat), x, h1, h2, h3, rfl, h4 xs q⟩
theorem for_enS {K : PySem.W.Frag} {a : Addr} {xs : List V} {g : TG} {tb : TS} {D : Ends} {σ : L2.St} {H0 H1 : Hp} (hq : Sq K H0 a xs) (s1 : Same H0 H1) (Pv : Nat → L2.St → Hp → Prop) (h0 : Pv 0 σ H1) (hl : ∀ i σ H', Pv i σ H' → Same H0 H')
    (turn : ∀ i x T σ H, xs[i]? = some x → Pv i σ H → H T = none → g (.ref T) σ (upd H T (.tup [.int (i : Nat), x])) fun σ2 H2 => tb { D with nx := Pv (i + 1), ct := Pv (i + 1), bk := D.nx } σ2 H2) (fin : ∀ σ H, Pv xs.length σ H → D.nx σ H) :
    ((∃ xs, SqL K H1 a xs) ∧ ForR (Ite K a) g tb D σ H1) ∨ ((∃ xs, SqT K H1 a xs) ∧ ForR (IteT K a) g tb D σ H1) := by
  have tn : ∀ i v σ H H', i < xs.length → Pv i σ H → YPair (fun i => some (.int (i : Nat))) (fun i => xs[i]?) i H v H' → g v σ H' fun σ2 H2 => tb { D with nx := Pv (i + 1), ct := Pv (i + 1), bk := D.nx } σ2 H2 := by
    rintro i v σ H H' _ hp ⟨T, x, y, rfl, nT, rfl, e1, e2⟩
    cases e1
    exact turn i y T σ H e2 hp nT
  rcases hq with h | h
  · exact .inl ⟨⟨xs, s1.seq h⟩, for_it walk_enum Pv h0 (fun i σ H' _ p => (hl i σ H' p).seq h) tn fin⟩
  · exact .inr ⟨⟨xs, same_t s1 h⟩, for_it walk_enT Pv h0 (fun i σ H' _ p => same_t (hl i σ H' p) h) tn fin⟩

/-! ### lists of texts beside the empty list -/
def okT (l : List Nat) : Prop := ∀ c ∈ l, c < 1114112
theorem okT.take {l : List Nat} (h : okT l) (n : Nat) : okT (l.take n) := fun c hc => h c (List.mem_of_mem_take hc)
theorem okT.drop {l : List Nat} (h : okT l) (n : Nat) : okT (l.drop n) := fun c hc => h c (List.mem_of_mem_drop hc)
theorem okT.app {l r : List Nat} (h : okT l) (g : okT r) : okT (l ++ r) := fun c hc => (List.mem_append.mp hc).elim (h c) (g c)
theorem okT.one {l : List Nat} (h : okT l) {i c : Nat} (e : l[i]? = some c) : okT [c] := fun d hd => by
  rw [List.mem_singleton.mp hd]
  exact h c (List.mem_of_getElem? e)
abbrev txs (ps : List (List Nat)) : List V := ps.map fun x => .str (SX.S x)
theorem txs_snoc (ps : List (List Nat)) (x : List Nat) : txs (ps ++ [x]) = txs ps ++ [.str (SX.S x)] := by simp [txs]
def txD (x : List Nat) : PyData := .str (SX.S x)
theorem dp_txs {K : PySem.W.Frag} {H : Hp} : ∀ ps : List (List Nat), DpAll K H (txs ps) (ps.map txD)
  | [] => .nil
  | _ :: r => .cons (.str _) (dp_txs r)
theorem lay_txs : ∀ ps : List (List Nat), (∀ x ∈ ps, okT x) → PyData.canLayAll0 (ps.map txD) = true
  | [], _ => by simp only [List.map_nil, PyData.canLayAll0]
  | p :: r, h => by
    rw [List.map_cons, PyData.canLayAll0, lay_txs r fun x hx => h x (List.mem_cons_of_mem _ hx), txD, PyData.canLay0, strOk_S (h p (List.mem_cons_self ..))]
    rfl
theorem depth_txs : ∀ ps : List (List Nat), PyData.depthAll (ps.map txD) ≤ 1
  | [] => by simp only [List.map_nil, PyData.depthAll]; omega
  | p :: r => by
    rw [List.map_cons, PyData.depthAll]
    have := depth_txs r
    simp [txD, PyData.depth]
    omega
theorem shaped_txs (ps : List (List Nat)) (h : ∀ x ∈ ps, okT x) : SeqAt.shaped (PyData.list (ps.map txD)) = true := by
  unfold SeqAt.shaped
  rw [PyData.canLay0, lay_txs ps h, PyData.depth, Bool.true_and]
  exact decide_eq_true (by have := depth_txs ps; omega)
theorem eqv_no {α : Type} (f : α → PyData) (ps : List α) : PyData.eqv (PyData.list (ps.map f)) (PyData.list []) = ps.isEmpty := by
  cases ps with
  | nil => simp [PyData.eqv, PyData.eqvAll]
  | cons p r => simp [PyData.eqv, PyData.eqvAll]
/-- xs != [] -/
theorem ne_nil {K : PySem.W.Frag} {H : Hp} {p l : Addr} {ps : List (List Nat)} {Q : VK} (h : ∀ x ∈ ps, okT x) (e : H p = some (.lst (txs ps))) (el : H l = some (.lst [])) (q : Q (.bl (!ps.isEmpty)) H) : rNeD K (.ref p) (.ref l) H Q :=
  ⟨_, .list [], .lst (SqL.of e) (dp_txs ps), .lst (SqL.of el) .nil, shaped_txs ps h, by rfl, by rw [eqv_no]; exact q⟩
theorem eq_nil {K : PySem.W.Frag} {H : Hp} {p l : Addr} {ps : List (List Nat)} {Q : VK} (h : ∀ x ∈ ps, okT x) (e : H p = some (.lst (txs ps))) (el : H l = some (.lst [])) (q : Q (.bl ps.isEmpty) H) : rEqD K (.ref p) (.ref l) H Q :=
  ⟨_, .list [], .lst (SqL.of e) (dp_txs ps), .lst (SqL.of el) .nil, shaped_txs ps h, by rfl, by rw [eqv_no]; exact q⟩

/-! ### the draws of texts -/
theorem sgn_at {z : Str} {n : Nat} (hn : z.cps.toList.length = n) (ho : okT z.cps.toList) {r : Int} (r0 : 0 ≤ r) (r1 : r < n) : ∃ ch, atI z.cps.toList r = some ch ∧ ch < 1114112 := by
  obtain ⟨k, rfl⟩ := Int.eq_ofNat_of_zero_le r0
  have lt : k < z.cps.toList.length := by omega
  exact ⟨_, atI_nat (List.getElem?_eq_getElem lt), ho _ (List.getElem_mem lt)⟩
theorem pick_at {xs : List V} {n : Nat} (hn : xs.length = n) {r : Int} (r0 : 0 ≤ r) (r1 : r < n) : ∃ v, atI xs r = some v ∧ v ∈ xs := by
  obtain ⟨k, rfl⟩ := Int.eq_ofNat_of_zero_le r0
  have lt : k < xs.length := by omega
  exact ⟨_, atI_nat (List.getElem?_eq_getElem lt), List.getElem_mem lt⟩
theorem joinL_nil : ∀ xs : List (List Nat), TL.joinL [] xs = xs.flatten
  | [] => rfl
  | [x] => by simp [TL.joinL]
  | x :: y :: r => by
    have ih := joinL_nil (y :: r)
    show x ++ ([] ++ TL.joinL [] (y :: r)) = _
    rw [ih]
    simp
theorem join_txs (xs : List (List Nat)) : Txt.join "" (xs.map SX.S) = SX.S xs.flatten := by
  have z := SX.join_S [] xs
  rw [joinL_nil] at z
  exact z
theorem flat_le {m : Nat} : ∀ {xs : List (List Nat)}, (∀ x ∈ xs, x.length ≤ m) → xs.flatten.length ≤ m * xs.length
  | [], _ => by simp
  | x :: r, h => by
    have h1 := h x (List.mem_cons_self ..)
    have h2 := flat_le fun y hy => h y (List.mem_cons_of_mem _ hy)
    rw [List.flatten_cons, List.length_append, List.length_cons, Nat.mul_add, Nat.mul_one]
    omega
theorem sum_txs : ∀ xs : List (List Nat), ((xs.map SX.S).map (·.length)).sum = xs.flatten.length
  | [] => rfl
  | x :: r => by
    rw [List.map_cons, List.map_cons, List.sum_cons, sum_txs r, List.flatten_cons, List.length_append, SX.S_len]
theorem fits_txs {xs : List (List Nat)} (h : xs.flatten.length ≤ 100000) : ((xs.map SX.S).map (·.length)).sum + (xs.map SX.S).length * ("" : Str).length ≤ 16777216 := by
  rw [sum_txs, show ("" : Str).length = 0 from rfl, Nat.mul_zero]
  omega
theorem okT_flat {xs : List (List Nat)} (h : ∀ x ∈ xs, okT x) : okT xs.flatten := fun c hc => by
  obtain ⟨x, hx, hc'⟩ := List.mem_flatten.mp hc
  exact h x hx c hc'
theorem txs_strs (xs : List (List Nat)) : txs xs = (xs.map SX.S).map V.str := by simp [txs]
/-- a text of so many signs at most -/
def TxS (n : Nat) (z : Str) : Prop := ∃ l, z = SX.S l ∧ l.length ≤ n ∧ okT l
theorem TxS.of {n : Nat} {l : List Nat} (h : l.length ≤ n) (o : okT l) : TxS n (SX.S l) := ⟨l, rfl, h, o⟩
theorem TxS.mono {n m : Nat} {z : Str} (h : TxS n z) (le : n ≤ m) : TxS m z := let ⟨l, e, h1, h2⟩ := h; ⟨l, e, Nat.le_trans h1 le, h2⟩
theorem TxS.len {n : Nat} {z : Str} (h : TxS n z) : z.length ≤ n := by
  obtain ⟨l, rfl, h1, _⟩ := h
  rw [SX.S_len]; exact h1
theorem TxS.cut {n : Nat} {z : Str} (h : TxS n z) (lo hi : Option Int) : TxS n (cutS z lo hi) := by
  obtain ⟨l, rfl, h1, h2⟩ := h
  unfold cutS
  rw [S_cps]
  refine ⟨_, rfl, ?_, (h2.drop _).take _⟩
  rw [List.length_take, List.length_drop]
  omega
theorem TxS.cutTo {n : Nat} {z : Str} (h : TxS n z) (k : Nat) : TxS k (cutS z none (some (k : Int))) := by
  obtain ⟨l, rfl, h1, h2⟩ := h
  rw [cutS_take]
  exact ⟨_, rfl, by rw [List.length_take]; omega, h2.take _⟩
theorem TxS.cat {n m : Nat} {y z : Str} (h : TxS n y) (g : TxS m z) : TxS (n + m) (y ++ z) := by
  obtain ⟨a, rfl, h1, h2⟩ := h
  obtain ⟨b, rfl, g1, g2⟩ := g
  exact ⟨a ++ b, SX.S_cat a b, by rw [List.length_append]; omega, h2.app g2⟩
theorem TxS.sg {c : Nat} (h : c < 1114112) : TxS 1 ⟨#[c]⟩ := ⟨[c], rfl, Nat.le_refl _, fun d hd => by rw [List.mem_singleton.mp hd]; exact h⟩
theorem TxS.fits {n : Nat} {z : Str} (h : TxS n z) (le : n ≤ 10000) : z.length ≤ sizeLine := Nat.le_trans h.len (Nat.le_trans le (by decide))
theorem TxS.fit {n m : Nat} {y z : Str} (h : TxS n y) (g : TxS m z) (le : n + m ≤ 10000) : y.length + z.length ≤ sizeLine := Nat.le_trans (Nat.add_le_add h.len g.len) (Nat.le_trans le (by decide))
theorem okT_of {l : List Nat} (h : (l.all fun c => decide (c < 1114112)) = true) : okT l := fun c hc => of_decide_eq_true (List.all_eq_true.mp h c hc)

/-! ## draws out of a box -/
structure Bx (b : Addr) (H : Hp) (t : Int) : Prop where
  at_ : ∃ n0 n1 : Int, H b = some (.lst [.int n0, .int n1, .int t]) ∧ 0 ≤ n1 ∧ n1 < 2 ^ 62
  pos : 0 ≤ t
/-- all but the box stands -/
def Kb (b : Addr) (H H' : Hp) : Prop := ∀ a o, a ≠ b → H a = some o → H' a = some o
theorem Kb.refl (b : Addr) (H : Hp) : Kb b H H := fun _ _ _ e => e
theorem Kb.trans {b : Addr} {H H1 H2 : Hp} (x : Kb b H H1) (y : Kb b H1 H2) : Kb b H H2 := fun a o n e => y a o n (x a o n e)
theorem Kb.same {b : Addr} {H H' : Hp} (s : Same H H') : Kb b H H' := fun a o _ e => s a o e
theorem Bx.same {b : Addr} {H H' : Hp} {t : Int} (x : Bx b H t) (s : Same H H') : Bx b H' t := ⟨let ⟨n0, n1, e, r⟩ := x.at_; ⟨n0, n1, s _ _ e, r⟩, x.pos⟩
theorem Bx.off {b : Addr} {H : Hp} {t : Int} (x : Bx b H t) {p : Addr} (n : H p = none) : p ≠ b := fun z => by
  obtain ⟨_, _, e, _⟩ := x.at_
  rw [z, e] at n
  cases n
theorem Bx.ne {b : Addr} {H : Hp} {t : Int} (x : Bx b H t) : H b ≠ none := fun z => x.off z rfl
theorem Bx.upd {b l : Addr} {H : Hp} {t : Int} {o : HO} (x : Bx b H t) (n : l ≠ b) : Bx b (L2.upd H l o) t := ⟨let ⟨n0, n1, e, r⟩ := x.at_; ⟨n0, n1, by rw [upd_ne n.symm]; exact e, r⟩, x.pos⟩
theorem Bx.noTab {b : Addr} {H H' : Hp} {t : Int} (x : Bx b H t) (s : GX.NoTab H H') : Bx b H' t := ⟨let ⟨n0, n1, e, r⟩ := x.at_; ⟨n0, n1, s.lst e, r⟩, x.pos⟩
theorem Kb.free {b p : Addr} {H H' : Hp} {t : Int} (k : Kb b H H') (x : Bx b H' t) (n : H' p = none) : H p = none := by
  cases e : H p with
  | none => rfl
  | some o =>
    have := k p o (x.off n) e
    rw [n] at this
    cases this
/-- what was new stands -/
theorem Kb.new {b p : Addr} {H H' : Hp} {o : HO} (k : Kb b (L2.upd H p o) H') (n : p ≠ b) : H' p = some o := k p o n upd_same
theorem Thg.kb {cs : List Addr} {b : Addr} {H H' : Hp} {v : V} {d : PyData} {t : Int} (h : Thg cs H v d) (x : Bx b H t) (k : Kb b H H') (m : b ∈ cs) : Thg cs H' v d :=
  h.ext (fun a xs n e => k a _ (fun z => n (z ▸ m)) e) fun a xs e => by
    obtain ⟨_, _, eb, _⟩ := x.at_
    exact k a _ (ne_of e eb (fun z => nomatch z)) e
theorem ThgL.kb {cs : List Addr} {b : Addr} {H H' : Hp} {xs : List V} {ds : List PyData} {t : Int} (h : ThgL cs H xs ds) (x : Bx b H t) (k : Kb b H H') (m : b ∈ cs) : ThgL cs H' xs ds := ⟨h.1, fun i y d e1 e2 => (h.2 i y d e1 e2).kb x k m⟩
theorem Thg.less {cs cs' : List Addr} {H : Hp} {v : V} {d : PyData} (h : Thg cs H v d) (w : ∀ a ∈ cs', a ∈ cs) : Thg cs' H v d := by
  induction h with
  | non => exact .non
  | bl b => exact .bl b
  | int i => exact .int i
  | str x => exact .str x
  | lst e n l _ ih => exact .lst e (fun z => n (w _ z)) l ih
  | tup e l _ ih => exact .tup e l ih
theorem ThgL.less {cs cs' : List Addr} {H : Hp} {xs : List V} {ds : List PyData} (h : ThgL cs H xs ds) (w : ∀ a ∈ cs', a ∈ cs) : ThgL cs' H xs ds := ⟨h.1, fun i y d e1 e2 => (h.2 i y d e1 e2).less w⟩
/-- a list among cs changes -/
theorem Thg.upd {cs : List Addr} {H : Hp} {v : V} {d : PyData} {l : Addr} {xs : List V} {o : HO} (h : Thg cs H v d) (e : H l = some (.lst xs)) (m : l ∈ cs) : Thg cs (L2.upd H l o) v d :=
  h.ext (fun a ys n ea => (upd_ne (show a ≠ l from fun z => n (by rw [z]; exact m))).trans ea) fun a ys ea => (upd_ne (ne_of ea e (fun z => nomatch z))).trans ea
theorem ThgL.upd {cs : List Addr} {H : Hp} {vs : List V} {ds : List PyData} {l : Addr} {xs : List V} {o : HO} (h : ThgL cs H vs ds) (e : H l = some (.lst xs)) (m : l ∈ cs) : ThgL cs (L2.upd H l o) vs ds := ⟨h.1, fun i y d e1 e2 => (h.2 i y d e1 e2).upd e m⟩
/-- an address that was free is none of the lists -/
theorem Thg.more {cs : List Addr} {H : Hp} {v : V} {d : PyData} {p : Addr} (h : Thg cs H v d) (n : H p = none) : Thg (p :: cs) H v d := by
  induction h with
  | non => exact .non
  | bl b => exact .bl b
  | int i => exact .int i
  | str x => exact .str x
  | lst e m l _ ih =>
    refine .lst e (fun z => ?_) l ih
    rcases List.mem_cons.mp z with z | z
    · rw [z, n] at e
      cases e
    · exact m z
  | tup e l _ ih => exact .tup e l ih
theorem ThgL.more {cs : List Addr} {H : Hp} {xs : List V} {ds : List PyData} {p : Addr} (h : ThgL cs H xs ds) (n : H p = none) : ThgL (p :: cs) H xs ds := ⟨h.1, fun i y d e1 e2 => (h.2 i y d e1 e2).more n⟩
theorem ThgL.lst {cs : List Addr} {H : Hp} {xs : List V} {ds : List PyData} {a : Addr} (h : ThgL cs H xs ds) (e : H a = some (.lst xs)) (n : a ∉ cs) : Thg cs H (.ref a) (.list ds) := .lst e n h.1 h.2
theorem ThgL.tup {cs : List Addr} {H : Hp} {xs : List V} {ds : List PyData} {a : Addr} (h : ThgL cs H xs ds) (e : H a = some (.tup xs)) : Thg cs H (.ref a) (.tuple ds) := .tup e h.1 h.2
theorem Thg.list {cs : List Addr} {H : Hp} {v : V} {ds : List PyData} (h : Thg cs H v (.list ds)) : ∃ a xs, v = .ref a ∧ H a = some (.lst xs) ∧ a ∉ cs ∧ ThgL cs H xs ds := by
  cases h with
  | lst e n l k => exact ⟨_, _, rfl, e, n, l, k⟩
theorem Thg.tuple {cs : List Addr} {H : Hp} {v : V} {ds : List PyData} (h : Thg cs H v (.tuple ds)) : ∃ a xs, v = .ref a ∧ H a = some (.tup xs) ∧ ThgL cs H xs ds := by
  cases h with
  | tup e l k => exact ⟨_, _, rfl, e, l, k⟩
theorem ThgL.inv {cs : List Addr} {H : Hp} {xs : List V} {d : PyData} {ds : List PyData} (h : ThgL cs H xs (d :: ds)) : ∃ x ys, xs = x :: ys ∧ Thg cs H x d ∧ ThgL cs H ys ds := by
  cases xs with
  | nil => exact nomatch h.1
  | cons x xs => exact ⟨x, xs, rfl, h.2 0 x d rfl rfl, Nat.succ.inj h.1, fun i y e e1 e2 => h.2 (i + 1) y e e1 e2⟩
theorem ThgL.inv0 {cs : List Addr} {H : Hp} {xs : List V} (h : ThgL cs H xs []) : xs = [] := List.eq_nil_of_length_eq_zero h.1
theorem ThgL.at {cs : List Addr} {H : Hp} {xs : List V} {ds : List PyData} {i : Nat} {x : V} (h : ThgL cs H xs ds) (e : xs[i]? = some x) : ∃ d, ds[i]? = some d ∧ Thg cs H x d := by
  have hi : i < ds.length := by rw [← h.1]; exact (List.getElem?_eq_some_iff.mp e).1
  exact ⟨_, List.getElem?_eq_getElem hi, h.2 i x _ e (List.getElem?_eq_getElem hi)⟩
theorem ThgL.atM {α : Type} {f : α → PyData} {cs : List Addr} {H : Hp} {xs : List V} {ys : List α} {i : Nat} {x : V} (h : ThgL cs H xs (ys.map f)) (e : xs[i]? = some x) : ∃ y, ys[i]? = some y ∧ Thg cs H x (f y) := by
  obtain ⟨d, e1, e2⟩ := h.at e
  rw [List.getElem?_map] at e1
  cases h : ys[i]? with
  | none => rw [h] at e1; cases e1
  | some y => rw [h] at e1; cases e1; exact ⟨y, rfl, e2⟩
theorem ThgL.at' {α : Type} {f : α → PyData} {cs : List Addr} {H : Hp} {xs : List V} {ys : List α} {i : Nat} {y : α} (h : ThgL cs H xs (ys.map f)) (e : ys[i]? = some y) : ∃ x, xs[i]? = some x ∧ Thg cs H x (f y) := by
  have hi : i < xs.length := by rw [h.1, List.length_map]; exact (List.getElem?_eq_some_iff.mp e).1
  exact ⟨_, List.getElem?_eq_getElem hi, h.2 i _ _ (List.getElem?_eq_getElem hi) (by rw [List.getElem?_map, e]; rfl)⟩
theorem Thg.inv_int {cs : List Addr} {H : Hp} {v : V} {i : Int} (h : Thg cs H v (.int i)) : v = .int i := by cases h; rfl
theorem Thg.inv_str {cs : List Addr} {H : Hp} {v : V} {x : Str} (h : Thg cs H v (.str x)) : v = .str x := by cases h; rfl
theorem Thg.inv_non {cs : List Addr} {H : Hp} {v : V} (h : Thg cs H v .none) : v = .non := by cases h; rfl
theorem Thg.inv_bl {cs : List Addr} {H : Hp} {v : V} {b : Bool} (h : Thg cs H v (.bool b)) : v = .bl b := by cases h; rfl
theorem thg_strs {cs : List Addr} {H : Hp} {ns : List Str} : ThgL cs H (ns.map V.str) (ns.map PyData.str) := ⟨by rw [List.length_map, List.length_map], fun i x d e1 e2 => by
  rw [List.getElem?_map] at e1 e2
  cases h : ns[i]? with
  | none => rw [h] at e1; cases e1
  | some n => rw [h] at e1 e2; cases e1; cases e2; exact .str n⟩
theorem ThgL.strs {cs : List Addr} {H : Hp} : ∀ {xs : List V} {ns : List Str}, ThgL cs H xs (ns.map PyData.str) → xs = ns.map V.str
  | _, [], h => h.inv0
  | _, n :: r, h => by
    obtain ⟨x, ys, rfl, h1, h2⟩ := ThgL.inv h
    rw [h1.inv_str, ThgL.strs h2]
    rfl
theorem ThgL.ints {cs : List Addr} {H : Hp} : ∀ {xs : List V} {ns : List Int}, ThgL cs H xs (ns.map PyData.int) → xs = ns.map V.int
  | _, [], h => h.inv0
  | _, n :: r, h => by
    obtain ⟨x, ys, rfl, h1, h2⟩ := ThgL.inv h
    rw [h1.inv_int, ThgL.ints h2]
    rfl
theorem thg_pair {cs : List Addr} {H : Hp} {a : Addr} {p : Int × Int} (e : H a = some (.tup [.int p.1, .int p.2])) : Thg cs H (.ref a) (pairD p) := ThgL.tup ((ThgL.one (.int _)).append (.one (.int _))) e
theorem Thg.pair {cs : List Addr} {H : Hp} {v : V} {p : Int × Int} (h : Thg cs H v (pairD p)) : ∃ a, v = .ref a ∧ H a = some (.tup [.int p.1, .int p.2]) := by
  obtain ⟨a, xs, rfl, e, h1⟩ := h.tuple
  obtain ⟨x, ys, rfl, h2, h3⟩ := h1.inv
  obtain ⟨y, zs, rfl, h4, h5⟩ := h3.inv
  rw [h5.inv0, h2.inv_int, h4.inv_int] at e
  exact ⟨a, rfl, e⟩
theorem ThgL.prs {cs : List Addr} {H : Hp} {us : List V} {ps : List (Int × Int)} (h : ThgL cs H us (ps.map pairD)) : Prs H us ps := ⟨by have := h.1; rwa [List.length_map] at this, fun i p ep => by
  obtain ⟨x, e1, e2⟩ := h.at' ep
  obtain ⟨a, rfl, e⟩ := e2.pair
  exact ⟨a, e1, e⟩⟩
theorem prs_thg {cs : List Addr} {H : Hp} {us : List V} {ps : List (Int × Int)} (h : Prs H us ps) : ThgL cs H us (ps.map pairD) := ⟨by rw [List.length_map]; exact h.1, fun i x d e1 e2 => by
  obtain ⟨p, a, ep, rfl, ea⟩ := prs_at h e1
  rw [List.getElem?_map, ep] at e2
  cases e2
  exact thg_pair ea⟩

/-! ### cells, a box, what is drawn of it -/
theorem mul01 (i : Int) (b : Bool) : CMul i (if b = true then 1 else 0) := .inr (by cases b <;> exact ⟨by decide, by decide⟩)
theorem cells_ne {ns : List Int} : PyData.eqv (PyData.list (ns.map PyData.int)) (PyData.list []) = ns.isEmpty := by
  cases ns with
  | nil => simp [PyData.eqv, PyData.eqvAll]
  | cons n r => simp [PyData.eqv, PyData.eqvAll]
def spCells (K : PySem.W.Frag) : Sp := fun vs H Q _ => ∃ (a : Addr) (ns : List Int) (m : Int), vs = [.ref a, .int m] ∧ SqL K H a (ns.map V.int) ∧ ns.length ≤ 63 ∧ 1 ≤ m ∧ m ≤ 60 ∧
  ∀ (l : Addr) (cs : List Int) H', Same H H' → H l = none → H' l = some (.lst (cs.map V.int)) → cs ≠ [] → cs.length ≤ 63 → Q (.ref l) H'
abbrev sCells : Stmt := topS 29
theorem scCells : FnScope ["_law_script", "_law_many", "_law_cells_here", "_law_k", "_law_cell"] ["_law_script", "_law_many"] (defScope sCells) := ⟨rfl, rfl, rfl, by decide +kernel, rfl, by decide +kernel, by decide +kernel⟩
section
variable {K : PySem.W.Frag} {mg : Str → Option Value} {P : Program} {w : World} {base : Heap}
theorem ok_Cells {f : Addr} {fd : FuncData} (F : Fun K "_law_cells" "_law_cells" sCells f fd) (m_list : mg "list" = none) (m_enumerate : mg "enumerate" = none) : FnOk P w K mg base CX0 1 f fd ["_law_script", "_law_many"] (spCells K) := by
  refine F.ok scCells (fun vs H Q E h => ?_) (fun cdv A outer s H vs Q E hr h => ?_)
  · obtain ⟨a, ns, m, rfl, _⟩ := h
    rfl
  · obtain ⟨a, ns, m, rfl, hS, hl, hm0, hm1, q⟩ := h
    refine ⟨_, pss_cons (ps_set (i := 2) scCells.nd rfl (.inl rfl) (pe_callTy call_list_of (by rfl) m_list (by decide +kernel) (pa_cons (pe_slice sl_list (pv 0) po_none (po_some (pv 1))) pa_nil)))
      (pss_cons (ps_for PassesOwn.never rfl (pi_enum (by rfl) m_enumerate (pa_cons (pe_slice sl_list (pv 0) (po_some (pv 1)) (po_some pe_int)) pa_nil)) (pg_tup rfl (pgs_cons (pg_name (i := 3) scCells.nd rfl (.inl rfl)) (pgs_cons (pg_name (i := 4) scCells.nd rfl (.inl rfl)) pgs_nil)))
        (pss_one (ps_asg (pe_op op_add (pe_ix ix_list (pv 2) (pe_op op_mod (pv 3) (pv 1)) (fun _ _ => rfl)) (pe_op op_mul (pv 4) (pe_op op_add (pv 3) pe_int))) (pg_sub (pv 2) (pe_op op_mod (pv 3) (pv 1)) set_list))))
      (pss_one (ps_ret (pe_ifExp (pt_cmpR (op_neD hr.units) (pv 2) (pe_lst pa_nil) (nomark _)) (pv 2) (pe_lst (pa_cons pe_int pa_nil)))))), ?_⟩
    obtain ⟨mn, rfl⟩ := Int.eq_ofNat_of_zero_le (show 0 ≤ m by omega)
    refine ⟨.ref a, rfl, _, rfl, (mn : Int), rfl, a, ns.map V.int, rfl, hS, fun p np => ?_⟩
    rw [cut_front, ← List.map_take]
    have s1 := same_upd (o := .lst ((ns.take mn).map V.int)) np
    refine ⟨p, _, rfl, .inl (SqL.of upd_same), fun l nl => ?_⟩
    have s2 := same_upd (o := .lst ((ns.take mn).map V.int)) nl
    refine ⟨.ref a, rfl, _, rfl, (mn : Int), rfl, 63, rfl, a, ns.map V.int, rfl, (s1.trans s2).seq hS, fun r nr => ?_⟩
    generalize hws : cutV (ns.map V.int) (some (mn : Int)) (some 63) = ws
    have hwe : ∃ ms : List Int, ws = ms.map V.int ∧ ms.length ≤ 63 ∧ (ms ≠ [] → mn ≤ ns.length) := by
      rw [← hws]
      unfold cutV
      rw [← List.map_drop, ← List.map_take]
      refine ⟨_, rfl, ?_, fun z => ?_⟩
      · rw [List.length_take, List.length_drop]
        omega
      · by_cases c : mn ≤ ns.length
        · exact c
        · exfalso
          refine z ?_
          rw [HT.sIx_nat, List.length_map, Nat.min_eq_right (by omega), List.drop_length, List.take_nil]
    obtain ⟨ms, rfl, hms, hmn⟩ := hwe
    have s3 := same_upd (o := .lst (ms.map V.int)) nr
    have s0 := (s1.trans s2).trans s3
    have nlr : l ≠ r := ne_of_none upd_same nr
    have elH := s3 _ _ (upd_same (H := upd H p (.lst ((ns.take mn).map V.int))) (a := l) (o := .lst ((ns.take mn).map V.int)))
    have nl0 : H l = none := s1.free nl
    refine ⟨r, _, rfl, SqL.of upd_same, for_it (walk_enum (xs := ms.map V.int)) (fun i σ Hx => ∃ (cs : List Int) (y3 y4 : Option V), σ = [some (.ref a), some (.int mn), some (.ref l), y3, y4] ∧ Hx l = some (.lst (cs.map V.int)) ∧ cs.length = (ns.take mn).length ∧ ∀ b o, b ≠ l → upd (upd (upd H p (.lst ((ns.take mn).map V.int))) l (.lst ((ns.take mn).map V.int))) r (.lst (ms.map V.int)) b = some o → Hx b = some o) ⟨_, _, _, rfl, elH, rfl, fun _ _ _ e => e⟩ (fun i σ Hx _ hP => ?_) (fun i x σ Hx H' hi hP hy => ?_) (fun σ Hx hP => ?_)⟩
    · obtain ⟨cs, y3, y4, rfl, e, _, k⟩ := hP
      exact SqL.of (k r _ nlr.symm upd_same)
    · obtain ⟨cs, y3, y4, rfl, e, hcl, k⟩ := hP
      obtain ⟨T, x1, x2, rfl, nT, rfl, f1, f2⟩ := hy
      have sT := same_upd (o := .tup [x1, x2]) nT
      cases f1
      have f2 : (ms.map V.int)[i]? = some x2 := f2
      have him : i < ms.length := by rw [List.length_map] at hi; exact hi
      rw [List.getElem?_map, List.getElem?_eq_getElem him] at f2
      cases f2
      have hne : ms ≠ [] := fun z => by rw [z] at hi; exact absurd hi (Nat.not_lt_zero _)
      have h1 := hmn hne
      have hcl' : cs.length = mn := by rw [hcl, List.length_take]; omega
      have hi63 : i < 63 := by rw [List.length_map] at hi; omega
      have j0 := Int.emod_nonneg (i : Int) (show (mn : Int) ≠ 0 by omega)
      have j1 := Int.emod_lt_of_pos (i : Int) (show 0 < (mn : Int) by omega)
      obtain ⟨j, hj⟩ := Int.eq_ofNat_of_zero_le j0
      have jl : j < cs.length := by omega
      have eT := sT _ _ e
      have ixj : ixN (cs.map V.int).length (j : Int) = some j := ixN_of (by rw [List.length_map]; exact jl)
      refine ⟨T, _, rfl, .inl (.inl upd_same), rfl, _, _, rfl, _, _, rfl, rfl, _, rfl, _, rfl, _, rfl, _, _, rfl, rfl, (show 0 < (mn : Int) by omega), l, _, _, .int cs[j], rfl, rfl, SqL.of eT, ?_, _, rfl, _, rfl, _, _, rfl, rfl, _, _, rfl, rfl, .inr ⟨by omega, by omega⟩, _, _, rfl, rfl, ?_⟩
      · rw [hj]
        exact atI_nat (by rw [List.getElem?_map, List.getElem?_eq_getElem jl]; rfl)
      refine ⟨_, rfl, _, rfl, _, rfl, _, _, rfl, rfl, (show 0 < (mn : Int) by omega), l, _, _, j, rfl, rfl, eT, by rw [hj]; exact ixj, ?_⟩
      refine ⟨_, _, _, rfl, by rw [upd_same, ← List.map_set], by rw [List.length_set]; exact hcl, fun b o nb eb => ?_⟩
      rw [upd_ne nb]
      exact sT _ _ (k b o nb eb)
    · obtain ⟨cs, y3, y4, rfl, e, hcl, k⟩ := hP
      refine ⟨.ref l, rfl, Nat.zero_le _, fun z nz => ?_⟩
      have sz := same_upd (o := .lst []) nz
      refine ⟨_, _, .lst (SqL.of (sz _ _ e)) (dp_ints cs), .lst (SqL.of upd_same) .nil, shaped_ints cs, shaped_ints [], ?_⟩
      have kk : Same H (upd Hx z (.lst [])) := fun b o eb => sz _ _ (k b o (ne_of_none eb nl0) (s0 _ _ eb))
      rw [cells_ne]
      cases cs with
      | nil =>
        refine ⟨_, rfl, iteF ⟨by decide, fun y ny => ?_⟩⟩
        exact q y [0] _ (kk.trans (same_upd ny)) (kk.free ny) upd_same (by simp) (by decide)
      | cons c0 r0 =>
        refine ⟨_, rfl, iteT ⟨_, rfl, ?_⟩⟩
        exact q l (c0 :: r0) _ kk nl0 (sz _ _ e) (by simp) (by rw [hcl, List.length_take]; omega)
end
def spBox : Sp := fun vs H Q _ => ∃ (a : Addr) (ns : List Int) (k : Int), vs = [.ref a, .int k] ∧ H a = some (.lst (ns.map V.int)) ∧ 0 ≤ k ∧ k < 63 ∧ ∀ b H', Same H H' → H b = none → Bx b H' 0 → Q (.ref b) H'
abbrev sBox : Stmt := topS 30
theorem scBox : FnScope ["_law_script", "_law_k", "_law_cell"] ["_law_script", "_law_k"] (defScope sBox) := ⟨rfl, rfl, rfl, by decide +kernel, rfl, by decide +kernel, by decide +kernel⟩
section
variable {K : PySem.W.Frag} {mg : Str → Option Value} {P : Program} {w : World} {base : Heap}
theorem ok_Box {f : Addr} {fd : FuncData} (F : Fun K "_law_box" "_law_box" sBox f fd) (m_len : mg "len" = none) (m_abs : mg "abs" = none) (m_int : mg "int" = none) : FnOk P w K mg base CX0 1 f fd ["_law_script", "_law_k"] spBox := by
  refine F.ok scBox (fun vs H Q E h => ?_) (fun cdv A outer s H vs Q E hr h => ?_)
  · obtain ⟨a, ns, k, rfl, _⟩ := h
    rfl
  · obtain ⟨a, ns, k, rfl, hS, hk0, hk1, q⟩ := h
    refine ⟨_, pss_cons (ps_set (i := 2) scBox.nd rfl (.inl rfl) (pe_ifExp (pt_cmpR op_lt (pv 1) (pe_callB call_len_seq (by rfl) m_len PySem.boot_len (pa_cons (pv 0) pa_nil)) (nomark _)) (pe_ix ix_list (pv 0) (pv 1) (fun _ _ => rfl)) pe_int))
      (pss_one (ps_ret (pe_lst (pa_cons (pe_op op_mul (pe_callB call_abs (by rfl) m_abs (by decide +kernel) (pa_cons (pv 2) pa_nil)) (pe_callTy call_int1 (by rfl) m_int (by decide +kernel) (pa_cons (pe_cmpR op_ge (pe_callB call_abs (by rfl) m_abs (by decide +kernel) (pa_cons (pv 2) pa_nil)) (pe_op op_pow pe_int pe_int) (nomark _)) pa_nil))) (pa_cons (pe_op op_add (pe_op op_add (pe_op op_mod (pv 2) pe_int) (pe_op op_mul pe_int (pv 1))) pe_int) (pa_cons pe_int pa_nil)))))), ?_⟩
    obtain ⟨kn, rfl⟩ := Int.eq_ofNat_of_zero_le hk0
    have fin : ∀ x : Int, (tRet (tLst (tCons (tOp (rI CMul fun i j => .int (i * j)) (tCB (fun xs H Q => ∃ i, xs = [V.int i] ∧ Q (V.int (if i < 0 then -i else i)) H) (tCons (tVar 2) tNil)) (tCB (fun xs H Q => (∃ i, xs = [V.int i] ∧ Q (V.int i) H) ∨ ∃ k, xs = [V.bl k] ∧ Q (V.int (if k = true then 1 else 0)) H)
        (tCons (tOp (rI0 fun i j => V.bl (decide (j ≤ i))) (tCB (fun xs H Q => ∃ i, xs = [V.int i] ∧ Q (V.int (if i < 0 then -i else i)) H) (tCons (tVar 2) tNil)) (tOp (rI CPow fun i j => V.int (i ^ j.toNat)) (tC (V.int 10)) (tC (V.int 18)))) tNil)))
        (tCons (tOp (rI0 fun i j => V.int (i + j)) (tOp (rI0 fun i j => V.int (i + j)) (tOp (rI (fun _ j => 0 < j) fun i j => V.int (i % j)) (tVar 2) (tC (V.int 2305843009213693951))) (tOp (rI CMul fun i j => V.int (i * j)) (tC (V.int 1000003)) (tVar 1))) (tC (V.int 11))) (tCons (tC (V.int 0)) tNil))))) { nx := fun _ H' => Q .non H', rt := Q } [some (.ref a), some (.int (kn : Int)), some (.int x)] H := fun x => by
      have x0 := Int.emod_nonneg x (show (2305843009213693951 : Int) ≠ 0 by decide)
      have x1 := Int.emod_lt_of_pos x (show (0 : Int) < 2305843009213693951 by decide)
      refine ⟨_, rfl, _, rfl, _, rfl, _, rfl, 10, 18, rfl, rfl, ⟨by decide, by decide, by decide⟩, _, _, rfl, rfl, .inr ⟨_, rfl, _, _, rfl, rfl, mul01 _ _, ?_⟩⟩
      refine ⟨_, rfl, _, _, rfl, rfl, (show (0 : Int) < 2305843009213693951 by decide), _, rfl, _, _, rfl, rfl, .inl ⟨by decide, by decide⟩, _, _, rfl, rfl, _, _, rfl, rfl, (by show 3 ≤ sizeLine; decide), fun b nb => ?_⟩
      exact q b _ (same_upd nb) nb ⟨⟨_, _, upd_same, by omega, by omega⟩, Int.le_refl _⟩
    refine ⟨_, rfl, _, rfl, a, _, rfl, .inl (SqL.of hS), _, _, rfl, rfl, _, rfl, ite2 (fun c => ?_) (fun c => ?_)⟩
    · have lt : kn < ns.length := by have := of_decide_eq_true c; rw [List.length_map] at this; omega
      exact ⟨_, rfl, _, rfl, a, _, _, .int ns[kn], rfl, rfl, SqL.of hS, atI_nat (by rw [List.getElem?_map, List.getElem?_eq_getElem lt]; rfl), fin _⟩
    · exact fin 0
end
def spTakeB : Sp := fun vs H Q _ => ∃ (b : Addr) (t m : Int), vs = [.ref b, .int m] ∧ Bx b H t ∧ t < 2 ^ 40 ∧ 0 < m ∧ m.natAbs < 2 ^ 250 ∧
  ∀ r t' H', 0 ≤ r → r < m → t ≤ t' → t' ≤ t + 1 → Bx b H' t' → Kb b H H' → Q (.int r) H'
abbrev sTake : Stmt := topS 31
theorem scTake : FnScope ["_law_box_here", "_law_many", "_law_found", "_law_once", "_law_twice"] ["_law_box_here", "_law_many"] (defScope sTake) := ⟨rfl, rfl, rfl, by decide +kernel, rfl, by decide +kernel, by decide +kernel⟩
section
variable {K : PySem.W.Frag} {mg : Str → Option Value} {P : Program} {w : World} {base : Heap}
theorem ok_Take {f : Addr} {fd : FuncData} (F : Fun K "_law_take" "_law_take" sTake f fd) (m_divmod : mg "divmod" = none) : FnOk P w K mg base CX0 1 f fd ["_law_box_here", "_law_many"] spTakeB := by
  refine F.ok scTake (fun vs H Q E h => ?_) (fun cdv A outer s H vs Q E hr h => ?_)
  · obtain ⟨b, t, m, rfl, _⟩ := h
    rfl
  · obtain ⟨b, t, m, rfl, hS, ht, hm, hm2, q⟩ := h
    refine ⟨_, pss_cons (ps_if (pt_cmpR op_gt (pe_ix ix_list (pv 0) pe_int (fun _ _ => rfl)) pe_int (nomark _)) (pss_cons (ps_asg (pe_callB call_divmodW (by rfl) m_divmod (by decide +kernel) (pa_cons (pe_ix ix_list (pv 0) pe_int (fun _ _ => rfl)) (pa_cons (pv 1) pa_nil))) (pg_tup rfl (pgs_cons (pg_sub (pv 0) pe_int set_list) (pgs_cons (pg_name (i := 2) scTake.nd rfl (.inl rfl)) pgs_nil))))
        (pss_one (ps_ret (pv 2))))
        pss_nil)
      (pss_cons (ps_asg (pe_op op_add (pe_ix ix_list (pv 0) pe_int (fun _ _ => rfl)) pe_int) (pg_sub (pv 0) pe_int set_list))
      (pss_cons (ps_set (i := 3) scTake.nd rfl (.inl rfl) (pe_op op_mod (pe_op op_pow (pe_op op_add (pe_ix ix_list (pv 0) pe_int (fun _ _ => rfl)) (pe_op op_mul pe_int (pe_ix ix_list (pv 0) pe_int (fun _ _ => rfl)))) pe_int) pe_int))
      (pss_cons (ps_set (i := 4) scTake.nd rfl (.inl rfl) (pe_op op_mod (pe_op op_mul (pe_op op_add (pv 3) (pe_ix ix_list (pv 0) pe_int (fun _ _ => rfl))) (pe_op op_add (pe_op op_add (pe_op op_mod (pv 3) pe_int) pe_int) (pe_ix ix_list (pv 0) pe_int (fun _ _ => rfl)))) pe_int))
      (pss_one (ps_ret (pe_op op_mod (pe_op op_fdivW (pe_op op_mod (pe_op op_add (pe_op op_mul (pv 4) pe_int) (pv 3)) pe_int) pe_int) (pv 1))))))), ?_⟩
    obtain ⟨⟨n0, n1, e, h0, h1⟩, hp⟩ := hS
    have atk : ∀ (j : Nat) (x : V) {H' : Hp} {xs : List V}, H' b = some (.lst xs) → xs[j]? = some x → ∃ (p : Addr) (ys : List V) (i : Int) (v : V), V.ref b = .ref p ∧ V.int (j : Int) = .int i ∧ SqL K H' p ys ∧ atI ys i = some v ∧ v = x := fun j x H' xs e1 e2 => ⟨b, xs, j, x, rfl, rfl, SqL.of e1, atI_nat e2, rfl⟩
    refine ⟨_, rfl, b, _, 0, _, rfl, rfl, SqL.of e, atI_nat (j := 0) rfl, n0, 0, rfl, rfl, _, rfl, ite2 (fun c => ?_) (fun c => ?_)⟩
    · have hdp : CDivP n0 m := ⟨hm, PyProof.noPylong_of_log2 (Nat.lt_trans (PySem.Flt.log2_lt_of (by decide) hm2) (by decide))⟩
      refine ⟨_, rfl, b, _, 0, _, rfl, rfl, SqL.of e, atI_nat (j := 0) rfl, _, rfl, n0, m, rfl, hdp, fun p np => ?_⟩
      have sp := same_upd (o := .tup [.int (n0 / m), .int (n0 % m)]) np
      refine ⟨p, _, rfl, .inl (.inl upd_same), rfl, _, _, rfl, _, rfl, b, _, 0, 0, rfl, rfl, sp _ _ e, rfl, _, _, rfl, rfl, ?_⟩
      refine ⟨_, rfl, q _ t _ (Int.emod_nonneg _ (by omega)) (Int.emod_lt_of_pos _ hm) (Int.le_refl _) (by omega) ⟨⟨_, n1, upd_same, h0, h1⟩, hp⟩ (fun a o na ea => ?_)⟩
      rw [upd_ne na]
      exact sp _ _ ea
    · refine ⟨_, rfl, b, _, 2, _, rfl, rfl, SqL.of e, atI_nat (j := 2) rfl, t, 1, rfl, rfl, _, rfl, b, _, 2, 2, rfl, rfl, e, rfl, ?_⟩
      generalize hH1 : upd H b (.lst ([V.int n0, .int n1, .int t].set 2 (.int (t + 1)))) = H1
      have e1 : H1 b = some (.lst [.int n0, .int n1, .int (t + 1)]) := by rw [← hH1]; exact upd_same
      have k1 : Kb b H H1 := fun a o na ea => by rw [← hH1, upd_ne na]; exact ea
      refine ⟨_, rfl, b, _, 1, _, rfl, rfl, SqL.of e1, atI_nat (j := 1) rfl, _, rfl, b, _, 2, _, rfl, rfl, SqL.of e1, atI_nat (j := 2) rfl, 39373, t + 1, rfl, rfl, .inl ⟨by decide, by decide⟩, n1, _, rfl, rfl, _, 3, rfl, rfl, ⟨by decide, by decide, by omega⟩, _, _, rfl, rfl, (show (0 : Int) < 2147483647 by decide), ?_⟩
      dsimp only
      generalize (n1 + 39373 * (t + 1)) ^ (3 : Int).toNat = y
      have y0 : 0 ≤ y % 2147483647 := Int.emod_nonneg _ (by decide)
      have y1 : y % 2147483647 < 2147483647 := Int.emod_lt_of_pos _ (by decide)
      generalize y % 2147483647 = o at y0 y1 ⊢
      have o0 : 0 ≤ o % 40009 := Int.emod_nonneg _ (by decide)
      have o1 : o % 40009 < 40009 := Int.emod_lt_of_pos _ (by decide)
      refine ⟨_, rfl, _, rfl, b, _, 2, _, rfl, rfl, SqL.of e1, atI_nat (j := 2) rfl, _, _, rfl, rfl, _, rfl, o, 40009, rfl, rfl, (show (0 : Int) < 40009 by decide), _, _, rfl, rfl, _, rfl, b, _, 2, _, rfl, rfl, SqL.of e1, atI_nat (j := 2) rfl, _, _, rfl, rfl, _, _, rfl, rfl, .inl ⟨by omega, by omega⟩, _, 2147483629, rfl, rfl, (show (0 : Int) < 2147483629 by decide), ?_⟩
      refine ⟨_, rfl, _, _, rfl, rfl, .inr ⟨by decide, by decide⟩, _, rfl, _, _, rfl, rfl, _, 2147483587, rfl, rfl, (show (0 : Int) < 2147483587 by decide), _, 32, rfl, rfl, ⟨by decide, by decide⟩, _, rfl, _, m, rfl, rfl, hm, ?_⟩
      exact q _ (t + 1) _ (Int.emod_nonneg _ (by omega)) (Int.emod_lt_of_pos _ hm) (by omega) (Int.le_refl _) ⟨⟨n0, n1, e1, h0, h1⟩, by omega⟩ k1
end

/-! ### comprehensions by draws -/
/-- each item makes something by draws -/
theorem lc_bx {α : Type} (f : α → PyData) (R : Nat → α → Prop) (T : Int) {J : It} {n : Nat} {G : Hp → Prop} {Y : Nat → Hp → V → Hp → Prop} (w : Walk J n G Y) {g : TG} {tt : TT} {te : TE} {vs : List Nat} {σ : L2.St} {H1 : Hp} {D b : Addr} {t1 : Int} {Qd : Hp → Prop} (cs : List Addr) (hb : b ∈ cs) (hcs : ∀ c ∈ cs, H1 c ≠ none) (S1 : Bx b H1 t1) (nD : H1 D = none) (hz : n ≤ 1000) (hG : ∀ H, Kb b H1 H → H D ≠ none → G H)
    (turn : ∀ i x H H' t (Kt : V → Hp → Prop) (Kn : Hp → Prop), i < n → t1 ≤ t → t ≤ t1 + T * (i : Int) → Bx b H t → Kb b H1 H → (∀ c ∈ D :: cs, H c ≠ none) → Y i H x H' → (∀ z y t' H4, R i z → Thg (D :: cs) H4 y (f z) → t ≤ t' → t' ≤ t + T → Bx b H4 t' → Kb b H H4 → Kt y H4) →
      g x (wipe σ vs) H' fun σ2 H2 => wipe σ2 vs = wipe σ vs ∧ tt σ2 H2 fun b H3 => if b = true then te σ2 H3 Kt else Kn H3)
    (fin : ∀ (H : Hp) (t : Int) (zs : List α), zs.length = n → (∀ (i : Nat) z, zs[i]? = some z → R i z) → t1 ≤ t → t ≤ t1 + T * (n : Int) → Bx b H t → Kb b H1 H → Thg cs H (.ref D) (.list (zs.map f)) → Qd H) : LcW J g tt te vs σ D Qd H1 := by
  have off := S1.off nD
  have nDc : D ∉ cs := fun z => hcs D z nD
  have old : ∀ {H : Hp} {ws : List V} {t : Int}, H D = some (.lst ws) → Kb b H1 H → Bx b H t → ∀ c ∈ D :: cs, H c ≠ none := fun {H ws t} eD k S c hc z => by
    rcases List.mem_cons.mp hc with e | e
    · rw [e, eD] at z
      cases z
    · cases e2 : H1 c with
      | none => exact hcs c e e2
      | some o =>
        by_cases cb : c = b
        · exact S.off z cb
        · rw [k c o cb e2] at z
          cases z
  refine lc_it w (fun j H => ∃ (t : Int) (ws : List V) (zs : List α), H D = some (.lst ws) ∧ ThgL (D :: cs) H ws (zs.map f) ∧ zs.length = j ∧ (∀ (i : Nat) z, zs[i]? = some z → R i z) ∧ t1 ≤ t ∧ t ≤ t1 + T * (j : Int) ∧ Bx b H t ∧ Kb b H1 H)
    ⟨t1, [], [], upd_same, ThgL.nil, rfl, (fun _ _ e => nomatch e), Int.le_refl _, by omega, S1.same (same_upd nD), Kb.same (same_upd nD)⟩ (fun i H _ hP => ?_) (fun i x H H' hi hP hy => ?_) (fun H hP => ?_)
  · obtain ⟨t, ws, zs, eD, _, _, _, _, _, _, k⟩ := hP
    exact hG H k (fun z => by rw [eD] at z; cases z)
  · obtain ⟨t, ws, zs, eD, hw, hzl, hR, u0, u1, S, k⟩ := hP
    refine turn i x H H' t _ _ hi u0 u1 S k (old eD k S) hy fun z y t' H4 hz' hy4 v0 v1 S4 k4 => ?_
    have eD4 := k4 _ _ off eD
    have hwl : ws.length = i := by rw [hw.1, List.length_map, hzl]
    refine ⟨ws, eD4, Nat.lt_of_lt_of_le (show ws.length < 1000 by omega) (by decide), t', ws ++ [y], zs ++ [z], upd_same, ?_, by rw [List.length_append, hzl]; rfl, fun j z' e => ?_, by omega, ?_, S4.upd off, fun a o na e => ?_⟩
    · rw [List.map_append]
      exact ((hw.kb S k4 (by simp [hb])).upd eD4 (by simp)).append (ThgL.one (hy4.upd eD4 (by simp)))
    · by_cases hj : j < zs.length
      · rw [List.getElem?_append_left hj] at e
        exact hR j z' e
      · rw [List.getElem?_append_right (by omega)] at e
        have h0 : j - zs.length < 1 := (List.getElem?_eq_some_iff.mp e).1
        obtain rfl : j = zs.length := by omega
        rw [Nat.sub_self] at e
        cases e
        rw [hzl]
        exact hz'
    · have e : T * ((i + 1 : Nat) : Int) = T * (i : Int) + T := by rw [Int.natCast_succ, Int.mul_add, Int.mul_one]
      rw [e]
      omega
    · rw [upd_ne (ne_of_none e nD)]
      exact k4 _ _ na (k a o na e)
  · obtain ⟨t, ws, zs, eD, hw, hzl, hR, u0, u1, S, k⟩ := hP
    exact fin H t zs hzl hR u0 u1 S k ((hw.less (fun _ z => List.mem_cons_of_mem _ z)).lst eD nDc)
/-- some items are kept by draws -/
theorem lc_bxF {α : Type} (f : α → PyData) (R : α → Prop) (T : Int) {J : It} {n : Nat} {G : Hp → Prop} {Y : Nat → Hp → V → Hp → Prop} (w : Walk J n G Y) {g : TG} {tt : TT} {te : TE} {vs : List Nat} {σ : L2.St} {H1 : Hp} {D b : Addr} {t1 : Int} {Qd : Hp → Prop} (cs : List Addr) (hb : b ∈ cs) (hcs : ∀ c ∈ cs, H1 c ≠ none) (S1 : Bx b H1 t1) (nD : H1 D = none) (hz : n ≤ 1000) (hG : ∀ H, Kb b H1 H → H D ≠ none → G H)
    (turn : ∀ i x H H' t (Kt : V → Hp → Prop) (Kn : Hp → Prop), i < n → t1 ≤ t → t ≤ t1 + T * (i : Int) → Bx b H t → Kb b H1 H → (∀ c ∈ D :: cs, H c ≠ none) → Y i H x H' → (∀ z y t' H4, R z → Thg (D :: cs) H4 y (f z) → t ≤ t' → t' ≤ t + T → Bx b H4 t' → Kb b H H4 → Kt y H4) → (∀ t' H4, t ≤ t' → t' ≤ t + T → Bx b H4 t' → Kb b H H4 → Kn H4) →
      g x (wipe σ vs) H' fun σ2 H2 => wipe σ2 vs = wipe σ vs ∧ tt σ2 H2 fun b H3 => if b = true then te σ2 H3 Kt else Kn H3)
    (fin : ∀ (H : Hp) (t : Int) (zs : List α), zs.length ≤ n → (∀ z ∈ zs, R z) → t1 ≤ t → t ≤ t1 + T * (n : Int) → Bx b H t → Kb b H1 H → Thg cs H (.ref D) (.list (zs.map f)) → Qd H) : LcW J g tt te vs σ D Qd H1 := by
  have off := S1.off nD
  have nDc : D ∉ cs := fun z => hcs D z nD
  have old : ∀ {H : Hp} {ws : List V} {t : Int}, H D = some (.lst ws) → Kb b H1 H → Bx b H t → ∀ c ∈ D :: cs, H c ≠ none := fun {H ws t} eD k S c hc z => by
    rcases List.mem_cons.mp hc with e | e
    · rw [e, eD] at z
      cases z
    · cases e2 : H1 c with
      | none => exact hcs c e e2
      | some o =>
        by_cases cb : c = b
        · exact S.off z cb
        · rw [k c o cb e2] at z
          cases z
  refine lc_it w (fun j H => ∃ (t : Int) (ws : List V) (zs : List α), H D = some (.lst ws) ∧ ThgL (D :: cs) H ws (zs.map f) ∧ zs.length ≤ j ∧ (∀ z ∈ zs, R z) ∧ t1 ≤ t ∧ t ≤ t1 + T * (j : Int) ∧ Bx b H t ∧ Kb b H1 H)
    ⟨t1, [], [], upd_same, ThgL.nil, Nat.le_refl _, (fun _ e => nomatch e), Int.le_refl _, by omega, S1.same (same_upd nD), Kb.same (same_upd nD)⟩ (fun i H _ hP => ?_) (fun i x H H' hi hP hy => ?_) (fun H hP => ?_)
  · obtain ⟨t, ws, zs, eD, _, _, _, _, _, _, k⟩ := hP
    exact hG H k (fun z => by rw [eD] at z; cases z)
  · obtain ⟨t, ws, zs, eD, hw, hzl, hR, u0, u1, S, k⟩ := hP
    have e : T * ((i + 1 : Nat) : Int) = T * (i : Int) + T := by rw [Int.natCast_succ, Int.mul_add, Int.mul_one]
    refine turn i x H H' t _ _ hi u0 u1 S k (old eD k S) hy (fun z y t' H4 hz' hy4 v0 v1 S4 k4 => ?_) (fun t' H4 v0 v1 S4 k4 => ?_)
    · have eD4 := k4 _ _ off eD
      have hwl : ws.length ≤ i := by rw [hw.1, List.length_map]; exact hzl
      refine ⟨ws, eD4, Nat.lt_of_lt_of_le (show ws.length < 1000 by omega) (by decide), t', ws ++ [y], zs ++ [z], upd_same, ?_, by rw [List.length_append]; show zs.length + 1 ≤ i + 1; omega, fun z' e => ?_, by omega, by rw [e]; omega, S4.upd off, fun a o na e => ?_⟩
      · rw [List.map_append]
        exact ((hw.kb S k4 (by simp [hb])).upd eD4 (by simp)).append (ThgL.one (hy4.upd eD4 (by simp)))
      · rcases List.mem_append.mp e with e | e
        · exact hR z' e
        · rw [List.mem_singleton.mp e]
          exact hz'
      · rw [upd_ne (ne_of_none e nD)]
        exact k4 _ _ na (k a o na e)
    · exact ⟨t', ws, zs, k4 _ _ off eD, hw.kb S k4 (by simp [hb]), by omega, hR, by omega, by rw [e]; omega, S4, fun a o na e => k4 _ _ na (k a o na e)⟩
  · obtain ⟨t, ws, zs, eD, hw, hzl, hR, u0, u1, S, k⟩ := hP
    exact fin H t zs hzl hR u0 u1 S k ((hw.less (fun _ z => List.mem_cons_of_mem _ z)).lst eD nDc)
/-! ### unlike words in a drawn order -/
def az26 : Str := "abcdefghijklmnopqrstuvwxyz"
def az36 : Str := "abcdefghijklmnopqrstuvwxyz0123456789"
theorem az26_len : az26.cps.toList.length = 26 := by decide +kernel
theorem az26_ok : okT az26.cps.toList := okT_of (by decide +kernel)
theorem az36_len : az36.cps.toList.length = 36 := by decide +kernel
theorem az36_ok : okT az36.cps.toList := okT_of (by decide +kernel)
theorem az36_nodup : az36.cps.toList.Nodup := by decide +kernel
/-- a text of drawn signs -/
theorem join_drawn {b : Addr} {H3 : Hp} {D : Addr} {cs : List Nat} (hD : Thg [b] H3 (.ref D) (.list (cs.map fun c => PyData.str (sgS c)))) : H3 D = some (.lst ((cs.map sgS).map V.str)) := by
  obtain ⟨_, ws, e, eD, _, hws⟩ := hD.list
  cases e
  have e2 : ws = (cs.map sgS).map V.str := ThgL.strs (ns := cs.map sgS) (by rw [List.map_map]; exact hws)
  rw [eD, e2]
def spNames3 : Sp := fun vs H Q _ => ∃ (b : Addr) (t m : Int), vs = [.ref b, .int m] ∧ Bx b H t ∧ t + 200 < 2 ^ 40 ∧ 0 ≤ m ∧ m ≤ 20 ∧
  ∀ (l : Addr) (xs : List Str) t' H', H l = none → H' l = some (.lst (xs.map V.str)) → (∀ x ∈ xs, TxS 20 x) → (xs.length : Int) = m → t ≤ t' → t' ≤ t + 60 → Bx b H' t' → Kb b H H' → Q (.ref l) H'
abbrev sNames : Stmt := topS 33
theorem scNames : FnScope ["_law_box_here", "_law_many", "_law_letters", "_law_found", "_law_k", "_law_rest", "_law_at", "_law_first", "_law_sign"] ["_law_box_here", "_law_many"] (defScope sNames) := ⟨rfl, rfl, rfl, by decide +kernel, rfl, by decide +kernel, by decide +kernel⟩
section
variable {K : PySem.W.Frag} {mg : Str → Option Value} {P : Program} {w : World} {base : Heap}
theorem ok_Names {f : Addr} {fd : FuncData} (F : Fun K "_law_names" "_law_names" sNames f fd) (C__law_take : Cal P w K mg base 1 "_law_take" ["_law_box_here", "_law_many"] spTakeB) (m_range : mg "range" = none) (m_len : mg "len" = none) : FnOk P w K mg base CX0 2 f fd ["_law_box_here", "_law_many"] spNames3 := by
  refine F.ok scNames (fun vs H Q E h => ?_) (fun cdv A outer s H vs Q E hr h => ?_)
  · obtain ⟨b, t, m, rfl, _⟩ := h
    rfl
  · obtain ⟨b, t, m, rfl, hS, ht, hm0, hm1, q⟩ := h
    refine ⟨_, pss_cons (ps_asg (pe_tup (pa_cons pe_str (pa_cons (pe_lst pa_nil) pa_nil))) (pg_tup rfl (pgs_cons (pg_name (i := 2) scNames.nd rfl (.inr rfl)) (pgs_cons (pg_name (i := 3) scNames.nd rfl (.inl rfl)) pgs_nil))))
      (pss_cons (ps_set (i := 5) scNames.nd rfl (.inl rfl) (pe_join pe_str (pe_lc (own := [("_law_k", 4)]) (g := (gName 4)) (tt := tYes) (te := (tOp (L2.rIxS) (tVar 2) (tCall spTakeB [] E0 (tCons (tVar 0) (tCons (tC (.int 26)) tNil))))) rfl scNames.nd (pi_range1 rfl m_range (pa_cons (pe_own C__law_take hr (by rfl) (pa_cons (pv 0) (pa_cons pe_int pa_nil))) pa_nil)) (blkOk_by (own := [("_law_k", 4)]) (N := ["_law_box_here", "_law_many", "_law_letters", "_law_found", "_law_k", "_law_rest", "_law_at", "_law_first", "_law_sign"]) (sc := defScope sNames) (by decide +kernel)) (fun _ _ _ _ _ => (pg_name (i := 4) scNames.nd rfl (.inl rfl))) (fun _ _ _ _ _ => pts_nil) (fun _ _ _ _ _ => (pe_ix ix_str (pv 2) (pe_own C__law_take hr (by rfl) (pa_cons (pv 0) (pa_cons pe_int pa_nil))) (fun _ _ => rfl))))))
      (pss_cons (ps_par rfl scNames.nd (i := 6) (j := 7) rfl rfl (by decide) rfl rfl (pa_cons (pe_own C__law_take hr (by rfl) (pa_cons (pv 0) (pa_cons (pe_op op_add (pe_callB call_len_str (by rfl) m_len PySem.boot_len (pa_cons (pv 5) pa_nil)) pe_int) pa_nil))) (pa_cons (pe_own C__law_take hr (by rfl) (pa_cons (pv 0) (pa_cons pe_int pa_nil))) pa_nil)) (by rfl))
      (pss_cons (ps_for PassesOwn.never rfl (pi_range1 rfl m_range (pa_cons (pv 1) pa_nil)) (pg_name (i := 4) scNames.nd rfl (.inl rfl))
        (pss_cons (ps_set (i := 8) scNames.nd rfl (.inl rfl) (pe_ix ix_str (pv 2) (pe_op op_mod (pe_op op_add (pv 7) (pe_op op_mulW pe_int (pv 4))) pe_int) (fun _ _ => rfl)))
        (pss_one (ps_expr (pe_bm PySem.F.plainAttrs_list PySem.F.slot_list_insert PySem.F.type_list_insert mt_insert (pv 3) (pa_cons (pe_own C__law_take hr (by rfl) (pa_cons (pv 0) (pa_cons (pe_op op_add (pv 4) pe_int) pa_nil))) (pa_cons (pe_ifExp (pt_cmpR op_eq (pe_op op_mod (pv 4) pe_int) pe_int (nomark _)) (pv 8) (pe_op op_add_str (pe_op op_add_str (pe_slice sl_str (pv 5) po_none (po_some (pv 6))) (pv 8)) (pe_slice sl_str (pv 5) (po_some (pv 6)) po_none))) pa_nil)))))))
      (pss_one (ps_ret (pv 3)))))), ?_⟩
    refine ⟨Nat.zero_le _, fun p np => ⟨(by show 2 ≤ sizeLine; decide), fun T nT => ⟨T, _, rfl, .inl (.inl upd_same), rfl, _, _, rfl, _, _, rfl, rfl, ?_⟩⟩⟩
    have sp := same_upd (o := .lst []) np
    have sT := same_upd (o := .tup [.str "abcdefghijklmnopqrstuvwxyz", .ref p]) nT
    have s0 := sp.trans sT
    have ep0 := sT _ _ (upd_same (H := H) (a := p) (o := .lst []))
    have offp := hS.off np
    have hS0 := hS.same s0
    revert ep0 hS0 s0
    generalize upd (upd H p (.lst [])) T (.tup [.str "abcdefghijklmnopqrstuvwxyz", .ref p]) = H0
    intro s0 ep0 hS0
    have k0 := Kb.same (b := b) s0
    refine ⟨⟨_, rfl⟩, _, rfl, b, t, 8, rfl, hS0, by omega, by decide, by decide, fun n t1 H1 n0 n1 u0 u1 hS1 k1 => ⟨n, rfl, by omega, by omega, fun D nD => ?_⟩⟩
    have ep1 := k1 _ _ offp ep0
    have k01 := k0.trans k1
    refine lc_bx (α := Nat) (fun ch => .str (sgS ch)) (fun _ ch => ch < 1114112) 1 (walk_range (lo := 0) (n := n.toNat)) [b] (by simp) (fun c hc => by rw [List.mem_singleton.mp hc]; exact hS1.ne) hS1 nD (by omega) (fun _ _ _ => trivial) (fun i x Hx Hx' t' Kt Kn hi v0 v1 hSx kx _ hy k => ?_) (fun H3 t3 cs hcl hcs v0 v1 hS3 k3 hD => ?_)
    · obtain ⟨rfl, rfl⟩ := hy
      refine ⟨rfl, _, rfl, _, rfl, b, t', 26, rfl, hSx, by omega, by decide, by decide, fun r2 t2 H4 r20 r21 w0 w1 hS4 k4 => ?_⟩
      obtain ⟨ch, e, hch⟩ := sgn_at az26_len az26_ok r20 r21
      exact ⟨_, r2, _, rfl, rfl, (by show az26.length ≤ sizeLine; decide +kernel), e, k ch _ _ H4 hch (.str _) (by omega) (by omega) hS4 k4⟩
    refine ⟨_, D, cs.map sgS, rfl, rfl, .inl (SqL.of (join_drawn hD)), join_fits (by omega), ?_⟩
    rw [join_signs]
    have hcs' : okT cs := fun ch hch => by
      obtain ⟨i, hi, e⟩ := List.getElem_of_mem hch
      exact hcs i ch (by rw [List.getElem?_eq_getElem hi, e])
    have hR : TxS 8 (SX.S cs) := .of (by omega) hcs'
    have ep3 := k3 _ _ offp ep1
    have k03 := k01.trans k3
    clear hD hcs k3 k1
    refine ⟨_, rfl, _, rfl, SX.S cs, rfl, S_le (by omega), _, 1, rfl, rfl, b, t3, _, rfl, hS3, by omega, by rw [SX.S_len]; omega, by rw [SX.S_len]; omega, fun a1 t4 H4 a10 a11 w0 w1 hS4 k4 => ?_⟩
    refine ⟨_, rfl, b, t4, 26, rfl, hS4, by omega, by decide, by decide, fun f1 t5 H5 f10 f11 w2 w3 hS5 k5 => ⟨_, _, rfl, ?_⟩⟩
    have ep5 := k5 _ _ offp (k4 _ _ offp ep3)
    have k05 := (k03.trans k4).trans k5
    obtain ⟨mn, rfl⟩ := Int.eq_ofNat_of_zero_le hm0
    refine ⟨_, rfl, (mn : Int), rfl, by omega, by omega, for_range (n := ((mn : Int)).toNat) (fun i σ Hx => ∃ (t' : Int) (xs : List Str) (y4 y8 : Option V), σ = [some (.ref b), some (.int (mn : Int)), some (.str az26), some (.ref p), y4, some (.str (SX.S cs)), some (.int a1), some (.int f1), y8] ∧ Hx p = some (.lst (xs.map V.str)) ∧ (∀ x ∈ xs, TxS 20 x) ∧ xs.length = i ∧ t5 ≤ t' ∧ t' ≤ t5 + (i : Int) ∧ Bx b Hx t' ∧ Kb b H Hx)
      ⟨t5, [], _, _, rfl, ep5, (fun _ z => nomatch z), rfl, by omega, by omega, hS5, k05⟩ (fun i σ Hx hi hP => ?_) (fun σ Hx hP => ?_)⟩
    · obtain ⟨t', xs, y4, y8, rfl, ep, hx, hxl, v2, v3, hSx, kx⟩ := hP
      have hi20 : (i : Int) < 20 := by omega
      have e0 := Int.emod_nonneg (f1 + 7 * (0 + (i : Int))) (show (26 : Int) ≠ 0 by decide)
      have e1 := Int.emod_lt_of_pos (f1 + 7 * (0 + (i : Int))) (show (0 : Int) < 26 by decide)
      obtain ⟨ch, e, hch⟩ := sgn_at az26_len az26_ok e0 e1
      have hC : TxS 1 (⟨#[ch]⟩ : Str) := TxS.sg hch
      refine ⟨_, rfl, _, rfl, _, rfl, _, _, rfl, rfl, mulw (by decide) (by omega), _, _, rfl, rfl, _, _, rfl, rfl, (show (0 : Int) < 26 by decide), _, _, _, rfl, rfl, (by show az26.length ≤ sizeLine; decide +kernel), e, ?_⟩
      refine ⟨_, rfl, .inl ⟨rfl, _, SqL.of ep⟩, _, rfl, _, rfl, _, _, rfl, rfl, b, t', _, rfl, hSx, by omega, by omega, by omega, fun r2 t2 H6 r20 r21 w4 w5 hS6 k6 => ?_⟩
      have ep6 := k6 _ _ offp ep
      have fin : ∀ z : Str, TxS 20 z → ∃ (l : Addr) (ys : List V) (i' : Int) (y : V), V.ref p = .ref l ∧ [V.int r2, .str z] = [.int i', y] ∧ H6 l = some (.lst ys) ∧ ys.length < sizeLine ∧ 0 ≤ i' ∧ i' < 2 ^ 63 ∧ (∃ (t' : Int) (xs : List Str) (y4 y8 : Option V), [some (V.ref b), some (.int (mn : Int)), some (.str az26), some (.ref p), some (.int (0 + (i : Int))), some (.str (SX.S cs)), some (.int a1), some (.int f1), some (.str (⟨#[ch]⟩ : Str))] = [some (.ref b), some (.int (mn : Int)), some (.str az26), some (.ref p), y4, some (.str (SX.S cs)), some (.int a1), some (.int f1), y8] ∧ upd H6 l (.lst (ys.take i'.toNat ++ [y] ++ ys.drop i'.toNat)) p = some (.lst (xs.map V.str)) ∧ (∀ x ∈ xs, TxS 20 x) ∧ xs.length = i + 1 ∧ t5 ≤ t' ∧ t' ≤ t5 + ((i + 1 : Nat) : Int) ∧ Bx b (upd H6 l (.lst (ys.take i'.toNat ++ [y] ++ ys.drop i'.toNat))) t' ∧ Kb b H (upd H6 l (.lst (ys.take i'.toNat ++ [y] ++ ys.drop i'.toNat)))) := fun z hz => by
        refine ⟨p, _, r2, _, rfl, rfl, ep6, small1000 (by rw [List.length_map]; omega), r20, by omega, t2, xs.take r2.toNat ++ [z] ++ xs.drop r2.toNat, _, _, rfl, ?_, fun x hx' => ?_, ?_, by omega, by omega, hS6.upd offp, fun a o na ea => ?_⟩
        · rw [upd_same, List.map_append, List.map_append, List.map_take, List.map_drop]
          rfl
        · rcases List.mem_append.mp hx' with y | y
          · rcases List.mem_append.mp y with y | y
            · exact hx x (List.mem_of_mem_take y)
            · rw [List.mem_singleton.mp y]; exact hz
          · exact hx x (List.mem_of_mem_drop y)
        · rw [List.length_append, List.length_append, List.length_take, List.length_drop, List.length_singleton]
          omega
        · rw [upd_ne (ne_of_none ea np)]
          exact k6 _ _ na (kx a o na ea)
      refine ⟨_, rfl, _, _, rfl, rfl, (show (0 : Int) < 3 by decide), rfl, _, rfl, ite2 (fun c1 => ?_) (fun c1 => ?_)⟩
      · exact ⟨_, rfl, fin _ (hC.mono (by decide))⟩
      · have hB8 := hR.fits (by decide)
        refine ⟨_, rfl, _, rfl, a1, rfl, SX.S cs, rfl, hB8, _, rfl, _, _, rfl, rfl, (hR.cut _ _).fit hC (by decide), _, rfl, _, rfl, a1, rfl, SX.S cs, rfl, hB8, _, _, rfl, rfl, ((hR.cut _ _).cat hC).fit (hR.cut _ _) (by decide), ?_⟩
        exact fin _ ((((hR.cut _ _).cat hC).cat (hR.cut _ _)).mono (by decide))
    · obtain ⟨t', xs, y4, y8, rfl, ep, hx, hxl, v2, v3, hSx, kx⟩ := hP
      exact ⟨_, rfl, q p xs t' Hx np ep hx (by rw [hxl]; omega) (by omega) (by omega) hSx kx⟩
end
/-- the mark of a turn -/
def wordF (r1 r2 : List Nat) (f : Int) (i : Nat) : Str := SX.S (r1 ++ [az36.cps.toList.getD ((f + 7 * (i : Int)) % 36).toNat 0] ++ r2)
theorem word_inj {r1 r2 : List Nat} {f : Int} {i j : Nat} (hi : i < 36) (hj : j < 36) (h : wordF r1 r2 f i = wordF r1 r2 f j) : i = j := by
  have h := SX.S_inj h
  rw [List.append_assoc, List.append_assoc] at h
  have h := List.append_cancel_left h
  have h : az36.cps.toList.getD ((f + 7 * (i : Int)) % 36).toNat 0 = az36.cps.toList.getD ((f + 7 * (j : Int)) % 36).toNat 0 := by
    have := (List.cons.inj h).1
    exact this
  have a0 := Int.emod_nonneg (f + 7 * (i : Int)) (show (36 : Int) ≠ 0 by decide)
  have a1 := Int.emod_lt_of_pos (f + 7 * (i : Int)) (show (0 : Int) < 36 by decide)
  have b0 := Int.emod_nonneg (f + 7 * (j : Int)) (show (36 : Int) ≠ 0 by decide)
  have b1 := Int.emod_lt_of_pos (f + 7 * (j : Int)) (show (0 : Int) < 36 by decide)
  have la : ((f + 7 * (i : Int)) % 36).toNat < az36.cps.toList.length := by rw [az36_len]; omega
  have lb : ((f + 7 * (j : Int)) % 36).toNat < az36.cps.toList.length := by rw [az36_len]; omega
  rw [List.getD_eq_getElem?_getD, List.getD_eq_getElem?_getD, List.getElem?_eq_getElem la, List.getElem?_eq_getElem lb] at h
  have := (List.getElem_inj (h₀ := la) (h₁ := lb) az36_nodup).mp h
  omega
def spMarks3 : Sp := fun vs H Q _ => ∃ (b : Addr) (t m : Int), vs = [.ref b, .int m] ∧ Bx b H t ∧ t + 200 < 2 ^ 40 ∧ 0 ≤ m ∧ m ≤ 30 ∧
  ∀ (l : Addr) (xs : List Str) t' H', H l = none → H' l = some (.lst (xs.map V.str)) → (∀ x ∈ xs, TxS 20 x) → xs.Nodup → (xs.length : Int) = m → t ≤ t' → t' ≤ t + 60 → Bx b H' t' → Kb b H H' → Q (.ref l) H'
abbrev sMarks : Stmt := topS 34
theorem scMarks : FnScope ["_law_box_here", "_law_many", "_law_signs", "_law_found", "_law_k", "_law_rest", "_law_at", "_law_first"] ["_law_box_here", "_law_many"] (defScope sMarks) := ⟨rfl, rfl, rfl, by decide +kernel, rfl, by decide +kernel, by decide +kernel⟩
section
variable {K : PySem.W.Frag} {mg : Str → Option Value} {P : Program} {w : World} {base : Heap}
theorem ok_Marks {f : Addr} {fd : FuncData} (F : Fun K "_law_marks" "_law_marks" sMarks f fd) (C__law_take : Cal P w K mg base 1 "_law_take" ["_law_box_here", "_law_many"] spTakeB) (m_range : mg "range" = none) (m_len : mg "len" = none) : FnOk P w K mg base CX0 2 f fd ["_law_box_here", "_law_many"] spMarks3 := by
  refine F.ok scMarks (fun vs H Q E h => ?_) (fun cdv A outer s H vs Q E hr h => ?_)
  · obtain ⟨b, t, m, rfl, _⟩ := h
    rfl
  · obtain ⟨b, t, m, rfl, hS, ht, hm0, hm1, q⟩ := h
    refine ⟨_, pss_cons (ps_asg (pe_tup (pa_cons pe_str (pa_cons (pe_lst pa_nil) pa_nil))) (pg_tup rfl (pgs_cons (pg_name (i := 2) scMarks.nd rfl (.inr rfl)) (pgs_cons (pg_name (i := 3) scMarks.nd rfl (.inl rfl)) pgs_nil))))
      (pss_cons (ps_set (i := 5) scMarks.nd rfl (.inl rfl) (pe_join pe_str (pe_lc (own := [("_law_k", 4)]) (g := (gName 4)) (tt := tYes) (te := (tOp (L2.rIxS) (tVar 2) (tCall spTakeB [] E0 (tCons (tVar 0) (tCons (tC (.int 36)) tNil))))) rfl scMarks.nd (pi_range1 rfl m_range (pa_cons (pe_op op_add pe_int (pe_own C__law_take hr (by rfl) (pa_cons (pv 0) (pa_cons pe_int pa_nil)))) pa_nil)) (blkOk_by (own := [("_law_k", 4)]) (N := ["_law_box_here", "_law_many", "_law_signs", "_law_found", "_law_k", "_law_rest", "_law_at", "_law_first"]) (sc := defScope sMarks) (by decide +kernel)) (fun _ _ _ _ _ => (pg_name (i := 4) scMarks.nd rfl (.inl rfl))) (fun _ _ _ _ _ => pts_nil) (fun _ _ _ _ _ => (pe_ix ix_str (pv 2) (pe_own C__law_take hr (by rfl) (pa_cons (pv 0) (pa_cons pe_int pa_nil))) (fun _ _ => rfl))))))
      (pss_cons (ps_par rfl scMarks.nd (i := 6) (j := 7) rfl rfl (by decide) rfl rfl (pa_cons (pe_own C__law_take hr (by rfl) (pa_cons (pv 0) (pa_cons (pe_op op_add (pe_callB call_len_str (by rfl) m_len PySem.boot_len (pa_cons (pv 5) pa_nil)) pe_int) pa_nil))) (pa_cons (pe_own C__law_take hr (by rfl) (pa_cons (pv 0) (pa_cons pe_int pa_nil))) pa_nil)) (by rfl))
      (pss_cons (ps_for PassesOwn.never rfl (pi_range1 rfl m_range (pa_cons (pv 1) pa_nil)) (pg_name (i := 4) scMarks.nd rfl (.inl rfl))
        (pss_one (ps_expr (pe_bm PySem.F.plainAttrs_list PySem.F.slot_list_insert PySem.F.type_list_insert mt_insert (pv 3) (pa_cons (pe_own C__law_take hr (by rfl) (pa_cons (pv 0) (pa_cons (pe_op op_add (pv 4) pe_int) pa_nil))) (pa_cons (pe_op op_add_str (pe_op op_add_str (pe_slice sl_str (pv 5) po_none (po_some (pv 6))) (pe_ix ix_str (pv 2) (pe_op op_mod (pe_op op_add (pv 7) (pe_op op_mulW pe_int (pv 4))) pe_int) (fun _ _ => rfl))) (pe_slice sl_str (pv 5) (po_some (pv 6)) po_none)) pa_nil))))))
      (pss_one (ps_ret (pv 3)))))), ?_⟩
    refine ⟨Nat.zero_le _, fun p np => ⟨(by show 2 ≤ sizeLine; decide), fun T nT => ⟨T, _, rfl, .inl (.inl upd_same), rfl, _, _, rfl, _, _, rfl, rfl, ?_⟩⟩⟩
    have sp := same_upd (o := .lst []) np
    have sT := same_upd (o := .tup [.str "abcdefghijklmnopqrstuvwxyz0123456789", .ref p]) nT
    have s0 := sp.trans sT
    have ep0 := sT _ _ (upd_same (H := H) (a := p) (o := .lst []))
    have offp := hS.off np
    have hS0 := hS.same s0
    revert ep0 hS0 s0
    generalize upd (upd H p (.lst [])) T (.tup [.str "abcdefghijklmnopqrstuvwxyz0123456789", .ref p]) = H0
    intro s0 ep0 hS0
    have k0 := Kb.same (b := b) s0
    refine ⟨⟨_, rfl⟩, _, rfl, b, t, 7, rfl, hS0, by omega, by decide, by decide, fun n t1 H1 n0 n1 u0 u1 hS1 k1 => ⟨_, _, rfl, rfl, 3 + n, rfl, by omega, by omega, fun D nD => ?_⟩⟩
    have ep1 := k1 _ _ offp ep0
    have k01 := k0.trans k1
    refine lc_bx (α := Nat) (fun ch => .str (sgS ch)) (fun _ ch => ch < 1114112) 1 (walk_range (lo := 0) (n := (3 + n).toNat)) [b] (by simp) (fun c hc => by rw [List.mem_singleton.mp hc]; exact hS1.ne) hS1 nD (by omega) (fun _ _ _ => trivial) (fun i x Hx Hx' t' Kt Kn hi v0 v1 hSx kx _ hy k => ?_) (fun H3 t3 cs hcl hcs v0 v1 hS3 k3 hD => ?_)
    · obtain ⟨rfl, rfl⟩ := hy
      refine ⟨rfl, _, rfl, _, rfl, b, t', 36, rfl, hSx, by omega, by decide, by decide, fun r2 t2 H4 r20 r21 w0 w1 hS4 k4 => ?_⟩
      obtain ⟨ch, e, hch⟩ := sgn_at az36_len az36_ok r20 r21
      exact ⟨_, r2, _, rfl, rfl, (by show az36.length ≤ sizeLine; decide +kernel), e, k ch _ _ H4 hch (.str _) (by omega) (by omega) hS4 k4⟩
    refine ⟨_, D, cs.map sgS, rfl, rfl, .inl (SqL.of (join_drawn hD)), join_fits (by omega), ?_⟩
    rw [join_signs]
    have hcs' : okT cs := fun ch hch => by
      obtain ⟨i, hi, e⟩ := List.getElem_of_mem hch
      exact hcs i ch (by rw [List.getElem?_eq_getElem hi, e])
    have hR : TxS 9 (SX.S cs) := .of (by omega) hcs'
    have ep3 := k3 _ _ offp ep1
    have k03 := k01.trans k3
    clear hD hcs k3 k1
    refine ⟨_, rfl, _, rfl, SX.S cs, rfl, S_le (by omega), _, 1, rfl, rfl, b, t3, _, rfl, hS3, by omega, by rw [SX.S_len]; omega, by rw [SX.S_len]; omega, fun a1 t4 H4 a10 a11 w0 w1 hS4 k4 => ?_⟩
    refine ⟨_, rfl, b, t4, 36, rfl, hS4, by omega, by decide, by decide, fun f1 t5 H5 f10 f11 w2 w3 hS5 k5 => ⟨_, _, rfl, ?_⟩⟩
    have ep5 := k5 _ _ offp (k4 _ _ offp ep3)
    have k05 := (k03.trans k4).trans k5
    obtain ⟨mn, rfl⟩ := Int.eq_ofNat_of_zero_le hm0
    obtain ⟨an, rfl⟩ := Int.eq_ofNat_of_zero_le a10
    refine ⟨_, rfl, (mn : Int), rfl, by omega, by omega, for_range (n := ((mn : Int)).toNat) (fun i σ Hx => ∃ (t' : Int) (xs : List Str) (y4 : Option V), σ = [some (.ref b), some (.int (mn : Int)), some (.str az36), some (.ref p), y4, some (.str (SX.S cs)), some (.int (an : Int)), some (.int f1)] ∧ Hx p = some (.lst (xs.map V.str)) ∧ (∀ x ∈ xs, TxS 20 x) ∧ (∀ x ∈ xs, ∃ j, j < i ∧ x = wordF (cs.take an) (cs.drop an) f1 j) ∧ xs.Nodup ∧ xs.length = i ∧ t5 ≤ t' ∧ t' ≤ t5 + (i : Int) ∧ Bx b Hx t' ∧ Kb b H Hx)
      ⟨t5, [], _, rfl, ep5, (fun _ z => nomatch z), (fun _ z => nomatch z), List.nodup_nil, rfl, by omega, by omega, hS5, k05⟩ (fun i σ Hx hi hP => ?_) (fun σ Hx hP => ?_)⟩
    · obtain ⟨t', xs, y4, rfl, ep, hx, hw, hnd, hxl, v2, v3, hSx, kx⟩ := hP
      have hi30 : (i : Int) < 30 := by omega
      have e0 := Int.emod_nonneg (f1 + 7 * (0 + (i : Int))) (show (36 : Int) ≠ 0 by decide)
      have e1 := Int.emod_lt_of_pos (f1 + 7 * (0 + (i : Int))) (show (0 : Int) < 36 by decide)
      obtain ⟨ch, e, hch⟩ := sgn_at az36_len az36_ok e0 e1
      have hC : TxS 1 (⟨#[ch]⟩ : Str) := TxS.sg hch
      have hB8 := hR.fits (by decide)
      refine ⟨_, rfl, .inl ⟨rfl, _, SqL.of ep⟩, _, rfl, _, rfl, _, _, rfl, rfl, b, t', _, rfl, hSx, by omega, by omega, by omega, fun r2 t2 H6 r20 r21 w4 w5 hS6 k6 => ?_⟩
      have ep6 := k6 _ _ offp ep
      refine ⟨_, rfl, _, rfl, (an : Int), rfl, SX.S cs, rfl, hB8, _, rfl, _, rfl, _, rfl, _, _, rfl, rfl, mulw (by decide) (by omega), _, _, rfl, rfl, _, _, rfl, rfl, (show (0 : Int) < 36 by decide), _, _, _, rfl, rfl, (by show az36.length ≤ sizeLine; decide +kernel), e, _, _, rfl, rfl, (hR.cut _ _).fit hC (by decide), _, rfl, _, rfl, (an : Int), rfl, SX.S cs, rfl, hB8, _, _, rfl, rfl, ((hR.cut _ _).cat hC).fit (hR.cut _ _) (by decide), ?_⟩
      have hz : TxS 20 (cutS (SX.S cs) none (some (an : Int)) ++ (⟨#[ch]⟩ : Str) ++ cutS (SX.S cs) (some (an : Int)) none) := (((hR.cut _ _).cat hC).cat (hR.cut _ _)).mono (by decide)
      have ez : cutS (SX.S cs) none (some (an : Int)) ++ (⟨#[ch]⟩ : Str) ++ cutS (SX.S cs) (some (an : Int)) none = wordF (cs.take an) (cs.drop an) f1 i := by
        rw [cutS_take, cutS_drop, show (⟨#[ch]⟩ : Str) = SX.S [ch] from rfl, SX.S_cat, SX.S_cat]
        unfold wordF
        obtain ⟨j, hj⟩ := Int.eq_ofNat_of_zero_le e0
        rw [hj] at e e1
        have lj : j < az36.cps.toList.length := by rw [az36_len]; omega
        have z := atI_nat (List.getElem?_eq_getElem lj)
        rw [z] at e
        cases e
        rw [show f1 + 7 * (i : Int) = f1 + 7 * (0 + (i : Int)) by omega, hj, Int.toNat_natCast, List.getD_eq_getElem?_getD, List.getElem?_eq_getElem lj]
        rfl
      rw [ez] at hz ⊢
      have nw : wordF (cs.take an) (cs.drop an) f1 i ∉ xs := fun z => by
        obtain ⟨j, hj, ej⟩ := hw _ z
        have := word_inj (by omega) (by omega) ej
        omega
      refine ⟨p, _, r2, _, rfl, rfl, ep6, small1000 (by rw [List.length_map]; omega), r20, by omega, t2, xs.take r2.toNat ++ [wordF (cs.take an) (cs.drop an) f1 i] ++ xs.drop r2.toNat, _, rfl, ?_, fun x hx' => ?_, fun x hx' => ?_, ?_, ?_, by omega, by omega, hS6.upd offp, fun a o na ea => ?_⟩
      · rw [upd_same, List.map_append, List.map_append, List.map_take, List.map_drop]
        rfl
      · rcases List.mem_append.mp hx' with y | y
        · rcases List.mem_append.mp y with y | y
          · exact hx x (List.mem_of_mem_take y)
          · rw [List.mem_singleton.mp y]; exact hz
        · exact hx x (List.mem_of_mem_drop y)
      · rcases List.mem_append.mp hx' with y | y
        · rcases List.mem_append.mp y with y | y
          · obtain ⟨j, h1, h2⟩ := hw x (List.mem_of_mem_take y)
            exact ⟨j, by omega, h2⟩
          · exact ⟨i, by omega, List.mem_singleton.mp y⟩
        · obtain ⟨j, h1, h2⟩ := hw x (List.mem_of_mem_drop y)
          exact ⟨j, by omega, h2⟩
      · have pm : (xs.take r2.toNat ++ [wordF (cs.take an) (cs.drop an) f1 i] ++ xs.drop r2.toNat).Perm (wordF (cs.take an) (cs.drop an) f1 i :: xs) := by
          rw [List.append_assoc]
          refine List.perm_middle.trans (List.Perm.cons _ ?_)
          show (xs.take r2.toNat ++ xs.drop r2.toNat).Perm xs
          rw [List.take_append_drop]
        exact pm.nodup_iff.mpr (List.nodup_cons.mpr ⟨nw, hnd⟩)
      · rw [List.length_append, List.length_append, List.length_take, List.length_drop, List.length_singleton]
        omega
      · rw [upd_ne (ne_of_none ea np)]
        exact k6 _ _ na (kx a o na ea)
    · obtain ⟨t', xs, y4, rfl, ep, hx, hw, hnd, hxl, v2, v3, hSx, kx⟩ := hP
      exact ⟨_, rfl, q p xs t' Hx np ep hx hnd (by rw [hxl]; omega) (by omega) (by omega) hSx kx⟩
end

/-! ### batches, tests: as data -/
inductive Pas3
  | line (p : Str) (s l b : Int)
  | racks (p : Str) (per : Int) (st : List (Int × Int))
def Pas3.pl : Pas3 → Str
  | .line p _ _ _ => p
  | .racks p _ _ => p
def pasD : Pas3 → PyData
  | .line p s l b => .tuple [.str "line", .str p, .int s, .int l, .int b]
  | .racks p per st => .tuple [.str "racks", .str p, .int per, .list (st.map pairD)]
structure Bat3 where
  mark : Str
  tins : Int
  pas : List Pas3
def batD (B : Bat3) : PyData := .tuple [.str B.mark, .int B.tins, .list (B.pas.map pasD)]
structure Tst where
  mark : Str
  tin : Int
  bad : Bool
def wordD (b : Bool) : Str := if b = true then "bad" else "good"
def tstD (t : Tst) : PyData := .tuple [.str t.mark, .int t.tin, .str (wordD t.bad)]
def spanD : Option (Int × Int) → PyData
  | none => .none
  | some p => pairD p
def Big : Int := 10 ^ 75
theorem Big.pos : 0 < Big := by decide
theorem Big.lt {x : Int} (h0 : 0 ≤ x) (h : x < Big) : x.natAbs < 2 ^ 250 := by
  have : Big = 10 ^ 75 := rfl
  omega
/-- a pass of a batch of so many tins -/
def PasOk (n : Int) : Pas3 → Prop
  | .line p s l b => TxS 20 p ∧ 0 ≤ s ∧ s < Big ∧ 0 ≤ l ∧ l < Big ∧ 1 ≤ b ∧ b < Big
  | .racks p per st => TxS 20 p ∧ 1 ≤ per ∧ per < Big ∧ (st.length : Int) = (n + per - 1) / per ∧ st.length ≤ 100 ∧ ∀ r ∈ st, 0 ≤ r.1 ∧ r.1 ≤ r.2 ∧ r.2 < Big
/-- of small numbers -/
def PasSm : Pas3 → Prop
  | .line _ s l _ => s ≤ 20 ∧ l ≤ 3
  | .racks _ _ st => ∀ r ∈ st, r.2 < 100
theorem PasOk.pl {n : Int} {q : Pas3} (h : PasOk n q) : TxS 20 q.pl := by cases q <;> exact h.1
def BatOk (B : Bat3) : Prop := TxS 20 B.mark ∧ 1 ≤ B.tins ∧ B.tins < Big ∧ B.pas.length ≤ 40 ∧ ∀ q ∈ B.pas, PasOk B.tins q
def winPas : Pas3 → Int → Option (Int × Int)
  | .line _ s l b, k => some (s + k * l / b, s + k * l / b)
  | .racks _ per st, k => st[(k / per).toNat]?
def passF (ps : List Pas3) (p : Str) : Option Pas3 := ps.find? fun q => decide (q.pl = p)
def winF (B : Bat3) (p : Str) (k : Int) : Option (Int × Int) := match passF B.pas p with
  | none => none
  | some q => winPas q k
theorem rack_at {n per k : Int} {st : List (Int × Int)} (h1 : 1 ≤ per) (hs : (st.length : Int) = (n + per - 1) / per) (k0 : 0 ≤ k) (k1 : k < n) : ∃ j, k / per = ((j : Nat) : Int) ∧ j < st.length := by
  obtain ⟨j, hj⟩ := Int.eq_ofNat_of_zero_le (Int.ediv_nonneg k0 (by omega : 0 ≤ per))
  refine ⟨j, hj, ?_⟩
  have h2 := Int.ediv_mul_le k (show per ≠ 0 by omega)
  have h3 : (k / per + 1) * per ≤ n + per - 1 := by
    rw [Int.add_mul]
    omega
  have h4 := (Int.le_ediv_iff_mul_le (show 0 < per by omega)).mpr h3
  omega
theorem winPas_some {n k : Int} {q : Pas3} (h : PasOk n q) (k0 : 0 ≤ k) (k1 : k < n) : ∃ p, winPas q k = some p ∧ 0 ≤ p.1 ∧ p.1 ≤ p.2 := by
  cases q with
  | line p s l b =>
    obtain ⟨_, h1, h2, h3, h4, h5, h6⟩ := h
    refine ⟨_, rfl, ?_, Int.le_refl _⟩
    have := Int.ediv_nonneg (Int.mul_nonneg k0 h3) (show 0 ≤ b by omega)
    show 0 ≤ s + k * l / b
    omega
  | racks p per st =>
    obtain ⟨_, h1, h2, h3, h4, h5⟩ := h
    obtain ⟨j, hj, jl⟩ := rack_at h1 h3 k0 k1
    refine ⟨st[j], ?_, ?_⟩
    · show st[(k / per).toNat]? = _
      rw [hj, Int.toNat_natCast, List.getElem?_eq_getElem jl]
    · have := h5 _ (List.getElem_mem jl)
      exact ⟨this.1, this.2.1⟩
theorem passF_mem {ps : List Pas3} {p : Str} {q : Pas3} (h : passF ps p = some q) : q ∈ ps ∧ q.pl = p := ⟨List.mem_of_find?_eq_some h, of_decide_eq_true (List.find?_some (p := fun q : Pas3 => decide (q.pl = p)) h)⟩
theorem winF_ok {B : Bat3} {p : Str} {k : Int} {r : Int × Int} (h : BatOk B) (k0 : 0 ≤ k) (k1 : k < B.tins) (e : winF B p k = some r) : 0 ≤ r.1 ∧ r.1 ≤ r.2 := by
  unfold winF at e
  cases h2 : passF B.pas p with
  | none => rw [h2] at e; cases e
  | some q =>
    rw [h2] at e
    obtain ⟨r', e', h0⟩ := winPas_some (h.2.2.2.2 q (passF_mem h2).1) k0 k1
    have e : winPas q k = some r := e
    rw [e] at e'
    cases e'
    exact h0
/-! ### shuffled things, a pass drawn -/
def spShuf (K : PySem.W.Frag) : Sp := fun vs H Q _ => ∃ (b a : Addr) (t : Int) (xs : List V) (cs : List Addr) (ds : List PyData), vs = [.ref b, .ref a] ∧ Bx b H t ∧ t + 2000 < 2 ^ 40 ∧ SqH H a xs ∧ a ≠ b ∧ xs.length ≤ 100 ∧ b ∈ cs ∧ ThgL cs H xs ds ∧
  ∀ (l : Addr) (ys : List V) es t' H', H l = none → H' l = some (.lst ys) → ThgL cs H' ys es → es.Perm ds → t ≤ t' → t' ≤ t + xs.length → Bx b H' t' → Kb b H H' → Q (.ref l) H'
abbrev sShuf : Stmt := topS 35
theorem scShuf : FnScope ["_law_box_here", "_law_things", "_law_rest", "_law_turn"] ["_law_box_here", "_law_things"] (defScope sShuf) := ⟨rfl, rfl, rfl, by decide +kernel, rfl, by decide +kernel, by decide +kernel⟩
section
variable {K : PySem.W.Frag} {mg : Str → Option Value} {P : Program} {w : World} {base : Heap}
theorem ok_Shuf {f : Addr} {fd : FuncData} (F : Fun K "_law_shuffled" "_law_shuffled" sShuf f fd) (C__law_take : Cal P w K mg base 1 "_law_take" ["_law_box_here", "_law_many"] spTakeB) (m_list : mg "list" = none) (m_len : mg "len" = none) (m_range : mg "range" = none) : FnOk P w K mg base CX0 2 f fd ["_law_box_here", "_law_things"] (spShuf K) := by
  refine F.ok scShuf (fun vs H Q E h => ?_) (fun cdv A outer s H vs Q E hr h => ?_)
  · obtain ⟨b, a, t, xs, cs, ds, rfl, _⟩ := h
    rfl
  · obtain ⟨b, a, t, xs, cs, ds, rfl, hS, ht, ha, hab, hz, hbc, hx, q⟩ := h
    refine ⟨_, pss_cons (ps_set (i := 2) scShuf.nd rfl (.inr rfl) (pe_callTy call_list_of (by rfl) m_list (by decide +kernel) (pa_cons (pv 1) pa_nil)))
      (pss_one (ps_ret (pe_lc (own := [("_law_turn", 3)]) (g := (gName 3)) (tt := tYes) (te := (tBM K "list" rPopAt (tVar 2) (tCons (tCall spTakeB [] E0 (tCons (tVar 0) (tCons (tCB (fun xs H Q => ∃ p ys, xs = [.ref p] ∧ (SqL K H p ys ∨ SqT K H p ys) ∧ Q (.int ys.length) H) (tCons (tVar 2) tNil)) tNil))) tNil))) rfl scShuf.nd (pi_range1 rfl m_range (pa_cons (pe_callB call_len_seq (by rfl) m_len PySem.boot_len (pa_cons (pv 1) pa_nil)) pa_nil)) (blkOk_by (own := [("_law_turn", 3)]) (N := ["_law_box_here", "_law_things", "_law_rest", "_law_turn"]) (sc := defScope sShuf) (by decide +kernel)) (fun _ _ _ _ _ => (pg_name (i := 3) scShuf.nd rfl (.inl rfl))) (fun _ _ _ _ _ => pts_nil) (fun _ _ _ _ _ => (pe_bm PySem.F.plainAttrs_list PySem.F.slot_list_pop PySem.F.type_list_pop mt_popAt (pv 2) (pa_cons (pe_own C__law_take hr (by rfl) (pa_cons (pv 0) (pa_cons (pe_callB call_len_seq (by rfl) m_len PySem.boot_len (pa_cons (pv 2) pa_nil)) pa_nil))) pa_nil)))))), ?_⟩
    refine ⟨_, rfl, a, xs, rfl, ha.sq, fun p np => ?_⟩
    have sp := same_upd (o := .lst xs) np
    have offp := hS.off np
    have hx0 := ((hx.same sp).less (cs' := cs) fun _ z => z)
    have ha1 : SqH (upd H p (.lst xs)) a xs := ha.imp (fun e => sp _ _ e) (fun e => sp _ _ e)
    refine ⟨_, rfl, a, xs, rfl, ha1.sq, (xs.length : Int), rfl, by omega, by omega, fun D nD => ?_⟩
    have offD := (hS.same sp).off nD
    have nDp : D ≠ p := fun z => by rw [z, upd_same] at nD; cases nD
    have hxp : ThgL (p :: cs) (upd H p (.lst xs)) xs ds := (hx.more np).same sp
    have hxD : ThgL (D :: p :: cs) (upd H p (.lst xs)) xs ds := hxp.more nD
    have sD := same_upd (o := .lst []) nD
    refine lc_it (walk_range (lo := 0) (n := ((xs.length : Int)).toNat)) (fun i Hx => ∃ (t' : Int) (ws rs : List V) (es1 es2 : List PyData), Hx D = some (.lst ws) ∧ Hx p = some (.lst rs) ∧ ThgL (D :: p :: cs) Hx ws es1 ∧ ThgL (D :: p :: cs) Hx rs es2 ∧ (es1 ++ es2).Perm ds ∧ ws.length = i ∧ rs.length + i = xs.length ∧ t ≤ t' ∧ t' ≤ t + (i : Int) ∧ Bx b Hx t' ∧ Kb b H Hx)
      ⟨t, [], xs, [], ds, upd_same, sD _ _ upd_same, ThgL.nil, hxD.same sD, List.Perm.refl _, rfl, rfl, by omega, by omega, (hS.same sp).same sD, Kb.same (sp.trans sD)⟩ (fun i Hx _ hP => trivial) (fun i x Hx Hx' hi hP hy => ?_) (fun Hx hP => ?_)
    · obtain ⟨rfl, rfl⟩ := hy
      obtain ⟨t', ws, rs, es1, es2, eD, ep, hw, hr', hpm, hwl, hrl, v0, v1, hSx, kx⟩ := hP
      have hi' : i < xs.length := by omega
      refine ⟨rfl, _, rfl, .inl ⟨rfl, _, SqL.of ep⟩, _, rfl, _, rfl, p, rs, rfl, .inl (SqL.of ep), b, t', _, rfl, hSx, by omega, by omega, by omega, fun r t2 H2 r0 r1 u0 u1 hS2 k2 => ?_⟩
      obtain ⟨j, rfl⟩ := Int.eq_ofNat_of_zero_le r0
      have jl : j < rs.length := by omega
      have ep2 := k2 _ _ offp ep
      have eD2 := k2 _ _ offD eD
      have hw2 := hw.kb hSx k2 (by simp [hbc])
      have hr2 := hr'.kb hSx k2 (by simp [hbc])
      obtain ⟨d, ed, hd⟩ := hr2.at (List.getElem?_eq_getElem jl)
      have jl2 : j < es2.length := by rw [← hr2.1]; exact jl
      have jd : es2[j] = d := by rw [List.getElem?_eq_getElem jl2] at ed; exact Option.some.inj ed
      have hix : seqIndex? (j : Int) rs.length = some j := (ixN_seq (ixN_of jl)).1
      refine ⟨p, rs, j, j, rs[j], rfl, rfl, ep2, by omega, by omega, hix, List.getElem?_eq_getElem jl, ?_⟩
      have eD3 : upd H2 p (.lst (rs.eraseIdx j)) D = some (.lst ws) := by rw [upd_ne nDp]; exact eD2
      have hdr : ThgL (D :: p :: cs) H2 (rs.eraseIdx j) (es2.eraseIdx j) := by
        rw [List.eraseIdx_eq_take_drop_succ, List.eraseIdx_eq_take_drop_succ]
        exact (hr2.take j).append (hr2.drop (j + 1))
      have up : ∀ {vs : List V} {es : List PyData}, ThgL (D :: p :: cs) H2 vs es → ThgL (D :: p :: cs) (upd (upd H2 p (.lst (rs.eraseIdx j))) D (.lst (ws ++ [rs[j]]))) vs es := fun h => (h.upd ep2 (by simp)).upd eD3 (by simp)
      refine ⟨ws, eD3, Nat.lt_of_lt_of_le (show ws.length < 1000 by omega) (by decide), t2, ws ++ [rs[j]], rs.eraseIdx j, es1 ++ [d], es2.eraseIdx j, upd_same, by rw [upd_ne nDp.symm, upd_same], up (hw2.append (ThgL.one hd)), up hdr, ?_, by rw [List.length_append, hwl]; rfl, by rw [List.length_eraseIdx_of_lt jl]; omega, by omega, by omega, (hS2.upd offp).upd offD, fun a' o na ea => ?_⟩
      · refine List.Perm.trans ?_ hpm
        rw [List.append_assoc]
        refine List.Perm.append_left _ ?_
        have e : es2 = es2.take j ++ d :: es2.drop (j + 1) := by
          rw [← jd, ← List.drop_eq_getElem_cons jl2, List.take_append_drop]
        rw [List.eraseIdx_eq_take_drop_succ]
        conv => rhs; rw [e]
        exact (List.perm_middle (l₁ := es2.take j) (a := d) (l₂ := es2.drop (j + 1))).symm
      · rw [upd_ne (ne_of_none (sp _ _ ea) nD), upd_ne (ne_of_none ea np)]
        exact k2 _ _ na (kx a' o na ea)
    · obtain ⟨t', ws, rs, es1, es2, eD, ep, hw, hr', hpm, hwl, hrl, v0, v1, hSx, kx⟩ := hP
      have e0 : rs = [] := List.eq_nil_of_length_eq_zero (by omega)
      subst e0
      have e1 : es2 = [] := List.eq_nil_of_length_eq_zero (by rw [← hr'.1]; rfl)
      subst e1
      rw [List.append_nil] at hpm
      exact q D ws es1 t' Hx (sp.free nD) eD (hw.less fun _ z => List.mem_cons_of_mem _ (List.mem_cons_of_mem _ z)) hpm v0 (by omega) hSx kx
end

/-! ### windows -/
/-- a batch, its passes a list or a tuple -/
def BatR (B : Bat3) (d : PyData) : Prop := ∃ rd, d = .tuple [.str B.mark, .int B.tins, rd] ∧ rowOf rd = some (B.pas.map pasD)
theorem batR {B : Bat3} : BatR B (batD B) := ⟨_, rfl, rfl⟩
theorem Thg.bat {cs : List Addr} {H : Hp} {v : V} {B : Bat3} {d : PyData} (h : Thg cs H v d) (r : BatR B d) : ∃ a p xs, v = .ref a ∧ H a = some (.tup [.str B.mark, .int B.tins, .ref p]) ∧ SqH H p xs ∧ ThgL cs H xs (B.pas.map pasD) := by
  obtain ⟨rd, rfl, hr⟩ := r
  obtain ⟨a, xs, rfl, e, h1⟩ := h.tuple
  obtain ⟨x, ys, rfl, h2, h3⟩ := h1.inv
  obtain ⟨y, zs, rfl, h4, h5⟩ := h3.inv
  obtain ⟨z, ws, rfl, h6, h7⟩ := h5.inv
  rw [h7.inv0, h2.inv_str, h4.inv_int] at e
  obtain ⟨p, us, rfl, h8, h9⟩ := h6.row hr
  exact ⟨a, p, us, rfl, e, h8, h9⟩
def optPas : Option Pas3 → PyData
  | none => .none
  | some q => pasD q
/-- a pass, told by its kind -/
theorem Thg.pasL {cs : List Addr} {H : Hp} {v : V} {p : Str} {s l b : Int} (h : Thg cs H v (pasD (.line p s l b))) : ∃ a, v = .ref a ∧ H a = some (.tup [.str "line", .str p, .int s, .int l, .int b]) := by
  obtain ⟨a, xs, rfl, e, h1⟩ := h.tuple
  obtain ⟨x, ys, rfl, h2, h3⟩ := h1.inv
  obtain ⟨y, zs, rfl, h4, h5⟩ := h3.inv
  obtain ⟨z, ws, rfl, h6, h7⟩ := h5.inv
  obtain ⟨u, vs, rfl, h8, h9⟩ := h7.inv
  obtain ⟨w, us, rfl, h10, h11⟩ := h9.inv
  rw [h11.inv0, h2.inv_str, h4.inv_str, h6.inv_int, h8.inv_int, h10.inv_int] at e
  exact ⟨a, rfl, e⟩
theorem Thg.pasR {cs : List Addr} {H : Hp} {v : V} {p : Str} {per : Int} {st : List (Int × Int)} (h : Thg cs H v (pasD (.racks p per st))) : ∃ a l us, v = .ref a ∧ H a = some (.tup [.str "racks", .str p, .int per, .ref l]) ∧ H l = some (.lst us) ∧ ThgL cs H us (st.map pairD) := by
  obtain ⟨a, xs, rfl, e, h1⟩ := h.tuple
  obtain ⟨x, ys, rfl, h2, h3⟩ := h1.inv
  obtain ⟨y, zs, rfl, h4, h5⟩ := h3.inv
  obtain ⟨z, ws, rfl, h6, h7⟩ := h5.inv
  obtain ⟨u, vs, rfl, h8, h9⟩ := h7.inv
  obtain ⟨l, us, rfl, e2, _, h10⟩ := h8.list
  rw [h9.inv0, h2.inv_str, h4.inv_str, h6.inv_int] at e
  exact ⟨a, l, us, rfl, e, e2, h10⟩
theorem Thg.pas {cs : List Addr} {H : Hp} {v : V} {q : Pas3} (h : Thg cs H v (pasD q)) : ∃ a x r, v = .ref a ∧ H a = some (.tup (x :: .str q.pl :: r)) ∧ (x = .str "line" ∨ x = .str "racks") := by
  cases q with
  | line p s l b => obtain ⟨a, rfl, e⟩ := h.pasL; exact ⟨a, _, _, rfl, e, .inl rfl⟩
  | racks p per st => obtain ⟨a, l, us, rfl, e, _⟩ := h.pasR; exact ⟨a, _, _, rfl, e, .inr rfl⟩
def spPassAt : Sp := fun vs H Q _ => ∃ (v : V) (p : Str) (B : Bat3) (d : PyData) (cs : List Addr), vs = [v, .str p] ∧ BatR B d ∧ Thg cs H v d ∧ ∀ y, Thg cs H y (optPas (passF B.pas p)) → Q y H
abbrev sPassAt : Stmt := topS 5
theorem scPassAt : FnScope ["batch", "place", "passed"] ["batch", "place"] (defScope sPassAt) := ⟨rfl, rfl, rfl, by decide +kernel, rfl, by decide +kernel, by decide +kernel⟩
section
variable {K : PySem.W.Frag} {mg : Str → Option Value} {P : Program} {w : World} {base : Heap}
theorem ok_PassAt {f : Addr} {fd : FuncData} (F : Fun K "pass_at" "pass_at" sPassAt f fd) : FnOk P w K mg base CX0 1 f fd ["batch", "place"] spPassAt := by
  refine F.ok scPassAt (fun vs H Q E h => ?_) (fun cdv A outer s H vs Q E hr h => ?_)
  · obtain ⟨v, p, B, d, cs, rfl, _⟩ := h
    rfl
  · obtain ⟨v, p, B, d, cs, rfl, hB, hv, q⟩ := h
    refine ⟨_, pss_cons (ps_for PassesOwn.never rfl (pi_seq (pe_ix ix_tup (pv 0) pe_int (fun _ _ => rfl))) (pg_name (i := 2) scPassAt.nd rfl (.inl rfl))
        (pss_one (ps_if (pt_cmpR op_eq (pe_ix ix_tup (pv 2) pe_int (fun _ _ => rfl)) (pv 1) (nomark _)) (pss_one (ps_ret (pv 2)))
          pss_nil)))
      (pss_one (ps_ret pe_non)), ?_⟩
    obtain ⟨a, l, xs, rfl, ea, hl, hx⟩ := hv.bat hB
    refine ⟨_, rfl, a, _, 2, _, rfl, rfl, .inl (.inl ea), atI_nat (j := 2) rfl, l, rfl, for_seqS hl.sq (Same.refl H) (fun i σ Hx => ∃ y2, σ = [some (.ref a), some (.str p), y2] ∧ Hx = H ∧ ∀ j q', j < i → B.pas[j]? = some q' → q'.pl ≠ p) ⟨_, rfl, rfl, fun j q' z => absurd z (Nat.not_lt_zero _)⟩ (fun i σ Hx hP => ?_) (fun i x σ Hx hxi hP => ?_) (fun σ Hx hP => ?_)⟩
    · obtain ⟨_, _, rfl, _⟩ := hP
      exact Same.refl _
    · obtain ⟨y2, rfl, rfl, hno⟩ := hP
      obtain ⟨q', eq', hq'⟩ := hx.atM hxi
      obtain ⟨b, x0, r, rfl, eb, _⟩ := hq'.pas
      refine ⟨_, rfl, b, _, 1, _, rfl, rfl, .inl (.inl eb), atI_nat (j := 1) rfl, _, rfl, rfl, _, rfl, ite2 (fun c => ?_) (fun c => ?_)⟩
      · have ep : q'.pl = p := V.str.inj (of_decide_eq_true c)
        have ef : passF B.pas p = some q' := by
          unfold passF
          rw [List.find?_eq_some_iff_getElem]
          obtain ⟨hi, e⟩ := List.getElem?_eq_some_iff.mp eq'
          exact ⟨decide_eq_true ep, i, hi, e, fun j hj => by
            have := hno j B.pas[j] hj (List.getElem?_eq_getElem (by omega))
            simp [this]⟩
        exact ⟨_, rfl, q _ (by rw [ef]; exact hq')⟩
      · refine ⟨_, rfl, rfl, fun j q2 hj ej => ?_⟩
        by_cases hji : j = i
        · subst hji
          rw [eq'] at ej
          cases ej
          exact fun z => c (decide_eq_true (congrArg V.str z))
        · exact hno j q2 (by omega) ej
    · obtain ⟨y2, rfl, rfl, hno⟩ := hP
      have ef : passF B.pas p = none := by
        unfold passF
        rw [List.find?_eq_none]
        intro q' hq'
        obtain ⟨j, hj⟩ := List.getElem?_of_mem hq'
        have hjl := (List.getElem?_eq_some_iff.mp hj).1
        have := hno j q' (by rw [hx.1, List.length_map]; exact hjl) hj
        simp [this]
      exact q _ (by rw [ef]; exact .non)
end
def spWin (K : PySem.W.Frag) : Sp := fun vs H Q _ => ∃ (v : V) (p : Str) (k : Int) (B : Bat3) (d : PyData) (cs : List Addr), vs = [v, .str p, .int k] ∧ BatR B d ∧ Thg cs H v d ∧ BatOk B ∧ 0 ≤ k ∧ k < B.tins ∧ ∀ y H', Same H H' → Thg cs H' y (spanD (winF B p k)) → Q y H'
abbrev sWindow : Stmt := topS 6
theorem scWindow : FnScope ["batch", "place", "tin", "passed", "minute", "first", "last"] ["batch", "place", "tin"] (defScope sWindow) := ⟨rfl, rfl, rfl, by decide +kernel, rfl, by decide +kernel, by decide +kernel⟩
section
variable {K : PySem.W.Frag} {mg : Str → Option Value} {P : Program} {w : World} {base : Heap}
theorem ok_Window {f : Addr} {fd : FuncData} (F : Fun K "window" "window" sWindow f fd) (C_pass_at : Cal P w K mg base 1 "pass_at" ["batch", "place"] spPassAt) (c_LINE : ∃ u, mg "LINE" = some u ∧ RelV (.str "line") u) : FnOk P w K mg base CX0 2 f fd ["batch", "place", "tin"] (spWin K) := by
  refine F.ok scWindow (fun vs H Q E h => ?_) (fun cdv A outer s H vs Q E hr h => ?_)
  · obtain ⟨v, p, k, B, d, cs, rfl, _⟩ := h
    rfl
  · obtain ⟨v, p, k, B, d, cs, rfl, hB, hv, ho, k0, k1, q⟩ := h
    refine ⟨_, pss_cons (ps_set (i := 3) scWindow.nd rfl (.inl rfl) (pe_own C_pass_at hr (by rfl) (pa_cons (pv 0) (pa_cons (pv 1) pa_nil))))
      (pss_cons (ps_if (pt_cmpR op_isN (pv 3) pe_non (nomark _)) (pss_one (ps_ret pe_non))
        pss_nil)
      (pss_cons (ps_if (pt_cmpR op_eq (pe_ix ix_tup (pv 3) pe_int (fun _ _ => rfl)) (C8.pe_gc (by rfl) c_LINE) (nomark _)) (pss_cons (ps_set (i := 4) scWindow.nd rfl (.inl rfl) (pe_op op_add (pe_ix ix_tup (pv 3) pe_int (fun _ _ => rfl)) (pe_op op_fdivW (pe_op op_mulW (pv 2) (pe_ix ix_tup (pv 3) pe_int (fun _ _ => rfl))) (pe_ix ix_tup (pv 3) pe_int (fun _ _ => rfl)))))
        (pss_one (ps_ret (pe_tup (pa_cons (pv 4) (pa_cons (pv 4) pa_nil))))))
        pss_nil)
      (pss_cons (ps_asg (pe_ix ix_seq (pe_ix ix_tup (pv 3) pe_int (fun _ _ => rfl)) (pe_op op_fdivW (pv 2) (pe_ix ix_tup (pv 3) pe_int (fun _ _ => rfl))) (fun _ _ => rfl)) (pg_tup rfl (pgs_cons (pg_name (i := 5) scWindow.nd rfl (.inl rfl)) (pgs_cons (pg_name (i := 6) scWindow.nd rfl (.inl rfl)) pgs_nil))))
      (pss_one (ps_ret (pe_tup (pa_cons (pv 5) (pa_cons (pv 6) pa_nil)))))))), ?_⟩
    refine ⟨_, rfl, _, rfl, v, p, B, d, cs, rfl, hB, hv, fun y hy => ?_⟩
    have e75 : Big = 10 ^ 75 := rfl
    cases ef : passF B.pas p with
    | none =>
      rw [ef] at hy
      cases hy.inv_non
      exact ⟨_, rfl, rfl, _, rfl, iteT (q _ H (Same.refl _) (by rw [show winF B p k = none by unfold winF; rw [ef]]; exact .non))⟩
    | some x =>
      rw [ef] at hy
      have ew : winF B p k = winPas x k := by unfold winF; rw [ef]
      have hxo := ho.2.2.2.2 x (passF_mem ef).1
      rw [ew] at q
      have hk := ho.2.2.1
      cases x with
      | line p' s l b =>
        obtain ⟨a, rfl, e⟩ := hy.pasL
        obtain ⟨_, h1, h2, h3, h4, h5, h6⟩ := hxo
        refine ⟨_, rfl, rfl, _, rfl, iteF ⟨_, rfl, a, _, 0, _, rfl, rfl, .inl (.inl e), atI_nat (j := 0) rfl, rfl, _, rfl, iteT ?_⟩⟩
        refine ⟨_, rfl, a, _, 2, _, rfl, rfl, .inl (.inl e), atI_nat (j := 2) rfl, _, rfl, _, rfl, a, _, 3, _, rfl, rfl, .inl (.inl e), atI_nat (j := 3) rfl, k, l, rfl, rfl, mulw (Big.lt k0 (by omega)) (Big.lt h3 h4), _, rfl, a, _, 4, _, rfl, rfl, .inl (.inl e), atI_nat (j := 4) rfl, _, b, rfl, rfl, divw (by omega) (Big.lt (by omega) h6), _, _, rfl, rfl, ?_⟩
        refine ⟨_, rfl, _, rfl, (by show 2 ≤ sizeLine; decide), fun T nT => ?_⟩
        exact q _ _ (same_upd nT) (thg_pair (p := (s + k * l / b, s + k * l / b)) upd_same)
      | racks p' per st =>
        obtain ⟨a, L, us, rfl, e, eL, hu⟩ := hy.pasR
        obtain ⟨_, h1, h2, h3, h4, h5⟩ := hxo
        obtain ⟨j, hj, jl⟩ := rack_at h1 h3 k0 k1
        have ewp : winPas (.racks p' per st) k = some st[j] := by
          show st[(k / per).toNat]? = _
          rw [hj, Int.toNat_natCast, List.getElem?_eq_getElem jl]
        rw [ewp] at q
        obtain ⟨x, ex, hx⟩ := hu.at' (List.getElem?_eq_getElem jl)
        obtain ⟨T, rfl, eT⟩ := hx.pair
        refine ⟨_, rfl, rfl, _, rfl, iteF ⟨_, rfl, a, _, 0, _, rfl, rfl, .inl (.inl e), atI_nat (j := 0) rfl, rfl, _, rfl, iteF ?_⟩⟩
        refine ⟨_, rfl, a, _, 3, _, rfl, rfl, .inl (.inl e), atI_nat (j := 3) rfl, _, rfl, _, rfl, a, _, 2, _, rfl, rfl, .inl (.inl e), atI_nat (j := 2) rfl, k, per, rfl, rfl, divw (by omega) (Big.lt (by omega) h2), L, us, _, _, rfl, rfl, .inl (SqL.of eL), by rw [hj]; exact atI_nat ex, T, _, rfl, .inl (.inl eT), rfl, _, _, rfl, _, _, rfl, rfl, ?_⟩
        refine ⟨_, rfl, _, rfl, (by show 2 ≤ sizeLine; decide), fun T2 nT2 => ?_⟩
        exact q _ _ (same_upd nT2) (thg_pair upd_same)
end
def spLWin : Sp := fun vs H Q _ => ∃ (v : V) (p : Str) (k : Int) (B : Bat3) (cs : List Addr), vs = [v, .str p, .int k] ∧ Thg cs H v (batD B) ∧ BatOk B ∧ 0 ≤ k ∧ k < B.tins ∧ ∀ y H', Same H H' → Thg cs H' y (spanD (winF B p k)) → Q y H'
theorem Thg.batL {cs : List Addr} {H : Hp} {v : V} {B : Bat3} (h : Thg cs H v (batD B)) : ∃ a p xs, v = .ref a ∧ H a = some (.tup [.str B.mark, .int B.tins, .ref p]) ∧ H p = some (.lst xs) ∧ p ∉ cs ∧ ThgL cs H xs (B.pas.map pasD) := by
  obtain ⟨a, xs, rfl, e, h1⟩ := h.tuple
  obtain ⟨x, ys, rfl, h2, h3⟩ := h1.inv
  obtain ⟨y, zs, rfl, h4, h5⟩ := h3.inv
  obtain ⟨z, ws, rfl, h6, h7⟩ := h5.inv
  obtain ⟨p, us, rfl, h8, hn, h9⟩ := h6.list
  rw [h7.inv0, h2.inv_str, h4.inv_int] at e
  exact ⟨a, p, us, rfl, e, h8, hn, h9⟩
abbrev sLWin : Stmt := topS 36
theorem scLWin : FnScope ["_law_batch", "_law_place", "_law_tin", "_law_one"] ["_law_batch", "_law_place", "_law_tin"] (defScope sLWin) := ⟨rfl, rfl, rfl, by decide +kernel, rfl, by decide +kernel, by decide +kernel⟩
section
variable {K : PySem.W.Frag} {mg : Str → Option Value} {P : Program} {w : World} {base : Heap}
theorem ok_LWin {f : Addr} {fd : FuncData} (F : Fun K "_law_window" "_law_window" sLWin f fd) : FnOk P w K mg base CX0 1 f fd ["_law_batch", "_law_place", "_law_tin"] spLWin := by
  refine F.ok scLWin (fun vs H Q E h => ?_) (fun cdv A outer s H vs Q E hr h => ?_)
  · obtain ⟨v, p, k, B, cs, rfl, _⟩ := h
    rfl
  · obtain ⟨v, p, k, B, cs, rfl, hv, ho, k0, k1, q⟩ := h
    refine ⟨_, pss_cons (ps_for PassesOwn.never rfl (pi_list (pe_ix ix_tup (pv 0) pe_int (fun _ _ => rfl))) (pg_name (i := 3) scLWin.nd rfl (.inl rfl))
        (pss_cons (ps_if (PW.pt (pw_and (pt_cmpR op_eq (pe_ix ix_tup (pv 3) pe_int (fun _ _ => rfl)) (pv 1) (nomark _)) (pw_and1 (pt_cmpR op_eq (pe_ix ix_tup (pv 3) pe_int (fun _ _ => rfl)) pe_str (nomark _))))) (pss_one (ps_ret (pe_tup (pa_cons (pe_op op_add (pe_ix ix_tup (pv 3) pe_int (fun _ _ => rfl)) (pe_op op_fdivW (pe_op op_mulW (pv 2) (pe_ix ix_tup (pv 3) pe_int (fun _ _ => rfl))) (pe_ix ix_tup (pv 3) pe_int (fun _ _ => rfl)))) (pa_cons (pe_op op_add (pe_ix ix_tup (pv 3) pe_int (fun _ _ => rfl)) (pe_op op_fdivW (pe_op op_mulW (pv 2) (pe_ix ix_tup (pv 3) pe_int (fun _ _ => rfl))) (pe_ix ix_tup (pv 3) pe_int (fun _ _ => rfl)))) pa_nil)))))
          pss_nil)
        (pss_one (ps_if (pt_cmpR op_eq (pe_ix ix_tup (pv 3) pe_int (fun _ _ => rfl)) (pv 1) (nomark _)) (pss_one (ps_ret (pe_ix ix_list (pe_ix ix_tup (pv 3) pe_int (fun _ _ => rfl)) (pe_op op_fdivW (pv 2) (pe_ix ix_tup (pv 3) pe_int (fun _ _ => rfl))) (fun _ _ => rfl))))
          pss_nil))))
      (pss_one (ps_ret pe_non)), ?_⟩
    have e75 : Big = 10 ^ 75 := rfl
    obtain ⟨a, l, xs, rfl, ea, el, _, hx⟩ := hv.batL
    refine ⟨_, rfl, a, _, 2, _, rfl, rfl, .inl (.inl ea), atI_nat (j := 2) rfl, l, rfl, ⟨_, SqL.of el⟩, for_list (xs := xs) (fun i σ Hx => ∃ y3, σ = [some (.ref a), some (.str p), some (.int k), y3] ∧ Hx = H ∧ ∀ j q', j < i → B.pas[j]? = some q' → q'.pl ≠ p) ⟨_, rfl, rfl, fun j q' z => absurd z (Nat.not_lt_zero _)⟩ (fun i σ Hx _ hP => ?_) (fun i x σ Hx hxi hP => ?_) (fun σ Hx hP => ?_)⟩
    · obtain ⟨_, rfl, rfl, _⟩ := hP
      exact SqL.of el
    · obtain ⟨y3, rfl, rfl, hno⟩ := hP
      obtain ⟨q', eq', hq'⟩ := hx.atM hxi
      have next : q'.pl ≠ p → ∃ y3', [some (V.ref a), some (.str p), some (.int k), some x] = [some (.ref a), some (.str p), some (.int k), y3'] ∧ Hx = Hx ∧ ∀ j q2, j < i + 1 → B.pas[j]? = some q2 → q2.pl ≠ p := fun ne => ⟨_, rfl, rfl, fun j q2 hj ej => by
        by_cases hji : j = i
        · subst hji
          rw [eq'] at ej
          cases ej
          exact ne
        · exact hno j q2 (by omega) ej⟩
      have found : q'.pl = p → winF B p k = winPas q' k := fun ep => by
        have ef : passF B.pas p = some q' := by
          unfold passF
          rw [List.find?_eq_some_iff_getElem]
          obtain ⟨hi, e⟩ := List.getElem?_eq_some_iff.mp eq'
          exact ⟨decide_eq_true ep, i, hi, e, fun j hj => by
            have := hno j B.pas[j] hj (List.getElem?_eq_getElem (by omega))
            simp [this]⟩
        unfold winF
        rw [ef]
      have hxo := ho.2.2.2.2 q' (List.mem_of_getElem? eq')
      have hk := ho.2.2.1
      cases q' with
      | line p' s l' b =>
        obtain ⟨c, rfl, e⟩ := hq'.pasL
        obtain ⟨_, h1, h2, h3, h4, h5, h6⟩ := hxo
        refine ⟨_, rfl, c, _, 1, _, rfl, rfl, .inl (.inl e), atI_nat (j := 1) rfl, _, rfl, rfl, _, rfl, ite2 (fun c1 => ?_) (fun c1 => ?_)⟩
        · have ep : p' = p := V.str.inj (of_decide_eq_true c1)
          rw [found ep] at q
          refine ⟨_, rfl, c, _, 0, _, rfl, rfl, .inl (.inl e), atI_nat (j := 0) rfl, rfl, _, rfl, iteT ?_⟩
          refine ⟨_, rfl, c, _, 2, _, rfl, rfl, .inl (.inl e), atI_nat (j := 2) rfl, _, rfl, _, rfl, c, _, 3, _, rfl, rfl, .inl (.inl e), atI_nat (j := 3) rfl, k, l', rfl, rfl, mulw (Big.lt k0 (by omega)) (Big.lt h3 h4), _, rfl, c, _, 4, _, rfl, rfl, .inl (.inl e), atI_nat (j := 4) rfl, _, b, rfl, rfl, divw (by omega) (Big.lt (by omega) h6), _, _, rfl, rfl, ?_⟩
          refine ⟨_, rfl, c, _, 2, _, rfl, rfl, .inl (.inl e), atI_nat (j := 2) rfl, _, rfl, _, rfl, c, _, 3, _, rfl, rfl, .inl (.inl e), atI_nat (j := 3) rfl, k, l', rfl, rfl, mulw (Big.lt k0 (by omega)) (Big.lt h3 h4), _, rfl, c, _, 4, _, rfl, rfl, .inl (.inl e), atI_nat (j := 4) rfl, _, b, rfl, rfl, divw (by omega) (Big.lt (by omega) h6), _, _, rfl, rfl, (by show 2 ≤ sizeLine; decide), fun T nT => ?_⟩
          exact q _ _ (same_upd nT) (thg_pair (p := (s + k * l' / b, s + k * l' / b)) upd_same)
        · have ne : p' ≠ p := fun z => c1 (decide_eq_true (congrArg V.str z))
          exact iteF ⟨_, rfl, c, _, 1, _, rfl, rfl, .inl (.inl e), atI_nat (j := 1) rfl, _, rfl, rfl, _, rfl, ite2 (fun z => absurd z c1) (fun _ => next ne)⟩
      | racks p' per st =>
        obtain ⟨c, L, us, rfl, e, eL, hu⟩ := hq'.pasR
        obtain ⟨_, h1, h2, h3, h4, h5⟩ := hxo
        refine ⟨_, rfl, c, _, 1, _, rfl, rfl, .inl (.inl e), atI_nat (j := 1) rfl, _, rfl, rfl, _, rfl, ite2 (fun c1 => ?_) (fun c1 => ?_)⟩
        · have ep : p' = p := V.str.inj (of_decide_eq_true c1)
          rw [found ep] at q
          obtain ⟨j, hj, jl⟩ := rack_at h1 h3 k0 k1
          have ewp : winPas (.racks p' per st) k = some st[j] := by
            show st[(k / per).toNat]? = _
            rw [hj, Int.toNat_natCast, List.getElem?_eq_getElem jl]
          rw [ewp] at q
          obtain ⟨x, ex, hx'⟩ := hu.at' (List.getElem?_eq_getElem jl)
          refine ⟨_, rfl, c, _, 0, _, rfl, rfl, .inl (.inl e), atI_nat (j := 0) rfl, rfl, _, rfl, iteF ?_⟩
          refine ⟨_, rfl, c, _, 1, _, rfl, rfl, .inl (.inl e), atI_nat (j := 1) rfl, _, rfl, rfl, _, rfl, ite2 (fun _ => ?_) (fun z => absurd c1 z)⟩
          exact ⟨_, rfl, c, _, 3, _, rfl, rfl, .inl (.inl e), atI_nat (j := 3) rfl, _, rfl, _, rfl, c, _, 2, _, rfl, rfl, .inl (.inl e), atI_nat (j := 2) rfl, k, per, rfl, rfl, divw (by omega) (Big.lt (by omega) h2), L, us, _, _, rfl, rfl, SqL.of eL, by rw [hj]; exact atI_nat ex, q _ _ (Same.refl _) hx'⟩
        · have ne : p' ≠ p := fun z => c1 (decide_eq_true (congrArg V.str z))
          exact iteF ⟨_, rfl, c, _, 1, _, rfl, rfl, .inl (.inl e), atI_nat (j := 1) rfl, _, rfl, rfl, _, rfl, ite2 (fun z => absurd z c1) (fun _ => next ne)⟩
    · obtain ⟨y3, rfl, rfl, hno⟩ := hP
      have ef : passF B.pas p = none := by
        unfold passF
        rw [List.find?_eq_none]
        intro q' hq'
        obtain ⟨j, hj⟩ := List.getElem?_of_mem hq'
        have hjl := (List.getElem?_eq_some_iff.mp hj).1
        have := hno j q' (by rw [hx.1, List.length_map]; exact hjl) hj
        simp [this]
      exact q _ _ (Same.refl _) (by rw [show winF B p k = none by unfold winF; rw [ef]]; exact .non)
end

/-! ## sets of texts that keep their order -/
namespace StS
open PySem PySem.Spec PyProof.Rows L2
/-- the text of an entry -/
def keyT (e : Int × Value) : Str := match e.2 with | .str x _ => x | _ => ⟨#[]⟩
/-- what the entries, the table tell of the texts that S has -/
structure Tx (w : World) (es : Array (Int × Value)) (t : SetTable) (S : Str → Bool) (n : Nat) : Prop where
  good : ∀ e ∈ es.toList, ∃ x u, e.2 = Value.str x u ∧ e.1 = hashStr w x
  uniq : (es.toList.map keyT).Nodup
  mem : ∀ x, S x = true ↔ x ∈ es.toList.map keyT
  room : es.size < scanBound
  fit : t.fits es.size = true
  num : es.size = n
  up : L2.Ris t.place.toList
  led : w.params.followText "set-order" = true ∨ t.led = true
def SetS (w : World) (h : Heap) (a : Addr) (S : Str → Bool) (n : Nat) : Prop := ∃ o es ep t, h.get? a = some o ∧ o.ExactSet ∧ o.data = .set es ep t ∧ Tx w es t S n
section
variable {P : Program} {w : World} {A : Around} {E : Value → Shared → Prop} {s : Shared} {a : Addr} {S : Str → Bool} {n : Nat}
theorem SetS.at {h h' : Heap} (R : SetS w h a S n) (k : ∀ o, h.get? a = some o → h'.get? a = some o) : SetS w h' a S n := let ⟨o, es, ep, t, e, r⟩ := R; ⟨o, es, ep, t, k o e, r⟩
theorem SetS.congr {h : Heap} {S' : Str → Bool} {n' : Nat} (R : SetS w h a S n) (q : ∀ x, S' x = S x) (qn : n' = n) : SetS w h a S' n' := by
  rw [show S' = S from funext q, qn]
  exact R
theorem isK {x y : Str} {u : Tok} : (strKind P w).is x (.str y u) = true ↔ y = x := by
  show Value.isStrOf x (.str y u) = true ↔ y = x
  simp only [Value.isStrOf, beq_iff_eq]
theorem Tx.elems {es : Array (Int × Value)} {t : SetTable} (X : Tx w es t S n) : ElemsOf (strKind P w) es.toList := fun e he => by
  obtain ⟨x, u, e1, e2⟩ := X.good e he
  refine ⟨⟨x, ?_, e2⟩, ?_⟩
  · rw [e1]
    exact isK.mpr rfl
  · rw [e1]
    rfl
theorem Tx.has {es : Array (Int × Value)} {t : SetTable} (X : Tx w es t S n) (x : Str) : S x = true ↔ ∃ e ∈ es.toList, (strKind P w).is x e.2 = true := by
  rw [X.mem x, List.mem_map]
  constructor
  · rintro ⟨e, he, q⟩
    obtain ⟨y, u, e1, _⟩ := X.good e he
    refine ⟨e, he, ?_⟩
    unfold keyT at q
    rw [e1] at q ⊢
    exact isK.mpr q
  · rintro ⟨e, he, q⟩
    obtain ⟨y, u, e1, _⟩ := X.good e he
    refine ⟨e, he, ?_⟩
    unfold keyT
    rw [e1] at q ⊢
    exact isK.mp q
theorem SetS.setOf {h : Heap} (R : SetS w h a S n) : h.SetOf (strKind P w) a S n := by
  obtain ⟨o, es, ep, t, ho, hx, hd, X⟩ := R
  exact ⟨o, es, ep, t, ho, hx, hd, X.elems, X.has, X.room, X.fit, X.num⟩
/-- what stands behind the store of an entry more -/
theorem tail_tx {g : Bool → Sem Unit} (quiet : ∀ (b : Bool) (s1 : Shared) (Q' : Unit → Shared → Prop), Q' () s1 → wpAny (model P w) A (g b) Q' E s1) {o : Obj} {es es1 : Array (Int × Value)} {ep : Nat} {t t2 : SetTable} {S' : Str → Bool} (ho : s.heap.get? a = some o) (hx : o.ExactSet) (hd : o.data = .set es ep t)
    (X : Tx w es1 t2 S' es1.size) {wasDummy : Bool} {R : Option Bool → Shared → Prop} (hR : ∀ h', Heap.SameBut a s.heap h' → SetS w h' a S' es1.size → R (some true) { s with heap := h' }) :
    wpAny (model P w) A (do
        storeSet a es1 t2
        if (!wasDummy && t2.tooFull) = true then do
            g (relayAll t2 es1 (SetTable.grown es1.size)).2.2
            storeSet a (relayAll t2 es1 (SetTable.grown es1.size)).1 (relayAll t2 es1 (SetTable.grown es1.size)).2.1
            pure (some true)
          else pure (some true)) R E s := by
  refine wpAny_bind (wpAny_storeSet_of ho hd ?_ (fits_of_scanBound X.room))
  have o1 := PpSet.storeB_at (es' := es1) (t' := t2) ho hd
  have b1 := Heap.SameBut.update s.heap a (Obj.putSet es1 t2)
  by_cases full : (!wasDummy && t2.tooFull) = true
  · rw [if_pos full]
    have pm := relayAll_perm t2 es1 (SetTable.grown es1.size)
    have q1 := relayAll_fits t2 es1 (SetTable.grown es1.size)
    have q2 := relayAll_ris t2 es1 (SetTable.grown es1.size)
    have q3 := relayAll_led t2 es1 (SetTable.grown es1.size)
    revert pm q1 q2 q3
    generalize relayAll t2 es1 (SetTable.grown es1.size) = Z
    obtain ⟨es2, t3, gave⟩ := Z
    intro pm q1 q2 q3
    have long : es2.size = es1.size := by
      have := pm.length_eq
      rwa [Array.length_toList, Array.length_toList] at this
    refine wpAny_bind (quiet _ _ _ (wpAny_bind (wpAny_storeSet_of o1 rfl ?_ (fits_of_scanBound (by show es2.size < scanBound; rw [long]; exact X.room)))))
    have o2 := PpSet.storeB_at (es' := es2) (t' := t3) o1 rfl
    exact wpAny_pure (hR _ (b1.trans (Heap.SameBut.update _ a _)) ⟨_, es2, _, t3, o2, hx, rfl, { good := fun e he => X.good e (pm.mem_iff.mp he), uniq := (pm.map keyT).nodup_iff.mpr X.uniq, mem := fun x => (X.mem x).trans (pm.map keyT).mem_iff.symm, room := (by rw [long]; exact X.room), fit := q1, num := long, up := q2, led := X.led.imp id fun z => (by rw [show t3.led = _ from q3]; exact z) }⟩)
  · rw [if_neg full]
    exact wpAny_pure (hR _ b1 ⟨_, es1, _, t2, o1, hx, rfl, X⟩)
theorem add_hashed {x : Str} {u : Tok} {Q : Bool → Shared → Prop} (R : SetS w s.heap a S n) (room : n + 1 < scanBound)
    (hQ : ∀ h', Heap.SameBut a s.heap h' → SetS w h' a (fun y => S y || decide (y = x)) (if S x = true then n else n + 1) → Q (!S x) { s with heap := h' }) : wpAny (model P w) A (setAddHashed a (.str x u) ((strKind P w).hash x)) Q E s := by
  obtain ⟨o, es, ep, t, ho, hx, hd, X⟩ := R
  have isx : (strKind P w).is x (.str x u) = true := isK.mpr rfl
  have scan : (Value.str x u).scannable = true := rfl
  have elems := X.elems (P := P)
  have quiet : ∀ (b : Bool) {s1 : Shared} {Q' : Unit → Shared → Prop}, Q' () s1 → wpAny (model P w) A (match b with | true => rule "set.scan.the-table-gave-way" | false => pure ()) Q' E s1 := fun b s1 Q' q => by
    cases b
    · exact wpAny_pure q
    · exact wpAny_rule q
  unfold setAddHashed setAddHashedIn
  refine wpAny_holding (wpAny_bind (wpAny_setState_of ho hd X.fit ?_))
  dsimp only
  rw [byScan_of scan X.room elems]
  simp only [↓reduceIte]
  unfold setAddByScan
  refine wpAny_bind (wpAny_bind (wpAny_rule (wpAny_bind (wpAny_setScan_of isx ho hd X.fit elems ?_))))
  cases found : List.findIdx? (fun e => (strKind P w).is x e.2) es.toList with
  | some j =>
    dsimp only
    obtain ⟨hj, pj, _⟩ := List.findIdx?_eq_some_iff_getElem.mp found
    have Sx : S x = true := (X.has (P := P) x).mpr ⟨_, List.getElem_mem hj, pj⟩
    have m1 : ∀ y, (S y || decide (y = x)) = true ↔ y ∈ es.toList.map keyT := fun y => by
      rw [Bool.or_eq_true, decide_eq_true_eq, ← X.mem y]
      exact ⟨fun z => z.elim id fun e => e ▸ Sx, .inl⟩
    have q := hQ s.heap (Heap.SameBut.refl a s.heap) ⟨o, es, ep, t, ho, hx, hd, { X with mem := m1, num := (by rw [if_pos Sx]; exact X.num) }⟩
    rw [Sx] at q
    exact wpAny_pure (wpAny_pure q)
  | none =>
    dsimp only
    have Sx : S x = false := by
      cases q : S x with
      | false => rfl
      | true =>
        obtain ⟨e, he, z⟩ := (X.has (P := P) x).mp q
        have := List.findIdx?_eq_none_iff.mp found e he
        rw [z] at this
        cases this
    have nx : x ∉ es.toList.map keyT := fun z => by
      rw [(X.mem x).mpr z] at Sx
      cases Sx
    have pm := layNew_perm t es ((strKind P w).hash x) (.str x u)
    have q1 := layNew_fits t es ((strKind P w).hash x) (.str x u)
    have q2 := layNew_ris t es ((strKind P w).hash x) (.str x u) X.up
    have q3 := layNew_led t es ((strKind P w).hash x) (.str x u)
    generalize layNew t es ((strKind P w).hash x) (.str x u) = Z at pm q1 q2 q3 ⊢
    obtain ⟨es1, t1, wasDummy, gave⟩ := Z
    dsimp only at pm q1 q2 q3 ⊢
    rw [Array.toList_push] at pm
    have pc : es1.toList.Perm (((strKind P w).hash x, Value.str x u) :: es.toList) := pm.trans (List.perm_append_singleton _ _)
    have pk : (es1.toList.map keyT).Perm (x :: es.toList.map keyT) := pc.map keyT
    have long : es1.size = n + 1 := by
      have := pc.length_eq
      rw [List.length_cons, Array.length_toList, Array.length_toList, X.num] at this
      exact this
    have new : ∀ t2 : SetTable, t2.fits es1.size = true → L2.Ris t2.place.toList → t2.led = t1.led → Tx w es1 t2 (fun y => S y || decide (y = x)) es1.size := fun t2 z1 z2 z3 => {
      good := fun e he => (List.mem_cons.mp (pc.mem_iff.mp he)).elim (fun z => ⟨x, u, by rw [z], by rw [z]; rfl⟩) (X.good e)
      uniq := pk.nodup_iff.mpr (List.nodup_cons.mpr ⟨nx, X.uniq⟩)
      mem := fun y => by
        rw [Bool.or_eq_true, decide_eq_true_eq, X.mem y, pk.mem_iff, List.mem_cons]
        exact Or.comm
      room := by rw [long]; exact room
      fit := z1
      num := rfl
      up := z2
      led := X.led.imp id fun z => by rw [z3, q3]; exact z }
    have fin : ∀ h', Heap.SameBut a s.heap h' → SetS w h' a (fun y => S y || decide (y = x)) es1.size → Q true { s with heap := h' } := fun h' sb r => by
      have q := hQ h' sb
      rw [Sx] at q
      rw [long] at r
      exact q r
    refine wpAny_bind (quiet _ ?_)
    split
    · refine wpAny_bind ?_
      rw [hashByValue_scannable 8 scan]
      refine wpAny_pure (tail_tx (fun b s1 Q' q => quiet b q) ho hx hd (new _ ?_ ?_ ?_) fun h' sb r => ?_)
      · first | (split <;> first | exact q1 | exact SetTable.fits_plain_off q1) | exact q1
      · first | (split <;> exact q2) | exact q2
      · first | (split <;> rfl) | rfl
      · dsimp only
        exact wpAny_pure (fin h' sb r)
    · refine wpAny_bind (wpAny_pure ?_)
      simp only [↓reduceIte]
      refine tail_tx (fun b s1 Q' q => quiet b q) ho hx hd (new t1 q1 q2 rfl) fun h' sb r => ?_
      dsimp only
      exact wpAny_pure (fin h' sb r)
/-- the set's add -/
theorem add_str {x : Str} {u : Tok} {Q : Value → Shared → Prop} (R : SetS w s.heap a S n) (room : n + 1 < scanBound)
    (hQ : ∀ h', Heap.SameBut a s.heap h' → SetS w h' a (fun y => S y || decide (y = x)) (if S x = true then n else n + 1) → Q .none { s with heap := h', toks := s.toks + 1 }) : wpAny (model P w) A (call (.builtin "set.add") [.ref a, .str x u]) Q E s := by
  refine wpAny_call_entry F.slot_set_add (SetS.setOf (P := P) R).typeIs F.entry_set_add ?_ (F.args_set_add_2 _ _)
  unfold Builtin.«set.add» Builtin.Frozenset.oneOther Builtin.Frozenset.addrOf setAdd
  simp only [List.isEmpty_nil, bind_assoc]
  refine wpAny_bind (wpAny_pure ?_)
  try dsimp only
  refine wpAny_bind (wpAny_pure ?_)
  try dsimp only
  refine wpAny_bind (wpAny_holding (wpAny_bind ((strKind P w).pyHash (k := x) (isK.mpr rfl) ?_)))
  refine add_hashed (s := { s with toks := s.toks + 1 }) R room fun h' sb r => ?_
  show wpAny _ _ (ret Value.none) _ _ _
  exact wpAny_pure ⟨_, rfl, hQ h' sb r⟩
theorem new_at {h : Heap} (ho : h.get? a = some { cls := .type "set", dict := none, data := .set #[] 0 (.fresh 0 0 (!w.params.followText "set-order")) }) : SetS w h a (fun _ => false) 0 :=
  have l : w.params.followText "set-order" = true ∨ (!w.params.followText "set-order") = true := by
    cases w.params.followText "set-order"
    · exact .inr rfl
    · exact .inl rfl
  ⟨_, #[], 0, _, ho, ⟨rfl, rfl, rfl⟩, rfl, ⟨(fun e he => by simp at he), (by simp), (fun x => by simp), (by decide), (by rfl), rfl, List.Pairwise.nil, l⟩⟩
theorem strs_all : ∀ (l : List Value), (∀ v ∈ l, ∃ x u, v = Value.str x u) → StrsAre l (l.map fun v => keyT (0, v))
  | [], _ => .nil
  | v :: l, h => by
    obtain ⟨x, u, rfl⟩ := h v (List.mem_cons_self ..)
    exact .cons x u (strs_all l fun y hy => h y (List.mem_cons_of_mem _ hy))
/-- sorted of a set of texts -/
theorem sorted_txts {Q : Value → Shared → Prop} (R : SetS w s.heap a S n) (calm : A.handled = none) (few : n < 64)
    (end_ : ∀ st p (out : Array Value) (c : Nat) (xs : List Str), (∀ b o, s.heap.get? b = some o → st.heap.get? b = some o) → st.gens = s.gens → st.os = s.os → s.heap.objs.size ≤ p → st.heap.get? p = some (seqObj "list" out c) → StrsAre out.toList xs → sortedS xs = true → xs.Nodup → (∀ x, x ∈ xs ↔ S x = true) → xs.length = n → Q (.ref p) st) :
    wpAny (model P w) A (call (.builtin "sorted") [.ref a]) Q E s := by
  obtain ⟨o, es, ep, t, ho, hx, hd, X⟩ := R
  refine Calls.call_function_entry kind_sorted plain_sorted entry_sorted (args_sorted1 _) ?_
  unfold Builtin.«sorted»
  refine wpAny_bind (m := checkCount "sorted" 1 1 _) (wpAny_pure (wpAny_bind (collect_set (A := A.in1) calm ⟨o, ho, hx.1, hd⟩ X.fit X.room X.up X.led fun s1 vs k1 hz g1 o1 pm => ?_)))
  have vlen : vs.length = n := by
    rw [pm.length_eq, List.length_map, Array.length_toList]
    exact X.num
  have isS := strs_all vs fun v hv => by
    obtain ⟨e, he, q⟩ := List.mem_map.mp (pm.mem_iff.mp hv)
    obtain ⟨x, u, e1, _⟩ := X.good e he
    exact ⟨x, u, by rw [← q]; exact e1⟩
  have keys : (vs.map fun v => keyT (0, v)).Perm (es.toList.map keyT) := by
    have q := pm.map fun v => keyT (0, v)
    rwa [List.map_map] at q
  refine wpAny_bind (wpAny_newList ?_ (by rw [vlen, sizeLine_eq]; omega))
  have new1 : (s1.heap.push (seqObj "list" vs.toArray 0)).get? s1.heap.objs.size = some (seqObj "list" vs.toArray 0) := Heap.get?_push_size _ rfl
  refine wpAny_bind (wpAny_holding (wpAny_call_entry slot_list_sort ⟨_, new1, rfl⟩ entry_list_sort (list_sort_treeK strKind_oneLt new1 isS.keysOf (fun v1 v2 rest e => keyKind_strs (by rw [← e]; exact isS)) (by rw [vlen]; exact few) fun st' hp hs => ⟨_, rfl, ?_⟩) (args_list_sort _)))
  obtain ⟨ys, g1', g2, g3⟩ := sorted_out_str isS hp hs
  obtain ⟨c, hc⟩ := sortedHeap_at (vs := vs) (out := (arrOf st').map (·.2)) new1
  have pn := g2.trans keys
  refine wpAny_pure ⟨_, rfl, end_ _ s1.heap.objs.size _ c ys (fun b u e => ?_) g1 o1 hz hc g1' g3 (pn.nodup_iff.mpr X.uniq) (fun x => by rw [pn.mem_iff, ← X.mem x]) (by rw [pn.length_eq, List.length_map, Array.length_toList]; exact X.num)⟩
  have q := k1 b u e
  have lt := Heap.lt_size q
  show (sortedHeap (s1.heap.push (seqObj "list" vs.toArray 0)) s1.heap.objs.size vs _).get? b = some u
  rw [sortedHeap_old (Nat.ne_of_lt lt) (by rw [size_push']; exact Nat.lt_succ_of_lt lt)]
  exact Heap.get?_push_of_some _ q
end
/-- a set of texts, as it is tracked -/
def SetSO (w : World) (a : Addr) (S : Str → Bool) (n : Nat) : HO := .ext fun h => SetS w h a S n
theorem setSO_new {w : World} {P : Program} {H : Hp} {h : Heap} {a : Addr} {S : Str → Bool} {n : Nat} (R : SetS w h a S n) : ObjOk P w H h a (SetSO w a S n) := ⟨R, let ⟨o, _, _, _, ho, _⟩ := R; ⟨o, ho⟩, fun _ _ x k => x.at k⟩
theorem setSO_get {X : Cx} {pins : List (Addr × Obj)} {σ : L2.St} {H : Hp} {s : Shared} {a : Addr} {S : Str → Bool} {n : Nat} (I : Inv X pins σ H s) (ha : H a = some (SetSO X.w a S n)) : SetS X.w s.heap a S n := (I.hok a _ ha).1
/-- sorted of such a set -/
def rSortedTx (w : World) : List V → Hp → VK → Prop := fun vs H Q => ∃ (a : Addr) (S : Str → Bool) (n : Nat), vs = [V.ref a] ∧ H a = some (SetSO w a S n) ∧ n < 64 ∧ ∀ (xs : List Str) (p : Addr), sortedS xs = true → xs.Nodup → (∀ x, x ∈ xs ↔ S x = true) → xs.length = n → H p = none → Q (.ref p) (upd H p (.lst (xs.map V.str)))
theorem cr_sortedTx {X : Cx} (hc : X.calm = true) : CallR X (.builtin "sorted") (rSortedTx X.w) := by
  intro pins s σ H vs us Q I r h
  obtain ⟨a, S, n, rfl, ha, few, q⟩ := h
  rw [Vals.ref1 r]
  refine sorted_txts (setSO_get I ha) (I.ok.hd hc) few fun st p out c xs k g o hp hg isS up nd mem cnt => ?_
  have len : (xs.map V.str).length ≤ sizeLine := by
    rw [List.length_map, cnt, sizeLine_eq]
    omega
  have new : H p = none := I.hok.fresh hp
  have J : Inv X pins σ (upd H p (.lst (xs.map V.str))) { s with heap := st.heap, gens := st.gens, drawn := st.drawn, toks := st.toks } :=
    I.call (ch := []) (Un.laid k hp new) (I.hok.laid k hp ⟨len, out.toList, c, vals_of_strs isS, hg⟩) (by rw [g]; exact I.bare) (fun _ z => nomatch z)
  have e : st = { s with heap := st.heap, gens := st.gens, drawn := st.drawn, toks := st.toks } := by
    cases st
    cases s
    cases o
    rfl
  rw [e]
  exact ⟨.ref p, _, J, rfl, q xs p up nd mem cnt new⟩
theorem addS_ok {X : Cx} {pins : List (Addr × Obj)} {σ : L2.St} {H : Hp} {s : Shared} {E : Value → Shared → Prop} {D : Addr} {S : Str → Bool} {n : Nat} {x : Str} {u : Tok} {Q : Value → Shared → Prop} (I : Inv X pins σ H s) (hD : H D = some (SetSO X.w D S n)) (room : n + 1 < scanBound)
    (q : ∀ s', Inv X pins σ (upd H D (SetSO X.w D (fun y => S y || decide (y = x)) (if S x = true then n else n + 1))) s' → Q .none s') : wpAny (model X.prog X.w) X.A (call (.builtin "set.add") [.ref D, .str x u]) Q E s := by
  refine add_str (setSO_get I hD) room fun h' sb new => q _ ?_
  exact I.write (e := D) (t' := s.toks + 1) (by rw [hD]; trivial) (.inl rfl) (fun b v hb hv => (sb.2 b hb).trans hv) (let ⟨o, _, _, _, ho, _⟩ := new; ⟨o, ho⟩) (setSO_new new)
end StS
/-! ### {elt for tg in iter if .. for tg1 in iter1 if ..}, elt a text -/
namespace StS
open PySem PySem.Spec PyProof.Rows L2
section
variable {prog : Program} {w : World} {A : Around} {R : Result → Shared → Prop} {s : Shared} {elt t0 i0 t1 i1 : Expr} {ifs0 ifs1 : List Expr} {scope : Scope} {pos : Pos} {it acc : Value} {env : Env}
abbrev Sc2 (elt t0 i0 t1 i1 : Expr) (ifs0 ifs1 : List Expr) (scope : Scope) (pos : Pos) : Expr := .SetComp elt [⟨t0, i0, ifs0, 0⟩, ⟨t1, i1, ifs1, 0⟩] scope pos
theorem turn_out : compTurn (Sc2 elt t0 i0 t1 i1 ifs0 ifs1 scope pos) 0 it acc env = (standAt i0.pos >>= fun _ => pyNext it >>= fun r => match r with
      | none => pure (.done .next)
      | some v => do
        letOwnedTupleGo t0 it v
        assign t0 env v
        let mut ok := true
        for c in ifs0 do
          if ok then ok ← isTrue c env (eval c env)
        if ok then
          let x ← eval i1 env
          standAt i1.pos
          let x ← foldedSetIterable i1 env x
          let _ ← runOwn (.compStart (Sc2 elt t0 i0 t1 i1 ifs0 ifs1 scope pos) 1 (← holding [x] (pyIter x)) acc env) env
        again (.compLoop (Sc2 elt t0 i0 t1 i1 ifs0 ifs1 scope pos) 0 it acc env)) := by rfl
theorem turn_in : compTurn (Sc2 elt t0 i0 t1 i1 ifs0 ifs1 scope pos) 1 it acc env = (standAt i1.pos >>= fun _ => pyNext it >>= fun r => match r with
      | none => pure (.done .next)
      | some v => do
        letOwnedTupleGo t1 it v
        assign t1 env v
        let mut ok := true
        for c in ifs1 do
          if ok then ok ← isTrue c env (eval c env)
        if ok then
          (do let v ← eval elt env; standAt elt.pos; let _ ← call (.builtin "set.add") [acc, v])
        again (.compLoop (Sc2 elt t0 i0 t1 i1 ifs0 ifs1 scope pos) 1 it acc env)) := by rfl
/-- what is asked of the tests of a clause -/
abbrev tests (ifs : List Expr) (env : Env) : Sem Bool := forIn ifs true fun c r => if r = true then do let ok ← isTrue c env (eval c env); pure (ForInStep.yield ok) else pure (ForInStep.yield r)
theorem loop_out (hs : ∀ x, foldedSetIterable i1 env x = pure x) (I : Nat → Shared → Prop)
    (turn : ∀ n s, I n s → wpAny (model prog w) A (pyNext it) (fun r s1 => match r with
      | none => R (.ok .next) s1
      | some v => wpAny (model prog w) A (letOwnedTupleGo t0 it v) (fun _ s2 => wpAny (model prog w) A (assign t0 env v) (fun _ s3 => wpAny (model prog w) A (tests ifs0 env) (fun ok s4 =>
            if ok = true then wpAny (model prog w) A (eval i1 env) (fun x s5 => wpAny (model prog w) A (pyIter x) (fun it1 s6 =>
              codeAny (model prog w) A (.compStart (Sc2 elt t0 i0 t1 i1 ifs0 ifs1 scope pos) 1 it1 acc env) (fun r s' => match r with
                | .ok _ => ∃ m, m < n ∧ I m s'
                | .error _ => False) s6) (notedBy (model prog w) A env fun e s' => R (.error e) s') s5) (notedBy (model prog w) A env fun e s' => R (.error e) s') s4
            else ∃ m, m < n ∧ I m s4) (notedBy (model prog w) A env fun e s' => R (.error e) s') s3) (notedBy (model prog w) A env fun e s' => R (.error e) s') s2) (notedBy (model prog w) A env fun e s' => R (.error e) s') s1) (notedBy (model prog w) A env fun e s' => R (.error e) s') s)
    (n : Nat) (h : I n s) : codeAny (model prog w) A (.compLoop (Sc2 elt t0 i0 t1 i1 ifs0 ifs1 scope pos) 0 it acc env) R s := by
  refine codeAny_loop rfl I (fun n s hI => ?_) n h
  show wpAny _ A ((compTurn (Sc2 elt t0 i0 t1 i1 ifs0 ifs1 scope pos) 0 it acc env).onRaise (fun x => do noteFrame x env; theTreesLotGoes x)) _ _ s
  refine wpAny_noted ?_
  rw [turn_out]
  refine wpAny_bind (wpAny_standAt (wpAny_bind (wpAny_mono (turn n s hI) (fun r s1 h1 => ?_) fun _ _ x => x)))
  cases r with
  | none => exact wpAny_pure h1
  | some v =>
    refine wpAny_bind (wpAny_mono h1 (fun _ s2 h2 => wpAny_bind (wpAny_mono h2 (fun _ s3 h3 => wpAny_bind (wpAny_mono h3 (fun ok s4 h4 => ?_) fun _ _ x => x)) fun _ _ x => x)) fun _ _ x => x)
    cases ok with
    | false => exact wpAny_pure ⟨rfl, h4⟩
    | true =>
      refine wpAny_bind (wpAny_mono h4 (fun x s5 h5 => wpAny_bind (wpAny_standAt (wpAny_bind (wpAny_of_eq (hs x) (wpAny_bind (wpAny_holding (wpAny_mono h5 (fun it1 s6 h6 => ?_) fun _ _ x => x))))))) fun _ _ x => x)
      refine wpAny_bind (wpAny_runOwn ?_)
      rw [Around.mark_none]
      refine codeAny_mono h6 fun r s' hr => ?_
      cases r with
      | error e => exact hr.elim
      | ok f =>
        first
          | exact wpAny_pure ⟨rfl, hr⟩
          | exact wpAny_bind (wpAny_pure (wpAny_pure ⟨rfl, hr⟩))
theorem loop_in (I : Nat → Shared → Prop)
    (turn : ∀ n s, I n s → wpAny (model prog w) A (pyNext it) (fun r s1 => match r with
      | none => R (.ok .next) s1
      | some v => wpAny (model prog w) A (letOwnedTupleGo t1 it v) (fun _ s2 => wpAny (model prog w) A (assign t1 env v) (fun _ s3 => wpAny (model prog w) A (tests ifs1 env) (fun ok s4 =>
            if ok = true then wpAny (model prog w) A (eval elt env) (fun x s5 => wpAny (model prog w) A (call (.builtin "set.add") [acc, x]) (fun _ s6 => ∃ m, m < n ∧ I m s6) (notedBy (model prog w) A env fun e s' => R (.error e) s') s5) (notedBy (model prog w) A env fun e s' => R (.error e) s') s4
            else ∃ m, m < n ∧ I m s4) (notedBy (model prog w) A env fun e s' => R (.error e) s') s3) (notedBy (model prog w) A env fun e s' => R (.error e) s') s2) (notedBy (model prog w) A env fun e s' => R (.error e) s') s1) (notedBy (model prog w) A env fun e s' => R (.error e) s') s)
    (n : Nat) (h : I n s) : codeAny (model prog w) A (.compLoop (Sc2 elt t0 i0 t1 i1 ifs0 ifs1 scope pos) 1 it acc env) R s := by
  refine codeAny_loop rfl I (fun n s hI => ?_) n h
  show wpAny _ A ((compTurn (Sc2 elt t0 i0 t1 i1 ifs0 ifs1 scope pos) 1 it acc env).onRaise (fun x => do noteFrame x env; theTreesLotGoes x)) _ _ s
  refine wpAny_noted ?_
  rw [turn_in]
  refine wpAny_bind (wpAny_standAt (wpAny_bind (wpAny_mono (turn n s hI) (fun r s1 h1 => ?_) fun _ _ x => x)))
  cases r with
  | none => exact wpAny_pure h1
  | some v =>
    refine wpAny_bind (wpAny_mono h1 (fun _ s2 h2 => wpAny_bind (wpAny_mono h2 (fun _ s3 h3 => wpAny_bind (wpAny_mono h3 (fun ok s4 h4 => ?_) fun _ _ x => x)) fun _ _ x => x)) fun _ _ x => x)
    cases ok with
    | false => exact wpAny_pure ⟨rfl, h4⟩
    | true => exact wpAny_bind (wpAny_bind (wpAny_mono h4 (fun x s5 h5 => wpAny_bind (wpAny_standAt (wpAny_bind (wpAny_mono h5 (fun _ s6 h6 => wpAny_pure (wpAny_pure ⟨rfl, h6⟩)) fun _ _ x => x)))) fun _ _ x => x))
theorem start_in (h0 : codeAny (model prog w) A (.compLoop (Sc2 elt t0 i0 t1 i1 ifs0 ifs1 scope pos) 1 it acc env) R s)
    (h : wpAny (model prog w) A (pyIter it) (fun it' s' => codeAny (model prog w) A (.compLoop (Sc2 elt t0 i0 t1 i1 ifs0 ifs1 scope pos) 1 it' acc env) R s') (notedBy (model prog w) A env fun x s' => R (.error x) s') s) :
    codeAny (model prog w) A (.compStart (Sc2 elt t0 i0 t1 i1 ifs0 ifs1 scope pos) 1 it acc env) R s := by
  refine codeAny_of_tree ?_
  show wpAny _ _ ((compStart (Sc2 elt t0 i0 t1 i1 ifs0 ifs1 scope pos) 1 it acc env).onRaise (fun x => do noteFrame x env; standAt theWindowsPlace)) _ _ s
  refine wpAny_notedAt ?_
  unfold compStart
  show wpAny _ _ (ask >>= _) _ _ s
  refine wpAny_bind (wpAny_askSetting (wpAny_ite ?_))
  split
  · first
      | exact wpAny_bind (wpAny_pure (wpAny_pure ⟨rfl, h0⟩))
      | exact wpAny_pure ⟨rfl, h0⟩
  · first
      | exact wpAny_bind (wpAny_rule (wpAny_bind (wpAny_standAt (wpAny_bind (wpAny_mono h (fun it' s' z => wpAny_pure ⟨rfl, z⟩) fun _ _ x => x)))))
      | (refine wpAny_bind (wpAny_rule ?_); show wpAny _ _ (standAt i1.pos >>= _) _ _ s; exact wpAny_bind (wpAny_standAt (wpAny_bind (wpAny_mono h (fun it' s' z => wpAny_pure ⟨rfl, z⟩) fun _ _ x => x))))
end
section
variable {X : Cx}
def tSc2 (w : World) (wi : TI) (g : TG) (tt : TT) (wi1 : TI) (g1 : TG) (tt1 : TT) (te : TE) (vs vs1 : List Nat) : TE := fun σ H Q => wi σ H fun J H1 => ∀ D, H1 D = none → ∃ W : Nat → Nat → Hp → Prop, (∃ m, W 0 m (upd H1 D (SetSO w D (fun _ => false) 0))) ∧ ∀ i m H, W i m H →
  (J.stop i H ∧ Q (.ref D) H) ∨ (J.go i H ∧ ∃ Nx : Hp → Prop, (∀ H', Nx H' → ∃ m', m' < m ∧ W (i + 1) m' H') ∧ ∀ x H', J.yld i H x H' → g x (wipe σ vs) H' fun σ2 H2 => wipe σ2 vs = wipe σ vs ∧ tt σ2 H2 fun b H3 =>
    if b = true then wi1 σ2 H3 fun J1 H4 => ∃ W1 : Nat → Nat → Hp → Prop, (∃ m, W1 0 m H4) ∧ ∀ j k H, W1 j k H →
      (J1.stop j H ∧ Nx H) ∨ (J1.go j H ∧ ∃ Nx1 : Hp → Prop, (∀ H', Nx1 H' → ∃ k', k' < k ∧ W1 (j + 1) k' H') ∧ ∀ x H', J1.yld j H x H' → g1 x (wipe σ2 vs1) H' fun σ3 H5 => wipe σ3 vs1 = wipe σ2 vs1 ∧ tt1 σ3 H5 fun b H6 =>
        if b = true then te σ3 H6 fun y H7 => ∃ (z : Str) (S : Str → Bool) (n : Nat), y = .str z ∧ H7 D = some (SetSO w D S n) ∧ n + 1 < scanBound ∧ Nx1 (upd H7 D (SetSO w D (fun v => S v || decide (v = z)) (if S z = true then n else n + 1))) else Nx1 H6)
    else Nx H3)
theorem sc2_core {pins : List (Addr × Obj)} {s : Shared} {σ : L2.St} {H : Hp} {Q : VK} {elt tg iter tg1 iter1 : Expr} {ifs ifs1 : List Expr} {scope : Scope} {own : List (Str × Nat)} {vs1 : List Nat} {pos pos' : Pos} {wi wi1 : TI} {g g1 : TG} {tt tt1 : TT} {te : TE} {use : Option (Value → Sem Unit)} {Qf : Value → Shared → Prop}
    (hc : X.calm = true) (hN : X.N.Nodup) (I : Inv X pins σ H s) (hi : PI X tg iter wi) (ok : BlkOk X.N X.env.scope scope own) (hv : ∀ i ∈ vs1, i ∈ own.map (·.2))
    (hb : ∀ (s : Shared) (H : Hp) (C : Addr) (cl : List (Str × Addr)) (fp : List Addr), PG (X.blk s H scope (compEnvC scope cl C X.env) fp) tg g ∧ PTs (X.blk s H scope (compEnvC scope cl C X.env) fp) ifs tt ∧ PI (X.blk s H scope (compEnvC scope cl C X.env) fp) tg1 iter1 wi1 ∧ PG (X.blk s H scope (compEnvC scope cl C X.env) fp) tg1 g1 ∧
      PTs (X.blk s H scope (compEnvC scope cl C X.env) fp) ifs1 tt1 ∧ PE (X.blk s H scope (compEnvC scope cl C X.env) fp) elt te)
    (hs : ∀ x, foldedSetIterable iter X.env x = pure x) (hs1 : ∀ env x, foldedSetIterable iter1 env x = pure x) (h : tSc2 X.w wi g tt wi1 g1 tt1 te (own.map (·.2)) vs1 σ H Q)
    (hRR : ∀ D C s' m H', Inv X pins σ H' s' → Q (.ref D) H' → s'.heap.Ns C m → FpOk X pins H' C → compPost (model X.prog X.w) X.A X.xe use Qf (.ref D) C (.ok .next) s') :
    wpAny (model X.prog X.w) X.A (comprehension (Sc2 elt tg iter tg1 iter1 ifs ifs1 scope pos) scope X.env pos' (newSet (.type "set")) false (eval iter X.env) use) Qf X.xe s := by
  have hfree : ∀ y ∈ scope.names, y.2 = .free → ∃ c, X.env.cells.lookup y.1 = some c := fun y hy e => (ok.free y hy e).elim (fun k => I.ok.has _ (.inl k)) fun k => I.ok.has _ (.inr k)
  refine wpAny_comprehension_free (use := use) rfl hs (closure_ok hfree) ok.kind (fun y hy e => by rw [ok.uniq y hy, e]) (thn (hi.run pins s σ H _ I h) fun xv s1 hx => thn hx fun itv s2 h2 => ?_)
  obtain ⟨it, fp, tn, J, H2, e, I2, T, st2, f2, q⟩ := h2
  subst e
  refine PpSet.newSet_ok (newEnv_comp ?_)
  generalize hD : s2.heap.objs.size = D
  have hDn : H2 D = none := I2.hok.fresh (Nat.le_of_eq hD)
  obtain ⟨W, ⟨m0, w0⟩, turn⟩ := q D hDn
  generalize hs3 : ({ s2 with heap := s2.heap.push { cls := .type "set", dict := none, data := .set #[] 0 (.fresh 0 0 (!X.w.params.followText "set-order")) } } : Shared) = s3
  have I3 : Inv X pins σ (upd H2 D (SetSO X.w D (fun _ => false) 0)) s3 := by
    rw [← hs3]
    refine I2.laid (t' := s2.toks) (fun b o e => Heap.get?_push_of_some _ e) (Nat.le_of_eq hD) ?_
    rw [← hD]
    exact setSO_new (new_at (Heap.get?_push_size _ rfl))
  have h3 : s3.heap = s2.heap.push { cls := .type "set", dict := none, data := .set #[] 0 (.fresh 0 0 (!X.w.params.followText "set-order")) } := by rw [← hs3]
  have f3 : ∀ b ∈ fp, FpOk X pins (upd H2 D (SetSO X.w D (fun _ => false) 0)) b ∧ b < s3.heap.objs.size := fun b hb => by
    obtain ⟨o, e, _⟩ := T.obj _ _ st2 b hb
    have lt := Heap.lt_size e
    refine ⟨⟨?_, (f2 b hb).2⟩, by rw [h3, Heap.size_push]; exact Nat.lt_succ_of_lt lt⟩
    rw [upd_ne (by rw [← hD]; exact Nat.ne_of_lt lt)]
    exact (f2 b hb).1
  have st3 : tn 0 s3.heap := T.keep _ _ _ st2 fun b _ o e => by rw [h3]; exact Heap.get?_push_of_some _ e
  have I4 := block_start I3 ok hN f3
  have pb := hb s3 (upd H2 D (SetSO X.w D (fun _ => false) 0)) s3.heap.objs.size (cellsFrom (s3.heap.objs.size + 1) scope.names (cloFrom X.env.cells scope.names [])) fp
  show codeAny _ _ (.compStart (Sc2 elt tg iter tg1 iter1 ifs ifs1 scope pos) 0 (.ref it) (.ref D) (compEnvC scope (cellsFrom (s3.heap.objs.size + 1) scope.names (cloFrom X.env.cells scope.names [])) s3.heap.objs.size X.env)) (compPost (model X.prog X.w) X.A X.xe use Qf (.ref D) s3.heap.objs.size) { s3 with heap := pushCells (s3.heap.push { cls := .type "dict", data := .dict #[] }) scope.names }
  have nfp : ∀ b ∈ fp, (upd H2 D (SetSO X.w D (fun _ => false) 0)) b = none := fun b hb => (f3 b hb).1.1
  generalize hce : compEnvC scope (cellsFrom (s3.heap.objs.size + 1) scope.names (cloFrom X.env.cells scope.names [])) s3.heap.objs.size X.env = ce at I4 pb ⊢
  have cL : ce.locals = s3.heap.objs.size := by subst hce; rfl
  generalize hH3 : upd H2 D (SetSO X.w D (fun _ => false) 0) = H3 at I3 I4 pb w0 nfp f3
  obtain ⟨pg, pt, pi1, pg1, pt1, pe⟩ := pb
  generalize hs4 : ({ s3 with heap := pushCells (s3.heap.push { cls := .type "dict", data := .dict #[] }) scope.names } : Shared) = s4 at I4 ⊢
  have st4 : tn 0 s4.heap := T.keep _ _ _ st3 fun b _ o e => by rw [← hs4]; exact pushCells_keeps _ _ _ _ (Heap.get?_push_of_some _ e)
  let Y : Cx := X.blk s3 H3 scope ce fp
  have stat : ∀ {σ' : L2.St} {H' : Hp} {s' : Shared}, Inv Y [] σ' H' s' → (∀ b ∈ fp, H' b = none) → ∀ b ∈ fp, FpOk Y [] H' b := fun {σ' H' s'} I' hn b hb =>
    ⟨hn b hb, (I'.ok.exf b hb).1, I'.ok.exfs b hb, .inl hb, fun x c e => (I'.ok.exf b hb).2 x c e, fun p hp => absurd (show p ∈ ([] : List (Addr × Obj)) ++ [] from hp) (by simp)⟩
  let σw := wipe σ (own.map (·.2))
  have loop : codeAny (model X.prog X.w) X.A (.compLoop (Sc2 elt tg iter tg1 iter1 ifs ifs1 scope pos) 0 (.ref it) (.ref D) ce) (compPost (model X.prog X.w) X.A X.xe use Qf (.ref D) s3.heap.objs.size) s4 := by
    refine loop_out (hs1 ce) (fun n s' => ∃ i H', Inv Y [] σw H' s' ∧ tn i s'.heap ∧ (∀ b ∈ fp, H' b = none) ∧ W i n H') ?_ m0 ⟨0, H3, I4, st4, nfp, w0⟩
    rintro n s5 ⟨i, H5, I5, st5, n5, w5⟩
    rcases turn i n H5 w5 with ⟨stop, qq⟩ | ⟨go, Nx, hNx, step⟩
    · refine thnF (T.done Y rfl rfl rfl hc i [] s5 _ H5 (fun _ _ => False) I5 (stat I5 n5) st5 stop) fun r s6 ⟨hr, I6⟩ => ?_
      subst hr
      have I7 : Inv X pins σ H5 s6 := I3.call' (ch := fp) I6.os I6.base I6.hok I6.bare fun b hb => let z := (f3 b hb).1; ⟨z.2.2.2.1, z.2.1, z.2.2.2.2.1, z.2.2.2.2.2⟩
      have nC : H5 ce.locals = none := I6.free
      obtain ⟨m, hn, _⟩ := I6.loc
      have hn : s6.heap.Ns ce.locals m := hn
      rw [cL] at hn nC
      exact hRR D s3.heap.objs.size s6 m H5 I7 qq hn (I3.fpOk (Nat.le_refl _) nC)
    · refine thnF (T.item Y rfl rfl rfl hc i [] s5 _ H5 (fun _ _ => False) I5 (stat I5 n5) st5 go) fun r s6 ⟨u, hr, h6⟩ => ?_
      subst hr
      refine thnF h6 fun _ s7 ⟨x, H7, I7, r7, y7, st7, n7⟩ => ?_
      refine thnF (pg.run _ s7 _ H7 x u _ (I7.pinned (stat I7 n7) (T.obj _ _ st7)) r7 (step x H7 y7)) fun _ s8 ⟨σ8, H8, I8, hw8, q8⟩ => ?_
      refine thnF (pt.run _ s8 σ8 H8 _ I8 q8) fun b s9 ⟨H9, I9, q9⟩ => ?_
      have fin : ∀ {σ9 : L2.St} {s' : Shared} {H' : Hp}, Inv Y ([] ++ pinsAt fp s7.heap) σ9 H' s' → σw.length = σ9.length → (∀ (j : Nat) v, σw[j]? = some (some v) → σ9[j]? = some (some v)) → Nx H' → ∃ m, m < n ∧ ∃ i H', Inv Y [] σw H' s' ∧ tn i s'.heap ∧ (∀ b ∈ fp, H' b = none) ∧ W i m H' := fun {σ9 s' H'} I' hl hk nx => by
        obtain ⟨m', hm, w'⟩ := hNx H' nx
        have pin' : ∀ b ∈ fp, ∀ o, s7.heap.get? b = some o → s'.heap.get? b = some o ∧ H' b = none := fun b hb o e =>
          let z := I'.pin (b, o) (List.mem_append_right _ (List.mem_append_right _ (mem_pinsAt hb e)))
          ⟨z.1, z.2.1⟩
        refine ⟨m', hm, i + 1, H', (I'.unpinned (pins := [])).weak hl hk, T.keep _ _ _ st7 fun b hb o e => (pin' b hb o e).1, fun b hb => ?_, w'⟩
        obtain ⟨o, e, _⟩ := T.obj _ _ st7 b hb
        exact (pin' b hb o e).2
      have hl8 : σw.length = σ8.length := by rw [show σw = wipe σ8 (own.map (·.2)) from hw8.symm, wipe_length]
      have hk8 : ∀ (j : Nat) v, σw[j]? = some (some v) → σ8[j]? = some (some v) := fun j v e => by
        rw [show σw = wipe σ8 (own.map (·.2)) from hw8.symm] at e
        exact (wipe_some e).1
      have hk9 : ∀ (j : Nat) v, σw[j]? = some (some v) → (wipe σ8 vs1)[j]? = some (some v) := fun j v e => by
        rw [show σw = wipe σ8 (own.map (·.2)) from hw8.symm] at e
        obtain ⟨e1, e2⟩ := wipe_some e
        rw [wipe_out fun z => e2 (hv j z)]
        exact e1
      cases b with
      | false =>
        simp only [Bool.false_eq_true, if_false] at q9 ⊢
        exact fin I9 hl8 hk8 q9
      | true =>
        simp only [if_true] at q9 ⊢
        refine thnF (pi1.run _ s9 σ8 H9 _ I9 q9) fun xv s10 hx => thnF hx fun itv s11 h11 => ?_
        obtain ⟨it1, fp1, tn1, J1, H11, e1, I11, T1, st11, f11, W1, ⟨m1, w1⟩, turn1⟩ := h11
        subst e1
        have stat1 : ∀ {H' : Hp}, (∀ b ∈ fp1, H' b = none) → ∀ b ∈ fp1, FpOk Y ([] ++ pinsAt fp s7.heap) H' b := fun hn b hb => ⟨hn b hb, (f11 b hb).2⟩
        have loop1 : codeAny (model X.prog X.w) X.A (.compLoop (Sc2 elt tg iter tg1 iter1 ifs ifs1 scope pos) 1 (.ref it1) (.ref D) ce)
            (fun r s' => match r with
              | .ok _ => ∃ m, m < n ∧ ∃ i H', Inv Y [] σw H' s' ∧ tn i s'.heap ∧ (∀ b ∈ fp, H' b = none) ∧ W i m H'
              | .error _ => False) s11 := by
          refine loop_in (fun k s' => ∃ j H', Inv Y ([] ++ pinsAt fp s7.heap) (wipe σ8 vs1) H' s' ∧ tn1 j s'.heap ∧ (∀ b ∈ fp1, H' b = none) ∧ W1 j k H') ?_ m1 ⟨0, H11, I11.weak (wipe_length _ _) (fun j v e => (wipe_some e).1), st11, fun b hb => (f11 b hb).1, w1⟩
          rintro k s12 ⟨j, H12, I12, st12, n12, w12⟩
          rcases turn1 j k H12 w12 with ⟨stop1, nx1⟩ | ⟨go1, Nx1, hNx1, step1⟩
          · refine thnF (T1.done Y rfl rfl rfl hc j _ s12 (wipe σ8 vs1) H12 (fun _ _ => False) I12 (stat1 n12) st12 stop1) fun r s13 ⟨hr, I13⟩ => ?_
            subst hr
            exact fin I13 (hl8.trans (wipe_length σ8 vs1).symm) hk9 nx1
          · refine thnF (T1.item Y rfl rfl rfl hc j _ s12 (wipe σ8 vs1) H12 (fun _ _ => False) I12 (stat1 n12) st12 go1) fun r s13 ⟨u1, hr, h13⟩ => ?_
            subst hr
            refine thnF h13 fun _ s14 ⟨x1, H14, I14, r14, y14, st14, n14⟩ => ?_
            refine thnF (pg1.run _ s14 (wipe σ8 vs1) H14 x1 u1 _ (I14.pinned (stat1 n14) (T1.obj _ _ st14)) r14 (step1 x1 H14 y14)) fun _ s15 ⟨σ15, H15, I15, hw15, q15⟩ => ?_
            refine thnF (pt1.run _ s15 σ15 H15 _ I15 q15) fun b1 s16 ⟨H16, I16, q16⟩ => ?_
            have fin1 : ∀ {s' : Shared} {H' : Hp}, Inv Y (([] ++ pinsAt fp s7.heap) ++ pinsAt fp1 s14.heap) σ15 H' s' → Nx1 H' → ∃ m, m < k ∧ ∃ j H', Inv Y ([] ++ pinsAt fp s7.heap) (wipe σ8 vs1) H' s' ∧ tn1 j s'.heap ∧ (∀ b ∈ fp1, H' b = none) ∧ W1 j m H' := fun {s' H'} I' nx => by
              obtain ⟨m', hm, w'⟩ := hNx1 H' nx
              have pin' : ∀ b ∈ fp1, ∀ o, s14.heap.get? b = some o → s'.heap.get? b = some o ∧ H' b = none := fun b hb o e =>
                let z := I'.pin (b, o) (List.mem_append_right _ (List.mem_append_right _ (mem_pinsAt hb e)))
                ⟨z.1, z.2.1⟩
              refine ⟨m', hm, j + 1, H', I'.unpinned.weak (by rw [← hw15, wipe_length]) (fun j v e => by rw [← hw15] at e; exact (wipe_some e).1), T1.keep _ _ _ st14 fun b hb o e => (pin' b hb o e).1, fun b hb => ?_, w'⟩
              obtain ⟨o, e, _⟩ := T1.obj _ _ st14 b hb
              exact (pin' b hb o e).2
            cases b1 with
            | false =>
              simp only [Bool.false_eq_true, if_false] at q16 ⊢
              exact fin1 I16 q16
            | true =>
              simp only [if_true] at q16 ⊢
              refine thnF (pe.run _ s16 σ15 H16 _ I16 q16) fun zv s17 ⟨yv, H17, I17, r17, z, S0, n0, ey, hD17, room, nx⟩ => ?_
              subst ey
              obtain ⟨u, rfl⟩ : ∃ u, zv = Value.str z u := r17
              exact addS_ok (X := Y) I17 hD17 room fun s18 I18 => fin1 I18 nx
        exact start_in loop1 (T1.self X.A 0 _ _ _ st11 loop1)
  exact PpSet.codeAny_compStart_set loop (T.self X.A 0 _ _ _ st4 loop)
theorem pe_sc2 {elt tg iter tg1 iter1 : Expr} {ifs ifs1 : List Expr} {scope : Scope} {own : List (Str × Nat)} {vs1 : List Nat} {pos : Pos} {wi wi1 : TI} {g g1 : TG} {tt tt1 : TT} {te : TE} (hc : X.calm = true) (hN : X.N.Nodup) (hi : PI X tg iter wi) (ok : BlkOk X.N X.env.scope scope own) (hv : ∀ i ∈ vs1, i ∈ own.map (·.2))
    (hb : ∀ (s : Shared) (H : Hp) (C : Addr) (cl : List (Str × Addr)) (fp : List Addr), PG (X.blk s H scope (compEnvC scope cl C X.env) fp) tg g ∧ PTs (X.blk s H scope (compEnvC scope cl C X.env) fp) ifs tt ∧ PI (X.blk s H scope (compEnvC scope cl C X.env) fp) tg1 iter1 wi1 ∧ PG (X.blk s H scope (compEnvC scope cl C X.env) fp) tg1 g1 ∧
      PTs (X.blk s H scope (compEnvC scope cl C X.env) fp) ifs1 tt1 ∧ PE (X.blk s H scope (compEnvC scope cl C X.env) fp) elt te)
    (hs : ∀ x, foldedSetIterable iter X.env x = pure x := by intro _; rfl) (hs1 : ∀ env x, foldedSetIterable iter1 env x = pure x := by intro _ _; rfl) :
    PE X (.SetComp elt [⟨tg, iter, ifs, 0⟩, ⟨tg1, iter1, ifs1, 0⟩] scope pos) (tSc2 X.w wi g tt wi1 g1 tt1 te (own.map (·.2)) vs1) := by
  refine ⟨fun pins s σ H Q I h => ?_⟩
  rw [PpSet.eval_SetComp]
  refine sc2_core hc hN I hi ok hv hb hs hs1 h fun D C s' m H' I' q hn f => ⟨m, hn, fun h'' sb => ?_⟩
  obtain ⟨f0, f1, f2, f3, f4, f5⟩ := f
  exact ⟨.ref D, H', I'.turned (t' := s'.toks) (fun b o hb e => (sb.2 b hb).trans e) f0 f1 f3 f4 f5, rfl, q⟩
end
end StS

/-! ### where and when a fault can have been: the numbers -/
open Classical in
noncomputable def minL (xs : List Int) : Int := if h : ∃ m, m ∈ xs ∧ ∀ x ∈ xs, m ≤ x then Classical.choose h else 0
open Classical in
noncomputable def maxL (xs : List Int) : Int := if h : ∃ m, m ∈ xs ∧ ∀ x ∈ xs, x ≤ m then Classical.choose h else 0
theorem minL_eq {xs : List Int} {m : Int} (h1 : m ∈ xs) (h2 : ∀ x ∈ xs, m ≤ x) : minL xs = m := by
  unfold minL
  have h : ∃ m, m ∈ xs ∧ ∀ x ∈ xs, m ≤ x := ⟨m, h1, h2⟩
  rw [dif_pos h]
  have := Classical.choose_spec h
  have a := this.2 m h1
  have b := h2 _ this.1
  omega
theorem maxL_eq {xs : List Int} {m : Int} (h1 : m ∈ xs) (h2 : ∀ x ∈ xs, x ≤ m) : maxL xs = m := by
  unfold maxL
  have h : ∃ m, m ∈ xs ∧ ∀ x ∈ xs, x ≤ m := ⟨m, h1, h2⟩
  rw [dif_pos h]
  have := Classical.choose_spec h
  have a := this.2 m h1
  have b := h2 _ this.1
  omega
/-- the set of all that these stretches have -/
noncomputable def setL (ps : List (Int × Int)) : List (Int × Int) := canon (InS ps)
/-- the gaps of a set, from a minute on -/
def gapsO : Int → List (Int × Int) → List (Int × Option Int)
  | s, [] => [(s, none)]
  | s, p :: r => (if s < p.1 then [(s, some (p.1 - 1))] else []) ++ gapsO (p.2 + 1) r
/-- the gaps ahead of the last one -/
def gapsI : Int → List (Int × Int) → List (Int × Option Int)
  | _, [] => []
  | s, p :: r => (if s < p.1 then [(s, some (p.1 - 1))] else []) ++ gapsI (p.2 + 1) r
def endI : Int → List (Int × Int) → Int
  | s, [] => s
  | _, p :: r => endI (p.2 + 1) r
theorem gapsO_eq : ∀ (s : Int) (ps : List (Int × Int)), gapsO s ps = gapsI s ps ++ [(endI s ps, none)]
  | _, [] => rfl
  | s, p :: r => by
    show _ ++ gapsO (p.2 + 1) r = (_ ++ gapsI (p.2 + 1) r) ++ _
    rw [gapsO_eq, List.append_assoc]
    rfl
theorem gapsI_snoc : ∀ (s : Int) (ps : List (Int × Int)) (p : Int × Int), gapsI s (ps ++ [p]) = gapsI s ps ++ (if endI s ps < p.1 then [(endI s ps, some (p.1 - 1))] else []) ∧ endI s (ps ++ [p]) = p.2 + 1
  | s, [], p => ⟨by show _ ++ gapsI (p.2 + 1) [] = [] ++ _; rw [List.nil_append]; exact List.append_nil _, rfl⟩
  | s, q :: r, p => by
    have ih := gapsI_snoc (q.2 + 1) r p
    refine ⟨?_, ih.2⟩
    show _ ++ gapsI (q.2 + 1) (r ++ [p]) = (_ ++ gapsI (q.2 + 1) r) ++ _
    rw [ih.1, List.append_assoc]
    rfl
theorem gapsI_len : ∀ (s : Int) (ps : List (Int × Int)), (gapsI s ps).length ≤ ps.length
  | _, [] => Nat.le_refl _
  | s, p :: r => by
    have := gapsI_len (p.2 + 1) r
    show (_ ++ gapsI (p.2 + 1) r).length ≤ r.length + 1
    rw [List.length_append]
    split
    · show 1 + _ ≤ _; omega
    · show 0 + _ ≤ _; omega
def optI : Option Int → PyData
  | none => .none
  | some i => .int i
def optV : Option Int → V
  | none => .non
  | some i => .int i
theorem thg_opt {cs : List Addr} {H : Hp} (o : Option Int) : Thg cs H (optV o) (optI o) := by cases o; exact .non; exact .int _
theorem Thg.inv_opt {cs : List Addr} {H : Hp} {v : V} {o : Option Int} (h : Thg cs H v (optI o)) : v = optV o := by cases o; exact h.inv_non; exact h.inv_int
def gapD (g : Int × Option Int) : PyData := .tuple [.int g.1, optI g.2]
abbrev Row4 := Int × Option Int × Int × Int
def row4D (r : Row4) : PyData := .tuple [.int r.1, optI r.2.1, .int r.2.2.1, .int r.2.2.2]
/-- the row of a gap -/
def rowG (fe lb : Int) (g : Int × Option Int) : Option Row4 := match g.2 with
  | none => if g.1 ≤ fe then some (g.1, none, fe, if g.1 > lb then g.1 else lb) else none
  | some l => if g.1 ≤ fe ∧ lb ≤ l then some (g.1, some l, if l < fe then l else fe, if g.1 > lb then g.1 else lb) else none
noncomputable def faultF (bad good : List (Int × Int)) : List Row4 := (gapsO 0 (setL good)).filterMap (rowG (minL (bad.map (·.2))) (maxL (bad.map (·.1))))
abbrev Seen := List (Option (Int × Int) × Bool)
def badsF (seen : Seen) : List (Option (Int × Int)) := (seen.filter (·.2)).map (·.1)
def goodsF (seen : Seen) : List (Int × Int) := (seen.filter fun x => !x.2).filterMap (·.1)
open Classical in
noncomputable def rowsAtF (seen : Seen) : List Row4 := if none ∈ badsF seen then [] else faultF ((badsF seen).filterMap id) (goodsF seen)
def winT (bs : List Bat3) (p : Str) (t : Tst) : Option (Int × Int) := match bs.find? fun B => decide (B.mark = t.mark) with
  | none => none
  | some B => winF B p t.tin
def seenF (bs : List Bat3) (ts : List Tst) (p : Str) : Seen := ts.map fun t => (winT bs p t, t.bad)
abbrev Row5 := Str × Row4
def row5D (r : Row5) : PyData := .tuple [.str r.1, .int r.2.1, optI r.2.2.1, .int r.2.2.2.1, .int r.2.2.2.2]
noncomputable def suspF (bs : List Bat3) (ts : List Tst) (xs : List Str) : List Row5 := xs.flatMap fun p => (rowsAtF (seenF bs ts p)).map fun r => (p, r)
/-- some pass is of this place -/
def PlaceP (bs : List Bat3) (x : Str) : Prop := ∃ B ∈ bs, ∃ q ∈ B.pas, q.pl = x
/-- the rising list of these -/
structure SrtT (pr : Str → Prop) (xs : List Str) : Prop where
  up : sortedS xs = true
  nd : xs.Nodup
  mem : ∀ x, x ∈ xs ↔ pr x
structure CaseOk (bs : List Bat3) (ts : List Tst) : Prop where
  nd : (bs.map Bat3.mark).Nodup
  bat : ∀ B ∈ bs, BatOk B
  bl : bs.length ≤ 100
  few : ∃ zs : List Str, zs.length < 64 ∧ ∀ x, PlaceP bs x → x ∈ zs
  tst : ∀ t ∈ ts, ∃ B ∈ bs, B.mark = t.mark ∧ 0 ≤ t.tin ∧ t.tin < B.tins
  tl : ts.length ≤ 300
theorem winT_of {bs : List Bat3} {ts : List Tst} (h : CaseOk bs ts) {t : Tst} (ht : t ∈ ts) (p : Str) : ∃ B ∈ bs, B.mark = t.mark ∧ winT bs p t = winF B p t.tin ∧ 0 ≤ t.tin ∧ t.tin < B.tins := by
  obtain ⟨B, hB, hm, h0, h1⟩ := h.tst t ht
  cases e : bs.find? fun B => decide (B.mark = t.mark) with
  | none =>
    have := List.find?_eq_none.mp e B hB
    simp [hm] at this
  | some B' =>
    have hm' : B'.mark = t.mark := of_decide_eq_true (List.find?_some (p := fun B : Bat3 => decide (B.mark = t.mark)) e)
    have hB' := List.mem_of_find?_eq_some e
    have eq : B' = B := by
      obtain ⟨i, hi, ei⟩ := List.getElem_of_mem hB'
      obtain ⟨j, hj, ej⟩ := List.getElem_of_mem hB
      have : i = j := (List.getElem_inj (h₀ := by rw [List.length_map]; exact hi) (h₁ := by rw [List.length_map]; exact hj) h.nd).mp (by rw [List.getElem_map, List.getElem_map, ei, ej, hm, hm'])
      subst this
      rw [← ei, ← ej]
    subst eq
    exact ⟨B', hB, hm, by unfold winT; rw [e], h0, h1⟩
/-- batches, each a list or a tuple of passes -/
def BatsR (bs : List Bat3) (ds : List PyData) : Prop := ds.length = bs.length ∧ ∀ (i : Nat) B d, bs[i]? = some B → ds[i]? = some d → BatR B d
theorem batsR (bs : List Bat3) : BatsR bs (bs.map batD) := ⟨List.length_map _, fun i B d e1 e2 => by
  rw [List.getElem?_map, e1] at e2
  cases e2
  exact batR⟩
theorem ThgL.bat {cs : List Addr} {H : Hp} {xs : List V} {ds : List PyData} {bs : List Bat3} {i : Nat} {x : V} (h : ThgL cs H xs ds) (r : BatsR bs ds) (e : xs[i]? = some x) : ∃ B d, bs[i]? = some B ∧ BatR B d ∧ Thg cs H x d := by
  obtain ⟨d, ed, hd⟩ := h.at e
  have hi : i < bs.length := by rw [← r.1]; exact (List.getElem?_eq_some_iff.mp ed).1
  exact ⟨_, d, List.getElem?_eq_getElem hi, r.2 i _ d (List.getElem?_eq_getElem hi) ed, hd⟩
/-! ### places -/
theorem walk_W {J : It} {n : Nat} {G : Hp → Prop} {Y : Nat → Hp → V → Hp → Prop} (w : Walk J n G Y) {Bd : V → Hp → (Hp → Prop) → Prop} {Qd : Hp → Prop} {H1 : Hp} (Pv : Nat → Hp → Prop) (h0 : Pv 0 H1) (hG : ∀ i H, i ≤ n → Pv i H → G H) (turn : ∀ i x H H', i < n → Pv i H → Y i H x H' → Bd x H' (Pv (i + 1))) (fin : ∀ H, Pv n H → Qd H) :
    ∃ W : Nat → Nat → Hp → Prop, (∃ m, W 0 m H1) ∧ ∀ i m H, W i m H → (J.stop i H ∧ Qd H) ∨ (J.go i H ∧ ∃ Nx : Hp → Prop, (∀ H', Nx H' → ∃ m', m' < m ∧ W (i + 1) m' H') ∧ ∀ x H', J.yld i H x H' → Bd x H' Nx) := by
  refine ⟨fun i m H => m = n - i ∧ i ≤ n ∧ Pv i H, ⟨n, by simp, Nat.zero_le _, h0⟩, ?_⟩
  rintro i m H ⟨rfl, hi, p⟩
  have q := hG i H hi p
  by_cases lt : i < n
  · exact .inr ⟨w.goes i H lt q, Pv (i + 1), fun H' p' => ⟨n - (i + 1), by omega, rfl, lt, p'⟩, fun x H' y => turn i x H H' lt p (w.yields i H x H' lt q y)⟩
  · obtain rfl : i = n := by omega
    exact .inl ⟨w.stops H q, fin H p⟩
theorem iseq_W1 {K : PySem.W.Frag} {H : Hp} {a : Addr} {xs : List V} {Bd : V → Hp → (Hp → Prop) → Prop} {Qd : Hp → Prop} (h : SqH H a xs) (Pv : Nat → Hp → Prop) (h0 : Pv 0 H) (hs : ∀ i H', Pv i H' → ∀ o, H a = some o → H' a = some o) (turn : ∀ i x H', xs[i]? = some x → Pv i H' → Bd x H' (Pv (i + 1))) (fin : ∀ H', Pv xs.length H' → Qd H') :
    ((∃ xs, SqL K H a xs) ∧ ∃ W : Nat → Nat → Hp → Prop, (∃ m, W 0 m H) ∧ ∀ i m H, W i m H → ((Itl K a).stop i H ∧ Qd H) ∨ ((Itl K a).go i H ∧ ∃ Nx : Hp → Prop, (∀ H', Nx H' → ∃ m', m' < m ∧ W (i + 1) m' H') ∧ ∀ x H', (Itl K a).yld i H x H' → Bd x H' Nx)) ∨
    ((∃ xs, SqT K H a xs) ∧ ∃ W : Nat → Nat → Hp → Prop, (∃ m, W 0 m H) ∧ ∀ i m H, W i m H → ((Itt K a).stop i H ∧ Qd H) ∨ ((Itt K a).go i H ∧ ∃ Nx : Hp → Prop, (∀ H', Nx H' → ∃ m', m' < m ∧ W (i + 1) m' H') ∧ ∀ x H', (Itt K a).yld i H x H' → Bd x H' Nx)) := by
  rcases h with e | e
  · exact .inl ⟨⟨_, SqL.of e⟩, walk_W (walk_list (xs := xs)) Pv h0 (fun i H' _ p => SqL.of (hs i H' p _ e)) (fun i x H1 H' _ p ⟨e1, e2⟩ => by subst e1; exact turn i x _ e2 p) fin⟩
  · exact .inr ⟨⟨_, .inl (.inl e)⟩, walk_W (walk_tup (xs := xs)) Pv h0 (fun i H' _ p => .inl (.inl (hs i H' p _ e))) (fun i x H1 H' _ p ⟨e1, e2⟩ => by subst e1; exact turn i x _ e2 p) fin⟩
theorem iseq_W {K : PySem.W.Frag} {H : Hp} {a : Addr} {xs : List V} {ini : Addr → Hp} {Bd : Addr → V → Hp → (Hp → Prop) → Prop} {Qd : Addr → Hp → Prop} (h : SqH H a xs) (Pv : Addr → Nat → Hp → Prop) (h0 : ∀ D, H D = none → Pv D 0 (ini D)) (hs : ∀ D i H', H D = none → Pv D i H' → ∀ o, H a = some o → H' a = some o) (turn : ∀ D i x H', H D = none → xs[i]? = some x → Pv D i H' → Bd D x H' (Pv D (i + 1))) (fin : ∀ D H', H D = none → Pv D xs.length H' → Qd D H') :
    ((∃ xs, SqL K H a xs) ∧ ∀ D, H D = none → ∃ W : Nat → Nat → Hp → Prop, (∃ m, W 0 m (ini D)) ∧ ∀ i m H, W i m H → ((Itl K a).stop i H ∧ Qd D H) ∨ ((Itl K a).go i H ∧ ∃ Nx : Hp → Prop, (∀ H', Nx H' → ∃ m', m' < m ∧ W (i + 1) m' H') ∧ ∀ x H', (Itl K a).yld i H x H' → Bd D x H' Nx)) ∨
    ((∃ xs, SqT K H a xs) ∧ ∀ D, H D = none → ∃ W : Nat → Nat → Hp → Prop, (∃ m, W 0 m (ini D)) ∧ ∀ i m H, W i m H → ((Itt K a).stop i H ∧ Qd D H) ∨ ((Itt K a).go i H ∧ ∃ Nx : Hp → Prop, (∀ H', Nx H' → ∃ m', m' < m ∧ W (i + 1) m' H') ∧ ∀ x H', (Itt K a).yld i H x H' → Bd D x H' Nx)) := by
  rcases h with e | e
  · exact .inl ⟨⟨_, SqL.of e⟩, fun D nD => walk_W (walk_list (xs := xs)) (Pv D) (h0 D nD) (fun i H' _ p => SqL.of (hs D i H' nD p _ e)) (fun i x H1 H' _ p ⟨e1, e2⟩ => by subst e1; exact turn D i x _ nD e2 p) (fun H' p => fin D H' nD p)⟩
  · exact .inr ⟨⟨_, .inl (.inl e)⟩, fun D nD => walk_W (walk_tup (xs := xs)) (Pv D) (h0 D nD) (fun i H' _ p => .inl (.inl (hs D i H' nD p _ e))) (fun i x H1 H' _ p ⟨e1, e2⟩ => by subst e1; exact turn D i x _ nD e2 p) (fun H' p => fin D H' nD p)⟩
/-- the texts of a set: so many, unlike -/
def HasT (S : Str → Bool) (n : Nat) (pr : Str → Prop) : Prop := ∃ l : List Str, l.Nodup ∧ l.length = n ∧ (∀ x, S x = true ↔ x ∈ l) ∧ ∀ x, x ∈ l ↔ pr x
theorem HasT.add {S : Str → Bool} {n : Nat} {pr pr' : Str → Prop} {z : Str} (h : HasT S n pr) (e : ∀ x, pr' x ↔ pr x ∨ x = z) : HasT (fun v => S v || decide (v = z)) (if S z = true then n else n + 1) pr' := by
  obtain ⟨l, nd, ll, hS, hp⟩ := h
  by_cases c : S z = true
  · rw [if_pos c]
    refine ⟨l, nd, ll, fun x => ?_, fun x => ?_⟩
    · rw [Bool.or_eq_true, decide_eq_true_eq, hS x]
      exact ⟨fun y => y.elim id fun y => y ▸ (hS z).mp c, .inl⟩
    · rw [e x, hp x]
      exact ⟨.inl, fun y => y.elim id fun y => y ▸ (hp z).mp ((hS z).mp c)⟩
  · rw [if_neg c]
    refine ⟨z :: l, List.nodup_cons.mpr ⟨fun y => c ((hS z).mpr y), nd⟩, by rw [List.length_cons, ll], fun x => ?_, fun x => ?_⟩
    · rw [Bool.or_eq_true, decide_eq_true_eq, hS x, List.mem_cons]
      exact Or.comm
    · rw [List.mem_cons, e x, hp x]
      exact Or.comm
theorem HasT.le {S : Str → Bool} {n : Nat} {pr : Str → Prop} (h : HasT S n pr) {zs : List Str} (hz : ∀ x, pr x → x ∈ zs) : n ≤ zs.length := by
  obtain ⟨l, nd, ll, _, hp⟩ := h
  rw [← ll]
  exact nodup_len nd fun x hx => hz x ((hp x).mp hx)
def spPassed (K : PySem.W.Frag) : Sp := fun vs H Q _ => ∃ (a : Addr) (xs : List V) (ds : List PyData) (bs : List Bat3) (cs : List Addr), vs = [.ref a] ∧ SqH H a xs ∧ ThgL cs H xs ds ∧ BatsR bs ds ∧ (∃ zs : List Str, zs.length < 64 ∧ ∀ x, PlaceP bs x → x ∈ zs) ∧
  ∀ l ps H', H l = none → Same H H' → H' l = some (.lst (ps.map V.str)) → SrtT (PlaceP bs) ps → ps.length < 64 → Q (.ref l) H'
abbrev sPassed : Stmt := topS 19
theorem scPassed : FnScope ["batches", "batch", "passed"] ["batches"] (defScope sPassed) := ⟨rfl, rfl, rfl, by decide +kernel, rfl, by decide +kernel, by decide +kernel⟩
section
variable {K : PySem.W.Frag} {mg : Str → Option Value} {P : Program} {w : World} {base : Heap}
theorem ok_Passed {f : Addr} {fd : FuncData} (F : Fun K "places_passed" "places_passed" sPassed f fd) (m_sorted : mg "sorted" = none) : FnOk P w K mg base CX0 1 f fd ["batches"] (spPassed K) := by
  refine F.ok scPassed (fun vs H Q E h => ?_) (fun cdv A outer s H vs Q E hr h => ?_)
  · obtain ⟨a, xs, ds, bs, cs, rfl, _⟩ := h
    rfl
  · obtain ⟨a, xs, ds, bs, cs, rfl, ha, hx, hR, ⟨zs, hzl, hz⟩, q⟩ := h
    refine ⟨_, pss_one (ps_ret (pe_callB (StS.cr_sortedTx rfl) (by rfl) m_sorted (by decide +kernel) (pa_cons (StS.pe_sc2 (own := [("batch", 1), ("passed", 2)]) (vs1 := [2]) (g := gName 1) (g1 := gName 2) (tt := tYes) (tt1 := tYes) (wi1 := iSeq K (tOp (rIxT K) (tVar 1) (tC (.int 2)))) (te := tOp (rIxT K) (tVar 2) (tC (.int 1))) rfl scPassed.nd (pi_seq (pv 0)) (blkOk_by (own := [("batch", 1), ("passed", 2)]) (N := ["batches", "batch", "passed"]) (sc := defScope sPassed) (by decide +kernel)) (by decide) (fun _ _ _ _ _ => ⟨pg_name (i := 1) scPassed.nd rfl (.inl rfl), pts_nil, pi_seq (pe_ix ix_tup (pv 1) pe_int (fun _ _ => rfl)), pg_name (i := 2) scPassed.nd rfl (.inl rfl), pts_nil, pe_ix ix_tup (pv 2) pe_int (fun _ _ => rfl)⟩)) pa_nil))), ?_⟩
    refine ⟨_, rfl, a, rfl, ?_⟩
    have hl : xs.length = bs.length := by rw [hx.1, hR.1]
    refine iseq_W ha (fun D i H' => ∃ (S : Str → Bool) (n : Nat), H' D = some (StS.SetSO w D S n) ∧ HasT S n (fun x => ∃ B ∈ bs.take i, ∃ q ∈ B.pas, q.pl = x) ∧ ∀ b o, b ≠ D → H b = some o → H' b = some o)
      (fun D nD => ⟨_, 0, upd_same, ⟨[], List.nodup_nil, rfl, by simp, by simp⟩, fun b o nb e => by rw [upd_ne nb]; exact e⟩) (fun D i H' nD ⟨S, n, eD, _, k⟩ o e => k _ _ (ne_of_none e nD) e) (fun D i x H1 nD hxi ⟨S, n, eD, hS, k⟩ => ?_) (fun D H' nD ⟨S, n, eD, hS, k⟩ => ?_)
    · obtain ⟨B, d, eB, hB, hv⟩ := hx.bat hR hxi
      have kH : ∀ {H2 : Hp}, (∀ b o, b ≠ D → H b = some o → H2 b = some o) → ∀ {cs : List Addr} {v : V} {d : PyData}, Thg cs H v d → Thg cs H2 v d := by
        intro H2 k2 cs v d h
        exact h.ext (fun a ys _ e => k2 _ _ (ne_of_none e nD) e) fun a ys e => k2 _ _ (ne_of_none e nD) e
      obtain ⟨b, l, us, rfl, eb, hl', hu⟩ := hv.bat hB
      have eb1 := k _ _ (ne_of_none eb nD) eb
      have hl1 : SqH H1 l us := hl'.imp (fun e => k _ _ (ne_of_none e nD) e) (fun e => k _ _ (ne_of_none e nD) e)
      have lD : l ≠ D := hl'.elim (fun e => ne_of_none e nD) (fun e => ne_of_none e nD)
      have hi : i < bs.length := (List.getElem?_eq_some_iff.mp eB).1
      have et : bs.take (i + 1) = bs.take i ++ [B] := by rw [List.take_add_one, eB]; rfl
      have hul : us.length = B.pas.length := by rw [hu.1, List.length_map]
      have sub : ∀ (B' : Bat3) (q' : Pas3), (B' ∈ bs.take i ∨ B' = B) → q' ∈ B'.pas → PlaceP bs q'.pl := fun B' q' h hq => ⟨B', h.elim (fun z => List.mem_of_mem_take z) (fun z => z ▸ List.mem_of_getElem? eB), q', hq, rfl⟩
      refine ⟨rfl, _, rfl, b, _, 2, _, rfl, rfl, .inl (.inl eb1), atI_nat (j := 2) rfl, l, rfl, iseq_W1 hl1 (fun j H' => ∃ (S : Str → Bool) (n : Nat), H' D = some (StS.SetSO w D S n) ∧ HasT S n (fun x => (∃ B ∈ bs.take i, ∃ q ∈ B.pas, q.pl = x) ∨ ∃ q ∈ B.pas.take j, q.pl = x) ∧ ∀ b o, b ≠ D → H b = some o → H' b = some o) ⟨S, n, eD, ?_, k⟩ (fun j H' ⟨S, n, eD, _, k2⟩ o e => ?_) (fun j x H2 hxj ⟨S2, n2, eD2, hS2, k2⟩ => ?_) (fun H2 ⟨S2, n2, eD2, hS2, k2⟩ => ?_)⟩
      · obtain ⟨l0, g1, g2, g3, g4⟩ := hS
        exact ⟨l0, g1, g2, g3, fun x => (g4 x).trans ⟨.inl, fun y => y.elim id fun ⟨_, z, _⟩ => by simp at z⟩⟩
      · rcases hl' with f | f
        · have := k _ _ lD f
          rw [this] at e
          cases e
          exact k2 _ _ lD f
        · have := k _ _ lD f
          rw [this] at e
          cases e
          exact k2 _ _ lD f
      · obtain ⟨q', eq', hq'⟩ := hu.atM hxj
        obtain ⟨c, x0, r, rfl, ec, _⟩ := (kH k2 hq').pas
        have hq2 : q' ∈ B.pas := List.mem_of_getElem? eq'
        have le := hS2.le (zs := zs) fun x hx' => hz x (by
          rcases hx' with ⟨B', hB', q2, hq2', rfl⟩ | ⟨q2, hq2', rfl⟩
          · exact sub B' q2 (.inl hB') hq2'
          · exact sub B q2 (.inr rfl) (List.mem_of_mem_take hq2'))
        refine ⟨rfl, _, rfl, c, _, 1, _, rfl, rfl, .inl (.inl ec), atI_nat (j := 1) rfl, q'.pl, S2, n2, rfl, eD2, Nat.lt_of_lt_of_le (show n2 + 1 < 100 by omega) (by decide), _, _, upd_same, hS2.add fun x => ?_, fun b' o nb e => by rw [upd_ne nb]; exact k2 _ _ nb e⟩
        rw [List.take_add_one, eq']
        constructor
        · rintro (h | ⟨q2, hq2', rfl⟩)
          · exact .inl (.inl h)
          · rcases List.mem_append.mp hq2' with h | h
            · exact .inl (.inr ⟨q2, h, rfl⟩)
            · have h : q2 ∈ [q'] := h
              rw [List.mem_singleton.mp h]
              exact .inr rfl
        · rintro ((h | ⟨q2, h, rfl⟩) | rfl)
          · exact .inl h
          · exact .inr ⟨q2, List.mem_append_left _ h, rfl⟩
          · exact .inr ⟨q', List.mem_append_right _ (List.mem_singleton.mpr rfl), rfl⟩
      · refine ⟨S2, n2, eD2, ?_, k2⟩
        obtain ⟨l0, g1, g2, g3, g4⟩ := hS2
        refine ⟨l0, g1, g2, g3, fun x => (g4 x).trans ?_⟩
        rw [hul, List.take_length, et]
        constructor
        · rintro (⟨B', h, q2, h2, rfl⟩ | ⟨q2, h, rfl⟩)
          · exact ⟨B', List.mem_append_left _ h, q2, h2, rfl⟩
          · exact ⟨B, List.mem_append_right _ (List.mem_singleton.mpr rfl), q2, h, rfl⟩
        · rintro ⟨B', h, q2, h2, rfl⟩
          rcases List.mem_append.mp h with h | h
          · exact .inl ⟨B', h, q2, h2, rfl⟩
          · rw [List.mem_singleton.mp h] at h2
            exact .inr ⟨q2, h2, rfl⟩
    · have hl2 : xs.length = bs.length := by rw [hx.1, hR.1]
      rw [hl2, List.take_length] at hS
      have le := hS.le hz
      refine ⟨D, S, n, rfl, eD, by omega, fun ps p up nd mem cnt np => ?_⟩
      have sp := same_upd (o := .lst (ps.map V.str)) np
      obtain ⟨l0, g1, g2, g3, g4⟩ := hS
      have s0 : Same H H' := fun b o e => k _ _ (ne_of_none e nD) e
      exact q p ps _ (s0.free np) (s0.trans sp) upd_same ⟨up, nd, fun x => (mem x).trans ((g3 x).trans (g4 x))⟩ (by omega)
end

/-! ### rows walked by generator expressions, comprehensions -/
theorem NoTab.same {H H' : Hp} (s : Same H H') : GX.NoTab H H' := .of s
theorem SqH.noTab {H H' : Hp} {a : Addr} {xs : List V} (h : SqH H a xs) (n : GX.NoTab H H') : SqH H' a xs := h.elim (fun e => .inl (n.lst e)) (fun e => .inr (n.tup e))
theorem LsQ.noTab {H H' : Hp} {a : Addr} {rs : List (Int × Int)} (h : LsQ H a rs) (n : GX.NoTab H H') : LsQ H' a rs := by
  obtain ⟨us, e, p⟩ := h
  exact ⟨us, e.noTab n, p.1, fun i r er => let ⟨x, h1, h2⟩ := p.2 i r er; ⟨x, h1, n.tup h2⟩⟩
theorem IntsQ.noTab {H H' : Hp} {a : Addr} {ns : List Int} (h : IntsQ H a ns) (n : GX.NoTab H H') : IntsQ H' a ns := SqH.noTab h n
theorem iseq_lc {K : PySem.W.Frag} {H : Hp} {a : Addr} {xs : List V} {g : TG} {tt : TT} {te : TE} {vs : List Nat} {σ : L2.St} {Qd : Addr → Hp → Prop} (h : SqH H a xs) (r : ∀ J G, Walk J xs.length G (YAt xs) → (∀ H', GX.NoTab H H' → G H') → ∀ D, H D = none → LcR J g tt te vs σ D Qd H) :
    ((∃ xs, SqL K H a xs) ∧ ∀ D, H D = none → LcR (Itl K a) g tt te vs σ D Qd H) ∨ ((∃ xs, SqT K H a xs) ∧ ∀ D, H D = none → LcR (Itt K a) g tt te vs σ D Qd H) := by
  rcases h with e | e
  · exact .inl ⟨⟨_, SqL.of e⟩, r _ _ walk_list fun H' n => SqL.of (n.lst e)⟩
  · exact .inr ⟨⟨_, .inl (.inl e)⟩, r _ _ walk_tup fun H' n => .inl (.inl (n.tup e))⟩

/-! ### zip of a list and a tuple -/
def ItzM (K : PySem.W.Frag) (a b : Addr) : It :=
  ⟨fun i H => ∃ (xs ys : List V) (x y : V), SqL K H a xs ∧ SqT K H b ys ∧ xs[i]? = some x ∧ ys[i]? = some y,
    fun i H v H' => ∃ T x y, v = .ref T ∧ H T = none ∧ H' = upd H T (.tup [x, y]) ∧ (∀ xs, SqL K H a xs → xs[i]? = some x) ∧ ∀ ys, SqT K H b ys → ys[i]? = some y,
    fun i H => ∃ xs ys : List V, SqL K H a xs ∧ SqT K H b ys ∧ i ≤ xs.length ∧ i ≤ ys.length ∧ (i = xs.length ∨ i = ys.length)⟩
theorem turn_zipM {P : Program} {w : World} {K : PySem.W.Frag} {elts : List Expr} {kk : Nat} {tpos : Pos} {a b z TI TO i1 i2 : Addr} (D : ZipSep2 z TI TO i1 i2 [i1, a] [i2, b]) (n1 : a ≠ i1) (n2 : b ≠ i2) :
    Turn P w K (.Tuple elts kk tpos) (ItzM K a b) [z, TI, TO, i1, i2] z (fun i h => IsZip h z TI TO .none ∧ IsTupOf2 h TI (.ref i1) (.ref i2) ∧ (∃ x y, IsTupOf2 h TO x y) ∧ h.IsListIter i1 a i ∧ h.IsTupleIter i2 b i) where
  mem := by simp
  obj := fun i h st c hc => by
    obtain ⟨hz, hTI, ⟨x, y, hTO⟩, ⟨o1, e1, _, d1⟩, ⟨o2, e2, _, d2⟩⟩ := st
    have e' : c = z ∨ c = TI ∨ c = TO ∨ c = i1 ∨ c = i2 := by simpa using hc
    rcases e' with q | q | q | q | q
    · rw [q]; exact ⟨_, hz, fun v q => nomatch q⟩
    · rw [q]; exact ⟨_, hTI, fun v q => nomatch q⟩
    · rw [q]; exact ⟨_, hTO, fun v q => nomatch q⟩
    · rw [q]; exact ⟨o1, e1, fun v q => by rw [d1] at q; cases q⟩
    · rw [q]; exact ⟨o2, e2, fun v q => by rw [d2] at q; cases q⟩
  keep := fun i h h' st k => by
    obtain ⟨hz, hTI, ⟨x, y, hTO⟩, h1, h2⟩ := st
    exact ⟨k z (by simp) _ hz, k TI (by simp) _ hTI, ⟨x, y, k TO (by simp) _ hTO⟩, h1.at fun o q => k i1 (by simp) o q, h2.at fun o q => k i2 (by simp) o q⟩
  item := by
    intro X hP hw hK hc i pins s σ H E I hf st hg
    subst hP hw hK
    obtain ⟨hz, hTI, ⟨x0, y0, hTO⟩, h1, h2⟩ := st
    obtain ⟨xs, ys, x, y, hqx, hqy, hx, hy⟩ := hg
    obtain ⟨its, rv, p, _⟩ := I.list hqx
    obtain ⟨its2, rv2, p2, _⟩ := I.tuple hqy
    obtain ⟨u, hu, ru⟩ := rv.get hx
    obtain ⟨u2, hu2, ru2⟩ := rv2.get hy
    have hui : its.toArray[i]? = some u := by simpa using hu
    have hui2 : its2.toArray[i]? = some u2 := by simpa using hu2
    have hzl : z < s.heap.objs.size := Heap.lt_size hz
    have D1 := Draws.list (prog := X.prog) (w := X.w) (A := X.A.in1) (I.ok.hd hc) i1 a n1 its.toArray
    have D2 := Draws.tuple (prog := X.prog) (w := X.w) (A := X.A.in1) (I.ok.hd hc) i2 b n2 its2.toArray
    refine wpAny_pyNext_zipD2_item D D1 D2 hz hTI hTO ⟨h1, p.isList⟩ ⟨h2, p2⟩ (Array.getElem?_eq_some_iff.mp hui).1 (Array.getElem?_eq_some_iff.mp hui2).1 fun v1 v2 h' tk e1 e2 z' TO' h1' h2' hT hsz hk => ?_
    have ev1 : u = v1 := Option.some.inj (hui.symm.trans e1)
    have ev2 : u2 = v2 := Option.some.inj (hui2.symm.trans e2)
    subst ev1 ev2
    refine ⟨_, rfl, wpAny_letOwnedTupleGo_zip (s := { s with heap := h', toks := tk }) z' fun h'' z'' sb => ?_⟩
    have hT2 : h''.get? s.heap.objs.size = some { cls := .type "tuple", data := .seq #[u, u2] } := (sb.2 _ (Nat.ne_of_gt hzl)).trans hT
    have new : ObjOk X.prog X.w (upd H s.heap.objs.size (.tup [x, y])) h'' s.heap.objs.size (.tup [x, y]) :=
      ⟨by show 2 ≤ sizeLine; decide, [u, u2], .cons ru (.cons ru2 .nil), ⟨_, hT2, rfl, _, rfl⟩⟩
    have I1 : Inv X pins σ (upd H s.heap.objs.size (.tup [x, y])) { s with heap := h'', toks := tk } :=
      I.turnedNew (t' := tk) (ch := [z, TI, TO, i1, i2]) (fun c o hb q => (sb.2 c (fun q' => hb (by simp [q']))).trans (hk c o (fun q' => hb (by simp [q'])) (fun q' => hb (by simp [q'])) (fun q' => hb (by simp [q'])) (fun q' => hb (by simp [q'])) q)) hf (Nat.le_refl _) new
    refine ⟨.ref s.heap.objs.size, _, I1, rfl, ⟨_, x, y, rfl, I.hok.fresh (Nat.le_refl _), rfl, fun l hl => by rw [I.list_inj hl hqx]; exact hx, fun l hl => by rw [I.tuple_inj hl hqy]; exact hy⟩, ⟨z'', ?_, ⟨u, u2, ?_⟩, ?_, ?_⟩, fun c hcm => ?_⟩
    · exact (sb.2 _ D.TIz).trans (hk _ _ D.TIz D.TITO D.TIi1 D.TIi2 hTI)
    · exact (sb.2 _ D.TOz).trans TO'
    · exact h1'.1.at fun o q => (sb.2 _ D.zi1.symm).trans q
    · exact h2'.1.at fun o q => (sb.2 _ D.zi2.symm).trans q
    · have hlt : c < s.heap.objs.size := by
        have e' : c = z ∨ c = TI ∨ c = TO ∨ c = i1 ∨ c = i2 := by simpa using hcm
        rcases e' with q | q | q | q | q
        · rw [q]; exact hzl
        · rw [q]; exact Heap.lt_size hTI
        · rw [q]; exact Heap.lt_size hTO
        · rw [q]; obtain ⟨_, e1, _⟩ := h1; exact Heap.lt_size e1
        · rw [q]; obtain ⟨_, e2, _⟩ := h2; exact Heap.lt_size e2
      rw [upd_ne (Nat.ne_of_lt hlt)]
      exact (hf c hcm).1
  done := by
    intro X hP hw hK hc i pins s σ H E I hf st hg
    subst hP hw hK
    obtain ⟨hz, hTI, ⟨x0, y0, hTO⟩, h1, h2⟩ := st
    obtain ⟨xs, ys, hqx, hqy, g1, g2, hend⟩ := hg
    obtain ⟨its, rv, p, _⟩ := I.list hqx
    obtain ⟨its2, rv2, p2, _⟩ := I.tuple hqy
    have l1 : its.toArray.size = xs.length := by rw [List.size_toArray, rv.length]
    have l2 : its2.toArray.size = ys.length := by rw [List.size_toArray, rv2.length]
    have D1 := Draws.list (prog := X.prog) (w := X.w) (A := X.A.in1) (I.ok.hd hc) i1 a n1 its.toArray
    have D2 := Draws.tuple (prog := X.prog) (w := X.w) (A := X.A.in1) (I.ok.hd hc) i2 b n2 its2.toArray
    exact wpAny_pyNext_zipD2_end D D1 D2 hz hTI hTO ⟨h1, p.isList⟩ ⟨h2, p2⟩ (by omega) (by omega) (by omega) fun h' tk hk => ⟨rfl, I.turnedL (t' := tk) (ch := [z, TI, TO, i1, i2]) (fun c o hb q =>
      hk c o (fun q' => hb (by simp [q'])) (fun q' => hb (by simp [q'])) (fun q' => hb (by simp [q'])) (fun q' => hb (by simp [q'])) q) hf⟩
  self := fun A i s Q E st h => wpAny_pyIter_zip st.1 h
def iZipM (K : PySem.W.Frag) (ta : TA) : TI := fun σ H R => ta σ H fun vs H1 => ∃ a b xs ys, vs = [.ref a, .ref b] ∧ ((SqL K H1 a xs ∧ SqL K H1 b ys ∧ R (Itz K a b) H1) ∨ (SqL K H1 a xs ∧ SqT K H1 b ys ∧ R (ItzM K a b) H1))
theorem pi_zipM {X : Cx} {e e2 : Expr} {ta : TA} {p pos tpos : Pos} {elts : List Expr} {kk : Nat} (hg : Gl X "zip") (hm : X.mg "zip" = none) (ha : PA X [e, e2] ta)
    (hs : starEach [e, e2] X.env = (false, eval e X.env) :: starEach [e2] X.env := by rfl) (hpl : (backTo pos (starEach [e2] X.env)).any (·.1) = false := by rfl) :
    PI X (.Tuple elts kk tpos) (.Call (.Name "zip" p) [e, e2] [] pos) (iZipM X.K ta) := by
  refine ⟨fun pins s σ H R I h => ?_⟩
  refine Call_ (ld_blt I hg hm PyProof.Rows.boot_zip (PyProof.Rows.callWith_type1 (thn (ha.run pos pins s σ H _ I h) fun us s1 ⟨vs, H1, I1, r1, q1⟩ => ?_) hs hpl))
  obtain ⟨a, b, xs, ys, ex, q1⟩ := q1
  subst ex
  cases r1 with
  | cons r rr =>
    cases rr with
    | cons r' rr =>
      cases rr
      cases r
      cases r'
      have fresh5 : ∀ c, c ∈ [s1.heap.objs.size + 4, s1.heap.objs.size + 2, s1.heap.objs.size + 3, s1.heap.objs.size, s1.heap.objs.size + 1] → FpOk X pins H1 c := fun c hcm => by
        have e' : c = s1.heap.objs.size + 4 ∨ c = s1.heap.objs.size + 2 ∨ c = s1.heap.objs.size + 3 ∨ c = s1.heap.objs.size ∨ c = s1.heap.objs.size + 1 := by simpa using hcm
        have hle : s1.heap.objs.size ≤ c := by
          rcases e' with z | z | z | z | z
          · rw [z]; exact Nat.le_add_right _ _
          · rw [z]; exact Nat.le_add_right _ _
          · rw [z]; exact Nat.le_add_right _ _
          · rw [z]; exact Nat.le_refl _
          · rw [z]; exact Nat.le_add_right _ _
        exact I1.fpOk hle (I1.hok.fresh hle)
      rcases q1 with ⟨hqx, hqy, q⟩ | ⟨hqx, hqy, q⟩
      · obtain ⟨its, rv, p1, _⟩ := I1.list hqx
        obtain ⟨its2, rv2, p2, _⟩ := I1.list hqy
        refine call_zip_2 p1.isList p2.isList fun h' hz hTI hTO h1 h2 hsz hk => wpAny_pyIter_zip hz ?_
        have I2 : Inv X pins σ H1 { s1 with heap := h' } := I1.kept (t' := s1.toks) hk
        exact ⟨s1.heap.objs.size + 4, [s1.heap.objs.size + 4, s1.heap.objs.size + 2, s1.heap.objs.size + 3, s1.heap.objs.size, s1.heap.objs.size + 1], _, _, H1, rfl, I2, turn_zip (PySem.W.ktu_apart s1.heap.objs.size a b p1.lt p2.lt), ⟨hz, hTI, ⟨_, _, hTO⟩, h1, h2⟩, fresh5, q⟩
      · obtain ⟨its, rv, p1, _⟩ := I1.list hqx
        obtain ⟨its2, rv2, p2, _⟩ := I1.tuple hqy
        have la : a < s1.heap.objs.size := p1.lt
        have lb : b < s1.heap.objs.size := let ⟨_, ho, _⟩ := id p2; Heap.lt_size ho
        refine zip_begins2 (begins_list a its.toArray) (begins_tuple b its2.toArray) p1.isList p2 fun h' hz hTI hTO h1 h2 hsz hk => wpAny_pyIter_zip hz ?_
        have I2 : Inv X pins σ H1 { s1 with heap := h' } := I1.kept (t' := s1.toks) hk
        exact ⟨s1.heap.objs.size + 4, [s1.heap.objs.size + 4, s1.heap.objs.size + 2, s1.heap.objs.size + 3, s1.heap.objs.size, s1.heap.objs.size + 1], _, _, H1, rfl, I2, turn_zipM (zip_sep2 (N := s1.heap.objs.size) (fun c hc => by rw [List.mem_singleton.mp hc]; exact la) (fun c hc => by rw [List.mem_singleton.mp hc]; exact lb)) (Nat.ne_of_lt la) (Nat.ne_of_lt (Nat.lt_succ_of_lt lb)), ⟨hz, hTI, ⟨_, _, hTO⟩, ⟨_, h1, rfl, rfl⟩, ⟨_, h2, rfl, rfl⟩⟩, fresh5, q⟩
theorem walk_zipM {K : PySem.W.Frag} {a b : Addr} {xs ys : List V} (hl : xs.length = ys.length) : Walk (ItzM K a b) xs.length (fun H => SqL K H a xs ∧ SqT K H b ys) (YPair (fun i => xs[i]?) (fun i => ys[i]?)) where
  goes := fun i _ hi q => ⟨xs, ys, xs[i], ys[i]'(hl ▸ hi), q.1, q.2, List.getElem?_eq_getElem hi, List.getElem?_eq_getElem (hl ▸ hi)⟩
  stops := fun _ q => ⟨xs, ys, q.1, q.2, Nat.le_refl _, Nat.le_of_eq hl, .inl rfl⟩
  yields := fun i H v H' _ q ⟨T, x, y, h1, h2, h3, h4, h5⟩ => ⟨T, x, y, h1, h2, h3, h4 xs q.1, h5 ys q.2⟩
/-! ### zip of a tuple and a list -/
def ItzN (K : PySem.W.Frag) (a b : Addr) : It :=
  ⟨fun i H => ∃ (xs ys : List V) (x y : V), SqT K H a xs ∧ SqL K H b ys ∧ xs[i]? = some x ∧ ys[i]? = some y,
    fun i H v H' => ∃ T x y, v = .ref T ∧ H T = none ∧ H' = upd H T (.tup [x, y]) ∧ (∀ xs, SqT K H a xs → xs[i]? = some x) ∧ ∀ ys, SqL K H b ys → ys[i]? = some y,
    fun i H => ∃ xs ys : List V, SqT K H a xs ∧ SqL K H b ys ∧ i ≤ xs.length ∧ i ≤ ys.length ∧ (i = xs.length ∨ i = ys.length)⟩
theorem turn_zipN {P : Program} {w : World} {K : PySem.W.Frag} {elts : List Expr} {kk : Nat} {tpos : Pos} {a b z TI TO i1 i2 : Addr} (D : ZipSep2 z TI TO i1 i2 [i1, a] [i2, b]) (n1 : a ≠ i1) (n2 : b ≠ i2) :
    Turn P w K (.Tuple elts kk tpos) (ItzN K a b) [z, TI, TO, i1, i2] z (fun i h => IsZip h z TI TO .none ∧ IsTupOf2 h TI (.ref i1) (.ref i2) ∧ (∃ x y, IsTupOf2 h TO x y) ∧ h.IsTupleIter i1 a i ∧ h.IsListIter i2 b i) where
  mem := by simp
  obj := fun i h st c hc => by
    obtain ⟨hz, hTI, ⟨x, y, hTO⟩, ⟨o1, e1, _, d1⟩, ⟨o2, e2, _, d2⟩⟩ := st
    have e' : c = z ∨ c = TI ∨ c = TO ∨ c = i1 ∨ c = i2 := by simpa using hc
    rcases e' with q | q | q | q | q
    · rw [q]; exact ⟨_, hz, fun v q => nomatch q⟩
    · rw [q]; exact ⟨_, hTI, fun v q => nomatch q⟩
    · rw [q]; exact ⟨_, hTO, fun v q => nomatch q⟩
    · rw [q]; exact ⟨o1, e1, fun v q => by rw [d1] at q; cases q⟩
    · rw [q]; exact ⟨o2, e2, fun v q => by rw [d2] at q; cases q⟩
  keep := fun i h h' st k => by
    obtain ⟨hz, hTI, ⟨x, y, hTO⟩, h1, h2⟩ := st
    exact ⟨k z (by simp) _ hz, k TI (by simp) _ hTI, ⟨x, y, k TO (by simp) _ hTO⟩, h1.at fun o q => k i1 (by simp) o q, h2.at fun o q => k i2 (by simp) o q⟩
  item := by
    intro X hP hw hK hc i pins s σ H E I hf st hg
    subst hP hw hK
    obtain ⟨hz, hTI, ⟨x0, y0, hTO⟩, h1, h2⟩ := st
    obtain ⟨xs, ys, x, y, hqx, hqy, hx, hy⟩ := hg
    obtain ⟨its, rv, p, _⟩ := I.tuple hqx
    obtain ⟨its2, rv2, p2, _⟩ := I.list hqy
    obtain ⟨u, hu, ru⟩ := rv.get hx
    obtain ⟨u2, hu2, ru2⟩ := rv2.get hy
    have hui : its.toArray[i]? = some u := by simpa using hu
    have hui2 : its2.toArray[i]? = some u2 := by simpa using hu2
    have hzl : z < s.heap.objs.size := Heap.lt_size hz
    have D1 := Draws.tuple (prog := X.prog) (w := X.w) (A := X.A.in1) (I.ok.hd hc) i1 a n1 its.toArray
    have D2 := Draws.list (prog := X.prog) (w := X.w) (A := X.A.in1) (I.ok.hd hc) i2 b n2 its2.toArray
    refine wpAny_pyNext_zipD2_item D D1 D2 hz hTI hTO ⟨h1, p⟩ ⟨h2, p2.isList⟩ (Array.getElem?_eq_some_iff.mp hui).1 (Array.getElem?_eq_some_iff.mp hui2).1 fun v1 v2 h' tk e1 e2 z' TO' h1' h2' hT hsz hk => ?_
    have ev1 : u = v1 := Option.some.inj (hui.symm.trans e1)
    have ev2 : u2 = v2 := Option.some.inj (hui2.symm.trans e2)
    subst ev1 ev2
    refine ⟨_, rfl, wpAny_letOwnedTupleGo_zip (s := { s with heap := h', toks := tk }) z' fun h'' z'' sb => ?_⟩
    have hT2 : h''.get? s.heap.objs.size = some { cls := .type "tuple", data := .seq #[u, u2] } := (sb.2 _ (Nat.ne_of_gt hzl)).trans hT
    have new : ObjOk X.prog X.w (upd H s.heap.objs.size (.tup [x, y])) h'' s.heap.objs.size (.tup [x, y]) :=
      ⟨by show 2 ≤ sizeLine; decide, [u, u2], .cons ru (.cons ru2 .nil), ⟨_, hT2, rfl, _, rfl⟩⟩
    have I1 : Inv X pins σ (upd H s.heap.objs.size (.tup [x, y])) { s with heap := h'', toks := tk } :=
      I.turnedNew (t' := tk) (ch := [z, TI, TO, i1, i2]) (fun c o hb q => (sb.2 c (fun q' => hb (by simp [q']))).trans (hk c o (fun q' => hb (by simp [q'])) (fun q' => hb (by simp [q'])) (fun q' => hb (by simp [q'])) (fun q' => hb (by simp [q'])) q)) hf (Nat.le_refl _) new
    refine ⟨.ref s.heap.objs.size, _, I1, rfl, ⟨_, x, y, rfl, I.hok.fresh (Nat.le_refl _), rfl, fun l hl => by rw [I.tuple_inj hl hqx]; exact hx, fun l hl => by rw [I.list_inj hl hqy]; exact hy⟩, ⟨z'', ?_, ⟨u, u2, ?_⟩, ?_, ?_⟩, fun c hcm => ?_⟩
    · exact (sb.2 _ D.TIz).trans (hk _ _ D.TIz D.TITO D.TIi1 D.TIi2 hTI)
    · exact (sb.2 _ D.TOz).trans TO'
    · exact h1'.1.at fun o q => (sb.2 _ D.zi1.symm).trans q
    · exact h2'.1.at fun o q => (sb.2 _ D.zi2.symm).trans q
    · have hlt : c < s.heap.objs.size := by
        have e' : c = z ∨ c = TI ∨ c = TO ∨ c = i1 ∨ c = i2 := by simpa using hcm
        rcases e' with q | q | q | q | q
        · rw [q]; exact hzl
        · rw [q]; exact Heap.lt_size hTI
        · rw [q]; exact Heap.lt_size hTO
        · rw [q]; obtain ⟨_, e1, _⟩ := h1; exact Heap.lt_size e1
        · rw [q]; obtain ⟨_, e2, _⟩ := h2; exact Heap.lt_size e2
      rw [upd_ne (Nat.ne_of_lt hlt)]
      exact (hf c hcm).1
  done := by
    intro X hP hw hK hc i pins s σ H E I hf st hg
    subst hP hw hK
    obtain ⟨hz, hTI, ⟨x0, y0, hTO⟩, h1, h2⟩ := st
    obtain ⟨xs, ys, hqx, hqy, g1, g2, hend⟩ := hg
    obtain ⟨its, rv, p, _⟩ := I.tuple hqx
    obtain ⟨its2, rv2, p2, _⟩ := I.list hqy
    have l1 : its.toArray.size = xs.length := by rw [List.size_toArray, rv.length]
    have l2 : its2.toArray.size = ys.length := by rw [List.size_toArray, rv2.length]
    have D1 := Draws.tuple (prog := X.prog) (w := X.w) (A := X.A.in1) (I.ok.hd hc) i1 a n1 its.toArray
    have D2 := Draws.list (prog := X.prog) (w := X.w) (A := X.A.in1) (I.ok.hd hc) i2 b n2 its2.toArray
    exact wpAny_pyNext_zipD2_end D D1 D2 hz hTI hTO ⟨h1, p⟩ ⟨h2, p2.isList⟩ (by omega) (by omega) (by omega) fun h' tk hk => ⟨rfl, I.turnedL (t' := tk) (ch := [z, TI, TO, i1, i2]) (fun c o hb q =>
      hk c o (fun q' => hb (by simp [q'])) (fun q' => hb (by simp [q'])) (fun q' => hb (by simp [q'])) (fun q' => hb (by simp [q'])) q) hf⟩
  self := fun A i s Q E st h => wpAny_pyIter_zip st.1 h
def iZipN (K : PySem.W.Frag) (ta : TA) : TI := fun σ H R => ta σ H fun vs H1 => ∃ a b xs ys, vs = [.ref a, .ref b] ∧ SqT K H1 a xs ∧ SqL K H1 b ys ∧ R (ItzN K a b) H1
theorem pi_zipN {X : Cx} {e e2 : Expr} {ta : TA} {p pos tpos : Pos} {elts : List Expr} {kk : Nat} (hg : Gl X "zip") (hm : X.mg "zip" = none) (ha : PA X [e, e2] ta)
    (hs : starEach [e, e2] X.env = (false, eval e X.env) :: starEach [e2] X.env := by rfl) (hpl : (backTo pos (starEach [e2] X.env)).any (·.1) = false := by rfl) :
    PI X (.Tuple elts kk tpos) (.Call (.Name "zip" p) [e, e2] [] pos) (iZipN X.K ta) := by
  refine ⟨fun pins s σ H R I h => ?_⟩
  refine Call_ (ld_blt I hg hm PyProof.Rows.boot_zip (PyProof.Rows.callWith_type1 (thn (ha.run pos pins s σ H _ I h) fun us s1 ⟨vs, H1, I1, r1, q1⟩ => ?_) hs hpl))
  obtain ⟨a, b, xs, ys, ex, q1⟩ := q1
  subst ex
  cases r1 with
  | cons r rr =>
    cases rr with
    | cons r' rr =>
      cases rr
      cases r
      cases r'
      have fresh5 : ∀ c, c ∈ [s1.heap.objs.size + 4, s1.heap.objs.size + 2, s1.heap.objs.size + 3, s1.heap.objs.size, s1.heap.objs.size + 1] → FpOk X pins H1 c := fun c hcm => by
        have e' : c = s1.heap.objs.size + 4 ∨ c = s1.heap.objs.size + 2 ∨ c = s1.heap.objs.size + 3 ∨ c = s1.heap.objs.size ∨ c = s1.heap.objs.size + 1 := by simpa using hcm
        have hle : s1.heap.objs.size ≤ c := by
          rcases e' with z | z | z | z | z
          · rw [z]; exact Nat.le_add_right _ _
          · rw [z]; exact Nat.le_add_right _ _
          · rw [z]; exact Nat.le_add_right _ _
          · rw [z]; exact Nat.le_refl _
          · rw [z]; exact Nat.le_add_right _ _
        exact I1.fpOk hle (I1.hok.fresh hle)
      obtain ⟨hqx, hqy, q⟩ := q1
      obtain ⟨its, rv, p1, _⟩ := I1.tuple hqx
      obtain ⟨its2, rv2, p2, _⟩ := I1.list hqy
      have la : a < s1.heap.objs.size := let ⟨_, ho, _⟩ := id p1; Heap.lt_size ho
      have lb : b < s1.heap.objs.size := p2.lt
      refine zip_begins2 (begins_tuple a its.toArray) (begins_list b its2.toArray) p1 p2.isList fun h' hz hTI hTO h1 h2 hsz hk => wpAny_pyIter_zip hz ?_
      have I2 : Inv X pins σ H1 { s1 with heap := h' } := I1.kept (t' := s1.toks) hk
      exact ⟨s1.heap.objs.size + 4, [s1.heap.objs.size + 4, s1.heap.objs.size + 2, s1.heap.objs.size + 3, s1.heap.objs.size, s1.heap.objs.size + 1], _, _, H1, rfl, I2, turn_zipN (zip_sep2 (N := s1.heap.objs.size) (fun c hc => by rw [List.mem_singleton.mp hc]; exact la) (fun c hc => by rw [List.mem_singleton.mp hc]; exact lb)) (Nat.ne_of_lt la) (Nat.ne_of_lt (Nat.lt_succ_of_lt lb)), ⟨hz, hTI, ⟨_, _, hTO⟩, ⟨_, h1, rfl, rfl⟩, ⟨_, h2, rfl, rfl⟩⟩, fresh5, q⟩
theorem walk_zipN {K : PySem.W.Frag} {a b : Addr} {xs ys : List V} (hl : xs.length = ys.length) : Walk (ItzN K a b) xs.length (fun H => SqT K H a xs ∧ SqL K H b ys) (YPair (fun i => xs[i]?) (fun i => ys[i]?)) where
  goes := fun i _ hi q => ⟨xs, ys, xs[i], ys[i]'(hl ▸ hi), q.1, q.2, List.getElem?_eq_getElem hi, List.getElem?_eq_getElem (hl ▸ hi)⟩
  stops := fun _ q => ⟨xs, ys, q.1, q.2, Nat.le_refl _, Nat.le_of_eq hl, .inl rfl⟩
  yields := fun i H v H' _ q ⟨T, x, y, h1, h2, h3, h4, h5⟩ => ⟨T, x, y, h1, h2, h3, h4 xs q.1, h5 ys q.2⟩
theorem PI.or {X : Cx} {tg e : Expr} {r r' : TI} (h : PI X tg e r) (h' : PI X tg e r') : PI X tg e (fun σ H R => r σ H R ∨ r' σ H R) := ⟨fun pins s σ H R I q => q.elim (h.run pins s σ H R I) (h'.run pins s σ H R I)⟩
def iZipQ (K : PySem.W.Frag) (ta : TA) : TI := fun σ H R => RZ.iZipA K ta σ H R ∨ iZipM K ta σ H R ∨ iZipN K ta σ H R
theorem pi_zipQ {X : Cx} {e e2 : Expr} {ta : TA} {p pos tpos : Pos} {elts : List Expr} {kk : Nat} (hg : Gl X "zip") (hm : X.mg "zip" = none) (ha : PA X [e, e2] ta)
    (hs : starEach [e, e2] X.env = (false, eval e X.env) :: starEach [e2] X.env := by rfl) (hpl : (backTo pos (starEach [e2] X.env)).any (·.1) = false := by rfl) :
    PI X (.Tuple elts kk tpos) (.Call (.Name "zip" p) [e, e2] [] pos) (iZipQ X.K ta) := PI.or (RZ.pi_zipA hg hm ha hs hpl) (PI.or (pi_zipM hg hm ha hs hpl) (pi_zipN hg hm ha hs hpl))
/-- rows of one length by pairs: each way of holding them -/
def ZipJ (K : PySem.W.Frag) (J : It) (n : Nat) (H0 : Hp) (fx fy : Nat → Option V) : Prop := ∃ G, Walk J n G (YPair fx fy) ∧ ∀ H, GX.NoTab H0 H → G H

/-! ### comprehensions by what they make: things -/
theorem lc_thgF (f : Nat → Option PyData) {J : It} {n : Nat} {G : Hp → Prop} {Y : Nat → Hp → V → Hp → Prop} (w : Walk J n G Y) {g : TG} {tt : TT} {te : TE} {vs : List Nat} {σ : L2.St} {H1 : Hp} {D : Addr} {Qd : Hp → Prop} (cs : List Addr) (nD : H1 D = none) (hz : n ≤ 1000) (hG : ∀ H, Same H1 H → G H)
    (turn : ∀ i x H H' (Kt : V → Hp → Prop) (Kn : Hp → Prop), i < n → Same H1 H → Y i H x H' → (∀ y d H4, f i = some d → Same H H4 → Thg (D :: cs) H4 y d → Kt y H4) → (∀ H4, f i = none → Same H H4 → Kn H4) → g x (wipe σ vs) H' fun σ2 H2 => wipe σ2 vs = wipe σ vs ∧ tt σ2 H2 fun b H3 => if b = true then te σ2 H3 Kt else Kn H3)
    (fin : ∀ H ws, Same H1 H → H D = some (.lst ws) → ThgL (D :: cs) H ws ((List.range n).filterMap f) → Qd H) : LcW J g tt te vs σ D Qd H1 := by
  refine lc_it w (fun j H => Same H1 H ∧ ∃ ws, H D = some (.lst ws) ∧ ThgL (D :: cs) H ws ((List.range j).filterMap f)) ⟨same_upd nD, [], upd_same, ThgL.nil⟩ (fun i H _ p => hG H p.1) (fun i x H H' hi hP hy => ?_) (fun H hP => let ⟨s, ws, e, h⟩ := hP; fin H ws s e h)
  obtain ⟨sm, ws, eD, hw⟩ := hP
  have es : (List.range (i + 1)).filterMap f = (List.range i).filterMap f ++ (f i).toList := by
    rw [List.range_succ, List.filterMap_append]
    cases h : f i with
    | none => simp [h]
    | some d => simp [h]
  have len : ((List.range i).filterMap f).length ≤ i := by
    have := List.length_filterMap_le f (List.range i)
    rwa [List.length_range] at this
  refine turn i x H H' _ _ hi sm hy (fun y d H4 e s4 hd => ?_) (fun H4 e s4 => ?_)
  · have eD4 := s4 _ _ eD
    refine ⟨ws, eD4, Nat.lt_of_lt_of_le (show ws.length < 1000 by rw [hw.1]; omega) (by decide), fun b o eb => ?_, ws ++ [y], upd_same, ?_⟩
    · rw [upd_ne (ne_of_none eb nD)]
      exact s4 _ _ (sm b o eb)
    · rw [es, e]
      exact ((hw.same s4).upd eD4 (by simp)).append (ThgL.one (hd.upd eD4 (by simp)))
  · refine ⟨sm.trans s4, ws, s4 _ _ eD, ?_⟩
    rw [es, e]
    show ThgL _ _ _ (_ ++ [])
    rw [List.append_nil]
    exact hw.same s4
theorem lc_thg (ds : List PyData) {J : It} {n : Nat} {G : Hp → Prop} {Y : Nat → Hp → V → Hp → Prop} (w : Walk J n G Y) {g : TG} {tt : TT} {te : TE} {vs : List Nat} {σ : L2.St} {H1 : Hp} {D : Addr} {Qd : Hp → Prop} (cs : List Addr) (nD : H1 D = none) (hn : ds.length = n) (hz : n ≤ 1000) (hG : ∀ H, Same H1 H → G H)
    (turn : ∀ i x d H H' (Kt : V → Hp → Prop) (Kn : Hp → Prop), ds[i]? = some d → Same H1 H → Y i H x H' → (∀ y H4, Same H H4 → Thg (D :: cs) H4 y d → Kt y H4) → g x (wipe σ vs) H' fun σ2 H2 => wipe σ2 vs = wipe σ vs ∧ tt σ2 H2 fun b H3 => if b = true then te σ2 H3 Kt else Kn H3)
    (fin : ∀ H ws, Same H1 H → H D = some (.lst ws) → ThgL (D :: cs) H ws ds → Qd H) : LcW J g tt te vs σ D Qd H1 := by
  refine lc_thgF (fun i => ds[i]?) w cs nD hz hG (fun i x H H' Kt Kn hi sm hy kt kn => ?_) (fun H ws s e h => fin H ws s e ?_)
  · have ed : ds[i]? = some ds[i] := List.getElem?_eq_getElem (by omega)
    exact turn i x _ H H' Kt Kn ed sm hy fun y H4 s4 h4 => kt y _ H4 ed s4 h4
  · have : (List.range n).filterMap (fun i => ds[i]?) = ds := by
      rw [← hn]
      clear hn turn fin h w
      induction ds with
      | nil => rfl
      | cons d r ih =>
        rw [List.length_cons, List.range_succ_eq_map, List.filterMap_cons]
        show d :: List.filterMap _ _ = _
        rw [List.filterMap_map]
        exact congrArg (d :: ·) ih
    rwa [this] at h
/-- a test's tin, a fault's minutes hold no list -/
theorem Thg.span {cs cs' : List Addr} {H : Hp} {v : V} {o : Option (Int × Int)} (h : Thg cs H v (spanD o)) : Thg cs' H v (spanD o) := by
  cases o with
  | none => cases h.inv_non; exact .non
  | some p =>
    obtain ⟨a, rfl, e⟩ := h.pair
    exact thg_pair e
theorem Thg.tst {cs : List Addr} {H : Hp} {v : V} {t : Tst} (h : Thg cs H v (tstD t)) : ∃ a, v = .ref a ∧ H a = some (.tup [.str t.mark, .int t.tin, .str (wordD t.bad)]) := by
  obtain ⟨a, xs, rfl, e, h1⟩ := h.tuple
  obtain ⟨x, ys, rfl, h2, h3⟩ := h1.inv
  obtain ⟨y, zs, rfl, h4, h5⟩ := h3.inv
  obtain ⟨z, ws, rfl, h6, h7⟩ := h5.inv
  rw [h7.inv0, h2.inv_str, h4.inv_int, h6.inv_str] at e
  exact ⟨a, rfl, e⟩
/-- what a dict by marks holds of the first so many batches -/
def DicB (cs : List Addr) (H : Hp) (kvs : List (Key × V)) (bs : List Bat3) (n : Nat) : Prop := ∀ i B, i < n → bs[i]? = some B → ∃ v d, valV kvs (.inr B.mark) = some v ∧ BatR B d ∧ Thg cs H v d
theorem DicB.put {cs : List Addr} {H : Hp} {kvs : List (Key × V)} {bs : List Bat3} {n : Nat} {B : Bat3} {v : V} {d : PyData} (h : DicB cs H kvs bs n) (nd : (bs.map Bat3.mark).Nodup) (e : bs[n]? = some B) (r : BatR B d) (hv : Thg cs H v d) : DicB cs H (putK kvs (.inr B.mark) v) bs (n + 1) := fun i B' hi e' => by
  rw [valV_put]
  by_cases ei : i = n
  · subst ei
    rw [e] at e'
    cases e'
    rw [if_pos rfl]
    exact ⟨v, d, rfl, r, hv⟩
  · have ne : B'.mark ≠ B.mark := fun z => by
      obtain ⟨hi', ei'⟩ := List.getElem?_eq_some_iff.mp e'
      obtain ⟨hj', ej'⟩ := List.getElem?_eq_some_iff.mp e
      exact ei ((List.getElem_inj (h₀ := by rw [List.length_map]; exact hi') (h₁ := by rw [List.length_map]; exact hj') nd).mp (by rw [List.getElem_map, List.getElem_map, ei', ej', z]))
    rw [if_neg (fun z => ne (Sum.inr.inj z))]
    exact h i B' (by omega) e'
theorem DicB.map {cs : List Addr} {H H' : Hp} {kvs : List (Key × V)} {bs : List Bat3} {n : Nat} (h : DicB cs H kvs bs n) (k : ∀ v d, Thg cs H v d → Thg cs H' v d) : DicB cs H' kvs bs n := fun i B hi e => let ⟨v, d, a, b, c⟩ := h i B hi e; ⟨v, d, a, b, k _ _ c⟩
theorem putK_len (kvs : List (Key × V)) (k : Key) (v : V) : (putK kvs k v).length ≤ kvs.length + 1 := by
  unfold putK
  split
  · rw [List.length_map]; exact Nat.le_succ _
  · rw [List.length_append]; exact Nat.le_refl _
theorem Thg.updD {cs : List Addr} {H : Hp} {v : V} {d : PyData} {l : Addr} {ks : List (Key × V)} {o : HO} (h : Thg cs H v d) (e : H l = some (.dK ks)) : Thg cs (L2.upd H l o) v d :=
  h.ext (fun a ys n ea => (upd_ne (ne_of ea e (fun z => nomatch z))).trans ea) fun a ys ea => (upd_ne (ne_of ea e (fun z => nomatch z))).trans ea
/-- what the two sides have of tests and batches -/
structure Given (cs : List Addr) (H : Hp) (vb vt : V) (bs : List Bat3) (ts : List Tst) : Prop where
  bt : ∃ a xs ds, vb = .ref a ∧ SqH H a xs ∧ ThgL cs H xs ds ∧ BatsR bs ds
  tt : ∃ a xs, vt = .ref a ∧ SqH H a xs ∧ ThgL cs H xs (ts.map tstD)
theorem Given.noTab {cs : List Addr} {H H' : Hp} {vb vt : V} {bs : List Bat3} {ts : List Tst} (h : Given cs H vb vt bs ts) (n : GX.NoTab H H') : Given cs H' vb vt bs ts := by
  obtain ⟨⟨a, xs, ds, e, h1, h2, h3⟩, b, ys, e', h4, h5⟩ := h
  exact ⟨⟨a, xs, ds, e, h1.imp (fun e => n.lst e) (fun e => n.tup e), h2.noTab n, h3⟩, b, ys, e', h4.imp (fun e => n.lst e) (fun e => n.tup e), h5.noTab n⟩
theorem Given.same {cs : List Addr} {H H' : Hp} {vb vt : V} {bs : List Bat3} {ts : List Tst} (h : Given cs H vb vt bs ts) (s : Same H H') : Given cs H' vb vt bs ts := h.noTab (.of s)
def spTested (K : PySem.W.Frag) : Sp := fun vs H Q _ => ∃ (vb vt : V) (p : Str) (bs : List Bat3) (ts : List Tst) (cs : List Addr), vs = [vb, vt, .str p] ∧ Given cs H vb vt bs ts ∧ CaseOk bs ts ∧
  ∀ l us H', H l = none → Same H H' → H' l = some (.lst us) → ThgL [] H' us (ts.map fun t => spanD (winT bs p t)) → Q (.ref l) H'
abbrev sTested : Stmt := topS 20
theorem scTested : FnScope ["batches", "tests", "place", "marked", "batch", "mark", "tin", "word"] ["batches", "tests", "place"] (defScope sTested) := ⟨rfl, rfl, rfl, by decide +kernel, rfl, by decide +kernel, by decide +kernel⟩
section
variable {K : PySem.W.Frag} {mg : Str → Option Value} {P : Program} {w : World} {base : Heap}
theorem ok_Tested {f : Addr} {fd : FuncData} (F : Fun K "windows_tested" "windows_tested" sTested f fd) (C_window : Cal P w K mg base 2 "window" ["batch", "place", "tin"] (spWin K)) : FnOk P w K mg base CX0 3 f fd ["batches", "tests", "place"] (spTested K) := by
  refine F.ok scTested (fun vs H Q E h => ?_) (fun cdv A outer s H vs Q E hr h => ?_)
  · obtain ⟨vb, vt, p, bs, ts, cs, rfl, _⟩ := h
    rfl
  · obtain ⟨vb, vt, p, bs, ts, cs, rfl, hG, hC, q⟩ := h
    refine ⟨_, pss_cons (ps_set (i := 3) scTested.nd rfl (.inr rfl) (pe_dc (own := [("batch", 4)]) (g := gName 4) (tt := tYes) (tk := tOp (rIxT K) (tVar 4) (tC (.int 0))) (tv := tVar 4) rfl scTested.nd (pi_seq (pv 0)) (blkOk_by (own := [("batch", 4)]) (N := ["batches", "tests", "place", "marked", "batch", "mark", "tin", "word"]) (sc := defScope sTested) (by decide +kernel)) (fun _ _ _ _ _ => pg_name (i := 4) scTested.nd rfl (.inl rfl)) (fun _ _ _ _ _ => pts_nil) (fun _ _ _ _ _ => pe_ix ix_tup (pv 4) pe_int (fun _ _ => rfl)) (fun _ _ _ _ _ => pv 4)))
      (pss_one (ps_ret (pe_lc (own := [("mark", 5), ("tin", 6), ("word", 7)]) (g := (gTup K 3 (gCons (gName 5) (gCons (gName 6) (gCons (gName 7) gNil))))) (tt := tYes) (te := (tCall (spWin K) [] E0 (tCons (tDGet (tVar 3) (tVar 5)) (tCons (tVar 2) (tCons (tVar 6) tNil))))) rfl scTested.nd (pi_seq (pv 1)) (blkOk_by (own := [("mark", 5), ("tin", 6), ("word", 7)]) (N := ["batches", "tests", "place", "marked", "batch", "mark", "tin", "word"]) (sc := defScope sTested) (by decide +kernel)) (fun _ _ _ _ _ => (pg_tup rfl (pgs_cons (pg_name (i := 5) scTested.nd rfl (.inl rfl)) (pgs_cons (pg_name (i := 6) scTested.nd rfl (.inl rfl)) (pgs_cons (pg_name (i := 7) scTested.nd rfl (.inl rfl)) pgs_nil))))) (fun _ _ _ _ _ => pts_nil) (fun _ _ _ _ _ => (pe_own C_window hr (by rfl) (pa_cons (pe_dget (hu_of hr) (pv 3) (pv 5) (fun _ _ => rfl)) (pa_cons (pv 2) (pa_cons (pv 6) pa_nil)))))))), ?_⟩
    obtain ⟨⟨a, xs, ds, rfl, ha, hx, hR⟩, b, ys, rfl, hb, hy⟩ := hG
    have hl : xs.length = bs.length := by rw [hx.1, hR.1]
    have h100 := hC.bl
    refine ⟨_, rfl, a, rfl, iseq_W ha (fun D i H' => ∃ kvs, H' D = some (.dK kvs) ∧ kvs.length ≤ i ∧ DicB cs H' kvs bs i ∧ Same H H') (fun D nD => ⟨[], upd_same, Nat.le_refl _, (fun i B z => absurd z (Nat.not_lt_zero _)), same_upd nD⟩) (fun D i H' nD ⟨kvs, eD, _, _, sm⟩ o e => sm _ _ e) (fun D i x H1 nD hxi ⟨kvs, eD, hkl, hd, sm⟩ => ?_) (fun D H1 nD ⟨kvs, eD, hkl, hd, sm⟩ => ?_)⟩
    · obtain ⟨B, d, eB, hB, hv⟩ := hx.bat hR hxi
      have hv1 := hv.same sm
      obtain ⟨c, l, us, rfl, ec, _⟩ := hv1.bat hB
      have hi : i < bs.length := (List.getElem?_eq_some_iff.mp eB).1
      refine ⟨rfl, _, rfl, c, _, 0, _, rfl, rfl, .inl (.inl ec), atI_nat (j := 0) rfl, _, rfl, kvs, .inr B.mark, rfl, eD, small1000 (by omega), _, upd_same, ?_, ?_, fun b' o e => ?_⟩
      · have := putK_len kvs (.inr B.mark) (.ref c)
        omega
      · exact (hd.put hC.nd eB hB hv1).map fun v d h => h.updD eD
      · rw [upd_ne (ne_of_none e nD)]
        exact sm _ _ e
    · rw [hl] at hd hkl
      have hb1 : SqH H1 b ys := hb.imp (fun e => sm _ _ e) (fun e => sm _ _ e)
      have hyl : ys.length = ts.length := by rw [hy.1, List.length_map]
      have htl := hC.tl
      refine ⟨_, rfl, b, rfl, iseq_lc hb1 fun J G wk hG G1 nG1 => lc_thg (ts.map fun t => spanD (winT bs p t)) wk [] nG1 (by rw [List.length_map, hyl]) (by omega) (fun H' s => hG H' (NoTab.same s)) (fun i x d H2 H2' Kt Kn ed s2 hyy k => ?_) (fun H2 ws s2 e2 h2 => ?_)⟩
      · obtain ⟨rfl, hxi⟩ := hyy
        rw [List.getElem?_map] at ed
        cases et : ts[i]? with
        | none => rw [et] at ed; cases ed
        | some t =>
          rw [et] at ed
          cases ed
          have S2 := sm.trans s2
          have hx2 := hy.2 i x (tstD t) hxi (by rw [List.getElem?_map, et]; rfl)
          obtain ⟨c, rfl, ec⟩ := (hx2.same S2).tst
          obtain ⟨B, hB, hm, ew, k0, k1⟩ := winT_of hC (List.mem_of_getElem? et) p
          obtain ⟨j, hj⟩ := List.getElem?_of_mem hB
          obtain ⟨v, d, e1, r1, hv⟩ := hd j B (List.getElem?_eq_some_iff.mp hj).1 hj
          refine ⟨c, _, rfl, .inl (.inl ec), rfl, _, _, rfl, _, _, rfl, _, _, rfl, rfl, rfl, ?_⟩
          refine ⟨_, rfl, _, rfl, D, v, rfl, ?_, _, rfl, _, rfl, v, p, t.tin, B, d, cs, rfl, r1, hv.same s2, hC.bat B hB, k0, k1, fun y H4 s4 h4 => k y H4 s4 (by show Thg _ _ _ (spanD (winT bs p t)); rw [ew]; exact h4.span)⟩
          have := DGet.k (k := Sum.inr t.mark) (s2 _ _ eD)
          rw [← hm, e1] at this
          rw [← hm]
          exact this
      · exact q G1 ws H2 (sm.free nG1) (sm.trans s2) e2 (h2.less (by simp))
end

/-! ### gaps -/
def spFree (K : PySem.W.Frag) : Sp := fun vs H Q _ => ∃ (a : Addr) (us : List V) (ps : List (Int × Int)), vs = [.ref a] ∧ H a = some (.lst us) ∧ Prs H us ps ∧ ps.length ≤ 900 ∧
  ∀ l ws H', H l = none → Same H H' → H' l = some (.lst ws) → ThgL [] H' ws ((gapsO 0 (setL ps)).map gapD) → (gapsO 0 (setL ps)).length ≤ 901 → Q (.ref l) H'
abbrev sFree : Stmt := topS 21
theorem scFree : FnScope ["windows", "rows", "start", "first", "last"] ["windows"] (defScope sFree) := ⟨rfl, rfl, rfl, by decide +kernel, rfl, by decide +kernel, by decide +kernel⟩
section
variable {K : PySem.W.Frag} {mg : Str → Option Value} {P : Program} {w : World} {base : Heap}
theorem ok_Free {f : Addr} {fd : FuncData} (F : Fun K "free_rows" "free_rows" sFree f fd) (C_set_of : Cal P w K mg base 1 "set_of" ["pairs"] (spSetOf K)) : FnOk P w K mg base CX0 2 f fd ["windows"] (spFree K) := by
  refine F.ok scFree (fun vs H Q E h => ?_) (fun cdv A outer s H vs Q E hr h => ?_)
  · obtain ⟨a, us, ps, rfl, _⟩ := h
    rfl
  · obtain ⟨a, us, ps, rfl, ha, hp, hz, q⟩ := h
    refine ⟨_, pss_cons (ps_set (i := 1) scFree.nd rfl (.inl rfl) (pe_lst pa_nil))
      (pss_cons (ps_set (i := 2) scFree.nd rfl (.inl rfl) pe_int)
      (pss_cons (ps_for PassesOwn.never rfl (pi_list (pe_own C_set_of hr (by rfl) (pa_cons (pv 0) pa_nil))) (pg_tup rfl (pgs_cons (pg_name (i := 3) scFree.nd rfl (.inl rfl)) (pgs_cons (pg_name (i := 4) scFree.nd rfl (.inl rfl)) pgs_nil)))
        (pss_cons (ps_if (pt_cmpR op_lt (pv 2) (pv 3) (nomark _)) (pss_one (ps_expr (pe_bm PySem.F.plainAttrs_list PySem.F.slot_list_append PySem.F.type_list_append mt_append (pv 1) (pa_cons (pe_tup (pa_cons (pv 2) (pa_cons (pe_op op_sub (pv 3) pe_int) pa_nil))) pa_nil))))
          pss_nil)
        (pss_one (ps_set (i := 2) scFree.nd rfl (.inl rfl) (pe_op op_add (pv 4) pe_int)))))
      (pss_cons (ps_expr (pe_bm PySem.F.plainAttrs_list PySem.F.slot_list_append PySem.F.type_list_append mt_append (pv 1) (pa_cons (pe_tup (pa_cons (pv 2) (pa_cons pe_non pa_nil))) pa_nil)))
      (pss_one (ps_ret (pv 1)))))), ?_⟩
    refine ⟨Nat.zero_le _, fun p np => ?_⟩
    have sp := same_upd (o := .lst []) np
    refine ⟨_, rfl, a, us, ps, rfl, Sq.list (sp _ _ ha), hp.same sp, hz, fun l ls rs H1 nl el hrs hS s1 => ⟨l, rfl, ⟨_, SqL.of el⟩, ?_⟩⟩
    have ers : rs = setL ps := hS.told.canon
    have hrl := hS.len
    have epH := s1 _ _ (upd_same (H := H) (a := p) (o := .lst []))
    have nlp : l ≠ p := fun z => by rw [z, upd_same] at nl; cases nl
    have S1 := sp.trans s1
    refine for_list (xs := ls) (fun i σ Hx => ∃ (ws : List V) (y3 y4 : Option V), σ = [some (.ref a), some (.ref p), some (.int (endI 0 (rs.take i))), y3, y4] ∧ Hx p = some (.lst ws) ∧ ThgL [p] Hx ws ((gapsI 0 (rs.take i)).map gapD) ∧ ∀ b o, b ≠ p → H1 b = some o → Hx b = some o) ⟨[], _, _, rfl, epH, ThgL.nil, fun _ _ _ e => e⟩ (fun i σ Hx _ hP => ?_) (fun i x σ Hx hx hP => ?_) (fun σ Hx hP => ?_)
    · obtain ⟨ws, y3, y4, rfl, ep, hw, k⟩ := hP
      exact SqL.of (k _ _ nlp el)
    · obtain ⟨ws, y3, y4, rfl, ep, hw, k⟩ := hP
      obtain ⟨r, T, er, rfl, eT⟩ := prs_at hrs hx
      have eTx := k T _ (ne_of eT epH (fun z => nomatch z)) eT
      have et : rs.take (i + 1) = rs.take i ++ [r] := by rw [List.take_add_one, er]; rfl
      obtain ⟨g1, g2⟩ := gapsI_snoc 0 (rs.take i) r
      have hil : i < rs.length := (List.getElem?_eq_some_iff.mp er).1
      have hwl : ws.length ≤ i := by
        have := gapsI_len 0 (rs.take i)
        rw [List.length_take] at this
        rw [hw.1, List.length_map]
        omega
      refine ⟨T, _, rfl, .inl (.inl eTx), rfl, _, _, rfl, _, _, rfl, rfl, _, rfl, _, rfl, _, _, rfl, rfl, _, rfl, ite2 (fun c => ?_) (fun c => ?_)⟩
      · have c := of_decide_eq_true c
        rw [if_pos c] at g1
        refine ⟨_, rfl, .inl ⟨rfl, _, SqL.of ep⟩, _, rfl, _, rfl, _, _, rfl, rfl, (by show 2 ≤ sizeLine; decide), fun T2 n2 => ⟨p, _, _, rfl, rfl, same_upd n2 _ _ ep, small1000 (by omega), ?_⟩⟩
        have s2 := same_upd (o := .tup [.int (endI 0 (rs.take i)), .int (r.1 - 1)]) n2
        refine ⟨_, rfl, _, _, rfl, rfl, _, _, _, by rw [et, g2]; rfl, upd_same, ?_, fun b o nb e => ?_⟩
        · rw [et, g1, List.map_append]
          exact ((hw.same s2).upd (s2 _ _ ep) (by simp)).append (ThgL.one ((ThgL.tup (.cons (.int _) (.one (.int _))) upd_same : Thg [p] _ (.ref T2) (gapD (endI 0 (rs.take i), some (r.1 - 1)))).upd (s2 _ _ ep) (by simp)))
        · rw [upd_ne nb]
          exact s2 _ _ (k b o nb e)
      · rw [if_neg (fun z => c (decide_eq_true z))] at g1
        refine ⟨_, rfl, _, _, rfl, rfl, ws, _, _, by rw [et, g2]; rfl, ep, ?_, k⟩
        rw [et, g1, List.append_nil]
        exact hw
    · obtain ⟨ws, y3, y4, rfl, ep, hw, k⟩ := hP
      rw [hrs.1, List.take_length] at *
      have hwl : ws.length ≤ 900 := by
        have := gapsI_len 0 rs
        rw [hw.1, List.length_map]
        omega
      refine ⟨_, rfl, .inl ⟨rfl, _, SqL.of ep⟩, _, rfl, (by show 2 ≤ sizeLine; decide), fun T2 n2 => ⟨p, _, _, rfl, rfl, same_upd n2 _ _ ep, small1000 (by omega), ?_⟩⟩
      have s2 := same_upd (o := .tup [.int (endI 0 rs), .non]) n2
      have hw2 : ThgL [p] (upd (upd Hx T2 (.tup [.int (endI 0 rs), .non])) p (.lst (ws ++ [.ref T2]))) (ws ++ [.ref T2]) ((gapsO 0 rs).map gapD) := by
        rw [gapsO_eq, List.map_append]
        exact ((hw.same s2).upd (s2 _ _ ep) (by simp)).append (ThgL.one ((ThgL.tup (.cons (.int _) (.one .non)) upd_same : Thg [p] _ (.ref T2) (gapD (endI 0 rs, none))).upd (s2 _ _ ep) (by simp)))
      refine ⟨_, rfl, q p _ _ np (fun b o e => ?_) upd_same (by rw [← ers]; exact hw2.less (by simp)) ?_⟩
      · rw [upd_ne (ne_of_none e np)]
        exact s2 _ _ (k b o (ne_of_none e np) (S1 _ _ e))
      · rw [← ers, gapsO_eq, List.length_append]
        have := gapsI_len 0 rs
        show _ + 1 ≤ 901
        omega
end
def spFaultR (K : PySem.W.Frag) (Ms : GX.Mq) (Xs : List Addr) (Pf : Addr) : Sp := fun vs H Q _ => ∃ (a b : Addr) (us ws : List V) (ps gs : List (Int × Int)), vs = [.ref a, .ref b] ∧ H a = some (.lst us) ∧ Prs H us ps ∧ ps ≠ [] ∧ ps.length ≤ 900 ∧ H b = some (.lst ws) ∧ Prs H ws gs ∧ gs.length ≤ 900 ∧ GX.TQ Ms Xs H ∧ Pf ∈ Ms ∧
  ∀ l zs H', H l = none → GX.NoTab H H' → GX.TQ Ms Xs H' → H' l = some (.lst zs) → ThgL [] H' zs ((faultF ps gs).map row4D) → (faultF ps gs).length ≤ 901 → Q (.ref l) H'
abbrev sFaultR : Stmt := topS 22
theorem scFaultR : FnScope ["bad", "good", "first_end", "last_begin", "rows", "first", "last", "latest", "begin", "end"] ["bad", "good"] (defScope sFaultR) := ⟨rfl, rfl, rfl, by decide +kernel, rfl, by decide +kernel, by decide +kernel⟩
section
variable {K : PySem.W.Frag} {mg : Str → Option Value} {P : Program} {w : World} {base : Heap}
theorem ok_FaultR {Ms : GX.Mq} {Xs : List Addr} {f c Pf : Addr} {oc kV doc pm ct : Value} {od an : Option Addr} {osl : Array (Option Value)} (lk : K.lookup f = some ⟨oc, od, .func (PySem.W.fnOf "fault_rows" "fault_rows" (defArgs sFaultR) (defBody sFaultR) (defScope sFaultR) .none kV doc pm an (.ref c) ct), osl⟩) (hcd : PySem.W.codeIn K (.ref c) "fault_rows" = true) (TG : GxR.TabB base mg c Pf) (C_free_rows : Cal P w K mg base 2 "free_rows" ["windows"] (spFree K)) (m_min : mg "min" = none) (m_max : mg "max" = none) : FnOk P w K mg base CX0 5 f (PySem.W.fnOf "fault_rows" "fault_rows" (defArgs sFaultR) (defBody sFaultR) (defScope sFaultR) .none kV doc pm an (.ref c) ct) ["bad", "good"] (spFaultR K Ms Xs Pf) := by
  refine fn_of lk hcd scFaultR (fun vs H Q E h => ?_) (fun A outer s H vs Q E hr h => ?_)
  · obtain ⟨a, b, us, ws, ps, gs, rfl, _⟩ := h
    rfl
  · obtain ⟨a, b, us, ws, ps, gs, rfl, ha, hp, hne, hpz, hb, hg, hgz, hT, hM, q⟩ := h
    refine ⟨_, PSs.nox (pss_cons (ps_set (i := 2) scFaultR.nd rfl (.inl rfl) (GX.pe_minX (k := 1) (own := [("begin", 8), ("end", 9)]) (te := fun code1 => (tVar 9)) (g' := (gTup K 2 (gCons (gName 8) (gCons (gName 9) gNil)))) (tt := tYes) hr scFaultR.nd (by rfl) m_min TG.bm (pi_list (pv 0)) (GX.pc_own (Ms := Ms) (Xs := Xs) TG rfl) (GX.gok_by (own := [("begin", 8), ("end", 9)]) (N := ["bad", "good", "first_end", "last_begin", "rows", "first", "last", "latest", "begin", "end"]) (sc := defScope sFaultR) (by decide +kernel)) (fun _ _ _ _ _ r1 gd1 => (pg_tup rfl (pgs_cons (pg_name (i := 8) scFaultR.nd rfl (.inl rfl)) (pgs_cons (pg_name (i := 9) scFaultR.nd rfl (.inl rfl)) pgs_nil)))) (fun _ _ _ _ _ r1 gd1 => pts_nil) (fun _ _ _ code1 _ r1 gd1 => (pv 9))))
      (pss_cons (ps_set (i := 3) scFaultR.nd rfl (.inl rfl) (GX.pe_maxX (k := 1) (own := [("begin", 8), ("end", 9)]) (te := fun code1 => (tVar 8)) (g' := (gTup K 2 (gCons (gName 8) (gCons (gName 9) gNil)))) (tt := tYes) hr scFaultR.nd (by rfl) m_max TG.bm (pi_list (pv 0)) (GX.pc_own (Ms := Ms) (Xs := Xs) TG rfl) (GX.gok_by (own := [("begin", 8), ("end", 9)]) (N := ["bad", "good", "first_end", "last_begin", "rows", "first", "last", "latest", "begin", "end"]) (sc := defScope sFaultR) (by decide +kernel)) (fun _ _ _ _ _ r1 gd1 => (pg_tup rfl (pgs_cons (pg_name (i := 8) scFaultR.nd rfl (.inl rfl)) (pgs_cons (pg_name (i := 9) scFaultR.nd rfl (.inl rfl)) pgs_nil)))) (fun _ _ _ _ _ r1 gd1 => pts_nil) (fun _ _ _ code1 _ r1 gd1 => (pv 8))))
      (pss_cons (ps_set (i := 4) scFaultR.nd rfl (.inl rfl) (pe_lst pa_nil))
      (pss_cons (ps_for PassesOwn.never rfl (pi_list (pe_own C_free_rows (hr.mono (show 2 ≤ 4 by decide)) (by rfl) (pa_cons (pv 1) pa_nil))) (pg_tup rfl (pgs_cons (pg_name (i := 5) scFaultR.nd rfl (.inl rfl)) (pgs_cons (pg_name (i := 6) scFaultR.nd rfl (.inl rfl)) pgs_nil)))
        (pss_one (ps_if (PW.pt (pw_and (pt_cmpR op_le (pv 5) (pv 2) (nomark _)) (pw_and1 (PW.pt (pw_or (pt_cmpR op_isN (pv 6) pe_non (nomark _)) (pw_or1 (pt_cmpR op_le (pv 3) (pv 6) (nomark _)))))))) (pss_cons (ps_set (i := 7) scFaultR.nd rfl (.inl rfl) (pe_ifExp (pt_cmpR op_isN (pv 6) pe_non (nomark _)) (pv 2) (pe_callB (call_min2 rfl) (by rfl) m_min (by decide +kernel) (pa_cons (pv 2) (pa_cons (pv 6) pa_nil)))))
          (pss_one (ps_expr (pe_bm PySem.F.plainAttrs_list PySem.F.slot_list_append PySem.F.type_list_append mt_append (pv 4) (pa_cons (pe_tup (pa_cons (pv 5) (pa_cons (pv 6) (pa_cons (pv 7) (pa_cons (pe_callB (call_max2 rfl) (by rfl) m_max (by decide +kernel) (pa_cons (pv 3) (pa_cons (pv 5) pa_nil))) pa_nil))))) pa_nil)))))
          pss_nil)))
      (pss_one (ps_ret (pv 4))))))), ?_⟩
    have h0 : 0 < us.length := by rw [hp.1]; exact List.length_pos_iff.mpr hne
    have at1 : ∀ (i : Nat) r, ps[i]? = some r → ps.getD i (0, 0) = r := fun i r e => by rw [List.getD_eq_getElem?_getD, e]; rfl
    have mem : ∀ (i : Nat), i < us.length → ps.getD i (0, 0) ∈ ps := fun i hi => by
      have hi' : i < ps.length := by rw [← hp.1]; exact hi
      have e : ps[i]? = some ps[i] := List.getElem?_eq_getElem hi'
      rw [at1 i _ e]
      exact List.getElem_mem _
    have idx : ∀ r ∈ ps, ∃ i, i < us.length ∧ ps.getD i (0, 0) = r := fun r hr => by
      obtain ⟨i, hi⟩ := List.getElem?_of_mem hr
      exact ⟨i, by rw [hp.1]; exact (List.getElem?_eq_some_iff.mp hi).1, at1 i r hi⟩
    refine ⟨_, rfl, a, rfl, ⟨_, SqL.of ha⟩, hT, hM, fun H2 c2 P2 n2 t2 _ _ _ => GX.turns_min (walk_list (xs := us)) (fun i => (ps.getD i (0, 0)).2) h0 (fun H' => H' = H2) rfl (fun H' e => by subst e; exact SqL.of (n2.lst ha)) (fun i x H3 H3' Kt Kn hi e hy kt => ?_) (fun H3 m e hm1 hm2 => ?_)⟩
    · subst e
      obtain ⟨rfl, hx⟩ := hy
      obtain ⟨r, T, er, rfl, eT⟩ := prs_at hp hx
      refine ⟨T, _, rfl, .inl (.inl (n2.tup eT)), rfl, _, _, rfl, _, _, rfl, rfl, rfl, _, rfl, ?_⟩
      have := kt _ rfl
      rw [at1 i r er] at this
      exact this
    subst e
    have efe : minL (ps.map (·.2)) = m := by
      obtain ⟨i, hi, e⟩ := hm1
      refine minL_eq (List.mem_map.mpr ⟨_, mem i hi, e⟩) fun x hx => ?_
      obtain ⟨r, hr, rfl⟩ := List.mem_map.mp hx
      obtain ⟨j, hj, rfl⟩ := idx r hr
      exact hm2 j hj
    clear hm1 hm2
    refine ⟨_, rfl, a, rfl, ⟨_, SqL.of (n2.lst ha)⟩, t2, hM, fun H4 c4 P4 n4 t4 _ _ _ => GX.turns_max (walk_list (xs := us)) (fun i => (ps.getD i (0, 0)).1) h0 (fun H' => H' = H4) rfl (fun H' e => by subst e; exact SqL.of (n4.lst (n2.lst ha))) (fun i x H5 H5' Kt Kn hi e hy kt => ?_) (fun H5 m2 e hm1 hm2 => ?_)⟩
    · subst e
      obtain ⟨rfl, hx⟩ := hy
      obtain ⟨r, T, er, rfl, eT⟩ := prs_at hp hx
      refine ⟨T, _, rfl, .inl (.inl (n4.tup (n2.tup eT))), rfl, _, _, rfl, _, _, rfl, rfl, rfl, _, rfl, ?_⟩
      have := kt _ rfl
      rw [at1 i r er] at this
      exact this
    subst e
    have elb : maxL (ps.map (·.1)) = m2 := by
      obtain ⟨i, hi, e⟩ := hm1
      refine maxL_eq (List.mem_map.mpr ⟨_, mem i hi, e⟩) fun x hx => ?_
      obtain ⟨r, hr, rfl⟩ := List.mem_map.mp hx
      obtain ⟨j, hj, rfl⟩ := idx r hr
      exact hm2 j hj
    clear hm1 hm2
    have n04 := n2.trans n4
    refine ⟨Nat.zero_le _, fun p np => ?_⟩
    have sp := same_upd (o := .lst []) np
    refine ⟨_, rfl, b, ws, gs, rfl, sp _ _ (n04.lst hb), ?_, hgz, fun l zs H6 nl s6 el hz hzl => ⟨l, rfl, ⟨_, SqL.of el⟩, ?_⟩⟩
    · exact ((prs_thg (cs := []) hg).noTab n04).prs.same sp
    have ep6 := s6 _ _ (upd_same (H := H5) (a := p) (o := .lst []))
    have nlp : l ≠ p := fun z => by rw [z, upd_same] at nl; cases nl
    have S6 := sp.trans s6
    have hgl : zs.length = (gapsO 0 (setL gs)).length := by rw [hz.1, List.length_map]
    refine for_list (xs := zs) (fun i σ Hx => ∃ (vs : List V) (y5 y6 y7 y8 y9 : Option V), σ = [some (.ref a), some (.ref b), some (.int m), some (.int m2), some (.ref p), y5, y6, y7, y8, y9] ∧ Hx p = some (.lst vs) ∧ ThgL [p] Hx vs ((((gapsO 0 (setL gs)).take i).filterMap (rowG m m2)).map row4D) ∧ ∀ b o, b ≠ p → H6 b = some o → Hx b = some o) ⟨[], _, _, _, _, _, rfl, ep6, ThgL.nil, fun _ _ _ e => e⟩ (fun i σ Hx _ hP => ?_) (fun i x σ Hx hx hP => ?_) (fun σ Hx hP => ?_)
    · obtain ⟨vs, y5, y6, y7, y8, y9, rfl, ep, hv, k⟩ := hP
      exact SqL.of (k _ _ nlp el)
    · obtain ⟨vs, y5, y6, y7, y8, y9, rfl, ep, hv, k⟩ := hP
      obtain ⟨g, eg, hgd⟩ := hz.atM hx
      obtain ⟨T, xs, rfl, eT, h1⟩ := hgd.tuple
      obtain ⟨x1, ys, rfl, h2, h3⟩ := h1.inv
      obtain ⟨x2, ys2, rfl, h4, h5⟩ := h3.inv
      rw [h5.inv0, h2.inv_int, h4.inv_opt] at eT
      have eTx := k T _ (ne_of eT ep6 (fun z => nomatch z)) eT
      have et : (gapsO 0 (setL gs)).take (i + 1) = (gapsO 0 (setL gs)).take i ++ [g] := by rw [List.take_add_one, eg]; rfl
      have hil : i < (gapsO 0 (setL gs)).length := (List.getElem?_eq_some_iff.mp eg).1
      have hvl : vs.length ≤ i := by
        have := List.length_filterMap_le (rowG m m2) ((gapsO 0 (setL gs)).take i)
        rw [List.length_take] at this
        rw [hv.1, List.length_map]
        omega
      have skip : rowG m m2 g = none → ∀ y7', ∃ (vs : List V) (z5 z6 z7 z8 z9 : Option V), [some (V.ref a), some (.ref b), some (.int m), some (.int m2), some (.ref p), some (.int g.1), some (optV g.2), y7', y8, y9] = [some (.ref a), some (.ref b), some (.int m), some (.int m2), some (.ref p), z5, z6, z7, z8, z9] ∧ Hx p = some (.lst vs) ∧ ThgL [p] Hx vs ((((gapsO 0 (setL gs)).take (i + 1)).filterMap (rowG m m2)).map row4D) ∧ ∀ b o, b ≠ p → H6 b = some o → Hx b = some o := fun e y7' => by
        refine ⟨vs, _, _, _, _, _, rfl, ep, ?_, k⟩
        rw [et, List.filterMap_append, List.filterMap_cons, e, List.filterMap_nil, List.append_nil]
        exact hv
      have keep : ∀ (la : Int) (T2 : Addr), rowG m m2 g = some (g.1, g.2, la, if g.1 > m2 then g.1 else m2) → Hx T2 = none → ∃ (l' : Addr) (xs' : List V) (y : V), V.ref p = .ref l' ∧ [V.ref T2] = [y] ∧ upd Hx T2 (.tup [.int g.1, optV g.2, .int la, .int (if g.1 > m2 then g.1 else m2)]) l' = some (.lst xs') ∧ xs'.length < sizeLine ∧ ∃ (vs : List V) (y5 y6 y7 y8' y9' : Option V), [some (V.ref a), some (.ref b), some (.int m), some (.int m2), some (.ref p), some (.int g.1), some (optV g.2), some (.int la), y8, y9] = [some (.ref a), some (.ref b), some (.int m), some (.int m2), some (.ref p), y5, y6, y7, y8', y9'] ∧ upd (upd Hx T2 (.tup [.int g.1, optV g.2, .int la, .int (if g.1 > m2 then g.1 else m2)])) l' (.lst (xs' ++ [y])) p = some (.lst vs) ∧ ThgL [p] (upd (upd Hx T2 (.tup [.int g.1, optV g.2, .int la, .int (if g.1 > m2 then g.1 else m2)])) l' (.lst (xs' ++ [y]))) vs ((((gapsO 0 (setL gs)).take (i + 1)).filterMap (rowG m m2)).map row4D) ∧ ∀ b o, b ≠ p → H6 b = some o → upd (upd Hx T2 (.tup [.int g.1, optV g.2, .int la, .int (if g.1 > m2 then g.1 else m2)])) l' (.lst (xs' ++ [y])) b = some o := fun la T2 e n2' => by
        have s2 := same_upd (o := .tup [.int g.1, optV g.2, .int la, .int (if g.1 > m2 then g.1 else m2)]) n2'
        refine ⟨p, vs, _, rfl, rfl, s2 _ _ ep, small1000 (by omega), vs ++ [.ref T2], _, _, _, _, _, rfl, upd_same, ?_, fun b o nb eb => ?_⟩
        · rw [et, List.filterMap_append, List.filterMap_cons, e, List.filterMap_nil, List.map_append]
          exact ((hv.same s2).upd (s2 _ _ ep) (by simp)).append (ThgL.one ((ThgL.tup (.cons (.int _) (.cons (thg_opt _) (.cons (.int _) (.one (.int _))))) upd_same : Thg [p] _ (.ref T2) (row4D (g.1, g.2, la, if g.1 > m2 then g.1 else m2))).upd (s2 _ _ ep) (by simp)))
        · rw [upd_ne nb]
          exact s2 _ _ (k b o nb eb)
      refine ⟨T, _, rfl, .inl (.inl eTx), rfl, _, _, rfl, _, _, rfl, rfl, _, rfl, _, rfl, _, _, rfl, rfl, _, rfl, ite2 (fun c => ?_) (fun c => ?_)⟩
      · have c := of_decide_eq_true c
        cases e2 : g.2 with
        | none =>
          rw [e2] at keep
          refine ⟨_, rfl, rfl, _, rfl, iteT ⟨_, rfl, rfl, _, rfl, iteT ⟨_, rfl, ?_⟩⟩⟩
          refine ⟨_, rfl, .inl ⟨rfl, _, SqL.of ep⟩, _, rfl, _, rfl, _, rfl, _, rfl, _, rfl, _, _, rfl, (by show 4 ≤ sizeLine; decide), fun T2 n2' => keep m T2 ?_ n2'⟩
          unfold rowG
          rw [e2]
          exact if_pos c
        | some l2 =>
          rw [e2] at skip keep
          refine ⟨_, rfl, rfl, _, rfl, iteF ⟨_, rfl, _, rfl, _, _, rfl, rfl, _, rfl, ite2 (fun c2 => ?_) (fun c2 => ?_)⟩⟩
          · have c2 := of_decide_eq_true c2
            refine ⟨_, rfl, rfl, _, rfl, iteF ⟨_, rfl, _, rfl, _, _, rfl, ?_⟩⟩
            refine ⟨_, rfl, .inl ⟨rfl, _, SqL.of ep⟩, _, rfl, _, rfl, _, rfl, _, rfl, _, rfl, _, _, rfl, (by show 4 ≤ sizeLine; decide), fun T2 n2' => keep _ T2 ?_ n2'⟩
            unfold rowG
            rw [e2]
            exact if_pos ⟨c, c2⟩
          · have c2 : ¬ m2 ≤ l2 := fun z => c2 (decide_eq_true z)
            refine skip ?_ _
            unfold rowG
            rw [e2]
            exact if_neg fun z => c2 z.2
      · have c : ¬ g.1 ≤ m := fun z => c (decide_eq_true z)
        refine iteF (skip ?_ _)
        unfold rowG
        cases e2 : g.2 with
        | none => exact if_neg c
        | some l2 => exact if_neg fun z => c z.1
    · obtain ⟨vs, y5, y6, y7, y8, y9, rfl, ep, hv, k⟩ := hP
      rw [hgl, List.take_length] at hv
      have ef : faultF ps gs = (gapsO 0 (setL gs)).filterMap (rowG m m2) := by unfold faultF; rw [efe, elb]
      have S : Same H5 Hx := fun b' o e => k b' o (ne_of_none e np) (S6 _ _ e)
      refine ⟨_, rfl, q p vs Hx (n04.free np) (n04.trans (NoTab.same S)) (t4.same S) ep (by rw [ef]; exact hv.less (by simp)) ?_⟩
      · rw [ef]
        exact Nat.le_trans (List.length_filterMap_le _ _) hzl
end

theorem walk_zipTn {K : PySem.W.Frag} {a b : Addr} {xs ys : List V} {n : Nat} (hn : n = min xs.length ys.length) : Walk (RZ.ItzT K a b) n (fun H => SqT K H a xs ∧ SqT K H b ys) (YPair (fun i => xs[i]?) (fun i => ys[i]?)) := by
  subst hn
  refine ⟨fun i _ hi q => ?_, fun _ q => ⟨xs, ys, q.1, q.2, by omega⟩, fun i H v H' _ q y => ?_⟩
  · have h1 : i < xs.length := by omega
    have h2 : i < ys.length := by omega
    exact ⟨xs, ys, xs[i], ys[i], q.1, q.2, by simp [h1], by simp [h2]⟩
  · obtain ⟨T, x, z, h1, h2, h3, h4, h5⟩ := y
    exact ⟨T, x, z, h1, h2, h3, h4 xs q.1, h5 ys q.2⟩
theorem zipq_keep {K : PySem.W.Frag} {H : Hp} {a b : Addr} {xs ys : List V} {σ : L2.St} {i j : Nat} {R : It → Hp → Prop} (ei : σ[i]? = some (some (.ref a))) (ej : σ[j]? = some (some (.ref b))) (ha : SqH H a xs) (hb : SqH H b ys) (hl : xs.length = ys.length)
    (r : ∀ J G, Walk J xs.length G (YPair (fun i => xs[i]?) (fun i => ys[i]?)) → (∀ H', (∀ o, H a = some o → H' a = some o) → (∀ o, H b = some o → H' b = some o) → G H') → R J H) : iZipQ K (tCons (tVar i) (tCons (tVar j) tNil)) σ H R := by
  rcases ha with e | e <;> rcases hb with e2 | e2
  · exact .inl ⟨_, ei, _, ej, a, b, xs, ys, rfl, .inl ⟨SqL.of e, SqL.of e2, r _ _ (walk_zip (by omega)) fun H' n m => ⟨SqL.of (n _ e), SqL.of (m _ e2)⟩⟩⟩
  · exact .inr (.inl ⟨_, ei, _, ej, a, b, xs, ys, rfl, .inr ⟨SqL.of e, .inl (.inl e2), r _ _ (walk_zipM hl) fun H' n m => ⟨SqL.of (n _ e), .inl (.inl (m _ e2))⟩⟩⟩)
  · exact .inr (.inr ⟨_, ei, _, ej, a, b, xs, ys, rfl, .inl (.inl e), SqL.of e2, r _ _ (walk_zipN hl) fun H' n m => ⟨.inl (.inl (n _ e)), SqL.of (m _ e2)⟩⟩)
  · exact .inl ⟨_, ei, _, ej, a, b, xs, ys, rfl, .inr ⟨.inl (.inl e), .inl (.inl e2), r _ _ (walk_zipTn (by omega)) fun H' n m => ⟨.inl (.inl (n _ e)), .inl (.inl (m _ e2))⟩⟩⟩

/-! ### rows of a place -/
theorem u65 {k : Nat} {A : Around} (r : Room k A) : A.units + 65 < cLine := by have := r.un; omega
theorem range_bind {α β : Type} (g : α → Option β) : ∀ ts : List α, (List.range ts.length).filterMap (fun i => (ts[i]?).bind g) = ts.filterMap g
  | [] => rfl
  | t :: r => by
    rw [List.length_cons, List.range_succ_eq_map, List.filterMap_cons, List.filterMap_map, List.filterMap_cons]
    have ih := range_bind g r
    have e : (List.range r.length).filterMap ((fun i => ((t :: r)[i]?).bind g) ∘ Nat.succ) = r.filterMap g := ih
    rw [e]
    rfl
theorem bads_eq (seen : Seen) : seen.filterMap (fun x => if x.2 = true then some (spanD x.1) else none) = (badsF seen).map spanD := by
  unfold badsF
  induction seen with
  | nil => rfl
  | cons x r ih =>
    rw [List.filterMap_cons, List.filter_cons]
    by_cases c : x.2 = true
    · rw [if_pos c, if_pos c, List.map_cons, List.map_cons, ih]
    · rw [if_neg c, if_neg c, ih]
def goodD (x : Option (Int × Int) × Bool) : Option PyData := match x with
  | (some r, false) => some (pairD r)
  | _ => none
theorem goods_eq (seen : Seen) : seen.filterMap goodD = (goodsF seen).map pairD := by
  unfold goodsF
  induction seen with
  | nil => rfl
  | cons x r ih =>
    obtain ⟨o, b⟩ := x
    rw [List.filterMap_cons, List.filter_cons]
    cases b with
    | true => cases o <;> exact ih
    | false =>
      cases o with
      | none => exact ih
      | some q => exact congrArg (pairD q :: ·) ih
theorem lay_span (o : Option (Int × Int)) : PyData.canLay0 (spanD o) = true ∧ PyData.depth (spanD o) ≤ 1 := by
  cases o with
  | none => exact ⟨by simp [spanD, PyData.canLay0], by simp [spanD, PyData.depth]⟩
  | some p => exact ⟨by simp [spanD, pairD, PyData.canLay0, PyData.canLayAll0], by simp [spanD, pairD, PyData.depth, PyData.depthAll]⟩
theorem lay_spans : ∀ os : List (Option (Int × Int)), PyData.canLayAll0 (os.map spanD) = true ∧ PyData.depthAll (os.map spanD) ≤ 1
  | [] => ⟨by simp only [List.map_nil, PyData.canLayAll0], by simp only [List.map_nil, PyData.depthAll]; omega⟩
  | o :: r => by
    have h1 := lay_span o
    have h2 := lay_spans r
    refine ⟨by rw [List.map_cons, PyData.canLayAll0, h1.1, h2.1]; rfl, ?_⟩
    rw [List.map_cons, PyData.depthAll]
    omega
theorem shaped_spans (os : List (Option (Int × Int))) : SeqAt.shaped (PyData.list (os.map spanD)) = true := by
  unfold SeqAt.shaped
  have h := lay_spans os
  rw [PyData.canLay0, h.1, PyData.depth, Bool.true_and]
  exact decide_eq_true (by omega)
theorem none_in (os : List (Option (Int × Int))) : ((os.map spanD).any fun z => PyData.eqv z .none) = true ↔ none ∈ os := by
  rw [List.any_map, List.any_eq_true]
  constructor
  · rintro ⟨o, ho, e⟩
    cases o with
    | none => exact ho
    | some p => simp [spanD, pairD, PyData.eqv] at e
  · intro h
    exact ⟨none, h, by simp [spanD, PyData.eqv]⟩
theorem some_all : ∀ {os : List (Option (Int × Int))}, none ∉ os → os.map spanD = (os.filterMap id).map pairD
  | [], _ => rfl
  | none :: r, h => absurd (List.mem_cons_self ..) h
  | some p :: r, h => by
    rw [List.map_cons, some_all (fun z => h (List.mem_cons_of_mem _ z)), List.filterMap_cons]
    rfl
theorem wordD_eq (b : Bool) : (wordD b = "bad" ↔ b = true) ∧ (wordD b = "good" ↔ b = false) := by cases b <;> decide
def spRowsAt (K : PySem.W.Frag) (Ms : GX.Mq) (Xs : List Addr) (Pf : Addr) : Sp := fun vs H Q _ => ∃ (vb vt : V) (p : Str) (bs : List Bat3) (ts : List Tst) (cs : List Addr), vs = [vb, vt, .str p] ∧ Given cs H vb vt bs ts ∧ CaseOk bs ts ∧ (∃ t ∈ ts, t.bad = true) ∧ GX.TQ Ms Xs H ∧ Pf ∈ Ms ∧
  ∀ l zs H', H l = none → GX.NoTab H H' → GX.TQ Ms Xs H' → H' l = some (.lst zs) → ThgL [] H' zs ((rowsAtF (seenF bs ts p)).map row4D) → (rowsAtF (seenF bs ts p)).length ≤ 901 → Q (.ref l) H'
abbrev sRowsAt : Stmt := topS 23
theorem scRowsAt : FnScope ["batches", "tests", "place", "windows", "bad", "good", "span", "test"] ["batches", "tests", "place"] (defScope sRowsAt) := ⟨rfl, rfl, rfl, by decide +kernel, rfl, by decide +kernel, by decide +kernel⟩
section
variable {K : PySem.W.Frag} {mg : Str → Option Value} {P : Program} {w : World} {base : Heap}
theorem ok_RowsAt {f : Addr} {fd : FuncData} (F : Fun K "rows_at" "rows_at" sRowsAt f fd) (C_windows_tested : Cal P w K mg base 3 "windows_tested" ["batches", "tests", "place"] (spTested K)) (C_fault_rows : Cal P w K mg base 5 "fault_rows" ["bad", "good"] (spFaultR K Ms Xs Pf)) (c_BAD : ∃ u, mg "BAD" = some u ∧ RelV (.str "bad") u) (c_GOOD : ∃ u, mg "GOOD" = some u ∧ RelV (.str "good") u) (m_zip : mg "zip" = none) : FnOk P w K mg base CX0 6 f fd ["batches", "tests", "place"] (spRowsAt K Ms Xs Pf) := by
  refine F.ok scRowsAt (fun vs H Q E h => ?_) (fun cdv A outer s H vs Q E hr h => ?_)
  · obtain ⟨vb, vt, p, bs, ts, cs, rfl, _⟩ := h
    rfl
  · obtain ⟨vb, vt, p, bs, ts, cs, rfl, hG, hC, hbad, hT, hM, q⟩ := h
    refine ⟨_, pss_cons (ps_set (i := 3) scRowsAt.nd rfl (.inl rfl) (pe_own C_windows_tested (hr.mono (show 3 ≤ 5 by decide)) (by rfl) (pa_cons (pv 0) (pa_cons (pv 1) (pa_cons (pv 2) pa_nil)))))
      (pss_cons (ps_setLc (i := 4) (own := [("span", 6), ("test", 7)]) (g := (gTup K 2 (gCons (gName 6) (gCons (gName 7) gNil)))) (tt := (tTest (tOp (rEq) (tOp (rIxT K) (tVar 7) (tC (.int 2))) (tC (.str "bad"))))) (te := (tVar 6)) rfl scRowsAt.nd rfl rfl (sw_true rfl rfl rfl (by decide +kernel)) (pi_zipQ (by rfl) m_zip (pa_cons (pv 3) (pa_cons (pv 1) pa_nil))) (blkOk_by (own := [("span", 6), ("test", 7)]) (N := ["batches", "tests", "place", "windows", "bad", "good", "span", "test"]) (sc := defScope sRowsAt) (by decide +kernel)) (fun _ _ _ _ _ => (pg_tup rfl (pgs_cons (pg_name (i := 6) scRowsAt.nd rfl (.inl rfl)) (pgs_cons (pg_name (i := 7) scRowsAt.nd rfl (.inl rfl)) pgs_nil)))) (fun _ _ _ _ _ => (pts_one (pt_cmpR op_eq (pe_ix ix_tup (pv 7) pe_int (fun _ _ => rfl)) (C8.pe_gc (by rfl) c_BAD) (nomark _)))) (fun _ _ _ _ _ => (pv 6)))
      (pss_cons (ps_if (pt_cmpR (op_inD (u65 hr)) pe_non (pv 4) (by rfl)) (pss_one (ps_ret (pe_lst pa_nil)))
        pss_nil)
      (pss_cons (ps_setLc (i := 5) (own := [("span", 6), ("test", 7)]) (g := (gTup K 2 (gCons (gName 6) (gCons (gName 7) gNil)))) (tt := (tAnd (tTest (tOp (rEq) (tOp (rIxT K) (tVar 7) (tC (.int 2))) (tC (.str "good")))) (tTest (tOp (fun x y H Q => y = .non ∧ Q (.bl (!decide (x = .non))) H) (tVar 6) (tC .non))))) (te := (tVar 6)) rfl scRowsAt.nd rfl rfl (sw_true rfl rfl rfl (by decide +kernel)) (pi_zipQ (by rfl) m_zip (pa_cons (pv 3) (pa_cons (pv 1) pa_nil))) (blkOk_by (own := [("span", 6), ("test", 7)]) (N := ["batches", "tests", "place", "windows", "bad", "good", "span", "test"]) (sc := defScope sRowsAt) (by decide +kernel)) (fun _ _ _ _ _ => (pg_tup rfl (pgs_cons (pg_name (i := 6) scRowsAt.nd rfl (.inl rfl)) (pgs_cons (pg_name (i := 7) scRowsAt.nd rfl (.inl rfl)) pgs_nil)))) (fun _ _ _ _ _ => (pts_one (PW.pt (pw_and (pt_cmpR op_eq (pe_ix ix_tup (pv 7) pe_int (fun _ _ => rfl)) (C8.pe_gc (by rfl) c_GOOD) (nomark _)) (pw_and1 (pt_cmpR op_notN (pv 6) pe_non (nomark _))))))) (fun _ _ _ _ _ => (pv 6)))
      (pss_one (ps_ret (pe_own C_fault_rows hr (by rfl) (pa_cons (pv 4) (pa_cons (pv 5) pa_nil)))))))), ?_⟩
    have htl := hC.tl
    have hlen : (seenF bs ts p).length = ts.length := List.length_map _
    refine ⟨_, rfl, _, rfl, _, rfl, vb, vt, p, bs, ts, cs, rfl, hG, hC, fun W us H1 nW s1 eW hW => ?_⟩
    obtain ⟨-, b, ys, rfl, hb, hy⟩ := hG.same s1
    have hul : us.length = ts.length := by rw [hW.1, List.length_map]
    have hyl : ys.length = ts.length := by rw [hy.1, List.length_map]
    have T1 := hT.same s1
    refine zipq_keep rfl rfl (.inl eW) hb (by omega) fun J G wk hGG L nL => lc_thgF (fun i => ((seenF bs ts p)[i]?).bind fun x => if x.2 = true then some (spanD x.1) else none) wk [] nL (by omega) (fun H' s => hGG H' (fun o e => s _ _ e) (fun o e => s _ _ e)) (fun i x H2 H2' Kt Kn hi s2 hyy kt kn => ?_) (fun H2 ws s2 e2 h2 => ?_)
    · obtain ⟨T, x1, x2, rfl, nT, rfl, f1, f2⟩ := hyy
      have f1 : us[i]? = some x1 := f1
      have f2 : ys[i]? = some x2 := f2
      have hi' : i < ts.length := by omega
      have et : ts[i]? = some ts[i] := List.getElem?_eq_getElem hi'
      have sT := same_upd (o := .tup [x1, x2]) nT
      have h1 := ((hW.2 i x1 _ f1 (by rw [List.getElem?_map, et]; rfl)).same s2).same sT
      obtain ⟨c, rfl, ec⟩ := ((hy.2 i x2 _ f2 (by rw [List.getElem?_map, et]; rfl)).same (s2.trans sT)).tst
      have es : ((seenF bs ts p)[i]?).bind (fun x => if x.2 = true then some (spanD x.1) else none) = if ts[i].bad = true then some (spanD (winT bs p ts[i])) else none := by
        unfold seenF
        rw [List.getElem?_map, et]
        rfl
      rw [es] at kt kn
      refine ⟨T, _, rfl, .inl (.inl upd_same), rfl, _, _, rfl, _, _, rfl, rfl, rfl, _, rfl, c, _, 2, _, rfl, rfl, .inl (.inl ec), atI_nat (j := 2) rfl, rfl, _, rfl, ite2 (fun c1 => ?_) (fun c1 => ?_)⟩
      · have hb1 : ts[i].bad = true := (wordD_eq _).1.mp (V.str.inj (of_decide_eq_true c1))
        rw [if_pos hb1] at kt
        exact ⟨_, rfl, kt _ _ _ rfl sT h1.span⟩
      · have hb1 : ¬ ts[i].bad = true := fun z => c1 (decide_eq_true (congrArg V.str ((wordD_eq _).1.mpr z)))
        rw [if_neg hb1] at kn
        exact kn _ rfl sT
    rw [hul, ← hlen, range_bind, bads_eq] at h2
    have dpB : Dp K H2 (.ref L) (.list ((badsF (seenF bs ts p)).map spanD)) := ((h2.less (cs' := []) (by simp)).lst e2 (by simp)).dp
    refine ⟨_, rfl, .none, (badsF (seenF bs ts p)).map spanD, .non, dpB, by rfl, shaped_spans _, _, rfl, ite2 (fun c => ?_) (fun c => ?_)⟩
    · have hn := (none_in _).mp c
      have e : rowsAtF (seenF bs ts p) = [] := by unfold rowsAtF; exact if_pos hn
      refine ⟨Nat.zero_le _, fun R nR => ?_⟩
      have sR := same_upd (o := .lst []) nR
      have S := (s1.trans s2).trans sR
      exact q R [] _ ((s1.trans s2).free nR) (NoTab.same S) (hT.same S) upd_same (by rw [e]; exact ThgL.nil) (by rw [e]; exact Nat.zero_le _)
    · have hn : none ∉ badsF (seenF bs ts p) := fun z => c ((none_in _).mpr z)
      have hb2 : SqH H2 b ys := hb.imp (fun e => s2 _ _ e) (fun e => s2 _ _ e)
      refine zipq_keep rfl rfl (.inl (s2 _ _ eW)) hb2 (by omega) fun J G wk hGG L2 nL2 => lc_thgF (fun i => ((seenF bs ts p)[i]?).bind goodD) wk [] nL2 (by omega) (fun H' s => hGG H' (fun o e => s _ _ e) (fun o e => s _ _ e)) (fun i x H3 H3' Kt Kn hi s3 hyy kt kn => ?_) (fun H3 vs s3 e3 h3 => ?_)
      · obtain ⟨T, x1, x2, rfl, nT, rfl, f1, f2⟩ := hyy
        have f1 : us[i]? = some x1 := f1
        have f2 : ys[i]? = some x2 := f2
        have hi' : i < ts.length := by omega
        have et : ts[i]? = some ts[i] := List.getElem?_eq_getElem hi'
        have sT := same_upd (o := .tup [x1, x2]) nT
        have h1 := ((hW.2 i x1 _ f1 (by rw [List.getElem?_map, et]; rfl)).same (s2.trans s3)).same sT
        obtain ⟨c, rfl, ec⟩ := ((hy.2 i x2 _ f2 (by rw [List.getElem?_map, et]; rfl)).same ((s2.trans s3).trans sT)).tst
        have es : ((seenF bs ts p)[i]?).bind goodD = goodD (winT bs p ts[i], ts[i].bad) := by
          unfold seenF
          rw [List.getElem?_map, et]
          rfl
        rw [es] at kt kn
        refine ⟨T, _, rfl, .inl (.inl upd_same), rfl, _, _, rfl, _, _, rfl, rfl, rfl, _, rfl, c, _, 2, _, rfl, rfl, .inl (.inl ec), atI_nat (j := 2) rfl, rfl, _, rfl, ite2 (fun c1 => ?_) (fun c1 => ?_)⟩
        · have hb1 : ts[i].bad = false := (wordD_eq _).2.mp (V.str.inj (of_decide_eq_true c1))
          rw [hb1] at kt kn
          have h1 : Thg [] (upd H3 T (.tup [x1, .ref c])) x1 (spanD (winT bs p ts[i])) := h1
          cases hw : winT bs p ts[i] with
          | none =>
            rw [hw] at h1 kt kn
            cases h1.inv_non
            exact ⟨_, rfl, rfl, _, rfl, iteF (kn _ rfl sT)⟩
          | some r =>
            rw [hw] at h1 kt kn
            have h1' : Thg [L2] (upd H3 T (.tup [x1, .ref c])) x1 (pairD r) := h1.span (o := some r)
            obtain ⟨d, rfl, _⟩ := h1.pair
            exact ⟨_, rfl, rfl, _, rfl, iteT ⟨_, rfl, kt _ _ _ rfl sT h1'⟩⟩
        · have hb1 : ts[i].bad = true := by
            cases hb : ts[i].bad with
            | true => rfl
            | false => exact absurd (decide_eq_true (congrArg V.str ((wordD_eq _).2.mpr hb))) c1
          refine iteF (kn _ ?_ sT)
          rw [hb1]
          cases winT bs p ts[i] <;> rfl
      · rw [hul, ← hlen, range_bind, goods_eq] at h3
        have hbl : (badsF (seenF bs ts p)).length ≤ ts.length := by
          unfold badsF
          rw [List.length_map]
          exact Nat.le_trans (List.length_filter_le _ _) (by rw [hlen]; exact Nat.le_refl _)
        have hgl : (goodsF (seenF bs ts p)).length ≤ ts.length := by
          unfold goodsF
          exact Nat.le_trans (List.length_filterMap_le _ _) (Nat.le_trans (List.length_filter_le _ _) (by rw [hlen]; exact Nat.le_refl _))
        have hne : (badsF (seenF bs ts p)).filterMap id ≠ [] := by
          obtain ⟨t, ht, hbt⟩ := hbad
          intro z
          have hm : winT bs p t ∈ badsF (seenF bs ts p) := List.mem_map.mpr ⟨(winT bs p t, t.bad), List.mem_filter.mpr ⟨List.mem_map.mpr ⟨t, ht, rfl⟩, hbt⟩, rfl⟩
          cases hw : winT bs p t with
          | none => rw [hw] at hm; exact hn hm
          | some r =>
            rw [hw] at hm
            have : r ∈ (badsF (seenF bs ts p)).filterMap id := List.mem_filterMap.mpr ⟨some r, hm, rfl⟩
            rw [z] at this
            cases this
        rw [some_all hn] at h2
        have S3 := (s1.trans s2).trans s3
        have e : rowsAtF (seenF bs ts p) = faultF ((badsF (seenF bs ts p)).filterMap id) (goodsF (seenF bs ts p)) := by unfold rowsAtF; exact if_neg hn
        have hbl2 := List.length_filterMap_le id (badsF (seenF bs ts p))
        refine ⟨_, rfl, _, rfl, L, L2, ws, vs, _, _, rfl, s3 _ _ e2, ((h2.less (cs' := []) (by simp)).prs).same s3, hne, by omega, e3, (h3.less (cs' := []) (by simp)).prs, by omega, hT.same S3, hM, fun l zs H4 nl n4 t4 e4 h4 hl4 => ?_⟩
        exact q l zs H4 (S3.free nl) ((NoTab.same S3).trans n4) t4 e4 (by rw [e]; exact h4) (by rw [e]; exact hl4)
end
/-! ### all rows -/
def spSusp (K : PySem.W.Frag) (Ms : GX.Mq) (Xs : List Addr) (Pf : Addr) : Sp := fun vs H Q _ => ∃ (vb vt : V) (bs : List Bat3) (ts : List Tst) (cs : List Addr), vs = [vb, vt] ∧ Given cs H vb vt bs ts ∧ CaseOk bs ts ∧ (∃ t ∈ ts, t.bad = true) ∧ GX.TQ Ms Xs H ∧ Pf ∈ Ms ∧
  ∀ l zs ps H', H l = none → GX.NoTab H H' → GX.TQ Ms Xs H' → H' l = some (.lst zs) → SrtT (PlaceP bs) ps → ThgL [l] H' zs ((suspF bs ts ps).map row5D) → Q (.ref l) H'
abbrev sSusp : Stmt := topS 24
theorem scSusp : FnScope ["batches", "tests", "rows", "place", "row"] ["batches", "tests"] (defScope sSusp) := ⟨rfl, rfl, rfl, by decide +kernel, rfl, by decide +kernel, by decide +kernel⟩
section
variable {K : PySem.W.Frag} {mg : Str → Option Value} {P : Program} {w : World} {base : Heap}
theorem ok_Susp {f : Addr} {fd : FuncData} (F : Fun K "suspects" "suspects" sSusp f fd) (C_places_passed : Cal P w K mg base 1 "places_passed" ["batches"] (spPassed K)) (C_rows_at : Cal P w K mg base 6 "rows_at" ["batches", "tests", "place"] (spRowsAt K Ms Xs Pf)) : FnOk P w K mg base CX0 7 f fd ["batches", "tests"] (spSusp K Ms Xs Pf) := by
  refine F.ok scSusp (fun vs H Q E h => ?_) (fun cdv A outer s H vs Q E hr h => ?_)
  · obtain ⟨vb, vt, bs, ts, cs, rfl, _⟩ := h
    rfl
  · obtain ⟨vb, vt, bs, ts, cs, rfl, hG, hC, hbad, hT, hM, q⟩ := h
    refine ⟨_, pss_cons (ps_set (i := 2) scSusp.nd rfl (.inl rfl) (pe_lst pa_nil))
      (pss_cons (ps_for PassesOwn.never rfl (pi_list (pe_own C_places_passed (hr.mono (show 1 ≤ 6 by decide)) (by rfl) (pa_cons (pv 0) pa_nil))) (pg_name (i := 3) scSusp.nd rfl (.inr rfl))
        (pss_one (ps_expr (pe_bm PySem.F.plainAttrs_list PySem.F.slot_list_extend PySem.F.type_list_extend mt_extend (pv 2) (pa_cons (pe_lc (own := [("row", 4)]) (g := (gName 4)) (tt := tYes) (te := (tTup (tCons (tVar 3) (StX.tStar K (tVar 4) tNil)))) rfl scSusp.nd (pi_list (pe_own C_rows_at hr (by rfl) (pa_cons (pv 0) (pa_cons (pv 1) (pa_cons (pv 3) pa_nil))))) (blkOk_by (own := [("row", 4)]) (N := ["batches", "tests", "rows", "place", "row"]) (sc := defScope sSusp) (by decide +kernel)) (fun _ _ _ _ _ => (pg_name (i := 4) scSusp.nd rfl (.inl rfl))) (fun _ _ _ _ _ => pts_nil) (fun _ _ _ _ _ => (pe_tup (pa_cons (pv 3) (StX.pa_star (pv 4) pa_nil))))) pa_nil)))))
      (pss_one (ps_ret (pv 2)))), ?_⟩
    refine ⟨Nat.zero_le _, fun R nR => ?_⟩
    have sR := same_upd (o := .lst []) nR
    obtain ⟨a, xs, ds, e0, ha, hx, hR⟩ := (hG.same sR).bt
    subst e0
    refine ⟨_, rfl, a, xs, ds, bs, cs, rfl, ha, hx, hR, hC.few, fun l ps H1 nl s1 el hps hpl => ⟨l, rfl, ⟨_, SqL.of el⟩, ?_⟩⟩
    have S1 := sR.trans s1
    have eR1 := s1 _ _ (upd_same (H := H) (a := R) (o := .lst []))
    have nlR : l ≠ R := fun z => by rw [z, upd_same] at nl; cases nl
    refine for_list (xs := ps.map V.str) (fun i σ Hx => ∃ (zs : List V) (y3 y4 : Option V), σ = [some (.ref a), some vt, some (.ref R), y3, y4] ∧ Hx R = some (.lst zs) ∧ ThgL [R] Hx zs ((suspF bs ts (ps.take i)).map row5D) ∧ zs.length ≤ 901 * i ∧ GX.TQ Ms Xs Hx ∧ (∀ b o, b ≠ R → H1 b = some o → (∀ q, o ≠ .tbl q) → Hx b = some o) ∧ (∀ b q, H1 b = some (.tbl q) → ∃ q2, Hx b = some (.tbl q2))) ⟨[], _, _, rfl, eR1, ThgL.nil, Nat.zero_le _, hT.same S1, fun _ _ _ e _ => e, fun b q e => ⟨q, e⟩⟩ (fun i σ Hx _ hP => ?_) (fun i x σ Hx hxi hP => ?_) (fun σ Hx hP => ?_)
    · obtain ⟨zs, y3, y4, rfl, eR, hz, hzl, tq, k, kt⟩ := hP
      exact SqL.of (k _ _ nlR el (fun _ z => nomatch z))
    · obtain ⟨zs, y3, y4, rfl, eR, hz, hzl, tq, k, kt⟩ := hP
      have hi : i < ps.length := by
        have := (List.getElem?_eq_some_iff.mp hxi).1
        rwa [List.length_map] at this
      rw [List.getElem?_map, List.getElem?_eq_getElem hi] at hxi
      cases hxi
      have noR : ∀ b o, H b = some o → b ≠ R := fun b o e => ne_of_none e nR
      have nt : GX.NoTab H Hx := ⟨fun b o e n => k b o (noR b o e) (S1 _ _ e) n, fun b q e => kt b q (S1 _ _ e)⟩
      refine ⟨_, rfl, .inl ⟨rfl, _, SqL.of eR⟩, _, rfl, _, rfl, _, rfl, .ref a, vt, ps[i], bs, ts, cs, rfl, hG.noTab nt, hC, hbad, tq, hM, fun W us H2 nW n2 t2 eW hW hWl => ⟨W, rfl, ⟨_, SqL.of eW⟩, fun D nD => ?_⟩⟩
      have hul : us.length = (rowsAtF (seenF bs ts ps[i])).length := by rw [hW.1, List.length_map]
      refine lc_thg ((rowsAtF (seenF bs ts ps[i])).map fun r => row5D (ps[i], r)) (walk_list (xs := us)) [R] nD (by rw [List.length_map, hul]) (by omega) (fun H' s => SqL.of (s _ _ eW)) (fun j x d H3 H3' Kt Kn ed s3 hy kk => ?_) (fun H3 ws s3 e3 h3 => ?_)
      · obtain ⟨rfl, hxj⟩ := hy
        rw [List.getElem?_map] at ed
        cases er : (rowsAtF (seenF bs ts ps[i]))[j]? with
        | none => rw [er] at ed; cases ed
        | some r =>
          rw [er] at ed
          cases ed
          have h4 := (hW.2 j x (row4D r) hxj (by rw [List.getElem?_map, er]; rfl)).same s3
          obtain ⟨c, vs, rfl, ec, h5⟩ := h4.tuple
          obtain ⟨x1, w1, rfl, g1, h6⟩ := h5.inv
          obtain ⟨x2, w2, rfl, g2, h7⟩ := h6.inv
          obtain ⟨x3, w3, rfl, g3, h8⟩ := h7.inv
          obtain ⟨x4, w4, rfl, g4, h9⟩ := h8.inv
          rw [h9.inv0, g1.inv_int, g2.inv_opt, g3.inv_int, g4.inv_int] at ec
          refine ⟨rfl, _, rfl, _, rfl, c, _, rfl, .inl (.inl (.inl ec)), (by show 5 ≤ sizeLine; decide), fun T nT => kk _ _ (same_upd nT) ?_⟩
          exact ThgL.tup (.cons (.str _) (.cons (.int _) (.cons (thg_opt _) (.cons (.int _) (.one (.int _)))))) upd_same
      · have eR3 := s3 _ _ (n2.lst eR)
        have hz3 := (hz.noTab n2).same s3
        have hwl : ws.length ≤ 901 := by rw [h3.1, List.length_map]; exact hWl
        have DR : D ≠ R := fun z => by rw [z, n2.lst eR] at nD; cases nD
        refine ⟨R, D, zs, ws, rfl, rfl, eR3, e3, Nat.le_trans (show zs.length + ws.length ≤ 100000 by omega) (by decide), zs ++ ws, _, _, rfl, upd_same, ?_, by rw [List.length_append]; omega, (t2.same s3).upd eR3, fun b o nb e n => ?_, fun b q e => ?_⟩
        · have et : suspF bs ts (ps.take (i + 1)) = suspF bs ts (ps.take i) ++ (rowsAtF (seenF bs ts ps[i])).map fun r => (ps[i], r) := by
            unfold suspF
            rw [List.take_add_one, List.getElem?_eq_getElem hi, List.flatMap_append]
            show _ ++ List.flatMap _ [ps[i]] = _
            rw [List.flatMap_singleton]
          rw [et, List.map_append, List.map_map]
          exact (hz3.upd eR3 (by simp)).append ((h3.less (cs' := [R]) (by simp)).upd eR3 (by simp))
        · rw [upd_ne nb]
          exact s3 _ _ (n2.keep _ _ (k b o nb e n) n)
        · obtain ⟨q2, e2⟩ := kt b q e
          obtain ⟨q3, e4⟩ := n2.tab _ _ e2
          exact ⟨q3, by rw [upd_ne (ne_of (s3 _ _ e4) eR3 (fun z => nomatch z))]; exact s3 _ _ e4⟩
    · obtain ⟨zs, y3, y4, rfl, eR, hz, hzl, tq, k, kt⟩ := hP
      rw [List.length_map, List.take_length] at hz
      exact ⟨_, rfl, q R zs ps Hx nR ⟨fun b o e n => k b o (ne_of_none e nR) (S1 _ _ e) n, fun b q e => kt b q (S1 _ _ e)⟩ tq eR hps hz⟩
end

/-! ### fewest by trying -/
/-- truths, one for each item -/
theorem lc_bs {K : PySem.W.Frag} {a : Addr} {xs : List V} {g : TG} {tt : TT} {te : TE} {vs : List Nat} {σ : L2.St} {H1 : Hp} {D : Addr} {Qd : Hp → Prop} (bs : List Bool) (nD : H1 D = none) (ea : H1 a = some (.lst xs)) (hl : bs.length = xs.length) (hz : xs.length ≤ 1000)
    (turn : ∀ (i : Nat) (x : V) (b : Bool) (H : Hp) (Kt : V → Hp → Prop) (Kn : Hp → Prop), xs[i]? = some x → bs[i]? = some b → Same H1 H → (∀ H4, Same H H4 → Kt (.bl b) H4) → g x (wipe σ vs) H fun σ2 H2 => wipe σ2 vs = wipe σ vs ∧ tt σ2 H2 fun b H3 => if b = true then te σ2 H3 Kt else Kn H3)
    (fin : ∀ H, Same H1 H → H D = some (.lst (bs.map V.bl)) → Qd H) : LcW (Itl K a) g tt te vs σ D Qd H1 := by
  refine lc_it walk_list (fun j H => Same H1 H ∧ H D = some (.lst ((bs.take j).map V.bl))) ⟨same_upd nD, upd_same⟩ (fun i H _ p => SqL.of (p.1 _ _ ea)) (fun i x H H' hi hP hy => ?_) (fun H hP => ?_)
  · obtain ⟨sm, eD⟩ := hP
    obtain ⟨rfl, hx⟩ := hy
    have hb : bs[i]? = some bs[i] := List.getElem?_eq_getElem (by omega)
    refine turn i x _ H' _ _ hx hb sm fun H4 s4 => ⟨_, s4 _ _ eD, Nat.lt_of_lt_of_le (show _ < 1000 by rw [List.length_map, List.length_take]; omega) (by decide), fun b o e => ?_, ?_⟩
    · rw [upd_ne (ne_of_none e nD)]
      exact s4 _ _ (sm b o e)
    · rw [upd_same, List.take_add_one, hb, List.map_append]
      rfl
  · obtain ⟨sm, eD⟩ := hP
    rw [← hl, List.take_length] at eD
    exact fin H sm eD

/-! ### windows of tests, by the law -/
def TstOk (bs : List Bat3) (t : Tst) : Prop := ∃ B ∈ bs, B.mark = t.mark ∧ 0 ≤ t.tin ∧ t.tin < B.tins
/-- what a dict by marks holds of the first so many batches -/
def DicR (R : Bat3 → V → Prop) (kvs : List (Key × V)) (bs : List Bat3) (n : Nat) : Prop := ∀ i B, i < n → bs[i]? = some B → ∃ v, valV kvs (.inr B.mark) = some v ∧ R B v
theorem DicR.put {R : Bat3 → V → Prop} {kvs : List (Key × V)} {bs : List Bat3} {n : Nat} {B : Bat3} {v : V} (h : DicR R kvs bs n) (nd : (bs.map Bat3.mark).Nodup) (e : bs[n]? = some B) (hv : R B v) : DicR R (putK kvs (.inr B.mark) v) bs (n + 1) := fun i B' hi e' => by
  rw [valV_put]
  by_cases ei : i = n
  · subst ei
    rw [e] at e'
    cases e'
    rw [if_pos rfl]
    exact ⟨v, rfl, hv⟩
  · have ne : B'.mark ≠ B.mark := fun z => by
      obtain ⟨hi', ei'⟩ := List.getElem?_eq_some_iff.mp e'
      obtain ⟨hj', ej'⟩ := List.getElem?_eq_some_iff.mp e
      exact ei ((List.getElem_inj (h₀ := by rw [List.length_map]; exact hi') (h₁ := by rw [List.length_map]; exact hj') nd).mp (by rw [List.getElem_map, List.getElem_map, ei', ej', z]))
    rw [if_neg (fun z => ne (Sum.inr.inj z))]
    exact h i B' (by omega) e'
def lseenD (x : Option (Int × Int) × Bool) : PyData := .tuple [spanD x.1, .bool x.2]
def spLWins : Sp := fun vs H Q _ => ∃ (a l : Addr) (p : Str) (us ys : List V) (bs : List Bat3) (ts : List Tst) (cs : List Addr), vs = [.ref a, .ref l, .str p] ∧ H a = some (.lst us) ∧ ThgL cs H us (bs.map batD) ∧ H l = some (.lst ys) ∧ ThgL cs H ys (ts.map tstD) ∧ CaseOk bs ts ∧
  ∀ G ws H', H G = none → Same H H' → H' G = some (.lst ws) → ThgL [] H' ws ((seenF bs ts p).map lseenD) → Q (.ref G) H'
abbrev sLWins : Stmt := topS 38
theorem scLWins : FnScope ["_law_batches", "_law_tests", "_law_place", "_law_by_mark", "_law_mark", "_law_tin", "_law_word", "_law_batch"] ["_law_batches", "_law_tests", "_law_place"] (defScope sLWins) := ⟨rfl, rfl, rfl, by decide +kernel, rfl, by decide +kernel, by decide +kernel⟩
section
variable {K : PySem.W.Frag} {mg : Str → Option Value} {P : Program} {w : World} {base : Heap}
theorem ok_LWins {f : Addr} {fd : FuncData} (F : Fun K "_law_windows" "_law_windows" sLWins f fd) (C__law_window : Cal P w K mg base 1 "_law_window" ["_law_batch", "_law_place", "_law_tin"] spLWin) (m_dict : mg "dict" = none) : FnOk P w K mg base CX0 2 f fd ["_law_batches", "_law_tests", "_law_place"] spLWins := by
  refine F.ok scLWins (fun vs H Q E h => ?_) (fun cdv A outer s H vs Q E hr h => ?_)
  · obtain ⟨a, l, p, us, ys, bs, ts, cs, rfl, _⟩ := h
    rfl
  · obtain ⟨a, l, p, us, ys, bs, ts, cs, rfl, ha, hu, hl, hy, hC, q⟩ := h
    refine ⟨_, pss_cons (ps_set (i := 3) scLWins.nd rfl (.inr rfl) (pe_callTy (call_dictP rfl) (by rfl) m_dict (by decide +kernel) (pa_cons (pe_lc (own := [("_law_batch", 7)]) (g := (gName 7)) (tt := tYes) (te := (tTup (tCons (tOp (rIxT K) (tVar 7) (tC (.int 0))) (tCons (tVar 7) tNil)))) rfl scLWins.nd (pi_list (pv 0)) (blkOk_by (own := [("_law_batch", 7)]) (N := ["_law_batches", "_law_tests", "_law_place", "_law_by_mark", "_law_mark", "_law_tin", "_law_word", "_law_batch"]) (sc := defScope sLWins) (by decide +kernel)) (fun _ _ _ _ _ => (pg_name (i := 7) scLWins.nd rfl (.inl rfl))) (fun _ _ _ _ _ => pts_nil) (fun _ _ _ _ _ => (pe_tup (pa_cons (pe_ix ix_tup (pv 7) pe_int (fun _ _ => rfl)) (pa_cons (pv 7) pa_nil))))) pa_nil)))
      (pss_one (ps_ret (pe_lc (own := [("_law_mark", 4), ("_law_tin", 5), ("_law_word", 6)]) (g := (gTup K 3 (gCons (gName 4) (gCons (gName 5) (gCons (gName 6) gNil))))) (tt := tYes) (te := (tTup (tCons (tCall spLWin [] E0 (tCons (tDGet (tVar 3) (tVar 4)) (tCons (tVar 2) (tCons (tVar 5) tNil)))) (tCons (tOp (rEq) (tVar 6) (tC (.str "bad"))) tNil)))) rfl scLWins.nd (pi_list (pv 1)) (blkOk_by (own := [("_law_mark", 4), ("_law_tin", 5), ("_law_word", 6)]) (N := ["_law_batches", "_law_tests", "_law_place", "_law_by_mark", "_law_mark", "_law_tin", "_law_word", "_law_batch"]) (sc := defScope sLWins) (by decide +kernel)) (fun _ _ _ _ _ => (pg_tup rfl (pgs_cons (pg_name (i := 4) scLWins.nd rfl (.inl rfl)) (pgs_cons (pg_name (i := 5) scLWins.nd rfl (.inl rfl)) (pgs_cons (pg_name (i := 6) scLWins.nd rfl (.inl rfl)) pgs_nil))))) (fun _ _ _ _ _ => pts_nil) (fun _ _ _ _ _ => (pe_tup (pa_cons (pe_own C__law_window hr (by rfl) (pa_cons (pe_dget (hu_of hr) (pv 3) (pv 4) (fun _ _ => rfl)) (pa_cons (pv 2) (pa_cons (pv 5) pa_nil)))) (pa_cons (pe_cmpR op_eq (pv 6) pe_str (nomark _)) pa_nil))))))), ?_⟩
    have hul : us.length = bs.length := by rw [hu.1, List.length_map]
    have hyl : ys.length = ts.length := by rw [hy.1, List.length_map]
    have h100 := hC.bl
    have htl := hC.tl
    refine ⟨_, rfl, a, rfl, ⟨_, SqL.of ha⟩, fun D nD => ?_⟩
    refine lc_it (walk_list (xs := us)) (fun i H' => Same H H' ∧ ∃ ws : List Addr, H' D = some (.lst (ws.map V.ref)) ∧ ws.length = i ∧ ∀ (j : Nat) T, ws[j]? = some T → ∃ B x, bs[j]? = some B ∧ us[j]? = some x ∧ H' T = some (.tup [.str B.mark, x])) ⟨same_upd nD, [], upd_same, rfl, fun j T e => nomatch e⟩ (fun i H' _ p => SqL.of (p.1 _ _ ha)) (fun i x H1 H1' hi hP hyy => ?_) (fun H1 hP => ?_)
    · obtain ⟨sm, ws, eD, hwl, hws⟩ := hP
      obtain ⟨rfl, hx⟩ := hyy
      obtain ⟨B, eB, hB⟩ := hu.atM hx
      obtain ⟨c, l', xs', rfl, ec, _⟩ := (hB.same sm).batL
      refine ⟨rfl, _, rfl, c, _, 0, _, rfl, rfl, .inl (.inl ec), atI_nat (j := 0) rfl, _, rfl, (by show 2 ≤ sizeLine; decide), fun T nT => ?_⟩
      have sT := same_upd (o := .tup [.str B.mark, .ref c]) nT
      have eD2 := sT _ _ eD
      refine ⟨_, eD2, small1000 (by rw [List.length_map]; omega), fun b o e => ?_, ws ++ [T], by rw [upd_same, List.map_append]; rfl, by rw [List.length_append, hwl]; rfl, fun j T' e => ?_⟩
      · rw [upd_ne (ne_of_none e nD)]
        exact sT _ _ (sm b o e)
      · have keep : ∀ {T2 : Addr} {z : List V}, upd H1' T (.tup [.str B.mark, .ref c]) T2 = some (.tup z) → upd (upd H1' T (.tup [.str B.mark, .ref c])) D (.lst (ws.map V.ref ++ [.ref T])) T2 = some (.tup z) := fun e => by rw [upd_ne (ne_of e eD2 (fun z => nomatch z))]; exact e
        by_cases hj : j < ws.length
        · rw [List.getElem?_append_left hj] at e
          obtain ⟨B', x', g1, g2, g3⟩ := hws j T' e
          exact ⟨B', x', g1, g2, keep (sT _ _ g3)⟩
        · rw [List.getElem?_append_right (by omega)] at e
          have h0 : j - ws.length < 1 := (List.getElem?_eq_some_iff.mp e).1
          obtain rfl : j = ws.length := by omega
          rw [Nat.sub_self] at e
          cases e
          rw [hwl]
          exact ⟨B, _, eB, hx, keep upd_same⟩
    · obtain ⟨sm, ws, eD, hwl, hws⟩ := hP
      rw [hul] at hwl
      have pr : ∀ n, n ≤ ws.length → ∃ kvs : List (Key × V), Paired (fun p kv => SqT K H1 p [kV kv.1, kv.2]) (ws.take n) kvs ∧ kvs.length = n ∧ DicR (fun B v => Thg cs H1 v (batD B)) (mergeK [] kvs) bs n := by
        intro n
        induction n with
        | zero => exact fun _ => ⟨[], .nil, rfl, fun i B z => absurd z (Nat.not_lt_zero _)⟩
        | succ n ih =>
          intro hn
          obtain ⟨kvs, h1, h2, h3⟩ := ih (by omega)
          have eT : ws[n]? = some ws[n] := List.getElem?_eq_getElem (by omega)
          obtain ⟨B, x, g1, g2, g3⟩ := hws n _ eT
          refine ⟨kvs ++ [(.inr B.mark, x)], ?_, by rw [List.length_append, h2]; rfl, ?_⟩
          · rw [List.take_add_one, eT]
            exact h1.snoc (.inl (.inl g3))
          · have e : mergeK [] (kvs ++ [(.inr B.mark, x)]) = putK (mergeK [] kvs) (.inr B.mark) x := by
              unfold mergeK
              rw [List.foldl_append]
              rfl
            rw [e]
            exact h3.put hC.nd g1 ((hu.2 n x _ g2 (by rw [List.getElem?_map, g1]; rfl)).same sm)
      obtain ⟨kvs, hp, hkl, hd⟩ := pr ws.length (Nat.le_refl _)
      rw [List.take_length] at hp
      rw [hwl] at hd
      refine ⟨D, ws, kvs, rfl, SqL.of eD, hp, fun M nM => ?_⟩
      have sM := same_upd (o := .dK (mergeK [] kvs)) nM
      have S := sm.trans sM
      refine ⟨_, rfl, l, rfl, ⟨_, SqL.of (S _ _ hl)⟩, fun G nG => ?_⟩
      refine lc_thg ((seenF bs ts p).map lseenD) (walk_list (xs := ys)) [] nG (by rw [List.length_map, hyl]; exact List.length_map _) (by omega) (fun H' s => SqL.of (s _ _ (S _ _ hl))) (fun i x d H2 H2' Kt Kn ed s2 hyy kk => ?_) (fun H2 zs s2 e2 h2 => ?_)
      · obtain ⟨rfl, hx⟩ := hyy
        have hi : i < ts.length := by rw [← hyl]; exact (List.getElem?_eq_some_iff.mp hx).1
        have et : ts[i]? = some ts[i] := List.getElem?_eq_getElem hi
        have ed' : d = lseenD (winT bs p ts[i], ts[i].bad) := by
          unfold seenF at ed
          rw [List.getElem?_map, List.getElem?_map, et] at ed
          exact (Option.some.inj ed).symm
        subst ed'
        obtain ⟨c, rfl, ec⟩ := ((hy.2 i x _ hx (by rw [List.getElem?_map, et]; rfl)).same (S.trans s2)).tst
        obtain ⟨B, hB, hm, ew, k0, k1⟩ := winT_of hC (List.getElem_mem hi) p
        obtain ⟨j, hj⟩ := List.getElem?_of_mem hB
        obtain ⟨v, e1, hv⟩ := hd j B (List.getElem?_eq_some_iff.mp hj).1 hj
        have hv2 := hv.same (sM.trans s2)
        refine ⟨c, _, rfl, .inl (.inl ec), rfl, _, _, rfl, _, _, rfl, _, _, rfl, rfl, rfl, _, rfl, _, rfl, M, v, rfl, ?_, _, rfl, _, rfl, v, p, ts[i].tin, B, cs, rfl, hv2, hC.bat B hB, k0, k1, fun y H4 s4 hy4 => ?_⟩
        · have z := DGet.k (k := Sum.inr ts[i].mark) (s2 _ _ (upd_same (H := H1) (a := M) (o := .dK (mergeK [] kvs))))
          rw [← hm, e1] at z
          rw [← hm]
          exact z
        · refine ⟨_, rfl, rfl, (by show 2 ≤ sizeLine; decide), fun T nT => kk _ _ (s4.trans (same_upd nT)) ?_⟩
          have hb : decide (V.str (wordD ts[i].bad) = V.str "bad") = ts[i].bad := by cases ts[i].bad <;> decide
          rw [hb]
          rw [ew]
          exact ThgL.tup (.cons (hy4.span.same (same_upd nT)) (.one (.bl _))) upd_same
      · exact q G zs H2 (S.free nG) (S.trans s2) e2 (h2.less (by simp))
end

/-! ### gaps and rows: what they are -/
theorem min_spec : ∀ {xs : List Int}, xs ≠ [] → minL xs ∈ xs ∧ ∀ x ∈ xs, minL xs ≤ x := by
  have ex : ∀ xs : List Int, xs ≠ [] → ∃ m, m ∈ xs ∧ ∀ x ∈ xs, m ≤ x := by
    intro xs
    induction xs with
    | nil => exact fun h => absurd rfl h
    | cons a r ih =>
      intro _
      by_cases c : r = []
      · exact ⟨a, List.mem_cons_self .., fun x hx => by rw [c] at hx; rw [List.mem_singleton.mp hx]; exact Int.le_refl _⟩
      · obtain ⟨m, h1, h2⟩ := ih c
        by_cases c2 : a ≤ m
        · exact ⟨a, List.mem_cons_self .., fun x hx => (List.mem_cons.mp hx).elim (fun e => by omega) fun e => by have := h2 x e; omega⟩
        · exact ⟨m, List.mem_cons_of_mem _ h1, fun x hx => (List.mem_cons.mp hx).elim (fun e => by omega) fun e => h2 x e⟩
  intro xs h
  obtain ⟨m, h1, h2⟩ := ex xs h
  rw [minL_eq h1 h2]
  exact ⟨h1, h2⟩
theorem max_spec : ∀ {xs : List Int}, xs ≠ [] → maxL xs ∈ xs ∧ ∀ x ∈ xs, x ≤ maxL xs := by
  have ex : ∀ xs : List Int, xs ≠ [] → ∃ m, m ∈ xs ∧ ∀ x ∈ xs, x ≤ m := by
    intro xs
    induction xs with
    | nil => exact fun h => absurd rfl h
    | cons a r ih =>
      intro _
      by_cases c : r = []
      · exact ⟨a, List.mem_cons_self .., fun x hx => by rw [c] at hx; rw [List.mem_singleton.mp hx]; exact Int.le_refl _⟩
      · obtain ⟨m, h1, h2⟩ := ih c
        by_cases c2 : m ≤ a
        · exact ⟨a, List.mem_cons_self .., fun x hx => (List.mem_cons.mp hx).elim (fun e => by omega) fun e => by have := h2 x e; omega⟩
        · exact ⟨m, List.mem_cons_of_mem _ h1, fun x hx => (List.mem_cons.mp hx).elim (fun e => by omega) fun e => h2 x e⟩
  intro xs h
  obtain ⟨m, h1, h2⟩ := ex xs h
  rw [maxL_eq h1 h2]
  exact ⟨h1, h2⟩
/-- of any pairs there is a set -/
theorem told_ex (ps : List (Int × Int)) : Told (InS ps) (setL ps) := by
  let qs := (ps.filter fun p => decide (p.1 ≤ p.2)).mergeSort fun p q => decide (p.1 ≤ q.1)
  have hpm : qs.Perm (ps.filter fun p => decide (p.1 ≤ p.2)) := List.mergeSort_perm _ _
  have hle : ∀ p ∈ qs, p.1 ≤ p.2 := fun p hp => of_decide_eq_true (List.mem_filter.mp (hpm.mem_iff.mp hp)).2
  have hord : qs.Pairwise fun p q => p.1 ≤ q.1 := by
    have z := List.pairwise_mergeSort (le := fun p q : Int × Int => decide (p.1 ≤ q.1)) (fun a b c h1 h2 => decide_eq_true (Int.le_trans (of_decide_eq_true h1) (of_decide_eq_true h2))) (fun a b => by
      rcases Int.le_total a.1 b.1 with h | h
      · simp [h]
      · simp [h]) (ps.filter fun p => decide (p.1 ≤ p.2))
    exact z.imp fun h => of_decide_eq_true h
  have main : ∀ n, n ≤ qs.length → ∃ rs, Mrg (qs.take n) rs := by
    intro n
    induction n with
    | zero => exact fun _ => ⟨[], Mrg.nil⟩
    | succ n ih =>
      intro hn
      obtain ⟨rs, m⟩ := ih (by omega)
      have hlt : n < qs.length := by omega
      have et : qs.take (n + 1) = qs.take n ++ [qs[n]] := by rw [List.take_add_one, List.getElem?_eq_getElem hlt]; rfl
      have hp := hle qs[n] (List.getElem_mem hlt)
      have ord : ∀ q ∈ qs.take n, q.1 ≤ qs[n].1 := fun q hq => by
        have h2 := hord
        rw [← List.take_append_drop n qs, List.pairwise_append] at h2
        exact h2.2.2 q hq _ (by rw [List.drop_eq_getElem_cons hlt]; exact List.mem_cons_self ..)
      rw [et]
      rcases snoc_cases rs with e0 | ⟨rs', ⟨a, b⟩, e0⟩
      · subst e0
        exact ⟨_, m.new hp ord fun _ z => nomatch z⟩
      · subst e0
        by_cases c : qs[n].1 ≤ b + 1
        · exact ⟨_, m.join hp ord c⟩
        · refine ⟨_, m.new hp ord fun r hr => ?_⟩
          obtain ⟨lo, hR⟩ := m.ris
          obtain ⟨_, h2, _, h4⟩ := Ris.front hR
          have h4' : a ≤ b := h4
          rcases List.mem_append.mp hr with y | y
          · have : r.2 + 2 ≤ a := h2 r y
            omega
          · rw [List.mem_singleton.mp y]
            show b + 2 ≤ qs[n].1
            omega
  obtain ⟨rs, m⟩ := main qs.length (Nat.le_refl _)
  rw [List.take_length] at m
  have t : Told (InS ps) rs := ⟨m.ris, m.same.trans fun n => by
    constructor
    · rintro ⟨r, hr, e⟩
      exact ⟨r, (List.mem_filter.mp (hpm.mem_iff.mp hr)).1, e⟩
    · rintro ⟨r, hr, e⟩
      exact ⟨r, hpm.mem_iff.mpr (List.mem_filter.mpr ⟨hr, decide_eq_true (by omega)⟩), e⟩⟩
  have e := t.canon
  unfold setL
  rw [← e]
  exact t
theorem gaps_ok : ∀ {ps : List (Int × Int)} {s lo : Int}, Ris lo ps → s ≤ lo → ∀ g ∈ gapsO s ps, s ≤ g.1 ∧ (g.1 = s ∨ InS ps (g.1 - 1)) ∧ (∀ e, g.2 = some e → g.1 ≤ e ∧ InS ps (e + 1)) ∧ ∀ n, g.1 ≤ n → (∀ e, g.2 = some e → n ≤ e) → ¬ InS ps n
  | [], s, _, _, _, g, hg => by
    rw [List.mem_singleton.mp hg]
    exact ⟨Int.le_refl _, .inl rfl, (fun e z => nomatch z), fun n _ _ => inS_nil⟩
  | p :: r, s, lo, hR, hs, g, hg => by
    have hlo := hR.1
    have hp := hR.2.1
    have inp : ∀ n, p.1 ≤ n → n ≤ p.2 → InS (p :: r) n := fun n h1 h2 => inS_cons.mpr (.inl ⟨h1, h2⟩)
    rcases List.mem_append.mp hg with h | h
    · by_cases c : s < p.1
      · rw [if_pos c] at h
        rw [List.mem_singleton.mp h]
        refine ⟨Int.le_refl _, .inl rfl, fun e z => ?_, fun n h1 h2 z => ?_⟩
        · cases z
          exact ⟨by show s ≤ p.1 - 1; omega, inp _ (by omega) (by omega)⟩
        · have h2 := h2 (p.1 - 1) rfl
          rcases inS_cons.mp z with y | y
          · omega
          · have := Ris.low hR.2.2 y
            omega
      · rw [if_neg c] at h
        cases h
    · obtain ⟨g1, g2, g3, g4⟩ := gaps_ok hR.2.2 (show p.2 + 1 ≤ p.2 + 2 by omega) g h
      refine ⟨by omega, ?_, fun e z => ⟨(g3 e z).1, inS_cons.mpr (.inr (g3 e z).2)⟩, fun n h1 h2 z => ?_⟩
      · rcases g2 with y | y
        · exact .inr (by rw [y]; exact inp _ (by omega) (by omega))
        · exact .inr (inS_cons.mpr (.inr y))
      · rcases inS_cons.mp z with y | y
        · omega
        · exact g4 n h1 h2 y
/-- the bad ones' windows, where each has one -/
def wBad (seen : Seen) : List (Int × Int) := (badsF seen).filterMap id
theorem mem_wBad {seen : Seen} {w : Int × Int} : w ∈ wBad seen ↔ (some w, true) ∈ seen := by
  unfold wBad badsF
  rw [List.mem_filterMap]
  constructor
  · rintro ⟨o, ho, e⟩
    obtain ⟨⟨o', b⟩, hx, rfl⟩ := List.mem_map.mp ho
    obtain ⟨h1, h2⟩ := List.mem_filter.mp hx
    have h2 : b = true := h2
    have e : o' = some w := e
    rw [h2, e] at h1
    exact h1
  · intro h
    exact ⟨some w, List.mem_map.mpr ⟨(some w, true), List.mem_filter.mpr ⟨h, rfl⟩, rfl⟩, rfl⟩
theorem mem_goods {seen : Seen} {w : Int × Int} : w ∈ goodsF seen ↔ (some w, false) ∈ seen := by
  unfold goodsF
  rw [List.mem_filterMap]
  constructor
  · rintro ⟨⟨o', b⟩, hx, e⟩
    obtain ⟨h1, h2⟩ := List.mem_filter.mp hx
    have h2 : b = false := by
      cases b with
      | false => rfl
      | true => cases h2
    have e : o' = some w := e
    rw [h2, e] at h1
    exact h1
  · intro h
    exact ⟨(some w, false), List.mem_filter.mpr ⟨h, rfl⟩, rfl⟩
theorem mem_none {seen : Seen} : none ∈ badsF seen ↔ (none, true) ∈ seen := by
  unfold badsF
  constructor
  · intro h
    obtain ⟨⟨o', b⟩, hx, e⟩ := List.mem_map.mp h
    obtain ⟨h1, h2⟩ := List.mem_filter.mp hx
    have h2 : b = true := h2
    have e : o' = none := e
    rw [h2, e] at h1
    exact h1
  · intro h
    exact List.mem_map.mpr ⟨(none, true), List.mem_filter.mpr ⟨h, rfl⟩, rfl⟩
/-- a fault from a minute to another one can have been -/
def isFaultF (seen : Seen) (x y : Int) : Bool := decide (x ≤ y) && (!(seen.any fun s => s.2 && s.1.isNone) && seen.all fun s => match s.1 with
  | none => true
  | some r => (decide (r.1 ≤ y) && decide (x ≤ r.2)) == s.2)
theorem isF_iff {seen : Seen} {x y : Int} : isFaultF seen x y = true ↔ x ≤ y ∧ none ∉ badsF seen ∧ (∀ w ∈ wBad seen, w.1 ≤ y ∧ x ≤ w.2) ∧ ∀ w ∈ goodsF seen, ¬ (w.1 ≤ y ∧ x ≤ w.2) := by
  unfold isFaultF
  rw [Bool.and_eq_true, Bool.and_eq_true, decide_eq_true_eq, Bool.not_eq_true', ← Bool.not_eq_true, List.any_eq_true, List.all_eq_true]
  refine and_congr Iff.rfl ?_
  constructor
  · rintro ⟨h1, h2⟩
    refine ⟨fun z => h1 ⟨(none, true), mem_none.mp z, rfl⟩, fun w hw => ?_, fun w hw z => ?_⟩
    · have := h2 _ (mem_wBad.mp hw)
      simpa using this
    · have := h2 _ (mem_goods.mp hw)
      simp [z.1, z.2] at this
  · rintro ⟨h1, h2, h3⟩
    refine ⟨?_, fun s hs => ?_⟩
    · rintro ⟨⟨o, b⟩, hs, e⟩
      cases o with
      | some _ => simp at e
      | none =>
        simp at e
        rw [e] at hs
        exact h1 (mem_none.mpr hs)
    · obtain ⟨o, b⟩ := s
      cases o with
      | none => rfl
      | some w =>
        cases b with
        | true =>
          have := h2 w (mem_wBad.mpr hs)
          simp [this.1, this.2]
        | false =>
          have := h3 w (mem_goods.mpr hs)
          show ((decide (w.1 ≤ y) && decide (x ≤ w.2)) == false) = true
          by_cases c1 : w.1 ≤ y
          · have c2 : ¬ x ≤ w.2 := fun z => this ⟨c1, z⟩
            simp [c1, c2]
          · simp [c1]
/-- the windows are in order -/
def WinOk (seen : Seen) : Prop := ∀ s ∈ seen, ∀ q, s.1 = some q → 0 ≤ q.1 ∧ q.1 ≤ q.2
theorem clear_of {seen : Seen} (hok : WinOk seen) {x y : Int} (hxy : x ≤ y) (h : ∀ n, x ≤ n → n ≤ y → ¬ InS (goodsF seen) n) : ∀ w ∈ goodsF seen, ¬ (w.1 ≤ y ∧ x ≤ w.2) := fun w hw ⟨z1, z2⟩ => by
  have hw2 := hok _ (mem_goods.mp hw) w rfl
  by_cases c : x ≤ w.1
  · exact h w.1 c z1 ⟨w, hw, Int.le_refl _, hw2.2⟩
  · exact h x (Int.le_refl _) hxy ⟨w, hw, by omega, z2⟩
/-- what a told row is -/
structure RowOk (seen : Seen) (r : Row4) (far : Int) : Prop where
  nn : 0 ≤ r.1
  fst : 0 < r.1 → InS (goodsF seen) (r.1 - 1)
  lst : ∀ e, r.2.1 = some e → InS (goodsF seen) (e + 1)
  whole : isFaultF seen r.1 far = true
  late : isFaultF seen r.2.2.1 (if r.2.2.2 > r.2.2.1 then r.2.2.2 else r.2.2.1) = true
  early : isFaultF seen (if r.2.2.2 < r.2.2.1 then r.2.2.2 else r.2.2.1) r.2.2.2 = true
  between : r.1 ≤ r.2.2.1 ∧ r.2.2.1 ≤ far
  later : r.2.2.1 + 1 ≤ far → ∀ y, isFaultF seen (r.2.2.1 + 1) y = false
  sooner : r.2.2.2 ≠ r.1 → ∀ x, isFaultF seen x (r.2.2.2 - 1) = false
theorem rowOk {seen : Seen} (hok : WinOk seen) (hbad : ∃ s ∈ seen, s.2 = true) {r : Row4} (hr : r ∈ rowsAtF seen) {far : Int} (h1 : ∀ e, r.2.1 = some e → far = e) (h2 : r.2.1 = none → ∀ s ∈ seen, ∀ w, s.1 = some w → w.2 ≤ far) : RowOk seen r far := by
  unfold rowsAtF at hr
  by_cases hn : none ∈ badsF seen
  · rw [if_pos hn] at hr
    cases hr
  rw [if_neg hn] at hr
  have hr : r ∈ (gapsO 0 (setL (goodsF seen))).filterMap (rowG (minL ((wBad seen).map (·.2))) (maxL ((wBad seen).map (·.1)))) := hr
  have hne : wBad seen ≠ [] := by
    obtain ⟨⟨o, b⟩, hs, e⟩ := hbad
    have e : b = true := e
    subst e
    cases o with
    | none => exact absurd (mem_none.mpr hs) hn
    | some w => exact List.ne_nil_of_mem (mem_wBad.mpr hs)
  obtain ⟨hf1, hf2⟩ := min_spec (xs := (wBad seen).map (·.2)) (by simpa using hne)
  obtain ⟨hb1, hb2⟩ := max_spec (xs := (wBad seen).map (·.1)) (by simpa using hne)
  generalize minL ((wBad seen).map (·.2)) = fe at hr hf1 hf2
  generalize maxL ((wBad seen).map (·.1)) = lb at hr hb1 hb2
  obtain ⟨w1, hw1, rfl⟩ := List.mem_map.mp hf1
  obtain ⟨w2, hw2, rfl⟩ := List.mem_map.mp hb1
  have hf2 : ∀ w ∈ wBad seen, w1.2 ≤ w.2 := fun w hw => hf2 _ (List.mem_map.mpr ⟨w, hw, rfl⟩)
  have hb2 : ∀ w ∈ wBad seen, w.1 ≤ w2.1 := fun w hw => hb2 _ (List.mem_map.mpr ⟨w, hw, rfl⟩)
  have o1 := hok _ (mem_wBad.mp hw1) w1 rfl
  have o2 := hok _ (mem_wBad.mp hw2) w2 rfl
  obtain ⟨g, hg, eg⟩ := List.mem_filterMap.mp hr
  have t := told_ex (goodsF seen)
  obtain ⟨lo, hR⟩ := t.ris
  have hlo0 : ∀ n, InS (setL (goodsF seen)) n → 0 ≤ n := fun n hn' => by
    obtain ⟨w, hw, e1, e2⟩ := (t.same n).mp hn'
    have := hok _ (mem_goods.mp hw) w rfl
    omega
  have hR0 : Ris 0 (setL (goodsF seen)) := by
    revert hR hlo0
    cases setL (goodsF seen) with
    | nil => exact fun _ _ => True.intro
    | cons p rr => exact fun h h0 => ⟨h0 p.1 ⟨p, List.mem_cons_self .., Int.le_refl _, h.2.1⟩, h.2.1, h.2.2⟩
  obtain ⟨g1, g2, g3, g4⟩ := gaps_ok hR0 (Int.le_refl 0) g hg
  have g2 : 0 < g.1 → InS (goodsF seen) (g.1 - 1) := fun z => g2.elim (fun e => by omega) fun e => (t.same _).mp e
  have g3 : ∀ e, g.2 = some e → g.1 ≤ e ∧ InS (goodsF seen) (e + 1) := fun e z => ⟨(g3 e z).1, (t.same _).mp (g3 e z).2⟩
  have g4 : ∀ n, g.1 ≤ n → (∀ e, g.2 = some e → n ≤ e) → ¬ InS (goodsF seen) n := fun n a b z => g4 n a b ((t.same n).mpr z)
  have isf : ∀ x y, x ≤ y → g.1 ≤ x → (∀ e, g.2 = some e → y ≤ e) → (∀ w ∈ wBad seen, w.1 ≤ y ∧ x ≤ w.2) → isFaultF seen x y = true := fun x y a b c d => isF_iff.mpr ⟨a, hn, d, clear_of hok a fun n n1 n2 => g4 n (by omega) fun e z => by have := c e z; omega⟩
  have notF : ∀ x y (w : Int × Int), w ∈ wBad seen → ¬ (w.1 ≤ y ∧ x ≤ w.2) → isFaultF seen x y = false := fun x y w hw hnot => by
    cases c : isFaultF seen x y with
    | false => rfl
    | true => exact absurd ((isF_iff.mp c).2.2.1 w hw) hnot
  unfold rowG at eg
  cases e2 : g.2 with
  | none =>
    rw [e2] at eg
    have eg : (if g.1 ≤ w1.2 then some (g.1, none, w1.2, if g.1 > w2.1 then g.1 else w2.1) else none) = some r := eg
    by_cases c : g.1 ≤ w1.2
    · rw [if_pos c] at eg
      cases eg
      have hfar := h2 rfl
      have f1 : w1.2 ≤ far := hfar _ (mem_wBad.mp hw1) w1 rfl
      have f2 : w2.2 ≤ far := hfar _ (mem_wBad.mp hw2) w2 rfl
      have no : ∀ y : Int, ∀ e, g.2 = some e → y ≤ e := fun y e z => by rw [e2] at z; cases z
      refine ⟨g1, g2, (fun e z => nomatch z), isf _ _ (by show g.1 ≤ far; omega) (Int.le_refl _) (no _) fun w hw => ?_, isf _ _ ?_ c (no _) fun w hw => ?_, isf _ _ ?_ ?_ (no _) fun w hw => ?_, ⟨c, f1⟩, fun _ y => notF _ _ w1 hw1 (by show ¬ (_ ∧ w1.2 + 1 ≤ w1.2); omega), fun z x => notF _ _ w2 hw2 ?_⟩
      · have := hb2 w hw
        have := hf2 w hw
        exact ⟨by show w.1 ≤ far; omega, by show g.1 ≤ w.2; omega⟩
      · show w1.2 ≤ (if (if g.1 > w2.1 then g.1 else w2.1) > w1.2 then (if g.1 > w2.1 then g.1 else w2.1) else w1.2)
        by_cases c5 : g.1 > w2.1
        · simp only [if_pos c5]
          split <;> omega
        · simp only [if_neg c5]
          split <;> omega
      · have := hb2 w hw
        have := hf2 w hw
        refine ⟨?_, by show w1.2 ≤ w.2; omega⟩
        show w.1 ≤ (if (if g.1 > w2.1 then g.1 else w2.1) > w1.2 then (if g.1 > w2.1 then g.1 else w2.1) else w1.2)
        by_cases c5 : g.1 > w2.1
        · simp only [if_pos c5]
          split <;> omega
        · simp only [if_neg c5]
          split <;> omega
      · show (if (if g.1 > w2.1 then g.1 else w2.1) < w1.2 then (if g.1 > w2.1 then g.1 else w2.1) else w1.2) ≤ (if g.1 > w2.1 then g.1 else w2.1)
        split <;> omega
      · show g.1 ≤ (if (if g.1 > w2.1 then g.1 else w2.1) < w1.2 then (if g.1 > w2.1 then g.1 else w2.1) else w1.2)
        split <;> split at * <;> omega
      · have := hb2 w hw
        have := hf2 w hw
        refine ⟨?_, ?_⟩
        · show w.1 ≤ (if g.1 > w2.1 then g.1 else w2.1)
          split <;> omega
        · show (if (if g.1 > w2.1 then g.1 else w2.1) < w1.2 then (if g.1 > w2.1 then g.1 else w2.1) else w1.2) ≤ w.2
          split <;> omega
      · have z : (if g.1 > w2.1 then g.1 else w2.1) ≠ g.1 := z
        show ¬ (w2.1 ≤ (if g.1 > w2.1 then g.1 else w2.1) - 1 ∧ _)
        split at z
        · exact absurd rfl z
        · rename_i c3
          rw [if_neg c3]
          omega
    · rw [if_neg c] at eg
      cases eg
  | some l =>
    rw [e2] at eg
    have eg : (if g.1 ≤ w1.2 ∧ w2.1 ≤ l then some (g.1, some l, if l < w1.2 then l else w1.2, if g.1 > w2.1 then g.1 else w2.1) else none) = some r := eg
    by_cases c : g.1 ≤ w1.2 ∧ w2.1 ≤ l
    · rw [if_pos c] at eg
      cases eg
      have ef := h1 l rfl
      subst ef
      obtain ⟨c1, c2⟩ := c
      have g5 := (g3 far e2).1
      have no : ∀ y : Int, y ≤ far → ∀ e, g.2 = some e → y ≤ e := fun y hy e z => by rw [e2] at z; cases z; exact hy
      refine ⟨g1, g2, fun e z => by cases z; exact (g3 far e2).2, isf _ _ g5 (Int.le_refl _) (no _ (Int.le_refl _)) fun w hw => ?_, isf _ _ ?_ ?_ (no _ ?_) fun w hw => ?_, isf _ _ ?_ ?_ (no _ ?_) fun w hw => ?_, ⟨?_, ?_⟩, fun z y => ?_, fun z x => notF _ _ w2 hw2 ?_⟩
      · have := hb2 w hw
        have := hf2 w hw
        exact ⟨by show w.1 ≤ far; omega, by show g.1 ≤ w.2; omega⟩
      · show (if far < w1.2 then far else w1.2) ≤ (if (if g.1 > w2.1 then g.1 else w2.1) > (if far < w1.2 then far else w1.2) then (if g.1 > w2.1 then g.1 else w2.1) else (if far < w1.2 then far else w1.2))
        split <;> split <;> split <;> omega
      · show g.1 ≤ (if far < w1.2 then far else w1.2)
        split <;> omega
      · show (if (if g.1 > w2.1 then g.1 else w2.1) > (if far < w1.2 then far else w1.2) then (if g.1 > w2.1 then g.1 else w2.1) else (if far < w1.2 then far else w1.2)) ≤ far
        split <;> split <;> split <;> omega
      · have := hb2 w hw
        have := hf2 w hw
        refine ⟨?_, ?_⟩
        · show w.1 ≤ (if (if g.1 > w2.1 then g.1 else w2.1) > (if far < w1.2 then far else w1.2) then (if g.1 > w2.1 then g.1 else w2.1) else (if far < w1.2 then far else w1.2))
          split <;> split at * <;> split at * <;> omega
        · show (if far < w1.2 then far else w1.2) ≤ w.2
          split <;> omega
      · show (if (if g.1 > w2.1 then g.1 else w2.1) < (if far < w1.2 then far else w1.2) then (if g.1 > w2.1 then g.1 else w2.1) else (if far < w1.2 then far else w1.2)) ≤ (if g.1 > w2.1 then g.1 else w2.1)
        split <;> split <;> split <;> omega
      · show g.1 ≤ (if (if g.1 > w2.1 then g.1 else w2.1) < (if far < w1.2 then far else w1.2) then (if g.1 > w2.1 then g.1 else w2.1) else (if far < w1.2 then far else w1.2))
        split <;> split <;> split <;> omega
      · show (if g.1 > w2.1 then g.1 else w2.1) ≤ far
        split <;> omega
      · have := hb2 w hw
        have := hf2 w hw
        refine ⟨?_, ?_⟩
        · show w.1 ≤ (if g.1 > w2.1 then g.1 else w2.1)
          split <;> omega
        · show (if (if g.1 > w2.1 then g.1 else w2.1) < (if far < w1.2 then far else w1.2) then (if g.1 > w2.1 then g.1 else w2.1) else (if far < w1.2 then far else w1.2)) ≤ w.2
          split <;> split at * <;> split at * <;> omega
      · show g.1 ≤ (if far < w1.2 then far else w1.2)
        split <;> omega
      · show (if far < w1.2 then far else w1.2) ≤ far
        split <;> omega
      · have z : (if far < w1.2 then far else w1.2) + 1 ≤ far := z
        refine notF _ _ w1 hw1 ?_
        show ¬ (_ ∧ (if far < w1.2 then far else w1.2) + 1 ≤ w1.2)
        split at z
        · omega
        · rename_i c3
          rw [if_neg c3]
          omega
      · have z : (if g.1 > w2.1 then g.1 else w2.1) ≠ g.1 := z
        show ¬ (w2.1 ≤ (if g.1 > w2.1 then g.1 else w2.1) - 1 ∧ _)
        split at z
        · exact absurd rfl z
        · rename_i c3
          rw [if_neg c3]
          omega
    · rw [if_neg c] at eg
      cases eg

/-! ### comprehensions over many things -/
theorem lc_thgFb (f : Nat → Option PyData) {J : It} {n : Nat} {G : Hp → Prop} {Y : Nat → Hp → V → Hp → Prop} (w : Walk J n G Y) {g : TG} {tt : TT} {te : TE} {vs : List Nat} {σ : L2.St} {H1 : Hp} {D : Addr} {Qd : Hp → Prop} (cs : List Addr) (nD : H1 D = none) (hz : n ≤ 100000) (hG : ∀ H, Same H1 H → G H)
    (turn : ∀ i x H H' (Kt : V → Hp → Prop) (Kn : Hp → Prop), i < n → Same H1 H → Y i H x H' → (∀ y d H4, f i = some d → Same H H4 → Thg (D :: cs) H4 y d → Kt y H4) → (∀ H4, f i = none → Same H H4 → Kn H4) → g x (wipe σ vs) H' fun σ2 H2 => wipe σ2 vs = wipe σ vs ∧ tt σ2 H2 fun b H3 => if b = true then te σ2 H3 Kt else Kn H3)
    (fin : ∀ H ws, Same H1 H → H D = some (.lst ws) → ThgL (D :: cs) H ws ((List.range n).filterMap f) → Qd H) : LcW J g tt te vs σ D Qd H1 := by
  refine lc_it w (fun j H => Same H1 H ∧ ∃ ws, H D = some (.lst ws) ∧ ThgL (D :: cs) H ws ((List.range j).filterMap f)) ⟨same_upd nD, [], upd_same, ThgL.nil⟩ (fun i H _ p => hG H p.1) (fun i x H H' hi hP hy => ?_) (fun H hP => let ⟨s, ws, e, h⟩ := hP; fin H ws s e h)
  obtain ⟨sm, ws, eD, hw⟩ := hP
  have es : (List.range (i + 1)).filterMap f = (List.range i).filterMap f ++ (f i).toList := by
    rw [List.range_succ, List.filterMap_append]
    cases h : f i with
    | none => simp [h]
    | some d => simp [h]
  have len : ((List.range i).filterMap f).length ≤ i := by
    have := List.length_filterMap_le f (List.range i)
    rwa [List.length_range] at this
  refine turn i x H H' _ _ hi sm hy (fun y d H4 e s4 hd => ?_) (fun H4 e s4 => ?_)
  · have eD4 := s4 _ _ eD
    refine ⟨ws, eD4, Nat.lt_of_lt_of_le (show ws.length < 100001 by rw [hw.1]; omega) (by decide), fun b o eb => ?_, ws ++ [y], upd_same, ?_⟩
    · rw [upd_ne (ne_of_none eb nD)]
      exact s4 _ _ (sm b o eb)
    · rw [es, e]
      exact ((hw.same s4).upd eD4 (by simp)).append (ThgL.one (hd.upd eD4 (by simp)))
  · refine ⟨sm.trans s4, ws, s4 _ _ eD, ?_⟩
    rw [es, e]
    show ThgL _ _ _ (_ ++ [])
    rw [List.append_nil]
    exact hw.same s4
theorem lc_thgb (ds : List PyData) {J : It} {n : Nat} {G : Hp → Prop} {Y : Nat → Hp → V → Hp → Prop} (w : Walk J n G Y) {g : TG} {tt : TT} {te : TE} {vs : List Nat} {σ : L2.St} {H1 : Hp} {D : Addr} {Qd : Hp → Prop} (cs : List Addr) (nD : H1 D = none) (hn : ds.length = n) (hz : n ≤ 100000) (hG : ∀ H, Same H1 H → G H)
    (turn : ∀ i x d H H' (Kt : V → Hp → Prop) (Kn : Hp → Prop), ds[i]? = some d → Same H1 H → Y i H x H' → (∀ y H4, Same H H4 → Thg (D :: cs) H4 y d → Kt y H4) → g x (wipe σ vs) H' fun σ2 H2 => wipe σ2 vs = wipe σ vs ∧ tt σ2 H2 fun b H3 => if b = true then te σ2 H3 Kt else Kn H3)
    (fin : ∀ H ws, Same H1 H → H D = some (.lst ws) → ThgL (D :: cs) H ws ds → Qd H) : LcW J g tt te vs σ D Qd H1 := by
  refine lc_thgFb (fun i => ds[i]?) w cs nD hz hG (fun i x H H' Kt Kn hi sm hy kt kn => ?_) (fun H ws s e h => fin H ws s e ?_)
  · have ed : ds[i]? = some ds[i] := List.getElem?_eq_getElem (by omega)
    exact turn i x _ H H' Kt Kn ed sm hy fun y H4 s4 h4 => kt y _ H4 ed s4 h4
  · have : (List.range n).filterMap (fun i => ds[i]?) = ds := by
      rw [← hn]
      clear hn turn fin h w
      induction ds with
      | nil => rfl
      | cons d r ih =>
        rw [List.length_cons, List.range_succ_eq_map, List.filterMap_cons]
        show d :: List.filterMap _ _ = _
        rw [List.filterMap_map]
        exact congrArg (d :: ·) ih
    rwa [this] at h

/-! ### comprehensions over many things -/
theorem lc_thgFd (f : Nat → Option PyData) {J : It} {n : Nat} {G : Hp → Prop} {Y : Nat → Hp → V → Hp → Prop} (w : Walk J n G Y) {g : TG} {tt : TT} {te : TE} {vs : List Nat} {σ : L2.St} {H1 : Hp} {D : Addr} {Qd : Hp → Prop} (cs : List Addr) (nD : H1 D = none) (hz : n ≤ 100000) (hG : ∀ H, Same H1 H → G H)
    (turn : ∀ i x H H' (Kt : V → Hp → Prop) (Kn : Hp → Prop), i < n → Same H1 H → (∃ ws, H D = some (.lst ws)) → Y i H x H' → (∀ y d H4, f i = some d → Same H H4 → Thg (D :: cs) H4 y d → Kt y H4) → (∀ H4, f i = none → Same H H4 → Kn H4) → g x (wipe σ vs) H' fun σ2 H2 => wipe σ2 vs = wipe σ vs ∧ tt σ2 H2 fun b H3 => if b = true then te σ2 H3 Kt else Kn H3)
    (fin : ∀ H ws, Same H1 H → H D = some (.lst ws) → ThgL (D :: cs) H ws ((List.range n).filterMap f) → Qd H) : LcW J g tt te vs σ D Qd H1 := by
  refine lc_it w (fun j H => Same H1 H ∧ ∃ ws, H D = some (.lst ws) ∧ ThgL (D :: cs) H ws ((List.range j).filterMap f)) ⟨same_upd nD, [], upd_same, ThgL.nil⟩ (fun i H _ p => hG H p.1) (fun i x H H' hi hP hy => ?_) (fun H hP => let ⟨s, ws, e, h⟩ := hP; fin H ws s e h)
  obtain ⟨sm, ws, eD, hw⟩ := hP
  have es : (List.range (i + 1)).filterMap f = (List.range i).filterMap f ++ (f i).toList := by
    rw [List.range_succ, List.filterMap_append]
    cases h : f i with
    | none => simp [h]
    | some d => simp [h]
  have len : ((List.range i).filterMap f).length ≤ i := by
    have := List.length_filterMap_le f (List.range i)
    rwa [List.length_range] at this
  refine turn i x H H' _ _ hi sm ⟨ws, eD⟩ hy (fun y d H4 e s4 hd => ?_) (fun H4 e s4 => ?_)
  · have eD4 := s4 _ _ eD
    refine ⟨ws, eD4, Nat.lt_of_lt_of_le (show ws.length < 100001 by rw [hw.1]; omega) (by decide), fun b o eb => ?_, ws ++ [y], upd_same, ?_⟩
    · rw [upd_ne (ne_of_none eb nD)]
      exact s4 _ _ (sm b o eb)
    · rw [es, e]
      exact ((hw.same s4).upd eD4 (by simp)).append (ThgL.one (hd.upd eD4 (by simp)))
  · refine ⟨sm.trans s4, ws, s4 _ _ eD, ?_⟩
    rw [es, e]
    show ThgL _ _ _ (_ ++ [])
    rw [List.append_nil]
    exact hw.same s4
theorem lc_thgd (ds : List PyData) {J : It} {n : Nat} {G : Hp → Prop} {Y : Nat → Hp → V → Hp → Prop} (w : Walk J n G Y) {g : TG} {tt : TT} {te : TE} {vs : List Nat} {σ : L2.St} {H1 : Hp} {D : Addr} {Qd : Hp → Prop} (cs : List Addr) (nD : H1 D = none) (hn : ds.length = n) (hz : n ≤ 100000) (hG : ∀ H, Same H1 H → G H)
    (turn : ∀ i x d H H' (Kt : V → Hp → Prop) (Kn : Hp → Prop), ds[i]? = some d → Same H1 H → (∃ ws, H D = some (.lst ws)) → Y i H x H' → (∀ y H4, Same H H4 → Thg (D :: cs) H4 y d → Kt y H4) → g x (wipe σ vs) H' fun σ2 H2 => wipe σ2 vs = wipe σ vs ∧ tt σ2 H2 fun b H3 => if b = true then te σ2 H3 Kt else Kn H3)
    (fin : ∀ H ws, Same H1 H → H D = some (.lst ws) → ThgL (D :: cs) H ws ds → Qd H) : LcW J g tt te vs σ D Qd H1 := by
  refine lc_thgFd (fun i => ds[i]?) w cs nD hz hG (fun i x H H' Kt Kn hi sm hd hy kt kn => ?_) (fun H ws s e h => fin H ws s e ?_)
  · have ed : ds[i]? = some ds[i] := List.getElem?_eq_getElem (by omega)
    exact turn i x _ H H' Kt Kn ed sm hd hy fun y H4 s4 h4 => kt y _ H4 ed s4 h4
  · have : (List.range n).filterMap (fun i => ds[i]?) = ds := by
      rw [← hn]
      clear hn turn fin h w
      induction ds with
      | nil => rfl
      | cons d r ih =>
        rw [List.length_cons, List.range_succ_eq_map, List.filterMap_cons]
        show d :: List.filterMap _ _ = _
        rw [List.filterMap_map]
        exact congrArg (d :: ·) ih
    rwa [this] at h

/-! ### faults gone through, minutes gone through -/
/-- a gap, the open one ended where the look ends -/
def clo (m : Int) (g : Int × Option Int) : Int × Int := (g.1, match g.2 with | some e => e | none => m)
/-- a run, opened where the look ends -/
def opn (m : Int) (g : Int × Int) : Int × Option Int := (g.1, if g.2 < m then some g.2 else none)
theorem gaps_in {m : Int} : ∀ {ps : List (Int × Int)} {lo s : Int}, Ris lo ps → s ≤ lo → s ≤ m → (∀ p ∈ ps, p.2 + 2 ≤ m) → Ris s ((gapsO s ps).map (clo m)) ∧ ∀ n, InS ((gapsO s ps).map (clo m)) n ↔ (s ≤ n ∧ n ≤ m) ∧ ¬ InS ps n
  | [], lo, s, _, _, hm, _ => ⟨⟨Int.le_refl _, hm, True.intro⟩, fun n => by
      show InS [(s, m)] n ↔ _
      rw [inS_cons]
      exact ⟨fun h => h.elim (fun z => ⟨z, inS_nil⟩) (fun z => absurd z inS_nil), fun h => .inl h.1⟩⟩
  | p :: r, lo, s, hR, hs, hm, he => by
    have hlo := hR.1
    have hp := hR.2.1
    have hpm := he p (List.mem_cons_self ..)
    obtain ⟨ih1, ih2⟩ := gaps_in hR.2.2 (show p.2 + 1 ≤ p.2 + 2 by omega) (by omega) fun q hq => he q (List.mem_cons_of_mem _ hq)
    have low : ∀ n, InS r n → p.2 + 2 ≤ n := fun n h => Ris.low hR.2.2 h
    by_cases c : s < p.1
    · have e : (gapsO s (p :: r)).map (clo m) = (s, p.1 - 1) :: (gapsO (p.2 + 1) r).map (clo m) := by
        show ((if s < p.1 then [(s, some (p.1 - 1))] else []) ++ gapsO (p.2 + 1) r).map (clo m) = _
        rw [if_pos c]
        rfl
      rw [e]
      refine ⟨⟨Int.le_refl _, by show s ≤ p.1 - 1; omega, ih1.mono (by show p.1 - 1 + 2 ≤ p.2 + 1; omega)⟩, fun n => ?_⟩
      rw [inS_cons, inS_cons, ih2 n]
      show (s ≤ n ∧ n ≤ p.1 - 1) ∨ ((p.2 + 1 ≤ n ∧ n ≤ m) ∧ ¬InS r n) ↔ (s ≤ n ∧ n ≤ m) ∧ ¬((p.1 ≤ n ∧ n ≤ p.2) ∨ InS r n)
      by_cases d : InS r n
      · have := low n d
        simp only [d, not_true, and_false, or_false, or_true]
        exact ⟨fun ⟨_, z⟩ => by omega, False.elim⟩
      · simp only [d, not_false_eq_true, and_true, or_false]
        omega
    · have e : (gapsO s (p :: r)).map (clo m) = (gapsO (p.2 + 1) r).map (clo m) := by
        show ((if s < p.1 then [(s, some (p.1 - 1))] else []) ++ gapsO (p.2 + 1) r).map (clo m) = _
        rw [if_neg c]
        rfl
      rw [e]
      refine ⟨ih1.mono (by omega), fun n => ?_⟩
      rw [inS_cons, ih2 n]
      by_cases d : InS r n
      · have := low n d
        simp only [d, not_true, and_false, or_true]
      · simp only [d, not_false_eq_true, and_true, or_false]
        omega
/-- free minutes, from the first to where the look ends -/
def FreeM (seen : Seen) (m : Int) (n : Int) : Prop := (0 ≤ n ∧ n ≤ m) ∧ ¬ InS (goodsF seen) n
/-- the windows end well ahead of m -/
def EndsB (seen : Seen) (m : Int) : Prop := ∀ s ∈ seen, ∀ q, s.1 = some q → q.2 + 2 ≤ m
theorem setL_end {seen : Seen} {m : Int} (he : EndsB seen m) : ∀ n, InS (setL (goodsF seen)) n → n + 2 ≤ m := fun n h => by
  obtain ⟨w, hw, a, b⟩ := ((told_ex (goodsF seen)).same n).mp h
  have : w.2 + 2 ≤ m := he _ (mem_goods.mp hw) w rfl
  omega
theorem runs_gaps {seen : Seen} {m : Int} (hok : WinOk seen) (he : EndsB seen m) (h0 : 0 ≤ m) {rs : List (Int × Int)} (t : Told (FreeM seen m) rs) : rs.map (opn m) = gapsO 0 (setL (goodsF seen)) := by
  have t1 := told_ex (goodsF seen)
  have hR0 : Ris 0 (setL (goodsF seen)) := t1.nneg fun n hn => by
    obtain ⟨w, hw, e1, e2⟩ := hn
    have := hok _ (mem_goods.mp hw) w rfl
    omega
  have hend := setL_end he
  obtain ⟨g1, g2⟩ := gaps_in hR0 (Int.le_refl 0) h0 fun p hp => hend p.2 ⟨p, hp, (Ris.le hR0 p hp).2, Int.le_refl _⟩
  have er : rs = (gapsO 0 (setL (goodsF seen))).map (clo m) := t.one (pr' := FreeM seen m) ⟨⟨0, g1⟩, fun n => (g2 n).trans ⟨fun h => ⟨h.1, fun z => h.2 ((t1.same n).mpr z)⟩, fun h => ⟨h.1, fun z => h.2 ((t1.same n).mp z)⟩⟩⟩ fun n => Iff.rfl
  rw [er, List.map_map]
  have : ∀ g ∈ gapsO 0 (setL (goodsF seen)), (opn m ∘ clo m) g = g := fun g hg => by
    obtain ⟨_, _, g3, _⟩ := gaps_ok hR0 (Int.le_refl 0) g hg
    obtain ⟨a, o⟩ := g
    cases o with
    | none =>
      show (a, if m < m then some m else none) = _
      rw [if_neg (Int.lt_irrefl m)]
    | some e =>
      have := hend _ (g3 e rfl).2
      show (a, if e < m then some e else none) = _
      rw [if_pos (by omega)]
  calc _ = (gapsO 0 (setL (goodsF seen))).map id := List.map_congr_left this
    _ = _ := List.map_id _
open Classical in
noncomputable def row8 (seen : Seen) (m : Int) (g : Int × Int) : Option Row4 := if none ∈ badsF seen then none else rowG (minL ((wBad seen).map (·.2))) (maxL ((wBad seen).map (·.1))) (opn m g)
theorem rows8 {seen : Seen} {m : Int} (hok : WinOk seen) (he : EndsB seen m) (h0 : 0 ≤ m) {rs : List (Int × Int)} (t : Told (FreeM seen m) rs) : rs.filterMap (row8 seen m) = rowsAtF seen := by
  unfold rowsAtF
  by_cases hn : none ∈ badsF seen
  · rw [if_pos hn]
    exact List.filterMap_eq_nil_iff.mpr fun g _ => by unfold row8; rw [if_pos hn]
  · rw [if_neg hn]
    show _ = (gapsO 0 (setL (goodsF seen))).filterMap _
    rw [← runs_gaps hok he h0 t, List.filterMap_map]
    exact congrArg (fun f => rs.filterMap f) (funext fun g => by unfold row8; rw [if_neg hn]; rfl)
/-- what the faults within a run tell of its row -/
structure Row8 (fs : List (Int × Int)) (g : Int × Int) (m : Int) (o : Option Row4) : Prop where
  no : o = none → ∀ f ∈ fs, ¬ (g.1 ≤ f.1 ∧ f.2 ≤ g.2)
  yes : ∀ r, o = some r → r.1 = g.1 ∧ r.2.1 = (if g.2 < m then some g.2 else none) ∧ (∃ f ∈ fs, (g.1 ≤ f.1 ∧ f.2 ≤ g.2) ∧ f.1 = r.2.2.1) ∧ (∀ f ∈ fs, g.1 ≤ f.1 ∧ f.2 ≤ g.2 → f.1 ≤ r.2.2.1) ∧ (∃ f ∈ fs, (g.1 ≤ f.1 ∧ f.2 ≤ g.2) ∧ f.2 = r.2.2.2) ∧ ∀ f ∈ fs, g.1 ≤ f.1 ∧ f.2 ≤ g.2 → r.2.2.2 ≤ f.2
/-- the faults from the first minute to where the look ends -/
def FaultsL (seen : Seen) (m : Int) (fs : List (Int × Int)) : Prop := ∀ x y, (x, y) ∈ fs ↔ (0 ≤ x ∧ x ≤ y ∧ y ≤ m) ∧ isFaultF seen x y = true
theorem row8_ok {seen : Seen} {m : Int} (hok : WinOk seen) (he : EndsB seen m) (hbad : ∃ s ∈ seen, s.2 = true) {fs rs : List (Int × Int)} (hf : FaultsL seen m fs) (t : Told (FreeM seen m) rs) {g : Int × Int} (hg : g ∈ rs) : Row8 fs g m (row8 seen m g) := by
  have hR : Ris 0 rs := t.nneg fun n hn => hn.1.1
  obtain ⟨h1, h2⟩ := Ris.le hR g hg
  have free : ∀ n, g.1 ≤ n → n ≤ g.2 → FreeM seen m n := fun n a b => (t.same n).mp ⟨g, hg, a, b⟩
  have h3 := (free g.2 h2 (Int.le_refl _)).1.2
  unfold row8
  by_cases hn : none ∈ badsF seen
  · rw [if_pos hn]
    refine ⟨fun _ f hf' _ => ?_, fun r z => nomatch z⟩
    exact (isF_iff.mp ((hf f.1 f.2).mp hf').2).2.1 hn
  rw [if_neg hn]
  have hne : wBad seen ≠ [] := by
    obtain ⟨⟨o, b⟩, hs, e⟩ := hbad
    have e : b = true := e
    subst e
    cases o with
    | none => exact absurd (mem_none.mpr hs) hn
    | some w => exact List.ne_nil_of_mem (mem_wBad.mpr hs)
  obtain ⟨hf1, hf2⟩ := min_spec (xs := (wBad seen).map (·.2)) (by simpa using hne)
  obtain ⟨hb1, hb2⟩ := max_spec (xs := (wBad seen).map (·.1)) (by simpa using hne)
  generalize minL ((wBad seen).map (·.2)) = fe at hf1 hf2
  generalize maxL ((wBad seen).map (·.1)) = lb at hb1 hb2
  obtain ⟨w1, hw1, rfl⟩ := List.mem_map.mp hf1
  obtain ⟨w2, hw2, rfl⟩ := List.mem_map.mp hb1
  have e1 := he _ (mem_wBad.mp hw1) w1 rfl
  have e2 := he _ (mem_wBad.mp hw2) w2 rfl
  have o2 := hok _ (mem_wBad.mp hw2) w2 rfl
  have inr : ∀ x y, (g.1 ≤ x ∧ y ≤ g.2) → ((x, y) ∈ fs ↔ x ≤ y ∧ w2.1 ≤ y ∧ x ≤ w1.2) := fun x y hxy => by
    rw [hf x y, isF_iff]
    constructor
    · rintro ⟨_, a, _, b, _⟩
      exact ⟨a, (b w2 hw2).1, (b w1 hw1).2⟩
    · rintro ⟨a, b, c⟩
      refine ⟨⟨by omega, a, by omega⟩, a, hn, fun w hw => ?_, clear_of hok a fun n n1 n2 => (free n (by omega) (by omega)).2⟩
      have a1 : w.1 ≤ w2.1 := hb2 _ (List.mem_map.mpr ⟨w, hw, rfl⟩)
      have a2 : w1.2 ≤ w.2 := hf2 _ (List.mem_map.mpr ⟨w, hw, rfl⟩)
      exact ⟨Int.le_trans a1 b, Int.le_trans c a2⟩
  have fin : ∀ (lx : Int), g.1 ≤ w1.2 → w2.1 ≤ g.2 → (lx = w1.2 ∧ w1.2 ≤ g.2 ∨ lx = g.2 ∧ g.2 ≤ w1.2) → Row8 fs g m (some (g.1, (if g.2 < m then some g.2 else none), lx, if g.1 > w2.1 then g.1 else w2.1)) := fun lx c1 c2 c3 => by
    refine ⟨fun z => (nomatch z), fun r z => ?_⟩
    cases z
    refine ⟨rfl, rfl, ⟨(lx, g.2), (inr _ _ ⟨by omega, Int.le_refl _⟩).mpr ⟨by omega, c2, by omega⟩, ⟨by show g.1 ≤ lx; omega, Int.le_refl _⟩, rfl⟩, fun f hf' hr => ?_, ⟨(g.1, if g.1 > w2.1 then g.1 else w2.1), (inr _ _ ⟨Int.le_refl _, by split <;> omega⟩).mpr ⟨by split <;> omega, by split <;> omega, c1⟩, ⟨Int.le_refl _, by show (if g.1 > w2.1 then g.1 else w2.1) ≤ g.2; split <;> omega⟩, rfl⟩, fun f hf' hr => ?_⟩
    · have := (inr f.1 f.2 hr).mp hf'
      show f.1 ≤ lx
      omega
    · have := (inr f.1 f.2 hr).mp hf'
      show (if g.1 > w2.1 then g.1 else w2.1) ≤ f.2
      split <;> omega
  have non : (g.1 > w1.2 ∨ g.2 < w2.1) → ∀ f ∈ fs, ¬ (g.1 ≤ f.1 ∧ f.2 ≤ g.2) := fun c f hf' hr => by
    have := (inr f.1 f.2 hr).mp hf'
    omega
  unfold rowG opn
  by_cases c : g.2 < m
  · simp only [if_pos c] at fin ⊢
    by_cases d : g.1 ≤ w1.2 ∧ w2.1 ≤ g.2
    · rw [if_pos d]
      refine fin _ d.1 d.2 ?_
      by_cases k : g.2 < w1.2
      · rw [if_pos k]
        exact .inr ⟨rfl, by omega⟩
      · rw [if_neg k]
        exact .inl ⟨rfl, by omega⟩
    · rw [if_neg d]
      exact ⟨fun _ => non (by omega), fun r z => nomatch z⟩
  · simp only [if_neg c] at fin ⊢
    by_cases d : g.1 ≤ w1.2
    · rw [if_pos d]
      exact fin _ d (by omega) (.inl ⟨rfl, by omega⟩)
    · rw [if_neg d]
      exact ⟨fun _ => non (by omega), fun r z => nomatch z⟩

/-! ### the rising list of these texts is one -/
theorem Str.eq_of_list {x y : Str} (h : x.cps.toList = y.cps.toList) : x = y := by
  obtain ⟨a⟩ := x
  obtain ⟨b⟩ := y
  exact congrArg Str.mk (Array.toList_inj.mp h)
theorem rising_pw : ∀ (p : Str) (l : List Str), risingS p l = true → (p :: l).Pairwise fun a b => a.cps.toList ≤ b.cps.toList
  | p, [], _ => List.pairwise_singleton _ _
  | p, x :: r, h => by
    have h : (!ltCps x.cps.toList p.cps.toList && risingS x r) = true := h
    rw [Bool.and_eq_true, Bool.not_eq_true', ltCps_eq] at h
    have h1 : p.cps.toList ≤ x.cps.toList := of_decide_eq_false h.1
    have ih := rising_pw x r h.2
    refine List.pairwise_cons.mpr ⟨fun y hy => ?_, ih⟩
    rcases List.mem_cons.mp hy with rfl | hy
    · exact h1
    · exact List.le_trans h1 ((List.pairwise_cons.mp ih).1 y hy)
theorem sorted_pw {l : List Str} (h : sortedS l = true) : l.Pairwise fun a b => a.cps.toList ≤ b.cps.toList := by
  cases l with
  | nil => exact List.Pairwise.nil
  | cons x r => exact rising_pw x r h
theorem pw_one : ∀ {xs ys : List Str}, (xs.Pairwise fun a b => a.cps.toList ≤ b.cps.toList) → (ys.Pairwise fun a b => a.cps.toList ≤ b.cps.toList) → xs.Nodup → ys.Nodup → (∀ x, x ∈ xs ↔ x ∈ ys) → xs = ys
  | [], [], _, _, _, _, _ => rfl
  | [], y :: s, _, _, _, _, h => nomatch (h y).mpr (List.mem_cons_self ..)
  | x :: r, [], _, _, _, _, h => nomatch (h x).mp (List.mem_cons_self ..)
  | x :: r, y :: s, h1, h2, n1, n2, h => by
    obtain ⟨a1, b1⟩ := List.pairwise_cons.mp h1
    obtain ⟨a2, b2⟩ := List.pairwise_cons.mp h2
    obtain ⟨c1, d1⟩ := List.nodup_cons.mp n1
    obtain ⟨c2, d2⟩ := List.nodup_cons.mp n2
    have e : x = y := by
      rcases List.mem_cons.mp ((h x).mp (List.mem_cons_self ..)) with e | e
      · exact e
      · rcases List.mem_cons.mp ((h y).mpr (List.mem_cons_self ..)) with e' | e'
        · exact e'.symm
        · exact Str.eq_of_list (List.le_antisymm (a1 y e') (a2 x e))
    subst e
    rw [pw_one b1 b2 d1 d2 fun z => ⟨fun hz => ?_, fun hz => ?_⟩]
    · rcases List.mem_cons.mp ((h z).mp (List.mem_cons_of_mem _ hz)) with e | e
      · exact absurd (e ▸ hz) c1
      · exact e
    · rcases List.mem_cons.mp ((h z).mpr (List.mem_cons_of_mem _ hz)) with e | e
      · exact absurd (e ▸ hz) c2
      · exact e
theorem SrtT.one {pr pr' : Str → Prop} {xs ys : List Str} (h : SrtT pr xs) (h' : SrtT pr' ys) (e : ∀ x, pr x ↔ pr' x) : xs = ys := pw_one (sorted_pw h.up) (sorted_pw h'.up) h.nd h'.nd fun x => (h.mem x).trans ((e x).trans (h'.mem x).symm)
theorem told_len (ps : List (Int × Int)) : (setL ps).length ≤ ps.length := by
  let qs := (ps.filter fun p => decide (p.1 ≤ p.2)).mergeSort fun p q => decide (p.1 ≤ q.1)
  have hpm : qs.Perm (ps.filter fun p => decide (p.1 ≤ p.2)) := List.mergeSort_perm _ _
  have hle : ∀ p ∈ qs, p.1 ≤ p.2 := fun p hp => of_decide_eq_true (List.mem_filter.mp (hpm.mem_iff.mp hp)).2
  have hord : qs.Pairwise fun p q => p.1 ≤ q.1 := by
    have z := List.pairwise_mergeSort (le := fun p q : Int × Int => decide (p.1 ≤ q.1)) (fun a b c h1 h2 => decide_eq_true (Int.le_trans (of_decide_eq_true h1) (of_decide_eq_true h2))) (fun a b => by
      rcases Int.le_total a.1 b.1 with h | h
      · simp [h]
      · simp [h]) (ps.filter fun p => decide (p.1 ≤ p.2))
    exact z.imp fun h => of_decide_eq_true h
  have main : ∀ n, n ≤ qs.length → ∃ rs, Mrg (qs.take n) rs := by
    intro n
    induction n with
    | zero => exact fun _ => ⟨[], Mrg.nil⟩
    | succ n ih =>
      intro hn
      obtain ⟨rs, m⟩ := ih (by omega)
      have hlt : n < qs.length := by omega
      have et : qs.take (n + 1) = qs.take n ++ [qs[n]] := by rw [List.take_add_one, List.getElem?_eq_getElem hlt]; rfl
      have hp := hle qs[n] (List.getElem_mem hlt)
      have ord : ∀ q ∈ qs.take n, q.1 ≤ qs[n].1 := fun q hq => by
        have h2 := hord
        rw [← List.take_append_drop n qs, List.pairwise_append] at h2
        exact h2.2.2 q hq _ (by rw [List.drop_eq_getElem_cons hlt]; exact List.mem_cons_self ..)
      rw [et]
      rcases snoc_cases rs with e0 | ⟨rs', ⟨a, b⟩, e0⟩
      · subst e0
        exact ⟨_, m.new hp ord fun _ z => nomatch z⟩
      · subst e0
        by_cases c : qs[n].1 ≤ b + 1
        · exact ⟨_, m.join hp ord c⟩
        · refine ⟨_, m.new hp ord fun r hr => ?_⟩
          obtain ⟨lo, hR⟩ := m.ris
          obtain ⟨_, h2, _, h4⟩ := Ris.front hR
          have h4' : a ≤ b := h4
          rcases List.mem_append.mp hr with y | y
          · have : r.2 + 2 ≤ a := h2 r y
            omega
          · rw [List.mem_singleton.mp y]
            show b + 2 ≤ qs[n].1
            omega
  obtain ⟨rs, m⟩ := main qs.length (Nat.le_refl _)
  rw [List.take_length] at m
  have t : Told (InS ps) rs := ⟨m.ris, m.same.trans fun n => by
    constructor
    · rintro ⟨r, hr, e⟩
      exact ⟨r, (List.mem_filter.mp (hpm.mem_iff.mp hr)).1, e⟩
    · rintro ⟨r, hr, e⟩
      exact ⟨r, hpm.mem_iff.mpr (List.mem_filter.mpr ⟨hr, decide_eq_true (by omega)⟩), e⟩⟩
  have e := t.canon
  unfold setL
  rw [← e]
  have h1 := m.len
  have h2 := hpm.length_eq
  have h3 := List.length_filter_le (fun p : Int × Int => decide (p.1 ≤ p.2)) ps
  omega
theorem rowsAt_len (seen : Seen) : (rowsAtF seen).length ≤ seen.length + 1 := by
  unfold rowsAtF
  split
  · exact Nat.zero_le _
  · unfold faultF
    have h1 := List.length_filterMap_le (rowG (minL (((badsF seen).filterMap id).map (·.2))) (maxL (((badsF seen).filterMap id).map (·.1)))) (gapsO 0 (setL (goodsF seen)))
    have h2 := gapsI_len 0 (setL (goodsF seen))
    have h3 := told_len (goodsF seen)
    have h4 : (goodsF seen).length ≤ seen.length := by
      unfold goodsF
      exact Nat.le_trans (List.length_filterMap_le _ _) (List.length_filter_le _ _)
    have h5 : (gapsO 0 (setL (goodsF seen))).length = (gapsI 0 (setL (goodsF seen))).length + 1 := by rw [gapsO_eq, List.length_append]; rfl
    omega
theorem susp_len (bs : List Bat3) (ts : List Tst) : ∀ ps : List Str, (suspF bs ts ps).length ≤ ps.length * (ts.length + 1)
  | [] => Nat.zero_le _
  | p :: r => by
    have ih := susp_len bs ts r
    have h := rowsAt_len (seenF bs ts p)
    have h2 : (seenF bs ts p).length = ts.length := List.length_map _
    rw [h2] at h
    show (List.flatMap _ _).length ≤ _
    rw [List.flatMap_cons, List.length_append, List.length_map, List.length_cons, Nat.succ_mul]
    have ih : (List.flatMap (fun p => (rowsAtF (seenF bs ts p)).map fun r => (p, r)) r).length ≤ r.length * (ts.length + 1) := ih
    omega

/-! ### tins at a place (by k17): the program's -/
namespace Old
inductive Pas
  | line (place : Str) (st lo by_ : Int)
  | racks (place : Str) (per : Int) (stays : List (Int × Int))
def Pas.place : Pas → Str
  | .line p _ _ _ => p
  | .racks p _ _ => p
/-- as it is drawn, for so many tins -/
def Pas.Good (T : Int) : Pas → Prop
  | .line p st lo b => True ∧ 0 ≤ st ∧ st < 10 ^ 75 ∧ 0 ≤ lo ∧ lo < 10 ^ 75 ∧ 1 ≤ b ∧ b < 10 ^ 75
  | .racks p per ss => True ∧ 1 ≤ per ∧ per < 10 ^ 75 ∧ True ∧ ss.length ≤ 100 ∧ ∀ s ∈ ss, 0 ≤ s.1 ∧ s.1 ≤ s.2 ∧ s.2 < 10 ^ 75
/-- where a pass stands -/
def PasV (H : Hp) (v : V) : Pas → Prop
  | .line p st lo b => ∃ a, v = .ref a ∧ H a = some (.tup [.str "line", .str p, .int st, .int lo, .int b])
  | .racks p per ss => ∃ a s us, v = .ref a ∧ H a = some (.tup [.str "racks", .str p, .int per, .ref s]) ∧ SqH H s us ∧ Prs H us ss
theorem PasV.same {H H' : Hp} {v : V} {p : Pas} (h : PasV H v p) (s : Same H H') : PasV H' v p := by
  cases p with
  | line => obtain ⟨a, e, h⟩ := h; exact ⟨a, e, s _ _ h⟩
  | racks => obtain ⟨a, b, us, e, h1, h2, h3⟩ := h; exact ⟨a, b, us, e, s _ _ h1, h2.same s, h3.same s⟩
theorem PasV.ref {H : Hp} {v : V} {p : Pas} (h : PasV H v p) : ∃ a, v = .ref a := by
  cases p with
  | line => obtain ⟨a, e, _⟩ := h; exact ⟨a, e⟩
  | racks => obtain ⟨a, b, us, e, _⟩ := h; exact ⟨a, e⟩
def PassA (H : Hp) (vs : List V) (ps : List Pas) : Prop := vs.length = ps.length ∧ ∀ (i : Nat) v p, vs[i]? = some v → ps[i]? = some p → PasV H v p
theorem PassA.same {H H' : Hp} {vs : List V} {ps : List Pas} (h : PassA H vs ps) (s : Same H H') : PassA H' vs ps := ⟨h.1, fun i v p e1 e2 => (h.2 i v p e1 e2).same s⟩
theorem PassA.at {H : Hp} {vs : List V} {ps : List Pas} {i : Nat} {v : V} (h : PassA H vs ps) (e : vs[i]? = some v) : ∃ p, ps[i]? = some p ∧ PasV H v p := by
  have hi : i < ps.length := by rw [← h.1]; exact (List.getElem?_eq_some_iff.mp e).1
  exact ⟨_, List.getElem?_eq_getElem hi, h.2 i v _ e (List.getElem?_eq_getElem hi)⟩
/-- where a batch stands -/
def BatA (H : Hp) (b : Addr) (mark : Str) (T : Int) (ps : List Pas) : Prop := ∃ a vs, H b = some (.tup [.str mark, .int T, .ref a]) ∧ SqH H a vs ∧ PassA H vs ps
theorem BatA.same {H H' : Hp} {b : Addr} {m : Str} {T : Int} {ps : List Pas} (h : BatA H b m T ps) (s : Same H H') : BatA H' b m T ps := let ⟨a, vs, e, h1, h2⟩ := h; ⟨a, vs, s _ _ e, h1.same s, h2.same s⟩
/-- log2 of what is below 2 ^ 200 -/
theorem log_lt {i : Int} (h : i.natAbs < 2 ^ 400) : i.natAbs.log2 < 400 := PySem.Flt.log2_lt_of (by decide) h
def winF (pl : Str) (tin : Int) : List Pas → Option (Int × Int)
  | [] => none
  | .line p st lo b :: r => if p = pl then some (st + tin * lo / b, st + tin * lo / b) else winF pl tin r
  | .racks p per ss :: r => if p = pl then ss[(tin / per).toNat]? else winF pl tin r
def passF (pl : Str) : List Pas → Option Pas
  | [] => none
  | p :: r => if p.place = pl then some p else passF pl r
theorem passF_mem {pl : Str} {p : Pas} : ∀ {ps : List Pas}, passF pl ps = some p → p ∈ ps
  | [], e => nomatch e
  | q :: r, e => by
    unfold passF at e
    split at e
    · cases e
      exact List.mem_cons_self ..
    · exact List.mem_cons_of_mem _ (passF_mem e)
def winP (tin : Int) : Option Pas → Option (Int × Int)
  | none => none
  | some (.line _ st lo b) => some (st + tin * lo / b, st + tin * lo / b)
  | some (.racks _ per ss) => ss[(tin / per).toNat]?
theorem win_eq (pl : Str) (tin : Int) : ∀ ps : List Pas, winF pl tin ps = winP tin (passF pl ps)
  | [] => rfl
  | .line p st lo b :: r => by
    unfold winF passF
    by_cases h : p = pl
    · rw [if_pos h, if_pos (show (Pas.line p st lo b).place = pl from h)]
      rfl
    · rw [if_neg h, if_neg (show ¬ (Pas.line p st lo b).place = pl from h), win_eq pl tin r]
  | .racks p per ss :: r => by
    unfold winF passF
    by_cases h : p = pl
    · rw [if_pos h, if_pos (show (Pas.racks p per ss).place = pl from h)]
      rfl
    · rw [if_neg h, if_neg (show ¬ (Pas.racks p per ss).place = pl from h), win_eq pl tin r]
/-- where a tin's stay is -/
theorem stay_at {T tin per : Int} {ss : List (Int × Int)} (h0 : 0 ≤ tin) (h1 : tin < T) (hp : 1 ≤ per) (h : T ≤ per * ss.length) : ∃ j : Nat, tin / per = (j : Int) ∧ j < ss.length := by
  have z0 : 0 ≤ tin / per := Int.ediv_nonneg h0 (by omega)
  have z1 : tin / per < ss.length := Int.ediv_lt_of_lt_mul (by omega) (by rw [Int.mul_comm]; omega)
  obtain ⟨j, e⟩ := Int.eq_ofNat_of_zero_le z0
  exact ⟨j, e, by omega⟩
def WinV (H : Hp) (v : V) : Option (Int × Int) → Prop
  | none => v = .non
  | some p => ∃ a, v = .ref a ∧ H a = some (.tup [.int p.1, .int p.2])
/-! ### the program's -/
abbrev sPassAt : Stmt := topS 5
theorem scPassAt : FnScope ["batch", "place", "passed"] ["batch", "place"] (defScope sPassAt) := ⟨rfl, rfl, rfl, by decide +kernel, rfl, by decide +kernel, by decide +kernel⟩
def PasO (H : Hp) (v : V) : Option Pas → Prop
  | none => v = .non
  | some p => PasV H v p
def spPassAt : Sp := fun vs H Q _ => ∃ (b : Addr) (mark pl : Str) (T : Int) (ps : List Pas), vs = [.ref b, .str pl] ∧ BatA H b mark T ps ∧ ∀ v, PasO H v (passF pl ps) → Q v H
section
variable {K : PySem.W.Frag} {mg : Str → Option Value} {P : Program} {w : World} {base : Heap}
theorem ok_passat {f : Addr} {fd : FuncData} {k : Nat} (F : Fun K "pass_at" "pass_at" sPassAt f fd) : FnOk P w K mg base CX0 (k + 1) f fd ["batch", "place"] spPassAt := by
  refine F.ok scPassAt (fun vs H Q E h => ?_) (fun cdv A outer s H vs Q E hr h => ?_)
  · obtain ⟨b, mark, pl, T, ps, rfl, _⟩ := h
    rfl
  · obtain ⟨b, mark, pl, T, ps, rfl, ⟨a, us, eb, ha, hus⟩, q⟩ := h
    refine ⟨_, pss_cons (ps_for PassesOwn.never rfl (pi_seq (pe_ix ix_tup (pv 0) pe_int (fun _ _ => rfl))) (pg_name (i := 2) scPassAt.nd rfl (.inl rfl))
        (pss_one (ps_if (pt_cmpR op_eq (pe_ix ix_tup (pv 2) pe_int (fun _ _ => rfl)) (pv 1) (nomark _)) (pss_one (ps_ret (pv 2))) pss_nil)))
      (pss_one (ps_ret pe_non)), ?_⟩
    refine ⟨_, rfl, b, _, 2, .ref a, rfl, rfl, .inl (.inl eb), atI_nat (j := 2) rfl, a, rfl, for_seq (xs := us) ha.sq (fun i σ H1 => ∃ (y2 : Option V), σ = [some (.ref b), some (.str pl), y2] ∧ H1 = H ∧ ∀ v, PasO H v (passF pl (ps.drop i)) → Q v H) ⟨none, rfl, rfl, q⟩
      (fun i σ H1 _ hP => ?_) (fun i x σ H1 hx hP => ?_) (fun σ H1 hP => ?_)⟩
    · obtain ⟨_, rfl, rfl, _⟩ := hP
      exact SqTo.refl
    · obtain ⟨y2, rfl, rfl, q⟩ := hP
      obtain ⟨p, ep, hv⟩ := hus.at hx
      rw [drop_at ep] at q
      obtain ⟨g, us', rfl, eg⟩ : ∃ (g : Addr) (r : List V), x = .ref g ∧ ∃ z, H1 g = some (.tup (.str z :: .str p.place :: r)) := by
        cases p with
        | line => obtain ⟨g, e, h⟩ := hv; exact ⟨g, _, e, _, h⟩
        | racks => obtain ⟨g, _, _, e, h, _⟩ := hv; exact ⟨g, _, e, _, h⟩
      obtain ⟨z, eg⟩ := eg
      unfold passF at q
      refine ⟨_, rfl, g, _, 1, .str p.place, rfl, rfl, .inl (.inl eg), atI_nat (j := 1) rfl, _, rfl, rfl, _, rfl, ite2 (fun c => ?_) (fun c => ?_)⟩
      · have c' : p.place = pl := V.str.inj (of_decide_eq_true c)
        rw [if_pos c'] at q
        exact ⟨_, rfl, q _ hv⟩
      · have c' : ¬ p.place = pl := fun z => c (decide_eq_true (congrArg V.str z))
        rw [if_neg c'] at q
        exact ⟨_, rfl, rfl, q⟩
    · obtain ⟨y2, rfl, rfl, q⟩ := hP
      rw [hus.1, List.drop_length] at q
      exact q .non rfl
end
/-! ### tins at a place: the mathematics -/
/-- a last minute, or none -/
def lastV : Option Int → V
  | none => .non
  | some l => .int l
def meetB (first : Int) (last : Option Int) (p : Int × Int) : Bool := decide (first ≤ p.2) && (match last with
  | none => true
  | some l => decide (p.1 ≤ l))
/-- the first not above the last -/
def Over (first : Int) (last : Option Int) : Prop := ∃ l, last = some l ∧ l < first
/-- the tins whose window meets the minutes -/
def TinP (pl : Str) (T : Int) (ps : List Pas) (first : Int) (last : Option Int) (n : Int) : Prop := (0 ≤ n ∧ n < T) ∧ ¬ Over first last ∧ ∃ p, winF pl n ps = some p ∧ meetB first last p = true
def cntF (T st lo b m : Int) : Int := if m ≤ st then 0 else if lo = 0 then T else if ((m - st) * b + lo - 1) / lo < T then ((m - st) * b + lo - 1) / lo else T
theorem cnt_lt {T st lo b m n : Int} (hl : 0 ≤ lo) (hb : 1 ≤ b) (h0 : 0 ≤ n) (h1 : n < T) : n < cntF T st lo b m ↔ st + n * lo / b < m := by
  unfold cntF
  have q1 : 0 ≤ n * lo / b := Int.ediv_nonneg (Int.mul_nonneg h0 hl) (by omega)
  by_cases c : m ≤ st
  · rw [if_pos c]
    omega
  · rw [if_neg c]
    by_cases e : lo = 0
    · rw [if_pos e, e, Int.mul_zero, Int.zero_ediv]
      omega
    · rw [if_neg e]
      have key1 : n < ((m - st) * b + lo - 1) / lo ↔ n * lo < (m - st) * b := by
        rw [Int.lt_iff_add_one_le, Int.le_ediv_iff_mul_le (by omega), Int.add_mul]
        omega
      have key2 : n * lo / b < m - st ↔ n * lo < (m - st) * b := Int.ediv_lt_iff_lt_mul (by omega)
      split <;> omega
theorem cnt_bd {T st lo b m : Int} (hT : 0 ≤ T) (hl : 0 ≤ lo) (hb : 1 ≤ b) : 0 ≤ cntF T st lo b m ∧ cntF T st lo b m ≤ T := by
  unfold cntF
  by_cases c : m ≤ st
  · rw [if_pos c]
    omega
  · rw [if_neg c]
    by_cases e : lo = 0
    · rw [if_pos e]
      omega
    · rw [if_neg e]
      have q1 : 0 ≤ ((m - st) * b + lo - 1) / lo := Int.ediv_nonneg (by have := Int.mul_nonneg (show 0 ≤ m - st by omega) (show 0 ≤ b by omega); omega) hl
      split <;> omega
def endF (T st lo b : Int) : Option Int → Int
  | none => T
  | some l => cntF T st lo b (l + 1)
theorem line_in {T st lo b first n : Int} {last : Option Int} (hT : 0 ≤ T) (hl : 0 ≤ lo) (hb : 1 ≤ b) : InS [(cntF T st lo b first, endF T st lo b last - 1)] n ↔ (0 ≤ n ∧ n < T) ∧ meetB first last (st + n * lo / b, st + n * lo / b) = true := by
  rw [inS_cons]
  have b1 := cnt_bd (T := T) (st := st) (lo := lo) (b := b) (m := first) hT hl hb
  have b2 : endF T st lo b last ≤ T := by
    cases last with
    | none => exact Int.le_refl _
    | some l => exact (cnt_bd hT hl hb).2
  show ((cntF T st lo b first ≤ n ∧ n ≤ endF T st lo b last - 1) ∨ InS [] n) ↔ _
  have main : 0 ≤ n → n < T → ((cntF T st lo b first ≤ n ∧ n ≤ endF T st lo b last - 1) ↔ meetB first last (st + n * lo / b, st + n * lo / b) = true) := fun h0 h1 => by
    have k1 := cnt_lt (T := T) (st := st) (m := first) hl hb h0 h1
    unfold meetB
    rw [Bool.and_eq_true, decide_eq_true_eq]
    cases last with
    | none =>
      show (cntF T st lo b first ≤ n ∧ n ≤ T - 1) ↔ (first ≤ st + n * lo / b ∧ true = true)
      constructor
      · exact fun z => ⟨by omega, rfl⟩
      · exact fun z => ⟨by omega, by omega⟩
    | some l =>
      have k2 := cnt_lt (T := T) (st := st) (m := l + 1) hl hb h0 h1
      show (cntF T st lo b first ≤ n ∧ n ≤ cntF T st lo b (l + 1) - 1) ↔ (first ≤ st + n * lo / b ∧ decide (st + n * lo / b ≤ l) = true)
      rw [decide_eq_true_eq]
      omega
  constructor
  · rintro (z | z)
    · have h0 : 0 ≤ n := by omega
      have h1 : n < T := by omega
      exact ⟨⟨h0, h1⟩, (main h0 h1).mp z⟩
    · exact absurd z inS_nil
  · rintro ⟨⟨h0, h1⟩, z⟩
    exact .inl ((main h0 h1).mpr z)
def rackP (T per r : Int) : Int × Int := (r * per, (if T < r * per + per then T else r * per + per) - 1)
def metF (T per first : Int) (last : Option Int) : Nat → List (Int × Int) → List (Int × Int)
  | _, [] => []
  | j, s :: r => (if meetB first last s = true then [rackP T per (j : Int)] else []) ++ metF T per first last (j + 1) r
theorem metF_snoc {T per first : Int} {last : Option Int} {s : Int × Int} : ∀ (ss : List (Int × Int)) (j : Nat), metF T per first last j (ss ++ [s]) = metF T per first last j ss ++ (if meetB first last s = true then [rackP T per ((j + ss.length : Nat) : Int)] else [])
  | [], j => by
    rw [List.nil_append, metF, metF, metF, List.append_nil, List.nil_append]
    rfl
  | r :: ss, j => by
    rw [List.cons_append, metF, metF, metF_snoc ss (j + 1), List.append_assoc, List.length_cons, show j + 1 + ss.length = j + (ss.length + 1) by omega]
theorem metF_len {T per first : Int} {last : Option Int} : ∀ (ss : List (Int × Int)) (j : Nat), (metF T per first last j ss).length ≤ ss.length
  | [], _ => Nat.le_refl _
  | s :: r, j => by
    rw [metF, List.length_append, List.length_cons]
    have := metF_len (T := T) (per := per) (first := first) (last := last) r (j + 1)
    split
    · show 1 + _ ≤ _
      omega
    · show 0 + _ ≤ _
      omega
theorem metF_in {T per first n : Int} {last : Option Int} : ∀ (ss : List (Int × Int)) (j : Nat), InS (metF T per first last j ss) n ↔ ∃ (k : Nat) (s : Int × Int), ss[k]? = some s ∧ meetB first last s = true ∧ (rackP T per ((j + k : Nat) : Int)).1 ≤ n ∧ n ≤ (rackP T per ((j + k : Nat) : Int)).2
  | [], j => ⟨fun z => absurd z inS_nil, fun ⟨_, _, e, _⟩ => nomatch e⟩
  | s :: r, j => by
    rw [metF, inS_append, metF_in r (j + 1)]
    constructor
    · rintro (z | ⟨k, s', e, z⟩)
      · split at z
        · rename_i c
          rcases inS_cons.mp z with y | y
          · exact ⟨0, s, rfl, c, y⟩
          · exact absurd y inS_nil
        · exact absurd z inS_nil
      · exact ⟨k + 1, s', e, by rw [show j + (k + 1) = j + 1 + k by omega]; exact z⟩
    · rintro ⟨k, s', e, c, z⟩
      cases k with
      | zero =>
        cases e
        rw [if_pos c]
        exact .inl (inS_cons.mpr (.inl z))
      | succ k => exact .inr ⟨k, s', e, c, by rw [show j + 1 + k = j + (k + 1) by omega]; exact z⟩
theorem rack_in {T per r n : Int} (hp : 1 ≤ per) : ((rackP T per r).1 ≤ n ∧ n ≤ (rackP T per r).2) ↔ n < T ∧ n / per = r := by
  unfold rackP
  show (r * per ≤ n ∧ n ≤ (if T < r * per + per then T else r * per + per) - 1) ↔ _
  have e1 : r ≤ n / per ↔ r * per ≤ n := Int.le_ediv_iff_mul_le (by omega)
  have e2 : n / per < r + 1 ↔ n < (r + 1) * per := Int.ediv_lt_iff_lt_mul (by omega)
  rw [Int.add_mul] at e2
  constructor
  · rintro ⟨z1, z2⟩
    split at z2 <;> omega
  · rintro ⟨z1, z2⟩
    refine ⟨by omega, ?_⟩
    split <;> omega
theorem stays_in {T per first n : Int} {last : Option Int} {ss : List (Int × Int)} (hp : 1 ≤ per) : InS (metF T per first last 0 ss) n ↔ (0 ≤ n ∧ n < T) ∧ ∃ p, ss[(n / per).toNat]? = some p ∧ meetB first last p = true := by
  rw [metF_in]
  constructor
  · rintro ⟨k, s, e, c, z⟩
    obtain ⟨z1, z2⟩ := (rack_in hp).mp z
    have z0 : 0 ≤ n := by
      rcases Int.lt_or_le n 0 with y | y
      · have := Int.ediv_neg_of_neg_of_pos y (show 0 < per by omega)
        omega
      · exact y
    refine ⟨⟨z0, z1⟩, s, ?_, c⟩
    rw [z2, Nat.zero_add, Int.toNat_natCast]
    exact e
  · rintro ⟨⟨z0, z1⟩, p, e, c⟩
    refine ⟨(n / per).toNat, p, e, c, (rack_in hp).mpr ⟨z1, ?_⟩⟩
    rw [Nat.zero_add, Int.toNat_of_nonneg (Int.ediv_nonneg z0 (by omega))]
/-- a new list of a set of just these numbers -/
def RetS (H : Hp) (pr : Int → Prop) (m : Nat) (Q : V → Hp → Prop) : Prop := ∀ (l : Addr) (ws : List V) (rs : List (Int × Int)) H', H l = none → H' l = some (.lst ws) → Prs H' ws rs → Told pr rs → rs.length ≤ m → Same H H' → Q (.ref l) H'
/-! ### the program's -/
abbrev sCnt : Stmt := topS 7
theorem scCnt : FnScope ["tins", "line", "minute", "start", "long", "by", "span"] ["tins", "line", "minute"] (defScope sCnt) := ⟨rfl, rfl, rfl, by decide +kernel, rfl, by decide +kernel, by decide +kernel⟩
def spCnt : Sp := fun vs H Q _ => ∃ (g : Addr) (p : Str) (T st lo b m : Int), vs = [.int T, .ref g, .int m] ∧ H g = some (.tup [.str "line", .str p, .int st, .int lo, .int b]) ∧ (Pas.line p st lo b).Good T ∧ m.natAbs ≤ 2 ^ 250 ∧ Q (.int (cntF T st lo b m)) H
abbrev sOnLine : Stmt := topS 8
theorem scOnLine : FnScope ["tins", "line", "first", "last", "begin", "end"] ["tins", "line", "first", "last"] (defScope sOnLine) := ⟨rfl, rfl, rfl, by decide +kernel, rfl, by decide +kernel, by decide +kernel⟩
/-- minutes that aren't too far -/
def Near (first : Int) (last : Option Int) : Prop := first.natAbs < 2 ^ 250 ∧ ∀ l, last = some l → l.natAbs < 2 ^ 250
def spOnLine : Sp := fun vs H Q _ => ∃ (g : Addr) (p : Str) (T st lo b first : Int) (last : Option Int), vs = [.int T, .ref g, .int first, lastV last] ∧ H g = some (.tup [.str "line", .str p, .int st, .int lo, .int b]) ∧ (Pas.line p st lo b).Good T ∧ 0 ≤ T ∧ Near first last ∧
  RetS H (fun n => (0 ≤ n ∧ n < T) ∧ meetB first last (st + n * lo / b, st + n * lo / b) = true) 1 Q
abbrev sRack : Stmt := topS 9
theorem scRack : FnScope ["tins", "per", "rack"] ["tins", "per", "rack"] (defScope sRack) := ⟨rfl, rfl, rfl, by decide +kernel, rfl, by decide +kernel, by decide +kernel⟩
def spRack : Sp := fun vs H Q _ => ∃ (T per r : Int), vs = [.int T, .int per, .int r] ∧ per.natAbs < 2 ^ 400 ∧ r.natAbs < 2 ^ 400 ∧ ∀ p, H p = none → Q (.ref p) (upd H p (.tup [.int (rackP T per r).1, .int (rackP T per r).2]))
abbrev sStays : Stmt := topS 10
theorem scStays : FnScope ["tins", "racked", "first", "last", "per", "stays", "met", "rack", "begin", "end"] ["tins", "racked", "first", "last"] (defScope sStays) := ⟨rfl, rfl, rfl, by decide +kernel, rfl, by decide +kernel, by decide +kernel⟩
def spStays : Sp := fun vs H Q _ => ∃ (g s : Addr) (us : List V) (p : Str) (T per first : Int) (ss : List (Int × Int)) (last : Option Int), vs = [.int T, .ref g, .int first, lastV last] ∧ H g = some (.tup [.str "racks", .str p, .int per, .ref s]) ∧ SqH H s us ∧ Prs H us ss ∧ (Pas.racks p per ss).Good T ∧ T < 10 ^ 75 ∧
  RetS H (fun n => (0 ≤ n ∧ n < T) ∧ ∃ w, ss[(n / per).toNat]? = some w ∧ meetB first last w = true) 100 Q
abbrev sTinsAt : Stmt := topS 11
theorem scTinsAt : FnScope ["batch", "place", "first", "last", "passed"] ["batch", "place", "first", "last"] (defScope sTinsAt) := ⟨rfl, rfl, rfl, by decide +kernel, rfl, by decide +kernel, by decide +kernel⟩
def spTinsAt : Sp := fun vs H Q _ => ∃ (b : Addr) (mark pl : Str) (T first : Int) (ps : List Pas) (last : Option Int), vs = [.ref b, .str pl, .int first, lastV last] ∧ BatA H b mark T ps ∧ 1 ≤ T ∧ T < 10 ^ 75 ∧ (∀ p ∈ ps, p.Good T) ∧ Near first last ∧
  RetS H (TinP pl T ps first last) 100 Q
section
variable {K : PySem.W.Frag} {mg : Str → Option Value} {P : Program} {w : World} {base : Heap}
theorem ok_cnt {f : Addr} {fd : FuncData} {k : Nat} (F : Fun K "count_ahead" "count_ahead" sCnt f fd) (mn : mg "min" = none) : FnOk P w K mg base CX0 (k + 1) f fd ["tins", "line", "minute"] spCnt := by
  refine F.ok scCnt (fun vs H Q E h => ?_) (fun cdv A outer s H vs Q E hr h => ?_)
  · obtain ⟨g, p, T, st, lo, b, m, rfl, _⟩ := h
    rfl
  · obtain ⟨g, p, T, st, lo, b, m, rfl, eg, ⟨_, st0, st1, lo0, lo1, b0, b1⟩, hm, q⟩ := h
    refine ⟨_, pss_cons (ps_par3 rfl scCnt.nd (i := 3) (j := 4) (l := 5) rfl rfl rfl (by decide) (by decide) (by decide) rfl rfl rfl (pa_cons (pe_ix ix_tup (pv 1) pe_int (fun _ _ => rfl)) (pa_cons (pe_ix ix_tup (pv 1) pe_int (fun _ _ => rfl)) (pa_cons (pe_ix ix_tup (pv 1) pe_int (fun _ _ => rfl)) pa_nil))) (by rfl))
      (pss_cons (ps_if (pt_cmpR op_le (pv 2) (pv 3) (nomark _)) (pss_one (ps_ret pe_int)) pss_nil)
      (pss_cons (ps_if (pt_cmpR op_eq (pv 4) pe_int (nomark _)) (pss_one (ps_ret (pv 0))) pss_nil)
      (pss_cons (ps_set (i := 6) scCnt.nd rfl (.inl rfl) (pe_op op_mulW (pe_op op_sub (pv 2) (pv 3)) (pv 5)))
      (pss_one (ps_ret (pe_callB (call_min2 rfl) (by rfl) mn (by decide +kernel) (pa_cons (pv 0) (pa_cons (pe_op op_fdivW (pe_op op_sub (pe_op op_add (pv 6) (pv 4)) pe_int) (pv 4)) pa_nil)))))))), ?_⟩
    refine ⟨_, rfl, g, _, 2, .int st, rfl, rfl, .inl (.inl eg), atI_nat (j := 2) rfl, _, rfl, g, _, 3, .int lo, rfl, rfl, .inl (.inl eg), atI_nat (j := 3) rfl, _, rfl, g, _, 4, .int b, rfl, rfl, .inl (.inl eg), atI_nat (j := 4) rfl, _, _, _, rfl, ?_⟩
    unfold cntF at q
    refine ⟨_, rfl, _, rfl, m, st, rfl, rfl, _, rfl, ite2 (fun c => ?_) (fun c => ?_)⟩
    · rw [if_pos (of_decide_eq_true c)] at q
      exact q
    · rw [if_neg (fun z => c (decide_eq_true z))] at q
      refine ⟨_, rfl, rfl, _, rfl, ite2 (fun c2 => ?_) (fun c2 => ?_)⟩
      · rw [if_pos (V.int.inj (of_decide_eq_true c2))] at q
        exact ⟨_, rfl, q⟩
      · have hlo : ¬ lo = 0 := fun z => c2 (decide_eq_true (congrArg V.int z))
        rw [if_neg hlo] at q
        have z1 := log_lt (i := m - st) (by omega)
        have z2 := log_lt (i := b) (by omega)
        refine ⟨_, rfl, _, rfl, m, st, rfl, rfl, _, rfl, m - st, b, rfl, rfl, (by show (m - st).natAbs.log2 + b.natAbs.log2 < 1000000; omega), ?_⟩
        refine ⟨_, rfl, _, rfl, _, rfl, _, lo, rfl, rfl, _, 1, rfl, rfl, _, rfl, _, lo, rfl, rfl, ⟨by omega, Nat.lt_trans (log_lt (by omega)) (by decide)⟩, T, _, rfl, ?_⟩
        exact q
theorem ok_onLine {f : Addr} {fd : FuncData} (F : Fun K "tins_on_line" "tins_on_line" sOnLine f fd) (CC : Cal P w K mg base 1 "count_ahead" ["tins", "line", "minute"] spCnt) (CS : Cal P w K mg base 1 "set_of" ["pairs"] (spSetOf K)) : FnOk P w K mg base CX0 2 f fd ["tins", "line", "first", "last"] spOnLine := by
  refine F.ok scOnLine (fun vs H Q E h => ?_) (fun cdv A outer s H vs Q E hr h => ?_)
  · obtain ⟨g, p, T, st, lo, b, first, last, rfl, _⟩ := h
    rfl
  · obtain ⟨g, p, T, st, lo, b, first, last, rfl, eg, hg, hT, ⟨n1, n2⟩, q⟩ := h
    refine ⟨_, pss_cons (ps_set (i := 4) scOnLine.nd rfl (.inl rfl) (pe_own CC hr (by rfl) (pa_cons (pv 0) (pa_cons (pv 1) (pa_cons (pv 2) pa_nil)))))
      (pss_cons (ps_set (i := 5) scOnLine.nd rfl (.inl rfl) (pe_mid (pe_ifExp (pt_cmpR op_isN (pv 3) pe_non (nomark _)) (pv 0) (pe_own CC hr (by rfl) (pa_cons (pv 0) (pa_cons (pv 1) (pa_cons (pe_op op_add (pv 3) pe_int) pa_nil)))))))
      (pss_one (ps_ret (pe_own CS hr (by rfl) (pa_cons (pe_lst (pa_cons (pe_tup (pa_cons (pv 4) (pa_cons (pe_op op_sub (pv 5) pe_int) pa_nil))) pa_nil)) pa_nil))))), ?_⟩
    refine ⟨_, rfl, _, rfl, _, rfl, g, p, T, st, lo, b, first, rfl, eg, hg, by omega, ?_⟩
    refine ⟨fun v H' => v = .int (endF T st lo b last) ∧ H' = H, ?_, ?_⟩
    · cases last with
      | none => exact ⟨_, rfl, rfl, true, congrArg V.bl (decide_eq_true rfl), iteT ⟨_, rfl, rfl, rfl⟩⟩
      | some l =>
        have := n2 l rfl
        refine ⟨_, rfl, rfl, false, congrArg V.bl (decide_eq_false (fun z => nomatch z)), iteF ?_⟩
        exact ⟨_, rfl, _, rfl, _, rfl, l, 1, rfl, rfl, g, p, T, st, lo, b, l + 1, rfl, eg, hg, by omega, rfl, rfl⟩
    · rintro v H' ⟨rfl, rfl⟩
      refine ⟨_, rfl, _, rfl, _, _, rfl, rfl, (by show 2 ≤ sizeLine; decide), fun t nt => ⟨(by show 1 ≤ sizeLine; decide), fun l nl => ?_⟩⟩
      have s1 := same_upd (o := .tup [.int (cntF T st lo b first), .int (endF T st lo b last - 1)]) nt
      have s2 := same_upd (o := .lst [.ref t]) nl
      have et := s2 _ _ (upd_same (H := H') (a := t) (o := .tup [.int (cntF T st lo b first), .int (endF T st lo b last - 1)]))
      refine ⟨l, [.ref t], [(cntF T st lo b first, endF T st lo b last - 1)], rfl, Sq.list upd_same, GP.Prs.snoc GP.Prs.nil et, (by show 1 ≤ 900; decide), fun l2 ws rs H2 n2 e2 hws hset s3 => ?_⟩
      exact q l2 ws rs H2 ((s1.trans s2).free n2) e2 hws (hset.told.cong fun n => line_in hT hg.2.2.2.1 hg.2.2.2.2.2.1) hset.len ((s1.trans s2).trans s3)
theorem ok_rack {f : Addr} {fd : FuncData} {k : Nat} (F : Fun K "tins_of_rack" "tins_of_rack" sRack f fd) (mn : mg "min" = none) : FnOk P w K mg base CX0 (k + 1) f fd ["tins", "per", "rack"] spRack := by
  refine F.ok scRack (fun vs H Q E h => ?_) (fun cdv A outer s H vs Q E hr h => ?_)
  · obtain ⟨T, per, r, rfl, _⟩ := h
    rfl
  · obtain ⟨T, per, r, rfl, hp, hr', q⟩ := h
    refine ⟨_, pss_one (ps_ret (pe_tup (pa_cons (pe_op op_mulW (pv 2) (pv 1)) (pa_cons (pe_op op_sub (pe_callB (call_min2 rfl) (by rfl) mn (by decide +kernel) (pa_cons (pe_op op_add (pe_op op_mulW (pv 2) (pv 1)) (pv 1)) (pa_cons (pv 0) pa_nil))) pe_int) pa_nil)))), ?_⟩
    have z1 := log_lt hp
    have z2 := log_lt hr'
    have hc : CMulW r per := by show r.natAbs.log2 + per.natAbs.log2 < 1000000; omega
    refine ⟨_, rfl, _, rfl, r, per, rfl, rfl, hc, _, rfl, _, rfl, r, per, rfl, rfl, hc, _, rfl, _, per, rfl, rfl, _, rfl, _, T, rfl, _, 1, rfl, rfl, (by show 2 ≤ sizeLine; decide), fun p np => ?_⟩
    exact q p np
theorem ok_stays {f : Addr} {fd : FuncData} (F : Fun K "tins_in_stays" "tins_in_stays" sStays f fd) (CR : Cal P w K mg base 1 "tins_of_rack" ["tins", "per", "rack"] spRack) (CS : Cal P w K mg base 1 "set_of" ["pairs"] (spSetOf K)) (me : mg "enumerate" = none) : FnOk P w K mg base CX0 2 f fd ["tins", "racked", "first", "last"] spStays := by
  refine F.ok scStays (fun vs H Q E h => ?_) (fun cdv A outer s H vs Q E hr h => ?_)
  · obtain ⟨g, s, us, p, T, per, first, ss, last, rfl, _⟩ := h
    rfl
  · obtain ⟨g, s, us, p, T, per, first, ss, last, rfl, eg, hs, hus, ⟨_, p0, p1, p2, p3, _⟩, hT, q⟩ := h
    refine ⟨_, pss_cons (ps_par rfl scStays.nd (i := 4) (j := 5) rfl rfl (by decide) rfl rfl (pa_cons (pe_ix ix_tup (pv 1) pe_int (fun _ _ => rfl)) (pa_cons (pe_ix ix_tup (pv 1) pe_int (fun _ _ => rfl)) pa_nil)) (by rfl))
      (pss_cons (ps_set (i := 6) scStays.nd rfl (.inl rfl) (pe_lst pa_nil))
      (pss_cons (ps_for PassesOwn.never rfl (pi_enS (by rfl) me (pa_cons (pv 5) pa_nil)) (pg_tup rfl (pgs_cons (pg_name (i := 7) scStays.nd rfl (.inl rfl)) (pgs_cons (pg_tup rfl (pgs_cons (pg_name (i := 8) scStays.nd rfl (.inl rfl)) (pgs_cons (pg_name (i := 9) scStays.nd rfl (.inl rfl)) pgs_nil))) pgs_nil)))
        (pss_one (ps_if (PW.pt (pw_and (pt_cmpR op_le (pv 2) (pv 9) (nomark _)) (pw_and1 (PW.pt (pw_or (pt_cmpR op_isN (pv 3) pe_non (nomark _)) (pw_or1 (pt_cmpR op_le (pv 8) (pv 3) (nomark _))))))))
          (pss_one (ps_expr (pe_bm PySem.F.plainAttrs_list PySem.F.slot_list_append PySem.F.type_list_append mt_append (pv 6) (pa_cons (pe_own CR hr (by rfl) (pa_cons (pv 0) (pa_cons (pv 4) (pa_cons (pv 7) pa_nil)))) pa_nil)))) pss_nil)))
      (pss_one (ps_ret (pe_own CS hr (by rfl) (pa_cons (pv 6) pa_nil)))))), ?_⟩
    refine ⟨_, rfl, g, _, 2, .int per, rfl, rfl, .inl (.inl eg), atI_nat (j := 2) rfl, _, rfl, g, _, 3, .ref s, rfl, rfl, .inl (.inl eg), atI_nat (j := 3) rfl, _, _, rfl, ?_⟩
    refine ⟨Nat.zero_le _, fun mt nmt => ?_⟩
    have s1 := same_upd (o := .lst []) nmt
    refine ⟨_, rfl, s, rfl, for_enS (xs := us) hs.sq s1 (fun i σ Hx => ∃ (ms : List V) (y7 y8 y9 : Option V), σ = [some (.int T), some (.ref g), some (.int first), some (lastV last), some (.int per), some (.ref s), some (.ref mt), y7, y8, y9] ∧ Same H Hx ∧ Hx mt = some (.lst ms) ∧ Prs Hx ms (metF T per first last 0 (ss.take i)))
      ⟨[], _, _, _, rfl, s1, upd_same, Prs.nil⟩ (fun i σ Hx hP => ?_) (fun i x t σ Hx hx hP nt => ?_) (fun σ Hx hP => ?_)⟩
    · obtain ⟨_, _, _, _, rfl, sx, _⟩ := hP
      exact sx
    · obtain ⟨ms, y7, y8, y9, rfl, sx, emt, hms⟩ := hP
      obtain ⟨w, tw, ew, rfl, etw⟩ := prs_at (hus.same sx) hx
      have hi : i < ss.length := (List.getElem?_eq_some_iff.mp ew).1
      have st := same_upd (o := .tup [.int (i : Nat), .ref tw]) nt
      have S := sx.trans st
      have emt' := st _ _ emt
      have hms' := hms.same st
      have etake : ss.take (i + 1) = ss.take i ++ [w] := by rw [List.take_add_one, ew]; rfl
      have etl : (ss.take i).length = i := by rw [List.length_take]; omega
      refine ⟨t, _, rfl, .inl (.inl upd_same), rfl, _, _, rfl, _, _, rfl, tw, _, rfl, .inl (.inl (st _ _ etw)), rfl, _, _, rfl, _, _, rfl, rfl, rfl, ?_⟩
      -- what follows where it meets, where it doesn't
      have yes : meetB first last w = true → (tDrop (tBM K "list" rAppend (tVar 6) (tCons (tCall spRack [] E0 (tCons (tVar 0) (tCons (tVar 4) (tCons (tVar 7) tNil)))) tNil))) { nx := fun σ Hx => ∃ (ms : List V) (y7 y8 y9 : Option V), σ = [some (.int T), some (.ref g), some (.int first), some (lastV last), some (.int per), some (.ref s), some (.ref mt), y7, y8, y9] ∧ Same H Hx ∧ Hx mt = some (.lst ms) ∧ Prs Hx ms (metF T per first last 0 (ss.take (i + 1))), rt := fun _ _ => False } [some (.int T), some (.ref g), some (.int first), some (lastV last), some (.int per), some (.ref s), some (.ref mt), some (.int (i : Nat)), some (.int w.1), some (.int w.2)] (upd Hx t (.tup [.int (i : Nat), .ref tw])) := by
        intro c
        refine ⟨_, rfl, .inl ⟨rfl, _, SqL.of emt'⟩, _, rfl, _, rfl, _, rfl, T, per, (i : Int), rfl, by omega, by omega, fun a na => ?_⟩
        have sa := same_upd (o := .tup [.int (rackP T per (i : Int)).1, .int (rackP T per (i : Int)).2]) na
        have ema := sa _ _ emt'
        refine ⟨mt, _, _, rfl, rfl, ema, small1000 (by rw [hms.1]; have := metF_len (T := T) (per := per) (first := first) (last := last) (ss.take i) 0; omega), ?_⟩
        refine ⟨ms ++ [.ref a], _, _, _, rfl, fun b o e => ?_, upd_same, ?_⟩
        · rw [upd_ne (ne_of_none e nmt)]
          exact sa _ _ (S b o e)
        · rw [etake, metF_snoc, if_pos c, Nat.zero_add, etl]
          exact ((hms'.same sa).snoc upd_same).upd_lst ema
      have no : ¬ meetB first last w = true → ∃ (ms : List V) (z7 z8 z9 : Option V), [some (V.int T), some (.ref g), some (.int first), some (lastV last), some (.int per), some (.ref s), some (.ref mt), some (.int (i : Nat)), some (.int w.1), some (.int w.2)] = [some (.int T), some (.ref g), some (.int first), some (lastV last), some (.int per), some (.ref s), some (.ref mt), z7, z8, z9] ∧ Same H (upd Hx t (.tup [.int (i : Nat), .ref tw])) ∧ upd Hx t (.tup [.int (i : Nat), .ref tw]) mt = some (.lst ms) ∧ Prs (upd Hx t (.tup [.int (i : Nat), .ref tw])) ms (metF T per first last 0 (ss.take (i + 1))) := fun c => ⟨ms, _, _, _, rfl, S, emt', by rw [etake, metF_snoc, if_neg c, List.append_nil]; exact hms'⟩
      refine ⟨_, rfl, _, rfl, first, w.2, rfl, rfl, _, rfl, ite2 (fun c => ?_) (fun c => ?_)⟩
      · have c' := of_decide_eq_true c
        cases last with
        | none => exact ⟨_, rfl, rfl, true, congrArg V.bl (decide_eq_true rfl), iteT (iteT (yes (by unfold meetB; rw [decide_eq_true c']; rfl)))⟩
        | some l =>
          refine ⟨_, rfl, rfl, false, congrArg V.bl (decide_eq_false (fun z => nomatch z)), iteF ?_⟩
          refine ⟨_, rfl, _, rfl, w.1, l, rfl, rfl, _, rfl, ite2 (fun c2 => ?_) (fun c2 => ?_)⟩
          · exact yes (by unfold meetB; rw [decide_eq_true c', Bool.true_and]; exact c2)
          · exact no (by unfold meetB; rw [decide_eq_true c', Bool.true_and]; exact c2)
      · exact iteF (no fun z => c (Bool.and_eq_true_iff.mp z).1)
    · obtain ⟨ms, y7, y8, y9, rfl, sx, emt, hms⟩ := hP
      rw [hus.1, List.take_length] at hms
      have hl := metF_len (T := T) (per := per) (first := first) (last := last) ss 0
      refine ⟨_, rfl, mt, ms, _, rfl, Sq.list emt, hms, by omega, fun l ws rs H' nl el hws hset s' => ?_⟩
      exact q l ws rs H' (sx.free nl) el hws (hset.told.cong fun n => stays_in p0) (by have := hset.len; omega) (sx.trans s')
theorem ok_tinsAt {f : Addr} {fd : FuncData} (F : Fun K "tins_at" "tins_at" sTinsAt f fd) (CA : Cal P w K mg base 1 "pass_at" ["batch", "place"] spPassAt) (CL : Cal P w K mg base 2 "tins_on_line" ["tins", "line", "first", "last"] spOnLine) (CT : Cal P w K mg base 2 "tins_in_stays" ["tins", "racked", "first", "last"] spStays) (mL : ∃ u, mg "LINE" = some u ∧ RelV (.str "line") u) : FnOk P w K mg base CX0 3 f fd ["batch", "place", "first", "last"] spTinsAt := by
  refine F.ok scTinsAt (fun vs H Q E h => ?_) (fun cdv A outer s H vs Q E hr h => ?_)
  · obtain ⟨b, mark, pl, T, first, ps, last, rfl, _⟩ := h
    rfl
  · obtain ⟨b, mark, pl, T, first, ps, last, rfl, hB, hT1, hT2, hgd, hn, q⟩ := h
    obtain ⟨uL, hL1, hL2⟩ := mL
    have hr1 := hr.mono (show 1 ≤ 2 by decide)
    refine ⟨_, pss_cons (ps_set (i := 4) scTinsAt.nd rfl (.inl rfl) (pe_own CA hr1 (by rfl) (pa_cons (pv 0) (pa_cons (pv 1) pa_nil))))
      (Evl.pss_cut (ps_if (PW.pt (pw_or (pt_cmpR op_isN (pv 4) pe_non (nomark _)) (pw_or1 (PW.pt (pw_and (pt_cmpR op_notN (pv 3) pe_non (nomark _)) (pw_and1 (pt_cmpR op_gt (pv 2) (pv 3) (nomark _)))))))) (pss_one (ps_ret (pe_lst pa_nil))) pss_nil)
      (pss_cons (ps_if (pt_cmpR op_eq (pe_ix ix_tup (pv 4) pe_int (fun _ _ => rfl)) (pe_glob (v := .str "line") (by rfl) hL1 hL2) (nomark _))
        (pss_one (ps_ret (pe_own CL hr (by rfl) (pa_cons (pe_ix ix_tup (pv 0) pe_int (fun _ _ => rfl)) (pa_cons (pv 4) (pa_cons (pv 2) (pa_cons (pv 3) pa_nil))))))) pss_nil)
      (pss_one (ps_ret (pe_own CT hr (by rfl) (pa_cons (pe_ix ix_tup (pv 0) pe_int (fun _ _ => rfl)) (pa_cons (pv 4) (pa_cons (pv 2) (pa_cons (pv 3) pa_nil))))))))), ?_⟩
    refine ⟨_, rfl, _, rfl, b, mark, pl, T, ps, rfl, hB, fun v hv => ?_⟩
    have none_ : (∀ n, ¬ TinP pl T ps first last n) → (tRet (tLst tNil)) { nx := fun _ H' => Q .non H', rt := Q } [some (.ref b), some (.str pl), some (.int first), some (lastV last), some v] H := fun no => by
      refine ⟨Nat.zero_le _, fun l nl => ?_⟩
      exact q l [] [] _ nl upd_same Prs.nil ⟨⟨0, True.intro⟩, fun n => ⟨fun z => absurd z inS_nil, fun z => absurd z (no n)⟩⟩ (Nat.zero_le _) (same_upd nl)
    refine ⟨fun σ' H' => σ' = [some (.ref b), some (.str pl), some (.int first), some (lastV last), some v] ∧ H' = H ∧ ¬ Over first last ∧ ∃ p, passF pl ps = some p, ?_, ?_⟩
    · cases hp : passF pl ps with
      | none =>
        rw [hp] at hv
        cases (show v = .non from hv)
        refine ⟨_, rfl, rfl, true, congrArg V.bl (decide_eq_true rfl), iteT (iteT ?_)⟩
        refine none_ fun n => ?_
        rintro ⟨_, _, p, e, _⟩
        rw [win_eq, hp] at e
        cases e
      | some p =>
        rw [hp] at hv
        obtain ⟨gv, rfl⟩ := PasV.ref (show PasV H v p from hv)
        refine ⟨_, rfl, rfl, false, congrArg V.bl (decide_eq_false (fun z => nomatch z)), iteF ?_⟩
        cases last with
        | none => exact ⟨_, rfl, rfl, false, congrArg V.bl (congrArg (!·) (decide_eq_true (show lastV none = V.non from rfl))), iteF (iteF ⟨rfl, rfl, (fun ⟨_, z, _⟩ => nomatch z), p, rfl⟩)⟩
        | some l =>
          refine ⟨_, rfl, rfl, true, congrArg V.bl (congrArg (!·) (decide_eq_false (show ¬ lastV (some l) = V.non from fun z => nomatch z))), iteT ?_⟩
          refine ⟨_, rfl, _, rfl, first, l, rfl, rfl, _, rfl, ite2 (fun c => ?_) (fun c => ?_)⟩
          · have c' := of_decide_eq_true c
            exact none_ fun n z => z.2.1 ⟨l, rfl, c'⟩
          · exact ⟨rfl, rfl, (fun ⟨l', z, z2⟩ => c (decide_eq_true (by cases z; exact z2))), p, rfl⟩
    · rintro σ' H' ⟨rfl, rfl, ov, p, hp⟩
      rw [hp] at hv
      have hg := hgd p (passF_mem hp)
      have hv' : PasV H' v p := hv
      obtain ⟨ab, vb, eb, hab, hvb⟩ := hB
      cases p with
      | line p st lo by_ =>
        obtain ⟨g, rfl, eg⟩ := hv'
        refine ⟨_, rfl, g, _, 0, .str "line", rfl, rfl, .inl (.inl eg), atI_nat (j := 0) rfl, rfl, true, congrArg V.bl (decide_eq_true rfl), iteT ?_⟩
        refine ⟨_, rfl, b, _, 1, .int T, rfl, rfl, .inl (.inl eb), atI_nat (j := 1) rfl, _, rfl, _, rfl, _, rfl, g, p, T, st, lo, by_, first, last, rfl, eg, hg, by omega, hn, fun l ws rs H2 nl el hws ht hl s2 => ?_⟩
        refine q l ws rs H2 nl el hws (ht.cong fun n => ?_) (by omega) s2
        unfold TinP
        rw [win_eq, hp]
        exact ⟨fun z => ⟨z.1, ov, _, rfl, z.2⟩, fun ⟨z1, _, w, e, z2⟩ => ⟨z1, by cases e; exact z2⟩⟩
      | racks p per ss =>
        obtain ⟨g, sy, us, rfl, eg, hsy, hus⟩ := hv'
        have hline : decide (V.str "racks" = V.str "line") = false := by decide +kernel
        refine ⟨_, rfl, g, _, 0, .str "racks", rfl, rfl, .inl (.inl eg), atI_nat (j := 0) rfl, rfl, false, congrArg V.bl hline, iteF ?_⟩
        refine ⟨_, rfl, b, _, 1, .int T, rfl, rfl, .inl (.inl eb), atI_nat (j := 1) rfl, _, rfl, _, rfl, _, rfl, g, sy, us, p, T, per, first, ss, last, rfl, eg, hsy, hus, hg, hT2, fun l ws rs H2 nl el hws ht hl s2 => ?_⟩
        refine q l ws rs H2 nl el hws (ht.cong fun n => ?_) hl s2
        unfold TinP
        rw [win_eq, hp]
        exact ⟨fun ⟨z1, w, e, z2⟩ => ⟨z1, ov, w, e, z2⟩, fun ⟨z1, _, w, e, z2⟩ => ⟨z1, w, e, z2⟩⟩
end
end Old

/-! ### set_of, of many pairs -/
theorem smallW {n : Nat} (h : n < 100000) : n < sizeLine := Nat.lt_of_lt_of_le h (by decide)
def spSetOfW (K : PySem.W.Frag) : Sp := fun vs H Q _ => ∃ (a : Addr) (us : List V) (ps : List (Int × Int)), vs = [.ref a] ∧ Sq K H a us ∧ Prs H us ps ∧ ps.length ≤ 90000 ∧
  ∀ (l : Addr) (ws : List V) (rs : List (Int × Int)) H', H l = none → H' l = some (.lst ws) → Prs H' ws rs → SetLike ps rs → Same H H' → Q (.ref l) H'
section
variable {K : PySem.W.Frag} {mg : Str → Option Value} {P : Program} {w : World} {base : Heap}
theorem ok_setofW {f : Addr} {fd : FuncData} {k : Nat} (F : Fun K "set_of" "set_of" sSetOf f fd) (mso : mg "sorted" = none) (mx : mg "max" = none) : FnOk P w K mg base CX0 (k + 1) f fd ["pairs"] (spSetOfW K) := by
  refine F.ok scSetOf (fun vs H Q E h => ?_) (fun cdv A outer s H vs Q E hr h => ?_)
  · obtain ⟨a, us, ps, rfl, _⟩ := h
    rfl
  · obtain ⟨a, us, ps, rfl, hq, hp, hz, q⟩ := h
    refine ⟨_, pss_cons (ps_set (i := 1) scSetOf.nd rfl (.inl rfl) (pe_lst pa_nil))
      (pss_cons (ps_for PassesOwn.never rfl (pi_list (pe_callB cr_sortedPO (by rfl) mso (by decide +kernel) (pa_cons (pe_lc (own := [("pair", 6)]) (g := gName 6) (tt := tTest (tOp (rI0 fun i j => .bl (decide (i ≤ j))) (tOp (rIxT K) (tVar 6) (tC (.int 0))) (tOp (rIxT K) (tVar 6) (tC (.int 1))))) rfl scSetOf.nd (pi_seq (pv 0))
          (blkOk_by (own := [("pair", 6)]) (N := ["pairs", "merged", "first", "last", "low", "high", "pair"]) (sc := defScope sSetOf) (by decide +kernel))
          (fun _ _ _ _ _ => pg_name (i := 6) scSetOf.nd rfl (.inl rfl)) (fun _ _ _ _ _ => pts_one (pt_cmpR op_le (pe_ix ix_tup (pv 6) pe_int (fun _ _ => rfl)) (pe_ix ix_tup (pv 6) pe_int (fun _ _ => rfl)) (nomark _))) (fun _ _ _ _ _ => pv 6)) pa_nil)))
        (pg_tup rfl (pgs_cons (pg_name (i := 2) scSetOf.nd rfl (.inl rfl)) (pgs_cons (pg_name (i := 3) scSetOf.nd rfl (.inl rfl)) pgs_nil)))
        (pss_one (ps_if (PW.pt (pw_and (pt_truth (pv 1) (by intro _; rfl)) (pw_and1 (pt_cmpR op_le (pv 2) (pe_op op_add (pe_ix ix_tup (pe_ix ix_list (pv 1) (pe_un un_neg pe_int) (fun _ _ => rfl)) pe_int (fun _ _ => rfl)) pe_int) (nomark _)))))
          (pss_cons (ps_asg (pe_ix ix_list (pv 1) (pe_un un_neg pe_int) (fun _ _ => rfl)) (pg_tup rfl (pgs_cons (pg_name (i := 4) scSetOf.nd rfl (.inl rfl)) (pgs_cons (pg_name (i := 5) scSetOf.nd rfl (.inl rfl)) pgs_nil))))
          (pss_one (ps_asg (pe_tup (pa_cons (pv 4) (pa_cons (pe_callB (call_max2 rfl) (by rfl) mx (by decide +kernel) (pa_cons (pv 5) (pa_cons (pv 3) pa_nil))) pa_nil))) (pg_sub (pv 1) (pe_un un_neg pe_int) set_list))))
          (pss_one (ps_expr (pe_bm PySem.F.plainAttrs_list PySem.F.slot_list_append PySem.F.type_list_append mt_append (pv 1) (pa_cons (pe_tup (pa_cons (pv 2) (pa_cons (pv 3) pa_nil))) pa_nil)))))))
      (pss_one (ps_ret (pv 1)))), ?_⟩
    -- merged = []
    refine ⟨Nat.zero_le _, fun mg' nm => ?_⟩
    have s1 := same_upd (o := .lst []) nm
    have em1 : upd H mg' (.lst []) mg' = some (.lst []) := upd_same
    revert s1 em1
    generalize upd H mg' (.lst []) = H1
    intro s1 em1
    -- [pair for pair in pairs if ..]
    refine ⟨.ref a, rfl, a, rfl, lc_seq (xs := us) (hq.same s1) (fun D i H' => Same H1 H' ∧ ∃ ys, H' D = some (.lst ys) ∧ Prs H' ys ((ps.take i).filter fun p => decide (p.1 ≤ p.2)) ∧ ys.length ≤ i) (fun D nD => ⟨same_upd nD, [], upd_same, Prs.nil, Nat.le_refl _⟩)
      (fun D i H' nD hP => SqTo.same hP.1) (fun D i x H' nD hx hP => ?_) (fun D H2 nD hP => ?_)⟩
    · obtain ⟨sm, ys, eD, hys, hyl⟩ := hP
      obtain ⟨p, T, ep, rfl, eT⟩ := prs_at hp hx
      have hi : i < us.length := (List.getElem?_eq_some_iff.mp hx).1
      rw [hp.1] at hi
      have eT' := sm _ _ (s1 _ _ eT)
      refine ⟨rfl, _, rfl, T, _, 0, .int p.1, rfl, rfl, .inl (.inl eT'), atI_nat (j := 0) rfl, _, rfl, T, _, 1, .int p.2, rfl, rfl, .inl (.inl eT'), atI_nat (j := 1) rfl, p.1, p.2, rfl, rfl, _, rfl, ?_⟩
      have etake : (ps.take (i + 1)).filter (fun p => decide (p.1 ≤ p.2)) = (ps.take i).filter (fun p => decide (p.1 ≤ p.2)) ++ (if p.1 ≤ p.2 then [p] else []) := by
        rw [List.take_add_one, ep, List.filter_append]
        by_cases c : p.1 ≤ p.2
        · rw [if_pos c]; simp [c]
        · rw [if_neg c]; simp [c]
      refine ite2 (fun c => ?_) (fun c => ?_)
      · have c' := of_decide_eq_true c
        refine ⟨_, rfl, ys, eD, smallW (by omega), fun b o e => ?_, _, upd_same, ?_, by rw [List.length_append]; show ys.length + 1 ≤ i + 1; omega⟩
        · rw [upd_ne (ne_of_none e nD)]
          exact sm b o e
        · rw [etake, if_pos c']
          exact (hys.snoc eT').upd_lst eD
      · have c' : ¬ p.1 ≤ p.2 := fun z => c (decide_eq_true z)
        refine ⟨sm, ys, eD, ?_, by omega⟩
        rw [etake, if_neg c', List.append_nil]
        exact hys
    · -- sorted
      obtain ⟨sm, ys, eD, hys, hyl⟩ := hP
      rw [hp.1, List.take_length] at hys
      refine ⟨D, ys, pairOf H2, rfl, SqL.of eD, fun x hx => ?_, fun zs g srt stb ng => ?_⟩
      · obtain ⟨i, hi, e⟩ := List.getElem_of_mem hx
        obtain ⟨p, T, _, rfl, eT⟩ := prs_at hys (by rw [List.getElem?_eq_getElem hi, e])
        exact ⟨T, rfl, by rw [pairOf_at eT]; exact eT⟩
      have sg := same_upd (o := .lst zs) ng
      have eg : upd H2 g (.lst zs) g = some (.lst zs) := upd_same
      have s3 : Same H (upd H2 g (.lst zs)) := (s1.trans sm).trans sg
      have em3 := sg _ _ (sm _ _ em1)
      -- the pairs of zs
      have each : ∀ x ∈ zs, ∃ T, x = .ref T ∧ H2 T = some (.tup [.int (pairOf H2 x).1, .int (pairOf H2 x).2]) := fun x hx => by
        obtain ⟨i, hi, e⟩ := List.getElem_of_mem (stb.perm.mem_iff.mp hx)
        obtain ⟨p, T, _, rfl, eT⟩ := prs_at hys (by rw [List.getElem?_eq_getElem hi, e])
        exact ⟨T, rfl, by rw [pairOf_at eT]; exact eT⟩
      have hzs : Prs H2 zs (zs.map (pairOf H2)) := ⟨by rw [List.length_map], fun i p e => by
        rw [List.getElem?_map] at e
        cases h : zs[i]? with
        | none => rw [h] at e; cases e
        | some x =>
          rw [h] at e
          cases e
          obtain ⟨T, rfl, eT⟩ := each x (List.mem_of_getElem? h)
          exact ⟨T, rfl, eT⟩⟩
      have hmap : ys.map (pairOf H2) = ps.filter fun p => decide (p.1 ≤ p.2) := by
        refine List.ext_getElem? fun i => ?_
        rw [List.getElem?_map]
        cases h : ys[i]? with
        | none =>
          have : (ps.filter fun p => decide (p.1 ≤ p.2))[i]? = none := by
            rw [List.getElem?_eq_none_iff] at h ⊢
            rw [← hys.1]
            exact h
          rw [this]
          rfl
        | some x =>
          obtain ⟨p, T, ep, rfl, eT⟩ := prs_at hys h
          rw [ep]
          show some (pairOf H2 (.ref T)) = some p
          rw [pairOf_at eT]
      have hperm : (zs.map (pairOf H2)).Perm (ps.filter fun p => decide (p.1 ≤ p.2)) := hmap ▸ stb.perm.map (pairOf H2)
      have hle : ∀ p ∈ zs.map (pairOf H2), p.1 ≤ p.2 := fun p hp' => by
        have := hperm.mem_iff.mp hp'
        exact of_decide_eq_true (List.mem_filter.mp this).2
      have hord : (zs.map (pairOf H2)).Pairwise fun x y => x.1 ≤ y.1 := by
        rw [List.pairwise_map]
        refine srt.imp fun {x y} h => ?_
        have := SrtO.lexB_no.mp h
        omega
      have hzl : zs.length ≤ 90000 := by
        rw [stb.perm.length_eq, hys.1]
        exact Nat.le_trans (List.length_filter_le _ _) hz
      revert hzs hperm hle hord
      generalize zs.map (pairOf H2) = qs
      intro hzs hperm hle hord
      have hzs3 := hzs.same sg
      revert eg s3 em3 hzs3
      generalize upd H2 g (.lst zs) = H3
      intro eg s3 em3 hzs3
      have ngH : H g = none := (s1.trans sm).free ng
      have nmg : mg' ≠ g := ne_of_none (sm _ _ em1) ng
      -- the merging
      refine ⟨g, rfl, ⟨_, SqL.of eg⟩, for_list (xs := zs) (fun i σ H4 => ∃ (ms : List V) (rs : List (Int × Int)) (y2 y3 y4 y5 y6 : Option V), σ = [some (.ref a), some (.ref mg'), y2, y3, y4, y5, y6] ∧ Same H H4 ∧ H4 g = some (.lst zs) ∧ Prs H4 zs qs ∧ H4 mg' = some (.lst ms) ∧ Prs H4 ms rs ∧ Mrg (qs.take i) rs)
        ⟨[], [], _, _, _, _, _, rfl, s3, eg, hzs3, em3, Prs.nil, Mrg.nil⟩ (fun i σ H4 _ hP => ?_) (fun i x σ H4 hx hP => ?_) (fun σ H4 hP => ?_)⟩
      · obtain ⟨_, _, _, _, _, _, _, rfl, _, e, _⟩ := hP
        exact SqL.of e
      · obtain ⟨ms, rs, y2, y3, y4, y5, y6, rfl, sm4, eg4, hz4, em4, hms, m⟩ := hP
        obtain ⟨p, T, ep, rfl, eT⟩ := prs_at hz4 hx
        have hi : i < qs.length := (List.getElem?_eq_some_iff.mp ep).1
        have hp12 : p.1 ≤ p.2 := hle p (List.mem_of_getElem? ep)
        have ord : ∀ q ∈ qs.take i, q.1 ≤ p.1 := fun q hq' => by
          obtain ⟨j, hj, e⟩ := List.getElem_of_mem hq'
          rw [List.length_take] at hj
          rw [List.getElem_take] at e
          obtain ⟨_, e2⟩ := List.getElem?_eq_some_iff.mp ep
          rw [← e, ← e2]
          exact List.pairwise_iff_getElem.mp hord j i (by omega) hi (by omega)
        have etake : qs.take (i + 1) = qs.take i ++ [p] := by rw [List.take_add_one, ep]; rfl
        have hmsl : ms.length ≤ 90000 := by
          have := m.len
          rw [List.length_take] at this
          have := hzs.1
          rw [hms.1]
          omega
        refine ⟨T, _, rfl, .inl (.inl eT), rfl, _, _, rfl, _, _, rfl, rfl, ?_⟩
        -- what a new tuple and a change of merged leave
        have grow : ∀ (T2 : Addr) (p2 : Int × Int) (ms2 : List V) (rs2 : List (Int × Int)), H4 T2 = none → Prs (upd H4 T2 (.tup [.int p2.1, .int p2.2])) ms2 rs2 →
            Same H (upd (upd H4 T2 (.tup [.int p2.1, .int p2.2])) mg' (.lst ms2)) ∧ upd (upd H4 T2 (.tup [.int p2.1, .int p2.2])) mg' (.lst ms2) g = some (.lst zs) ∧ Prs (upd (upd H4 T2 (.tup [.int p2.1, .int p2.2])) mg' (.lst ms2)) zs qs ∧ upd (upd H4 T2 (.tup [.int p2.1, .int p2.2])) mg' (.lst ms2) mg' = some (.lst ms2) ∧ Prs (upd (upd H4 T2 (.tup [.int p2.1, .int p2.2])) mg' (.lst ms2)) ms2 rs2 := by
          intro T2 p2 ms2 rs2 n2 h2
          have st := same_upd (o := .tup [.int p2.1, .int p2.2]) n2
          have em5 := st _ _ em4
          refine ⟨fun b o e => ?_, ?_, (hz4.same st).upd_lst em5, upd_same, h2.upd_lst em5⟩
          · rw [upd_ne (ne_of_none e nm)]
            exact st _ _ (sm4 _ _ e)
          · rw [upd_ne nmg.symm]
            exact st _ _ eg4
        -- append
        have app : (∀ r ∈ rs, r.2 + 2 ≤ p.1) → (tDrop (tBM K "list" rAppend (tVar 1) (tCons (tTup (tCons (tVar 2) (tCons (tVar 3) tNil))) tNil))) { nx := fun σ H4 => ∃ (ms : List V) (rs : List (Int × Int)) (y2 y3 y4 y5 y6 : Option V), σ = [some (.ref a), some (.ref mg'), y2, y3, y4, y5, y6] ∧ Same H H4 ∧ H4 g = some (.lst zs) ∧ Prs H4 zs qs ∧ H4 mg' = some (.lst ms) ∧ Prs H4 ms rs ∧ Mrg (qs.take (i + 1)) rs, rt := fun _ _ => False } [some (.ref a), some (.ref mg'), some (.int p.1), some (.int p.2), y4, y5, y6] H4 := by
          intro far
          refine ⟨.ref mg', rfl, .inl ⟨rfl, _, SqL.of em4⟩, _, rfl, _, rfl, (by show 2 ≤ sizeLine; decide), fun T2 n2 => ?_⟩
          have st := same_upd (o := .tup [.int p.1, .int p.2]) n2
          refine ⟨mg', _, _, rfl, rfl, st _ _ em4, smallW (by omega), ?_⟩
          obtain ⟨g1, g2, g3, g4, g5⟩ := grow T2 p (ms ++ [.ref T2]) (rs ++ [p]) n2 ((hms.same st).snoc upd_same)
          exact ⟨_, _, _, _, _, _, _, rfl, g1, g2, g3, g4, g5, by rw [etake]; exact m.new hp12 ord far⟩
        rcases snoc_cases rs with e0 | ⟨rs', ⟨lo, hi'⟩, e0⟩
        · have e1 : ms = [] := List.eq_nil_of_length_eq_zero (by rw [hms.1, e0]; rfl)
          have em0 : H4 mg' = some (.lst []) := by rw [em4, e1]
          refine ⟨.ref mg', rfl, false, .inl ⟨[], SqL.of em0, rfl⟩, iteF (iteF ?_)⟩
          exact app (by rw [e0]; exact fun _ z => nomatch z)
        · subst e0
          obtain ⟨ms', T0, rfl, eT0, hms'⟩ := hms.last
          refine ⟨.ref mg', rfl, true, .inl ⟨_, SqL.of em4, by simp⟩, iteT ?_⟩
          refine ⟨_, rfl, .ref mg', rfl, 1, rfl, mg', _, -1, .ref T0, rfl, rfl, SqL.of em4, atI_last _ _, T0, _, 1, .int hi', rfl, rfl, .inl (.inl eT0), atI_nat (j := 1) rfl, hi', 1, rfl, rfl, p.1, _, rfl, rfl, _, rfl, ite2 (fun c => ?_) (fun c => ?_)⟩
          · have c' := of_decide_eq_true c
            refine ⟨.ref mg', rfl, 1, rfl, mg', _, -1, .ref T0, rfl, rfl, SqL.of em4, atI_last _ _, T0, _, rfl, .inl (.inl eT0), rfl, _, _, rfl, _, _, rfl, rfl, ?_⟩
            refine ⟨_, rfl, _, rfl, _, rfl, hi', p.2, rfl, (by show 2 ≤ sizeLine; decide), fun T2 n2 => ?_⟩
            have st := same_upd (o := .tup [.int lo, .int (if p.2 > hi' then p.2 else hi')]) n2
            have ei : ixN (ms' ++ [V.ref T0]).length (-1) = some ms'.length := by
              unfold ixN
              rw [if_neg (by decide), List.length_append, if_pos (by show -((ms'.length + 1 : Nat) : Int) ≤ -1; omega)]
              show some ((-1 : Int) + ((ms'.length + 1 : Nat) : Int)).toNat = _
              congr 1
              omega
            refine ⟨.ref mg', rfl, 1, rfl, mg', _, -1, ms'.length, rfl, rfl, st _ _ em4, ei, ?_⟩
            have es : (ms' ++ [V.ref T0]).set ms'.length (.ref T2) = ms' ++ [.ref T2] := by simp
            rw [es]
            obtain ⟨g1, g2, g3, g4, g5⟩ := grow T2 (lo, if p.2 > hi' then p.2 else hi') (ms' ++ [.ref T2]) (rs' ++ [(lo, if p.2 > hi' then p.2 else hi')]) n2 ((hms'.same st).snoc upd_same)
            exact ⟨_, _, _, _, _, _, _, rfl, g1, g2, g3, g4, g5, by rw [etake]; exact m.join hp12 ord c'⟩
          · have c' : ¬ p.1 ≤ hi' + 1 := fun z => c (decide_eq_true z)
            refine app fun r hr' => ?_
            obtain ⟨lo', hR⟩ := m.ris
            obtain ⟨_, h2, _, h4⟩ := Ris.front hR
            have h4' : lo ≤ hi' := h4
            rcases List.mem_append.mp hr' with y | y
            · have : r.2 + 2 ≤ lo := h2 r y
              omega
            · rw [List.mem_singleton.mp y]
              show hi' + 2 ≤ p.1
              omega
      · obtain ⟨ms, rs, y2, y3, y4, y5, y6, rfl, sm4, eg4, hz4, em4, hms, m⟩ := hP
        rw [hzs.1, List.take_length] at m
        refine ⟨_, rfl, q mg' ms rs H4 nm em4 hms ⟨m.ris, m.same.trans fun n => ?_, Nat.le_trans m.len (Nat.le_trans (Nat.le_of_eq hperm.length_eq) (List.length_filter_le _ _))⟩ sm4⟩
        constructor
        · rintro ⟨r, hr', e⟩
          exact ⟨r, (List.mem_filter.mp (hperm.mem_iff.mp hr')).1, e⟩
        · rintro ⟨r, hr', e⟩
          exact ⟨r, hperm.mem_iff.mpr (List.mem_filter.mpr ⟨hr', decide_eq_true (by omega)⟩), e⟩
end

/-! ### what faults reach, batch by batch: the program's -/
def o3 : Pas3 → Old.Pas
  | .line p s l b => .line p s l b
  | .racks p per st => .racks p per st
theorem o3_place (q : Pas3) : (o3 q).place = q.pl := by cases q <;> rfl
theorem o3_pass (pl : Str) : ∀ ps : List Pas3, Old.passF pl (ps.map o3) = (passF ps pl).map o3
  | [] => rfl
  | q :: r => by
    show (if (o3 q).place = pl then some (o3 q) else Old.passF pl (r.map o3)) = ((q :: r).find? fun q => decide (q.pl = pl)).map o3
    rw [o3_place]
    by_cases c : q.pl = pl
    · rw [if_pos c]
      simp [List.find?, c]
    · rw [if_neg c, o3_pass pl r]
      unfold passF
      simp [List.find?, c]
theorem o3_win (B : Bat3) (pl : Str) (n : Int) : Old.winF pl n (B.pas.map o3) = winF B pl n := by
  rw [Old.win_eq, o3_pass]
  unfold winF
  cases passF B.pas pl with
  | none => rfl
  | some q => cases q <;> rfl
theorem o3_good {T : Int} {q : Pas3} (h : PasOk T q) : (o3 q).Good T := by
  cases q with
  | line p s l b =>
    obtain ⟨_, h1, h2, h3, h4, h5, h6⟩ := h
    exact ⟨trivial, h1, h2, h3, h4, h5, h6⟩
  | racks p per st =>
    obtain ⟨_, h1, h2, _, h4, h5⟩ := h
    exact ⟨trivial, h1, h2, trivial, h4, h5⟩
theorem Thg.o3 {cs : List Addr} {H : Hp} {v : V} {q : Pas3} (h : Thg cs H v (pasD q)) : Old.PasV H v (o3 q) := by
  cases q with
  | line p s l b =>
    obtain ⟨a, xs, rfl, e, h1⟩ := h.tuple
    obtain ⟨x1, w1, rfl, g1, h2⟩ := h1.inv
    obtain ⟨x2, w2, rfl, g2, h3⟩ := h2.inv
    obtain ⟨x3, w3, rfl, g3, h4⟩ := h3.inv
    obtain ⟨x4, w4, rfl, g4, h5⟩ := h4.inv
    obtain ⟨x5, w5, rfl, g5, h6⟩ := h5.inv
    rw [h6.inv0, g1.inv_str, g2.inv_str, g3.inv_int, g4.inv_int, g5.inv_int] at e
    exact ⟨a, rfl, e⟩
  | racks p per st =>
    obtain ⟨a, xs, rfl, e, h1⟩ := h.tuple
    obtain ⟨x1, w1, rfl, g1, h2⟩ := h1.inv
    obtain ⟨x2, w2, rfl, g2, h3⟩ := h2.inv
    obtain ⟨x3, w3, rfl, g3, h4⟩ := h3.inv
    obtain ⟨x4, w4, rfl, g4, h5⟩ := h4.inv
    obtain ⟨s, us, rfl, es, _, hs⟩ := g4.list
    rw [h5.inv0, g1.inv_str, g2.inv_str, g3.inv_int] at e
    exact ⟨a, s, us, rfl, e, .inl es, hs.prs⟩
theorem Thg.batO {cs : List Addr} {H : Hp} {v : V} {B : Bat3} {d : PyData} (h : Thg cs H v d) (hB : BatR B d) : ∃ b, v = .ref b ∧ Old.BatA H b B.mark B.tins (B.pas.map TK.o3) := by
  obtain ⟨b, l, us, rfl, eb, hl, hu⟩ := h.bat hB
  refine ⟨b, rfl, l, us, eb, hl, by rw [hu.1, List.length_map, List.length_map], fun i v p e1 e2 => ?_⟩
  obtain ⟨q, eq, hq⟩ := hu.atM e1
  rw [List.getElem?_map, eq] at e2
  cases e2
  exact hq.o3
/-- a fault of no racks, its last minute or none -/
structure Flt3 where
  pl : Str
  first : Int
  last : Option Int
def Flt3.Ok (f : Flt3) : Prop := Old.Near f.first f.last
def fltV (o : Option Int) : V := Old.lastV o
def FltN (H : Hp) (u : V) (f : Flt3) : Prop := ∃ a rk, u = .ref a ∧ H a = some (.tup [.str f.pl, .int f.first, Old.lastV f.last, .ref rk]) ∧ H rk = some (.lst [])
theorem FltN.same {H H' : Hp} {u : V} {f : Flt3} (h : FltN H u f) (s : Same H H') : FltN H' u f := let ⟨a, rk, e, h1, h2⟩ := h; ⟨a, rk, e, s _ _ h1, s _ _ h2⟩
/-- the tins of a batch that a fault reaches -/
def Reach3 (B : Bat3) (f : Flt3) (n : Int) : Prop := (0 ≤ n ∧ n < B.tins) ∧ ¬ Old.Over f.first f.last ∧ ∃ w, winF B f.pl n = some w ∧ Old.meetB f.first f.last w = true
def ReachA (B : Bat3) (fs : List Flt3) (n : Int) : Prop := ∃ f ∈ fs, Reach3 B f n
def mrowD (r : Str × List (Int × Int)) : PyData := .tuple [.str r.1, .list (r.2.map pairD)]
open Classical in
noncomputable def mrowO (m : Str) (pr : Int → Prop) : Option (Str × List (Int × Int)) := if canon pr = [] then none else some (m, canon pr)
noncomputable def rowsF3 (fs : List Flt3) (bs : List Bat3) : List (Str × List (Int × Int)) := bs.filterMap fun B => mrowO B.mark (ReachA B fs)
theorem mrow_thg {cs : List Addr} {H : Hp} {t l : Addr} {ws : List V} {m : Str} {rs : List (Int × Int)} (et : H t = some (.tup [.str m, .ref l])) (el : H l = some (.lst ws)) (hw : Prs H ws rs) (nl : l ∉ cs) : Thg cs H (.ref t) (mrowD (m, rs)) := ThgL.tup (.cons (.str _) (.one ((prs_thg hw).lst el nl))) et
theorem Thg.row5v {cs : List Addr} {H : Hp} {v : V} {r : Row5} (h : Thg cs H v (row5D r)) : ∃ T, v = .ref T ∧ H T = some (.tup [.str r.1, .int r.2.1, optV r.2.2.1, .int r.2.2.2.1, .int r.2.2.2.2]) := by
  obtain ⟨T, xs, rfl, eT, h1⟩ := h.tuple
  obtain ⟨x1, w1, rfl, g1, h2⟩ := h1.inv
  obtain ⟨x2, w2, rfl, g2, h3⟩ := h2.inv
  obtain ⟨x3, w3, rfl, g3, h4⟩ := h3.inv
  obtain ⟨x4, w4, rfl, g4, h5⟩ := h4.inv
  obtain ⟨x5, w5, rfl, g5, h6⟩ := h5.inv
  rw [h6.inv0, g1.inv_str, g2.inv_int, g3.inv_opt, g4.inv_int, g5.inv_int] at eT
  exact ⟨T, rfl, eT⟩

def spNeverBoth : Sp := fun _ _ _ _ => False
def spNeverRacks : Sp := fun _ _ _ _ => False
def spReach1 : Sp := fun vs H Q _ => ∃ (v u : V) (B : Bat3) (d : PyData) (cs : List Addr) (f : Flt3), vs = [v, u] ∧ BatR B d ∧ Thg cs H v d ∧ BatOk B ∧ FltN H u f ∧ f.Ok ∧ Old.RetS H (Reach3 B f) 100 Q
abbrev sReach1 : Stmt := topS 14
theorem scReach1 : FnScope ["batch", "fault", "place", "first", "last", "racks", "met"] ["batch", "fault"] (defScope sReach1) := ⟨rfl, rfl, rfl, by decide +kernel, rfl, by decide +kernel, by decide +kernel⟩
section
variable {K : PySem.W.Frag} {mg : Str → Option Value} {P : Program} {w : World} {base : Heap}
theorem ok_Reach1 {f : Addr} {fd : FuncData} (F : Fun K "tins_reached" "tins_reached" sReach1 f fd) (C_tins_at : Cal P w K mg base 3 "tins_at" ["batch", "place", "first", "last"] Old.spTinsAt) : FnOk P w K mg base CX0 4 f fd ["batch", "fault"] spReach1 := by
  refine F.ok scReach1 (fun vs H Q E h => ?_) (fun cdv A outer s H vs Q E hr h => ?_)
  · obtain ⟨v, u, B, d, cs, fl, rfl, _⟩ := h
    rfl
  · obtain ⟨v, u, B, d, cs, fl, rfl, hB, hv, hBo, ⟨fa, rk, rfl, efa, erk⟩, hn, q⟩ := h
    refine ⟨_, pss_cons (ps_asg (pv 1) (pg_tup rfl (pgs_cons (pg_name (i := 2) scReach1.nd rfl (.inl rfl)) (pgs_cons (pg_name (i := 3) scReach1.nd rfl (.inl rfl)) (pgs_cons (pg_name (i := 4) scReach1.nd rfl (.inl rfl)) (pgs_cons (pg_name (i := 5) scReach1.nd rfl (.inl rfl)) pgs_nil))))))
      (pss_cons (ps_set (i := 6) scReach1.nd rfl (.inl rfl) (pe_own C_tins_at hr (by rfl) (pa_cons (pv 0) (pa_cons (pv 2) (pa_cons (pv 3) (pa_cons (pv 4) pa_nil))))))
      (pss_cons (ps_if (pt_not (pt_truth (pv 5) (by intro _; rfl))) (pss_one (ps_ret (pv 6)))
        pss_nil)
      pss_never)), ?_⟩
    obtain ⟨ba, rfl, hBA⟩ := hv.batO hB
    refine ⟨_, rfl, fa, _, rfl, .inl (.inl efa), rfl, _, _, rfl, _, _, rfl, _, _, rfl, _, _, rfl, rfl, ?_⟩
    have e75 : Big = 10 ^ 75 := rfl
    refine ⟨_, rfl, _, rfl, _, rfl, _, rfl, ba, B.mark, fl.pl, B.tins, fl.first, B.pas.map o3, fl.last, rfl, hBA, hBo.2.1, by have := hBo.2.2.1; omega, fun p hp => ?_, hn, fun l1 ws1 rs1 H1 nl1 el1 hws1 ht1 hl1 s1 => ?_⟩
    · obtain ⟨q', hq, rfl⟩ := List.mem_map.mp hp
      exact o3_good (hBo.2.2.2.2 q' hq)
    have tru : TruV K (.ref rk) H1 false := .inl ⟨_, SqL.of (s1 _ _ erk), rfl⟩
    refine ⟨_, rfl, _, tru, iteT ⟨_, rfl, ?_⟩⟩
    exact q l1 ws1 rs1 H1 nl1 el1 hws1 (ht1.cong fun n => by unfold Old.TinP Reach3; rw [o3_win]) hl1 s1
end
theorem reachA_take {B : Bat3} {fs : List Flt3} {f : Flt3} {i : Nat} {n : Int} (e : fs[i]? = some f) : ReachA B (fs.take (i + 1)) n ↔ ReachA B (fs.take i) n ∨ Reach3 B f n := by
  have et : fs.take (i + 1) = fs.take i ++ [f] := by rw [List.take_add_one, e]; rfl
  unfold ReachA
  rw [et]
  constructor
  · rintro ⟨g, hg, z⟩
    rcases List.mem_append.mp hg with y | y
    · exact .inl ⟨g, y, z⟩
    · rw [List.mem_singleton.mp y] at z
      exact .inr z
  · rintro (⟨g, hg, z⟩ | z)
    · exact ⟨g, List.mem_append_left _ hg, z⟩
    · exact ⟨f, List.mem_append_right _ (List.mem_singleton.mpr rfl), z⟩
/-- each thing stands as it should -/
def EachF (H : Hp) (vs : List V) (fs : List Flt3) : Prop := vs.length = fs.length ∧ ∀ (i : Nat) v f, vs[i]? = some v → fs[i]? = some f → FltN H v f
theorem EachF.same {H H' : Hp} {vs : List V} {fs : List Flt3} (h : EachF H vs fs) (s : Same H H') : EachF H' vs fs := ⟨h.1, fun i v f e1 e2 => (h.2 i v f e1 e2).same s⟩
theorem EachF.at {H : Hp} {vs : List V} {fs : List Flt3} {i : Nat} {v : V} (h : EachF H vs fs) (e : vs[i]? = some v) : ∃ f, fs[i]? = some f ∧ FltN H v f := by
  have hi : i < fs.length := by rw [← h.1]; exact (List.getElem?_eq_some_iff.mp e).1
  exact ⟨_, List.getElem?_eq_getElem hi, h.2 i v _ e (List.getElem?_eq_getElem hi)⟩
def spReached (K : PySem.W.Frag) : Sp := fun vs H Q _ => ∃ (a c : Addr) (us ws : List V) (ds : List PyData) (bs : List Bat3) (fs : List Flt3) (cs : List Addr), vs = [.ref a, .ref c] ∧ SqH H a us ∧ ThgL cs H us ds ∧ BatsR bs ds ∧ (∀ B ∈ bs, BatOk B) ∧ bs.length ≤ 100 ∧ H c = some (.lst ws) ∧ EachF H ws fs ∧ (∀ f ∈ fs, f.Ok) ∧ fs.length ≤ 700 ∧
  ∀ (l : Addr) (ys : List V) H', H l = none → H' l = some (.lst ys) → ThgL [l] H' ys ((rowsF3 fs bs).map mrowD) → (∀ B ∈ bs, (canon (ReachA B fs)).length ≤ 100 * fs.length) → Same H H' → Q (.ref l) H'
abbrev sReached : Stmt := topS 15
theorem scReached : FnScope ["batches", "faults", "told", "batch", "some", "fault", "stretch"] ["batches", "faults"] (defScope sReached) := ⟨rfl, rfl, rfl, by decide +kernel, rfl, by decide +kernel, by decide +kernel⟩
section
variable {K : PySem.W.Frag} {mg : Str → Option Value} {P : Program} {w : World} {base : Heap}
theorem ok_Reached {f : Addr} {fd : FuncData} (F : Fun K "reached" "reached" sReached f fd) (C_tins_reached : Cal P w K mg base 4 "tins_reached" ["batch", "fault"] spReach1) (C_set_of : Cal P w K mg base 1 "set_of" ["pairs"] (spSetOfW K)) : FnOk P w K mg base CX0 5 f fd ["batches", "faults"] (spReached K) := by
  refine F.ok scReached (fun vs H Q E h => ?_) (fun cdv A outer s H vs Q E hr h => ?_)
  · obtain ⟨a, c, us, ws, ds, bs, fs, cs, rfl, _⟩ := h
    rfl
  · obtain ⟨a, c, us, ws, ds, bs, fs, cs, rfl, ha, hus, hR, hbo, hbl, hc, hws, hfo, hfl, q⟩ := h
    refine ⟨_, pss_cons (ps_set (i := 2) scReached.nd rfl (.inl rfl) (pe_lst pa_nil))
      (pss_cons (ps_for PassesOwn.never rfl (pi_seq (pv 0)) (pg_name (i := 3) scReached.nd rfl (.inr rfl))
        (pss_cons (ps_set (i := 4) scReached.nd rfl (.inl rfl) (pe_own C_set_of (hr.mono (show 1 ≤ 4 by decide)) (by rfl) (pa_cons (pe_lc2 (own := [("fault", 5), ("stretch", 6)]) (vs1 := [6]) (g := gName 5) (tt := tYes) (wi1 := iList K (tCall spReach1 [] E0 (tCons (tVar 3) (tCons (tVar 5) tNil)))) (g1 := gName 6) (tt1 := tYes) (te := tVar 6) rfl scReached.nd (pi_list (pv 1)) (blkOk_by (own := [("fault", 5), ("stretch", 6)]) (N := ["batches", "faults", "told", "batch", "some", "fault", "stretch"]) (sc := defScope sReached) (by decide +kernel)) (by decide) (fun _ _ _ _ _ => pg_name (i := 5) scReached.nd rfl (.inl rfl)) (fun _ _ _ _ _ => pts_nil) (fun _ _ _ _ _ => pi_list (pe_own C_tins_reached hr (by rfl) (pa_cons (pv 3) (pa_cons (pv 5) pa_nil)))) (fun _ _ _ _ _ => pg_name (i := 6) scReached.nd rfl (.inl rfl)) (fun _ _ _ _ _ => pts_nil) (fun _ _ _ _ _ => pv 6)) pa_nil)))
        (pss_one (ps_if (pt_truth (pv 4) (by intro _; rfl)) (pss_one (ps_expr (pe_bm PySem.F.plainAttrs_list PySem.F.slot_list_append PySem.F.type_list_append mt_append (pv 2) (pa_cons (pe_tup (pa_cons (pe_ix ix_tup (pv 3) pe_int (fun _ _ => rfl)) (pa_cons (pv 4) pa_nil))) pa_nil))))
          pss_nil))))
      (pss_one (ps_ret (pv 2)))), ?_⟩
    have hul : us.length = bs.length := by rw [hus.1, hR.1]
    refine ⟨Nat.zero_le _, fun tl ntl => ?_⟩
    have stl := same_upd (o := .lst []) ntl
    refine ⟨_, rfl, a, rfl, for_seqS (xs := us) ha.sq stl (fun i σ Hx => ∃ (ys : List V) (y3 y4 : Option V), σ = [some (.ref a), some (.ref c), some (.ref tl), y3, y4, none, none] ∧ Same H Hx ∧ Hx tl = some (.lst ys) ∧ ThgL [tl] Hx ys ((rowsF3 fs (bs.take i)).map mrowD) ∧ ∀ B ∈ bs.take i, (canon (ReachA B fs)).length ≤ 100 * fs.length)
      ⟨[], _, _, rfl, stl, upd_same, ThgL.nil, fun _ z => nomatch z⟩ (fun i σ Hx hP => ?_) (fun i v σ Hx hx hP => ?_) (fun σ Hx hP => ?_)⟩
    · obtain ⟨_, _, _, rfl, sx, _⟩ := hP
      exact sx
    · obtain ⟨ys, y3, y4, rfl, sx, etl, hys, hfw⟩ := hP
      obtain ⟨B, d, eb, hB, hbv⟩ := hus.bat hR hx
      have hb := hbo B (List.mem_of_getElem? eb)
      have hi : i < bs.length := (List.getElem?_eq_some_iff.mp eb).1
      have etake : rowsF3 fs (bs.take (i + 1)) = rowsF3 fs (bs.take i) ++ (mrowO B.mark (ReachA B fs)).toList := by
        unfold rowsF3
        rw [List.take_add_one, eb, List.filterMap_append]
        cases e : mrowO B.mark (ReachA B fs) with
        | none => simp [e]
        | some r => simp [e]
      have hrl : (rowsF3 fs (bs.take i)).length ≤ 100 := by
        have := List.length_filterMap_le (fun B => mrowO B.mark (ReachA B fs)) (bs.take i)
        rw [List.length_take] at this
        unfold rowsF3
        omega
      have hyl : ys.length ≤ 100 := by rw [hys.1, List.length_map]; exact hrl
      refine ⟨_, rfl, c, rfl, ⟨_, SqL.of (sx _ _ hc)⟩, fun D nD => ?_⟩
      refine walk_W (walk_list (xs := ws)) (fun j H' => Same Hx H' ∧ ∃ zs qs, H' D = some (.lst zs) ∧ Prs H' zs qs ∧ (∀ n, InS qs n ↔ ReachA B (fs.take j) n) ∧ qs.length ≤ 100 * j)
        ⟨same_upd nD, [], [], upd_same, Prs.nil, (fun n => ⟨fun z => absurd z inS_nil, fun ⟨_, z, _⟩ => nomatch z⟩), Nat.le_refl _⟩ (fun j H' _ hP => SqL.of (hP.1 _ _ (sx _ _ hc))) (fun j x H' H'' hj hP hy => ?_) (fun H2 hP => ?_)
      · obtain ⟨rfl, hx'⟩ := hy
        obtain ⟨sm, zs, qs, eD, hzs, hin, hql⟩ := hP
        obtain ⟨fl, ef, hfv⟩ := hws.at hx'
        have hf := hfo fl (List.mem_of_getElem? ef)
        have hj2 : j < fs.length := (List.getElem?_eq_some_iff.mp ef).1
        have S := sx.trans sm
        refine ⟨rfl, _, rfl, _, rfl, v, x, B, d, cs, fl, rfl, hB, hbv.same S, hb, hfv.same S, hf, fun l1 ws1 rs1 H1 nl1 el1 hws1 ht1 hl1 s1 => ?_⟩
        have nDl : D ≠ l1 := ne_of_none eD nl1
        refine ⟨l1, rfl, ⟨_, SqL.of el1⟩, walk_W (walk_list (xs := ws1)) (fun k H' => Same Hx H' ∧ H' l1 = some (.lst ws1) ∧ Prs H' ws1 rs1 ∧ H' D = some (.lst (zs ++ ws1.take k)) ∧ Prs H' zs qs) ⟨sm.trans s1, el1, hws1, by rw [List.take_zero, List.append_nil]; exact s1 _ _ eD, hzs.same s1⟩ (fun k H' _ hP => SqL.of hP.2.1) (fun k x H' H'' hk0 hP hy => ?_) (fun H' hP => ?_)⟩
        · obtain ⟨rfl, hx2⟩ := hy
          obtain ⟨g1, g2, g3, g4, g5⟩ := hP
          have hk : k < ws1.length := (List.getElem?_eq_some_iff.mp hx2).1
          refine ⟨rfl, _, rfl, _, g4, smallW (by have := hzs.1; have := hws1.1; rw [List.length_append, List.length_take]; omega), fun y o e => ?_, ?_, g3.upd_lst g4, ?_, g5.upd_lst g4⟩
          · rw [upd_ne (ne_of_none e nD)]
            exact g1 y o e
          · rw [upd_ne nDl.symm]
            exact g2
          · rw [upd_same, List.take_add_one, hx2, List.append_assoc]
            rfl
        · obtain ⟨g1, g2, g3, g4, g5⟩ := hP
          rw [List.take_length] at g4
          refine ⟨g1, zs ++ ws1, qs ++ rs1, g4, g5.append g3, fun n => ?_, by rw [List.length_append]; omega⟩
          rw [inS_append, hin n, ht1.same n]
          exact (reachA_take ef).symm
      · obtain ⟨sm, zs, qs, eD, hzs, hin, hql⟩ := hP
        rw [hws.1, List.take_length] at hin
        rw [hws.1] at hql
        refine ⟨D, zs, qs, rfl, Sq.list eD, hzs, by omega, fun l2 ws2 rs2 H3 nl2 el2 hws2 hset s3 => ?_⟩
        have ht : Told (ReachA B fs) rs2 := hset.told.cong hin
        have ec := ht.canon
        have hfw2 : ∀ B' ∈ bs.take (i + 1), (canon (ReachA B' fs)).length ≤ 100 * fs.length := fun B' hB' => by
          rw [List.take_add_one, eb] at hB'
          rcases List.mem_append.mp hB' with z | z
          · exact hfw B' z
          · rw [List.mem_singleton.mp z, ← ec, hset.told.one (told_ex qs) fun _ => Iff.rfl]
            exact Nat.le_trans (told_len qs) hql
        have S := sm.trans s3
        have etl3 := S _ _ etl
        have hys3 := hys.same S
        refine ⟨_, rfl, !ws2.isEmpty, .inl ⟨_, SqL.of el2, rfl⟩, ?_⟩
        cases hw : ws2 with
        | nil =>
          have er : rs2 = [] := List.eq_nil_of_length_eq_zero (by rw [← hws2.1, hw]; rfl)
          refine iteF ⟨ys, _, _, rfl, sx.trans S, etl3, ?_⟩
          have em : mrowO B.mark (ReachA B fs) = none := by
            unfold mrowO
            rw [if_pos (by rw [← ec]; exact er)]
          rw [etake, em, Option.toList_none, List.append_nil]
          exact ⟨hys3, hfw2⟩
        | cons w0 wr =>
          have er : ¬ rs2 = [] := fun z => by
            have := hws2.1
            rw [hw, z] at this
            cases this
          have em : mrowO B.mark (ReachA B fs) = some (B.mark, rs2) := by
            unfold mrowO
            rw [if_neg (by rw [← ec]; exact er), ← ec]
          refine iteT ?_
          obtain ⟨ba, ab, vb, rfl, eba, _⟩ := (hbv.same (sx.trans S)).bat hB
          refine ⟨_, rfl, .inl ⟨rfl, _, SqL.of etl3⟩, _, rfl, ba, _, 0, .str B.mark, rfl, rfl, .inl (.inl eba), atI_nat (j := 0) rfl, _, rfl, (by show 2 ≤ sizeLine; decide), fun t nt => ?_⟩
          have st := same_upd (o := .tup [.str B.mark, .ref l2]) nt
          have etl4 := st _ _ etl3
          have nl2' : l2 ≠ tl := fun z => by rw [z, sm _ _ etl] at nl2; cases nl2
          refine ⟨tl, _, _, rfl, rfl, etl4, small1000 (by omega), ys ++ [.ref t], _, _, rfl, fun y o e => ?_, upd_same, ?_, hfw2⟩
          · rw [upd_ne (ne_of_none e ntl)]
            exact st _ _ ((sx.trans S) y o e)
          · rw [etake, em, Option.toList_some, List.map_append]
            have row : Thg [tl] (upd H3 t (.tup [.str B.mark, .ref l2])) (.ref t) (mrowD (B.mark, rs2)) := mrow_thg upd_same (st _ _ el2) (hws2.same st) fun z => nl2' (List.mem_singleton.mp z)
            exact ((hys3.same st).upd etl4 (by simp)).append (ThgL.one (row.upd etl4 (by simp)))
    · obtain ⟨ys, y3, y4, rfl, sx, etl, hys, hfw⟩ := hP
      rw [hul, List.take_length] at hys hfw
      exact ⟨_, rfl, q tl ys Hx ntl etl hys hfw sx⟩
end

/-! ### the tins that some fault that can have been reaches -/
def fltO (r : Row5) : Flt3 := ⟨r.1, r.2.1, r.2.2.1⟩
noncomputable def canF (bs : List Bat3) (ts : List Tst) (ps : List Str) : List (Str × List (Int × Int)) := rowsF3 ((suspF bs ts ps).map fltO) bs
/-- the numbers of a row are of windows, or beside them -/
def RowsNear (bs : List Bat3) (ts : List Tst) (ps : List Str) : Prop := ∀ r ∈ suspF bs ts ps, (fltO r).Ok
def spCan (K : PySem.W.Frag) (Ms : GX.Mq) (Xs : List Addr) (Pf : Addr) : Sp := fun vs H Q _ => ∃ (vb vt : V) (bs : List Bat3) (ts : List Tst) (cs : List Addr), vs = [vb, vt] ∧ Given cs H vb vt bs ts ∧ CaseOk bs ts ∧ (∃ t ∈ ts, t.bad = true) ∧ GX.TQ Ms Xs H ∧ Pf ∈ Ms ∧ (∀ ps, SrtT (PlaceP bs) ps → (suspF bs ts ps).length ≤ 700 ∧ RowsNear bs ts ps) ∧
  ∀ l zs ps H', H l = none → GX.NoTab H H' → GX.TQ Ms Xs H' → H' l = some (.lst zs) → SrtT (PlaceP bs) ps → ThgL [l] H' zs ((canF bs ts ps).map mrowD) → (∀ B ∈ bs, (canon (ReachA B ((suspF bs ts ps).map fltO))).length ≤ 100 * (suspF bs ts ps).length) → Q (.ref l) H'
def fltD (f : Flt3) : PyData := .tuple [.str f.pl, .int f.first, optI f.last, .list []]
theorem Thg.flt {cs : List Addr} {H : Hp} {v : V} {f : Flt3} (h : Thg cs H v (fltD f)) : FltN H v f := by
  obtain ⟨T, xs, rfl, eT, h1⟩ := h.tuple
  obtain ⟨x1, w1, rfl, g1, h2⟩ := h1.inv
  obtain ⟨x2, w2, rfl, g2, h3⟩ := h2.inv
  obtain ⟨x3, w3, rfl, g3, h4⟩ := h3.inv
  obtain ⟨x4, w4, rfl, g4, h5⟩ := h4.inv
  obtain ⟨l, ys, rfl, el, _, hl⟩ := g4.list
  rw [h5.inv0, g1.inv_str, g2.inv_int, g3.inv_opt] at eT
  rw [hl.inv0] at el
  have e : optV f.last = Old.lastV f.last := by cases f.last <;> rfl
  rw [e] at eT
  exact ⟨T, l, rfl, eT, el⟩
abbrev sCan : Stmt := topS 25
theorem scCan : FnScope ["batches", "tests", "place", "first", "last", "latest", "earliest"] ["batches", "tests"] (defScope sCan) := ⟨rfl, rfl, rfl, by decide +kernel, rfl, by decide +kernel, by decide +kernel⟩
section
variable {K : PySem.W.Frag} {mg : Str → Option Value} {P : Program} {w : World} {base : Heap}
theorem ok_Can {f : Addr} {fd : FuncData} (F : Fun K "can_reach" "can_reach" sCan f fd) (C_reached : Cal P w K mg base 5 "reached" ["batches", "faults"] (spReached K)) (C_suspects : Cal P w K mg base 7 "suspects" ["batches", "tests"] (spSusp K Ms Xs Pf)) : FnOk P w K mg base CX0 8 f fd ["batches", "tests"] (spCan K Ms Xs Pf) := by
  refine F.ok scCan (fun vs H Q E h => ?_) (fun cdv A outer s H vs Q E hr h => ?_)
  · obtain ⟨vb, vt, bs, ts, cs, rfl, _⟩ := h
    rfl
  · obtain ⟨vb, vt, bs, ts, cs, rfl, hG, hC, hbad, hT, hM, hfew, q⟩ := h
    refine ⟨_, pss_one (ps_ret (pe_own C_reached (hr.mono (show 5 ≤ 7 by decide)) (by rfl) (pa_cons (pv 0) (pa_cons (pe_lc (own := [("place", 2), ("first", 3), ("last", 4), ("latest", 5), ("earliest", 6)]) (g := (gTup K 5 (gCons (gName 2) (gCons (gName 3) (gCons (gName 4) (gCons (gName 5) (gCons (gName 6) gNil))))))) (tt := tYes) (te := (tTup (tCons (tVar 2) (tCons (tVar 3) (tCons (tVar 4) (tCons (tLst tNil) tNil)))))) rfl scCan.nd (pi_list (pe_own C_suspects hr (by rfl) (pa_cons (pv 0) (pa_cons (pv 1) pa_nil)))) (blkOk_by (own := [("place", 2), ("first", 3), ("last", 4), ("latest", 5), ("earliest", 6)]) (N := ["batches", "tests", "place", "first", "last", "latest", "earliest"]) (sc := defScope sCan) (by decide +kernel)) (fun _ _ _ _ _ => (pg_tup rfl (pgs_cons (pg_name (i := 2) scCan.nd rfl (.inl rfl)) (pgs_cons (pg_name (i := 3) scCan.nd rfl (.inl rfl)) (pgs_cons (pg_name (i := 4) scCan.nd rfl (.inl rfl)) (pgs_cons (pg_name (i := 5) scCan.nd rfl (.inl rfl)) (pgs_cons (pg_name (i := 6) scCan.nd rfl (.inl rfl)) pgs_nil))))))) (fun _ _ _ _ _ => pts_nil) (fun _ _ _ _ _ => (pe_tup (pa_cons (pv 2) (pa_cons (pv 3) (pa_cons (pv 4) (pa_cons (pe_lst pa_nil) pa_nil))))))) pa_nil)))), ?_⟩
    refine ⟨_, rfl, _, rfl, _, rfl, vb, vt, bs, ts, cs, rfl, hG, hC, hbad, hT, hM, fun R zs ps H1 nR n1 t1 eR hps hz => ?_⟩
    obtain ⟨hsl, hnear⟩ := hfew ps hps
    refine ⟨R, rfl, ⟨_, SqL.of eR⟩, fun D nD => ?_⟩
    have hzl : zs.length = (suspF bs ts ps).length := by rw [hz.1, List.length_map]
    refine lc_thgd ((suspF bs ts ps).map fun r => fltD (fltO r)) (walk_list (xs := zs)) [] nD (by rw [List.length_map, hzl]) (by omega) (fun H' s => SqL.of (s _ _ eR)) (fun k x d H2 H2' Kt Kn ed s2 hdd hyy kk => ?_) (fun H2 ws s2 eD hD => ?_)
    · obtain ⟨rfl, hx⟩ := hyy
      obtain ⟨r, er, hr5⟩ := hz.atM hx
      rw [List.getElem?_map, er] at ed
      cases ed
      obtain ⟨T, rfl, eT⟩ := (hr5.same s2).row5v
      refine ⟨T, _, rfl, .inl (.inl eT), rfl, _, _, rfl, _, _, rfl, _, _, rfl, _, _, rfl, _, _, rfl, rfl, rfl, _, rfl, _, rfl, _, rfl, Nat.zero_le _, fun E0' nE => ⟨(by show 4 ≤ sizeLine; decide), fun T2 nT2 => ?_⟩⟩
      have sE := same_upd (o := .lst []) nE
      have sT := same_upd (o := .tup [.str r.1, .int r.2.1, optV r.2.2.1, .ref E0']) nT2
      have nDE : E0' ∉ [D] := fun z => by
        rw [List.mem_singleton.mp z] at nE
        obtain ⟨us, e⟩ := hdd
        rw [e] at nE
        cases nE
      refine kk _ _ (sE.trans sT) (ThgL.tup (.cons (.str _) (.cons (.int _) (.cons (thg_opt _) (.one (ThgL.nil.lst (sT _ _ upd_same) nDE))))) upd_same)
    · obtain ⟨a, xs, ds, rfl, ha, hx, hR⟩ := (hG.noTab n1).bt
      have S2 := s2
      refine ⟨a, D, xs, ws, ds, bs, (suspF bs ts ps).map fltO, cs, rfl, ha.imp (fun e => s2 _ _ e) (fun e => s2 _ _ e), hx.same s2, hR, hC.bat, hC.bl, eD, ⟨by rw [hD.1, List.length_map, List.length_map], fun i v f e1 e2 => ?_⟩, fun f hf => ?_, by rw [List.length_map]; exact hsl, fun l ys H3 nl el hy hfw s3 => ?_⟩
      · rw [List.getElem?_map] at e2
        cases er : (suspF bs ts ps)[i]? with
        | none => rw [er] at e2; cases e2
        | some r =>
          rw [er] at e2
          cases e2
          exact (hD.2 i v (fltD (fltO r)) e1 (by rw [List.getElem?_map, er]; rfl)).flt
      · obtain ⟨r, hr', rfl⟩ := List.mem_map.mp hf
        exact hnear r hr'
      · exact q l ys ps H3 (n1.free (s2.free nl)) (n1.trans (NoTab.same (s2.trans s3))) ((t1.same s2).same s3) el hps hy (fun B hB => by have := hfw B hB; rwa [List.length_map] at this)
end

/-! ### what stands where: pairs in a list or a tuple -/
def PrA (K : PySem.W.Frag) (H : Hp) (a : Addr) (ps : List (Int × Int)) : Prop := ∃ us, Sq K H a us ∧ Prs H us ps
def LsA (H : Hp) (a : Addr) (ps : List (Int × Int)) : Prop := ∃ us, H a = some (.lst us) ∧ Prs H us ps
theorem LsA.pr {K : PySem.W.Frag} {H : Hp} {a : Addr} {ps : List (Int × Int)} (h : LsA H a ps) : PrA K H a ps := let ⟨us, e, p⟩ := h; ⟨us, Sq.list e, p⟩
theorem LsA.same {H H' : Hp} {a : Addr} {ps : List (Int × Int)} (h : LsA H a ps) (s : Same H H') : LsA H' a ps := let ⟨us, e, p⟩ := h; ⟨us, s _ _ e, p.same s⟩
theorem PrA.same {K : PySem.W.Frag} {H H' : Hp} {a : Addr} {ps : List (Int × Int)} (h : PrA K H a ps) (s : Same H H') : PrA K H' a ps := let ⟨us, e, p⟩ := h; ⟨us, e.same s, p.same s⟩
theorem LsA.nil {H : Hp} {a : Addr} (e : H a = some (.lst [])) : LsA H a [] := ⟨[], e, Prs.nil⟩
theorem LsA.dp {K : PySem.W.Frag} {H : Hp} {a : Addr} {ps : List (Int × Int)} (h : LsA H a ps) : Dp K H (.ref a) (.list (ps.map pairD)) := let ⟨_, e, p⟩ := h; .lst (SqL.of e) (dp_prs p)
/-- a told set: a new list -/
def TellS (pr : Int → Prop) (m : Nat) (H : Hp) (Q : VK) : Prop := ∀ l rs H', H l = none → LsA H' l rs → Told pr rs → rs.length ≤ m → Same H H' → Q (.ref l) H'
/-! ### both_of -/
abbrev sBoth : Stmt := topS 2
theorem scBoth : FnScope ["one", "other", "shared", "at", "to", "first", "last"] ["one", "other"] (defScope sBoth) := ⟨rfl, rfl, rfl, by decide +kernel, rfl, by decide +kernel, by decide +kernel⟩
def spBoth (K : PySem.W.Frag) : Sp := fun vs H Q _ => ∃ (a b : Addr) (ps qs : List (Int × Int)), vs = [.ref a, .ref b] ∧ PrA K H a ps ∧ PrA K H b qs ∧ (∃ lo, Ris lo ps) ∧ (∃ lo, Ris lo qs) ∧ ps.length + qs.length ≤ 9000 ∧ TellS (fun n => InS ps n ∧ InS qs n) (ps.length + qs.length) H Q
/-- between two turns -/
def BothW (H : Hp) (a b sh : Addr) (ps qs : List (Int × Int)) (m : Nat) (σ : L2.St) (H1 : Hp) : Prop := ∃ (i j : Nat) (ms : List V) (rs : List (Int × Int)) (y5 y6 : Option V), σ = [some (.ref a), some (.ref b), some (.ref sh), some (.int i), some (.int j), y5, y6] ∧ m = (ps.length - i) + (qs.length - j) ∧ i ≤ ps.length ∧ j ≤ qs.length ∧ Same H H1 ∧
  H1 sh = some (.lst ms) ∧ Prs H1 ms rs ∧ rs.length ≤ i + j ∧ rs ++ bothF (ps.drop i) (qs.drop j) = bothF ps qs
section
variable {K : PySem.W.Frag} {mg : Str → Option Value} {P : Program} {w : World} {base : Heap}
theorem ok_both {f : Addr} {fd : FuncData} {k : Nat} (F : Fun K "both_of" "both_of" sBoth f fd) (ml : mg "len" = none) (mx : mg "max" = none) (mn : mg "min" = none) : FnOk P w K mg base CX0 (k + 1) f fd ["one", "other"] (spBoth K) := by
  refine F.ok scBoth (fun vs H Q E h => ?_) (fun cdv A outer s H vs Q E hr h => ?_)
  · obtain ⟨a, b, ps, qs, rfl, _⟩ := h
    rfl
  · obtain ⟨a, b, ps, qs, rfl, ⟨us, ha, hps⟩, ⟨ws, hb, hqs⟩, ⟨lo, hr1⟩, ⟨lo', hr2⟩, hz, q⟩ := h
    refine ⟨_, pss_cons (ps_set (i := 2) scBoth.nd rfl (.inl rfl) (pe_lst pa_nil))
      (pss_cons (ps_set (i := 3) scBoth.nd rfl (.inl rfl) pe_int)
      (pss_cons (ps_set (i := 4) scBoth.nd rfl (.inl rfl) pe_int)
      (pss_cons (ps_while PassesOwn.never (PW.pt (pw_and (pt_cmpR op_lt (pv 3) (pe_callB call_len_seq (by rfl) ml PySem.boot_len (pa_cons (pv 0) pa_nil)) (nomark _)) (pw_and1 (pt_cmpR op_lt (pv 4) (pe_callB call_len_seq (by rfl) ml PySem.boot_len (pa_cons (pv 1) pa_nil)) (nomark _)))))
        (pss_cons (ps_set (i := 5) scBoth.nd rfl (.inl rfl) (pe_callB (call_max2 rfl) (by rfl) mx (by decide +kernel) (pa_cons (pe_ix ix_tup (pe_ix ix_seq (pv 0) (pv 3) (fun _ _ => rfl)) pe_int (fun _ _ => rfl)) (pa_cons (pe_ix ix_tup (pe_ix ix_seq (pv 1) (pv 4) (fun _ _ => rfl)) pe_int (fun _ _ => rfl)) pa_nil))))
        (pss_cons (ps_set (i := 6) scBoth.nd rfl (.inl rfl) (pe_callB (call_min2 rfl) (by rfl) mn (by decide +kernel) (pa_cons (pe_ix ix_tup (pe_ix ix_seq (pv 0) (pv 3) (fun _ _ => rfl)) pe_int (fun _ _ => rfl)) (pa_cons (pe_ix ix_tup (pe_ix ix_seq (pv 1) (pv 4) (fun _ _ => rfl)) pe_int (fun _ _ => rfl)) pa_nil))))
        (Evl.pss_cut (ps_if (pt_cmpR op_le (pv 5) (pv 6) (nomark _)) (pss_one (ps_expr (pe_bm PySem.F.plainAttrs_list PySem.F.slot_list_append PySem.F.type_list_append mt_append (pv 2) (pa_cons (pe_tup (pa_cons (pv 5) (pa_cons (pv 6) pa_nil))) pa_nil)))) pss_nil)
        (pss_one (ps_if (pt_cmpR op_lt (pe_ix ix_tup (pe_ix ix_seq (pv 0) (pv 3) (fun _ _ => rfl)) pe_int (fun _ _ => rfl)) (pe_ix ix_tup (pe_ix ix_seq (pv 1) (pv 4) (fun _ _ => rfl)) pe_int (fun _ _ => rfl)) (nomark _))
          (pss_one (ps_aug (i := 3) scBoth.nd rfl (.inl rfl) pe_int ip_add)) (pss_one (ps_aug (i := 4) scBoth.nd rfl (.inl rfl) pe_int ip_add))))))))
      (pss_one (ps_ret (pv 2)))))), ?_⟩
    refine ⟨Nat.zero_le _, fun sh nsh => ?_⟩
    have s0 := same_upd (o := .lst []) nsh
    have hl1 := hps.1
    have hl2 := hqs.1
    refine ⟨BothW H a b sh ps qs, ⟨_, 0, 0, [], [], none, none, rfl, rfl, Nat.zero_le _, Nat.zero_le _, s0, upd_same, Prs.nil, Nat.le_refl _, rfl⟩, fun m σ H1 hW => ?_⟩
    obtain ⟨i, j, ms, rs, y5, y6, rfl, rfl, hi, hj, sm, esh, hms, hrl, hbo⟩ := hW
    have ha1 := ha.same sm
    have hb1 := hb.same sm
    -- the end: nothing is left of one
    have fin : bothF (ps.drop i) (qs.drop j) = [] → Q (.ref sh) H1 := by
      intro e
      rw [e, List.append_nil] at hbo
      subst hbo
      exact q sh (bothF ps qs) H1 nsh ⟨ms, esh, hms⟩ ⟨⟨lo, bothF_ris hr1 hr2 (.inl (Int.le_refl _))⟩, fun n => bothF_in hr1 hr2⟩ (by omega) sm
    refine ⟨_, rfl, _, rfl, a, us, rfl, ha1, (i : Int), (us.length : Int), rfl, rfl, _, rfl, ite2 (fun c1 => ?_) (fun c1 => ?_)⟩
    · have c1' := of_decide_eq_true c1
      refine ⟨_, rfl, _, rfl, b, ws, rfl, hb1, (j : Int), (ws.length : Int), rfl, rfl, _, rfl, ite2 (fun c2 => ?_) (fun c2 => ?_)⟩
      · have c2' := of_decide_eq_true c2
        have hi' : i < ps.length := by omega
        have hj' : j < qs.length := by omega
        obtain ⟨T1, g1, e1⟩ := hps.2 i ps[i] (List.getElem?_eq_getElem hi')
        obtain ⟨T2, g2, e2⟩ := hqs.2 j qs[j] (List.getElem?_eq_getElem hj')
        have ed1 := drop_at (List.getElem?_eq_getElem hi')
        have ed2 := drop_at (List.getElem?_eq_getElem hj')
        revert e1 e2 ed1 ed2
        generalize ps[i] = p
        generalize qs[j] = r
        intro e1 e2 ed1 ed2
        have f1 := sm _ _ e1
        have f2 := sm _ _ e2
        rw [ed1, ed2, bothF] at hbo
        refine ⟨fun σ' H' => ∃ m', m' < (ps.length - i) + (qs.length - j) ∧ BothW H a b sh ps qs m' σ' H', fun σ' H' h => h, ?_⟩
        -- first, last
        refine ⟨_, rfl, _, rfl, a, us, i, .ref T1, rfl, rfl, ha1, atI_nat g1, T1, _, 0, .int p.1, rfl, rfl, .inl (.inl f1), atI_nat (j := 0) rfl, _, rfl, _, rfl, b, ws, j, .ref T2, rfl, rfl, hb1, atI_nat g2, T2, _, 0, .int r.1, rfl, rfl, .inl (.inl f2), atI_nat (j := 0) rfl, p.1, r.1, rfl, ?_⟩
        refine ⟨_, rfl, _, rfl, a, us, i, .ref T1, rfl, rfl, ha1, atI_nat g1, T1, _, 1, .int p.2, rfl, rfl, .inl (.inl f1), atI_nat (j := 1) rfl, _, rfl, _, rfl, b, ws, j, .ref T2, rfl, rfl, hb1, atI_nat g2, T2, _, 1, .int r.2, rfl, rfl, .inl (.inl f2), atI_nat (j := 1) rfl, p.2, r.2, rfl, ?_⟩
        refine ⟨fun σ' H2 => ∃ ms2 rs2, σ' = [some (.ref a), some (.ref b), some (.ref sh), some (.int i), some (.int j), some (.int (mxI p.1 r.1)), some (.int (mnI p.2 r.2))] ∧ Same H H2 ∧ H2 sh = some (.lst ms2) ∧ Prs H2 ms2 rs2 ∧ rs2.length ≤ i + j + 1 ∧
          rs2 ++ (if p.2 < r.2 then bothF (ps.drop (i + 1)) (r :: qs.drop (j + 1)) else bothF (p :: ps.drop (i + 1)) (qs.drop (j + 1))) = bothF ps qs, ?_, fun σ' H2 hM => ?_⟩
        · refine ⟨_, rfl, _, rfl, mxI p.1 r.1, mnI p.2 r.2, rfl, rfl, _, rfl, ite2 (fun c => ?_) (fun c => ?_)⟩
          · have c' := of_decide_eq_true c
            rw [if_pos c', ← List.append_assoc] at hbo
            refine ⟨_, rfl, .inl ⟨rfl, _, SqL.of esh⟩, _, rfl, _, rfl, (by show 2 ≤ sizeLine; decide), fun T nT => ?_⟩
            have sT := same_upd (o := .tup [.int (mxI p.1 r.1), .int (mnI p.2 r.2)]) nT
            refine ⟨sh, _, _, rfl, rfl, sT _ _ esh, Nat.lt_of_le_of_lt (show _ ≤ 10000 by have := hms.1; omega) (by decide), ?_⟩
            refine ⟨_, _, rfl, fun b o e => ?_, upd_same, ((hms.same sT).snoc upd_same).upd_lst (sT _ _ esh), by rw [List.length_append]; exact Nat.add_le_add_right hrl 1, hbo⟩
            rw [upd_ne (ne_of_none e nsh)]
            exact sT _ _ (sm b o e)
          · have c' : ¬ mxI p.1 r.1 ≤ mnI p.2 r.2 := fun z => c (decide_eq_true z)
            rw [if_neg c', List.nil_append] at hbo
            exact ⟨ms, rs, rfl, sm, esh, hms, by omega, hbo⟩
        · obtain ⟨ms2, rs2, rfl, sm2, esh2, hms2, hl3, hb3⟩ := hM
          have ha2 := ha.same sm2
          have hb2 := hb.same sm2
          have f1' := sm2 _ _ e1
          have f2' := sm2 _ _ e2
          refine ⟨_, rfl, _, rfl, a, us, i, .ref T1, rfl, rfl, ha2, atI_nat g1, T1, _, 1, .int p.2, rfl, rfl, .inl (.inl f1'), atI_nat (j := 1) rfl, _, rfl, _, rfl, b, ws, j, .ref T2, rfl, rfl, hb2, atI_nat g2, T2, _, 1, .int r.2, rfl, rfl, .inl (.inl f2'), atI_nat (j := 1) rfl, p.2, r.2, rfl, rfl, _, rfl, ite2 (fun c => ?_) (fun c => ?_)⟩
          · have c' := of_decide_eq_true c
            rw [if_pos c', ← ed2] at hb3
            exact ⟨_, rfl, (i : Int), 1, rfl, rfl, _, by omega, i + 1, j, ms2, rs2, _, _, rfl, rfl, by omega, hj, sm2, esh2, hms2, by omega, hb3⟩
          · have c' : ¬ p.2 < r.2 := fun z => c (decide_eq_true z)
            rw [if_neg c', ← ed1] at hb3
            exact ⟨_, rfl, (j : Int), 1, rfl, rfl, _, by omega, i, j + 1, ms2, rs2, _, _, rfl, rfl, hi, by omega, sm2, esh2, hms2, by omega, hb3⟩
      · have c' : ¬ (j : Int) < ws.length := fun z => c2 (decide_eq_true z)
        refine ⟨_, rfl, fin ?_⟩
        rw [List.drop_eq_nil_of_le (by omega : qs.length ≤ j)]
        exact bothF_nil _
    · have c' : ¬ (i : Int) < us.length := fun z => c1 (decide_eq_true z)
      refine ⟨_, rfl, fin ?_⟩
      rw [List.drop_eq_nil_of_le (by omega : ps.length ≤ i), bothF]
end

/-! ### the tins that each fault that can have been reaches: the program's -/
/-- the tins that each of these rows' faults reach -/
def MustR (B : Bat3) (rows : List Row5) (n : Int) : Prop := (0 ≤ n ∧ n < B.tins) ∧ ∀ r ∈ rows, ∃ w, winF B r.1 n = some w ∧ r.2.2.2.1 ≤ w.2 ∧ w.1 ≤ r.2.2.2.2
def RowNear (r : Row5) : Prop := 0 ≤ r.2.2.2.1 ∧ r.2.2.2.1.natAbs < 2 ^ 250 ∧ 0 ≤ r.2.2.2.2 ∧ r.2.2.2.2.natAbs < 2 ^ 250
def spAll : Sp := fun vs H Q _ => ∃ (v : V) (R : Addr) (B : Bat3) (d : PyData) (zs : List V) (rows : List Row5) (cs cs' : List Addr), vs = [v, .ref R] ∧ BatR B d ∧ Thg cs H v d ∧ BatOk B ∧ rows.length ≤ 40 ∧ H R = some (.lst zs) ∧ ThgL cs' H zs (rows.map row5D) ∧ (∀ r ∈ rows, RowNear r) ∧ TellS (MustR B rows) (200 * rows.length + 1) H Q
theorem mustR_take {B : Bat3} {rows : List Row5} {r : Row5} {i : Nat} {n : Int} (e : rows[i]? = some r) : MustR B (rows.take (i + 1)) n ↔ MustR B (rows.take i) n ∧ ∃ w, winF B r.1 n = some w ∧ r.2.2.2.1 ≤ w.2 ∧ w.1 ≤ r.2.2.2.2 := by
  have et : rows.take (i + 1) = rows.take i ++ [r] := by rw [List.take_add_one, e]; rfl
  unfold MustR
  rw [et]
  constructor
  · rintro ⟨a, b⟩
    exact ⟨⟨a, fun x hx => b x (List.mem_append_left _ hx)⟩, b r (List.mem_append_right _ (List.mem_singleton.mpr rfl))⟩
  · rintro ⟨⟨a, b⟩, c⟩
    refine ⟨a, fun x hx => ?_⟩
    rcases List.mem_append.mp hx with z | z
    · exact b x z
    · rw [List.mem_singleton.mp z]
      exact c
abbrev sAll : Stmt := topS 26
theorem scAll : FnScope ["batch", "rows", "some", "place", "first", "last", "latest", "earliest"] ["batch", "rows"] (defScope sAll) := ⟨rfl, rfl, rfl, by decide +kernel, rfl, by decide +kernel, by decide +kernel⟩
section
variable {K : PySem.W.Frag} {mg : Str → Option Value} {P : Program} {w : World} {base : Heap}
theorem ok_All {f : Addr} {fd : FuncData} (F : Fun K "tins_of_all" "tins_of_all" sAll f fd) (C_both_of : Cal P w K mg base 1 "both_of" ["one", "other"] (spBoth K)) (C_tins_at : Cal P w K mg base 3 "tins_at" ["batch", "place", "first", "last"] Old.spTinsAt) : FnOk P w K mg base CX0 4 f fd ["batch", "rows"] spAll := by
  refine F.ok scAll (fun vs H Q E h => ?_) (fun cdv A outer s H vs Q E hr h => ?_)
  · obtain ⟨v, R, B, d, zs, rows, cs, cs', rfl, _⟩ := h
    rfl
  · obtain ⟨v, R, B, d, zs, rows, cs, cs', rfl, hB, hv, hBo, hT, hR, hz, hn, q⟩ := h
    refine ⟨_, pss_cons (ps_set (i := 2) scAll.nd rfl (.inl rfl) (pe_lst (pa_cons (pe_tup (pa_cons pe_int (pa_cons (pe_op op_sub (pe_ix ix_tup (pv 0) pe_int (fun _ _ => rfl)) pe_int) pa_nil))) pa_nil)))
      (pss_cons (ps_for PassesOwn.never rfl (pi_list (pv 1)) (pg_tup rfl (pgs_cons (pg_name (i := 3) scAll.nd rfl (.inl rfl)) (pgs_cons (pg_name (i := 4) scAll.nd rfl (.inl rfl)) (pgs_cons (pg_name (i := 5) scAll.nd rfl (.inl rfl)) (pgs_cons (pg_name (i := 6) scAll.nd rfl (.inl rfl)) (pgs_cons (pg_name (i := 7) scAll.nd rfl (.inl rfl)) pgs_nil))))))
        (pss_cons (ps_set (i := 2) scAll.nd rfl (.inl rfl) (pe_own C_both_of (hr.mono (show 1 ≤ 3 by decide)) (by rfl) (pa_cons (pv 2) (pa_cons (pe_own C_tins_at hr (by rfl) (pa_cons (pv 0) (pa_cons (pv 3) (pa_cons (pv 6) (pa_cons pe_non pa_nil))))) pa_nil))))
        (pss_one (ps_set (i := 2) scAll.nd rfl (.inl rfl) (pe_own C_both_of (hr.mono (show 1 ≤ 3 by decide)) (by rfl) (pa_cons (pv 2) (pa_cons (pe_own C_tins_at hr (by rfl) (pa_cons (pv 0) (pa_cons (pv 3) (pa_cons pe_int (pa_cons (pv 7) pa_nil))))) pa_nil)))))))
      (pss_one (ps_ret (pv 2)))), ?_⟩
    obtain ⟨ba, rfl, hBA⟩ := hv.batO hB
    have hB1 := hBo.2.1
    obtain ⟨b1, al, aus, ebr, eb, _⟩ := hv.bat hB
    cases ebr
    have e75 : Big = 10 ^ 75 := rfl
    have hB2 := hBo.2.2.1
    have good : ∀ p ∈ B.pas.map o3, p.Good B.tins := fun p hp => by
      obtain ⟨q', hq, rfl⟩ := List.mem_map.mp hp
      exact o3_good (hBo.2.2.2.2 q' hq)
    refine ⟨_, rfl, ba, _, 1, _, rfl, rfl, .inl (.inl eb), atI_nat (j := 1) rfl, _, _, rfl, rfl, (by show 2 ≤ sizeLine; decide), fun t nt => ⟨(by show 1 ≤ sizeLine; decide), fun l nl => ?_⟩⟩
    have st := same_upd (o := .tup [.int 0, .int (B.tins - 1)]) nt
    have sl := same_upd (o := .lst [.ref t]) nl
    have et := sl _ _ (upd_same (H := H) (a := t) (o := .tup [.int 0, .int (B.tins - 1)]))
    have nlH : H l = none := st.free nl
    have told0 : Told (MustR B (rows.take 0)) [(0, B.tins - 1)] := ⟨⟨0, Int.le_refl _, by show 0 ≤ B.tins - 1; omega, True.intro⟩, fun n => by
      rw [inS_cons]
      show ((0 ≤ n ∧ n ≤ B.tins - 1) ∨ InS [] n) ↔ _
      constructor
      · rintro (z | z)
        · exact ⟨⟨z.1, by omega⟩, fun _ z => nomatch z⟩
        · exact absurd z inS_nil
      · rintro ⟨⟨a, b⟩, _⟩
        exact .inl ⟨a, by omega⟩⟩
    refine ⟨_, rfl, R, rfl, ⟨_, SqL.of ((st.trans sl) _ _ hR)⟩, for_list (xs := zs) (fun i σ Hx => ∃ (L : Addr) (rs : List (Int × Int)) (y3 y4 y5 y6 y7 : Option V), σ = [some (.ref ba), some (.ref R), some (.ref L), y3, y4, y5, y6, y7] ∧ Same H Hx ∧ H L = none ∧ LsA Hx L rs ∧ Told (MustR B (rows.take i)) rs ∧ rs.length ≤ 200 * i + 1) ⟨l, _, _, _, _, _, _, rfl, st.trans sl, nlH, ⟨_, upd_same, GP.Prs.snoc GP.Prs.nil et⟩, told0, Nat.le_refl _⟩ (fun i σ Hx _ hP => ?_) (fun i x σ Hx hxi hP => ?_) (fun σ Hx hP => ?_)⟩
    · obtain ⟨_, _, _, _, _, _, _, rfl, sm, _⟩ := hP
      exact SqL.of (sm _ _ hR)
    · obtain ⟨L, rs, y3, y4, y5, y6, y7, rfl, sm, nL, hL, ht, hrl⟩ := hP
      obtain ⟨r, er, hr5⟩ := hz.atM hxi
      have hi40 : i < rows.length := (List.getElem?_eq_some_iff.mp er).1
      obtain ⟨T, rfl, eT⟩ := (hr5.same sm).row5v
      obtain ⟨n1, n2, n3, n4⟩ := hn r (List.mem_of_getElem? er)
      refine ⟨T, _, rfl, .inl (.inl eT), rfl, _, _, rfl, _, _, rfl, _, _, rfl, _, _, rfl, _, _, rfl, rfl, ?_⟩
      refine ⟨_, rfl, _, rfl, _, rfl, _, rfl, ba, B.mark, r.1, B.tins, r.2.2.2.1, B.pas.map o3, none, rfl, hBA.same sm, hB1, by omega, good, ⟨n2, fun l z => nomatch z⟩, fun l1 ws1 rs1 H1 nl1 el1 hws1 ht1 hl1 s1 => ?_⟩
      have hL1 := hL.same s1
      refine ⟨L, l1, rs, rs1, rfl, hL1.pr, LsA.pr ⟨ws1, el1, hws1⟩, ht.ris, ht1.ris, by omega, fun l2 rs2 H2 nl2 hL2 ht2 hl2 s2 => ?_⟩
      have s12 := s1.trans s2
      refine ⟨_, rfl, _, rfl, _, rfl, _, rfl, ba, B.mark, r.1, B.tins, 0, B.pas.map o3, some r.2.2.2.2, rfl, hBA.same (sm.trans s12), hB1, by omega, good, ⟨by decide, fun l z => by cases z; exact n4⟩, fun l3 ws3 rs3 H3 nl3 el3 hws3 ht3 hl3 s3 => ?_⟩
      refine ⟨l2, l3, rs2, rs3, rfl, (hL2.same s3).pr, LsA.pr ⟨ws3, el3, hws3⟩, ht2.ris, ht3.ris, by omega, fun l4 rs4 H4 nl4 hL4 ht4 hl4 s4 => ?_⟩
      refine ⟨l4, rs4, _, _, _, _, _, rfl, (sm.trans s12).trans (s3.trans s4), ?_, hL4, ht4.cong fun n => ?_, by omega⟩
      · exact ((sm.trans s12).trans s3).free nl4
      · rw [ht2.same n, ht.same n, ht1.same n, ht3.same n, mustR_take er]
        unfold Old.TinP
        rw [o3_win]
        unfold Old.meetB Old.Over
        constructor
        · rintro ⟨⟨a, _, _, w1, e1, m1⟩, _, _, w2, e2, m2⟩
          rw [e1] at e2
          cases e2
          rw [Bool.and_eq_true, decide_eq_true_eq] at m1
          rw [Bool.and_eq_true, decide_eq_true_eq] at m2
          exact ⟨a, w1, e1, m1.1, of_decide_eq_true m2.2⟩
        · rintro ⟨a, w1, e1, m1, m2⟩
          have hwo := winF_ok hBo a.1.1 a.1.2 e1
          refine ⟨⟨a, a.1, (fun ⟨_, z, _⟩ => nomatch z), w1, e1, ?_⟩, a.1, (fun ⟨l, z, z2⟩ => by cases z; omega), w1, e1, ?_⟩
          · rw [decide_eq_true m1]
            rfl
          · rw [decide_eq_true (show (0 : Int) ≤ w1.2 by omega)]
            exact decide_eq_true m2
    · obtain ⟨L, rs, y3, y4, y5, y6, y7, rfl, sm, nL, hL, ht, hrl⟩ := hP
      rw [show zs.length = rows.length by rw [hz.1, List.length_map]] at ht hrl
      rw [List.take_length] at ht
      exact ⟨_, rfl, q L rs Hx nL hL ht hrl sm⟩
end
noncomputable def mustF (bs : List Bat3) (ts : List Tst) (ps : List Str) : List (Str × List (Int × Int)) := if (suspF bs ts ps).isEmpty = true then [] else bs.filterMap fun B => mrowO B.mark (MustR B (suspF bs ts ps))
def spMust (K : PySem.W.Frag) (Ms : GX.Mq) (Xs : List Addr) (Pf : Addr) : Sp := fun vs H Q _ => ∃ (vb vt : V) (bs : List Bat3) (ts : List Tst) (cs : List Addr), vs = [vb, vt] ∧ Given cs H vb vt bs ts ∧ CaseOk bs ts ∧ (∃ t ∈ ts, t.bad = true) ∧ GX.TQ Ms Xs H ∧ Pf ∈ Ms ∧ (∀ ps, SrtT (PlaceP bs) ps → (suspF bs ts ps).length ≤ 40) ∧ (∀ ps, SrtT (PlaceP bs) ps → ∀ r ∈ suspF bs ts ps, RowNear r) ∧
  ∀ l zs ps H', H l = none → GX.NoTab H H' → GX.TQ Ms Xs H' → H' l = some (.lst zs) → SrtT (PlaceP bs) ps → ThgL [l] H' zs ((mustF bs ts ps).map mrowD) → (suspF bs ts ps ≠ [] → ∀ B ∈ bs, (canon (MustR B (suspF bs ts ps))).length ≤ 8001) → Q (.ref l) H'
abbrev sMust : Stmt := topS 27
theorem scMust : FnScope ["batches", "tests", "rows", "told", "batch", "some"] ["batches", "tests"] (defScope sMust) := ⟨rfl, rfl, rfl, by decide +kernel, rfl, by decide +kernel, by decide +kernel⟩
section
variable {K : PySem.W.Frag} {mg : Str → Option Value} {P : Program} {w : World} {base : Heap}
theorem ok_Must {f : Addr} {fd : FuncData} (F : Fun K "must_reach" "must_reach" sMust f fd) (C_suspects : Cal P w K mg base 7 "suspects" ["batches", "tests"] (spSusp K Ms Xs Pf)) (C_tins_of_all : Cal P w K mg base 4 "tins_of_all" ["batch", "rows"] spAll) : FnOk P w K mg base CX0 8 f fd ["batches", "tests"] (spMust K Ms Xs Pf) := by
  refine F.ok scMust (fun vs H Q E h => ?_) (fun cdv A outer s H vs Q E hr h => ?_)
  · obtain ⟨vb, vt, bs, ts, cs, rfl, _⟩ := h
    rfl
  · obtain ⟨vb, vt, bs, ts, cs, rfl, hG, hC, hbad, hT, hM, htn, hnear, q⟩ := h
    refine ⟨_, pss_cons (ps_set (i := 2) scMust.nd rfl (.inl rfl) (pe_own C_suspects hr (by rfl) (pa_cons (pv 0) (pa_cons (pv 1) pa_nil))))
      (pss_cons (ps_set (i := 3) scMust.nd rfl (.inl rfl) (pe_lst pa_nil))
      (pss_cons (ps_if (pt_truth (pv 2) (by intro _; rfl)) (pss_one (ps_for PassesOwn.never rfl (pi_seq (pv 0)) (pg_name (i := 4) scMust.nd rfl (.inl rfl))
          (pss_cons (ps_set (i := 5) scMust.nd rfl (.inl rfl) (pe_own C_tins_of_all (hr.mono (show 4 ≤ 7 by decide)) (by rfl) (pa_cons (pv 4) (pa_cons (pv 2) pa_nil))))
          (pss_one (ps_if (pt_truth (pv 5) (by intro _; rfl)) (pss_one (ps_expr (pe_bm PySem.F.plainAttrs_list PySem.F.slot_list_append PySem.F.type_list_append mt_append (pv 3) (pa_cons (pe_tup (pa_cons (pe_ix ix_tup (pv 4) pe_int (fun _ _ => rfl)) (pa_cons (pv 5) pa_nil))) pa_nil))))
            pss_nil)))))
        pss_nil)
      (pss_one (ps_ret (pv 3))))), ?_⟩
    refine ⟨_, rfl, _, rfl, vb, vt, bs, ts, cs, rfl, hG, hC, hbad, hT, hM, fun R zs ps H1 nR n1 t1 eR hps hz => ⟨Nat.zero_le _, fun tl ntl => ?_⟩⟩
    have stl := same_upd (o := .lst []) ntl
    have nRt : R ≠ tl := fun z => by rw [← z, eR] at ntl; cases ntl
    have hzl : zs.length = (suspF bs ts ps).length := by rw [hz.1, List.length_map]
    have ntlH : H tl = none := n1.free ntl
    obtain ⟨a, xs, ds, e0, ha, hx, hR⟩ := (hG.noTab n1).bt
    subst e0
    have hxl : xs.length = bs.length := by rw [hx.1, hR.1]
    refine ⟨_, rfl, !zs.isEmpty, .inl ⟨_, SqL.of (stl _ _ eR), rfl⟩, ?_⟩
    cases hze : zs.isEmpty with
    | true =>
      have hse : (suspF bs ts ps).isEmpty = true := by
        cases zs with
        | nil => rw [List.length_nil] at hzl; exact List.isEmpty_iff.mpr (List.eq_nil_of_length_eq_zero hzl.symm)
        | cons => cases hze
      have em : mustF bs ts ps = [] := by unfold mustF; rw [if_pos hse]
      refine iteF ⟨_, rfl, q tl [] ps _ ntlH (n1.trans (NoTab.same stl)) (t1.same stl) upd_same hps ?_ fun z => absurd (List.isEmpty_iff.mp hse) z⟩
      rw [em]
      exact ThgL.nil
    | false =>
      have hse : ¬ (suspF bs ts ps).isEmpty = true := fun z => by
        have := List.isEmpty_iff.mp z
        rw [this] at hzl
        rw [List.eq_nil_of_length_eq_zero hzl] at hze
        cases hze
      have em : mustF bs ts ps = bs.filterMap fun B => mrowO B.mark (MustR B (suspF bs ts ps)) := by unfold mustF; rw [if_neg hse]
      have hrow := hnear ps hps
      refine iteT ⟨_, rfl, a, rfl, ?_⟩
      refine for_seqS (xs := xs) ha.sq stl (fun i σ Hx => ∃ (ys : List V) (y4 y5 : Option V), σ = [some (.ref a), some vt, some (.ref R), some (.ref tl), y4, y5] ∧ Same H1 Hx ∧ Hx tl = some (.lst ys) ∧ ThgL [tl] Hx ys (((bs.take i).filterMap fun B => mrowO B.mark (MustR B (suspF bs ts ps))).map mrowD) ∧ ∀ B ∈ bs.take i, (canon (MustR B (suspF bs ts ps))).length ≤ 8001) ⟨[], _, _, rfl, stl, upd_same, ThgL.nil, fun _ z => nomatch z⟩ (fun i σ Hx hP => ?_) (fun i v σ Hx hx' hP => ?_) (fun σ Hx hP => ?_)
      · obtain ⟨_, _, _, rfl, sx, _⟩ := hP
        exact sx
      · obtain ⟨ys, y4, y5, rfl, sx, etl, hys, hfw⟩ := hP
        obtain ⟨B, d, eb, hB, hbv⟩ := hx.bat hR hx'
        have hBm := List.mem_of_getElem? eb
        have hb := hC.bat B hBm
        have hi : i < bs.length := (List.getElem?_eq_some_iff.mp eb).1
        have etake : ((bs.take (i + 1)).filterMap fun B => mrowO B.mark (MustR B (suspF bs ts ps))) = ((bs.take i).filterMap fun B => mrowO B.mark (MustR B (suspF bs ts ps))) ++ (mrowO B.mark (MustR B (suspF bs ts ps))).toList := by
          rw [List.take_add_one, eb, List.filterMap_append]
          cases e : mrowO B.mark (MustR B (suspF bs ts ps)) with
          | none => simp [e]
          | some r => simp [e]
        have hbl := hC.bl
        have hyl : ys.length ≤ 100 := by
          rw [hys.1, List.length_map]
          have := List.length_filterMap_le (fun B => mrowO B.mark (MustR B (suspF bs ts ps))) (bs.take i)
          rw [List.length_take] at this
          omega
        refine ⟨_, rfl, _, rfl, v, R, B, d, zs, suspF bs ts ps, cs, [R], rfl, hB, hbv.same sx, hb, htn ps hps, sx _ _ eR, hz.same sx, hrow, fun l2 rs2 H3 nl2 ⟨ws2, el2, hws2⟩ ht hl2 s3 => ?_⟩
        have ec := ht.canon
        have hfw2 : ∀ B' ∈ bs.take (i + 1), (canon (MustR B' (suspF bs ts ps))).length ≤ 8001 := fun B' hB' => by
          rw [List.take_add_one, eb] at hB'
          rcases List.mem_append.mp hB' with z | z
          · exact hfw B' z
          · rw [List.mem_singleton.mp z, ← ec]
            have := htn ps hps
            omega
        have etl3 := s3 _ _ etl
        have hys3 := hys.same s3
        refine ⟨_, rfl, !ws2.isEmpty, .inl ⟨_, SqL.of el2, rfl⟩, ?_⟩
        cases hw : ws2 with
        | nil =>
          have er : rs2 = [] := List.eq_nil_of_length_eq_zero (by rw [← hws2.1, hw]; rfl)
          refine iteF ⟨ys, _, _, rfl, sx.trans s3, etl3, ?_⟩
          have emo : mrowO B.mark (MustR B (suspF bs ts ps)) = none := by
            unfold mrowO
            rw [if_pos (by rw [← ec]; exact er)]
          rw [etake, emo, Option.toList_none, List.append_nil]
          exact ⟨hys3, hfw2⟩
        | cons w0 wr =>
          have er : ¬ rs2 = [] := fun z => by
            have := hws2.1
            rw [hw, z] at this
            cases this
          have emo : mrowO B.mark (MustR B (suspF bs ts ps)) = some (B.mark, rs2) := by
            unfold mrowO
            rw [if_neg (by rw [← ec]; exact er), ← ec]
          refine iteT ?_
          obtain ⟨ba, ab, vb, rfl, eba, _⟩ := (hbv.same (sx.trans s3)).bat hB
          refine ⟨_, rfl, .inl ⟨rfl, _, SqL.of etl3⟩, _, rfl, ba, _, 0, .str B.mark, rfl, rfl, .inl (.inl eba), atI_nat (j := 0) rfl, _, rfl, (by show 2 ≤ sizeLine; decide), fun t nt => ?_⟩
          have st := same_upd (o := .tup [.str B.mark, .ref l2]) nt
          have etl4 := st _ _ etl3
          have nl2' : l2 ≠ tl := fun z => by rw [z, etl] at nl2; cases nl2
          refine ⟨tl, _, _, rfl, rfl, etl4, small1000 (by omega), ys ++ [.ref t], _, _, rfl, fun y o e => ?_, upd_same, ?_, hfw2⟩
          · rw [upd_ne (ne_of_none e ntl)]
            exact st _ _ ((sx.trans s3) y o e)
          · rw [etake, emo, Option.toList_some, List.map_append]
            have row : Thg [tl] (upd H3 t (.tup [.str B.mark, .ref l2])) (.ref t) (mrowD (B.mark, rs2)) := mrow_thg upd_same (st _ _ el2) (hws2.same st) fun z => nl2' (List.mem_singleton.mp z)
            exact ((hys3.same st).upd etl4 (by simp)).append (ThgL.one (row.upd etl4 (by simp)))
      · obtain ⟨ys, y4, y5, rfl, sx, etl, hys, hfw⟩ := hP
        rw [hxl, List.take_length, ← em] at hys
        rw [hxl, List.take_length] at hfw
        exact ⟨_, rfl, q tl ys ps Hx ntlH (n1.trans (NoTab.same sx)) (t1.same sx) etl hps hys fun _ => hfw⟩
end

/-! ### told rows, looked up -/
theorem canon_in {pr : Int → Prop} {T : Int} (h : ∀ n, pr n → 0 ≤ n ∧ n < T) : Told pr (canon pr) := by
  classical
  let l : List (Int × Int) := ((List.range T.toNat).filter fun n : Nat => decide (pr (n : Int))).map fun n : Nat => ((n : Int), (n : Int))
  have t : Told pr (setL l) := (told_ex l).cong fun n => by
    constructor
    · rintro ⟨w, hw, a, b⟩
      obtain ⟨k, hk, rfl⟩ := List.mem_map.mp hw
      have hk := of_decide_eq_true (List.mem_filter.mp hk).2
      have a : (k : Int) ≤ n := a
      have b : n ≤ (k : Int) := b
      have : n = (k : Int) := by omega
      rw [this]
      exact hk
    · intro hp
      obtain ⟨h1, h2⟩ := h n hp
      refine ⟨((n.toNat : Int), (n.toNat : Int)), List.mem_map.mpr ⟨n.toNat, List.mem_filter.mpr ⟨List.mem_range.mpr (by omega), decide_eq_true (by rw [Int.toNat_of_nonneg h1]; exact hp)⟩, rfl⟩, ?_, ?_⟩
      · show ((n.toNat : Nat) : Int) ≤ n
        omega
      · show n ≤ ((n.toNat : Nat) : Int)
        omega
  rw [← t.canon]
  exact t
abbrev Mrow := Str × List (Int × Int)
def lkM (os : List Mrow) (m : Str) : List (Int × Int) := match os.find? fun r => decide (r.1 = m) with
  | some r => r.2
  | none => []
noncomputable def rowsP (pr : Bat3 → Int → Prop) (bs : List Bat3) : List Mrow := bs.filterMap fun B => mrowO B.mark (pr B)
theorem mrowO_mark {m : Str} {pr : Int → Prop} {r : Mrow} (e : mrowO m pr = some r) : r.1 = m ∧ r.2 = canon pr := by
  unfold mrowO at e
  split at e
  · cases e
  · cases e; exact ⟨rfl, rfl⟩
theorem lk_none {pr : Bat3 → Int → Prop} : ∀ {bs : List Bat3} {m : Str}, m ∉ bs.map Bat3.mark → lkM (rowsP pr bs) m = []
  | [], _, _ => rfl
  | B :: r, m, h => by
    have ih := lk_none (pr := pr) (bs := r) (m := m) fun z => h (List.mem_cons_of_mem _ z)
    unfold rowsP
    rw [List.filterMap_cons]
    cases e : mrowO B.mark (pr B) with
    | none => exact ih
    | some x =>
      have hx := (mrowO_mark e).1
      have hne : x.1 ≠ m := fun z => h (by rw [← z, hx]; exact List.mem_cons_self ..)
      show lkM (x :: rowsP pr r) m = []
      unfold lkM
      rw [List.find?_cons_of_neg (by rw [decide_eq_false hne]; exact fun z => nomatch z)]
      exact ih
theorem lk_rows {pr : Bat3 → Int → Prop} : ∀ {bs : List Bat3} {B : Bat3}, (bs.map Bat3.mark).Nodup → B ∈ bs → lkM (rowsP pr bs) B.mark = canon (pr B)
  | [], _, _, h => nomatch h
  | C :: r, B, nd, h => by
    obtain ⟨n1, n2⟩ := List.nodup_cons.mp nd
    rcases List.mem_cons.mp h with e | h
    · subst e
      unfold rowsP
      rw [List.filterMap_cons]
      cases e : mrowO B.mark (pr B) with
      | none =>
        have e0 : canon (pr B) = [] := by
          unfold mrowO at e
          split at e
          · assumption
          · cases e
        rw [e0]
        exact lk_none n1
      | some x =>
        obtain ⟨h1, h2⟩ := mrowO_mark e
        show lkM (x :: rowsP pr r) B.mark = _
        unfold lkM
        rw [List.find?_cons_of_pos (by rw [decide_eq_true h1])]
        exact h2
    · have ih := lk_rows (pr := pr) n2 h
      have hne : C.mark ≠ B.mark := fun z => n1 (z ▸ List.mem_map.mpr ⟨B, h, rfl⟩)
      unfold rowsP
      rw [List.filterMap_cons]
      cases e : mrowO C.mark (pr C) with
      | none => exact ih
      | some x =>
        have hx := (mrowO_mark e).1
        show lkM (x :: rowsP pr r) B.mark = _
        unfold lkM
        rw [List.find?_cons_of_neg (by rw [decide_eq_false (by rw [hx]; exact hne)]; exact fun z => nomatch z)]
        exact ih
theorem Thg.mrow {cs : List Addr} {H : Hp} {v : V} {r : Str × List (Int × Int)} (h : Thg cs H v (mrowD r)) : ∃ T x, v = .ref T ∧ H T = some (.tup [.str r.1, x]) ∧ Thg cs H x (.list (r.2.map pairD)) := by
  obtain ⟨T, xs, rfl, eT, h1⟩ := h.tuple
  obtain ⟨x1, w1, rfl, g1, h2⟩ := h1.inv
  obtain ⟨x2, w2, rfl, g2, h3⟩ := h2.inv
  rw [h3.inv0, g1.inv_str] at eT
  exact ⟨T, x2, rfl, eT, g2⟩
theorem valV_one {m m' : Str} (h : (Sum.inr m : Key) = Sum.inr m') : m = m' := Sum.inr.inj h
/-- what a dict of told rows holds -/
def RowDic (cs : List Addr) (H : Hp) (kvs : List (Key × V)) (rows : List (Str × List (Int × Int))) : Prop := (∀ m v, valV kvs (.inr m) = some v → ∃ r ∈ rows, r.1 = m ∧ Thg cs H v (.list (r.2.map pairD))) ∧ ∀ r ∈ rows, ∃ v, valV kvs (.inr r.1) = some v
theorem RowDic.put {cs : List Addr} {H : Hp} {kvs : List (Key × V)} {rows : List (Str × List (Int × Int))} {r : Str × List (Int × Int)} {v : V} (h : RowDic cs H kvs rows) (hv : Thg cs H v (.list (r.2.map pairD))) : RowDic cs H (putK kvs (.inr r.1) v) (rows ++ [r]) := by
  refine ⟨fun m u e => ?_, fun r' hr' => ?_⟩
  · rw [valV_put] at e
    by_cases c : (Sum.inr m : Key) = Sum.inr r.1
    · rw [if_pos c] at e
      cases e
      exact ⟨r, List.mem_append_right _ (List.mem_singleton.mpr rfl), (valV_one c).symm, hv⟩
    · rw [if_neg c] at e
      obtain ⟨r', hr', e1, e2⟩ := h.1 m u e
      exact ⟨r', List.mem_append_left _ hr', e1, e2⟩
  · rw [valV_put]
    by_cases c : (Sum.inr r'.1 : Key) = Sum.inr r.1
    · rw [if_pos c]
      exact ⟨v, rfl⟩
    · rw [if_neg c]
      rcases List.mem_append.mp hr' with z | z
      · exact h.2 r' z
      · rw [List.mem_singleton.mp z] at c
        exact absurd rfl c
theorem rows_dic {K : PySem.W.Frag} {cs : List Addr} {H : Hp} : ∀ {zs : List V} {rows : List (Str × List (Int × Int))}, ThgL cs H zs (rows.map mrowD) → ∀ (pre : List (Key × V)) (done : List (Str × List (Int × Int))), RowDic cs H pre done → ∃ (ws : List Addr) (kvs : List (Key × V)), zs = ws.map V.ref ∧ Paired (fun p kv => SqT K H p [kV kv.1, kv.2]) ws kvs ∧ RowDic cs H (mergeK pre kvs) (done ++ rows)
  | _, [], h, pre, done, hd => ⟨[], [], h.inv0, .nil, by rw [List.append_nil]; exact hd⟩
  | _, r :: rows, h, pre, done, hd => by
    obtain ⟨x, ys, rfl, h1, h2⟩ := ThgL.inv h
    obtain ⟨T, u, rfl, eT, hu⟩ := h1.mrow
    obtain ⟨ws, kvs, e1, hp, hr⟩ := rows_dic h2 (putK pre (.inr r.1) u) (done ++ [r]) (hd.put hu)
    refine ⟨T :: ws, (.inr r.1, u) :: kvs, by rw [e1]; rfl, .cons (.inl (.inl eT)) hp, ?_⟩
    rw [List.append_cons]
    exact hr
theorem lk_at : ∀ {ms : List Mrow} {r : Mrow}, (ms.map Prod.fst).Nodup → r ∈ ms → lkM ms r.1 = r.2
  | [], _, _, h => nomatch h
  | x :: ms, r, nd, h => by
    obtain ⟨n1, n2⟩ := List.nodup_cons.mp nd
    rcases List.mem_cons.mp h with e | h
    · subst e
      unfold lkM
      rw [List.find?_cons_of_pos (by rw [decide_eq_true rfl])]
    · have ih := lk_at n2 h
      have hne : x.1 ≠ r.1 := fun z => n1 (z ▸ List.mem_map.mpr ⟨r, h, rfl⟩)
      unfold lkM
      rw [List.find?_cons_of_neg (by rw [decide_eq_false hne]; exact fun z => nomatch z)]
      exact ih
theorem lk_no {ms : List Mrow} {m : Str} (h : ∀ r ∈ ms, r.1 ≠ m) : lkM ms m = [] := by
  unfold lkM
  rw [List.find?_eq_none.mpr fun r hr => by rw [decide_eq_false (h r hr)]; exact fun z => nomatch z]
theorem range_any {α : Type} (d : α) (f : α → Bool) : ∀ l : List α, (((List.range l.length).map fun j => f (l.getD j d)).any id) = l.any f := fun l => by
  have e : (List.range l.length).map (fun j => f (l.getD j d)) = l.map f := by
    refine List.ext_getElem? fun i => ?_
    rw [List.getElem?_map, List.getElem?_map]
    by_cases c : i < l.length
    · rw [List.getElem?_range c, List.getElem?_eq_getElem c]
      show some (f (l.getD i d)) = some (f l[i])
      rw [List.getD_eq_getElem?_getD, List.getElem?_eq_getElem c]
      rfl
    · rw [List.getElem?_eq_none (by rw [List.length_range]; omega), List.getElem?_eq_none (by omega)]
      rfl
  rw [e, List.any_map]
  rfl
theorem lc_mapW {α : Type} (k : α → V) (f : Nat → α) {J : It} {n : Nat} {G : Hp → Prop} {Y : Nat → Hp → V → Hp → Prop} (w : Walk J n G Y) {g : TG} {tt : TT} {te : TE} {vs : List Nat} {σ : L2.St} {H1 : Hp} {D : Addr} {Qd : Hp → Prop} (nD : H1 D = none) (hz : n < sizeLine) (hG : ∀ H, Same H1 H → G H)
    (turn : ∀ i x H H' (Kt : V → Hp → Prop) (Kn : Hp → Prop), i < n → Same H1 H → Y i H x H' → (∀ H4, Same H H4 → Kt (k (f i)) H4) → g x (wipe σ vs) H' fun σ2 H2 => wipe σ2 vs = wipe σ vs ∧ tt σ2 H2 fun b H3 => if b = true then te σ2 H3 Kt else Kn H3)
    (fin : ∀ H, Same H1 H → H D = some (.lst (((List.range n).map f).map k)) → Qd H) : LcW J g tt te vs σ D Qd H1 := by
  refine lc_it w (fun j H => Same H1 H ∧ H D = some (.lst (((List.range j).map f).map k))) ⟨same_upd nD, upd_same⟩ (fun i H _ p => hG H p.1) (fun i x H H' hi hP hy => ?_) (fun H hP => fin H hP.1 hP.2)
  obtain ⟨sm, eD⟩ := hP
  refine turn i x H H' _ _ hi sm hy fun H4 s4 => ⟨_, s4 _ _ eD, by rw [List.length_map, List.length_map, List.length_range]; omega, fun b o e => ?_, ?_⟩
  · rw [upd_ne (ne_of_none e nD)]
    exact s4 _ _ (sm b o e)
  · rw [upd_same, List.range_succ, List.map_append, List.map_append]
    rfl
theorem rows5_cs {b l : Addr} {H : Hp} {rows : List Row5} {n0 n1 t : Int} (hb : H b = some (.lst [.int n0, .int n1, .int t])) (h : Thg [] H (.ref l) (.list (rows.map row5D))) : Thg [b] H (.ref l) (.list (rows.map row5D)) := by
  obtain ⟨l', xs, e, el, _, hx⟩ := h.list
  cases e
  refine ThgL.lst ⟨hx.1, fun i x d e1 e2 => ?_⟩ el (fun z => ?_)
  · rw [List.getElem?_map] at e2
    obtain ⟨r, er, rfl⟩ := Option.map_eq_some_iff.mp e2
    obtain ⟨T, rfl, eT⟩ := (hx.2 i x _ e1 (by rw [List.getElem?_map, er]; rfl)).row5v
    exact ThgL.tup (.cons (.str _) (.cons (.int _) (.cons (thg_opt _) (.cons (.int _) (.one (.int _)))))) eT
  · rw [List.mem_singleton.mp z, hb] at el
    cases el
    obtain ⟨r, er, hr⟩ := hx.atM (i := 0) (x := V.int n0) rfl
    obtain ⟨T, e, _⟩ := hr.row5v
    cases e
theorem mrows_cs {b l : Addr} {H : Hp} {rows : List Mrow} {n0 n1 t : Int} (hb : H b = some (.lst [.int n0, .int n1, .int t])) (h : Thg [] H (.ref l) (.list (rows.map mrowD))) : Thg [b] H (.ref l) (.list (rows.map mrowD)) := by
  obtain ⟨l', xs, e, el, _, hx⟩ := h.list
  cases e
  refine ThgL.lst ⟨hx.1, fun i x d e1 e2 => ?_⟩ el (fun z => ?_)
  · rw [List.getElem?_map] at e2
    obtain ⟨r, er, rfl⟩ := Option.map_eq_some_iff.mp e2
    obtain ⟨T, y, rfl, eT, hy⟩ := (hx.2 i x _ e1 (by rw [List.getElem?_map, er]; rfl)).mrow
    obtain ⟨l2, us, rfl, el2, _, hus⟩ := hy.list
    refine ThgL.tup (.cons (.str _) (.one (ThgL.lst (prs_thg hus.prs) el2 (fun z => ?_)))) eT
    rw [List.mem_singleton.mp z, hb] at el2
    cases el2
    obtain ⟨q, a, _, e, _⟩ := prs_at hus.prs (i := 0) (x := V.int n0) rfl
    cases e
  · rw [List.mem_singleton.mp z, hb] at el
    cases el
    obtain ⟨r, er, hr⟩ := hx.atM (i := 0) (x := V.int n0) rfl
    obtain ⟨T, y, e, _, _⟩ := hr.mrow
    cases e

/-! ### what is seen of a case -/
theorem seen_ok {bs : List Bat3} {ts : List Tst} (hC : CaseOk bs ts) (p : Str) : WinOk (seenF bs ts p) := fun s hs q' e => by
  obtain ⟨t0, h0, rfl⟩ := List.mem_map.mp hs
  obtain ⟨B, hB', hm, ew, k0, k1⟩ := winT_of hC h0 p
  have e : winT bs p t0 = some q' := e
  rw [ew] at e
  exact winF_ok (hC.bat B hB') k0 k1 e
theorem seen_bad {bs : List Bat3} {ts : List Tst} (hb : ∃ t ∈ ts, t.bad = true) (p : Str) : ∃ s ∈ seenF bs ts p, s.2 = true := by
  obtain ⟨t0, h0, hb0⟩ := hb
  exact ⟨(winT bs p t0, t0.bad), List.mem_map.mpr ⟨t0, h0, rfl⟩, hb0⟩
theorem seen_end {bs : List Bat3} {ts : List Tst} (hC : CaseOk bs ts) (p : Str) {m : Int} (hm : ∀ B ∈ bs, ∀ p k r, 0 ≤ k → k < B.tins → winF B p k = some r → r.2 + 2 ≤ m) : EndsB (seenF bs ts p) m := fun s hs q' e => by
  obtain ⟨t0, h0, rfl⟩ := List.mem_map.mp hs
  obtain ⟨B, hB', _, ew, k0, k1⟩ := winT_of hC h0 p
  have e : winT bs p t0 = some q' := e
  rw [ew] at e
  exact hm B hB' p _ _ k0 k1 e
theorem SrtT.len {bs : List Bat3} {ts : List Tst} {ps : List Str} (h : SrtT (PlaceP bs) ps) (hC : CaseOk bs ts) : ps.length < 64 := by
  obtain ⟨zs, hl, hz⟩ := hC.few
  exact Nat.lt_of_le_of_lt (nodup_len h.nd fun x hx => hz x ((h.mem x).mp hx)) hl
theorem prs_ext {H H' : Hp} {vs : List V} {ps : List (Int × Int)} (h : Prs H vs ps) (k : ∀ b x y, H b = some (.tup [.int x, .int y]) → H' b = some (.tup [.int x, .int y])) : Prs H' vs ps := ⟨h.1, fun i p e => let ⟨a, e1, e2⟩ := h.2 i p e; ⟨a, e1, k _ _ _ e2⟩⟩

/-! ### rows and the faults within them -/
theorem ris_end : ∀ {lo : Int} {rs : List (Int × Int)}, Ris lo rs → ∀ g ∈ rs, ¬ InS rs (g.2 + 1)
  | lo, p :: r, hR, g, hg, z => by
    rcases List.mem_cons.mp hg with rfl | hg
    · rcases inS_cons.mp z with y | y
      · omega
      · have := Ris.low hR.2.2 y
        omega
    · obtain ⟨h1, h2⟩ := Ris.le hR.2.2 g hg
      rcases inS_cons.mp z with y | y
      · omega
      · exact ris_end hR.2.2 g hg y
theorem runs_ex {seen : Seen} {m : Int} (hok : WinOk seen) (he : EndsB seen m) (h0 : 0 ≤ m) : ∃ rs, Told (FreeM seen m) rs := by
  have t1 := told_ex (goodsF seen)
  have hR0 : Ris 0 (setL (goodsF seen)) := t1.nneg fun n hn => by
    obtain ⟨w, hw, e1, e2⟩ := hn
    have := hok _ (mem_goods.mp hw) w rfl
    omega
  have hend := setL_end he
  obtain ⟨g1, g2⟩ := gaps_in hR0 (Int.le_refl 0) h0 fun p hp => hend p.2 ⟨p, hp, (Ris.le hR0 p hp).2, Int.le_refl _⟩
  exact ⟨_, ⟨0, g1⟩, fun n => (g2 n).trans ⟨fun h => ⟨h.1, fun z => h.2 ((t1.same n).mpr z)⟩, fun h => ⟨h.1, fun z => h.2 ((t1.same n).mp z)⟩⟩⟩
section
variable {seen : Seen} {m : Int} (hok : WinOk seen) (he : EndsB seen m) (h0 : 0 ≤ m) (hbad : ∃ s ∈ seen, s.2 = true) {fs : List (Int × Int)} (hf : FaultsL seen m fs)
include hok he h0 hbad hf
/-- each fault lies within a row -/
theorem fault_row {f : Int × Int} (hm : f ∈ fs) : ∃ r ∈ rowsAtF seen, r.1 ≤ f.1 ∧ (∀ e, r.2.1 = some e → f.2 ≤ e) ∧ f.1 ≤ r.2.2.1 ∧ r.2.2.2 ≤ f.2 := by
  obtain ⟨rs, t⟩ := runs_ex hok he h0
  obtain ⟨⟨b0, b1, b2⟩, hF⟩ := (hf f.1 f.2).mp hm
  obtain ⟨_, hn, hbd, hcl⟩ := isF_iff.mp hF
  have free : ∀ n, f.1 ≤ n → n ≤ f.2 → FreeM seen m n := fun n n1 n2 => ⟨by omega, fun ⟨w, hw, e1, e2⟩ => hcl w hw ⟨by omega, by omega⟩⟩
  obtain ⟨g, hg, g1, g2⟩ := (t.same f.1).mpr (free f.1 (Int.le_refl _) b1)
  have hy : f.2 ≤ g.2 := by
    rcases Int.lt_or_le g.2 f.2 with c | c
    · obtain ⟨lo, hR⟩ := t.ris
      exact absurd ((t.same (g.2 + 1)).mpr (free _ (by omega) (by omega))) (ris_end hR g hg)
    · exact c
  have h8 := row8_ok hok he hbad hf t hg
  cases e8 : row8 seen m g with
  | none => exact absurd ⟨g1, hy⟩ (h8.no e8 f hm)
  | some r =>
    obtain ⟨r1, r2, _, lx, _, ly⟩ := h8.yes r e8
    refine ⟨r, ?_, by omega, fun e z => ?_, lx f hm ⟨g1, hy⟩, ly f hm ⟨g1, hy⟩⟩
    · rw [← rows8 hok he h0 t]
      exact List.mem_filterMap.mpr ⟨g, hg, e8⟩
    · rw [r2] at z
      split at z
      · cases z
        exact hy
      · cases z
/-- of each row: the fault of all its minutes, the last that begins, the first that ends -/
theorem row_fault {r : Row4} (hr : r ∈ rowsAtF seen) : 0 ≤ r.1 ∧ (∃ y, (r.1, y) ∈ fs ∧ (r.2.1 = some y ∨ r.2.1 = none ∧ y = m)) ∧ (∃ f ∈ fs, f.1 = r.2.2.1) ∧ ∃ f ∈ fs, f.2 = r.2.2.2 := by
  obtain ⟨rs, t⟩ := runs_ex hok he h0
  rw [← rows8 hok he h0 t] at hr
  obtain ⟨g, hg, e8⟩ := List.mem_filterMap.mp hr
  have hR : Ris 0 rs := t.nneg fun n hn => hn.1.1
  obtain ⟨h1, h2⟩ := Ris.le hR g hg
  have free : ∀ n, g.1 ≤ n → n ≤ g.2 → FreeM seen m n := fun n a b => (t.same n).mp ⟨g, hg, a, b⟩
  have h3 := (free g.2 h2 (Int.le_refl _)).1.2
  have h8 := row8_ok hok he hbad hf t hg
  obtain ⟨r1, r2, ⟨fx, fxm, fxr, fxe⟩, lx, ⟨fy, fym, fyr, fye⟩, ly⟩ := h8.yes r e8
  obtain ⟨_, hn, hbd, _⟩ := isF_iff.mp ((hf fx.1 fx.2).mp fxm).2
  have whole : (g.1, g.2) ∈ fs := (hf g.1 g.2).mpr ⟨⟨h1, h2, h3⟩, isF_iff.mpr ⟨h2, hn, fun w hw => ⟨by have := (hbd w hw).1; omega, by have := (hbd w hw).2; omega⟩, clear_of hok h2 fun n n1 n2 => (free n n1 n2).2⟩⟩
  refine ⟨by omega, ⟨g.2, by rw [r1]; exact whole, ?_⟩, ⟨fx, fxm, fxe⟩, fy, fym, fye⟩
  rw [r2]
  by_cases c : g.2 < m
  · rw [if_pos c]
    exact .inl rfl
  · rw [if_neg c]
    exact .inr ⟨rfl, by omega⟩
/-- some fault meets a window just where some row does -/
theorem can_iff {w : Int × Int} (hw : w.1 ≤ w.2) (hwm : w.2 + 2 ≤ m) : (∃ f ∈ fs, w.1 ≤ f.2 ∧ f.1 ≤ w.2) ↔ ∃ r ∈ rowsAtF seen, Old.meetB r.1 r.2.1 w = true := by
  constructor
  · rintro ⟨f, hm, a, b⟩
    obtain ⟨r, hr, h1, h2, _⟩ := fault_row hok he h0 hbad hf hm
    refine ⟨r, hr, ?_⟩
    unfold Old.meetB
    rw [Bool.and_eq_true, decide_eq_true_eq]
    refine ⟨by omega, ?_⟩
    cases e : r.2.1 with
    | none => rfl
    | some l =>
      have := h2 l e
      exact decide_eq_true (by omega)
  · rintro ⟨r, hr, hm⟩
    obtain ⟨_, ⟨y, hy, hor⟩, _⟩ := row_fault hok he h0 hbad hf hr
    unfold Old.meetB at hm
    rw [Bool.and_eq_true, decide_eq_true_eq] at hm
    refine ⟨_, hy, ?_, hm.1⟩
    show w.1 ≤ y
    rcases hor with e | ⟨_, rfl⟩
    · rw [e] at hm
      exact of_decide_eq_true hm.2
    · omega
/-- each fault meets a window just where each row's last to begin and first to end do -/
theorem must_iff {w : Int × Int} : (∀ f ∈ fs, w.1 ≤ f.2 ∧ f.1 ≤ w.2) ↔ ∀ r ∈ rowsAtF seen, r.2.2.1 ≤ w.2 ∧ w.1 ≤ r.2.2.2 := by
  constructor
  · intro h r hr
    obtain ⟨_, _, ⟨fx, h1, e1⟩, fy, h2, e2⟩ := row_fault hok he h0 hbad hf hr
    have a := h fx h1
    have b := h fy h2
    omega
  · intro h f hm
    obtain ⟨r, hr, _, _, h1, h2⟩ := fault_row hok he h0 hbad hf hm
    have := h r hr
    omega
theorem none_iff : fs = [] ↔ rowsAtF seen = [] := by
  constructor
  · intro h
    refine List.eq_nil_iff_forall_not_mem.mpr fun r hr => ?_
    obtain ⟨_, ⟨y, hy, _⟩, _⟩ := row_fault hok he h0 hbad hf hr
    rw [h] at hy
    cases hy
  · intro h
    refine List.eq_nil_iff_forall_not_mem.mpr fun f hm => ?_
    obtain ⟨r, hr, _⟩ := fault_row hok he h0 hbad hf hm
    rw [h] at hr
    cases hr
end

/-! ### sorted(set(xs)) of a list of texts -/
namespace StS
open PySem PySem.Spec PyProof.Rows L2
section
variable {P : Program} {w : World} {A : Around} {E : Value → Shared → Prop} {s : Shared}
abbrev setX (w : World) : Obj := { cls := .type "set", dict := none, data := .set #[] 0 (.fresh 0 0 (!w.params.followText "set-order")) }
theorem set_update_texts {I : Addr} {fp wr : List Addr} {G : Array GenState → Array GenState → Prop} {n : Nat} {Pv : Nat → Value → Prop} {St : Nat → Shared → Prop} {R : Result → Shared → Prop}
    (W : WalksS P w A.in1 I fp wr G n Pv St) (S : Addr) (apart : S ∉ fp) (xs : List Str) (hn : n = xs.length) (hb : xs.length + 1 < scanBound) (vals : ∀ i v, Pv i v → ∃ k t, xs[i]? = some k ∧ v = .str k t) :
    ∀ (k i : Nat) (s : Shared), n - i = k → i ≤ n → St i s → (∃ c, c ≤ i ∧ SetS w s.heap S (fun j => decide (j ∈ xs.take i)) c) →
      (∀ s' c, Moved (S :: wr) G s s' → c ≤ n → SetS w s'.heap S (fun j => decide (j ∈ xs)) c → R (.ok (.ret .none)) s') →
      codeAny (model P w) A (.builtin "set.update.loop" ⟨[.ref S, .ref I], []⟩) R s := by
  have off : S ∉ wr := fun h => apart (W.sub _ h)
  have more : ∀ b ∈ wr, b ∈ S :: wr := fun b hb => List.mem_cons_of_mem _ hb
  intro k
  induction k with
  | zero =>
    intro i s left le at_ ⟨c, few, has⟩ fin
    obtain rfl : i = n := by omega
    refine codeAny_builtin F.entry_set_update_loop ?_
    rw [Around.under_plainId F.plain_set_update_loop _]
    show wpAny _ A.in1 (pyNext (.ref I) >>= _) _ _ s
    refine wpAny_bind (W.done s _ _ at_ fun s2 m => ?_)
    show wpAny _ A.in1 (ret Value.none) _ _ s2
    rw [List.take_of_length_le (by omega)] at has
    exact wpAny_pure (fin s2 c (m.mono more) few (has.at fun o e => m.heap S o off e))
  | succ k ih =>
    intro i s left le at_ ⟨c, few, has⟩ fin
    have lt : i < n := by omega
    refine codeAny_builtin F.entry_set_update_loop ?_
    rw [Around.under_plainId F.plain_set_update_loop _]
    show wpAny _ A.in1 (pyNext (.ref I) >>= _) _ _ s
    refine wpAny_bind (W.item i s _ _ lt at_ fun v s2 hv at2 m => ?_)
    obtain ⟨x, u, ex, rfl⟩ := vals i v hv
    have has2 : SetS w s2.heap S (fun j => decide (j ∈ xs.take i)) c := has.at fun o e => m.heap S o off e
    show wpAny _ A.in1 (holding [Value.str x u] (setAdd S (.str x u)) >>= _) _ _ s2
    refine wpAny_bind (wpAny_holding ?_)
    unfold setAdd
    refine wpAny_holding ?_
    refine wpAny_bind ((strKind P w).pyHash (k := x) (isK.mpr rfl) ?_)
    refine add_hashed (s := { s2 with toks := s2.toks + 1 }) has2 (by omega) fun h2 but has3 => ?_
    have has4 : SetS w h2 S (fun j => decide (j ∈ xs.take (i + 1))) (if decide (x ∈ xs.take i) = true then c else c + 1) := has3.congr (fun j => by
      rw [List.take_add_one, ex]
      simp [List.mem_append]) rfl
    have few2 : (if decide (x ∈ xs.take i) = true then c else c + 1) ≤ i + 1 := by
      split <;> omega
    refine wpAny_pure ⟨plainId_quiet F.plain_set_update_loop _, ih (i + 1) _ (by omega) lt (W.frame _ s2 _ _ at2 (Nat.le_succ _) fun b hb o e => ?_) ⟨_, few2, has4⟩ fun s3 c2 m3 few3 has5 => ?_⟩
    · rw [but.2 b (fun h : b = S => apart (by rw [← h]; exact hb))]
      exact e
    · refine fin s3 c2 (Moved.trans W.gtrans ((m.mono more).then_heap (Nat.le_succ _) fun b o hb e => ?_) m3) few3 has5
      rw [but.2 b (fun h : b = S => hb (by rw [h]; exact List.mem_cons_self))]
      exact e
set_option maxRecDepth 100000 in
set_option maxHeartbeats 3200000 in
theorem set_from_texts {from_ : Addr} {vs : Array Value} (txts : List Str) {Qv : Value → Shared → Prop} (calm : A.handled = none) (isl : s.heap.IsList from_ vs) (size_is : vs.size = txts.length) (vals : ∀ (i : Nat) (v : Value), vs[i]? = some v → ∃ k t, txts[i]? = some k ∧ v = .str k t) (few : txts.length + 1 < scanBound)
    (end_ : ∀ (hp' : Heap) (tk c : Nat), SetS w hp' s.heap.objs.size (fun j => decide (j ∈ txts)) c → c ≤ txts.length → (∀ b o, s.heap.get? b = some o → hp'.get? b = some o) → Qv (.ref s.heap.objs.size) { s with heap := hp', toks := tk }) :
    wpAny (model P w) A (call (.type "set") [.ref from_]) Qv E s := by
  obtain ⟨c0, tl0, mro0⟩ := F.called_set.mro
  have made0 := F.called_set.made
  have sub0 := F.called_set.sub
  refine wpAny_call (codeAny_of_tree ?_)
  show wpAny _ _ (callAny (.type "set") _) _ _ _
  refine wpAny_pure ⟨Code.quiet_builtin _ (by decide +kernel), codeAny_builtin F.entry_type_call ?_⟩ -- the type is called
  rw [Around.under_plain (weight_type_call_type "set" [.ref from_] []) rfl]
  have no_type := F.called_set.notType
  have can_make := F.called_set.canCreate
  have checked := F.typeCall_set_1 (.ref from_)
  repeat (any_goals (first | assumption | wp_step | fail))
  refine codeAny_mono (code_set_led1 (.ref from_) (E := E) (Q₁ := fun made st => made = .ref s.heap.objs.size ∧ st = { s with heap := s.heap.push (setX w) }) ⟨rfl, rfl⟩) fun r1 st1 told => ?_
  cases r1 with
  | error e => exact told
  | ok fl =>
    cases fl with
    | ret made =>
      obtain ⟨rfl, rfl⟩ := told
      have here : (s.heap.push (setX w)).get? s.heap.objs.size = some (setX w) := Heap.get?_push_size _ rfl
      have isS : Shared.TypeIs { s with heap := s.heap.push (setX w) } (.ref s.heap.objs.size) "set" := ⟨_, here, rfl⟩
      have look := F.called_set.init.lookup
      have bnd := F.called_set.init.bind (.ref s.heap.objs.size)
      repeat (any_goals (first | assumption | wp_step | fail))
      refine codeAny_mono (codeAny_call_builtin (R := wants (fun r st => r = .none ∧ ∃ hp' tk c, st = { s with heap := hp', toks := tk } ∧ SetS w hp' s.heap.objs.size (fun j => decide (j ∈ txts)) c ∧ c ≤ txts.length ∧ (∀ b o, s.heap.get? b = some o → hp'.get? b = some o)) E) F.called_set.init.plain F.entry_set_init (check_set_init_1 isS ?_)) fun r2 st2 told2 => ?_
      · obtain ⟨ol, got, clsl, nl, datal⟩ := isl
        obtain ⟨ocls, odict, odata, oslots⟩ := ol
        simp only at clsl datal
        subst clsl; subst datal
        have got' : (s.heap.push (setX w)).get? from_ = some { cls := .type "list", dict := odict, data := .seq vs nl, slots := oslots } := Heap.get?_push_of_some _ got
        have sub1 := F.sub_list_set
        have sub2 := F.sub_list_frozenset
        have no_dict : (Value.type "list" == Value.type "dict") = false := by decide
        have isl1 : (s.heap.push (setX w)).IsList from_ vs := ⟨_, got', rfl, nl, rfl⟩
        unfold Builtin.«set.__init__» noKeywords Builtin.Frozenset.updateFrom -- its init
        generalize keepP : pyIter = PI
        wp_walk
        subst keepP
        refine wpAny_pyIter_list isl1 (wpAny_bind (wpAny_runValue ?_))
        have lt0 : from_ < s.heap.objs.size := Heap.lt_size got
        have calm3 : A.in1.in1.in1.handled = none := by simp [calm]
        have ne1 : from_ ≠ (s.heap.push (setX w)).objs.size := by
          rw [Heap.size_push]
          exact Nat.ne_of_lt (Nat.lt_succ_of_lt lt0)
        have apart : s.heap.objs.size ∉ [(s.heap.push (setX w)).objs.size, from_] := by
          rw [Heap.size_push]
          simp only [List.mem_cons, List.mem_singleton, List.not_mem_nil, or_false, not_or] -- both
          exact ⟨Nat.ne_of_lt (Nat.lt_succ_self _), Nat.ne_of_gt lt0⟩
        refine set_update_texts ((Walks.list calm3 _ from_ ne1 vs).toS) s.heap.objs.size apart txts size_is few vals (vs.size - 0) 0 _ (by omega) (Nat.zero_le _) ⟨⟨_, Heap.get?_push_size _ rfl, rfl, rfl⟩, (isl1.push _)⟩ ⟨0, Nat.le_refl 0, new_at (Heap.get?_push_of_some _ here)⟩ ?_
        intro st3 c3 moved le3 set3
        obtain ⟨hp3, g3, d3, tk3, os3⟩ := st3
        obtain rfl : g3 = s.gens := moved.gens
        obtain rfl : d3 = s.drawn := moved.drawn
        obtain rfl : os3 = s.os := moved.os
        show wpAny _ _ _ _ _ _
        refine wpAny_pure ?_
        show wpAny _ _ (ret Value.none) _ _ _
        rw [size_is] at le3
        refine wpAny_pure ⟨rfl, hp3, tk3, c3, rfl, set3, le3, fun b o e => ?_⟩
        have lt1 : b < s.heap.objs.size := Heap.lt_size e
        refine moved.heap b o (fun z => ?_) (Heap.get?_push_of_some _ (Heap.get?_push_of_some _ e))
        rcases List.mem_cons.mp z with z | z
        · exact absurd z (Nat.ne_of_lt lt1)
        · have z' := List.mem_singleton.mp z
          rw [Heap.size_push] at z'
          exact absurd z' (Nat.ne_of_lt (Nat.lt_succ_of_lt lt1))
      · cases r2 with
        | error e => exact told2
        | ok fl2 =>
          cases fl2 with
          | ret r =>
            obtain ⟨rfl, hp', tk, c', rfl, z1, z2, z3⟩ := told2
            repeat (any_goals (first | assumption | wp_step | fail))
            exact end_ _ _ _ z1 z2 z3
          | _ => exact told2.elim
    | _ => exact told.elim
end
/-- sorted(set(xs)) of texts -/
def tSortedSetT (K : PySem.W.Frag) (ta : TE) : TE := fun σ H Q => ta σ H fun x H1 => ∃ (l : Addr) (xs : List Str), x = .ref l ∧ SqL K H1 l (xs.map V.str) ∧ xs.length < 64 ∧ ∀ (ms : List Str) (p : Addr), sortedS ms = true → ms.Nodup → (∀ k, k ∈ ms ↔ k ∈ xs) → H1 p = none → Q (.ref p) (upd H1 p (.lst (ms.map V.str)))
theorem str_its : ∀ {xs : List Str} {us : List Value}, Vals (xs.map V.str) us → us.length = xs.length ∧ ∀ (i : Nat) (v : Value), us[i]? = some v → ∃ k t, xs[i]? = some k ∧ v = .str k t
  | [], _, .nil => ⟨rfl, fun _ _ e => nomatch e⟩
  | x :: xs, _, .cons r t => by
    obtain ⟨k, rfl⟩ := r
    obtain ⟨l, h⟩ := str_its t
    refine ⟨congrArg (· + 1) l, fun i v e => ?_⟩
    cases i with
    | zero => cases e; exact ⟨x, k, rfl, rfl⟩
    | succ i => exact h i v e
theorem pe_sortedSetT {X : Cx} {a : Expr} {ta : TE} {p p2 q pos : Pos} (hg : Gl X "sorted") (hm : X.mg "sorted" = none) (hg2 : Gl X "set") (hm2 : X.mg "set" = none) (ha : PE X a ta) (hc : X.calm = true := by rfl)
    (na : starEach [a] X.env = (false, eval a X.env) :: starEach [] X.env := by rfl) : PE X (.Call (.Name "sorted" p) [.Call (.Name "set" p2) [a] [] q] [] pos) (tSortedSetT X.K ta) := by
  refine ⟨fun pins s σ H Q I h => Call_ (ld_blt I hg hm boot_sorted ?_)⟩
  refine PyProof.Rows.callWith_builtin1 (PyProof.Rows.args_cons (Call_ (ld_blt I hg2 hm2 boot_set ?_)) rfl) rfl rfl
  refine PyProof.Rows.callWith_type1 (PyProof.Rows.args_cons (thn (ha.run pins s σ H _ I h) fun v s1 ⟨x, H1, I1, r1, q1⟩ => PyProof.Rows.args_nil ?_) na) na rfl
  obtain ⟨l, xs, rfl, sq, few, q1⟩ := q1
  cases r1
  obtain ⟨its, r, pl, hz⟩ := I1.list sq
  obtain ⟨z1, z2⟩ := str_its r
  refine set_from_texts xs (I1.ok.hd hc) pl.isList (by simpa using z1) (by simpa using z2) (by unfold scanBound; omega) fun hp' tk c hS le kept => PyProof.Rows.args_nil ?_
  have I2 : Inv X pins σ H1 { s1 with heap := hp', toks := tk } := I1.kept kept
  refine sorted_txts (s := { s1 with heap := hp', toks := tk }) hS (I1.ok.hd hc) (by omega) fun st p out c' ms k g o hp hg' isI up nd mem cnt => ?_
  have len : (ms.map V.str).length ≤ sizeLine := by
    rw [List.length_map, sizeLine_eq]
    omega
  have new : H1 p = none := I2.hok.fresh hp
  have J : Inv X pins σ (upd H1 p (.lst (ms.map V.str))) { ({ s1 with heap := hp', toks := tk } : Shared) with heap := st.heap, gens := st.gens, drawn := st.drawn, toks := st.toks } :=
    I2.call (ch := []) (Un.laid k hp new) (I2.hok.laid k hp ⟨len, out.toList, c', vals_of_strs isI, hg'⟩) (by rw [g]; exact I2.bare) (fun _ z => nomatch z)
  have e : st = { s1 with heap := st.heap, gens := st.gens, drawn := st.drawn, toks := st.toks } := by
    cases st
    cases s1
    cases o
    rfl
  rw [e]
  exact ⟨.ref p, _, J, rfl, q1 ms p up nd (fun k => ⟨fun z => of_decide_eq_true ((mem k).mp z), fun z => (mem k).mpr (decide_eq_true z)⟩) new⟩
end StS

/-! ### the law's own look at batches: places, how far -/
structure Sm8 (bs : List Bat3) : Prop where
  bl : bs.length ≤ 5
  pl : ∀ B ∈ bs, B.pas.length ≤ 5
  tn : ∀ B ∈ bs, B.tins ≤ 24
  en : ∀ B ∈ bs, ∀ p k r, 0 ≤ k → k < B.tins → winF B p k = some r → r.2 < 100
theorem take_len5 {bs : List Bat3} (h : ∀ B ∈ bs, B.pas.length ≤ 5) : (bs.flatMap fun B => B.pas.map Pas3.pl).length ≤ 5 * bs.length := by
  induction bs with
  | nil => exact Nat.zero_le _
  | cons B r ih =>
    have h1 := h B (List.mem_cons_self ..)
    have h2 := ih fun B' hB' => h B' (List.mem_cons_of_mem _ hB')
    rw [List.flatMap_cons, List.length_append, List.length_map, List.length_cons]
    omega

/-- few batches of few passes -/
structure Sm5 (bs : List Bat3) : Prop where
  bl : bs.length ≤ 5
  pl : ∀ B ∈ bs, B.pas.length ≤ 5
def spLPl (K : PySem.W.Frag) : Sp := fun vs H Q _ => ∃ (a : Addr) (us : List V) (bs : List Bat3) (cs : List Addr), vs = [.ref a] ∧ H a = some (.lst us) ∧ ThgL cs H us (bs.map batD) ∧ Sm5 bs ∧
  ∀ l ps H', H l = none → Same H H' → H' l = some (.lst (ps.map V.str)) → SrtT (PlaceP bs) ps → Q (.ref l) H'
abbrev sLPl : Stmt := topS 41
theorem scLPl : FnScope ["_law_batches", "_law_found", "_law_batch", "_law_one"] ["_law_batches"] (defScope sLPl) := ⟨rfl, rfl, rfl, by decide +kernel, rfl, by decide +kernel, by decide +kernel⟩
section
variable {K : PySem.W.Frag} {mg : Str → Option Value} {P : Program} {w : World} {base : Heap}
theorem ok_LPl {f : Addr} {fd : FuncData} (F : Fun K "_law_places" "_law_places" sLPl f fd) (m_sorted : mg "sorted" = none) (m_set : mg "set" = none) : FnOk P w K mg base CX0 1 f fd ["_law_batches"] (spLPl K) := by
  refine F.ok scLPl (fun vs H Q E h => ?_) (fun cdv A outer s H vs Q E hr h => ?_)
  · obtain ⟨a, us, bs, cs, rfl, _⟩ := h
    rfl
  · obtain ⟨a, us, bs, cs, rfl, ha, hu, hS8, q⟩ := h
    refine ⟨_, pss_cons (ps_set (i := 1) scLPl.nd rfl (.inl rfl) (pe_lst pa_nil))
      (pss_cons (ps_for PassesOwn.never rfl (pi_list (pv 0)) (pg_name (i := 2) scLPl.nd rfl (.inl rfl))
        (pss_one (ps_set (i := 1) scLPl.nd rfl (.inl rfl) (pe_op op_cat (pv 1) (pe_lc (own := [("_law_one", 3)]) (g := (gName 3)) (tt := tYes) (te := (tOp (rIxT K) (tVar 3) (tC (.int 1)))) rfl scLPl.nd (pi_list (pe_ix ix_tup (pv 2) pe_int (fun _ _ => rfl))) (blkOk_by (own := [("_law_one", 3)]) (N := ["_law_batches", "_law_found", "_law_batch", "_law_one"]) (sc := defScope sLPl) (by decide +kernel)) (fun _ _ _ _ _ => (pg_name (i := 3) scLPl.nd rfl (.inl rfl))) (fun _ _ _ _ _ => pts_nil) (fun _ _ _ _ _ => (pe_ix ix_tup (pv 3) pe_int (fun _ _ => rfl))))))))
      (pss_one (ps_ret (StS.pe_sortedSetT (by rfl) m_sorted (by rfl) m_set (pv 1))))), ?_⟩
    have hul : us.length = bs.length := by rw [hu.1, List.length_map]
    have hb10 := hS8.bl
    refine ⟨Nat.zero_le _, fun F nF => ?_⟩
    have sF := same_upd (o := .lst []) nF
    refine ⟨_, rfl, a, rfl, ⟨_, SqL.of (sF _ _ ha)⟩, for_list (xs := us) (fun i σ Hx => ∃ (F : Addr) (y2 y3 : Option V), σ = [some (.ref a), some (.ref F), y2, y3] ∧ Same H Hx ∧ Hx F = some (.lst (((bs.take i).flatMap fun B => B.pas.map Pas3.pl).map V.str))) ⟨F, _, _, rfl, sF, upd_same⟩ (fun i σ Hx _ hP => ?_) (fun i x σ Hx hx hP => ?_) (fun σ Hx hP => ?_)⟩
    · obtain ⟨F, y2, y3, rfl, sm, eF⟩ := hP
      exact SqL.of (sm _ _ ha)
    · obtain ⟨F, y2, y3, rfl, sm, eF⟩ := hP
      obtain ⟨B, eB, hB⟩ := hu.atM hx
      have hi := (List.getElem?_eq_some_iff.mp eB).1
      have hBm := List.mem_of_getElem? eB
      have hpl := hS8.pl B hBm
      obtain ⟨c, p, xs, rfl, ec, ep, _, hxs⟩ := (hB.same sm).batL
      have hxl : xs.length = B.pas.length := by rw [hxs.1, List.length_map]
      refine ⟨_, rfl, _, rfl, c, _, 2, _, rfl, rfl, .inl (.inl ec), atI_nat (j := 2) rfl, p, rfl, ⟨_, SqL.of ep⟩, fun D nD => ?_⟩
      refine lc_thg (B.pas.map fun q => PyData.str q.pl) (walk_list (xs := xs)) [] nD (by rw [List.length_map, hxl]) (by omega) (fun H' s => SqL.of (s _ _ ep)) (fun j x d H2 H2' Kt Kn ed s2 hyy kk => ?_) (fun H2 zs s2 e2 h2 => ?_)
      · obtain ⟨rfl, hx2⟩ := hyy
        obtain ⟨q0, eq, hq⟩ := hxs.atM hx2
        rw [List.getElem?_map, eq] at ed
        cases ed
        obtain ⟨a1, x1, r1, rfl, e1, _⟩ := (hq.same s2).pas
        exact ⟨rfl, _, rfl, a1, _, 1, _, rfl, rfl, .inl (.inl e1), atI_nat (j := 1) rfl, kk _ _ (Same.refl _) (.str _)⟩
      · have ez : zs = (B.pas.map Pas3.pl).map V.str := ThgL.strs (cs := [D]) (H := H2) (by rw [List.map_map]; exact h2)
        subst ez
        have l5 := take_len5 (bs := bs.take i) fun B' hB' => hS8.pl B' (List.mem_of_mem_take hB')
        rw [List.length_take] at l5
        refine ⟨F, D, _, _, rfl, rfl, s2 _ _ eF, e2, Nat.le_trans (show _ ≤ 1000 by rw [List.length_map, List.length_map, List.length_map]; omega) (by decide), fun F2 nF2 => ⟨F2, _, _, rfl, (sm.trans s2).trans (same_upd nF2), ?_⟩⟩
        rw [upd_same, List.take_add_one, eB, List.flatMap_append, List.map_append]
        simp
    · obtain ⟨F, y2, y3, rfl, sm, eF⟩ := hP
      rw [hul, List.take_length] at eF
      have l5 := take_len5 hS8.pl
      refine ⟨_, rfl, F, _, rfl, SqL.of eF, by omega, fun ms p up nd mem np => q p ms _ (sm.free np) (sm.trans (same_upd np)) upd_same ⟨up, nd, fun x => (mem x).trans ?_⟩⟩
      rw [List.mem_flatMap]
      exact ⟨fun ⟨B, hB, h⟩ => let ⟨q', h1, h2⟩ := List.mem_map.mp h; ⟨B, hB, q', h1, h2⟩, fun ⟨B, hB, q', h1, h2⟩ => ⟨B, hB, List.mem_map.mpr ⟨q', h1, h2⟩⟩⟩
end

/-! ### what the laws of this stage share -/
theorem _root_.TK.GX.TQ.kb {Ms : GX.Mq} {Xs : List Addr} {H H' : Hp} {b : Addr} {t : Int} (h : GX.TQ Ms Xs H) (S : Bx b H t) (k : Kb b H H') : GX.TQ Ms Xs H' := by
  obtain ⟨n0, n1, eb, _⟩ := S.at_
  exact h.keep (fun c ps hb => k _ _ (ne_of hb eb (fun z => nomatch z)) hb)
    (fun c c' P hb => k _ _ (ne_of hb eb (fun z => by unfold GX.CodeG at z; cases z)) hb)
    (fun c c' q hb => k _ _ (ne_of hb eb (fun z => by unfold LamX.CodeO at z; cases z)) hb)
def spLaw (K : PySem.W.Frag) (Ms : GX.Mq) (Xs : List Addr) (Pf : Addr) : Sp := fun vs H Q _ => ∃ (a : Addr) (ns : List Int), vs = [.ref a] ∧ SqL K H a (ns.map V.int) ∧ ns.length ≤ 63 ∧ GX.TQ Ms Xs H ∧ Pf ∈ Ms ∧ ∀ H', Q (.bl true) H'
theorem dat_of {cs : List Addr} {H : Hp} {v : V} {d : PyData} (h : Thg cs H v d) : Dat H v d := by
  induction h with
  | non => exact .non
  | bl b => exact .bl b
  | int i => exact .int i
  | str x => exact .str x
  | lst e n l _ ih => exact .lst e l ih
  | tup e l _ ih => exact .tup e l ih
theorem ThgL.lst' {H : Hp} {xs : List V} {ds : List PyData} {a : Addr} (h : ThgL [a] H xs ds) (e : H a = some (.lst xs)) : Thg [] H (.ref a) (.list ds) := (h.less (cs' := []) (fun _ z => nomatch z)).lst e (fun z => nomatch z)
theorem mrow_sm {rs : List (Str × List (Int × Int))} (hl : rs.length ≤ 900) (h : ∀ r ∈ rs, r.2.length ≤ 900) : Sm 4 (.list (rs.map mrowD)) := by
  refine ⟨by rw [List.length_map]; exact hl, fun d hd => ?_⟩
  obtain ⟨⟨m, ps⟩, hr, rfl⟩ := List.mem_map.mp hd
  refine ⟨by show 2 ≤ 900; decide, fun d hd => ?_⟩
  simp only [List.mem_cons, List.not_mem_nil, or_false] at hd
  rcases hd with rfl | rfl
  · trivial
  · refine ⟨by rw [List.length_map]; exact h _ hr, fun d hd => ?_⟩
    obtain ⟨p, _, rfl⟩ := List.mem_map.mp hd
    refine ⟨by show 2 ≤ 900; decide, fun d hd => ?_⟩
    simp only [List.mem_cons, List.not_mem_nil, or_false] at hd
    rcases hd with rfl | rfl <;> trivial
theorem fm_congr {α β : Type} {f g : α → Option β} : ∀ {l : List α}, (∀ x ∈ l, f x = g x) → l.filterMap f = l.filterMap g
  | [], _ => rfl
  | x :: r, h => by
    rw [List.filterMap_cons, List.filterMap_cons, h x (List.mem_cons_self ..), fm_congr fun y hy => h y (List.mem_cons_of_mem _ hy)]
theorem mrowO_cong {m : Str} {pr pr' : Int → Prop} (h : ∀ n, pr n ↔ pr' n) : mrowO m pr = mrowO m pr' := by
  rw [show pr = pr' from funext fun n => propext (h n)]
/-- all faults of a place, to a minute -/
theorem faults_ex (seen : Seen) (m : Int) : ∃ fs, FaultsL seen m fs := by
  refine ⟨((List.range (m + 1).toNat).flatMap fun (x : Nat) => (List.range (m + 1).toNat).map fun (y : Nat) => ((x : Int), (y : Int))).filter fun f => isFaultF seen f.1 f.2, fun x y => ?_⟩
  rw [List.mem_filter, List.mem_flatMap]
  constructor
  · rintro ⟨⟨i, hi, hj⟩, h⟩
    obtain ⟨j, hj', e⟩ := List.mem_map.mp hj
    have r1 := List.mem_range.mp hi
    have r2 := List.mem_range.mp hj'
    cases e
    have := (isF_iff.mp h).1
    exact ⟨⟨by omega, this, by omega⟩, h⟩
  · rintro ⟨⟨a, b, c⟩, h⟩
    exact ⟨⟨x.toNat, List.mem_range.mpr (by omega), List.mem_map.mpr ⟨y.toNat, List.mem_range.mpr (by omega), by rw [Int.toNat_of_nonneg a, Int.toNat_of_nonneg (by omega)]⟩⟩, h⟩
theorem nodup_mark {bs : List Bat3} (nd : (bs.map Bat3.mark).Nodup) {B B' : Bat3} (h : B ∈ bs) (h' : B' ∈ bs) (e : B.mark = B'.mark) : B = B' := by
  obtain ⟨i, hi, ei⟩ := List.getElem_of_mem h
  obtain ⟨j, hj, ej⟩ := List.getElem_of_mem h'
  have : i = j := (List.getElem_inj (h₀ := by rw [List.length_map]; exact hi) (h₁ := by rw [List.length_map]; exact hj) nd).mp (by rw [List.getElem_map, List.getElem_map, ei, ej, e])
  subst this
  rw [← ei, ← ej]
theorem rows_ok {bs : List Bat3} {ts : List Tst} (hC : CaseOk bs ts) (hbad : ∃ t ∈ ts, t.bad = true) {m : Int} (h0 : 0 ≤ m) (hm : ∀ B ∈ bs, ∀ p k r, 0 ≤ k → k < B.tins → winF B p k = some r → r.2 + 2 ≤ m) (p : Str) {r : Row4} (hr : r ∈ rowsAtF (seenF bs ts p)) : 0 ≤ r.1 ∧ r.1 ≤ m ∧ ∀ e, r.2.1 = some e → r.1 ≤ e ∧ e ≤ m := by
  have hf : FaultsL (seenF bs ts p) m (((List.range (m + 1).toNat).flatMap fun (x : Nat) => (List.range (m + 1).toNat).map fun (y : Nat) => ((x : Int), (y : Int))).filter fun f => isFaultF (seenF bs ts p) f.1 f.2) := fun x y => by
    rw [List.mem_filter, List.mem_flatMap]
    constructor
    · rintro ⟨⟨i, hi, hj⟩, h⟩
      obtain ⟨j, hj', e⟩ := List.mem_map.mp hj
      have r1 := List.mem_range.mp hi
      have r2 := List.mem_range.mp hj'
      cases e
      have := (isF_iff.mp h).1
      exact ⟨⟨by omega, this, by omega⟩, h⟩
    · rintro ⟨⟨a, b, c⟩, h⟩
      exact ⟨⟨x.toNat, List.mem_range.mpr (by omega), List.mem_map.mpr ⟨y.toNat, List.mem_range.mpr (by omega), by rw [Int.toNat_of_nonneg a, Int.toNat_of_nonneg (by omega)]⟩⟩, h⟩
  obtain ⟨a, ⟨y, hy, hor⟩, _⟩ := row_fault (seen_ok hC p) (seen_end hC p hm) h0 (seen_bad hbad p) hf hr
  obtain ⟨⟨_, b, c⟩, _⟩ := (hf _ _).mp hy
  refine ⟨a, by omega, fun e he => ?_⟩
  rcases hor with z | ⟨z, _⟩
  · rw [he] at z
    cases z
    exact ⟨b, c⟩
  · rw [he] at z
    cases z
theorem most_ex {bs : List Bat3} (h8 : Sm8 bs) : ∀ B ∈ bs, ∀ p k r, 0 ≤ k → k < B.tins → winF B p k = some r → r.2 + 2 ≤ 102 := fun B hB p k r k0 k1 e => by
  have := h8.en B hB p k r k0 k1 e
  omega
theorem places_few {bs : List Bat3} (h8 : Sm8 bs) {ps : List Str} (hps : SrtT (PlaceP bs) ps) : ps.length ≤ 25 := by
  refine Nat.le_trans (nodup_len hps.nd (m := bs.flatMap fun B => B.pas.map Pas3.pl) fun x hx => ?_) (Nat.le_trans (take_len5 h8.pl) (by have := h8.bl; omega))
  obtain ⟨B, hB, q', hq, e⟩ := (hps.mem x).mp hx
  exact List.mem_flatMap.mpr ⟨B, hB, List.mem_map.mpr ⟨q', hq, e⟩⟩
theorem susp_few {bs : List Bat3} {ts : List Tst} (h8 : Sm8 bs) (htl : ts.length ≤ 25) {ps : List Str} (hps : SrtT (PlaceP bs) ps) : (suspF bs ts ps).length ≤ 700 := by
  have h1 := susp_len bs ts ps
  have h2 : ps.length * (ts.length + 1) ≤ 25 * 26 := Nat.mul_le_mul (places_few h8 hps) (by omega)
  omega

/-! ### rising windows swept: the gaps of their set -/
def sweepF : Int → List (Int × Int) → List (Int × Option Int)
  | b, [] => [(b, none)]
  | b, w :: r => (if b < w.1 then [(b, some (w.1 - 1))] else []) ++ sweepF (if w.2 + 1 > b then w.2 + 1 else b) r
theorem ris_first {b : Int} {p : Int × Int} {R : List (Int × Int)} {n : Int} (h : Ris b (p :: R)) (hn : InS (p :: R) n) : p.1 ≤ n := by
  obtain ⟨h1, h2, h3⟩ := id h
  rcases inS_cons.mp hn with z | z
  · exact z.1
  · have := h3.low z
    omega
theorem sweep_gaps : ∀ {ws : List (Int × Int)} {b : Int} {R : List (Int × Int)}, (ws.Pairwise fun p q => p.1 ≤ q.1) → (∀ p ∈ ws, p.1 ≤ p.2) → Ris b R → (∀ n, b ≤ n → (InS R n ↔ InS ws n)) → sweepF b ws = gapsO b R
  | [], b, R, _, _, hR, he => by
    cases R with
    | nil => rfl
    | cons p R =>
      obtain ⟨h1, h2, _⟩ := id hR
      exact absurd ((he p.1 h1).mp (inS_cons.mpr (.inl ⟨Int.le_refl _, h2⟩))) inS_nil
  | w :: r, b, R, hs, hw, hR, he => by
    obtain ⟨s1, s2⟩ := List.pairwise_cons.mp hs
    have w12 := hw w (List.mem_cons_self ..)
    have hw' : ∀ p ∈ r, p.1 ≤ p.2 := fun p hp => hw p (List.mem_cons_of_mem _ hp)
    show (if b < w.1 then [(b, some (w.1 - 1))] else []) ++ sweepF (if w.2 + 1 > b then w.2 + 1 else b) r = _
    by_cases c : w.2 < b
    · rw [if_neg (by omega), if_neg (by omega)]
      refine sweep_gaps s2 hw' hR fun n hn => (he n hn).trans ⟨fun z => ?_, fun z => inS_cons.mpr (.inr z)⟩
      rcases inS_cons.mp z with z | z
      · omega
      · exact z
    · rw [if_pos (by omega : w.2 + 1 > b)]
      have hlow : ∀ n, InS (w :: r) n → w.1 ≤ n := fun n z => by
        rcases inS_cons.mp z with z | z
        · exact z.1
        · obtain ⟨q, hq, q1, _⟩ := z
          have := s1 q hq
          omega
      cases R with
      | nil => exact absurd ((he (if b < w.1 then w.1 else b) (by split <;> omega)).mpr (inS_cons.mpr (.inl (by split <;> omega)))) inS_nil
      | cons p R =>
        obtain ⟨h1, h2, h3⟩ := id hR
        have hp1 : p.1 = if b < w.1 then w.1 else b := by
          have a1 := ris_first hR ((he (if b < w.1 then w.1 else b) (by split <;> omega)).mpr (inS_cons.mpr (.inl (by split <;> omega))))
          have a2 := hlow p.1 ((he p.1 h1).mp (inS_cons.mpr (.inl ⟨Int.le_refl _, h2⟩)))
          split at a1 <;> rename_i c1
          · rw [if_pos c1]; omega
          · rw [if_neg c1]; omega
        have hp2 : w.2 ≤ p.2 := Classical.byContradiction fun z => by
          have hn : b ≤ p.2 + 1 := by omega
          have : InS (p :: R) (p.2 + 1) := (he _ hn).mpr (inS_cons.mpr (.inl (by
            split at hp1 <;> omega)))
          rcases inS_cons.mp this with y | y
          · omega
          · have := h3.low y
            omega
        have key : sweepF (w.2 + 1) r = gapsO (p.2 + 1) R := by
          have hin : ∀ n, w.2 + 1 ≤ n → (InS (p :: R) n ↔ InS r n) := fun n hn => (he n (by omega)).trans ⟨fun z => by
            rcases inS_cons.mp z with z | z
            · omega
            · exact z, fun z => inS_cons.mpr (.inr z)⟩
          by_cases e : p.2 = w.2
          · rw [e]
            rw [e] at h3
            refine sweep_gaps s2 hw' (h3.mono (by omega)) fun n hn => ?_
            rw [← hin n hn, inS_cons]
            exact ⟨.inr, fun z => z.resolve_left fun y => by omega⟩
          · have := sweep_gaps (b := w.2 + 1) (R := (w.2 + 1, p.2) :: R) s2 hw' (⟨Int.le_refl _, (by show w.2 + 1 ≤ p.2; omega), h3⟩) fun n hn => ?_
            · rw [this]
              show (if w.2 + 1 < w.2 + 1 then _ else []) ++ gapsO (p.2 + 1) R = _
              rw [if_neg (by omega)]
              rfl
            · rw [← hin n hn, inS_cons, inS_cons]
              refine or_congr_left ⟨fun z => ?_, fun z => ?_⟩
              · have z1 : w.2 + 1 ≤ n := z.1
                have z2 : n ≤ p.2 := z.2
                refine ⟨?_, z2⟩
                split at hp1 <;> omega
              · exact ⟨hn, z.2⟩
        show _ = (if b < p.1 then [(b, some (p.1 - 1))] else []) ++ gapsO (p.2 + 1) R
        rw [key]
        by_cases c2 : b < w.1
        · rw [if_pos c2] at hp1
          rw [if_pos c2, if_pos (by omega), hp1]
        · rw [if_neg c2] at hp1
          rw [if_neg c2, if_neg (by omega)]

/-! ### the law's own gaps -/
theorem sweep_end (b : Int) : ∀ ws : List (Int × Int), ∃ (gs : List (Int × Option Int)) (e : Int), sweepF b ws = gs ++ [(e, none)]
  | [] => ⟨[], b, rfl⟩
  | w :: r => by
    obtain ⟨gs, e, h⟩ := sweep_end (if w.2 + 1 > b then w.2 + 1 else b) r
    exact ⟨(if b < w.1 then [(b, some (w.1 - 1))] else []) ++ gs, e, by rw [List.append_assoc, ← h]; rfl⟩
/-- swept so far: the gaps and where the next one may begin -/
def sweptF (b : Int) (ws : List (Int × Int)) : List (Int × Option Int) × Int := ws.foldl (fun s w => (s.1 ++ (if s.2 < w.1 then [(s.2, some (w.1 - 1))] else []), if w.2 + 1 > s.2 then w.2 + 1 else s.2)) ([], b)
theorem swept_gen : ∀ (ws : List (Int × Int)) (gs : List (Int × Option Int)) (b : Int), let s := ws.foldl (fun s w => (s.1 ++ (if s.2 < w.1 then [(s.2, some (w.1 - 1))] else []), if w.2 + 1 > s.2 then w.2 + 1 else s.2)) (gs, b); s.1 ++ [(s.2, none)] = gs ++ sweepF b ws
  | [], gs, b => rfl
  | w :: r, gs, b => by
    have ih := swept_gen r (gs ++ (if b < w.1 then [(b, some (w.1 - 1))] else [])) (if w.2 + 1 > b then w.2 + 1 else b)
    show _ = gs ++ ((if b < w.1 then [(b, some (w.1 - 1))] else []) ++ sweepF (if w.2 + 1 > b then w.2 + 1 else b) r)
    rw [← List.append_assoc]
    exact ih
def spLGaps : Sp := fun vs H Q _ => ∃ (a : Addr) (us : List V) (ws : List (Int × Int)), vs = [.ref a] ∧ H a = some (.lst us) ∧ Prs H us ws ∧ (∀ p ∈ ws, 0 ≤ p.1 ∧ p.1 ≤ p.2) ∧ ws.length ≤ 900 ∧
  ∀ l zs H', H l = none → Same H H' → H' l = some (.lst zs) → ThgL [] H' zs ((gapsO 0 (setL ws)).map gapD) → Q (.ref l) H'
abbrev sLGaps : Stmt := topS 39
theorem scLGaps : FnScope ["_law_windows_here", "_law_found", "_law_begin", "_law_first", "_law_last"] ["_law_windows_here"] (defScope sLGaps) := ⟨rfl, rfl, rfl, by decide +kernel, rfl, by decide +kernel, by decide +kernel⟩
section
variable {K : PySem.W.Frag} {mg : Str → Option Value} {P : Program} {w : World} {base : Heap}
theorem ok_LGaps {f : Addr} {fd : FuncData} (F : Fun K "_law_gaps" "_law_gaps" sLGaps f fd) (m_sorted : mg "sorted" = none) (m_max : mg "max" = none) : FnOk P w K mg base CX0 1 f fd ["_law_windows_here"] spLGaps := by
  refine F.ok scLGaps (fun vs H Q E h => ?_) (fun cdv A outer s H vs Q E hr h => ?_)
  · obtain ⟨a, us, ws, rfl, _⟩ := h
    rfl
  · obtain ⟨a, us, ws, rfl, ha, hp, hw, hwl, q⟩ := h
    refine ⟨_, pss_cons (ps_par rfl scLGaps.nd (i := 1) (j := 2) rfl rfl (by decide) rfl rfl (pa_cons (pe_lst pa_nil) (pa_cons pe_int pa_nil)) (by rfl))
      (pss_cons (ps_for PassesOwn.never rfl (pi_list (pe_callB cr_sortedPO (by rfl) m_sorted (by decide +kernel) (pa_cons (pv 0) pa_nil))) (pg_tup rfl (pgs_cons (pg_name (i := 3) scLGaps.nd rfl (.inl rfl)) (pgs_cons (pg_name (i := 4) scLGaps.nd rfl (.inl rfl)) pgs_nil)))
        (Evl.pss_cut (ps_if (pt_cmpR op_gt (pv 3) (pv 2) (nomark _)) (pss_one (ps_expr (pe_bm PySem.F.plainAttrs_list PySem.F.slot_list_append PySem.F.type_list_append mt_append (pv 1) (pa_cons (pe_tup (pa_cons (pv 2) (pa_cons (pe_op op_sub (pv 3) pe_int) pa_nil))) pa_nil))))
          pss_nil)
        (pss_one (ps_set (i := 2) scLGaps.nd rfl (.inl rfl) (pe_callB (call_max2 rfl) (by rfl) m_max (by decide +kernel) (pa_cons (pv 2) (pa_cons (pe_op op_add (pv 4) pe_int) pa_nil)))))))
      (pss_one (ps_ret (pe_op op_cat (pv 1) (pe_lst (pa_cons (pe_tup (pa_cons (pv 2) (pa_cons pe_non pa_nil))) pa_nil)))))), ?_⟩
    refine ⟨Nat.zero_le _, fun F nF => ⟨_, _, rfl, ?_⟩⟩
    have sF := same_upd (o := .lst []) nF
    have ha1 := sF _ _ ha
    have hp1 : Prs (upd H F (.lst [])) us ws := ⟨hp.1, fun i p e => let ⟨x, h1, h2⟩ := hp.2 i p e; ⟨x, h1, sF _ _ h2⟩⟩
    have eF := upd_same (H := H) (a := F) (o := .lst [])
    revert ha1 hp1 eF sF
    generalize upd H F (.lst []) = H1
    intro sF ha1 hp1 eF
    refine ⟨_, rfl, a, us, pairOf H1, rfl, SqL.of ha1, fun x hx => ?_, fun zs g srt stb ng => ?_⟩
    · obtain ⟨i, hi, e⟩ := List.getElem_of_mem hx
      obtain ⟨p, T, _, rfl, eT⟩ := prs_at hp1 (by rw [List.getElem?_eq_getElem hi, e])
      exact ⟨T, rfl, by rw [pairOf_at eT]; exact eT⟩
    have each : ∀ x ∈ zs, ∃ T, x = .ref T ∧ H1 T = some (.tup [.int (pairOf H1 x).1, .int (pairOf H1 x).2]) := fun x hx => by
      obtain ⟨i, hi, e⟩ := List.getElem_of_mem (stb.perm.mem_iff.mp hx)
      obtain ⟨p, T, _, rfl, eT⟩ := prs_at hp1 (by rw [List.getElem?_eq_getElem hi, e])
      exact ⟨T, rfl, by rw [pairOf_at eT]; exact eT⟩
    have hmap : us.map (pairOf H1) = ws := by
      refine List.ext_getElem? fun i => ?_
      rw [List.getElem?_map]
      cases h : us[i]? with
      | none =>
        have : ws[i]? = none := by
          rw [List.getElem?_eq_none_iff] at h ⊢
          rw [← hp1.1]
          exact h
        rw [this]
        rfl
      | some x =>
        obtain ⟨p, T, ep, rfl, eT⟩ := prs_at hp1 h
        rw [ep]
        show some (pairOf H1 (.ref T)) = some p
        rw [pairOf_at eT]
    have hperm : (zs.map (pairOf H1)).Perm ws := hmap ▸ stb.perm.map (pairOf H1)
    have hord : (zs.map (pairOf H1)).Pairwise fun x y => x.1 ≤ y.1 := by
      rw [List.pairwise_map]
      refine srt.imp fun {x y} h => ?_
      have := SrtO.lexB_no.mp h
      omega
    have hzl : zs.length ≤ 900 := by
      rw [stb.perm.length_eq, hp1.1]
      exact hwl
    have sg := same_upd (o := .lst zs) ng
    have eg : upd H1 g (.lst zs) g = some (.lst zs) := upd_same
    have hzT : ∀ (i : Nat) x, zs[i]? = some x → ∃ (p : Int × Int) (T : Addr), (zs.map (pairOf H1))[i]? = some p ∧ x = .ref T ∧ upd H1 g (.lst zs) T = some (.tup [.int p.1, .int p.2]) := fun i x hx => by
      obtain ⟨T, rfl, eT⟩ := each x (List.mem_of_getElem? hx)
      exact ⟨_, T, by rw [List.getElem?_map, hx]; rfl, rfl, sg _ _ eT⟩
    have eF2 := sg _ _ eF
    have sF2 := sF.trans sg
    have nFg : F ≠ g := ne_of_none eF ng
    have hql : (zs.map (pairOf H1)).length = zs.length := List.length_map ..
    revert hperm hord eg hzT eF2 sF2 hql
    generalize zs.map (pairOf H1) = qs
    generalize upd H1 g (.lst zs) = H2
    intro hperm hord eg hzT eF2 sF2 hql
    refine ⟨g, rfl, ⟨_, SqL.of eg⟩, for_list (xs := zs) (fun i σ H4 => ∃ (ms : List V) (y3 y4 : Option V), σ = [some (.ref a), some (.ref F), some (.int (sweptF 0 (qs.take i)).2), y3, y4] ∧ Same H H4 ∧ (∀ b o, b ≠ F → H2 b = some o → H4 b = some o) ∧ H4 F = some (.lst ms) ∧ ThgL [F] H4 ms ((sweptF 0 (qs.take i)).1.map gapD) ∧ ms.length ≤ i) ⟨[], _, _, rfl, sF2, fun b o _ e => e, eF2, ThgL.nil, Nat.le_refl _⟩ (fun i σ H4 _ hP => ?_) (fun i x σ H4 hx hP => ?_) (fun σ H4 hP => ?_)⟩
    · obtain ⟨ms, y3, y4, rfl, s4, k4, eF4, hms, hml⟩ := hP
      exact SqL.of (k4 _ _ nFg.symm eg)
    · obtain ⟨ms, y3, y4, rfl, s4, k4, eF4, hms, hml⟩ := hP
      obtain ⟨w, T, ew, rfl, eT⟩ := hzT i x hx
      have eT4 := k4 _ _ (ne_of eT eF2 (fun z => nomatch z)) eT
      have est : sweptF 0 (qs.take (i + 1)) = ((sweptF 0 (qs.take i)).1 ++ (if (sweptF 0 (qs.take i)).2 < w.1 then [((sweptF 0 (qs.take i)).2, some (w.1 - 1))] else []), if w.2 + 1 > (sweptF 0 (qs.take i)).2 then w.2 + 1 else (sweptF 0 (qs.take i)).2) := by
        unfold sweptF
        rw [List.take_add_one, ew, List.foldl_append]
        rfl
      have hi : i < zs.length := (List.getElem?_eq_some_iff.mp hx).1
      rw [est]
      generalize sweptF 0 (qs.take i) = st at hms ⊢
      refine ⟨T, _, rfl, .inl (.inl eT4), rfl, _, _, rfl, _, _, rfl, rfl, ?_⟩
      refine ⟨fun σ H' => ∃ (ms : List V), σ = [some (.ref a), some (.ref F), some (.int st.2), some (.int w.1), some (.int w.2)] ∧ Same H H' ∧ (∀ b o, b ≠ F → H2 b = some o → H' b = some o) ∧ H' F = some (.lst ms) ∧ ThgL [F] H' ms ((st.1 ++ (if st.2 < w.1 then [(st.2, some (w.1 - 1))] else [])).map gapD) ∧ ms.length ≤ i + 1, ?_, ?_⟩
      · refine ⟨_, rfl, _, rfl, _, _, rfl, rfl, _, rfl, ite2 (fun c => ?_) (fun c => ?_)⟩
        · have c := of_decide_eq_true c
          refine ⟨_, rfl, .inl ⟨rfl, _, SqL.of eF4⟩, _, rfl, _, rfl, _, _, rfl, rfl, (by show 2 ≤ sizeLine; decide), fun T2 nT2 => ?_⟩
          have sT := same_upd (o := .tup [.int st.2, .int (w.1 - 1)]) nT2
          have eF5 := sT _ _ eF4
          have hT2 : Thg [F] (upd H4 T2 (.tup [.int st.2, .int (w.1 - 1)])) (.ref T2) (gapD (st.2, some (w.1 - 1))) := ThgL.tup (.cons (.int _) (.one (.int _))) upd_same
          refine ⟨F, _, _, rfl, rfl, eF5, small1000 (by omega), ms ++ [.ref T2], rfl, fun b o e => ?_, fun b o nb e => ?_, upd_same, ?_, by rw [List.length_append]; show ms.length + 1 ≤ i + 1; omega⟩
          · rw [upd_ne (ne_of_none e nF)]
            exact sT _ _ (s4 _ _ e)
          · rw [upd_ne nb]
            exact sT _ _ (k4 b o nb e)
          · rw [if_pos c, List.map_append]
            exact ((hms.same sT).upd eF5 (by simp)).append (ThgL.one (hT2.upd eF5 (by simp)))
        · have c : ¬ st.2 < w.1 := fun z => c (decide_eq_true z)
          rw [if_neg c, List.append_nil]
          exact ⟨ms, rfl, s4, k4, eF4, hms, by omega⟩
      · rintro σ5 H5 ⟨ms5, rfl, s5, k5, eF5, hms5, hml5⟩
        exact ⟨_, rfl, _, rfl, _, _, rfl, rfl, _, _, rfl, ms5, _, _, rfl, s5, k5, eF5, hms5, hml5⟩
    · obtain ⟨ms, y3, y4, rfl, s4, k4, eF4, hms, hml⟩ := hP
      rw [show qs.take zs.length = qs by rw [← hql, List.take_length]] at hms ⊢
      have told := told_ex ws
      have hR : Ris 0 (setL ws) := told.nneg fun n ⟨p, hp, h1, h2⟩ => by
        have := (hw p hp).1
        omega
      have eg2 : gapsO 0 (setL ws) = (sweptF 0 qs).1 ++ [((sweptF 0 qs).2, none)] := by
        rw [← sweep_gaps hord (fun p hp => (hw p (hperm.mem_iff.mp hp)).2) hR fun n _ => (told.same n).trans ⟨fun ⟨p, hp, h⟩ => ⟨p, hperm.mem_iff.mpr hp, h⟩, fun ⟨p, hp, h⟩ => ⟨p, hperm.mem_iff.mp hp, h⟩⟩]
        exact (swept_gen qs [] 0).symm
      generalize sweptF 0 qs = st at hms eg2 ⊢
      refine ⟨_, rfl, _, rfl, (by show 2 ≤ sizeLine; decide), fun T nT => ⟨(by show 1 ≤ sizeLine; decide), fun Y nY => ?_⟩⟩
      have sT := same_upd (o := .tup [.int st.2, .non]) nT
      have sY := same_upd (o := .lst [V.ref T]) nY
      refine ⟨F, Y, ms, [.ref T], rfl, rfl, (sT.trans sY) _ _ eF4, upd_same, ?_, fun l nl => ?_⟩
      · have h9 : 1000 ≤ sizeLine := by decide
        show ms.length + 1 ≤ sizeLine
        omega
      · have sl := same_upd (o := .lst (ms ++ [V.ref T])) nl
        have S := (sT.trans sY).trans sl
        have hT2 : Thg [] (upd (upd (upd H4 T (.tup [.int st.2, .non])) Y (.lst [V.ref T])) l (.lst (ms ++ [V.ref T]))) (.ref T) (gapD (st.2, none)) := ThgL.tup (.cons (.int _) (.one .non)) ((sY.trans sl) _ _ upd_same)
        refine q l _ _ ?_ (s4.trans S) upd_same ?_
        · cases e : H l with
          | none => rfl
          | some o =>
            have := (sT.trans sY) _ _ (s4 _ _ e)
            rw [nl] at this
            cases this
        · rw [eg2, List.map_append]
          exact ((hms.same S).less (cs' := []) (fun _ z => nomatch z)).append (ThgL.one hT2)
end

/-! ### all suspects by the gaps between windows: the law's own -/
theorem fm_range33 {α β : Type} (g : α → Option β) (l : List α) : (List.range l.length).filterMap (fun i => (l[i]?).bind g) = l.filterMap g := by
  have h : ∀ n, n ≤ l.length → (List.range n).filterMap (fun i => (l[i]?).bind g) = (l.take n).filterMap g := by
    intro n
    induction n with
    | zero => intro _; rfl
    | succ n ih =>
      intro hn
      have e : l[n]? = some l[n] := List.getElem?_eq_getElem (by omega)
      rw [List.range_succ, List.filterMap_append, ih (by omega), List.take_add_one, e, List.filterMap_append]
      congr 1
      show List.filterMap _ [n] = List.filterMap g [l[n]]
      rw [List.filterMap_cons, List.filterMap_cons, e]
      rfl
  rw [h _ (Nat.le_refl _), List.take_length]
theorem wBad_ne33 {seen : Seen} (hn : none ∉ badsF seen) (hbad : ∃ s ∈ seen, s.2 = true) : wBad seen ≠ [] := by
  obtain ⟨⟨o, b⟩, hs, e⟩ := hbad
  have e : b = true := e
  subst e
  cases o with
  | none => exact absurd (mem_none.mpr hs) hn
  | some w => exact List.ne_nil_of_mem (mem_wBad.mpr hs)
theorem row_list {seen : Seen} (hn : none ∉ badsF seen) : rowsAtF seen = (gapsO 0 (setL (goodsF seen))).filterMap (rowG (minL ((wBad seen).map (·.2))) (maxL ((wBad seen).map (·.1)))) := by
  unfold rowsAtF
  rw [if_neg hn]
  rfl
theorem rowG_is {fe lb : Int} {g : Int × Option Int} (h1 : g.1 ≤ fe) (h2 : ∀ l, g.2 = some l → lb ≤ l) : rowG fe lb g = some (g.1, g.2, (match g.2 with | none => fe | some l => if l < fe then l else fe), if g.1 > lb then g.1 else lb) := by
  obtain ⟨a, o⟩ := g
  unfold rowG
  cases o with
  | none => exact if_pos h1
  | some l => exact if_pos ⟨h1, h2 l rfl⟩
theorem Thg.gap {cs : List Addr} {H : Hp} {v : V} {g : Int × Option Int} (h : Thg cs H v (gapD g)) : ∃ T, v = .ref T ∧ H T = some (.tup [.int g.1, optV g.2]) := by
  obtain ⟨a, xs, rfl, e, h1⟩ := h.tuple
  obtain ⟨x, ys, rfl, h2, h3⟩ := h1.inv
  obtain ⟨y, zs, rfl, h4, h5⟩ := h3.inv
  rw [h5.inv0, h4.inv_opt, h2.inv_int] at e
  exact ⟨a, rfl, e⟩
theorem rowG_no {fe lb : Int} {g : Int × Option Int} (h : ¬ (g.1 ≤ fe ∧ ∀ l, g.2 = some l → lb ≤ l)) : rowG fe lb g = none := by
  obtain ⟨a, o⟩ := g
  unfold rowG
  cases o with
  | none => exact if_neg fun z => h ⟨z, fun l e => nomatch e⟩
  | some l => exact if_neg fun z => h ⟨z.1, fun l' e => by cases e; exact z.2⟩
abbrev SeenX := Option (Int × Int) × Bool
def badE (k : Int × Int → Int) (s : SeenX) : Option PyData := match s with
  | (some w, true) => some (.int (k w))
  | _ => none
def goodE (s : SeenX) : Option PyData := match s with
  | (some w, false) => some (pairD w)
  | _ => none
theorem badE_map (k : Int × Int → Int) : ∀ seen : Seen, seen.filterMap (badE k) = ((wBad seen).map k).map PyData.int
  | [] => rfl
  | (none, true) :: r => badE_map k r
  | (none, false) :: r => badE_map k r
  | (some w, true) :: r => congrArg (PyData.int (k w) :: ·) (badE_map k r)
  | (some w, false) :: r => badE_map k r
theorem goodE_map : ∀ seen : Seen, seen.filterMap goodE = (goodsF seen).map pairD
  | [] => rfl
  | (none, true) :: r => goodE_map r
  | (none, false) :: r => goodE_map r
  | (some w, true) :: r => goodE_map r
  | (some w, false) :: r => congrArg (pairD w :: ·) (goodE_map r)
theorem Thg.lseen {cs : List Addr} {H : Hp} {v : V} {o : Option (Int × Int)} {b : Bool} (h : Thg cs H v (lseenD (o, b))) : ∃ T x, v = .ref T ∧ H T = some (.tup [x, .bl b]) ∧ Thg cs H x (spanD o) := by
  obtain ⟨a, xs, rfl, e, h1⟩ := h.tuple
  obtain ⟨x, ys, rfl, h2, h3⟩ := h1.inv
  obtain ⟨y, zs, rfl, h4, h5⟩ := h3.inv
  rw [h5.inv0, h4.inv_bl] at e
  exact ⟨a, x, rfl, e, h2⟩
def spDue3 : Sp := fun vs H Q _ => ∃ (a l : Addr) (us ys : List V) (bs : List Bat3) (ts : List Tst) (cs : List Addr), vs = [.ref a, .ref l] ∧ H a = some (.lst us) ∧ ThgL cs H us (bs.map batD) ∧ H l = some (.lst ys) ∧ ThgL cs H ys (ts.map tstD) ∧ CaseOk bs ts ∧ Sm5 bs ∧ (∃ t ∈ ts, t.bad = true) ∧ ts.length ≤ 30 ∧ (∀ p, PlaceP bs p → ∀ t ∈ ts, winT bs p t ≠ none) ∧
  ∀ R ws ps H', H R = none → Same H H' → H' R = some (.lst ws) → SrtT (PlaceP bs) ps → ThgL [R] H' ws ((suspF bs ts ps).map row5D) → Q (.ref R) H'
abbrev sDue3 : Stmt := topS 43
theorem scDue3 : FnScope ["_law_batches", "_law_tests", "_law_due_here", "_law_place", "_law_seen", "_law_least", "_law_greatest", "_law_first", "_law_last", "_law_latest", "_law_where", "_law_bad"] ["_law_batches", "_law_tests"] (defScope sDue3) := ⟨rfl, rfl, rfl, by decide +kernel, rfl, by decide +kernel, by decide +kernel⟩
section
variable {K : PySem.W.Frag} {mg : Str → Option Value} {P : Program} {w : World} {base : Heap}
theorem ok_Due3 {f : Addr} {fd : FuncData} (F : Fun K "_law_due" "_law_due" sDue3 f fd) (C__law_places : Cal P w K mg base 1 "_law_places" ["_law_batches"] (spLPl K)) (C__law_windows : Cal P w K mg base 2 "_law_windows" ["_law_batches", "_law_tests", "_law_place"] spLWins) (C__law_gaps : Cal P w K mg base 1 "_law_gaps" ["_law_windows_here"] spLGaps) (m_min : mg "min" = none) (m_max : mg "max" = none) : FnOk P w K mg base CX0 3 f fd ["_law_batches", "_law_tests"] spDue3 := by
  refine F.ok scDue3 (fun vs H Q E h => ?_) (fun cdv A outer s H vs Q E hr h => ?_)
  · obtain ⟨a, l, us, ys, bs, ts, cs, rfl, _⟩ := h
    rfl
  · obtain ⟨a, l, us, ys, bs, ts, cs, rfl, ha, hu, hl, hy, hC, h5, hbad, htl, hall, q⟩ := h
    refine ⟨_, pss_cons (ps_set (i := 2) scDue3.nd rfl (.inl rfl) (pe_lst pa_nil))
      (pss_cons (ps_for PassesOwn.never rfl (pi_list (pe_own C__law_places (hr.mono (show 1 ≤ 2 by decide)) (by rfl) (pa_cons (pv 0) pa_nil))) (pg_name (i := 3) scDue3.nd rfl (.inl rfl))
        (pss_cons (ps_set (i := 4) scDue3.nd rfl (.inl rfl) (pe_own C__law_windows hr (by rfl) (pa_cons (pv 0) (pa_cons (pv 1) (pa_cons (pv 3) pa_nil)))))
        (pss_cons (ps_set (i := 5) scDue3.nd rfl (.inl rfl) (pe_callB (cr_min rfl) (by rfl) m_min (by decide +kernel) (pa_cons (pe_lc (own := [("_law_where", 10), ("_law_bad", 11)]) (g := (gTup K 2 (gCons (gName 10) (gCons (gName 11) gNil)))) (tt := (tB (tVar 11))) (te := (tOp (rIxT K) (tVar 10) (tC (.int 1)))) rfl scDue3.nd (pi_list (pv 4)) (blkOk_by (own := [("_law_where", 10), ("_law_bad", 11)]) (N := ["_law_batches", "_law_tests", "_law_due_here", "_law_place", "_law_seen", "_law_least", "_law_greatest", "_law_first", "_law_last", "_law_latest", "_law_where", "_law_bad"]) (sc := defScope sDue3) (by decide +kernel)) (fun _ _ _ _ _ => (pg_tup rfl (pgs_cons (pg_name (i := 10) scDue3.nd rfl (.inl rfl)) (pgs_cons (pg_name (i := 11) scDue3.nd rfl (.inl rfl)) pgs_nil)))) (fun _ _ _ _ _ => (pts_one (pt_val (pv 11)))) (fun _ _ _ _ _ => (pe_ix ix_tup (pv 10) pe_int (fun _ _ => rfl)))) pa_nil)))
        (pss_cons (ps_set (i := 6) scDue3.nd rfl (.inl rfl) (pe_callB (cr_max rfl) (by rfl) m_max (by decide +kernel) (pa_cons (pe_lc (own := [("_law_where", 10), ("_law_bad", 11)]) (g := (gTup K 2 (gCons (gName 10) (gCons (gName 11) gNil)))) (tt := (tB (tVar 11))) (te := (tOp (rIxT K) (tVar 10) (tC (.int 0)))) rfl scDue3.nd (pi_list (pv 4)) (blkOk_by (own := [("_law_where", 10), ("_law_bad", 11)]) (N := ["_law_batches", "_law_tests", "_law_due_here", "_law_place", "_law_seen", "_law_least", "_law_greatest", "_law_first", "_law_last", "_law_latest", "_law_where", "_law_bad"]) (sc := defScope sDue3) (by decide +kernel)) (fun _ _ _ _ _ => (pg_tup rfl (pgs_cons (pg_name (i := 10) scDue3.nd rfl (.inl rfl)) (pgs_cons (pg_name (i := 11) scDue3.nd rfl (.inl rfl)) pgs_nil)))) (fun _ _ _ _ _ => (pts_one (pt_val (pv 11)))) (fun _ _ _ _ _ => (pe_ix ix_tup (pv 10) pe_int (fun _ _ => rfl)))) pa_nil)))
        (pss_one (ps_for PassesOwn.never rfl (pi_list (pe_own C__law_gaps (hr.mono (show 1 ≤ 2 by decide)) (by rfl) (pa_cons (pe_lc (own := [("_law_where", 10), ("_law_bad", 11)]) (g := (gTup K 2 (gCons (gName 10) (gCons (gName 11) gNil)))) (tt := (tNot (tB (tVar 11)))) (te := (tVar 10)) rfl scDue3.nd (pi_list (pv 4)) (blkOk_by (own := [("_law_where", 10), ("_law_bad", 11)]) (N := ["_law_batches", "_law_tests", "_law_due_here", "_law_place", "_law_seen", "_law_least", "_law_greatest", "_law_first", "_law_last", "_law_latest", "_law_where", "_law_bad"]) (sc := defScope sDue3) (by decide +kernel)) (fun _ _ _ _ _ => (pg_tup rfl (pgs_cons (pg_name (i := 10) scDue3.nd rfl (.inl rfl)) (pgs_cons (pg_name (i := 11) scDue3.nd rfl (.inl rfl)) pgs_nil)))) (fun _ _ _ _ _ => (pts_one (pt_not (pt_val (pv 11))))) (fun _ _ _ _ _ => (pv 10))) pa_nil))) (pg_tup rfl (pgs_cons (pg_name (i := 7) scDue3.nd rfl (.inl rfl)) (pgs_cons (pg_name (i := 8) scDue3.nd rfl (.inl rfl)) pgs_nil)))
          (pss_one (ps_if (PW.pt (pw_and (pt_cmpR op_le (pv 7) (pv 5) (nomark _)) (pw_and1 (PW.pt (pw_or (pt_cmpR op_isN (pv 8) pe_non (nomark _)) (pw_or1 (pt_cmpR op_ge (pv 8) (pv 6) (nomark _)))))))) (pss_cons (ps_set (i := 9) scDue3.nd rfl (.inl rfl) (pe_mid (pe_ifExp (PW.pt (pw_or (pt_cmpR op_isN (pv 8) pe_non (nomark _)) (pw_or1 (pt_cmpR op_lt (pv 5) (pv 8) (nomark _))))) (pv 5) (pv 8))))
            (pss_one (ps_expr (pe_bm PySem.F.plainAttrs_list PySem.F.slot_list_append PySem.F.type_list_append mt_append (pv 2) (pa_cons (pe_tup (pa_cons (pv 3) (pa_cons (pv 7) (pa_cons (pv 8) (pa_cons (pv 9) (pa_cons (pe_callB (call_max2 rfl) (by rfl) m_max (by decide +kernel) (pa_cons (pv 6) (pa_cons (pv 7) pa_nil))) pa_nil)))))) pa_nil)))))
            pss_nil))))))))
      (pss_one (ps_ret (pv 2)))), ?_⟩
    refine ⟨Nat.zero_le _, fun R nR => ?_⟩
    have sR := same_upd (o := .lst []) nR
    have eR0 := upd_same (H := H) (a := R) (o := .lst [])
    revert sR eR0
    generalize upd H R (.lst []) = H1
    intro sR eR0
    refine ⟨_, rfl, a, us, bs, cs, rfl, sR _ _ ha, hu.same sR, h5, fun lp ps H2 nlp s2 elp hps => ⟨lp, rfl, ⟨_, SqL.of elp⟩, ?_⟩⟩
    have S2 := sR.trans s2
    have nlR : lp ≠ R := fun z => by rw [z, eR0] at nlp; cases nlp
    have eR2 := s2 _ _ eR0
    have hpl : ps.length ≤ 25 := by
      refine Nat.le_trans (nodup_len hps.nd (m := bs.flatMap fun B => B.pas.map Pas3.pl) fun x hx => ?_) (Nat.le_trans (take_len5 h5.pl) (by have := h5.bl; omega))
      obtain ⟨B, hB, q', hq, e⟩ := (hps.mem x).mp hx
      exact List.mem_flatMap.mpr ⟨B, hB, List.mem_map.mpr ⟨q', hq, e⟩⟩
    refine for_list (xs := ps.map V.str) (fun i σ Hx => ∃ (ws : List V) (y3 y4 y5 y6 y7 y8 y9 : Option V), σ = [some (.ref a), some (.ref l), some (.ref R), y3, y4, y5, y6, y7, y8, y9, none, none] ∧ Hx R = some (.lst ws) ∧ ThgL [R] Hx ws ((suspF bs ts (ps.take i)).map row5D) ∧ (∀ b o, H b = some o → Hx b = some o) ∧ Hx lp = some (.lst (ps.map V.str))) ⟨[], _, _, _, _, _, _, _, rfl, eR2, ThgL.nil, S2, elp⟩ (fun i σ Hx _ hP => ?_) (fun i x σ Hx hx hP => ?_) (fun σ Hx hP => ?_)
    · obtain ⟨ws, y3, y4, y5, y6, y7, y8, y9, rfl, eR, hw, sx, elpx⟩ := hP
      exact SqL.of elpx
    · obtain ⟨ws, y3, y4, y5, y6, y7, y8, y9, rfl, eR, hw, sx, elpx⟩ := hP
      have hi : i < ps.length := by
        have := (List.getElem?_eq_some_iff.mp hx).1
        rwa [List.length_map] at this
      rw [List.getElem?_map, List.getElem?_eq_getElem hi] at hx
      cases hx
      have hpp := (hps.mem _).mp (List.getElem_mem hi)
      refine ⟨_, rfl, _, rfl, _, rfl, a, l, ps[i], us, ys, bs, ts, cs, rfl, sx _ _ ha, hu.same sx, sx _ _ hl, hy.same sx, hC, fun G wv H3 nG s3 eG hG => ?_⟩
      have hlG : wv.length = ts.length := by
        rw [hG.1, List.length_map]
        exact List.length_map _
      have hwok := seen_ok hC ps[i]
      have hbd := seen_bad hbad ps[i] (bs := bs)
      have hnn : none ∉ badsF (seenF bs ts ps[i]) := fun z => by
        obtain ⟨t, ht, e⟩ := List.mem_map.mp (mem_none.mp z)
        exact hall _ hpp t ht (congrArg Prod.fst e)
      have hne := wBad_ne33 hnn hbd
      have esusp : suspF bs ts (ps.take (i + 1)) = suspF bs ts (ps.take i) ++ (rowsAtF (seenF bs ts ps[i])).map fun r => (ps[i], r) := by
        unfold suspF
        rw [List.take_add_one, List.getElem?_eq_getElem hi, List.flatMap_append]
        show _ ++ List.flatMap _ [ps[i]] = _
        rw [List.flatMap_cons, List.flatMap_nil, List.append_nil]
      have hslen : (seenF bs ts ps[i]).length = ts.length := List.length_map _
      have hsl := susp_len bs ts (ps.take i)
      have hr := row_list hnn
      generalize hseen : seenF bs ts ps[i] = seen at hG hwok hbd hnn hne esusp hr hslen
      have one : ∀ (k : Nat) (kf : Int × Int → Int), (∀ w : Int × Int, [V.int w.1, V.int w.2][k]? = some (V.int (kf w))) → True := fun _ _ _ => trivial
      refine ⟨_, rfl, G, rfl, ⟨_, SqL.of eG⟩, fun D nD => ?_⟩
      refine lc_thgFd (fun i => (seen[i]?).bind (badE (·.2))) (walk_list (xs := wv)) [] nD (by omega) (fun H' s => SqL.of (s _ _ eG)) (fun k x H4 H4' Kt Kn hk s4 hDx hyy kt kn => ?_) (fun H4 wd s4 eD hD => ?_)
      · obtain ⟨rfl, hx⟩ := hyy
        obtain ⟨⟨o, bb⟩, es, hsx⟩ := hG.atM hx
        obtain ⟨T, y, rfl, eT, hyo⟩ := (hsx.same s4).lseen
        rw [es] at kt kn
        refine ⟨T, _, rfl, .inl (.inl eT), rfl, _, _, rfl, _, _, rfl, rfl, rfl, _, rfl, _, rfl, ?_⟩
        cases bb with
        | false => exact iteF (kn _ (by cases o <;> rfl) (Same.refl _))
        | true =>
          cases o with
          | none => exact absurd (mem_none.mpr (List.mem_of_getElem? es)) hnn
          | some w =>
            obtain ⟨Tw, rfl, eTw⟩ := Thg.pair (p := w) hyo
            exact iteT ⟨_, rfl, Tw, _, 1, _, rfl, rfl, .inl (.inl eTw), atI_nat (j := 1) rfl, kt _ _ _ rfl (Same.refl _) (.int _)⟩
      rw [hlG, ← hslen, fm_range33, badE_map] at hD
      rw [hD.ints] at eD
      have hne1 : 0 < ((wBad seen).map (·.2)).length := by rw [List.length_map]; exact List.length_pos_iff.mpr hne
      refine ⟨D, _, rfl, SqL.of eD, hne1, fun mn hmn hmnall => ?_⟩
      have emn : minL ((wBad seen).map (·.2)) = mn := minL_eq hmn hmnall
      have eG4 := s4 _ _ eG
      have hG4 := hG.same s4
      refine ⟨_, rfl, G, rfl, ⟨_, SqL.of eG4⟩, fun D2 nD2 => ?_⟩
      refine lc_thgFd (fun i => (seen[i]?).bind (badE (·.1))) (walk_list (xs := wv)) [] nD2 (by omega) (fun H' s => SqL.of (s _ _ eG4)) (fun k x H5 H5' Kt Kn hk s5 hDx hyy kt kn => ?_) (fun H5 wd2 s5 eD2 hD2 => ?_)
      · obtain ⟨rfl, hx⟩ := hyy
        obtain ⟨⟨o, bb⟩, es, hsx⟩ := hG4.atM hx
        obtain ⟨T, y, rfl, eT, hyo⟩ := (hsx.same s5).lseen
        rw [es] at kt kn
        refine ⟨T, _, rfl, .inl (.inl eT), rfl, _, _, rfl, _, _, rfl, rfl, rfl, _, rfl, _, rfl, ?_⟩
        cases bb with
        | false => exact iteF (kn _ (by cases o <;> rfl) (Same.refl _))
        | true =>
          cases o with
          | none => exact absurd (mem_none.mpr (List.mem_of_getElem? es)) hnn
          | some w =>
            obtain ⟨Tw, rfl, eTw⟩ := Thg.pair (p := w) hyo
            exact iteT ⟨_, rfl, Tw, _, 0, _, rfl, rfl, .inl (.inl eTw), atI_nat (j := 0) rfl, kt _ _ _ rfl (Same.refl _) (.int _)⟩
      rw [hlG, ← hslen, fm_range33, badE_map] at hD2
      rw [hD2.ints] at eD2
      have hne2 : 0 < ((wBad seen).map (·.1)).length := by rw [List.length_map]; exact List.length_pos_iff.mpr hne
      refine ⟨D2, _, rfl, SqL.of eD2, hne2, fun mx hmx hmxall => ?_⟩
      have emx : maxL ((wBad seen).map (·.1)) = mx := maxL_eq hmx hmxall
      rw [emn, emx] at hr
      -- the good ones
      have eG5 := s5 _ _ eG4
      have hG5 := hG4.same s5
      refine ⟨_, rfl, G, rfl, ⟨_, SqL.of eG5⟩, fun D3 nD3 => ?_⟩
      refine lc_thgFd (fun i => (seen[i]?).bind goodE) (walk_list (xs := wv)) [] nD3 (by omega) (fun H' s => SqL.of (s _ _ eG5)) (fun k x H6 H6' Kt Kn hk s6 hDx hyy kt kn => ?_) (fun H6 wd3 s6 eD3 hD3 => ?_)
      · obtain ⟨rfl, hx⟩ := hyy
        obtain ⟨⟨o, bb⟩, es, hsx⟩ := hG5.atM hx
        obtain ⟨T, y, rfl, eT, hyo⟩ := (hsx.same s6).lseen
        rw [es] at kt kn
        refine ⟨T, _, rfl, .inl (.inl eT), rfl, _, _, rfl, _, _, rfl, rfl, rfl, _, rfl, _, rfl, ?_⟩
        cases bb with
        | true => exact iteF (kn _ (by cases o <;> rfl) (Same.refl _))
        | false =>
          cases o with
          | none =>
            exfalso
            obtain ⟨t, ht, e⟩ := List.mem_map.mp (hseen ▸ List.mem_of_getElem? es : (none, false) ∈ seenF bs ts ps[i])
            exact hall _ hpp t ht (congrArg Prod.fst e)
          | some w =>
            obtain ⟨Tw, rfl, eTw⟩ := Thg.pair (p := w) hyo
            exact iteT ⟨_, rfl, kt _ _ _ rfl (Same.refl _) (ThgL.tup (.cons (.int _) (.one (.int _))) eTw)⟩
      rw [hlG, ← hslen, fm_range33, goodE_map] at hD3
      have hgl : (goodsF seen).length ≤ seen.length := by
        unfold goodsF
        exact Nat.le_trans (List.length_filterMap_le _ _) (List.length_filter_le _ _)
      refine ⟨D3, wd3, goodsF seen, rfl, eD3, hD3.prs, (fun w hw => hwok _ (mem_goods.mp hw) w rfl), by omega, fun Z zs H7 nZ s7 eZ hZ => ?_⟩
      have eR7 := s7 _ _ (s6 _ _ (s5 _ _ (s4 _ _ (s3 _ _ eR))))
      have S37 := (((s3.trans s4).trans s5).trans s6).trans s7
      have nZR : Z ≠ R := fun z => by rw [z, s6 _ _ (s5 _ _ (s4 _ _ (s3 _ _ eR)))] at nZ; cases nZ
      have hw7 := (((((hw.same s3).same s4).same s5).same s6).same s7)
      have hgaps : (gapsO 0 (setL (goodsF seen))).length ≤ seen.length + 1 := by
        have h2 := gapsI_len 0 (setL (goodsF seen))
        have h3 := told_len (goodsF seen)
        rw [gapsO_eq, List.length_append]
        show _ + 1 ≤ _
        omega
      have hzl : zs.length = (gapsO 0 (setL (goodsF seen))).length := by rw [hZ.1, List.length_map]
      have hrw : ps.length * (ts.length + 1) ≤ 25 * 31 := Nat.mul_le_mul hpl (by omega)
      have htk : (ps.take i).length * (ts.length + 1) ≤ 25 * 31 := Nat.mul_le_mul (by rw [List.length_take]; omega) (by omega)
      generalize gapsO 0 (setL (goodsF seen)) = gs at hZ hgaps hzl hr
      refine ⟨Z, rfl, ⟨_, SqL.of eZ⟩, for_list (xs := zs) (fun k σ Hy => ∃ (ws' : List V) (y7 y8 y9 : Option V), σ = [some (.ref a), some (.ref l), some (.ref R), some (.str ps[i]), some (.ref G), some (.int mn), some (.int mx), y7, y8, y9, none, none] ∧ Hy R = some (.lst ws') ∧ ThgL [R] Hy ws' ((suspF bs ts (ps.take i) ++ ((gs.take k).filterMap (rowG mn mx)).map fun r => (ps[i], r)).map row5D) ∧ (∀ b o, b ≠ R → H7 b = some o → Hy b = some o)) ⟨ws, _, _, _, rfl, eR7, by rw [List.take_zero, List.filterMap_nil, List.map_nil, List.append_nil]; exact hw7, fun _ _ _ e => e⟩ (fun k σ Hy _ hP => ?_) (fun k x σ Hy hxk hP => ?_) (fun σ Hy hP => ?_)⟩
      · obtain ⟨ws', y7, y8, y9, rfl, eRy, hwy, sy⟩ := hP
        exact SqL.of (sy _ _ nZR eZ)
      · obtain ⟨ws', y7, y8, y9, rfl, eRy, hwy, sy⟩ := hP
        obtain ⟨g, eg, hg7⟩ := hZ.atM hxk
        obtain ⟨T, rfl, eT7⟩ := hg7.gap
        have eT := sy _ _ (ne_of eT7 eR7 (fun z => nomatch z)) eT7
        have hk : k < gs.length := (List.getElem?_eq_some_iff.mp eg).1
        have etk : gs.take (k + 1) = gs.take k ++ [g] := by rw [List.take_add_one, eg]; rfl
        have hwyl : ws'.length ≤ 900 := by
          rw [hwy.1, List.length_map, List.length_append, List.length_map]
          have h1 := List.length_filterMap_le (rowG mn mx) (gs.take k)
          rw [List.length_take] at h1
          omega
        have no : rowG mn mx g = none → ((gs.take (k + 1)).filterMap (rowG mn mx)) = (gs.take k).filterMap (rowG mn mx) := fun e => by
          rw [etk, List.filterMap_append, List.filterMap_cons, e]
          exact List.append_nil _
        have yes : ∀ r, rowG mn mx g = some r → suspF bs ts (ps.take i) ++ ((gs.take (k + 1)).filterMap (rowG mn mx)).map (fun r => (ps[i], r)) = (suspF bs ts (ps.take i) ++ ((gs.take k).filterMap (rowG mn mx)).map fun r => (ps[i], r)) ++ [(ps[i], r)] := fun r e => by
          rw [etk, List.filterMap_append, List.filterMap_cons, e, List.filterMap_nil, List.map_append, List.append_assoc]
          rfl
        refine ⟨T, _, rfl, .inl (.inl eT), rfl, _, _, rfl, _, _, rfl, rfl, ?_⟩
        refine ⟨_, rfl, _, rfl, _, _, rfl, rfl, _, rfl, ite2 (fun c1 => ?_) (fun c1 => ?_)⟩
        · have c1 := of_decide_eq_true c1
          cases e2 : g.2 with
          | none =>
            have hro : rowG mn mx g = some (g.1, none, mn, if g.1 > mx then g.1 else mx) := by
              rw [rowG_is c1 (fun l z => by rw [e2] at z; cases z), e2]
            refine ⟨_, rfl, rfl, _, rfl, iteT ?_⟩
            refine ⟨fun v H' => v = .int mn ∧ H' = Hy, ⟨_, rfl, rfl, _, rfl, iteT ⟨_, rfl, rfl, rfl⟩⟩, ?_⟩
            rintro _ _ ⟨rfl, rfl⟩
            refine ⟨_, rfl, .inl ⟨rfl, _, SqL.of eRy⟩, _, rfl, _, rfl, _, rfl, _, rfl, _, rfl, _, rfl, _, _, rfl, (by show 5 ≤ sizeLine; decide), fun Tn nTn => ?_⟩
            have sT := same_upd (o := .tup [V.str ps[i], .int g.1, optV none, .int (mn), .int (if g.1 > mx then g.1 else mx)]) nTn
            have eRn := sT _ _ eRy
            refine ⟨R, _, _, rfl, rfl, eRn, small1000 (by omega), ws' ++ [.ref Tn], _, _, _, rfl, upd_same, ?_, fun b' o' n' e' => by rw [upd_ne n']; exact sT _ _ (sy b' o' n' e')⟩
            rw [yes _ hro, List.map_append]
            exact ((hwy.same sT).upd eRn (by simp)).append (ThgL.one ((ThgL.tup (.cons (.str _) (.cons (.int _) (.cons (thg_opt _) (.cons (.int _) (.one (.int _)))))) upd_same : Thg [R] _ (.ref Tn) (row5D (ps[i], g.1, none, mn, if g.1 > mx then g.1 else mx))).upd eRn (by simp)))
          | some la =>
            refine ⟨_, rfl, rfl, _, rfl, iteF ⟨_, rfl, _, rfl, _, _, rfl, rfl, _, rfl, ite2 (fun c2 => ?_) (fun c2 => ?_)⟩⟩
            · have c2 := of_decide_eq_true c2
              have hro : rowG mn mx g = some (g.1, some la, (if la < mn then la else mn), if g.1 > mx then g.1 else mx) := by
                rw [rowG_is c1 (fun l z => by rw [e2] at z; cases z; exact c2), e2]
              refine ⟨fun v H' => v = .int (if la < mn then la else mn) ∧ H' = Hy, ⟨_, rfl, rfl, _, rfl, iteF ⟨_, rfl, _, rfl, _, _, rfl, rfl, _, rfl, ite2 (fun c3 => ⟨_, rfl, ?_, rfl⟩) (fun c3 => ⟨_, rfl, ?_, rfl⟩)⟩⟩, ?_⟩
              · have c3 := of_decide_eq_true c3
                rw [if_neg (by omega)]
              · have c3 : ¬ mn < la := fun z => c3 (decide_eq_true z)
                by_cases c4 : la < mn
                · rw [if_pos c4]
                  rfl
                · rw [if_neg c4, show la = mn by omega]
                  rfl
              rintro _ _ ⟨rfl, rfl⟩
              refine ⟨_, rfl, .inl ⟨rfl, _, SqL.of eRy⟩, _, rfl, _, rfl, _, rfl, _, rfl, _, rfl, _, rfl, _, _, rfl, (by show 5 ≤ sizeLine; decide), fun Tn nTn => ?_⟩
              have sT := same_upd (o := .tup [V.str ps[i], .int g.1, optV (some la), .int (if la < mn then la else mn), .int (if g.1 > mx then g.1 else mx)]) nTn
              have eRn := sT _ _ eRy
              refine ⟨R, _, _, rfl, rfl, eRn, small1000 (by omega), ws' ++ [.ref Tn], _, _, _, rfl, upd_same, ?_, fun b' o' n' e' => by rw [upd_ne n']; exact sT _ _ (sy b' o' n' e')⟩
              rw [yes _ hro, List.map_append]
              exact ((hwy.same sT).upd eRn (by simp)).append (ThgL.one ((ThgL.tup (.cons (.str _) (.cons (.int _) (.cons (thg_opt _) (.cons (.int _) (.one (.int _)))))) upd_same : Thg [R] _ (.ref Tn) (row5D (ps[i], g.1, (some la), if la < mn then la else mn, if g.1 > mx then g.1 else mx))).upd eRn (by simp)))
            · refine ⟨ws', _, _, _, rfl, eRy, ?_, sy⟩
              rw [no (rowG_no fun z => c2 (decide_eq_true (z.2 la e2)))]
              exact hwy
        · refine ⟨ws', _, _, _, rfl, eRy, ?_, sy⟩
          rw [no (rowG_no fun z => c1 (decide_eq_true z.1))]
          exact hwy
      · obtain ⟨ws', y7, y8, y9, rfl, eRy, hwy, sy⟩ := hP
        rw [hzl, List.take_length, ← hr, ← esusp] at hwy
        refine ⟨ws', _, _, _, _, _, _, _, rfl, eRy, hwy, fun b o e => ?_, ?_⟩
        · exact sy _ _ (ne_of_none e nR) (S37 _ _ (sx b o e))
        · exact sy _ _ nlR (S37 _ _ elpx)
    · obtain ⟨ws, y3, y4, y5, y6, y7, y8, y9, rfl, eR, hw, sx, elpx⟩ := hP
      rw [List.length_map, List.take_length] at hw
      exact ⟨_, rfl, q R ws ps Hx nR sx eR hps hw⟩
end

/-! ### whether some, or each, fault of a row reaches a tin -/
def metB (w : Int × Int) (r : Row5) (each : Bool) : Bool := if each = true then decide (w.1 ≤ r.2.2.2.2) && decide (r.2.2.2.1 ≤ w.2) else Old.meetB r.2.1 r.2.2.1 w
def spMeets3 : Sp := fun vs H Q _ => ∃ (v vr : V) (k : Int) (each : Bool) (B : Bat3) (r : Row5) (w : Int × Int) (cs cs' : List Addr), vs = [v, .int k, vr, .bl each] ∧ Thg cs H v (batD B) ∧ BatOk B ∧ 0 ≤ k ∧ k < B.tins ∧ Thg cs' H vr (row5D r) ∧ winF B r.1 k = some w ∧ ∀ H', Same H H' → Q (.bl (metB w r each)) H'
abbrev sMeets3 : Stmt := topS 44
theorem scMeets3 : FnScope ["_law_batch", "_law_tin", "_law_row", "_law_each", "_law_place", "_law_first", "_law_last", "_law_latest", "_law_earliest", "_law_where"] ["_law_batch", "_law_tin", "_law_row", "_law_each"] (defScope sMeets3) := ⟨rfl, rfl, rfl, by decide +kernel, rfl, by decide +kernel, by decide +kernel⟩
section
variable {K : PySem.W.Frag} {mg : Str → Option Value} {P : Program} {w : World} {base : Heap}
theorem ok_Meets3 {f : Addr} {fd : FuncData} (F : Fun K "_law_meets" "_law_meets" sMeets3 f fd) (C__law_window : Cal P w K mg base 1 "_law_window" ["_law_batch", "_law_place", "_law_tin"] spLWin) : FnOk P w K mg base CX0 2 f fd ["_law_batch", "_law_tin", "_law_row", "_law_each"] spMeets3 := by
  refine F.ok scMeets3 (fun vs H Q E h => ?_) (fun cdv A outer s H vs Q E hr h => ?_)
  · obtain ⟨v, vr, k, each, B, r, w0, cs, cs', rfl, _⟩ := h
    rfl
  · obtain ⟨v, vr, k, each, B, r, w0, cs, cs', rfl, hv, hB, k0, k1, hrw, ew, q⟩ := h
    refine ⟨_, pss_cons (ps_asg (pv 2) (pg_tup rfl (pgs_cons (pg_name (i := 4) scMeets3.nd rfl (.inl rfl)) (pgs_cons (pg_name (i := 5) scMeets3.nd rfl (.inl rfl)) (pgs_cons (pg_name (i := 6) scMeets3.nd rfl (.inl rfl)) (pgs_cons (pg_name (i := 7) scMeets3.nd rfl (.inl rfl)) (pgs_cons (pg_name (i := 8) scMeets3.nd rfl (.inl rfl)) pgs_nil)))))))
      (pss_cons (ps_set (i := 9) scMeets3.nd rfl (.inl rfl) (pe_own C__law_window hr (by rfl) (pa_cons (pv 0) (pa_cons (pv 4) (pa_cons (pv 1) pa_nil)))))
      (pss_cons (ps_if (pt_not (pt_val (pv 3))) (pss_one (ps_ret (pe_and (pe_cmpR op_ge (pe_ix ix_tup (pv 9) pe_int (fun _ _ => rfl)) (pv 5) (nomark _)) (pe_one (pe_or (pe_cmpR op_isN (pv 6) pe_non (nomark _)) (pe_one (pe_cmpR op_le (pe_ix ix_tup (pv 9) pe_int (fun _ _ => rfl)) (pv 6) (nomark _))))))))
        pss_nil)
      (pss_one (ps_ret (pe_and (pe_cmpR op_le (pe_ix ix_tup (pv 9) pe_int (fun _ _ => rfl)) (pv 8) (nomark _)) (pe_one (pe_cmpR op_ge (pe_ix ix_tup (pv 9) pe_int (fun _ _ => rfl)) (pv 7) (nomark _)))))))), ?_⟩
    obtain ⟨T, rfl, eT⟩ := hrw.row5v
    refine ⟨_, rfl, T, _, rfl, .inl (.inl eT), rfl, _, _, rfl, _, _, rfl, _, _, rfl, _, _, rfl, _, _, rfl, rfl, _, rfl, _, rfl, _, rfl, v, r.1, k, B, cs, rfl, hv, hB, k0, k1, fun y H' s' hy => ?_⟩
    rw [ew] at hy
    obtain ⟨W, rfl, eW⟩ := Thg.pair hy
    have q' := q H' s'
    unfold metB at q'
    cases each with
    | false =>
      rw [if_neg (fun z => nomatch z)] at q'
      unfold Old.meetB at q'
      refine ⟨_, rfl, _, rfl, iteT ⟨_, rfl, W, _, 1, _, rfl, rfl, .inl (.inl eW), atI_nat (j := 1) rfl, _, rfl, _, _, rfl, rfl, _, rfl, ite2 (fun c => ?_) (fun c => ?_)⟩⟩
      · rw [decide_eq_true (of_decide_eq_true c), Bool.true_and] at q'
        refine ⟨_, rfl, rfl, _, rfl, ?_⟩
        revert q'
        generalize r.2.2.1 = o
        intro q'
        cases o with
        | none => exact iteT q'
        | some l => exact iteF ⟨_, rfl, W, _, 0, _, rfl, rfl, .inl (.inl eW), atI_nat (j := 0) rfl, _, rfl, _, _, rfl, rfl, q'⟩
      · rw [decide_eq_false (of_decide_eq_false (Bool.eq_false_iff.mpr c)), Bool.false_and] at q'
        exact q'
    | true =>
      rw [if_pos rfl] at q'
      refine ⟨_, rfl, _, rfl, iteF ⟨_, rfl, W, _, 0, _, rfl, rfl, .inl (.inl eW), atI_nat (j := 0) rfl, _, rfl, _, _, rfl, rfl, _, rfl, ite2 (fun c => ?_) (fun c => ?_)⟩⟩
      · rw [decide_eq_true (of_decide_eq_true c), Bool.true_and] at q'
        exact ⟨_, rfl, W, _, 1, _, rfl, rfl, .inl (.inl eW), atI_nat (j := 1) rfl, _, rfl, _, _, rfl, rfl, q'⟩
      · rw [decide_eq_false (of_decide_eq_false (Bool.eq_false_iff.mpr c)), Bool.false_and] at q'
        exact q'
end

/-! ### what is told of a tin, and what each fault says -/
def metAt (B : Bat3) (each : Bool) (n : Int) (r : Row5) : Bool := match winF B r.1 n with
  | some w => metB w r each
  | none => false
def hitR (B : Bat3) (rows : List Row5) (each : Bool) (n : Int) : Bool := decide (rows ≠ []) && (if each = true then rows.all (metAt B each n) else rows.any (metAt B each n))
theorem canon_hit {pr : Int → Prop} {T : Int} (h : ∀ n, pr n → 0 ≤ n ∧ n < T) (k : Int) : (canon pr).any (fun p => decide (p.1 ≤ k) && decide (k ≤ p.2)) = true ↔ pr k := by
  have t := canon_in h
  rw [← t.same k, List.any_eq_true]
  constructor
  · rintro ⟨p, hp, e⟩
    rw [Bool.and_eq_true] at e
    exact ⟨p, hp, of_decide_eq_true e.1, of_decide_eq_true e.2⟩
  · rintro ⟨p, hp, a, b⟩
    exact ⟨p, hp, by rw [decide_eq_true a, decide_eq_true b]; rfl⟩
def inZ (z : Int) (p : Int × Int) : Bool := decide (p.1 ≤ z) && decide (z ≤ p.2)
theorem canon_hitZ {pr : Int → Prop} {T : Int} (h : ∀ n, pr n → 0 ≤ n ∧ n < T) (k : Int) : (canon pr).any (inZ k) = true ↔ pr k := canon_hit h k
theorem ris_gap : ∀ {rs : List (Int × Int)} {lo : Int}, Ris lo rs → ∀ {i : Nat} {a b : Int × Int}, rs[i]? = some a → (rs.drop 1)[i]? = some b → a.2 + 1 < b.1
  | [], _, _, _, _, _, e, _ => by cases e
  | [p], _, _, i, _, _, _, e => by cases i <;> cases e
  | p :: q :: r, _, h, i, a, b, e1, e2 => by
    cases i with
    | zero =>
      cases e1
      cases e2
      have := h.2.2.1
      omega
    | succ i => exact ris_gap h.2.2 (i := i) e1 e2
theorem ThgL.bls {cs : List Addr} {H : Hp} : ∀ {xs : List V} {ns : List Bool}, ThgL cs H xs (ns.map PyData.bool) → xs = ns.map V.bl
  | _, [], h => h.inv0
  | _, n :: r, h => by
    obtain ⟨x, ys, rfl, h1, h2⟩ := ThgL.inv h
    rw [h1.inv_bl, ThgL.bls h2]
    rfl
theorem shaped_bls33 (bs : List Bool) : SeqAt.shaped (PyData.list (bs.map PyData.bool)) = true := by
  have h1 : ∀ bs : List Bool, PyData.canLayAll0 (bs.map PyData.bool) = true := fun bs => by
    induction bs with
    | nil => simp only [List.map_nil, PyData.canLayAll0]
    | cons b r ih => rw [List.map_cons, PyData.canLayAll0, ih, PyData.canLay0]; rfl
  have h2 : ∀ bs : List Bool, PyData.depthAll (bs.map PyData.bool) ≤ 1 := fun bs => by
    induction bs with
    | nil => simp only [List.map_nil, PyData.depthAll]; omega
    | cons b r ih => rw [List.map_cons, PyData.depthAll, PyData.depth]; omega
  unfold SeqAt.shaped
  rw [PyData.canLay0, h1, PyData.depth, Bool.true_and]
  exact decide_eq_true (by have := h2 bs; omega)
theorem shaped_nil33 : SeqAt.shaped (PyData.list []) = true := shaped_bls33 []
theorem shaped_marks33 {ms : List Str} (h : ∀ m ∈ ms, PyData.strOk m = true) : SeqAt.shaped (PyData.list (ms.map PyData.str)) = true := by
  have h1 : ∀ ms : List Str, (∀ m ∈ ms, PyData.strOk m = true) → PyData.canLayAll0 (ms.map PyData.str) = true := fun ms => by
    induction ms with
    | nil => intro _; simp only [List.map_nil, PyData.canLayAll0]
    | cons b r ih => intro h; rw [List.map_cons, PyData.canLayAll0, ih fun m hm => h m (List.mem_cons_of_mem _ hm), PyData.canLay0, h b (List.mem_cons_self ..)]; rfl
  have h2 : ∀ ms : List Str, PyData.depthAll (ms.map PyData.str) ≤ 1 := fun ms => by
    induction ms with
    | nil => simp only [List.map_nil, PyData.depthAll]; omega
    | cons b r ih => rw [List.map_cons, PyData.depthAll, PyData.depth]; omega
  unfold SeqAt.shaped
  rw [PyData.canLay0, h1 ms h, PyData.depth, Bool.true_and]
  exact decide_eq_true (by have := h2 ms; omega)
open Classical in
theorem rowsP_marks (pr : Bat3 → Int → Prop) : ∀ bs : List Bat3, (rowsP pr bs).map (fun r => PyData.str r.1) = bs.filterMap fun B => if canon (pr B) = [] then none else some (PyData.str B.mark)
  | [] => rfl
  | B :: r => by
    have ih := rowsP_marks pr r
    unfold rowsP at ih ⊢
    rw [List.filterMap_cons, List.filterMap_cons]
    unfold mrowO
    by_cases c : canon (pr B) = []
    · rw [if_pos c, if_pos c]
      exact ih
    · rw [if_neg c, if_neg c]
      exact congrArg (PyData.str B.mark :: ·) ih
theorem dic_there {cs : List Addr} {H : Hp} {kvs : List (Key × V)} {pr : Bat3 → Int → Prop} {bs : List Bat3} (hd : RowDic cs H kvs (rowsP pr bs)) (nd : (bs.map Bat3.mark).Nodup) {B : Bat3} (hB : B ∈ bs) : (valV kvs (.inr B.mark)).isSome = true ↔ canon (pr B) ≠ [] := by
  constructor
  · intro h
    obtain ⟨v, ev⟩ := Option.isSome_iff_exists.mp h
    obtain ⟨r, hr, e1, _⟩ := hd.1 _ _ ev
    obtain ⟨B', hB', e⟩ := List.mem_filterMap.mp hr
    have h2 := mrowO_mark e
    have e3 := lk_rows (pr := pr) nd hB
    rw [← e1, h2.1, lk_rows nd hB'] at e3
    rw [← e3]
    unfold mrowO at e
    split at e
    · cases e
    · assumption
  · intro h
    have hm : (B.mark, canon (pr B)) ∈ rowsP pr bs := List.mem_filterMap.mpr ⟨B, hB, by unfold mrowO; rw [if_neg h]⟩
    obtain ⟨v, ev⟩ := hd.2 _ hm
    rw [ev]
    rfl

/-! ### a number that may be great; rows so many times as long -/
def spSome : Sp := fun vs H Q _ => ∃ (b : Addr) (t m : Int), vs = [.ref b, .int m] ∧ Bx b H t ∧ t + 10 < 2 ^ 40 ∧ 0 < m ∧ m ≤ 10 ^ 40 ∧ ∀ r t' H', 0 ≤ r → r < m → t ≤ t' → t' ≤ t + 5 → Bx b H' t' → Kb b H H' → Q (.int r) H'
abbrev sSome : Stmt := topS 32
theorem scSome : FnScope ["_law_box_here", "_law_many", "_law_found", "_law_turn"] ["_law_box_here", "_law_many"] (defScope sSome) := ⟨rfl, rfl, rfl, by decide +kernel, rfl, by decide +kernel, by decide +kernel⟩
section
variable {K : PySem.W.Frag} {mg : Str → Option Value} {P : Program} {w : World} {base : Heap}
theorem ok_Some {f : Addr} {fd : FuncData} (F : Fun K "_law_some" "_law_some" sSome f fd) (C__law_take : Cal P w K mg base 1 "_law_take" ["_law_box_here", "_law_many"] spTakeB) (m_range : mg "range" = none) : FnOk P w K mg base CX0 2 f fd ["_law_box_here", "_law_many"] spSome := by
  refine F.ok scSome (fun vs H Q E h => ?_) (fun cdv A outer s H vs Q E hr h => ?_)
  · obtain ⟨b, t, m, rfl, _⟩ := h
    rfl
  · obtain ⟨b, t, m, rfl, hS, ht, hm0, hm1, q⟩ := h
    refine ⟨_, pss_cons (ps_if (pt_cmpR op_lt (pv 1) (pe_op op_pow pe_int pe_int) (nomark _)) (pss_one (ps_ret (pe_own C__law_take hr (by rfl) (pa_cons (pv 0) (pa_cons (pv 1) pa_nil)))))
        pss_nil)
      (pss_cons (ps_set (i := 2) scSome.nd rfl (.inl rfl) pe_int)
      (pss_cons (ps_for PassesOwn.never rfl (pi_range1 rfl m_range (pa_cons pe_int pa_nil)) (pg_name (i := 3) scSome.nd rfl (.inl rfl))
        (pss_one (ps_set (i := 2) scSome.nd rfl (.inl rfl) (pe_op op_add (pe_op op_mulW (pv 2) (pe_op op_pow pe_int pe_int)) (pe_own C__law_take hr (by rfl) (pa_cons (pv 0) (pa_cons (pe_op op_pow pe_int pe_int) pa_nil)))))))
      (pss_one (ps_ret (pe_op op_mod (pv 2) (pv 1)))))), ?_⟩
    have p6 : (10 : Int) ^ (6 : Int).toNat = 1000000 := by decide
    have p9 : (10 : Int) ^ (9 : Int).toNat = 1000000000 := by decide
    refine ⟨_, rfl, _, _, rfl, rfl, ⟨by decide, by decide, by decide⟩, _, _, rfl, rfl, _, rfl, ite2 (fun c => ?_) (fun c => ?_)⟩
    · refine ⟨_, rfl, _, rfl, b, t, m, rfl, hS, by omega, hm0, by omega, fun r t1 H1 r0 r1 u0 u1 hS1 k1 => q r t1 H1 r0 r1 u0 (by omega) hS1 k1⟩
    · refine ⟨_, rfl, by decide, by decide, for_range (n := 5) (fun i σ Hx => ∃ (f t' : Int) (y3 : Option V), σ = [some (.ref b), some (.int m), some (.int f), y3] ∧ 0 ≤ f ∧ f < 10 ^ (9 * i) ∧ t ≤ t' ∧ t' ≤ t + (i : Int) ∧ Bx b Hx t' ∧ Kb b H Hx) ⟨0, t, _, rfl, by decide, by decide, by omega, by omega, hS, Kb.refl _ _⟩ (fun i σ Hx hi hP => ?_) (fun σ Hx hP => ?_)⟩
      · obtain ⟨f, t', y3, rfl, f0, f1, v0, v1, hSx, kx⟩ := hP
        have f5 : f < 10 ^ 45 := by
          have hi5 : (10 : Int) ^ (9 * i) ≤ 10 ^ 45 := by
            have : i = 0 ∨ i = 1 ∨ i = 2 ∨ i = 3 ∨ i = 4 := by omega
            rcases this with e | e | e | e | e <;> rw [e] <;> decide
          exact Int.lt_of_lt_of_le f1 hi5
        have l1 := Old.log_lt (i := f) (by omega)
        have l2 : (1000000000 : Int).natAbs.log2 < 400 := by decide
        refine ⟨_, rfl, _, _, rfl, rfl, ⟨by decide, by decide, by decide⟩, _, _, rfl, rfl, ?_, _, rfl, _, _, rfl, rfl, ⟨by decide, by decide, by decide⟩, b, t', _, rfl, hSx, by omega, by rw [p9]; decide, by rw [p9]; decide, fun r t1 H1 r0 r1 u0 u1 hS1 k1 => ?_⟩
        · show f.natAbs.log2 + ((10 : Int) ^ (9 : Int).toNat).natAbs.log2 < 1000000
          rw [p9]
          omega
        rw [p9] at r1
        refine ⟨_, _, rfl, rfl, f * (10 : Int) ^ (9 : Int).toNat + r, t1, _, rfl, ?_, ?_, by omega, by omega, hS1, kx.trans k1⟩
        · rw [p9]
          omega
        · rw [p9, Nat.mul_add, Int.pow_add]
          have : f * 1000000000 + 1000000000 ≤ 10 ^ (9 * i) * 1000000000 := by omega
          show f * 1000000000 + r < 10 ^ (9 * i) * 10 ^ 9
          have e9 : (10 : Int) ^ 9 = 1000000000 := by decide
          rw [e9]
          omega
      · obtain ⟨f, t', y3, rfl, f0, f1, v0, v1, hSx, kx⟩ := hP
        have e0 := Int.emod_nonneg f (show m ≠ 0 by omega)
        have e1 := Int.emod_lt_of_pos f hm0
        exact ⟨_, rfl, _, rfl, _, _, rfl, rfl, hm0, q _ t' Hx e0 e1 v0 v1 hSx kx⟩
end

/-! ### great batches -/
def PasG : Pas3 → Prop
  | .line _ s l _ => s < 10 ^ 21 ∧ l < 10 ^ 19
  | .racks _ _ st => ∀ r ∈ st, r.2 < 10 ^ 21
def GrB (ps : List Str) (B : Bat3) : Prop := BatOk B ∧ B.tins ≤ 10 ^ 31 ∧ (∀ q ∈ B.pas, PasG q) ∧ B.pas.map Pas3.pl = ps
theorem up_div {n r : Int} (hn : 1 ≤ n) (hr : 1 ≤ r) : 1 ≤ (n + r - 1) / r ∧ (n + r - 1) / r ≤ n ∧ n ≤ (n + r - 1) / r * r := by
  have h1 := Int.lt_ediv_add_one_mul_self (n + r - 1) (show 0 < r by omega)
  rw [Int.add_mul, Int.one_mul] at h1
  refine ⟨(Int.le_ediv_iff_mul_le (by omega)).mpr (by omega), ?_, by omega⟩
  refine Int.le_of_lt_add_one ((Int.ediv_lt_iff_lt_mul (by omega)).mpr ?_)
  have h4 : n + 0 ≤ n * r := by
    have := Int.mul_le_mul_of_nonneg_left hr (show 0 ≤ n by omega)
    omega
  have h5 : r ≤ n * r := by
    have := Int.mul_le_mul_of_nonneg_right hn (show 0 ≤ r by omega)
    omega
  have h6 : n + r - 1 ≤ n * r := by
    have h7 : 0 ≤ (n - 1) * (r - 1) := Int.mul_nonneg (by omega) (by omega)
    rw [Int.sub_mul, Int.mul_sub, Int.one_mul] at h7
    omega
  rw [Int.add_mul, Int.one_mul]
  omega
/-- how many racks there are, again -/
theorem racks_few {n r : Int} (hn : 1 ≤ n) (hr : 1 ≤ r) : 1 ≤ (n + (n + r - 1) / r - 1) / ((n + r - 1) / r) ∧ (n + (n + r - 1) / r - 1) / ((n + r - 1) / r) ≤ r := by
  obtain ⟨h1, h2, h3⟩ := up_div hn hr
  refine ⟨(up_div hn h1).1, ?_⟩
  generalize (n + r - 1) / r = p at *
  refine Int.le_of_lt_add_one ((Int.ediv_lt_iff_lt_mul (by omega)).mpr ?_)
  rw [Int.add_mul, Int.one_mul, Int.mul_comm r p]
  omega
def spGreat3 : Sp := fun vs H Q _ => ∃ (b a : Addr) (t : Int) (ps : List Str), vs = [.ref b, .ref a] ∧ Bx b H t ∧ t + 20000 < 2 ^ 40 ∧ H a = some (.lst (ps.map V.str)) ∧ a ≠ b ∧ ps.length ≤ 5 ∧ (∀ p ∈ ps, TxS 20 p) ∧
  ∀ v (bs : List Bat3) t' H', Thg [b] H' v (.list (bs.map batD)) → (∀ B ∈ bs, GrB ps B) → (bs.map Bat3.mark).Nodup → 1 ≤ bs.length → bs.length ≤ 4 → t ≤ t' → t' ≤ t + 10000 → Bx b H' t' → Kb b H H' → Q v H'
abbrev sGreat3 : Stmt := topS 40
theorem scGreat3 : FnScope ["_law_box_here", "_law_places_here", "_law_found", "_law_mark", "_law_tins", "_law_some_here", "_law_place", "_law_start", "_law_long", "_law_one", "_law_racks", "_law_per", "_law_ends", "_law_k", "_law_end"] ["_law_box_here", "_law_places_here"] (defScope sGreat3) := ⟨rfl, rfl, rfl, by decide +kernel, rfl, by decide +kernel, by decide +kernel⟩
section
variable {K : PySem.W.Frag} {mg : Str → Option Value} {P : Program} {w : World} {base : Heap}
theorem ok_Great3 {f : Addr} {fd : FuncData} (F : Fun K "_law_great" "_law_great" sGreat3 f fd) (C__law_marks : Cal P w K mg base 2 "_law_marks" ["_law_box_here", "_law_many"] spMarks3) (C__law_take : Cal P w K mg base 1 "_law_take" ["_law_box_here", "_law_many"] spTakeB) (C__law_some : Cal P w K mg base 2 "_law_some" ["_law_box_here", "_law_many"] spSome) (m_int : mg "int" = none) (m_range : mg "range" = none) : FnOk P w K mg base CX0 3 f fd ["_law_box_here", "_law_places_here"] spGreat3 := by
  refine F.ok scGreat3 (fun vs H Q E h => ?_) (fun cdv A outer s H vs Q E hr h => ?_)
  · obtain ⟨b, a, t, ps, rfl, _⟩ := h
    rfl
  · obtain ⟨b, a, t, ps, rfl, hS, ht, ha, hab, hpl, hpo, q⟩ := h
    refine ⟨_, pss_cons (ps_set (i := 2) scGreat3.nd rfl (.inl rfl) (pe_lst pa_nil))
      (pss_cons (ps_for PassesOwn.never rfl (pi_list (pe_own C__law_marks hr (by rfl) (pa_cons (pv 0) (pa_cons (pe_op op_add pe_int (pe_own C__law_take (hr.mono (show 1 ≤ 2 by decide)) (by rfl) (pa_cons (pv 0) (pa_cons pe_int pa_nil)))) pa_nil)))) (pg_name (i := 3) scGreat3.nd rfl (.inl rfl))
        (pss_cons (ps_par rfl scGreat3.nd (i := 4) (j := 5) rfl rfl (by decide) rfl rfl (pa_cons (pe_op op_add pe_int (pe_own C__law_some hr (by rfl) (pa_cons (pv 0) (pa_cons (pe_ix ix_list (pe_lst (pa_cons (pe_op op_pow pe_int pe_int) (pa_cons (pe_op op_pow pe_int pe_int) (pa_cons (pe_op op_pow pe_int pe_int) pa_nil)))) (pe_own C__law_take (hr.mono (show 1 ≤ 2 by decide)) (by rfl) (pa_cons (pv 0) (pa_cons pe_int pa_nil))) (fun _ _ => rfl)) pa_nil)))) (pa_cons (pe_lst pa_nil) pa_nil)) (by rfl))
        (pss_cons (ps_for PassesOwn.never rfl (pi_list (pv 1)) (pg_name (i := 6) scGreat3.nd rfl (.inl rfl))
          (pss_cons (ps_par rfl scGreat3.nd (i := 7) (j := 8) rfl rfl (by decide) rfl rfl (pa_cons (pe_own C__law_some hr (by rfl) (pa_cons (pv 0) (pa_cons (pe_op op_pow pe_int pe_int) pa_nil))) (pa_cons (pe_own C__law_some hr (by rfl) (pa_cons (pv 0) (pa_cons (pe_ix ix_list (pe_lst (pa_cons pe_int (pa_cons (pe_op op_pow pe_int pe_int) (pa_cons (pe_op op_pow pe_int pe_int) pa_nil)))) (pe_own C__law_take (hr.mono (show 1 ≤ 2 by decide)) (by rfl) (pa_cons (pv 0) (pa_cons pe_int pa_nil))) (fun _ _ => rfl)) pa_nil))) pa_nil)) (by rfl))
          (pss_cons (ps_set (i := 9) scGreat3.nd rfl (.inl rfl) (pe_tup (pa_cons pe_str (pa_cons (pv 6) (pa_cons (pv 7) (pa_cons (pe_ix ix_list (pe_lst (pa_cons pe_int (pa_cons (pv 8) pa_nil))) (pe_callTy call_int1 (by rfl) m_int (by decide +kernel) (pa_cons (pe_cmpR op_gt (pe_own C__law_take (hr.mono (show 1 ≤ 2 by decide)) (by rfl) (pa_cons (pv 0) (pa_cons pe_int pa_nil))) pe_int (nomark _)) pa_nil)) (fun _ _ => rfl)) (pa_cons (pe_op op_add pe_int (pe_own C__law_some hr (by rfl) (pa_cons (pv 0) (pa_cons (pe_op op_pow pe_int pe_int) pa_nil)))) pa_nil)))))))
          (Evl.pss_cut (ps_if (pt_cmpR op_eq (pe_own C__law_take (hr.mono (show 1 ≤ 2 by decide)) (by rfl) (pa_cons (pv 0) (pa_cons pe_int pa_nil))) pe_int (nomark _)) (pss_cons (ps_set (i := 10) scGreat3.nd rfl (.inl rfl) (pe_op op_add pe_int (pe_own C__law_take (hr.mono (show 1 ≤ 2 by decide)) (by rfl) (pa_cons (pv 0) (pa_cons pe_int pa_nil)))))
            (pss_cons (ps_set (i := 11) scGreat3.nd rfl (.inl rfl) (pe_op op_fdivW (pe_op op_sub (pe_op op_add (pv 4) (pv 10)) pe_int) (pv 10)))
            (pss_cons (ps_setLc (i := 12) (own := [("_law_k", 13)]) (g := (gName 13)) (tt := tYes) (te := (tCall spSome [] E0 (tCons (tVar 0) (tCons (tOp (rI CPow fun i j => .int (i ^ j.toNat)) (tC (.int 10)) (tC (.int 20))) tNil)))) rfl scGreat3.nd rfl rfl (sw_true rfl rfl rfl (by decide +kernel)) (pi_range1 rfl m_range (pa_cons (pe_op op_fdivW (pe_op op_sub (pe_op op_add (pv 4) (pv 11)) pe_int) (pv 11)) pa_nil)) (blkOk_by (own := [("_law_k", 13)]) (N := ["_law_box_here", "_law_places_here", "_law_found", "_law_mark", "_law_tins", "_law_some_here", "_law_place", "_law_start", "_law_long", "_law_one", "_law_racks", "_law_per", "_law_ends", "_law_k", "_law_end"]) (sc := defScope sGreat3) (by decide +kernel)) (fun _ _ _ _ _ => (pg_name (i := 13) scGreat3.nd rfl (.inl rfl))) (fun _ _ _ _ _ => pts_nil) (fun _ _ _ _ _ => (pe_own C__law_some hr (by rfl) (pa_cons (pv 0) (pa_cons (pe_op op_pow pe_int pe_int) pa_nil)))))
            (pss_one (ps_set (i := 9) scGreat3.nd rfl (.inl rfl) (pe_mid (pe_tup (pa_cons pe_str (pa_cons (pv 6) (pa_cons (pv 11) (pa_cons (pe_lc (own := [("_law_end", 14)]) (g := (gName 14)) (tt := tYes) (te := (tTup (tCons (tVar 14) (tCons (tOp (rI0 fun i j => .int (i + j)) (tVar 14) (tCall spSome [] E0 (tCons (tVar 0) (tCons (tOp (rI CPow fun i j => .int (i ^ j.toNat)) (tC (.int 10)) (tC (.int 18))) tNil)))) tNil)))) rfl scGreat3.nd (pi_list (pv 12)) (blkOk_by (own := [("_law_end", 14)]) (N := ["_law_box_here", "_law_places_here", "_law_found", "_law_mark", "_law_tins", "_law_some_here", "_law_place", "_law_start", "_law_long", "_law_one", "_law_racks", "_law_per", "_law_ends", "_law_k", "_law_end"]) (sc := defScope sGreat3) (by decide +kernel)) (fun _ _ _ _ _ => (pg_name (i := 14) scGreat3.nd rfl (.inl rfl))) (fun _ _ _ _ _ => pts_nil) (fun _ _ _ _ _ => (pe_tup (pa_cons (pv 14) (pa_cons (pe_op op_add (pv 14) (pe_own C__law_some hr (by rfl) (pa_cons (pv 0) (pa_cons (pe_op op_pow pe_int pe_int) pa_nil)))) pa_nil))))) pa_nil)))))))))))
            pss_nil)
          (pss_one (ps_expr (pe_bm PySem.F.plainAttrs_list PySem.F.slot_list_append PySem.F.type_list_append mt_append (pv 5) (pa_cons (pv 9) pa_nil))))))))
        (pss_one (ps_expr (pe_bm PySem.F.plainAttrs_list PySem.F.slot_list_append PySem.F.type_list_append mt_append (pv 2) (pa_cons (pe_tup (pa_cons (pv 3) (pa_cons (pv 4) (pa_cons (pv 5) pa_nil)))) pa_nil)))))))
      (pss_one (ps_ret (pv 2)))), ?_⟩
    refine ⟨Nat.zero_le _, fun p np => ?_⟩
    have sp := same_upd (o := .lst []) np
    have offp := hS.off np
    refine ⟨_, rfl, _, rfl, b, t, 4, rfl, hS.same sp, by omega, by decide, by decide, fun r0 t0 H0 r00 r01 u0' u1' hS0 k0 => ⟨_, _, rfl, rfl, b, t0, 1 + r0, rfl, hS0, by omega, by omega, by omega, fun l xs t1 H1 nl el hxo hxd hxl u0 u1 hS1 k1 => ⟨l, rfl, ⟨_, SqL.of el⟩, ?_⟩⟩⟩
    have k01 := ((Kb.same sp).trans k0).trans k1
    have ep1 := (k0.trans k1).new offp
    have offl := hS0.off nl
    have nlp : l ≠ p := fun z => by rw [z, k0.new offp] at nl; cases nl
    have hxn : (xs.length : Int) ≤ 4 := by omega
    refine for_list (xs := xs.map V.str) (fun i σ Hx => ∃ (t' : Int) (us : List V) (bs : List Bat3) (y3 y4 y5 y6 y7 y8 y9 y10 y11 y12 : Option V), σ = [some (.ref b), some (.ref a), some (.ref p), y3, y4, y5, y6, y7, y8, y9, y10, y11, y12, none, none] ∧ Hx p = some (.lst us) ∧ ThgL [p, b] Hx us (bs.map batD) ∧ bs.map Bat3.mark = xs.take i ∧ (∀ B ∈ bs, GrB ps B) ∧ t1 ≤ t' ∧ t' ≤ t1 + 2000 * (i : Int) ∧ Bx b Hx t' ∧ Kb b H Hx ∧ Hx l = some (.lst (xs.map V.str)))
      ⟨t1, [], [], _, _, _, _, _, _, _, _, _, _, rfl, ep1, ThgL.nil, rfl, (fun _ z => nomatch z), by omega, by omega, hS1, k01, el⟩ (fun i σ Hx _ hP => ?_) (fun i x σ Hx hx hP => ?_) (fun σ Hx hP => ?_)
    · obtain ⟨t', us, bs, y3, y4, y5, y6, y7, y8, y9, y10, y11, y12, rfl, ep, hu, hmk, hok, v0, v1, hSx, kx, elx⟩ := hP
      exact SqL.of elx
    · obtain ⟨t', us, bs, y3, y4, y5, y6, y7, y8, y9, y10, y11, y12, rfl, ep, hu, hmk, hok, v0, v1, hSx, kx, elx⟩ := hP
      have hi : i < xs.length := by
        have := (List.getElem?_eq_some_iff.mp hx).1
        rwa [List.length_map] at this
      rw [List.getElem?_map, List.getElem?_eq_getElem hi] at hx
      cases hx
      have hi4 : (i : Int) < 4 := by omega
      have ep3 : (10 : Int) ^ (3 : Int).toNat = 1000 := by decide
      have ep12 : (10 : Int) ^ (12 : Int).toNat = 1000000000000 := by decide
      have ep30 : (10 : Int) ^ (30 : Int).toNat = 1000000000000000000000000000000 := by decide
      have ep20 : (10 : Int) ^ (20 : Int).toNat = 100000000000000000000 := by decide
      have ep9 : (10 : Int) ^ (9 : Int).toNat = 1000000000 := by decide
      have ep18 : (10 : Int) ^ (18 : Int).toNat = 1000000000000000000 := by decide
      refine ⟨_, rfl, _, _, rfl, rfl, ⟨by decide, by decide, by decide⟩, _, _, rfl, rfl, ⟨by decide, by decide, by decide⟩, _, _, rfl, rfl, ⟨by decide, by decide, by decide⟩, (by show 3 ≤ sizeLine; decide), fun Z nZ => ?_⟩
      have sZ := same_upd (o := .lst [V.int (10 ^ (3 : Int).toNat), .int (10 ^ (12 : Int).toNat), .int (10 ^ (30 : Int).toNat)]) nZ
      have eZ := upd_same (H := Hx) (a := Z) (o := .lst [V.int (10 ^ (3 : Int).toNat), .int (10 ^ (12 : Int).toNat), .int (10 ^ (30 : Int).toNat)])
      refine ⟨_, rfl, b, t', 3, rfl, hSx.same sZ, by omega, by decide, by decide, fun r2 t2 H2 r20 r21 w0 w1 hS2 k2 => ?_⟩
      obtain ⟨v, ev, hv⟩ := pick_at (xs := [V.int (10 ^ (3 : Int).toNat), .int (10 ^ (12 : Int).toNat), .int (10 ^ (30 : Int).toNat)]) (n := 3) rfl r20 (by omega)
      obtain ⟨m, rfl, hm0, hm1⟩ : ∃ m : Int, v = .int m ∧ 1 ≤ m ∧ m ≤ 1000000000000000000000000000000 := by
        simp only [List.mem_cons, List.not_mem_nil, or_false] at hv
        rcases hv with rfl | rfl | rfl
        · exact ⟨_, rfl, by decide, by decide⟩
        · exact ⟨_, rfl, by decide, by decide⟩
        · exact ⟨_, rfl, by decide, by decide⟩
      have eZ2 := k2 _ _ (hSx.off nZ) eZ
      refine ⟨Z, _, _, _, rfl, rfl, SqL.of eZ2, ev, b, t2, m, rfl, hS2, by omega, by omega, (Int.le_trans hm1 (by decide)), fun n t3 H3 n0 n1 w2 w3 hS3 k3 => ⟨_, _, rfl, rfl, Nat.zero_le _, fun S nS => ⟨_, _, rfl, ?_⟩⟩⟩
      have sS := same_upd (o := .lst []) nS
      have k3x := ((Kb.same sZ).trans k2).trans k3
      have offS := hS3.off nS
      have nSx : Hx S = none := k3x.free hS3 nS
      have ea3 := k3x _ _ hab (kx _ _ hab ha)
      have hS3' := hS3.same sS
      have eS0 := upd_same (H := H3) (a := S) (o := .lst [])
      have k3S : Kb b Hx (upd H3 S (.lst [])) := k3x.trans (Kb.same sS)
      revert sS hS3' eS0 k3S
      generalize upd H3 S (.lst []) = HS
      intro sS hS3' eS0 k3S
      have ep5 := k3S _ _ offp ep
      have nSp : S ≠ p := fun z => by rw [z, ep] at nSx; cases nSx
      have hn1 : 1 ≤ 1 + n := by omega
      have hnB : 1 + n < Big := by have e75 : Big = 10 ^ 75 := rfl; omega
      refine ⟨_, rfl, a, rfl, ⟨_, SqL.of (sS _ _ ea3)⟩, for_list (xs := ps.map V.str) (fun j σ Hy => ∃ (t'' : Int) (ws : List V) (qs : List Pas3) (y6 y7 y8 y9 y10 y11 y12 : Option V), σ = [some (.ref b), some (.ref a), some (.ref p), some (.str xs[i]), some (.int (1 + n)), some (.ref S), y6, y7, y8, y9, y10, y11, y12, none, none] ∧ Hy S = some (.lst ws) ∧ ThgL [S, p, b] Hy ws (qs.map pasD) ∧ qs.map Pas3.pl = ps.take j ∧ (∀ q ∈ qs, PasOk (1 + n) q ∧ PasG q) ∧ t3 ≤ t'' ∧ t'' ≤ t3 + 300 * (j : Int) ∧ Bx b Hy t'' ∧ Kb b Hx Hy)
        ⟨t3, [], [], _, _, _, _, _, _, _, rfl, eS0, ThgL.nil, rfl, (fun _ z => nomatch z), by omega, by omega, hS3', k3S⟩ (fun j σ Hy _ hP => ?_) (fun j x σ Hy hx hP => ?_) (fun σ Hy hP => ?_)⟩
      · obtain ⟨t'', ws, qs, y6, y7, y8, y9, y10, y11, y12, rfl, eS, hw, hqp, hqo, x0, x1, hSy, ky⟩ := hP
        exact SqL.of (ky _ _ hab (kx _ _ hab ha))
      · obtain ⟨t'', ws, qs, y6, y7, y8, y9, y10, y11, y12, rfl, eS, hw, hqp, hqo, x0, x1, hSy, ky⟩ := hP
        have hj : j < ps.length := by
          have := (List.getElem?_eq_some_iff.mp hx).1
          rwa [List.length_map] at this
        have hj5 : (j : Int) < 5 := by omega
        rw [List.getElem?_map, List.getElem?_eq_getElem hj] at hx
        cases hx
        have hpj := hpo _ (List.getElem_mem hj)
        have hcs : ∀ c ∈ [S, p, b], Hy c ≠ none := fun c hc => by
          simp only [List.mem_cons, List.not_mem_nil, or_false] at hc
          rcases hc with rfl | rfl | rfl
          · rw [eS]; exact fun z => nomatch z
          · rw [ky _ _ offp ep]; exact fun z => nomatch z
          · exact hSy.ne
        -- start, how long
        refine ⟨_, rfl, _, _, rfl, rfl, ⟨by decide, by decide, by decide⟩, b, t'', _, rfl, hSy, by omega, (by rw [ep20]; decide), (by rw [ep20]; decide), fun s0 t4 H4 s00 s01 w4 w5 hS4 k4 => ?_⟩
        rw [ep20] at s01
        refine ⟨_, rfl, _, _, rfl, rfl, ⟨by decide, by decide, by decide⟩, _, _, rfl, rfl, ⟨by decide, by decide, by decide⟩, (by show 3 ≤ sizeLine; decide), fun Z1 nZ1 => ?_⟩
        have sZ1 := same_upd (o := .lst [V.int 99, .int (10 ^ (9 : Int).toNat), .int (10 ^ (18 : Int).toNat)]) nZ1
        have eZ1 := upd_same (H := H4) (a := Z1) (o := .lst [V.int 99, .int (10 ^ (9 : Int).toNat), .int (10 ^ (18 : Int).toNat)])
        refine ⟨_, rfl, b, t4, 3, rfl, hS4.same sZ1, by omega, by decide, by decide, fun r5 t5 H5 r50 r51 w6 w7 hS5 k5 => ?_⟩
        obtain ⟨v2, ev2, hv2⟩ := pick_at (xs := [V.int 99, .int (10 ^ (9 : Int).toNat), .int (10 ^ (18 : Int).toNat)]) (n := 3) rfl r50 (by omega)
        obtain ⟨m2, rfl, hm20, hm21⟩ : ∃ m : Int, v2 = .int m ∧ 1 ≤ m ∧ m ≤ 1000000000000000000 := by
          simp only [List.mem_cons, List.not_mem_nil, or_false] at hv2
          rcases hv2 with rfl | rfl | rfl
          · exact ⟨_, rfl, by decide, by decide⟩
          · exact ⟨_, rfl, by decide, by decide⟩
          · exact ⟨_, rfl, by decide, by decide⟩
        refine ⟨Z1, _, _, _, rfl, rfl, SqL.of (k5 _ _ (hS4.off nZ1) eZ1), ev2, b, t5, m2, rfl, hS5, by omega, by omega, (Int.le_trans hm21 (by decide)), fun l0 t6 H6 l00 l01 w8 w9 hS6 k6 => ⟨_, _, rfl, ?_⟩⟩
        -- the line
        refine ⟨_, rfl, _, rfl, _, rfl, (by show 2 ≤ sizeLine; decide), fun Z2 nZ2 => ?_⟩
        have sZ2 := same_upd (o := .lst [V.int 0, .int l0]) nZ2
        have eZ2' := upd_same (H := H6) (a := Z2) (o := .lst [V.int 0, .int l0])
        refine ⟨_, rfl, b, t6, 6, rfl, hS6.same sZ2, by omega, by decide, by decide, fun r7 t7 H7 r70 r71 w10 w11 hS7 k7 => ⟨_, _, rfl, rfl, .inr ⟨_, rfl, ?_⟩⟩⟩
        obtain ⟨gr, egr, hgr⟩ : ∃ gr : Nat, (if decide ((0 : Int) < r7) = true then (1 : Int) else 0) = ((gr : Nat) : Int) ∧ gr < 2 := by
          by_cases c : decide ((0 : Int) < r7) = true
          · exact ⟨1, by rw [if_pos c]; rfl, by decide⟩
          · exact ⟨0, by rw [if_neg c]; rfl, by decide⟩
        rw [egr]
        obtain ⟨v3, ev3, hv3⟩ := pick_at (xs := [V.int 0, .int l0]) (n := 2) (r := (gr : Int)) rfl (by omega) (by omega)
        obtain ⟨ln, rfl, hl0, hl1⟩ : ∃ m : Int, v3 = .int m ∧ 0 ≤ m ∧ m < 1000000000000000000 := by
          simp only [List.mem_cons, List.not_mem_nil, or_false] at hv3
          rcases hv3 with rfl | rfl
          · exact ⟨_, rfl, by decide, by decide⟩
          · exact ⟨_, rfl, by omega, by omega⟩
        refine ⟨Z2, _, _, _, rfl, rfl, SqL.of (k7 _ _ (hS6.off nZ2) eZ2'), ev3, ?_⟩
        refine ⟨_, rfl, _, _, rfl, rfl, ⟨by decide, by decide, by decide⟩, b, t7, _, rfl, hS7, by omega, (by rw [ep12]; decide), (by rw [ep12]; decide), fun b0 t8 H8 b00 b01 w12 w13 hS8 k8 => ⟨_, _, rfl, rfl, (by show 5 ≤ sizeLine; decide), fun T nT => ?_⟩⟩
        rw [ep12] at b01
        have sT := same_upd (o := .tup [V.str "line", .str ps[j], .int s0, .int ln, .int (1 + b0)]) nT
        have k48 : Kb b Hy (upd H8 T (.tup [V.str "line", .str ps[j], .int s0, .int ln, .int (1 + b0)])) := ((((k4.trans (Kb.same sZ1)).trans k5).trans k6).trans ((Kb.same sZ2).trans (k7.trans k8))).trans (Kb.same sT)
        have hq1 : Thg [S, p, b] (upd H8 T (.tup [V.str "line", .str ps[j], .int s0, .int ln, .int (1 + b0)])) (.ref T) (pasD (.line ps[j] s0 ln (1 + b0))) := ThgL.tup (.cons (.str _) (.cons (.str _) (.cons (.int _) (.cons (.int _) (.one (.int _)))))) upd_same
        have hS8' := hS8.same sT
        revert k48 hq1 hS8'
        generalize upd H8 T (.tup [V.str "line", .str ps[j], .int s0, .int ln, .int (1 + b0)]) = H9
        intro k48 hq1 hS8'
        have e75 : Big = 10 ^ 75 := rfl
        refine ⟨fun σ H' => ∃ (t9 : Int) (v : V) (q' : Pas3) (y7 y8 y10 y11 y12 : Option V), σ = [some (.ref b), some (.ref a), some (.ref p), some (.str xs[i]), some (.int (1 + n)), some (.ref S), some (.str ps[j]), y7, y8, some v, y10, y11, y12, none, none] ∧ Thg [S, p, b] H' v (pasD q') ∧ PasOk (1 + n) q' ∧ PasG q' ∧ q'.pl = ps[j] ∧ t'' ≤ t9 ∧ t9 ≤ t'' + 250 ∧ Bx b H' t9 ∧ Kb b Hy H', ?_, ?_⟩
        · refine ⟨_, rfl, b, t8, 3, rfl, hS8', by omega, by decide, by decide, fun r9 t9 H10 r90 r91 w14 w15 hS10 k10 => ⟨rfl, _, rfl, ite2 (fun _ => ?_) (fun _ => ?_)⟩⟩
          rotate_left
          · exact ⟨t9, _, _, _, _, _, _, _, rfl, hq1.kb hS8' k10 (by simp), ⟨hpj, by omega, by omega, by omega, by omega, by omega, by omega⟩, ⟨by omega, by omega⟩, rfl, by omega, by omega, hS10, k48.trans k10⟩
          have k410 := k48.trans k10
          have hcsK : ∀ {H' : Hp} {t' : Int}, Kb b Hy H' → Bx b H' t' → ∀ c ∈ [S, p, b], H' c ≠ none := fun {H' t'} kk hB' c hc => by
            simp only [List.mem_cons, List.not_mem_nil, or_false] at hc
            rcases hc with rfl | rfl | rfl
            · rw [kk _ _ offS eS]; exact fun z => nomatch z
            · rw [kk _ _ offp (ky _ _ offp ep)]; exact fun z => nomatch z
            · exact hB'.ne
          refine ⟨_, rfl, b, t9, 12, rfl, hS10, by omega, by decide, by decide, fun r11 t11 H11 r110 r111 w16 w17 hS11 k11 => ⟨_, _, rfl, rfl, ?_⟩⟩
          obtain ⟨pe1, pe2, pe3⟩ := up_div hn1 (show 1 ≤ 1 + r11 by omega)
          obtain ⟨cn1, cn2⟩ := racks_few hn1 (show 1 ≤ 1 + r11 by omega)
          refine ⟨_, rfl, _, rfl, _, _, rfl, rfl, _, _, rfl, rfl, _, rfl, _, _, rfl, rfl, divw (by omega) (by omega), ?_⟩
          obtain ⟨mn, hmn⟩ := Int.eq_ofNat_of_zero_le (show 0 ≤ (1 + n + (1 + n + (1 + r11) - 1) / (1 + r11) - 1) / ((1 + n + (1 + r11) - 1) / (1 + r11)) by omega)
          refine ⟨_, rfl, _, rfl, _, _, rfl, rfl, _, _, rfl, rfl, _, rfl, _, _, rfl, rfl, divw (by omega) (by omega), (mn : Int), by show [V.int ((1 + n + ((1 + n + (1 + r11) - 1) / (1 + r11)) - 1) / ((1 + n + (1 + r11) - 1) / (1 + r11)))] = _; rw [hmn], by omega, by omega, fun D nD => ?_⟩
          have offD := hS11.off nD
          have k411 := k410.trans k11
          refine lc_bx (α := Int) PyData.int (fun _ x => 0 ≤ x ∧ x < 100000000000000000000) 5 (walk_range (lo := 0) (n := (mn : Int).toNat)) [S, p, b] (by simp) (hcsK k411 hS11) hS11 nD (by omega) (fun H' _ _ => trivial) (fun i' x H12 H12' t12 Kt Kn hi' z0 z1 hS12 k12 _ hyy kt => ?_) (fun H12 t12 zs hzl hz z0 z1 hS12 k12 hD => ?_)
          · obtain ⟨rfl, rfl⟩ := hyy
            have hi12 : (i' : Int) < 12 := by omega
            refine ⟨rfl, _, rfl, _, _, rfl, rfl, ⟨by decide, by decide, by decide⟩, b, t12, _, rfl, hS12, by omega, (by rw [ep20]; decide), (by rw [ep20]; decide), fun x0 t13 H13 x00 x01 z2 z3 hS13 k13 => ?_⟩
            rw [ep20] at x01
            exact kt x0 _ t13 H13 ⟨x00, x01⟩ (.int _) (by omega) (by omega) hS13 k13
          obtain ⟨D', xd, eD', eD, _, hD1⟩ := hD.list
          cases eD'
          rw [hD1.ints] at eD
          have k412 := k411.trans k12
          have hmn12 : (mn : Int) ≤ 12 := by omega
          refine ⟨fun v H' => ∃ (t13 : Int) (st : List (Int × Int)), Thg [S, p, b] H' v (pasD (.racks ps[j] ((1 + n + (1 + r11) - 1) / (1 + r11)) st)) ∧ st.length = mn ∧ (∀ r ∈ st, 0 ≤ r.1 ∧ r.1 ≤ r.2 ∧ r.2 < 1000000000000000000000) ∧ t12 ≤ t13 ∧ t13 ≤ t12 + 80 ∧ Bx b H' t13 ∧ Kb b Hy H', ?_, ?_⟩
          · refine ⟨_, rfl, _, rfl, _, rfl, D, rfl, ⟨_, SqL.of eD⟩, fun E nE => ?_⟩
            have offE := hS12.off nE
            refine lc_bx (α := Int × Int) pairD (fun _ r => 0 ≤ r.1 ∧ r.1 ≤ r.2 ∧ r.2 < 1000000000000000000000) 6 (walk_list (xs := zs.map V.int)) [S, p, b] (by simp) (hcsK k412 hS12) hS12 nE (by rw [List.length_map]; omega) (fun H' kk _ => SqL.of (kk _ _ offD eD)) (fun i' x H13 H13' t13 Kt Kn hi' z2 z3 hS13 k13 _ hyy kt => ?_) (fun H13 t13 st hsl hst z2 z3 hS13 k13 hE => ?_)
            · obtain ⟨rfl, hx13⟩ := hyy
              rw [List.length_map] at hi'
              rw [List.getElem?_map, List.getElem?_eq_getElem hi'] at hx13
              cases hx13
              obtain ⟨e0, e1⟩ := hz i' _ (List.getElem?_eq_getElem hi')
              have hi12 : (i' : Int) < 12 := by omega
              refine ⟨rfl, _, rfl, _, rfl, _, rfl, _, _, rfl, rfl, ⟨by decide, by decide, by decide⟩, b, t13, _, rfl, hS13, by omega, (by rw [ep18]; decide), (by rw [ep18]; decide), fun x0 t14 H14 x00 x01 z4 z5 hS14 k14 => ⟨_, _, rfl, rfl, (by show 2 ≤ sizeLine; decide), fun T2 nT2 => ?_⟩⟩
              rw [ep18] at x01
              have sT2 := same_upd (o := .tup [V.int zs[i'], .int (zs[i'] + x0)]) nT2
              exact kt (zs[i'], zs[i'] + x0) _ t14 _ ⟨e0, by show zs[i'] ≤ zs[i'] + x0; omega, by show zs[i'] + x0 < _; omega⟩ (ThgL.tup (.cons (.int _) (.one (.int _))) upd_same) (by omega) (by omega) (hS14.same sT2) (k14.trans (Kb.same sT2))
            · rw [List.length_map] at hsl z3
              refine ⟨(by show 4 ≤ sizeLine; decide), fun T2 nT2 => ?_⟩
              have sT2 := same_upd (o := .tup [V.str "racks", .str ps[j], .int ((1 + n + (1 + r11) - 1) / (1 + r11)), .ref E]) nT2
              refine ⟨t13, st, ThgL.tup (.cons (.str _) (.cons (.str _) (.cons (.int _) (.one (hE.same sT2))))) upd_same, by omega, fun r hr => ?_, by omega, by omega, hS13.same sT2, (k412.trans k13).trans (Kb.same sT2)⟩
              obtain ⟨i', hi'⟩ := List.getElem?_of_mem hr
              exact hst i' r hi'
          · rintro v H' ⟨t13, st, hv, hsl, hst, z2, z3, hS13, k13⟩
            refine ⟨t13, v, .racks ps[j] ((1 + n + (1 + r11) - 1) / (1 + r11)) st, _, _, _, _, _, rfl, hv, ⟨hpj, pe1, by omega, by rw [hsl, hmn], by omega, fun r hr => ?_⟩, fun r hr => ?_, rfl, by omega, by omega, hS13, k13⟩
            · have := hst r hr
              omega
            · have := hst r hr
              omega
        · rintro σ H' ⟨t9, v, q', y7, y8, y10, y11, y12, rfl, hq, hqk, hqg, hqpl, x2, x3, hS9, k9⟩
          have eS9 := k9 _ _ offS eS
          have hwl : ws.length = j := by rw [hw.1, List.length_map, ← List.length_map (f := Pas3.pl), hqp, List.length_take]; omega
          refine ⟨_, rfl, .inl ⟨rfl, _, SqL.of eS9⟩, _, rfl, S, _, _, rfl, rfl, eS9, small1000 (by omega), t9, ws ++ [v], qs ++ [q'], _, _, _, _, _, _, _, rfl, upd_same, ?_, ?_, fun q0 hq0 => ?_, by omega, by omega, hS9.upd offS, fun a' o na ea => ?_⟩
          · rw [List.map_append]
            exact ((hw.kb hSy k9 (by simp)).upd eS9 (by simp)).append (ThgL.one (hq.upd eS9 (by simp)))
          · rw [List.map_append, hqp, List.take_add_one, List.getElem?_eq_getElem hj]
            show _ ++ [q'.pl] = _
            rw [hqpl]
            rfl
          · rcases List.mem_append.mp hq0 with z | z
            · exact hqo q0 z
            · rw [List.mem_singleton.mp z]
              exact ⟨hqk, hqg⟩
          · rw [upd_ne (fun z => by rw [z, nSx] at ea; cases ea)]
            exact k9 _ _ na (ky a' o na ea)
      · obtain ⟨t'', ws, qs, y6, y7, y8, y9, y10, y11, y12, rfl, eS, hw, hqp, hqo, x0, x1, hSy, ky⟩ := hP
        rw [List.length_map] at hqp x1
        rw [List.take_length] at hqp
        have hql : qs.length = ps.length := by rw [← hqp, List.length_map]
        have epy := ky _ _ offp ep
        refine ⟨_, rfl, .inl ⟨rfl, _, SqL.of epy⟩, _, rfl, _, rfl, _, rfl, (by show 3 ≤ sizeLine; decide), fun T nT => ?_⟩
        have sT := same_upd (o := .tup [V.str xs[i], .int (1 + n), .ref S]) nT
        have huy := (hu.kb hSx ky (by simp)).same sT
        have nSl : S ∉ [p, b] := by simp [nSp, offS]
        have hB : Thg [p, b] (upd Hy T (.tup [V.str xs[i], .int (1 + n), .ref S])) (.ref T) (batD ⟨xs[i], 1 + n, qs⟩) := ThgL.tup (.cons (.str _) (.cons (.int _) (.one (((hw.less (cs' := [p, b]) (fun c hc => List.mem_cons_of_mem _ hc)).same sT).lst (sT _ _ eS) nSl)))) upd_same
        have hul : us.length = i := by rw [hu.1, List.length_map, ← List.length_map (f := Bat3.mark), hmk, List.length_take]; omega
        refine ⟨p, _, _, rfl, rfl, sT _ _ epy, small1000 (by omega), t'', us ++ [.ref T], bs ++ [⟨xs[i], 1 + n, qs⟩], _, _, _, _, _, _, _, _, _, _, rfl, upd_same, ?_, ?_, fun B hB' => ?_, by omega, by omega, (hSy.same sT).upd offp, fun a' o na ea => ?_, ?_⟩
        · rw [List.map_append]
          exact (huy.upd (sT _ _ epy) (by simp)).append (ThgL.one (hB.upd (sT _ _ epy) (by simp)))
        · rw [List.map_append, hmk, List.take_add_one, List.getElem?_eq_getElem hi]
          rfl
        · rcases List.mem_append.mp hB' with y | y
          · exact hok B y
          · rw [List.mem_singleton.mp y]
            exact ⟨⟨hxo _ (List.getElem_mem hi), hn1, hnB, by show qs.length ≤ 40; omega, fun q hq => (hqo q hq).1⟩, by show 1 + n ≤ 10 ^ 31; omega, fun q hq => (hqo q hq).2, hqp⟩
        · rw [upd_ne (ne_of_none ea np)]
          exact sT _ _ (ky _ _ na (kx a' o na ea))
        · rw [upd_ne nlp]
          exact sT _ _ (ky _ _ offl elx)
    · obtain ⟨t', us, bs, y3, y4, y5, y6, y7, y8, y9, y10, y11, y12, rfl, ep, hu, hmk, hok, v0, v1, hSx, kx, elx⟩ := hP
      rw [List.length_map] at hmk v1
      rw [List.take_length] at hmk
      have hbl : bs.length = xs.length := by rw [← hmk, List.length_map]
      exact ⟨_, rfl, q _ bs t' Hx ((hu.less (by simp)).lst ep (by simp; exact offp)) hok (by rw [hmk]; exact hxd) (by omega) (by omega) (by omega) (by omega) hSx kx⟩
end

/-! ### tests by a fault between two windows -/
abbrev PrB := Bat3 × Int
def prBD (x : PrB) : PyData := .tuple [batD x.1, .int x.2]
theorem map_choose {α β : Type} {f : α → β} {l : List α} : ∀ {es : List β}, (∀ e ∈ es, e ∈ l.map f) → ∃ l' : List α, es = l'.map f ∧ ∀ x ∈ l', x ∈ l
  | [], _ => ⟨[], rfl, fun _ z => nomatch z⟩
  | e :: r, h => by
    obtain ⟨x, hx, rfl⟩ := List.mem_map.mp (h e (List.mem_cons_self ..))
    obtain ⟨l', e', h'⟩ := map_choose fun e he => h e (List.mem_cons_of_mem _ he)
    exact ⟨x :: l', by rw [e']; rfl, fun y hy => (List.mem_cons.mp hy).elim (fun z => z ▸ hx) (h' y)⟩
theorem gr_win {ps : List Str} {B : Bat3} (h : GrB ps B) {p : Str} (hp : p ∈ ps) {k : Int} (k0 : 0 ≤ k) (k1 : k < B.tins) : ∃ w, winF B p k = some w ∧ 0 ≤ w.1 ∧ w.1 ≤ w.2 := by
  obtain ⟨hB, _, _, e⟩ := h
  rw [← e] at hp
  obtain ⟨q, hq, rfl⟩ := List.mem_map.mp hp
  unfold winF passF
  cases e2 : B.pas.find? fun q' => decide (q'.pl = q.pl) with
  | none =>
    have := List.find?_eq_none.mp e2 q hq
    simp at this
  | some q' => exact winPas_some (hB.2.2.2.2 q' (List.mem_of_find?_eq_some e2)) k0 k1
def PrOk (bs : List Bat3) (x : PrB) : Prop := x.1 ∈ bs ∧ 0 ≤ x.2 ∧ x.2 < x.1.tins
theorem Thg.prB {cs : List Addr} {H : Hp} {v : V} {x : PrB} (h : Thg cs H v (prBD x)) : ∃ T y, v = .ref T ∧ H T = some (.tup [y, .int x.2]) ∧ Thg cs H y (batD x.1) := by
  obtain ⟨a, xs, rfl, e, h1⟩ := h.tuple
  obtain ⟨y, ys, rfl, h2, h3⟩ := h1.inv
  obtain ⟨z, zs, rfl, h4, h5⟩ := h3.inv
  rw [h5.inv0, h4.inv_int] at e
  exact ⟨a, y, rfl, e, h2⟩
def spByWin (K : PySem.W.Frag) : Sp := fun vs H Q _ => ∃ (b a l : Addr) (t : Int) (us : List V) (bs : List Bat3) (ps : List Str), vs = [.ref b, .ref a, .ref l] ∧ Bx b H t ∧ t + 20000 < 2 ^ 40 ∧ H a = some (.lst us) ∧ a ≠ b ∧ ThgL [b] H us (bs.map batD) ∧ (∀ B ∈ bs, GrB ps B) ∧ 1 ≤ bs.length ∧ bs.length ≤ 4 ∧ H l = some (.lst (ps.map V.str)) ∧ l ≠ b ∧ ps ≠ [] ∧ ps.length ≤ 5 ∧
  ∀ L ys (ts : List Tst) t' H', H L = none → H' L = some (.lst ys) → ThgL [b] H' ys (ts.map tstD) → (∀ t ∈ ts, TstOk bs t) → (∃ t ∈ ts, t.bad = true) → ts.length ≤ 9 → t ≤ t' → t' ≤ t + 1000 → Bx b H' t' → Kb b H H' → Q (.ref L) H'
abbrev sByWin : Stmt := topS 42
theorem scByWin : FnScope ["_law_box_here", "_law_batches", "_law_places_here", "_law_pairs", "_law_batch", "_law_place", "_law_found", "_law_tin", "_law_ends", "_law_where", "_law_meets_here", "_law_test", "_law_turn"] ["_law_box_here", "_law_batches", "_law_places_here"] (defScope sByWin) := ⟨rfl, rfl, rfl, by decide +kernel, rfl, by decide +kernel, by decide +kernel⟩
section
variable {K : PySem.W.Frag} {mg : Str → Option Value} {P : Program} {w : World} {base : Heap}
theorem ok_ByWin {f : Addr} {fd : FuncData} (F : Fun K "_law_by_windows" "_law_by_windows" sByWin f fd) (C__law_some : Cal P w K mg base 2 "_law_some" ["_law_box_here", "_law_many"] spSome) (C__law_take : Cal P w K mg base 1 "_law_take" ["_law_box_here", "_law_many"] spTakeB) (C__law_shuffled : Cal P w K mg base 2 "_law_shuffled" ["_law_box_here", "_law_things"] (spShuf K)) (C__law_window : Cal P w K mg base 1 "_law_window" ["_law_batch", "_law_place", "_law_tin"] spLWin) (m_range : mg "range" = none) (m_len : mg "len" = none) (m_sorted : mg "sorted" = none) (m_int : mg "int" = none) (m_all : mg "all" = none) : FnOk P w K mg base CX0 3 f fd ["_law_box_here", "_law_batches", "_law_places_here"] (spByWin K) := by
  refine F.ok scByWin (fun vs H Q E h => ?_) (fun cdv A outer s H vs Q E hr h => ?_)
  · obtain ⟨b, a, l, t, us, bs, ps, rfl, _⟩ := h
    rfl
  · obtain ⟨b, a, l, t, us, bs, ps, rfl, hS, ht, ha, hab, hu, hgr, hb1, hb4, hl, hlb, hpn, hp5, q⟩ := h
    refine ⟨_, pss_cons (ps_set (i := 3) scByWin.nd rfl (.inl rfl) (pe_lst pa_nil))
      (pss_cons (ps_for PassesOwn.never rfl (pi_list (pv 1)) (pg_name (i := 4) scByWin.nd rfl (.inr rfl))
        (pss_one (ps_expr (pe_bm PySem.F.plainAttrs_list PySem.F.slot_list_extend PySem.F.type_list_extend mt_extend (pv 3) (pa_cons (pe_lc (own := [("_law_turn", 12)]) (g := (gName 12)) (tt := tYes) (te := (tTup (tCons (tVar 4) (tCons (tCall spSome [] E0 (tCons (tVar 0) (tCons (tOp (rIxT K) (tVar 4) (tC (.int 1))) tNil))) tNil)))) rfl scByWin.nd (pi_range1 rfl m_range (pa_cons pe_int pa_nil)) (blkOk_by (own := [("_law_turn", 12)]) (N := ["_law_box_here", "_law_batches", "_law_places_here", "_law_pairs", "_law_batch", "_law_place", "_law_found", "_law_tin", "_law_ends", "_law_where", "_law_meets_here", "_law_test", "_law_turn"]) (sc := defScope sByWin) (by decide +kernel)) (fun _ _ _ _ _ => (pg_name (i := 12) scByWin.nd rfl (.inl rfl))) (fun _ _ _ _ _ => pts_nil) (fun _ _ _ _ _ => (pe_tup (pa_cons (pv 4) (pa_cons (pe_own C__law_some hr (by rfl) (pa_cons (pv 0) (pa_cons (pe_ix ix_tup (pv 4) pe_int (fun _ _ => rfl)) pa_nil))) pa_nil))))) pa_nil)))))
      (pss_cons (ps_asg (pe_tup (pa_cons (pe_ix ix_list (pv 2) (pe_own C__law_take (hr.mono (show 1 ≤ 2 by decide)) (by rfl) (pa_cons (pv 0) (pa_cons (pe_callB call_len_seq (by rfl) m_len PySem.boot_len (pa_cons (pv 2) pa_nil)) pa_nil))) (fun _ _ => rfl)) (pa_cons (pe_lst pa_nil) pa_nil))) (pg_tup rfl (pgs_cons (pg_name (i := 5) scByWin.nd rfl (.inr rfl)) (pgs_cons (pg_name (i := 6) scByWin.nd rfl (.inl rfl)) pgs_nil))))
      (pss_cons (ps_set (i := 8) scByWin.nd rfl (.inl rfl) (pe_callB cr_sortedI (by rfl) m_sorted (by decide +kernel) (pa_cons (pe_lc (own := [("_law_batch", 4), ("_law_tin", 7)]) (g := (gTup K 2 (gCons (gName 4) (gCons (gName 7) gNil)))) (tt := tYes) (te := (tOp (rIxT K) (tCall spLWin [] E0 (tCons (tVar 4) (tCons (tVar 5) (tCons (tVar 7) tNil)))) (tC (.int 0)))) rfl scByWin.nd (pi_list (pe_slice sl_list (pe_own C__law_shuffled hr (by rfl) (pa_cons (pv 0) (pa_cons (pv 3) pa_nil))) po_none (po_some pe_int))) (blkOk_by (own := [("_law_batch", 4), ("_law_tin", 7)]) (N := ["_law_box_here", "_law_batches", "_law_places_here", "_law_pairs", "_law_batch", "_law_place", "_law_found", "_law_tin", "_law_ends", "_law_where", "_law_meets_here", "_law_test", "_law_turn"]) (sc := defScope sByWin) (by decide +kernel)) (fun _ _ _ _ _ => (pg_tup rfl (pgs_cons (pg_name (i := 4) scByWin.nd rfl (.inl rfl)) (pgs_cons (pg_name (i := 7) scByWin.nd rfl (.inl rfl)) pgs_nil)))) (fun _ _ _ _ _ => pts_nil) (fun _ _ _ _ _ => (pe_ix ix_tup (pe_own C__law_window (hr.mono (show 1 ≤ 2 by decide)) (by rfl) (pa_cons (pv 4) (pa_cons (pv 5) (pa_cons (pv 7) pa_nil)))) pe_int (fun _ _ => rfl)))) pa_nil)))
      (pss_cons (ps_for PassesOwn.never rfl (pi_list (pe_slice sl_list (pe_own C__law_shuffled hr (by rfl) (pa_cons (pv 0) (pa_cons (pv 3) pa_nil))) po_none (po_some pe_int))) (pg_tup rfl (pgs_cons (pg_name (i := 4) scByWin.nd rfl (.inr rfl)) (pgs_cons (pg_name (i := 7) scByWin.nd rfl (.inl rfl)) pgs_nil)))
        (pss_cons (ps_set (i := 9) scByWin.nd rfl (.inl rfl) (pe_own C__law_window (hr.mono (show 1 ≤ 2 by decide)) (by rfl) (pa_cons (pv 4) (pa_cons (pv 5) (pa_cons (pv 7) pa_nil)))))
        (pss_cons (ps_set (i := 10) scByWin.nd rfl (.inl rfl) (pe_mid (pe_and (pe_cmpR op_le (pe_ix ix_tup (pv 9) pe_int (fun _ _ => rfl)) (pe_ix ix_list (pv 8) (pe_un un_neg pe_int) (fun _ _ => rfl)) (nomark _)) (pe_one (pe_cmpR op_ge (pe_ix ix_tup (pv 9) pe_int (fun _ _ => rfl)) (pe_ix ix_list (pv 8) pe_int (fun _ _ => rfl)) (nomark _))))))
        (Evl.pss_cut (ps_if (pt_cmpR op_eq (pe_own C__law_take (hr.mono (show 1 ≤ 2 by decide)) (by rfl) (pa_cons (pv 0) (pa_cons pe_int pa_nil))) pe_int (nomark _)) (pss_one (ps_set (i := 10) scByWin.nd rfl (.inl rfl) (pe_not (pv 10))))
          pss_nil)
        (pss_one (ps_expr (pe_bm PySem.F.plainAttrs_list PySem.F.slot_list_append PySem.F.type_list_append mt_append (pv 6) (pa_cons (pe_tup (pa_cons (pe_ix ix_tup (pv 4) pe_int (fun _ _ => rfl)) (pa_cons (pv 7) (pa_cons (pe_ix ix_list (pe_lst (pa_cons pe_str (pa_cons pe_str pa_nil))) (pe_callTy call_int1 (by rfl) m_int (by decide +kernel) (pa_cons (pv 10) pa_nil)) (fun _ _ => rfl)) pa_nil)))) pa_nil))))))))
      (Evl.pss_cut (ps_if (pt_val (pe_callB (cr_all rfl) (by rfl) m_all (by decide +kernel) (pa_cons (pe_lc (own := [("_law_test", 11)]) (g := (gName 11)) (tt := tYes) (te := (tOp (rEq) (tOp (rIxT K) (tVar 11) (tC (.int 2))) (tC (.str "good")))) rfl scByWin.nd (pi_list (pv 6)) (blkOk_by (own := [("_law_test", 11)]) (N := ["_law_box_here", "_law_batches", "_law_places_here", "_law_pairs", "_law_batch", "_law_place", "_law_found", "_law_tin", "_law_ends", "_law_where", "_law_meets_here", "_law_test", "_law_turn"]) (sc := defScope sByWin) (by decide +kernel)) (fun _ _ _ _ _ => (pg_name (i := 11) scByWin.nd rfl (.inl rfl))) (fun _ _ _ _ _ => pts_nil) (fun _ _ _ _ _ => (pe_cmpR op_eq (pe_ix ix_tup (pv 11) pe_int (fun _ _ => rfl)) pe_str (nomark _)))) pa_nil))) (pss_one (ps_asg (pe_op op_catT (pe_slice sl_tup (pe_ix ix_list (pv 6) pe_int (fun _ _ => rfl)) po_none (po_some pe_int)) (pe_tup (pa_cons pe_str pa_nil))) (pg_sub (pv 6) pe_int set_list)))
        pss_nil)
      (pss_one (ps_ret (pv 6)))))))), ?_⟩
    refine ⟨Nat.zero_le _, fun R nR => ?_⟩
    have sR := same_upd (o := .lst []) nR
    have offR := hS.off nR
    have eR0 := upd_same (H := H) (a := R) (o := .lst [])
    have hS0 := hS.same sR
    have hul : us.length = bs.length := by rw [hu.1, List.length_map]
    have k0 : Kb b H (upd H R (.lst [])) := Kb.same sR
    have huR : ThgL [R, b] (upd H R (.lst [])) us (bs.map batD) := (hu.more nR).same sR
    revert sR eR0 hS0 k0 huR
    generalize upd H R (.lst []) = H1
    intro sR eR0 hS0 k0 huR
    refine ⟨_, rfl, a, rfl, ⟨_, SqL.of (sR _ _ ha)⟩, for_list (xs := us) (fun i σ Hx => ∃ (t' : Int) (ws : List V) (prs : List PrB) (y4 y5 y6 y7 y8 y9 y10 : Option V), σ = [some (.ref b), some (.ref a), some (.ref l), some (.ref R), y4, y5, y6, y7, y8, y9, y10, none, none] ∧ Hx R = some (.lst ws) ∧ ThgL [R, b] Hx ws (prs.map prBD) ∧ prs.length = 4 * i ∧ (∀ x ∈ prs, PrOk bs x) ∧ t ≤ t' ∧ t' ≤ t + 20 * (i : Int) ∧ Bx b Hx t' ∧ Kb b H Hx) ⟨t, [], [], _, _, _, _, _, _, _, rfl, eR0, ThgL.nil, rfl, (fun _ z => nomatch z), by omega, by omega, hS0, k0⟩ (fun i σ Hx _ hP => ?_) (fun i x σ Hx hx hP => ?_) (fun σ Hx hP => ?_)⟩
    · obtain ⟨t', ws, prs, y4, y5, y6, y7, y8, y9, y10, rfl, eR, hw, hprl, hpro, v0, v1, hSx, kx⟩ := hP
      exact SqL.of (kx _ _ hab ha)
    · obtain ⟨t', ws, prs, y4, y5, y6, y7, y8, y9, y10, rfl, eR, hw, hprl, hpro, v0, v1, hSx, kx⟩ := hP
      have hi : i < us.length := (List.getElem?_eq_some_iff.mp hx).1
      have hi4 : (i : Int) < 4 := by omega
      obtain ⟨B, eB, hB0⟩ := hu.atM hx
      have hBm := List.mem_of_getElem? eB
      have hBg := hgr B hBm
      have hB := hB0.kb hS kx (by simp)
      obtain ⟨c, l', xs', rfl, ec, _⟩ := hB.batL
      have huX : ThgL [R, b] Hx us (bs.map batD) := (hu.more nR).kb hS kx (by simp)
      refine ⟨_, rfl, .inl ⟨rfl, _, SqL.of eR⟩, 4, rfl, by decide, by decide, fun D nD => ?_⟩
      have hcs : ∀ c ∈ [R, b], Hx c ≠ none := fun c hc => by
        simp only [List.mem_cons, List.not_mem_nil, or_false] at hc
        rcases hc with rfl | rfl
        · rw [eR]; exact fun z => nomatch z
        · exact hSx.ne
      have hBD : Thg [D, R, b] Hx (.ref c) (batD B) := (huX.more nD).2 i _ _ hx (by rw [List.getElem?_map, eB]; rfl)
      have hcb : c ≠ b := by
        obtain ⟨_, _, eb, _⟩ := hSx.at_
        exact ne_of ec eb (fun z => nomatch z)
      refine lc_bx (α := PrB) prBD (fun _ x => PrOk bs x) 5 (walk_range (lo := 0) (n := 4)) [R, b] (by simp) hcs hSx nD (by decide) (fun H' _ _ => trivial) (fun k x H4 H4' t4 Kt Kn hk w4 w5 hS4 k4 _ hyy kt => ?_) (fun H4 t4 zs hzl hz w4 w5 hS4 k4 hD => ?_)
      · obtain ⟨rfl, rfl⟩ := hyy
        have hk4 : (k : Int) < 4 := by omega
        refine ⟨rfl, _, rfl, _, rfl, _, rfl, c, _, 1, _, rfl, rfl, .inl (.inl (k4 _ _ hcb ec)), atI_nat (j := 1) rfl, b, t4, B.tins, rfl, hS4, by omega, by have := hBg.1.2.1; omega, Int.le_trans hBg.2.1 (by decide), fun r t5 H5 r0 r1 w6 w7 hS5 k5 => ⟨(by show 2 ≤ sizeLine; decide), fun T nT => ?_⟩⟩
        have sT := same_upd (o := .tup [V.ref c, .int r]) nT
        have hB5 := (hBD.kb hSx (k4.trans k5) (by simp)).same sT
        exact kt (B, r) _ t5 _ ⟨hBm, r0, r1⟩ (ThgL.tup (.cons hB5 (.one (.int _))) upd_same) (by omega) (by omega) (hS5.same sT) (k5.trans (Kb.same sT))
      obtain ⟨D', xd, eD', eD, nDc, hD1⟩ := hD.list
      cases eD'
      have eR4 := k4 _ _ offR eR
      have hw4 := hw.kb hSx k4 (by simp)
      have hzl4 : zs.length = 4 := hzl
      have hxd : xd.length = 4 := by rw [hD1.1, List.length_map, hzl4]
      have hwl : ws.length ≤ 40 := by rw [hw.1, List.length_map, hprl]; omega
      have nDR : D ≠ R := fun z => nDc (by rw [z]; simp)
      refine ⟨R, D, _, _, rfl, rfl, eR4, eD, small1000 (by omega) |> Nat.le_of_lt, t4, ws ++ xd, prs ++ zs, _, _, _, _, _, _, _, rfl, upd_same, ?_, by rw [List.length_append, hprl, hzl4]; omega, fun x hx => ?_, by omega, by omega, hS4.upd offR, fun a' o na ea => ?_⟩
      · rw [List.map_append]
        exact (hw4.upd eR4 (by simp)).append (hD1.upd eR4 (by simp))
      · rcases List.mem_append.mp hx with z | z
        · exact hpro x z
        · obtain ⟨j, hj⟩ := List.getElem?_of_mem z
          exact hz j x hj
      · rw [upd_ne (ne_of_none ea nR)]
        exact k4 _ _ na (kx a' o na ea)
    · obtain ⟨t', ws, prs, y4, y5, y6, y7, y8, y9, y10, rfl, eR, hw, hprl, hpro, v0, v1, hSx, kx⟩ := hP
      rw [hul] at hprl v1
      have hwl : ws.length = 4 * bs.length := by rw [hw.1, List.length_map, hprl]
      have hw0 : ThgL [b] Hx ws (prs.map prBD) := hw.less (by simp)
      have elx := kx _ _ hlb hl
      refine ⟨_, rfl, _, rfl, _, rfl, l, _, rfl, .inl (SqL.of elx), b, t', _, rfl, hSx, by omega, by rw [List.length_map]; have := List.length_pos_iff.mpr hpn; omega, by rw [List.length_map]; omega, fun r t2 H2 r0 r1 u0 u1 hS2 k2 => ?_⟩
      obtain ⟨j, rfl⟩ := Int.eq_ofNat_of_zero_le r0
      rw [List.length_map] at r1
      have hj : j < ps.length := by omega
      have ep : (ps.map V.str)[j]? = some (.str ps[j]) := by rw [List.getElem?_map, List.getElem?_eq_getElem hj]; rfl
      have hpm := List.getElem_mem hj
      generalize ps[j] = p at ep hpm
      refine ⟨l, _, _, _, rfl, rfl, SqL.of (k2 _ _ hlb elx), atI_nat ep, Nat.zero_le _, fun F nF => ⟨(by show 2 ≤ sizeLine; decide), fun T nT => ⟨T, _, rfl, .inl (.inl upd_same), rfl, _, _, rfl, _, _, rfl, rfl, ?_⟩⟩⟩
      have sF := same_upd (o := .lst []) nF
      have sT := same_upd (o := .tup [V.str p, .ref F]) nT
      have eF0 := sT _ _ (upd_same (H := H2) (a := F) (o := .lst []))
      have offF := hS2.off nF
      have hS3 := (hS2.same sF).same sT
      have kF : Kb b Hx (upd (upd H2 F (.lst [])) T (.tup [V.str p, .ref F])) := (k2.trans (Kb.same sF)).trans (Kb.same sT)
      have nFx : Hx F = none := k2.free hS2 nF
      revert eF0 hS3 kF
      generalize upd (upd H2 F (.lst [])) T (.tup [V.str p, .ref F]) = H3
      intro eF0 hS3 kF
      have eR3 := kF _ _ offR eR
      have hw3 := hw0.kb hSx kF (by simp)
      refine ⟨_, rfl, _, rfl, b, R, t2, ws, [b], prs.map prBD, rfl, hS3, by omega, .inl eR3, offR, by omega, by simp, hw3, fun X xs es t4 H4 nX eX hX hpr u2 u3 hS4 k4 => ?_⟩
      obtain ⟨es1, rfl, hes1⟩ := map_choose fun e he => hpr.mem_iff.mp he
      have hel : es1.length = prs.length := by have := hpr.length_eq; rwa [List.length_map, List.length_map] at this
      have hxl : xs.length = prs.length := by rw [hX.1, List.length_map, hel]
      refine ⟨2, rfl, X, xs, rfl, SqL.of eX, fun Z nZ => ⟨Z, rfl, ⟨_, SqL.of upd_same⟩, fun D nD => ?_⟩⟩
      have hcut : cutV xs none (some 2) = xs.take 2 := cut_front xs 2
      rw [hcut] at nD ⊢
      have hwok : ∀ x ∈ prs, ∃ w, winF x.1 p x.2 = some w ∧ 0 ≤ w.1 ∧ w.1 ≤ w.2 := fun x hx => gr_win (hgr _ (hpro x hx).1) hpm (hpro x hx).2.1 (hpro x hx).2.2
      have h2x : ThgL [b] H4 (xs.take 2) ((es1.take 2).map prBD) := by rw [List.map_take]; exact hX.take 2
      have hzm : ∀ x ∈ es1.take 2, x ∈ prs := fun x hx => hes1 x (List.mem_of_mem_take hx)
      have hz2 : (es1.take 2).length = 2 := by rw [List.length_take, hel, hprl]; omega
      revert nD h2x hzm hz2
      have hx2 : (xs.take 2).length = 2 := by rw [List.length_take, hxl, hprl]; omega
      revert hx2
      generalize xs.take 2 = x2
      generalize es1.take 2 = e2
      intro hx2 nD h2x hzm hz2
      have sZ := same_upd (o := .lst x2) nZ
      refine lc_thgd ((e2.map fun x => ((winF x.1 p x.2).getD (0, 0)).1).map PyData.int) (walk_list (xs := x2)) [] nD (by rw [List.length_map, List.length_map, hx2, hz2]) (by omega) (fun H' s => SqL.of (s _ _ upd_same)) (fun k x d H5 H5' Kt Kn hd s5 _ hyy kt => ?_) (fun H5 vs5 s5 eD h5 => ?_)
      · obtain ⟨rfl, hx⟩ := hyy
        obtain ⟨y, ey, hy⟩ := h2x.atM hx
        rw [List.map_map, List.getElem?_map, ey] at hd
        cases hd
        obtain ⟨T', yv, rfl, eT', hyv⟩ := ((hy.same sZ).same s5).prB
        have hyp := hzm y (List.mem_of_getElem? ey)
        obtain ⟨w0, ew, w00, w01⟩ := hwok y hyp
        have hyo := hpro y hyp
        refine ⟨T', _, rfl, .inl (.inl eT'), rfl, _, _, rfl, _, _, rfl, rfl, rfl, _, rfl, _, rfl, _, rfl, yv, p, y.2, y.1, [b], rfl, hyv, (hgr _ hyo.1).1, hyo.2.1, hyo.2.2, fun z H6 s6 hz => ?_⟩
        rw [ew] at hz
        obtain ⟨W, rfl, eW⟩ := Thg.pair hz
        refine ⟨W, _, 0, _, rfl, rfl, .inl (.inl eW), atI_nat (j := 0) rfl, ?_⟩
        show Kt (.int w0.1) H6
        refine kt _ _ s6 ?_
        show Thg _ _ _ (.int ((winF y.1 p y.2).getD (0, 0)).1)
        rw [ew]
        exact .int _
      have eN := h5.ints
      refine ⟨D, _, rfl, eN ▸ SqL.of eD, fun ns PP hperm hsort nP => ?_⟩
      obtain ⟨n0, n1, rfl⟩ : ∃ n0 n1, ns = [n0, n1] := by
        have h := hperm.length_eq
        rw [List.length_map, hz2] at h
        match ns, h with
        | [n0, n1], _ => exact ⟨n0, n1, rfl⟩
      have sP := same_upd (o := .lst ([n0, n1].map V.int)) nP
      have S7 := (sZ.trans s5).trans sP
      have eP7 := upd_same (H := H5) (a := PP) (o := .lst ([n0, n1].map V.int))
      revert S7 eP7
      have nP4 : H4 PP = none := (sZ.trans s5).free nP
      generalize upd H5 PP (.lst ([n0, n1].map V.int)) = H7
      intro S7 eP7
      have offP := hS4.off nP4
      have hS7 := hS4.same S7
      have k37 : Kb b H3 H7 := k4.trans (Kb.same S7)
      have k7 : Kb b Hx H7 := kF.trans k37
      have eF7 := k37 _ _ offF eF0
      have eR7 := k37 _ _ offR eR3
      have hw7 : ThgL [F, b] H7 ws (prs.map prBD) := ((hw0.more nFx).kb hSx k7 (by simp))
      have nPF : PP ≠ F := fun z => by rw [z] at nP4; rw [k4 _ _ offF eF0] at nP4; cases nP4
      refine ⟨_, rfl, _, rfl, b, R, t4, ws, [F, b], prs.map prBD, rfl, hS7, by omega, .inl eR7, offR, by omega, by simp, hw7, fun X2 xs2 es2 t6 H8 nX2 eX2 hX2 hpr2 u4 u5 hS8 k8 => ?_⟩
      obtain ⟨es9, rfl, hes9⟩ := map_choose fun e he => hpr2.mem_iff.mp he
      have hel9 : es9.length = prs.length := by have := hpr2.length_eq; rwa [List.length_map, List.length_map] at this
      have hcut9 : cutV xs2 none (some 9) = xs2.take 9 := cut_front xs2 9
      refine ⟨9, rfl, X2, xs2, rfl, SqL.of eX2, fun Z9 nZ9 => ?_⟩
      rw [hcut9] at *
      have h9x : ThgL [F, b] H8 (xs2.take 9) ((es9.take 9).map prBD) := by rw [List.map_take]; exact hX2.take 9
      have h9m : ∀ x ∈ es9.take 9, x ∈ prs := fun x hx => hes9 x (List.mem_of_mem_take hx)
      have h9l : (es9.take 9).length ≤ 9 := by rw [List.length_take]; exact Nat.min_le_left ..
      have h9p : 0 < (es9.take 9).length := by rw [List.length_take, hel9, hprl]; omega
      revert h9x h9m h9l h9p
      generalize xs2.take 9 = x9
      generalize es9.take 9 = e9
      intro h9x h9m h9l h9p
      have sZ9 := same_upd (o := .lst x9) nZ9
      have eZ9 := upd_same (H := H8) (a := Z9) (o := .lst x9)
      have eF8 := k8 _ _ offF eF7
      have eP8 := k8 _ _ offP eP7
      have nZF : Z9 ≠ F := fun z => by rw [z] at nZ9; rw [eF8] at nZ9; cases nZ9
      have offZ := hS8.off nZ9
      have hS9 := hS8.same sZ9
      have k9 : Kb b Hx (upd H8 Z9 (.lst x9)) := (k7.trans k8).trans (Kb.same sZ9)
      have h9 := h9x.same sZ9
      have eF9 := sZ9 _ _ eF8
      have eP9 := sZ9 _ _ eP8
      revert eZ9 hS9 k9 h9 eF9 eP9
      generalize upd H8 Z9 (.lst x9) = H9
      intro eZ9 hS9 k9 h9 eF9 eP9
      have h9xl : x9.length = e9.length := by rw [h9.1, List.length_map]
      refine ⟨Z9, rfl, ⟨_, SqL.of eZ9⟩, for_list (xs := x9) (fun i σ Hy => ∃ (t' : Int) (us' : List V) (ts : List Tst) (y4 y7 y9 y10 : Option V), σ = [some (.ref b), some (.ref a), some (.ref l), some (.ref R), y4, some (.str p), some (.ref F), y7, some (.ref PP), y9, y10, none, none] ∧ Hy F = some (.lst us') ∧ ThgL [F, b] Hy us' (ts.map tstD) ∧ ts.length = i ∧ (∀ t ∈ ts, TstOk bs t) ∧ t6 ≤ t' ∧ t' ≤ t6 + 3 * (i : Int) ∧ Bx b Hy t' ∧ Kb b Hx Hy ∧ Hy PP = some (.lst ([n0, n1].map V.int)) ∧ Hy Z9 = some (.lst x9) ∧ ThgL [F, b] Hy x9 (e9.map prBD)) ⟨t6, [], [], _, _, _, _, rfl, eF9, ThgL.nil, rfl, (fun _ z => nomatch z), by omega, by omega, hS9, k9, eP9, eZ9, h9⟩ (fun i σ Hy _ hP => ?_) (fun i x σ Hy hx hP => ?_) (fun σ Hy hP => ?_)⟩
      · obtain ⟨t', us', ts, z4, z7, z9, z10, rfl, eF, hts, htl, hto, v2, v3, hSy, ky, eP, eZ, h9y⟩ := hP
        exact SqL.of eZ
      · obtain ⟨t', us', ts, z4, z7, z9, z10, rfl, eF, hts, htl, hto, v2, v3, hSy, ky, eP, eZ, h9y⟩ := hP
        have hi : i < x9.length := (List.getElem?_eq_some_iff.mp hx).1
        have hi9 : (i : Int) < 9 := by omega
        obtain ⟨y, ey, hy⟩ := h9y.atM hx
        obtain ⟨T', yv, rfl, eT', hyv⟩ := hy.prB
        have hyp := h9m y (List.mem_of_getElem? ey)
        obtain ⟨w0, ew, w00, w01⟩ := hwok y hyp
        have hyo := hpro y hyp
        obtain ⟨c, l', xs', rfl, ec, _⟩ := hyv.batL
        refine ⟨T', _, rfl, .inl (.inl eT'), rfl, _, _, rfl, _, _, rfl, rfl, _, rfl, _, rfl, _, rfl, .ref c, p, y.2, y.1, [F, b], rfl, hyv, (hgr _ hyo.1).1, hyo.2.1, hyo.2.2, fun z H6 s6 hz => ?_⟩
        rw [ew] at hz
        obtain ⟨W, rfl, eW⟩ := Thg.pair hz
        have hS6 := hSy.same s6
        have eP6 := s6 _ _ eP
        have eF6 := s6 _ _ eF
        have hts6 := hts.same s6
        have ky6 := ky.trans (Kb.same s6)
        have ec6 := s6 _ _ ec
        have eZ6 := s6 _ _ eZ
        have h9y6 := h9y.same s6
        have hbc : c ≠ b := by
          obtain ⟨n0, n1, eb6, _⟩ := hSy.at_
          exact ne_of ec eb6 (fun z => nomatch z)
        refine ⟨fun v H' => (∃ bb : Bool, v = .bl bb) ∧ H' = H6, ⟨_, rfl, W, _, 0, _, rfl, rfl, .inl (.inl eW), atI_nat (j := 0) rfl, _, rfl, 1, rfl, PP, _, -1, _, rfl, rfl, SqL.of eP6, rfl, _, _, rfl, rfl, _, rfl, ite2 (fun _ => ⟨_, rfl, W, _, 1, _, rfl, rfl, .inl (.inl eW), atI_nat (j := 1) rfl, _, rfl, PP, _, 0, _, rfl, rfl, SqL.of eP6, rfl, _, _, rfl, rfl, ⟨_, rfl⟩, rfl⟩) (fun _ => ⟨⟨_, rfl⟩, rfl⟩)⟩, fun v H6 hv => ?_⟩
        obtain ⟨⟨bb, rfl⟩, rfl⟩ := hv
        refine ⟨fun σ H' => ∃ (bb : Bool) (t9 : Int), σ = [some (.ref b), some (.ref a), some (.ref l), some (.ref R), some (.ref c), some (.str p), some (.ref F), some (.int y.2), some (.ref PP), some (.ref W), some (.bl bb), none, none] ∧ t' ≤ t9 ∧ t9 ≤ t' + 1 ∧ Bx b H' t9 ∧ Kb b H6 H', ?_, ?_⟩
        · refine ⟨_, rfl, b, t', 30, rfl, hS6, by omega, by omega, by omega, fun r9 t9 H10 r90 r91 w4 w5 hS9 k9 => ⟨rfl, _, rfl, ite2 (fun _ => ?_) (fun _ => ?_)⟩⟩
          · exact ⟨_, rfl, bb, rfl, !bb, t9, rfl, w4, w5, hS9, k9⟩
          · exact ⟨bb, t9, rfl, w4, w5, hS9, k9⟩
        rintro σ10 H10 ⟨bb, t9, rfl, w4, w5, hS9, k9⟩
        have eF10 := k9 _ _ offF eF6
        have ec10 := k9 _ _ hbc ec6
        refine ⟨_, rfl, .inl ⟨rfl, _, SqL.of eF10⟩, _, rfl, c, _, 0, _, rfl, rfl, .inl (.inl ec10), atI_nat (j := 0) rfl, _, rfl, (by show 2 ≤ sizeLine; decide), fun G nG => ?_⟩
        have sG := same_upd (o := .lst [.str "good", .str "bad"]) nG
        refine ⟨_, rfl, .inr ⟨bb, rfl, G, _, _, .str (wordD bb), rfl, rfl, SqL.of upd_same, by cases bb <;> rfl, (by show 3 ≤ sizeLine; decide), fun T nT => ?_⟩⟩
        have sT := same_upd (o := .tup [.str y.1.mark, .int y.2, .str (wordD bb)]) nT
        have eF11 := sT _ _ (sG _ _ eF10)
        have eP11 := sT _ _ (sG _ _ (k9 _ _ offP eP6))
        have eZ11 := sT _ _ (sG _ _ (k9 _ _ offZ eZ6))
        have h911 := ((h9y6.kb hS6 k9 (by simp)).same sG).same sT
        have hw11 := ((hts6.kb hS6 k9 (by simp)).same sG).same sT
        have hT : Thg [F, b] (upd (upd H10 G (.lst [.str "good", .str "bad"])) T (.tup [.str y.1.mark, .int y.2, .str (wordD bb)])) (.ref T) (tstD ⟨y.1.mark, y.2, bb⟩) := ThgL.tup (.cons (.str _) (.cons (.int _) (.one (.str _)))) upd_same
        have hS11 := (hS9.same sG).same sT
        have k11 : Kb b Hx (upd (upd H10 G (.lst [.str "good", .str "bad"])) T (.tup [.str y.1.mark, .int y.2, .str (wordD bb)])) := ((ky6.trans k9).trans (Kb.same sG)).trans (Kb.same sT)
        have husl : us'.length = i := by rw [hts.1, List.length_map, htl]
        refine ⟨F, _, _, rfl, rfl, eF11, small1000 (by omega), t9, us' ++ [.ref T], ts ++ [⟨y.1.mark, y.2, bb⟩], _, _, _, _, rfl, upd_same, ?_, by rw [List.length_append, htl]; rfl, fun t0 ht0 => ?_, by omega, by omega, hS11.upd offF, fun a' o na ea => ?_, by rw [upd_ne nPF]; exact eP11, by rw [upd_ne nZF]; exact eZ11, h911.upd eF11 (by simp)⟩
        · rw [List.map_append]
          exact (hw11.upd eF11 (by simp)).append (ThgL.one (hT.upd eF11 (by simp)))
        · rcases List.mem_append.mp ht0 with z | z
          · exact hto t0 z
          · rw [List.mem_singleton.mp z]
            exact ⟨y.1, hyo.1, rfl, hyo.2.1, hyo.2.2⟩
        · rw [upd_ne (ne_of_none ea nFx)]
          exact k11 a' o na ea
      · obtain ⟨t', us', ts, z4, z7, z9, z10, rfl, eF, hts, htl, hto, v2, v3, hSy, ky, eP, eZ, h9y⟩ := hP
        have husl : us'.length = ts.length := by rw [hts.1, List.length_map]
        have hts' : ThgL [b] Hy us' (ts.map tstD) := hts.less (by simp)
        have kH : Kb b H Hy := kx.trans ky
        have nFH : H F = none := kx.free hSx nFx
        have htp : 0 < ts.length := by omega
        refine ⟨fun σ H' => ∃ (vs : List V) (ts' : List Tst) (y4 y7 y9 y10 y11 y12 : Option V), σ = [some (.ref b), some (.ref a), some (.ref l), some (.ref R), y4, some (.str p), some (.ref F), y7, some (.ref PP), y9, y10, y11, y12] ∧ H' F = some (.lst vs) ∧ ThgL [b] H' vs (ts'.map tstD) ∧ ts'.length = ts.length ∧ (∀ t ∈ ts', TstOk bs t) ∧ (∃ t ∈ ts', t.bad = true) ∧ Bx b H' t' ∧ Kb b H H', ?_, ?_⟩
        · refine ⟨_, rfl, F, rfl, ⟨_, SqL.of eF⟩, fun D nD => lc_bs (bs := ts.map fun t => !t.bad) nD eF (by rw [List.length_map, husl]) (by omega) (fun i x bb H7 Kt Kn hx hb s7 kk => ?_) (fun H7 s7 e7 => ?_)⟩
          · rw [List.getElem?_map] at hb
            cases et : ts[i]? with
            | none => rw [et] at hb; cases hb
            | some t0 =>
              rw [et] at hb
              cases hb
              obtain ⟨c, rfl, ec⟩ := ((hts'.2 i x _ hx (by rw [List.getElem?_map, et]; rfl)).same s7).tst
              refine ⟨rfl, _, rfl, c, _, 2, _, rfl, rfl, .inl (.inl ec), atI_nat (j := 2) rfl, rfl, ?_⟩
              have : decide (V.str (wordD t0.bad) = V.str "good") = !t0.bad := by cases t0.bad <;> decide
              rw [this]
              exact kk _ (Same.refl _)
          · refine ⟨D, _, rfl, SqL.of e7, _, rfl, ite2 (fun cc => ?_) (fun cc => ?_)⟩
            · have eF7 := s7 _ _ eF
              have hw7 := hts'.same s7
              obtain ⟨x, ex, hx⟩ := hw7.at' (List.getElem?_eq_getElem htp)
              obtain ⟨c0, rfl, ec⟩ := hx.tst
              refine ⟨_, rfl, F, _, 0, _, rfl, rfl, SqL.of eF7, atI_nat (j := 0) ex, 2, rfl, c0, _, rfl, .inl (.inl ec), (by show ¬ (HT.sIx 3 0 none = 0 ∧ HT.sIx 3 3 (some 2) = 3); decide), fun q1 nq1 => ⟨(by show 1 ≤ sizeLine; decide), fun p2 np2 => ?_⟩⟩
              have sp := same_upd (o := .tup (cutV [V.str ts[0].mark, .int ts[0].tin, .str (wordD ts[0].bad)] none (some 2))) nq1
              have sp2 := same_upd (o := .tup [.str "bad"]) np2
              have ep1 := sp2 _ _ (upd_same (H := H7) (a := q1) (o := .tup (cutV [V.str ts[0].mark, .int ts[0].tin, .str (wordD ts[0].bad)] none (some 2))))
              refine ⟨q1, p2, _, _, rfl, rfl, .inl (.inl ep1), .inl (.inl upd_same), (by show [V.str ts[0].mark, .int ts[0].tin] ≠ []; simp), (by show 3 ≤ sizeLine; decide), (fun z => nomatch z), fun _ T nT => ?_⟩
              have sT := same_upd (o := .tup (cutV [V.str ts[0].mark, .int ts[0].tin, .str (wordD ts[0].bad)] none (some 2) ++ [.str "bad"])) nT
              have S := (sp.trans sp2).trans sT
              have eF8 := S _ _ eF7
              refine ⟨_, rfl, F, _, _, 0, rfl, rfl, eF8, ixN_of (j := 0) (by omega), ?_⟩
              refine ⟨us'.set 0 (.ref T), ts.set 0 ⟨ts[0].mark, ts[0].tin, true⟩, _, _, _, _, _, _, rfl, upd_same, ?_, List.length_set, fun t0 ht0 => ?_, ⟨⟨ts[0].mark, ts[0].tin, true⟩, List.mem_set htp _, rfl⟩, ((hSy.same s7).same S).upd offF, fun a' o na ea => ?_⟩
              · rw [List.map_set]
                have hw8 : ThgL [F, b] _ us' (ts.map tstD) := ((hts.same s7).same S)
                have hT8 : Thg [F, b] _ (.ref T) (tstD ⟨ts[0].mark, ts[0].tin, true⟩) := ThgL.tup (cs := [F, b]) (xs := [V.str ts[0].mark, .int ts[0].tin, .str "bad"]) (.cons (.str _) (.cons (.int _) (.one (.str _)))) (upd_same (H := upd (upd H7 q1 (.tup (cutV [V.str ts[0].mark, .int ts[0].tin, .str (wordD ts[0].bad)] none (some 2)))) p2 (.tup [.str "bad"])) (a := T) (o := .tup (cutV [V.str ts[0].mark, .int ts[0].tin, .str (wordD ts[0].bad)] none (some 2) ++ [.str "bad"])))
                exact ((hw8.set 0 hT8).upd eF8 (by simp)).less (by simp)
              · rcases List.mem_or_eq_of_mem_set ht0 with z | z
                · exact hto t0 z
                · rw [z]
                  exact hto ts[0] (List.getElem_mem htp)
              · rw [upd_ne (ne_of_none ea nFH)]
                exact S _ _ (s7 _ _ (kH a' o na ea))
            · refine ⟨us', ts, _, _, _, _, _, _, rfl, s7 _ _ eF, hts'.same s7, rfl, hto, ?_, hSy.same s7, kH.trans (Kb.same s7)⟩
              refine Classical.byContradiction fun z => cc ?_
              rw [List.all_map]
              exact List.all_eq_true.mpr fun t0 h0 => by
                cases hb : t0.bad with
                | false => show (!t0.bad) = true; rw [hb]; rfl
                | true => exact absurd ⟨t0, h0, hb⟩ z
        rintro σ7 H7 ⟨vs, ts', z4, z7, z9, z10, z11, z12, rfl, eF7, hw7, hl7, hto7, hb7, hS7, k07⟩
        have htl9 : ts.length ≤ 9 := by omega
        exact ⟨_, rfl, q _ vs ts' t' H7 nFH eF7 hw7 hto7 hb7 (by omega) (by omega) (by omega) hS7 k07⟩
end
/-! ### the tins told, held against each fault -/
def spToldR (K : PySem.W.Frag) : Sp := fun vs H Q _ => ∃ (b a du to : Addr) (t : Int) (each : Bool) (us ds rs : List V) (bs : List Bat3) (rows : List Row5) (pr : Bat3 → Int → Prop), vs = [.ref b, .ref a, .ref du, .ref to, .bl each] ∧ Bx b H t ∧ t + 100000 < 2 ^ 40 ∧ H a = some (.lst us) ∧ a ≠ b ∧ ThgL [b] H us (bs.map batD) ∧ bs.length ≤ 4 ∧ (bs.map Bat3.mark).Nodup ∧ (∀ B ∈ bs, BatOk B ∧ B.tins ≤ 10 ^ 40 ∧ PyData.strOk B.mark = true) ∧
  H du = some (.lst ds) ∧ du ≠ b ∧ ThgL [b] H ds (rows.map row5D) ∧ rows.length ≤ 40 ∧ H to = some (.lst rs) ∧ to ≠ b ∧ ThgL [b] H rs ((rowsP pr bs).map mrowD) ∧ (∀ B ∈ bs, ∀ r ∈ rows, ∀ n, 0 ≤ n → n < B.tins → ∃ w, winF B r.1 n = some w) ∧
  (∀ B ∈ bs, ∀ n, pr B n ↔ (0 ≤ n ∧ n < B.tins) ∧ hitR B rows each n = true) ∧ (∀ B ∈ bs, (canon (pr B)).length ≤ 8001) ∧ ∀ t' H', t ≤ t' → t' ≤ t + 100 → Bx b H' t' → Kb b H H' → Q (.bl true) H'
abbrev sToldR : Stmt := topS 45
theorem scToldR : FnScope ["_law_box_here", "_law_batches", "_law_due_here", "_law_told", "_law_each", "_law_sets", "_law_batch", "_law_some_here", "_law_tins", "_law_first", "_law_last", "_law_tin", "_law_meets_here", "_law_hit", "_law_one", "_law_other", "_law_mark", "_law_row"] ["_law_box_here", "_law_batches", "_law_due_here", "_law_told", "_law_each"] (defScope sToldR) := ⟨rfl, rfl, rfl, by decide +kernel, rfl, by decide +kernel, by decide +kernel⟩
section
variable {K : PySem.W.Frag} {mg : Str → Option Value} {P : Program} {w : World} {base : Heap}
theorem ok_ToldR {f : Addr} {fd : FuncData} (F : Fun K "_law_told_right" "_law_told_right" sToldR f fd) (C__law_some : Cal P w K mg base 2 "_law_some" ["_law_box_here", "_law_many"] spSome) (C__law_meets : Cal P w K mg base 2 "_law_meets" ["_law_batch", "_law_tin", "_law_row", "_law_each"] spMeets3) (m_dict : mg "dict" = none) (m_all : mg "all" = none) (m_any : mg "any" = none) (m_zip : mg "zip" = none) : FnOk P w K mg base CX0 3 f fd ["_law_box_here", "_law_batches", "_law_due_here", "_law_told", "_law_each"] (spToldR K) := by
  refine F.ok scToldR (fun vs H Q E h => ?_) (fun cdv A outer s H vs Q E hr h => ?_)
  · obtain ⟨b, a, du, to, t, each, us, ds, rs, bs, rows, pr, rfl, _⟩ := h
    rfl
  · obtain ⟨b, a, du, to, t, each, us, ds, rs, bs, rows, pr, rfl, hS, ht, ea, hab, hu, hbl, hnd, hbo, edu, hdb, hds, hrl, eto, htb, hrs, hwn, hpr, hcl, q⟩ := h
    refine ⟨_, pss_cons (ps_set (i := 5) scToldR.nd rfl (.inr rfl) (pe_callTy (call_dictP rfl) (by rfl) m_dict (by decide +kernel) (pa_cons (pv 3) pa_nil)))
      (pss_cons (ps_for PassesOwn.never rfl (pi_list (pv 1)) (pg_name (i := 6) scToldR.nd rfl (.inr rfl))
        (pss_cons (ps_par rfl scToldR.nd (i := 7) (j := 8) rfl rfl (by decide) rfl rfl (pa_cons (pe_dget2 (hu_of hr) (pv 5) (pe_ix ix_tup (pv 6) pe_int (fun _ _ => rfl)) (pe_lst pa_nil) ⟨rfl, rfl, rfl, rfl⟩) (pa_cons (pe_lst (pa_cons pe_int (pa_cons (pe_op op_sub (pe_ix ix_tup (pv 6) pe_int (fun _ _ => rfl)) pe_int) (pa_cons (pe_own C__law_some hr (by rfl) (pa_cons (pv 0) (pa_cons (pe_ix ix_tup (pv 6) pe_int (fun _ _ => rfl)) pa_nil))) (pa_cons (pe_own C__law_some hr (by rfl) (pa_cons (pv 0) (pa_cons (pe_ix ix_tup (pv 6) pe_int (fun _ _ => rfl)) pa_nil))) pa_nil))))) pa_nil)) (by rfl))
        (pss_cons (ps_for PassesOwn.never rfl (pi_list (pv 7)) (pg_tup rfl (pgs_cons (pg_name (i := 9) scToldR.nd rfl (.inl rfl)) (pgs_cons (pg_name (i := 10) scToldR.nd rfl (.inl rfl)) pgs_nil)))
          (pss_one (ps_set (i := 8) scToldR.nd rfl (.inl rfl) (pe_op op_cat (pv 8) (pe_lst (pa_cons (pv 9) (pa_cons (pv 10) (pa_cons (pe_op op_sub (pv 9) pe_int) (pa_cons (pe_op op_add (pv 10) pe_int) (pa_cons (pe_op op_fdivW (pe_op op_add (pv 9) (pv 10)) pe_int) pa_nil))))))))))
        (pss_cons (ps_for PassesOwn.never rfl (pi_list (pe_lc (own := [("_law_tin", 11)]) (g := (gName 11)) (tt := (tTest (tChain (rI0 fun i j => .bl (decide (i ≤ j))) (rI0 fun i j => .bl (decide (i < j))) (tC (.int 0)) (tVar 11) (tOp (rIxT K) (tVar 6) (tC (.int 1)))))) (te := (tVar 11)) rfl scToldR.nd (pi_list (pv 8)) (blkOk_by (own := [("_law_tin", 11)]) (N := ["_law_box_here", "_law_batches", "_law_due_here", "_law_told", "_law_each", "_law_sets", "_law_batch", "_law_some_here", "_law_tins", "_law_first", "_law_last", "_law_tin", "_law_meets_here", "_law_hit", "_law_one", "_law_other", "_law_mark", "_law_row"]) (sc := defScope sToldR) (by decide +kernel)) (fun _ _ _ _ _ => (pg_name (i := 11) scToldR.nd rfl (.inl rfl))) (fun _ _ _ _ _ => (pts_one (pt_chain op_le op_lt pe_int (pv 11) (pe_ix ix_tup (pv 6) pe_int (fun _ _ => rfl))))) (fun _ _ _ _ _ => (pv 11)))) (pg_name (i := 11) scToldR.nd rfl (.inr rfl))
          (pss_cons (ps_setLc (i := 12) (own := [("_law_row", 17)]) (g := (gName 17)) (tt := tYes) (te := (tCall spMeets3 [] E0 (tCons (tVar 6) (tCons (tVar 11) (tCons (tVar 17) (tCons (tVar 4) tNil)))))) rfl scToldR.nd rfl rfl (sw_true rfl rfl rfl (by decide +kernel)) (pi_list (pv 2)) (blkOk_by (own := [("_law_row", 17)]) (N := ["_law_box_here", "_law_batches", "_law_due_here", "_law_told", "_law_each", "_law_sets", "_law_batch", "_law_some_here", "_law_tins", "_law_first", "_law_last", "_law_tin", "_law_meets_here", "_law_hit", "_law_one", "_law_other", "_law_mark", "_law_row"]) (sc := defScope sToldR) (by decide +kernel)) (fun _ _ _ _ _ => (pg_name (i := 17) scToldR.nd rfl (.inl rfl))) (fun _ _ _ _ _ => pts_nil) (fun _ _ _ _ _ => (pe_own C__law_meets hr (by rfl) (pa_cons (pv 6) (pa_cons (pv 11) (pa_cons (pv 17) (pa_cons (pv 4) pa_nil)))))))
          (pss_cons (ps_set (i := 13) scToldR.nd rfl (.inl rfl) (pe_mid (pe_and (pe_cmpR (op_neD hr.units) (pv 12) (pe_lst pa_nil) (nomark _)) (pe_one (pe_ifExp (pt_val (pv 4)) (pe_callB (cr_all rfl) (by rfl) m_all (by decide +kernel) (pa_cons (pv 12) pa_nil)) (pe_callB (cr_any rfl) (by rfl) m_any (by decide +kernel) (pa_cons (pv 12) pa_nil)))))))
          (pss_one (ps_if (pt_cmpR op_ne (pv 13) (pe_callB (cr_any rfl) (by rfl) m_any (by decide +kernel) (pa_cons (pe_lc (own := [("_law_first", 9), ("_law_last", 10)]) (g := (gTup K 2 (gCons (gName 9) (gCons (gName 10) gNil)))) (tt := tYes) (te := (tChain (rI0 fun i j => .bl (decide (i ≤ j))) (rI0 fun i j => .bl (decide (i ≤ j))) (tVar 9) (tVar 11) (tVar 10))) rfl scToldR.nd (pi_list (pv 7)) (blkOk_by (own := [("_law_first", 9), ("_law_last", 10)]) (N := ["_law_box_here", "_law_batches", "_law_due_here", "_law_told", "_law_each", "_law_sets", "_law_batch", "_law_some_here", "_law_tins", "_law_first", "_law_last", "_law_tin", "_law_meets_here", "_law_hit", "_law_one", "_law_other", "_law_mark", "_law_row"]) (sc := defScope sToldR) (by decide +kernel)) (fun _ _ _ _ _ => (pg_tup rfl (pgs_cons (pg_name (i := 9) scToldR.nd rfl (.inl rfl)) (pgs_cons (pg_name (i := 10) scToldR.nd rfl (.inl rfl)) pgs_nil)))) (fun _ _ _ _ _ => pts_nil) (fun _ _ _ _ _ => (pe_chain op_le op_le (pv 9) (pv 11) (pv 10)))) pa_nil)) (nomark _)) (pss_one (ps_ret pe_bl))
            pss_nil)))))
        (pss_one (ps_for PassesOwn.never rfl (RZ.pi_zipA (by rfl) m_zip (pa_cons (pv 7) (pa_cons (pe_slice sl_list (pv 7) (po_some pe_int) po_none) pa_nil))) (pg_tup rfl (pgs_cons (pg_name (i := 14) scToldR.nd rfl (.inl rfl)) (pgs_cons (pg_name (i := 15) scToldR.nd rfl (.inl rfl)) pgs_nil)))
          (pss_one (ps_if (pt_cmpR op_ge (pe_op op_add (pe_ix ix_tup (pv 14) pe_int (fun _ _ => rfl)) pe_int) (pe_ix ix_tup (pv 15) pe_int (fun _ _ => rfl)) (nomark _)) (pss_one (ps_ret pe_bl))
            pss_nil))))))))
      (pss_one (ps_ret (pe_cmpR (op_eqD hr.units) (pe_lc (own := [("_law_mark", 16), ("_law_some_here", 7)]) (g := (gTup K 2 (gCons (gName 16) (gCons (gName 7) gNil)))) (tt := tYes) (te := (tVar 16)) rfl scToldR.nd (pi_list (pv 3)) (blkOk_by (own := [("_law_mark", 16), ("_law_some_here", 7)]) (N := ["_law_box_here", "_law_batches", "_law_due_here", "_law_told", "_law_each", "_law_sets", "_law_batch", "_law_some_here", "_law_tins", "_law_first", "_law_last", "_law_tin", "_law_meets_here", "_law_hit", "_law_one", "_law_other", "_law_mark", "_law_row"]) (sc := defScope sToldR) (by decide +kernel)) (fun _ _ _ _ _ => (pg_tup rfl (pgs_cons (pg_name (i := 16) scToldR.nd rfl (.inl rfl)) (pgs_cons (pg_name (i := 7) scToldR.nd rfl (.inl rfl)) pgs_nil)))) (fun _ _ _ _ _ => pts_nil) (fun _ _ _ _ _ => (pv 16))) (pe_lc (own := [("_law_batch", 6)]) (g := (gName 6)) (tt := (tB (tDIn (tOp (rIxT K) (tVar 6) (tC (.int 0))) (tVar 5)))) (te := (tOp (rIxT K) (tVar 6) (tC (.int 0)))) rfl scToldR.nd (pi_list (pv 1)) (blkOk_by (own := [("_law_batch", 6)]) (N := ["_law_box_here", "_law_batches", "_law_due_here", "_law_told", "_law_each", "_law_sets", "_law_batch", "_law_some_here", "_law_tins", "_law_first", "_law_last", "_law_tin", "_law_meets_here", "_law_hit", "_law_one", "_law_other", "_law_mark", "_law_row"]) (sc := defScope sToldR) (by decide +kernel)) (fun _ _ _ _ _ => (pg_name (i := 6) scToldR.nd rfl (.inl rfl))) (fun _ _ _ _ _ => (pts_one (pt_cmp (pc_din (hu_of hr) (pe_ix ix_tup (pv 6) pe_int (fun _ _ => rfl)) (pv 5))))) (fun _ _ _ _ _ => (pe_ix ix_tup (pv 6) pe_int (fun _ _ => rfl)))) (nomark _))))), ?_⟩
    obtain ⟨ws, kvs, ezs, hpair, hdic⟩ := rows_dic (K := K) hrs [] [] ⟨fun m v e => (nomatch e), fun r hr => nomatch hr⟩
    rw [List.nil_append] at hdic
    refine ⟨_, rfl, to, ws, kvs, rfl, SqL.of (by rw [eto, ezs]), hpair, fun M nM => ?_⟩
    have sM := same_upd (o := .dK (mergeK [] kvs)) nM
    have eM := upd_same (H := H) (a := M) (o := .dK (mergeK [] kvs))
    have hMb := hS.off nM
    have hS1 := hS.same sM
    revert eM hS1
    generalize upd H M (.dK (mergeK [] kvs)) = H1 at sM
    intro eM hS1
    generalize mergeK [] kvs = kv2 at hdic eM
    have hul : us.length = bs.length := by rw [hu.1, List.length_map]
    have k1 : Kb b H H1 := Kb.same sM
    refine ⟨_, rfl, a, rfl, ⟨_, SqL.of (sM _ _ ea)⟩, for_list (xs := us) (fun i σ Hx => ∃ (t' : Int) (y6 y7 y8 y9 y10 y11 y12 y13 y14 y15 : Option V), σ = [some (.ref b), some (.ref a), some (.ref du), some (.ref to), some (.bl each), some (.ref M), y6, y7, y8, y9, y10, y11, y12, y13, y14, y15, none, none] ∧ t ≤ t' ∧ t' ≤ t + 20 * (i : Int) ∧ Bx b Hx t' ∧ Kb b H1 Hx) ⟨t, _, _, _, _, _, _, _, _, _, _, rfl, by omega, by omega, hS1, fun _ _ _ e => e⟩ (fun i σ Hx _ hP => ?_) (fun i x σ Hx hx hP => ?_) (fun σ Hx hP => ?_)⟩
    · obtain ⟨t', y6, y7, y8, y9, y10, y11, y12, y13, y14, y15, rfl, v0, v1, hSx, kx⟩ := hP
      exact SqL.of (kx _ _ hab (sM _ _ ea))
    · obtain ⟨t', y6, y7, y8, y9, y10, y11, y12, y13, y14, y15, rfl, v0, v1, hSx, kx⟩ := hP
      have hi : i < us.length := (List.getElem?_eq_some_iff.mp hx).1
      have hi4 : (i : Int) < 4 := by omega
      obtain ⟨B, eB, hB0⟩ := hu.atM hx
      have hBm := List.mem_of_getElem? eB
      have kH := k1.trans kx
      have hB := hB0.kb hS kH (by simp)
      obtain ⟨c, l', xs', rfl, ec, el', nl', hps⟩ := hB.batL
      have eMx := kx _ _ hMb eM
      obtain ⟨hBok, hBt, hBs⟩ := hbo B hBm
      refine ⟨_, rfl, M, rfl, .inl ⟨_, .inl eMx⟩, _, rfl, c, _, 0, _, rfl, rfl, .inl (.inl ec), atI_nat (j := 0) rfl, Nat.zero_le _, fun Z nZ => ⟨_, DGet.k (k := Sum.inr B.mark) ((same_upd nZ) _ _ eMx), ?_⟩⟩
      have sZ := same_upd (o := .lst []) nZ
      have hT : ∀ n, pr B n → 0 ≤ n ∧ n < B.tins := fun n h => ((hpr B hBm n).mp h).1
      obtain ⟨va, xs7, eva, hvb, e7, h7⟩ : ∃ (va : Addr) (xs7 : List V), (valV kv2 (.inr B.mark)).getD (.ref Z) = .ref va ∧ va ≠ b ∧ upd Hx Z (.lst []) va = some (.lst xs7) ∧ Prs (upd Hx Z (.lst [])) xs7 (canon (pr B)) := by
        rw [← lk_rows (pr := pr) hnd hBm]
        cases hvk : valV kv2 (.inr B.mark) with
        | none =>
          have e0 : lkM (rowsP pr bs) B.mark = [] := lk_no fun x hx z => by
            obtain ⟨v, ev⟩ := hdic.2 x hx
            rw [z, hvk] at ev
            cases ev
          rw [e0]
          exact ⟨Z, [], rfl, hSx.off nZ, upd_same, Prs.nil⟩
        | some v =>
          obtain ⟨x, hx, e1, hv⟩ := hdic.1 B.mark v hvk
          obtain ⟨a', xs', rfl, ea', na', hx'⟩ := (((hv.same sM).kb hS1 kx (by simp)).same sZ).list
          obtain ⟨B', hB', eB'⟩ := List.mem_filterMap.mp hx
          obtain ⟨e2, e3⟩ := mrowO_mark eB'
          have : lkM (rowsP pr bs) B.mark = x.2 := by
            rw [← e1, e2, lk_rows hnd hB', e3]
          rw [this]
          exact ⟨a', xs', rfl, fun z => na' (by rw [z]; simp), ea', hx'.prs⟩
      have offZ := hSx.off nZ
      have hSz := hSx.same sZ
      have kz : Kb b H1 (upd Hx Z (.lst [])) := kx.trans (Kb.same sZ)
      have ecz := sZ _ _ ec
      have hBz := hB.same sZ
      have hcb : c ≠ b := by
        obtain ⟨n0, n1, eb6, _⟩ := hSx.at_
        exact ne_of ec eb6 (fun z => nomatch z)
      have hlen := hcl B hBm
      revert e7 h7 hSz kz ecz hBz
      generalize upd Hx Z (.lst []) = Hz
      intro e7 h7 hSz kz ecz hBz
      generalize hqs : canon (pr B) = qs at h7 hlen
      have hBt0 := hBok.2.1
      rw [eva]
      refine ⟨_, rfl, c, _, 1, _, rfl, rfl, .inl (.inl ecz), atI_nat (j := 1) rfl, _, _, rfl, rfl, ?_⟩
      refine ⟨_, rfl, _, rfl, c, _, 1, _, rfl, rfl, .inl (.inl ecz), atI_nat (j := 1) rfl, b, t', B.tins, rfl, hSz, by omega, by omega, hBt, fun r1 t1 Ha r10 r11 u0 u1 hSa ka => ?_⟩
      have eca := ka _ _ hcb ecz
      refine ⟨_, rfl, _, rfl, c, _, 1, _, rfl, rfl, .inl (.inl eca), atI_nat (j := 1) rfl, b, t1, B.tins, rfl, hSa, by omega, by omega, hBt, fun r2 t2 Hb r20 r21 u2 u3 hSb kb => ⟨(by show 4 ≤ sizeLine; decide), fun L0 nL0 => ⟨_, _, rfl, ?_⟩⟩⟩
      have kab := ka.trans kb
      have sL0 := same_upd (o := .lst [.int 0, .int (B.tins - 1), .int r1, .int r2]) nL0
      have eL0 := upd_same (H := Hb) (a := L0) (o := .lst [.int 0, .int (B.tins - 1), .int r1, .int r2])
      have e7b := sL0 _ _ (kab _ _ hvb e7)
      have h7b := (((prs_thg (cs := [b]) h7).kb hSz kab (by simp)).same sL0).prs
      have hSc := hSb.same sL0
      have kc : Kb b H1 (upd Hb L0 (.lst [.int 0, .int (B.tins - 1), .int r1, .int r2])) := (kz.trans kab).trans (Kb.same sL0)
      have ecc := sL0 _ _ (kab _ _ hcb ecz)
      have hBc := (hBz.kb hSz kab (by simp)).same sL0
      revert eL0 e7b h7b hSc kc ecc hBc
      generalize upd Hb L0 (.lst [.int 0, .int (B.tins - 1), .int r1, .int r2]) = Hc
      intro eL0 e7b h7b hSc kc ecc hBc
      refine ⟨_, rfl, va, rfl, ⟨_, SqL.of e7b⟩, for_list (xs := xs7) (fun k σ Hy => ∃ (L : Addr) (zs : List Int) (y9 y10 : Option V), σ = [some (.ref b), some (.ref a), some (.ref du), some (.ref to), some (.bl each), some (.ref M), some (.ref c), some (.ref va), some (.ref L), y9, y10, y11, y12, y13, y14, y15, none, none] ∧ Same Hc Hy ∧ Hy L = some (.lst (zs.map V.int)) ∧ zs.length = 4 + 5 * k) ⟨L0, [0, B.tins - 1, r1, r2], _, _, rfl, Same.refl _, eL0, rfl⟩ (fun k σ Hy _ hP => ?_) (fun k x σ Hy hx2 hP => ?_) (fun σ Hy hP => ?_)⟩
      · obtain ⟨L, zs, y9, y10, rfl, sy, eL, hzl⟩ := hP
        exact SqL.of (sy _ _ e7b)
      · obtain ⟨L, zs, y9, y10, rfl, sy, eL, hzl⟩ := hP
        have hk : k < xs7.length := (List.getElem?_eq_some_iff.mp hx2).1
        have h7l : xs7.length = qs.length := h7b.1
        obtain ⟨p, T2, ep, rfl, eT2⟩ := prs_at h7b hx2
        refine ⟨T2, _, rfl, .inl (.inl (sy _ _ eT2)), rfl, _, _, rfl, _, _, rfl, rfl, ?_⟩
        refine ⟨_, rfl, _, rfl, _, rfl, _, rfl, _, _, rfl, rfl, _, rfl, _, _, rfl, rfl, _, rfl, _, rfl, _, _, rfl, rfl, _, _, rfl, rfl, divw (by decide) (by decide), (by show 5 ≤ sizeLine; decide), fun N nN => ?_⟩
        have sN := same_upd (o := .lst [.int p.1, .int p.2, .int (p.1 - 1), .int (p.2 + 1), .int ((p.1 + p.2) / 2)]) nN
        refine ⟨L, N, _, _, rfl, rfl, sN _ _ eL, upd_same, ?_, fun P nP => ?_⟩
        · rw [List.length_map, hzl, sizeLine_eq]
          show 4 + 5 * k + 5 ≤ _
          omega
        · have sP := same_upd (o := .lst (zs.map V.int ++ [.int p.1, .int p.2, .int (p.1 - 1), .int (p.2 + 1), .int ((p.1 + p.2) / 2)])) nP
          refine ⟨P, zs ++ [p.1, p.2, p.1 - 1, p.2 + 1, (p.1 + p.2) / 2], _, _, rfl, (sy.trans sN).trans sP, ?_, by rw [List.length_append, hzl]; show 4 + 5 * k + 5 = _; omega⟩
          rw [List.map_append]
          exact upd_same
      · obtain ⟨L, zs, y9, y10, rfl, sy, eL, hzl⟩ := hP
        have h7l : xs7.length = qs.length := h7b.1
        have hSy := hSc.same sy
        have hBy := hBc.same sy
        have ecy := sy _ _ ecc
        have kHy := (k1.trans kc).trans (Kb.same sy)
        have edy := kHy _ _ hdb edu
        have hdy := hds.kb hS kHy (by simp)
        have e7y := sy _ _ e7b
        have h7y := h7b.same sy
        refine ⟨_, rfl, L, rfl, ⟨_, SqL.of eL⟩, fun D nD => lc_thgFd (fun i => (zs[i]?).bind fun z => if 0 ≤ z ∧ z < B.tins then some (PyData.int z) else none) (walk_list (xs := zs.map V.int)) [b] nD (by rw [List.length_map]; omega) (fun H' s => SqL.of (s _ _ eL)) (fun i x H2 H2' Kt Kn hi s2 _ hyy kt kn => ?_) (fun H2 ws2 s2 eD h2 => ?_)⟩
        · obtain ⟨rfl, hx3⟩ := hyy
          rw [List.getElem?_map] at hx3
          cases ez : zs[i]? with
          | none => rw [ez] at hx3; cases hx3
          | some z =>
            rw [ez] at hx3
            cases hx3
            have kt' := kt (.int z) (.int z)
            rw [ez] at kt' kn
            refine ⟨rfl, _, rfl, _, _, rfl, rfl, _, rfl, ?_⟩
            by_cases c0 : 0 ≤ z
            · rw [decide_eq_true c0]
              refine iteT ⟨_, rfl, c, _, 1, _, rfl, rfl, .inl (.inl (s2 _ _ ecy)), atI_nat (j := 1) rfl, _, _, rfl, rfl, _, rfl, ?_⟩
              by_cases c1 : z < B.tins
              · rw [decide_eq_true c1]
                exact iteT ⟨_, rfl, kt' _ (by show (if 0 ≤ z ∧ z < B.tins then some (PyData.int z) else none) = _; rw [if_pos ⟨c0, c1⟩]) (Same.refl _) (.int _)⟩
              · rw [decide_eq_false c1]
                exact iteF (kn _ (by show (if 0 ≤ z ∧ z < B.tins then some (PyData.int z) else none) = _; rw [if_neg fun h => c1 h.2]) (Same.refl _))
            · rw [decide_eq_false c0]
              exact iteF ⟨_, rfl, iteF (kn _ (by show (if 0 ≤ z ∧ z < B.tins then some (PyData.int z) else none) = _; rw [if_neg fun h => c0 h.1]) (Same.refl _))⟩
        have hall : ∀ (j : Nat) x, ws2[j]? = some x → ∃ z : Int, x = .int z ∧ 0 ≤ z ∧ z < B.tins := fun j x ej => by
          have hj := (List.getElem?_eq_some_iff.mp ej).1
          rw [h2.1] at hj
          have ed := List.getElem?_eq_getElem hj
          have hd := h2.2 j _ _ ej ed
          have hm := List.getElem_mem hj
          revert hd hm
          generalize (List.filterMap (fun i => zs[i]?.bind fun z => if 0 ≤ z ∧ z < B.tins then some (PyData.int z) else none) (List.range (List.map V.int zs).length))[j] = d
          intro hd hm
          obtain ⟨i, _, e⟩ := List.mem_filterMap.mp hm
          cases ez : zs[i]? with
          | none => rw [ez] at e; cases e
          | some z =>
            rw [ez] at e
            have e : (if 0 ≤ z ∧ z < B.tins then some (PyData.int z) else none) = some d := e
            by_cases cc : 0 ≤ z ∧ z < B.tins
            · rw [if_pos cc] at e
              cases e
              exact ⟨z, hd.inv_int, cc.1, cc.2⟩
            · rw [if_neg cc] at e
              cases e
        have sy2 := sy.trans s2
        have hS2 := hSc.same sy2
        have hB2 := hBc.same sy2
        have ed2 := s2 _ _ edy
        have hd2 := hdy.same s2
        have e72 := s2 _ _ e7y
        have h72 := h7y.same s2
        have k2 : Kb b H H2 := kHy.trans (Kb.same s2)
        refine ⟨D, rfl, ⟨_, SqL.of eD⟩, for_list (xs := ws2) (fun i σ Hw => ∃ (y9 y10 y11 y12 y13 : Option V), σ = [some (.ref b), some (.ref a), some (.ref du), some (.ref to), some (.bl each), some (.ref M), some (.ref c), some (.ref va), some (.ref L), y9, y10, y11, y12, y13, y14, y15, none, none] ∧ Same H2 Hw) ⟨_, _, _, _, _, rfl, Same.refl _⟩ (fun i σ Hw _ hP => ?_) (fun i x σ Hw hx3 hP => ?_) (fun σ Hw hP => ?_)⟩
        · obtain ⟨y9, y10, y11, y12, y13, rfl, sw⟩ := hP
          exact SqL.of (sw _ _ eD)
        · obtain ⟨y9, y10, y11, y12, y13, rfl, sw⟩ := hP
          obtain ⟨z, rfl, z0, z1⟩ := hall i x hx3
          have edw := sw _ _ ed2
          have hdw := hd2.same sw
          have hBw := hB2.same sw
          have hdl : ds.length = rows.length := by rw [hds.1, List.length_map]
          refine ⟨_, rfl, du, rfl, ⟨_, SqL.of edw⟩, fun D3 nD3 => lc_thgd ((rows.map (metAt B each z)).map PyData.bool) (walk_list (xs := ds)) [] nD3 (by rw [List.length_map, List.length_map, hdl]) (by omega) (fun H' s => SqL.of (s _ _ edw)) (fun j x d H3 H3' Kt Kn hd s3 _ hyy kt => ?_) (fun H3 vs3 s3 eD3 h3 => ?_)⟩
          · obtain ⟨rfl, hx4⟩ := hyy
            obtain ⟨r, er, hr5⟩ := hdw.atM hx4
            rw [List.map_map, List.getElem?_map, er] at hd
            cases hd
            obtain ⟨w0, ew⟩ := hwn B hBm r (List.mem_of_getElem? er) z z0 z1
            refine ⟨rfl, _, rfl, _, rfl, _, rfl, _, rfl, .ref c, x, z, each, B, r, w0, [b], [b], rfl, hBw.same s3, hBok, z0, z1, hr5.same s3, ew, fun H4 s4 => kt _ _ s4 ?_⟩
            show Thg _ _ _ (PyData.bool (metAt B each z r))
            unfold metAt
            rw [ew]
            exact .bl _
          have ev3 := h3.bls
          have sw3 := sw.trans s3
          refine ⟨fun v H' => v = .bl (hitR B rows each z) ∧ Same H3 H', ?_, fun v H4 hv => ?_⟩
          · have hnil : rows.isEmpty = ((rows.map (metAt B each z)).isEmpty) := by cases rows <;> rfl
            refine ⟨_, rfl, Nat.zero_le _, fun z1 nz1 => ?_⟩
            have sz := same_upd (o := .lst []) nz1
            have nD1 : z1 ∉ [D3] := fun z => by rw [List.mem_singleton.mp z, eD3] at nz1; cases nz1
            refine ⟨_, _, (((h3.less (cs' := []) (by simp)).same sz).lst (sz _ _ eD3) (by simp)).dp, .lst (SqL.of upd_same) .nil, shaped_bls33 _, shaped_bls33 [], ?_⟩
            rw [eqv_no]
            have e3z := sz _ _ eD3
            rw [ev3] at e3z
            by_cases hr0 : rows = []
            · rw [hr0]
              exact ⟨_, rfl, iteF ⟨rfl, sz⟩⟩
            · have hie : (rows.map (metAt B each z)).isEmpty = false := by
                cases h : rows with
                | nil => exact absurd h hr0
                | cons x y => rfl
              rw [hie]
              refine ⟨_, rfl, iteT ?_⟩
              unfold hitR
              rw [decide_eq_true hr0, Bool.true_and]
              refine ⟨_, rfl, each, rfl, ite2 (fun ce => ?_) (fun ce => ?_)⟩
              · rw [if_pos ce]
                refine ⟨_, rfl, D3, _, rfl, SqL.of e3z, ?_, sz⟩
                rw [List.all_map]
                rfl
              · rw [if_neg ce]
                refine ⟨_, rfl, D3, _, rfl, SqL.of e3z, ?_, sz⟩
                rw [List.any_map]
                rfl
          obtain ⟨rfl, s4⟩ := hv
          have s24 := sw3.trans s4
          have e74 := s24 _ _ e72
          have h74 := h72.same s24
          refine ⟨_, rfl, _, rfl, va, rfl, ⟨_, SqL.of e74⟩, fun D4 nD4 => ?_⟩
          refine lc_mapW V.bl (fun j => inZ z (qs.getD j (0, 0))) (walk_list (xs := xs7)) nD4 (by rw [h7l, sizeLine_eq]; omega) (fun H' s => SqL.of (s _ _ e74)) (fun j x H9 H9' Kt Kn hj s9 hyy kk => ?_) (fun H9 s9 e9 => ?_)
          · obtain ⟨rfl, hx9⟩ := hyy
            obtain ⟨q', T3, eq, rfl, eT3⟩ := prs_at h74 hx9
            have e1 : qs.getD j (0, 0) = q' := by rw [List.getD_eq_getElem?_getD, eq]; rfl
            rw [e1] at kk
            have kk : ∀ H4, Same H9' H4 → Kt (.bl (decide (q'.1 ≤ z) && decide (z ≤ q'.2))) H4 := kk
            refine ⟨T3, _, rfl, .inl (.inl (s9 _ _ eT3)), rfl, _, _, rfl, _, _, rfl, rfl, rfl, _, rfl, _, rfl, _, _, rfl, rfl, _, rfl, ?_⟩
            by_cases c : q'.1 ≤ z
            · rw [decide_eq_true c] at kk ⊢
              exact iteT ⟨_, rfl, _, _, rfl, rfl, kk _ (Same.refl _)⟩
            · rw [decide_eq_false c] at kk ⊢
              exact iteF (kk _ (Same.refl _))
          · have eany : (((List.range xs7.length).map fun j => inZ z (qs.getD j (0, 0))).any id) = qs.any (inZ z) := by
              rw [h7l]
              exact range_any (0, 0) (inZ z) qs
            refine ⟨D4, _, rfl, SqL.of e9, ?_⟩
            have eqh : qs.any (inZ z) = hitR B rows each z := by
              rw [← hqs, Bool.eq_iff_iff, canon_hitZ hT z, hpr B hBm z]
              exact ⟨fun h => h.2, fun h => ⟨⟨z0, z1⟩, h⟩⟩
            rw [eany, eqh]
            clear eqh
            generalize hitR B rows each z = hh
            refine ⟨rfl, _, rfl, ?_⟩
            cases hh
            · exact iteF ⟨_, _, _, _, _, rfl, s24.trans s9⟩
            · exact iteF ⟨_, _, _, _, _, rfl, s24.trans s9⟩
        · obtain ⟨y9, y10, y11, y12, y13, rfl, sw⟩ := hP
          have e7w := sw _ _ e72
          have h7w := h72.same sw
          have k2w := k2.trans (Kb.same sw)
          have kcw : Kb b H1 Hw := (kc.trans (Kb.same sy2)).trans (Kb.same sw)
          have hSw := hS2.same sw
          refine ⟨_, rfl, _, rfl, 1, rfl, va, xs7, rfl, SqL.of e7w, fun Z2 nZ2 => ?_⟩
          have ecut : cutV xs7 (some 1) none = xs7.drop 1 := cut_back xs7 1
          rw [ecut]
          have sZ2 := same_upd (o := .lst (xs7.drop 1)) nZ2
          have e7u := sZ2 _ _ e7w
          have h7u := h7w.same sZ2
          have eZ2 := upd_same (H := Hw) (a := Z2) (o := .lst (xs7.drop 1))
          have hSu := hSw.same sZ2
          have kcu := kcw.trans (Kb.same sZ2)
          revert e7u h7u eZ2 hSu kcu
          generalize upd Hw Z2 (.lst (xs7.drop 1)) = Hu
          intro e7u h7u eZ2 hSu kcu
          obtain ⟨lo, hris⟩ := (canon_in hT).ris
          rw [hqs] at hris
          have hzn : xs7.length - 1 = min xs7.length (xs7.drop 1).length := by rw [List.length_drop]; omega
          refine ⟨va, Z2, xs7, _, rfl, .inl ⟨SqL.of e7u, SqL.of eZ2, for_it (walk_zip (n := xs7.length - 1) hzn) (fun k σ Hz => ∃ (y14 y15 : Option V), σ = [some (.ref b), some (.ref a), some (.ref du), some (.ref to), some (.bl each), some (.ref M), some (.ref c), some (.ref va), some (.ref L), y9, y10, y11, y12, y13, y14, y15, none, none] ∧ Same Hu Hz) ⟨_, _, rfl, Same.refl _⟩ (fun k σ Hz _ hP => ?_) (fun k x σ Hz Hz' hk hP hyy => ?_) (fun σ Hz hP => ?_)⟩⟩
          · obtain ⟨y14, y15, rfl, sz⟩ := hP
            exact ⟨SqL.of (sz _ _ e7u), SqL.of (sz _ _ eZ2)⟩
          · obtain ⟨y14, y15, rfl, sz⟩ := hP
            obtain ⟨T, x1, x2, rfl, nT, rfl, ex1, ex2⟩ := hyy
            have sT := same_upd (o := .tup [x1, x2]) nT
            have h7z := (h7u.same sz).same sT
            obtain ⟨p1, T1, ep1, rfl, eT1⟩ := prs_at h7z ex1
            have ex2' : xs7[1 + k]? = some x2 := by rw [← List.getElem?_drop]; exact ex2
            obtain ⟨p2, T2, ep2, rfl, eT2⟩ := prs_at h7z ex2'
            have hgap := ris_gap hris ep1 (b := p2) (by rw [List.getElem?_drop]; exact ep2)
            refine ⟨T, _, rfl, .inl (.inl upd_same), rfl, _, _, rfl, _, _, rfl, rfl, ?_⟩
            refine ⟨_, rfl, T1, _, 1, _, rfl, rfl, .inl (.inl eT1), atI_nat (j := 1) rfl, _, _, rfl, rfl, _, rfl, T2, _, 0, _, rfl, rfl, .inl (.inl eT2), atI_nat (j := 0) rfl, _, _, rfl, rfl, _, rfl, ?_⟩
            rw [decide_eq_false (by omega)]
            exact iteF ⟨_, _, rfl, sz.trans sT⟩
          · obtain ⟨y14, y15, rfl, sz⟩ := hP
            exact ⟨t2, _, _, _, _, _, _, _, _, _, _, rfl, by omega, by omega, hSu.same sz, kcu.trans (Kb.same sz)⟩
    · obtain ⟨t', y6, y7, y8, y9, y10, y11, y12, y13, y14, y15, rfl, v0, v1, hSx, kx⟩ := hP
      have kH := k1.trans kx
      have etx := kH _ _ htb eto
      have hrx := hrs.kb hS kH (by simp)
      have eax := kH _ _ hab ea
      have hux := hu.kb hS kH (by simp)
      have eMx := kx _ _ hMb eM
      have hrl2 : rs.length = (rowsP pr bs).length := by rw [hrs.1, List.length_map]
      have hrl4 : (rowsP pr bs).length ≤ bs.length := List.length_filterMap_le _ _
      refine ⟨_, rfl, to, rfl, ⟨_, SqL.of etx⟩, fun D nD => lc_thgd ((rowsP pr bs).map fun r => PyData.str r.1) (walk_list (xs := rs)) [] nD (by rw [List.length_map, hrl2]) (by omega) (fun H' s => SqL.of (s _ _ etx)) (fun j x d H2 H2' Kt Kn hd s2 _ hyy kt => ?_) (fun H2 ws2 s2 eD h2 => ?_)⟩
      · obtain ⟨rfl, hx⟩ := hyy
        obtain ⟨r, er, hr5⟩ := hrx.atM hx
        rw [List.getElem?_map, er] at hd
        cases hd
        obtain ⟨T, y, rfl, eT, _⟩ := (hr5.same s2).mrow
        exact ⟨T, _, rfl, .inl (.inl eT), rfl, _, _, rfl, _, _, rfl, rfl, rfl, _, rfl, kt _ _ (Same.refl _) (.str _)⟩
      · have kH2 := kH.trans (Kb.same s2)
        have eax2 := s2 _ _ eax
        have hux2 := hux.same s2
        have eM2 := s2 _ _ eMx
        have nDb : D ≠ b := hSx.off nD
        refine ⟨_, rfl, a, rfl, ⟨_, SqL.of eax2⟩, fun D2 nD2 => lc_thgFd (fun i => (bs[i]?).bind fun B => if canon (pr B) = [] then none else some (PyData.str B.mark)) (walk_list (xs := us)) [] nD2 (by omega) (fun H' s => SqL.of (s _ _ eax2)) (fun i x H3 H3' Kt Kn hi s3 _ hyy kt kn => ?_) (fun H3 ws3 s3 eD3 h3 => ?_)⟩
        · obtain ⟨rfl, hx3⟩ := hyy
          obtain ⟨B, eB, hB⟩ := hux2.atM hx3
          obtain ⟨c, l', xs', rfl, ec, el', nl', hps⟩ := (hB.same s3).batL
          have hBm := List.mem_of_getElem? eB
          rw [eB] at kt kn
          refine ⟨rfl, _, rfl, c, _, 0, _, rfl, rfl, .inl (.inl ec), atI_nat (j := 0) rfl, _, rfl, M, _, rfl, DGet.k (k := Sum.inr B.mark) (s3 _ _ eM2), ?_⟩
          have hth := dic_there hdic hnd hBm
          by_cases cc : canon (pr B) = []
          · have : (valV kv2 (.inr B.mark)).isSome = false := Bool.eq_false_iff.mpr fun z => (hth.mp z) cc
            rw [this]
            exact ⟨_, rfl, iteF (kn _ (by show (if canon (pr B) = [] then none else some (PyData.str B.mark)) = _; rw [if_pos cc]) (Same.refl _))⟩
          · rw [hth.mpr cc]
            exact ⟨_, rfl, iteT ⟨_, rfl, c, _, 0, _, rfl, rfl, .inl (.inl ec), atI_nat (j := 0) rfl, kt _ _ _ (by show (if canon (pr B) = [] then none else some (PyData.str B.mark)) = _; rw [if_neg cc]) (Same.refl _) (.str _)⟩⟩
        · have efm : (List.range us.length).filterMap (fun i => (bs[i]?).bind fun B => if canon (pr B) = [] then none else some (PyData.str B.mark)) = (rowsP pr bs).map fun r => PyData.str r.1 := by
            rw [hul, fm_range33, rowsP_marks]
          rw [efm] at h3
          have emm : ((rowsP pr bs).map fun r => PyData.str r.1) = ((rowsP pr bs).map (·.1)).map PyData.str := by rw [List.map_map]; rfl
          have hsm : SeqAt.shaped (PyData.list ((rowsP pr bs).map fun r => PyData.str r.1)) = true := by
            rw [emm]
            refine shaped_marks33 fun m hm => ?_
            obtain ⟨r, hr, rfl⟩ := List.mem_map.mp hm
            obtain ⟨B, hB, e⟩ := List.mem_filterMap.mp hr
            rw [(mrowO_mark e).1]
            exact (hbo B hB).2.2
          have hd1 := ((((h2.less (cs' := []) (by simp)).same s3).lst (s3 _ _ eD) (by simp)).dp (K := K))
          have hd2 := (((h3.less (cs' := []) (by simp)).lst eD3 (by simp)).dp (K := K))
          refine ⟨_, _, hd1, hd2, hsm, hsm, ?_⟩
          rw [SeqAt.eqv_refl _ (SeqAt.canLay_of_shaped hsm)]
          exact q t' _ v0 (by omega) ((hSx.same s2).same s3) (kH2.trans (Kb.same s3))
end
/-! ### great cases -/
theorem gr_end {ps : List Str} {B : Bat3} (h : GrB ps B) (p : Str) (k : Int) (r : Int × Int) (k0 : 0 ≤ k) (k1 : k < B.tins) (e : winF B p k = some r) : r.2 + 2 ≤ 10 ^ 55 := by
  obtain ⟨hB, ht, hg, _⟩ := h
  unfold winF at e
  cases eq : passF B.pas p with
  | none => rw [eq] at e; cases e
  | some q =>
    rw [eq] at e
    have hq := List.mem_of_find?_eq_some eq
    have h1 := hB.2.2.2.2 q hq
    have h2 := hg q hq
    cases q with
    | line p' s l b =>
      obtain ⟨_, s0, _, l0, _, b1, _⟩ := h1
      obtain ⟨g1, g2⟩ := h2
      cases e
      have m0 : k * l / b ≤ k * l := Int.ediv_le_self _ (Int.mul_nonneg k0 l0)
      have m1 : k * l ≤ 10 ^ 31 * 10 ^ 19 := Int.mul_le_mul (by omega) (by omega) l0 (by omega)
      show s + k * l / b + 2 ≤ 10 ^ 55
      omega
    | racks p' per st =>
      have e : st[(k / per).toNat]? = some r := e
      have := h2 r (List.mem_of_getElem? e)
      omega
theorem gr_case {ps : List Str} {bs : List Bat3} {ts : List Tst} (hg : ∀ B ∈ bs, GrB ps B) (nd : (bs.map Bat3.mark).Nodup) (hl : bs.length ≤ 4) (hp : ps.length ≤ 5) (ht : ∀ t ∈ ts, TstOk bs t) (htl : ts.length ≤ 9) : CaseOk bs ts where
  nd := nd
  bat := fun B hB => (hg B hB).1
  bl := by omega
  few := ⟨ps, by omega, fun x ⟨B, hB, q, hq, e⟩ => by rw [← (hg B hB).2.2.2, ← e]; exact List.mem_map.mpr ⟨q, hq, rfl⟩⟩
  tst := ht
  tl := by omega
theorem gr_place {ps : List Str} {bs : List Bat3} (hg : ∀ B ∈ bs, GrB ps B) {x : Str} (h : PlaceP bs x) : x ∈ ps := by
  obtain ⟨B, hB, q, hq, e⟩ := h
  rw [← (hg B hB).2.2.2, ← e]
  exact List.mem_map.mpr ⟨q, hq, rfl⟩
theorem gr_sm {ps : List Str} {bs : List Bat3} (hg : ∀ B ∈ bs, GrB ps B) (hl : bs.length ≤ 4) (hp : ps.length ≤ 5) : Sm5 bs where
  bl := by omega
  pl := fun B hB => by
    have := (hg B hB).2.2.2
    rw [← List.length_map (f := Pas3.pl), this]
    exact hp
theorem gr_all {ps : List Str} {bs : List Bat3} {ts : List Tst} (hg : ∀ B ∈ bs, GrB ps B) (hC : CaseOk bs ts) (p : Str) (hp : PlaceP bs p) (t : Tst) (ht : t ∈ ts) : winT bs p t ≠ none := by
  obtain ⟨B, hB, _, e, t0, t1⟩ := winT_of hC ht p
  obtain ⟨w, ew, _⟩ := gr_win (hg B hB) (gr_place hg hp) t0 t1
  rw [e, ew]
  exact fun z => nomatch z
theorem gr_few {ps : List Str} {bs : List Bat3} {ts : List Tst} (hg : ∀ B ∈ bs, GrB ps B) (hp : ps.length ≤ 3) (htl : ts.length ≤ 9) {qs : List Str} (hps : SrtT (PlaceP bs) qs) : (suspF bs ts qs).length ≤ 40 := by
  have h1 := susp_len bs ts qs
  have h0 : qs.length ≤ ps.length := nodup_len hps.nd fun x hx => gr_place hg ((hps.mem x).mp hx)
  have h2 : qs.length * (ts.length + 1) ≤ 3 * 10 := Nat.mul_le_mul (by omega) (by omega)
  omega
theorem gr_row {ps : List Str} {bs : List Bat3} {ts : List Tst} (hg : ∀ B ∈ bs, GrB ps B) (hC : CaseOk bs ts) (hbad : ∃ t ∈ ts, t.bad = true) {qs : List Str} {r : Row5} (hr : r ∈ suspF bs ts qs) : (fltO r).Ok ∧ RowNear r ∧ (∀ e, r.2.2.1 = some e → r.2.1 ≤ e) ∧ r.1 ∈ qs := by
  unfold suspF at hr
  obtain ⟨p, hp, h⟩ := List.mem_flatMap.mp hr
  obtain ⟨r4, h4, rfl⟩ := List.mem_map.mp h
  have hm : ∀ B ∈ bs, ∀ p k r, 0 ≤ k → k < B.tins → winF B p k = some r → r.2 + 2 ≤ 10 ^ 55 := fun B hB p k r k0 k1 e => gr_end (hg B hB) p k r k0 k1 e
  have ⟨fs, hfs⟩ := faults_ex (seenF bs ts p) (10 ^ 55)
  obtain ⟨a, b, ro⟩ := rows_ok hC hbad (by omega) hm p h4
  obtain ⟨_, _, ⟨fx, h1, e1⟩, fy, h2, e2⟩ := row_fault (seen_ok hC p) (seen_end hC p hm) (by omega) (seen_bad hbad p) hfs h4
  obtain ⟨⟨x1, x2, x3⟩, _⟩ := (hfs fx.1 fx.2).mp h1
  obtain ⟨⟨y1, y2, y3⟩, _⟩ := (hfs fy.1 fy.2).mp h2
  refine ⟨⟨?_, fun l e => ?_⟩, ?_, fun e he => (ro e he).1, hp⟩
  · show r4.1.natAbs < 2 ^ 250
    omega
  · have := ro l e
    omega
  · unfold RowNear
    show 0 ≤ r4.2.2.1 ∧ r4.2.2.1.natAbs < 2 ^ 250 ∧ 0 ≤ r4.2.2.2 ∧ r4.2.2.2.natAbs < 2 ^ 250
    omega
theorem reach_hit {B : Bat3} {rows : List Row5} {n : Int} (ho : ∀ r ∈ rows, ∀ e, r.2.2.1 = some e → r.2.1 ≤ e) : ReachA B (rows.map fltO) n ↔ (0 ≤ n ∧ n < B.tins) ∧ hitR B rows false n = true := by
  unfold hitR
  rw [if_neg (fun z => nomatch z), Bool.and_eq_true, List.any_eq_true]
  constructor
  · rintro ⟨f, hf, h1, _, w, ew, hw⟩
    obtain ⟨r, hr, rfl⟩ := List.mem_map.mp hf
    refine ⟨h1, decide_eq_true (List.ne_nil_of_mem hr), r, hr, ?_⟩
    have ew : winF B r.1 n = some w := ew
    unfold metAt
    rw [ew]
    unfold metB
    exact hw
  · rintro ⟨h1, _, r, hr, h⟩
    unfold metAt at h
    cases ew : winF B r.1 n with
    | none => rw [ew] at h; cases h
    | some w =>
      rw [ew] at h
      unfold metB at h
      refine ⟨fltO r, List.mem_map.mpr ⟨r, hr, rfl⟩, h1, fun ⟨l, el, hl⟩ => ?_, w, ew, h⟩
      have := ho r hr l el
      have hl : l < r.2.1 := hl
      omega
def MustN (rows : List Row5) (B : Bat3) (n : Int) : Prop := rows ≠ [] ∧ MustR B rows n
theorem must_hit {B : Bat3} {rows : List Row5} {n : Int} : MustN rows B n ↔ (0 ≤ n ∧ n < B.tins) ∧ hitR B rows true n = true := by
  unfold hitR MustN MustR
  rw [if_pos rfl, Bool.and_eq_true, List.all_eq_true]
  constructor
  · rintro ⟨h0, h1, h2⟩
    refine ⟨h1, decide_eq_true h0, fun r hr => ?_⟩
    obtain ⟨w, ew, a, b⟩ := h2 r hr
    unfold metAt
    rw [ew]
    show (decide (w.1 ≤ r.2.2.2.2) && decide (r.2.2.2.1 ≤ w.2)) = true
    rw [decide_eq_true a, decide_eq_true b]
    rfl
  · rintro ⟨h1, h0, h2⟩
    refine ⟨of_decide_eq_true h0, h1, fun r hr => ?_⟩
    have h := h2 r hr
    unfold metAt at h
    cases ew : winF B r.1 n with
    | none => rw [ew] at h; cases h
    | some w =>
      rw [ew] at h
      have h : (decide (w.1 ≤ r.2.2.2.2) && decide (r.2.2.2.1 ≤ w.2)) = true := h
      rw [Bool.and_eq_true] at h
      exact ⟨w, rfl, of_decide_eq_true h.2, of_decide_eq_true h.1⟩
theorem canon_no {pr : Int → Prop} (h : ∀ n, ¬ pr n) : canon pr = [] := (Told.canon (pr := pr) (rs := []) ⟨⟨0, True.intro⟩, fun n => ⟨fun z => absurd z inS_nil, fun z => absurd z (h n)⟩⟩).symm
theorem can_rows (bs : List Bat3) (ts : List Tst) (ps : List Str) : canF bs ts ps = rowsP (fun B => ReachA B ((suspF bs ts ps).map fltO)) bs := rfl
theorem must_rows (bs : List Bat3) (ts : List Tst) (ps : List Str) : mustF bs ts ps = rowsP (MustN (suspF bs ts ps)) bs := by
  unfold mustF rowsP
  generalize suspF bs ts ps = rows
  by_cases c : rows = []
  · subst c
    have e : ([] : List Row5).isEmpty = true := rfl
    rw [if_pos e]
    have : ∀ bs : List Bat3, bs.filterMap (fun B => mrowO B.mark (MustN [] B)) = [] := fun bs => by
      induction bs with
      | nil => rfl
      | cons B r ih =>
        rw [List.filterMap_cons]
        unfold mrowO
        rw [if_pos (canon_no fun n h => h.1 rfl)]
        exact ih
    exact (this bs).symm
  · rw [if_neg (by cases rows with | nil => exact absurd rfl c | cons x y => exact fun z => nomatch z)]
    exact fm_congr fun B _ => mrowO_cong fun n => ⟨fun h => ⟨c, h⟩, fun h => h.2⟩
theorem must_len {bs : List Bat3} {rows : List Row5} (h : rows ≠ [] → ∀ B ∈ bs, (canon (MustR B rows)).length ≤ 8001) (B : Bat3) (hB : B ∈ bs) : (canon (MustN rows B)).length ≤ 8001 := by
  by_cases c : rows = []
  · rw [canon_no fun n z => z.1 c]
    exact Nat.zero_le _
  · rw [canon_cong (pr' := MustR B rows) fun n => ⟨fun z => z.2, fun z => ⟨c, z⟩⟩]
    exact h c B hB
theorem susp_sm4 (rs : List Row5) (hl : rs.length ≤ 900) : Sm 4 (.list (rs.map row5D)) := by
  refine ⟨by rw [List.length_map]; exact hl, fun d hd => ?_⟩
  obtain ⟨⟨p, f, l, la, ea⟩, _, rfl⟩ := List.mem_map.mp hd
  refine ⟨by show 5 ≤ 900; decide, fun d hd => ?_⟩
  simp only [List.mem_cons, List.not_mem_nil, or_false] at hd
  rcases hd with rfl | rfl | rfl | rfl | rfl
  · trivial
  · trivial
  · cases l <;> trivial
  · trivial
  · trivial

abbrev sSame : Stmt := topS 37
theorem scSame : FnScope ["_law_found", "_law_due_here", "_law_one", "_law_two"] ["_law_found", "_law_due_here"] (defScope sSame) := ⟨rfl, rfl, rfl, by decide +kernel, rfl, by decide +kernel, by decide +kernel⟩
/-- alike: the same data twice -/
def spSame (n : Nat) : Sp := fun vs H Q _ => ∃ (v u : V) (d : PyData), vs = [v, u] ∧ Dat H v d ∧ Dat H u d ∧ Sm n d ∧ ∀ H', Same H H' → Q (.bl true) H'
theorem kit2 {K : PySem.W.Frag} {t a b : String} (h1 : kitB t a = some false) (h2 : kitB t b = some false) : PySem.W.kitAny K (.type t) [.type a, .type b] = some false :=
  kitAny_cons (kit_ty h1) (fun _ => kitAny_cons (kit_ty h2) (fun _ => kitAny_nil) (fun z => nomatch z)) (fun z => nomatch z)
theorem kit2L {K : PySem.W.Frag} : PySem.W.kitAny K (.type "list") [.type "list", .type "tuple"] = some true :=
  kitAny_cons (b := true) (kit_ty (by decide +kernel)) (fun z => nomatch z) (fun _ => rfl)
theorem kit2T {K : PySem.W.Frag} : PySem.W.kitAny K (.type "tuple") [.type "list", .type "tuple"] = some true :=
  kitAny_cons (b := false) (kit_ty (by decide +kernel)) (fun _ => kitAny_cons (b := true) (kit_ty (by decide +kernel)) (fun z => nomatch z) (fun _ => rfl)) (fun z => nomatch z)
abbrev SameGoal (K : PySem.W.Frag) (mg : Str → Option Value) (P : Program) (w : World) (base : Heap) (f : Addr) (cdv : Value) (A : Around) (outer : List Env) (s : Shared) (H : Hp) (E : XK) (v u : V) (Q : VK) : Prop :=
  ∃ t, PSs (cxOf CX0 P w K mg base ["_law_found", "_law_due_here", "_law_one", "_law_two"] "_law_same" (defScope sSame) f cdv A outer s H E).nox (defBody sSame) t ∧ t { nx := fun _ H' => Q .non H', rt := Q } (start ["_law_found", "_law_due_here", "_law_one", "_law_two"] [v, u]) H
theorem all_true (n : Nat) : (List.replicate n true).all id = true := by
  rw [List.all_eq_true]
  intro b hb
  exact (List.mem_replicate.mp hb).2
section
variable {K : PySem.W.Frag} {mg : Str → Option Value} {P : Program} {w : World} {base : Heap}
/-- of no list, no tuple -/
theorem same_flat {f : Addr} (mi : mg "isinstance" = none) (ml : mg "list" = none) (mt : mg "tuple" = none) (mb : mg "bool" = none) (ms : mg "str" = none) (mn : mg "int" = none) {cdv : Value} {A : Around} {outer : List Env} {s : Shared} {H : Hp} {v u : V} {d : PyData} {Q : VK} {E : XK}
    (h1 : Dat H v d) (h2 : Dat H u d) (hd : Flat d) (q : ∀ H', Same H H' → Q (.bl true) H') : SameGoal K mg P w base f cdv A outer s H E v u Q := by
  refine ⟨_, pss_cons (ps_if (pt_val (pe_callB call_isiT (by rfl) mi (by decide +kernel) (pa_cons (pv 1) (pa_cons (pe_tup (pa_cons (pe_bltn (v := .ty "list") (by rfl) ml (by decide +kernel) rfl) (pa_cons (pe_bltn (v := .ty "tuple") (by rfl) mt (by decide +kernel) rfl) pa_nil))) pa_nil)))) pss_never pss_nil)
      (pss_cons (ps_if (PW.pt (pw_or (pt_cmpR op_isN (pv 1) pe_non (nomark _)) (pw_or1 (pt_val (pe_callB call_isi (by rfl) mi (by decide +kernel) (pa_cons (pv 1) (pa_cons (pe_bltn (v := .ty "str") (by rfl) ms (by decide +kernel) rfl) pa_nil))))))) (pss_one (ps_ret (pe_and (pe_cmpR op_eq (pe_callB call_isi (by rfl) mi (by decide +kernel) (pa_cons (pv 0) (pa_cons (pe_bltn (v := .ty "str") (by rfl) ms (by decide +kernel) rfl) pa_nil))) (pe_callB call_isi (by rfl) mi (by decide +kernel) (pa_cons (pv 1) (pa_cons (pe_bltn (v := .ty "str") (by rfl) ms (by decide +kernel) rfl) pa_nil))) (nomark _)) (pe_one (pe_cmpR op_eq (pv 0) (pv 1) (nomark _))))))
        pss_nil)
      (pss_one (ps_ret (pe_and (pe_callB call_isi (by rfl) mi (by decide +kernel) (pa_cons (pv 0) (pa_cons (pe_bltn (v := .ty "int") (by rfl) mn (by decide +kernel) rfl) pa_nil))) (pe_and (pe_cmpR op_eq (pe_callB call_isi (by rfl) mi (by decide +kernel) (pa_cons (pv 0) (pa_cons (pe_bltn (v := .ty "bool") (by rfl) mb (by decide +kernel) rfl) pa_nil))) (pe_callB call_isi (by rfl) mi (by decide +kernel) (pa_cons (pv 1) (pa_cons (pe_bltn (v := .ty "bool") (by rfl) mb (by decide +kernel) rfl) pa_nil))) (nomark _)) (pe_one (pe_cmpR op_eq (pv 0) (pv 1) (nomark _)))))))), ?_⟩
  have deq : ∀ x : V, (decide (x = x)) = true := fun x => decide_eq_true rfl
  rcases hd with rfl | ⟨b, rfl⟩ | ⟨i, rfl⟩ | ⟨x, rfl⟩
  · cases h1
    cases h2
    refine ⟨_, rfl, (by show 2 ≤ sizeLine; decide), fun p np => ?_⟩
    have s1 : Same H (upd H p (.tup [.ty "list", .ty "tuple"])) := same_upd np
    refine ⟨.non, p, _, .type "NoneType", [.type "list", .type "tuple"], false, rfl, upd_same, .cons (.ty _) (.cons (.ty _) .nil), .base .non, kit2 (by decide +kernel) (by decide +kernel), _, rfl, iteF ?_⟩
    refine ⟨_, rfl, rfl, _, rfl, iteT (iteT ?_)⟩
    refine ⟨_, rfl, _, _, .type "NoneType", .type "str", false, rfl, .ty _, .base .non, kit_ty (by decide +kernel), _, rfl, _, _, .type "NoneType", .type "str", false, rfl, .ty _, .base .non, kit_ty (by decide +kernel), rfl, true, congrArg V.bl (by rw [deq]), iteT ?_⟩
    refine ⟨_, rfl, _, rfl, rfl, ?_⟩
    rw [deq]
    exact q _ s1
  · cases h1
    cases h2
    refine ⟨_, rfl, (by show 2 ≤ sizeLine; decide), fun p np => ?_⟩
    have s1 : Same H (upd H p (.tup [.ty "list", .ty "tuple"])) := same_upd np
    refine ⟨.bl b, p, _, .type "bool", [.type "list", .type "tuple"], false, rfl, upd_same, .cons (.ty _) (.cons (.ty _) .nil), .base (.bl b), kit2 (by decide +kernel) (by decide +kernel), _, rfl, iteF ?_⟩
    refine ⟨_, rfl, rfl, _, rfl, iteF ?_⟩
    refine ⟨_, rfl, _, _, .type "bool", .type "str", false, rfl, .ty _, .base (.bl b), kit_ty (by decide +kernel), _, rfl, iteF ?_⟩
    refine ⟨_, rfl, _, _, .type "bool", .type "int", true, rfl, .ty _, .base (.bl b), kit_ty (by decide +kernel), _, rfl, iteT ?_⟩
    refine ⟨_, rfl, _, _, .type "bool", .type "bool", true, rfl, .ty _, .base (.bl b), kit_ty (by decide +kernel), _, rfl, _, _, .type "bool", .type "bool", true, rfl, .ty _, .base (.bl b), kit_ty (by decide +kernel), rfl, true, congrArg V.bl (by rw [deq]), iteT ?_⟩
    refine ⟨_, rfl, _, rfl, rfl, ?_⟩
    rw [deq]
    exact q _ s1
  · cases h1
    cases h2
    refine ⟨_, rfl, (by show 2 ≤ sizeLine; decide), fun p np => ?_⟩
    have s1 : Same H (upd H p (.tup [.ty "list", .ty "tuple"])) := same_upd np
    refine ⟨.int i, p, _, .type "int", [.type "list", .type "tuple"], false, rfl, upd_same, .cons (.ty _) (.cons (.ty _) .nil), .base (.int i), kit2 (by decide +kernel) (by decide +kernel), _, rfl, iteF ?_⟩
    refine ⟨_, rfl, rfl, _, rfl, iteF ?_⟩
    refine ⟨_, rfl, _, _, .type "int", .type "str", false, rfl, .ty _, .base (.int i), kit_ty (by decide +kernel), _, rfl, iteF ?_⟩
    refine ⟨_, rfl, _, _, .type "int", .type "int", true, rfl, .ty _, .base (.int i), kit_ty (by decide +kernel), _, rfl, iteT ?_⟩
    refine ⟨_, rfl, _, _, .type "int", .type "bool", false, rfl, .ty _, .base (.int i), kit_ty (by decide +kernel), _, rfl, _, _, .type "int", .type "bool", false, rfl, .ty _, .base (.int i), kit_ty (by decide +kernel), rfl, true, congrArg V.bl (by rw [deq]), iteT ?_⟩
    refine ⟨_, rfl, _, rfl, rfl, ?_⟩
    rw [deq]
    exact q _ s1
  · cases h1
    cases h2
    refine ⟨_, rfl, (by show 2 ≤ sizeLine; decide), fun p np => ?_⟩
    have s1 : Same H (upd H p (.tup [.ty "list", .ty "tuple"])) := same_upd np
    refine ⟨.str x, p, _, .type "str", [.type "list", .type "tuple"], false, rfl, upd_same, .cons (.ty _) (.cons (.ty _) .nil), .base (.str x), kit2 (by decide +kernel) (by decide +kernel), _, rfl, iteF ?_⟩
    refine ⟨_, rfl, rfl, _, rfl, iteF ?_⟩
    refine ⟨_, rfl, _, _, .type "str", .type "str", true, rfl, .ty _, .base (.str x), kit_ty (by decide +kernel), _, rfl, iteT ?_⟩
    refine ⟨_, rfl, _, _, .type "str", .type "str", true, rfl, .ty _, .base (.str x), kit_ty (by decide +kernel), _, rfl, _, _, .type "str", .type "str", true, rfl, .ty _, .base (.str x), kit_ty (by decide +kernel), rfl, true, congrArg V.bl (by rw [deq]), iteT ?_⟩
    refine ⟨_, rfl, _, rfl, rfl, ?_⟩
    rw [deq]
    exact q _ s1
theorem ok_same0 {f : Addr} {fd : FuncData} {k : Nat} (F : Fun K "_law_same" "_law_same" sSame f fd) (mi : mg "isinstance" = none) (ml : mg "list" = none) (mt : mg "tuple" = none) (mb : mg "bool" = none) (ms : mg "str" = none) (mn : mg "int" = none) :
    FnOk P w K mg base CX0 (k + 1) f fd ["_law_found", "_law_due_here"] (spSame 0) := by
  refine F.ok scSame (fun vs H Q E h => ?_) (fun cdv A outer s H vs Q E hr h => ?_)
  · obtain ⟨v, u, d, rfl, _⟩ := h
    rfl
  · obtain ⟨v, u, d, rfl, h1, h2, hd, q⟩ := h
    exact same_flat mi ml mt mb ms mn h1 h2 hd.flat q
theorem ok_sameS {f : Addr} {fd : FuncData} {n k : Nat} (F : Fun K "_law_same" "_law_same" sSame f fd) (C : Cal P w K mg base k "_law_same" ["_law_found", "_law_due_here"] (spSame n)) (mi : mg "isinstance" = none) (ml : mg "list" = none) (mt : mg "tuple" = none) (mb : mg "bool" = none) (ms : mg "str" = none) (mn : mg "int" = none) (me : mg "len" = none) (ma : mg "all" = none) (mz : mg "zip" = none) :
    FnOk P w K mg base CX0 (k + 1) f fd ["_law_found", "_law_due_here"] (spSame (n + 1)) := by
  refine F.ok scSame (fun vs H Q E h => ?_) (fun cdv A outer s H vs Q E hr h => ?_)
  · obtain ⟨v, u, d, rfl, _⟩ := h
    rfl
  · obtain ⟨v, u, d, rfl, h1, h2, hd, q⟩ := h
    rcases hd.cases with hf | ⟨ds, rfl, hl, hall⟩ | ⟨ds, rfl, hl, hall⟩
    · exact same_flat mi ml mt mb ms mn h1 h2 hf q
    · refine ⟨_, pss_cons (ps_if (pt_val (pe_callB call_isiT (by rfl) mi (by decide +kernel) (pa_cons (pv 1) (pa_cons (pe_tup (pa_cons (pe_bltn (v := .ty "list") (by rfl) ml (by decide +kernel) rfl) (pa_cons (pe_bltn (v := .ty "tuple") (by rfl) mt (by decide +kernel) rfl) pa_nil))) pa_nil)))) (pss_cons (ps_if (PW.pt (pw_or (pt_cmpR op_ne (pe_callB call_isi (by rfl) mi (by decide +kernel) (pa_cons (pv 0) (pa_cons (pe_bltn (v := .ty "list") (by rfl) ml (by decide +kernel) rfl) pa_nil))) (pe_callB call_isi (by rfl) mi (by decide +kernel) (pa_cons (pv 1) (pa_cons (pe_bltn (v := .ty "list") (by rfl) ml (by decide +kernel) rfl) pa_nil))) (nomark _)) (pw_or1 (pt_cmpR op_ne (pe_callB call_isi (by rfl) mi (by decide +kernel) (pa_cons (pv 0) (pa_cons (pe_bltn (v := .ty "tuple") (by rfl) mt (by decide +kernel) rfl) pa_nil))) (pe_callB call_isi (by rfl) mi (by decide +kernel) (pa_cons (pv 1) (pa_cons (pe_bltn (v := .ty "tuple") (by rfl) mt (by decide +kernel) rfl) pa_nil))) (nomark _))))) (pss_one (ps_ret pe_bl))
          pss_nil)
        (pss_one (ps_ret (pe_and (pe_cmpR op_eq (pe_callB call_len_seq (by rfl) me PySem.boot_len (pa_cons (pv 0) pa_nil)) (pe_callB call_len_seq (by rfl) me PySem.boot_len (pa_cons (pv 1) pa_nil)) (nomark _)) (pe_one (pe_callB (cr_all rfl) (by rfl) ma (by decide +kernel) (pa_cons (pe_lc (own := [("_law_one", 2), ("_law_two", 3)]) (g := (gTup K 2 (gCons (gName 2) (gCons (gName 3) gNil)))) (tt := tYes) (te := (tCall (spSame n) [] E0 (tCons (tVar 2) (tCons (tVar 3) tNil)))) rfl scSame.nd (RZ.pi_zipA (by rfl) mz (pa_cons (pv 0) (pa_cons (pv 1) pa_nil))) (blkOk_by (own := [("_law_one", 2), ("_law_two", 3)]) (N := ["_law_found", "_law_due_here", "_law_one", "_law_two"]) (sc := defScope sSame) (by decide +kernel)) (fun _ _ _ _ _ => (pg_tup rfl (pgs_cons (pg_name (i := 2) scSame.nd rfl (.inl rfl)) (pgs_cons (pg_name (i := 3) scSame.nd rfl (.inl rfl)) pgs_nil)))) (fun _ _ _ _ _ => pts_nil) (fun _ _ _ _ _ => (pe_own C hr (by rfl) (pa_cons (pv 2) (pa_cons (pv 3) pa_nil))))) pa_nil))))))) pss_nil) pss_never, ?_⟩
      cases h1 with | lst ea la da => ?_
      cases h2 with | lst eb lb db => ?_
      rename_i a xs b ys
      refine ⟨_, rfl, (by show 2 ≤ sizeLine; decide), fun p np => ?_⟩
      have s1 : Same H (upd H p (.tup [.ty "list", .ty "tuple"])) := same_upd np
      have ea1 := s1 _ _ ea
      have eb1 := s1 _ _ eb
      have ep1 : upd H p (.tup [.ty "list", .ty "tuple"]) p = some (.tup [.ty "list", .ty "tuple"]) := upd_same
      revert s1 ea1 eb1 ep1
      generalize upd H p (.tup [.ty "list", .ty "tuple"]) = H1
      intro s1 ea1 eb1 ep1
      have deq : ∀ x : V, (decide (x = x)) = true := fun x => decide_eq_true rfl
      refine ⟨.ref b, p, _, .type "list", [.type "list", .type "tuple"], true, rfl, ep1, .cons (.ty _) (.cons (.ty _) .nil), .base (.lst eb1), kit2L, _, rfl, iteT ?_⟩
      refine ⟨_, rfl, _, _, .type "list", .type "list", true, rfl, .ty _, .base (.lst ea1), kit_ty (by decide +kernel), _, rfl, _, _, .type "list", .type "list", true, rfl, .ty _, .base (.lst eb1), kit_ty (by decide +kernel), rfl, false, congrArg V.bl (by rw [deq]; rfl), iteF ?_⟩
      refine ⟨_, rfl, _, _, .type "list", .type "tuple", false, rfl, .ty _, .base (.lst ea1), kit_ty (by decide +kernel), _, rfl, _, _, .type "list", .type "tuple", false, rfl, .ty _, .base (.lst eb1), kit_ty (by decide +kernel), rfl, false, congrArg V.bl (by rw [deq]; rfl), iteF ?_⟩
      have s2 := s1
      have ea2 := ea1
      have eb2 := eb1
      refine ⟨_, rfl, a, xs, rfl, Sq.list ea2, _, rfl, b, ys, rfl, Sq.list eb2, rfl, true, congrArg V.bl (decide_eq_true (by rw [la, lb])), iteT ?_⟩
      refine ⟨_, rfl, _, rfl, a, b, xs, ys, rfl, .inl ⟨SqL.of ea2, SqL.of eb2, fun D nD => lc_it (walk_zip (K := K) (a := a) (b := b) (xs := xs) (ys := ys) (n := ds.length) (by rw [la, lb, Nat.min_self])) (fun j H' => Same H1 H' ∧ H' D = some (.lst ((List.replicate j true).map V.bl))) ⟨same_upd nD, upd_same⟩
        (fun j H' _ hP => ⟨SqL.of (hP.1 _ _ ea2), SqL.of (hP.1 _ _ eb2)⟩) (fun j x H' H'' hj hP hy => ?_) (fun H3 hP => ?_)⟩⟩
      · obtain ⟨sm', eD⟩ := hP
        obtain ⟨T, x1, x2, rfl, nT, rfl, f1, f2⟩ := hy
        have st := same_upd (o := .tup [x1, x2]) nT
        have hdj : ds[j]? = some ds[j] := List.getElem?_eq_getElem hj
        have S := (s2.trans sm').trans st
        refine ⟨T, _, rfl, .inl (.inl upd_same), rfl, _, _, rfl, _, _, rfl, rfl, rfl, ?_⟩
        refine ⟨_, rfl, _, rfl, x1, x2, ds[j], rfl, (da j x1 _ f1 hdj).same S, (db j x2 _ f2 hdj).same S, hall _ (List.getElem_mem hj), fun H4 s4 => ?_⟩
        refine ⟨_, s4 _ _ (st _ _ eD), small1000 (by rw [List.length_map, List.length_replicate]; omega), fun c o e => ?_, ?_⟩
        · rw [upd_ne (ne_of_none e nD)]
          exact s4 _ _ (st _ _ (sm' c o e))
        · rw [upd_same, List.replicate_succ', List.map_append]
          rfl
      · obtain ⟨sm', eD⟩ := hP
        refine ⟨D, List.replicate ds.length true, rfl, SqL.of eD, ?_⟩
        rw [all_true]
        exact q _ (s2.trans sm')
    · refine ⟨_, pss_cons (ps_if (pt_val (pe_callB call_isiT (by rfl) mi (by decide +kernel) (pa_cons (pv 1) (pa_cons (pe_tup (pa_cons (pe_bltn (v := .ty "list") (by rfl) ml (by decide +kernel) rfl) (pa_cons (pe_bltn (v := .ty "tuple") (by rfl) mt (by decide +kernel) rfl) pa_nil))) pa_nil)))) (pss_cons (ps_if (PW.pt (pw_or (pt_cmpR op_ne (pe_callB call_isi (by rfl) mi (by decide +kernel) (pa_cons (pv 0) (pa_cons (pe_bltn (v := .ty "list") (by rfl) ml (by decide +kernel) rfl) pa_nil))) (pe_callB call_isi (by rfl) mi (by decide +kernel) (pa_cons (pv 1) (pa_cons (pe_bltn (v := .ty "list") (by rfl) ml (by decide +kernel) rfl) pa_nil))) (nomark _)) (pw_or1 (pt_cmpR op_ne (pe_callB call_isi (by rfl) mi (by decide +kernel) (pa_cons (pv 0) (pa_cons (pe_bltn (v := .ty "tuple") (by rfl) mt (by decide +kernel) rfl) pa_nil))) (pe_callB call_isi (by rfl) mi (by decide +kernel) (pa_cons (pv 1) (pa_cons (pe_bltn (v := .ty "tuple") (by rfl) mt (by decide +kernel) rfl) pa_nil))) (nomark _))))) (pss_one (ps_ret pe_bl))
          pss_nil)
        (pss_one (ps_ret (pe_and (pe_cmpR op_eq (pe_callB call_len_seq (by rfl) me PySem.boot_len (pa_cons (pv 0) pa_nil)) (pe_callB call_len_seq (by rfl) me PySem.boot_len (pa_cons (pv 1) pa_nil)) (nomark _)) (pe_one (pe_callB (cr_all rfl) (by rfl) ma (by decide +kernel) (pa_cons (pe_lc (own := [("_law_one", 2), ("_law_two", 3)]) (g := (gTup K 2 (gCons (gName 2) (gCons (gName 3) gNil)))) (tt := tYes) (te := (tCall (spSame n) [] E0 (tCons (tVar 2) (tCons (tVar 3) tNil)))) rfl scSame.nd (RZ.pi_zipA (by rfl) mz (pa_cons (pv 0) (pa_cons (pv 1) pa_nil))) (blkOk_by (own := [("_law_one", 2), ("_law_two", 3)]) (N := ["_law_found", "_law_due_here", "_law_one", "_law_two"]) (sc := defScope sSame) (by decide +kernel)) (fun _ _ _ _ _ => (pg_tup rfl (pgs_cons (pg_name (i := 2) scSame.nd rfl (.inl rfl)) (pgs_cons (pg_name (i := 3) scSame.nd rfl (.inl rfl)) pgs_nil)))) (fun _ _ _ _ _ => pts_nil) (fun _ _ _ _ _ => (pe_own C hr (by rfl) (pa_cons (pv 2) (pa_cons (pv 3) pa_nil))))) pa_nil))))))) pss_nil) pss_never, ?_⟩
      cases h1 with | tup ea la da => ?_
      cases h2 with | tup eb lb db => ?_
      rename_i a xs b ys
      refine ⟨_, rfl, (by show 2 ≤ sizeLine; decide), fun p np => ?_⟩
      have s1 : Same H (upd H p (.tup [.ty "list", .ty "tuple"])) := same_upd np
      have ea1 := s1 _ _ ea
      have eb1 := s1 _ _ eb
      have ep1 : upd H p (.tup [.ty "list", .ty "tuple"]) p = some (.tup [.ty "list", .ty "tuple"]) := upd_same
      revert s1 ea1 eb1 ep1
      generalize upd H p (.tup [.ty "list", .ty "tuple"]) = H1
      intro s1 ea1 eb1 ep1
      have deq : ∀ x : V, (decide (x = x)) = true := fun x => decide_eq_true rfl
      refine ⟨.ref b, p, _, .type "tuple", [.type "list", .type "tuple"], true, rfl, ep1, .cons (.ty _) (.cons (.ty _) .nil), .base (.tup eb1), kit2T, _, rfl, iteT ?_⟩
      refine ⟨_, rfl, _, _, .type "tuple", .type "list", false, rfl, .ty _, .base (.tup ea1), kit_ty (by decide +kernel), _, rfl, _, _, .type "tuple", .type "list", false, rfl, .ty _, .base (.tup eb1), kit_ty (by decide +kernel), rfl, false, congrArg V.bl (by rw [deq]; rfl), iteF ?_⟩
      refine ⟨_, rfl, _, _, .type "tuple", .type "tuple", true, rfl, .ty _, .base (.tup ea1), kit_ty (by decide +kernel), _, rfl, _, _, .type "tuple", .type "tuple", true, rfl, .ty _, .base (.tup eb1), kit_ty (by decide +kernel), rfl, false, congrArg V.bl (by rw [deq]; rfl), iteF ?_⟩
      have s2 := s1
      have ea2 := ea1
      have eb2 := eb1
      refine ⟨_, rfl, a, xs, rfl, Sq.tup ea2, _, rfl, b, ys, rfl, Sq.tup eb2, rfl, true, congrArg V.bl (decide_eq_true (by rw [la, lb])), iteT ?_⟩
      refine ⟨_, rfl, _, rfl, a, b, xs, ys, rfl, .inr ⟨.inl (.inl ea2), .inl (.inl eb2), fun D nD => lc_it (walk_zipTs (K := K) (a := a) (b := b) (xs := xs) (ys := ys) (n := ds.length) la lb) (fun j H' => Same H1 H' ∧ H' D = some (.lst ((List.replicate j true).map V.bl))) ⟨same_upd nD, upd_same⟩
        (fun j H' _ hP => ⟨.inl (.inl (hP.1 _ _ ea2)), .inl (.inl (hP.1 _ _ eb2))⟩) (fun j x H' H'' hj hP hy => ?_) (fun H3 hP => ?_)⟩⟩
      · obtain ⟨sm', eD⟩ := hP
        obtain ⟨T, x1, x2, rfl, nT, rfl, f1, f2⟩ := hy
        have st := same_upd (o := .tup [x1, x2]) nT
        have hdj : ds[j]? = some ds[j] := List.getElem?_eq_getElem hj
        have S := (s2.trans sm').trans st
        refine ⟨T, _, rfl, .inl (.inl upd_same), rfl, _, _, rfl, _, _, rfl, rfl, rfl, ?_⟩
        refine ⟨_, rfl, _, rfl, x1, x2, ds[j], rfl, (da j x1 _ f1 hdj).same S, (db j x2 _ f2 hdj).same S, hall _ (List.getElem_mem hj), fun H4 s4 => ?_⟩
        refine ⟨_, s4 _ _ (st _ _ eD), small1000 (by rw [List.length_map, List.length_replicate]; omega), fun c o e => ?_, ?_⟩
        · rw [upd_ne (ne_of_none e nD)]
          exact s4 _ _ (st _ _ (sm' c o e))
        · rw [upd_same, List.replicate_succ', List.map_append]
          rfl
      · obtain ⟨sm', eD⟩ := hP
        refine ⟨D, List.replicate ds.length true, rfl, SqL.of eD, ?_⟩
        rw [all_true]
        exact q _ (s2.trans sm')
end

/-! ### the law -/
abbrev sInRacks9 : Stmt := topS 12
def spLaw3 (K : PySem.W.Frag) (Ms : GX.Mq) (Xs : List Addr) (Pf : Addr) : Sp := fun vs H Q _ => ∃ (a : Addr) (ns : List Int), vs = [.ref a] ∧ SqL K H a (ns.map V.int) ∧ ns.length ≤ 63 ∧ GX.TQ Ms Xs H ∧ Pf ∈ Ms ∧ ∀ H', Q (.bl true) H'
abbrev sLaw : Stmt := topS 46
theorem scLaw : FnScope ["_law_script", "_law_cells_here", "_law_k", "_law_box_here", "_law_places_here", "_law_batches", "_law_tests", "_law_due_here"] ["_law_script"] (defScope sLaw) := ⟨rfl, rfl, rfl, by decide +kernel, rfl, by decide +kernel, by decide +kernel⟩
section
variable {K : PySem.W.Frag} {mg : Str → Option Value} {P : Program} {w : World} {base : Heap}
theorem ok_Law {f : Addr} {fd : FuncData} (F : Fun K "law" "law" sLaw f fd) (C__law_cells : Cal P w K mg base 1 "_law_cells" ["_law_script", "_law_many"] (spCells K)) (C__law_box : Cal P w K mg base 1 "_law_box" ["_law_script", "_law_k"] spBox) (C__law_names : Cal P w K mg base 2 "_law_names" ["_law_box_here", "_law_many"] spNames3) (C__law_take : Cal P w K mg base 1 "_law_take" ["_law_box_here", "_law_many"] spTakeB) (C__law_great : Cal P w K mg base 3 "_law_great" ["_law_box_here", "_law_places_here"] spGreat3) (C__law_by_windows : Cal P w K mg base 3 "_law_by_windows" ["_law_box_here", "_law_batches", "_law_places_here"] (spByWin K)) (C__law_due : Cal P w K mg base 3 "_law_due" ["_law_batches", "_law_tests"] spDue3) (C__law_same : Cal P w K mg base 5 "_law_same" ["_law_found", "_law_due_here"] (spSame 4)) (C_suspects : Cal P w K mg base 7 "suspects" ["batches", "tests"] (spSusp K Ms Xs Pf)) (C__law_told_right : Cal P w K mg base 3 "_law_told_right" ["_law_box_here", "_law_batches", "_law_due_here", "_law_told", "_law_each"] (spToldR K)) (C_can_reach : Cal P w K mg base 8 "can_reach" ["batches", "tests"] (spCan K Ms Xs Pf)) (C_must_reach : Cal P w K mg base 8 "must_reach" ["batches", "tests"] (spMust K Ms Xs Pf)) (m_len : mg "len" = none) (m_range : mg "range" = none) : FnOk P w K mg base CX0 9 f fd ["_law_script"] (spLaw3 K Ms Xs Pf) := by
  refine F.ok scLaw (fun vs H Q E h => ?_) (fun cdv A outer s H vs Q E hr h => ?_)
  · obtain ⟨a, ns, rfl, _⟩ := h
    rfl
  · obtain ⟨a, ns, rfl, hS, hl, hT, hM, q⟩ := h
    refine ⟨_, pss_cons (ps_set (i := 1) scLaw.nd rfl (.inl rfl) (pe_own C__law_cells (hr.mono (show 1 ≤ 8 by decide)) (by rfl) (pa_cons (pv 0) (pa_cons pe_int pa_nil))))
      (pss_cons (ps_for PassesOwn.never rfl (pi_range1 rfl m_range (pa_cons (pe_callB call_len_seq (by rfl) m_len PySem.boot_len (pa_cons (pv 1) pa_nil)) pa_nil)) (pg_name (i := 2) scLaw.nd rfl (.inl rfl))
        (pss_cons (ps_set (i := 3) scLaw.nd rfl (.inl rfl) (pe_own C__law_box (hr.mono (show 1 ≤ 8 by decide)) (by rfl) (pa_cons (pv 1) (pa_cons (pv 2) pa_nil))))
        (pss_cons (ps_set (i := 4) scLaw.nd rfl (.inl rfl) (pe_own C__law_names (hr.mono (show 2 ≤ 8 by decide)) (by rfl) (pa_cons (pv 3) (pa_cons (pe_op op_add pe_int (pe_own C__law_take (hr.mono (show 1 ≤ 8 by decide)) (by rfl) (pa_cons (pv 3) (pa_cons pe_int pa_nil)))) pa_nil))))
        (pss_cons (ps_set (i := 5) scLaw.nd rfl (.inl rfl) (pe_own C__law_great (hr.mono (show 3 ≤ 8 by decide)) (by rfl) (pa_cons (pv 3) (pa_cons (pv 4) pa_nil))))
        (pss_cons (ps_set (i := 6) scLaw.nd rfl (.inl rfl) (pe_own C__law_by_windows (hr.mono (show 3 ≤ 8 by decide)) (by rfl) (pa_cons (pv 3) (pa_cons (pv 5) (pa_cons (pv 4) pa_nil)))))
        (pss_cons (ps_set (i := 7) scLaw.nd rfl (.inl rfl) (pe_own C__law_due (hr.mono (show 3 ≤ 8 by decide)) (by rfl) (pa_cons (pv 5) (pa_cons (pv 6) pa_nil))))
        (pss_cons (ps_if (pt_not (pt_val (pe_own C__law_same (hr.mono (show 5 ≤ 8 by decide)) (by rfl) (pa_cons (pe_own C_suspects (hr.mono (show 7 ≤ 8 by decide)) (by rfl) (pa_cons (pv 5) (pa_cons (pv 6) pa_nil))) (pa_cons (pv 7) pa_nil))))) (pss_one (ps_ret pe_bl))
          pss_nil)
        (pss_cons (ps_if (pt_not (pt_val (pe_own C__law_told_right (hr.mono (show 3 ≤ 8 by decide)) (by rfl) (pa_cons (pv 3) (pa_cons (pv 5) (pa_cons (pv 7) (pa_cons (pe_own C_can_reach hr (by rfl) (pa_cons (pv 5) (pa_cons (pv 6) pa_nil))) (pa_cons pe_bl pa_nil)))))))) (pss_one (ps_ret pe_bl))
          pss_nil)
        (pss_one (ps_if (pt_not (pt_val (pe_own C__law_told_right (hr.mono (show 3 ≤ 8 by decide)) (by rfl) (pa_cons (pv 3) (pa_cons (pv 5) (pa_cons (pv 7) (pa_cons (pe_own C_must_reach hr (by rfl) (pa_cons (pv 5) (pa_cons (pv 6) pa_nil))) (pa_cons pe_bl pa_nil)))))))) (pss_one (ps_ret pe_bl))
          pss_nil))))))))))
      (pss_one (ps_ret pe_bl))), ?_⟩
    refine ⟨_, rfl, a, ns, 3, rfl, hS, hl, by decide, by decide, fun l cs H1 s1 nl el hcne hcl => ?_⟩
    refine ⟨_, rfl, l, _, rfl, .inl (SqL.of el), ((cs.map V.int).length : Int), rfl, by rw [List.length_map]; omega, by rw [List.length_map]; omega, for_range (n := (((cs.map V.int).length : Nat) : Int).toNat) (fun i σ Hx => ∃ (y2 y3 y4 y5 y6 y7 : Option V), σ = [some (.ref a), some (.ref l), y2, y3, y4, y5, y6, y7] ∧ Hx l = some (.lst (cs.map V.int)) ∧ GX.TQ Ms Xs Hx) ⟨_, _, _, _, _, _, rfl, el, hT.same s1⟩ (fun i σ Hx hi hP => ?_) (fun σ Hx hP => ?_)⟩
    · obtain ⟨y2, y3, y4, y5, y6, y7, rfl, elx, tx⟩ := hP
      have hi' : i < cs.length := by rw [List.length_map] at hi; omega
      refine ⟨_, rfl, _, rfl, l, cs, 0 + (i : Int), rfl, elx, by omega, by omega, fun b H2 s2 nb hS2 => ?_⟩
      have elb : l ≠ b := fun z => by rw [z] at elx; rw [elx] at nb; cases nb
      have el2 := s2 _ _ elx
      have t2q := tx.same s2
      -- the places
      refine ⟨_, rfl, _, rfl, b, 0, 3, rfl, hS2, by omega, by decide, by decide, fun r1 u1 H3 r10 r11 u10 u11 hS3 k3 => ?_⟩
      refine ⟨_, _, rfl, rfl, b, u1, 1 + r1, rfl, hS3, by omega, by omega, by omega, fun G nms u2 H4 nG eG hnm hnl u20 u21 hS4 k4 => ?_⟩
      have hnl3 : nms.length ≤ 3 := by omega
      have hnl1 : nms ≠ [] := fun z => by rw [z] at hnl; simp only [List.length_nil] at hnl; omega
      have hGb : G ≠ b := hS3.off nG
      have t4q := (t2q.kb hS2 k3).kb hS3 k4
      have el4 := k4 _ _ elb (k3 _ _ elb el2)
      -- the batches
      refine ⟨_, rfl, _, rfl, b, G, u2, nms, rfl, hS4, by omega, eG, hGb, by omega, hnm, fun v bs u3 H5 hv hg hnd hb1 hb4 u30 u31 hS5 k5 => ?_⟩
      obtain ⟨A, us, rfl, eA, hAn, hu⟩ := hv.list
      have hAb : A ≠ b := fun z => hAn (by rw [z]; simp)
      have t5q := t4q.kb hS4 k5
      have el5 := k5 _ _ elb el4
      have eG5 := k5 _ _ hGb eG
      -- the tests
      refine ⟨_, rfl, _, rfl, _, rfl, b, A, G, u3, us, bs, nms, rfl, hS5, by omega, eA, hAb, hu, hg, hb1, hb4, eG5, hGb, hnl1, by omega, fun L ys ts u4 H6 nL eL hy hto hbad htl u40 u41 hS6 k6 => ?_⟩
      have hLb : L ≠ b := hS5.off nL
      have t6q := t5q.kb hS5 k6
      have el6 := k6 _ _ elb el5
      have eA6 := k6 _ _ hAb eA
      have hu6 := hu.kb hS5 k6 (by simp)
      have hC := gr_case hg hnd hb4 (by omega) hto htl
      have h5 := gr_sm hg hb4 (by omega)
      have hall := fun p hp t ht => gr_all hg hC (p := p) hp t ht
      -- what is due
      refine ⟨_, rfl, _, rfl, A, L, us, ys, bs, ts, [b], rfl, eA6, hu6, eL, hy, hC, h5, hbad, by omega, hall, fun R ws ps H7 nR s7 eR hps hrw => ?_⟩
      have hfew := gr_few hg hnl3 htl hps
      have hrow := fun r (hr : r ∈ suspF bs ts ps) => gr_row hg hC hbad hr
      have hS7 := hS6.same s7
      have hRb : R ≠ b := hS6.off nR
      have hD7 := hrw.lst' eR
      -- the suspects
      have hG7 : Given [b] H7 (.ref A) (.ref L) bs ts := ⟨⟨A, us, _, rfl, .inl (s7 _ _ eA6), hu6.same s7, batsR bs⟩, L, ys, rfl, .inl (s7 _ _ eL), hy.same s7⟩
      refine ⟨_, rfl, _, rfl, .ref A, .ref L, bs, ts, [b], rfl, hG7, hC, hbad, t6q.same s7, hM, fun l1 zs1 ps1 H8 nl1 n8 t8 el1 hps1 hz1 => ?_⟩
      obtain rfl := hps.one hps1 fun _ => Iff.rfl
      refine ⟨_, rfl, _, _, _, rfl, dat_of (hz1.lst' el1), dat_of (hD7.noTab n8), susp_sm4 _ (by omega), fun H9 s9 => ⟨_, rfl, iteF ?_⟩⟩
      have n79 := n8.trans (NoTab.same s9)
      have t9 := t8.same s9
      have hS9 := hS7.noTab n79
      have hG9 := hG7.noTab n79
      -- what can be reached
      refine ⟨_, rfl, _, rfl, _, rfl, _, rfl, _, rfl, .ref A, .ref L, bs, ts, [b], rfl, hG9, hC, hbad, t9, hM, fun qs hqs => ?_, fun l2 zs2 ps2 H10 nl2 n10 t10 el2' hps2 hz2 hfew2 => ?_⟩
      · have e := hps.one hqs fun _ => Iff.rfl
        subst e
        exact ⟨by omega, fun r hr => (hrow r hr).1⟩
      obtain rfl := hps.one hps2 fun _ => Iff.rfl
      have n7a := n79.trans n10
      have hSa := hS9.noTab n10
      have eAa := n7a.lst (s7 _ _ eA6)
      have hua := (hu6.same s7).noTab n7a
      have eRa := n7a.lst eR
      have eLa := n7a.lst (s7 _ _ eL)
      have hya := (hy.same s7).noTab n7a
      have ela := n7a.lst (s7 _ _ el6)
      have hl2b : l2 ≠ b := hS9.off nl2
      have hda : ThgL [b] H10 ws ((suspF bs ts ps).map row5D) := by
        obtain ⟨n0, n1, eb, _⟩ := hSa.at_
        obtain ⟨x1, x2, x3, x4, _, x5⟩ := (rows5_cs eb (hD7.noTab n7a)).list
        cases x3
        rw [eRa] at x4
        cases x4
        exact x5
      have hra : ThgL [b] H10 zs2 ((canF bs ts ps).map mrowD) := by
        obtain ⟨n0, n1, eb, _⟩ := hSa.at_
        obtain ⟨x1, x2, x3, x4, _, x5⟩ := (mrows_cs eb (hz2.lst' el2')).list
        cases x3
        rw [el2'] at x4
        cases x4
        exact x5
      have hbk : ∀ B ∈ bs, BatOk B ∧ B.tins ≤ 10 ^ 40 ∧ PyData.strOk B.mark = true := fun B hB => ⟨(hg B hB).1, by have := (hg B hB).2.1; omega, by obtain ⟨x, e, _, ok⟩ := (hg B hB).1.1; rw [e]; exact strOk_S ok⟩
      have hwn : ∀ B ∈ bs, ∀ r ∈ suspF bs ts ps, ∀ n, 0 ≤ n → n < B.tins → ∃ w, winF B r.1 n = some w := fun B hB r hr n n0 n1 => by
        obtain ⟨w, ew, _⟩ := gr_win (hg B hB) (gr_place hg ((hps.mem _).mp (hrow r hr).2.2.2)) n0 n1
        exact ⟨w, ew⟩
      refine ⟨b, A, R, l2, u4, false, us, ws, zs2, bs, suspF bs ts ps, fun B => ReachA B ((suspF bs ts ps).map fltO), rfl, hSa, by omega, eAa, hAb, hua, hb4, hnd, hbk, eRa, hRb, hda, hfew, el2', hl2b, hra, hwn, fun B hB n => reach_hit fun r hr => (hrow r hr).2.2.1, fun B hB => Nat.le_trans (hfew2 B hB) (by omega), fun t' H11 v0 v1 hSb kb => ⟨_, rfl, iteF ?_⟩⟩
      have eAb := kb _ _ hAb eAa
      have hub := hua.kb hSa kb (by simp)
      have eLb := kb _ _ hLb eLa
      have hyb := hya.kb hSa kb (by simp)
      have eRb := kb _ _ hRb eRa
      have hdb := hda.kb hSa kb (by simp)
      have elc := kb _ _ elb ela
      have tb := t10.kb hSa kb
      have hGb' : Given [b] H11 (.ref A) (.ref L) bs ts := ⟨⟨A, us, _, rfl, .inl eAb, hub, batsR bs⟩, L, ys, rfl, .inl eLb, hyb⟩
      -- what each reaches
      refine ⟨_, rfl, _, rfl, _, rfl, _, rfl, _, rfl, .ref A, .ref L, bs, ts, [b], rfl, hGb', hC, hbad, tb, hM, fun qs hqs => ?_, fun qs hqs r hr => ?_, fun l3 zs3 ps3 H12 nl3 n12 t12 el3 hps3 hz3 hfew3 => ?_⟩
      · have e := hps.one hqs fun _ => Iff.rfl
        subst e
        exact hfew
      · have e := hps.one hqs fun _ => Iff.rfl
        subst e
        exact (hrow r hr).2.1
      obtain rfl := hps.one hps3 fun _ => Iff.rfl
      have hSc := hSb.noTab n12
      have hl3b : l3 ≠ b := hSb.off nl3
      have hrc : ThgL [b] H12 zs3 ((rowsP (MustN (suspF bs ts ps)) bs).map mrowD) := by
        rw [← must_rows]
        obtain ⟨n0, n1, eb, _⟩ := hSc.at_
        obtain ⟨x1, x2, x3, x4, _, x5⟩ := (mrows_cs eb (hz3.lst' el3)).list
        cases x3
        rw [el3] at x4
        cases x4
        exact x5
      refine ⟨b, A, R, l3, t', true, us, ws, zs3, bs, suspF bs ts ps, MustN (suspF bs ts ps), rfl, hSc, by omega, n12.lst eAb, hAb, hub.noTab n12, hb4, hnd, hbk, n12.lst eRb, hRb, hdb.noTab n12, hfew, el3, hl3b, hrc, hwn, fun B hB n => must_hit, fun B hB => must_len hfew3 B hB, fun t2 H13 w0 w1 hSd kd => ⟨_, rfl, iteF ?_⟩⟩
      exact ⟨_, _, _, _, _, _, rfl, kd _ _ elb (n12.lst elc), t12.kb hSc kd⟩
    · exact q Hx
end

/-! ### the end: what the top has left, the tables of code objects among it -/
/-- each def of the text has a code object with an empty table -/
def Tabs (q : Program) (mg : Str → Option Value) (h : Heap) : Prop := ∀ dr ∈ recsOf q, ∃ (f : Addr) (o : Obj) (fd : FuncData) (c P : Addr), mg dr.name = some (.ref f) ∧ h.get? f = some o ∧ o.data = .func fd ∧ fd.code = .ref c ∧ PySem.W.CodeHd h c P ∧ h.get? P = some (PySem.W.tabObj #[])
theorem tab_in {q : Program} {mg : Str → Option Value} {h : Heap} {K : PySem.W.Frag} {y : Str} {f c P : Addr} {oc e : Value} {od dd : Option Addr} {fd : FuncData} {osl sl : Array (Option Value)} {vs : Array Value} (TT : Tabs q mg h) (X : K.In h) (rec : ((recsOf q).any fun r => r.name == y) = true)
    (g : mg y = some (.ref f)) (lf : K.lookup f = some ⟨oc, od, .func fd, osl⟩) (hc : fd.code = .ref c) (lc : K.lookup c = some ⟨e, dd, .fields vs, sl⟩) (v : vs[11]? = some (.ref P)) : PySem.W.CodeHd h c P ∧ h.get? P = some (PySem.W.tabObj #[]) := by
  obtain ⟨dr, mem, nm⟩ := List.any_eq_true.mp rec
  obtain ⟨f', o', fd', c', P', t1, t2, t3, t4, t5, t6⟩ := TT dr mem
  have ef : f' = f := by
    rw [beq_iff_eq.mp nm, g] at t1
    exact (Value.ref.inj (Option.some.inj t1)).symm
  rw [ef, X _ _ lf] at t2
  rw [← Option.some.inj t2] at t3
  have efd : fd = fd' := Data.func.inj t3
  rw [← efd, hc] at t4
  have ec : c = c' := Value.ref.inj t4
  rw [← ec] at t5
  have t5' := t5
  obtain ⟨oc', us, _, _, _, _, _, _, _, u1, _, u3, u4, _⟩ := t5'
  rw [X _ _ lc] at u1
  rw [← Option.some.inj u1] at u3
  have eu : vs = us := Data.fields.inj u3
  rw [← eu, v] at u4
  have eP : P = P' := Value.ref.inj (Option.some.inj u4)
  rw [eP]
  exact ⟨t5, t6⟩
theorem law_end {l : PySem.W.OpenLaw} {k : Nat} {q : Program} {loose : List Str} {XP : (Str → Option Value) → Heap → Prop} {YP : World → Heap → Prop} {d : DefRec} {K : Params → PySem.W.Frag} (most : l.most = some 63) (plain : d.params.defaults = []) (room : Room k callerA)
    (part : ∀ w h, YP w h → (K w.params).In h) (made : ∀ (w : World) (mg : Str → Option Value) (f : Addr) (h : Heap), (K w.params).In h → h.Ns mainGlobals mg → mg d.name = some (.ref f) → Tabs q mg h → LamX.LawAtS l w (K w.params) CX0 k 63 "_law_script" mg f h) : PySem.W.WalkO q loose XP YP l.row.toRowW d [] (fun f vs => PySem.call f vs) := by
  refine Att.attach_callB most plain ?_
  intro w _ s₁ mg _ f _ _ _ _ a vs ns ground said _ _ _ name script nums len size still
  have X := part w _ said
  have tabs : Tabs q mg s₁.heap := fun dr mem => by
    obtain ⟨f', o', fd', c', P', t1, t2, t3, t4, t5, t6⟩ := ground.T.tab dr mem
    exact ⟨f', o', fd', c', P', t1, t2, t3, t4, PySem.W.CodeHd.of t5 t6, t6.2⟩
  obtain ⟨fd, cs, sp, e1, e2, e3, e4, e5, e6⟩ := made w mg f _ X ground.T.g name tabs
  exact LamX.law_callTs X ground.T.g ground.T.b ground.T.builtins ground.T.nolimit still e1 e2 e3 ground.T.bmain script nums (Nat.le_trans len (by decide)) room e6 e4 (fun H z1 z2 => e5 H a ns len size z1 z2) fun _ _ _ z => z

theorem all_mk {l : PySem.W.OpenLaw} {q : Program} {w : World} {K : PySem.W.Frag} {h : Heap} {mg : Str → Option Value} {fa f0 f1 f2 f3 f4 f5 f6 f7 f8 f9 f10 f11 f12 f13 f14 f15 f16 f17 f18 f19 f20 f21 f22 f23 f24 f25 f26 f27 f28 f29 f30 f31 f32 f33 f34 f35 f36 f37 f38 : Addr} {c15 P15 : Addr} (X : K.In h) (G : h.Ns mainGlobals mg) (hfa : mg "law" = some (.ref fa)) (TT : Tabs q mg h)
    {od0 an0 od1 an1 od2 an2 od3 an3 od4 an4 od5 an5 od6 an6 od7 an7 od8 an8 od9 an9 od10 an10 od11 an11 od12 an12 od13 an13 od14 an14 od15 an15 od16 an16 od17 an17 od18 an18 od19 an19 od20 an20 od21 an21 od22 an22 od23 an23 od24 an24 od25 an25 od26 an26 od27 an27 od28 an28 od29 an29 od30 an30 od31 an31 od32 an32 od33 an33 od34 an34 od35 an35 od36 an36 od37 an37 od38 an38 : Option Addr} {sl0 sl1 sl2 sl3 sl4 sl5 sl6 sl7 sl8 sl9 sl10 sl11 sl12 sl13 sl14 sl15 sl16 sl17 sl18 sl19 sl20 sl21 sl22 sl23 sl24 sl25 sl26 sl27 sl28 sl29 sl30 sl31 sl32 sl33 sl34 sl35 sl36 sl37 sl38 : Array (Option Value)} {oc0 kV0 dc0 pm0 ct0 cd0 oc1 kV1 dc1 pm1 ct1 cd1 oc2 kV2 dc2 pm2 ct2 cd2 oc3 kV3 dc3 pm3 ct3 cd3 oc4 kV4 dc4 pm4 ct4 cd4 oc5 kV5 dc5 pm5 ct5 cd5 oc6 kV6 dc6 pm6 ct6 cd6 oc7 kV7 dc7 pm7 ct7 cd7 oc8 kV8 dc8 pm8 ct8 cd8 oc9 kV9 dc9 pm9 ct9 cd9 oc10 kV10 dc10 pm10 ct10 cd10 oc11 kV11 dc11 pm11 ct11 cd11 oc12 kV12 dc12 pm12 ct12 cd12 oc13 kV13 dc13 pm13 ct13 cd13 oc14 kV14 dc14 pm14 ct14 cd14 oc15 kV15 dc15 pm15 ct15 oc16 kV16 dc16 pm16 ct16 cd16 oc17 kV17 dc17 pm17 ct17 cd17 oc18 kV18 dc18 pm18 ct18 cd18 oc19 kV19 dc19 pm19 ct19 cd19 oc20 kV20 dc20 pm20 ct20 cd20 oc21 kV21 dc21 pm21 ct21 cd21 oc22 kV22 dc22 pm22 ct22 cd22 oc23 kV23 dc23 pm23 ct23 cd23 oc24 kV24 dc24 pm24 ct24 cd24 oc25 kV25 dc25 pm25 ct25 cd25 oc26 kV26 dc26 pm26 ct26 cd26 oc27 kV27 dc27 pm27 ct27 cd27 oc28 kV28 dc28 pm28 ct28 cd28 oc29 kV29 dc29 pm29 ct29 cd29 oc30 kV30 dc30 pm30 ct30 cd30 oc31 kV31 dc31 pm31 ct31 cd31 oc32 kV32 dc32 pm32 ct32 cd32 oc33 kV33 dc33 pm33 ct33 cd33 oc34 kV34 dc34 pm34 ct34 cd34 oc35 kV35 dc35 pm35 ct35 cd35 oc36 kV36 dc36 pm36 ct36 cd36 oc37 kV37 dc37 pm37 ct37 cd37 oc38 kV38 dc38 pm38 ct38 cd38 : Value}
    {e15 : Value} {dd15 : Option Addr} {vs15 : Array Value} {sc15 : Array (Option Value)}
    (a0 : PySem.W.nsIn K mainGlobals "set_of" = some (some (.ref f0))) (l0 : K.lookup f0 = some ⟨oc0, od0, .func (PySem.W.fnOf "set_of" "set_of" (defArgs sSetOf) (defBody sSetOf) (defScope sSetOf) .none kV0 dc0 pm0 an0 cd0 ct0), sl0⟩) (c0' : PySem.W.codeIn K cd0 "set_of" = true) (k0 : PySem.W.keepIn K (.ref f0) = true)
    (a1 : PySem.W.nsIn K mainGlobals "both_of" = some (some (.ref f1))) (l1 : K.lookup f1 = some ⟨oc1, od1, .func (PySem.W.fnOf "both_of" "both_of" (defArgs sBoth) (defBody sBoth) (defScope sBoth) .none kV1 dc1 pm1 an1 cd1 ct1), sl1⟩) (c1' : PySem.W.codeIn K cd1 "both_of" = true) (k1 : PySem.W.keepIn K (.ref f1) = true)
    (a2 : PySem.W.nsIn K mainGlobals "pass_at" = some (some (.ref f2))) (l2 : K.lookup f2 = some ⟨oc2, od2, .func (PySem.W.fnOf "pass_at" "pass_at" (defArgs sPassAt) (defBody sPassAt) (defScope sPassAt) .none kV2 dc2 pm2 an2 cd2 ct2), sl2⟩) (c2' : PySem.W.codeIn K cd2 "pass_at" = true) (k2 : PySem.W.keepIn K (.ref f2) = true)
    (a3 : PySem.W.nsIn K mainGlobals "window" = some (some (.ref f3))) (l3 : K.lookup f3 = some ⟨oc3, od3, .func (PySem.W.fnOf "window" "window" (defArgs sWindow) (defBody sWindow) (defScope sWindow) .none kV3 dc3 pm3 an3 cd3 ct3), sl3⟩) (c3' : PySem.W.codeIn K cd3 "window" = true) (k3 : PySem.W.keepIn K (.ref f3) = true)
    (a4 : PySem.W.nsIn K mainGlobals "count_ahead" = some (some (.ref f4))) (l4 : K.lookup f4 = some ⟨oc4, od4, .func (PySem.W.fnOf "count_ahead" "count_ahead" (defArgs Old.sCnt) (defBody Old.sCnt) (defScope Old.sCnt) .none kV4 dc4 pm4 an4 cd4 ct4), sl4⟩) (c4' : PySem.W.codeIn K cd4 "count_ahead" = true) (k4 : PySem.W.keepIn K (.ref f4) = true)
    (a5 : PySem.W.nsIn K mainGlobals "tins_on_line" = some (some (.ref f5))) (l5 : K.lookup f5 = some ⟨oc5, od5, .func (PySem.W.fnOf "tins_on_line" "tins_on_line" (defArgs Old.sOnLine) (defBody Old.sOnLine) (defScope Old.sOnLine) .none kV5 dc5 pm5 an5 cd5 ct5), sl5⟩) (c5' : PySem.W.codeIn K cd5 "tins_on_line" = true) (k5 : PySem.W.keepIn K (.ref f5) = true)
    (a6 : PySem.W.nsIn K mainGlobals "tins_of_rack" = some (some (.ref f6))) (l6 : K.lookup f6 = some ⟨oc6, od6, .func (PySem.W.fnOf "tins_of_rack" "tins_of_rack" (defArgs Old.sRack) (defBody Old.sRack) (defScope Old.sRack) .none kV6 dc6 pm6 an6 cd6 ct6), sl6⟩) (c6' : PySem.W.codeIn K cd6 "tins_of_rack" = true) (k6 : PySem.W.keepIn K (.ref f6) = true)
    (a7 : PySem.W.nsIn K mainGlobals "tins_in_stays" = some (some (.ref f7))) (l7 : K.lookup f7 = some ⟨oc7, od7, .func (PySem.W.fnOf "tins_in_stays" "tins_in_stays" (defArgs Old.sStays) (defBody Old.sStays) (defScope Old.sStays) .none kV7 dc7 pm7 an7 cd7 ct7), sl7⟩) (c7' : PySem.W.codeIn K cd7 "tins_in_stays" = true) (k7 : PySem.W.keepIn K (.ref f7) = true)
    (a8 : PySem.W.nsIn K mainGlobals "tins_at" = some (some (.ref f8))) (l8 : K.lookup f8 = some ⟨oc8, od8, .func (PySem.W.fnOf "tins_at" "tins_at" (defArgs Old.sTinsAt) (defBody Old.sTinsAt) (defScope Old.sTinsAt) .none kV8 dc8 pm8 an8 cd8 ct8), sl8⟩) (c8' : PySem.W.codeIn K cd8 "tins_at" = true) (k8 : PySem.W.keepIn K (.ref f8) = true)
    (a9 : PySem.W.nsIn K mainGlobals "tins_in_racks" = some (some (.ref f9))) (l9 : K.lookup f9 = some ⟨oc9, od9, .func (PySem.W.fnOf "tins_in_racks" "tins_in_racks" (defArgs sInRacks9) (defBody sInRacks9) (defScope sInRacks9) .none kV9 dc9 pm9 an9 cd9 ct9), sl9⟩) (c9' : PySem.W.codeIn K cd9 "tins_in_racks" = true) (k9 : PySem.W.keepIn K (.ref f9) = true)
    (a10 : PySem.W.nsIn K mainGlobals "tins_reached" = some (some (.ref f10))) (l10 : K.lookup f10 = some ⟨oc10, od10, .func (PySem.W.fnOf "tins_reached" "tins_reached" (defArgs sReach1) (defBody sReach1) (defScope sReach1) .none kV10 dc10 pm10 an10 cd10 ct10), sl10⟩) (c10' : PySem.W.codeIn K cd10 "tins_reached" = true) (k10 : PySem.W.keepIn K (.ref f10) = true)
    (a11 : PySem.W.nsIn K mainGlobals "reached" = some (some (.ref f11))) (l11 : K.lookup f11 = some ⟨oc11, od11, .func (PySem.W.fnOf "reached" "reached" (defArgs sReached) (defBody sReached) (defScope sReached) .none kV11 dc11 pm11 an11 cd11 ct11), sl11⟩) (c11' : PySem.W.codeIn K cd11 "reached" = true) (k11 : PySem.W.keepIn K (.ref f11) = true)
    (a12 : PySem.W.nsIn K mainGlobals "places_passed" = some (some (.ref f12))) (l12 : K.lookup f12 = some ⟨oc12, od12, .func (PySem.W.fnOf "places_passed" "places_passed" (defArgs sPassed) (defBody sPassed) (defScope sPassed) .none kV12 dc12 pm12 an12 cd12 ct12), sl12⟩) (c12' : PySem.W.codeIn K cd12 "places_passed" = true) (k12 : PySem.W.keepIn K (.ref f12) = true)
    (a13 : PySem.W.nsIn K mainGlobals "windows_tested" = some (some (.ref f13))) (l13 : K.lookup f13 = some ⟨oc13, od13, .func (PySem.W.fnOf "windows_tested" "windows_tested" (defArgs sTested) (defBody sTested) (defScope sTested) .none kV13 dc13 pm13 an13 cd13 ct13), sl13⟩) (c13' : PySem.W.codeIn K cd13 "windows_tested" = true) (k13 : PySem.W.keepIn K (.ref f13) = true)
    (a14 : PySem.W.nsIn K mainGlobals "free_rows" = some (some (.ref f14))) (l14 : K.lookup f14 = some ⟨oc14, od14, .func (PySem.W.fnOf "free_rows" "free_rows" (defArgs sFree) (defBody sFree) (defScope sFree) .none kV14 dc14 pm14 an14 cd14 ct14), sl14⟩) (c14' : PySem.W.codeIn K cd14 "free_rows" = true) (k14 : PySem.W.keepIn K (.ref f14) = true)
    (a15 : PySem.W.nsIn K mainGlobals "fault_rows" = some (some (.ref f15))) (l15 : K.lookup f15 = some ⟨oc15, od15, .func (PySem.W.fnOf "fault_rows" "fault_rows" (defArgs sFaultR) (defBody sFaultR) (defScope sFaultR) .none kV15 dc15 pm15 an15 (.ref c15) ct15), sl15⟩) (c15' : PySem.W.codeIn K (.ref c15) "fault_rows" = true) (k15 : PySem.W.keepIn K (.ref f15) = true)
    (a16 : PySem.W.nsIn K mainGlobals "rows_at" = some (some (.ref f16))) (l16 : K.lookup f16 = some ⟨oc16, od16, .func (PySem.W.fnOf "rows_at" "rows_at" (defArgs sRowsAt) (defBody sRowsAt) (defScope sRowsAt) .none kV16 dc16 pm16 an16 cd16 ct16), sl16⟩) (c16' : PySem.W.codeIn K cd16 "rows_at" = true) (k16 : PySem.W.keepIn K (.ref f16) = true)
    (a17 : PySem.W.nsIn K mainGlobals "suspects" = some (some (.ref f17))) (l17 : K.lookup f17 = some ⟨oc17, od17, .func (PySem.W.fnOf "suspects" "suspects" (defArgs sSusp) (defBody sSusp) (defScope sSusp) .none kV17 dc17 pm17 an17 cd17 ct17), sl17⟩) (c17' : PySem.W.codeIn K cd17 "suspects" = true) (k17 : PySem.W.keepIn K (.ref f17) = true)
    (a18 : PySem.W.nsIn K mainGlobals "can_reach" = some (some (.ref f18))) (l18 : K.lookup f18 = some ⟨oc18, od18, .func (PySem.W.fnOf "can_reach" "can_reach" (defArgs sCan) (defBody sCan) (defScope sCan) .none kV18 dc18 pm18 an18 cd18 ct18), sl18⟩) (c18' : PySem.W.codeIn K cd18 "can_reach" = true) (k18 : PySem.W.keepIn K (.ref f18) = true)
    (a19 : PySem.W.nsIn K mainGlobals "tins_of_all" = some (some (.ref f19))) (l19 : K.lookup f19 = some ⟨oc19, od19, .func (PySem.W.fnOf "tins_of_all" "tins_of_all" (defArgs sAll) (defBody sAll) (defScope sAll) .none kV19 dc19 pm19 an19 cd19 ct19), sl19⟩) (c19' : PySem.W.codeIn K cd19 "tins_of_all" = true) (k19 : PySem.W.keepIn K (.ref f19) = true)
    (a20 : PySem.W.nsIn K mainGlobals "must_reach" = some (some (.ref f20))) (l20 : K.lookup f20 = some ⟨oc20, od20, .func (PySem.W.fnOf "must_reach" "must_reach" (defArgs sMust) (defBody sMust) (defScope sMust) .none kV20 dc20 pm20 an20 cd20 ct20), sl20⟩) (c20' : PySem.W.codeIn K cd20 "must_reach" = true) (k20 : PySem.W.keepIn K (.ref f20) = true)
    (a21 : PySem.W.nsIn K mainGlobals "_law_cells" = some (some (.ref f21))) (l21 : K.lookup f21 = some ⟨oc21, od21, .func (PySem.W.fnOf "_law_cells" "_law_cells" (defArgs sCells) (defBody sCells) (defScope sCells) .none kV21 dc21 pm21 an21 cd21 ct21), sl21⟩) (c21' : PySem.W.codeIn K cd21 "_law_cells" = true) (k21 : PySem.W.keepIn K (.ref f21) = true)
    (a22 : PySem.W.nsIn K mainGlobals "_law_box" = some (some (.ref f22))) (l22 : K.lookup f22 = some ⟨oc22, od22, .func (PySem.W.fnOf "_law_box" "_law_box" (defArgs sBox) (defBody sBox) (defScope sBox) .none kV22 dc22 pm22 an22 cd22 ct22), sl22⟩) (c22' : PySem.W.codeIn K cd22 "_law_box" = true) (k22 : PySem.W.keepIn K (.ref f22) = true)
    (a23 : PySem.W.nsIn K mainGlobals "_law_take" = some (some (.ref f23))) (l23 : K.lookup f23 = some ⟨oc23, od23, .func (PySem.W.fnOf "_law_take" "_law_take" (defArgs sTake) (defBody sTake) (defScope sTake) .none kV23 dc23 pm23 an23 cd23 ct23), sl23⟩) (c23' : PySem.W.codeIn K cd23 "_law_take" = true) (k23 : PySem.W.keepIn K (.ref f23) = true)
    (a24 : PySem.W.nsIn K mainGlobals "_law_some" = some (some (.ref f24))) (l24 : K.lookup f24 = some ⟨oc24, od24, .func (PySem.W.fnOf "_law_some" "_law_some" (defArgs sSome) (defBody sSome) (defScope sSome) .none kV24 dc24 pm24 an24 cd24 ct24), sl24⟩) (c24' : PySem.W.codeIn K cd24 "_law_some" = true) (k24 : PySem.W.keepIn K (.ref f24) = true)
    (a25 : PySem.W.nsIn K mainGlobals "_law_names" = some (some (.ref f25))) (l25 : K.lookup f25 = some ⟨oc25, od25, .func (PySem.W.fnOf "_law_names" "_law_names" (defArgs sNames) (defBody sNames) (defScope sNames) .none kV25 dc25 pm25 an25 cd25 ct25), sl25⟩) (c25' : PySem.W.codeIn K cd25 "_law_names" = true) (k25 : PySem.W.keepIn K (.ref f25) = true)
    (a26 : PySem.W.nsIn K mainGlobals "_law_marks" = some (some (.ref f26))) (l26 : K.lookup f26 = some ⟨oc26, od26, .func (PySem.W.fnOf "_law_marks" "_law_marks" (defArgs sMarks) (defBody sMarks) (defScope sMarks) .none kV26 dc26 pm26 an26 cd26 ct26), sl26⟩) (c26' : PySem.W.codeIn K cd26 "_law_marks" = true) (k26 : PySem.W.keepIn K (.ref f26) = true)
    (a27 : PySem.W.nsIn K mainGlobals "_law_shuffled" = some (some (.ref f27))) (l27 : K.lookup f27 = some ⟨oc27, od27, .func (PySem.W.fnOf "_law_shuffled" "_law_shuffled" (defArgs sShuf) (defBody sShuf) (defScope sShuf) .none kV27 dc27 pm27 an27 cd27 ct27), sl27⟩) (c27' : PySem.W.codeIn K cd27 "_law_shuffled" = true) (k27 : PySem.W.keepIn K (.ref f27) = true)
    (a28 : PySem.W.nsIn K mainGlobals "_law_window" = some (some (.ref f28))) (l28 : K.lookup f28 = some ⟨oc28, od28, .func (PySem.W.fnOf "_law_window" "_law_window" (defArgs sLWin) (defBody sLWin) (defScope sLWin) .none kV28 dc28 pm28 an28 cd28 ct28), sl28⟩) (c28' : PySem.W.codeIn K cd28 "_law_window" = true) (k28 : PySem.W.keepIn K (.ref f28) = true)
    (a29 : PySem.W.nsIn K mainGlobals "_law_same" = some (some (.ref f29))) (l29 : K.lookup f29 = some ⟨oc29, od29, .func (PySem.W.fnOf "_law_same" "_law_same" (defArgs sSame) (defBody sSame) (defScope sSame) .none kV29 dc29 pm29 an29 cd29 ct29), sl29⟩) (c29' : PySem.W.codeIn K cd29 "_law_same" = true) (k29 : PySem.W.keepIn K (.ref f29) = true)
    (a30 : PySem.W.nsIn K mainGlobals "_law_windows" = some (some (.ref f30))) (l30 : K.lookup f30 = some ⟨oc30, od30, .func (PySem.W.fnOf "_law_windows" "_law_windows" (defArgs sLWins) (defBody sLWins) (defScope sLWins) .none kV30 dc30 pm30 an30 cd30 ct30), sl30⟩) (c30' : PySem.W.codeIn K cd30 "_law_windows" = true) (k30 : PySem.W.keepIn K (.ref f30) = true)
    (a31 : PySem.W.nsIn K mainGlobals "_law_gaps" = some (some (.ref f31))) (l31 : K.lookup f31 = some ⟨oc31, od31, .func (PySem.W.fnOf "_law_gaps" "_law_gaps" (defArgs sLGaps) (defBody sLGaps) (defScope sLGaps) .none kV31 dc31 pm31 an31 cd31 ct31), sl31⟩) (c31' : PySem.W.codeIn K cd31 "_law_gaps" = true) (k31 : PySem.W.keepIn K (.ref f31) = true)
    (a32 : PySem.W.nsIn K mainGlobals "_law_great" = some (some (.ref f32))) (l32 : K.lookup f32 = some ⟨oc32, od32, .func (PySem.W.fnOf "_law_great" "_law_great" (defArgs sGreat3) (defBody sGreat3) (defScope sGreat3) .none kV32 dc32 pm32 an32 cd32 ct32), sl32⟩) (c32' : PySem.W.codeIn K cd32 "_law_great" = true) (k32 : PySem.W.keepIn K (.ref f32) = true)
    (a33 : PySem.W.nsIn K mainGlobals "_law_places" = some (some (.ref f33))) (l33 : K.lookup f33 = some ⟨oc33, od33, .func (PySem.W.fnOf "_law_places" "_law_places" (defArgs sLPl) (defBody sLPl) (defScope sLPl) .none kV33 dc33 pm33 an33 cd33 ct33), sl33⟩) (c33' : PySem.W.codeIn K cd33 "_law_places" = true) (k33 : PySem.W.keepIn K (.ref f33) = true)
    (a34 : PySem.W.nsIn K mainGlobals "_law_by_windows" = some (some (.ref f34))) (l34 : K.lookup f34 = some ⟨oc34, od34, .func (PySem.W.fnOf "_law_by_windows" "_law_by_windows" (defArgs sByWin) (defBody sByWin) (defScope sByWin) .none kV34 dc34 pm34 an34 cd34 ct34), sl34⟩) (c34' : PySem.W.codeIn K cd34 "_law_by_windows" = true) (k34 : PySem.W.keepIn K (.ref f34) = true)
    (a35 : PySem.W.nsIn K mainGlobals "_law_due" = some (some (.ref f35))) (l35 : K.lookup f35 = some ⟨oc35, od35, .func (PySem.W.fnOf "_law_due" "_law_due" (defArgs sDue3) (defBody sDue3) (defScope sDue3) .none kV35 dc35 pm35 an35 cd35 ct35), sl35⟩) (c35' : PySem.W.codeIn K cd35 "_law_due" = true) (k35 : PySem.W.keepIn K (.ref f35) = true)
    (a36 : PySem.W.nsIn K mainGlobals "_law_meets" = some (some (.ref f36))) (l36 : K.lookup f36 = some ⟨oc36, od36, .func (PySem.W.fnOf "_law_meets" "_law_meets" (defArgs sMeets3) (defBody sMeets3) (defScope sMeets3) .none kV36 dc36 pm36 an36 cd36 ct36), sl36⟩) (c36' : PySem.W.codeIn K cd36 "_law_meets" = true) (k36 : PySem.W.keepIn K (.ref f36) = true)
    (a37 : PySem.W.nsIn K mainGlobals "_law_told_right" = some (some (.ref f37))) (l37 : K.lookup f37 = some ⟨oc37, od37, .func (PySem.W.fnOf "_law_told_right" "_law_told_right" (defArgs sToldR) (defBody sToldR) (defScope sToldR) .none kV37 dc37 pm37 an37 cd37 ct37), sl37⟩) (c37' : PySem.W.codeIn K cd37 "_law_told_right" = true) (k37 : PySem.W.keepIn K (.ref f37) = true)
    (a38 : PySem.W.nsIn K mainGlobals "law" = some (some (.ref f38))) (l38 : K.lookup f38 = some ⟨oc38, od38, .func (PySem.W.fnOf "law" "law" (defArgs sLaw) (defBody sLaw) (defScope sLaw) .none kV38 dc38 pm38 an38 cd38 ct38), sl38⟩) (c38' : PySem.W.codeIn K cd38 "law" = true) (k38 : PySem.W.keepIn K (.ref f38) = true)
    (lc15 : K.lookup c15 = some ⟨e15, dd15, .fields vs15, sc15⟩) (v15 : vs15[11]? = some (.ref P15)) (nP15 : K.lookup P15 = none) (r15 : ((recsOf q).any fun e => e.name == ("fault_rows" : Str)) = true)
    {tk_LINE : Tok} (zc_LINE : PySem.W.nsIn K mainGlobals "LINE" = some (some (.str "line" tk_LINE))) {tk_BAD : Tok} (zc_BAD : PySem.W.nsIn K mainGlobals "BAD" = some (some (.str "bad" tk_BAD))) {tk_GOOD : Tok} (zc_GOOD : PySem.W.nsIn K mainGlobals "GOOD" = some (some (.str "good" tk_GOOD)))
    (z_abs : PySem.W.nsIn K mainGlobals "abs" = some none) (z_all : PySem.W.nsIn K mainGlobals "all" = some none) (z_any : PySem.W.nsIn K mainGlobals "any" = some none) (z_bool : PySem.W.nsIn K mainGlobals "bool" = some none) (z_dict : PySem.W.nsIn K mainGlobals "dict" = some none) (z_divmod : PySem.W.nsIn K mainGlobals "divmod" = some none) (z_enumerate : PySem.W.nsIn K mainGlobals "enumerate" = some none) (z_int : PySem.W.nsIn K mainGlobals "int" = some none) (z_isinstance : PySem.W.nsIn K mainGlobals "isinstance" = some none) (z_len : PySem.W.nsIn K mainGlobals "len" = some none) (z_list : PySem.W.nsIn K mainGlobals "list" = some none) (z_max : PySem.W.nsIn K mainGlobals "max" = some none) (z_min : PySem.W.nsIn K mainGlobals "min" = some none) (z_range : PySem.W.nsIn K mainGlobals "range" = some none) (z_set : PySem.W.nsIn K mainGlobals "set" = some none) (z_sorted : PySem.W.nsIn K mainGlobals "sorted" = some none) (z_str : PySem.W.nsIn K mainGlobals "str" = some none) (z_tuple : PySem.W.nsIn K mainGlobals "tuple" = some none) (z_zip : PySem.W.nsIn K mainGlobals "zip" = some none) :
    LamX.LawAtS l w K CX0 9 63 "_law_script" mg fa h := by
  cases hfa.symm.trans (PySem.W.mg_of X G a38)
  have F0 := fun_mk (st := sSetOf) l0 c0' k0
  have b0 := F0.binds (ps := ["pairs"]) fun _ _ _ _ _ _ us hl => match us, hl with | [_], _ => rfl
  have F1 := fun_mk (st := sBoth) l1 c1' k1
  have b1 := F1.binds (ps := ["one", "other"]) fun _ _ _ _ _ _ us hl => match us, hl with | [_, _], _ => rfl
  have F2 := fun_mk (st := sPassAt) l2 c2' k2
  have b2 := F2.binds (ps := ["batch", "place"]) fun _ _ _ _ _ _ us hl => match us, hl with | [_, _], _ => rfl
  have F3 := fun_mk (st := sWindow) l3 c3' k3
  have b3 := F3.binds (ps := ["batch", "place", "tin"]) fun _ _ _ _ _ _ us hl => match us, hl with | [_, _, _], _ => rfl
  have F4 := fun_mk (st := Old.sCnt) l4 c4' k4
  have b4 := F4.binds (ps := ["tins", "line", "minute"]) fun _ _ _ _ _ _ us hl => match us, hl with | [_, _, _], _ => rfl
  have F5 := fun_mk (st := Old.sOnLine) l5 c5' k5
  have b5 := F5.binds (ps := ["tins", "line", "first", "last"]) fun _ _ _ _ _ _ us hl => match us, hl with | [_, _, _, _], _ => rfl
  have F6 := fun_mk (st := Old.sRack) l6 c6' k6
  have b6 := F6.binds (ps := ["tins", "per", "rack"]) fun _ _ _ _ _ _ us hl => match us, hl with | [_, _, _], _ => rfl
  have F7 := fun_mk (st := Old.sStays) l7 c7' k7
  have b7 := F7.binds (ps := ["tins", "racked", "first", "last"]) fun _ _ _ _ _ _ us hl => match us, hl with | [_, _, _, _], _ => rfl
  have F8 := fun_mk (st := Old.sTinsAt) l8 c8' k8
  have b8 := F8.binds (ps := ["batch", "place", "first", "last"]) fun _ _ _ _ _ _ us hl => match us, hl with | [_, _, _, _], _ => rfl
  have F9 := fun_mk (st := sInRacks9) l9 c9' k9
  have b9 := F9.binds (ps := ["batch", "place", "racks"]) fun _ _ _ _ _ _ us hl => match us, hl with | [_, _, _], _ => rfl
  have F10 := fun_mk (st := sReach1) l10 c10' k10
  have b10 := F10.binds (ps := ["batch", "fault"]) fun _ _ _ _ _ _ us hl => match us, hl with | [_, _], _ => rfl
  have F11 := fun_mk (st := sReached) l11 c11' k11
  have b11 := F11.binds (ps := ["batches", "faults"]) fun _ _ _ _ _ _ us hl => match us, hl with | [_, _], _ => rfl
  have F12 := fun_mk (st := sPassed) l12 c12' k12
  have b12 := F12.binds (ps := ["batches"]) fun _ _ _ _ _ _ us hl => match us, hl with | [_], _ => rfl
  have F13 := fun_mk (st := sTested) l13 c13' k13
  have b13 := F13.binds (ps := ["batches", "tests", "place"]) fun _ _ _ _ _ _ us hl => match us, hl with | [_, _, _], _ => rfl
  have F14 := fun_mk (st := sFree) l14 c14' k14
  have b14 := F14.binds (ps := ["windows"]) fun _ _ _ _ _ _ us hl => match us, hl with | [_], _ => rfl
  have F15 := fun_mk (st := sFaultR) l15 c15' k15
  have b15 := F15.binds (ps := ["bad", "good"]) fun _ _ _ _ _ _ us hl => match us, hl with | [_, _], _ => rfl
  have F16 := fun_mk (st := sRowsAt) l16 c16' k16
  have b16 := F16.binds (ps := ["batches", "tests", "place"]) fun _ _ _ _ _ _ us hl => match us, hl with | [_, _, _], _ => rfl
  have F17 := fun_mk (st := sSusp) l17 c17' k17
  have b17 := F17.binds (ps := ["batches", "tests"]) fun _ _ _ _ _ _ us hl => match us, hl with | [_, _], _ => rfl
  have F18 := fun_mk (st := sCan) l18 c18' k18
  have b18 := F18.binds (ps := ["batches", "tests"]) fun _ _ _ _ _ _ us hl => match us, hl with | [_, _], _ => rfl
  have F19 := fun_mk (st := sAll) l19 c19' k19
  have b19 := F19.binds (ps := ["batch", "rows"]) fun _ _ _ _ _ _ us hl => match us, hl with | [_, _], _ => rfl
  have F20 := fun_mk (st := sMust) l20 c20' k20
  have b20 := F20.binds (ps := ["batches", "tests"]) fun _ _ _ _ _ _ us hl => match us, hl with | [_, _], _ => rfl
  have F21 := fun_mk (st := sCells) l21 c21' k21
  have b21 := F21.binds (ps := ["_law_script", "_law_many"]) fun _ _ _ _ _ _ us hl => match us, hl with | [_, _], _ => rfl
  have F22 := fun_mk (st := sBox) l22 c22' k22
  have b22 := F22.binds (ps := ["_law_script", "_law_k"]) fun _ _ _ _ _ _ us hl => match us, hl with | [_, _], _ => rfl
  have F23 := fun_mk (st := sTake) l23 c23' k23
  have b23 := F23.binds (ps := ["_law_box_here", "_law_many"]) fun _ _ _ _ _ _ us hl => match us, hl with | [_, _], _ => rfl
  have F24 := fun_mk (st := sSome) l24 c24' k24
  have b24 := F24.binds (ps := ["_law_box_here", "_law_many"]) fun _ _ _ _ _ _ us hl => match us, hl with | [_, _], _ => rfl
  have F25 := fun_mk (st := sNames) l25 c25' k25
  have b25 := F25.binds (ps := ["_law_box_here", "_law_many"]) fun _ _ _ _ _ _ us hl => match us, hl with | [_, _], _ => rfl
  have F26 := fun_mk (st := sMarks) l26 c26' k26
  have b26 := F26.binds (ps := ["_law_box_here", "_law_many"]) fun _ _ _ _ _ _ us hl => match us, hl with | [_, _], _ => rfl
  have F27 := fun_mk (st := sShuf) l27 c27' k27
  have b27 := F27.binds (ps := ["_law_box_here", "_law_things"]) fun _ _ _ _ _ _ us hl => match us, hl with | [_, _], _ => rfl
  have F28 := fun_mk (st := sLWin) l28 c28' k28
  have b28 := F28.binds (ps := ["_law_batch", "_law_place", "_law_tin"]) fun _ _ _ _ _ _ us hl => match us, hl with | [_, _, _], _ => rfl
  have F29 := fun_mk (st := sSame) l29 c29' k29
  have b29 := F29.binds (ps := ["_law_found", "_law_due_here"]) fun _ _ _ _ _ _ us hl => match us, hl with | [_, _], _ => rfl
  have F30 := fun_mk (st := sLWins) l30 c30' k30
  have b30 := F30.binds (ps := ["_law_batches", "_law_tests", "_law_place"]) fun _ _ _ _ _ _ us hl => match us, hl with | [_, _, _], _ => rfl
  have F31 := fun_mk (st := sLGaps) l31 c31' k31
  have b31 := F31.binds (ps := ["_law_windows_here"]) fun _ _ _ _ _ _ us hl => match us, hl with | [_], _ => rfl
  have F32 := fun_mk (st := sGreat3) l32 c32' k32
  have b32 := F32.binds (ps := ["_law_box_here", "_law_places_here"]) fun _ _ _ _ _ _ us hl => match us, hl with | [_, _], _ => rfl
  have F33 := fun_mk (st := sLPl) l33 c33' k33
  have b33 := F33.binds (ps := ["_law_batches"]) fun _ _ _ _ _ _ us hl => match us, hl with | [_], _ => rfl
  have F34 := fun_mk (st := sByWin) l34 c34' k34
  have b34 := F34.binds (ps := ["_law_box_here", "_law_batches", "_law_places_here"]) fun _ _ _ _ _ _ us hl => match us, hl with | [_, _, _], _ => rfl
  have F35 := fun_mk (st := sDue3) l35 c35' k35
  have b35 := F35.binds (ps := ["_law_batches", "_law_tests"]) fun _ _ _ _ _ _ us hl => match us, hl with | [_, _], _ => rfl
  have F36 := fun_mk (st := sMeets3) l36 c36' k36
  have b36 := F36.binds (ps := ["_law_batch", "_law_tin", "_law_row", "_law_each"]) fun _ _ _ _ _ _ us hl => match us, hl with | [_, _, _, _], _ => rfl
  have F37 := fun_mk (st := sToldR) l37 c37' k37
  have b37 := F37.binds (ps := ["_law_box_here", "_law_batches", "_law_due_here", "_law_told", "_law_each"]) fun _ _ _ _ _ _ us hl => match us, hl with | [_, _, _, _, _], _ => rfl
  have F38 := fun_mk (st := sLaw) l38 c38' k38
  have m_LINE : ∃ u, mg "LINE" = some u ∧ RelV (.str "line") u := ⟨_, PySem.W.mg_of X G zc_LINE, ⟨_, rfl⟩⟩
  have m_BAD : ∃ u, mg "BAD" = some u ∧ RelV (.str "bad") u := ⟨_, PySem.W.mg_of X G zc_BAD, ⟨_, rfl⟩⟩
  have m_GOOD : ∃ u, mg "GOOD" = some u ∧ RelV (.str "good") u := ⟨_, PySem.W.mg_of X G zc_GOOD, ⟨_, rfl⟩⟩
  have m_abs := PySem.W.mg_none_of X G z_abs
  have m_all := PySem.W.mg_none_of X G z_all
  have m_any := PySem.W.mg_none_of X G z_any
  have m_bool := PySem.W.mg_none_of X G z_bool
  have m_dict := PySem.W.mg_none_of X G z_dict
  have m_divmod := PySem.W.mg_none_of X G z_divmod
  have m_enumerate := PySem.W.mg_none_of X G z_enumerate
  have m_int := PySem.W.mg_none_of X G z_int
  have m_isinstance := PySem.W.mg_none_of X G z_isinstance
  have m_len := PySem.W.mg_none_of X G z_len
  have m_list := PySem.W.mg_none_of X G z_list
  have m_max := PySem.W.mg_none_of X G z_max
  have m_min := PySem.W.mg_none_of X G z_min
  have m_range := PySem.W.mg_none_of X G z_range
  have m_set := PySem.W.mg_none_of X G z_set
  have m_sorted := PySem.W.mg_none_of X G z_sorted
  have m_str := PySem.W.mg_none_of X G z_str
  have m_tuple := PySem.W.mg_none_of X G z_tuple
  have m_zip := PySem.W.mg_none_of X G z_zip
  have tb15 := tab_in TT X r15 (PySem.W.mg_of X G a15) l15 rfl lc15 v15
  refine ⟨PySem.W.fnOf "law" "law" (defArgs sLaw) (defBody sLaw) (defScope sLaw) .none kV38 dc38 pm38 an38 cd38 ct38, [(c15, P15)], spLaw3 K ⟨[P15], []⟩ [P15] P15, List.forall_mem_cons.mpr ⟨tb15.2, fun _ z => nomatch z⟩, List.forall_mem_cons.mpr ⟨nP15, fun _ z => nomatch z⟩, List.forall_mem_cons.mpr ⟨tb15.1, fun _ z => nomatch z⟩, fun s v => .of_eq rfl, fun H a ns hl _ hH hS => ?_, fun base _ _ TB => ?_⟩
  · have hT15 : GxR.TabG H P15 := ⟨#[], hH (c15, P15) (List.mem_cons_self ..), trivial⟩; exact ⟨a, ns, rfl, hS, hl, ⟨List.forall_mem_cons.mpr ⟨⟨_, hH (c15, P15) (by simp)⟩, (fun _ z => nomatch z)⟩, List.forall_mem_cons.mpr ⟨⟨GX.TabQ.nil (hH (c15, P15) (by simp)), by simp⟩, (fun _ z => nomatch z)⟩, (fun _ z => nomatch z)⟩, GX.Mq.mem.mpr (by simp), fun _ => rfl⟩
  · have g := fun {x : Str} {f : Addr} (a : PySem.W.nsIn K mainGlobals x = some (some (.ref f))) => PySem.W.mg_of X G a
    have T15 : GxR.TabB base mg c15 P15 := let t := TB (c15, P15) (List.mem_cons_self ..); ⟨t.code, t.bm, t.gP⟩
    have SO : Cal l.prog w K mg base 1 "set_of" ["pairs"] (spSetOf K) := ⟨_, _, ok_setof F0 m_sorted m_max, g a0, k0, b0⟩
    have PA : Cal l.prog w K mg base 1 "pass_at" ["batch", "place"] spPassAt := ⟨_, _, ok_PassAt F2, g a2, k2, b2⟩
    have WI : Cal l.prog w K mg base 2 "window" ["batch", "place", "tin"] (spWin K) := ⟨_, _, ok_Window F3 PA m_LINE, g a3, k3, b3⟩
    have PP : Cal l.prog w K mg base 1 "places_passed" ["batches"] (spPassed K) := ⟨_, _, ok_Passed F12 m_sorted, g a12, k12, b12⟩
    have TE : Cal l.prog w K mg base 3 "windows_tested" ["batches", "tests", "place"] (spTested K) := ⟨_, _, ok_Tested F13 WI, g a13, k13, b13⟩
    have FR : Cal l.prog w K mg base 2 "free_rows" ["windows"] (spFree K) := ⟨_, _, ok_Free F14 SO, g a14, k14, b14⟩
    have FA : Cal l.prog w K mg base 5 "fault_rows" ["bad", "good"] (spFaultR K ⟨[P15], []⟩ [P15] P15) := ⟨_, _, ok_FaultR l15 c15' ⟨T15.code, T15.bm, T15.gP⟩ FR m_min m_max, g a15, k15, b15⟩
    have RA : Cal l.prog w K mg base 6 "rows_at" ["batches", "tests", "place"] (spRowsAt K ⟨[P15], []⟩ [P15] P15) := ⟨_, _, ok_RowsAt F16 TE FA m_BAD m_GOOD m_zip, g a16, k16, b16⟩
    have SU : Cal l.prog w K mg base 7 "suspects" ["batches", "tests"] (spSusp K ⟨[P15], []⟩ [P15] P15) := ⟨_, _, ok_Susp F17 PP RA, g a17, k17, b17⟩
    have CE : Cal l.prog w K mg base 1 "_law_cells" ["_law_script", "_law_many"] (spCells K) := ⟨_, _, ok_Cells F21 m_list m_enumerate, g a21, k21, b21⟩
    have BX : Cal l.prog w K mg base 1 "_law_box" ["_law_script", "_law_k"] spBox := ⟨_, _, ok_Box F22 m_len m_abs m_int, g a22, k22, b22⟩
    have TB : Cal l.prog w K mg base 1 "_law_take" ["_law_box_here", "_law_many"] spTakeB := ⟨_, _, ok_Take F23 m_divmod, g a23, k23, b23⟩
    have NA : Cal l.prog w K mg base 2 "_law_names" ["_law_box_here", "_law_many"] spNames3 := ⟨_, _, ok_Names F25 TB m_range m_len, g a25, k25, b25⟩
    have MK : Cal l.prog w K mg base 2 "_law_marks" ["_law_box_here", "_law_many"] spMarks3 := ⟨_, _, ok_Marks F26 TB m_range m_len, g a26, k26, b26⟩
    have SH : Cal l.prog w K mg base 2 "_law_shuffled" ["_law_box_here", "_law_things"] (spShuf K) := ⟨_, _, ok_Shuf F27 TB m_list m_len m_range, g a27, k27, b27⟩
    have LW : Cal l.prog w K mg base 1 "_law_window" ["_law_batch", "_law_place", "_law_tin"] spLWin := ⟨_, _, ok_LWin F28, g a28, k28, b28⟩
    have OP : Cal l.prog w K mg base 1 "pass_at" ["batch", "place"] Old.spPassAt := ⟨_, _, Old.ok_passat F2, g a2, k2, b2⟩
    have OC : Cal l.prog w K mg base 1 "count_ahead" ["tins", "line", "minute"] Old.spCnt := ⟨_, _, Old.ok_cnt F4 m_min, g a4, k4, b4⟩
    have OL : Cal l.prog w K mg base 2 "tins_on_line" ["tins", "line", "first", "last"] Old.spOnLine := ⟨_, _, Old.ok_onLine F5 OC SO, g a5, k5, b5⟩
    have OR : Cal l.prog w K mg base 1 "tins_of_rack" ["tins", "per", "rack"] Old.spRack := ⟨_, _, Old.ok_rack F6 m_min, g a6, k6, b6⟩
    have OS : Cal l.prog w K mg base 2 "tins_in_stays" ["tins", "racked", "first", "last"] Old.spStays := ⟨_, _, Old.ok_stays F7 OR SO m_enumerate, g a7, k7, b7⟩
    have OT : Cal l.prog w K mg base 3 "tins_at" ["batch", "place", "first", "last"] Old.spTinsAt := ⟨_, _, Old.ok_tinsAt F8 OP OL OS m_LINE, g a8, k8, b8⟩
    have SW : Cal l.prog w K mg base 1 "set_of" ["pairs"] (spSetOfW K) := ⟨_, _, ok_setofW F0 m_sorted m_max, g a0, k0, b0⟩
    have R1 : Cal l.prog w K mg base 4 "tins_reached" ["batch", "fault"] spReach1 := ⟨_, _, ok_Reach1 F10 OT, g a10, k10, b10⟩
    have RD : Cal l.prog w K mg base 5 "reached" ["batches", "faults"] (spReached K) := ⟨_, _, ok_Reached F11 R1 SW, g a11, k11, b11⟩
    have CR : Cal l.prog w K mg base 8 "can_reach" ["batches", "tests"] (spCan K ⟨[P15], []⟩ [P15] P15) := ⟨_, _, ok_Can F18 RD SU, g a18, k18, b18⟩
    have BO : Cal l.prog w K mg base 1 "both_of" ["one", "other"] (spBoth K) := ⟨_, _, ok_both F1 m_len m_max m_min, g a1, k1, b1⟩
    have AL : Cal l.prog w K mg base 4 "tins_of_all" ["batch", "rows"] spAll := ⟨_, _, ok_All F19 BO OT, g a19, k19, b19⟩
    have MU : Cal l.prog w K mg base 8 "must_reach" ["batches", "tests"] (spMust K ⟨[P15], []⟩ [P15] P15) := ⟨_, _, ok_Must F20 SU AL, g a20, k20, b20⟩
    have SE : Cal l.prog w K mg base 2 "_law_some" ["_law_box_here", "_law_many"] spSome := ⟨_, _, ok_Some F24 TB m_range, g a24, k24, b24⟩
    have GR : Cal l.prog w K mg base 3 "_law_great" ["_law_box_here", "_law_places_here"] spGreat3 := ⟨_, _, ok_Great3 F32 MK TB SE m_int m_range, g a32, k32, b32⟩
    have LP : Cal l.prog w K mg base 1 "_law_places" ["_law_batches"] (spLPl K) := ⟨_, _, ok_LPl F33 m_sorted m_set, g a33, k33, b33⟩
    have LS : Cal l.prog w K mg base 2 "_law_windows" ["_law_batches", "_law_tests", "_law_place"] spLWins := ⟨_, _, ok_LWins F30 LW m_dict, g a30, k30, b30⟩
    have GA : Cal l.prog w K mg base 1 "_law_gaps" ["_law_windows_here"] spLGaps := ⟨_, _, ok_LGaps F31 m_sorted m_max, g a31, k31, b31⟩
    have BW : Cal l.prog w K mg base 3 "_law_by_windows" ["_law_box_here", "_law_batches", "_law_places_here"] (spByWin K) := ⟨_, _, ok_ByWin F34 SE TB SH LW m_range m_len m_sorted m_int m_all, g a34, k34, b34⟩
    have DE : Cal l.prog w K mg base 3 "_law_due" ["_law_batches", "_law_tests"] spDue3 := ⟨_, _, ok_Due3 F35 LP LS GA m_min m_max, g a35, k35, b35⟩
    have MT : Cal l.prog w K mg base 2 "_law_meets" ["_law_batch", "_law_tin", "_law_row", "_law_each"] spMeets3 := ⟨_, _, ok_Meets3 F36 LW, g a36, k36, b36⟩
    have TR : Cal l.prog w K mg base 3 "_law_told_right" ["_law_box_here", "_law_batches", "_law_due_here", "_law_told", "_law_each"] (spToldR K) := ⟨_, _, ok_ToldR F37 SE MT m_dict m_all m_any m_zip, g a37, k37, b37⟩
    have E0_ : Cal l.prog w K mg base 1 "_law_same" ["_law_found", "_law_due_here"] (spSame 0) := ⟨_, _, ok_same0 F29 m_isinstance m_list m_tuple m_bool m_str m_int, g a29, k29, b29⟩
    have E1_ : Cal l.prog w K mg base 2 "_law_same" ["_law_found", "_law_due_here"] (spSame 1) := ⟨_, _, ok_sameS F29 E0_ m_isinstance m_list m_tuple m_bool m_str m_int m_len m_all m_zip, g a29, k29, b29⟩
    have E2_ : Cal l.prog w K mg base 3 "_law_same" ["_law_found", "_law_due_here"] (spSame 2) := ⟨_, _, ok_sameS F29 E1_ m_isinstance m_list m_tuple m_bool m_str m_int m_len m_all m_zip, g a29, k29, b29⟩
    have E3_ : Cal l.prog w K mg base 4 "_law_same" ["_law_found", "_law_due_here"] (spSame 3) := ⟨_, _, ok_sameS F29 E2_ m_isinstance m_list m_tuple m_bool m_str m_int m_len m_all m_zip, g a29, k29, b29⟩
    have E4_ : Cal l.prog w K mg base 5 "_law_same" ["_law_found", "_law_due_here"] (spSame 4) := ⟨_, _, ok_sameS F29 E3_ m_isinstance m_list m_tuple m_bool m_str m_int m_len m_all m_zip, g a29, k29, b29⟩
    exact ok_Law F38 CE BX NA TB GR BW DE E4_ SU TR CR MU m_len m_range
end TK
open PySem PySem.W PyProof.Rows
set_option maxHeartbeats 0 in
theorem PySem.Challenge.cw_tinrecall_k33_great_batches_holds : PySem.Challenge.rw_tinrecall_k33_great_batches.Holds := by
  w_on; o_law; k_head; (case hw => w_witness2)
  k_fill
  refine TK.law_end (l := PySem.Challenge.rw_tinrecall_k33_great_batches) (k := 9) rfl rfl ⟨rfl, by decide, by decide⟩ (fun w h Y => PySem.W.kIn_of Y) ?made
  case made =>
    intro w mg f h KX G hmg TT
    refine' TK.all_mk KX G hmg TT ?a0 ?l0 ?c0 ?k0 ?a1 ?l1 ?c1 ?k1 ?a2 ?l2 ?c2 ?k2 ?a3 ?l3 ?c3 ?k3 ?a4 ?l4 ?c4 ?k4 ?a5 ?l5 ?c5 ?k5 ?a6 ?l6 ?c6 ?k6 ?a7 ?l7 ?c7 ?k7 ?a8 ?l8 ?c8 ?k8 ?a9 ?l9 ?c9 ?k9 ?a10 ?l10 ?c10 ?k10 ?a11 ?l11 ?c11 ?k11 ?a12 ?l12 ?c12 ?k12 ?a13 ?l13 ?c13 ?k13 ?a14 ?l14 ?c14 ?k14 ?a15 ?l15 ?c15 ?k15 ?a16 ?l16 ?c16 ?k16 ?a17 ?l17 ?c17 ?k17 ?a18 ?l18 ?c18 ?k18 ?a19 ?l19 ?c19 ?k19 ?a20 ?l20 ?c20 ?k20 ?a21 ?l21 ?c21 ?k21 ?a22 ?l22 ?c22 ?k22 ?a23 ?l23 ?c23 ?k23 ?a24 ?l24 ?c24 ?k24 ?a25 ?l25 ?c25 ?k25 ?a26 ?l26 ?c26 ?k26 ?a27 ?l27 ?c27 ?k27 ?a28 ?l28 ?c28 ?k28 ?a29 ?l29 ?c29 ?k29 ?a30 ?l30 ?c30 ?k30 ?a31 ?l31 ?c31 ?k31 ?a32 ?l32 ?c32 ?k32 ?a33 ?l33 ?c33 ?k33 ?a34 ?l34 ?c34 ?k34 ?a35 ?l35 ?c35 ?k35 ?a36 ?l36 ?c36 ?k36 ?a37 ?l37 ?c37 ?k37 ?a38 ?l38 ?c38 ?k38 ?lc15 ?v15 ?nP15 ?r15 ?zc_LINE ?zc_BAD ?zc_GOOD ?z_abs ?z_all ?z_any ?z_bool ?z_dict ?z_divmod ?z_enumerate ?z_int ?z_isinstance ?z_len ?z_list ?z_max ?z_min ?z_range ?z_set ?z_sorted ?z_str ?z_tuple ?z_zip
    (case a0 => k_is); (case l0 => k_is); (case c0 => k_is); (case k0 => k_is)
    (case a1 => k_is); (case l1 => k_is); (case c1 => k_is); (case k1 => k_is)
    (case a2 => k_is); (case l2 => k_is); (case c2 => k_is); (case k2 => k_is)
    (case a3 => k_is); (case l3 => k_is); (case c3 => k_is); (case k3 => k_is)
    (case a4 => k_is); (case l4 => k_is); (case c4 => k_is); (case k4 => k_is)
    (case a5 => k_is); (case l5 => k_is); (case c5 => k_is); (case k5 => k_is)
    (case a6 => k_is); (case l6 => k_is); (case c6 => k_is); (case k6 => k_is)
    (case a7 => k_is); (case l7 => k_is); (case c7 => k_is); (case k7 => k_is)
    (case a8 => k_is); (case l8 => k_is); (case c8 => k_is); (case k8 => k_is)
    (case a9 => k_is); (case l9 => k_is); (case c9 => k_is); (case k9 => k_is)
    (case a10 => k_is); (case l10 => k_is); (case c10 => k_is); (case k10 => k_is)
    (case a11 => k_is); (case l11 => k_is); (case c11 => k_is); (case k11 => k_is)
    (case a12 => k_is); (case l12 => k_is); (case c12 => k_is); (case k12 => k_is)
    (case a13 => k_is); (case l13 => k_is); (case c13 => k_is); (case k13 => k_is)
    (case a14 => k_is); (case l14 => k_is); (case c14 => k_is); (case k14 => k_is)
    (case a15 => k_is); (case l15 => k_is); (case c15 => k_is); (case k15 => k_is)
    (case a16 => k_is); (case l16 => k_is); (case c16 => k_is); (case k16 => k_is)
    (case a17 => k_is); (case l17 => k_is); (case c17 => k_is); (case k17 => k_is)
    (case a18 => k_is); (case l18 => k_is); (case c18 => k_is); (case k18 => k_is)
    (case a19 => k_is); (case l19 => k_is); (case c19 => k_is); (case k19 => k_is)
    (case a20 => k_is); (case l20 => k_is); (case c20 => k_is); (case k20 => k_is)
    (case a21 => k_is); (case l21 => k_is); (case c21 => k_is); (case k21 => k_is)
    (case a22 => k_is); (case l22 => k_is); (case c22 => k_is); (case k22 => k_is)
    (case a23 => k_is); (case l23 => k_is); (case c23 => k_is); (case k23 => k_is)
    (case a24 => k_is); (case l24 => k_is); (case c24 => k_is); (case k24 => k_is)
    (case a25 => k_is); (case l25 => k_is); (case c25 => k_is); (case k25 => k_is)
    (case a26 => k_is); (case l26 => k_is); (case c26 => k_is); (case k26 => k_is)
    (case a27 => k_is); (case l27 => k_is); (case c27 => k_is); (case k27 => k_is)
    (case a28 => k_is); (case l28 => k_is); (case c28 => k_is); (case k28 => k_is)
    (case a29 => k_is); (case l29 => k_is); (case c29 => k_is); (case k29 => k_is)
    (case a30 => k_is); (case l30 => k_is); (case c30 => k_is); (case k30 => k_is)
    (case a31 => k_is); (case l31 => k_is); (case c31 => k_is); (case k31 => k_is)
    (case a32 => k_is); (case l32 => k_is); (case c32 => k_is); (case k32 => k_is)
    (case a33 => k_is); (case l33 => k_is); (case c33 => k_is); (case k33 => k_is)
    (case a34 => k_is); (case l34 => k_is); (case c34 => k_is); (case k34 => k_is)
    (case a35 => k_is); (case l35 => k_is); (case c35 => k_is); (case k35 => k_is)
    (case a36 => k_is); (case l36 => k_is); (case c36 => k_is); (case k36 => k_is)
    (case a37 => k_is); (case l37 => k_is); (case c37 => k_is); (case k37 => k_is)
    (case a38 => k_is); (case l38 => k_is); (case c38 => k_is); (case k38 => k_is)
    (case lc15 => k_is); (case v15 => exact rfl); (case nP15 => exact rfl); (case r15 => decide +kernel)
    (case zc_LINE => k_is)
    (case zc_BAD => k_is)
    (case zc_GOOD => k_is)
    (case z_abs => k_is); (case z_all => k_is); (case z_any => k_is); (case z_bool => k_is); (case z_dict => k_is); (case z_divmod => k_is); (case z_enumerate => k_is); (case z_int => k_is); (case z_isinstance => k_is); (case z_len => k_is); (case z_list => k_is); (case z_max => k_is); (case z_min => k_is); (case z_range => k_is); (case z_set => k_is); (case z_sorted => k_is); (case z_str => k_is); (case z_tuple => k_is); (case z_zip => k_is)

