import PyProof.Rows.All
import Wide.All
import OpenK.AllK
import Wide.FinOn
import HandS.ForMost
import HandS.WideBits
import HandS.IsInst
import HandS.Style
import HandS.AnyAll
import HandS.Nested
import HandS.Walk
import HandS.Evl
import HandS.EndTab
import HandS.SortInts
import HandS.SortRule
import HandS.Conv
import HandS.Star
import HandS.Codes
import HandS.Wide
import HandS.Zip
import HandS.DictComp
import HandS.SetFor
import HandS.SetKeys
import HandS.StrMore
import HandS.Replace
import PyProof.ReprRoads
import PyProof.ReprLen
import HandS.Small
import HandS.More
import KE.KDictPairs
import KE.GoesMore
import KE.GoesEnum
import PyProof.SumAny
import PyProof.WalksPairs
import PyProof.GenCompT
import HandS.SetKeys
import HandS.Set
import HandS.SetBool
import HandS.Comp
import HandS.Strs
import HandS.DictSub
import PySem.Challenge.RW_tinrecall_k27_packed_twice
set_option Elab.async false
set_option linter.all false
set_option maxRecDepth 100000
set_option maxHeartbeats 5000000
/-! ## sum(.. for a, b in ..): a generator expression over a list or a tuple of pairs of whole numbers -/
namespace GP
open PySem PySem.Spec PyProof.Rows L2 GxR

/-- a walk whose items are tuples that stand still -/
theorem asTuples {prog : Program} {w : World} {A : Around} {it : Addr} {foot : List Addr} {n : Nat} {Item : Nat → Value → Prop} {At : Nat → Heap → Prop} (W : Walks prog w A it foot [it] n Item At) (loc : Nat → Addr) (held : Nat → Array Value)
    (isT : ∀ j v, j < n → Item j v → v = .ref (loc j)) (apt : ∀ j, j < n → loc j ≠ it)
    (letGo : ∀ (es : List Expr) (k : Nat) (pos : Pos) (j : Nat) (T : Addr) (s : Shared) (Q : Unit → Shared → Prop) (E : Value → Shared → Prop), At j s.heap → Q () s → wpAny (model prog w) A (letOwnedTupleGo (.Tuple es k pos) (.ref it) (.ref T)) Q E s) :
    WalksU prog w A it (foot ++ (List.range n).map loc) [it] n (fun j xs => xs = held j) (fun j h => At j h ∧ ∀ m, m < n → h.IsTuple (loc m) (held m))
      (fun j T h => (j < n ∧ T = loc j) ∧ At (j + 1) h ∧ ∀ m, m < n → h.IsTuple (loc m) (held m)) := by
  have inFoot : ∀ m, m < n → loc m ∈ foot ++ (List.range n).map loc := fun m hm => List.mem_append.mpr (.inr (List.mem_map.mpr ⟨m, List.mem_range.mpr hm, rfl⟩))
  constructor
  case sub => exact fun b hb => List.mem_append.mpr (.inl (W.sub b hb))
  case frame =>
    intro j h h' ⟨a1, a2⟩ kept
    refine ⟨W.frame j h h' a1 fun b hb => kept b (List.mem_append.mpr (.inl hb)), fun m hm => ?_⟩
    obtain ⟨o, e, r⟩ := a2 m hm
    exact ⟨o, kept _ (inFoot m hm) o e, r⟩
  case item =>
    intro j s Q E hj ⟨a1, a2⟩ fin
    refine W.item j s Q E hj a1 fun v h' tk hv a1' kept => ?_
    have still : ∀ m, m < n → h'.IsTuple (loc m) (held m) := fun m hm => by
      obtain ⟨o, e, r⟩ := a2 m hm
      exact ⟨o, kept _ o (fun z => apt m hm (List.mem_singleton.mp z)) e, r⟩
    rw [isT j v hj hv]
    exact fin (loc j) (held j) h' tk rfl (still j hj) ⟨⟨hj, rfl⟩, a1', still⟩ kept
  case go =>
    intro es k pos j T s Q E hm fin
    exact letGo es k pos (j + 1) T s Q E hm.2.1 (fin s.heap hm.2 fun _ _ _ e => e)
  case apart =>
    intro j T h hm z
    rw [hm.1.2] at z
    exact apt j hm.1.1 (List.mem_singleton.mp z)
  case done => exact fun s Q E a fin => W.done s Q E a.1 fin
  case self => exact fun j s Q E a fin => W.self j s Q E a.1 fin

/-- the values vs are tuples that hold the pairs ps -/
def Prs (H : Hp) (vs : List V) (ps : List (Int × Int)) : Prop := vs.length = ps.length ∧ ∀ (i : Nat) p, ps[i]? = some p → ∃ a, vs[i]? = some (.ref a) ∧ H a = some (.tup [.int p.1, .int p.2])

/-- what is asked of the expression's own scope: the two names are its locals, its captured names are the def's -/
def OwnScope (env : Env) (sc : Scope) (xa xb : Str) : Prop :=
  (sc.kind = .function ∧ sc.isCoroutine = false ∧ xa ≠ xb) ∧ (sc.names.lookup (".0" : Str) = some .local ∧ sc.names.lookup xa = some .local ∧ sc.names.lookup xb = some .local) ∧
  (∀ y ∈ sc.names, y.2 ≠ NameKind.cell) ∧ ∀ y ∈ sc.names, y.2 = NameKind.free → ∃ c, env.cells.lookup y.1 = some c

section
variable {X : Cx} {s : Shared} {H : Hp} {σ : L2.St} {pins : List (Addr × Obj)}
/-- a tracked pair in the machine's heap -/
theorem pair_in {T : Addr} {p : Int × Int} (I : Inv X pins σ H s) (e : H T = some (.tup [.int p.1, .int p.2])) : ∃ ta tb, s.heap.IsTuple T #[.int p.1 ta, .int p.2 tb] := by
  obtain ⟨_, its, r, t⟩ := I.hok T _ e
  cases r with
  | cons q1 r =>
    cases r with
    | cons q2 r =>
      cases r
      obtain ⟨ta, rfl⟩ := q1
      obtain ⟨tb, rfl⟩ := q2
      exact ⟨ta, tb, t⟩
/-- the pairs by place: where they stand and what they hold -/
theorem pairs_in {vs : List V} {ps : List (Int × Int)} {its : List Value} (I : Inv X pins σ H s) (hp : Prs H vs ps) (r : Vals vs its) :
    ∃ (loc : Nat → Addr) (held : Nat → Array Value), ∀ j, j < ps.length → its[j]? = some (.ref (loc j)) ∧ s.heap.IsTuple (loc j) (held j) ∧ ∃ p ta tb, ps[j]? = some p ∧ held j = #[.int p.1 ta, .int p.2 tb] := by
  have one : ∀ j, ∃ (T : Addr) (xs : Array Value), j < ps.length → its[j]? = some (.ref T) ∧ s.heap.IsTuple T xs ∧ ∃ p ta tb, ps[j]? = some p ∧ xs = #[.int p.1 ta, .int p.2 tb] := fun j => by
    by_cases hj : j < ps.length
    · obtain ⟨T, e1, e2⟩ := hp.2 j ps[j] (List.getElem?_eq_getElem hj)
      obtain ⟨u, eu, ru⟩ := r.get e1
      cases ru
      obtain ⟨ta, tb, t⟩ := pair_in I e2
      exact ⟨T, _, fun _ => ⟨eu, t, ps[j], ta, tb, List.getElem?_eq_getElem hj, rfl⟩⟩
    · exact ⟨0, #[], fun z => absurd z hj⟩
  exact ⟨fun j => (one j).choose, fun j => (one j).choose_spec.choose, fun j hj => (one j).choose_spec.choose_spec hj⟩

/-- what a walk over the pairs is, begun at the new iterator that o is -/
def Begun (X : Cx) (s : Shared) (P : Addr) (ps : List (Int × Int)) (o : Obj) : Prop :=
  ∃ (foot : List Addr) (Hold : Nat → Array Value → Prop) (At : Nat → Heap → Prop) (Mid : Nat → Addr → Heap → Prop),
    (∀ A' : Around, A'.handled = none → WalksU X.prog X.w A' s.heap.objs.size foot [s.heap.objs.size] ps.length (fun j xs => j < ps.length ∧ Hold j xs) At Mid) ∧
    (∀ j xs, j < ps.length → Hold j xs → ∃ p ta tb, ps[j]? = some p ∧ xs = #[.int p.1 ta, .int p.2 tb]) ∧ At 0 (s.heap.push o) ∧ ∀ b ∈ foot, b < s.heap.objs.size + 1 ∧ b ≠ P
theorem begin_pairs {a P : Addr} {vs : List V} {ps : List (Int × Int)} {tb : Array Value} {Q' : Value → Shared → Prop} (I : Inv X pins σ H s) (hS : SqL X.K H a vs ∨ SqT X.K H a vs) (hp : Prs H vs ps) (hP : H P = some (.tbl tb))
    (fin : ∀ o, Begun X s P ps o → Q' (.ref s.heap.objs.size) { s with heap := s.heap.push o }) : wpAny (model X.prog X.w) X.A (pyIter (.ref a)) Q' X.xe s := by
  have hPo : s.heap.get? P = some { cls := .none, data := .fields tb } := I.hok P _ hP
  have notP : ∀ (b : Addr) (o : Obj) (xs : Array Value) (n : Nat), s.heap.get? b = some o → o.data = .seq xs n → b ≠ P := fun b o xs n e d z => by
    rw [z, hPo] at e
    rw [← Option.some.inj e] at d
    cases d
  have newP : s.heap.objs.size ≠ P := fun z => Nat.lt_irrefl _ (Nat.lt_of_lt_of_eq (Heap.lt_size hPo) z)
  -- from a walk over the items to the pairs
  have mk : ∀ (its : List Value) (o : Obj) (At : Nat → Heap → Prop), Vals vs its → a < s.heap.objs.size → a ≠ P → At 0 (s.heap.push o) →
      (∀ A' : Around, A'.handled = none → Walks X.prog X.w A' s.heap.objs.size [s.heap.objs.size, a] [s.heap.objs.size] its.toArray.size (fun i v => its.toArray[i]? = some v) At) →
      (∀ (A' : Around) (es : List Expr) (k : Nat) (pos : Pos) (j : Nat) (T : Addr) (s' : Shared) (Q : Unit → Shared → Prop) (E : Value → Shared → Prop), At j s'.heap → Q () s' → wpAny (model X.prog X.w) A' (letOwnedTupleGo (.Tuple es k pos) (.ref s.heap.objs.size) (.ref T)) Q E s') →
      Begun X s P ps o := by
    intro its o At r ha haP a0 W go
    obtain ⟨loc, held, hl⟩ := pairs_in I hp r
    have ln : its.toArray.size = ps.length := by rw [List.size_toArray, ← r.length, hp.1]
    have below : ∀ m, m < ps.length → loc m < s.heap.objs.size ∧ loc m ≠ P := fun m hm => by
      obtain ⟨_, ⟨ob, e, _, n, d⟩, _⟩ := hl m hm
      exact ⟨Heap.lt_size e, notP _ _ _ _ e d⟩
    refine ⟨_, _, _, _, fun A' hA => (asTuples (ln ▸ W A' hA) loc held (fun j v hj e => ?_) (fun j hj => Nat.ne_of_lt (below j hj).1) (fun es k pos j T s' Q E => go A' es k pos j T s' Q E)).bound, fun j xs hj e => ?_, ⟨a0, fun m hm => ?_⟩, fun b hb => ?_⟩
    · have e2 : its[j]? = some v := by simpa using e
      rw [(hl j hj).1] at e2
      exact (Option.some.inj e2).symm
    · obtain ⟨_, _, p, ta, tb', e1, e2⟩ := hl j hj
      exact ⟨p, ta, tb', e1, (show xs = held j from e).trans e2⟩
    · obtain ⟨_, ⟨ob, e, rest⟩, _⟩ := hl m hm
      exact ⟨ob, Heap.get?_push_of_some _ e, rest⟩
    · rcases List.mem_append.mp hb with z | z
      · rcases List.mem_cons.mp z with e | e
        · rw [e]; exact ⟨Nat.lt_succ_self _, newP⟩
        · rw [List.mem_singleton.mp e]; exact ⟨Nat.lt_succ_of_lt ha, haP⟩
      · obtain ⟨m, hm, e⟩ := List.mem_map.mp z
        obtain ⟨h1, h2⟩ := below m (List.mem_range.mp hm)
        rw [← e]; exact ⟨Nat.lt_succ_of_lt h1, h2⟩
  rcases hS with hS | hS
  · obtain ⟨its, r, hl, _⟩ := I.list hS
    obtain ⟨o, e, c, n, d⟩ := hl.isList
    refine wpAny_pyIter_list hl.isList (fin _ (mk its _ _ r (Heap.lt_size e) (notP _ _ _ _ e d) ⟨⟨_, Heap.get?_push_size _ rfl, rfl, rfl⟩, ⟨o, Heap.get?_push_of_some _ e, c, n, d⟩⟩ (fun A' hA => Walks.list hA _ a (Nat.ne_of_lt (Heap.lt_size e)) its.toArray) ?_))
    exact fun A' es k pos j T s' Q E at_ q => wpAny_letOwnedTupleGo_listiter at_.1 q
  · obtain ⟨its, r, ⟨o, e, c, n, d⟩, _⟩ := I.tuple hS
    refine wpAny_pyIter_tuple (items := its.toArray) ⟨o, e, c, n, d⟩ (fin _ (mk its _ _ r (Heap.lt_size e) (notP _ _ _ _ e d) ⟨⟨_, Heap.get?_push_size _ rfl, rfl, rfl⟩, ⟨o, Heap.get?_push_of_some _ e, c, n, d⟩⟩ (fun A' hA => Walks.tuple hA _ a (Nat.ne_of_lt (Heap.lt_size e)) its.toArray) ?_))
    exact fun A' es k pos j T s' Q E at_ q => letGo_tupleiter at_.1 q

/-- the expression's code object is made, or found: the table may grow, all else stands -/
theorem code_there {c P : Addr} {gpos : Pos} {qual : Str} {sc : Scope} {tb : Array Value} {Q' : Value → Shared → Prop} {E : Value → Shared → Prop} (hcode : X.env.code = .ref c) (C : PySem.W.CodeHd s.heap c P) (hP : s.heap.get? P = some { cls := .none, data := .fields tb }) (ok : TriplesOk tb.toList)
    (fin : ∀ (code : Value) (h' : Heap) (tk : Nat) (more : Array Value), Heap.ExtBut P s.heap h' → s.heap.objs.size ≤ h'.objs.size → h'.get? P = some { cls := .none, data := .fields (tb ++ more) } → TriplesOk (tb ++ more).toList → Q' code { s with heap := h', toks := tk }) :
    wpAny (model X.prog X.w) X.A (genexprCode X.env gpos qual sc) Q' E s := by
  cases found : codeAmong gpos tb.toList with
  | some old =>
    refine wpAny_genexprCode_hit hcode (C.code hP ok) found ?_
    have e : tb ++ #[] = tb := by simp
    exact fin old s.heap s.toks #[] (Heap.ExtBut.refl _ _) (Nat.le_refl _) (by rw [e]; exact hP) (by rw [e]; exact ok)
  | none =>
    refine wpAny_genexprCodeX hcode (C.code hP ok) (C.tab hP) found fun c' h' tk ext le lt isC _ tab _ => ?_
    obtain ⟨_, _, _, _, _, _, _, _, _, _, _, _, _, _, _, _, _, _, _, okT, _⟩ := isC
    exact fin _ h' tk _ ext (Nat.le_trans le (Nat.le_of_lt lt)) tab.2 okT

/-- the element at a pair of whole numbers: what it gives, wherever the expression runs later -/
def EltAt (X : Cx) (s₁ : Shared) (P : Addr) (sc : Scope) (xa xb : Str) (elt : Expr) (Gives : Int → Int → Value → Prop) : Prop :=
  ∀ (L : Addr) (code : Value) (A' : Around) (E' : Value → Shared → Prop) (a b : Int) (ta tb : Tok) (s₂ : Shared) (m : Str → Option Value), A'.handled = none →
    (∀ x o, x ≠ P → s₁.heap.get? x = some o → s₂.heap.get? x = some o) → s₂.heap.Ns L m → m xa = some (.int a ta) → m xb = some (.int b tb) →
    wpAny (model X.prog X.w) A' (eval elt (genEnv sc (cloFrom X.env.cells sc.names []) L code builtinsNs X.env)) (fun y s₃ => Gives a b y ∧ Keeps s₂ s₃) E' s₂

/-- the generator at g, in the state s₅, before its first item; H₁: what was held when it was made -/
def Fresh (X : Cx) (pins : List (Addr × Obj)) (σ : L2.St) (H₁ : Hp) (P : Addr) (ps : List (Int × Int)) (Gives : Int → Int → Value → Prop) (g : Addr) (s₅ : Shared) : Prop :=
  ∃ (foot writes : List Addr) (Gens : Array GenState → Array GenState → Prop) (Item : Nat → Value → Prop) (At : Nat → Shared → Prop),
    (WalksS X.prog X.w X.A.in1 g foot writes Gens ps.length Item At ∧ At 0 s₅ ∧ ∀ b ∈ foot, b < s₅.heap.objs.size) ∧
    (∀ j v, Item j v → ∃ p, ps[j]? = some p ∧ Gives p.1 p.2 v) ∧ ∀ s₆, Moved writes Gens s₅ s₆ → ∃ H₂, Tabbed P H₁ H₂ ∧ Inv X pins σ H₂ s₆

theorem gen_made {c P : Addr} {elt iter : Expr} {xa xb : Str} {pa pb pt gpos : Pos} {kt : Nat} {sc : Scope} {te : TE} {k : Nat} {Q' : Value → Shared → Prop} {Want : List (Int × Int) → Hp → Prop} {Gives : Int → Int → Value → Prop}
    (room : Room k X.A) (TB : TabB X.base X.mg c P) (hcode : X.env.code = .ref c) (own : OwnScope X.env sc xa xb) (walked : PE X iter te) (plain : ∀ v, genFold iter X.env v = pure v) (I : Inv X pins σ H s)
    (each : ∀ s₁ H₁, Inv X pins σ H₁ s₁ → TabG H₁ P → EltAt X s₁ P sc xa xb elt Gives)
    (h : te σ H fun v H₁ => ∃ (a : Addr) (vs : List V) (ps : List (Int × Int)), v = .ref a ∧ (SqL X.K H₁ a vs ∨ SqT X.K H₁ a vs) ∧ Prs H₁ vs ps ∧ TabG H₁ P ∧ Want ps H₁)
    (fin : ∀ ps H₁ g s₅, Want ps H₁ → Fresh X pins σ H₁ P ps Gives g s₅ → Q' (.ref g) s₅) :
    wpAny (model X.prog X.w) X.A (eval (.GeneratorExp elt [⟨.Tuple [.Name xa pa, .Name xb pb] kt pt, iter, [], 0⟩] sc gpos) X.env) Q' X.xe s := by
  obtain ⟨⟨o1, o2, o3⟩, ⟨o4, o5, o6⟩, o7, o8⟩ := own
  have deep : X.A.depth < recursionLimit := by have := room.dp; omega
  refine wpAny_GeneratorExp_walksQT room.hd o2 (closure_ok o8) o7 o4 o5 o6 o3 o1 deep (thn (walked.run pins s σ H _ I h) fun u s₁ had => ?_) plain
  obtain ⟨_, H₁, I₁, rel, a, vs, ps, rfl, hS, hp, ⟨tb, hP, ok⟩, want⟩ := had
  cases rel
  have tabAt : s₁.heap.get? P = some { cls := .none, data := .fields tb } := I₁.hok P _ hP
  refine begin_pairs I₁ hS hp hP fun o beg => ?_
  obtain ⟨foot, Hold, At, Mid, W, holds, at0, low⟩ := beg
  have statics : cStatics < s₁.heap.objs.size ∧ cStatics ≠ P := by
    obtain ⟨_, ns, _⟩ := I₁.nolimit
    refine ⟨ns.lt, fun z => ?_⟩
    obtain ⟨ob, _, _, e, d, _⟩ := ns
    rw [z, tabAt] at e
    rw [← Option.some.inj e] at d
    cases d
  have quiet : (s₁.heap.push o).NoLimit := I₁.nolimit.push o
  refine ⟨quiet, code_there hcode (TB.code.keeps fun b u e => Heap.get?_push_of_some _ (I₁.bk b u e)) (Heap.get?_push_of_some _ tabAt) ok fun code h₃ tk more ext le tab₃ ok₃ => ?_⟩
  rw [Heap.size_push] at le
  have stays : ∀ b u, b ≠ P → s₁.heap.get? b = some u → h₃.get? b = some u := fun b u hb e => ext b u hb (Heap.get?_push_of_some _ e)
  obtain ⟨bm, ob, f1, f2, f3, f4, f5, f6, f7, f8⟩ := TB.bm
  have globals : Heap.Ns h₃ X.env.globals X.mg := by
    rw [I₁.ok.glob]
    exact ((I₁.mod.glob.keeps I₁.bk).push o).extBut ext TB.gP
  refine wpAny_builtinsFor (m := X.mg) globals f1 f2 (stays bm ob f4 (I₁.bk bm ob f5)) f6 f7 f8 ?_
  have later : ∀ b u, s₁.heap.get? b = some u → b ∉ [h₃.objs.size, s₁.heap.objs.size] := fun b u e z => by
    have lt := Heap.lt_size e
    rcases List.mem_cons.mp z with z' | z'
    · exact Nat.lt_irrefl _ (Nat.lt_of_lt_of_le (z' ▸ lt) (Nat.le_of_succ_le le))
    · exact Nat.lt_irrefl _ (List.mem_singleton.mp z' ▸ lt)
  refine ⟨_, _, _, _, _, _, _, fun _ => true, fun i y => i < ps.length → ∃ p, ps[i]? = some p ∧ Gives p.1 p.2 y, rfl, W, fun i xs hx => ?_, ?_, fun b hb => Nat.lt_of_lt_of_le (low b hb).1 le, quiet.extBut ext statics.2, fun z => Nat.ne_of_lt statics.1 (List.mem_singleton.mp z), fun ref kept => ⟨?_, ?_⟩, ?_⟩
  · obtain ⟨p, ta, tb', _, e⟩ := holds i xs hx.1 hx.2
    exact ⟨_, _, e⟩
  · exact (W X.A room.hd).frame _ _ _ at0 fun b hb u e => ext b u (low b hb).2 e
  · intro A' E' i va vb s₂ m _ _ _ _ _ _
    rw [List.forIn_nil]
    exact wpAny_pure ⟨rfl, _, _, rfl, fun _ _ e => e⟩
  · intro A' E' i va vb s₂ m calm hx _ ns ea eb still
    obtain ⟨p, ta, tb', ep, e⟩ := holds i _ hx.1 hx.2
    have e1 : va = .int p.1 ta := by have z := congrArg (·[0]?) e; simpa using z
    have e2 : vb = .int p.2 tb' := by have z := congrArg (·[1]?) e; simpa using z
    subst e1 e2
    refine wpAny_mono (each s₁ H₁ I₁ ⟨tb, hP, ok⟩ _ code A' E' p.1 p.2 ta tb' s₂ m calm (fun b u hb q => ?_) ns ea eb) (fun y s₃ r => ⟨fun _ => ⟨p, ep, r.1⟩, r.2⟩) fun _ _ q => q
    have q3 := stays b u hb q
    exact still b (List.mem_range.mpr (Heap.lt_size q3)) (fun z => later b u q (List.mem_cons_of_mem _ z)) u (kept b u q3)
  · intro g h₅ tk₅ gs bare above size kept W₅ at₅
    rw [GxR.passing_true, List.length_range] at W₅
    have above' : h₃.objs.size < g := above
    have size' : h₅.objs.size = g + 1 := size
    refine fin ps H₁ g _ want ⟨_, _, _, _, _, ⟨W₅.in4_1, at₅, fun b hb => ?_⟩, fun j v it => ?_, fun s₆ mv => ?_⟩
    · show b < h₅.objs.size
      rw [size']
      rcases List.mem_cons.mp hb with eg | e
      · rw [eg]; exact Nat.lt_succ_self g
      · refine Nat.lt_succ_of_le (Nat.le_trans ?_ (Nat.le_of_lt above'))
        rcases List.mem_cons.mp e with e' | e'
        · rw [e']; exact Nat.le_refl _
        · exact Nat.le_of_lt (List.mem_range.mp e')
    · obtain ⟨i, ei, hg⟩ := it
      have lt : j < ps.length := by
        have z := (List.getElem?_eq_some_iff.mp ei).1
        rwa [List.length_range] at z
      rw [List.getElem?_range lt] at ei
      cases ei
      exact hg lt
    · have all : ∀ b u, b ≠ P → s₁.heap.get? b = some u → s₆.heap.get? b = some u := fun b u hb e => mv.heap b u (later b u e) (kept b u (stays b u hb e))
      have tab₆ := mv.heap P _ (later P _ tabAt) (kept P _ tab₃)
      have J := inv_tab (more := more) (d' := s₆.drawn) (t' := s₆.toks) I₁ hP all tab₆ (AllBare.movedS (I₁.bare.push bare) mv)
      rw [sh_eta s₁ s₆ mv.os] at J
      exact ⟨_, ⟨⟨tb ++ more, upd_same, ok₃⟩, fun b hb => upd_ne hb⟩, J⟩

/-- the sum of g over the pairs -/
def sumP (g : Int → Int → Int) (ps : List (Int × Int)) : Int := (ps.map fun p => g p.1 p.2).sum
theorem preSum_is (g : Int → Int → Int) (ps : List (Int × Int)) (val : Nat → Int) (h : ∀ i p, ps[i]? = some p → val i = g p.1 p.2) : ∀ n, n ≤ ps.length → preSum val n = sumP g (ps.take n)
  | 0, _ => rfl
  | n + 1, hn => by
    have e : ps[n]? = some ps[n] := List.getElem?_eq_getElem hn
    show preSum val n + val n = _
    rw [preSum_is g ps val h n (by omega), h n _ e]
    unfold sumP
    rw [List.take_add_one, e, List.map_append, List.sum_append]
    show _ = _ + (g ps[n].1 ps[n].2 + 0)
    rw [Int.add_zero]
/-- what the reading of sum(..), any(..) over pairs asks: what is captured (Cap), the pairs, the table; then the answer -/
def tOver {α : Type} (K : PySem.W.Frag) (P : Addr) (Cap : L2.St → α → Prop) (ans : α → List (Int × Int) → V) (te : TE) : TE := fun σ H Q => ∃ x : α, Cap σ x ∧ te σ H fun v H₁ => ∃ (a : Addr) (vs : List V) (ps : List (Int × Int)), v = .ref a ∧ (SqL K H₁ a vs ∨ SqT K H₁ a vs) ∧ Prs H₁ vs ps ∧ TabG H₁ P ∧
  ∀ H₂, Tabbed P H₁ H₂ → Q (ans x ps) H₂
/-- how a built-in takes a generator over pairs -/
def Takes2 (X : Cx) (name : String) (Gives : Int → Int → Value → Prop) (ans : List (Int × Int) → V) : Prop :=
  ∀ (pins : List (Addr × Obj)) (σ : L2.St) (P : Addr) (ps : List (Int × Int)) (H₁ : Hp) (gen : Addr) (s₅ : Shared) (Q : VK), Fresh X pins σ H₁ P ps Gives gen s₅ → (∀ H₂, Tabbed P H₁ H₂ → Q (ans ps) H₂) →
    wpAny (model X.prog X.w) X.A (call (.builtin name) [.ref gen]) (EP X pins σ Q) X.xe s₅
theorem pe_over {α : Type} {name : String} {x : Str} {c P : Addr} {elt iter : Expr} {xa xb : Str} {pa pb pt p pos gpos : Pos} {kt : Nat} {sc : Scope} {Cap : L2.St → α → Prop} {Gives : α → Int → Int → Value → Prop} {ans : α → List (Int × Int) → V} {te : TE} {k : Nat} (takes : ∀ y, Takes2 X name (Gives y) (ans y))
    (room : Room k X.A) (glob : Gl X x) (free : X.mg x = none) (bltn : bootBuiltins x = some (.builtin name)) (TB : TabB X.base X.mg c P) (hcode : X.env.code = .ref c) (own : OwnScope X.env sc xa xb) (walked : PE X iter te)
    (each : ∀ pins σ s₁ H₁ y, Inv X pins σ H₁ s₁ → TabG H₁ P → Cap σ y → EltAt X s₁ P sc xa xb elt (Gives y)) (plain : ∀ v, genFold iter X.env v = pure v) (n1 : x ≠ "__name__" := by decide) (n2 : (x == ("__debug__" : Str)) = false := by decide)
    (one : starEach [.GeneratorExp elt [⟨.Tuple [.Name xa pa, .Name xb pb] kt pt, iter, [], 0⟩] sc gpos] X.env = [(false, eval (.GeneratorExp elt [⟨.Tuple [.Name xa pa, .Name xb pb] kt pt, iter, [], 0⟩] sc gpos) X.env)] := by rfl) :
    PE X (.Call (.Name x p) [.GeneratorExp elt [⟨.Tuple [.Name xa pa, .Name xb pb] kt pt, iter, [], 0⟩] sc gpos] [] pos) (tOver X.K P Cap ans te) := by
  constructor
  intro pins s σ H Q I h
  obtain ⟨y, cap, h⟩ := h
  refine wpAny_Call_Name_kw (ld_blt I glob free bltn (callWith_builtin1 ?_ one (by rfl)) n1 n2)
  rw [one]
  refine Calls.spliced_cons (gen_made (Want := fun ps H₁ => ∀ H₂, Tabbed P H₁ H₂ → Q (ans y ps) H₂) (Gives := Gives y) room TB hcode own walked plain I (fun s₁ H₁ J g => each pins σ s₁ H₁ y J g cap) h fun ps H₁ gen s₅ want fresh => Calls.spliced_nil ?_)
  exact takes y pins σ P ps H₁ gen s₅ Q fresh want
theorem takes_sum (g : Int → Int → Int) : Takes2 X "sum" (fun a b y => ∃ t, y = .int (g a b) t) (fun ps => .int (sumP g ps)) := by
  intro pins σ P ps H₁ gen s₅ Q fresh want
  obtain ⟨foot, writes, Gens, Item, At, ⟨W, a0, low⟩, items, behind⟩ := fresh
  let val : Nat → Int := fun i => (ps[i]?.map fun p => g p.1 p.2).getD 0
  have hv : ∀ i p, ps[i]? = some p → val i = g p.1 p.2 := fun i p e => by show (ps[i]?.map _).getD 0 = _; rw [e]; rfl
  refine call_sum_walkAnyS (W.self 0 _ _ _ a0 ⟨gen, foot, writes, Gens, ps.length, Item, At, val, rfl, W, a0, low, fun i v it => ?_, fun s₆ t mv => ?_⟩)
  · obtain ⟨p, e, t, ev⟩ := items i v it
    exact ⟨t, by rw [hv i p e]; exact ev⟩
  · obtain ⟨H₂, tabbed, J⟩ := behind s₆ mv
    refine ⟨.int (preSum val ps.length), H₂, J, ⟨t, rfl⟩, ?_⟩
    rw [preSum_is g ps val hv ps.length (Nat.le_refl _), List.take_length]
    exact want H₂ tabbed
def anyP (g : Int → Int → Bool) (ps : List (Int × Int)) : Bool := ps.any fun p => g p.1 p.2
theorem any_is {α : Type} (ps : List α) (f : α → Bool) (tr : Nat → Bool) (h : ∀ i p, ps[i]? = some p → tr i = f p) : (List.range ps.length).any tr = ps.any f := by
  rw [Bool.eq_iff_iff, List.any_eq_true (l := List.range _), List.any_eq_true]
  constructor
  · rintro ⟨i, hi, e⟩
    have lt := List.mem_range.mp hi
    exact ⟨ps[i], List.getElem_mem lt, by rw [← h i _ (List.getElem?_eq_getElem lt)]; exact e⟩
  · rintro ⟨p, hp, e⟩
    obtain ⟨i, lt, rfl⟩ := List.getElem_of_mem hp
    exact ⟨i, List.mem_range.mpr lt, by rw [h i _ (List.getElem?_eq_getElem lt)]; exact e⟩
theorem takes_any (g : Int → Int → Bool) : Takes2 X "any" (fun a b y => y = .bool (g a b)) (fun ps => .bl (anyP g ps)) := by
  intro pins σ P ps H₁ gen s₅ Q fresh want
  obtain ⟨foot, writes, Gens, Item, At, ⟨W, a0, low⟩, items, behind⟩ := fresh
  let tr : Nat → Bool := fun i => (ps[i]?.map fun p => g p.1 p.2).getD false
  have ht : ∀ i p, ps[i]? = some p → tr i = g p.1 p.2 := fun i p e => by show (ps[i]?.map _).getD false = _; rw [e]; rfl
  refine call_any_walkS (W.self 0 _ _ _ a0 ⟨gen, foot, writes, Gens, ps.length, Item, At, tr, rfl, W, a0, fun i v s' Q' E' it q => ?_, fun s₆ mv => ?_⟩)
  · obtain ⟨p, e, rfl⟩ := items i v it
    rw [ht i p e] at q
    exact wpAny_truthy_bool q
  · obtain ⟨H₂, tabbed, J⟩ := behind s₆ mv
    refine ⟨.bl _, H₂, J, rfl, ?_⟩
    rw [any_is ps (fun p => g p.1 p.2) tr ht]
    exact want H₂ tabbed
/-- a whole number that the expression captures, as its cell has it -/
theorem captured {i : Nat} {y : Str} {n : Int} {P : Addr} (I : Inv X pins σ H s) (hN : X.N[i]? = some y) (hk : X.env.scope.names.lookup y = some .cell) (hv : σ[i]? = some (some (.int n))) (g : TabG H P) :
    ∃ c t, X.env.cells.lookup y = some c ∧ s.heap.IsCell c (some (.int n t)) ∧ c ≠ P := by
  obtain ⟨tb, hP, _⟩ := g
  obtain ⟨m, _, look⟩ := I.loc
  obtain ⟨u, ⟨t, rfl⟩, l⟩ := look i y _ hN hv (.inr (.inl hk))
  rcases l with ⟨z, _⟩ | ⟨_, c, e, o, ho, hd⟩
  · rw [show X.env.kindOf y = some .cell from hk] at z
    cases z
  · refine ⟨c, t, e, ⟨o, ho, hd⟩, fun z => ?_⟩
    rw [z, I.hok P _ hP] at ho
    rw [← Option.some.inj ho] at hd
    cases hd
/-- the names of the module and the built-in ones, where the expression runs -/
theorem names_in {P : Addr} {s₂ : Shared} (I : Inv X pins σ H s) (g : TabG H P) (gP : mainGlobals ≠ P) (kept : ∀ x o, x ≠ P → s.heap.get? x = some o → s₂.heap.get? x = some o) :
    s₂.heap.Ns mainGlobals X.mg ∧ ∃ mb, s₂.heap.Ns builtinsNs mb ∧ ∀ x : Str, x ≠ "__name__" → mb x = bootBuiltins x := by
  obtain ⟨tb, hP, _⟩ := g
  obtain ⟨mb, b1, b2⟩ := I.mod.blt
  have at_ : ∀ b m, b ≠ P → s.heap.Ns b m → s₂.heap.Ns b m := fun b m hb ⟨o, es, ep, ho, r⟩ => ⟨o, es, ep, kept b o hb ho, r⟩
  refine ⟨at_ _ _ gP (I.mod.glob.keeps I.bk), mb, at_ _ _ (fun z => ?_) (b1.keeps I.bk), b2⟩
  obtain ⟨o, es, ep, ho, hd, _⟩ := b1.keeps I.bk
  rw [z, I.hok P _ hP] at ho
  rw [← Option.some.inj ho] at hd
  cases hd
end
end GP

namespace TK
open PySem PySem.Spec PyProof.Rows L2 GP
def topS (i : Nat) : Stmt := PySem.Challenge.pw_tinrecall_k27_packed_twice.main.body.getD i (.Pass ⟨0, 0, 0, 0⟩)

/-- the draws' state: its dict at d, its cells at c -/
structure StAt (H : Hp) (d c : Addr) (t : Int) : Prop where
  dict : H d = some (.dK [(.inr "cells", .ref c), (.inr "turn", .int t)])
  cells : ∃ cs : List Int, H c = some (.lst (cs.map V.int)) ∧ cs ≠ [] ∧ cs.length ≤ 63
  pos : 0 ≤ t
theorem StAt.ne {H : Hp} {d c : Addr} {t : Int} (h : StAt H d c t) : d ≠ c := by
  obtain ⟨cs, hc, _⟩ := h.cells
  exact ne_of h.dict hc (by intro z; cases z)
/-- all but the state is as it was -/
def Kp (d c : Addr) (H H' : Hp) : Prop := ∀ b o, b ≠ d → b ≠ c → H b = some o → H' b = some o
theorem Kp.refl (d c : Addr) (H : Hp) : Kp d c H H := fun _ _ _ _ h => h
theorem Kp.trans {d c : Addr} {H H1 H2 : Hp} (a : Kp d c H H1) (b : Kp d c H1 H2) : Kp d c H H2 := fun x o h1 h2 h => b x o h1 h2 (a x o h1 h2 h)

theorem ixN_of {n j : Nat} (h : j < n) : ixN n (j : Int) = some j := by
  unfold ixN
  rw [if_pos (Int.natCast_nonneg j), if_pos (by omega), Int.toNat_natCast]
def spTake : Sp := fun vs H Q _ => ∃ (d c : Addr) (t m : Int), vs = [.ref d, .int m] ∧ StAt H d c t ∧ t < 2 ^ 60 ∧ 0 < m ∧ m.natAbs < 2 ^ 250 ∧
  ∀ r H', 0 ≤ r → r < m → StAt H' d c (t + 1) → Kp d c H H' → Q (.int r) H'

abbrev sTake : Stmt := topS 7
theorem scTake : FnScope ["_law_state", "_law_many", "_law_turn", "_law_place", "_law_cell", "_law_digit", "_law_mixed"] ["_law_state", "_law_many"] (defScope sTake) := ⟨rfl, rfl, rfl, by decide +kernel, rfl, by decide +kernel, by decide +kernel⟩
section
variable {K : PySem.W.Frag} {mg : Str → Option Value} {P : Program} {w : World} {base : Heap}
theorem ok_take {f : Addr} {fd : FuncData} {k : Nat} (F : Fun K "_law_take" "_law_take" sTake f fd) (ml : mg "len" = none) (md : mg "divmod" = none) : FnOk P w K mg base CX0 (k + 1) f fd ["_law_state", "_law_many"] spTake := by
  refine F.ok scTake (fun vs H Q E h => ?_) (fun cdv A outer s H vs Q E hr h => ?_)
  · obtain ⟨d, c, t, m, rfl, _⟩ := h
    rfl
  · obtain ⟨d, c, t, m, rfl, hS, ht, hm, hm2, q⟩ := h
    refine ⟨_, pss_cons (ps_set (i := 2) scTake.nd rfl (.inl rfl) (pe_op op_add (pe_dget (hu_of hr) (pv 0) pe_str (fun _ _ => rfl)) pe_int))
      (pss_cons (ps_dput (hu_of hr) (pv 0) pe_str (pv 2) rfl)
      (pss_cons (ps_set (i := 3) scTake.nd rfl (.inl rfl) (pe_op op_mod (pv 2) (pe_callB call_len_seq (by rfl) ml PySem.boot_len (pa_cons (pe_dget (hu_of hr) (pv 0) pe_str (fun _ _ => rfl)) pa_nil))))
      (pss_cons (ps_set (i := 4) scTake.nd rfl (.inl rfl) (pe_ix ix_list (pe_dget (hu_of hr) (pv 0) pe_str (fun _ _ => rfl)) (pv 3) (fun _ _ => rfl)))
      (pss_cons (ps_if (pt_cmpR op_ge (pv 4) (pe_op op_pow pe_int pe_int) (nomark _))
        (pss_cons (ps_asg (pe_callB call_divmodW (by rfl) md (by decide +kernel) (pa_cons (pv 4) (pa_cons (pv 1) pa_nil)))
            (pg_tup rfl (pgs_cons (pg_sub (pe_dget (hu_of hr) (pv 0) pe_str (fun _ _ => rfl)) (pv 3) set_list) (pgs_cons (pg_name (i := 5) scTake.nd rfl (.inl rfl)) pgs_nil))))
          (pss_one (ps_ret (pv 5)))) pss_nil)
      (pss_cons (ps_set (i := 6) scTake.nd rfl (.inl rfl) (pe_op op_mod (pe_op op_mul (pe_op op_add (pe_op op_add (pe_op op_mod (pv 4) pe_int) (pe_op op_mul (pe_op op_mul (pv 2) (pv 2)) pe_int)) pe_int) pe_int) pe_int))
      (pss_cons (ps_set (i := 6) scTake.nd rfl (.inl rfl) (pe_op op_mod (pe_op op_mul (pv 6) (pv 6)) pe_int))
      (pss_one (ps_ret (pe_op op_mod (pe_op op_fdiv (pe_op op_mod (pe_op op_mul (pe_op op_add (pv 6) (pe_op op_mul (pv 2) pe_int)) pe_int) pe_int) pe_int) (pv 1)))))))))), ?_⟩
    obtain ⟨hd, ⟨cs, hc, hne, hlen⟩, hpos⟩ := hS
    have ndc : d ≠ c := ne_of hd hc (by intro z; cases z)
    -- turn = state['turn'] + 1
    refine ⟨.ref d, rfl, d, .int t, rfl, DGet.k (k := Sum.inr "turn") hd, t, 1, rfl, rfl, ?_⟩
    -- state['turn'] = turn
    refine ⟨_, rfl, .ref d, rfl, d, _, rfl, DPut.k (k := Sum.inr "turn") hd (by show 2 < sizeLine; decide), ?_⟩
    have hput : putK [((.inr "cells" : Key), V.ref c), (.inr "turn", .int t)] (.inr "turn") (.int (t + 1)) = [(.inr "cells", .ref c), (.inr "turn", .int (t + 1))] := rfl
    rw [show (.int (t + 1) : V) = V.int (t + 1) from rfl] at *
    rw [hput]
    generalize hH1 : upd H d (.dK [((.inr "cells" : Key), V.ref c), (.inr "turn", .int (t + 1))]) = H1
    have hd1 : H1 d = some (.dK [(.inr "cells", .ref c), (.inr "turn", .int (t + 1))]) := by rw [← hH1]; exact upd_same
    have hc1 : H1 c = some (.lst (cs.map V.int)) := by rw [← hH1, upd_ne ndc.symm]; exact hc
    have k1 : Kp d c H H1 := fun b o h1 h2 e => by rw [← hH1, upd_ne h1]; exact e
    have hlp : 0 < cs.length := List.length_pos_iff.mpr hne
    -- place = turn % len(state['cells'])
    refine ⟨_, rfl, .ref d, rfl, d, .ref c, rfl, DGet.k (k := Sum.inr "cells") hd1, c, _, rfl, .inl (SqL.of hc1), _, _, rfl, rfl, (by show (0 : Int) < ((cs.map V.int).length : Int); rw [List.length_map]; omega), ?_⟩
    dsimp only
    rw [List.length_map]
    have hj0 : 0 ≤ (t + 1) % (cs.length : Int) := Int.emod_nonneg _ (by omega)
    have hj1 : (t + 1) % (cs.length : Int) < cs.length := Int.emod_lt_of_pos _ (by omega)
    obtain ⟨j, hj⟩ := Int.eq_ofNat_of_zero_le hj0
    have hjl : j < cs.length := by omega
    rw [hj]
    have gj : (cs.map V.int)[j]? = some (.int cs[j]) := by rw [List.getElem?_map, List.getElem?_eq_getElem hjl]; rfl
    -- cell = state['cells'][place]
    refine ⟨.ref d, rfl, d, .ref c, rfl, DGet.k (k := Sum.inr "cells") hd1, _, rfl, c, _, _, .int cs[j], rfl, rfl, SqL.of hc1, atI_nat gj, ?_⟩
    generalize cs[j] = x
    -- if cell >= 10 ** 18
    refine ⟨_, rfl, 10, 18, rfl, rfl, ⟨by decide, by decide, by decide⟩, _, _, rfl, rfl, _, rfl, ite2 (fun e => ?_) (fun e => ?_)⟩
    · have hdp : CDivP x m := ⟨hm, PyProof.noPylong_of_log2 (Nat.lt_trans (PySem.Flt.log2_lt_of (by decide) hm2) (by decide))⟩
      refine ⟨_, rfl, _, rfl, x, m, rfl, hdp, fun p hp => ?_⟩
      have npd : d ≠ p := ne_of_none hd1 hp
      have npc : c ≠ p := ne_of_none hc1 hp
      have hd2 : upd H1 p (.tup [.int (x / m), .int (x % m)]) d = some (.dK [(.inr "cells", .ref c), (.inr "turn", .int (t + 1))]) := by rw [upd_ne npd]; exact hd1
      have hc2 : upd H1 p (.tup [.int (x / m), .int (x % m)]) c = some (.lst (cs.map V.int)) := by rw [upd_ne npc]; exact hc1
      refine ⟨p, _, rfl, .inl (.inl upd_same), rfl, _, _, rfl, .ref d, rfl, d, .ref c, rfl, DGet.k (k := Sum.inr "cells") hd2, _, rfl, c, _, _, j, rfl, rfl, hc2, ixN_of (by rw [List.length_map]; exact hjl), _, _, rfl, rfl, ?_⟩
      refine ⟨_, rfl, ?_⟩
      refine q _ _ (Int.emod_nonneg _ (by omega)) (Int.emod_lt_of_pos _ hm) ⟨?_, ⟨cs.set j (x / m), ?_, ?_, ?_⟩, by omega⟩ ?_
      · rw [upd_ne ndc]; exact hd2
      · rw [upd_same, List.map_set]
      · intro z
        have z2 : (cs.set j (x / m)).length = 0 := by rw [z]; rfl
        rw [List.length_set] at z2
        omega
      · rw [List.length_set]; exact hlen
      · intro b o h1 h2 e
        rw [upd_ne h2, upd_ne (ne_of_none (k1 b o h1 h2 e) hp)]
        exact k1 b o h1 h2 e
    · have t1 : t + 1 < 2 ^ 61 := by omega
      -- mixed
      refine ⟨_, rfl, _, _, rfl, rfl, (show (0 : Int) < 2147483629 by decide), _, rfl, _, rfl, t + 1, t + 1, rfl, rfl, .inl ⟨by omega, by omega⟩, _, _, rfl, rfl, .inr ⟨by decide, by decide⟩, _, _, rfl, rfl, _, _, rfl, rfl, _, _, rfl, rfl, .inr ⟨by decide, by decide⟩, _, 2147483647, rfl, rfl, (show (0 : Int) < 2147483647 by decide), ?_⟩
      dsimp only
      generalize hy : ((x % 2147483629 + (t + 1) * (t + 1) * 7919 + 11) * 48271) = y
      have y0 : 0 ≤ y % 2147483647 := Int.emod_nonneg _ (by decide)
      have y1 : y % 2147483647 < 2147483647 := Int.emod_lt_of_pos _ (by decide)
      refine ⟨_, rfl, _, rfl, y % 2147483647, y % 2147483647, rfl, rfl, .inl ⟨by omega, by omega⟩, _, 2147483587, rfl, rfl, (show (0 : Int) < 2147483587 by decide), ?_⟩
      refine ⟨_, rfl, _, rfl, t + 1, 104729, rfl, rfl, .inr ⟨by decide, by decide⟩, _, _, rfl, rfl, _, _, rfl, rfl, .inr ⟨by decide, by decide⟩, _, 2147483629, rfl, rfl, (show (0 : Int) < 2147483629 by decide), _, 64, rfl, rfl, ⟨by decide, by decide⟩, _, rfl, _, m, rfl, rfl, hm, ?_⟩
      exact q _ _ (Int.emod_nonneg _ (by omega)) (Int.emod_lt_of_pos _ hm) ⟨hd1, ⟨cs, hc1, hne, hlen⟩, by omega⟩ k1
end

abbrev sBegin : Stmt := topS 6
theorem scBegin : FnScope ["_law_script", "_law_cells"] ["_law_script"] (defScope sBegin) := ⟨rfl, rfl, rfl, by decide +kernel, rfl, by decide +kernel, by decide +kernel⟩
theorem same_upd {H : Hp} {p : Addr} {o : HO} (h : H p = none) : Same H (upd H p o) := fun b x e => by
  rw [upd_ne (ne_of_none e h)]
  exact e
theorem cut_front (xs : List V) (m : Nat) : cutV xs none (some (m : Int)) = xs.take m := by
  unfold cutV
  rw [HT.sIx_none, HT.sIx_nat]
  show List.take (min m xs.length - 0) (xs.drop 0) = xs.take m
  rw [Nat.sub_zero, List.drop_zero]
  by_cases h : m ≤ xs.length
  · rw [Nat.min_eq_left h]
  · rw [Nat.min_eq_right (by omega), List.take_length, List.take_of_length_le (by omega)]
theorem dp_ints {K : PySem.W.Frag} {H : Hp} : ∀ ns : List Int, DpAll K H (ns.map V.int) (ns.map PyData.int)
  | [] => .nil
  | n :: r => .cons (.int n) (dp_ints r)
theorem lay_ints : ∀ ns : List Int, PyData.canLayAll0 (ns.map PyData.int) = true
  | [] => by simp only [List.map_nil, PyData.canLayAll0]
  | n :: r => by
    rw [List.map_cons, PyData.canLayAll0, lay_ints r]
    simp [PyData.canLay0]
theorem depth_ints : ∀ ns : List Int, PyData.depthAll (ns.map PyData.int) = 0
  | [] => by simp only [List.map_nil, PyData.depthAll]
  | n :: r => by
    rw [List.map_cons, PyData.depthAll, depth_ints r]
    simp [PyData.depth]
theorem shaped_ints (ns : List Int) : SeqAt.shaped (PyData.list (ns.map PyData.int)) = true := by
  unfold SeqAt.shaped
  rw [PyData.canLay0, lay_ints, PyData.depth, depth_ints]
  rfl
theorem eqv_nil (n : Int) (r : List Int) : PyData.eqv (PyData.list ((n :: r).map PyData.int)) (PyData.list []) = false := by
  simp [PyData.eqv, PyData.eqvAll]
theorem eqv_nil0 : PyData.eqv (PyData.list (([] : List Int).map PyData.int)) (PyData.list []) = true := by
  simp [PyData.eqv, PyData.eqvAll]
def spBegin (K : PySem.W.Frag) : Sp := fun vs H Q _ => ∃ (a : Addr) (ns : List Int), vs = [.ref a] ∧ SqL K H a (ns.map V.int) ∧ ns.length ≤ 63 ∧
  ∀ d c H', Same H H' → H d = none → H c = none → StAt H' d c 0 → Q (.ref d) H'
section
variable {K : PySem.W.Frag} {mg : Str → Option Value} {P : Program} {w : World} {base : Heap}
theorem ok_begin {f : Addr} {fd : FuncData} {k : Nat} (F : Fun K "_law_begin" "_law_begin" sBegin f fd) (ml : mg "list" = none) : FnOk P w K mg base CX0 (k + 1) f fd ["_law_script"] (spBegin K) := by
  refine F.ok scBegin (fun vs H Q E h => ?_) (fun cdv A outer s H vs Q E hr h => ?_)
  · obtain ⟨a, ns, rfl, _⟩ := h
    rfl
  · obtain ⟨a, ns, rfl, hS, hlen, q⟩ := h
    refine ⟨_, pss_cons (ps_set (i := 1) scBegin.nd rfl (.inl rfl) (pe_callTy call_list_of (by rfl) ml (by decide +kernel) (pa_cons (pe_slice sl_list (pv 0) po_none (po_some pe_int)) pa_nil)))
      (pss_cons (ps_if (pt_cmpR (op_eqD hr.units) (pv 1) (pe_lst pa_nil) (nomark _)) (pss_one (ps_set (i := 1) scBegin.nd rfl (.inl rfl) (pe_lst (pa_cons pe_int pa_nil)))) pss_nil)
      (pss_one (ps_ret (pe_disp (pps_cons pe_str (pv 1) (pps_cons pe_str pe_int pps_nil)) (by rfl) (by rfl) (fun z => by cases z) (by decide))))), ?_⟩
    -- the end: a dict of what stands at the cells' place
    have fin : ∀ (H1 : Hp) (c : Addr) (cs : List Int) (y : Option V), Same H H1 → H c = none → H1 c = some (.lst (cs.map V.int)) → cs ≠ [] → cs.length ≤ 63 →
        (tRet (tDisp [(tC (.str "cells"), tVar 1), (tC (.str "turn"), tC (.int 0))])) { nx := fun _ H' => Q .non H', rt := Q } [some (.ref a), some (.ref c)] H1 := by
      intro H1 c cs y s1 nc ec hne hl
      refine fun d nd => ⟨_, rfl, upd_same, [(.inr "cells", .ref c), (.inr "turn", .int 0)], rfl, (by show 2 ≤ 15; decide), ?_⟩
      have ndc : c ≠ d := ne_of_none ec nd
      refine q d c _ (fun b o e => ?_) (s1.free nd) nc ⟨?_, ⟨cs, ?_, hne, hl⟩, by decide⟩
      · have nb : b ≠ d := ne_of_none (s1 b o e) nd
        rw [upd_ne nb, upd_ne nb]
        exact s1 b o e
      · exact upd_same
      · rw [upd_ne ndc, upd_ne ndc]
        exact ec
    refine ⟨.ref a, rfl, 63, rfl, a, ns.map V.int, rfl, hS, fun p np => ?_⟩
    have s1 : Same H (upd H p (.lst (cutV (ns.map V.int) none (some 63)))) := same_upd np
    refine ⟨p, _, rfl, .inl (SqL.of upd_same), fun l nl => ?_⟩
    have s2 := s1.trans (same_upd (o := .lst (cutV (ns.map V.int) none (some 63))) nl)
    have ecut : cutV (ns.map V.int) none (some 63) = ns.map V.int := by
      have e := cut_front (ns.map V.int) 63
      have e2 : cutV (ns.map V.int) none (some 63) = (ns.map V.int).take 63 := e
      rw [e2, List.take_of_length_le (by rw [List.length_map]; exact hlen)]
    have el : upd (upd H p (.lst (cutV (ns.map V.int) none (some 63)))) l (.lst (cutV (ns.map V.int) none (some 63))) l = some (.lst (ns.map V.int)) := by
      rw [upd_same, ecut]
    revert s2 el
    generalize upd (upd H p (.lst (cutV (ns.map V.int) none (some 63)))) l (.lst (cutV (ns.map V.int) none (some 63))) = H2
    intro s2 el
    have nlH : H l = none := s1.free nl
    -- if cells == []
    refine ⟨.ref l, rfl, Nat.zero_le _, fun z nz => ?_⟩
    have s3 := s2.trans (same_upd (o := .lst []) nz)
    have nlz : l ≠ z := ne_of_none el nz
    have el3 : upd H2 z (.lst []) l = some (.lst (ns.map V.int)) := by rw [upd_ne nlz]; exact el
    refine ⟨.list (ns.map PyData.int), .list [], .lst (SqL.of el3) (dp_ints ns), .lst (SqL.of upd_same) .nil, shaped_ints ns, shaped_ints [], ?_⟩
    cases ns with
    | nil =>
      refine ⟨true, by rw [eqv_nil0], iteT ?_⟩
      refine ⟨(by show 1 ≤ sizeLine; decide), fun c nc => ?_⟩
      exact fin _ c [_] none (s3.trans (same_upd nc)) (s3.free nc) upd_same (by simp) (by decide)
    | cons n r =>
      refine ⟨false, by rw [eqv_nil], iteF ?_⟩
      exact fin _ l (n :: r) none s3 nlH el3 (by simp) hlen
end

/-- a def of the text that keeps a promise, as its callers see it -/
def Cal (P : Program) (w : World) (K : PySem.W.Frag) (mg : Str → Option Value) (base : Heap) (k : Nat) (x : Str) (ps : List Str) (sp : Sp) : Prop :=
  ∃ f fd, FnOk P w K mg base CX0 k f fd ps sp ∧ mg x = some (.ref f) ∧ PySem.W.keepIn K (.ref f) = true ∧ Binds K fd ps []
theorem pe_own {X : Cx} {k : Nat} {x : Str} {ps : List Str} {sp : Sp} {e : Expr} {es : List Expr} {t : TA} {p pos : Pos} (C : Cal X.prog X.w X.K X.mg X.base k x ps sp) (hr : Room k X.A) (hg : Gl X x) (ha : PA X (e :: es) t)
    (dbg : (x == ("__debug__" : Str)) = false := by decide) (one : starEach (e :: es) X.env = (false, eval e X.env) :: starEach es X.env := by rfl) (star : (backTo pos (starEach es X.env)).any (·.1) = false := by rfl) :
    PE X (.Call (.Name x p) (e :: es) [] pos) (tCall sp [] E0 t) := by
  obtain ⟨f, fd, F, hm, hk, hb⟩ := C
  exact pe_call F hr hg hm hk hb .nil pass0 ha dbg one star
theorem StAt.same {H H' : Hp} {d c : Addr} {t : Int} (h : StAt H d c t) (s : Same H H') : StAt H' d c t :=
  ⟨s _ _ h.dict, let ⟨cs, e, r⟩ := h.cells; ⟨cs, s _ _ e, r⟩, h.pos⟩
theorem Kp.same {H H' : Hp} (d c : Addr) (s : Same H H') : Kp d c H H' := fun b o _ _ e => s b o e
/-- what is made behind the state stays -/
theorem Kp.at {H H' : Hp} {d c a : Addr} {t : Int} {o : HO} (k : Kp d c H H') (S : StAt H d c t) (e : H a = some o) (h1 : ∀ kvs, o ≠ .dK kvs) (h2 : ∀ ns : List Int, o ≠ .lst (ns.map V.int)) : H' a = some o := by
  obtain ⟨cs, ec, _⟩ := S.cells
  refine k a o (fun z => ?_) (fun z => ?_) e
  · rw [z, S.dict] at e
    exact h1 _ (Option.some.inj e).symm
  · rw [z, ec] at e
    exact h2 _ (Option.some.inj e).symm
theorem StAt.upd {H : Hp} {d c l : Addr} {t : Int} {o : HO} (S : StAt H d c t) (h1 : l ≠ d) (h2 : l ≠ c) : StAt (L2.upd H l o) d c t := by
  refine ⟨by rw [upd_ne h1.symm]; exact S.dict, ?_, S.pos⟩
  obtain ⟨cs, ec, r⟩ := S.cells
  exact ⟨cs, by rw [upd_ne h2.symm]; exact ec, r⟩

theorem _root_.GP.Prs.same {H H' : Hp} {vs : List V} {ps : List (Int × Int)} (h : Prs H vs ps) (s : Same H H') : Prs H' vs ps :=
  ⟨h.1, fun i p e => let ⟨a, e1, e2⟩ := h.2 i p e; ⟨a, e1, s _ _ e2⟩⟩
theorem _root_.GP.Prs.kp {H H' : Hp} {d c : Addr} {t : Int} {vs : List V} {ps : List (Int × Int)} (h : Prs H vs ps) (S : StAt H d c t) (k : Kp d c H H') : Prs H' vs ps :=
  ⟨h.1, fun i p e => let ⟨a, e1, e2⟩ := h.2 i p e; ⟨a, e1, k.at S e2 (fun _ z => nomatch z) (fun _ z => nomatch z)⟩⟩
theorem _root_.GP.Prs.upd_lst {H : Hp} {l : Addr} {xs : List V} {o : HO} {vs : List V} {ps : List (Int × Int)} (h : Prs H vs ps) (hl : H l = some (.lst xs)) : Prs (upd H l o) vs ps :=
  ⟨h.1, fun i p e => let ⟨a, e1, e2⟩ := h.2 i p e; ⟨a, e1, by rw [upd_ne (ne_of e2 hl (fun z => nomatch z))]; exact e2⟩⟩
theorem _root_.GP.Prs.nil {H : Hp} : Prs H [] [] := ⟨rfl, fun i p e => by simp at e⟩
theorem _root_.GP.Prs.snoc {H : Hp} {a : Addr} {x y : Int} {vs : List V} {ps : List (Int × Int)} (h : Prs H vs ps) (e : H a = some (.tup [.int x, .int y])) : Prs H (vs ++ [.ref a]) (ps ++ [(x, y)]) := by
  refine ⟨by simp [h.1], fun i p ep => ?_⟩
  by_cases hi : i < ps.length
  · rw [List.getElem?_append_left hi] at ep
    obtain ⟨b, e1, e2⟩ := h.2 i p ep
    exact ⟨b, by rw [List.getElem?_append_left (by rw [h.1]; exact hi)]; exact e1, e2⟩
  · rw [List.getElem?_append_right (by omega)] at ep
    have hz : i - ps.length = 0 := by
      cases hq : i - ps.length with
      | zero => rfl
      | succ n => rw [hq] at ep; simp at ep
    rw [hz] at ep
    have ep' : (x, y) = p := by simpa using ep
    subst ep'
    refine ⟨a, ?_, e⟩
    rw [List.getElem?_append_right (by rw [h.1]; omega), h.1, hz]
    rfl
/-- rising stretches with gaps, from lo on -/
def Ris : Int → List (Int × Int) → Prop
  | _, [] => True
  | lo, p :: r => lo ≤ p.1 ∧ p.1 ≤ p.2 ∧ Ris (p.2 + 2) r
theorem Ris.snoc : ∀ {lo : Int} {ps : List (Int × Int)} {a b : Int}, Ris lo ps → lo ≤ a → (∀ p ∈ ps, p.2 + 2 ≤ a) → a ≤ b → Ris lo (ps ++ [(a, b)])
  | lo, [], a, b, _, h1, _, h3 => ⟨h1, h3, True.intro⟩
  | lo, p :: r, a, b, h, h1, h2, h3 => ⟨h.1, h.2.1, Ris.snoc h.2.2 (h2 p (List.mem_cons_self ..)) (fun q hq => h2 q (List.mem_cons_of_mem _ hq)) h3⟩
theorem pick2 {x y r : Int} (Pv : Int → Prop) (h0 : 0 ≤ r) (h1 : r < 2) (hx : Pv x) (hy : Pv y) : ∃ v, Pv v ∧ atI [V.int x, V.int y] r = some (.int v) := by
  have : r = 0 ∨ r = 1 := by omega
  rcases this with rfl | rfl
  · exact ⟨x, hx, rfl⟩
  · exact ⟨y, hy, rfl⟩
theorem pick3 {x y z r : Int} (Pv : Int → Prop) (h0 : 0 ≤ r) (h1 : r < 3) (hx : Pv x) (hy : Pv y) (hz : Pv z) : ∃ v, Pv v ∧ atI [V.int x, V.int y, V.int z] r = some (.int v) := by
  have : r = 0 ∨ r = 1 ∨ r = 2 := by omega
  rcases this with rfl | rfl | rfl
  · exact ⟨x, hx, rfl⟩
  · exact ⟨y, hy, rfl⟩
  · exact ⟨z, hz, rfl⟩
/-- a new object stands through the state's change -/
theorem Kp.new {H H' : Hp} {d c l : Addr} {t : Int} {o : HO} (k : Kp d c (upd H l o) H') (S : StAt H d c t) (n : H l = none) : H' l = some o := by
  obtain ⟨cs, ec, _⟩ := S.cells
  exact k l o (ne_of_none S.dict n).symm (ne_of_none ec n).symm upd_same
theorem drop_at {α : Type} {l : List α} {i : Nat} {x : α} (h : l[i]? = some x) : l.drop i = x :: l.drop (i + 1) := by
  obtain ⟨lt, e⟩ := List.getElem?_eq_some_iff.mp h
  rw [← e]
  exact List.drop_eq_getElem_cons lt
theorem prs_at {H : Hp} {vs : List V} {ps : List (Int × Int)} {i : Nat} {x : V} (h : Prs H vs ps) (e : vs[i]? = some x) : ∃ (p : Int × Int) (a : Addr), ps[i]? = some p ∧ x = .ref a ∧ H a = some (.tup [.int p.1, .int p.2]) := by
  obtain ⟨hi, _⟩ := List.getElem?_eq_some_iff.mp e
  have hi2 : i < ps.length := by rw [← h.1]; exact hi
  obtain ⟨a, e1, e2⟩ := h.2 i ps[i] (List.getElem?_eq_getElem hi2)
  rw [e] at e1
  exact ⟨ps[i], a, List.getElem?_eq_getElem hi2, Option.some.inj e1, e2⟩

theorem sumP_append (g : Int → Int → Int) (ps qs : List (Int × Int)) : sumP g (ps ++ qs) = sumP g ps + sumP g qs := by
  unfold sumP
  rw [List.map_append, List.sum_append]
def inB (n a b : Int) : Bool := decide (a ≤ n) && decide (n ≤ b)
theorem Ris.le : ∀ {lo : Int} {ps : List (Int × Int)}, Ris lo ps → ∀ p ∈ ps, lo ≤ p.1 ∧ p.1 ≤ p.2
  | _, [], _, _, hp => nomatch hp
  | lo, q :: r, h, p, hp => by
    rcases List.mem_cons.mp hp with e | e'
    · rw [e]; exact ⟨h.1, h.2.1⟩
    · have := Ris.le h.2.2 p e'
      have := h.2.1
      have := h.1
      omega

/-! ### walks over a list or a tuple -/
def Sq (K : PySem.W.Frag) (H : Hp) (a : Addr) (xs : List V) : Prop := SqL K H a xs ∨ SqT K H a xs
def iSeq (K : PySem.W.Frag) (tl : TE) : TI := fun σ H R => tl σ H fun x H1 => ∃ a, x = .ref a ∧ (((∃ xs, SqL K H1 a xs) ∧ R (Itl K a) H1) ∨ ((∃ xs, SqT K H1 a xs) ∧ R (Itt K a) H1))
/-- the iterator that was just laid is no one's -/
theorem lone {X : Cx} {pins : List (Addr × Obj)} {σ : L2.St} {H : Hp} {s : Shared} (I : Inv X pins σ H s) : ∀ b ∈ [s.heap.objs.size], FpOk X pins H b := fun b hb => by
  rw [List.mem_singleton.mp hb]
  exact I.fpOk (H' := H) (Nat.le_refl _) (I.hok.fresh (Nat.le_refl _))
theorem pi_seq {X : Cx} {tg l : Expr} {tl : TE} (walked : PE X l tl) : PI X tg l (iSeq X.K tl) := by
  constructor
  intro pins s σ H R I h
  refine thn (walked.run pins s σ H _ I h) fun u s1 had => ?_
  obtain ⟨_, H1, J, rel, a, rfl, had⟩ := had
  cases rel
  have laid : ∀ o, Inv X pins σ H1 { s1 with heap := s1.heap.push o } := fun o => J.kept (t' := s1.toks) fun _ _ e => Heap.get?_push_of_some _ e
  rcases had with ⟨⟨xs, hq⟩, q⟩ | ⟨⟨xs, hq⟩, q⟩
  · obtain ⟨its, _, isL, _⟩ := J.list hq
    exact wpAny_pyIter_list isL.isList ⟨_, _, _, _, H1, rfl, laid _, turn_list a _, ⟨_, Heap.get?_push_size _ rfl, rfl, rfl⟩, lone J, q⟩
  · obtain ⟨its, _, isT, _⟩ := J.tuple hq
    exact wpAny_pyIter_tuple (items := its.toArray) isT ⟨_, _, _, _, H1, rfl, laid _, turn_tuple a _, ⟨_, Heap.get?_push_size _ rfl, rfl, rfl⟩, lone J, q⟩
/-- the walked thing stands as it stood -/
def SqTo (K : PySem.W.Frag) (H H' : Hp) (a : Addr) (xs : List V) : Prop := (SqL K H a xs → SqL K H' a xs) ∧ (SqT K H a xs → SqT K H' a xs)
theorem SqTo.refl {K : PySem.W.Frag} {H : Hp} {a : Addr} {xs : List V} : SqTo K H H a xs := ⟨fun h => h, fun h => h⟩
theorem same_t {K : PySem.W.Frag} {H H' : Hp} {a : Addr} {xs : List V} (s : Same H H') (h : SqT K H a xs) : SqT K H' a xs :=
  h.elim (fun r => .inl (r.elim (fun e => .inl (s a _ e)) fun ⟨o, e⟩ => .inr ⟨o, s a _ e⟩)) .inr
theorem SqTo.same {K : PySem.W.Frag} {H H' : Hp} {a : Addr} {xs : List V} (s : Same H H') : SqTo K H H' a xs := ⟨s.seq, same_t s⟩
theorem Sq.same {K : PySem.W.Frag} {H H' : Hp} {a : Addr} {xs : List V} (h : Sq K H a xs) (s : Same H H') : Sq K H' a xs := h.elim (fun h => .inl (s.seq h)) fun h => .inr (same_t s h)
theorem Sq.list {K : PySem.W.Frag} {H : Hp} {a : Addr} {xs : List V} (h : H a = some (.lst xs)) : Sq K H a xs := .inl (SqL.of h)
theorem Sq.tup {K : PySem.W.Frag} {H : Hp} {a : Addr} {xs : List V} (h : H a = some (.tup xs)) : Sq K H a xs := .inr (.inl (.inl h))
abbrev ForR (J : It) (g : TG) (tb : TS) (D : Ends) (σ : L2.St) (H1 : Hp) : Prop := ∃ W : Nat → Nat → L2.St → Hp → Prop, (∃ m, W 0 m σ H1) ∧ ∀ i m σ H, W i m σ H →
  (J.stop i H ∧ D.nx σ H) ∨ (J.go i H ∧ ∃ N : L2.St → Hp → Prop, (∀ σ' H', N σ' H' → ∃ m', m' < m ∧ W (i + 1) m' σ' H') ∧ ∀ x H', J.yld i H x H' → g x σ H' fun σ2 H2 => tb { D with nx := N, ct := N, bk := D.nx } σ2 H2)
theorem for_seq {K : PySem.W.Frag} {a : Addr} {xs : List V} {g : TG} {tb : TS} {D : Ends} {σ : L2.St} {H1 : Hp} (hq : Sq K H1 a xs) (Pv : Nat → L2.St → Hp → Prop) (h0 : Pv 0 σ H1)
    (hl : ∀ i σ H', i ≤ xs.length → Pv i σ H' → SqTo K H1 H' a xs)
    (turn : ∀ i x σ H, xs[i]? = some x → Pv i σ H → g x σ H fun σ2 H2 => tb { D with nx := Pv (i + 1), ct := Pv (i + 1), bk := D.nx } σ2 H2) (fin : ∀ σ H, Pv xs.length σ H → D.nx σ H) :
    ((∃ xs, SqL K H1 a xs) ∧ ForR (Itl K a) g tb D σ H1) ∨ ((∃ xs, SqT K H1 a xs) ∧ ForR (Itt K a) g tb D σ H1) := by
  rcases hq with h | h
  · exact .inl ⟨⟨xs, h⟩, for_list (xs := xs) Pv h0 (fun i σ H' hi p => (hl i σ H' hi p).1 h) turn fin⟩
  · exact .inr ⟨⟨xs, h⟩, for_tup (xs := xs) Pv h0 (fun i σ H' hi p => (hl i σ H' hi p).2 h) turn fin⟩

/-! ### pairs as data -/
def pairD (p : Int × Int) : PyData := .tuple [.int p.1, .int p.2]
theorem dp_prs {K : PySem.W.Frag} {H : Hp} : ∀ {us : List V} {ps : List (Int × Int)}, Prs H us ps → DpAll K H us (ps.map pairD)
  | [], [], _ => .nil
  | [], _ :: _, h => nomatch h.1
  | _ :: _, [], h => nomatch h.1
  | u :: us, p :: ps, h => by
    obtain ⟨a, e1, e2⟩ := h.2 0 p rfl
    have eu : u = .ref a := Option.some.inj e1
    subst eu
    refine .cons (.tup (.inl (.inl e2)) (.cons (.int _) (.cons (.int _) .nil))) (dp_prs ⟨Nat.succ.inj h.1, fun i q e => ?_⟩)
    obtain ⟨b, f1, f2⟩ := h.2 (i + 1) q e
    exact ⟨b, f1, f2⟩
theorem lay_prs : ∀ ps : List (Int × Int), PyData.canLayAll0 (ps.map pairD) = true
  | [] => by simp only [List.map_nil, PyData.canLayAll0]
  | p :: r => by
    rw [List.map_cons, PyData.canLayAll0, lay_prs r]
    simp [pairD, PyData.canLay0, PyData.canLayAll0]
theorem depth_prs : ∀ ps : List (Int × Int), PyData.depthAll (ps.map pairD) ≤ 1
  | [] => by simp only [List.map_nil, PyData.depthAll]; omega
  | p :: r => by
    rw [List.map_cons, PyData.depthAll]  -- a pair, then the rest
    have := depth_prs r
    simp [pairD, PyData.depth, PyData.depthAll]
    omega
theorem shaped_prs (ps : List (Int × Int)) : SeqAt.shaped (PyData.list (ps.map pairD)) = true := by
  unfold SeqAt.shaped
  rw [PyData.canLay0, lay_prs, PyData.depth, Bool.true_and]
  exact decide_eq_true (by have := depth_prs ps; omega)
theorem eqv_prs (ps : List (Int × Int)) : PyData.eqv (PyData.list (ps.map pairD)) (PyData.list (ps.map pairD)) = true := SeqAt.eqv_refl _ (by rw [PyData.canLay0]; exact lay_prs ps)
theorem tabG_tabbed {Pt Pu : Addr} {H H2 : Hp} (g : GxR.TabG H Pu) (x : GxR.Tabbed Pt H H2) : GxR.TabG H2 Pu := by
  by_cases e : Pu = Pt
  · rw [e]; exact x.1
  · obtain ⟨ps, h, r⟩ := g
    exact ⟨ps, by rw [x.2 _ e]; exact h, r⟩

theorem Kp.free {H H' : Hp} {d c l : Addr} {t' : Int} (k : Kp d c H H') (S' : StAt H' d c t') (n : H' l = none) : H l = none := by
  cases e : H l with
  | none => rfl
  | some o =>
    obtain ⟨cs1, ec1, _⟩ := S'.cells
    have z := k l o (ne_of_none S'.dict n).symm (ne_of_none ec1 n).symm e
    rw [n] at z
    cases z
theorem StAt.off {H : Hp} {d c l : Addr} {t : Int} (S : StAt H d c t) (n : H l = none) : l ≠ d ∧ l ≠ c := by
  obtain ⟨cs1, ec1, _⟩ := S.cells
  exact ⟨(ne_of_none S.dict n).symm, (ne_of_none ec1 n).symm⟩
/-- no whole number among these: so it's not the draws' cells -/
def NoInt (xs : List V) : Prop := ∀ x ∈ xs, ∀ i, x ≠ .int i
theorem Kp.lst {H H' : Hp} {d c a : Addr} {t : Int} {xs : List V} (k : Kp d c H H') (S : StAt H d c t) (e : H a = some (.lst xs)) (h : NoInt xs) : H' a = some (.lst xs) := by
  obtain ⟨cs, ec, hne, _⟩ := S.cells
  refine k a _ (fun z => ?_) (fun z => ?_) e
  · rw [z, S.dict] at e
    cases e
  · rw [z, ec] at e
    have e' : cs.map V.int = xs := HO.lst.inj (Option.some.inj e)
    cases cs with
    | nil => exact hne rfl
    | cons n r => exact h (.int n) (e' ▸ List.mem_cons_self ..) n rfl
theorem Kp.tup {H H' : Hp} {d c a : Addr} {t : Int} {xs : List V} (k : Kp d c H H') (S : StAt H d c t) (e : H a = some (.tup xs)) : H' a = some (.tup xs) := k.at S e (fun _ z => nomatch z) (fun _ z => nomatch z)
theorem noInt_strs (xs : List Str) : NoInt (xs.map V.str) := fun x hx i e => by
  obtain ⟨y, _, rfl⟩ := List.mem_map.mp hx
  cases e
theorem noInt_prs {H : Hp} {us : List V} {ps : List (Int × Int)} (h : Prs H us ps) : NoInt us := fun x hx i e => by
  obtain ⟨j, hj, e1⟩ := List.getElem_of_mem hx
  obtain ⟨p, a, _, rfl, _⟩ := prs_at h (by rw [List.getElem?_eq_getElem hj, e1])
  cases e

abbrev sNumber : Stmt := topS 9
theorem scNumber : FnScope ["_law_state", "_law_sort", "_law_number_here", "_law_turn"] ["_law_state", "_law_sort"] (defScope sNumber) := ⟨rfl, rfl, rfl, by decide +kernel, rfl, by decide +kernel, by decide +kernel⟩
/-- what a number of a sort stays below -/
def sortB (kd : Int) : Int := if kd = 0 then 4 else if kd = 1 then 40 else 10 ^ 30
theorem sortB_le (kd : Int) : sortB kd ≤ 10 ^ 30 := by unfold sortB; split; decide; split; decide; exact Int.le_refl _
def spNumber : Sp := fun vs H Q _ => ∃ (d c : Addr) (t kd : Int), vs = [.ref d, .int kd] ∧ StAt H d c t ∧ t + 5 < 2 ^ 60 ∧ 0 ≤ kd ∧
  ∀ r t' H', 0 ≤ r → r < sortB kd → t ≤ t' → t' ≤ t + 5 → StAt H' d c t' → Kp d c H H' → Q (.int r) H'
section
variable {K : PySem.W.Frag} {mg : Str → Option Value} {P : Program} {w : World} {base : Heap}
theorem ok_number {f : Addr} {fd : FuncData} (F : Fun K "_law_number" "_law_number" sNumber f fd) (CT : Cal P w K mg base 1 "_law_take" ["_law_state", "_law_many"] spTake) (mr : mg "range" = none) :
    FnOk P w K mg base CX0 2 f fd ["_law_state", "_law_sort"] spNumber := by
  refine F.ok scNumber (fun vs H Q E h => ?_) (fun cdv A outer s H vs Q E hr h => ?_)
  · obtain ⟨d, c, t, kd, rfl, _⟩ := h
    rfl
  · obtain ⟨d, c, t, kd, rfl, hS, ht, hk, q⟩ := h
    refine ⟨_, pss_cons (ps_if (pt_cmpR op_lt (pv 1) pe_int (nomark _)) (pss_one (ps_ret (pe_own CT hr (by rfl) (pa_cons (pv 0) (pa_cons (pe_ix ix_list (pe_lst (pa_cons pe_int (pa_cons pe_int (pa_cons (pe_op op_pow pe_int pe_int) pa_nil)))) (pv 1) (fun _ _ => rfl)) pa_nil))))) pss_nil)
      (pss_cons (ps_set (i := 2) scNumber.nd rfl (.inl rfl) pe_int)
      (pss_cons (ps_for PassesOwn.never rfl (pi_range1 rfl mr (pa_cons pe_int pa_nil)) (pg_name (i := 3) scNumber.nd rfl (.inl rfl))
        (pss_one (ps_set (i := 2) scNumber.nd rfl (.inl rfl) (pe_op op_add (pe_op op_mul (pv 2) (pe_op op_pow pe_int pe_int)) (pe_own CT hr (by rfl) (pa_cons (pv 0) (pa_cons (pe_op op_pow pe_int pe_int) pa_nil)))))))
      (pss_one (ps_ret (pv 2))))), ?_⟩
    refine ⟨_, rfl, _, _, rfl, rfl, _, rfl, ite2 (fun e => ?_) (fun e => ?_)⟩
    · have e' := of_decide_eq_true e
      refine ⟨_, rfl, 10, 7, rfl, rfl, ⟨by decide, by decide, by decide⟩, (by show 3 ≤ sizeLine; decide), fun p np => ?_⟩
      have s1 : Same H (upd H p (.lst [.int 4, .int 40, .int (10 ^ (7 : Int).toNat)])) := same_upd np
      obtain ⟨m, hm0, hm1, hm2, hat⟩ : ∃ m : Int, 0 < m ∧ m ≤ 10 ^ 7 ∧ m ≤ sortB kd ∧ atI [V.int 4, V.int 40, V.int (10 ^ (7 : Int).toNat)] kd = some (.int m) := by
        have : kd = 0 ∨ kd = 1 ∨ kd = 2 := by omega
        rcases this with rfl | rfl | rfl
        · exact ⟨4, by decide, by decide, by decide, rfl⟩
        · exact ⟨40, by decide, by decide, by decide, rfl⟩
        · exact ⟨10 ^ (7 : Int).toNat, by decide, by decide, by decide, rfl⟩
      refine ⟨_, rfl, p, _, kd, .int m, rfl, rfl, SqL.of upd_same, hat, d, c, t, m, rfl, hS.same s1, by omega, hm0, by omega, fun r H' h0 h1 hS' k' => ?_⟩
      exact q r (t + 1) H' h0 (Int.lt_of_lt_of_le h1 hm2) (by omega) (by omega) hS' ((Kp.same d c s1).trans k')
    · have e3 : ¬ kd < 3 := fun z => e (decide_eq_true z)
      have eb : sortB kd = 10 ^ 30 := by unfold sortB; rw [if_neg (by omega), if_neg (by omega)]
      rw [eb] at q
      refine ⟨5, rfl, by decide, by decide, for_range (n := 5) (fun i σ H1 => ∃ (x t' : Int) (y : Option V), σ = [some (.ref d), some (.int kd), some (.int x), y] ∧ 0 ≤ x ∧ x < 10 ^ (6 * i) ∧ t ≤ t' ∧ t' ≤ t + i ∧ StAt H1 d c t' ∧ Kp d c H H1) ⟨0, t, none, rfl, by decide, by decide, by omega, by omega, hS, Kp.refl d c H⟩ (fun i σ H1 hi hP => ?_) (fun σ H1 hP => ?_)⟩
      · obtain ⟨x, t', y, rfl, x0, x1, h0, h1, hS1, k1⟩ := hP
        have x2 : x < 10 ^ 30 := by
          have : i = 0 ∨ i = 1 ∨ i = 2 ∨ i = 3 ∨ i = 4 := by omega
          rcases this with rfl | rfl | rfl | rfl | rfl <;> omega
        refine ⟨_, rfl, 10, 6, rfl, rfl, ⟨by decide, by decide, by decide⟩, x, 10 ^ 6, rfl, rfl, .inr ⟨by decide, by decide⟩, _, rfl, 10, 6, rfl, rfl, ⟨by decide, by decide, by decide⟩, d, c, t', 10 ^ 6, rfl, hS1, by omega, by decide, by decide, fun r H2 r0 r1 hS2 k2 => ?_⟩
        refine ⟨x * 10 ^ 6, r, rfl, rfl, x * 10 ^ 6 + r, t' + 1, _, rfl, by omega, ?_, by omega, by omega, hS2, k1.trans k2⟩
        have : i = 0 ∨ i = 1 ∨ i = 2 ∨ i = 3 ∨ i = 4 := by omega
        rcases this with rfl | rfl | rfl | rfl | rfl <;> omega
      · obtain ⟨x, t', y, rfl, x0, x1, h0, h1, hS1, k1⟩ := hP
        exact ⟨_, rfl, q x t' H1 x0 (by omega) h0 (by omega) hS1 k1⟩
end

/-- a text of one sign -/
def sgS (c : Nat) : Str := ⟨#[c]⟩
def sgn (c : Nat) : V := .str (sgS c)
def spNames : Sp := fun vs H Q _ => ∃ (d c : Addr) (t m : Int), vs = [.ref d, .int m] ∧ StAt H d c t ∧ t + 100 < 2 ^ 60 ∧ 0 ≤ m ∧ m ≤ 20 ∧
  ∀ (l : Addr) (xs : List Str) (t' : Int) H', H l = none → H' l = some (.lst (xs.map V.str)) → (∀ x ∈ xs, PyData.strOk x = true) → (xs.length : Int) = m → xs.Nodup → t ≤ t' → t' ≤ t + 20 → StAt H' d c t' → Kp d c H H' → Q (.ref l) H'
theorem join_small {cs : List Nat} (h : cs.length ≤ 10) : ((cs.map sgS).map (·.length)).sum + (cs.map sgS).length * ("" : Str).length ≤ 16777216 := by
  have e : ((cs.map sgS).map (·.length)).sum = cs.length := by
    induction cs with
    | nil => rfl
    | cons c r ih =>
      rw [List.map_cons, List.map_cons, List.sum_cons, ih (by rw [List.length_cons] at h; omega), List.length_cons]
      show 1 + r.length = r.length + 1
      omega
  rw [e, show ("" : Str).length = 0 from rfl, Nat.mul_zero]
  omega
theorem joinL_ones : ∀ cs : List Nat, TL.joinL [] (cs.map fun c => [c]) = cs
  | [] => rfl
  | [_] => rfl
  | c :: c2 :: r => by
    have ih := joinL_ones (c2 :: r)
    show [c] ++ ([] ++ TL.joinL [] ((c2 :: r).map fun c => [c])) = _
    rw [ih]
    rfl
theorem join_ok {cs : List Nat} (h : ∀ c ∈ cs, c < 1114112) : PyData.strOk (Txt.join "" (cs.map sgS)) = true := by
  have e : Txt.join "" (cs.map sgS) = SX.S cs := by
    have z := SX.join_S [] (cs.map fun c => [c])
    rw [joinL_ones, List.map_map] at z
    exact z
  rw [e]
  show (Array.all _ _) = true
  rw [Array.all_eq_true']
  intro c hc
  exact decide_eq_true (h c (by simpa using hc))
/-- words that are unlike at one sign -/
def Spelt (abc : Str) (N fi sv : Int) (js : Nat) (xs : List Str) : Prop := ∀ (k : Nat) x, xs[k]? = some x → ∃ (cs : List Nat) (ch : Nat), x = SX.S cs ∧ cs[js]? = some ch ∧ atI abc.cps.toList ((fi + sv * (k : Int)) % N) = some ch
theorem join_eq (cs : List Nat) : Txt.join "" (cs.map sgS) = SX.S cs := by
  have z := SX.join_S [] (cs.map fun c => [c])
  rw [joinL_ones, List.map_map] at z
  exact z
theorem Spelt.snoc {abc : Str} {N fi sv : Int} {js i : Nat} {xs : List Str} {cs : List Nat} {ch : Nat} (h : Spelt abc N fi sv js xs) (hl : xs.length = i) (e1 : cs[js]? = some ch) (e2 : atI abc.cps.toList ((fi + sv * (i : Int)) % N) = some ch) : Spelt abc N fi sv js (xs ++ [Txt.join "" (cs.map sgS)]) := fun k x e => by
  by_cases hk : k < xs.length
  · rw [List.getElem?_append_left hk] at e
    exact h k x e
  · rw [List.getElem?_append_right (by omega)] at e
    have hz : k - xs.length = 0 := by
      cases hq : k - xs.length with
      | zero => rfl
      | succ n => rw [hq] at e; cases e
    rw [hz] at e
    cases e
    have hki : k = i := by omega
    subst hki
    exact ⟨cs, ch, join_eq cs, e1, e2⟩
theorem Spelt.nodup {abc : Str} {N fi sv : Int} {js : Nat} {xs : List Str} (h : Spelt abc N fi sv js xs) (hN : 0 < N) (hl : (abc.cps.toList.length : Int) = N) (hn : abc.cps.toList.Nodup) (far : ∀ k k' : Nat, k < xs.length → k' < xs.length → (fi + sv * (k : Int)) % N = (fi + sv * (k' : Int)) % N → k = k') : xs.Nodup := by
  refine List.pairwise_iff_getElem.mpr fun i j hi hj hij ex => ?_
  obtain ⟨cs1, c1, e1, f1, g1⟩ := h i xs[i] (List.getElem?_eq_getElem hi)
  obtain ⟨cs2, c2, e2, f2, g2⟩ := h j xs[j] (List.getElem?_eq_getElem hj)
  rw [e1, e2] at ex
  have ec : cs1 = cs2 := SX.S_inj ex
  rw [ec, f2] at f1
  have ecc : c2 = c1 := Option.some.inj f1
  rw [← ecc] at g1
  obtain ⟨a, ha⟩ := Int.eq_ofNat_of_zero_le (Int.emod_nonneg (fi + sv * (i : Int)) (show N ≠ 0 by omega))
  obtain ⟨b, hb⟩ := Int.eq_ofNat_of_zero_le (Int.emod_nonneg (fi + sv * (j : Int)) (show N ≠ 0 by omega))
  have la := Int.emod_lt_of_pos (fi + sv * (i : Int)) hN
  have lb := Int.emod_lt_of_pos (fi + sv * (j : Int)) hN
  rw [ha] at g1 la
  rw [hb] at g2 lb
  have a1 : a < abc.cps.toList.length := by omega
  have b1 : b < abc.cps.toList.length := by omega
  have g1' : abc.cps.toList[a]? = some c2 := by
    have z := atI_nat (List.getElem?_eq_getElem a1)
    rw [z] at g1
    rw [List.getElem?_eq_getElem a1]
    exact g1
  have g2' : abc.cps.toList[b]? = some c2 := by
    have z := atI_nat (List.getElem?_eq_getElem b1)
    rw [z] at g2
    rw [List.getElem?_eq_getElem b1]
    exact g2
  have eab : a = b := (List.getElem?_inj a1 hn).mp (g1'.trans g2'.symm)
  have := far i j (by omega) hj (by rw [ha, hb, eab])
  omega
/-! ### _law_names -/
abbrev sNames : Stmt := topS 10
theorem scNames : FnScope ["_law_state", "_law_many", "_law_letters", "_law_k", "_law_word", "_law_spot", "_law_first", "_law_step", "_law_made"] ["_law_state", "_law_many"] (defScope sNames) := ⟨rfl, rfl, rfl, by decide +kernel, rfl, by decide +kernel, by decide +kernel⟩
abbrev letNames : Str := "abcdefghijklmnopqrstuvwxyz"
theorem atNames {r : Int} (h0 : 0 ≤ r) (h1 : r < 26) : ∃ ch : Nat, atI letNames.cps.toList r = some ch ∧ ch < 1114112 := by
  obtain ⟨j, rfl⟩ := Int.eq_ofNat_of_zero_le h0
  have hl : letNames.cps.toList.length = 26 := by decide +kernel
  have hj : j < letNames.cps.toList.length := by omega
  have hall : ∀ c ∈ letNames.cps.toList, c < 1114112 := by decide +kernel
  exact ⟨_, atI_nat (List.getElem?_eq_getElem hj), hall _ (List.getElem_mem hj)⟩
section
variable {K : PySem.W.Frag} {mg : Str → Option Value} {P : Program} {w : World} {base : Heap}
theorem ok_Names {f : Addr} {fd : FuncData} (F : Fun K "_law_names" "_law_names" sNames f fd) (CT : Cal P w K mg base 1 "_law_take" ["_law_state", "_law_many"] spTake) (mr : mg "range" = none) (me : mg "len" = none) : FnOk P w K mg base CX0 2 f fd ["_law_state", "_law_many"] spNames := by
  refine F.ok scNames (fun vs H Q E h => ?_) (fun cdv A outer s H vs Q E hr h => ?_)
  · obtain ⟨d, c, t, m, rfl, _⟩ := h
    rfl
  · obtain ⟨d, c, t, m, rfl, hS, ht, hm0, hm1, q⟩ := h
    refine ⟨_, pss_cons (ps_set (i := 2) scNames.nd rfl (.inr rfl) pe_str)
      (pss_cons (ps_setLc (i := 4) (own := [("_law_k", 3)]) (g := gName 3) (tt := tYes) (te := tOp L2.rIxS (tVar 2) (tCall spTake [] E0 (tCons (tVar 0) (tCons (tC (.int 26)) tNil)))) rfl scNames.nd rfl rfl rfl (pi_range1 rfl mr (pa_cons (pe_op op_add pe_int (pe_own CT hr (by rfl) (pa_cons (pv 0) (pa_cons pe_int pa_nil)))) pa_nil))
            (blkOk_by (own := [("_law_k", 3)]) (N := ["_law_state", "_law_many", "_law_letters", "_law_k", "_law_word", "_law_spot", "_law_first", "_law_step", "_law_made"]) (sc := defScope sNames) (by decide +kernel)) (fun _ _ _ _ _ => pg_name (i := 3) scNames.nd rfl (.inl rfl)) (fun _ _ _ _ _ => pts_nil) (fun _ _ _ _ _ => pe_ix ix_str (pv 2) (pe_own CT hr (by rfl) (pa_cons (pv 0) (pa_cons pe_int pa_nil))) (fun _ _ => rfl)))
      (pss_cons (ps_par3 rfl scNames.nd (i := 5) (j := 6) (l := 7) rfl rfl rfl (by decide) (by decide) (by decide) rfl rfl rfl (pa_cons (pe_own CT hr (by rfl) (pa_cons (pv 0) (pa_cons (pe_callB call_len_seq (by rfl) me PySem.boot_len (pa_cons (pv 4) pa_nil)) pa_nil))) (pa_cons (pe_own CT hr (by rfl) (pa_cons (pv 0) (pa_cons pe_int pa_nil))) (pa_cons (pe_ix ix_list (pe_lst (pa_cons pe_int (pa_cons pe_int (pa_cons pe_int (pa_cons pe_int pa_nil))))) (pe_own CT hr (by rfl) (pa_cons (pv 0) (pa_cons pe_int pa_nil))) (fun _ _ => rfl)) pa_nil))) (by rfl))
      (pss_cons (ps_set (i := 8) scNames.nd rfl (.inl rfl) (pe_lst pa_nil))
      (pss_cons (ps_for PassesOwn.never rfl (pi_range1 rfl mr (pa_cons (pv 1) pa_nil)) (pg_name (i := 3) scNames.nd rfl (.inl rfl))
        (pss_cons (ps_asg (pe_ix ix_str (pv 2) (pe_op op_mod (pe_op op_add (pv 6) (pe_op op_mul (pv 7) (pv 3))) pe_int) (fun _ _ => rfl)) (pg_sub (pv 4) (pv 5) set_list))
        (pss_one (ps_expr (pe_bm PySem.F.plainAttrs_list PySem.F.slot_list_append PySem.F.type_list_append mt_append (pv 8) (pa_cons (pe_join pe_str (pv 4)) pa_nil))))))
      (pss_one (ps_ret (pv 8))))))), ?_⟩
    refine ⟨_, rfl, d, c, t, 8, rfl, hS, by omega, by decide, by decide, fun r H1 r0 r1 hS1 k1 => ⟨1, r, rfl, rfl, 1 + r, rfl, by omega, by omega, fun D nD => ?_⟩⟩
    have offD := hS1.off nD
    refine lc_range (n := (1 + r).toNat) (fun j H' => ∃ (t' : Int) (cs : List Nat), H' D = some (.lst (cs.map sgn)) ∧ cs.length = j ∧ (∀ ch ∈ cs, ch < 1114112) ∧ t ≤ t' ∧ t' ≤ t + 1 + j ∧ StAt H' d c t' ∧ Kp d c H1 H') ⟨t + 1, [], upd_same, rfl, (fun _ z => nomatch z), by omega, by omega, hS1.same (same_upd nD), Kp.same d c (same_upd nD)⟩ (fun j H' hj hP => ?_) (fun H2 hP => ?_)
    · obtain ⟨t', cs, eD, hcl, hcs, u0, u1, hS', k'⟩ := hP
      have hj2 : j ≤ 10 := by omega
      refine ⟨rfl, _, rfl, _, rfl, d, c, t', 26, rfl, hS', by omega, by decide, by decide, fun r2 H3 r20 r21 hS3 k3 => ?_⟩
      obtain ⟨ch, hat, hch⟩ := atNames r20 r21
      have eD3 := k3 _ _ offD.1 offD.2 eD
      refine ⟨_, r2, ch, rfl, rfl, (by show letNames.length ≤ sizeLine; decide +kernel), hat, ?_⟩
      refine ⟨_, eD3, small1000 (by rw [List.length_map]; omega), t' + 1, cs ++ [ch], by rw [upd_same, List.map_append]; rfl, by rw [List.length_append, hcl]; rfl, fun x hx => ?_, by omega, by omega, hS3.upd offD.1 offD.2, fun b o b1 b2 e => ?_⟩
      · rcases List.mem_append.mp hx with z | z
        · exact hcs x z
        · rw [List.mem_singleton.mp z]; exact hch
      · rw [upd_ne (ne_of_none e nD)]
        exact k3 b o b1 b2 (k' b o b1 b2 e)
    obtain ⟨t', cs, eD, hcl, hcs, u0, u1, hS2, k2⟩ := hP
    have hcl1 : 1 ≤ cs.length := by omega
    have hcl2 : cs.length ≤ 10 := by omega
    have lenm : (cs.map sgn).length = cs.length := List.length_map ..
    -- spot, first, step
    refine ⟨_, rfl, _, rfl, D, _, rfl, Sq.list eD, d, c, t', (cs.length : Int), by rw [lenm]; rfl, hS2, by omega, by omega, by omega, fun sp H3 sp0 sp1 hS3 k3 => ?_⟩
    refine ⟨_, rfl, d, c, t' + 1, 26, rfl, hS3, by omega, by decide, by decide, fun fi H4 fi0 fi1 hS4 k4 => ?_⟩
    refine ⟨(by show 4 ≤ sizeLine; decide), fun z nz => ?_⟩
    have sz := same_upd (o := .lst [.int 1, .int 5, .int 7, .int 25]) nz
    have offz := hS4.off nz
    refine ⟨_, rfl, d, c, t' + 1 + 1, 4, rfl, hS4.same sz, by omega, by decide, by decide, fun r4 H5 r40 r41 hS5 k5 => ?_⟩
    obtain ⟨sv, hsv, hsv0, hsv1, hat4⟩ : ∃ sv : Int, (sv = 1 ∨ sv = 5 ∨ sv = 7 ∨ sv = 25) ∧ 0 ≤ sv ∧ sv ≤ 36 ∧ atI [V.int 1, V.int 5, V.int 7, V.int 25] r4 = some (.int sv) := by
      have : r4 = 0 ∨ r4 = 1 ∨ r4 = 2 ∨ r4 = 3 := by omega
      rcases this with rfl | rfl | rfl | rfl
      · exact ⟨1, .inl rfl, by decide, by decide, rfl⟩
      · exact ⟨5, .inr (.inl rfl), by decide, by decide, rfl⟩
      · exact ⟨7, .inr (.inr (.inl rfl)), by decide, by decide, rfl⟩
      · exact ⟨25, .inr (.inr (.inr rfl)), by decide, by decide, rfl⟩
    refine ⟨z, _, r4, .int sv, rfl, rfl, SqL.of (k5 _ _ offz.1 offz.2 upd_same), hat4, _, _, _, rfl, ?_⟩
    obtain ⟨js, rfl⟩ := Int.eq_ofNat_of_zero_le sp0
    have k25 : Kp d c H2 H5 := (k3.trans k4).trans ((Kp.same d c sz).trans k5)
    have eD5 := k25 _ _ offD.1 offD.2 eD
    -- made
    refine ⟨Nat.zero_le _, fun l nl => ?_⟩
    have sl := same_upd (o := .lst []) nl
    have offl := hS5.off nl
    have nlD : D ≠ l := ne_of_none eD5 nl
    have kall : Kp d c H H5 := (k1.trans k2).trans k25
    have nlH : H l = none := Kp.free kall hS5 nl
    have nDH : H D = none := Kp.free k1 hS1 nD
    refine ⟨_, rfl, m, rfl, by omega, by omega, for_range (n := m.toNat) (fun i σ Hx => ∃ (cs : List Nat) (xs : List Str) (y3 : Option V), σ = [some (.ref d), some (.int m), some (.str letNames), y3, some (.ref D), some (.int (js : Int)), some (.int fi), some (.int sv), some (.ref l)] ∧ Hx D = some (.lst (cs.map sgn)) ∧ 1 ≤ cs.length ∧ cs.length ≤ 10 ∧ js < cs.length ∧ (∀ ch ∈ cs, ch < 1114112) ∧ Hx l = some (.lst (xs.map V.str)) ∧ xs.length = i ∧ (∀ x ∈ xs, PyData.strOk x = true) ∧ Spelt letNames 26 fi sv js xs ∧ StAt Hx d c (t' + 1 + 1 + 1) ∧ Kp d c H Hx)
      ⟨cs, [], _, rfl, sl _ _ eD5, hcl1, hcl2, by omega, hcs, upd_same, rfl, (fun _ z => nomatch z), (fun _ _ e => nomatch e), hS5.same sl, kall.trans (Kp.same d c sl)⟩ (fun i σ Hx hi hP => ?_) (fun σ Hx hP => ?_)⟩
    · obtain ⟨cs, xs, y3, rfl, eDx, g1, g2, g3, hcs, elx, hxl, hxs, hsp, hSx, kx⟩ := hP
      have hi2 : (i : Int) < 40 := by omega
      have hmod0 : 0 ≤ (fi + sv * (0 + (i : Int))) % 26 := Int.emod_nonneg _ (by decide)
      have hmod1 : (fi + sv * (0 + (i : Int))) % 26 < 26 := Int.emod_lt_of_pos _ (by decide)
      obtain ⟨ch, hat, hch⟩ := atNames hmod0 hmod1
      refine ⟨_, rfl, _, rfl, _, rfl, _, rfl, sv, 0 + (i : Int), rfl, rfl, .inl ⟨by omega, by omega⟩, fi, _, rfl, rfl, _, 26, rfl, rfl, (show (0 : Int) < 26 by decide), _, _, ch, rfl, rfl, (by show letNames.length ≤ sizeLine; decide +kernel), hat, ?_⟩
      refine ⟨_, rfl, _, rfl, D, _, (js : Int), js, rfl, rfl, eDx, ixN_of (by rw [List.length_map]; exact g3), ?_⟩
      have es : (cs.map sgn).set js (.str ⟨#[ch]⟩) = (cs.set js ch).map sgn := by rw [List.map_set]; rfl
      rw [es]
      have hcs' : ∀ x ∈ cs.set js ch, x < 1114112 := fun x hx => by
        rcases List.mem_or_eq_of_mem_set hx with z | z
        · exact hcs x z
        · rw [z]; exact hch
      have hlen' : (cs.set js ch).length = cs.length := List.length_set ..
      have hjs : (cs.set js ch)[js]? = some ch := by rw [List.getElem?_set_self g3]
      have eD6 : upd Hx D (.lst ((cs.set js ch).map sgn)) D = some (.lst ((cs.set js ch).map sgn)) := upd_same
      have el6 : upd Hx D (.lst ((cs.set js ch).map sgn)) l = some (.lst (xs.map V.str)) := by rw [upd_ne nlD.symm]; exact elx
      have hS6 := hSx.upd (o := .lst ((cs.set js ch).map sgn)) offD.1 offD.2
      have k6 : Kp d c H (upd Hx D (.lst ((cs.set js ch).map sgn))) := fun b o b1 b2 e => by rw [upd_ne (ne_of_none e nDH)]; exact kx b o b1 b2 e
      revert eD6 el6 hS6 k6
      rw [← hlen'] at g1 g2 g3
      generalize upd Hx D (.lst ((cs.set js ch).map sgn)) = H6
      generalize cs.set js ch = cs2 at g1 g2 g3 hcs' hjs ⊢
      intro eD6 el6 hS6 k6
      refine ⟨_, rfl, .inl ⟨rfl, _, SqL.of el6⟩, ⟨_, rfl⟩, _, rfl, _, D, cs2.map sgS, rfl, rfl, .inl (SqL.of (by rw [eD6, List.map_map]; rfl)), join_small g2, ?_⟩
      refine ⟨l, _, _, rfl, rfl, el6, small1000 (by rw [List.length_map]; omega), cs2, xs ++ [Txt.join "" (cs2.map sgS)], _, rfl, by rw [upd_ne nlD]; exact eD6, g1, g2, g3, hcs', by rw [upd_same, List.map_append]; rfl, by rw [List.length_append, hxl]; rfl, fun x hx => ?_, hsp.snoc hxl hjs (by rw [Int.zero_add] at hat; exact hat), hS6.upd offl.1 offl.2, fun b o b1 b2 e => ?_⟩
      · rcases List.mem_append.mp hx with z | z
        · exact hxs x z
        · rw [List.mem_singleton.mp z]; exact join_ok hcs'
      · rw [upd_ne (ne_of_none e nlH)]
        exact k6 b o b1 b2 e
    · obtain ⟨cs, xs, y3, rfl, eDx, g1, g2, g3, hcs, elx, hxl, hxs, hsp, hSx, kx⟩ := hP
      exact ⟨_, rfl, q l xs _ Hx nlH elx hxs (by omega) (hsp.nodup (by decide) (by decide +kernel) (by decide +kernel) fun k k' hk hk' e => by rcases hsv with rfl | rfl | rfl | rfl <;> omega) (by omega) (by omega) hSx kx⟩
end
/-! ### _law_marks_by -/
abbrev sMarks : Stmt := topS 11
theorem scMarks : FnScope ["_law_state", "_law_many", "_law_signs", "_law_k", "_law_word", "_law_spot", "_law_first", "_law_step", "_law_made"] ["_law_state", "_law_many"] (defScope sMarks) := ⟨rfl, rfl, rfl, by decide +kernel, rfl, by decide +kernel, by decide +kernel⟩
abbrev letMarks : Str := "abcdefghijklmnopqrstuvwxyz0123456789"
theorem atMarks {r : Int} (h0 : 0 ≤ r) (h1 : r < 36) : ∃ ch : Nat, atI letMarks.cps.toList r = some ch ∧ ch < 1114112 := by
  obtain ⟨j, rfl⟩ := Int.eq_ofNat_of_zero_le h0
  have hl : letMarks.cps.toList.length = 36 := by decide +kernel
  have hj : j < letMarks.cps.toList.length := by omega
  have hall : ∀ c ∈ letMarks.cps.toList, c < 1114112 := by decide +kernel
  exact ⟨_, atI_nat (List.getElem?_eq_getElem hj), hall _ (List.getElem_mem hj)⟩
section
variable {K : PySem.W.Frag} {mg : Str → Option Value} {P : Program} {w : World} {base : Heap}
theorem ok_Marks {f : Addr} {fd : FuncData} (F : Fun K "_law_marks_by" "_law_marks_by" sMarks f fd) (CT : Cal P w K mg base 1 "_law_take" ["_law_state", "_law_many"] spTake) (mr : mg "range" = none) (me : mg "len" = none) : FnOk P w K mg base CX0 2 f fd ["_law_state", "_law_many"] spNames := by
  refine F.ok scMarks (fun vs H Q E h => ?_) (fun cdv A outer s H vs Q E hr h => ?_)
  · obtain ⟨d, c, t, m, rfl, _⟩ := h
    rfl
  · obtain ⟨d, c, t, m, rfl, hS, ht, hm0, hm1, q⟩ := h
    refine ⟨_, pss_cons (ps_set (i := 2) scMarks.nd rfl (.inr rfl) pe_str)
      (pss_cons (ps_setLc (i := 4) (own := [("_law_k", 3)]) (g := gName 3) (tt := tYes) (te := tOp L2.rIxS (tVar 2) (tCall spTake [] E0 (tCons (tVar 0) (tCons (tC (.int 36)) tNil)))) rfl scMarks.nd rfl rfl rfl (pi_range1 rfl mr (pa_cons (pe_op op_add pe_int (pe_own CT hr (by rfl) (pa_cons (pv 0) (pa_cons pe_int pa_nil)))) pa_nil))
            (blkOk_by (own := [("_law_k", 3)]) (N := ["_law_state", "_law_many", "_law_signs", "_law_k", "_law_word", "_law_spot", "_law_first", "_law_step", "_law_made"]) (sc := defScope sMarks) (by decide +kernel)) (fun _ _ _ _ _ => pg_name (i := 3) scMarks.nd rfl (.inl rfl)) (fun _ _ _ _ _ => pts_nil) (fun _ _ _ _ _ => pe_ix ix_str (pv 2) (pe_own CT hr (by rfl) (pa_cons (pv 0) (pa_cons pe_int pa_nil))) (fun _ _ => rfl)))
      (pss_cons (ps_par3 rfl scMarks.nd (i := 5) (j := 6) (l := 7) rfl rfl rfl (by decide) (by decide) (by decide) rfl rfl rfl (pa_cons (pe_own CT hr (by rfl) (pa_cons (pv 0) (pa_cons (pe_callB call_len_seq (by rfl) me PySem.boot_len (pa_cons (pv 4) pa_nil)) pa_nil))) (pa_cons (pe_own CT hr (by rfl) (pa_cons (pv 0) (pa_cons pe_int pa_nil))) (pa_cons (pe_ix ix_list (pe_lst (pa_cons pe_int (pa_cons pe_int (pa_cons pe_int (pa_cons pe_int pa_nil))))) (pe_own CT hr (by rfl) (pa_cons (pv 0) (pa_cons pe_int pa_nil))) (fun _ _ => rfl)) pa_nil))) (by rfl))
      (pss_cons (ps_set (i := 8) scMarks.nd rfl (.inl rfl) (pe_lst pa_nil))
      (pss_cons (ps_for PassesOwn.never rfl (pi_range1 rfl mr (pa_cons (pv 1) pa_nil)) (pg_name (i := 3) scMarks.nd rfl (.inl rfl))
        (pss_cons (ps_asg (pe_ix ix_str (pv 2) (pe_op op_mod (pe_op op_add (pv 6) (pe_op op_mul (pv 7) (pv 3))) pe_int) (fun _ _ => rfl)) (pg_sub (pv 4) (pv 5) set_list))
        (pss_one (ps_expr (pe_bm PySem.F.plainAttrs_list PySem.F.slot_list_append PySem.F.type_list_append mt_append (pv 8) (pa_cons (pe_join pe_str (pv 4)) pa_nil))))))
      (pss_one (ps_ret (pv 8))))))), ?_⟩
    refine ⟨_, rfl, d, c, t, 7, rfl, hS, by omega, by decide, by decide, fun r H1 r0 r1 hS1 k1 => ⟨4, r, rfl, rfl, 4 + r, rfl, by omega, by omega, fun D nD => ?_⟩⟩
    have offD := hS1.off nD
    refine lc_range (n := (4 + r).toNat) (fun j H' => ∃ (t' : Int) (cs : List Nat), H' D = some (.lst (cs.map sgn)) ∧ cs.length = j ∧ (∀ ch ∈ cs, ch < 1114112) ∧ t ≤ t' ∧ t' ≤ t + 1 + j ∧ StAt H' d c t' ∧ Kp d c H1 H') ⟨t + 1, [], upd_same, rfl, (fun _ z => nomatch z), by omega, by omega, hS1.same (same_upd nD), Kp.same d c (same_upd nD)⟩ (fun j H' hj hP => ?_) (fun H2 hP => ?_)
    · obtain ⟨t', cs, eD, hcl, hcs, u0, u1, hS', k'⟩ := hP
      have hj2 : j ≤ 10 := by omega
      refine ⟨rfl, _, rfl, _, rfl, d, c, t', 36, rfl, hS', by omega, by decide, by decide, fun r2 H3 r20 r21 hS3 k3 => ?_⟩
      obtain ⟨ch, hat, hch⟩ := atMarks r20 r21
      have eD3 := k3 _ _ offD.1 offD.2 eD
      refine ⟨_, r2, ch, rfl, rfl, (by show letMarks.length ≤ sizeLine; decide +kernel), hat, ?_⟩
      refine ⟨_, eD3, small1000 (by rw [List.length_map]; omega), t' + 1, cs ++ [ch], by rw [upd_same, List.map_append]; rfl, by rw [List.length_append, hcl]; rfl, fun x hx => ?_, by omega, by omega, hS3.upd offD.1 offD.2, fun b o b1 b2 e => ?_⟩
      · rcases List.mem_append.mp hx with z | z
        · exact hcs x z
        · rw [List.mem_singleton.mp z]; exact hch
      · rw [upd_ne (ne_of_none e nD)]
        exact k3 b o b1 b2 (k' b o b1 b2 e)
    obtain ⟨t', cs, eD, hcl, hcs, u0, u1, hS2, k2⟩ := hP
    have hcl1 : 1 ≤ cs.length := by omega
    have hcl2 : cs.length ≤ 10 := by omega
    have lenm : (cs.map sgn).length = cs.length := List.length_map ..
    -- spot, first, step
    refine ⟨_, rfl, _, rfl, D, _, rfl, Sq.list eD, d, c, t', (cs.length : Int), by rw [lenm]; rfl, hS2, by omega, by omega, by omega, fun sp H3 sp0 sp1 hS3 k3 => ?_⟩
    refine ⟨_, rfl, d, c, t' + 1, 36, rfl, hS3, by omega, by decide, by decide, fun fi H4 fi0 fi1 hS4 k4 => ?_⟩
    refine ⟨(by show 4 ≤ sizeLine; decide), fun z nz => ?_⟩
    have sz := same_upd (o := .lst [.int 1, .int 5, .int 7, .int 35]) nz
    have offz := hS4.off nz
    refine ⟨_, rfl, d, c, t' + 1 + 1, 4, rfl, hS4.same sz, by omega, by decide, by decide, fun r4 H5 r40 r41 hS5 k5 => ?_⟩
    obtain ⟨sv, hsv, hsv0, hsv1, hat4⟩ : ∃ sv : Int, (sv = 1 ∨ sv = 5 ∨ sv = 7 ∨ sv = 35) ∧ 0 ≤ sv ∧ sv ≤ 36 ∧ atI [V.int 1, V.int 5, V.int 7, V.int 35] r4 = some (.int sv) := by
      have : r4 = 0 ∨ r4 = 1 ∨ r4 = 2 ∨ r4 = 3 := by omega
      rcases this with rfl | rfl | rfl | rfl
      · exact ⟨1, .inl rfl, by decide, by decide, rfl⟩
      · exact ⟨5, .inr (.inl rfl), by decide, by decide, rfl⟩
      · exact ⟨7, .inr (.inr (.inl rfl)), by decide, by decide, rfl⟩
      · exact ⟨35, .inr (.inr (.inr rfl)), by decide, by decide, rfl⟩
    refine ⟨z, _, r4, .int sv, rfl, rfl, SqL.of (k5 _ _ offz.1 offz.2 upd_same), hat4, _, _, _, rfl, ?_⟩
    obtain ⟨js, rfl⟩ := Int.eq_ofNat_of_zero_le sp0
    have k25 : Kp d c H2 H5 := (k3.trans k4).trans ((Kp.same d c sz).trans k5)
    have eD5 := k25 _ _ offD.1 offD.2 eD
    -- made
    refine ⟨Nat.zero_le _, fun l nl => ?_⟩
    have sl := same_upd (o := .lst []) nl
    have offl := hS5.off nl
    have nlD : D ≠ l := ne_of_none eD5 nl
    have kall : Kp d c H H5 := (k1.trans k2).trans k25
    have nlH : H l = none := Kp.free kall hS5 nl
    have nDH : H D = none := Kp.free k1 hS1 nD
    refine ⟨_, rfl, m, rfl, by omega, by omega, for_range (n := m.toNat) (fun i σ Hx => ∃ (cs : List Nat) (xs : List Str) (y3 : Option V), σ = [some (.ref d), some (.int m), some (.str letMarks), y3, some (.ref D), some (.int (js : Int)), some (.int fi), some (.int sv), some (.ref l)] ∧ Hx D = some (.lst (cs.map sgn)) ∧ 1 ≤ cs.length ∧ cs.length ≤ 10 ∧ js < cs.length ∧ (∀ ch ∈ cs, ch < 1114112) ∧ Hx l = some (.lst (xs.map V.str)) ∧ xs.length = i ∧ (∀ x ∈ xs, PyData.strOk x = true) ∧ Spelt letMarks 36 fi sv js xs ∧ StAt Hx d c (t' + 1 + 1 + 1) ∧ Kp d c H Hx)
      ⟨cs, [], _, rfl, sl _ _ eD5, hcl1, hcl2, by omega, hcs, upd_same, rfl, (fun _ z => nomatch z), (fun _ _ e => nomatch e), hS5.same sl, kall.trans (Kp.same d c sl)⟩ (fun i σ Hx hi hP => ?_) (fun σ Hx hP => ?_)⟩
    · obtain ⟨cs, xs, y3, rfl, eDx, g1, g2, g3, hcs, elx, hxl, hxs, hsp, hSx, kx⟩ := hP
      have hi2 : (i : Int) < 40 := by omega
      have hmod0 : 0 ≤ (fi + sv * (0 + (i : Int))) % 36 := Int.emod_nonneg _ (by decide)
      have hmod1 : (fi + sv * (0 + (i : Int))) % 36 < 36 := Int.emod_lt_of_pos _ (by decide)
      obtain ⟨ch, hat, hch⟩ := atMarks hmod0 hmod1
      refine ⟨_, rfl, _, rfl, _, rfl, _, rfl, sv, 0 + (i : Int), rfl, rfl, .inl ⟨by omega, by omega⟩, fi, _, rfl, rfl, _, 36, rfl, rfl, (show (0 : Int) < 36 by decide), _, _, ch, rfl, rfl, (by show letMarks.length ≤ sizeLine; decide +kernel), hat, ?_⟩
      refine ⟨_, rfl, _, rfl, D, _, (js : Int), js, rfl, rfl, eDx, ixN_of (by rw [List.length_map]; exact g3), ?_⟩
      have es : (cs.map sgn).set js (.str ⟨#[ch]⟩) = (cs.set js ch).map sgn := by rw [List.map_set]; rfl
      rw [es]
      have hcs' : ∀ x ∈ cs.set js ch, x < 1114112 := fun x hx => by
        rcases List.mem_or_eq_of_mem_set hx with z | z
        · exact hcs x z
        · rw [z]; exact hch
      have hlen' : (cs.set js ch).length = cs.length := List.length_set ..
      have hjs : (cs.set js ch)[js]? = some ch := by rw [List.getElem?_set_self g3]
      have eD6 : upd Hx D (.lst ((cs.set js ch).map sgn)) D = some (.lst ((cs.set js ch).map sgn)) := upd_same
      have el6 : upd Hx D (.lst ((cs.set js ch).map sgn)) l = some (.lst (xs.map V.str)) := by rw [upd_ne nlD.symm]; exact elx
      have hS6 := hSx.upd (o := .lst ((cs.set js ch).map sgn)) offD.1 offD.2
      have k6 : Kp d c H (upd Hx D (.lst ((cs.set js ch).map sgn))) := fun b o b1 b2 e => by rw [upd_ne (ne_of_none e nDH)]; exact kx b o b1 b2 e
      revert eD6 el6 hS6 k6
      rw [← hlen'] at g1 g2 g3
      generalize upd Hx D (.lst ((cs.set js ch).map sgn)) = H6
      generalize cs.set js ch = cs2 at g1 g2 g3 hcs' hjs ⊢
      intro eD6 el6 hS6 k6
      refine ⟨_, rfl, .inl ⟨rfl, _, SqL.of el6⟩, ⟨_, rfl⟩, _, rfl, _, D, cs2.map sgS, rfl, rfl, .inl (SqL.of (by rw [eD6, List.map_map]; rfl)), join_small g2, ?_⟩
      refine ⟨l, _, _, rfl, rfl, el6, small1000 (by rw [List.length_map]; omega), cs2, xs ++ [Txt.join "" (cs2.map sgS)], _, rfl, by rw [upd_ne nlD]; exact eD6, g1, g2, g3, hcs', by rw [upd_same, List.map_append]; rfl, by rw [List.length_append, hxl]; rfl, fun x hx => ?_, hsp.snoc hxl hjs (by rw [Int.zero_add] at hat; exact hat), hS6.upd offl.1 offl.2, fun b o b1 b2 e => ?_⟩
      · rcases List.mem_append.mp hx with z | z
        · exact hxs x z
        · rw [List.mem_singleton.mp z]; exact join_ok hcs'
      · rw [upd_ne (ne_of_none e nlH)]
        exact k6 b o b1 b2 e
    · obtain ⟨cs, xs, y3, rfl, eDx, g1, g2, g3, hcs, elx, hxl, hxs, hsp, hSx, kx⟩ := hP
      exact ⟨_, rfl, q l xs _ Hx nlH elx hxs (by omega) (hsp.nodup (by decide) (by decide +kernel) (by decide +kernel) fun k k' hk hk' e => by rcases hsv with rfl | rfl | rfl | rfl <;> omega) (by omega) (by omega) hSx kx⟩
end

theorem snoc_cases {α : Type} (l : List α) : l = [] ∨ ∃ l' x, l = l' ++ [x] := by
  rcases List.eq_nil_or_concat l with h | ⟨l', x, h⟩
  · exact .inl h
  · exact .inr ⟨l', x, by rw [h]; simp⟩
theorem _root_.GP.Prs.last {H : Hp} {us : List V} {ps : List (Int × Int)} {p : Int × Int} (h : Prs H us (ps ++ [p])) : ∃ us' T, us = us' ++ [.ref T] ∧ H T = some (.tup [.int p.1, .int p.2]) ∧ Prs H us' ps := by
  have hl := h.1
  rw [List.length_append] at hl
  rcases snoc_cases us with e | ⟨us', x, e⟩
  · rw [e] at hl
    simp at hl
  · subst e
    rw [List.length_append] at hl
    have hl' : us'.length = ps.length := Nat.add_right_cancel hl
    obtain ⟨T, e1, e2⟩ := h.2 ps.length p (by rw [List.getElem?_append_right (Nat.le_refl _), Nat.sub_self]; rfl)
    rw [List.getElem?_append_right (by omega), hl', Nat.sub_self] at e1
    refine ⟨us', T, by rw [Option.some.inj e1], e2, hl', fun i q eq => ?_⟩
    have hi : i < ps.length := (List.getElem?_eq_some_iff.mp eq).1
    obtain ⟨b, f1, f2⟩ := h.2 i q (by rw [List.getElem?_append_left hi]; exact eq)
    rw [List.getElem?_append_left (by omega)] at f1
    exact ⟨b, f1, f2⟩
theorem eqv_pr_nil (ps : List (Int × Int)) : PyData.eqv (PyData.list (ps.map pairD)) (PyData.list []) = ps.isEmpty := by
  cases ps with
  | nil => simp [PyData.eqv, PyData.eqvAll]
  | cons p r => simp [PyData.eqv, PyData.eqvAll]
def rIxS (K : PySem.W.Frag) : R2 := fun x y H Q => ∃ p xs i v, x = .ref p ∧ y = .int i ∧ Sq K H p xs ∧ atI xs i = some v ∧ Q v H
theorem ix_seq {X : Cx} : IxR X (rIxS X.K) := by
  intro value slice pins s σ H x y v u Q I rx ry h hs
  obtain ⟨p, xs, i, z, e1, e2, hq, he, q⟩ := h
  rcases hq with hq | hq
  · exact ix_list value slice pins s σ H x y v u Q I rx ry ⟨p, xs, i, z, e1, e2, hq, he, q⟩ hs
  · exact ix_tup value slice pins s σ H x y v u Q I rx ry ⟨p, xs, i, z, e1, e2, hq, he, q⟩ hs

/-! ### the table of the def that holds the generator expression -/
theorem tab_at {Pt : Addr} {H H2 : Hp} {b : Addr} {o : HO} (g : GxR.TabG H Pt) (t : GxR.Tabbed Pt H H2) (e : H b = some o) (h : ∀ q, o ≠ .tbl q) : H2 b = some o := by
  obtain ⟨ps, hP, _⟩ := g
  rw [t.2 b (ne_of e hP (h ps))]
  exact e
theorem StAt.tab {Pt : Addr} {H H2 : Hp} {d c : Addr} {t : Int} (S : StAt H d c t) (g : GxR.TabG H Pt) (x : GxR.Tabbed Pt H H2) : StAt H2 d c t :=
  ⟨tab_at g x S.dict (fun _ z => nomatch z), let ⟨cs, e, r⟩ := S.cells; ⟨cs, tab_at g x e (fun _ z => nomatch z), r⟩, S.pos⟩
theorem _root_.GP.Prs.tab {Pt : Addr} {H H2 : Hp} {vs : List V} {ps : List (Int × Int)} (h : Prs H vs ps) (g : GxR.TabG H Pt) (x : GxR.Tabbed Pt H H2) : Prs H2 vs ps :=
  ⟨h.1, fun i p e => let ⟨a, e1, e2⟩ := h.2 i p e; ⟨a, e1, tab_at g x e2 (fun _ z => nomatch z)⟩⟩
theorem tabG_same {Pt : Addr} {H H' : Hp} (g : GxR.TabG H Pt) (s : Same H H') : GxR.TabG H' Pt := let ⟨ps, e, r⟩ := g; ⟨ps, s _ _ e, r⟩
theorem tabG_kp {Pt : Addr} {H H' : Hp} {d c : Addr} {t : Int} (g : GxR.TabG H Pt) (S : StAt H d c t) (k : Kp d c H H') : GxR.TabG H' Pt := let ⟨ps, e, r⟩ := g; ⟨ps, k.at S e (fun _ z => nomatch z) (fun _ z => nomatch z), r⟩
theorem tabG_upd {Pt : Addr} {H : Hp} {l : Addr} {o u : HO} (g : GxR.TabG H Pt) (e : H l = some o) (h : ∀ q, o ≠ .tbl q) : GxR.TabG (upd H l u) Pt := let ⟨ps, eP, r⟩ := g; ⟨ps, by rw [upd_ne (ne_of e eP (h ps)).symm]; exact eP, r⟩
theorem tabbed_free {Pt : Addr} {H H2 : Hp} {p : Addr} (g : GxR.TabG H Pt) (x : GxR.Tabbed Pt H H2) (h : H2 p = none) : H p = none := by
  obtain ⟨ps, e, _⟩ := x.1
  rw [← x.2 p (fun z => by rw [z, e] at h; cases h)]
  exact h

/-- a walk over what stood before a list was begun -/
theorem for_seqS {K : PySem.W.Frag} {a : Addr} {xs : List V} {g : TG} {tb : TS} {D : Ends} {σ : L2.St} {H0 H1 : Hp} (hq : Sq K H0 a xs) (s1 : Same H0 H1) (Pv : Nat → L2.St → Hp → Prop) (h0 : Pv 0 σ H1)
    (hl : ∀ i σ H', Pv i σ H' → Same H0 H')
    (turn : ∀ i x σ H, xs[i]? = some x → Pv i σ H → g x σ H fun σ2 H2 => tb { D with nx := Pv (i + 1), ct := Pv (i + 1), bk := D.nx } σ2 H2) (fin : ∀ σ H, Pv xs.length σ H → D.nx σ H) :
    ((∃ xs, SqL K H1 a xs) ∧ ForR (Itl K a) g tb D σ H1) ∨ ((∃ xs, SqT K H1 a xs) ∧ ForR (Itt K a) g tb D σ H1) := by
  rcases hq with h | h
  · exact .inl ⟨⟨xs, s1.seq h⟩, for_list (xs := xs) Pv h0 (fun i σ H' _ p => (hl i σ H' p).seq h) turn fin⟩
  · exact .inr ⟨⟨xs, same_t s1 h⟩, for_tup (xs := xs) Pv h0 (fun i σ H' _ p => same_t (hl i σ H' p) h) turn fin⟩

/-! ### zip of a list and a tuple -/
def ItzM (K : PySem.W.Frag) (a b : Addr) : It :=
  ⟨fun i H => ∃ (xs ys : List V) (x y : V), SqL K H a xs ∧ SqT K H b ys ∧ xs[i]? = some x ∧ ys[i]? = some y,
    fun i H v H' => ∃ T x y, v = .ref T ∧ H T = none ∧ H' = upd H T (.tup [x, y]) ∧ (∀ xs, SqL K H a xs → xs[i]? = some x) ∧ ∀ ys, SqT K H b ys → ys[i]? = some y,
    fun i H => ∃ xs ys : List V, SqL K H a xs ∧ SqT K H b ys ∧ i ≤ xs.length ∧ i ≤ ys.length ∧ (i = xs.length ∨ i = ys.length)⟩
theorem turn_zipM {P : Program} {w : World} {K : PySem.W.Frag} {elts : List Expr} {kk : Nat} {tpos : Pos} {a b z TI TO i1 i2 : Addr} (D : ZipSep2 z TI TO i1 i2 [i1, a] [i2, b]) (n1 : a ≠ i1) (n2 : b ≠ i2) :
    Turn P w K (.Tuple elts kk tpos) (ItzM K a b) [z, TI, TO, i1, i2] z (fun i h => IsZip h z TI TO .none ∧ IsTupOf2 h TI (.ref i1) (.ref i2) ∧ (∃ x y, IsTupOf2 h TO x y) ∧ h.IsListIter i1 a i ∧ h.IsTupleIter i2 b i) where
  mem := by simp
  obj := fun i h st c hc => by
    obtain ⟨hz, hTI, ⟨x, y, hTO⟩, ⟨o1, e1, _, d1⟩, ⟨o2, e2, _, d2⟩⟩ := st
    have e' : c = z ∨ c = TI ∨ c = TO ∨ c = i1 ∨ c = i2 := by simpa using hc
    rcases e' with q | q | q | q | q
    · rw [q]; exact ⟨_, hz, fun v q => nomatch q⟩
    · rw [q]; exact ⟨_, hTI, fun v q => nomatch q⟩
    · rw [q]; exact ⟨_, hTO, fun v q => nomatch q⟩
    · rw [q]; exact ⟨o1, e1, fun v q => by rw [d1] at q; cases q⟩
    · rw [q]; exact ⟨o2, e2, fun v q => by rw [d2] at q; cases q⟩
  keep := fun i h h' st k => by
    obtain ⟨hz, hTI, ⟨x, y, hTO⟩, h1, h2⟩ := st
    exact ⟨k z (by simp) _ hz, k TI (by simp) _ hTI, ⟨x, y, k TO (by simp) _ hTO⟩, h1.at fun o q => k i1 (by simp) o q, h2.at fun o q => k i2 (by simp) o q⟩
  item := by
    intro X hP hw hK hc i pins s σ H E I hf st hg
    subst hP hw hK
    obtain ⟨hz, hTI, ⟨x0, y0, hTO⟩, h1, h2⟩ := st
    obtain ⟨xs, ys, x, y, hqx, hqy, hx, hy⟩ := hg
    obtain ⟨its, rv, p, _⟩ := I.list hqx
    obtain ⟨its2, rv2, p2, _⟩ := I.tuple hqy
    obtain ⟨u, hu, ru⟩ := rv.get hx
    obtain ⟨u2, hu2, ru2⟩ := rv2.get hy
    have hui : its.toArray[i]? = some u := by simpa using hu
    have hui2 : its2.toArray[i]? = some u2 := by simpa using hu2
    have hzl : z < s.heap.objs.size := Heap.lt_size hz
    have D1 := Draws.list (prog := X.prog) (w := X.w) (A := X.A.in1) (I.ok.hd hc) i1 a n1 its.toArray
    have D2 := Draws.tuple (prog := X.prog) (w := X.w) (A := X.A.in1) (I.ok.hd hc) i2 b n2 its2.toArray
    refine wpAny_pyNext_zipD2_item D D1 D2 hz hTI hTO ⟨h1, p.isList⟩ ⟨h2, p2⟩ (Array.getElem?_eq_some_iff.mp hui).1 (Array.getElem?_eq_some_iff.mp hui2).1 fun v1 v2 h' tk e1 e2 z' TO' h1' h2' hT hsz hk => ?_
    have ev1 : u = v1 := Option.some.inj (hui.symm.trans e1)
    have ev2 : u2 = v2 := Option.some.inj (hui2.symm.trans e2)
    subst ev1 ev2
    refine ⟨_, rfl, wpAny_letOwnedTupleGo_zip (s := { s with heap := h', toks := tk }) z' fun h'' z'' sb => ?_⟩
    have hT2 : h''.get? s.heap.objs.size = some { cls := .type "tuple", data := .seq #[u, u2] } := (sb.2 _ (Nat.ne_of_gt hzl)).trans hT
    have new : ObjOk X.prog X.w (upd H s.heap.objs.size (.tup [x, y])) h'' s.heap.objs.size (.tup [x, y]) :=
      ⟨by show 2 ≤ sizeLine; decide, [u, u2], .cons ru (.cons ru2 .nil), ⟨_, hT2, rfl, _, rfl⟩⟩
    have I1 : Inv X pins σ (upd H s.heap.objs.size (.tup [x, y])) { s with heap := h'', toks := tk } :=
      I.turnedNew (t' := tk) (ch := [z, TI, TO, i1, i2]) (fun c o hb q => (sb.2 c (fun q' => hb (by simp [q']))).trans (hk c o (fun q' => hb (by simp [q'])) (fun q' => hb (by simp [q'])) (fun q' => hb (by simp [q'])) (fun q' => hb (by simp [q'])) q)) hf (Nat.le_refl _) new
    refine ⟨.ref s.heap.objs.size, _, I1, rfl, ⟨_, x, y, rfl, I.hok.fresh (Nat.le_refl _), rfl, fun l hl => by rw [I.list_inj hl hqx]; exact hx, fun l hl => by rw [I.tuple_inj hl hqy]; exact hy⟩, ⟨z'', ?_, ⟨u, u2, ?_⟩, ?_, ?_⟩, fun c hcm => ?_⟩
    · exact (sb.2 _ D.TIz).trans (hk _ _ D.TIz D.TITO D.TIi1 D.TIi2 hTI)
    · exact (sb.2 _ D.TOz).trans TO'
    · exact h1'.1.at fun o q => (sb.2 _ D.zi1.symm).trans q
    · exact h2'.1.at fun o q => (sb.2 _ D.zi2.symm).trans q
    · have hlt : c < s.heap.objs.size := by
        have e' : c = z ∨ c = TI ∨ c = TO ∨ c = i1 ∨ c = i2 := by simpa using hcm
        rcases e' with q | q | q | q | q
        · rw [q]; exact hzl
        · rw [q]; exact Heap.lt_size hTI
        · rw [q]; exact Heap.lt_size hTO
        · rw [q]; obtain ⟨_, e1, _⟩ := h1; exact Heap.lt_size e1
        · rw [q]; obtain ⟨_, e2, _⟩ := h2; exact Heap.lt_size e2
      rw [upd_ne (Nat.ne_of_lt hlt)]
      exact (hf c hcm).1
  done := by
    intro X hP hw hK hc i pins s σ H E I hf st hg
    subst hP hw hK
    obtain ⟨hz, hTI, ⟨x0, y0, hTO⟩, h1, h2⟩ := st
    obtain ⟨xs, ys, hqx, hqy, g1, g2, hend⟩ := hg
    obtain ⟨its, rv, p, _⟩ := I.list hqx
    obtain ⟨its2, rv2, p2, _⟩ := I.tuple hqy
    have l1 : its.toArray.size = xs.length := by rw [List.size_toArray, rv.length]
    have l2 : its2.toArray.size = ys.length := by rw [List.size_toArray, rv2.length]
    have D1 := Draws.list (prog := X.prog) (w := X.w) (A := X.A.in1) (I.ok.hd hc) i1 a n1 its.toArray
    have D2 := Draws.tuple (prog := X.prog) (w := X.w) (A := X.A.in1) (I.ok.hd hc) i2 b n2 its2.toArray
    exact wpAny_pyNext_zipD2_end D D1 D2 hz hTI hTO ⟨h1, p.isList⟩ ⟨h2, p2⟩ (by omega) (by omega) (by omega) fun h' tk hk => ⟨rfl, I.turnedL (t' := tk) (ch := [z, TI, TO, i1, i2]) (fun c o hb q =>
      hk c o (fun q' => hb (by simp [q'])) (fun q' => hb (by simp [q'])) (fun q' => hb (by simp [q'])) (fun q' => hb (by simp [q'])) q) hf⟩
  self := fun A i s Q E st h => wpAny_pyIter_zip st.1 h
def iZipM (K : PySem.W.Frag) (ta : TA) : TI := fun σ H R => ta σ H fun vs H1 => ∃ a b xs ys, vs = [.ref a, .ref b] ∧ ((SqL K H1 a xs ∧ SqL K H1 b ys ∧ R (Itz K a b) H1) ∨ (SqL K H1 a xs ∧ SqT K H1 b ys ∧ R (ItzM K a b) H1))
theorem pi_zipM {X : Cx} {e e2 : Expr} {ta : TA} {p pos tpos : Pos} {elts : List Expr} {kk : Nat} (hg : Gl X "zip") (hm : X.mg "zip" = none) (ha : PA X [e, e2] ta)
    (hs : starEach [e, e2] X.env = (false, eval e X.env) :: starEach [e2] X.env := by rfl) (hpl : (backTo pos (starEach [e2] X.env)).any (·.1) = false := by rfl) :
    PI X (.Tuple elts kk tpos) (.Call (.Name "zip" p) [e, e2] [] pos) (iZipM X.K ta) := by
  refine ⟨fun pins s σ H R I h => ?_⟩
  refine Call_ (ld_blt I hg hm PyProof.Rows.boot_zip (PyProof.Rows.callWith_type1 (thn (ha.run pos pins s σ H _ I h) fun us s1 ⟨vs, H1, I1, r1, q1⟩ => ?_) hs hpl))
  obtain ⟨a, b, xs, ys, ex, q1⟩ := q1
  subst ex
  cases r1 with
  | cons r rr =>
    cases rr with
    | cons r' rr =>
      cases rr
      cases r
      cases r'
      have fresh5 : ∀ c, c ∈ [s1.heap.objs.size + 4, s1.heap.objs.size + 2, s1.heap.objs.size + 3, s1.heap.objs.size, s1.heap.objs.size + 1] → FpOk X pins H1 c := fun c hcm => by
        have e' : c = s1.heap.objs.size + 4 ∨ c = s1.heap.objs.size + 2 ∨ c = s1.heap.objs.size + 3 ∨ c = s1.heap.objs.size ∨ c = s1.heap.objs.size + 1 := by simpa using hcm
        have hle : s1.heap.objs.size ≤ c := by
          rcases e' with z | z | z | z | z
          · rw [z]; exact Nat.le_add_right _ _
          · rw [z]; exact Nat.le_add_right _ _
          · rw [z]; exact Nat.le_add_right _ _
          · rw [z]; exact Nat.le_refl _
          · rw [z]; exact Nat.le_add_right _ _
        exact I1.fpOk hle (I1.hok.fresh hle)
      rcases q1 with ⟨hqx, hqy, q⟩ | ⟨hqx, hqy, q⟩
      · obtain ⟨its, rv, p1, _⟩ := I1.list hqx
        obtain ⟨its2, rv2, p2, _⟩ := I1.list hqy
        refine call_zip_2 p1.isList p2.isList fun h' hz hTI hTO h1 h2 hsz hk => wpAny_pyIter_zip hz ?_
        have I2 : Inv X pins σ H1 { s1 with heap := h' } := I1.kept (t' := s1.toks) hk
        exact ⟨s1.heap.objs.size + 4, [s1.heap.objs.size + 4, s1.heap.objs.size + 2, s1.heap.objs.size + 3, s1.heap.objs.size, s1.heap.objs.size + 1], _, _, H1, rfl, I2, turn_zip (PySem.W.ktu_apart s1.heap.objs.size a b p1.lt p2.lt), ⟨hz, hTI, ⟨_, _, hTO⟩, h1, h2⟩, fresh5, q⟩
      · obtain ⟨its, rv, p1, _⟩ := I1.list hqx
        obtain ⟨its2, rv2, p2, _⟩ := I1.tuple hqy
        have la : a < s1.heap.objs.size := p1.lt
        have lb : b < s1.heap.objs.size := let ⟨_, ho, _⟩ := id p2; Heap.lt_size ho
        refine zip_begins2 (begins_list a its.toArray) (begins_tuple b its2.toArray) p1.isList p2 fun h' hz hTI hTO h1 h2 hsz hk => wpAny_pyIter_zip hz ?_
        have I2 : Inv X pins σ H1 { s1 with heap := h' } := I1.kept (t' := s1.toks) hk
        exact ⟨s1.heap.objs.size + 4, [s1.heap.objs.size + 4, s1.heap.objs.size + 2, s1.heap.objs.size + 3, s1.heap.objs.size, s1.heap.objs.size + 1], _, _, H1, rfl, I2, turn_zipM (zip_sep2 (N := s1.heap.objs.size) (fun c hc => by rw [List.mem_singleton.mp hc]; exact la) (fun c hc => by rw [List.mem_singleton.mp hc]; exact lb)) (Nat.ne_of_lt la) (Nat.ne_of_lt (Nat.lt_succ_of_lt lb)), ⟨hz, hTI, ⟨_, _, hTO⟩, ⟨_, h1, rfl, rfl⟩, ⟨_, h2, rfl, rfl⟩⟩, fresh5, q⟩
theorem walk_zipM {K : PySem.W.Frag} {a b : Addr} {xs ys : List V} (hl : xs.length = ys.length) : Walk (ItzM K a b) xs.length (fun H => SqL K H a xs ∧ SqT K H b ys) (YPair (fun i => xs[i]?) (fun i => ys[i]?)) where
  goes := fun i _ hi q => ⟨xs, ys, xs[i], ys[i]'(hl ▸ hi), q.1, q.2, List.getElem?_eq_getElem hi, List.getElem?_eq_getElem (hl ▸ hi)⟩
  stops := fun _ q => ⟨xs, ys, q.1, q.2, Nat.le_refl _, Nat.le_of_eq hl, .inl rfl⟩
  yields := fun i H v H' _ q ⟨T, x, y, h1, h2, h3, h4, h5⟩ => ⟨T, x, y, h1, h2, h3, h4 xs q.1, h5 ys q.2⟩
/-- a loop over zip of a list and a list or tuple of one length -/
theorem for_zipM {K : PySem.W.Frag} {a b : Addr} {xs ys : List V} {g : TG} {tb : TS} {D : Ends} {σ : L2.St} {H0 H1 : Hp} (ha : SqL K H0 a xs) (hb : Sq K H0 b ys) (hl : xs.length = ys.length) (s1 : Same H0 H1) (Pv : Nat → L2.St → Hp → Prop) (h0 : Pv 0 σ H1) (hs : ∀ i σ H', Pv i σ H' → Same H0 H')
    (turn : ∀ i x y T σ H, xs[i]? = some x → ys[i]? = some y → Pv i σ H → H T = none → g (.ref T) σ (upd H T (.tup [x, y])) fun σ2 H2 => tb { D with nx := Pv (i + 1), ct := Pv (i + 1), bk := D.nx } σ2 H2) (fin : ∀ σ H, Pv xs.length σ H → D.nx σ H) :
    ((SqL K H1 a xs ∧ SqL K H1 b ys ∧ ForR (Itz K a b) g tb D σ H1) ∨ (SqL K H1 a xs ∧ SqT K H1 b ys ∧ ForR (ItzM K a b) g tb D σ H1)) := by
  have tn : ∀ i v σ H H', i < xs.length → Pv i σ H → YPair (fun i => xs[i]?) (fun i => ys[i]?) i H v H' → g v σ H' fun σ2 H2 => tb { D with nx := Pv (i + 1), ct := Pv (i + 1), bk := D.nx } σ2 H2 := by
    rintro i v σ H H' _ hp ⟨T, x, y, rfl, nT, rfl, e1, e2⟩
    exact turn i x y T σ H e1 e2 hp nT
  rcases hb with h | h
  · exact .inl ⟨s1.seq ha, s1.seq h, for_it (walk_zip (by omega)) Pv h0 (fun i σ H' _ p => ⟨(hs i σ H' p).seq ha, (hs i σ H' p).seq h⟩) tn fin⟩
  · exact .inr ⟨s1.seq ha, same_t s1 h, for_it (walk_zipM hl) Pv h0 (fun i σ H' _ p => ⟨(hs i σ H' p).seq ha, same_t (hs i σ H' p) h⟩) tn fin⟩

abbrev LcR (J : It) (g : TG) (tt : TT) (te : TE) (vs : List Nat) (σ : L2.St) (D : Addr) (Qd : Addr → Hp → Prop) (H1 : Hp) : Prop := ∃ W : Nat → Nat → Hp → Prop, (∃ m, W 0 m (upd H1 D (.lst []))) ∧ ∀ i m H, W i m H →
  (J.stop i H ∧ Qd D H) ∨ (J.go i H ∧ ∃ Nx : Hp → Prop, (∀ H', Nx H' → ∃ m', m' < m ∧ W (i + 1) m' H') ∧ ∀ x H', J.yld i H x H' → g x (wipe σ vs) H' fun σ2 H2 => wipe σ2 vs = wipe σ vs ∧ tt σ2 H2 fun b H3 => if b = true then
    te σ2 H3 fun y H4 => ∃ acc, H4 D = some (.lst acc) ∧ acc.length < sizeLine ∧ Nx (upd H4 D (.lst (acc ++ [y]))) else Nx H3)
theorem lc_seq {K : PySem.W.Frag} {a : Addr} {xs : List V} {g : TG} {tt : TT} {te : TE} {vs : List Nat} {σ : L2.St} {H1 : Hp} {Qd : Addr → Hp → Prop} (hq : Sq K H1 a xs) (Pv : Addr → Nat → Hp → Prop) (h0 : ∀ D, H1 D = none → Pv D 0 (upd H1 D (.lst [])))
    (still : ∀ D i H', H1 D = none → Pv D i H' → SqTo K H1 H' a xs)
    (turn : ∀ D i x H', H1 D = none → xs[i]? = some x → Pv D i H' → g x (wipe σ vs) H' fun σ2 H2 => wipe σ2 vs = wipe σ vs ∧ tt σ2 H2 fun b H3 =>
      if b = true then te σ2 H3 fun y H4 => ∃ acc, H4 D = some (.lst acc) ∧ acc.length < sizeLine ∧ Pv D (i + 1) (upd H4 D (.lst (acc ++ [y]))) else Pv D (i + 1) H3) (fin : ∀ D H', H1 D = none → Pv D xs.length H' → Qd D H') :
    ((∃ xs, SqL K H1 a xs) ∧ ∀ D, H1 D = none → LcR (Itl K a) g tt te vs σ D Qd H1) ∨ ((∃ xs, SqT K H1 a xs) ∧ ∀ D, H1 D = none → LcR (Itt K a) g tt te vs σ D Qd H1) := by
  rcases hq with h | h
  · exact .inl ⟨⟨xs, h⟩, fun D nD => lc_list (xs := xs) (Pv D) (h0 D nD) (fun i H' _ p => (still D i H' nD p).1 h) (fun i x H' e p => turn D i x H' nD e p) (fun H' p => fin D H' nD p)⟩
  · exact .inr ⟨⟨xs, h⟩, fun D nD => lc_tup (xs := xs) (Pv D) (h0 D nD) (fun i H' _ p => (still D i H' nD p).2 h) (fun i x H' e p => turn D i x H' nD e p) (fun H' p => fin D H' nD p)⟩

/-! ### sets by stretches: the mathematics -/
theorem inB_iff {n a b : Int} : inB n a b = true ↔ a ≤ n ∧ n ≤ b := by
  unfold inB
  rw [Bool.and_eq_true, decide_eq_true_eq (p := a ≤ n), decide_eq_true_eq]
theorem anyP_iff {n : Int} {ps : List (Int × Int)} : anyP (inB n) ps = true ↔ ∃ p ∈ ps, p.1 ≤ n ∧ n ≤ p.2 := by
  unfold anyP
  rw [List.any_eq_true]
  constructor
  · rintro ⟨p, hp, e⟩
    exact ⟨p, hp, inB_iff.mp e⟩
  · rintro ⟨p, hp, e⟩
    exact ⟨p, hp, inB_iff.mpr e⟩
/-- the same numbers -/
def Alike (ps qs : List (Int × Int)) : Prop := ∀ n : Int, (∃ p ∈ ps, p.1 ≤ n ∧ n ≤ p.2) ↔ ∃ p ∈ qs, p.1 ≤ n ∧ n ≤ p.2
theorem Alike.any {ps qs : List (Int × Int)} (h : Alike ps qs) (n : Int) : anyP (inB n) ps = anyP (inB n) qs := by
  rw [Bool.eq_iff_iff, anyP_iff, anyP_iff]
  exact h n
theorem Alike.symm {ps qs : List (Int × Int)} (h : Alike ps qs) : Alike qs ps := fun n => (h n).symm
theorem Alike.trans {ps qs rs : List (Int × Int)} (h : Alike ps qs) (h' : Alike qs rs) : Alike ps rs := fun n => (h n).trans (h' n)
theorem Alike.of_mem {ps qs : List (Int × Int)} (h : ∀ p, p ∈ ps ↔ p ∈ qs) : Alike ps qs := fun n => ⟨fun ⟨p, hp, e⟩ => ⟨p, (h p).mp hp, e⟩, fun ⟨p, hp, e⟩ => ⟨p, (h p).mpr hp, e⟩⟩
/-- of each set of numbers there is just one list -/
theorem ris_one : ∀ {rs rs' : List (Int × Int)} {lo lo' : Int}, Ris lo rs → Ris lo' rs' → Alike rs rs' → rs = rs'
  | [], [], _, _, _, _, _ => by rfl
  | [], q :: r, _, _, _, h', e => by
    obtain ⟨p, hp, _⟩ := (e q.1).mpr ⟨q, List.mem_cons_self .., Int.le_refl _, h'.2.1⟩
    exact nomatch hp
  | q :: r, [], _, _, h, _, e => by
    obtain ⟨p, hp, _⟩ := (e q.1).mp ⟨q, List.mem_cons_self .., Int.le_refl _, h.2.1⟩
    exact nomatch hp
  | (a, b) :: r, (a', b') :: r', lo, lo', h, h', e => by
    have hb : a ≤ b := h.2.1
    have hb' : a' ≤ b' := h'.2.1
    have tl : ∀ p ∈ r, b + 2 ≤ p.1 ∧ p.1 ≤ p.2 := Ris.le h.2.2
    have tl' : ∀ p ∈ r', b' + 2 ≤ p.1 ∧ p.1 ≤ p.2 := Ris.le h'.2.2
    have m1 : a' ≤ a := by
      obtain ⟨p, hp, e1, e2⟩ := (e a).mp ⟨(a, b), List.mem_cons_self .., Int.le_refl _, hb⟩
      rcases List.mem_cons.mp hp with z | z
      · rw [z] at e1; exact e1
      · have := tl' p z; omega
    have m2 : a ≤ a' := by
      obtain ⟨p, hp, e1, e2⟩ := (e a').mpr ⟨(a', b'), List.mem_cons_self .., Int.le_refl _, hb'⟩
      rcases List.mem_cons.mp hp with z | z
      · rw [z] at e1; exact e1
      · have := tl p z; omega
    have ea : a = a' := by omega
    have n1 : ¬ b < b' := fun lt => by
      obtain ⟨p, hp, e1, e2⟩ := (e (b + 1)).mpr ⟨(a', b'), List.mem_cons_self .., by show a' ≤ b + 1; omega, by show b + 1 ≤ b'; omega⟩
      rcases List.mem_cons.mp hp with z | z
      · rw [z] at e2; have : b + 1 ≤ b := e2; omega
      · have := tl p z; omega
    have n2 : ¬ b' < b := fun lt => by
      obtain ⟨p, hp, e1, e2⟩ := (e (b' + 1)).mp ⟨(a, b), List.mem_cons_self .., by show a ≤ b' + 1; omega, by show b' + 1 ≤ b; omega⟩
      rcases List.mem_cons.mp hp with z | z
      · rw [z] at e2; have : b' + 1 ≤ b' := e2; omega
      · have := tl' p z; omega
    have eb : b = b' := by omega
    subst ea eb
    have er : Alike r r' := fun n => by
      constructor
      · rintro ⟨p, hp, e1, e2⟩
        obtain ⟨p', hp', f1, f2⟩ := (e n).mp ⟨p, List.mem_cons_of_mem _ hp, e1, e2⟩
        rcases List.mem_cons.mp hp' with z | z
        · rw [z] at f2
          have : n ≤ b := f2
          have := tl p hp
          omega
        · exact ⟨p', z, f1, f2⟩
      · rintro ⟨p, hp, e1, e2⟩
        obtain ⟨p', hp', f1, f2⟩ := (e n).mpr ⟨p, List.mem_cons_of_mem _ hp, e1, e2⟩
        rcases List.mem_cons.mp hp' with z | z
        · rw [z] at f2
          have : n ≤ b := f2
          have := tl' p hp
          omega
        · exact ⟨p', z, f1, f2⟩
    rw [ris_one h.2.2 h'.2.2 er]
theorem Ris.front : ∀ {lo : Int} {rs : List (Int × Int)} {q : Int × Int}, Ris lo (rs ++ [q]) → Ris lo rs ∧ (∀ r ∈ rs, r.2 + 2 ≤ q.1) ∧ lo ≤ q.1 ∧ q.1 ≤ q.2
  | lo, [], q, h => ⟨True.intro, (fun _ z => nomatch z), h.1, h.2.1⟩
  | lo, r :: rs, q, h => by
    obtain ⟨h1, h2, h3, h4⟩ := Ris.front h.2.2
    refine ⟨⟨h.1, h.2.1, h1⟩, fun x hx => ?_, by have := h.1; have := h.2.1; omega, h4⟩
    rcases List.mem_cons.mp hx with z | z
    · rw [z]; exact h3
    · exact h2 x z
/-- what is told of pairs: a set of just their numbers -/
structure SetLike (ps rs : List (Int × Int)) : Prop where
  ris : ∃ lo, Ris lo rs
  same : Alike rs ps
  len : rs.length ≤ ps.length
/-- between two turns: the pairs so far, rising by their firsts, and what is merged of them -/
structure Mrg (pre rs : List (Int × Int)) : Prop extends SetLike pre rs where
  firsts : ∀ r ∈ rs, ∃ p ∈ pre, p.1 = r.1
theorem alike_snoc {pre : List (Int × Int)} {rs rs' : List (Int × Int)} {p : Int × Int} (h : Alike rs pre) (e : ∀ n, (∃ q ∈ rs', q.1 ≤ n ∧ n ≤ q.2) ↔ (∃ q ∈ rs, q.1 ≤ n ∧ n ≤ q.2) ∨ (p.1 ≤ n ∧ n ≤ p.2)) : Alike rs' (pre ++ [p]) := fun n => by
  rw [e n, h n]
  constructor
  · rintro (⟨q, hq, z⟩ | z)
    · exact ⟨q, List.mem_append_left _ hq, z⟩
    · exact ⟨p, List.mem_append_right _ (List.mem_singleton.mpr rfl), z⟩
  · rintro ⟨q, hq, z⟩
    rcases List.mem_append.mp hq with y | y
    · exact .inl ⟨q, y, z⟩
    · rw [List.mem_singleton.mp y] at z
      exact .inr z
theorem Mrg.join {pre rs : List (Int × Int)} {a b : Int} {p : Int × Int} (m : Mrg pre (rs ++ [(a, b)])) (hp : p.1 ≤ p.2) (ord : ∀ q ∈ pre, q.1 ≤ p.1) (near : p.1 ≤ b + 1) : Mrg (pre ++ [p]) (rs ++ [(a, if p.2 > b then p.2 else b)]) := by
  obtain ⟨lo, hr⟩ := m.ris
  obtain ⟨h1, h2, h3, h4⟩ := Ris.front hr
  obtain ⟨q, hq, eq⟩ := m.firsts (a, b) (List.mem_append_right _ (List.mem_singleton.mpr rfl))
  have hap : a ≤ p.1 := by have := ord q hq; have : q.1 = a := eq; omega
  have hab : a ≤ b := h4
  have big : a ≤ (if p.2 > b then p.2 else b) := by split <;> omega
  refine ⟨⟨⟨lo, h1.snoc h3 h2 big⟩, alike_snoc m.same fun n => ?_, ?_⟩, fun r hr => ?_⟩
  · constructor
    · rintro ⟨q, hq, z⟩
      rcases List.mem_append.mp hq with y | y
      · exact .inl ⟨q, List.mem_append_left _ y, z⟩
      · rw [List.mem_singleton.mp y] at z
        have z1 : a ≤ n := z.1
        have z2 : n ≤ (if p.2 > b then p.2 else b) := z.2
        by_cases c : n ≤ b
        · exact .inl ⟨(a, b), List.mem_append_right _ (List.mem_singleton.mpr rfl), z1, c⟩
        · refine .inr ⟨by omega, ?_⟩
          split at z2 <;> omega
    · rintro (⟨q, hq, z⟩ | z)
      · rcases List.mem_append.mp hq with y | y
        · exact ⟨q, List.mem_append_left _ y, z⟩
        · rw [List.mem_singleton.mp y] at z
          refine ⟨_, List.mem_append_right _ (List.mem_singleton.mpr rfl), z.1, ?_⟩
          have z2 : n ≤ b := z.2
          show n ≤ (if p.2 > b then p.2 else b)
          split <;> omega
      · refine ⟨_, List.mem_append_right _ (List.mem_singleton.mpr rfl), by show a ≤ n; omega, ?_⟩
        show n ≤ (if p.2 > b then p.2 else b)
        split <;> omega
  · have := m.len
    rw [List.length_append, List.length_append] at *
    show rs.length + 1 ≤ pre.length + 1
    have : rs.length + 1 ≤ pre.length := this
    omega
  · rcases List.mem_append.mp hr with y | y
    · obtain ⟨q, hq, e⟩ := m.firsts r (List.mem_append_left _ y)
      exact ⟨q, List.mem_append_left _ hq, e⟩
    · rw [List.mem_singleton.mp y]
      exact ⟨q, List.mem_append_left _ hq, eq⟩
theorem Mrg.new {pre rs : List (Int × Int)} {p : Int × Int} (m : Mrg pre rs) (hp : p.1 ≤ p.2) (ord : ∀ q ∈ pre, q.1 ≤ p.1) (far : ∀ r ∈ rs, r.2 + 2 ≤ p.1) : Mrg (pre ++ [p]) (rs ++ [p]) := by
  obtain ⟨lo, hr⟩ := m.ris
  refine ⟨⟨?_, alike_snoc m.same fun n => ?_, by have := m.len; rw [List.length_append, List.length_append]; show rs.length + 1 ≤ pre.length + 1; omega⟩, fun r hr => ?_⟩
  · cases rs with
    | nil => exact ⟨p.1, Int.le_refl _, hp, True.intro⟩
    | cons q r =>
      refine ⟨lo, hr.snoc ?_ far hp⟩
      have := hr.le q (List.mem_cons_self ..)
      have := far q (List.mem_cons_self ..)
      omega
  · constructor
    · rintro ⟨q, hq, z⟩
      rcases List.mem_append.mp hq with y | y
      · exact .inl ⟨q, y, z⟩
      · rw [List.mem_singleton.mp y] at z; exact .inr z
    · rintro (⟨q, hq, z⟩ | z)
      · exact ⟨q, List.mem_append_left _ hq, z⟩
      · exact ⟨p, List.mem_append_right _ (List.mem_singleton.mpr rfl), z⟩
  · rcases List.mem_append.mp hr with y | y
    · obtain ⟨q, hq, e⟩ := m.firsts r y
      exact ⟨q, List.mem_append_left _ hq, e⟩
    · rw [List.mem_singleton.mp y]
      exact ⟨p, List.mem_append_right _ (List.mem_singleton.mpr rfl), rfl⟩
theorem Mrg.nil : Mrg [] [] := ⟨⟨⟨0, True.intro⟩, fun _ => Iff.rfl, Nat.le_refl _⟩, fun _ z => nomatch z⟩

/-! ### sets put together: the mathematics -/
def InS (ps : List (Int × Int)) (n : Int) : Prop := ∃ p ∈ ps, p.1 ≤ n ∧ n ≤ p.2
theorem inS_nil {n : Int} : ¬ InS [] n := fun ⟨_, h, _⟩ => nomatch h
theorem inS_cons {p : Int × Int} {r : List (Int × Int)} {n : Int} : InS (p :: r) n ↔ (p.1 ≤ n ∧ n ≤ p.2) ∨ InS r n := by
  constructor
  · rintro ⟨q, hq, e⟩
    rcases List.mem_cons.mp hq with z | z
    · rw [z] at e; exact .inl e
    · exact .inr ⟨q, z, e⟩
  · rintro (e | ⟨q, hq, e⟩)
    · exact ⟨p, List.mem_cons_self .., e⟩
    · exact ⟨q, List.mem_cons_of_mem _ hq, e⟩
theorem inS_append {ps qs : List (Int × Int)} {n : Int} : InS (ps ++ qs) n ↔ InS ps n ∨ InS qs n := by
  constructor
  · rintro ⟨q, hq, e⟩
    rcases List.mem_append.mp hq with z | z
    · exact .inl ⟨q, z, e⟩
    · exact .inr ⟨q, z, e⟩
  · rintro (⟨q, hq, e⟩ | ⟨q, hq, e⟩)
    · exact ⟨q, List.mem_append_left _ hq, e⟩
    · exact ⟨q, List.mem_append_right _ hq, e⟩
theorem Ris.low {lo n : Int} {ps : List (Int × Int)} (h : Ris lo ps) (e : InS ps n) : lo ≤ n := by
  obtain ⟨p, hp, e1, e2⟩ := e
  have := h.le p hp
  omega
theorem Ris.mono : ∀ {lo lo' : Int} {ps : List (Int × Int)}, Ris lo ps → lo' ≤ lo → Ris lo' ps
  | _, _, [], _, _ => True.intro
  | _, _, _ :: _, h, e => ⟨Int.le_trans e h.1, h.2⟩
def mxI (i j : Int) : Int := if j > i then j else i
def mnI (i j : Int) : Int := if j < i then j else i
theorem mxI_le {i j n : Int} : mxI i j ≤ n ↔ i ≤ n ∧ j ≤ n := by unfold mxI; split <;> omega
theorem le_mxI {i j n : Int} : n ≤ mxI i j ↔ n ≤ i ∨ n ≤ j := by unfold mxI; split <;> omega
theorem le_mnI {i j n : Int} : n ≤ mnI i j ↔ n ≤ i ∧ n ≤ j := by unfold mnI; split <;> omega
theorem mnI_le {i j n : Int} : mnI i j ≤ n ↔ i ≤ n ∨ j ≤ n := by unfold mnI; split <;> omega
/-- going through both at once -/
def bothF : List (Int × Int) → List (Int × Int) → List (Int × Int)
  | [], _ => []
  | _ :: _, [] => []
  | p :: r, q :: s => (if mxI p.1 q.1 ≤ mnI p.2 q.2 then [(mxI p.1 q.1, mnI p.2 q.2)] else []) ++ (if p.2 < q.2 then bothF r (q :: s) else bothF (p :: r) s)
termination_by ps qs => ps.length + qs.length
theorem bothF_nil (ps : List (Int × Int)) : bothF ps [] = [] := by cases ps <;> rw [bothF]
theorem bothF_ris : ∀ {ps qs : List (Int × Int)} {lo lo' k : Int}, Ris lo ps → Ris lo' qs → (k ≤ lo ∨ k ≤ lo') → Ris k (bothF ps qs)
  | [], _, _, _, _, _, _, _ => by rw [bothF]; exact True.intro
  | _ :: _, [], _, _, _, _, _, _ => by rw [bothF]; exact True.intro
  | p :: r, q :: s, lo, lo', k, h, h', hk => by
    rw [bothF]
    have h1 := h.1
    have h2 := h.2.1
    have h1' := h'.1
    have h2' := h'.2.1
    by_cases c : mxI p.1 q.1 ≤ mnI p.2 q.2
    · rw [if_pos c]
      refine ⟨?_, c, ?_⟩
      · show k ≤ mxI p.1 q.1
        rw [le_mxI]
        omega
      · by_cases d : p.2 < q.2
        · rw [if_pos d]
          refine bothF_ris h.2.2 h' (.inl ?_)
          show mnI p.2 q.2 + 2 ≤ p.2 + 2
          have : mnI p.2 q.2 ≤ p.2 := mnI_le.mpr (.inl (Int.le_refl _))
          omega
        · rw [if_neg d]
          refine bothF_ris h h'.2.2 (.inr ?_)
          show mnI p.2 q.2 + 2 ≤ q.2 + 2
          have : mnI p.2 q.2 ≤ q.2 := mnI_le.mpr (.inr (Int.le_refl _))
          omega
    · rw [if_neg c, List.nil_append]
      by_cases d : p.2 < q.2
      · rw [if_pos d]
        refine bothF_ris h.2.2 h' ?_
        omega
      · rw [if_neg d]
        refine bothF_ris h h'.2.2 ?_
        omega
termination_by ps qs => ps.length + qs.length
theorem bothF_in {n : Int} : ∀ {ps qs : List (Int × Int)} {lo lo' : Int}, Ris lo ps → Ris lo' qs → (InS (bothF ps qs) n ↔ InS ps n ∧ InS qs n)
  | [], _, _, _, _, _ => by rw [bothF]; exact ⟨fun h => absurd h inS_nil, fun h => h.1⟩
  | _ :: _, [], _, _, _, _ => by rw [bothF]; exact ⟨fun h => absurd h inS_nil, fun h => h.2⟩
  | p :: r, q :: s, lo, lo', h, h' => by
    rw [bothF, inS_append, inS_cons, inS_cons]
    have e1 : InS (if mxI p.1 q.1 ≤ mnI p.2 q.2 then [(mxI p.1 q.1, mnI p.2 q.2)] else []) n ↔ (p.1 ≤ n ∧ n ≤ p.2) ∧ (q.1 ≤ n ∧ n ≤ q.2) := by
      by_cases c : mxI p.1 q.1 ≤ mnI p.2 q.2
      · rw [if_pos c, inS_cons]
        show ((mxI p.1 q.1 ≤ n ∧ n ≤ mnI p.2 q.2) ∨ InS [] n) ↔ _
        rw [mxI_le, le_mnI]
        constructor
        · rintro (z | z)
          · omega
          · exact absurd z inS_nil
        · intro z
          exact .inl (by omega)
      · rw [if_neg c]
        constructor
        · exact fun z => absurd z inS_nil
        · intro z
          refine absurd (Int.le_trans (mxI_le.mpr ⟨z.1.1, z.2.1⟩) (le_mnI.mpr ⟨z.1.2, z.2.2⟩)) c
    rw [e1]
    by_cases d : p.2 < q.2
    · rw [if_pos d, bothF_in h.2.2 h', inS_cons]
      have no : InS s n → ¬ n ≤ p.2 := fun z => by
        have := h'.2.2.low z
        omega
      constructor
      · rintro (⟨z1, z2⟩ | ⟨z1, z2⟩)
        · exact ⟨.inl z1, .inl z2⟩
        · exact ⟨.inr z1, z2⟩
      · rintro ⟨z1 | z1, z2 | z2⟩
        · exact .inl ⟨z1, z2⟩
        · exact absurd z1.2 (no z2)
        · exact .inr ⟨z1, .inl z2⟩
        · exact .inr ⟨z1, .inr z2⟩
    · rw [if_neg d, bothF_in h h'.2.2, inS_cons]
      have no : InS r n → ¬ n ≤ q.2 := fun z => by
        have := h.2.2.low z
        omega
      constructor
      · rintro (⟨z1, z2⟩ | ⟨z1, z2⟩)
        · exact ⟨.inl z1, .inl z2⟩
        · exact ⟨z1, .inr z2⟩
      · rintro ⟨z1 | z1, z2 | z2⟩
        · exact .inl ⟨z1, z2⟩
        · exact .inr ⟨.inl z1, z2⟩
        · exact absurd z2.2 (no z1)
        · exact .inr ⟨.inr z1, z2⟩
termination_by ps qs => ps.length + qs.length
/-- what lies between the stretches of a set -/
def gapsF (e : Int) : Int → List (Int × Int) → List (Int × Int)
  | st, [] => [(st, e)]
  | st, p :: r => (st, mnI (p.1 - 1) e) :: gapsF e (mxI st (p.2 + 1)) r
theorem gapsF_length (e : Int) : ∀ (qs : List (Int × Int)) (st : Int), (gapsF e st qs).length = qs.length + 1
  | [], _ => rfl
  | _ :: r, _ => by rw [gapsF, List.length_cons, gapsF_length e r, List.length_cons]
theorem gapsF_in {e n : Int} : ∀ {qs : List (Int × Int)} {lo st : Int}, Ris lo qs → (InS (gapsF e st qs) n ↔ (st ≤ n ∧ n ≤ e) ∧ ¬ InS qs n)
  | [], _, st, _ => by
    rw [gapsF, inS_cons]
    constructor
    · rintro (z | z)
      · exact ⟨z, inS_nil⟩
      · exact absurd z inS_nil
    · exact fun z => .inl z.1
  | p :: r, lo, st, h => by
    rw [gapsF, inS_cons, gapsF_in h.2.2, inS_cons]
    show ((st ≤ n ∧ n ≤ mnI (p.1 - 1) e) ∨ (mxI st (p.2 + 1) ≤ n ∧ n ≤ e) ∧ ¬ InS r n) ↔ _
    rw [le_mnI, mxI_le]
    have h2 := h.2.1
    have no : n ≤ p.2 + 1 → ¬ InS r n := fun z y => by
      have := h.2.2.low y
      omega
    constructor
    · rintro (z | ⟨z, y⟩)
      · refine ⟨by omega, ?_⟩
        rintro (x | x)
        · omega
        · exact no (by omega) x
      · refine ⟨by omega, ?_⟩
        rintro (x | x)
        · omega
        · exact y x
    · rintro ⟨z, y⟩
      by_cases c : n < p.1
      · exact .inl (by omega)
      · refine .inr ⟨?_, fun x => y (.inr x)⟩
        have : ¬ (p.1 ≤ n ∧ n ≤ p.2) := fun x => y (.inl x)
        omega
/-- a set of just the numbers of which pr holds -/
structure Told (pr : Int → Prop) (rs : List (Int × Int)) : Prop where
  ris : ∃ lo, Ris lo rs
  same : ∀ n, InS rs n ↔ pr n
theorem Told.one {pr pr' : Int → Prop} {rs rs' : List (Int × Int)} (h : Told pr rs) (h' : Told pr' rs') (e : ∀ n, pr n ↔ pr' n) : rs = rs' := by
  obtain ⟨lo, r⟩ := h.ris
  obtain ⟨lo', r'⟩ := h'.ris
  exact ris_one r r' fun n => (h.same n).trans ((e n).trans (h'.same n).symm)
theorem Told.of {lo : Int} {rs : List (Int × Int)} (h : Ris lo rs) : Told (InS rs) rs := ⟨⟨lo, h⟩, fun _ => Iff.rfl⟩
theorem SetLike.told {ps rs : List (Int × Int)} (h : SetLike ps rs) : Told (InS ps) rs := ⟨h.ris, h.same⟩
theorem Told.cong {pr pr' : Int → Prop} {rs : List (Int × Int)} (h : Told pr rs) (e : ∀ n, pr n ↔ pr' n) : Told pr' rs := ⟨h.ris, fun n => (h.same n).trans (e n)⟩
theorem Told.nneg {pr : Int → Prop} {rs : List (Int × Int)} (h : Told pr rs) (hn : ∀ n, pr n → 0 ≤ n) : Ris 0 rs := by
  obtain ⟨lo, r⟩ := h.ris
  cases rs with
  | nil => exact True.intro
  | cons p q => exact ⟨hn _ ((h.same _).mp (inS_cons.mpr (.inl ⟨Int.le_refl _, r.2.1⟩))), r.2⟩

theorem cut_back (xs : List V) (m : Nat) : cutV xs (some (m : Int)) none = xs.drop m := by
  unfold cutV
  rw [HT.sIx_none, HT.sIx_nat]
  by_cases h : m ≤ xs.length
  · rw [Nat.min_eq_left h]
    exact List.take_of_length_le (by rw [List.length_drop]; exact Nat.le_refl _)
  · rw [Nat.min_eq_right (by omega), Nat.sub_self, List.take_zero, List.drop_eq_nil_of_le (by omega)]
theorem _root_.GP.Prs.append {H : Hp} {us ws : List V} {ps qs : List (Int × Int)} (h : Prs H us ps) (h' : Prs H ws qs) : Prs H (us ++ ws) (ps ++ qs) := by
  refine ⟨by rw [List.length_append, List.length_append, h.1, h'.1], fun i p e => ?_⟩
  by_cases hi : i < ps.length
  · rw [List.getElem?_append_left hi] at e
    rw [List.getElem?_append_left (by rw [h.1]; exact hi)]
    exact h.2 i p e
  · rw [List.getElem?_append_right (by omega)] at e
    rw [List.getElem?_append_right (by rw [h.1]; omega), h.1]
    exact h'.2 _ p e
theorem _root_.GP.Prs.take {H : Hp} {us : List V} {ps : List (Int × Int)} (h : Prs H us ps) (n : Nat) : Prs H (us.take n) (ps.take n) := by
  refine ⟨by rw [List.length_take, List.length_take, h.1], fun i p e => ?_⟩
  rw [List.getElem?_take] at e ⊢
  split at e
  · rename_i hi
    rw [if_pos hi]
    exact h.2 i p e
  · cases e
theorem _root_.GP.Prs.drop {H : Hp} {us : List V} {ps : List (Int × Int)} (h : Prs H us ps) (n : Nat) : Prs H (us.drop n) (ps.drop n) := by
  refine ⟨by rw [List.length_drop, List.length_drop, h.1], fun i p e => ?_⟩
  rw [List.getElem?_drop] at e ⊢
  exact h.2 _ p e
theorem _root_.GP.Prs.reverse {H : Hp} {us : List V} {ps : List (Int × Int)} (h : Prs H us ps) : Prs H us.reverse ps.reverse := by
  refine ⟨by rw [List.length_reverse, List.length_reverse, h.1], fun i p e => ?_⟩
  have hi : i < ps.length := by
    have z := (List.getElem?_eq_some_iff.mp e).1
    rwa [List.length_reverse] at z
  rw [List.getElem?_reverse hi] at e
  rw [List.getElem?_reverse (by rw [h.1]; exact hi), h.1]
  exact h.2 _ p e

/-! ### set_of -/
/-- the pair that a tracked tuple holds -/
def pairOf (H : Hp) : V → Int × Int
  | .ref t => (match H t with
    | some (.tup [.int i, .int j]) => (i, j)
    | _ => (0, 0))
  | _ => (0, 0)
theorem pairOf_at {H : Hp} {t : Addr} {p : Int × Int} (e : H t = some (.tup [.int p.1, .int p.2])) : pairOf H (.ref t) = p := by
  show (match H t with | some (.tup [.int i, .int j]) => (i, j) | _ => (0, 0)) = p
  rw [e]
abbrev sSetOf : Stmt := topS 1
theorem scSetOf : FnScope ["pairs", "merged", "first", "last", "low", "high", "pair"] ["pairs"] (defScope sSetOf) := ⟨rfl, rfl, rfl, by decide +kernel, rfl, by decide +kernel, by decide +kernel⟩
def spSetOf (K : PySem.W.Frag) : Sp := fun vs H Q _ => ∃ (a : Addr) (us : List V) (ps : List (Int × Int)), vs = [.ref a] ∧ Sq K H a us ∧ Prs H us ps ∧ ps.length ≤ 900 ∧
  ∀ (l : Addr) (ws : List V) (rs : List (Int × Int)) H', H l = none → H' l = some (.lst ws) → Prs H' ws rs → SetLike ps rs → Same H H' → Q (.ref l) H'
section
variable {K : PySem.W.Frag} {mg : Str → Option Value} {P : Program} {w : World} {base : Heap}
theorem ok_setof {f : Addr} {fd : FuncData} {k : Nat} (F : Fun K "set_of" "set_of" sSetOf f fd) (mso : mg "sorted" = none) (mx : mg "max" = none) : FnOk P w K mg base CX0 (k + 1) f fd ["pairs"] (spSetOf K) := by
  refine F.ok scSetOf (fun vs H Q E h => ?_) (fun cdv A outer s H vs Q E hr h => ?_)
  · obtain ⟨a, us, ps, rfl, _⟩ := h
    rfl
  · obtain ⟨a, us, ps, rfl, hq, hp, hz, q⟩ := h
    refine ⟨_, pss_cons (ps_set (i := 1) scSetOf.nd rfl (.inl rfl) (pe_lst pa_nil))
      (pss_cons (ps_for PassesOwn.never rfl (pi_list (pe_callB cr_sortedPO (by rfl) mso (by decide +kernel) (pa_cons (pe_lc (own := [("pair", 6)]) (g := gName 6) (tt := tTest (tOp (rI0 fun i j => .bl (decide (i ≤ j))) (tOp (rIxT K) (tVar 6) (tC (.int 0))) (tOp (rIxT K) (tVar 6) (tC (.int 1))))) rfl scSetOf.nd (pi_seq (pv 0))
          (blkOk_by (own := [("pair", 6)]) (N := ["pairs", "merged", "first", "last", "low", "high", "pair"]) (sc := defScope sSetOf) (by decide +kernel))
          (fun _ _ _ _ _ => pg_name (i := 6) scSetOf.nd rfl (.inl rfl)) (fun _ _ _ _ _ => pts_one (pt_cmpR op_le (pe_ix ix_tup (pv 6) pe_int (fun _ _ => rfl)) (pe_ix ix_tup (pv 6) pe_int (fun _ _ => rfl)) (nomark _))) (fun _ _ _ _ _ => pv 6)) pa_nil)))
        (pg_tup rfl (pgs_cons (pg_name (i := 2) scSetOf.nd rfl (.inl rfl)) (pgs_cons (pg_name (i := 3) scSetOf.nd rfl (.inl rfl)) pgs_nil)))
        (pss_one (ps_if (PW.pt (pw_and (pt_truth (pv 1) (by intro _; rfl)) (pw_and1 (pt_cmpR op_le (pv 2) (pe_op op_add (pe_ix ix_tup (pe_ix ix_list (pv 1) (pe_un un_neg pe_int) (fun _ _ => rfl)) pe_int (fun _ _ => rfl)) pe_int) (nomark _)))))
          (pss_cons (ps_asg (pe_ix ix_list (pv 1) (pe_un un_neg pe_int) (fun _ _ => rfl)) (pg_tup rfl (pgs_cons (pg_name (i := 4) scSetOf.nd rfl (.inl rfl)) (pgs_cons (pg_name (i := 5) scSetOf.nd rfl (.inl rfl)) pgs_nil))))
          (pss_one (ps_asg (pe_tup (pa_cons (pv 4) (pa_cons (pe_callB (call_max2 rfl) (by rfl) mx (by decide +kernel) (pa_cons (pv 5) (pa_cons (pv 3) pa_nil))) pa_nil))) (pg_sub (pv 1) (pe_un un_neg pe_int) set_list))))
          (pss_one (ps_expr (pe_bm PySem.F.plainAttrs_list PySem.F.slot_list_append PySem.F.type_list_append mt_append (pv 1) (pa_cons (pe_tup (pa_cons (pv 2) (pa_cons (pv 3) pa_nil))) pa_nil)))))))
      (pss_one (ps_ret (pv 1)))), ?_⟩
    -- merged = []
    refine ⟨Nat.zero_le _, fun mg' nm => ?_⟩
    have s1 := same_upd (o := .lst []) nm
    have em1 : upd H mg' (.lst []) mg' = some (.lst []) := upd_same
    revert s1 em1
    generalize upd H mg' (.lst []) = H1
    intro s1 em1
    -- [pair for pair in pairs if ..]
    refine ⟨.ref a, rfl, a, rfl, lc_seq (xs := us) (hq.same s1) (fun D i H' => Same H1 H' ∧ ∃ ys, H' D = some (.lst ys) ∧ Prs H' ys ((ps.take i).filter fun p => decide (p.1 ≤ p.2)) ∧ ys.length ≤ i) (fun D nD => ⟨same_upd nD, [], upd_same, Prs.nil, Nat.le_refl _⟩)
      (fun D i H' nD hP => SqTo.same hP.1) (fun D i x H' nD hx hP => ?_) (fun D H2 nD hP => ?_)⟩
    · obtain ⟨sm, ys, eD, hys, hyl⟩ := hP
      obtain ⟨p, T, ep, rfl, eT⟩ := prs_at hp hx
      have hi : i < us.length := (List.getElem?_eq_some_iff.mp hx).1
      rw [hp.1] at hi
      have eT' := sm _ _ (s1 _ _ eT)
      refine ⟨rfl, _, rfl, T, _, 0, .int p.1, rfl, rfl, .inl (.inl eT'), atI_nat (j := 0) rfl, _, rfl, T, _, 1, .int p.2, rfl, rfl, .inl (.inl eT'), atI_nat (j := 1) rfl, p.1, p.2, rfl, rfl, _, rfl, ?_⟩
      have etake : (ps.take (i + 1)).filter (fun p => decide (p.1 ≤ p.2)) = (ps.take i).filter (fun p => decide (p.1 ≤ p.2)) ++ (if p.1 ≤ p.2 then [p] else []) := by
        rw [List.take_add_one, ep, List.filter_append]
        by_cases c : p.1 ≤ p.2
        · rw [if_pos c]; simp [c]
        · rw [if_neg c]; simp [c]
      refine ite2 (fun c => ?_) (fun c => ?_)
      · have c' := of_decide_eq_true c
        refine ⟨_, rfl, ys, eD, small1000 (by omega), fun b o e => ?_, _, upd_same, ?_, by rw [List.length_append]; show ys.length + 1 ≤ i + 1; omega⟩
        · rw [upd_ne (ne_of_none e nD)]
          exact sm b o e
        · rw [etake, if_pos c']
          exact (hys.snoc eT').upd_lst eD
      · have c' : ¬ p.1 ≤ p.2 := fun z => c (decide_eq_true z)
        refine ⟨sm, ys, eD, ?_, by omega⟩
        rw [etake, if_neg c', List.append_nil]
        exact hys
    · -- sorted
      obtain ⟨sm, ys, eD, hys, hyl⟩ := hP
      rw [hp.1, List.take_length] at hys
      refine ⟨D, ys, pairOf H2, rfl, SqL.of eD, fun x hx => ?_, fun zs g srt stb ng => ?_⟩
      · obtain ⟨i, hi, e⟩ := List.getElem_of_mem hx
        obtain ⟨p, T, _, rfl, eT⟩ := prs_at hys (by rw [List.getElem?_eq_getElem hi, e])
        exact ⟨T, rfl, by rw [pairOf_at eT]; exact eT⟩
      have sg := same_upd (o := .lst zs) ng
      have eg : upd H2 g (.lst zs) g = some (.lst zs) := upd_same
      have s3 : Same H (upd H2 g (.lst zs)) := (s1.trans sm).trans sg
      have em3 := sg _ _ (sm _ _ em1)
      -- the pairs of zs
      have each : ∀ x ∈ zs, ∃ T, x = .ref T ∧ H2 T = some (.tup [.int (pairOf H2 x).1, .int (pairOf H2 x).2]) := fun x hx => by
        obtain ⟨i, hi, e⟩ := List.getElem_of_mem (stb.perm.mem_iff.mp hx)
        obtain ⟨p, T, _, rfl, eT⟩ := prs_at hys (by rw [List.getElem?_eq_getElem hi, e])
        exact ⟨T, rfl, by rw [pairOf_at eT]; exact eT⟩
      have hzs : Prs H2 zs (zs.map (pairOf H2)) := ⟨by rw [List.length_map], fun i p e => by
        rw [List.getElem?_map] at e
        cases h : zs[i]? with
        | none => rw [h] at e; cases e
        | some x =>
          rw [h] at e
          cases e
          obtain ⟨T, rfl, eT⟩ := each x (List.mem_of_getElem? h)
          exact ⟨T, rfl, eT⟩⟩
      have hmap : ys.map (pairOf H2) = ps.filter fun p => decide (p.1 ≤ p.2) := by
        refine List.ext_getElem? fun i => ?_
        rw [List.getElem?_map]
        cases h : ys[i]? with
        | none =>
          have : (ps.filter fun p => decide (p.1 ≤ p.2))[i]? = none := by
            rw [List.getElem?_eq_none_iff] at h ⊢
            rw [← hys.1]
            exact h
          rw [this]
          rfl
        | some x =>
          obtain ⟨p, T, ep, rfl, eT⟩ := prs_at hys h
          rw [ep]
          show some (pairOf H2 (.ref T)) = some p
          rw [pairOf_at eT]
      have hperm : (zs.map (pairOf H2)).Perm (ps.filter fun p => decide (p.1 ≤ p.2)) := hmap ▸ stb.perm.map (pairOf H2)
      have hle : ∀ p ∈ zs.map (pairOf H2), p.1 ≤ p.2 := fun p hp' => by
        have := hperm.mem_iff.mp hp'
        exact of_decide_eq_true (List.mem_filter.mp this).2
      have hord : (zs.map (pairOf H2)).Pairwise fun x y => x.1 ≤ y.1 := by
        rw [List.pairwise_map]
        refine srt.imp fun {x y} h => ?_
        have := SrtO.lexB_no.mp h
        omega
      have hzl : zs.length ≤ 900 := by
        rw [stb.perm.length_eq, hys.1]
        exact Nat.le_trans (List.length_filter_le _ _) hz
      revert hzs hperm hle hord
      generalize zs.map (pairOf H2) = qs
      intro hzs hperm hle hord
      have hzs3 := hzs.same sg
      revert eg s3 em3 hzs3
      generalize upd H2 g (.lst zs) = H3
      intro eg s3 em3 hzs3
      have ngH : H g = none := (s1.trans sm).free ng
      have nmg : mg' ≠ g := ne_of_none (sm _ _ em1) ng
      -- the merging
      refine ⟨g, rfl, ⟨_, SqL.of eg⟩, for_list (xs := zs) (fun i σ H4 => ∃ (ms : List V) (rs : List (Int × Int)) (y2 y3 y4 y5 y6 : Option V), σ = [some (.ref a), some (.ref mg'), y2, y3, y4, y5, y6] ∧ Same H H4 ∧ H4 g = some (.lst zs) ∧ Prs H4 zs qs ∧ H4 mg' = some (.lst ms) ∧ Prs H4 ms rs ∧ Mrg (qs.take i) rs)
        ⟨[], [], _, _, _, _, _, rfl, s3, eg, hzs3, em3, Prs.nil, Mrg.nil⟩ (fun i σ H4 _ hP => ?_) (fun i x σ H4 hx hP => ?_) (fun σ H4 hP => ?_)⟩
      · obtain ⟨_, _, _, _, _, _, _, rfl, _, e, _⟩ := hP
        exact SqL.of e
      · obtain ⟨ms, rs, y2, y3, y4, y5, y6, rfl, sm4, eg4, hz4, em4, hms, m⟩ := hP
        obtain ⟨p, T, ep, rfl, eT⟩ := prs_at hz4 hx
        have hi : i < qs.length := (List.getElem?_eq_some_iff.mp ep).1
        have hp12 : p.1 ≤ p.2 := hle p (List.mem_of_getElem? ep)
        have ord : ∀ q ∈ qs.take i, q.1 ≤ p.1 := fun q hq' => by
          obtain ⟨j, hj, e⟩ := List.getElem_of_mem hq'
          rw [List.length_take] at hj
          rw [List.getElem_take] at e
          obtain ⟨_, e2⟩ := List.getElem?_eq_some_iff.mp ep
          rw [← e, ← e2]
          exact List.pairwise_iff_getElem.mp hord j i (by omega) hi (by omega)
        have etake : qs.take (i + 1) = qs.take i ++ [p] := by rw [List.take_add_one, ep]; rfl
        have hmsl : ms.length ≤ 900 := by
          have := m.len
          rw [List.length_take] at this
          have := hzs.1
          rw [hms.1]
          omega
        refine ⟨T, _, rfl, .inl (.inl eT), rfl, _, _, rfl, _, _, rfl, rfl, ?_⟩
        -- what a new tuple and a change of merged leave
        have grow : ∀ (T2 : Addr) (p2 : Int × Int) (ms2 : List V) (rs2 : List (Int × Int)), H4 T2 = none → Prs (upd H4 T2 (.tup [.int p2.1, .int p2.2])) ms2 rs2 →
            Same H (upd (upd H4 T2 (.tup [.int p2.1, .int p2.2])) mg' (.lst ms2)) ∧ upd (upd H4 T2 (.tup [.int p2.1, .int p2.2])) mg' (.lst ms2) g = some (.lst zs) ∧ Prs (upd (upd H4 T2 (.tup [.int p2.1, .int p2.2])) mg' (.lst ms2)) zs qs ∧ upd (upd H4 T2 (.tup [.int p2.1, .int p2.2])) mg' (.lst ms2) mg' = some (.lst ms2) ∧ Prs (upd (upd H4 T2 (.tup [.int p2.1, .int p2.2])) mg' (.lst ms2)) ms2 rs2 := by
          intro T2 p2 ms2 rs2 n2 h2
          have st := same_upd (o := .tup [.int p2.1, .int p2.2]) n2
          have em5 := st _ _ em4
          refine ⟨fun b o e => ?_, ?_, (hz4.same st).upd_lst em5, upd_same, h2.upd_lst em5⟩
          · rw [upd_ne (ne_of_none e nm)]
            exact st _ _ (sm4 _ _ e)
          · rw [upd_ne nmg.symm]
            exact st _ _ eg4
        -- append
        have app : (∀ r ∈ rs, r.2 + 2 ≤ p.1) → (tDrop (tBM K "list" rAppend (tVar 1) (tCons (tTup (tCons (tVar 2) (tCons (tVar 3) tNil))) tNil))) { nx := fun σ H4 => ∃ (ms : List V) (rs : List (Int × Int)) (y2 y3 y4 y5 y6 : Option V), σ = [some (.ref a), some (.ref mg'), y2, y3, y4, y5, y6] ∧ Same H H4 ∧ H4 g = some (.lst zs) ∧ Prs H4 zs qs ∧ H4 mg' = some (.lst ms) ∧ Prs H4 ms rs ∧ Mrg (qs.take (i + 1)) rs, rt := fun _ _ => False } [some (.ref a), some (.ref mg'), some (.int p.1), some (.int p.2), y4, y5, y6] H4 := by
          intro far
          refine ⟨.ref mg', rfl, .inl ⟨rfl, _, SqL.of em4⟩, _, rfl, _, rfl, (by show 2 ≤ sizeLine; decide), fun T2 n2 => ?_⟩
          have st := same_upd (o := .tup [.int p.1, .int p.2]) n2
          refine ⟨mg', _, _, rfl, rfl, st _ _ em4, small1000 (by omega), ?_⟩
          obtain ⟨g1, g2, g3, g4, g5⟩ := grow T2 p (ms ++ [.ref T2]) (rs ++ [p]) n2 ((hms.same st).snoc upd_same)
          exact ⟨_, _, _, _, _, _, _, rfl, g1, g2, g3, g4, g5, by rw [etake]; exact m.new hp12 ord far⟩
        rcases snoc_cases rs with e0 | ⟨rs', ⟨lo, hi'⟩, e0⟩
        · have e1 : ms = [] := List.eq_nil_of_length_eq_zero (by rw [hms.1, e0]; rfl)
          have em0 : H4 mg' = some (.lst []) := by rw [em4, e1]
          refine ⟨.ref mg', rfl, false, .inl ⟨[], SqL.of em0, rfl⟩, iteF (iteF ?_)⟩
          exact app (by rw [e0]; exact fun _ z => nomatch z)
        · subst e0
          obtain ⟨ms', T0, rfl, eT0, hms'⟩ := hms.last
          refine ⟨.ref mg', rfl, true, .inl ⟨_, SqL.of em4, by simp⟩, iteT ?_⟩
          refine ⟨_, rfl, .ref mg', rfl, 1, rfl, mg', _, -1, .ref T0, rfl, rfl, SqL.of em4, atI_last _ _, T0, _, 1, .int hi', rfl, rfl, .inl (.inl eT0), atI_nat (j := 1) rfl, hi', 1, rfl, rfl, p.1, _, rfl, rfl, _, rfl, ite2 (fun c => ?_) (fun c => ?_)⟩
          · have c' := of_decide_eq_true c
            refine ⟨.ref mg', rfl, 1, rfl, mg', _, -1, .ref T0, rfl, rfl, SqL.of em4, atI_last _ _, T0, _, rfl, .inl (.inl eT0), rfl, _, _, rfl, _, _, rfl, rfl, ?_⟩
            refine ⟨_, rfl, _, rfl, _, rfl, hi', p.2, rfl, (by show 2 ≤ sizeLine; decide), fun T2 n2 => ?_⟩
            have st := same_upd (o := .tup [.int lo, .int (if p.2 > hi' then p.2 else hi')]) n2
            have ei : ixN (ms' ++ [V.ref T0]).length (-1) = some ms'.length := by
              unfold ixN
              rw [if_neg (by decide), List.length_append, if_pos (by show -((ms'.length + 1 : Nat) : Int) ≤ -1; omega)]
              show some ((-1 : Int) + ((ms'.length + 1 : Nat) : Int)).toNat = _
              congr 1
              omega
            refine ⟨.ref mg', rfl, 1, rfl, mg', _, -1, ms'.length, rfl, rfl, st _ _ em4, ei, ?_⟩
            have es : (ms' ++ [V.ref T0]).set ms'.length (.ref T2) = ms' ++ [.ref T2] := by simp
            rw [es]
            obtain ⟨g1, g2, g3, g4, g5⟩ := grow T2 (lo, if p.2 > hi' then p.2 else hi') (ms' ++ [.ref T2]) (rs' ++ [(lo, if p.2 > hi' then p.2 else hi')]) n2 ((hms'.same st).snoc upd_same)
            exact ⟨_, _, _, _, _, _, _, rfl, g1, g2, g3, g4, g5, by rw [etake]; exact m.join hp12 ord c'⟩
          · have c' : ¬ p.1 ≤ hi' + 1 := fun z => c (decide_eq_true z)
            refine app fun r hr' => ?_
            obtain ⟨lo', hR⟩ := m.ris
            obtain ⟨_, h2, _, h4⟩ := Ris.front hR
            have h4' : lo ≤ hi' := h4
            rcases List.mem_append.mp hr' with y | y
            · have : r.2 + 2 ≤ lo := h2 r y
              omega
            · rw [List.mem_singleton.mp y]
              show hi' + 2 ≤ p.1
              omega
      · obtain ⟨ms, rs, y2, y3, y4, y5, y6, rfl, sm4, eg4, hz4, em4, hms, m⟩ := hP
        rw [hzs.1, List.take_length] at m
        refine ⟨_, rfl, q mg' ms rs H4 nm em4 hms ⟨m.ris, m.same.trans fun n => ?_, Nat.le_trans m.len (Nat.le_trans (Nat.le_of_eq hperm.length_eq) (List.length_filter_le _ _))⟩ sm4⟩
        constructor
        · rintro ⟨r, hr', e⟩
          exact ⟨r, (List.mem_filter.mp (hperm.mem_iff.mp hr')).1, e⟩
        · rintro ⟨r, hr', e⟩
          exact ⟨r, hperm.mem_iff.mpr (List.mem_filter.mpr ⟨hr', decide_eq_true (by omega)⟩), e⟩
end

def RetS (H : Hp) (pr : Int → Prop) (m : Nat) (Q : V → Hp → Prop) : Prop := ∀ (l : Addr) (ws : List V) (rs : List (Int × Int)) H', H l = none → H' l = some (.lst ws) → Prs H' ws rs → Told pr rs → rs.length ≤ m → Same H H' → Q (.ref l) H'

/-! ### the law's own sets -/
theorem pairs_sorted {H : Hp} {ys zs : List V} {ps : List (Int × Int)} (hys : Prs H ys ps) (perm : zs.Perm ys) (srt : SrtO.Srtd (fun x y => SrtO.lexB (pairOf H x) (pairOf H y)) zs) : ∃ qs, Prs H zs qs ∧ qs.Perm ps ∧ qs.Pairwise fun x y => x.1 ≤ y.1 := by
  have hmap : ys.map (pairOf H) = ps := by
    refine List.ext_getElem? fun i => ?_
    rw [List.getElem?_map]
    cases h : ys[i]? with
    | none =>
      have : ps[i]? = none := by
        rw [List.getElem?_eq_none_iff] at h ⊢
        rw [← hys.1]
        exact h
      rw [this]
      rfl
    | some x =>
      obtain ⟨p, T, ep, rfl, eT⟩ := prs_at hys h
      rw [ep]
      exact congrArg some (pairOf_at eT)
  refine ⟨zs.map (pairOf H), ⟨by rw [List.length_map], fun i p e => ?_⟩, hmap ▸ perm.map _, ?_⟩
  · rw [List.getElem?_map] at e
    cases h : zs[i]? with
    | none => rw [h] at e; cases e
    | some x =>
      rw [h] at e
      cases e
      obtain ⟨j, hj, ej⟩ := List.getElem_of_mem (perm.mem_iff.mp (List.mem_of_getElem? h))
      obtain ⟨p, T, _, rfl, eT⟩ := prs_at hys (by rw [List.getElem?_eq_getElem hj, ej])
      exact ⟨T, rfl, by rw [pairOf_at eT]; exact eT⟩
  · rw [List.pairwise_map]
    refine srt.imp fun {x y} h => ?_
    have := SrtO.lexB_no.mp h
    omega
abbrev sLSet : Stmt := topS 12
theorem scLSet : FnScope ["_law_pairs", "_law_made", "_law_first", "_law_last"] ["_law_pairs"] (defScope sLSet) := ⟨rfl, rfl, rfl, by decide +kernel, rfl, by decide +kernel, by decide +kernel⟩
def spLSet : Sp := fun vs H Q _ => ∃ (a : Addr) (us : List V) (ps : List (Int × Int)), vs = [.ref a] ∧ H a = some (.lst us) ∧ Prs H us ps ∧ ps.length ≤ 1000 ∧ RetS H (InS ps) ps.length Q
def upP (ps : List (Int × Int)) : List (Int × Int) := ps.filter fun p => decide (p.1 ≤ p.2)
def LSetW (H : Hp) (a mg' g : Addr) (zs : List V) (qs : List (Int × Int)) (i : Nat) (σ : L2.St) (H4 : Hp) : Prop := ∃ (ms : List V) (rs : List (Int × Int)) (y2 y3 : Option V), σ = [some (.ref a), some (.ref mg'), y2, y3] ∧ Same H H4 ∧ H4 g = some (.lst zs) ∧ Prs H4 zs qs ∧ H4 mg' = some (.lst ms) ∧ Prs H4 ms rs ∧ Mrg (upP (qs.take i)) rs
section
variable {K : PySem.W.Frag} {mg : Str → Option Value} {P : Program} {w : World} {base : Heap}
theorem ok_lset {f : Addr} {fd : FuncData} {k : Nat} (F : Fun K "_law_set_of" "_law_set_of" sLSet f fd) (mso : mg "sorted" = none) (mx : mg "max" = none) : FnOk P w K mg base CX0 (k + 1) f fd ["_law_pairs"] spLSet := by
  refine F.ok scLSet (fun vs H Q E h => ?_) (fun cdv A outer s H vs Q E hr h => ?_)
  · obtain ⟨a, us, ps, rfl, _⟩ := h
    rfl
  · obtain ⟨a, us, ps, rfl, ea, hp, hz, q⟩ := h
    refine ⟨_, pss_cons (ps_set (i := 1) scLSet.nd rfl (.inl rfl) (pe_lst pa_nil))
      (pss_cons (ps_for PassesOwn.never rfl (pi_list (pe_callB cr_sortedPO (by rfl) mso (by decide +kernel) (pa_cons (pv 0) pa_nil))) (pg_tup rfl (pgs_cons (pg_name (i := 2) scLSet.nd rfl (.inl rfl)) (pgs_cons (pg_name (i := 3) scLSet.nd rfl (.inl rfl)) pgs_nil)))
        (pss_cons (ps_if (pt_cmpR op_gt (pv 2) (pv 3) (nomark _)) (pss_one ps_continue) pss_nil)
        (pss_one (ps_if (PW.pt (pw_and (pt_cmpR (op_neD hr.units) (pv 1) (pe_lst pa_nil) (nomark _)) (pw_and1 (pt_cmpR op_le (pv 2) (pe_op op_add (pe_ix ix_tup (pe_ix ix_list (pv 1) (pe_un un_neg pe_int) (fun _ _ => rfl)) pe_int (fun _ _ => rfl)) pe_int) (nomark _)))))
          (pss_one (ps_asg (pe_tup (pa_cons (pe_ix ix_tup (pe_ix ix_list (pv 1) (pe_un un_neg pe_int) (fun _ _ => rfl)) pe_int (fun _ _ => rfl)) (pa_cons (pe_callB (call_max2 rfl) (by rfl) mx (by decide +kernel) (pa_cons (pv 3) (pa_cons (pe_ix ix_tup (pe_ix ix_list (pv 1) (pe_un un_neg pe_int) (fun _ _ => rfl)) pe_int (fun _ _ => rfl)) pa_nil))) pa_nil))) (pg_sub (pv 1) (pe_un un_neg pe_int) set_list)))
          (pss_one (ps_expr (pe_bm PySem.F.plainAttrs_list PySem.F.slot_list_append PySem.F.type_list_append mt_append (pv 1) (pa_cons (pe_tup (pa_cons (pv 2) (pa_cons (pv 3) pa_nil))) pa_nil))))))))
      (pss_one (ps_ret (pv 1)))), ?_⟩
    refine ⟨Nat.zero_le _, fun mg' nm => ?_⟩
    have s1 := same_upd (o := .lst []) nm
    have em1 : upd H mg' (.lst []) mg' = some (.lst []) := upd_same
    revert s1 em1
    generalize upd H mg' (.lst []) = H1
    intro s1 em1
    have hp1 := hp.same s1
    refine ⟨_, rfl, a, us, pairOf H1, rfl, SqL.of (s1 _ _ ea), fun x hx => ?_, fun zs g srt stb ng => ?_⟩
    · obtain ⟨i, hi, e⟩ := List.getElem_of_mem hx
      obtain ⟨p, T, _, rfl, eT⟩ := prs_at hp1 (by rw [List.getElem?_eq_getElem hi, e])
      exact ⟨T, rfl, by rw [pairOf_at eT]; exact eT⟩
    obtain ⟨qs, hqs, hperm, hord⟩ := pairs_sorted hp1 stb.perm srt
    have sg := same_upd (o := .lst zs) ng
    have eg : upd H1 g (.lst zs) g = some (.lst zs) := upd_same
    have s3 := s1.trans sg
    have em3 := sg _ _ em1
    have hzs3 := hqs.same sg
    have nmg : mg' ≠ g := ne_of_none em1 ng
    have hzl : zs.length ≤ 1000 := by rw [hqs.1, hperm.length_eq]; exact hz
    revert eg s3 em3 hzs3
    generalize upd H1 g (.lst zs) = H3
    intro eg s3 em3 hzs3
    refine ⟨g, rfl, ⟨_, SqL.of eg⟩, for_list (xs := zs) (LSetW H a mg' g zs qs) ⟨[], [], _, _, rfl, s3, eg, hzs3, em3, Prs.nil, Mrg.nil⟩ (fun i σ H4 _ hP => ?_) (fun i x σ H4 hx hP => ?_) (fun σ H4 hP => ?_)⟩
    · obtain ⟨_, _, _, _, rfl, _, e, _⟩ := hP
      exact SqL.of e
    · obtain ⟨ms, rs, y2, y3, rfl, sm4, eg4, hz4, em4, hms, m⟩ := hP
      obtain ⟨p, T, ep, rfl, eT⟩ := prs_at hz4 hx
      have hi : i < qs.length := (List.getElem?_eq_some_iff.mp ep).1
      have etake : qs.take (i + 1) = qs.take i ++ [p] := by rw [List.take_add_one, ep]; rfl
      have eup : upP (qs.take (i + 1)) = upP (qs.take i) ++ (if p.1 ≤ p.2 then [p] else []) := by
        unfold upP
        rw [etake, List.filter_append]
        by_cases c : p.1 ≤ p.2
        · rw [if_pos c]; simp [c]
        · rw [if_neg c]; simp [c]
      have ord : ∀ q ∈ upP (qs.take i), q.1 ≤ p.1 := fun q hq' => by
        obtain ⟨j, hj, e⟩ := List.getElem_of_mem (List.mem_filter.mp hq').1
        rw [List.length_take] at hj
        rw [List.getElem_take] at e
        obtain ⟨_, e2⟩ := List.getElem?_eq_some_iff.mp ep
        rw [← e, ← e2]
        exact List.pairwise_iff_getElem.mp hord j i (by omega) hi (by omega)
      have hmsl : ms.length ≤ 1000 := by
        have := m.len
        have h2 := List.length_filter_le (fun p : Int × Int => decide (p.1 ≤ p.2)) (qs.take i)
        rw [List.length_take] at h2
        have := hqs.1
        rw [hms.1]
        unfold upP at *
        omega
      refine ⟨T, _, rfl, .inl (.inl eT), rfl, _, _, rfl, _, _, rfl, rfl, ?_⟩
      refine ⟨_, rfl, _, rfl, p.1, p.2, rfl, rfl, _, rfl, ite2 (fun c0 => ?_) (fun c0 => ?_)⟩
      · have c0' := of_decide_eq_true c0
        refine ⟨ms, rs, _, _, rfl, sm4, eg4, hz4, em4, hms, ?_⟩
        rw [eup, if_neg (by omega), List.append_nil]
        exact m
      have hp12 : p.1 ≤ p.2 := by
        have : ¬ p.1 > p.2 := fun z => c0 (decide_eq_true z)
        omega
      rw [if_pos hp12] at eup
      -- the test's own list
      refine ⟨_, rfl, Nat.zero_le _, fun z nz => ?_⟩
      have sz := same_upd (o := .lst []) nz
      refine ⟨_, _, .lst (SqL.of (sz _ _ em4)) (dp_prs (hms.same sz)), .lst (SqL.of upd_same) .nil, shaped_prs rs, shaped_ints [], ?_⟩
      rw [eqv_pr_nil]
      have sm5 := sm4.trans sz
      have eg5 := sz _ _ eg4
      have hz5 := hz4.same sz
      have em5 := sz _ _ em4
      have hms5 := hms.same sz
      revert sm5 eg5 hz5 em5 hms5
      generalize upd H4 z (.lst []) = H5
      intro sm5 eg5 hz5 em5 hms5
      -- what a new tuple and a change of the list leave
      have grow : ∀ (T2 : Addr) (p2 : Int × Int) (ms2 : List V) (rs2 : List (Int × Int)), H5 T2 = none → Prs (upd H5 T2 (.tup [.int p2.1, .int p2.2])) ms2 rs2 → Mrg (upP (qs.take (i + 1))) rs2 → LSetW H a mg' g zs qs (i + 1) [some (.ref a), some (.ref mg'), some (.int p.1), some (.int p.2)] (upd (upd H5 T2 (.tup [.int p2.1, .int p2.2])) mg' (.lst ms2)) := by
        intro T2 p2 ms2 rs2 n2 h2 m2
        have st := same_upd (o := .tup [.int p2.1, .int p2.2]) n2
        have em6 := st _ _ em5
        refine ⟨ms2, rs2, _, _, rfl, fun b o e => ?_, ?_, (hz5.same st).upd_lst em6, upd_same, h2.upd_lst em6, m2⟩
        · rw [upd_ne (ne_of_none e nm)]
          exact st _ _ (sm5 _ _ e)
        · rw [upd_ne nmg.symm]
          exact st _ _ eg5
      have app : (∀ r ∈ rs, r.2 + 2 ≤ p.1) → (tDrop (tBM K "list" rAppend (tVar 1) (tCons (tTup (tCons (tVar 2) (tCons (tVar 3) tNil))) tNil))) { nx := LSetW H a mg' g zs qs (i + 1), rt := fun _ _ => False } [some (.ref a), some (.ref mg'), some (.int p.1), some (.int p.2)] H5 := by
        intro far
        refine ⟨.ref mg', rfl, .inl ⟨rfl, _, SqL.of em5⟩, _, rfl, _, rfl, (by show 2 ≤ sizeLine; decide), fun T2 n2 => ?_⟩
        have st := same_upd (o := .tup [.int p.1, .int p.2]) n2
        exact ⟨mg', _, _, rfl, rfl, st _ _ em5, small1000 (by omega), grow T2 p (ms ++ [.ref T2]) (rs ++ [p]) n2 ((hms5.same st).snoc upd_same) (by rw [eup]; exact m.new hp12 ord far)⟩
      rcases snoc_cases rs with e0 | ⟨rs', ⟨lo, hi'⟩, e0⟩
      · refine ⟨false, (by rw [e0]; rfl), iteF (iteF ?_)⟩
        exact app (by rw [e0]; exact fun _ z => nomatch z)
      · subst e0
        obtain ⟨ms', T0, rfl, eT0, hms'⟩ := hms5.last
        refine ⟨true, (by simp), iteT ?_⟩
        refine ⟨_, rfl, .ref mg', rfl, 1, rfl, mg', _, -1, .ref T0, rfl, rfl, SqL.of em5, atI_last _ _, T0, _, 1, .int hi', rfl, rfl, .inl (.inl eT0), atI_nat (j := 1) rfl, hi', 1, rfl, rfl, p.1, _, rfl, rfl, _, rfl, ite2 (fun c => ?_) (fun c => ?_)⟩
        · have c' := of_decide_eq_true c
          refine ⟨_, rfl, 1, rfl, mg', _, -1, .ref T0, rfl, rfl, SqL.of em5, atI_last _ _, T0, _, 0, .int lo, rfl, rfl, .inl (.inl eT0), atI_nat (j := 0) rfl, ?_⟩
          refine ⟨_, rfl, _, rfl, 1, rfl, mg', _, -1, .ref T0, rfl, rfl, SqL.of em5, atI_last _ _, T0, _, 1, .int hi', rfl, rfl, .inl (.inl eT0), atI_nat (j := 1) rfl, p.2, hi', rfl, (by show 2 ≤ sizeLine; decide), fun T2 n2 => ?_⟩
          have emax : (if hi' > p.2 then hi' else p.2) = (if p.2 > hi' then p.2 else hi') := by split <;> split <;> omega
          rw [emax]
          have st := same_upd (o := .tup [.int lo, .int (if p.2 > hi' then p.2 else hi')]) n2
          have ei : ixN (ms' ++ [V.ref T0]).length (-1) = some ms'.length := by
            unfold ixN
            rw [if_neg (by decide), List.length_append, if_pos (by show -((ms'.length + 1 : Nat) : Int) ≤ -1; omega)]
            show some ((-1 : Int) + ((ms'.length + 1 : Nat) : Int)).toNat = _
            congr 1
            omega
          refine ⟨.ref mg', rfl, 1, rfl, mg', _, -1, ms'.length, rfl, rfl, st _ _ em5, ei, ?_⟩
          have es : (ms' ++ [V.ref T0]).set ms'.length (.ref T2) = ms' ++ [.ref T2] := by simp
          rw [es]
          exact grow T2 (lo, if p.2 > hi' then p.2 else hi') (ms' ++ [.ref T2]) (rs' ++ [(lo, if p.2 > hi' then p.2 else hi')]) n2 ((hms'.same st).snoc upd_same) (by rw [eup]; exact m.join hp12 ord c')
        · have c' : ¬ p.1 ≤ hi' + 1 := fun z => c (decide_eq_true z)
          refine app fun r hr' => ?_
          obtain ⟨lo', hR⟩ := m.ris
          obtain ⟨_, h2, _, h4⟩ := Ris.front hR
          have h4' : lo ≤ hi' := h4
          rcases List.mem_append.mp hr' with y | y
          · have : r.2 + 2 ≤ lo := h2 r y
            omega
          · rw [List.mem_singleton.mp y]
            show hi' + 2 ≤ p.1
            omega
    · obtain ⟨ms, rs, y2, y3, rfl, sm4, eg4, hz4, em4, hms, m⟩ := hP
      rw [hqs.1, List.take_length] at m
      refine ⟨_, rfl, q mg' ms rs H4 nm em4 hms (m.told.cong fun n => ?_) (Nat.le_trans m.len (Nat.le_trans (List.length_filter_le _ _) (Nat.le_of_eq hperm.length_eq))) sm4⟩
      constructor
      · rintro ⟨r, hr', e⟩
        exact ⟨r, hperm.mem_iff.mp (List.mem_filter.mp hr').1, e⟩
      · rintro ⟨r, hr', e⟩
        exact ⟨r, List.mem_filter.mpr ⟨hperm.mem_iff.mpr hr', decide_eq_true (by omega)⟩, e⟩
end

/-! ### things as data, all of it tracked -/
inductive Dat (H : Hp) : V → PyData → Prop
  | non : Dat H .non .none
  | bl (b : Bool) : Dat H (.bl b) (.bool b)
  | int (i : Int) : Dat H (.int i) (.int i)
  | str (x : Str) : Dat H (.str x) (.str x)
  | lst {a : Addr} {xs : List V} {ds : List PyData} : H a = some (.lst xs) → xs.length = ds.length → (∀ (i : Nat) x d, xs[i]? = some x → ds[i]? = some d → Dat H x d) → Dat H (.ref a) (.list ds)
  | tup {a : Addr} {xs : List V} {ds : List PyData} : H a = some (.tup xs) → xs.length = ds.length → (∀ (i : Nat) x d, xs[i]? = some x → ds[i]? = some d → Dat H x d) → Dat H (.ref a) (.tuple ds)
theorem Dat.same {H H' : Hp} {v : V} {d : PyData} (h : Dat H v d) (s : Same H H') : Dat H' v d := by
  induction h with
  | non => exact .non
  | bl b => exact .bl b
  | int i => exact .int i
  | str x => exact .str x
  | lst e l _ ih => exact .lst (s _ _ e) l ih
  | tup e l _ ih => exact .tup (s _ _ e) l ih
/-- at most so deep, no longer than these lines -/
def Sm : Nat → PyData → Prop
  | _, .none => True
  | _, .bool _ => True
  | _, .int _ => True
  | _, .str _ => True
  | n + 1, .list ds => ds.length ≤ 900 ∧ ∀ d ∈ ds, Sm n d
  | n + 1, .tuple ds => ds.length ≤ 900 ∧ ∀ d ∈ ds, Sm n d
  | _, _ => False
/-- no list, no tuple -/
def Flat (d : PyData) : Prop := d = .none ∨ (∃ b, d = .bool b) ∨ (∃ i, d = .int i) ∨ ∃ x, d = .str x
theorem Sm.cases {n : Nat} {d : PyData} (h : Sm (n + 1) d) : Flat d ∨ (∃ ds, d = .list ds ∧ ds.length ≤ 900 ∧ ∀ d ∈ ds, Sm n d) ∨ ∃ ds, d = .tuple ds ∧ ds.length ≤ 900 ∧ ∀ d ∈ ds, Sm n d := by
  cases d <;> first | exact .inl (.inl rfl) | exact .inl (.inr (.inl ⟨_, rfl⟩)) | exact .inl (.inr (.inr (.inl ⟨_, rfl⟩))) | exact .inl (.inr (.inr (.inr ⟨_, rfl⟩))) | exact .inr (.inl ⟨_, rfl, h.1, h.2⟩) | exact .inr (.inr ⟨_, rfl, h.1, h.2⟩) | exact h.elim
theorem Sm.flat {d : PyData} (h : Sm 0 d) : Flat d := by
  cases d <;> first | exact .inl rfl | exact .inr (.inl ⟨_, rfl⟩) | exact .inr (.inr (.inl ⟨_, rfl⟩)) | exact .inr (.inr (.inr ⟨_, rfl⟩)) | exact h.elim
theorem walk_zipTs {K : PySem.W.Frag} {a b : Addr} {xs ys : List V} {n : Nat} (h1 : xs.length = n) (h2 : ys.length = n) : Walk (RZ.ItzT K a b) n (fun H => SqT K H a xs ∧ SqT K H b ys) (YPair (fun i => xs[i]?) (fun i => ys[i]?)) where
  goes := fun i _ lt q => ⟨xs, ys, _, _, q.1, q.2, List.getElem?_eq_getElem (h1.symm ▸ lt), List.getElem?_eq_getElem (h2.symm ▸ lt)⟩
  stops := fun _ q => ⟨xs, ys, q.1, q.2, .inl (Nat.le_of_eq h1)⟩
  yields := fun i _ _ _ _ q ⟨T, x, z, e1, e2, e3, e4, e5⟩ => ⟨T, x, z, e1, e2, e3, e4 xs q.1, e5 ys q.2⟩
theorem prs_dat {H : Hp} {us : List V} {ps : List (Int × Int)} (h : Prs H us ps) : ∀ (i : Nat) x d, us[i]? = some x → (ps.map pairD)[i]? = some d → Dat H x d := fun i x d e1 e2 => by
  obtain ⟨p, a, ep, rfl, ea⟩ := prs_at h e1
  rw [List.getElem?_map, ep] at e2
  have ed : pairD p = d := Option.some.inj e2
  rw [← ed]
  refine .tup ea rfl fun j y d f1 f2 => ?_
  have hj : j < 2 := (List.getElem?_eq_some_iff.mp f1).1
  have : j = 0 ∨ j = 1 := by omega
  rcases this with rfl | rfl
  · cases f1; cases f2; exact .int _
  · cases f1; cases f2; exact .int _
theorem sm_prs {ps : List (Int × Int)} (h : ps.length ≤ 900) : Sm 2 (.list (ps.map pairD)) := by
  refine ⟨by rw [List.length_map]; exact h, fun d hd => ?_⟩
  obtain ⟨p, _, rfl⟩ := List.mem_map.mp hd
  exact ⟨by show 2 ≤ 900; decide, fun d hd => by
    rcases List.mem_cons.mp hd with e | e
    · rw [e]; trivial
    · rw [List.mem_singleton.mp e]; trivial⟩
theorem ints_dat {H : Hp} {a : Addr} {ns : List Int} (e : H a = some (.lst (ns.map V.int))) : Dat H (.ref a) (.list (ns.map PyData.int)) := .lst e (by rw [List.length_map, List.length_map]) fun i x d e1 e2 => by
  rw [List.getElem?_map] at e1 e2
  cases h : ns[i]? with
  | none => rw [h] at e1; cases e1
  | some n =>
    rw [h] at e1 e2
    cases e1
    cases e2
    exact .int n
theorem sm_ints {ns : List Int} (h : ns.length ≤ 900) : Sm 1 (.list (ns.map PyData.int)) := by
  refine ⟨by rw [List.length_map]; exact h, fun d hd => ?_⟩
  obtain ⟨p, _, rfl⟩ := List.mem_map.mp hd
  trivial

mutual
/-- no truth among it -/
def NoBl : PyData → Prop
  | .bool _ => False
  | .list ds => NoBls ds
  | .tuple ds => NoBls ds
  | _ => True
def NoBls : List PyData → Prop
  | [] => True
  | d :: ds => NoBl d ∧ NoBls ds
end
theorem noBls_all : ∀ {ds : List PyData}, NoBls ds → ∀ d ∈ ds, NoBl d
  | [], _, _, h => nomatch h
  | e :: r, h, d, hd => by
    rw [NoBls] at h
    rcases List.mem_cons.mp hd with z | z
    · rw [z]; exact h.1
    · exact noBls_all h.2 d z
theorem noBls_of : ∀ {ds : List PyData}, (∀ d ∈ ds, NoBl d) → NoBls ds
  | [], _ => by rw [NoBls]; trivial
  | e :: r, h => by rw [NoBls]; exact ⟨h e (List.mem_cons_self ..), noBls_of fun d hd => h d (List.mem_cons_of_mem _ hd)⟩
abbrev sSame : Stmt := topS 8
theorem scSame : FnScope ["_law_found", "_law_due_here", "_law_one", "_law_other"] ["_law_found", "_law_due_here"] (defScope sSame) := ⟨rfl, rfl, rfl, by decide +kernel, rfl, by decide +kernel, by decide +kernel⟩
/-- alike: the same data twice (no truths among it) -/
def spSame (n : Nat) : Sp := fun vs H Q _ => ∃ (v u : V) (d : PyData), vs = [v, u] ∧ Dat H v d ∧ Dat H u d ∧ Sm n d ∧ NoBl d ∧ ∀ H', Same H H' → Q (.bl true) H'
theorem all_true (n : Nat) : (List.replicate n true).all id = true := by
  rw [List.all_eq_true]
  intro b hb
  exact (List.mem_replicate.mp hb).2
abbrev SameGoal (K : PySem.W.Frag) (mg : Str → Option Value) (P : Program) (w : World) (base : Heap) (f : Addr) (cdv : Value) (A : Around) (outer : List Env) (s : Shared) (H : Hp) (E : XK) (v u : V) (Q : VK) : Prop :=
  ∃ t, PSs (cxOf CX0 P w K mg base ["_law_found", "_law_due_here", "_law_one", "_law_other"] "_law_same" (defScope sSame) f cdv A outer s H E).nox (defBody sSame) t ∧ t { nx := fun _ H' => Q .non H', rt := Q } (start ["_law_found", "_law_due_here", "_law_one", "_law_other"] [v, u]) H
section
variable {K : PySem.W.Frag} {mg : Str → Option Value} {P : Program} {w : World} {base : Heap}
/-- of no list, no tuple -/
theorem same_flat {f : Addr} (mi : mg "isinstance" = none) (ml : mg "list" = none) (mt : mg "tuple" = none) (mb : mg "bool" = none) (ms : mg "str" = none) (mn : mg "int" = none) {cdv : Value} {A : Around} {outer : List Env} {s : Shared} {H : Hp} {v u : V} {d : PyData} {Q : VK} {E : XK}
    (h1 : Dat H v d) (h2 : Dat H u d) (hd : Flat d) (hb : NoBl d) (q : ∀ H', Same H H' → Q (.bl true) H') : SameGoal K mg P w base f cdv A outer s H E v u Q := by
  refine ⟨_, pss_cons (ps_if (pt_cmpR op_isN (pv 1) pe_non (nomark _)) (pss_one (ps_ret (pe_cmpR op_isN (pv 0) pe_non (nomark _)))) pss_nil)
      (pss_cons (ps_if (PW.pt (pw_or (pt_val (pe_callB call_isi (by rfl) mi (by decide +kernel) (pa_cons (pv 1) (pa_cons (pe_bltn (v := .ty "list") (by rfl) ml (by decide +kernel) rfl) pa_nil)))) (pw_or1 (pt_val (pe_callB call_isi (by rfl) mi (by decide +kernel) (pa_cons (pv 1) (pa_cons (pe_bltn (v := .ty "tuple") (by rfl) mt (by decide +kernel) rfl) pa_nil))))))) pss_never pss_nil)
      (pss_cons (ps_if (pt_val (pe_callB call_isi (by rfl) mi (by decide +kernel) (pa_cons (pv 1) (pa_cons (pe_bltn (v := .ty "str") (by rfl) ms (by decide +kernel) rfl) pa_nil)))) (pss_one (ps_ret (pe_and (pe_callB call_isi (by rfl) mi (by decide +kernel) (pa_cons (pv 0) (pa_cons (pe_bltn (v := .ty "str") (by rfl) ms (by decide +kernel) rfl) pa_nil))) (pe_one (pe_cmpR op_eq (pv 0) (pv 1) (nomark _)))))) pss_nil)
      (pss_one (ps_ret (pe_and (pe_callB call_isi (by rfl) mi (by decide +kernel) (pa_cons (pv 0) (pa_cons (pe_bltn (v := .ty "int") (by rfl) mn (by decide +kernel) rfl) pa_nil))) (pe_and (pe_not (pe_callB call_isi (by rfl) mi (by decide +kernel) (pa_cons (pv 0) (pa_cons (pe_bltn (v := .ty "bool") (by rfl) mb (by decide +kernel) rfl) pa_nil)))) (pe_one (pe_cmpR op_eq (pv 0) (pv 1) (nomark _))))))))), ?_⟩
  have deq : ∀ x : V, (decide (x = x)) = true := fun x => decide_eq_true rfl
  rcases hd with rfl | ⟨b, rfl⟩ | ⟨i, rfl⟩ | ⟨x, rfl⟩
  · cases h1
    cases h2
    refine ⟨_, rfl, rfl, _, rfl, iteT ?_⟩
    exact ⟨_, rfl, rfl, q _ (Same.refl H)⟩
  · rw [NoBl] at hb
    exact hb.elim
  · cases h1
    cases h2
    refine ⟨_, rfl, rfl, _, rfl, iteF ?_⟩
    refine ⟨_, rfl, _, _, .type "int", .type "list", false, rfl, .ty _, .base (.int i), kit_ty (by decide +kernel), _, rfl, iteF ?_⟩
    refine ⟨_, rfl, _, _, .type "int", .type "tuple", false, rfl, .ty _, .base (.int i), kit_ty (by decide +kernel), _, rfl, iteF ?_⟩
    refine ⟨_, rfl, _, _, .type "int", .type "str", false, rfl, .ty _, .base (.int i), kit_ty (by decide +kernel), _, rfl, iteF ?_⟩
    refine ⟨_, rfl, _, _, .type "int", .type "int", true, rfl, .ty _, .base (.int i), kit_ty (by decide +kernel), _, rfl, iteT ?_⟩
    refine ⟨_, rfl, _, _, .type "int", .type "bool", false, rfl, .ty _, .base (.int i), kit_ty (by decide +kernel), _, rfl, _, rfl, iteT ?_⟩
    refine ⟨_, rfl, _, rfl, rfl, ?_⟩
    rw [deq]
    exact q _ (Same.refl H)
  · cases h1
    cases h2
    refine ⟨_, rfl, rfl, _, rfl, iteF ?_⟩
    refine ⟨_, rfl, _, _, .type "str", .type "list", false, rfl, .ty _, .base (.str x), kit_ty (by decide +kernel), _, rfl, iteF ?_⟩
    refine ⟨_, rfl, _, _, .type "str", .type "tuple", false, rfl, .ty _, .base (.str x), kit_ty (by decide +kernel), _, rfl, iteF ?_⟩
    refine ⟨_, rfl, _, _, .type "str", .type "str", true, rfl, .ty _, .base (.str x), kit_ty (by decide +kernel), _, rfl, iteT ?_⟩
    refine ⟨_, rfl, _, _, .type "str", .type "str", true, rfl, .ty _, .base (.str x), kit_ty (by decide +kernel), _, rfl, iteT ?_⟩
    refine ⟨_, rfl, _, rfl, rfl, ?_⟩
    rw [deq]
    exact q _ (Same.refl H)
theorem ok_same0 {f : Addr} {fd : FuncData} {k : Nat} (F : Fun K "_law_same" "_law_same" sSame f fd) (mi : mg "isinstance" = none) (ml : mg "list" = none) (mt : mg "tuple" = none) (mb : mg "bool" = none) (ms : mg "str" = none) (mn : mg "int" = none) :
    FnOk P w K mg base CX0 (k + 1) f fd ["_law_found", "_law_due_here"] (spSame 0) := by
  refine F.ok scSame (fun vs H Q E h => ?_) (fun cdv A outer s H vs Q E hr h => ?_)
  · obtain ⟨v, u, d, rfl, _⟩ := h
    rfl
  · obtain ⟨v, u, d, rfl, h1, h2, hd, hb, q⟩ := h
    exact same_flat mi ml mt mb ms mn h1 h2 hd.flat hb q
theorem ok_sameS {f : Addr} {fd : FuncData} {n k : Nat} (F : Fun K "_law_same" "_law_same" sSame f fd) (C : Cal P w K mg base k "_law_same" ["_law_found", "_law_due_here"] (spSame n)) (mi : mg "isinstance" = none) (ml : mg "list" = none) (mt : mg "tuple" = none) (mb : mg "bool" = none) (ms : mg "str" = none) (mn : mg "int" = none) (me : mg "len" = none) (ma : mg "all" = none) (mz : mg "zip" = none) :
    FnOk P w K mg base CX0 (k + 1) f fd ["_law_found", "_law_due_here"] (spSame (n + 1)) := by
  refine F.ok scSame (fun vs H Q E h => ?_) (fun cdv A outer s H vs Q E hr h => ?_)
  · obtain ⟨v, u, d, rfl, _⟩ := h
    rfl
  · obtain ⟨v, u, d, rfl, h1, h2, hd, hb, q⟩ := h
    rcases hd.cases with hf | ⟨ds, rfl, hl, hall⟩ | ⟨ds, rfl, hl, hall⟩
    · exact same_flat mi ml mt mb ms mn h1 h2 hf hb q
    · refine ⟨_, pss_cons (ps_if (pt_cmpR op_isN (pv 1) pe_non (nomark _)) (pss_one (ps_ret (pe_cmpR op_isN (pv 0) pe_non (nomark _)))) pss_nil)
        (pss_cons (ps_if (PW.pt (pw_or (pt_val (pe_callB call_isi (by rfl) mi (by decide +kernel) (pa_cons (pv 1) (pa_cons (pe_bltn (v := .ty "list") (by rfl) ml (by decide +kernel) rfl) pa_nil)))) (pw_or1 (pt_val (pe_callB call_isi (by rfl) mi (by decide +kernel) (pa_cons (pv 1) (pa_cons (pe_bltn (v := .ty "tuple") (by rfl) mt (by decide +kernel) rfl) pa_nil)))))))
          (pss_cons (ps_if (pt_cmpR op_ne (pe_callB call_isi (by rfl) mi (by decide +kernel) (pa_cons (pv 0) (pa_cons (pe_bltn (v := .ty "list") (by rfl) ml (by decide +kernel) rfl) pa_nil))) (pe_callB call_isi (by rfl) mi (by decide +kernel) (pa_cons (pv 1) (pa_cons (pe_bltn (v := .ty "list") (by rfl) ml (by decide +kernel) rfl) pa_nil))) (nomark _)) (pss_one (ps_ret pe_bl)) pss_nil)
          (pss_cons (ps_if (PW.pt (pw_or (pt_cmpR op_ne (pe_callB call_isi (by rfl) mi (by decide +kernel) (pa_cons (pv 0) (pa_cons (pe_bltn (v := .ty "tuple") (by rfl) mt (by decide +kernel) rfl) pa_nil))) (pe_callB call_isi (by rfl) mi (by decide +kernel) (pa_cons (pv 1) (pa_cons (pe_bltn (v := .ty "tuple") (by rfl) mt (by decide +kernel) rfl) pa_nil))) (nomark _)) (pw_or1 (pt_cmpR op_ne (pe_callB call_len_seq (by rfl) me PySem.boot_len (pa_cons (pv 0) pa_nil)) (pe_callB call_len_seq (by rfl) me PySem.boot_len (pa_cons (pv 1) pa_nil)) (nomark _))))) (pss_one (ps_ret pe_bl)) pss_nil)
          (pss_one (ps_ret (pe_callB (cr_all rfl) (by rfl) ma (by decide +kernel) (pa_cons (pe_lc (own := [("_law_one", 2), ("_law_other", 3)]) (g := gTup K 2 (gCons (gName 2) (gCons (gName 3) gNil))) (tt := tYes) (te := tCall (spSame n) [] E0 (tCons (tVar 2) (tCons (tVar 3) tNil))) rfl scSame.nd (RZ.pi_zipA (by rfl) mz (pa_cons (pv 0) (pa_cons (pv 1) pa_nil)))
            (blkOk_by (own := [("_law_one", 2), ("_law_other", 3)]) (N := ["_law_found", "_law_due_here", "_law_one", "_law_other"]) (sc := defScope sSame) (by decide +kernel)) (fun _ _ _ _ _ => pg_tup rfl (pgs_cons (pg_name (i := 2) scSame.nd rfl (.inl rfl)) (pgs_cons (pg_name (i := 3) scSame.nd rfl (.inl rfl)) pgs_nil))) (fun _ _ _ _ _ => pts_nil)
            (fun _ _ _ _ _ => pe_own C hr (by rfl) (pa_cons (pv 2) (pa_cons (pv 3) pa_nil)))) pa_nil)))))) pss_nil) pss_never), ?_⟩
      cases h1 with | lst ea la da => ?_
      cases h2 with | lst eb lb db => ?_
      rename_i a xs b ys
      have deq : ∀ x : V, (decide (x = x)) = true := fun x => decide_eq_true rfl
      have hbl := noBls_all (by simpa only [NoBl] using hb)
      refine ⟨_, rfl, rfl, false, congrArg V.bl (decide_eq_false (fun z => nomatch z)), iteF ?_⟩
      refine ⟨_, rfl, _, _, .type "list", .type "list", true, rfl, .ty _, .base (.lst eb), kit_ty (by decide +kernel), _, rfl, iteT (iteT ?_)⟩
      refine ⟨_, rfl, _, _, .type "list", .type "list", true, rfl, .ty _, .base (.lst ea), kit_ty (by decide +kernel), _, rfl, _, _, .type "list", .type "list", true, rfl, .ty _, .base (.lst eb), kit_ty (by decide +kernel), rfl, false, congrArg V.bl (by rw [deq]; rfl), iteF ?_⟩
      refine ⟨_, rfl, _, _, .type "list", .type "tuple", false, rfl, .ty _, .base (.lst ea), kit_ty (by decide +kernel), _, rfl, _, _, .type "list", .type "tuple", false, rfl, .ty _, .base (.lst eb), kit_ty (by decide +kernel), rfl, false, congrArg V.bl (by rw [deq]; rfl), iteF ?_⟩
      refine ⟨_, rfl, a, xs, rfl, Sq.list ea, _, rfl, b, ys, rfl, Sq.list eb, rfl, false, congrArg V.bl (by rw [decide_eq_true (congrArg (fun n : Nat => V.int (n : Int)) (la.trans lb.symm))]; rfl), iteF ?_⟩
      refine ⟨_, rfl, _, rfl, a, b, xs, ys, rfl, .inl ⟨SqL.of ea, SqL.of eb, fun D nD => lc_it (walk_zip (K := K) (a := a) (b := b) (xs := xs) (ys := ys) (n := ds.length) (by rw [la, lb, Nat.min_self])) (fun j H' => Same H H' ∧ H' D = some (.lst ((List.replicate j true).map V.bl))) ⟨same_upd nD, upd_same⟩
        (fun j H' _ hP => ⟨SqL.of (hP.1 _ _ ea), SqL.of (hP.1 _ _ eb)⟩) (fun j x H' H'' hj hP hy => ?_) (fun H3 hP => ?_)⟩⟩
      · obtain ⟨sm', eD⟩ := hP
        obtain ⟨T, x1, x2, rfl, nT, rfl, f1, f2⟩ := hy
        have st := same_upd (o := .tup [x1, x2]) nT
        have hdj : ds[j]? = some ds[j] := List.getElem?_eq_getElem hj
        have S := sm'.trans st
        refine ⟨T, _, rfl, .inl (.inl upd_same), rfl, _, _, rfl, _, _, rfl, rfl, rfl, ?_⟩
        refine ⟨_, rfl, _, rfl, x1, x2, ds[j], rfl, (da j x1 _ f1 hdj).same S, (db j x2 _ f2 hdj).same S, hall _ (List.getElem_mem hj), hbl _ (List.getElem_mem hj), fun H4 s4 => ?_⟩
        refine ⟨_, s4 _ _ (st _ _ eD), small1000 (by rw [List.length_map, List.length_replicate]; omega), fun c o e => ?_, ?_⟩
        · rw [upd_ne (ne_of_none e nD)]
          exact s4 _ _ (st _ _ (sm' c o e))
        · rw [upd_same, List.replicate_succ', List.map_append]
          rfl
      · obtain ⟨sm', eD⟩ := hP
        refine ⟨D, List.replicate ds.length true, rfl, SqL.of eD, ?_⟩
        rw [all_true]
        exact q _ sm'
    · refine ⟨_, pss_cons (ps_if (pt_cmpR op_isN (pv 1) pe_non (nomark _)) (pss_one (ps_ret (pe_cmpR op_isN (pv 0) pe_non (nomark _)))) pss_nil)
        (pss_cons (ps_if (PW.pt (pw_or (pt_val (pe_callB call_isi (by rfl) mi (by decide +kernel) (pa_cons (pv 1) (pa_cons (pe_bltn (v := .ty "list") (by rfl) ml (by decide +kernel) rfl) pa_nil)))) (pw_or1 (pt_val (pe_callB call_isi (by rfl) mi (by decide +kernel) (pa_cons (pv 1) (pa_cons (pe_bltn (v := .ty "tuple") (by rfl) mt (by decide +kernel) rfl) pa_nil)))))))
          (pss_cons (ps_if (pt_cmpR op_ne (pe_callB call_isi (by rfl) mi (by decide +kernel) (pa_cons (pv 0) (pa_cons (pe_bltn (v := .ty "list") (by rfl) ml (by decide +kernel) rfl) pa_nil))) (pe_callB call_isi (by rfl) mi (by decide +kernel) (pa_cons (pv 1) (pa_cons (pe_bltn (v := .ty "list") (by rfl) ml (by decide +kernel) rfl) pa_nil))) (nomark _)) (pss_one (ps_ret pe_bl)) pss_nil)
          (pss_cons (ps_if (PW.pt (pw_or (pt_cmpR op_ne (pe_callB call_isi (by rfl) mi (by decide +kernel) (pa_cons (pv 0) (pa_cons (pe_bltn (v := .ty "tuple") (by rfl) mt (by decide +kernel) rfl) pa_nil))) (pe_callB call_isi (by rfl) mi (by decide +kernel) (pa_cons (pv 1) (pa_cons (pe_bltn (v := .ty "tuple") (by rfl) mt (by decide +kernel) rfl) pa_nil))) (nomark _)) (pw_or1 (pt_cmpR op_ne (pe_callB call_len_seq (by rfl) me PySem.boot_len (pa_cons (pv 0) pa_nil)) (pe_callB call_len_seq (by rfl) me PySem.boot_len (pa_cons (pv 1) pa_nil)) (nomark _))))) (pss_one (ps_ret pe_bl)) pss_nil)
          (pss_one (ps_ret (pe_callB (cr_all rfl) (by rfl) ma (by decide +kernel) (pa_cons (pe_lc (own := [("_law_one", 2), ("_law_other", 3)]) (g := gTup K 2 (gCons (gName 2) (gCons (gName 3) gNil))) (tt := tYes) (te := tCall (spSame n) [] E0 (tCons (tVar 2) (tCons (tVar 3) tNil))) rfl scSame.nd (RZ.pi_zipA (by rfl) mz (pa_cons (pv 0) (pa_cons (pv 1) pa_nil)))
            (blkOk_by (own := [("_law_one", 2), ("_law_other", 3)]) (N := ["_law_found", "_law_due_here", "_law_one", "_law_other"]) (sc := defScope sSame) (by decide +kernel)) (fun _ _ _ _ _ => pg_tup rfl (pgs_cons (pg_name (i := 2) scSame.nd rfl (.inl rfl)) (pgs_cons (pg_name (i := 3) scSame.nd rfl (.inl rfl)) pgs_nil))) (fun _ _ _ _ _ => pts_nil)
            (fun _ _ _ _ _ => pe_own C hr (by rfl) (pa_cons (pv 2) (pa_cons (pv 3) pa_nil)))) pa_nil)))))) pss_nil) pss_never), ?_⟩
      cases h1 with | tup ea la da => ?_
      cases h2 with | tup eb lb db => ?_
      rename_i a xs b ys
      have deq : ∀ x : V, (decide (x = x)) = true := fun x => decide_eq_true rfl
      have hbl := noBls_all (by simpa only [NoBl] using hb)
      refine ⟨_, rfl, rfl, false, congrArg V.bl (decide_eq_false (fun z => nomatch z)), iteF ?_⟩
      refine ⟨_, rfl, _, _, .type "tuple", .type "list", false, rfl, .ty _, .base (.tup eb), kit_ty (by decide +kernel), _, rfl, iteF ?_⟩
      refine ⟨_, rfl, _, _, .type "tuple", .type "tuple", true, rfl, .ty _, .base (.tup eb), kit_ty (by decide +kernel), _, rfl, iteT ?_⟩
      refine ⟨_, rfl, _, _, .type "tuple", .type "list", false, rfl, .ty _, .base (.tup ea), kit_ty (by decide +kernel), _, rfl, _, _, .type "tuple", .type "list", false, rfl, .ty _, .base (.tup eb), kit_ty (by decide +kernel), rfl, false, congrArg V.bl (by rw [deq]; rfl), iteF ?_⟩
      refine ⟨_, rfl, _, _, .type "tuple", .type "tuple", true, rfl, .ty _, .base (.tup ea), kit_ty (by decide +kernel), _, rfl, _, _, .type "tuple", .type "tuple", true, rfl, .ty _, .base (.tup eb), kit_ty (by decide +kernel), rfl, false, congrArg V.bl (by rw [deq]; rfl), iteF ?_⟩
      refine ⟨_, rfl, a, xs, rfl, Sq.tup ea, _, rfl, b, ys, rfl, Sq.tup eb, rfl, false, congrArg V.bl (by rw [decide_eq_true (congrArg (fun n : Nat => V.int (n : Int)) (la.trans lb.symm))]; rfl), iteF ?_⟩
      refine ⟨_, rfl, _, rfl, a, b, xs, ys, rfl, .inr ⟨.inl (.inl ea), .inl (.inl eb), fun D nD => lc_it (walk_zipTs (K := K) (a := a) (b := b) (xs := xs) (ys := ys) (n := ds.length) la lb) (fun j H' => Same H H' ∧ H' D = some (.lst ((List.replicate j true).map V.bl))) ⟨same_upd nD, upd_same⟩
        (fun j H' _ hP => ⟨.inl (.inl (hP.1 _ _ ea)), .inl (.inl (hP.1 _ _ eb))⟩) (fun j x H' H'' hj hP hy => ?_) (fun H3 hP => ?_)⟩⟩
      · obtain ⟨sm', eD⟩ := hP
        obtain ⟨T, x1, x2, rfl, nT, rfl, f1, f2⟩ := hy
        have st := same_upd (o := .tup [x1, x2]) nT
        have hdj : ds[j]? = some ds[j] := List.getElem?_eq_getElem hj
        have S := sm'.trans st
        refine ⟨T, _, rfl, .inl (.inl upd_same), rfl, _, _, rfl, _, _, rfl, rfl, rfl, ?_⟩
        refine ⟨_, rfl, _, rfl, x1, x2, ds[j], rfl, (da j x1 _ f1 hdj).same S, (db j x2 _ f2 hdj).same S, hall _ (List.getElem_mem hj), hbl _ (List.getElem_mem hj), fun H4 s4 => ?_⟩
        refine ⟨_, s4 _ _ (st _ _ eD), small1000 (by rw [List.length_map, List.length_replicate]; omega), fun c o e => ?_, ?_⟩
        · rw [upd_ne (ne_of_none e nD)]
          exact s4 _ _ (st _ _ (sm' c o e))
        · rw [upd_same, List.replicate_succ', List.map_append]
          rfl
      · obtain ⟨sm', eD⟩ := hP
        refine ⟨D, List.replicate ds.length true, rfl, SqL.of eD, ?_⟩
        rw [all_true]
        exact q _ sm'
end

/-! ## sum(.. for a, b, c in ..): a generator expression with three names, no test -/
namespace G3
open PySem PySem.Spec PyProof.Rows L2 GxR
/-- no item is left out -/
abbrev allOf : Nat → Bool := fun _ => true
section
variable {prog : Program} {w : World} {A : Around} {elt iter : Expr} {xa xb xc : Str} {pa pb pc pt pos : Pos} {kt : Nat} {sc : Scope}
abbrev gx (elt iter : Expr) (xa xb xc : Str) (pa pb pc pt : Pos) (kt : Nat) (sc : Scope) (pos : Pos) : Expr := .GeneratorExp elt [⟨.Tuple [.Name xa pa, .Name xb pb, .Name xc pc] kt pt, iter, [], 0⟩] sc pos
/-- what the element gives at the i-th triple, in any heap in which what stood at href still stands -/
def Elt3 (prog : Program) (w : World) (cenv : Env) (xa xb xc : Str) (elt : Expr) (foot writes : List Addr) (Hold : Nat → Array Value → Prop) (Gives : Nat → Value → Prop) (href : Heap) : Prop :=
  ∀ (A' : Around) (E' : Value → Shared → Prop) (i : Nat) (u v x : Value) (s2 : Shared) (m : Str → Option Value), A'.handled = none → Hold i #[u, v, x] → s2.heap.Ns cenv.locals m → m xa = some u → m xb = some v → m xc = some x →
    (∀ b ∈ foot, b ∉ writes → ∀ o, href.get? b = some o → s2.heap.get? b = some o) → wpAny (model prog w) A' (eval elt cenv) (fun y s3 => Gives i y ∧ Keeps s2 s3) E' s2
/-- the scope of the expression: three unlike locals -/
structure Env3 (cenv : Env) (xa xb xc : Str) (foot : List Addr) : Prop where
  ka : cenv.kindOf xa = some .local
  kb : cenv.kindOf xb = some .local
  kc : cenv.kindOf xc = some .local
  ab : xa ≠ xb
  ac : xa ≠ xc
  bc : xb ≠ xc
  plain : (cenv.scope.kind == .class || (cenv.scope.kind == .module && cenv.locals != cenv.globals)) = false
  sync : cenv.scope.isCoroutine = false
  out : cenv.locals ∉ foot
theorem loop3 {I : Addr} {foot writes : List Addr} {n : Nat} {Hold : Nat → Array Value → Prop} {At : Nat → Heap → Prop} {Mid : Nat → Addr → Heap → Prop} {cenv : Env} {Gives : Nat → Value → Prop} {href : Heap}
    (calm : A.handled = none) (W : ∀ A' : Around, A'.handled = none → WalksU prog w A' I foot writes n Hold At Mid) (three : ∀ i xs, Hold i xs → ∃ u v x, xs = #[u, v, x]) (N : Env3 cenv xa xb xc foot) (elts : Elt3 prog w cenv xa xb xc elt foot writes Hold Gives href) :
    ∀ (k i : Nat) (s0 s : Shared) (m : Str → Option Value), n - i = k → i ≤ n → At i s.heap → s.heap.Ns cenv.locals m → GenSince cenv.locals writes s0 s → (∀ b ∈ foot, b ∉ writes → ∀ o, href.get? b = some o → s.heap.get? b = some o) →
      Seg (model prog w) A (fun n s0 r s1 => r = .ok .next ∧ (n = 0 ∧ GenSince cenv.locals writes s0 s1)) (genProto cenv.locals foot writes allOf n Gives) (passing allOf n i).length s0
        (.compLoop (gx elt iter xa xb xc pa pb pc pt kt sc pos) 0 (.ref I) .none cenv) ((model prog w).den (.compLoop (gx elt iter xa xb xc pa pb pc pt kt sc pos) 0 (.ref I) .none cenv)) [] s := by
  have calm' : (A.over (.compLoop (gx elt iter xa xb xc pa pb pc pt kt sc pos) 0 (.ref I) .none cenv) []).handled = none := calm
  have lw : cenv.locals ∉ writes := fun z => N.out ((W A calm).sub _ z)
  intro k
  induction k with
  | zero =>
    intro i s0 s m hk hi at_ ns since still
    obtain rfl : i = n := by omega
    show Seg _ A _ _ _ s0 _ ((compTurn (gx elt iter xa xb xc pa pb pc pt kt sc pos) 0 (.ref I) .none cenv).onRaise (leaving cenv)) [] s
    rw [compTurn_gen, Sem.onRaise_eq_wrap]
    refine seg_bind_wrap (wpAny_standAt (seg_bind_wrap ((W _ calm').done s _ _ at_ fun h' tk kept => ?_)))
    exact seg_end (.ok .next) ⟨rfl, by rw [passing_end]; rfl, since.step fun b o _ hw e => kept b o hw e⟩
  | succ k ih =>
    intro i s0 s m hk hi at_ ns since still
    have lt : i < n := by omega
    show Seg _ A _ _ _ s0 _ ((compTurn (gx elt iter xa xb xc pa pb pc pt kt sc pos) 0 (.ref I) .none cenv).onRaise (leaving cenv)) [] s
    rw [compTurn_gen, Sem.onRaise_eq_wrap]
    refine seg_bind_wrap (wpAny_standAt (seg_bind_wrap ((W _ calm').item i s _ _ lt at_ fun T xs h1 tk1 hold isT mid k1 => ?_)))
    obtain ⟨u, v, x, rfl⟩ := three i xs hold
    refine seg_bind_wrap ((W _ calm').go _ _ _ i T _ _ _ mid fun h2 at2 k2 => ?_)
    have isT2 : h2.IsTuple T #[u, v, x] := let ⟨o, e, r⟩ := isT; ⟨o, k2 _ o ((W _ calm').apart i T _ mid) e, r⟩
    refine seg_bind_wrap (wpAny_assign_Tuple calm' isT2 rfl rfl fun h3 ext3 => ?_)
    have old3 : ∀ b o, h2.get? b = some o → h3.get? b = some o := fun b o e => ext3 b o (Nat.ne_of_lt (Heap.lt_size e)) e
    show wpAny _ _ (do holding [v, x] (assign (.Name xa pa) cenv u); do holding [x] (assign (.Name xb pb) cenv v); do holding [] (assign (.Name xc pc) cenv x); pure ()) _ _ _
    refine wpAny_bind (wpAny_holding (wpAny_assign_Name (wpAny_storeName_local N.ka (ns.at' fun o e => old3 _ o (k2 _ o lw (k1 _ o lw e))) (fun h4 ns4 sb4 => ?_) N.plain)))
    refine wpAny_bind (wpAny_holding (wpAny_assign_Name (wpAny_storeName_local N.kb ns4 (fun h5 ns5 sb5 => ?_) N.plain)))
    refine wpAny_bind (wpAny_holding (wpAny_assign_Name (wpAny_storeName_local N.kc ns5 (fun h6 ns6 sb6 => wpAny_pure ?_) N.plain)))
    have on : ∀ b o, b ≠ cenv.locals → h2.get? b = some o → h6.get? b = some o := fun b o hb e => sb6.extBut b o hb (sb5.extBut b o hb (sb4.extBut b o hb (old3 b o e)))
    have up : ∀ b o, b ≠ cenv.locals → b ∉ writes → s.heap.get? b = some o → h6.get? b = some o := fun b o hb hw e => on b o hb (k2 b o hw (k1 b o hw e))
    have no : ∀ b ∈ foot, b ≠ cenv.locals := fun b hb z => N.out (z ▸ hb)
    have at6 : At (i + 1) h6 := (W A calm).frame _ _ _ at2 fun b hb o e => on b o (no b hb) e
    have still6 : ∀ b ∈ foot, b ∉ writes → ∀ o, href.get? b = some o → h6.get? b = some o := fun b hb hw o e => up b o (no b hb) hw (still b hb hw o e)
    refine seg_bind_wrap ?_
    rw [List.forIn_nil]
    refine wpAny_pure ?_
    rw [passing_true lt rfl, List.length_cons]
    simp only [if_true]
    have out : ∀ y, yieldOut cenv y = yieldValue y := fun y => by simp only [yieldOut, N.sync, Bool.false_eq_true, if_false]
    simp only [out]
    rw [Sem.bind_eq_wrap', Sem.bind_eq_wrap', Sem.wrap_wrap, Sem.wrap_wrap]
    refine seg_wrap (wpAny_mono (elts _ _ i u v x _ _ calm' hold ns6 (by simp [N.ab, N.ac]) (by simp [N.bc]) (by simp) still6) (fun y s7 r => ?_) fun _ _ e => e)
    obtain ⟨gives, h7, tk7, rfl, k7⟩ := r
    refine seg_at (seg_yield rfl rfl rfl ⟨⟨i, passing_here lt rfl, gives⟩, since.step fun b o hb hw e => k7 b o (up b o hb hw e), fun s8 al => ?_⟩)
    exact seg_again rfl (ih (i + 1) s8 s8 _ (by omega) lt ((W A calm).frame _ _ _ at6 fun b hb o e => al b (List.mem_cons_of_mem _ hb) o (k7 b o e)) ((ns6.keeps k7).at' fun o e => al _ (List.mem_cons_self ..) o e) (GenSince.refl _ _ _)
      fun b hb hw o e => al b (List.mem_cons_of_mem _ hb) o (k7 b o (still6 b hb hw o e)))
theorem start3 {I : Addr} {foot writes : List Addr} {n : Nat} {Hold : Nat → Array Value → Prop} {At : Nat → Heap → Prop} {Mid : Nat → Addr → Heap → Prop} {cenv : Env} {Gives : Nat → Value → Prop} {href : Heap}
    (calm : A.handled = none) (W : ∀ A' : Around, A'.handled = none → WalksU prog w A' I foot writes n Hold At Mid) (three : ∀ i xs, Hold i xs → ∃ u v x, xs = #[u, v, x]) (N : Env3 cenv xa xb xc foot) (elts : Elt3 prog w cenv xa xb xc elt foot writes Hold Gives href)
    (s0 s : Shared) (m : Str → Option Value) (at_ : At 0 s.heap) (ns : s.heap.Ns cenv.locals m) (since : GenSince cenv.locals writes s0 s) (still : ∀ b ∈ foot, b ∉ writes → ∀ o, href.get? b = some o → s.heap.get? b = some o) :
    Seg (model prog w) A (fun n s0 r s1 => r = .ok .next ∧ (n = 0 ∧ GenSince cenv.locals writes s0 s1)) (genProto cenv.locals foot writes allOf n Gives) (passing allOf n 0).length s0
      (.compStart (gx elt iter xa xb xc pa pb pc pt kt sc pos) 0 (.ref I) .none cenv) ((model prog w).den (.compStart (gx elt iter xa xb xc pa pb pc pt kt sc pos) 0 (.ref I) .none cenv)) [] s := by
  have calm' : (A.over (.compStart (gx elt iter xa xb xc pa pb pc pt kt sc pos) 0 (.ref I) .none cenv) []).handled = none := calm
  have loop := loop3 (iter := iter) (pa := pa) (pb := pb) (pc := pc) (pt := pt) (kt := kt) (sc := sc) (pos := pos) calm W three N elts n 0 s0 s m (Nat.sub_zero _) (Nat.zero_le _) at_ ns since still
  show Seg _ A _ _ _ s0 _ ((compStart (gx elt iter xa xb xc pa pb pc pt kt sc pos) 0 (.ref I) .none cenv).onRaise (leaving cenv)) [] s
  unfold compStart
  rw [Sem.onRaise_eq_wrap]
  show Seg _ A _ _ _ s0 _ ((ask >>= _).wrap _ _ _ _) [] s
  refine seg_bind_wrap (wpAny_askSetting ?_)
  split
  · exact seg_again rfl loop
  · first
      | exact seg_bind_wrap (wpAny_rule (seg_bind_wrap (wpAny_standAt (seg_bind_wrap ((W _ calm').self 0 s _ _ at_ (seg_again rfl loop))))))
      | (refine seg_bind_wrap (wpAny_rule ?_); show Seg _ A _ _ _ s0 _ ((standAt iter.pos >>= _).wrap _ _ _ _) [] s; exact seg_bind_wrap (wpAny_standAt (seg_bind_wrap ((W _ calm').self 0 s _ _ at_ (seg_again rfl loop)))))
theorem fresh3 {I a : Addr} {g : Nat} {foot writes : List Addr} {n : Nat} {Hold : Nat → Array Value → Prop} {At : Nat → Heap → Prop} {Mid : Nat → Addr → Heap → Prop} {cenv : Env} {Gives : Nat → Value → Prop} {s : Shared} {m : Str → Option Value}
    (calm : A.handled = none) (W : ∀ A' : Around, A'.handled = none → WalksU prog w A' I foot writes n Hold At Mid) (three : ∀ i xs, Hold i xs → ∃ u v x, xs = #[u, v, x]) (N : Env3 cenv xa xb xc foot) (elts : Elt3 prog w cenv xa xb xc elt foot writes Hold Gives s.heap)
    (isG : s.heap.IsGen a g) (state : s.gens[g]? = some (.fresh (.compStart (gx elt iter xa xb xc pa pb pc pt kt sc pos) 0 (.ref I) .none cenv))) (at_ : At 0 s.heap) (ns : s.heap.Ns cenv.locals m) (quiet : s.heap.NoLimit) : GenAt prog w A a g cenv.locals foot writes allOf n Gives 0 s :=
  ⟨isG, quiet, _, state, fun s8 al => ⟨rfl, start3 (A := A.in1) calm W three N elts s8 s8 m ((W A calm).frame _ _ _ at_ fun b hb o e => al b (List.mem_cons_of_mem _ hb) o e) (ns.at' fun o e => al _ (List.mem_cons_self ..) o e) (GenSince.refl _ _ _) fun b hb _ o e => al b (List.mem_cons_of_mem _ hb) o e⟩⟩
end
end G3

namespace G3
open PySem PySem.Spec PyProof.Rows L2 GxR GP
/-- a part: its mark, its first tin, its last -/
abbrev Part := Str × Int × Int
/-- a part where it stands -/
def PtV (H : Hp) (v : V) (p : Part) : Prop := ∃ a, v = .ref a ∧ H a = some (.tup [.str p.1, .int p.2.1, .int p.2.2])
def Pts (H : Hp) (vs : List V) (ps : List Part) : Prop := vs.length = ps.length ∧ ∀ (i : Nat) v p, vs[i]? = some v → ps[i]? = some p → PtV H v p
/-- what the machine holds of a part -/
def Is3 (p : Part) (xs : Array Value) : Prop := ∃ t1 t2 t3, xs = #[.str p.1 t1, .int p.2.1 t2, .int p.2.2 t3]
section
variable {X : Cx} {s : Shared} {H : Hp} {σ : L2.St} {pins : List (Addr × Obj)}
theorem part_in {T : Addr} {p : Part} (I : Inv X pins σ H s) (e : H T = some (.tup [.str p.1, .int p.2.1, .int p.2.2])) : ∃ xs, s.heap.IsTuple T xs ∧ Is3 p xs := by
  obtain ⟨_, its, r, t⟩ := I.hok T _ e
  cases r with
  | cons q1 r =>
    cases r with
    | cons q2 r =>
      cases r with
      | cons q3 r =>
        cases r
        obtain ⟨t1, rfl⟩ := q1
        obtain ⟨t2, rfl⟩ := q2
        obtain ⟨t3, rfl⟩ := q3
        exact ⟨_, t, t1, t2, t3, rfl⟩
theorem parts_in {vs : List V} {ps : List Part} {its : List Value} (I : Inv X pins σ H s) (hp : Pts H vs ps) (r : Vals vs its) :
    ∃ (loc : Nat → Addr) (held : Nat → Array Value), ∀ j, j < ps.length → its[j]? = some (.ref (loc j)) ∧ s.heap.IsTuple (loc j) (held j) ∧ ∃ p, ps[j]? = some p ∧ Is3 p (held j) := by
  have one : ∀ j, ∃ (T : Addr) (xs : Array Value), j < ps.length → its[j]? = some (.ref T) ∧ s.heap.IsTuple T xs ∧ ∃ p, ps[j]? = some p ∧ Is3 p xs := fun j => by
    by_cases hj : j < ps.length
    · have hv : j < vs.length := by rw [hp.1]; exact hj
      obtain ⟨T, e1, e2⟩ := hp.2 j _ _ (List.getElem?_eq_getElem hv) (List.getElem?_eq_getElem hj)
      obtain ⟨u, eu, ru⟩ := r.get (List.getElem?_eq_getElem hv)
      rw [e1] at ru
      cases ru
      obtain ⟨xs, t, h3⟩ := part_in I e2
      exact ⟨T, xs, fun _ => ⟨eu, t, _, List.getElem?_eq_getElem hj, h3⟩⟩
    · exact ⟨0, #[], fun z => absurd z hj⟩
  exact ⟨fun j => (one j).choose, fun j => (one j).choose_spec.choose, fun j hj => (one j).choose_spec.choose_spec hj⟩
/-- a walk over the parts, begun at the new iterator that o is -/
def Begun3 (X : Cx) (s : Shared) (P : Addr) (ps : List Part) (o : Obj) : Prop :=
  ∃ (foot : List Addr) (Hold : Nat → Array Value → Prop) (At : Nat → Heap → Prop) (Mid : Nat → Addr → Heap → Prop),
    (∀ A' : Around, A'.handled = none → WalksU X.prog X.w A' s.heap.objs.size foot [s.heap.objs.size] ps.length (fun j xs => j < ps.length ∧ Hold j xs) At Mid) ∧
    (∀ j xs, j < ps.length → Hold j xs → ∃ p, ps[j]? = some p ∧ Is3 p xs) ∧ At 0 (s.heap.push o) ∧ ∀ b ∈ foot, b < s.heap.objs.size + 1 ∧ b ≠ P
theorem begin_parts {a P : Addr} {vs : List V} {ps : List Part} {tb : Array Value} {Q' : Value → Shared → Prop} (I : Inv X pins σ H s) (hS : SqL X.K H a vs ∨ SqT X.K H a vs) (hp : Pts H vs ps) (hP : H P = some (.tbl tb))
    (fin : ∀ o, Begun3 X s P ps o → Q' (.ref s.heap.objs.size) { s with heap := s.heap.push o }) : wpAny (model X.prog X.w) X.A (pyIter (.ref a)) Q' X.xe s := by
  have hPo : s.heap.get? P = some { cls := .none, data := .fields tb } := I.hok P _ hP
  have notP : ∀ (b : Addr) (o : Obj) (xs : Array Value) (n : Nat), s.heap.get? b = some o → o.data = .seq xs n → b ≠ P := fun b o xs n e d z => by
    subst z
    cases hPo.symm.trans e
    cases d
  have newP : s.heap.objs.size ≠ P := (Nat.ne_of_lt (Heap.lt_size hPo)).symm
  have mk : ∀ (its : List Value) (o : Obj) (At : Nat → Heap → Prop), Vals vs its → a < s.heap.objs.size → a ≠ P → At 0 (s.heap.push o) →
      (∀ A' : Around, A'.handled = none → Walks X.prog X.w A' s.heap.objs.size [s.heap.objs.size, a] [s.heap.objs.size] its.toArray.size (fun i v => its.toArray[i]? = some v) At) →
      (∀ (A' : Around) (es : List Expr) (k : Nat) (pos : Pos) (j : Nat) (T : Addr) (s' : Shared) (Q : Unit → Shared → Prop) (E : Value → Shared → Prop), At j s'.heap → Q () s' → wpAny (model X.prog X.w) A' (letOwnedTupleGo (.Tuple es k pos) (.ref s.heap.objs.size) (.ref T)) Q E s') →
      Begun3 X s P ps o := by
    intro its o At r ha haP a0 W go
    obtain ⟨loc, held, hl⟩ := parts_in I hp r
    have ln : its.toArray.size = ps.length := by rw [List.size_toArray, ← r.length, hp.1]
    have below : ∀ m, m < ps.length → loc m < s.heap.objs.size ∧ loc m ≠ P := fun m hm => by
      obtain ⟨_, ⟨ob, e, _, n, d⟩, _⟩ := hl m hm
      exact ⟨Heap.lt_size e, notP _ _ _ _ e d⟩
    refine ⟨_, _, _, _, fun A' hA => (asTuples (ln ▸ W A' hA) loc held (fun j v hj e => ?_) (fun j hj => Nat.ne_of_lt (below j hj).1) (fun es k pos j T s' Q E => go A' es k pos j T s' Q E)).bound, fun j xs hj e => ?_, ⟨a0, fun m hm => ?_⟩, fun b hb => ?_⟩
    · have e2 : its[j]? = some v := by simpa using e
      exact (Option.some.inj ((hl j hj).1.symm.trans e2)).symm
    · obtain ⟨_, _, p, e1, e2⟩ := hl j hj
      exact ⟨p, e1, (show xs = held j from e) ▸ e2⟩
    · obtain ⟨_, ⟨ob, e, rest⟩, _⟩ := hl m hm
      exact ⟨ob, Heap.get?_push_of_some _ e, rest⟩
    · rcases List.mem_append.mp hb with z | z
      · rcases List.mem_cons.mp z with e | e
        · rw [e]; exact ⟨Nat.lt_succ_self _, newP⟩
        · rw [List.mem_singleton.mp e]; exact ⟨Nat.lt_succ_of_lt ha, haP⟩
      · obtain ⟨m, hm, e⟩ := List.mem_map.mp z
        obtain ⟨h1, h2⟩ := below m (List.mem_range.mp hm)
        exact e ▸ ⟨Nat.lt_succ_of_lt h1, h2⟩
  rcases hS with hS | hS
  · obtain ⟨its, r, hl, _⟩ := I.list hS
    obtain ⟨o, e, c, n, d⟩ := hl.isList
    refine wpAny_pyIter_list hl.isList (fin _ (mk its _ _ r (Heap.lt_size e) (notP _ _ _ _ e d) ⟨⟨_, Heap.get?_push_size _ rfl, rfl, rfl⟩, ⟨o, Heap.get?_push_of_some _ e, c, n, d⟩⟩ (fun A' hA => Walks.list hA _ a (Nat.ne_of_lt (Heap.lt_size e)) its.toArray) ?_))
    exact fun A' es k pos j T s' Q E at_ q => wpAny_letOwnedTupleGo_listiter at_.1 q
  · obtain ⟨its, r, ⟨o, e, c, n, d⟩, _⟩ := I.tuple hS
    refine wpAny_pyIter_tuple (items := its.toArray) ⟨o, e, c, n, d⟩ (fin _ (mk its _ _ r (Heap.lt_size e) (notP _ _ _ _ e d) ⟨⟨_, Heap.get?_push_size _ rfl, rfl, rfl⟩, ⟨o, Heap.get?_push_of_some _ e, c, n, d⟩⟩ (fun A' hA => Walks.tuple hA _ a (Nat.ne_of_lt (Heap.lt_size e)) its.toArray) ?_))
    exact fun A' es k pos j T s' Q E at_ q => letGo_tupleiter at_.1 q
/-- what is asked of the expression's own scope -/
structure Own3 (env : Env) (sc : Scope) (xa xb xc : Str) : Prop where
  fn : sc.kind = .function
  sync : sc.isCoroutine = false
  dot : sc.names.lookup (".0" : Str) = some .local
  ka : sc.names.lookup xa = some .local
  kb : sc.names.lookup xb = some .local
  kc : sc.names.lookup xc = some .local
  ab : xa ≠ xb
  ac : xa ≠ xc
  bc : xb ≠ xc
  noCell : ∀ y ∈ sc.names, y.2 ≠ NameKind.cell
  free : ∀ y ∈ sc.names, y.2 = NameKind.free → ∃ c, env.cells.lookup y.1 = some c
/-- the element at a part, wherever the expression runs later -/
def EltAt3 (X : Cx) (s₁ : Shared) (P : Addr) (sc : Scope) (xa xb xc : Str) (elt : Expr) (Gives : Part → Value → Prop) : Prop :=
  ∀ (L : Addr) (code : Value) (A' : Around) (E' : Value → Shared → Prop) (p : Part) (t1 t2 t3 : Tok) (s₂ : Shared) (m : Str → Option Value), A'.handled = none →
    (∀ x o, x ≠ P → s₁.heap.get? x = some o → s₂.heap.get? x = some o) → s₂.heap.Ns L m → m xa = some (.str p.1 t1) → m xb = some (.int p.2.1 t2) → m xc = some (.int p.2.2 t3) →
    wpAny (model X.prog X.w) A' (eval elt (genEnv sc (cloFrom X.env.cells sc.names []) L code builtinsNs X.env)) (fun y s₃ => Gives p y ∧ Keeps s₂ s₃) E' s₂
/-- the generator at g before its first item -/
def Fresh3 (X : Cx) (pins : List (Addr × Obj)) (σ : L2.St) (H₁ : Hp) (P : Addr) (ps : List Part) (Gives : Part → Value → Prop) (g : Addr) (s₅ : Shared) : Prop :=
  ∃ (foot writes : List Addr) (Gens : Array GenState → Array GenState → Prop) (Item : Nat → Value → Prop) (At : Nat → Shared → Prop),
    (WalksS X.prog X.w X.A.in1 g foot writes Gens ps.length Item At ∧ At 0 s₅ ∧ ∀ b ∈ foot, b < s₅.heap.objs.size) ∧
    (∀ j v, Item j v → ∃ p, ps[j]? = some p ∧ Gives p v) ∧ ∀ s₆, Moved writes Gens s₅ s₆ → ∃ H₂, Tabbed P H₁ H₂ ∧ Inv X pins σ H₂ s₆
theorem made3 {c P : Addr} {elt iter : Expr} {xa xb xc : Str} {pa pb pc pt gpos : Pos} {kt : Nat} {sc : Scope} {te : TE} {k : Nat} {Q' : Value → Shared → Prop} {Want : List Part → Hp → Prop} {Gives : Part → Value → Prop}
    (room : Room k X.A) (TB : TabB X.base X.mg c P) (hcode : X.env.code = .ref c) (own : Own3 X.env sc xa xb xc) (walked : PE X iter te) (plain : ∀ v, genFold iter X.env v = pure v) (I : Inv X pins σ H s)
    (each : ∀ s₁ H₁, Inv X pins σ H₁ s₁ → TabG H₁ P → EltAt3 X s₁ P sc xa xb xc elt Gives)
    (h : te σ H fun v H₁ => ∃ (a : Addr) (vs : List V) (ps : List Part), v = .ref a ∧ (SqL X.K H₁ a vs ∨ SqT X.K H₁ a vs) ∧ Pts H₁ vs ps ∧ TabG H₁ P ∧ Want ps H₁)
    (fin : ∀ ps H₁ g s₅, Want ps H₁ → Fresh3 X pins σ H₁ P ps Gives g s₅ → Q' (.ref g) s₅) :
    wpAny (model X.prog X.w) X.A (eval (gx elt iter xa xb xc pa pb pc pt kt sc gpos) X.env) Q' X.xe s := by
  have deep : X.A.depth < recursionLimit := by have := room.dp; omega
  refine wpAny_GeneratorExp_make own.sync (closure_ok own.free) own.noCell own.dot own.fn deep (thn (walked.run pins s σ H _ I h) fun u s₁ had => ?_) plain
  obtain ⟨_, H₁, I₁, rel, a, vs, ps, rfl, hS, hp, ⟨tb, hP, ok⟩, want⟩ := had
  cases rel
  have tabAt : s₁.heap.get? P = some { cls := .none, data := .fields tb } := I₁.hok P _ hP
  refine begin_parts I₁ hS hp hP fun o beg => ?_
  obtain ⟨foot, Hold, At, Mid, W, holds, at0, low⟩ := beg
  have statics : cStatics < s₁.heap.objs.size ∧ cStatics ≠ P := by
    obtain ⟨_, ns, _⟩ := I₁.nolimit
    refine ⟨ns.lt, fun z => ?_⟩
    obtain ⟨ob, _, _, e, d, _⟩ := ns
    rw [z] at e
    cases tabAt.symm.trans e
    cases d
  have quiet : (s₁.heap.push o).NoLimit := I₁.nolimit.push o
  refine ⟨quiet, code_there hcode (TB.code.keeps fun b u e => Heap.get?_push_of_some _ (I₁.bk b u e)) (Heap.get?_push_of_some _ tabAt) ok fun code h₃ tk more ext le tab₃ ok₃ => ?_⟩
  rw [Heap.size_push] at le
  have stays : ∀ b u, b ≠ P → s₁.heap.get? b = some u → h₃.get? b = some u := fun b u hb e => ext b u hb (Heap.get?_push_of_some _ e)
  obtain ⟨bm, ob, f1, f2, f3, f4, f5, f6, f7, f8⟩ := TB.bm
  have globals : Heap.Ns h₃ X.env.globals X.mg := by
    rw [I₁.ok.glob]
    exact ((I₁.mod.glob.keeps I₁.bk).push o).extBut ext TB.gP
  refine wpAny_builtinsFor (m := X.mg) globals f1 f2 (stays bm ob f4 (I₁.bk bm ob f5)) f6 f7 f8 ?_
  have later : ∀ b u, s₁.heap.get? b = some u → b ∉ [h₃.objs.size, s₁.heap.objs.size] := fun b u e z => by
    have lt := Heap.lt_size e
    rcases List.mem_cons.mp z with z' | z'
    · exact Nat.lt_irrefl _ (Nat.lt_of_lt_of_le (z' ▸ lt) (Nat.le_of_succ_le le))
    · exact Nat.lt_irrefl _ (List.mem_singleton.mp z' ▸ lt)
  -- the frame of the expression is laid
  intro h' hn' hs'
  have size' : h'.objs.size = h₃.objs.size + 1 := by rw [hs'.1, Heap.size_push]
  have keep' : ∀ b u, h₃.get? b = some u → h'.get? b = some u := fun b u e => hs'.extBut b u (Nat.ne_of_lt (Heap.lt_size e)) (Heap.get?_push_of_some _ e)
  have quiet3 : h₃.NoLimit := quiet.extBut ext statics.2
  have inR : ∀ b ∈ foot, b ∈ List.range h₃.objs.size := fun b hb => List.mem_range.mpr (Nat.lt_of_lt_of_le (low b hb).1 le)
  have wr : ∀ b ∈ [s₁.heap.objs.size], b ∈ List.range h₃.objs.size := fun b hb => by rw [List.mem_singleton.mp hb]; exact List.mem_range.mpr le
  have cl : cStatics < h₃.objs.size := Nat.lt_of_lt_of_le statics.1 (Nat.le_of_succ_le le)
  have keep₅ : ∀ b u, h₃.get? b = some u → (h'.push { cls := .type "generator", data := .fields #[.int s₁.gens.size 0, .str "<genexpr>" (tk + 1), .str (X.env.qual ++ "<genexpr>") (tk + 1 + 1)] }).get? b = some u := fun b u e => Heap.get?_push_of_some _ (keep' b u e)
  let F : Nat → Value → Prop := fun i y => i < ps.length → ∃ p, ps[i]? = some p ∧ Gives p y
  have W₅ := WalksS.genexpQ (prog := X.prog) (w := X.w) (A := X.A.in4) room.hd h'.objs.size s₁.gens.size h₃.objs.size (List.range h₃.objs.size) [s₁.heap.objs.size] allOf ps.length F (by rw [size']; exact Nat.succ_ne_self _) (fun z => by have := List.mem_range.mp z; omega) wr deep (List.mem_range.mpr cl) (Nat.ne_of_lt cl) (fun z => Nat.ne_of_lt statics.1 (List.mem_singleton.mp z))
  rw [GxR.passing_true, List.length_range] at W₅
  have W' : ∀ A' : Around, A'.handled = none → WalksU X.prog X.w A' s₁.heap.objs.size (List.range h₃.objs.size) [s₁.heap.objs.size] ps.length (fun j xs => j < ps.length ∧ Hold j xs) At Mid := fun A' hA => (W A' hA).mono_fp inR
  have at5 : At 0 (h'.push { cls := .type "generator", data := .fields #[.int s₁.gens.size 0, .str "<genexpr>" (tk + 1), .str (X.env.qual ++ "<genexpr>") (tk + 1 + 1)] }) := (W X.A room.hd).frame _ _ _ at0 fun b hb u e => keep₅ b u (ext b u (low b hb).2 e)
  have N3 : Env3 (genEnv sc (cloFrom X.env.cells sc.names []) h₃.objs.size code builtinsNs X.env) xa xb xc (List.range h₃.objs.size) := ⟨own.ka, own.kb, own.kc, own.ab, own.ac, own.bc, by simp [genEnv, own.fn], own.sync, fun z => Nat.lt_irrefl _ (List.mem_range.mp z)⟩
  have E3 : Elt3 X.prog X.w (genEnv sc (cloFrom X.env.cells sc.names []) h₃.objs.size code builtinsNs X.env) xa xb xc elt (List.range h₃.objs.size) [s₁.heap.objs.size] (fun j xs => j < ps.length ∧ Hold j xs) F (h'.push { cls := .type "generator", data := .fields #[.int s₁.gens.size 0, .str "<genexpr>" (tk + 1), .str (X.env.qual ++ "<genexpr>") (tk + 1 + 1)] }) := by
    intro A' E' i u v x s₂ m calm hx ns ea eb ec still
    obtain ⟨p, ep, t1, t2, t3, e⟩ := holds i _ hx.1 hx.2
    obtain rfl : u = .str p.1 t1 := by have z := congrArg (·[0]?) e; simpa using z
    obtain rfl : v = .int p.2.1 t2 := by have z := congrArg (·[1]?) e; simpa using z
    obtain rfl : x = .int p.2.2 t3 := by have z := congrArg (·[2]?) e; simpa using z
    refine wpAny_mono (each s₁ H₁ I₁ ⟨tb, hP, ok⟩ _ code A' E' p t1 t2 t3 s₂ m calm (fun b o hb q => ?_) ns ea eb ec) (fun y s₃ r => ⟨fun _ => ⟨p, ep, r.1⟩, r.2⟩) fun _ _ q => q
    have q3 := stays b o hb q
    exact still b (List.mem_range.mpr (Heap.lt_size q3)) (fun z => later b o q (List.mem_cons_of_mem _ z)) o (keep₅ b o q3)
  refine fin ps H₁ h'.objs.size _ want ⟨_, _, _, _, _, ⟨W₅.in4_1, fresh3 (A := X.A.in4) (pa := pa) (pb := pb) (pc := pc) (pt := pt) (kt := kt) (sc := sc) (pos := gpos) (iter := iter) (m := fun y => if y = ".0" then some (.ref s₁.heap.objs.size) else none) room.hd W' (fun i xs hx => ?_) N3 E3 ⟨_, _, _, Heap.get?_push_size _ rfl, rfl, rfl, rfl⟩ (Array.getElem?_push_size ..) at5 (hn'.push _) (quiet3.keeps keep₅), fun b hb => ?_⟩, fun j v it => ?_, fun s₆ mv => ?_⟩
  · obtain ⟨p, _, t1, t2, t3, e⟩ := holds i xs hx.1 hx.2
    exact ⟨_, _, _, e⟩
  · show b < (h'.push _).objs.size
    rw [Heap.size_push, size']
    rcases List.mem_cons.mp hb with e | e
    · rw [e, size']; exact Nat.lt_succ_self _
    · rcases List.mem_cons.mp e with e' | e'
      · rw [e']; exact Nat.lt_succ_of_lt (Nat.lt_succ_self _)
      · exact Nat.lt_succ_of_lt (Nat.lt_succ_of_lt (List.mem_range.mp e'))
  · obtain ⟨i, ei, hg⟩ := it
    have lt : j < ps.length := by
      have z := (List.getElem?_eq_some_iff.mp ei).1
      rwa [List.length_range] at z
    rw [List.getElem?_range lt] at ei
    cases ei
    exact hg lt
  · have all : ∀ b u, b ≠ P → s₁.heap.get? b = some u → s₆.heap.get? b = some u := fun b u hb e => mv.heap b u (later b u e) (keep₅ b u (stays b u hb e))
    have tab₆ := mv.heap P _ (later P _ tabAt) (keep₅ P _ tab₃)
    have J := inv_tab (more := more) (d' := s₆.drawn) (t' := s₆.toks) I₁ hP all tab₆ (AllBare.movedS (I₁.bare.push rfl) mv)
    rw [sh_eta s₁ s₆ mv.os] at J
    exact ⟨_, ⟨⟨tb ++ more, upd_same, ok₃⟩, fun b hb => upd_ne hb⟩, J⟩
/-- the sum of g over the parts -/
def sum3 (g : Part → Int) (ps : List Part) : Int := (ps.map g).sum
theorem preSum3 (g : Part → Int) (ps : List Part) (val : Nat → Int) (h : ∀ i p, ps[i]? = some p → val i = g p) : ∀ n, n ≤ ps.length → preSum val n = sum3 g (ps.take n)
  | 0, _ => rfl
  | n + 1, hn => by
    have e : ps[n]? = some ps[n] := List.getElem?_eq_getElem hn
    show preSum val n + val n = _
    rw [preSum3 g ps val h n (by omega), h n _ e]
    unfold sum3
    rw [List.take_add_one, e, List.map_append, List.sum_append]
    show _ = _ + (g ps[n] + 0)
    rw [Int.add_zero]
def tSum3 (K : PySem.W.Frag) (P : Addr) (g : Part → Int) (te : TE) : TE := fun σ H Q => te σ H fun v H₁ => ∃ (a : Addr) (vs : List V) (ps : List Part), v = .ref a ∧ (SqL K H₁ a vs ∨ SqT K H₁ a vs) ∧ Pts H₁ vs ps ∧ TabG H₁ P ∧ ∀ H₂, Tabbed P H₁ H₂ → Q (.int (sum3 g ps)) H₂
theorem pe_sum3 {c P : Addr} {elt iter : Expr} {xa xb xc : Str} {pa pb pc pt p pos gpos : Pos} {kt : Nat} {sc : Scope} {g : Part → Int} {te : TE} {k : Nat}
    (room : Room k X.A) (glob : Gl X "sum") (free : X.mg "sum" = none) (TB : TabB X.base X.mg c P) (hcode : X.env.code = .ref c) (own : Own3 X.env sc xa xb xc) (walked : PE X iter te)
    (each : ∀ s₁, EltAt3 X s₁ P sc xa xb xc elt (fun p y => ∃ t, y = .int (g p) t)) (plain : ∀ v, genFold iter X.env v = pure v)
    (one : starEach [gx elt iter xa xb xc pa pb pc pt kt sc gpos] X.env = [(false, eval (gx elt iter xa xb xc pa pb pc pt kt sc gpos) X.env)] := by rfl) :
    PE X (.Call (.Name "sum" p) [gx elt iter xa xb xc pa pb pc pt kt sc gpos] [] pos) (tSum3 X.K P g te) := by
  constructor
  intro pins s σ H Q I h
  refine wpAny_Call_Name_kw (ld_blt I glob free (show bootBuiltins "sum" = some (.builtin "sum") by decide +kernel) (callWith_builtin1 ?_ one (by rfl)) (by decide) (by decide))
  rw [one]
  refine Calls.spliced_cons (made3 (Want := fun ps H₁ => ∀ H₂, Tabbed P H₁ H₂ → Q (.int (sum3 g ps)) H₂) (Gives := fun p y => ∃ t, y = .int (g p) t) room TB hcode own walked plain I (fun s₁ H₁ _ _ => each s₁) h fun ps H₁ gen s₅ want fresh => Calls.spliced_nil ?_)
  obtain ⟨foot, writes, Gens, Item, At, ⟨W, a0, low⟩, items, behind⟩ := fresh
  let val : Nat → Int := fun i => (ps[i]?.map g).getD 0
  have hv : ∀ i p, ps[i]? = some p → val i = g p := fun i p e => by show (ps[i]?.map _).getD 0 = _; rw [e]; rfl
  refine call_sum_walkAnyS (W.self 0 _ _ _ a0 ⟨gen, foot, writes, Gens, ps.length, Item, At, val, rfl, W, a0, low, fun i v it => ?_, fun s₆ t mv => ?_⟩)
  · obtain ⟨p, e, t, ev⟩ := items i v it
    exact ⟨t, by rw [hv i p e]; exact ev⟩
  · obtain ⟨H₂, tabbed, J⟩ := behind s₆ mv
    refine ⟨.int (preSum val ps.length), H₂, J, ⟨t, rfl⟩, ?_⟩
    rw [preSum3 g ps val hv ps.length (Nat.le_refl _), List.take_length]
    exact want H₂ tabbed
end
end G3

/-! ### parts and packings -/
open G3
theorem log_lt {i : Int} (h : i.natAbs < 2 ^ 400) : i.natAbs.log2 < 400 := PySem.Flt.log2_lt_of (by decide) h
def SqH (H : Hp) (a : Addr) (xs : List V) : Prop := H a = some (.lst xs) ∨ H a = some (.tup xs)
theorem SqH.sq {K : PySem.W.Frag} {H : Hp} {a : Addr} {xs : List V} (h : SqH H a xs) : Sq K H a xs := h.elim Sq.list Sq.tup
theorem SqH.same {H H' : Hp} {a : Addr} {xs : List V} (h : SqH H a xs) (s : Same H H') : SqH H' a xs := h.imp (s _ _) (s _ _)
theorem SqH.kp {H H' : Hp} {d c a : Addr} {t : Int} {xs : List V} (h : SqH H a xs) (S : StAt H d c t) (k : Kp d c H H') (n : NoInt xs) : SqH H' a xs := h.imp (fun e => k.lst S e n) (fun e => k.tup S e)
theorem SqH.tab {Pt : Addr} {H H2 : Hp} {a : Addr} {xs : List V} (h : SqH H a xs) (g : GxR.TabG H Pt) (x : GxR.Tabbed Pt H H2) : SqH H2 a xs := h.imp (fun e => tab_at g x e (fun _ z => nomatch z)) (fun e => tab_at g x e (fun _ z => nomatch z))
theorem getElem?_app {α β : Type} {xs ys : List α} {us ws : List β} (l : xs.length = us.length) {i : Nat} {x : α} {u : β} (e1 : (xs ++ ys)[i]? = some x) (e2 : (us ++ ws)[i]? = some u) : (xs[i]? = some x ∧ us[i]? = some u) ∨ (ys[i - xs.length]? = some x ∧ ws[i - xs.length]? = some u) := by
  by_cases hi : i < xs.length
  · rw [List.getElem?_append_left hi] at e1
    rw [List.getElem?_append_left (by omega)] at e2
    exact .inl ⟨e1, e2⟩
  · rw [List.getElem?_append_right (by omega)] at e1 e2
    rw [← l] at e2
    exact .inr ⟨e1, e2⟩
theorem Pts.mono {H H' : Hp} {vs : List V} {ps : List Part} (h : Pts H vs ps) (m : ∀ v p, p ∈ ps → PtV H v p → PtV H' v p) : Pts H' vs ps := ⟨h.1, fun i v p e1 e2 => m v p (List.mem_of_getElem? e2) (h.2 i v p e1 e2)⟩
theorem PtV.same {H H' : Hp} {v : V} {p : Part} (h : PtV H v p) (s : Same H H') : PtV H' v p := let ⟨a, e, r⟩ := h; ⟨a, e, s _ _ r⟩
theorem Pts.same {H H' : Hp} {vs : List V} {ps : List Part} (h : Pts H vs ps) (s : Same H H') : Pts H' vs ps := Pts.mono h fun _ _ _ q => PtV.same q s
theorem PtV.kp {H H' : Hp} {d c : Addr} {t : Int} {v : V} {p : Part} (h : PtV H v p) (S : StAt H d c t) (k : Kp d c H H') : PtV H' v p := let ⟨a, e, r⟩ := h; ⟨a, e, k.tup S r⟩
theorem Pts.kp {H H' : Hp} {d c : Addr} {t : Int} {vs : List V} {ps : List Part} (h : Pts H vs ps) (S : StAt H d c t) (k : Kp d c H H') : Pts H' vs ps := Pts.mono h fun _ _ _ q => PtV.kp q S k
theorem Pts.tab {Pt : Addr} {H H2 : Hp} {vs : List V} {ps : List Part} (h : Pts H vs ps) (g : GxR.TabG H Pt) (x : GxR.Tabbed Pt H H2) : Pts H2 vs ps := Pts.mono h fun _ _ _ ⟨a, e, r⟩ => ⟨a, e, tab_at g x r (fun _ z => nomatch z)⟩
theorem Pts.upd_lst {H : Hp} {l : Addr} {xs : List V} {o : HO} {vs : List V} {ps : List Part} (h : Pts H vs ps) (hl : H l = some (.lst xs)) : Pts (upd H l o) vs ps := Pts.mono h fun _ _ _ ⟨a, e, r⟩ => ⟨a, e, by rw [upd_ne (ne_of r hl (fun z => nomatch z))]; exact r⟩
theorem Pts.nil {H : Hp} : Pts H [] [] := ⟨rfl, fun _ _ _ e => nomatch e⟩
theorem Pts.app {H : Hp} {vs ws : List V} {ps qs : List Part} (h : Pts H vs ps) (h' : Pts H ws qs) : Pts H (vs ++ ws) (ps ++ qs) :=
  ⟨by rw [List.length_append, List.length_append, h.1, h'.1], fun i v p e1 e2 => (getElem?_app h.1 e1 e2).elim (fun z => h.2 i v p z.1 z.2) (fun z => h'.2 _ v p z.1 z.2)⟩
theorem Pts.one {H : Hp} {v : V} {p : Part} (h : PtV H v p) : Pts H [v] [p] := ⟨rfl, fun i u q e1 e2 => by
  have hi : i < 1 := (List.getElem?_eq_some_iff.mp e1).1
  obtain rfl : i = 0 := by omega
  cases e1
  cases e2
  exact h⟩
theorem Pts.at {H : Hp} {vs : List V} {ps : List Part} {i : Nat} {v : V} (h : Pts H vs ps) (e : vs[i]? = some v) : ∃ p, ps[i]? = some p ∧ PtV H v p := by
  have hi : i < ps.length := by rw [← h.1]; exact (List.getElem?_eq_some_iff.mp e).1
  exact ⟨_, List.getElem?_eq_getElem hi, h.2 i v _ e (List.getElem?_eq_getElem hi)⟩
theorem Pts.noInt {H : Hp} {vs : List V} {ps : List Part} (h : Pts H vs ps) : NoInt vs := fun x hx i e => by
  obtain ⟨j, hj, e1⟩ := List.getElem_of_mem hx
  obtain ⟨p, _, a, rfl, _⟩ := Pts.at h (by rw [List.getElem?_eq_getElem hj, e1])
  cases e
/-- where a packing stands -/
def PkA (H : Hp) (b : Addr) (nm : Str) (sz : Int) (ps : List Part) : Prop := ∃ a us, H b = some (.tup [.str nm, .int sz, .ref a]) ∧ SqH H a us ∧ Pts H us ps
theorem PkA.same {H H' : Hp} {b : Addr} {nm : Str} {sz : Int} {ps : List Part} (h : PkA H b nm sz ps) (s : Same H H') : PkA H' b nm sz ps := let ⟨a, us, e, h1, h2⟩ := h; ⟨a, us, s _ _ e, h1.same s, Pts.same h2 s⟩
theorem PkA.kp {H H' : Hp} {d c b : Addr} {t : Int} {nm : Str} {sz : Int} {ps : List Part} (h : PkA H b nm sz ps) (S : StAt H d c t) (k : Kp d c H H') : PkA H' b nm sz ps := let ⟨a, us, e, h1, h2⟩ := h; ⟨a, us, k.tup S e, h1.kp S k (Pts.noInt h2), Pts.kp h2 S k⟩
theorem PkA.tab {Pt : Addr} {H H2 : Hp} {b : Addr} {nm : Str} {sz : Int} {ps : List Part} (h : PkA H b nm sz ps) (g : GxR.TabG H Pt) (x : GxR.Tabbed Pt H H2) : PkA H2 b nm sz ps := let ⟨a, us, e, h1, h2⟩ := h; ⟨a, us, tab_at g x e (fun _ z => nomatch z), h1.tab g x, Pts.tab h2 g x⟩
def Okp (p : Part) : Prop := PyData.strOk p.1 = true ∧ 0 ≤ p.2.1 ∧ p.2.1 ≤ p.2.2 ∧ p.2.2 ≤ 10 ^ 40
def cntP (p : Part) : Int := p.2.2 - p.2.1 + 1
def cntF (ps : List Part) : Int := sum3 cntP ps
theorem cntF_snoc (ps : List Part) (p : Part) : cntF (ps ++ [p]) = cntF ps + cntP p := by
  unfold cntF sum3
  rw [List.map_append, List.sum_append]
  show _ + (cntP p + 0) = _
  rw [Int.add_zero]
theorem take_snoc {α : Type} {l : List α} {i : Nat} {x : α} (e : l[i]? = some x) : l.take (i + 1) = l.take i ++ [x] := by rw [List.take_add_one, e]; rfl
theorem cntF_cons (p : Part) (ps : List Part) : cntF (p :: ps) = cntP p + cntF ps := by unfold cntF sum3; rw [List.map_cons, List.sum_cons]
theorem cntF_bound : ∀ {ps : List Part}, (∀ p ∈ ps, Okp p) → 0 ≤ cntF ps ∧ cntF ps ≤ (10 ^ 40 + 1) * (ps.length : Int)
  | [], _ => ⟨Int.le_refl _, by show (0 : Int) ≤ _; simp⟩
  | p :: r, h => by
    obtain ⟨h1, h2⟩ := cntF_bound (ps := r) fun q hq => h q (List.mem_cons_of_mem _ hq)
    obtain ⟨_, g1, g2, g3⟩ := h p (List.mem_cons_self ..)
    rw [cntF_cons, List.length_cons]
    unfold cntP
    omega
/-- what a case has of a part whose first tin stands at this spot -/
def rowF (sz cs sp : Int) (p : Part) : Option Part :=
  let lo := if cs * sz - (sp - p.2.1) > p.2.1 then cs * sz - (sp - p.2.1) else p.2.1
  let hi := if cs * sz + sz - 1 - (sp - p.2.1) < p.2.2 then cs * sz + sz - 1 - (sp - p.2.1) else p.2.2
  if lo ≤ hi then some (p.1, lo, hi) else none
def rowsG (sz cs : Int) : Int → List Part → List Part
  | _, [] => []
  | sp, p :: r => (rowF sz cs sp p).toList ++ rowsG sz cs (sp + cntP p) r
theorem rowsG_snoc (sz cs : Int) : ∀ (sp : Int) (ps : List Part) (p : Part), rowsG sz cs sp (ps ++ [p]) = rowsG sz cs sp ps ++ (rowF sz cs (sp + cntF ps) p).toList
  | sp, [], p => by
    show (rowF sz cs sp p).toList ++ [] = [] ++ (rowF sz cs (sp + 0) p).toList
    rw [List.append_nil, Int.add_zero]
    rfl
  | sp, q :: r, p => by
    show (rowF sz cs sp q).toList ++ rowsG sz cs (sp + cntP q) (r ++ [p]) = _
    rw [rowsG_snoc sz cs (sp + cntP q) r p, cntF_cons, ← List.append_assoc, Int.add_assoc]
    rfl
theorem rowsG_len (sz cs : Int) : ∀ (sp : Int) (ps : List Part), (rowsG sz cs sp ps).length ≤ ps.length
  | sp, [] => Nat.le_refl _
  | sp, q :: r => by
    have := rowsG_len sz cs (sp + cntP q) r
    have h : (rowF sz cs sp q).toList.length ≤ 1 := by
      cases rowF sz cs sp q
      · exact Nat.zero_le _
      · exact Nat.le_refl _
    show ((rowF sz cs sp q).toList ++ rowsG sz cs (sp + cntP q) r).length ≤ r.length + 1
    rw [List.length_append]
    omega
def spotsF (ps : List Part) (i : Nat) : List Int := (List.range i).map fun j => cntF (ps.take j)
theorem spotsF_snoc (ps : List Part) (i : Nat) : spotsF ps (i + 1) = spotsF ps i ++ [cntF (ps.take i)] := by unfold spotsF; rw [List.range_succ, List.map_append]; rfl

/-! ### defs that are called while nothing is being shown: str of lists within lists -/
/-- a def keeps its promise where nothing is being shown -/
structure FnG (P : Program) (w : World) (K : PySem.W.Frag) (mg : Str → Option Value) (base : Heap) (CX : CXT) (k : Nat) (f : Addr) (fd : FuncData) (ps : List Str) (sp : Sp) : Prop where
  len : ∀ (vs : List V) (H : Hp) (Q : VK) (E : XK), sp vs H Q E → vs.length = ps.length
  run : ∀ (A : Around) (outer : List Env) (s : Shared) (H : Hp) (args : Args) (us : List Value) (vs : List V) (Q : VK) (E : XK), A.guards = some [] → Room k A → Env0 P w K mg base A outer s H → BindsTo s fd args (ps.zip us) → Vals vs us → sp vs H Q E → codeAny (model P w) A (Code.call (Value.ref f) args) (CR CX outer P w H s Q E) s
section
variable {CX : CXT} {P : Program} {w : World} {K : PySem.W.Frag} {mg : Str → Option Value} {base : Heap} {k : Nat}
theorem FnG.of {f : Addr} {fd : FuncData} {ps : List Str} {sp : Sp} (F : FnOk P w K mg base CX k f fd ps sp) : FnG P w K mg base CX k f fd ps sp :=
  ⟨F.len, fun A outer s H args us vs Q E _ hr e0 hb r hsp => F.run A outer s H args us vs Q E hr e0 hb r hsp⟩
theorem fn_ofG {f : Addr} {name qual : Str} {params : Arguments} {body : List Stmt} {scope : Scope} {dV kV doc pm cdv ct oc : Value} {an od : Option Addr} {osl : Array (Option Value)} {N ps : List Str} {sp : Sp}
    (lk : List.lookup f K = some { cls := oc, dict := od, data := Data.func (PySem.W.fnOf name qual params body scope dV kV doc pm an cdv ct), slots := osl }) (hcd : PySem.W.codeIn K cdv qual = true) (S : FnScope N ps scope)
    (len : ∀ (vs : List V) (H : Hp) (Q : VK) (E : XK), sp vs H Q E → vs.length = ps.length)
    (hbody : ∀ (A : Around) (outer : List Env) (s : Shared) (H : Hp) (vs : List V) (Q : VK) (E : XK), A.guards = some [] → Room k (A.deeper (PyProof.Rows.envOfC qual scope s.heap.objs.size f cdv)) → sp vs H Q E →
      ∃ t, PSs (cxOf CX P w K mg base N qual scope f cdv A outer s H E) body t ∧ t { nx := fun _ H' => Q V.non H', rt := Q } (L2.start N vs) H) :
    FnG P w K mg base CX (k + 1) f (PySem.W.fnOf name qual params body scope dV kV doc pm an cdv ct) ps sp := by
  refine ⟨len, fun A outer s H args us vs Q E hgd hr e0 hb r hsp => ?_⟩
  have hl := len vs H Q E hsp
  have KX := PySem.W.Frag.In.keeps e0.mod.kin fun b o e => (e0.bs b o e).1
  have lim := Heap.NoLimit.keeps e0.mod.nolimit fun b o e => (e0.bs b o e).1
  refine codeAny_call_function (Room.depth hr) (KX f _ lk) rfl S.co S.gen rfl (PySem.W.codeRec_of KX hcd) (hb (model P w) A.in1 _ _ (wpAny_newFunctionEnv_cells S.kind (fun x hy => ?_) fun env he s1 x => ?_))
  · obtain ⟨n, v⟩ := x
    rcases S.par n (List.of_mem_zip hy).1 with q | q
    · exact .inl q
    · exact .inr ⟨q, PySem.W.cellsFrom_some scope.names _ [] (.inl q)⟩
  · subst he
    refine ⟨Heap.NoLimit.keeps lim x.toInCall.keep, codeAny_func ?_⟩
    obtain ⟨t, ht, hq⟩ := hbody A outer s H vs Q E hgd (Room.deeper hr _) hsp
    have I := inv_start (CX := CX) (E := E) S hr.hd e0 hl r x
    refine wpAny_mono (ht.run [] s1 (L2.start N vs) H _ I hq) (fun fl s' hs => ?_) (fun e s' hs => hs)
    cases fl with
    | ret u =>
      obtain ⟨v, σ', H', J, rv, q⟩ := hs
      exact ⟨v, H', J.os, J.bare, J.base, J.hok, rv, q⟩
    | next =>
      obtain ⟨σ', H', J, q⟩ := hs
      exact ⟨V.non, H', J.os, J.bare, J.base, J.hok, rfl, q⟩
    | _ =>
      obtain ⟨_, _, _, q⟩ := hs
      exact q.elim
theorem Fun_okG {x qual : Str} {st : Stmt} {f : Addr} {fd : FuncData} {N ps : List Str} {sp : Sp} (F : Fun K x qual st f fd) (S : FnScope N ps (defScope st))
    (len : ∀ (vs : List V) (H : Hp) (Q : VK) (E : XK), sp vs H Q E → vs.length = ps.length)
    (hbody : ∀ (cdv : Value) (A : Around) (outer : List Env) (s : Shared) (H : Hp) (vs : List V) (Q : VK) (E : XK), A.guards = some [] → Room k (A.deeper (PyProof.Rows.envOfC qual (defScope st) s.heap.objs.size f cdv)) → sp vs H Q E →
      ∃ t, PSs (cxOf CX0 P w K mg base N qual (defScope st) f cdv A outer s H E).nox (defBody st) t ∧ t { nx := fun _ H' => Q V.non H', rt := Q } (L2.start N vs) H) :
    FnG P w K mg base CX0 (k + 1) f fd ps sp := by
  obtain ⟨oc, od, kV, doc, pm, an, cdv, ct, osl, rfl, lk, hcd⟩ := F.ex
  refine fn_ofG lk hcd S len fun A outer s H vs Q E hg hr hsp => ?_
  obtain ⟨t, h, q⟩ := hbody cdv A outer s H vs Q E hg hr hsp
  exact ⟨t, PSs.nox h, q⟩
end
theorem run_fnG {X : Cx} {CX : CXT} {k : Nat} {f : Addr} {fd : FuncData} {ps : List Str} {sp : Sp} {dvs : List V} {ds : List Value} {E : XK} {pins : List (Addr × Obj)} {σ : L2.St} {H : Hp} {s : Shared} {Q : VK} {us : List Value} {vs : List V}
    (F : FnG X.prog X.w X.K X.mg X.base CX k f fd ps sp) (hgd : X.A.guards = some []) (hr : Room k X.A) (hb : Binds X.K fd ps ds) (hd : Vals dvs ds) (hx : Passes CX X E) (I : L2.Inv X pins σ H s) (r : Vals vs us) (h : sp (vs ++ dvs) H Q E) :
    wpAny (model X.prog X.w) X.A (call (Value.ref f) us) (EP X pins σ Q) X.xe s := by
  have r2 := Vals.append r hd
  have hl : (us ++ ds).length = ps.length := by rw [← Vals.length r2]; exact F.len _ _ _ _ h
  refine wpAny_call (codeAny_mono (F.run X.A X.stack s H _ _ _ Q E hgd hr (Inv.env0 I) (hb s us (Inv.kIn I) hl) r2 h) fun r s' hq => ?_)
  cases r with
  | error e => exact hx pins σ H s e s' I hq
  | ok fl =>
    cases fl with
    | ret u => exact Inv.after I hq
    | _ => exact hq.elim
/-- a def of the text that keeps a promise where nothing is being shown, as its callers see it -/
def CalG (P : Program) (w : World) (K : PySem.W.Frag) (mg : Str → Option Value) (base : Heap) (k : Nat) (x : Str) (ps : List Str) (sp : Sp) : Prop :=
  ∃ f fd, FnG P w K mg base CX0 k f fd ps sp ∧ mg x = some (.ref f) ∧ PySem.W.keepIn K (.ref f) = true ∧ Binds K fd ps []
theorem pe_ownG {X : Cx} {k : Nat} {x : Str} {ps : List Str} {sp : Sp} {e : Expr} {es : List Expr} {t : TA} {p pos : Pos} (C : CalG X.prog X.w X.K X.mg X.base k x ps sp) (hgd : X.A.guards = some []) (hr : Room k X.A) (hg : Gl X x) (ha : PA X (e :: es) t)
    (dbg : (x == ("__debug__" : Str)) = false := by decide) (one : starEach (e :: es) X.env = (false, eval e X.env) :: starEach es X.env := by rfl) (star : (backTo pos (starEach es X.env)).any (·.1) = false := by rfl) :
    PE X (.Call (.Name x p) (e :: es) [] pos) (tCall sp [] E0 t) := by
  obtain ⟨f, fd, F, hm, hk, hb⟩ := C
  refine ⟨fun pins s σ H Q I h => wpAny_Call_Name_kw (ld_glob I hg hm (PySem.W.callWith_K I.ok.mod.kin hk (thn (ha.run pos pins s σ H _ I h) fun us s1 z => ?_) one star) dbg)⟩
  obtain ⟨vs, H1, I1, r, q⟩ := z
  exact ⟨Inv.kIn I1, run_fnG F hgd hr hb .nil pass0 I1 r q⟩
/-- str of data -/
def rStrD (K : PySem.W.Frag) : List V → Hp → VK → Prop := fun xs H Q => ∃ (a : Addr) (d : PyData), xs = [.ref a] ∧ Dp K H (.ref a) d ∧ d.showable = true ∧ d.hasDict = false ∧ d.depth ≤ 8 ∧ d.shown.length ≤ sizeLine ∧ Q (.str d.shown) H
theorem cr_strD {X : Cx} (hg : X.A.guards = some []) (hu : X.A.units + 11 < cLine) : CallR X (.type "str") (rStrD X.K) := fun pins s σ H xs us Q I hv h => by
  obtain ⟨a, d, rfl, hd, h1, h2, h3, h4, q⟩ := h
  cases hv with
  | cons ru hn =>
    cases hn
    cases ru
    obtain ⟨as, hR⟩ := Dp.reads I d (.ref a) (.ref a) hd rfl
    exact str_of_reads hR h1 (fun z => by rw [h2] at z; cases z) hg (by omega) (fun b o e => e) (fun h' u tk keep => ⟨.str d.shown, H, I.kept keep, ⟨u, rfl⟩, q⟩) h4
/-! ### the end -/
theorem law_callG {P : Program} {w : World} {K : PySem.W.Frag} {mg mb : Str → Option Value} {CX : CXT} {k : Nat} {fa a : Addr} {fd : FuncData} {x : Str} {sp : Sp} {s₁ : Shared} {vs : List Value} {ns : List Int}
    (KX : K.In s₁.heap) (hns : s₁.heap.Ns mainGlobals mg) (hb : s₁.heap.Ns builtinsNs mb) (hbb : ∀ (x : Str), x ≠ Str.ofString "__name__" → mb x = bootBuiltins x) (hlim : s₁.heap.NoLimit) (hg : s₁.gens = #[])
    (ha : s₁.heap.get? a = some { cls := Value.type "list", data := Data.seq vs.toArray }) (hi : PyProof.Rows.IntsAre vs ns) (hl : ns.length ≤ sizeLine) (hr : Room k callerA)
    (F : ∀ (base : Heap), K.In base → base.Ns mainGlobals mg → FnG P w K mg base CX k fa fd [x] sp) (hbind : ∀ (s : Shared) (u : Value), BindsTo s fd { pos := [u] } [(x, u)])
    (hsp : ∀ (H : Hp), Only H → SqL K H a (List.map V.int ns) → sp [V.ref a] H (fun v _ => v = V.bl true) fun _ _ _ => False) (hCX : ∀ (H : Hp) (e : Value) (s' : Shared), CX [] H s₁ (fun _ _ _ => False) e s' → False) :
    codeAny (model P w) callerA (Code.call (Value.ref fa) { pos := [Value.ref a] }) (fun r s' => r = Except.ok (Flow.ret (Value.bool true)) ∧ OldK s₁.heap s'.heap ∧ s'.os = s₁.os ∧ PyProof.Rows.AllBare s'.gens) s₁ := by
  have rv := vals_ints hi
  have lenV := PyProof.Rows.IntsAre.length hi
  have core : ∀ H : Hp, Only H → SqL K H a (List.map V.int ns) → HOk P w H s₁.heap → (∀ b, H b ≠ none → b = a) → (H a ≠ none → List.lookup a K = none) →
      codeAny (model P w) callerA (Code.call (Value.ref fa) { pos := [Value.ref a] }) (fun r s' => r = Except.ok (Flow.ret (Value.bool true)) ∧ OldK s₁.heap s'.heap ∧ s'.os = s₁.os ∧ PyProof.Rows.AllBare s'.gens) s₁ := by
    intro H hO hS hok hA hK
    have isA : ∀ {b : Addr} {u : HO}, H b = some u → b = a := fun {b u} hh => hA b (by rw [hh]; exact fun z => nomatch z)
    have noA : ∀ {b : Addr} {o : Obj} {es ep}, s₁.heap.get? b = some o → o.data = Data.dict es ep → H b = none := by
      intro b o es ep e d
      cases hh : H b with
      | none => rfl
      | some u =>
        rw [isA hh, ha] at e
        rw [← Option.some.inj e] at d
        cases d
    have nsK : ∀ {b : Addr} {m : Str → Option Value}, s₁.heap.Ns b m → (hidT s₁.heap H).Ns b m := fun {b m} z => by
      obtain ⟨o, es, ep, e, d, r⟩ := z
      exact ⟨o, es, ep, hidT_get e (noA e d), d, r⟩
    have hKb : K.In (hidT s₁.heap H) := fun b o e => hidT_get (KX b o e) (by
      cases hh : H b with
      | none => rfl
      | some u =>
        rw [isA hh, hK (by rw [isA hh] at hh; rw [hh]; exact fun z => nomatch z)] at e
        cases e)
    have hM : L2.Mod K mg (hidT s₁.heap H) := ⟨hKb, nsK hns, ⟨mb, nsK hb, hbb⟩, let ⟨mc, h1, h2⟩ := hlim; ⟨mc, nsK h1, h2⟩⟩
    have e0 : Env0 P w K mg (hidT s₁.heap H) callerA [] s₁ H := ⟨rfl, hM, fun b o e => of_hidT e, Nat.le_of_eq (hidT_size ..), trivial, fun b hb => (nomatch hb), hok, .of_eq hg⟩
    refine codeAny_mono ((F _ hKb (nsK hns)).run callerA [] s₁ H ⟨[.ref a], []⟩ [.ref a] [.ref a] (fun v _ => v = .bl true) (fun _ _ _ => False) rfl hr e0 (hbind s₁ (.ref a)) (.cons rfl .nil) (hsp H hO hS)) fun r s' h => ?_
    cases r with
    | error e => exact (hCX H e s' h).elim
    | ok fl =>
      cases fl with
      | ret u =>
        obtain ⟨v, H', os, bare, un, hok', r', q⟩ := h
        subst q
        cases r'
        refine ⟨rfl, OldK.of_keep fun b o e => ?_, os, bare⟩
        cases hh : H b with
        | none => exact un.keep b o e hh (fun z => nomatch z) (fun z => nomatch z)
        | some u =>
          rcases hO b with z | ⟨ob, xs, z⟩
          · rw [z] at hh; cases hh
          · have z2 := un.frzs b ob (HO.lst xs) z
            have e1 := (hok b _ z).1
            have e2 := (hok' b _ z2).1
            rw [e] at e1
            rw [Option.some.inj e1]
            exact e2
      | _ => exact h.elim
  cases hk : List.lookup a K with
  | none =>
    have at_a : (fun b => if b = a then some (HO.frz { cls := Value.type "list", data := Data.seq vs.toArray } (HO.lst (List.map V.int ns))) else none : Hp) a = some (HO.frz { cls := Value.type "list", data := Data.seq vs.toArray } (HO.lst (List.map V.int ns))) := if_pos rfl
    refine core (fun b => if b = a then some (HO.frz { cls := Value.type "list", data := Data.seq vs.toArray } (HO.lst (List.map V.int ns))) else none) (fun b => ?_) (.inl (.inr ⟨_, at_a⟩)) (fun b u z => ?_) (fun b z => ?_) (fun _ => hk)
    · by_cases hb : b = a
      · exact .inr ⟨_, _, if_pos hb⟩
      · exact .inl (if_neg hb)
    · by_cases hb : b = a
      · have z' := Eq.trans (Eq.symm (if_pos hb)) z
        cases z'
        subst hb
        exact ⟨ha, by rw [List.length_map]; exact hl, vs, 0, rv, ha⟩
      · have z' := Eq.trans (Eq.symm (if_neg hb)) z
        cases z'
    · by_cases hb : b = a
      · exact hb
      · exact absurd (if_neg hb) z
  | some o =>
    have e := KX a o hk
    rw [ha] at e
    cases e
    exact core (fun _ => none) (fun _ => .inl rfl) (.inr ⟨_, vs.toArray, 0, hk, rfl, rfl, rfl, by rw [List.size_toArray, lenV]; exact hl, rv⟩) (fun b u z => nomatch z) (fun b z => absurd rfl z) (fun z => absurd rfl z)
def LawAtG (l : PySem.W.OpenLaw) (w : World) (K : PySem.W.Frag) (k : Nat) (mg : Str → Option Value) (fa : Addr) : Prop :=
  ∃ (fd : FuncData) (sp : Sp), (∀ (s : Shared) (u : Value), BindsTo s fd { pos := [u] } [("_law_script", u)]) ∧ (∀ (H : Hp) (a : Addr) (ns : List Int), ns.length ≤ 63 → SqL K H a (List.map V.int ns) → sp [V.ref a] H (fun v _ => v = V.bl true) fun _ _ _ => False) ∧
    ∀ (base : Heap), K.In base → base.Ns mainGlobals mg → FnG l.prog w K mg base CX0 k fa fd ["_law_script"] sp
theorem law_endG {l : PySem.W.OpenLaw} {k : Nat} {q : Program} {loose : List Str} {XP : (Str → Option Value) → Heap → Prop} {YP : World → Heap → Prop} {d : DefRec} {K : Params → PySem.W.Frag} (most : l.most = some 63) (plain : d.params.defaults = []) (room : Room k callerA)
    (part : ∀ w h, YP w h → (K w.params).In h) (made : ∀ (w : World) (mg : Str → Option Value) (f : Addr) (h : Heap), (K w.params).In h → h.Ns mainGlobals mg → mg d.name = some (.ref f) → LawAtG l w (K w.params) k mg f) : PySem.W.WalkO q loose XP YP l.row.toRowW d [] (fun f vs => PySem.call f vs) := by
  refine Att.attach_callB most plain ?_
  intro w _ s₁ mg _ f _ _ _ _ a vs ns ground said _ _ _ name script nums len size still
  have X := part w _ said
  obtain ⟨fd, sp, e4, e5, e6⟩ := made w mg f _ X ground.T.g name
  exact law_callG X ground.T.g ground.T.b ground.T.builtins ground.T.nolimit still script nums (Nat.le_trans len (by decide)) room e6 e4 (fun H z1 z2 => e5 H a ns len z2) fun _ _ _ z => z

/-! ### sorted of tuples that begin with keys (whole numbers, texts) -/
namespace SrtK
open PySem PyProof.Rows SrtO PySem.W
def kltB : L2.Key → L2.Key → Bool
  | .inl a, .inl b => decide (a < b)
  | .inl _, .inr _ => true
  | .inr _, .inl _ => false
  | .inr a, .inr b => decide (a.cps.toList < b.cps.toList)
theorem str_tot {a b : PySem.Str} (h1 : ¬ a.cps.toList < b.cps.toList) (h2 : ¬ b.cps.toList < a.cps.toList) : a = b := by
  have e : a.cps.toList = b.cps.toList := List.le_antisymm (List.not_lt.mp h2) (List.not_lt.mp h1)
  cases a
  cases b
  exact congrArg PySem.Str.mk (Array.toList_inj.mp e)
theorem kltB_irr (a : L2.Key) : kltB a a = false := by
  cases a with
  | inl a => exact decide_eq_false (Int.lt_irrefl a)
  | inr a => exact decide_eq_false (List.lt_irrefl a.cps.toList)
theorem kltB_asym {a b : L2.Key} (h : kltB a b = true) : kltB b a = false := by
  cases a with
  | inl a =>
    cases b with
    | inl b => exact decide_eq_false (by have := of_decide_eq_true h; omega)
    | inr b => rfl
  | inr a =>
    cases b with
    | inl b => cases h
    | inr b => exact decide_eq_false (fun z => List.lt_irrefl a.cps.toList (List.lt_trans (of_decide_eq_true h) z))
theorem kltB_tr {a b c : L2.Key} (h1 : kltB b a = false) (h2 : kltB c b = false) : kltB c a = false := by
  cases a with
  | inl a =>
    cases b with
    | inl b =>
      cases c with
      | inl c => exact decide_eq_false (by have := of_decide_eq_false h1; have := of_decide_eq_false h2; omega)
      | inr c => rfl
    | inr b =>
      cases c with
      | inl c => cases h2
      | inr c => rfl
  | inr a =>
    cases b with
    | inl b => cases h1
    | inr b =>
      cases c with
      | inl c => cases h2
      | inr c => exact decide_eq_false (List.not_lt.mpr (List.le_trans (List.not_lt.mp (of_decide_eq_false h1)) (List.not_lt.mp (of_decide_eq_false h2))))
theorem kltB_tot {a b : L2.Key} (h1 : kltB a b = false) (h2 : kltB b a = false) : a = b := by
  cases a with
  | inl a =>
    cases b with
    | inl b => exact congrArg Sum.inl (by have := of_decide_eq_false h1; have := of_decide_eq_false h2; omega)
    | inr b => cases h1
  | inr a =>
    cases b with
    | inl b => cases h2
    | inr b => exact congrArg Sum.inr (str_tot (of_decide_eq_false h1) (of_decide_eq_false h2))
def lexK : List L2.Key → List L2.Key → Bool
  | [], [] => false
  | [], _ :: _ => true
  | _ :: _, [] => false
  | a :: r, b :: s => if a = b then lexK r s else kltB a b
theorem lexK_irr : ∀ x : List L2.Key, lexK x x = false
  | [] => rfl
  | a :: r => by rw [lexK, if_pos rfl]; exact lexK_irr r
theorem lexK_asym : ∀ {x y : List L2.Key}, lexK x y = true → lexK y x = false
  | [], [], h => by cases h
  | [], _ :: _, _ => rfl
  | _ :: _, [], h => by cases h
  | a :: r, b :: s, h => by
    rw [lexK] at h ⊢
    by_cases e : a = b
    · rw [if_pos e] at h
      rw [if_pos e.symm]
      exact lexK_asym h
    · rw [if_neg e] at h
      rw [if_neg (fun z => e z.symm)]
      exact kltB_asym h
theorem lexK_tr : ∀ {x y z : List L2.Key}, lexK y x = false → lexK z y = false → lexK z x = false
  | [], [], [], _, _ => rfl
  | [], [], _ :: _, _, _ => rfl
  | [], _ :: _, [], _, h => by cases h
  | [], _ :: _, _ :: _, _, _ => rfl
  | _ :: _, [], _, h, _ => by cases h
  | _ :: _, _ :: _, [], _, h => by cases h
  | a :: x, b :: y, c :: z, h1, h2 => by
    rw [lexK] at h1 h2 ⊢
    by_cases e1 : b = a
    · subst e1
      rw [if_pos rfl] at h1
      by_cases e2 : c = b
      · subst e2
        rw [if_pos rfl] at h2 ⊢
        exact lexK_tr h1 h2
      · rw [if_neg e2] at h2 ⊢
        exact h2
    · rw [if_neg e1] at h1
      by_cases e2 : c = b
      · subst e2
        rw [if_neg e1]
        exact h1
      · rw [if_neg e2] at h2
        by_cases e3 : c = a
        · subst e3
          exact absurd (kltB_tot h1 h2) e1
        · rw [if_neg e3]
          exact kltB_tr h1 h2
theorem lexK_tot : ∀ {x y : List L2.Key}, lexK x y = false → lexK y x = false → x = y
  | [], [], _, _ => rfl
  | [], _ :: _, h, _ => by cases h
  | _ :: _, [], _, h => by cases h
  | a :: x, b :: y, h1, h2 => by
    rw [lexK] at h1 h2
    by_cases e : a = b
    · subst e
      rw [if_pos rfl] at h1 h2
      rw [lexK_tot h1 h2]
    · rw [if_neg e] at h1
      rw [if_neg (fun z => e z.symm)] at h2
      exact absurd (kltB_tot h1 h2) e
theorem swo_key {α : Type} (k : α → List L2.Key) : Swo fun x y => lexK (k x) (k y) := ⟨fun _ _ h => lexK_asym h, fun _ _ _ h1 h2 => lexK_tr h1 h2⟩
/-- of what kind: a whole number, or a text -/
def isI : L2.Key → Bool
  | .inl _ => true
  | .inr _ => false
def tyK (b : Bool) : Value := if b then .type "int" else .type "str"
/-- a tuple that begins with these keys -/
def Keyed (h : Heap) (v : Value) (ks : List L2.Key) : Prop := ∃ a o xs n us rest, v = .ref a ∧ h.get? a = some o ∧ o.cls = .type "tuple" ∧ o.data = .seq xs n ∧ xs.toList = us ++ rest ∧ L2.Vals (ks.map L2.kV) us
theorem Keyed.keeps {h h' : Heap} {v : Value} {ks : List L2.Key} (x : Keyed h v ks) (k : ∀ b o, h.get? b = some o → o.cls = .type "tuple" → h'.get? b = some o) : Keyed h' v ks := by
  obtain ⟨a, o, xs, n, us, rest, e, ho, hc, r⟩ := x
  exact ⟨a, o, xs, n, us, rest, e, k _ _ ho hc, hc, r⟩
section
variable {prog : Program} {w : World} {A : Around} {E : Value → Shared → Prop} {s : Shared} {b fin : Bool} {Q : Bool → Shared → Prop}
theorem oneLt_strs (c : Bool) {x y : PySem.Str} {t u : Tok} (h : Q (decide (x.cps.toList < y.cps.toList)) s) : wpAny (model prog w) A (oneLt' c (.str x t) (.str y u)) Q E s := by
  cases c with
  | true => exact oneLt_str h
  | false => exact kat_one _ _ (PyProof.Rows.lt_str h)
theorem kat_self : ∀ (xs : List Value) (i : Nat), Q fin s → KatLex prog w A b fin Q (xs.zip xs) i s
  | [], i, h => kat_nil h
  | x :: r, i, h => by
    rw [List.zip_cons_cons]
    exact kat_cons (SeqAt.EqAt.same x prog w _ _ (kat_yes (kat_self r (i + 1) h)))
theorem kat_keys : ∀ (ks ls : List L2.Key) (us ws rest rest' : List Value) (i : Nat), L2.Vals (ks.map L2.kV) us → L2.Vals (ls.map L2.kV) ws → ks.map isI = ls.map isI → ks ≠ ls → Q (lexK ks ls) s → KatLex prog w A b fin Q ((us ++ rest).zip (ws ++ rest')) i s
  | [], [], _, _, _, _, _, _, _, _, ne, _ => absurd rfl ne
  | [], _ :: _, _, _, _, _, _, _, _, e, _, _ => nomatch e
  | _ :: _, [], _, _, _, _, _, _, _, e, _, _ => nomatch e
  | k :: ks, l :: ls, us, ws, rest, rest', i, h1, h2, e, ne, hq => by
    cases h1 with
    | cons r1 v1 =>
      cases h2 with
      | cons r2 v2 =>
        rename_i u us' x ws'
        rw [List.cons_append, List.cons_append, List.zip_cons_cons]
        have e' : isI k = isI l ∧ ks.map isI = ls.map isI := ⟨(List.cons.inj e).1, (List.cons.inj e).2⟩
        have more : k = l → KatLex prog w A b fin Q ((us' ++ rest).zip (ws' ++ rest')) (i + 1) s := fun z => by
          subst z
          refine kat_keys ks ls us' ws' rest rest' (i + 1) v1 v2 e'.2 (fun y => ne (by rw [y])) ?_
          rw [lexK, if_pos rfl] at hq
          exact hq
        cases k with
        | inl x1 =>
          cases l with
          | inr _ => exact nomatch (show _ = _ from e'.1)
          | inl x2 =>
            obtain ⟨t1, rfl⟩ := r1
            obtain ⟨t2, rfl⟩ := r2
            refine kat_cons (SeqAt.EqAt.int_int x1 t1 x2 t2 prog w _ _ (kat_go (fun z => kat_yes (more ?_)) (fun z => kat_no (TS.oneLt_ints _ ?_))))
            · exact congrArg Sum.inl (by simpa using z)
            · have nz : ¬ x1 = x2 := by simpa using z
              rw [lexK, if_neg (fun y => nz (Sum.inl.inj y))] at hq
              exact hq
        | inr x1 =>
          cases l with
          | inl _ => exact nomatch (show _ = _ from e'.1)
          | inr x2 =>
            obtain ⟨t1, rfl⟩ := r1
            obtain ⟨t2, rfl⟩ := r2
            refine kat_cons (SeqAt.EqAt.str_str x1 t1 x2 t2 prog w _ _ (kat_go (fun z => kat_yes (more ?_)) (fun z => kat_no (oneLt_strs _ ?_))))
            · exact congrArg Sum.inr (by simpa using z)
            · have nz : ¬ x1 = x2 := by simpa using z
              rw [lexK, if_neg (fun y => nz (Sum.inr.inj y))] at hq
              exact hq
theorem key_cmp {vs : List Value} {k : Value → List L2.Key} {sh : List Bool} (hp : ∀ v ∈ vs, Keyed s.heap v (k v)) (hs : ∀ v ∈ vs, (k v).map isI = sh) (inj : ∀ v ∈ vs, ∀ u ∈ vs, k v = k u → v = u) : Cmp prog w A s (tuples' true) (fun p => p.1 ∈ vs) (lt2 fun v u => lexK (k v) (k u)) := by
  intro p q hm hm'
  obtain ⟨a, o, xs, n, us, rest, e, ho, hc, hd, hx, hv⟩ := hp _ hm
  obtain ⟨a', o', xs', n', us', rest', e', ho', hc', hd', hx', hv'⟩ := hp _ hm'
  show wpAny (model prog w) A (keyLt' (tuples' true) p.1 q.1) (fun r s' => s' = s ∧ r = lexK (k p.1) (k q.1)) (fun _ _ => False) s
  by_cases same : p.1 = q.1
  · rw [same, lexK_irr, e']
    refine kat_lt ho' hd' ho' hd' (kat_self _ 0 ⟨rfl, ?_⟩)
    exact decide_eq_false (Nat.lt_irrefl _)
  · have ne : k p.1 ≠ k q.1 := fun z => same (inj _ hm _ hm' z)
    have sh' : (k p.1).map isI = (k q.1).map isI := (hs _ hm).trans (hs _ hm').symm
    rw [e, e']
    rw [e] at hv ne sh'
    rw [e'] at hv' ne sh'
    refine kat_lt ho hd ho' hd' ?_
    rw [hx, hx']
    exact kat_keys _ _ us us' rest rest' 0 hv hv' sh' ne ⟨rfl, rfl⟩
theorem firsts_key {h : Heap} {sh : List Bool} {b : Bool} : ∀ {vs : List Value}, (∀ v ∈ vs, ∃ ks, Keyed h v ks ∧ ks.map isI = b :: sh) → ∃ fs : List Value, KatTups h vs fs ∧ fs.length = vs.length ∧ ∀ f ∈ fs, (b = true → ∃ x t, f = Value.int x t) ∧ (b = false → ∃ x t, f = Value.str x t)
  | [], _ => ⟨[], KatTups.nil, rfl, fun _ hm => by simp at hm⟩
  | v :: vs, hp => by
    obtain ⟨fs, h1, h2, h3⟩ := firsts_key (vs := vs) fun v' hm => hp v' (List.mem_cons_of_mem _ hm)
    obtain ⟨ks, ⟨a, o, xs, n, us, rest, e, ho, hc, hd, hx, hv⟩, hk⟩ := hp v (List.mem_cons_self ..)
    cases ks with
    | nil => cases hk
    | cons k ks =>
      cases hv with
      | cons r v' =>
        rename_i u us'
        subst e
        have hk0 : isI k = b := (List.cons.inj hk).1
        have hf : xs[0]? = some u := by
          rw [← Array.getElem?_toList, hx]
          rfl
        refine ⟨u :: fs, KatTups.cons ho hc hd hf h1, by rw [List.length_cons, List.length_cons, h2], fun f hm => ?_⟩
        rcases List.mem_cons.mp hm with rfl | hm
        · cases k with
          | inl x =>
            obtain ⟨t, rfl⟩ := r
            exact ⟨fun _ => ⟨x, t, rfl⟩, (fun z => nomatch (show _ = _ from hk0.trans z))⟩
          | inr x =>
            obtain ⟨t, rfl⟩ := r
            exact ⟨(fun z => nomatch (show _ = _ from hk0.trans z)), fun _ => ⟨x, t, rfl⟩⟩
        · exact h3 f hm
theorem key_sortable {a : Addr} {vs : List Value} {k : Value → List L2.Key} {b : Bool} {sh : List Bool} (h0 : 0 < vs.length) (hp : ∀ v ∈ vs, Keyed s.heap v (k v)) (hs : ∀ v ∈ vs, (k v).map isI = b :: sh) (inj : ∀ v ∈ vs, ∀ u ∈ vs, k v = k u → v = u) (ha : ∀ o, s.heap.get? a = some o → o.cls ≠ .type "tuple") : SortableO prog w A s a vs fun v u => lexK (k v) (k u) := by
  intro h' keep
  have hp' : ∀ v ∈ vs, Keyed h' v (k v) := fun v hm => (hp v hm).keeps fun b o e c => keep b o (fun z => by subst z; exact ha o e c) e
  obtain ⟨fs, h1, h2, h3⟩ := firsts_key (sh := sh) (b := b) fun v hm => ⟨_, hp' v hm, hs v hm⟩
  refine ⟨tuples' true, fun Q E hq => ?_, key_cmp hp' hs inj⟩
  cases b with
  | true =>
    refine kat_kind (T := .type "int") h1 (by omega) (fun f hm => ?_) (by rfl) ?_
    · obtain ⟨x, t, rfl⟩ := (h3 f hm).1 rfl
      exact Looks.now
    · have e : (Value.type "int" != Value.type "tuple") = true := by first | decide +kernel | rfl | decide
      rw [e]
      exact hq
  | false =>
    refine kat_kind (T := .type "str") h1 (by omega) (fun f hm => ?_) (by rfl) ?_
    · obtain ⟨x, t, rfl⟩ := (h3 f hm).2 rfl
      exact Looks.now
    · have e : (Value.type "str" != Value.type "tuple") = true := by first | decide +kernel | rfl | decide
      rw [e]
      exact hq
end
end SrtK
open SrtK in
/-- sorted(xs), xs a list of tuples that begin with keys of the same kinds, no two alike -/
def rSortedK (K : PySem.W.Frag) : List V → Hp → VK → Prop := fun vs H Q => ∃ (a : Addr) (xs : List V) (k : V → List L2.Key) (b : Bool) (sh : List Bool), vs = [V.ref a] ∧ SqL K H a xs ∧ (∀ x ∈ xs, (k x).map isI = b :: sh ∧ ∃ t rest, x = V.ref t ∧ H t = some (.tup ((k x).map kV ++ rest))) ∧ (∀ x ∈ xs, ∀ y ∈ xs, k x = k y → x = y) ∧
  ∀ ys p, SrtO.Srtd (fun x y => lexK (k x) (k y)) ys → SrtO.Stb (fun x y => lexK (k x) (k y)) ys xs → H p = none → Q (.ref p) (upd H p (.lst ys))
theorem vals_front {H : Hp} : ∀ {xs ys : List V} {us : List Value}, Vals (xs ++ ys) us → ∃ u1 u2, us = u1 ++ u2 ∧ Vals xs u1
  | [], ys, us, _ => ⟨[], us, rfl, .nil⟩
  | x :: xs, ys, us, h => by
    cases h with
    | cons r v =>
      obtain ⟨u1, u2, e, v1⟩ := vals_front (H := H) v
      exact ⟨_ :: u1, u2, by rw [e]; rfl, .cons r v1⟩
theorem cr_sortedK {X : Cx} : CallR X (.builtin "sorted") (rSortedK X.K) := by
  intro pins s σ H vs us Q I r h
  obtain ⟨a, xs, k, b, sh, rfl, hs, hx, inj, q⟩ := h
  obtain ⟨its, rv, hl, hz⟩ := I.list hs
  obtain ⟨u, rfl, ru⟩ := vals1 r
  obtain rfl : u = Value.ref a := ru
  obtain ⟨e1, e2⟩ := refs_back rv fun x m => by
    obtain ⟨_, t, _, e, _⟩ := hx x m
    exact ⟨t, e⟩
  have mem : ∀ v ∈ its, backV v ∈ xs := fun v hv => by rw [e1]; exact List.mem_map.mpr ⟨_, hv, rfl⟩
  have hp : ∀ v ∈ its, SrtK.Keyed s.heap v (k (backV v)) := fun v hv => by
    obtain ⟨t, rfl⟩ := e2 v hv
    obtain ⟨_, t', rest, e, ht⟩ := hx _ (mem _ hv)
    cases e
    obtain ⟨_, its2, r2, o, ho, hc, n, hd⟩ := I.hok _ _ ht
    obtain ⟨u1, u2, eu, v1⟩ := vals_front (H := H) r2
    exact ⟨t, o, its2.toArray, n, u1, u2, rfl, ho, hc, hd, eu, v1⟩
  refine SrtO.sorted_ord (SrtK.swo_key fun v => k (backV v)) hl.isList (by rw [← rv.length]; exact hz) (fun h2 h₁ a' ha kk => ?_) fun out o1 o2 => ?_
  · refine SrtK.key_sortable (s := { s with heap := h₁ }) (b := b) (sh := sh) (by omega) (fun v hm => (hp v hm).keeps fun b o e _ => (kk b o e).2) (fun v hv => (hx _ (mem v hv)).1) (fun v hv u hu e => ?_) fun o e => ?_
    · have z := inj _ (mem v hv) _ (mem u hu) e
      obtain ⟨t, rfl⟩ := e2 v hv
      obtain ⟨t', rfl⟩ := e2 u hu
      exact congrArg Value.ref (V.ref.inj z)
    · have e' : some o = some (seqObj "list" its.toArray 0) := e.symm.trans ha
      cases e'
      intro c
      exact absurd (Value.type.inj c) (by decide)
  · have h3 : ∀ u ∈ out, ∃ a, u = Value.ref a := fun u hu => e2 u (o2.perm.mem_iff.mp hu)
    obtain ⟨n, hn⟩ := sortedAll_at s.heap its out.toArray
    have hb : SrtO.Stb (fun x y => SrtK.lexK (k x) (k y)) (out.map backV) xs := by
      rw [e1]
      exact SrtO.Stb.map (SrtK.swo_key k) backV o2
    refine ⟨.ref _, upd H (s.heap.objs.size + 1) (.lst (out.map backV)), I.laid (t' := s.toks) (fun _ _ => sortedAll_old) (Nat.le_succ _) ⟨?_, out, n, vals_back h3, hn⟩, rfl, q _ _ (SrtO.srtd_map o1) hb (I.hok.fresh (Nat.le_succ _))⟩
    rw [hb.len]
    exact hz

/-! ### sorted(set(xs)) of a list of whole numbers, however many -/
section
variable {P : Program} {w : World} {A : Around} {E : Value → Shared → Prop} {s : Shared}
/-- a new, empty set's object -/
abbrev set0 (w : World) : Obj := { cls := .type "set", dict := none, data := .set #[] 0 (.fresh 0 0 (!w.params.followText "set-order")) }
set_option maxRecDepth 100000 in
set_option maxHeartbeats 3200000 in
theorem set_from_list {from_ : Addr} {vs : Array Value} (nums : List Int) {Qv : Value → Shared → Prop} (calm : A.handled = none) (isl : s.heap.IsList from_ vs) (isN : IntsAre vs.toList nums) (few : nums.length + 1 < scanBound)
    (end_ : ∀ (hp' : Heap) (tk c : Nat), SetR w hp' s.heap.objs.size (fun j => decide (j ∈ nums)) c → c ≤ nums.length → (∀ b o, s.heap.get? b = some o → hp'.get? b = some o) → Qv (.ref s.heap.objs.size) { s with heap := hp', toks := tk }) :
    wpAny (model P w) A (call (.type "set") [.ref from_]) Qv E s := by
  have size_is : vs.size = nums.length := by
    rw [← Array.length_toList]
    exact IntsAre.length isN
  obtain ⟨c0, tl0, mro0⟩ := F.called_set.mro
  have made0 := F.called_set.made
  have sub0 := F.called_set.sub
  refine wpAny_call (codeAny_of_tree ?_)
  show wpAny _ _ (callAny (.type "set") _) _ _ _
  refine wpAny_pure ⟨Code.quiet_builtin _ (by decide +kernel), codeAny_builtin F.entry_type_call ?_⟩ -- the type is called
  rw [Around.under_plain (weight_type_call_type "set" [.ref from_] []) rfl]
  have no_type := F.called_set.notType
  have can_make := F.called_set.canCreate
  have checked := F.typeCall_set_1 (.ref from_)
  repeat (any_goals (first | assumption | wp_step | fail))
  refine codeAny_mono (code_set_led1 (.ref from_) (E := E) (Q₁ := fun made st => made = .ref s.heap.objs.size ∧ st = { s with heap := s.heap.push (set0 w) }) ⟨rfl, rfl⟩) fun r1 st1 told => ?_
  cases r1 with
  | error e => exact told
  | ok fl =>
    cases fl with
    | ret made =>
      obtain ⟨rfl, rfl⟩ := told
      have here : (s.heap.push (set0 w)).get? s.heap.objs.size = some (set0 w) := Heap.get?_push_size _ rfl
      have isS : Shared.TypeIs { s with heap := s.heap.push (set0 w) } (.ref s.heap.objs.size) "set" := ⟨_, here, rfl⟩
      have look := F.called_set.init.lookup
      have bnd := F.called_set.init.bind (.ref s.heap.objs.size)
      repeat (any_goals (first | assumption | wp_step | fail))
      refine codeAny_mono (codeAny_call_builtin (R := wants (fun r st => r = .none ∧ ∃ hp' tk c, st = { s with heap := hp', toks := tk } ∧ SetR w hp' s.heap.objs.size (fun j => decide (j ∈ nums)) c ∧ c ≤ nums.length ∧ (∀ b o, s.heap.get? b = some o → hp'.get? b = some o)) E) F.called_set.init.plain F.entry_set_init (check_set_init_1 isS ?_)) fun r2 st2 told2 => ?_
      · obtain ⟨ol, got, clsl, nl, datal⟩ := isl
        obtain ⟨ocls, odict, odata, oslots⟩ := ol
        simp only at clsl datal
        subst clsl; subst datal
        have got' : (s.heap.push (set0 w)).get? from_ = some { cls := .type "list", dict := odict, data := .seq vs nl, slots := oslots } := Heap.get?_push_of_some _ got
        have sub1 := F.sub_list_set
        have sub2 := F.sub_list_frozenset
        have no_dict : (Value.type "list" == Value.type "dict") = false := by decide
        have isl1 : (s.heap.push (set0 w)).IsList from_ vs := ⟨_, got', rfl, nl, rfl⟩
        unfold Builtin.«set.__init__» noKeywords Builtin.Frozenset.updateFrom -- its init
        generalize keepP : pyIter = PI
        wp_walk
        subst keepP
        refine wpAny_pyIter_list isl1 (wpAny_bind (wpAny_runValue ?_))
        have lt0 : from_ < s.heap.objs.size := Heap.lt_size got
        have calm3 : A.in1.in1.in1.handled = none := by simp [calm]
        have ne1 : from_ ≠ (s.heap.push (set0 w)).objs.size := by
          rw [Heap.size_push]
          exact Nat.ne_of_lt (Nat.lt_succ_of_lt lt0)
        have apart : s.heap.objs.size ∉ [(s.heap.push (set0 w)).objs.size, from_] := by
          rw [Heap.size_push]
          simp only [List.mem_cons, List.mem_singleton, List.not_mem_nil, or_false, not_or] -- both
          exact ⟨Nat.ne_of_lt (Nat.lt_succ_self _), Nat.ne_of_gt lt0⟩
        have vals : ∀ (i : Nat) (v : Value), vs[i]? = some v → ∃ k t, nums[i]? = some k ∧ v = .int k t := fun i v at_ => by
          have lt : i < nums.length := by
            rw [← size_is]
            exact (Array.getElem?_eq_some_iff.mp at_).1
          obtain ⟨t, e⟩ := PyProof.Rows.IntsAre.int_at isN i v (by rw [Array.getElem?_toList]; exact at_)
          refine ⟨nums[i], t, List.getElem?_eq_getElem lt, ?_⟩
          rw [e, List.getD_eq_getElem?_getD, List.getElem?_eq_getElem lt]
          rfl
        refine set_update_ints ((Walks.list calm3 _ from_ ne1 vs).toS) s.heap.objs.size apart nums size_is few vals (vs.size - 0) 0 _ (by omega) (Nat.zero_le _) ⟨⟨_, Heap.get?_push_size _ rfl, rfl, rfl⟩, (isl1.push _)⟩ ⟨0, Nat.le_refl 0, setR_new_at (Heap.get?_push_of_some _ here)⟩ ?_
        intro st3 c3 moved le3 set3
        obtain ⟨hp3, g3, d3, tk3, os3⟩ := st3
        obtain rfl : g3 = s.gens := moved.gens
        obtain rfl : d3 = s.drawn := moved.drawn
        obtain rfl : os3 = s.os := moved.os
        show wpAny _ _ _ _ _ _
        refine wpAny_pure ?_
        show wpAny _ _ (ret Value.none) _ _ _
        rw [size_is] at le3
        refine wpAny_pure ⟨rfl, hp3, tk3, c3, rfl, set3, le3, fun b o e => ?_⟩
        have lt1 : b < s.heap.objs.size := Heap.lt_size e
        refine moved.heap b o (fun z => ?_) (Heap.get?_push_of_some _ (Heap.get?_push_of_some _ e))
        rcases List.mem_cons.mp z with z | z
        · exact absurd z (Nat.ne_of_lt lt1)
        · have z' := List.mem_singleton.mp z
          rw [Heap.size_push] at z'
          exact absurd z' (Nat.ne_of_lt (Nat.lt_succ_of_lt lt1))
      · cases r2 with
        | error e => exact told2
        | ok fl2 =>
          cases fl2 with
          | ret r =>
            obtain ⟨rfl, hp', tk, c', rfl, z1, z2, z3⟩ := told2
            repeat (any_goals (first | assumption | wp_step | fail))
            exact end_ _ _ _ z1 z2 z3
          | _ => exact told2.elim
    | _ => exact told.elim
/-- sorted of a set of whole numbers -/
theorem sorted_of_set {a : Addr} {S : Int → Bool} {n : Nat} {Qv : Value → Shared → Prop} (R : SetR w s.heap a S n) (calm : A.handled = none)
    (end_ : ∀ st p (out : Array Value) (c : Nat) (ns : List Int), (∀ b o, s.heap.get? b = some o → st.heap.get? b = some o) → st.gens = s.gens → st.os = s.os → s.heap.objs.size ≤ p → st.heap.get? p = some (seqObj "list" out c) → IntsAre out.toList ns → ns.Pairwise (· < ·) → (∀ k, k ∈ ns ↔ S k = true) → ns.length = n → Qv (.ref p) st) :
    wpAny (model P w) A (call (.builtin "sorted") [.ref a]) Qv E s := by
  obtain ⟨o, es, ep, t, ho, hex, hd, g, nd, hm, hb, hf, hn, hr, hl⟩ := R -- what a set's object is
  refine Calls.call_function_entry kind_sorted plain_sorted entry_sorted (args_sorted1 _) ?_ -- called
  unfold Builtin.«sorted»
  refine wpAny_bind (m := checkCount "sorted" 1 1 _) (wpAny_pure (wpAny_bind (collect_set (A := A.in1) calm ⟨o, ho, hex.1, hd⟩ hf hb hr hl fun s1 vs k1 hz g1 o1 pm => ?_)))
  have long : vs.length ≤ sizeLine := by
    rw [pm.length_eq, List.length_map, Array.length_toList]
    exact fits_of_scanBound hb
  have isI := ints_of vs fun v hv => by
    obtain ⟨e, he, q⟩ := List.mem_map.mp (pm.mem_iff.mp hv)
    obtain ⟨k, tk, h1, _⟩ := g e he
    exact ⟨k, tk, by rw [← q]; exact h1⟩
  have keys : (vs.map Builtin.Re.reRawOf).Perm (es.toList.map keyOf) := by
    have q := pm.map Builtin.Re.reRawOf
    rwa [List.map_map] at q
  refine wpAny_bind (wpAny_newList ?_ long)
  have new1 : (s1.heap.push (seqObj "list" vs.toArray 0)).get? s1.heap.objs.size = some (seqObj "list" vs.toArray 0) := Heap.get?_push_size _ rfl
  refine wpAny_bind (wpAny_holding (wpAny_call_entry slot_list_sort ⟨_, new1, rfl⟩ entry_list_sort (SrtO.list_sort_ord SrtO.swo_int new1 long (fun two => SrtO.ints_sortable isI two) fun out w1 w2 => ⟨_, rfl, ?_⟩) (args_list_sort _)))
  obtain ⟨i1, i2, i3⟩ := SrtO.ints_out isI w1 w2
  obtain ⟨c, hc⟩ := sortedHeap_at (vs := vs) (out := out.toArray) new1
  have pn := i2.trans keys
  refine wpAny_pure ⟨_, rfl, end_ _ s1.heap.objs.size out.toArray c _ (fun b u e => ?_) g1 o1 hz hc i1 (lt_of_le_nodup _ i3 (pn.nodup_iff.mpr nd)) (fun k => by rw [pn.mem_iff, ← hm k]) (by rw [pn.length_eq, List.length_map, Array.length_toList]; exact hn)⟩
  have q := k1 b u e
  have lt := Heap.lt_size q
  show (sortedHeap (s1.heap.push (seqObj "list" vs.toArray 0)) s1.heap.objs.size vs out.toArray).get? b = some u
  rw [sortedHeap_old (Nat.ne_of_lt lt) (by rw [size_push']; exact Nat.lt_succ_of_lt lt)]
  exact Heap.get?_push_of_some _ q
end
/-- sorted(set(xs)) -/
def tSortedSet (K : PySem.W.Frag) (ta : TE) : TE := fun σ H Q => ta σ H fun x H1 => ∃ (l : Addr) (ns : List Int), x = .ref l ∧ SqL K H1 l (ns.map V.int) ∧ ns.length ≤ 4000 ∧ ∀ (ms : List Int) (p : Addr), ms.Pairwise (· < ·) → (∀ k, k ∈ ms ↔ k ∈ ns) → H1 p = none → Q (.ref p) (upd H1 p (.lst (ms.map V.int)))
theorem pe_sortedSet {X : Cx} {a : Expr} {ta : TE} {p p2 q pos : Pos} (hg : Gl X "sorted") (hm : X.mg "sorted" = none) (hg2 : Gl X "set") (hm2 : X.mg "set" = none) (ha : PE X a ta) (hc : X.calm = true := by rfl)
    (na : starEach [a] X.env = (false, eval a X.env) :: starEach [] X.env := by rfl) : PE X (.Call (.Name "sorted" p) [.Call (.Name "set" p2) [a] [] q] [] pos) (tSortedSet X.K ta) := by
  refine ⟨fun pins s σ H Q I h => Call_ (ld_blt I hg hm boot_sorted ?_)⟩
  refine PyProof.Rows.callWith_builtin1 (PyProof.Rows.args_cons (Call_ (ld_blt I hg2 hm2 boot_set ?_)) rfl) rfl rfl
  refine PyProof.Rows.callWith_type1 (PyProof.Rows.args_cons (thn (ha.run pins s σ H _ I h) fun v s1 ⟨x, H1, I1, r1, q1⟩ => PyProof.Rows.args_nil ?_) na) na rfl -- set(..)
  obtain ⟨l, ns, rfl, sq, few, q1⟩ := q1
  cases r1
  obtain ⟨its, r, pl, hz⟩ := I1.list sq
  refine set_from_list ns (I1.ok.hd hc) pl.isList (by simpa using RZ.intsAre_vals r) (by unfold scanBound; omega) fun hp' tk c hS le kept => PyProof.Rows.args_nil ?_
  have I2 : Inv X pins σ H1 { s1 with heap := hp', toks := tk } := I1.kept kept
  refine sorted_of_set (s := { s1 with heap := hp', toks := tk }) hS (I1.ok.hd hc) fun st p out c' ms k g o hp hg' isI up mem cnt => ?_
  have len : (ms.map V.int).length ≤ sizeLine := by
    rw [List.length_map, sizeLine_eq]
    omega
  have new : H1 p = none := I2.hok.fresh hp
  have J : Inv X pins σ (upd H1 p (.lst (ms.map V.int))) { ({ s1 with heap := hp', toks := tk } : Shared) with heap := st.heap, gens := st.gens, drawn := st.drawn, toks := st.toks } :=
    I2.call (ch := []) (Un.laid k hp new) (I2.hok.laid k hp ⟨len, out.toList, c', vals_of_ints isI, hg'⟩) (by rw [g]; exact I2.bare) (fun _ z => nomatch z)
  have e : st = { s1 with heap := st.heap, gens := st.gens, drawn := st.drawn, toks := st.toks } := by
    cases st
    cases s1
    cases o
    rfl
  rw [e]
  exact ⟨.ref p, _, J, rfl, q1 ms p up (fun k => ⟨fun z => of_decide_eq_true ((mem k).mp z), fun z => (mem k).mpr (decide_eq_true z)⟩) new⟩

/-- an expression, then a word of what it gives: what follows is shown once -/
def tMid (te : TE) : TE := fun σ H Q => ∃ M : V → Hp → Prop, te σ H M ∧ ∀ v H', M v H' → Q v H'
theorem pe_mid {X : Cx} {e : Expr} {te : TE} (h : PE X e te) : PE X e (tMid te) := ⟨fun pins s σ H Q I ⟨M, h1, h2⟩ => thn (h.run pins s σ H M I h1) fun _ _ ⟨y, H1, I1, r, q⟩ => ⟨y, H1, I1, r, h2 _ _ q⟩⟩

/-! ### things as data; of the lists among them this holds -/
inductive DatN (N : Addr → Prop) (H : Hp) : V → PyData → Prop
  | non : DatN N H .non .none
  | bl (b : Bool) : DatN N H (.bl b) (.bool b)
  | int (i : Int) : DatN N H (.int i) (.int i)
  | str (x : Str) : DatN N H (.str x) (.str x)
  | lst {a : Addr} {xs : List V} {ds : List PyData} : N a → H a = some (.lst xs) → xs.length = ds.length → (∀ (i : Nat) x d, xs[i]? = some x → ds[i]? = some d → DatN N H x d) → DatN N H (.ref a) (.list ds)
  | tup {a : Addr} {xs : List V} {ds : List PyData} : H a = some (.tup xs) → xs.length = ds.length → (∀ (i : Nat) x d, xs[i]? = some x → ds[i]? = some d → DatN N H x d) → DatN N H (.ref a) (.tuple ds)
/-- tuples stay, and the lists of which this holds -/
structure Kps (N : Addr → Prop) (H H' : Hp) : Prop where
  tup : ∀ a xs, H a = some (.tup xs) → H' a = some (.tup xs)
  lst : ∀ a xs, N a → H a = some (.lst xs) → H' a = some (.lst xs)
theorem Kps.same {N : Addr → Prop} {H H' : Hp} (s : Same H H') : Kps N H H' := ⟨fun a xs e => s a _ e, fun a xs _ e => s a _ e⟩
theorem Kps.kp {N : Addr → Prop} {H H' : Hp} {d c : Addr} {t : Int} (k : Kp d c H H') (S : StAt H d c t) (hN : ∀ a, N a → a ≠ c) : Kps N H H' :=
  ⟨fun a xs e => k.tup S e, fun a xs n e => k a _ (fun z => by rw [z, S.dict] at e; cases e) (hN a n) e⟩
theorem Kps.upd {N : Addr → Prop} {H : Hp} {D : Addr} {ys : List V} {o : HO} (e : H D = some (.lst ys)) (hN : ∀ a, N a → a ≠ D) : Kps N H (upd H D o) :=
  ⟨fun a xs f => by rw [upd_ne (ne_of f e (fun z => nomatch z))]; exact f, fun a xs n f => by rw [upd_ne (hN a n)]; exact f⟩
theorem Kps.upd_dK {N : Addr → Prop} {H : Hp} {D : Addr} {ks : List (Key × V)} {o : HO} (e : H D = some (.dK ks)) : Kps N H (L2.upd H D o) :=
  ⟨fun a xs f => by rw [upd_ne (ne_of f e (fun z => nomatch z))]; exact f, fun a xs n f => by rw [upd_ne (ne_of f e (fun z => nomatch z))]; exact f⟩
theorem Kps.trans {N : Addr → Prop} {H H1 H2 : Hp} (a : Kps N H H1) (b : Kps N H1 H2) : Kps N H H2 := ⟨fun x xs e => b.tup x xs (a.tup x xs e), fun x xs n e => b.lst x xs n (a.lst x xs n e)⟩
theorem DatN.keep {N : Addr → Prop} {H H' : Hp} {v : V} {d : PyData} (h : DatN N H v d) (k : Kps N H H') : DatN N H' v d := by
  induction h with
  | non => exact .non
  | bl b => exact .bl b
  | int i => exact .int i
  | str x => exact .str x
  | lst n e l _ ih => exact .lst n (k.lst _ _ n e) l ih
  | tup e l _ ih => exact .tup (k.tup _ _ e) l ih
theorem DatN.same {N : Addr → Prop} {H H' : Hp} {v : V} {d : PyData} (h : DatN N H v d) (s : Same H H') : DatN N H' v d := h.keep (.same s)
theorem DatN.weak {N N' : Addr → Prop} {H : Hp} {v : V} {d : PyData} (h : DatN N H v d) (w : ∀ a xs, N a → H a = some (.lst xs) → N' a) : DatN N' H v d := by
  induction h with
  | non => exact .non
  | bl b => exact .bl b
  | int i => exact .int i
  | str x => exact .str x
  | lst n e l _ ih => exact .lst (w _ _ n e) e l ih
  | tup e l _ ih => exact .tup e l ih
theorem DatN.dat {N : Addr → Prop} {H : Hp} {v : V} {d : PyData} (h : DatN N H v d) : Dat H v d := by
  induction h with
  | non => exact .non
  | bl b => exact .bl b
  | int i => exact .int i
  | str x => exact .str x
  | lst n e l _ ih => exact .lst e l ih
  | tup e l _ ih => exact .tup e l ih
theorem dpAll_of {K : PySem.W.Frag} {H : Hp} : ∀ {xs : List V} {ds : List PyData}, xs.length = ds.length → (∀ (i : Nat) x d, xs[i]? = some x → ds[i]? = some d → Dp K H x d) → DpAll K H xs ds
  | [], [], _, _ => .nil
  | [], _ :: _, e, _ => nomatch e
  | _ :: _, [], e, _ => nomatch e
  | x :: xs, d :: ds, e, h => .cons (h 0 x d rfl rfl) (dpAll_of (Nat.succ.inj e) fun i y c e1 e2 => h (i + 1) y c e1 e2)
theorem DatN.dp {K : PySem.W.Frag} {N : Addr → Prop} {H : Hp} {v : V} {d : PyData} (h : DatN N H v d) : Dp K H v d := by
  induction h with
  | non => exact .non
  | bl b => exact .bl b
  | int i => exact .int i
  | str x => exact .str x
  | lst n e l _ ih => exact .lst (SqL.of e) (dpAll_of l ih)
  | tup e l _ ih => exact .tup (.inl (.inl e)) (dpAll_of l ih)
/-- things one by one as data -/
def EchN (N : Addr → Prop) (H : Hp) (xs : List V) (ds : List PyData) : Prop := xs.length = ds.length ∧ ∀ (i : Nat) x d, xs[i]? = some x → ds[i]? = some d → DatN N H x d
theorem EchN.keep {N : Addr → Prop} {H H' : Hp} {xs : List V} {ds : List PyData} (h : EchN N H xs ds) (k : Kps N H H') : EchN N H' xs ds := ⟨h.1, fun i x d e1 e2 => (h.2 i x d e1 e2).keep k⟩
theorem EchN.same {N : Addr → Prop} {H H' : Hp} {xs : List V} {ds : List PyData} (h : EchN N H xs ds) (s : Same H H') : EchN N H' xs ds := h.keep (.same s)
theorem EchN.weak {N N' : Addr → Prop} {H : Hp} {xs : List V} {ds : List PyData} (h : EchN N H xs ds) (w : ∀ a xs, N a → H a = some (.lst xs) → N' a) : EchN N' H xs ds := ⟨h.1, fun i x d e1 e2 => (h.2 i x d e1 e2).weak w⟩
theorem EchN.nil {N : Addr → Prop} {H : Hp} : EchN N H [] [] := ⟨rfl, fun _ _ _ e => nomatch e⟩
theorem EchN.cons {N : Addr → Prop} {H : Hp} {x : V} {d : PyData} {xs : List V} {ds : List PyData} (h : DatN N H x d) (hr : EchN N H xs ds) : EchN N H (x :: xs) (d :: ds) :=
  ⟨congrArg (· + 1) hr.1, fun i y e e1 e2 => by
    cases i with
    | zero => cases e1; cases e2; exact h
    | succ i => exact hr.2 i y e e1 e2⟩
theorem EchN.one {N : Addr → Prop} {H : Hp} {x : V} {d : PyData} (h : DatN N H x d) : EchN N H [x] [d] := .cons h .nil
theorem getElem?_two {α β : Type} {xs ys : List α} {us ws : List β} (l : xs.length = us.length) {i : Nat} {x : α} {u : β} (e1 : (xs ++ ys)[i]? = some x) (e2 : (us ++ ws)[i]? = some u) : (xs[i]? = some x ∧ us[i]? = some u) ∨ (ys[i - xs.length]? = some x ∧ ws[i - xs.length]? = some u) := by
  by_cases hi : i < xs.length
  · rw [List.getElem?_append_left hi] at e1
    rw [List.getElem?_append_left (by omega)] at e2
    exact .inl ⟨e1, e2⟩
  · rw [List.getElem?_append_right (by omega)] at e1 e2
    rw [← l] at e2
    exact .inr ⟨e1, e2⟩
theorem EchN.app {N : Addr → Prop} {H : Hp} {xs ys : List V} {ds es : List PyData} (h : EchN N H xs ds) (h' : EchN N H ys es) : EchN N H (xs ++ ys) (ds ++ es) :=
  ⟨by rw [List.length_append, List.length_append, h.1, h'.1], fun i v p e1 e2 => (getElem?_two h.1 e1 e2).elim (fun z => h.2 i v p z.1 z.2) (fun z => h'.2 _ v p z.1 z.2)⟩
theorem EchN.snoc {N : Addr → Prop} {H : Hp} {xs : List V} {ds : List PyData} {x : V} {d : PyData} (h : EchN N H xs ds) (h' : DatN N H x d) : EchN N H (xs ++ [x]) (ds ++ [d]) := h.app (.one h')
theorem EchN.at {N : Addr → Prop} {H : Hp} {xs : List V} {ds : List PyData} {i : Nat} {x : V} (h : EchN N H xs ds) (e : xs[i]? = some x) : ∃ d, ds[i]? = some d ∧ DatN N H x d := by
  have hi : i < ds.length := by rw [← h.1]; exact (List.getElem?_eq_some_iff.mp e).1
  exact ⟨_, List.getElem?_eq_getElem hi, h.2 i x _ e (List.getElem?_eq_getElem hi)⟩
theorem EchN.atM {α : Type} {N : Addr → Prop} {H : Hp} {xs : List V} {f : α → PyData} {ys : List α} {i : Nat} {x : V} (h : EchN N H xs (ys.map f)) (e : xs[i]? = some x) : ∃ y, ys[i]? = some y ∧ DatN N H x (f y) := by
  obtain ⟨d, e1, e2⟩ := h.at e
  rw [List.getElem?_map] at e1
  cases h : ys[i]? with
  | none => rw [h] at e1; cases e1
  | some y => rw [h] at e1; cases e1; exact ⟨y, rfl, e2⟩
theorem DatN.list {N : Addr → Prop} {H : Hp} {v : V} {ds : List PyData} (h : DatN N H v (.list ds)) : ∃ a xs, v = .ref a ∧ N a ∧ H a = some (.lst xs) ∧ EchN N H xs ds := by
  cases h with
  | lst n e l r => exact ⟨_, _, rfl, n, e, l, r⟩
theorem DatN.tuple {N : Addr → Prop} {H : Hp} {v : V} {ds : List PyData} (h : DatN N H v (.tuple ds)) : ∃ a xs, v = .ref a ∧ H a = some (.tup xs) ∧ EchN N H xs ds := by
  cases h with
  | tup e l r => exact ⟨_, _, rfl, e, l, r⟩
theorem EchN.lst {N : Addr → Prop} {H : Hp} {a : Addr} {xs : List V} {ds : List PyData} (h : EchN N H xs ds) (n : N a) (e : H a = some (.lst xs)) : DatN N H (.ref a) (.list ds) := .lst n e h.1 h.2
theorem EchN.tup {N : Addr → Prop} {H : Hp} {a : Addr} {xs : List V} {ds : List PyData} (h : EchN N H xs ds) (e : H a = some (.tup xs)) : DatN N H (.ref a) (.tuple ds) := .tup e h.1 h.2
theorem EchN.inv {N : Addr → Prop} {H : Hp} {xs : List V} {d : PyData} {ds : List PyData} (h : EchN N H xs (d :: ds)) : ∃ x xs', xs = x :: xs' ∧ DatN N H x d ∧ EchN N H xs' ds := by
  cases xs with
  | nil => exact nomatch h.1
  | cons x xs => exact ⟨x, xs, rfl, h.2 0 x d rfl rfl, Nat.succ.inj h.1, fun i y e e1 e2 => h.2 (i + 1) y e e1 e2⟩
theorem EchN.inv0 {N : Addr → Prop} {H : Hp} {xs : List V} (h : EchN N H xs []) : xs = [] := List.eq_nil_of_length_eq_zero h.1
theorem DatN.inv_int {N : Addr → Prop} {H : Hp} {v : V} {i : Int} (h : DatN N H v (.int i)) : v = .int i := by cases h; rfl
theorem DatN.inv_str {N : Addr → Prop} {H : Hp} {v : V} {x : Str} (h : DatN N H v (.str x)) : v = .str x := by cases h; rfl
theorem DatN.inv_non {N : Addr → Prop} {H : Hp} {v : V} (h : DatN N H v .none) : v = .non := by cases h; rfl
theorem DatN.inv_bl {N : Addr → Prop} {H : Hp} {v : V} {b : Bool} (h : DatN N H v (.bool b)) : v = .bl b := by cases h; rfl
theorem echN_ints {N : Addr → Prop} {H : Hp} (ns : List Int) : EchN N H (ns.map V.int) (ns.map PyData.int) := ⟨by rw [List.length_map, List.length_map], fun i x d e1 e2 => by
  rw [List.getElem?_map] at e1 e2
  cases h : ns[i]? with
  | none => rw [h] at e1; cases e1
  | some n =>
    rw [h] at e1 e2
    cases e1
    cases e2
    exact .int n⟩
theorem echN_strs {N : Addr → Prop} {H : Hp} (ns : List Str) : EchN N H (ns.map V.str) (ns.map PyData.str) := ⟨by rw [List.length_map, List.length_map], fun i x d e1 e2 => by
  rw [List.getElem?_map] at e1 e2
  cases h : ns[i]? with
  | none => rw [h] at e1; cases e1
  | some n =>
    rw [h] at e1 e2
    cases e1
    cases e2
    exact .str n⟩
theorem EchN.ints {N : Addr → Prop} {H : Hp} : ∀ {xs : List V} {ns : List Int}, EchN N H xs (ns.map PyData.int) → xs = ns.map V.int
  | _, [], h => h.inv0
  | _, n :: r, h => by
    obtain ⟨x, xs', rfl, h1, h2⟩ := EchN.inv h
    rw [h1.inv_int, EchN.ints h2]
    rfl
theorem EchN.strs {N : Addr → Prop} {H : Hp} : ∀ {xs : List V} {ns : List Str}, EchN N H xs (ns.map PyData.str) → xs = ns.map V.str
  | _, [], h => h.inv0
  | _, n :: r, h => by
    obtain ⟨x, xs', rfl, h1, h2⟩ := EchN.inv h
    rw [h1.inv_str, EchN.strs h2]
    rfl
/-- pairs of whole numbers -/
theorem _root_.GP.Prs.ech {N : Addr → Prop} {H : Hp} {us : List V} {ps : List (Int × Int)} (h : Prs H us ps) : EchN N H us (ps.map pairD) := ⟨by rw [List.length_map]; exact h.1, fun i x d e1 e2 => by
  obtain ⟨p, a, ep, rfl, ea⟩ := prs_at h e1
  rw [List.getElem?_map, ep] at e2
  cases e2
  exact EchN.tup (.cons (.int _) (.one (.int _))) ea⟩
theorem EchN.prs {N : Addr → Prop} {H : Hp} {us : List V} {ps : List (Int × Int)} (h : EchN N H us (ps.map pairD)) : Prs H us ps := ⟨by have := h.1; rwa [List.length_map] at this, fun i p ep => by
  have hi : i < us.length := by
    rw [h.1, List.length_map]
    exact (List.getElem?_eq_some_iff.mp ep).1
  obtain ⟨y, e1, e2⟩ := h.atM (List.getElem?_eq_getElem hi)
  rw [ep] at e1
  cases e1
  obtain ⟨a, xs, ev, ea, r⟩ := e2.tuple
  obtain ⟨x1, r1, rfl, d1, r2⟩ := r.inv
  obtain ⟨x2, r3, rfl, d2, r4⟩ := r2.inv
  rw [r4.inv0, d1.inv_int, d2.inv_int] at ea
  exact ⟨a, by rw [List.getElem?_eq_getElem hi, ev], ea⟩⟩
/-- new since then -/
abbrev NewIn (H : Hp) : Addr → Prop := fun a => H a = none
def setD (ps : List (Int × Int)) : PyData := .list (ps.map pairD)
/-! ### what can be shown -/
structure Shw (n w : Nat) (d : PyData) : Prop where
  sh : d.showable = true
  nd : d.hasDict = false
  dp : d.depth ≤ n
  ls : d.leavesShort 40 = true
  wt : d.weight ≤ w
theorem Shw.mono {n w n' w' : Nat} {d : PyData} (h : Shw n w d) (h1 : n ≤ n') (h2 : w ≤ w') : Shw n' w' d := ⟨h.sh, h.nd, Nat.le_trans h.dp h1, h.ls, Nat.le_trans h.wt h2⟩
theorem Shw.int {n : Nat} {i : Int} (h : i.natAbs < 10 ^ 39) : Shw n 131 (.int i) := by
  refine ⟨?_, by rw [PyData.hasDict], by rw [PyData.depth]; omega, ?_, ?_⟩
  · rw [PyData.showable]
    by_cases z : i.natAbs = 0
    · rw [z]; decide
    · exact decide_eq_true (Nat.lt_trans ((Nat.log2_lt (k := 130) z).mpr (Nat.lt_trans h (by decide))) (by decide))
  · rw [PyData.leavesShort]
    have e := int_text_length_le10 (k := 39) (by decide) h
    refine decide_eq_true ?_
    show (Str.ofString (toString i)).length ≤ 40
    rw [PySem.ofString_length]
    exact e
  · rw [PyData.weight]
    split
    · omega
    · by_cases z : i.natAbs = 0
      · rw [z]; decide
      · have : i.natAbs.log2 < 130 := (Nat.log2_lt z).mpr (Nat.lt_trans h (by decide))
        omega
theorem Shw.str {n w : Nat} {x : Str} (h : PyData.strOk x = true) (hl : x.length ≤ w) : Shw n w (.str x) := by
  refine ⟨by rw [PyData.showable], by rw [PyData.hasDict], by rw [PyData.depth]; omega, ?_, by rw [PyData.weight]; exact hl⟩
  rw [PyData.leavesShort, List.all_eq_true]
  intro c hc
  have h' : x.cps.all (· < 0x110000) = true := h
  rw [Array.all_eq_true'] at h'
  have := of_decide_eq_true (h' c (by simpa using hc))
  exact decide_eq_true (Nat.lt_trans this (by decide))
theorem Shw.none {n w : Nat} : Shw n w .none := ⟨by rw [PyData.showable], by rw [PyData.hasDict], by rw [PyData.depth]; omega, by rw [PyData.leavesShort], by rw [PyData.weight]; omega⟩
theorem Shw.bool {n w : Nat} {b : Bool} : Shw n w (.bool b) := ⟨by rw [PyData.showable], by rw [PyData.hasDict], by rw [PyData.depth]; omega, by rw [PyData.leavesShort], by rw [PyData.weight]; omega⟩
theorem shwAll : ∀ {n w : Nat} {ds : List PyData}, (∀ d ∈ ds, Shw n w d) → PyData.showableAll ds = true ∧ PyData.hasDictAll ds = false ∧ PyData.depthAll ds ≤ n ∧ PyData.leavesShortAll 40 ds = true ∧ PyData.weightAll ds ≤ ds.length * (w + 1)
  | n, w, [], _ => by simp [PyData.leavesShortAll, PyData.weightAll, PyData.showableAll, PyData.hasDictAll, PyData.depthAll]
  | n, w, d :: r, h => by
    obtain ⟨g1, g2, g3, g4, g5⟩ := shwAll (ds := r) fun q hq => h q (List.mem_cons_of_mem _ hq)
    obtain ⟨h1, h2, h3, h4, h5⟩ := h d (List.mem_cons_self ..)
    refine ⟨by rw [PyData.showableAll, h1, g1]; rfl, by rw [PyData.hasDictAll, h2, g2]; rfl, by rw [PyData.depthAll]; omega, by rw [PyData.leavesShortAll, h4, g4]; rfl, ?_⟩
    rw [PyData.weightAll, List.length_cons, Nat.succ_mul]
    omega
theorem Shw.list {n w m W : Nat} {ds : List PyData} (h : ∀ d ∈ ds, Shw n w d) (hl : ds.length ≤ m) (hW : m * (w + 1) ≤ W) : Shw (n + 1) W (.list ds) := by
  obtain ⟨g1, g2, g3, g4, g5⟩ := shwAll h
  have := Nat.mul_le_mul_right (w + 1) hl
  exact ⟨by rw [PyData.showable]; exact g1, by rw [PyData.hasDict]; exact g2, by rw [PyData.depth]; omega, by rw [PyData.leavesShort]; exact g4, by rw [PyData.weight]; omega⟩
theorem Shw.tuple {n w m W : Nat} {ds : List PyData} (h : ∀ d ∈ ds, Shw n w d) (hl : ds.length ≤ m) (hW : m * (w + 1) ≤ W) : Shw (n + 1) W (.tuple ds) := by
  obtain ⟨g1, g2, g3, g4, g5⟩ := shwAll h
  have := Nat.mul_le_mul_right (w + 1) hl
  exact ⟨by rw [PyData.showable]; exact g1, by rw [PyData.hasDict]; exact g2, by rw [PyData.depth]; omega, by rw [PyData.leavesShort]; exact g4, by rw [PyData.weight]; omega⟩
theorem Shw.listM {α : Type} {n w m W : Nat} {f : α → PyData} {ys : List α} (h : ∀ y ∈ ys, Shw n w (f y)) (hl : ys.length ≤ m) (hW : m * (w + 1) ≤ W) : Shw (n + 1) W (.list (ys.map f)) :=
  .list (fun d hd => by obtain ⟨y, hy, rfl⟩ := List.mem_map.mp hd; exact h y hy) (by rw [List.length_map]; exact hl) hW
theorem all2 {α : Type} {P : α → Prop} {x y : α} (h1 : P x) (h2 : P y) : ∀ z ∈ [x, y], P z := fun z hz => by
  rcases List.mem_cons.mp hz with e | e
  · rw [e]; exact h1
  · rw [List.mem_singleton.mp e]; exact h2
theorem all3 {α : Type} {P : α → Prop} {x y u : α} (h1 : P x) (h2 : P y) (h3 : P u) : ∀ z ∈ [x, y, u], P z := fun z hz => by
  rcases List.mem_cons.mp hz with e | e
  · rw [e]; exact h1
  · exact all2 h2 h3 z e
theorem Shw.shown {w : Nat} {d : PyData} (h : Shw 8 w d) (hw : w ≤ 390000) : d.showable = true ∧ d.hasDict = false ∧ d.depth ≤ 8 ∧ d.shown.length ≤ sizeLine :=
  ⟨h.sh, h.nd, h.dp, by
    have z := PyData.shown_le 40 (by decide) d h.ls
    have := h.wt
    exact Nat.le_trans z (Nat.le_trans (show (40 + 2) * d.weight + 40 ≤ 16380040 by omega) (by decide))⟩

/-! ### comprehensions, by what they make -/
/-- a thing's truth, as a test -/
def tTru (K : PySem.W.Frag) (te : TE) : TT := fun σ H Q => te σ H fun x H' => ∃ k, TruV K x H' k ∧ Q k H'
abbrev LcW (J : It) (g : TG) (tt : TT) (te : TE) (vs : List Nat) (σ : L2.St) (D : Addr) (Qd : Hp → Prop) (H1 : Hp) : Prop := ∃ W : Nat → Nat → Hp → Prop, (∃ m, W 0 m (upd H1 D (.lst []))) ∧ ∀ i m H, W i m H →
  (J.stop i H ∧ Qd H) ∨ (J.go i H ∧ ∃ Nx : Hp → Prop, (∀ H', Nx H' → ∃ m', m' < m ∧ W (i + 1) m' H') ∧ ∀ x H', J.yld i H x H' → g x (wipe σ vs) H' fun σ2 H2 => wipe σ2 vs = wipe σ vs ∧ tt σ2 H2 fun b H3 => if b = true then
    te σ2 H3 fun y H4 => ∃ acc, H4 D = some (.lst acc) ∧ acc.length < sizeLine ∧ Nx (upd H4 D (.lst (acc ++ [y]))) else Nx H3)
/-- each item makes something new, all else stays -/
theorem lc_new {J : It} {n : Nat} {G : Hp → Prop} {Y : Nat → Hp → V → Hp → Prop} (w : Walk J n G Y) {g : TG} {tt : TT} {te : TE} {vs : List Nat} {σ : L2.St} {H1 : Hp} {D : Addr} {Qd : Hp → Prop} (ds : List PyData) (nD : H1 D = none) (hn : ds.length = n) (hz : n ≤ 1000) (hG : ∀ H, Same H1 H → G H)
    (turn : ∀ i x d H H' (Kt : V → Hp → Prop) (Kn : Hp → Prop), ds[i]? = some d → Same H1 H → Y i H x H' → (∀ y H4, Same H H4 → DatN (NewIn H) H4 y d → Kt y H4) → g x (wipe σ vs) H' fun σ2 H2 => wipe σ2 vs = wipe σ vs ∧ tt σ2 H2 fun b H3 => if b = true then te σ2 H3 Kt else Kn H3)
    (fin : ∀ H, Same H1 H → DatN (NewIn H1) H (.ref D) (.list ds) → Qd H) : LcW J g tt te vs σ D Qd H1 := by
  refine lc_it w (fun j H => Same H1 H ∧ ∃ ws, H D = some (.lst ws) ∧ EchN (fun a => H1 a = none ∧ a ≠ D) H ws (ds.take j)) ⟨same_upd nD, [], upd_same, .nil⟩ (fun i H _ p => hG H p.1) (fun i x H H' hi hP hy => ?_) (fun H hP => ?_)
  · obtain ⟨sm, ws, eD, hws⟩ := hP
    have hd : ds[i]? = some ds[i] := List.getElem?_eq_getElem (by omega)
    refine turn i x _ H H' _ _ hd sm hy fun y H4 s4 hd4 => ?_
    have eD4 := s4 _ _ eD
    have hl : ws.length ≤ 1000 := by
      rw [hws.1, List.length_take]
      omega
    have hl' : ws.length < 1000 := by
      rw [hws.1, List.length_take]
      omega
    refine ⟨ws, eD4, Nat.lt_of_lt_of_le hl' (by decide), fun b o e => ?_, ws ++ [y], upd_same, ?_⟩
    · rw [upd_ne (ne_of_none e nD)]
      exact s4 _ _ (sm b o e)
    · rw [List.take_add_one, hd]
      have k : Kps (fun a => H1 a = none ∧ a ≠ D) H4 (upd H4 D (.lst (ws ++ [y]))) := .upd eD4 fun a z => z.2
      refine ((hws.same s4).keep k).snoc (DatN.keep (hd4.weak fun a xs (z : H a = none) e => ⟨sm.free z, fun q => ?_⟩) k)
      rw [q, eD] at z
      cases z
  · obtain ⟨sm, ws, eD, hws⟩ := hP
    rw [List.take_of_length_le (by omega)] at hws
    exact fin H sm ((hws.weak fun a _ z _ => z.1).lst nD eD)
/-- each item makes something new by draws -/
theorem lc_draw {α : Type} (f : α → PyData) (R : Nat → α → Prop) (T : Int) {J : It} {n : Nat} {G : Hp → Prop} {Y : Nat → Hp → V → Hp → Prop} (w : Walk J n G Y) {g : TG} {tt : TT} {te : TE} {vs : List Nat} {σ : L2.St} {H1 : Hp} {D d c : Addr} {t1 : Int} {Qd : Hp → Prop} (S1 : StAt H1 d c t1) (nD : H1 D = none) (hz : n ≤ 1000) (hG : ∀ H, Kp d c H1 H → G H)
    (turn : ∀ i x H H' t (Kt : V → Hp → Prop) (Kn : Hp → Prop), i < n → t1 ≤ t → t ≤ t1 + T * (i : Int) → StAt H d c t → Kp d c H1 H → Y i H x H' → (∀ z y t' H4, R i z → DatN (NewIn H) H4 y (f z) → t ≤ t' → t' ≤ t + T → StAt H4 d c t' → Kp d c H H4 → Kt y H4) →
      g x (wipe σ vs) H' fun σ2 H2 => wipe σ2 vs = wipe σ vs ∧ tt σ2 H2 fun b H3 => if b = true then te σ2 H3 Kt else Kn H3)
    (fin : ∀ (H : Hp) (t : Int) (zs : List α), zs.length = n → (∀ (i : Nat) z, zs[i]? = some z → R i z) → t1 ≤ t → t ≤ t1 + T * (n : Int) → StAt H d c t → Kp d c H1 H → DatN (NewIn H1) H (.ref D) (.list (zs.map f)) → Qd H) : LcW J g tt te vs σ D Qd H1 := by
  have off := S1.off nD
  refine lc_it w (fun j H => ∃ (t : Int) (ws : List V) (zs : List α), H D = some (.lst ws) ∧ EchN (fun a => H1 a = none ∧ a ≠ D) H ws (zs.map f) ∧ zs.length = j ∧ (∀ (i : Nat) z, zs[i]? = some z → R i z) ∧ t1 ≤ t ∧ t ≤ t1 + T * (j : Int) ∧ StAt H d c t ∧ Kp d c H1 H)
    ⟨t1, [], [], upd_same, .nil, rfl, (fun _ _ e => nomatch e), Int.le_refl _, by omega, S1.same (same_upd nD), Kp.same d c (same_upd nD)⟩ (fun i H _ hP => ?_) (fun i x H H' hi hP hy => ?_) (fun H hP => ?_)
  · obtain ⟨_, _, _, _, _, _, _, _, _, _, k⟩ := hP
    exact hG H k
  · obtain ⟨t, ws, zs, eD, hws, hzl, hR, t0, t2, hS, k⟩ := hP
    refine turn i x H H' t _ _ hi t0 t2 hS k hy fun z y t' H4 hz' hd4 u0 u1 hS4 k4 => ?_
    have eD4 := k4 _ _ off.1 off.2 eD
    have hwl : ws.length = i := by rw [hws.1, List.length_map, hzl]
    have kk : Kps (fun a => H1 a = none ∧ a ≠ D) H4 (upd H4 D (.lst (ws ++ [y]))) := .upd eD4 fun a z => z.2
    have k1 : Kps (fun a => H1 a = none ∧ a ≠ D) H H4 := .kp k4 hS fun a z q => by
      obtain ⟨cs, ec, _⟩ := S1.cells
      rw [q, ec] at z
      exact nomatch z.1
    refine ⟨ws, eD4, Nat.lt_of_lt_of_le (show ws.length < 1000 by omega) (by decide), t', ws ++ [y], zs ++ [z], upd_same, ?_, by rw [List.length_append, hzl]; rfl, fun j q e => ?_, by omega, ?_, hS4.upd off.1 off.2, fun b o b1 b2 e => ?_⟩
    · rw [List.map_append]
      refine ((hws.keep k1).keep kk).snoc (DatN.keep (hd4.weak fun a xs (z : H a = none) e => ⟨?_, fun q => ?_⟩) kk)
      · cases e1 : H1 a with
        | none => rfl
        | some o =>
          by_cases z1 : a = d
          · rw [z1, hS.dict] at z; cases z
          · by_cases z2 : a = c
            · obtain ⟨cs, ec, _⟩ := hS.cells
              rw [z2, ec] at z; cases z
            · have := k a o z1 z2 e1
              rw [this] at z
              cases z
      · rw [q, eD] at z
        cases z
    · by_cases hj : j < zs.length
      · rw [List.getElem?_append_left hj] at e
        exact hR j q e
      · rw [List.getElem?_append_right (by omega)] at e
        have hj0 : j - zs.length < 1 := (List.getElem?_eq_some_iff.mp e).1
        have ej : j = i := by omega
        subst ej
        rw [hzl, Nat.sub_self] at e
        cases e
        exact hz'
    · have : T * ((i + 1 : Nat) : Int) = T * (i : Int) + T := by
        rw [Int.natCast_add, Int.mul_add]
        omega
      omega
    · rw [upd_ne (ne_of_none e nD)]
      exact k4 b o b1 b2 (k b o b1 b2 e)
  · obtain ⟨t, ws, zs, eD, hws, hzl, hR, t0, t2, hS, k⟩ := hP
    exact fin H t zs hzl hR t0 t2 hS k ((hws.weak fun a _ z _ => z.1).lst nD eD)
/-- those items of which this holds -/
theorem lc_keep {K : PySem.W.Frag} {a : Addr} {xs : List V} (pb : V → Bool) {g : TG} {tt : TT} {te : TE} {vs : List Nat} {σ : L2.St} {H1 : Hp} {D : Addr} {Qd : Hp → Prop} (nD : H1 D = none) (ea : H1 a = some (.lst xs)) (hz : xs.length ≤ 1000)
    (turn : ∀ (i : Nat) (x : V) (H : Hp) (Kt : V → Hp → Prop) (Kn : Hp → Prop), xs[i]? = some x → Same H1 H → (∀ H4, Same H H4 → pb x = true → Kt x H4) → (∀ H4, Same H H4 → pb x = false → Kn H4) → g x (wipe σ vs) H fun σ2 H2 => wipe σ2 vs = wipe σ vs ∧ tt σ2 H2 fun b H3 => if b = true then te σ2 H3 Kt else Kn H3)
    (fin : ∀ H, Same H1 H → H D = some (.lst (xs.filter pb)) → Qd H) : LcW (Itl K a) g tt te vs σ D Qd H1 := by
  refine lc_it walk_list (fun j H => Same H1 H ∧ H D = some (.lst ((xs.take j).filter pb))) ⟨same_upd nD, upd_same⟩ (fun i H _ p => SqL.of (p.1 _ _ ea)) (fun i x H H' hi hP hy => ?_) (fun H hP => ?_)
  · obtain ⟨sm, eD⟩ := hP
    obtain ⟨rfl, hx⟩ := hy
    have et : (xs.take (i + 1)).filter pb = (xs.take i).filter pb ++ (if pb x = true then [x] else []) := by
      rw [List.take_add_one, hx, List.filter_append]
      by_cases c : pb x = true
      · rw [if_pos c]
        show _ ++ List.filter pb [x] = _
        rw [List.filter_cons_of_pos c]
        rfl
      · rw [if_neg c]
        show _ ++ List.filter pb [x] = _
        rw [List.filter_cons_of_neg c]
        rfl
    have hl : ((xs.take i).filter pb).length ≤ i := Nat.le_trans (List.length_filter_le ..) (by rw [List.length_take]; omega)
    refine turn i x H' _ _ hx sm (fun H4 s4 c => ?_) (fun H4 s4 c => ?_)
    · refine ⟨_, s4 _ _ eD, Nat.lt_of_lt_of_le (show _ < 1000 by omega) (by decide), fun b o e => ?_, ?_⟩
      · rw [upd_ne (ne_of_none e nD)]
        exact s4 _ _ (sm b o e)
      · rw [upd_same, et, if_pos c]
    · refine ⟨sm.trans s4, ?_⟩
      rw [et, if_neg (by rw [c]; decide), List.append_nil]
      exact s4 _ _ eD
  · obtain ⟨sm, eD⟩ := hP
    rw [List.take_length] at eD
    exact fin H sm eD
theorem lc_new_seq {K : PySem.W.Frag} {a : Addr} {xs : List V} {g : TG} {tt : TT} {te : TE} {vs : List Nat} {σ : L2.St} {H1 : Hp} {Qd : Addr → Hp → Prop} (hq : SqH H1 a xs) (ds : List PyData) (hn : ds.length = xs.length) (hz : xs.length ≤ 1000)
    (turn : ∀ (i : Nat) (x : V) (d : PyData) (H : Hp) (Kt : V → Hp → Prop) (Kn : Hp → Prop), xs[i]? = some x → ds[i]? = some d → Same H1 H → (∀ y H4, Same H H4 → DatN (NewIn H) H4 y d → Kt y H4) → g x (wipe σ vs) H fun σ2 H2 => wipe σ2 vs = wipe σ vs ∧ tt σ2 H2 fun b H3 => if b = true then te σ2 H3 Kt else Kn H3)
    (fin : ∀ D H, H1 D = none → Same H1 H → DatN (NewIn H1) H (.ref D) (.list ds) → Qd D H) :
    ((∃ xs, SqL K H1 a xs) ∧ ∀ D, H1 D = none → LcR (Itl K a) g tt te vs σ D Qd H1) ∨ ((∃ xs, SqT K H1 a xs) ∧ ∀ D, H1 D = none → LcR (Itt K a) g tt te vs σ D Qd H1) := by
  rcases hq with h | h
  · exact .inl ⟨⟨xs, SqL.of h⟩, fun D nD => lc_new (walk_list (xs := xs)) ds nD hn hz (fun H s => SqL.of (s _ _ h)) (fun i x d H H' Kt Kn hd sm hy k => by obtain ⟨rfl, hx⟩ := hy; exact turn i x d H' Kt Kn hx hd sm k) (fun H s d => fin D H nD s d)⟩
  · exact .inr ⟨⟨xs, .inl (.inl h)⟩, fun D nD => lc_new (walk_tup (xs := xs)) ds nD hn hz (fun H s => .inl (.inl (s _ _ h))) (fun i x d H H' Kt Kn hd sm hy k => by obtain ⟨rfl, hx⟩ := hy; exact turn i x d H' Kt Kn hx hd sm k) (fun H s d => fin D H nD s d)⟩
theorem lc_new_list {K : PySem.W.Frag} {a : Addr} {xs : List V} {g : TG} {tt : TT} {te : TE} {vs : List Nat} {σ : L2.St} {H1 : Hp} {D : Addr} {Qd : Hp → Prop} (nD : H1 D = none) (hq : H1 a = some (.lst xs)) (ds : List PyData) (hn : ds.length = xs.length) (hz : xs.length ≤ 1000)
    (turn : ∀ (i : Nat) (x : V) (d : PyData) (H : Hp) (Kt : V → Hp → Prop) (Kn : Hp → Prop), xs[i]? = some x → ds[i]? = some d → Same H1 H → (∀ y H4, Same H H4 → DatN (NewIn H) H4 y d → Kt y H4) → g x (wipe σ vs) H fun σ2 H2 => wipe σ2 vs = wipe σ vs ∧ tt σ2 H2 fun b H3 => if b = true then te σ2 H3 Kt else Kn H3)
    (fin : ∀ H, Same H1 H → DatN (NewIn H1) H (.ref D) (.list ds) → Qd H) : LcW (Itl K a) g tt te vs σ D Qd H1 :=
  lc_new (walk_list (xs := xs)) ds nD hn hz (fun H s => SqL.of (s _ _ hq)) (fun i x d H H' Kt Kn hd sm hy k => by obtain ⟨rfl, hx⟩ := hy; exact turn i x d H' Kt Kn hx hd sm k) fin

open Classical in
/-- the one list of a set -/
noncomputable def canon (pr : Int → Prop) : List (Int × Int) := if h : ∃ rs, Told pr rs then Classical.choose h else []
theorem Told.canon {pr : Int → Prop} {rs : List (Int × Int)} (h : Told pr rs) : rs = canon pr := by
  unfold TK.canon
  rw [dif_pos ⟨rs, h⟩]
  exact h.one (Classical.choose_spec (p := fun rs => Told pr rs) ⟨rs, h⟩) fun _ => Iff.rfl
theorem canon_cong {pr pr' : Int → Prop} (h : ∀ n, pr n ↔ pr' n) : canon pr = canon pr' := by rw [show pr = pr' from funext fun n => propext (h n)]

theorem nodup_len {α : Type} [DecidableEq α] : ∀ {l m : List α}, l.Nodup → (∀ x ∈ l, x ∈ m) → l.length ≤ m.length
  | [], _, _, _ => Nat.zero_le _
  | x :: r, m, nd, h => by
    have nx := (List.nodup_cons.mp nd).1
    have ih := nodup_len (m := m.erase x) (List.nodup_cons.mp nd).2 fun y hy => by
      have hne : y ≠ x := fun e => nx (e ▸ hy)
      exact (List.mem_erase_of_ne hne).mpr (h y (List.mem_cons_of_mem _ hy))
    have e := List.length_erase_of_mem (h x (List.mem_cons_self ..))
    have pos : 0 < m.length := List.length_pos_of_mem (h x (List.mem_cons_self ..))
    rw [List.length_cons]
    omega

/-! ### numbers within their bounds; texts as lists of signs -/
theorem mulw {i j : Int} (hi : i.natAbs < 2 ^ 250) (hj : j.natAbs < 2 ^ 250) : CMulW i j := wide_mul hi hj (by decide) (by decide) (by decide)
theorem divw {i j : Int} (h : 0 < j) (hj : j.natAbs < 2 ^ 250) : CDivW i j := wide_div h hj (by decide) (by decide)
theorem S_of (z : Str) : z = SX.S z.cps.toList := (SX.S_tl z).symm
theorem S_cps (a : List Nat) : (SX.S a).cps.toList = a := by simp [SX.S]
theorem cutS_take (a : List Nat) (k : Nat) : cutS (SX.S a) none (some (k : Int)) = SX.S (a.take k) := by
  unfold cutS
  rw [HT.sIx_none, HT.sIx_nat, SX.S_len, S_cps, List.drop_zero, Nat.sub_zero]
  by_cases h : k ≤ a.length
  · rw [Nat.min_eq_left h]
  · rw [Nat.min_eq_right (by omega), List.take_of_length_le (Nat.le_refl _), List.take_of_length_le (by omega)]
theorem cutS_drop (a : List Nat) (k : Nat) : cutS (SX.S a) (some (k : Int)) none = SX.S (a.drop k) := by
  unfold cutS
  rw [HT.sIx_none, HT.sIx_nat, SX.S_len, S_cps]
  by_cases h : k ≤ a.length
  · rw [Nat.min_eq_left h, List.take_of_length_le (by rw [List.length_drop]; omega)]
  · rw [Nat.min_eq_right (by omega), List.drop_eq_nil_of_le (Nat.le_refl _), List.drop_eq_nil_of_le (by omega), List.take_nil]
theorem cutS_mid (a : List Nat) (i j : Nat) : cutS (SX.S a) (some (i : Int)) (some (j : Int)) = SX.S ((a.drop i).take (j - i)) := by
  unfold cutS
  rw [HT.sIx_nat, HT.sIx_nat, SX.S_len, S_cps]
  by_cases h : i ≤ a.length
  · rw [Nat.min_eq_left h]
    by_cases h2 : j ≤ a.length
    · rw [Nat.min_eq_left h2]
    · rw [Nat.min_eq_right (by omega), List.take_of_length_le (by rw [List.length_drop]; omega), List.take_of_length_le (by rw [List.length_drop]; omega)]
  · rw [Nat.min_eq_right (by omega : a.length ≤ i), List.drop_eq_nil_of_le (Nat.le_refl _), List.drop_eq_nil_of_le (by omega), List.take_nil, List.take_nil]
/-- the sign at a place within -/
theorem sign_at {a : List Nat} {j : Nat} (h : j < a.length) : atI (SX.S a).cps.toList (j : Int) = some a[j] := by
  rw [S_cps]
  exact atI_nat (List.getElem?_eq_getElem h)
theorem S_le {a : List Nat} (h : a.length ≤ 10000) : (SX.S a).length ≤ sizeLine := by rw [SX.S_len]; exact Nat.le_trans h (by decide)
theorem strOk_S {a : List Nat} (h : ∀ c ∈ a, c < 1114112) : PyData.strOk (SX.S a) = true := by
  show (Array.all _ _) = true
  rw [Array.all_eq_true']
  intro c hc
  exact decide_eq_true (h c (by simpa using hc))
theorem join_signs (cs : List Nat) : Txt.join "" (cs.map sgS) = SX.S cs := by
  have z := SX.join_S [] (cs.map fun c => [c])
  rw [joinL_ones, List.map_map] at z
  exact z
theorem join_fits {cs : List Nat} (h : cs.length ≤ 10000) : ((cs.map sgS).map (·.length)).sum + (cs.map sgS).length * ("" : Str).length ≤ 16777216 := by
  have e : ∀ cs : List Nat, ((cs.map sgS).map (·.length)).sum = cs.length := fun cs => by
    induction cs with
    | nil => rfl
    | cons c r ih =>
      rw [List.map_cons, List.map_cons, List.sum_cons, ih, List.length_cons]
      show 1 + r.length = r.length + 1
      omega
  rw [e, show ("" : Str).length = 0 from rfl, Nat.mul_zero]
  omega

/-! ### what stands where: pairs in a list or a tuple -/
def PrA (K : PySem.W.Frag) (H : Hp) (a : Addr) (ps : List (Int × Int)) : Prop := ∃ us, Sq K H a us ∧ Prs H us ps
def LsA (H : Hp) (a : Addr) (ps : List (Int × Int)) : Prop := ∃ us, H a = some (.lst us) ∧ Prs H us ps
theorem LsA.pr {K : PySem.W.Frag} {H : Hp} {a : Addr} {ps : List (Int × Int)} (h : LsA H a ps) : PrA K H a ps := let ⟨us, e, p⟩ := h; ⟨us, Sq.list e, p⟩
theorem LsA.same {H H' : Hp} {a : Addr} {ps : List (Int × Int)} (h : LsA H a ps) (s : Same H H') : LsA H' a ps := let ⟨us, e, p⟩ := h; ⟨us, s _ _ e, p.same s⟩
theorem PrA.same {K : PySem.W.Frag} {H H' : Hp} {a : Addr} {ps : List (Int × Int)} (h : PrA K H a ps) (s : Same H H') : PrA K H' a ps := let ⟨us, e, p⟩ := h; ⟨us, e.same s, p.same s⟩
theorem LsA.nil {H : Hp} {a : Addr} (e : H a = some (.lst [])) : LsA H a [] := ⟨[], e, Prs.nil⟩
theorem LsA.dp {K : PySem.W.Frag} {H : Hp} {a : Addr} {ps : List (Int × Int)} (h : LsA H a ps) : Dp K H (.ref a) (.list (ps.map pairD)) := let ⟨_, e, p⟩ := h; .lst (SqL.of e) (dp_prs p)
/-- a told set: a new list -/
def TellS (pr : Int → Prop) (m : Nat) (H : Hp) (Q : VK) : Prop := ∀ l rs H', H l = none → LsA H' l rs → Told pr rs → rs.length ≤ m → Same H H' → Q (.ref l) H'

open G3
/-! ### parts as data -/
def partD (p : Part) : PyData := .tuple [.str p.1, .int p.2.1, .int p.2.2]
theorem pts_tail {H : Hp} {u : V} {us : List V} {p : Part} {ps : List Part} (h : Pts H (u :: us) (p :: ps)) : PtV H u p ∧ Pts H us ps :=
  ⟨h.2 0 u p rfl rfl, Nat.succ.inj h.1, fun i v q e1 e2 => h.2 (i + 1) v q e1 e2⟩
theorem dp_pts {K : PySem.W.Frag} {H : Hp} : ∀ {us : List V} {ps : List Part}, Pts H us ps → DpAll K H us (ps.map partD)
  | [], [], _ => .nil
  | [], _ :: _, h => nomatch h.1
  | _ :: _, [], h => nomatch h.1
  | u :: us, p :: ps, h => by
    obtain ⟨⟨a, eu, e2⟩, hr⟩ := pts_tail h
    subst eu
    exact .cons (.tup (.inl (.inl e2)) (.cons (.str _) (.cons (.int _) (.cons (.int _) .nil)))) (dp_pts hr)
theorem lay_pts : ∀ {ps : List Part}, (∀ p ∈ ps, PyData.strOk p.1 = true) → PyData.canLayAll0 (ps.map partD) = true
  | [], _ => by simp only [List.map_nil, PyData.canLayAll0]
  | p :: r, h => by
    rw [List.map_cons, PyData.canLayAll0, lay_pts fun q hq => h q (List.mem_cons_of_mem _ hq)]
    have := h p (List.mem_cons_self ..)
    simp only [partD, PyData.canLay0, PyData.canLayAll0, this, Bool.and_true]
theorem depth_pts : ∀ ps : List Part, PyData.depthAll (ps.map partD) ≤ 1
  | [] => by simp only [List.map_nil, PyData.depthAll]; omega
  | p :: r => by
    rw [List.map_cons, PyData.depthAll]  -- a part, and what is behind it
    have := depth_pts r
    simp [partD, PyData.depth, PyData.depthAll]
    omega
theorem shaped_pts {ps : List Part} (h : ∀ p ∈ ps, PyData.strOk p.1 = true) : SeqAt.shaped (PyData.list (ps.map partD)) = true := by
  unfold SeqAt.shaped
  rw [PyData.canLay0, lay_pts h, PyData.depth, Bool.true_and]
  exact decide_eq_true (by have := depth_pts ps; omega)
theorem eqv_pts {ps : List Part} (h : ∀ p ∈ ps, PyData.strOk p.1 = true) : PyData.eqv (PyData.list (ps.map partD)) (PyData.list (ps.map partD)) = true := SeqAt.eqv_refl _ (by rw [PyData.canLay0]; exact lay_pts h)
theorem eqv_pts_nil (ps : List Part) : PyData.eqv (PyData.list (ps.map partD)) (PyData.list []) = ps.isEmpty := by
  cases ps with
  | nil => simp [PyData.eqv, PyData.eqvAll]
  | cons p r => simp [PyData.eqv, PyData.eqvAll]
theorem pts_dat {H : Hp} {a : Addr} {us : List V} {ps : List Part} (e : H a = some (.lst us)) (h : Pts H us ps) : Dat H (.ref a) (.list (ps.map partD)) := .lst e (by rw [List.length_map]; exact h.1) fun i x d e1 e2 => by
  obtain ⟨p, ep, b, rfl, eb⟩ := Pts.at h e1
  rw [List.getElem?_map, ep] at e2
  have ed : partD p = d := Option.some.inj e2
  rw [← ed]
  refine .tup eb rfl fun j y d f1 f2 => ?_
  have hj : j < 3 := (List.getElem?_eq_some_iff.mp f1).1
  have : j = 0 ∨ j = 1 ∨ j = 2 := by omega
  rcases this with rfl | rfl | rfl
  · cases f1; cases f2; exact .str _
  · cases f1; cases f2; exact .int _
  · cases f1; cases f2; exact .int _
theorem sm_pts {ps : List Part} (h : ps.length ≤ 900) : Sm 2 (.list (ps.map partD)) := by
  refine ⟨by rw [List.length_map]; exact h, fun d hd => ?_⟩
  obtain ⟨p, _, rfl⟩ := List.mem_map.mp hd
  refine ⟨by show 3 ≤ 900; decide, fun d hd => ?_⟩
  rcases List.mem_cons.mp hd with e | hd
  · rw [e]; trivial
  rcases List.mem_cons.mp hd with e | hd
  · rw [e]; trivial
  · rw [List.mem_singleton.mp hd]; trivial
theorem noBl_pts (ps : List Part) : NoBl (.list (ps.map partD)) := by
  rw [NoBl]
  refine noBls_of fun d hd => ?_
  obtain ⟨p, _, rfl⟩ := List.mem_map.mp hd
  simp only [partD, NoBl, NoBls, and_self]

open G3
/-! ### _law_parts_by -/
abbrev sParts : Stmt := topS 13
theorem scParts : FnScope ["_law_state", "_law_marks", "_law_many", "_law_great", "_law_parts", "_law_turn", "_law_mark", "_law_first", "_law_near"] ["_law_state", "_law_marks", "_law_many", "_law_great"] (defScope sParts) := ⟨rfl, rfl, rfl, by decide +kernel, rfl, by decide +kernel, by decide +kernel⟩
/-- how great: few, or of thirty figures -/
def grB (gr : Int) : Int := if gr = 0 then 40 else 10 ^ 30
def StX (xs : List Str) (m : Str) : Prop := PyData.strOk m = true ∧ m ∈ xs
def Drawn (xs : List Str) (gr : Int) (n : Nat) (p : Part) : Prop := StX xs p.1 ∧ 0 ≤ p.2.1 ∧ p.2.1 ≤ p.2.2 ∧ p.2.2 ≤ 2 * grB gr * n ∧ p.2.2 - p.2.1 < grB gr
theorem grB_pos (gr : Int) : 40 ≤ grB gr := by unfold grB; split <;> decide
theorem Drawn.up {xs : List Str} {gr : Int} {n : Nat} {p : Part} (h : Drawn xs gr n p) : Drawn xs gr (n + 1) p := by
  obtain ⟨h1, h2, h3, h4, h5⟩ := h
  have := grB_pos gr
  refine ⟨h1, h2, h3, Int.le_trans h4 ?_, h5⟩
  rw [Int.natCast_add, Int.mul_add]
  omega
def spParts : Sp := fun vs H Q _ => ∃ (d c ml : Addr) (t m gr : Int) (xs : List Str), vs = [.ref d, .ref ml, .int m, .int gr] ∧ StAt H d c t ∧ t + 300 < 2 ^ 60 ∧ H ml = some (.lst (xs.map V.str)) ∧ (∀ x ∈ xs, PyData.strOk x = true) ∧ xs ≠ [] ∧ xs.length ≤ 100 ∧ 0 ≤ m ∧ m ≤ 12 ∧ (gr = 0 ∨ gr = 1) ∧
  ∀ l (us : List V) (ps : List Part) (t' : Int) H', H l = none → H' l = some (.lst us) → Pts H' us ps → (ps.length : Int) = m → (∀ p ∈ ps, Drawn xs gr ps.length p) → t ≤ t' → t' ≤ t + 20 * m → StAt H' d c t' → Kp d c H H' → Q (.ref l) H'
def PartsW (xs : List Str) (H : Hp) (d c ml l : Addr) (t m gr : Int) (i : Nat) (σ : L2.St) (Hx : Hp) : Prop := ∃ (us : List V) (ps : List Part) (t' : Int) (y5 y6 y7 y8 : Option V), σ = [some (.ref d), some (.ref ml), some (.int m), some (.int gr), some (.ref l), y5, y6, y7, y8] ∧ Hx l = some (.lst us) ∧ Pts Hx us ps ∧ ps.length = i ∧ (∀ p ∈ ps, Drawn xs gr i p) ∧ t ≤ t' ∧ t' ≤ t + 20 * i ∧ StAt Hx d c t' ∧ Kp d c H Hx
section
variable {K : PySem.W.Frag} {mg : Str → Option Value} {P : Program} {w : World} {base : Heap}
theorem ok_parts {f : Addr} {fd : FuncData} (F : Fun K "_law_parts_by" "_law_parts_by" sParts f fd) (CT : Cal P w K mg base 1 "_law_take" ["_law_state", "_law_many"] spTake) (CN : Cal P w K mg base 2 "_law_number" ["_law_state", "_law_sort"] spNumber) (mr : mg "range" = none) (me : mg "len" = none) (mx : mg "max" = none) : FnOk P w K mg base CX0 3 f fd ["_law_state", "_law_marks", "_law_many", "_law_great"] spParts := by
  refine F.ok scParts (fun vs H Q E h => ?_) (fun cdv A outer s H vs Q E hr h => ?_)
  · obtain ⟨d, c, ml, t, m, gr, xs, rfl, _⟩ := h
    rfl
  · obtain ⟨d, c, ml, t, m, gr, xs, rfl, hS, ht, em, hxs, hne, hxl, m0, m1, hgr, q⟩ := h
    have hr1 := hr.mono (show 1 ≤ 2 by decide)
    refine ⟨_, pss_cons (ps_set (i := 4) scParts.nd rfl (.inl rfl) (pe_lst pa_nil))
      (pss_cons (ps_for PassesOwn.never rfl (pi_range1 rfl mr (pa_cons (pv 2) pa_nil)) (pg_name (i := 5) scParts.nd rfl (.inl rfl))
        (pss_cons (ps_par rfl scParts.nd (i := 6) (j := 7) rfl rfl (by decide) rfl rfl (pa_cons (pe_ix ix_list (pv 1) (pe_own CT hr1 (by rfl) (pa_cons (pv 0) (pa_cons (pe_callB call_len_seq (by rfl) me PySem.boot_len (pa_cons (pv 1) pa_nil)) pa_nil))) (fun _ _ => rfl)) (pa_cons (pe_own CN hr (by rfl) (pa_cons (pv 0) (pa_cons (pe_ix ix_list (pe_lst (pa_cons pe_int (pa_cons pe_int pa_nil))) (pv 3) (fun _ _ => rfl)) pa_nil))) pa_nil)) (by rfl))
        (Evl.pss_cut (ps_if (PW.pt (pw_and (pt_cmpR (op_neD hr.units) (pv 4) (pe_lst pa_nil) (nomark _)) (pw_and1 (pt_cmpR op_eq (pe_own CT hr1 (by rfl) (pa_cons (pv 0) (pa_cons pe_int pa_nil))) pe_int (nomark _)))))
          (pss_cons (ps_set (i := 8) scParts.nd rfl (.inl rfl) (pe_ix ix_list (pv 4) (pe_own CT hr1 (by rfl) (pa_cons (pv 0) (pa_cons (pe_callB call_len_seq (by rfl) me PySem.boot_len (pa_cons (pv 4) pa_nil)) pa_nil))) (fun _ _ => rfl)))
          (pss_one (ps_par rfl scParts.nd (i := 6) (j := 7) rfl rfl (by decide) rfl rfl (pa_cons (pe_ix ix_tup (pv 8) pe_int (fun _ _ => rfl)) (pa_cons (pe_ix ix_list (pe_lst (pa_cons (pe_ix ix_tup (pv 8) pe_int (fun _ _ => rfl)) (pa_cons (pe_ix ix_tup (pv 8) pe_int (fun _ _ => rfl)) (pa_cons (pe_op op_add (pe_ix ix_tup (pv 8) pe_int (fun _ _ => rfl)) pe_int) (pa_cons (pe_callB (call_max2 rfl) (by rfl) mx (by decide +kernel) (pa_cons pe_int (pa_cons (pe_op op_sub (pe_ix ix_tup (pv 8) pe_int (fun _ _ => rfl)) pe_int) pa_nil))) pa_nil))))) (pe_own CT hr1 (by rfl) (pa_cons (pv 0) (pa_cons pe_int pa_nil))) (fun _ _ => rfl)) pa_nil)) (by rfl)))) pss_nil)
        (pss_one (ps_expr (pe_bm PySem.F.plainAttrs_list PySem.F.slot_list_append PySem.F.type_list_append mt_append (pv 4) (pa_cons (pe_tup (pa_cons (pv 6) (pa_cons (pv 7) (pa_cons (pe_op op_add (pv 7) (pe_own CN hr (by rfl) (pa_cons (pv 0) (pa_cons (pe_ix ix_list (pe_ix ix_list (pe_lst (pa_cons (pe_lst (pa_cons pe_int (pa_cons pe_int pa_nil))) (pa_cons (pe_lst (pa_cons pe_int (pa_cons pe_int pa_nil))) pa_nil))) (pv 3) (fun _ _ => rfl)) (pe_own CT hr1 (by rfl) (pa_cons (pv 0) (pa_cons pe_int pa_nil))) (fun _ _ => rfl)) pa_nil)))) pa_nil)))) pa_nil)))))))
      (pss_one (ps_ret (pv 4)))), ?_⟩
    refine ⟨Nat.zero_le _, fun l nl => ?_⟩
    have s1 := same_upd (o := .lst []) nl
    have offl := hS.off nl
    have G := grB_pos gr
    refine ⟨_, rfl, m, rfl, by omega, by omega, for_range (n := m.toNat) (PartsW xs H d c ml l t m gr)
      ⟨[], [], t, _, _, _, _, rfl, upd_same, Pts.nil, rfl, (fun _ z => nomatch z), by omega, by omega, hS.same s1, Kp.same d c s1⟩ (fun i σ Hx hi hP => ?_) (fun σ Hx hP => ?_)⟩
    · obtain ⟨us, ps, t', y5, y6, y7, y8, rfl, el, hus, hpl, hps, u0, u1, hSx, kx⟩ := hP
      have hi12 : i < 12 := by omega
      have hul : us.length = i := by rw [hus.1, hpl]
      have emx := kx.lst hS em (noInt_strs xs)
      have lenm : (xs.map V.str).length = xs.length := List.length_map ..
      have hxp : 0 < xs.length := List.length_pos_iff.mpr hne
      -- a mark, a first tin
      refine ⟨_, rfl, _, rfl, _, rfl, ml, _, rfl, Sq.list emx, d, c, t', (xs.length : Int), by rw [lenm]; rfl, hSx, by omega, by omega, by omega, fun r H1 r0 r1 hS1 k1 => ?_⟩
      obtain ⟨jr, rfl⟩ := Int.eq_ofNat_of_zero_le r0
      have hjr : jr < xs.length := by omega
      have hat : atI (xs.map V.str) (jr : Int) = some (.str xs[jr]) := atI_nat (by rw [List.getElem?_map, List.getElem?_eq_getElem hjr]; rfl)
      refine ⟨ml, _, (jr : Int), .str xs[jr], rfl, rfl, SqL.of (k1.lst hSx emx (noInt_strs xs)), hat, ?_⟩
      refine ⟨_, rfl, (by show 2 ≤ sizeLine; decide), fun z nz => ?_⟩
      have sz := same_upd (o := .lst [.int 1, .int 3]) nz
      obtain ⟨kd, kd0, kdB, hat2⟩ : ∃ kd : Int, 0 ≤ kd ∧ sortB kd = grB gr ∧ atI [V.int 1, V.int 3] gr = some (.int kd) := by
        rcases hgr with rfl | rfl
        · exact ⟨1, by decide, by decide, rfl⟩
        · exact ⟨3, by decide, by decide, rfl⟩
      refine ⟨_, rfl, z, _, gr, .int kd, rfl, rfl, SqL.of upd_same, hat2, d, c, t' + 1, kd, rfl, hS1.same sz, by omega, kd0, fun f t2 H2 f0 f1 v0 v1 hS2 k2 => ?_⟩
      rw [kdB] at f1
      have k02 : Kp d c Hx H2 := k1.trans ((Kp.same d c sz).trans k2)
      have hA : (0 : Int) ≤ 2 * grB gr * (i : Int) := Int.mul_nonneg (by omega) (by omega)
      have hA1 : 2 * grB gr * ((i + 1 : Nat) : Int) = 2 * grB gr * (i : Int) + 2 * grB gr := by rw [Int.natCast_add, Int.mul_add]; simp
      have offl2 := offl
      have el2 := k02 _ _ offl.1 offl.2 el
      have hus2 := Pts.kp hus hSx k02
      have k2' : Kp d c H H2 := kx.trans k02
      refine ⟨_, _, rfl, ?_⟩
      refine ⟨fun σ' H' => ∃ (mk : Str) (fi t3 : Int) (y8 : Option V), σ' = [some (.ref d), some (.ref ml), some (.int m), some (.int gr), some (.ref l), some (.int (0 + (i : Int))), some (.str mk), some (.int fi), y8] ∧ StX xs mk ∧ 0 ≤ fi ∧ fi ≤ 2 * grB gr * (i : Int) + grB gr ∧ t2 ≤ t3 ∧ t3 ≤ t2 + 3 ∧ H' l = some (.lst us) ∧ Pts H' us ps ∧ StAt H' d c t3 ∧ Kp d c H H', ?_, fun σ' H' hM => ?_⟩
      · -- near another one
        refine ⟨_, rfl, Nat.zero_le _, fun z2 nz2 => ?_⟩
        have sz2 := same_upd (o := .lst []) nz2
        refine ⟨_, _, .lst (SqL.of (sz2 _ _ el2)) (dp_pts (Pts.same hus2 sz2)), .lst (SqL.of upd_same) .nil, shaped_pts (fun p hp => (hps p hp).1.1), shaped_pts (ps := []) (fun _ z => nomatch z), _, rfl, ?_⟩
        have k3 : Kp d c H2 (upd H2 z2 (.lst [])) := Kp.same d c sz2
        have hS3 := hS2.same sz2
        have el3 := sz2 _ _ el2
        have hus3 := Pts.same hus2 sz2
        revert k3 hS3 el3 hus3
        generalize upd H2 z2 (.lst []) = H3
        intro k3 hS3 el3 hus3
        rw [eqv_pts_nil]
        refine ite2 (fun c1 => ?_) (fun c1 => ?_)
        · have hne2 : ps ≠ [] := fun z => by rw [z] at c1; exact absurd c1 (by decide)
          have hip : 0 < ps.length := List.length_pos_iff.mpr hne2
          refine ⟨_, rfl, d, c, t2, 2, rfl, hS3, by omega, by decide, by decide, fun r4 H4 r40 r41 hS4 k4 => ⟨rfl, _, rfl, ?_⟩⟩
          have el4 := k4 _ _ offl.1 offl.2 el3
          have hus4 := Pts.kp hus3 hS3 k4
          have k04 := (k2'.trans k3).trans k4
          refine ite2 (fun c2 => ?_) (fun c2 => ?_)
          · refine ⟨_, rfl, _, rfl, _, rfl, l, _, rfl, Sq.list el4, d, c, t2 + 1, (us.length : Int), rfl, hS4, by omega, by omega, by omega, fun r5 H5 r50 r51 hS5 k5 => ?_⟩
            obtain ⟨j5, rfl⟩ := Int.eq_ofNat_of_zero_le r50
            have hj5 : j5 < us.length := by omega
            have hus5 := Pts.kp hus4 hS4 k5
            have el5 := k5 _ _ offl.1 offl.2 el4
            obtain ⟨p, ep, g, eg0, eg⟩ := Pts.at hus5 (List.getElem?_eq_getElem hj5)
            obtain ⟨o0, o1, o2, o3, o4⟩ := hps p (List.mem_of_getElem? ep)
            refine ⟨l, _, (j5 : Int), .ref g, rfl, rfl, SqL.of el5, atI_nat (by rw [List.getElem?_eq_getElem hj5, eg0]), ?_⟩
            refine ⟨_, rfl, g, _, 0, .str p.1, rfl, rfl, .inl (.inl eg), atI_nat (j := 0) rfl, ?_⟩
            refine ⟨_, rfl, g, _, 1, .int p.2.1, rfl, rfl, .inl (.inl eg), atI_nat (j := 1) rfl, _, rfl, g, _, 2, .int p.2.2, rfl, rfl, .inl (.inl eg), atI_nat (j := 2) rfl, _, rfl, g, _, 2, .int p.2.2, rfl, rfl, .inl (.inl eg), atI_nat (j := 2) rfl, p.2.2, 1, rfl, rfl, _, rfl, g, _, 1, .int p.2.1, rfl, rfl, .inl (.inl eg), atI_nat (j := 1) rfl, p.2.1, 1, rfl, rfl, 0, p.2.1 - 1, rfl, (by show 4 ≤ sizeLine; decide), fun z6 nz6 => ?_⟩
            have sz6 := same_upd (o := .lst [.int p.2.1, .int p.2.2, .int (p.2.2 + 1), .int (if p.2.1 - 1 > 0 then p.2.1 - 1 else 0)]) nz6
            have off6 := hS5.off nz6
            refine ⟨_, rfl, d, c, t2 + 1 + 1, 4, rfl, hS5.same sz6, by omega, by decide, by decide, fun r7 H7 r70 r71 hS7 k7 => ?_⟩
            obtain ⟨fv, fv0, fv1, hat7⟩ : ∃ fv : Int, 0 ≤ fv ∧ fv ≤ p.2.2 + 1 ∧ atI [V.int p.2.1, V.int p.2.2, V.int (p.2.2 + 1), V.int (if p.2.1 - 1 > 0 then p.2.1 - 1 else 0)] r7 = some (.int fv) := by
              have : r7 = 0 ∨ r7 = 1 ∨ r7 = 2 ∨ r7 = 3 := by omega
              rcases this with rfl | rfl | rfl | rfl
              · exact ⟨_, o1, by omega, rfl⟩
              · exact ⟨_, by omega, by omega, rfl⟩
              · exact ⟨_, by omega, by omega, rfl⟩
              · exact ⟨_, by split <;> omega, by split <;> omega, rfl⟩
            have k57 : Kp d c H5 H7 := (Kp.same d c sz6).trans k7
            refine ⟨z6, _, r7, .int fv, rfl, rfl, SqL.of (k7 _ _ off6.1 off6.2 upd_same), hat7, _, _, rfl, ?_⟩
            exact ⟨p.1, fv, t2 + 1 + 1 + 1, _, rfl, o0, fv0, by omega, by omega, by omega, k57 _ _ offl.1 offl.2 el5, Pts.kp hus5 hS5 k57, hS7, (k04.trans k5).trans k57⟩
          · exact ⟨xs[jr], f, t2 + 1, _, rfl, ⟨hxs _ (List.getElem_mem hjr), List.getElem_mem hjr⟩, f0, by omega, by omega, by omega, el4, hus4, hS4, k04⟩
        · exact iteF ⟨xs[jr], f, t2, _, rfl, ⟨hxs _ (List.getElem_mem hjr), List.getElem_mem hjr⟩, f0, by omega, by omega, by omega, el3, hus3, hS3, k2'.trans k3⟩
      · obtain ⟨mk, fi, t3, y8', rfl, hmk, fi0, fi1, w0, w1, el3, hus3, hS3, k03⟩ := hM
        refine ⟨_, rfl, .inl ⟨rfl, _, SqL.of el3⟩, _, rfl, _, rfl, _, rfl, _, rfl, (by show 2 ≤ sizeLine; decide), fun z1 nz1 => ⟨(by show 2 ≤ sizeLine; decide), fun z2 nz2 => ⟨(by show 2 ≤ sizeLine; decide), fun z3 nz3 => ?_⟩⟩⟩
        have q1 := same_upd (o := .lst [.int 0, .int 1]) nz1
        have q2 := same_upd (o := .lst [.int 0, .int 3]) nz2
        have q3 := same_upd (o := .lst [.ref z1, .ref z2]) nz3
        have Q3 := (q1.trans q2).trans q3
        have off1 := hS3.off nz1
        have off2 := (hS3.same q1).off nz2
        have e1 := q3 _ _ (q2 _ _ (upd_same (H := H') (a := z1) (o := .lst [.int 0, .int 1])))
        have e2 := q3 _ _ (upd_same (H := upd H' z1 (.lst [.int 0, .int 1])) (a := z2) (o := .lst [.int 0, .int 3]))
        have hS4 := hS3.same Q3
        obtain ⟨zz, ww, ez, ew, hat3⟩ : ∃ zz ww, atI [V.ref z1, V.ref z2] gr = some (.ref zz) ∧ (∀ Hy, Kp d c (upd (upd (upd H' z1 (.lst [.int 0, .int 1])) z2 (.lst [.int 0, .int 3])) z3 (.lst [.ref z1, .ref z2])) Hy → Hy zz = some (.lst ww)) ∧ ∀ r : Int, 0 ≤ r → r < 2 → ∃ kd : Int, 0 ≤ kd ∧ sortB kd ≤ grB gr ∧ atI ww r = some (.int kd) := by
          rcases hgr with rfl | rfl
          · refine ⟨z1, _, rfl, fun Hy ky => ky _ _ off1.1 off1.2 e1, fun r r0 r1 => ?_⟩
            have : r = 0 ∨ r = 1 := by omega
            rcases this with rfl | rfl
            · exact ⟨0, by decide, by decide, rfl⟩
            · exact ⟨1, by decide, by decide, rfl⟩
          · refine ⟨z2, _, rfl, fun Hy ky => ky _ _ off2.1 off2.2 e2, fun r r0 r1 => ?_⟩
            have : r = 0 ∨ r = 1 := by omega
            rcases this with rfl | rfl
            · exact ⟨0, by decide, by decide, rfl⟩
            · exact ⟨3, by decide, by decide, rfl⟩
        refine ⟨_, rfl, z3, _, gr, .ref zz, rfl, rfl, SqL.of upd_same, ez, _, rfl, d, c, t3, 2, rfl, hS4, by omega, by decide, by decide, fun r5 H5 r50 r51 hS5 k5 => ?_⟩
        obtain ⟨kd2, kd20, kd2B, hat5⟩ := hat3 r5 r50 r51
        refine ⟨zz, _, r5, .int kd2, rfl, rfl, SqL.of (ew _ k5), hat5, d, c, t3 + 1, kd2, rfl, hS5, by omega, kd20, fun r6 t6 H6 r60 r61 v60 v61 hS6 k6 => ?_⟩
        have k36 : Kp d c H' H6 := (Kp.same d c Q3).trans (k5.trans k6)
        refine ⟨fi, r6, rfl, rfl, (by show 3 ≤ sizeLine; decide), fun T nT => ?_⟩
        have sT := same_upd (o := .tup [.str mk, .int fi, .int (fi + r6)]) nT
        have el6 := sT _ _ (k36 _ _ offl.1 offl.2 el3)
        refine ⟨l, _, _, rfl, rfl, el6, small1000 (by omega), us ++ [.ref T], ps ++ [(mk, fi, fi + r6)], t6, _, _, _, _, rfl, upd_same, Pts.upd_lst (Pts.app (Pts.same (Pts.kp hus3 hS3 k36) sT) (Pts.one ⟨T, rfl, upd_same⟩)) el6, by rw [List.length_append, hpl]; rfl, fun p hp => ?_, by omega, by omega, (hS6.same sT).upd offl.1 offl.2, fun b o b1 b2 e => ?_⟩
        · rcases List.mem_append.mp hp with z | z
          · exact (hps p z).up
          · rw [List.mem_singleton.mp z]
            refine ⟨hmk, fi0, (by show fi ≤ fi + r6; omega), (by show fi + r6 ≤ _; rw [hA1]; omega), (by show fi + r6 - fi < _; omega)⟩
        · rw [upd_ne (ne_of_none e nl)]
          exact sT _ _ (k36 b o b1 b2 (k03 b o b1 b2 e))
    · obtain ⟨us, ps, t', y5, y6, y7, y8, rfl, el, hus, hpl, hps, u0, u1, hSx, kx⟩ := hP
      exact ⟨_, rfl, q l us ps t' Hx nl el hus (by omega) (by rw [hpl]; exact hps) u0 (by omega) hSx kx⟩
end

open G3
/-! ### _law_packing_by -/
abbrev sPackBy : Stmt := topS 14
theorem scPackBy : FnScope ["_law_state", "_law_name", "_law_marks", "_law_great", "_law_parts", "_law_many", "_law_sizes", "_law_mark", "_law_first", "_law_last"] ["_law_state", "_law_name", "_law_marks", "_law_great"] (defScope sPackBy) := ⟨rfl, rfl, rfl, by decide +kernel, rfl, by decide +kernel, by decide +kernel⟩
/-- a packing with a list of its parts, as it is drawn -/
def spPackBy : Sp := fun vs H Q _ => ∃ (d c ml : Addr) (t gr : Int) (nm : Str) (xs : List Str), vs = [.ref d, .str nm, .ref ml, .int gr] ∧ StAt H d c t ∧ t + 400 < 2 ^ 60 ∧ H ml = some (.lst (xs.map V.str)) ∧ (∀ x ∈ xs, PyData.strOk x = true) ∧ xs ≠ [] ∧ xs.length ≤ 100 ∧ (gr = 0 ∨ gr = 1) ∧
  ∀ (b l : Addr) (us : List V) (ps : List Part) (sz t' : Int) H', H b = none → H l = none → H' b = some (.tup [.str nm, .int sz, .ref l]) → H' l = some (.lst us) → Pts H' us ps → ps.length ≤ 12 → (∀ p ∈ ps, Drawn xs gr ps.length p) → 1 ≤ sz → (sz ≤ 10 ^ 50) → t ≤ t' → t' ≤ t + 260 → StAt H' d c t' → Kp d c H H' → Q (.ref b) H'
theorem Drawn.ok {xs : List Str} {gr : Int} {n : Nat} {p : Part} (h : Drawn xs gr n p) (hn : n ≤ 12) : Okp p := by
  obtain ⟨h1, h2, h3, h4, h5⟩ := h
  refine ⟨h1.1, h2, h3, Int.le_trans h4 ?_⟩
  have hn' : (n : Int) ≤ 12 := by omega
  have hg : grB gr ≤ 10 ^ 30 := by unfold grB; split <;> decide
  have h0 := grB_pos gr
  have : 2 * grB gr * (n : Int) ≤ 2 * grB gr * 12 := Int.mul_le_mul_of_nonneg_left hn' (by omega)
  have e40 : (10 : Int) ^ 40 = 10 ^ 10 * 10 ^ 30 := by decide
  omega
theorem sum_snoc (ns : List Int) (x : Int) : (ns ++ [x]).sum = ns.sum + x := by rw [List.sum_append]; simp
section
variable {K : PySem.W.Frag} {mg : Str → Option Value} {P : Program} {w : World} {base : Heap}
theorem ok_packby {f : Addr} {fd : FuncData} (F : Fun K "_law_packing_by" "_law_packing_by" sPackBy f fd) (CT : Cal P w K mg base 1 "_law_take" ["_law_state", "_law_many"] spTake) (CN : Cal P w K mg base 2 "_law_number" ["_law_state", "_law_sort"] spNumber) (CP : Cal P w K mg base 3 "_law_parts_by" ["_law_state", "_law_marks", "_law_many", "_law_great"] spParts) (ms : mg "sum" = none) (mx : mg "max" = none) : FnOk P w K mg base CX0 4 f fd ["_law_state", "_law_name", "_law_marks", "_law_great"] spPackBy := by
  refine F.ok scPackBy (fun vs H Q E h => ?_) (fun cdv A outer s H vs Q E hr h => ?_)
  · obtain ⟨d, c, ml, t, gr, nm, xs, rfl, _⟩ := h
    rfl
  · obtain ⟨d, c, ml, t, gr, nm, xs, rfl, hS, ht, em, hxs, hne, hxl, hgr, q⟩ := h
    have hr1 := hr.mono (show 1 ≤ 3 by decide)
    have hr2 := hr.mono (show 2 ≤ 3 by decide)
    refine ⟨_, pss_cons (ps_set (i := 4) scPackBy.nd rfl (.inl rfl) (pe_own CP hr (by rfl) (pa_cons (pv 0) (pa_cons (pv 2) (pa_cons (pe_ix ix_list (pe_lst (pa_cons pe_int (pa_cons pe_int (pa_cons pe_int (pa_cons pe_int (pa_cons pe_int pa_nil)))))) (pe_own CT hr1 (by rfl) (pa_cons (pv 0) (pa_cons pe_int pa_nil))) (fun _ _ => rfl)) (pa_cons (pv 3) pa_nil))))))
      (pss_cons (ps_set (i := 5) scPackBy.nd rfl (.inl rfl) (pe_callB (cr_sum rfl) (by rfl) ms (by decide +kernel) (pa_cons (pe_lc (own := [("_law_mark", 7), ("_law_first", 8), ("_law_last", 9)]) (g := gTup K 3 (gCons (gName 7) (gCons (gName 8) (gCons (gName 9) gNil)))) (tt := tYes) (te := tOp (rI0 fun i j => .int (i + j)) (tOp (rI0 fun i j => .int (i - j)) (tVar 9) (tVar 8)) (tC (.int 1))) rfl scPackBy.nd (pi_list (pv 4))
            (blkOk_by (own := [("_law_mark", 7), ("_law_first", 8), ("_law_last", 9)]) (N := ["_law_state", "_law_name", "_law_marks", "_law_great", "_law_parts", "_law_many", "_law_sizes", "_law_mark", "_law_first", "_law_last"]) (sc := defScope sPackBy) (by decide +kernel)) (fun _ _ _ _ _ => pg_tup rfl (pgs_cons (pg_name (i := 7) scPackBy.nd rfl (.inl rfl)) (pgs_cons (pg_name (i := 8) scPackBy.nd rfl (.inl rfl)) (pgs_cons (pg_name (i := 9) scPackBy.nd rfl (.inl rfl)) pgs_nil)))) (fun _ _ _ _ _ => pts_nil) (fun _ _ _ _ _ => pe_op op_add (pe_op op_sub (pv 9) (pv 8)) pe_int)) pa_nil)))
      (pss_cons (ps_set (i := 6) scPackBy.nd rfl (.inl rfl) (pe_lst (pa_cons pe_int (pa_cons (pe_op op_add pe_int (pe_own CT hr1 (by rfl) (pa_cons (pv 0) (pa_cons pe_int pa_nil)))) (pa_cons (pe_callB (call_max2 rfl) (by rfl) mx (by decide +kernel) (pa_cons pe_int (pa_cons (pv 5) pa_nil))) (pa_cons (pe_op op_add (pv 5) pe_int) (pa_cons (pe_op op_add pe_int (pe_own CN hr2 (by rfl) (pa_cons (pv 0) (pa_cons (pe_ix ix_list (pe_lst (pa_cons pe_int (pa_cons pe_int pa_nil))) (pv 3) (fun _ _ => rfl)) pa_nil)))) pa_nil)))))))
      (pss_one (ps_ret (pe_tup (pa_cons (pv 1) (pa_cons (pe_ix ix_list (pv 6) (pe_own CT hr1 (by rfl) (pa_cons (pv 0) (pa_cons pe_int pa_nil))) (fun _ _ => rfl)) (pa_cons (pv 4) pa_nil)))))))), ?_⟩
    -- parts
    refine ⟨_, rfl, _, rfl, (by show 5 ≤ sizeLine; decide), fun z nz => ?_⟩
    have sz1 := same_upd (o := .lst [.int 0, .int 1, .int 2, .int 3, .int 12]) nz
    have offz := hS.off nz
    refine ⟨_, rfl, d, c, t, 5, rfl, hS.same sz1, by omega, by decide, by decide, fun r H1 r0 r1 hS1 k1 => ?_⟩
    obtain ⟨m, m0, m1, hat⟩ : ∃ m : Int, 0 ≤ m ∧ m ≤ 12 ∧ atI [V.int 0, V.int 1, V.int 2, V.int 3, V.int 12] r = some (.int m) := by
      have : r = 0 ∨ r = 1 ∨ r = 2 ∨ r = 3 ∨ r = 4 := by omega
      rcases this with rfl | rfl | rfl | rfl | rfl
      · exact ⟨_, by decide, by decide, rfl⟩
      · exact ⟨_, by decide, by decide, rfl⟩
      · exact ⟨_, by decide, by decide, rfl⟩
      · exact ⟨_, by decide, by decide, rfl⟩
      · exact ⟨_, by decide, by decide, rfl⟩
    have k01 : Kp d c H H1 := (Kp.same d c sz1).trans k1
    refine ⟨z, _, r, .int m, rfl, rfl, SqL.of (k1 _ _ offz.1 offz.2 upd_same), hat, _, rfl, d, c, ml, t + 1, m, gr, xs, rfl, hS1, by omega, k01.lst hS em (noInt_strs xs), hxs, hne, hxl, m0, m1, hgr, fun l us ps t2 H2 nl el hus hpm hps u0 u1 hS2 k2 => ?_⟩
    have hpl : ps.length ≤ 12 := by omega
    have hok : ∀ p ∈ ps, Okp p := fun p hp => (hps p hp).ok hpl
    have offl := hS1.off nl
    -- many
    refine ⟨_, rfl, l, rfl, ⟨_, SqL.of el⟩, fun D nD => lc_list (xs := us) (fun j H' => Same H2 H' ∧ H' D = some (.lst (((ps.take j).map cntP).map V.int))) ⟨same_upd nD, upd_same⟩ (fun j H' _ hP => SqL.of (hP.1 _ _ el)) (fun j x H' hx hP => ?_) (fun H3 hP => ?_)⟩
    · obtain ⟨sm, eD⟩ := hP
      obtain ⟨p, ep, g, rfl, eg⟩ := Pts.at (Pts.same hus sm) hx
      refine ⟨g, _, rfl, .inl (.inl eg), rfl, _, _, rfl, _, _, rfl, _, _, rfl, rfl, rfl, ?_⟩
      refine ⟨_, rfl, _, rfl, p.2.2, p.2.1, rfl, rfl, _, 1, rfl, rfl, _, eD, small1000 (by rw [List.length_map, List.length_map, List.length_take]; omega), fun c o e => ?_, ?_⟩
      · rw [upd_ne (ne_of_none e nD)]
        exact sm c o e
      · rw [upd_same, take_snoc ep, List.map_append, List.map_append]
        rfl
    · obtain ⟨s3, eD⟩ := hP
      rw [hus.1, List.take_length] at eD
      have hcb := cntF_bound hok
      refine ⟨D, ps.map cntP, rfl, SqL.of eD, ?_⟩
      have esum : (ps.map cntP).sum = cntF ps := rfl
      rw [esum]
      have hS3 := hS2.same s3
      have el3 := s3 _ _ el
      have hus3 := Pts.same hus s3
      have k3 : Kp d c H H3 := (k01.trans k2).trans (Kp.same d c s3)
      -- sizes
      refine ⟨_, rfl, d, c, t2, 12, rfl, hS3, by omega, by decide, by decide, fun r4 H4 r40 r41 hS4 k4 => ⟨1, r4, rfl, rfl, ?_⟩⟩
      refine ⟨_, rfl, 1, cntF ps, rfl, _, rfl, cntF ps, 1, rfl, rfl, _, rfl, (by show 2 ≤ sizeLine; decide), fun z5 nz5 => ?_⟩
      have sz5 := same_upd (o := .lst [.int 1, .int 3]) nz5
      obtain ⟨kd, kd0, hat5⟩ : ∃ kd : Int, 0 ≤ kd ∧ atI [V.int 1, V.int 3] gr = some (.int kd) := by
        rcases hgr with rfl | rfl
        · exact ⟨1, by decide, rfl⟩
        · exact ⟨3, by decide, rfl⟩
      refine ⟨_, rfl, z5, _, gr, .int kd, rfl, rfl, SqL.of upd_same, hat5, d, c, t2 + 1, kd, rfl, hS4.same sz5, by omega, kd0, fun r6 t6 H6 r60 r61 v60 v61 hS6 k6 => ⟨1, r6, rfl, rfl, (by show 5 ≤ sizeLine; decide), fun z7 nz7 => ?_⟩⟩
      have hr6 := sortB_le kd
      have sz7 := same_upd (o := .lst [.int 1, .int (1 + r4), .int (if cntF ps > 1 then cntF ps else 1), .int (cntF ps + 1), .int (1 + r6)]) nz7
      have off7 := hS6.off nz7
      have k36 : Kp d c H3 H6 := k4.trans ((Kp.same d c sz5).trans k6)
      have hE : (10 : Int) ^ 50 = 10 ^ 10 * 10 ^ 40 := by decide
      have hE3 : (10 : Int) ^ 40 = 10 ^ 10 * 10 ^ 30 := by decide
      have hcb2 : cntF ps ≤ (10 ^ 40 + 1) * 12 := Int.le_trans hcb.2 (Int.mul_le_mul_of_nonneg_left (by omega) (by decide))
      refine ⟨_, rfl, _, rfl, _, rfl, d, c, t6, 5, rfl, hS6.same sz7, by omega, by decide, by decide, fun r8 H8 r80 r81 hS8 k8 => ?_⟩
      obtain ⟨sz, sz0, szB, hat8⟩ : ∃ sz : Int, 1 ≤ sz ∧ sz ≤ 10 ^ 50 ∧ atI [V.int 1, V.int (1 + r4), V.int (if cntF ps > 1 then cntF ps else 1), V.int (cntF ps + 1), V.int (1 + r6)] r8 = some (.int sz) := by
        have : r8 = 0 ∨ r8 = 1 ∨ r8 = 2 ∨ r8 = 3 ∨ r8 = 4 := by omega
        rcases this with rfl | rfl | rfl | rfl | rfl
        · exact ⟨_, by omega, by omega, rfl⟩
        · exact ⟨_, by omega, by omega, rfl⟩
        · exact ⟨_, by split <;> omega, by split <;> omega, rfl⟩
        · exact ⟨_, by omega, by omega, rfl⟩
        · exact ⟨_, by omega, by omega, rfl⟩
      refine ⟨z7, _, r8, .int sz, rfl, rfl, SqL.of (k8 _ _ off7.1 off7.2 upd_same), hat8, _, rfl, (by show 3 ≤ sizeLine; decide), fun T nT => ?_⟩
      have sT := same_upd (o := .tup [.str nm, .int sz, .ref l]) nT
      have k38 : Kp d c H3 (upd H8 T (.tup [.str nm, .int sz, .ref l])) := (k36.trans ((Kp.same d c sz7).trans k8)).trans (Kp.same d c sT)
      exact q T l us ps sz (t6 + 1) _ ((k3.trans (k36.trans ((Kp.same d c sz7).trans k8))).free hS8 nT) (k01.free hS1 nl) upd_same (k38 _ _ offl.1 offl.2 el3) (Pts.kp hus3 hS3 k38) hpl hps sz0 szB (by omega) (by omega) (hS8.same sT) (k3.trans k38)
end

open G3
/-! ### what stands in parts twice -/
def cntIn (L : List (Int × Int)) (n : Int) : Nat := (L.filter fun p => decide (p.1 ≤ n) && decide (n ≤ p.2)).length
theorem cntIn_append (L M : List (Int × Int)) (n : Int) : cntIn (L ++ M) n = cntIn L n + cntIn M n := by
  unfold cntIn
  rw [List.filter_append, List.length_append]
theorem cntIn_one (p : Int × Int) (n : Int) : cntIn [p] n = if p.1 ≤ n ∧ n ≤ p.2 then 1 else 0 := by
  unfold cntIn
  by_cases c : p.1 ≤ n ∧ n ≤ p.2
  · rw [if_pos c, List.filter_cons_of_pos (by simp [c.1, c.2])]
    rfl
  · rw [if_neg c, List.filter_cons_of_neg (by simpa using c)]
    rfl
theorem cntIn_perm {L M : List (Int × Int)} (h : L.Perm M) (n : Int) : cntIn L n = cntIn M n := (h.filter _).length_eq
theorem cntIn_pos {L : List (Int × Int)} {n : Int} : 1 ≤ cntIn L n ↔ ∃ p ∈ L, p.1 ≤ n ∧ n ≤ p.2 := by
  unfold cntIn
  constructor
  · intro h
    obtain ⟨p, hp⟩ := List.exists_mem_of_length_pos h
    obtain ⟨h1, h2⟩ := List.mem_filter.mp hp
    exact ⟨p, h1, by simpa using h2⟩
  · rintro ⟨p, h1, h2⟩
    exact List.length_pos_of_mem (List.mem_filter.mpr ⟨h1, by simpa using h2⟩)
/-- the pairs of a mark's parts -/
def prOf (m : Str) (L : List Part) : List (Int × Int) := (L.filter fun p => decide (p.1 = m)).map (·.2)
theorem prOf_append (m : Str) (L M : List Part) : prOf m (L ++ M) = prOf m L ++ prOf m M := by
  unfold prOf
  rw [List.filter_append, List.map_append]
theorem prOf_one (p : Part) : prOf p.1 [p] = [p.2] := by
  unfold prOf
  rw [List.filter_cons_of_pos (by simp)]
  rfl
theorem prOf_other {m : Str} {p : Part} (h : p.1 ≠ m) : prOf m [p] = [] := by
  unfold prOf
  rw [List.filter_cons_of_neg (by simpa using h)]
  rfl
theorem prOf_perm {L M : List Part} (h : L.Perm M) (m : Str) : (prOf m L).Perm (prOf m M) := (h.filter _).map _
theorem prOf_len (m : Str) (L : List Part) : (prOf m L).length ≤ L.length := by
  unfold prOf
  rw [List.length_map]
  exact List.length_filter_le _ _
theorem prOf_mem {m : Str} {L : List Part} {p : Int × Int} (h : p ∈ prOf m L) : (m, p) ∈ L := by
  unfold prOf at h
  obtain ⟨q, hq, rfl⟩ := List.mem_map.mp h
  obtain ⟨h1, h2⟩ := List.mem_filter.mp hq
  rw [← of_decide_eq_true h2]
  exact h1
/-- numbers that two or more of a mark's parts have -/
def Tw (L : List Part) (m : Str) : Int → Prop := fun n => 2 ≤ cntIn (prOf m L) n
theorem Tw.perm {L M : List Part} (h : L.Perm M) (m : Str) (n : Int) : Tw L m n ↔ Tw M m n := by
  unfold Tw
  rw [cntIn_perm (prOf_perm h m)]
abbrev RowT := Str × List (Int × Int)
def rowT (r : RowT) : PyData := .tuple [.str r.1, .list (r.2.map pairD)]
structure TwR (L : List Part) (rows : List RowT) : Prop where
  mem : ∀ r, r ∈ rows ↔ Told (Tw L r.1) r.2 ∧ r.2 ≠ []
  up : rows.Pairwise fun a b => a.1.cps.toList < b.1.cps.toList
  all : ∀ m n, Tw L m n → ∃ r ∈ rows, r.1 = m
theorem up_same {α : Type} {k : α → List Nat} : ∀ {o1 o2 : List α}, (∀ r, r ∈ o1 ↔ r ∈ o2) → o1.Pairwise (fun a b => k a < k b) → o2.Pairwise (fun a b => k a < k b) → o1 = o2
  | [], [], _, _, _ => rfl
  | [], y :: r, h, _, _ => nomatch (h y).mpr (List.mem_cons_self ..)
  | x :: r, [], h, _, _ => nomatch (h x).mp (List.mem_cons_self ..)
  | x :: r1, y :: r2, h, p1, p2 => by
    obtain ⟨a1, b1⟩ := List.pairwise_cons.mp p1
    obtain ⟨a2, b2⟩ := List.pairwise_cons.mp p2
    have e : x = y := by
      rcases List.mem_cons.mp ((h x).mp (List.mem_cons_self ..)) with z | z
      · exact z
      · rcases List.mem_cons.mp ((h y).mpr (List.mem_cons_self ..)) with w | w
        · exact w.symm
        · exact absurd (List.lt_trans (a1 y w) (a2 x z)) (List.lt_irrefl _)
    subst e
    have irr : ∀ {r : List α}, (∀ b ∈ r, k x < k b) → x ∉ r := fun kk z => List.lt_irrefl _ (kk x z)
    rw [up_same (fun r => ⟨fun z => ?_, fun z => ?_⟩) b1 b2]
    · rcases List.mem_cons.mp ((h r).mp (List.mem_cons_of_mem _ z)) with w | w
      · exact absurd (w ▸ z) (irr a1)
      · exact w
    · rcases List.mem_cons.mp ((h r).mpr (List.mem_cons_of_mem _ z)) with w | w
      · exact absurd (w ▸ z) (irr a2)
      · exact w
theorem TwR.one {L : List Part} {r1 r2 : List RowT} (h1 : TwR L r1) (h2 : TwR L r2) : r1 = r2 := up_same (k := fun r : RowT => r.1.cps.toList) (fun r => (h1.mem r).trans (h2.mem r).symm) h1.up h2.up
theorem TwR.perm {L M : List Part} {rows : List RowT} (h : TwR L rows) (p : L.Perm M) : TwR M rows :=
  ⟨fun r => (h.mem r).trans ⟨fun z => ⟨z.1.cong fun n => Tw.perm p r.1 n, z.2⟩, fun z => ⟨z.1.cong fun n => (Tw.perm p r.1 n).symm, z.2⟩⟩, h.up, fun m n z => h.all m n ((Tw.perm p m n).mpr z)⟩
def fullT (r : RowT) : Bool := !r.2.isEmpty
/-- rows made mark by mark -/
theorem TwR.of {L : List Part} {ys : List Str} {f : Str → List (Int × Int)} (hs : ys.Pairwise fun a b => a.cps.toList < b.cps.toList) (hm : ∀ p ∈ L, p.1 ∈ ys) (ht : ∀ m ∈ ys, Told (Tw L m) (f m)) : TwR L ((ys.map fun m => (m, f m)).filter fullT) := by
  refine ⟨?_, ?_, ?_⟩
  · rintro ⟨m, rs⟩
    rw [List.mem_filter, List.mem_map]
    constructor
    · rintro ⟨⟨m', hm', e⟩, hf⟩
      cases e
      refine ⟨ht m hm', fun z => ?_⟩
      unfold fullT at hf
      rw [show (m, f m).2 = f m from rfl] at hf z
      rw [z] at hf
      cases hf
    · rintro ⟨h1, h2⟩
      have h1 : Told (Tw L m) rs := h1
      have h2 : rs ≠ [] := h2
      cases rs with
      | nil => exact absurd rfl h2
      | cons p q =>
        obtain ⟨lo, hr⟩ := h1.ris
        have hT : Tw L m p.1 := (h1.same p.1).mp ⟨p, List.mem_cons_self .., Int.le_refl _, hr.2.1⟩
        unfold Tw at hT
        obtain ⟨x, hx, _⟩ := cntIn_pos.mp (Nat.le_trans (by decide) hT)
        have hy := hm _ (prOf_mem hx)
        refine ⟨⟨m, hy, ?_⟩, rfl⟩
        rw [h1.one (ht m hy) fun _ => Iff.rfl]
  · exact List.Pairwise.sublist List.filter_sublist (List.pairwise_map.mpr hs)
  · intro m n hT
    obtain ⟨x, hx, _⟩ := cntIn_pos.mp (Nat.le_trans (by decide) (show 2 ≤ cntIn (prOf m L) n from hT))
    have hy := hm _ (prOf_mem hx)
    refine ⟨(m, f m), List.mem_filter.mpr ⟨List.mem_map.mpr ⟨m, hy, rfl⟩, ?_⟩, rfl⟩
    unfold fullT
    cases e : f m with
    | nil =>
      have h1 := ((ht m hy).same n).mpr hT
      rw [e] at h1
      exact absurd h1 inS_nil
    | cons _ _ => rfl
/-! ### two or more, by going through them as they rise -/
/-- the furthest last so far, and what is had twice -/
theorem twice_step {ps qs : List (Int × Int)} {p : Int × Int} {reach : Int} (h0 : ∀ q ∈ ps, q.1 ≤ p.1) (hp : 0 ≤ p.1) (hr : ∀ n, n ≤ reach ↔ n ≤ -1 ∨ ∃ q ∈ ps, n ≤ q.2) (ht : ∀ n, InS qs n ↔ 2 ≤ cntIn ps n) :
    (∀ n, InS (qs ++ [(p.1, if reach < p.2 then reach else p.2)]) n ↔ 2 ≤ cntIn (ps ++ [p]) n) ∧ ∀ n, n ≤ (if reach < p.2 then p.2 else reach) ↔ n ≤ -1 ∨ ∃ q ∈ ps ++ [p], n ≤ q.2 := by
  constructor
  · intro n
    rw [cntIn_append, cntIn_one, inS_append, ht]
    have key : InS [(p.1, if reach < p.2 then reach else p.2)] n ↔ (p.1 ≤ n ∧ n ≤ p.2) ∧ 1 ≤ cntIn ps n := by
      rw [cntIn_pos]
      have e1 : InS [(p.1, if reach < p.2 then reach else p.2)] n ↔ p.1 ≤ n ∧ n ≤ p.2 ∧ n ≤ reach := by
        constructor
        · rintro ⟨q, hq, z1, z2⟩
          rw [List.mem_singleton.mp hq] at z1 z2
          have z1 : p.1 ≤ n := z1
          have z2 : n ≤ (if reach < p.2 then reach else p.2) := z2
          split at z2 <;> omega
        · rintro ⟨z1, z2, z3⟩
          refine ⟨_, List.mem_singleton.mpr rfl, z1, ?_⟩
          show n ≤ (if reach < p.2 then reach else p.2)
          split <;> omega
      rw [e1]
      constructor
      · rintro ⟨z1, z2, z3⟩
        refine ⟨⟨z1, z2⟩, ?_⟩
        rcases (hr n).mp z3 with z | ⟨q, hq, z⟩
        · omega
        · exact ⟨q, hq, Int.le_trans (h0 q hq) z1, z⟩
      · rintro ⟨⟨z1, z2⟩, q, hq, _, z⟩
        exact ⟨z1, z2, (hr n).mpr (.inr ⟨q, hq, z⟩)⟩
    rw [key]
    by_cases c : p.1 ≤ n ∧ n ≤ p.2
    · rw [if_pos c]
      constructor
      · rintro (z | z)
        · omega
        · have := z.2; omega
      · intro z
        exact .inr ⟨c, by omega⟩
    · rw [if_neg c]
      constructor
      · rintro (z | z)
        · omega
        · exact absurd z.1 c
      · intro z
        exact .inl (by omega)
  · intro n
    have : (∃ q ∈ ps ++ [p], n ≤ q.2) ↔ (∃ q ∈ ps, n ≤ q.2) ∨ n ≤ p.2 := by
      constructor
      · rintro ⟨q, hq, z⟩
        rcases List.mem_append.mp hq with y | y
        · exact .inl ⟨q, y, z⟩
        · rw [List.mem_singleton.mp y] at z; exact .inr z
      · rintro (⟨q, hq, z⟩ | z)
        · exact ⟨q, List.mem_append_left _ hq, z⟩
        · exact ⟨p, List.mem_append_right _ (List.mem_singleton.mpr rfl), z⟩
    rw [this, ← or_assoc, ← hr n]
    split <;> omega

open G3
/-! ### twice_in -/
def spTwIn (K : PySem.W.Frag) : Sp := fun vs H Q _ => ∃ (a : Addr) (us : List V) (ps : List (Int × Int)), vs = [.ref a] ∧ H a = some (.lst us) ∧ Prs H us ps ∧ ps.length ≤ 900 ∧ (∀ p ∈ ps, 0 ≤ p.1) ∧
  TellS (fun n => 2 ≤ cntIn ps n) 900 H Q
abbrev sTwIn : Stmt := topS 3
theorem scTwIn : FnScope ["pairs", "twice", "reach", "first", "last"] ["pairs"] (defScope sTwIn) := ⟨rfl, rfl, rfl, by decide +kernel, rfl, by decide +kernel, by decide +kernel⟩
section
variable {K : PySem.W.Frag} {mg : Str → Option Value} {P : Program} {w : World} {base : Heap}
theorem ok_TwIn {f : Addr} {fd : FuncData} (F : Fun K "twice_in" "twice_in" sTwIn f fd) (C_set_of : Cal P w K mg base 1 "set_of" ["pairs"] (spSetOf K)) (m_sorted : mg "sorted" = none) (m_min : mg "min" = none) (m_max : mg "max" = none) : FnOk P w K mg base CX0 2 f fd ["pairs"] (spTwIn K) := by
  refine F.ok scTwIn (fun vs H Q E h => ?_) (fun cdv A outer s H vs Q E hr h => ?_)
  · obtain ⟨a, us, ps, rfl, _⟩ := h
    rfl
  · obtain ⟨a, us, ps, rfl, ea, hp, hl, h0, q⟩ := h
    refine ⟨_, pss_cons (ps_set (i := 1) scTwIn.nd rfl (.inl rfl) (pe_lst pa_nil))
      (pss_cons (ps_set (i := 2) scTwIn.nd rfl (.inl rfl) (pe_un un_neg pe_int))
      (pss_cons (ps_for PassesOwn.never rfl (pi_list (pe_callB cr_sortedPO (by rfl) m_sorted (by decide +kernel) (pa_cons (pv 0) pa_nil))) (pg_tup rfl (pgs_cons (pg_name (i := 3) scTwIn.nd rfl (.inl rfl)) (pgs_cons (pg_name (i := 4) scTwIn.nd rfl (.inl rfl)) pgs_nil)))
        (pss_cons (ps_expr (pe_bm PySem.F.plainAttrs_list PySem.F.slot_list_append PySem.F.type_list_append mt_append (pv 1) (pa_cons (pe_tup (pa_cons (pv 3) (pa_cons (pe_callB (call_min2 rfl) (by rfl) m_min (by decide +kernel) (pa_cons (pv 4) (pa_cons (pv 2) pa_nil))) pa_nil))) pa_nil)))
        (pss_one (ps_set (i := 2) scTwIn.nd rfl (.inl rfl) (pe_callB (call_max2 rfl) (by rfl) m_max (by decide +kernel) (pa_cons (pv 2) (pa_cons (pv 4) pa_nil)))))))
      (pss_one (ps_ret (pe_own C_set_of hr (by rfl) (pa_cons (pv 1) pa_nil)))))), ?_⟩
    refine ⟨Nat.zero_le _, fun m nm => ?_⟩
    have s1 := same_upd (o := .lst []) nm
    have em1 : upd H m (.lst []) m = some (.lst []) := upd_same
    revert s1 em1
    generalize upd H m (.lst []) = H1
    intro s1 em1
    have hp1 := hp.same s1
    refine ⟨1, rfl, _, rfl, a, us, pairOf H1, rfl, SqL.of (s1 _ _ ea), fun x hx => ?_, fun zs g srt stb ng => ?_⟩
    · obtain ⟨i, hi, e⟩ := List.getElem_of_mem hx
      obtain ⟨p, T, _, rfl, eT⟩ := prs_at hp1 (by rw [List.getElem?_eq_getElem hi, e])
      exact ⟨T, rfl, by rw [pairOf_at eT]; exact eT⟩
    obtain ⟨qs, hqs, hperm, hord⟩ := pairs_sorted hp1 stb.perm srt
    have sg := same_upd (o := .lst zs) ng
    have eg : upd H1 g (.lst zs) g = some (.lst zs) := upd_same
    have s3 := s1.trans sg
    have em3 := sg _ _ em1
    have hzs3 := hqs.same sg
    have nmg : m ≠ g := ne_of_none em1 ng
    have hzl : zs.length ≤ 900 := by rw [hqs.1, hperm.length_eq]; exact hl
    revert eg s3 em3 hzs3
    generalize upd H1 g (.lst zs) = H3
    intro eg s3 em3 hzs3
    refine ⟨g, rfl, ⟨_, SqL.of eg⟩, for_list (xs := zs) (fun i σ H4 => ∃ (ms : List V) (rs : List (Int × Int)) (reach : Int) (y3 y4 : Option V), σ = [some (.ref a), some (.ref m), some (.int reach), y3, y4] ∧ Same H H4 ∧ H4 g = some (.lst zs) ∧ Prs H4 zs qs ∧ H4 m = some (.lst ms) ∧ Prs H4 ms rs ∧ ms.length = i ∧ (∀ n, n ≤ reach ↔ n ≤ -1 ∨ ∃ q ∈ qs.take i, n ≤ q.2) ∧ ∀ n, InS rs n ↔ 2 ≤ cntIn (qs.take i) n) ⟨[], [], -1, _, _, rfl, s3, eg, hzs3, em3, Prs.nil, rfl, fun n => ⟨fun z => .inl z, fun z => z.elim id fun ⟨_, h, _⟩ => nomatch h⟩, fun n => ⟨fun z => absurd z inS_nil, fun z => by unfold cntIn at z; exact absurd z (by show ¬ 2 ≤ 0; decide)⟩⟩ (fun i σ H4 _ hP => ?_) (fun i x σ H4 hx hP => ?_) (fun σ H4 hP => ?_)⟩
    · obtain ⟨_, _, _, _, _, rfl, _, e, _⟩ := hP
      exact SqL.of e
    · obtain ⟨ms, rs, reach, y3, y4, rfl, sm4, eg4, hz4, em4, hms, hml, hr, ht⟩ := hP
      obtain ⟨p, T, ep, rfl, eT⟩ := prs_at hz4 hx
      have hi : i < qs.length := (List.getElem?_eq_some_iff.mp ep).1
      have etake : qs.take (i + 1) = qs.take i ++ [p] := by rw [List.take_add_one, ep]; rfl
      have ord : ∀ q ∈ qs.take i, q.1 ≤ p.1 := fun q hq' => by
        obtain ⟨j, hj, e⟩ := List.getElem_of_mem hq'
        rw [List.length_take] at hj
        rw [List.getElem_take] at e
        obtain ⟨_, e2⟩ := List.getElem?_eq_some_iff.mp ep
        rw [← e, ← e2]
        exact List.pairwise_iff_getElem.mp hord j i (by omega) hi (by omega)
      obtain ⟨st1, st2⟩ := twice_step ord (h0 p (hperm.mem_iff.mp (List.mem_of_getElem? ep))) hr ht
      have hil : i < zs.length := by rw [hqs.1]; exact hi
      refine ⟨T, _, rfl, .inl (.inl eT), rfl, _, _, rfl, _, _, rfl, rfl, ?_⟩
      refine ⟨_, rfl, .inl ⟨rfl, _, SqL.of em4⟩, _, rfl, _, rfl, _, rfl, p.2, reach, rfl, by show 2 ≤ sizeLine; decide, fun T2 nT2 => ?_⟩
      have sT := same_upd (o := .tup [V.int p.1, .int (if reach < p.2 then reach else p.2)]) nT2
      have em5 := sT _ _ em4
      refine ⟨m, _, _, rfl, rfl, em5, small1000 (by omega), _, rfl, _, rfl, reach, p.2, rfl, ?_⟩
      refine ⟨ms ++ [.ref T2], rs ++ [(p.1, if reach < p.2 then reach else p.2)], _, _, _, rfl, fun b o e => ?_, ?_, (hz4.same sT).upd_lst em5, upd_same, ((hms.same sT).snoc upd_same).upd_lst em5, by rw [List.length_append, hml]; rfl, ?_, ?_⟩
      · rw [upd_ne (ne_of_none e nm)]; exact sT _ _ (sm4 _ _ e)
      · rw [upd_ne nmg.symm]; exact sT _ _ eg4
      · rw [etake]; exact st2
      · rw [etake]; exact st1
    · obtain ⟨ms, rs, reach, y3, y4, rfl, sm4, eg4, hz4, em4, hms, hml, hr, ht⟩ := hP
      have hql : zs.length = qs.length := hqs.1
      rw [hql, List.take_length] at ht
      refine ⟨_, rfl, m, ms, rs, rfl, Sq.list em4, hms, by rw [← hms.1]; omega, fun l ws rs2 H5 nl el hws htold s5 => ?_⟩
      exact q l rs2 H5 (sm4.free nl) ⟨ws, el, hws⟩ (htold.told.cong fun n => by rw [ht, cntIn_perm hperm]) (Nat.le_trans htold.len (by rw [← hms.1]; omega)) (sm4.trans s5)
end

open G3
/-! ### packings in the heap; dicts {text: list of pairs} -/
abbrev Pk := Str × Int × List Part
def allP (pks : List Pk) : List Part := pks.flatMap fun k => k.2.2
def PksR (H : Hp) (us : List V) (pks : List Pk) : Prop := us.length = pks.length ∧ ∀ (i : Nat) (u : V) (k : Pk), us[i]? = some u → pks[i]? = some k → ∃ (b l : Addr) (vs : List V), u = .ref b ∧ H b = some (.tup [.str k.1, .int k.2.1, .ref l]) ∧ H l = some (.lst vs) ∧ Pts H vs k.2.2
theorem PksR.same {H H' : Hp} {us : List V} {pks : List Pk} (h : PksR H us pks) (s : Same H H') : PksR H' us pks := ⟨h.1, fun i u k e1 e2 => let ⟨b, l, vs, e, eb, el, hp⟩ := h.2 i u k e1 e2; ⟨b, l, vs, e, s _ _ eb, s _ _ el, Pts.same hp s⟩⟩
theorem valK_in {kvs : List (L2.Key × V)} {k : L2.Key} {v : V} (h : valV kvs k = some v) : (k, v) ∈ kvs := by
  unfold valV at h
  obtain ⟨e0, h2, h3⟩ := Option.map_eq_some_iff.mp h
  have hm := List.mem_of_find?_eq_some h2
  have hk := of_decide_eq_true (List.find?_some (p := fun kv : L2.Key × V => decide (kv.1 = k)) h2)
  have : e0 = (k, v) := Prod.ext hk h3
  rw [← this]
  exact hm
theorem valK_none {kvs : List (L2.Key × V)} {k : L2.Key} (h : valV kvs k = none) : ∀ e ∈ kvs, e.1 ≠ k := fun e he z => by
  unfold valV at h
  rw [Option.map_eq_none_iff, List.find?_eq_none] at h
  exact h e he (decide_eq_true z)
theorem valK_at : ∀ {kvs : List (L2.Key × V)}, (kvs.map (·.1)).Nodup → ∀ e ∈ kvs, valV kvs e.1 = some e.2
  | [], _, e, he => nomatch he
  | p :: r, nd, e, he => by
    obtain ⟨n1, n2⟩ := List.nodup_cons.mp (show (p.1 :: r.map (·.1)).Nodup from nd)
    by_cases c : p.1 = e.1
    · rw [valV_pos c]
      rcases List.mem_cons.mp he with z | z
      · rw [z]
      · exact absurd (List.mem_map.mpr ⟨e, z, c.symm⟩) n1
    · rw [valV_neg c]
      rcases List.mem_cons.mp he with z | z
      · exact absurd (by rw [z]) c
      · exact valK_at n2 e z
theorem putK_new {kvs : List (L2.Key × V)} {k : L2.Key} {v : V} (h : valV kvs k = none) : putK kvs k v = kvs ++ [(k, v)] := by
  unfold putK
  rw [if_neg]
  intro z
  obtain ⟨e, he, hk⟩ := List.any_eq_true.mp z
  exact valK_none h e he (of_decide_eq_true hk)
/-- tuples stand -/
def TupK (H H' : Hp) : Prop := ∀ a xs, H a = some (.tup xs) → H' a = some (.tup xs)
theorem prs_tk {H H' : Hp} {us : List V} {ps : List (Int × Int)} (h : Prs H us ps) (k : TupK H H') : Prs H' us ps := ⟨h.1, fun i p ep => let ⟨a, e1, e2⟩ := h.2 i p ep; ⟨a, e1, k _ _ e2⟩⟩
theorem nodup_map_of {α β : Type} {f : α → β} : ∀ {l : List α}, (l.map f).Nodup → l.Nodup
  | [], _ => List.nodup_nil
  | x :: r, h => by
    obtain ⟨h1, h2⟩ := List.nodup_cons.mp h
    exact List.nodup_cons.mpr ⟨fun z => h1 (List.mem_map.mpr ⟨x, z, rfl⟩), nodup_map_of h2⟩
structure MkD (H0 H : Hp) (kvs : List (L2.Key × V)) (L : List Part) : Prop where
  nd : (kvs.map (·.1)).Nodup
  ent : ∀ e ∈ kvs, ∃ m l us, e = ((.inr m, .ref l) : L2.Key × V) ∧ H l = some (.lst us) ∧ Prs H us (prOf m L) ∧ H0 l = none
  inj : ∀ e ∈ kvs, ∀ e' ∈ kvs, e.2 = e'.2 → e = e'
  all : ∀ p ∈ L, ∃ v, ((.inr p.1, v) : L2.Key × V) ∈ kvs
  own : ∀ e ∈ kvs, ∃ p ∈ L, e.1 = .inr p.1
theorem MkD.nil {H0 H : Hp} : MkD H0 H [] [] := ⟨List.nodup_nil, (fun _ z => nomatch z), (fun _ z => nomatch z), (fun _ z => nomatch z), fun _ z => nomatch z⟩
theorem MkD.same {H0 H H' : Hp} {kvs : List (L2.Key × V)} {L : List Part} (h : MkD H0 H kvs L) (s : Same H H') : MkD H0 H' kvs L := ⟨h.nd, fun e he => let ⟨m, l, us, e1, e2, e3, e4⟩ := h.ent e he; ⟨m, l, us, e1, s _ _ e2, e3.same s, e4⟩, h.inj, h.all, h.own⟩
/-- a part more of a mark that is there -/
theorem MkD.put {H0 H H' : Hp} {kvs : List (L2.Key × V)} {L : List Part} {p : Part} {l : Addr} {us' : List V} (h : MkD H0 H kvs L) (hm : ((.inr p.1, .ref l) : L2.Key × V) ∈ kvs) (e : H' l = some (.lst us')) (hu : Prs H' us' (prOf p.1 L ++ [p.2])) (kl : ∀ a xs, a ≠ l → H a = some (.lst xs) → H' a = some (.lst xs)) (kt : TupK H H') : MkD H0 H' kvs (L ++ [p]) := by
  refine ⟨h.nd, fun e' he => ?_, h.inj, fun q hq => ?_, fun e' he => ?_⟩
  · obtain ⟨m, l2, us2, e1, e2, e3, e4⟩ := h.ent e' he
    by_cases c : m = p.1
    · subst c
      have h1 := valK_at h.nd _ hm
      have h2 := valK_at h.nd _ he
      rw [e1] at h2
      rw [h1] at h2
      cases Option.some.inj h2
      exact ⟨_, l, us', e1, e, by rw [prOf_append, prOf_one]; exact hu, e4⟩
    · have ne : l2 ≠ l := fun z => by
        have := h.inj _ he _ hm (by rw [e1, z])
        rw [e1] at this
        cases this
        exact c rfl
      exact ⟨m, l2, us2, e1, kl _ _ ne e2, by rw [prOf_append, prOf_other fun z => c z.symm, List.append_nil]; exact prs_tk e3 kt, e4⟩
  · rcases List.mem_append.mp hq with z | z
    · exact h.all q z
    · rw [List.mem_singleton.mp z]; exact ⟨_, hm⟩
  · obtain ⟨q, hq, z⟩ := h.own e' he
    exact ⟨q, List.mem_append_left _ hq, z⟩
/-- a part of a mark that is new -/
theorem MkD.new {H0 H H' : Hp} {kvs : List (L2.Key × V)} {L : List Part} {p : Part} {l : Addr} {us' : List V} (h : MkD H0 H kvs L) (hm : valV kvs (.inr p.1) = none) (nl : H l = none) (n0 : H0 l = none) (e : H' l = some (.lst us')) (hu : Prs H' us' [p.2]) (kl : ∀ a xs, a ≠ l → H a = some (.lst xs) → H' a = some (.lst xs)) (kt : TupK H H') : MkD H0 H' (putK kvs (.inr p.1) (.ref l)) (L ++ [p]) := by
  rw [putK_new hm]
  have hno := valK_none hm
  have hp0 : prOf p.1 L = [] := by
    unfold prOf
    rw [List.filter_eq_nil_iff.mpr fun q hq z => ?_]
    · rfl
    · obtain ⟨v, hv⟩ := h.all q hq
      exact hno _ hv (by rw [of_decide_eq_true z])
  have old : ∀ e' ∈ kvs, e'.2 ≠ .ref l := fun e' he z => by
    obtain ⟨m, l2, us2, e1, e2, _⟩ := h.ent e' he
    rw [e1] at z
    cases z
    rw [nl] at e2
    cases e2
  refine ⟨?_, fun e' he => ?_, fun e1 h1 e2 h2 z => ?_, fun q hq => ?_, fun e' he => ?_⟩
  · rw [List.map_append]
    refine List.nodup_append.mpr ⟨h.nd, List.nodup_cons.mpr ⟨(fun z => nomatch z), List.nodup_nil⟩, fun a ha b hb z => ?_⟩
    obtain ⟨e', he, rfl⟩ := List.mem_map.mp ha
    rw [List.mem_singleton.mp hb] at z
    exact hno e' he z
  · rcases List.mem_append.mp he with z | z
    · obtain ⟨m, l2, us2, e1, e2, e3, e4⟩ := h.ent e' z
      have c : p.1 ≠ m := fun y => hno e' z (by rw [e1, y])
      have ne : l2 ≠ l := fun y => old e' z (by rw [e1, y])
      exact ⟨m, l2, us2, e1, kl _ _ ne e2, by rw [prOf_append, prOf_other c, List.append_nil]; exact prs_tk e3 kt, e4⟩
    · rw [List.mem_singleton.mp z]
      exact ⟨_, l, us', rfl, e, by rw [prOf_append, prOf_one, hp0]; exact hu, n0⟩
  · rcases List.mem_append.mp h1 with z1 | z1
    · rcases List.mem_append.mp h2 with z2 | z2
      · exact h.inj _ z1 _ z2 z
      · rw [List.mem_singleton.mp z2] at z
        exact absurd z (old e1 z1)
    · rcases List.mem_append.mp h2 with z2 | z2
      · rw [List.mem_singleton.mp z1] at z
        exact absurd z.symm (old e2 z2)
      · rw [List.mem_singleton.mp z1, List.mem_singleton.mp z2]
  · rcases List.mem_append.mp hq with z | z
    · obtain ⟨v, hv⟩ := h.all q z
      exact ⟨v, List.mem_append_left _ hv⟩
    · rw [List.mem_singleton.mp z]; exact ⟨_, List.mem_append_right _ (List.mem_singleton.mpr rfl)⟩
  · rcases List.mem_append.mp he with z | z
    · obtain ⟨q, hq, y⟩ := h.own e' z
      exact ⟨q, List.mem_append_left _ hq, y⟩
    · rw [List.mem_singleton.mp z]; exact ⟨p, List.mem_append_right _ (List.mem_singleton.mpr rfl), rfl⟩
theorem MkD.few {H0 H : Hp} {kvs : List (L2.Key × V)} {L : List Part} {xs : List Str} (h : MkD H0 H kvs L) (hx : ∀ p ∈ L, p.1 ∈ xs) : kvs.length ≤ xs.length := by
  have key : ∀ {as bs : List L2.Key}, as.Nodup → (∀ a ∈ as, a ∈ bs) → as.length ≤ bs.length := fun {as bs} nd hs => nodup_len nd hs
  have := key (as := kvs.map (·.1)) (bs := xs.map Sum.inr) h.nd fun k hk => by
    obtain ⟨e, he, rfl⟩ := List.mem_map.mp hk
    obtain ⟨p, hp, z⟩ := h.own e he
    rw [z]
    exact List.mem_map.mpr ⟨_, hx p hp, rfl⟩
  rwa [List.length_map, List.length_map] at this
theorem MkD.names {H0 H : Hp} {kvs : List (L2.Key × V)} {L : List Part} (h : MkD H0 H kvs L) : ∃ ns : List Str, kvs.map (·.1) = ns.map Sum.inr ∧ ns.Nodup ∧ (∀ p ∈ L, p.1 ∈ ns) ∧ ∀ m ∈ ns, ∃ l us, valV kvs (.inr m) = some (.ref l) ∧ H l = some (.lst us) ∧ Prs H us (prOf m L) := by
  have : ∀ l : List (L2.Key × V), (∀ e ∈ l, ∃ m : Str, e.1 = .inr m) → ∃ ns : List Str, l.map (·.1) = ns.map Sum.inr := fun l => by
    induction l with
    | nil => intro _; exact ⟨[], rfl⟩
    | cons e r ih =>
      intro hh
      obtain ⟨ns, e1⟩ := ih fun x hx => hh x (List.mem_cons_of_mem _ hx)
      obtain ⟨m, e2⟩ := hh e (List.mem_cons_self ..)
      exact ⟨m :: ns, by rw [List.map_cons, List.map_cons, e1, e2]⟩
  obtain ⟨ns, en⟩ := this kvs fun e he => let ⟨m, _, _, e1, _⟩ := h.ent e he; ⟨m, by rw [e1]⟩
  refine ⟨ns, en, ?_, fun p hp => ?_, fun m hm => ?_⟩
  · have := h.nd
    rw [en] at this
    exact nodup_map_of this
  · obtain ⟨v, hv⟩ := h.all p hp
    have : (.inr p.1 : L2.Key) ∈ ns.map Sum.inr := by rw [← en]; exact List.mem_map.mpr ⟨_, hv, rfl⟩
    obtain ⟨m, hm, z⟩ := List.mem_map.mp this
    rw [← Sum.inr.inj z]
    exact hm
  · have : (.inr m : L2.Key) ∈ kvs.map (·.1) := by rw [en]; exact List.mem_map.mpr ⟨m, hm, rfl⟩
    obtain ⟨e, he, z⟩ := List.mem_map.mp this
    obtain ⟨m', l, us, e1, e2, e3, _⟩ := h.ent e he
    have h2 := valK_at h.nd e he
    rw [e1] at z h2
    cases Sum.inr.inj z
    exact ⟨l, us, h2, e2, e3⟩

/-! ### texts in order -/
theorem rising_strict : ∀ {p : Str} {xs : List Str}, risingS p xs = true → (p :: xs).Nodup → (p :: xs).Pairwise (fun a b => a.cps.toList < b.cps.toList)
  | p, [], _, _ => List.pairwise_singleton ..
  | p, x :: r, h, nd => by
    have h : (!ltCps x.cps.toList p.cps.toList && risingS x r) = true := h
    rw [Bool.and_eq_true, Bool.not_eq_true', ltCps_eq] at h
    obtain ⟨h1, h2⟩ := h
    obtain ⟨n1, n2⟩ := List.nodup_cons.mp nd
    have ih := rising_strict h2 n2
    have lt : p.cps.toList < x.cps.toList := Decidable.byContradiction fun z => n1 (by rw [SrtK.str_tot z (of_decide_eq_false h1)]; exact List.mem_cons_self ..)
    refine List.pairwise_cons.mpr ⟨fun y hy => ?_, ih⟩
    rcases List.mem_cons.mp hy with e | e
    · rw [e]; exact lt
    · exact List.lt_trans lt ((List.pairwise_cons.mp ih).1 y e)
theorem sorted_strict {xs : List Str} (h : sortedS xs = true) (nd : xs.Nodup) : xs.Pairwise (fun a b => a.cps.toList < b.cps.toList) := by
  cases xs with
  | nil => exact List.Pairwise.nil
  | cons x r => exact rising_strict h nd

open G3
/-! ### packed_twice -/
theorem allP_take {pks : List Pk} {i : Nat} {k : Pk} (e : pks[i]? = some k) : allP (pks.take (i + 1)) = allP (pks.take i) ++ k.2.2 := by
  unfold allP
  rw [List.take_add_one, e, List.flatMap_append]
  show _ ++ ([k].flatMap fun k => k.2.2) = _
  rw [List.flatMap_cons, List.flatMap_nil, List.append_nil]
def spPkTw (K : PySem.W.Frag) : Sp := fun vs H Q _ => ∃ (a : Addr) (us : List V) (pks : List Pk) (xs : List Str), vs = [.ref a] ∧ SqH H a us ∧ PksR H us pks ∧ (allP pks).length ≤ 900 ∧ (∀ p ∈ allP pks, Okp p) ∧ (∀ p ∈ allP pks, p.1 ∈ xs) ∧ xs.length < 64 ∧
  ∀ l ws rows H', H l = none → H' l = some (.lst ws) → EchN (fun z => H z = none ∧ z ≠ l) H' ws (rows.map rowT) → TwR (allP pks) rows → rows.length ≤ 64 → (∀ r ∈ rows, r.2.length ≤ 900) → Same H H' → Q (.ref l) H'
abbrev sPkTw : Stmt := topS 4
theorem scPkTw : FnScope ["packings", "pairs", "packing", "mark", "first", "last", "told", "some"] ["packings"] (defScope sPkTw) := ⟨rfl, rfl, rfl, by decide +kernel, rfl, by decide +kernel, by decide +kernel⟩
section
variable {K : PySem.W.Frag} {mg : Str → Option Value} {P : Program} {w : World} {base : Heap}
theorem ok_PkTw {f : Addr} {fd : FuncData} (F : Fun K "packed_twice" "packed_twice" sPkTw f fd) (C_twice_in : Cal P w K mg base 2 "twice_in" ["pairs"] (spTwIn K)) (m_sorted : mg "sorted" = none) : FnOk P w K mg base CX0 3 f fd ["packings"] (spPkTw K) := by
  refine F.ok scPkTw (fun vs H Q E h => ?_) (fun cdv A outer s H vs Q E hr h => ?_)
  · obtain ⟨a, us, pks, xs, rfl, _⟩ := h
    rfl
  · obtain ⟨a, us, pks, xs, rfl, ha, hpk, hal, hok, hxs, hxl, q⟩ := h
    refine ⟨_, pss_cons (ps_set (i := 1) scPkTw.nd rfl (.inl rfl) pe_dnewK)
      (pss_cons (ps_for PassesOwn.never rfl (pi_seq (pv 0)) (pg_name (i := 2) scPkTw.nd rfl (.inl rfl))
        (pss_one (ps_for PassesOwn.never rfl (pi_list (pe_ix ix_tup (pv 2) pe_int (fun _ _ => rfl))) (pg_tup rfl (pgs_cons (pg_name (i := 3) scPkTw.nd rfl (.inl rfl)) (pgs_cons (pg_name (i := 4) scPkTw.nd rfl (.inl rfl)) (pgs_cons (pg_name (i := 5) scPkTw.nd rfl (.inl rfl)) pgs_nil))))
          (pss_one (ps_expr (pe_bm PySem.F.plainAttrs_list PySem.F.slot_list_append PySem.F.type_list_append mt_append (pe_dsetd (pv 1) (pv 3) (pe_lst pa_nil) ⟨rfl, rfl, rfl, rfl⟩) (pa_cons (pe_tup (pa_cons (pv 4) (pa_cons (pv 5) pa_nil))) pa_nil)))))))
      (pss_cons (ps_set (i := 6) scPkTw.nd rfl (.inl rfl) (pe_lst pa_nil))
      (pss_cons (ps_for PassesOwn.never rfl (pi_list (pe_callB (call_sortedD rfl) (by rfl) m_sorted (by decide +kernel) (pa_cons (pv 1) pa_nil))) (pg_name (i := 3) scPkTw.nd rfl (.inl rfl))
        (pss_cons (ps_set (i := 7) scPkTw.nd rfl (.inl rfl) (pe_own C_twice_in hr (by rfl) (pa_cons (pe_dget (hu_of hr) (pv 1) (pv 3) (fun _ _ => rfl)) pa_nil)))
        (pss_one (ps_if (pt_truth (pv 7) (by intro _; rfl)) (pss_one (ps_expr (pe_bm PySem.F.plainAttrs_list PySem.F.slot_list_append PySem.F.type_list_append mt_append (pv 6) (pa_cons (pe_tup (pa_cons (pv 3) (pa_cons (pv 7) pa_nil))) pa_nil))))
          pss_nil))))
      (pss_one (ps_ret (pv 6)))))), ?_⟩
    intro Pd nP
    have sP := same_upd (o := .dK []) nP
    have eP := upd_same (H := H) (a := Pd) (o := .dK [])
    revert sP eP
    generalize upd H Pd (.dK []) = H1
    intro sP eP
    refine ⟨_, rfl, a, rfl, for_seqS (K := K) (xs := us) ha.sq sP (fun i σ Hx => ∃ (kvs : List (L2.Key × V)) (y2 y3 y4 y5 y6 y7 : Option V), σ = [some (.ref a), some (.ref Pd), y2, y3, y4, y5, y6, y7] ∧ Same H Hx ∧ Hx Pd = some (.dK kvs) ∧ MkD H Hx kvs (allP (pks.take i))) ⟨[], _, _, _, _, _, _, rfl, sP, eP, MkD.nil⟩ (fun i σ Hx hP => ?_) (fun i u σ Hx hu hP => ?_) (fun σ Hx hP => ?_)⟩
    · obtain ⟨_, _, _, _, _, _, _, rfl, sx, _⟩ := hP
      exact sx
    · obtain ⟨kvs, y2, y3, y4, y5, y6, y7, rfl, sx, eP, hd⟩ := hP
      have hi : i < pks.length := by rw [← hpk.1]; exact (List.getElem?_eq_some_iff.mp hu).1
      obtain ⟨b, l, vs, rfl, eb, el, hpt⟩ := hpk.2 i u _ hu (List.getElem?_eq_getElem hi)
      have ek : pks[i]? = some pks[i] := List.getElem?_eq_getElem hi
      revert ek eb hpt
      generalize pks[i] = k
      intro eb hpt ek
      have hkm : ∀ p ∈ k.2.2, p ∈ allP pks := fun p hp => List.mem_flatMap.mpr ⟨k, List.mem_of_getElem? ek, hp⟩
      have hkl : ∀ j, (allP (pks.take i) ++ k.2.2.take j).length ≤ (allP pks).length := fun j => by
        have e1 := allP_take ek
        have e2 : (allP (pks.take (i + 1))).length ≤ (allP pks).length := by
          unfold allP
          conv => rhs; rw [← List.take_append_drop (i + 1) pks, List.flatMap_append, List.length_append]
          exact Nat.le_add_right _ _
        rw [e1, List.length_append] at e2
        rw [List.length_append, List.length_take]
        omega
      refine ⟨_, rfl, b, _, 2, _, rfl, rfl, .inl (.inl (sx _ _ eb)), rfl, l, rfl, ⟨_, SqL.of (sx _ _ el)⟩, for_list (xs := vs) (fun j σ Hy => ∃ (kvs : List (L2.Key × V)) (y3 y4 y5 y6 y7 : Option V), σ = [some (.ref a), some (.ref Pd), some (.ref b), y3, y4, y5, y6, y7] ∧ Same H Hy ∧ Hy Pd = some (.dK kvs) ∧ MkD H Hy kvs (allP (pks.take i) ++ k.2.2.take j)) ⟨kvs, _, _, _, _, _, rfl, sx, eP, by rw [List.take_zero, List.append_nil]; exact hd⟩ (fun j σ Hy _ hP => ?_) (fun j x σ Hy hx hP => ?_) (fun σ Hy hP => ?_)⟩
      · obtain ⟨_, _, _, _, _, _, rfl, sy, _⟩ := hP
        exact SqL.of (sy _ _ el)
      · obtain ⟨kvs, y3, y4, y5, y6, y7, rfl, sy, eP, hd⟩ := hP
        obtain ⟨p, ep, T, rfl, eT⟩ := Pts.at (Pts.same hpt sy) hx
        have hpm := hkm p (List.mem_of_getElem? ep)
        have etk : allP (pks.take i) ++ k.2.2.take (j + 1) = (allP (pks.take i) ++ k.2.2.take j) ++ [p] := by rw [List.take_add_one, ep, List.append_assoc]; rfl
        have hmem : ∀ p ∈ allP (pks.take i) ++ k.2.2.take j, p ∈ allP pks := fun p hp => by
          rcases List.mem_append.mp hp with z | z
          · obtain ⟨k', hk', z⟩ := List.mem_flatMap.mp z
            exact List.mem_flatMap.mpr ⟨k', List.mem_of_mem_take hk', z⟩
          · exact hkm p (List.mem_of_mem_take z)
        have hkvl := hd.few (xs := xs) fun p hp => hxs p (hmem p hp)
        refine ⟨T, _, rfl, .inl (.inl eT), rfl, _, _, rfl, _, _, rfl, _, _, rfl, rfl, ?_⟩
        refine ⟨_, rfl, Pd, rfl, .inl ⟨kvs, .inl eP⟩, _, rfl, Nat.zero_le _, fun z nz => ⟨kvs, .inr p.1, ?_, rfl, small1000 (by omega), fun v hv => ?_, fun hn => ?_⟩⟩
        all_goals have sz := same_upd (o := .lst []) nz
        · exact sz _ _ eP
        · have hin := valK_in hv
          obtain ⟨m, l2, us2, e1, e2, e3, e4⟩ := hd.ent _ hin
          cases e1
          have e2 := sz _ _ e2
          have hul : us2.length ≤ 900 := by
            rw [e3.1]
            exact Nat.le_trans (prOf_len _ _) (Nat.le_trans (hkl j) hal)
          refine ⟨.inl ⟨rfl, _, SqL.of e2⟩, _, rfl, _, rfl, by show 2 ≤ sizeLine; decide, fun T2 nT2 => ?_⟩
          have sT := same_upd (o := .tup [V.int p.2.1, .int p.2.2]) nT2
          have e2 := sT _ _ e2
          have eP := sT _ _ (sz _ _ eP)
          have hd2 := (hd.same sz).same sT
          refine ⟨l2, us2, _, rfl, rfl, e2, small1000 (by omega), kvs, _, _, _, _, _, rfl, fun b o e => ?_, ?_, ?_⟩
          · rw [upd_ne (ne_of_none e e4)]
            exact sT _ _ (sz _ _ (sy _ _ e))
          · rw [upd_ne (fun y => by rw [y, e2] at eP; cases eP)]
            exact eP
          · rw [etk]
            exact hd2.put hin upd_same (((e3.same sz).same sT).snoc upd_same |>.upd_lst e2) (fun a xs na e => by rw [upd_ne na]; exact e) fun a xs e => by rw [upd_ne (fun y => by rw [y, e2] at e; cases e)]; exact e
        · have nzH : H z = none := sy.free nz
          have zP : z ≠ Pd := fun y => by rw [y, eP] at nz; cases nz
          have ez : upd (upd Hy z (.lst [])) Pd (.dK (putK kvs (.inr p.1) (.ref z))) z = some (.lst []) := by rw [upd_ne zP]; exact upd_same
          refine ⟨.inl ⟨rfl, _, SqL.of ez⟩, _, rfl, _, rfl, by show 2 ≤ sizeLine; decide, fun T2 nT2 => ?_⟩
          have sT := same_upd (o := .tup [V.int p.2.1, .int p.2.2]) nT2
          have ez := sT _ _ ez
          have eP2 := sT _ _ (upd_same (H := upd Hy z (.lst [])) (a := Pd) (o := .dK (putK kvs (.inr p.1) (.ref z))))
          have tk : TupK Hy (upd (upd (upd (upd Hy z (.lst [])) Pd (.dK (putK kvs (.inr p.1) (.ref z)))) T2 (.tup [V.int p.2.1, .int p.2.2])) z (.lst ([] ++ [.ref T2]))) := fun a xs e => by
            rw [upd_ne (ne_of_none e nz)]
            refine sT _ _ ?_
            rw [upd_ne (fun y => by rw [y, eP] at e; cases e)]
            exact sz _ _ e
          have kl : ∀ a xs, a ≠ z → Hy a = some (.lst xs) → upd (upd (upd (upd Hy z (.lst [])) Pd (.dK (putK kvs (.inr p.1) (.ref z)))) T2 (.tup [V.int p.2.1, .int p.2.2])) z (.lst ([] ++ [.ref T2])) a = some (.lst xs) := fun a xs na e => by
            rw [upd_ne na]
            refine sT _ _ ?_
            rw [upd_ne (fun y => by rw [y, eP] at e; cases e)]
            exact sz _ _ e
          refine ⟨z, [], _, rfl, rfl, ez, by decide, putK kvs (.inr p.1) (.ref z), _, _, _, _, _, rfl, fun b o e => ?_, ?_, ?_⟩
          · rw [upd_ne (ne_of_none e nzH)]
            refine sT _ _ ?_
            rw [upd_ne (ne_of_none e nP)]
            exact sz _ _ (sy _ _ e)
          · rw [upd_ne zP.symm]
            exact eP2
          · rw [etk]
            exact hd.new hn nz nzH upd_same ((Prs.nil.snoc (x := p.2.1) (y := p.2.2) upd_same).upd_lst ez) kl tk
      · obtain ⟨kvs, y3, y4, y5, y6, y7, rfl, sy, eP, hd⟩ := hP
        refine ⟨kvs, _, _, _, _, _, _, rfl, sy, eP, ?_⟩
        rw [allP_take ek]
        rw [show vs.length = k.2.2.length from hpt.1, List.take_length] at hd
        exact hd
    obtain ⟨kvs, y2, y3, y4, y5, y6, y7, rfl, sx, eP, hd⟩ := hP
    rw [hpk.1, List.take_length] at hd
    obtain ⟨ns, en, hnd, hall, hent⟩ := hd.names
    have hkvl := hd.few (xs := xs) hxs
    have hnl : ns.length < 64 := by
      have := congrArg List.length en
      rw [List.length_map, List.length_map] at this
      omega
    refine ⟨Nat.zero_le _, fun l nl => ?_⟩
    have sl := same_upd (o := .lst []) nl
    have el := upd_same (H := Hx) (a := l) (o := .lst [])
    have hLt : ∀ m ∈ ns, ∀ rs, Told (fun n => 2 ≤ cntIn (prOf m (allP pks)) n) rs → rs = canon (Tw (allP pks) m) := fun m _ rs h => Told.canon (pr := Tw (allP pks) m) h
    refine ⟨_, rfl, Pd, kvs, ns, rfl, .inl (sl _ _ eP), en, hnl, fun ys g hperm hsort ng => ⟨g, rfl, ⟨_, SqL.of upd_same⟩, for_list (xs := ys.map V.str) (fun i σ Hy => ∃ (ws : List V) (y2 y3 y4 y5 y7 : Option V), σ = [some (.ref a), some (.ref Pd), y2, y3, y4, y5, some (.ref l), y7] ∧ Same Hx Hy ∧ Hy g = some (.lst (ys.map V.str)) ∧ Hy l = some (.lst ws) ∧ EchN (fun z => H z = none ∧ z ≠ l) Hy ws ((((ys.take i).map fun m => (m, canon (Tw (allP pks) m))).filter fullT).map rowT) ∧ ∀ m ∈ ys.take i, Told (Tw (allP pks) m) (canon (Tw (allP pks) m)) ∧ (canon (Tw (allP pks) m)).length ≤ 900) ?_ (fun i σ Hy _ hP => ?_) (fun i x σ Hy hx hP => ?_) (fun σ Hy hP => ?_)⟩⟩
    · exact ⟨[], _, _, _, _, _, rfl, sl.trans (same_upd ng), upd_same, same_upd ng _ _ el, EchN.nil, fun _ z => nomatch z⟩
    · obtain ⟨_, _, _, _, _, _, rfl, _, e, _⟩ := hP
      exact SqL.of e
    · obtain ⟨ws, y2, y3, y4, y5, y7, rfl, sy, eg, el, hws, htd⟩ := hP
      obtain ⟨m, em, rfl⟩ : ∃ m, ys[i]? = some m ∧ x = .str m := by
        rw [List.getElem?_map] at hx
        obtain ⟨m, e1, e2⟩ := Option.map_eq_some_iff.mp hx
        exact ⟨m, e1, e2.symm⟩
      have etk : ys.take (i + 1) = ys.take i ++ [m] := by rw [List.take_add_one, em]; rfl
      have hi : i < ys.length := (List.getElem?_eq_some_iff.mp em).1
      have hyl : ys.length < 64 := by rw [hperm.length_eq]; exact hnl
      have hmn : m ∈ ns := hperm.mem_iff.mp (List.mem_of_getElem? em)
      obtain ⟨l2, us2, hv, e2, e3⟩ := hent m hmn
      have hwl : ws.length ≤ i := by
        have := hws.1
        rw [List.length_map] at this
        have h2 := List.length_filter_le fullT ((ys.take i).map fun m => (m, canon (Tw (allP pks) m)))
        rw [List.length_map, List.length_take] at h2
        omega
      have hpl := prOf_len m (allP pks)
      refine ⟨_, rfl, _, rfl, Pd, .ref l2, rfl, .inl ⟨kvs, .inr m, .inl (sy _ _ eP), rfl, hv.symm⟩, l2, us2, _, rfl, sy _ _ e2, e3.same sy, by omega, fun p hp => (hok _ (prOf_mem hp)).2.1, fun lt rs Ht nlt hls htl hlen st => ?_⟩
      have ers := hLt m hmn rs htl
      obtain ⟨ut, elt, hut⟩ := hls
      have nltH : H lt = none := (sx.trans sy).free nlt
      have htd' : ∀ m' ∈ ys.take (i + 1), Told (Tw (allP pks) m') (canon (Tw (allP pks) m')) ∧ (canon (Tw (allP pks) m')).length ≤ 900 := fun m' hm' => by
        rw [etk] at hm'
        rcases List.mem_append.mp hm' with z | z
        · exact htd m' z
        · rw [List.mem_singleton.mp z, ← ers]; exact ⟨htl, hlen⟩
      have el2 := st _ _ el
      have eg2 := st _ _ eg
      refine ⟨_, rfl, !ut.isEmpty, .inl ⟨ut, SqL.of elt, rfl⟩, ?_⟩
      cases ut with
      | nil =>
        have e0 : rs = [] := List.eq_nil_of_length_eq_zero hut.1.symm
        refine iteF (A := True) ⟨ws, _, _, _, _, _, rfl, sy.trans st, eg2, el2, ?_, htd'⟩
        rw [etk, List.map_append, List.filter_append, List.map_cons, List.map_nil, List.filter_cons_of_neg (by unfold fullT; rw [← ers, e0]; exact fun z => by cases z), List.filter_nil, List.append_nil]
        exact hws.same st
      | cons u0 ur =>
        have e0 : fullT (m, canon (Tw (allP pks) m)) = true := by
          unfold fullT
          rw [← ers]
          cases hrr : rs with
          | nil => rw [hrr] at hut; cases hut.1
          | cons _ _ => rfl
        refine iteT (B := True) ⟨_, rfl, .inl ⟨rfl, _, SqL.of el2⟩, _, rfl, _, rfl, by show 2 ≤ sizeLine; decide, fun T nT => ?_⟩
        have sT := same_upd (o := .tup [V.str m, .ref lt]) nT
        have el3 := sT _ _ el2
        have ltl : lt ≠ l := fun y => by rw [y, el] at nlt; cases nlt
        have hrow : DatN (fun z => H z = none ∧ z ≠ l) (upd Ht T (.tup [V.str m, .ref lt])) (.ref T) (rowT (m, canon (Tw (allP pks) m))) := by
          rw [← ers]
          exact EchN.tup (.cons (.str _) (.one ((Prs.ech hut).same sT |>.lst ⟨nltH, ltl⟩ (sT _ _ elt)))) upd_same
        have k : Kps (fun z => H z = none ∧ z ≠ l) (upd Ht T (.tup [V.str m, .ref lt])) (upd (upd Ht T (.tup [V.str m, .ref lt])) l (.lst (ws ++ [.ref T]))) := .upd el3 fun a z => z.2
        refine ⟨l, ws, _, rfl, rfl, el3, small1000 (by omega), ws ++ [.ref T], _, _, _, _, _, rfl, fun b o e => ?_, ?_, upd_same, ?_, htd'⟩
        · rw [upd_ne (ne_of_none e nl)]; exact sT _ _ (st _ _ (sy _ _ e))
        · rw [upd_ne (fun y => by rw [y] at ng; rw [show upd Hx l (.lst []) l = some (.lst []) from upd_same] at ng; cases ng)]
          exact sT _ _ eg2
        · rw [etk, List.map_append, List.filter_append, List.map_cons, List.map_nil, List.filter_cons_of_pos e0, List.filter_nil, List.map_append]
          exact (((hws.same st).same sT).keep k).snoc (hrow.keep k)
    obtain ⟨ws, y2, y3, y4, y5, y7, rfl, sy, eg, el, hws, htd⟩ := hP
    rw [List.length_map, List.take_length] at hws htd
    have hyl : ys.length < 64 := by rw [hperm.length_eq]; exact hnl
    refine ⟨_, rfl, q l ws _ Hy (sx.free nl) el hws (TwR.of (sorted_strict hsort (hperm.nodup_iff.mpr hnd)) (fun p hp => hperm.mem_iff.mpr (hall p hp)) fun m hm => (htd m hm).1) ?_ (fun r hr => ?_) (sx.trans sy)⟩
    · have h2 := List.length_filter_le fullT (ys.map fun m => (m, canon (Tw (allP pks) m)))
      rw [List.length_map] at h2
      omega
    · obtain ⟨m, hm, rfl⟩ := List.mem_map.mp (List.mem_filter.mp hr).1
      exact (htd m hm).2
end

open G3
/-! ### cuts at all ends -/
def segS : List Int → List (Int × Int)
  | a :: b :: r => (a, b - 1) :: segS (b :: r)
  | _ => []
theorem seg_at : ∀ {cs : List Int} {i : Nat} {a b : Int}, cs[i]? = some a → cs[i + 1]? = some b → (segS cs)[i]? = some (a, b - 1)
  | [], _, _, _, h, _ => nomatch h
  | [_], 0, _, _, _, h => nomatch h
  | [_], i + 1, _, _, h, _ => nomatch h
  | x :: y :: r, 0, a, b, h, h' => by
    cases h; cases h'
    rfl
  | x :: y :: r, i + 1, a, b, h, h' => seg_at (cs := y :: r) (i := i) h h'
theorem seg_len : ∀ (cs : List Int), (segS cs).length = cs.length - 1
  | [] => rfl
  | [_] => rfl
  | a :: b :: r => by
    show (segS (b :: r)).length + 1 = _
    rw [seg_len (b :: r)]
    rfl
theorem seg_mem : ∀ {cs : List Int}, ∀ p ∈ segS cs, p.1 ∈ cs
  | [], _, h => nomatch h
  | [_], _, h => nomatch h
  | a :: b :: r, p, h => by
    rcases List.mem_cons.mp (show p ∈ (a, b - 1) :: segS (b :: r) from h) with z | z
    · rw [z]; exact List.mem_cons_self ..
    · exact List.mem_cons_of_mem _ (seg_mem p z)
theorem seg_gap : ∀ {cs : List Int}, cs.Pairwise (· < ·) → ∀ p ∈ segS cs, ∀ x ∈ cs, x ≤ p.1 ∨ p.2 < x
  | [], _, _, h, _, _ => nomatch h
  | [_], _, _, h, _, _ => nomatch h
  | a :: b :: r, up, p, h, x, hx => by
    obtain ⟨u1, u2⟩ := List.pairwise_cons.mp up
    rcases List.mem_cons.mp (show p ∈ (a, b - 1) :: segS (b :: r) from h) with z | z
    · rw [z]
      rcases List.mem_cons.mp hx with y | y
      · rw [y]; exact .inl (Int.le_refl _)
      · refine .inr ?_
        show b - 1 < x
        rcases List.mem_cons.mp y with w | w
        · omega
        · have := (List.pairwise_cons.mp u2).1 x w; omega
    · rcases List.mem_cons.mp hx with y | y
      · have := u1 p.1 (seg_mem p z)
        rw [y]; exact .inl (by omega)
      · exact seg_gap u2 p z x y
theorem seg_in : ∀ {cs : List Int} {a b n : Int}, cs.Pairwise (· < ·) → a ∈ cs → b ∈ cs → a ≤ n → n < b → ∃ p ∈ segS cs, p.1 ≤ n ∧ n ≤ p.2
  | [], _, _, _, _, h, _, _, _ => nomatch h
  | [x], a, b, n, _, h, h', h1, h2 => by
    rw [List.mem_singleton.mp h] at h1
    rw [List.mem_singleton.mp h'] at h2
    omega
  | x :: y :: r, a, b, n, up, h, h', h1, h2 => by
    obtain ⟨u1, u2⟩ := List.pairwise_cons.mp up
    by_cases c : n < y
    · refine ⟨(x, y - 1), List.mem_cons_self .., ?_, by show n ≤ y - 1; omega⟩
      show x ≤ n
      rcases List.mem_cons.mp h with z | z
      · omega
      · rcases List.mem_cons.mp z with w | w
        · omega
        · have := (List.pairwise_cons.mp u2).1 a w; omega
    · have hb : b ∈ y :: r := by
        rcases List.mem_cons.mp h' with z | z
        · have := u1 y (List.mem_cons_self ..); omega
        · exact z
      obtain ⟨p, hp, z⟩ := seg_in (a := y) u2 (List.mem_cons_self ..) hb (by omega) h2
      exact ⟨p, List.mem_cons_of_mem _ hp, z⟩
theorem cntIn_seg {L : List (Int × Int)} {m n : Int} (h : ∀ p ∈ L, (p.1 ≤ n ∧ n ≤ p.2) ↔ (p.1 ≤ m ∧ m ≤ p.2)) : cntIn L n = cntIn L m := by
  unfold cntIn
  rw [List.filter_congr fun p hp => ?_]
  have := h p hp
  rw [Bool.eq_iff_iff]
  simpa using this
/-- the segments that two or more have hold just the numbers that two or more have -/
theorem seg_twice {L : List (Int × Int)} {cs : List Int} (up : cs.Pairwise (· < ·)) (hc : ∀ p ∈ L, p.1 ∈ cs ∧ p.2 + 1 ∈ cs) (n : Int) : InS ((segS cs).filter fun p => decide (1 < cntIn L p.1)) n ↔ 2 ≤ cntIn L n := by
  have key : ∀ q ∈ segS cs, q.1 ≤ n → n ≤ q.2 → cntIn L n = cntIn L q.1 := fun q hq h1 h2 => cntIn_seg fun p hp => by
    obtain ⟨c1, c2⟩ := hc p hp
    have g1 := seg_gap up q hq _ c1
    have g2 := seg_gap up q hq _ c2
    constructor
    · rintro ⟨z1, z2⟩
      exact ⟨by rcases g1 with g | g <;> omega, by omega⟩
    · rintro ⟨z1, z2⟩
      exact ⟨by omega, by rcases g2 with g | g <;> omega⟩
  constructor
  · rintro ⟨q, hq, h1, h2⟩
    obtain ⟨m1, m2⟩ := List.mem_filter.mp hq
    rw [key q m1 h1 h2]
    exact of_decide_eq_true m2
  · intro h
    obtain ⟨p, hp, h1, h2⟩ := cntIn_pos.mp (Nat.le_trans (by decide) h)
    obtain ⟨c1, c2⟩ := hc p hp
    obtain ⟨q, hq, z1, z2⟩ := seg_in up c1 c2 h1 (by omega)
    refine ⟨q, List.mem_filter.mpr ⟨hq, decide_eq_true ?_⟩, z1, z2⟩
    rw [← key q hq z1 z2]
    exact h
theorem cutV_tail (cs : List Int) : cutV (cs.map V.int) (some 1) none = (cs.drop 1).map V.int := by
  unfold cutV
  rw [HT.sIx_none, show HT.sIx (cs.map V.int).length 0 (some 1) = min 1 (cs.map V.int).length from HT.sIx_nat _ _ 1, List.length_map, List.map_drop]
  by_cases c : 1 ≤ cs.length
  · rw [show min 1 cs.length = 1 by omega, List.take_of_length_le (by rw [List.length_drop, List.length_map]; omega)]
  · have : cs = [] := List.eq_nil_of_length_eq_zero (by omega)
    rw [this]
    rfl
/-! ### dicts {text: list}, put anew each time -/
structure MkL (H : Hp) (kvs : List (L2.Key × V)) (L : List Part) : Prop where
  nd : (kvs.map (·.1)).Nodup
  ent : ∀ e ∈ kvs, ∃ m l us, e = ((.inr m, .ref l) : L2.Key × V) ∧ H l = some (.lst us) ∧ Prs H us (prOf m L)
  all : ∀ p ∈ L, ∃ v, ((.inr p.1, v) : L2.Key × V) ∈ kvs
  own : ∀ e ∈ kvs, ∃ p ∈ L, e.1 = .inr p.1
theorem putK_mem {kvs : List (L2.Key × V)} {k : L2.Key} {v : V} : ∀ e ∈ putK kvs k v, e = (k, v) ∨ (e ∈ kvs ∧ e.1 ≠ k) := fun e he => by
  unfold putK at he
  split at he
  · obtain ⟨e0, h0, rfl⟩ := List.mem_map.mp he
    by_cases c : e0.1 = k
    · rw [if_pos c, c]; exact .inl rfl
    · rw [if_neg c]; exact .inr ⟨h0, c⟩
  · rename_i c
    rcases List.mem_append.mp he with z | z
    · exact .inr ⟨z, fun y => c (List.any_eq_true.mpr ⟨e, z, decide_eq_true y⟩)⟩
    · exact .inl (List.mem_singleton.mp z)
theorem putK_keys {kvs : List (L2.Key × V)} {k : L2.Key} {v : V} (nd : (kvs.map (·.1)).Nodup) : ((putK kvs k v).map (·.1)).Nodup ∧ ∀ x, x ∈ (putK kvs k v).map (·.1) ↔ x = k ∨ x ∈ kvs.map (·.1) := by
  unfold putK
  split
  · rename_i c
    have e : (kvs.map fun kv => if kv.1 = k then (kv.1, v) else kv).map (·.1) = kvs.map (·.1) := by
      rw [List.map_map]
      refine List.map_congr_left fun e _ => ?_
      show (if e.1 = k then (e.1, v) else e).1 = e.1
      split <;> rfl
    rw [e]
    refine ⟨nd, fun x => ⟨.inr, fun h => h.elim (fun z => ?_) id⟩⟩
    obtain ⟨e0, h0, hk⟩ := List.any_eq_true.mp c
    rw [z]
    exact List.mem_map.mpr ⟨e0, h0, of_decide_eq_true hk⟩
  · rename_i c
    rw [List.map_append]
    refine ⟨List.nodup_append.mpr ⟨nd, List.nodup_cons.mpr ⟨(fun z => nomatch z), List.nodup_nil⟩, fun x hx y hy z => ?_⟩, fun x => ?_⟩
    · obtain ⟨e0, h0, rfl⟩ := List.mem_map.mp hx
      rw [List.mem_singleton.mp hy] at z
      exact c (List.any_eq_true.mpr ⟨e0, h0, decide_eq_true z⟩)
    · rw [List.mem_append]
      exact ⟨fun h => h.elim .inr fun z => .inl (List.mem_singleton.mp z), fun h => h.elim (fun z => .inr (List.mem_singleton.mpr z)) .inl⟩
theorem key_val {kvs : List (L2.Key × V)} {k : L2.Key} (h : k ∈ kvs.map (·.1)) : ∃ v, (k, v) ∈ kvs := by
  obtain ⟨e, he, rfl⟩ := List.mem_map.mp h
  exact ⟨e.2, he⟩
theorem MkL.put {H H' : Hp} {kvs : List (L2.Key × V)} {L : List Part} {p : Part} {l : Addr} {us' : List V} (h : MkL H kvs L) (e : H' l = some (.lst us')) (hu : Prs H' us' (prOf p.1 L ++ [p.2])) (kl : ∀ a xs, H a = some (.lst xs) → H' a = some (.lst xs)) (kt : TupK H H') : MkL H' (putK kvs (.inr p.1) (.ref l)) (L ++ [p]) := by
  obtain ⟨n1, n2⟩ := putK_keys (k := .inr p.1) (v := .ref l) h.nd
  refine ⟨n1, fun e' he => ?_, fun q hq => ?_, fun e' he => ?_⟩
  · rcases putK_mem e' he with z | ⟨z1, z2⟩
    · rw [z]
      exact ⟨_, l, us', rfl, e, by rw [prOf_append, prOf_one]; exact hu⟩
    · obtain ⟨m, l2, us2, e1, e2, e3⟩ := h.ent e' z1
      have c : p.1 ≠ m := fun y => z2 (by rw [e1, y])
      exact ⟨m, l2, us2, e1, kl _ _ e2, by rw [prOf_append, prOf_other c, List.append_nil]; exact prs_tk e3 kt⟩
  · refine key_val ((n2 _).mpr ?_)
    rcases List.mem_append.mp hq with z | z
    · obtain ⟨v, hv⟩ := h.all q z
      exact .inr (List.mem_map.mpr ⟨_, hv, rfl⟩)
    · rw [List.mem_singleton.mp z]; exact .inl rfl
  · rcases putK_mem e' he with z | ⟨z1, z2⟩
    · rw [z]; exact ⟨p, List.mem_append_right _ (List.mem_singleton.mpr rfl), rfl⟩
    · obtain ⟨q, hq, y⟩ := h.own e' z1
      exact ⟨q, List.mem_append_left _ hq, y⟩
/-- what get tells, or nothing -/
theorem MkL.get {H : Hp} {kvs : List (L2.Key × V)} {L : List Part} (h : MkL H kvs L) (m : Str) : (∃ l us, valV kvs (.inr m) = some (.ref l) ∧ H l = some (.lst us) ∧ Prs H us (prOf m L)) ∨ (valV kvs (.inr m) = none ∧ prOf m L = []) := by
  cases e : valV kvs (.inr m) with
  | none =>
    refine .inr ⟨rfl, ?_⟩
    unfold prOf
    rw [List.filter_eq_nil_iff.mpr fun q hq z => ?_]
    · rfl
    · obtain ⟨v, hv⟩ := h.all q hq
      exact valK_none e _ hv (by rw [of_decide_eq_true z])
  | some v =>
    obtain ⟨m', l, us, e1, e2, e3⟩ := h.ent _ (valK_in e)
    cases e1
    exact .inl ⟨l, us, rfl, e2, e3⟩
theorem MkL.few {H : Hp} {kvs : List (L2.Key × V)} {L : List Part} {xs : List Str} (h : MkL H kvs L) (hx : ∀ p ∈ L, p.1 ∈ xs) : kvs.length ≤ xs.length := by
  have := nodup_len (l := kvs.map (·.1)) (m := xs.map Sum.inr) h.nd fun k hk => by
    obtain ⟨e, he, rfl⟩ := List.mem_map.mp hk
    obtain ⟨p, hp, z⟩ := h.own e he
    rw [z]
    exact List.mem_map.mpr ⟨_, hx p hp, rfl⟩
  rwa [List.length_map, List.length_map] at this
theorem MkL.names {H : Hp} {kvs : List (L2.Key × V)} {L : List Part} (h : MkL H kvs L) : ∃ ns : List Str, kvs.map (·.1) = ns.map Sum.inr ∧ ns.Nodup ∧ (∀ p ∈ L, p.1 ∈ ns) ∧ ∀ m ∈ ns, ∃ l us, valV kvs (.inr m) = some (.ref l) ∧ H l = some (.lst us) ∧ Prs H us (prOf m L) := by
  have : ∀ l : List (L2.Key × V), (∀ e ∈ l, ∃ m : Str, e.1 = .inr m) → ∃ ns : List Str, l.map (·.1) = ns.map Sum.inr := fun l => by
    induction l with
    | nil => intro _; exact ⟨[], rfl⟩
    | cons e r ih =>
      intro hh
      obtain ⟨ns, e1⟩ := ih fun x hx => hh x (List.mem_cons_of_mem _ hx)
      obtain ⟨m, e2⟩ := hh e (List.mem_cons_self ..)
      exact ⟨m :: ns, by rw [List.map_cons, List.map_cons, e1, e2]⟩
  obtain ⟨ns, en⟩ := this kvs fun e he => let ⟨m, _, _, e1, _⟩ := h.ent e he; ⟨m, by rw [e1]⟩
  refine ⟨ns, en, ?_, fun p hp => ?_, fun m hm => ?_⟩
  · have := h.nd
    rw [en] at this
    exact nodup_map_of this
  · obtain ⟨v, hv⟩ := h.all p hp
    have : (.inr p.1 : L2.Key) ∈ ns.map Sum.inr := by rw [← en]; exact List.mem_map.mpr ⟨_, hv, rfl⟩
    obtain ⟨m, hm, z⟩ := List.mem_map.mp this
    rw [← Sum.inr.inj z]
    exact hm
  · have : (.inr m : L2.Key) ∈ kvs.map (·.1) := by rw [en]; exact List.mem_map.mpr ⟨m, hm, rfl⟩
    obtain ⟨v, hv⟩ := key_val this
    obtain ⟨m', l, us, e1, e2, e3⟩ := h.ent _ hv
    have h2 := valK_at h.nd _ hv
    cases e1
    exact ⟨l, us, h2, e2, e3⟩

/-! ## sets of texts that keep their order -/
namespace StS
open PySem PySem.Spec PyProof.Rows L2
/-- the text of an entry -/
def keyT (e : Int × Value) : Str := match e.2 with | .str x _ => x | _ => ⟨#[]⟩
/-- what the entries, the table tell of the texts that S has -/
structure Tx (w : World) (es : Array (Int × Value)) (t : SetTable) (S : Str → Bool) (n : Nat) : Prop where
  good : ∀ e ∈ es.toList, ∃ x u, e.2 = Value.str x u ∧ e.1 = hashStr w x
  uniq : (es.toList.map keyT).Nodup
  mem : ∀ x, S x = true ↔ x ∈ es.toList.map keyT
  room : es.size < scanBound
  fit : t.fits es.size = true
  num : es.size = n
  up : L2.Ris t.place.toList
  led : w.params.followText "set-order" = true ∨ t.led = true
def SetS (w : World) (h : Heap) (a : Addr) (S : Str → Bool) (n : Nat) : Prop := ∃ o es ep t, h.get? a = some o ∧ o.ExactSet ∧ o.data = .set es ep t ∧ Tx w es t S n
section
variable {P : Program} {w : World} {A : Around} {E : Value → Shared → Prop} {s : Shared} {a : Addr} {S : Str → Bool} {n : Nat}
theorem SetS.at {h h' : Heap} (R : SetS w h a S n) (k : ∀ o, h.get? a = some o → h'.get? a = some o) : SetS w h' a S n := let ⟨o, es, ep, t, e, r⟩ := R; ⟨o, es, ep, t, k o e, r⟩
theorem SetS.congr {h : Heap} {S' : Str → Bool} {n' : Nat} (R : SetS w h a S n) (q : ∀ x, S' x = S x) (qn : n' = n) : SetS w h a S' n' := by
  rw [show S' = S from funext q, qn]
  exact R
theorem isK {x y : Str} {u : Tok} : (strKind P w).is x (.str y u) = true ↔ y = x := by
  show Value.isStrOf x (.str y u) = true ↔ y = x
  simp only [Value.isStrOf, beq_iff_eq]
theorem Tx.elems {es : Array (Int × Value)} {t : SetTable} (X : Tx w es t S n) : ElemsOf (strKind P w) es.toList := fun e he => by
  obtain ⟨x, u, e1, e2⟩ := X.good e he
  refine ⟨⟨x, ?_, e2⟩, ?_⟩
  · rw [e1]
    exact isK.mpr rfl
  · rw [e1]
    rfl
theorem Tx.has {es : Array (Int × Value)} {t : SetTable} (X : Tx w es t S n) (x : Str) : S x = true ↔ ∃ e ∈ es.toList, (strKind P w).is x e.2 = true := by
  rw [X.mem x, List.mem_map]
  constructor
  · rintro ⟨e, he, q⟩
    obtain ⟨y, u, e1, _⟩ := X.good e he
    refine ⟨e, he, ?_⟩
    unfold keyT at q
    rw [e1] at q ⊢
    exact isK.mpr q
  · rintro ⟨e, he, q⟩
    obtain ⟨y, u, e1, _⟩ := X.good e he
    refine ⟨e, he, ?_⟩
    unfold keyT
    rw [e1] at q ⊢
    exact isK.mp q
theorem SetS.setOf {h : Heap} (R : SetS w h a S n) : h.SetOf (strKind P w) a S n := by
  obtain ⟨o, es, ep, t, ho, hx, hd, X⟩ := R
  exact ⟨o, es, ep, t, ho, hx, hd, X.elems, X.has, X.room, X.fit, X.num⟩
/-- what stands behind the store of an entry more -/
theorem tail_tx {g : Bool → Sem Unit} (quiet : ∀ (b : Bool) (s1 : Shared) (Q' : Unit → Shared → Prop), Q' () s1 → wpAny (model P w) A (g b) Q' E s1) {o : Obj} {es es1 : Array (Int × Value)} {ep : Nat} {t t2 : SetTable} {S' : Str → Bool} (ho : s.heap.get? a = some o) (hx : o.ExactSet) (hd : o.data = .set es ep t)
    (X : Tx w es1 t2 S' es1.size) {wasDummy : Bool} {R : Option Bool → Shared → Prop} (hR : ∀ h', Heap.SameBut a s.heap h' → SetS w h' a S' es1.size → R (some true) { s with heap := h' }) :
    wpAny (model P w) A (do
        storeSet a es1 t2
        if (!wasDummy && t2.tooFull) = true then do
            g (relayAll t2 es1 (SetTable.grown es1.size)).2.2
            storeSet a (relayAll t2 es1 (SetTable.grown es1.size)).1 (relayAll t2 es1 (SetTable.grown es1.size)).2.1
            pure (some true)
          else pure (some true)) R E s := by
  refine wpAny_bind (wpAny_storeSet_of ho hd ?_ (fits_of_scanBound X.room))
  have o1 := PpSet.storeB_at (es' := es1) (t' := t2) ho hd
  have b1 := Heap.SameBut.update s.heap a (Obj.putSet es1 t2)
  by_cases full : (!wasDummy && t2.tooFull) = true
  · rw [if_pos full]
    have pm := relayAll_perm t2 es1 (SetTable.grown es1.size)
    have q1 := relayAll_fits t2 es1 (SetTable.grown es1.size)
    have q2 := relayAll_ris t2 es1 (SetTable.grown es1.size)
    have q3 := relayAll_led t2 es1 (SetTable.grown es1.size)
    revert pm q1 q2 q3
    generalize relayAll t2 es1 (SetTable.grown es1.size) = Z
    obtain ⟨es2, t3, gave⟩ := Z
    intro pm q1 q2 q3
    have long : es2.size = es1.size := by
      have := pm.length_eq
      rwa [Array.length_toList, Array.length_toList] at this
    refine wpAny_bind (quiet _ _ _ (wpAny_bind (wpAny_storeSet_of o1 rfl ?_ (fits_of_scanBound (by show es2.size < scanBound; rw [long]; exact X.room)))))
    have o2 := PpSet.storeB_at (es' := es2) (t' := t3) o1 rfl
    exact wpAny_pure (hR _ (b1.trans (Heap.SameBut.update _ a _)) ⟨_, es2, _, t3, o2, hx, rfl, { good := fun e he => X.good e (pm.mem_iff.mp he), uniq := (pm.map keyT).nodup_iff.mpr X.uniq, mem := fun x => (X.mem x).trans (pm.map keyT).mem_iff.symm, room := (by rw [long]; exact X.room), fit := q1, num := long, up := q2, led := X.led.imp id fun z => (by rw [show t3.led = _ from q3]; exact z) }⟩)
  · rw [if_neg full]
    exact wpAny_pure (hR _ b1 ⟨_, es1, _, t2, o1, hx, rfl, X⟩)
theorem add_hashed {x : Str} {u : Tok} {Q : Bool → Shared → Prop} (R : SetS w s.heap a S n) (room : n + 1 < scanBound)
    (hQ : ∀ h', Heap.SameBut a s.heap h' → SetS w h' a (fun y => S y || decide (y = x)) (if S x = true then n else n + 1) → Q (!S x) { s with heap := h' }) : wpAny (model P w) A (setAddHashed a (.str x u) ((strKind P w).hash x)) Q E s := by
  obtain ⟨o, es, ep, t, ho, hx, hd, X⟩ := R
  have isx : (strKind P w).is x (.str x u) = true := isK.mpr rfl
  have scan : (Value.str x u).scannable = true := rfl
  have elems := X.elems (P := P)
  have quiet : ∀ (b : Bool) {s1 : Shared} {Q' : Unit → Shared → Prop}, Q' () s1 → wpAny (model P w) A (match b with | true => rule "set.scan.the-table-gave-way" | false => pure ()) Q' E s1 := fun b s1 Q' q => by
    cases b
    · exact wpAny_pure q
    · exact wpAny_rule q
  unfold setAddHashed setAddHashedIn
  refine wpAny_holding (wpAny_bind (wpAny_setState_of ho hd X.fit ?_))
  dsimp only
  rw [byScan_of scan X.room elems]
  simp only [↓reduceIte]
  unfold setAddByScan
  refine wpAny_bind (wpAny_bind (wpAny_rule (wpAny_bind (wpAny_setScan_of isx ho hd X.fit elems ?_))))
  cases found : List.findIdx? (fun e => (strKind P w).is x e.2) es.toList with
  | some j =>
    dsimp only
    obtain ⟨hj, pj, _⟩ := List.findIdx?_eq_some_iff_getElem.mp found
    have Sx : S x = true := (X.has (P := P) x).mpr ⟨_, List.getElem_mem hj, pj⟩
    have m1 : ∀ y, (S y || decide (y = x)) = true ↔ y ∈ es.toList.map keyT := fun y => by
      rw [Bool.or_eq_true, decide_eq_true_eq, ← X.mem y]
      exact ⟨fun z => z.elim id fun e => e ▸ Sx, .inl⟩
    have q := hQ s.heap (Heap.SameBut.refl a s.heap) ⟨o, es, ep, t, ho, hx, hd, { X with mem := m1, num := (by rw [if_pos Sx]; exact X.num) }⟩
    rw [Sx] at q
    exact wpAny_pure (wpAny_pure q)
  | none =>
    dsimp only
    have Sx : S x = false := by
      cases q : S x with
      | false => rfl
      | true =>
        obtain ⟨e, he, z⟩ := (X.has (P := P) x).mp q
        have := List.findIdx?_eq_none_iff.mp found e he
        rw [z] at this
        cases this
    have nx : x ∉ es.toList.map keyT := fun z => by
      rw [(X.mem x).mpr z] at Sx
      cases Sx
    have pm := layNew_perm t es ((strKind P w).hash x) (.str x u)
    have q1 := layNew_fits t es ((strKind P w).hash x) (.str x u)
    have q2 := layNew_ris t es ((strKind P w).hash x) (.str x u) X.up
    have q3 := layNew_led t es ((strKind P w).hash x) (.str x u)
    generalize layNew t es ((strKind P w).hash x) (.str x u) = Z at pm q1 q2 q3 ⊢
    obtain ⟨es1, t1, wasDummy, gave⟩ := Z
    dsimp only at pm q1 q2 q3 ⊢
    rw [Array.toList_push] at pm
    have pc : es1.toList.Perm (((strKind P w).hash x, Value.str x u) :: es.toList) := pm.trans (List.perm_append_singleton _ _)
    have pk : (es1.toList.map keyT).Perm (x :: es.toList.map keyT) := pc.map keyT
    have long : es1.size = n + 1 := by
      have := pc.length_eq
      rw [List.length_cons, Array.length_toList, Array.length_toList, X.num] at this
      exact this
    have new : ∀ t2 : SetTable, t2.fits es1.size = true → L2.Ris t2.place.toList → t2.led = t1.led → Tx w es1 t2 (fun y => S y || decide (y = x)) es1.size := fun t2 z1 z2 z3 => {
      good := fun e he => (List.mem_cons.mp (pc.mem_iff.mp he)).elim (fun z => ⟨x, u, by rw [z], by rw [z]; rfl⟩) (X.good e)
      uniq := pk.nodup_iff.mpr (List.nodup_cons.mpr ⟨nx, X.uniq⟩)
      mem := fun y => by
        rw [Bool.or_eq_true, decide_eq_true_eq, X.mem y, pk.mem_iff, List.mem_cons]
        exact Or.comm
      room := by rw [long]; exact room
      fit := z1
      num := rfl
      up := z2
      led := X.led.imp id fun z => by rw [z3, q3]; exact z }
    have fin : ∀ h', Heap.SameBut a s.heap h' → SetS w h' a (fun y => S y || decide (y = x)) es1.size → Q true { s with heap := h' } := fun h' sb r => by
      have q := hQ h' sb
      rw [Sx] at q
      rw [long] at r
      exact q r
    refine wpAny_bind (quiet _ ?_)
    split
    · refine wpAny_bind ?_
      rw [hashByValue_scannable 8 scan]
      refine wpAny_pure (tail_tx (fun b s1 Q' q => quiet b q) ho hx hd (new _ ?_ ?_ ?_) fun h' sb r => ?_)
      · first | (split <;> first | exact q1 | exact SetTable.fits_plain_off q1) | exact q1
      · first | (split <;> exact q2) | exact q2
      · first | (split <;> rfl) | rfl
      · dsimp only
        exact wpAny_pure (fin h' sb r)
    · refine wpAny_bind (wpAny_pure ?_)
      simp only [↓reduceIte]
      refine tail_tx (fun b s1 Q' q => quiet b q) ho hx hd (new t1 q1 q2 rfl) fun h' sb r => ?_
      dsimp only
      exact wpAny_pure (fin h' sb r)
/-- the set's add -/
theorem add_str {x : Str} {u : Tok} {Q : Value → Shared → Prop} (R : SetS w s.heap a S n) (room : n + 1 < scanBound)
    (hQ : ∀ h', Heap.SameBut a s.heap h' → SetS w h' a (fun y => S y || decide (y = x)) (if S x = true then n else n + 1) → Q .none { s with heap := h', toks := s.toks + 1 }) : wpAny (model P w) A (call (.builtin "set.add") [.ref a, .str x u]) Q E s := by
  refine wpAny_call_entry F.slot_set_add (SetS.setOf (P := P) R).typeIs F.entry_set_add ?_ (F.args_set_add_2 _ _)
  unfold Builtin.«set.add» Builtin.Frozenset.oneOther Builtin.Frozenset.addrOf setAdd
  simp only [List.isEmpty_nil, bind_assoc]
  refine wpAny_bind (wpAny_pure ?_)
  try dsimp only
  refine wpAny_bind (wpAny_pure ?_)
  try dsimp only
  refine wpAny_bind (wpAny_holding (wpAny_bind ((strKind P w).pyHash (k := x) (isK.mpr rfl) ?_)))
  refine add_hashed (s := { s with toks := s.toks + 1 }) R room fun h' sb r => ?_
  show wpAny _ _ (ret Value.none) _ _ _
  exact wpAny_pure ⟨_, rfl, hQ h' sb r⟩
theorem new_at {h : Heap} (ho : h.get? a = some { cls := .type "set", dict := none, data := .set #[] 0 (.fresh 0 0 (!w.params.followText "set-order")) }) : SetS w h a (fun _ => false) 0 :=
  have l : w.params.followText "set-order" = true ∨ (!w.params.followText "set-order") = true := by
    cases w.params.followText "set-order"
    · exact .inr rfl
    · exact .inl rfl
  ⟨_, #[], 0, _, ho, ⟨rfl, rfl, rfl⟩, rfl, ⟨(fun e he => by simp at he), (by simp), (fun x => by simp), (by decide), (by rfl), rfl, List.Pairwise.nil, l⟩⟩
theorem strs_all : ∀ (l : List Value), (∀ v ∈ l, ∃ x u, v = Value.str x u) → StrsAre l (l.map fun v => keyT (0, v))
  | [], _ => .nil
  | v :: l, h => by
    obtain ⟨x, u, rfl⟩ := h v (List.mem_cons_self ..)
    exact .cons x u (strs_all l fun y hy => h y (List.mem_cons_of_mem _ hy))
/-- sorted of a set of texts -/
theorem sorted_txts {Q : Value → Shared → Prop} (R : SetS w s.heap a S n) (calm : A.handled = none) (few : n < 64)
    (end_ : ∀ st p (out : Array Value) (c : Nat) (xs : List Str), (∀ b o, s.heap.get? b = some o → st.heap.get? b = some o) → st.gens = s.gens → st.os = s.os → s.heap.objs.size ≤ p → st.heap.get? p = some (seqObj "list" out c) → StrsAre out.toList xs → sortedS xs = true → xs.Nodup → (∀ x, x ∈ xs ↔ S x = true) → xs.length = n → Q (.ref p) st) :
    wpAny (model P w) A (call (.builtin "sorted") [.ref a]) Q E s := by
  obtain ⟨o, es, ep, t, ho, hx, hd, X⟩ := R
  refine Calls.call_function_entry kind_sorted plain_sorted entry_sorted (args_sorted1 _) ?_
  unfold Builtin.«sorted»
  refine wpAny_bind (m := checkCount "sorted" 1 1 _) (wpAny_pure (wpAny_bind (collect_set (A := A.in1) calm ⟨o, ho, hx.1, hd⟩ X.fit X.room X.up X.led fun s1 vs k1 hz g1 o1 pm => ?_)))
  have vlen : vs.length = n := by
    rw [pm.length_eq, List.length_map, Array.length_toList]
    exact X.num
  have isS := strs_all vs fun v hv => by
    obtain ⟨e, he, q⟩ := List.mem_map.mp (pm.mem_iff.mp hv)
    obtain ⟨x, u, e1, _⟩ := X.good e he
    exact ⟨x, u, by rw [← q]; exact e1⟩
  have keys : (vs.map fun v => keyT (0, v)).Perm (es.toList.map keyT) := by
    have q := pm.map fun v => keyT (0, v)
    rwa [List.map_map] at q
  refine wpAny_bind (wpAny_newList ?_ (by rw [vlen, sizeLine_eq]; omega))
  have new1 : (s1.heap.push (seqObj "list" vs.toArray 0)).get? s1.heap.objs.size = some (seqObj "list" vs.toArray 0) := Heap.get?_push_size _ rfl
  refine wpAny_bind (wpAny_holding (wpAny_call_entry slot_list_sort ⟨_, new1, rfl⟩ entry_list_sort (list_sort_treeK strKind_oneLt new1 isS.keysOf (fun v1 v2 rest e => keyKind_strs (by rw [← e]; exact isS)) (by rw [vlen]; exact few) fun st' hp hs => ⟨_, rfl, ?_⟩) (args_list_sort _)))
  obtain ⟨ys, g1', g2, g3⟩ := sorted_out_str isS hp hs
  obtain ⟨c, hc⟩ := sortedHeap_at (vs := vs) (out := (arrOf st').map (·.2)) new1
  have pn := g2.trans keys
  refine wpAny_pure ⟨_, rfl, end_ _ s1.heap.objs.size _ c ys (fun b u e => ?_) g1 o1 hz hc g1' g3 (pn.nodup_iff.mpr X.uniq) (fun x => by rw [pn.mem_iff, ← X.mem x]) (by rw [pn.length_eq, List.length_map, Array.length_toList]; exact X.num)⟩
  have q := k1 b u e
  have lt := Heap.lt_size q
  show (sortedHeap (s1.heap.push (seqObj "list" vs.toArray 0)) s1.heap.objs.size vs _).get? b = some u
  rw [sortedHeap_old (Nat.ne_of_lt lt) (by rw [size_push']; exact Nat.lt_succ_of_lt lt)]
  exact Heap.get?_push_of_some _ q
end
/-- a set of texts, as it is tracked -/
def SetSO (w : World) (a : Addr) (S : Str → Bool) (n : Nat) : HO := .ext fun h => SetS w h a S n
theorem setSO_new {w : World} {P : Program} {H : Hp} {h : Heap} {a : Addr} {S : Str → Bool} {n : Nat} (R : SetS w h a S n) : ObjOk P w H h a (SetSO w a S n) := ⟨R, let ⟨o, _, _, _, ho, _⟩ := R; ⟨o, ho⟩, fun _ _ x k => x.at k⟩
theorem setSO_get {X : Cx} {pins : List (Addr × Obj)} {σ : L2.St} {H : Hp} {s : Shared} {a : Addr} {S : Str → Bool} {n : Nat} (I : Inv X pins σ H s) (ha : H a = some (SetSO X.w a S n)) : SetS X.w s.heap a S n := (I.hok a _ ha).1
/-- sorted of such a set -/
def rSortedTx (w : World) : List V → Hp → VK → Prop := fun vs H Q => ∃ (a : Addr) (S : Str → Bool) (n : Nat), vs = [V.ref a] ∧ H a = some (SetSO w a S n) ∧ n < 64 ∧ ∀ (xs : List Str) (p : Addr), sortedS xs = true → xs.Nodup → (∀ x, x ∈ xs ↔ S x = true) → xs.length = n → H p = none → Q (.ref p) (upd H p (.lst (xs.map V.str)))
theorem cr_sortedTx {X : Cx} (hc : X.calm = true) : CallR X (.builtin "sorted") (rSortedTx X.w) := by
  intro pins s σ H vs us Q I r h
  obtain ⟨a, S, n, rfl, ha, few, q⟩ := h
  rw [Vals.ref1 r]
  refine sorted_txts (setSO_get I ha) (I.ok.hd hc) few fun st p out c xs k g o hp hg isS up nd mem cnt => ?_
  have len : (xs.map V.str).length ≤ sizeLine := by
    rw [List.length_map, cnt, sizeLine_eq]
    omega
  have new : H p = none := I.hok.fresh hp
  have J : Inv X pins σ (upd H p (.lst (xs.map V.str))) { s with heap := st.heap, gens := st.gens, drawn := st.drawn, toks := st.toks } :=
    I.call (ch := []) (Un.laid k hp new) (I.hok.laid k hp ⟨len, out.toList, c, vals_of_strs isS, hg⟩) (by rw [g]; exact I.bare) (fun _ z => nomatch z)
  have e : st = { s with heap := st.heap, gens := st.gens, drawn := st.drawn, toks := st.toks } := by
    cases st
    cases s
    cases o
    rfl
  rw [e]
  exact ⟨.ref p, _, J, rfl, q xs p up nd mem cnt new⟩
theorem addS_ok {X : Cx} {pins : List (Addr × Obj)} {σ : L2.St} {H : Hp} {s : Shared} {E : Value → Shared → Prop} {D : Addr} {S : Str → Bool} {n : Nat} {x : Str} {u : Tok} {Q : Value → Shared → Prop} (I : Inv X pins σ H s) (hD : H D = some (SetSO X.w D S n)) (room : n + 1 < scanBound)
    (q : ∀ s', Inv X pins σ (upd H D (SetSO X.w D (fun y => S y || decide (y = x)) (if S x = true then n else n + 1))) s' → Q .none s') : wpAny (model X.prog X.w) X.A (call (.builtin "set.add") [.ref D, .str x u]) Q E s := by
  refine add_str (setSO_get I hD) room fun h' sb new => q _ ?_
  exact I.write (e := D) (t' := s.toks + 1) (by rw [hD]; trivial) (.inl rfl) (fun b v hb hv => (sb.2 b hb).trans hv) (let ⟨o, _, _, _, ho, _⟩ := new; ⟨o, ho⟩) (setSO_new new)
end StS
/-! ### {elt for tg in iter if .. for tg1 in iter1 if ..}, elt a text -/
namespace StS
open PySem PySem.Spec PyProof.Rows L2
section
variable {prog : Program} {w : World} {A : Around} {R : Result → Shared → Prop} {s : Shared} {elt t0 i0 t1 i1 : Expr} {ifs0 ifs1 : List Expr} {scope : Scope} {pos : Pos} {it acc : Value} {env : Env}
abbrev Sc2 (elt t0 i0 t1 i1 : Expr) (ifs0 ifs1 : List Expr) (scope : Scope) (pos : Pos) : Expr := .SetComp elt [⟨t0, i0, ifs0, 0⟩, ⟨t1, i1, ifs1, 0⟩] scope pos
theorem turn_out : compTurn (Sc2 elt t0 i0 t1 i1 ifs0 ifs1 scope pos) 0 it acc env = (standAt i0.pos >>= fun _ => pyNext it >>= fun r => match r with
      | none => pure (.done .next)
      | some v => do
        letOwnedTupleGo t0 it v
        assign t0 env v
        let mut ok := true
        for c in ifs0 do
          if ok then ok ← isTrue c env (eval c env)
        if ok then
          let x ← eval i1 env
          standAt i1.pos
          let x ← foldedSetIterable i1 env x
          let _ ← runOwn (.compStart (Sc2 elt t0 i0 t1 i1 ifs0 ifs1 scope pos) 1 (← holding [x] (pyIter x)) acc env) env
        again (.compLoop (Sc2 elt t0 i0 t1 i1 ifs0 ifs1 scope pos) 0 it acc env)) := by rfl
theorem turn_in : compTurn (Sc2 elt t0 i0 t1 i1 ifs0 ifs1 scope pos) 1 it acc env = (standAt i1.pos >>= fun _ => pyNext it >>= fun r => match r with
      | none => pure (.done .next)
      | some v => do
        letOwnedTupleGo t1 it v
        assign t1 env v
        let mut ok := true
        for c in ifs1 do
          if ok then ok ← isTrue c env (eval c env)
        if ok then
          (do let v ← eval elt env; standAt elt.pos; let _ ← call (.builtin "set.add") [acc, v])
        again (.compLoop (Sc2 elt t0 i0 t1 i1 ifs0 ifs1 scope pos) 1 it acc env)) := by rfl
/-- what is asked of the tests of a clause -/
abbrev tests (ifs : List Expr) (env : Env) : Sem Bool := forIn ifs true fun c r => if r = true then do let ok ← isTrue c env (eval c env); pure (ForInStep.yield ok) else pure (ForInStep.yield r)
theorem loop_out (hs : ∀ x, foldedSetIterable i1 env x = pure x) (I : Nat → Shared → Prop)
    (turn : ∀ n s, I n s → wpAny (model prog w) A (pyNext it) (fun r s1 => match r with
      | none => R (.ok .next) s1
      | some v => wpAny (model prog w) A (letOwnedTupleGo t0 it v) (fun _ s2 => wpAny (model prog w) A (assign t0 env v) (fun _ s3 => wpAny (model prog w) A (tests ifs0 env) (fun ok s4 =>
            if ok = true then wpAny (model prog w) A (eval i1 env) (fun x s5 => wpAny (model prog w) A (pyIter x) (fun it1 s6 =>
              codeAny (model prog w) A (.compStart (Sc2 elt t0 i0 t1 i1 ifs0 ifs1 scope pos) 1 it1 acc env) (fun r s' => match r with
                | .ok _ => ∃ m, m < n ∧ I m s'
                | .error _ => False) s6) (notedBy (model prog w) A env fun e s' => R (.error e) s') s5) (notedBy (model prog w) A env fun e s' => R (.error e) s') s4
            else ∃ m, m < n ∧ I m s4) (notedBy (model prog w) A env fun e s' => R (.error e) s') s3) (notedBy (model prog w) A env fun e s' => R (.error e) s') s2) (notedBy (model prog w) A env fun e s' => R (.error e) s') s1) (notedBy (model prog w) A env fun e s' => R (.error e) s') s)
    (n : Nat) (h : I n s) : codeAny (model prog w) A (.compLoop (Sc2 elt t0 i0 t1 i1 ifs0 ifs1 scope pos) 0 it acc env) R s := by
  refine codeAny_loop rfl I (fun n s hI => ?_) n h
  show wpAny _ A ((compTurn (Sc2 elt t0 i0 t1 i1 ifs0 ifs1 scope pos) 0 it acc env).onRaise (fun x => do noteFrame x env; theTreesLotGoes x)) _ _ s
  refine wpAny_noted ?_
  rw [turn_out]
  refine wpAny_bind (wpAny_standAt (wpAny_bind (wpAny_mono (turn n s hI) (fun r s1 h1 => ?_) fun _ _ x => x)))
  cases r with
  | none => exact wpAny_pure h1
  | some v =>
    refine wpAny_bind (wpAny_mono h1 (fun _ s2 h2 => wpAny_bind (wpAny_mono h2 (fun _ s3 h3 => wpAny_bind (wpAny_mono h3 (fun ok s4 h4 => ?_) fun _ _ x => x)) fun _ _ x => x)) fun _ _ x => x)
    cases ok with
    | false => exact wpAny_pure ⟨rfl, h4⟩
    | true =>
      refine wpAny_bind (wpAny_mono h4 (fun x s5 h5 => wpAny_bind (wpAny_standAt (wpAny_bind (wpAny_of_eq (hs x) (wpAny_bind (wpAny_holding (wpAny_mono h5 (fun it1 s6 h6 => ?_) fun _ _ x => x))))))) fun _ _ x => x)
      refine wpAny_bind (wpAny_runOwn ?_)
      rw [Around.mark_none]
      refine codeAny_mono h6 fun r s' hr => ?_
      cases r with
      | error e => exact hr.elim
      | ok f =>
        first
          | exact wpAny_pure ⟨rfl, hr⟩
          | exact wpAny_bind (wpAny_pure (wpAny_pure ⟨rfl, hr⟩))
theorem loop_in (I : Nat → Shared → Prop)
    (turn : ∀ n s, I n s → wpAny (model prog w) A (pyNext it) (fun r s1 => match r with
      | none => R (.ok .next) s1
      | some v => wpAny (model prog w) A (letOwnedTupleGo t1 it v) (fun _ s2 => wpAny (model prog w) A (assign t1 env v) (fun _ s3 => wpAny (model prog w) A (tests ifs1 env) (fun ok s4 =>
            if ok = true then wpAny (model prog w) A (eval elt env) (fun x s5 => wpAny (model prog w) A (call (.builtin "set.add") [acc, x]) (fun _ s6 => ∃ m, m < n ∧ I m s6) (notedBy (model prog w) A env fun e s' => R (.error e) s') s5) (notedBy (model prog w) A env fun e s' => R (.error e) s') s4
            else ∃ m, m < n ∧ I m s4) (notedBy (model prog w) A env fun e s' => R (.error e) s') s3) (notedBy (model prog w) A env fun e s' => R (.error e) s') s2) (notedBy (model prog w) A env fun e s' => R (.error e) s') s1) (notedBy (model prog w) A env fun e s' => R (.error e) s') s)
    (n : Nat) (h : I n s) : codeAny (model prog w) A (.compLoop (Sc2 elt t0 i0 t1 i1 ifs0 ifs1 scope pos) 1 it acc env) R s := by
  refine codeAny_loop rfl I (fun n s hI => ?_) n h
  show wpAny _ A ((compTurn (Sc2 elt t0 i0 t1 i1 ifs0 ifs1 scope pos) 1 it acc env).onRaise (fun x => do noteFrame x env; theTreesLotGoes x)) _ _ s
  refine wpAny_noted ?_
  rw [turn_in]
  refine wpAny_bind (wpAny_standAt (wpAny_bind (wpAny_mono (turn n s hI) (fun r s1 h1 => ?_) fun _ _ x => x)))
  cases r with
  | none => exact wpAny_pure h1
  | some v =>
    refine wpAny_bind (wpAny_mono h1 (fun _ s2 h2 => wpAny_bind (wpAny_mono h2 (fun _ s3 h3 => wpAny_bind (wpAny_mono h3 (fun ok s4 h4 => ?_) fun _ _ x => x)) fun _ _ x => x)) fun _ _ x => x)
    cases ok with
    | false => exact wpAny_pure ⟨rfl, h4⟩
    | true => exact wpAny_bind (wpAny_bind (wpAny_mono h4 (fun x s5 h5 => wpAny_bind (wpAny_standAt (wpAny_bind (wpAny_mono h5 (fun _ s6 h6 => wpAny_pure (wpAny_pure ⟨rfl, h6⟩)) fun _ _ x => x)))) fun _ _ x => x))
theorem start_in (h0 : codeAny (model prog w) A (.compLoop (Sc2 elt t0 i0 t1 i1 ifs0 ifs1 scope pos) 1 it acc env) R s)
    (h : wpAny (model prog w) A (pyIter it) (fun it' s' => codeAny (model prog w) A (.compLoop (Sc2 elt t0 i0 t1 i1 ifs0 ifs1 scope pos) 1 it' acc env) R s') (notedBy (model prog w) A env fun x s' => R (.error x) s') s) :
    codeAny (model prog w) A (.compStart (Sc2 elt t0 i0 t1 i1 ifs0 ifs1 scope pos) 1 it acc env) R s := by
  refine codeAny_of_tree ?_
  show wpAny _ _ ((compStart (Sc2 elt t0 i0 t1 i1 ifs0 ifs1 scope pos) 1 it acc env).onRaise (fun x => do noteFrame x env; standAt theWindowsPlace)) _ _ s
  refine wpAny_notedAt ?_
  unfold compStart
  show wpAny _ _ (ask >>= _) _ _ s
  refine wpAny_bind (wpAny_askSetting (wpAny_ite ?_))
  split
  · first
      | exact wpAny_bind (wpAny_pure (wpAny_pure ⟨rfl, h0⟩))
      | exact wpAny_pure ⟨rfl, h0⟩
  · first
      | exact wpAny_bind (wpAny_rule (wpAny_bind (wpAny_standAt (wpAny_bind (wpAny_mono h (fun it' s' z => wpAny_pure ⟨rfl, z⟩) fun _ _ x => x)))))
      | (refine wpAny_bind (wpAny_rule ?_); show wpAny _ _ (standAt i1.pos >>= _) _ _ s; exact wpAny_bind (wpAny_standAt (wpAny_bind (wpAny_mono h (fun it' s' z => wpAny_pure ⟨rfl, z⟩) fun _ _ x => x))))
end
section
variable {X : Cx}
def tSc2 (w : World) (wi : TI) (g : TG) (tt : TT) (wi1 : TI) (g1 : TG) (tt1 : TT) (te : TE) (vs vs1 : List Nat) : TE := fun σ H Q => wi σ H fun J H1 => ∀ D, H1 D = none → ∃ W : Nat → Nat → Hp → Prop, (∃ m, W 0 m (upd H1 D (SetSO w D (fun _ => false) 0))) ∧ ∀ i m H, W i m H →
  (J.stop i H ∧ Q (.ref D) H) ∨ (J.go i H ∧ ∃ Nx : Hp → Prop, (∀ H', Nx H' → ∃ m', m' < m ∧ W (i + 1) m' H') ∧ ∀ x H', J.yld i H x H' → g x (wipe σ vs) H' fun σ2 H2 => wipe σ2 vs = wipe σ vs ∧ tt σ2 H2 fun b H3 =>
    if b = true then wi1 σ2 H3 fun J1 H4 => ∃ W1 : Nat → Nat → Hp → Prop, (∃ m, W1 0 m H4) ∧ ∀ j k H, W1 j k H →
      (J1.stop j H ∧ Nx H) ∨ (J1.go j H ∧ ∃ Nx1 : Hp → Prop, (∀ H', Nx1 H' → ∃ k', k' < k ∧ W1 (j + 1) k' H') ∧ ∀ x H', J1.yld j H x H' → g1 x (wipe σ2 vs1) H' fun σ3 H5 => wipe σ3 vs1 = wipe σ2 vs1 ∧ tt1 σ3 H5 fun b H6 =>
        if b = true then te σ3 H6 fun y H7 => ∃ (z : Str) (S : Str → Bool) (n : Nat), y = .str z ∧ H7 D = some (SetSO w D S n) ∧ n + 1 < scanBound ∧ Nx1 (upd H7 D (SetSO w D (fun v => S v || decide (v = z)) (if S z = true then n else n + 1))) else Nx1 H6)
    else Nx H3)
theorem sc2_core {pins : List (Addr × Obj)} {s : Shared} {σ : L2.St} {H : Hp} {Q : VK} {elt tg iter tg1 iter1 : Expr} {ifs ifs1 : List Expr} {scope : Scope} {own : List (Str × Nat)} {vs1 : List Nat} {pos pos' : Pos} {wi wi1 : TI} {g g1 : TG} {tt tt1 : TT} {te : TE} {use : Option (Value → Sem Unit)} {Qf : Value → Shared → Prop}
    (hc : X.calm = true) (hN : X.N.Nodup) (I : Inv X pins σ H s) (hi : PI X tg iter wi) (ok : BlkOk X.N X.env.scope scope own) (hv : ∀ i ∈ vs1, i ∈ own.map (·.2))
    (hb : ∀ (s : Shared) (H : Hp) (C : Addr) (cl : List (Str × Addr)) (fp : List Addr), PG (X.blk s H scope (compEnvC scope cl C X.env) fp) tg g ∧ PTs (X.blk s H scope (compEnvC scope cl C X.env) fp) ifs tt ∧ PI (X.blk s H scope (compEnvC scope cl C X.env) fp) tg1 iter1 wi1 ∧ PG (X.blk s H scope (compEnvC scope cl C X.env) fp) tg1 g1 ∧
      PTs (X.blk s H scope (compEnvC scope cl C X.env) fp) ifs1 tt1 ∧ PE (X.blk s H scope (compEnvC scope cl C X.env) fp) elt te)
    (hs : ∀ x, foldedSetIterable iter X.env x = pure x) (hs1 : ∀ env x, foldedSetIterable iter1 env x = pure x) (h : tSc2 X.w wi g tt wi1 g1 tt1 te (own.map (·.2)) vs1 σ H Q)
    (hRR : ∀ D C s' m H', Inv X pins σ H' s' → Q (.ref D) H' → s'.heap.Ns C m → FpOk X pins H' C → compPost (model X.prog X.w) X.A X.xe use Qf (.ref D) C (.ok .next) s') :
    wpAny (model X.prog X.w) X.A (comprehension (Sc2 elt tg iter tg1 iter1 ifs ifs1 scope pos) scope X.env pos' (newSet (.type "set")) false (eval iter X.env) use) Qf X.xe s := by
  have hfree : ∀ y ∈ scope.names, y.2 = .free → ∃ c, X.env.cells.lookup y.1 = some c := fun y hy e => (ok.free y hy e).elim (fun k => I.ok.has _ (.inl k)) fun k => I.ok.has _ (.inr k)
  refine wpAny_comprehension_free (use := use) rfl hs (closure_ok hfree) ok.kind (fun y hy e => by rw [ok.uniq y hy, e]) (thn (hi.run pins s σ H _ I h) fun xv s1 hx => thn hx fun itv s2 h2 => ?_)
  obtain ⟨it, fp, tn, J, H2, e, I2, T, st2, f2, q⟩ := h2
  subst e
  refine PpSet.newSet_ok (newEnv_comp ?_)
  generalize hD : s2.heap.objs.size = D
  have hDn : H2 D = none := I2.hok.fresh (Nat.le_of_eq hD)
  obtain ⟨W, ⟨m0, w0⟩, turn⟩ := q D hDn
  generalize hs3 : ({ s2 with heap := s2.heap.push { cls := .type "set", dict := none, data := .set #[] 0 (.fresh 0 0 (!X.w.params.followText "set-order")) } } : Shared) = s3
  have I3 : Inv X pins σ (upd H2 D (SetSO X.w D (fun _ => false) 0)) s3 := by
    rw [← hs3]
    refine I2.laid (t' := s2.toks) (fun b o e => Heap.get?_push_of_some _ e) (Nat.le_of_eq hD) ?_
    rw [← hD]
    exact setSO_new (new_at (Heap.get?_push_size _ rfl))
  have h3 : s3.heap = s2.heap.push { cls := .type "set", dict := none, data := .set #[] 0 (.fresh 0 0 (!X.w.params.followText "set-order")) } := by rw [← hs3]
  have f3 : ∀ b ∈ fp, FpOk X pins (upd H2 D (SetSO X.w D (fun _ => false) 0)) b ∧ b < s3.heap.objs.size := fun b hb => by
    obtain ⟨o, e, _⟩ := T.obj _ _ st2 b hb
    have lt := Heap.lt_size e
    refine ⟨⟨?_, (f2 b hb).2⟩, by rw [h3, Heap.size_push]; exact Nat.lt_succ_of_lt lt⟩
    rw [upd_ne (by rw [← hD]; exact Nat.ne_of_lt lt)]
    exact (f2 b hb).1
  have st3 : tn 0 s3.heap := T.keep _ _ _ st2 fun b _ o e => by rw [h3]; exact Heap.get?_push_of_some _ e
  have I4 := block_start I3 ok hN f3
  have pb := hb s3 (upd H2 D (SetSO X.w D (fun _ => false) 0)) s3.heap.objs.size (cellsFrom (s3.heap.objs.size + 1) scope.names (cloFrom X.env.cells scope.names [])) fp
  show codeAny _ _ (.compStart (Sc2 elt tg iter tg1 iter1 ifs ifs1 scope pos) 0 (.ref it) (.ref D) (compEnvC scope (cellsFrom (s3.heap.objs.size + 1) scope.names (cloFrom X.env.cells scope.names [])) s3.heap.objs.size X.env)) (compPost (model X.prog X.w) X.A X.xe use Qf (.ref D) s3.heap.objs.size) { s3 with heap := pushCells (s3.heap.push { cls := .type "dict", data := .dict #[] }) scope.names }
  have nfp : ∀ b ∈ fp, (upd H2 D (SetSO X.w D (fun _ => false) 0)) b = none := fun b hb => (f3 b hb).1.1
  generalize hce : compEnvC scope (cellsFrom (s3.heap.objs.size + 1) scope.names (cloFrom X.env.cells scope.names [])) s3.heap.objs.size X.env = ce at I4 pb ⊢
  have cL : ce.locals = s3.heap.objs.size := by subst hce; rfl
  generalize hH3 : upd H2 D (SetSO X.w D (fun _ => false) 0) = H3 at I3 I4 pb w0 nfp f3
  obtain ⟨pg, pt, pi1, pg1, pt1, pe⟩ := pb
  generalize hs4 : ({ s3 with heap := pushCells (s3.heap.push { cls := .type "dict", data := .dict #[] }) scope.names } : Shared) = s4 at I4 ⊢
  have st4 : tn 0 s4.heap := T.keep _ _ _ st3 fun b _ o e => by rw [← hs4]; exact pushCells_keeps _ _ _ _ (Heap.get?_push_of_some _ e)
  let Y : Cx := X.blk s3 H3 scope ce fp
  have stat : ∀ {σ' : L2.St} {H' : Hp} {s' : Shared}, Inv Y [] σ' H' s' → (∀ b ∈ fp, H' b = none) → ∀ b ∈ fp, FpOk Y [] H' b := fun {σ' H' s'} I' hn b hb =>
    ⟨hn b hb, (I'.ok.exf b hb).1, I'.ok.exfs b hb, .inl hb, fun x c e => (I'.ok.exf b hb).2 x c e, fun p hp => absurd (show p ∈ ([] : List (Addr × Obj)) ++ [] from hp) (by simp)⟩
  let σw := wipe σ (own.map (·.2))
  have loop : codeAny (model X.prog X.w) X.A (.compLoop (Sc2 elt tg iter tg1 iter1 ifs ifs1 scope pos) 0 (.ref it) (.ref D) ce) (compPost (model X.prog X.w) X.A X.xe use Qf (.ref D) s3.heap.objs.size) s4 := by
    refine loop_out (hs1 ce) (fun n s' => ∃ i H', Inv Y [] σw H' s' ∧ tn i s'.heap ∧ (∀ b ∈ fp, H' b = none) ∧ W i n H') ?_ m0 ⟨0, H3, I4, st4, nfp, w0⟩
    rintro n s5 ⟨i, H5, I5, st5, n5, w5⟩
    rcases turn i n H5 w5 with ⟨stop, qq⟩ | ⟨go, Nx, hNx, step⟩
    · refine thnF (T.done Y rfl rfl rfl hc i [] s5 _ H5 (fun _ _ => False) I5 (stat I5 n5) st5 stop) fun r s6 ⟨hr, I6⟩ => ?_
      subst hr
      have I7 : Inv X pins σ H5 s6 := I3.call' (ch := fp) I6.os I6.base I6.hok I6.bare fun b hb => let z := (f3 b hb).1; ⟨z.2.2.2.1, z.2.1, z.2.2.2.2.1, z.2.2.2.2.2⟩
      have nC : H5 ce.locals = none := I6.free
      obtain ⟨m, hn, _⟩ := I6.loc
      have hn : s6.heap.Ns ce.locals m := hn
      rw [cL] at hn nC
      exact hRR D s3.heap.objs.size s6 m H5 I7 qq hn (I3.fpOk (Nat.le_refl _) nC)
    · refine thnF (T.item Y rfl rfl rfl hc i [] s5 _ H5 (fun _ _ => False) I5 (stat I5 n5) st5 go) fun r s6 ⟨u, hr, h6⟩ => ?_
      subst hr
      refine thnF h6 fun _ s7 ⟨x, H7, I7, r7, y7, st7, n7⟩ => ?_
      refine thnF (pg.run _ s7 _ H7 x u _ (I7.pinned (stat I7 n7) (T.obj _ _ st7)) r7 (step x H7 y7)) fun _ s8 ⟨σ8, H8, I8, hw8, q8⟩ => ?_
      refine thnF (pt.run _ s8 σ8 H8 _ I8 q8) fun b s9 ⟨H9, I9, q9⟩ => ?_
      have fin : ∀ {σ9 : L2.St} {s' : Shared} {H' : Hp}, Inv Y ([] ++ pinsAt fp s7.heap) σ9 H' s' → σw.length = σ9.length → (∀ (j : Nat) v, σw[j]? = some (some v) → σ9[j]? = some (some v)) → Nx H' → ∃ m, m < n ∧ ∃ i H', Inv Y [] σw H' s' ∧ tn i s'.heap ∧ (∀ b ∈ fp, H' b = none) ∧ W i m H' := fun {σ9 s' H'} I' hl hk nx => by
        obtain ⟨m', hm, w'⟩ := hNx H' nx
        have pin' : ∀ b ∈ fp, ∀ o, s7.heap.get? b = some o → s'.heap.get? b = some o ∧ H' b = none := fun b hb o e =>
          let z := I'.pin (b, o) (List.mem_append_right _ (List.mem_append_right _ (mem_pinsAt hb e)))
          ⟨z.1, z.2.1⟩
        refine ⟨m', hm, i + 1, H', (I'.unpinned (pins := [])).weak hl hk, T.keep _ _ _ st7 fun b hb o e => (pin' b hb o e).1, fun b hb => ?_, w'⟩
        obtain ⟨o, e, _⟩ := T.obj _ _ st7 b hb
        exact (pin' b hb o e).2
      have hl8 : σw.length = σ8.length := by rw [show σw = wipe σ8 (own.map (·.2)) from hw8.symm, wipe_length]
      have hk8 : ∀ (j : Nat) v, σw[j]? = some (some v) → σ8[j]? = some (some v) := fun j v e => by
        rw [show σw = wipe σ8 (own.map (·.2)) from hw8.symm] at e
        exact (wipe_some e).1
      have hk9 : ∀ (j : Nat) v, σw[j]? = some (some v) → (wipe σ8 vs1)[j]? = some (some v) := fun j v e => by
        rw [show σw = wipe σ8 (own.map (·.2)) from hw8.symm] at e
        obtain ⟨e1, e2⟩ := wipe_some e
        rw [wipe_out fun z => e2 (hv j z)]
        exact e1
      cases b with
      | false =>
        simp only [Bool.false_eq_true, if_false] at q9 ⊢
        exact fin I9 hl8 hk8 q9
      | true =>
        simp only [if_true] at q9 ⊢
        refine thnF (pi1.run _ s9 σ8 H9 _ I9 q9) fun xv s10 hx => thnF hx fun itv s11 h11 => ?_
        obtain ⟨it1, fp1, tn1, J1, H11, e1, I11, T1, st11, f11, W1, ⟨m1, w1⟩, turn1⟩ := h11
        subst e1
        have stat1 : ∀ {H' : Hp}, (∀ b ∈ fp1, H' b = none) → ∀ b ∈ fp1, FpOk Y ([] ++ pinsAt fp s7.heap) H' b := fun hn b hb => ⟨hn b hb, (f11 b hb).2⟩
        have loop1 : codeAny (model X.prog X.w) X.A (.compLoop (Sc2 elt tg iter tg1 iter1 ifs ifs1 scope pos) 1 (.ref it1) (.ref D) ce)
            (fun r s' => match r with
              | .ok _ => ∃ m, m < n ∧ ∃ i H', Inv Y [] σw H' s' ∧ tn i s'.heap ∧ (∀ b ∈ fp, H' b = none) ∧ W i m H'
              | .error _ => False) s11 := by
          refine loop_in (fun k s' => ∃ j H', Inv Y ([] ++ pinsAt fp s7.heap) (wipe σ8 vs1) H' s' ∧ tn1 j s'.heap ∧ (∀ b ∈ fp1, H' b = none) ∧ W1 j k H') ?_ m1 ⟨0, H11, I11.weak (wipe_length _ _) (fun j v e => (wipe_some e).1), st11, fun b hb => (f11 b hb).1, w1⟩
          rintro k s12 ⟨j, H12, I12, st12, n12, w12⟩
          rcases turn1 j k H12 w12 with ⟨stop1, nx1⟩ | ⟨go1, Nx1, hNx1, step1⟩
          · refine thnF (T1.done Y rfl rfl rfl hc j _ s12 (wipe σ8 vs1) H12 (fun _ _ => False) I12 (stat1 n12) st12 stop1) fun r s13 ⟨hr, I13⟩ => ?_
            subst hr
            exact fin I13 (hl8.trans (wipe_length σ8 vs1).symm) hk9 nx1
          · refine thnF (T1.item Y rfl rfl rfl hc j _ s12 (wipe σ8 vs1) H12 (fun _ _ => False) I12 (stat1 n12) st12 go1) fun r s13 ⟨u1, hr, h13⟩ => ?_
            subst hr
            refine thnF h13 fun _ s14 ⟨x1, H14, I14, r14, y14, st14, n14⟩ => ?_
            refine thnF (pg1.run _ s14 (wipe σ8 vs1) H14 x1 u1 _ (I14.pinned (stat1 n14) (T1.obj _ _ st14)) r14 (step1 x1 H14 y14)) fun _ s15 ⟨σ15, H15, I15, hw15, q15⟩ => ?_
            refine thnF (pt1.run _ s15 σ15 H15 _ I15 q15) fun b1 s16 ⟨H16, I16, q16⟩ => ?_
            have fin1 : ∀ {s' : Shared} {H' : Hp}, Inv Y (([] ++ pinsAt fp s7.heap) ++ pinsAt fp1 s14.heap) σ15 H' s' → Nx1 H' → ∃ m, m < k ∧ ∃ j H', Inv Y ([] ++ pinsAt fp s7.heap) (wipe σ8 vs1) H' s' ∧ tn1 j s'.heap ∧ (∀ b ∈ fp1, H' b = none) ∧ W1 j m H' := fun {s' H'} I' nx => by
              obtain ⟨m', hm, w'⟩ := hNx1 H' nx
              have pin' : ∀ b ∈ fp1, ∀ o, s14.heap.get? b = some o → s'.heap.get? b = some o ∧ H' b = none := fun b hb o e =>
                let z := I'.pin (b, o) (List.mem_append_right _ (List.mem_append_right _ (mem_pinsAt hb e)))
                ⟨z.1, z.2.1⟩
              refine ⟨m', hm, j + 1, H', I'.unpinned.weak (by rw [← hw15, wipe_length]) (fun j v e => by rw [← hw15] at e; exact (wipe_some e).1), T1.keep _ _ _ st14 fun b hb o e => (pin' b hb o e).1, fun b hb => ?_, w'⟩
              obtain ⟨o, e, _⟩ := T1.obj _ _ st14 b hb
              exact (pin' b hb o e).2
            cases b1 with
            | false =>
              simp only [Bool.false_eq_true, if_false] at q16 ⊢
              exact fin1 I16 q16
            | true =>
              simp only [if_true] at q16 ⊢
              refine thnF (pe.run _ s16 σ15 H16 _ I16 q16) fun zv s17 ⟨yv, H17, I17, r17, z, S0, n0, ey, hD17, room, nx⟩ => ?_
              subst ey
              obtain ⟨u, rfl⟩ : ∃ u, zv = Value.str z u := r17
              exact addS_ok (X := Y) I17 hD17 room fun s18 I18 => fin1 I18 nx
        exact start_in loop1 (T1.self X.A 0 _ _ _ st11 loop1)
  exact PpSet.codeAny_compStart_set loop (T.self X.A 0 _ _ _ st4 loop)
theorem pe_sc2 {elt tg iter tg1 iter1 : Expr} {ifs ifs1 : List Expr} {scope : Scope} {own : List (Str × Nat)} {vs1 : List Nat} {pos : Pos} {wi wi1 : TI} {g g1 : TG} {tt tt1 : TT} {te : TE} (hc : X.calm = true) (hN : X.N.Nodup) (hi : PI X tg iter wi) (ok : BlkOk X.N X.env.scope scope own) (hv : ∀ i ∈ vs1, i ∈ own.map (·.2))
    (hb : ∀ (s : Shared) (H : Hp) (C : Addr) (cl : List (Str × Addr)) (fp : List Addr), PG (X.blk s H scope (compEnvC scope cl C X.env) fp) tg g ∧ PTs (X.blk s H scope (compEnvC scope cl C X.env) fp) ifs tt ∧ PI (X.blk s H scope (compEnvC scope cl C X.env) fp) tg1 iter1 wi1 ∧ PG (X.blk s H scope (compEnvC scope cl C X.env) fp) tg1 g1 ∧
      PTs (X.blk s H scope (compEnvC scope cl C X.env) fp) ifs1 tt1 ∧ PE (X.blk s H scope (compEnvC scope cl C X.env) fp) elt te)
    (hs : ∀ x, foldedSetIterable iter X.env x = pure x := by intro _; rfl) (hs1 : ∀ env x, foldedSetIterable iter1 env x = pure x := by intro _ _; rfl) :
    PE X (.SetComp elt [⟨tg, iter, ifs, 0⟩, ⟨tg1, iter1, ifs1, 0⟩] scope pos) (tSc2 X.w wi g tt wi1 g1 tt1 te (own.map (·.2)) vs1) := by
  refine ⟨fun pins s σ H Q I h => ?_⟩
  rw [PpSet.eval_SetComp]
  refine sc2_core hc hN I hi ok hv hb hs hs1 h fun D C s' m H' I' q hn f => ⟨m, hn, fun h'' sb => ?_⟩
  obtain ⟨f0, f1, f2, f3, f4, f5⟩ := f
  exact ⟨.ref D, H', I'.turned (t' := s'.toks) (fun b o hb e => (sb.2 b hb).trans e) f0 f1 f3 f4 f5, rfl, q⟩
end
end StS

/-! ### sorted(set(xs)) of a list of texts -/
namespace StS
open PySem PySem.Spec PyProof.Rows L2
section
variable {P : Program} {w : World} {A : Around} {E : Value → Shared → Prop} {s : Shared}
abbrev setX (w : World) : Obj := { cls := .type "set", dict := none, data := .set #[] 0 (.fresh 0 0 (!w.params.followText "set-order")) }
theorem set_update_texts {I : Addr} {fp wr : List Addr} {G : Array GenState → Array GenState → Prop} {n : Nat} {Pv : Nat → Value → Prop} {St : Nat → Shared → Prop} {R : Result → Shared → Prop}
    (W : WalksS P w A.in1 I fp wr G n Pv St) (S : Addr) (apart : S ∉ fp) (xs : List Str) (hn : n = xs.length) (hb : xs.length + 1 < scanBound) (vals : ∀ i v, Pv i v → ∃ k t, xs[i]? = some k ∧ v = .str k t) :
    ∀ (k i : Nat) (s : Shared), n - i = k → i ≤ n → St i s → (∃ c, c ≤ i ∧ SetS w s.heap S (fun j => decide (j ∈ xs.take i)) c) →
      (∀ s' c, Moved (S :: wr) G s s' → c ≤ n → SetS w s'.heap S (fun j => decide (j ∈ xs)) c → R (.ok (.ret .none)) s') →
      codeAny (model P w) A (.builtin "set.update.loop" ⟨[.ref S, .ref I], []⟩) R s := by
  have off : S ∉ wr := fun h => apart (W.sub _ h)
  have more : ∀ b ∈ wr, b ∈ S :: wr := fun b hb => List.mem_cons_of_mem _ hb
  intro k
  induction k with
  | zero =>
    intro i s left le at_ ⟨c, few, has⟩ fin
    obtain rfl : i = n := by omega
    refine codeAny_builtin F.entry_set_update_loop ?_
    rw [Around.under_plainId F.plain_set_update_loop _]
    show wpAny _ A.in1 (pyNext (.ref I) >>= _) _ _ s
    refine wpAny_bind (W.done s _ _ at_ fun s2 m => ?_)
    show wpAny _ A.in1 (ret Value.none) _ _ s2
    rw [List.take_of_length_le (by omega)] at has
    exact wpAny_pure (fin s2 c (m.mono more) few (has.at fun o e => m.heap S o off e))
  | succ k ih =>
    intro i s left le at_ ⟨c, few, has⟩ fin
    have lt : i < n := by omega
    refine codeAny_builtin F.entry_set_update_loop ?_
    rw [Around.under_plainId F.plain_set_update_loop _]
    show wpAny _ A.in1 (pyNext (.ref I) >>= _) _ _ s
    refine wpAny_bind (W.item i s _ _ lt at_ fun v s2 hv at2 m => ?_)
    obtain ⟨x, u, ex, rfl⟩ := vals i v hv
    have has2 : SetS w s2.heap S (fun j => decide (j ∈ xs.take i)) c := has.at fun o e => m.heap S o off e
    show wpAny _ A.in1 (holding [Value.str x u] (setAdd S (.str x u)) >>= _) _ _ s2
    refine wpAny_bind (wpAny_holding ?_)
    unfold setAdd
    refine wpAny_holding ?_
    refine wpAny_bind ((strKind P w).pyHash (k := x) (isK.mpr rfl) ?_)
    refine add_hashed (s := { s2 with toks := s2.toks + 1 }) has2 (by omega) fun h2 but has3 => ?_
    have has4 : SetS w h2 S (fun j => decide (j ∈ xs.take (i + 1))) (if decide (x ∈ xs.take i) = true then c else c + 1) := has3.congr (fun j => by
      rw [List.take_add_one, ex]
      simp [List.mem_append]) rfl
    have few2 : (if decide (x ∈ xs.take i) = true then c else c + 1) ≤ i + 1 := by
      split <;> omega
    refine wpAny_pure ⟨plainId_quiet F.plain_set_update_loop _, ih (i + 1) _ (by omega) lt (W.frame _ s2 _ _ at2 (Nat.le_succ _) fun b hb o e => ?_) ⟨_, few2, has4⟩ fun s3 c2 m3 few3 has5 => ?_⟩
    · rw [but.2 b (fun h : b = S => apart (by rw [← h]; exact hb))]
      exact e
    · refine fin s3 c2 (Moved.trans W.gtrans ((m.mono more).then_heap (Nat.le_succ _) fun b o hb e => ?_) m3) few3 has5
      rw [but.2 b (fun h : b = S => hb (by rw [h]; exact List.mem_cons_self))]
      exact e
set_option maxRecDepth 100000 in
set_option maxHeartbeats 3200000 in
theorem set_from_texts {from_ : Addr} {vs : Array Value} (txts : List Str) {Qv : Value → Shared → Prop} (calm : A.handled = none) (isl : s.heap.IsList from_ vs) (size_is : vs.size = txts.length) (vals : ∀ (i : Nat) (v : Value), vs[i]? = some v → ∃ k t, txts[i]? = some k ∧ v = .str k t) (few : txts.length + 1 < scanBound)
    (end_ : ∀ (hp' : Heap) (tk c : Nat), SetS w hp' s.heap.objs.size (fun j => decide (j ∈ txts)) c → c ≤ txts.length → (∀ b o, s.heap.get? b = some o → hp'.get? b = some o) → Qv (.ref s.heap.objs.size) { s with heap := hp', toks := tk }) :
    wpAny (model P w) A (call (.type "set") [.ref from_]) Qv E s := by
  obtain ⟨c0, tl0, mro0⟩ := F.called_set.mro
  have made0 := F.called_set.made
  have sub0 := F.called_set.sub
  refine wpAny_call (codeAny_of_tree ?_)
  show wpAny _ _ (callAny (.type "set") _) _ _ _
  refine wpAny_pure ⟨Code.quiet_builtin _ (by decide +kernel), codeAny_builtin F.entry_type_call ?_⟩ -- the type is called
  rw [Around.under_plain (weight_type_call_type "set" [.ref from_] []) rfl]
  have no_type := F.called_set.notType
  have can_make := F.called_set.canCreate
  have checked := F.typeCall_set_1 (.ref from_)
  repeat (any_goals (first | assumption | wp_step | fail))
  refine codeAny_mono (code_set_led1 (.ref from_) (E := E) (Q₁ := fun made st => made = .ref s.heap.objs.size ∧ st = { s with heap := s.heap.push (setX w) }) ⟨rfl, rfl⟩) fun r1 st1 told => ?_
  cases r1 with
  | error e => exact told
  | ok fl =>
    cases fl with
    | ret made =>
      obtain ⟨rfl, rfl⟩ := told
      have here : (s.heap.push (setX w)).get? s.heap.objs.size = some (setX w) := Heap.get?_push_size _ rfl
      have isS : Shared.TypeIs { s with heap := s.heap.push (setX w) } (.ref s.heap.objs.size) "set" := ⟨_, here, rfl⟩
      have look := F.called_set.init.lookup
      have bnd := F.called_set.init.bind (.ref s.heap.objs.size)
      repeat (any_goals (first | assumption | wp_step | fail))
      refine codeAny_mono (codeAny_call_builtin (R := wants (fun r st => r = .none ∧ ∃ hp' tk c, st = { s with heap := hp', toks := tk } ∧ SetS w hp' s.heap.objs.size (fun j => decide (j ∈ txts)) c ∧ c ≤ txts.length ∧ (∀ b o, s.heap.get? b = some o → hp'.get? b = some o)) E) F.called_set.init.plain F.entry_set_init (check_set_init_1 isS ?_)) fun r2 st2 told2 => ?_
      · obtain ⟨ol, got, clsl, nl, datal⟩ := isl
        obtain ⟨ocls, odict, odata, oslots⟩ := ol
        simp only at clsl datal
        subst clsl; subst datal
        have got' : (s.heap.push (setX w)).get? from_ = some { cls := .type "list", dict := odict, data := .seq vs nl, slots := oslots } := Heap.get?_push_of_some _ got
        have sub1 := F.sub_list_set
        have sub2 := F.sub_list_frozenset
        have no_dict : (Value.type "list" == Value.type "dict") = false := by decide
        have isl1 : (s.heap.push (setX w)).IsList from_ vs := ⟨_, got', rfl, nl, rfl⟩
        unfold Builtin.«set.__init__» noKeywords Builtin.Frozenset.updateFrom -- its init
        generalize keepP : pyIter = PI
        wp_walk
        subst keepP
        refine wpAny_pyIter_list isl1 (wpAny_bind (wpAny_runValue ?_))
        have lt0 : from_ < s.heap.objs.size := Heap.lt_size got
        have calm3 : A.in1.in1.in1.handled = none := by simp [calm]
        have ne1 : from_ ≠ (s.heap.push (setX w)).objs.size := by
          rw [Heap.size_push]
          exact Nat.ne_of_lt (Nat.lt_succ_of_lt lt0)
        have apart : s.heap.objs.size ∉ [(s.heap.push (setX w)).objs.size, from_] := by
          rw [Heap.size_push]
          simp only [List.mem_cons, List.mem_singleton, List.not_mem_nil, or_false, not_or] -- both
          exact ⟨Nat.ne_of_lt (Nat.lt_succ_self _), Nat.ne_of_gt lt0⟩
        refine set_update_texts ((Walks.list calm3 _ from_ ne1 vs).toS) s.heap.objs.size apart txts size_is few vals (vs.size - 0) 0 _ (by omega) (Nat.zero_le _) ⟨⟨_, Heap.get?_push_size _ rfl, rfl, rfl⟩, (isl1.push _)⟩ ⟨0, Nat.le_refl 0, new_at (Heap.get?_push_of_some _ here)⟩ ?_
        intro st3 c3 moved le3 set3
        obtain ⟨hp3, g3, d3, tk3, os3⟩ := st3
        obtain rfl : g3 = s.gens := moved.gens
        obtain rfl : d3 = s.drawn := moved.drawn
        obtain rfl : os3 = s.os := moved.os
        show wpAny _ _ _ _ _ _
        refine wpAny_pure ?_
        show wpAny _ _ (ret Value.none) _ _ _
        rw [size_is] at le3
        refine wpAny_pure ⟨rfl, hp3, tk3, c3, rfl, set3, le3, fun b o e => ?_⟩
        have lt1 : b < s.heap.objs.size := Heap.lt_size e
        refine moved.heap b o (fun z => ?_) (Heap.get?_push_of_some _ (Heap.get?_push_of_some _ e))
        rcases List.mem_cons.mp z with z | z
        · exact absurd z (Nat.ne_of_lt lt1)
        · have z' := List.mem_singleton.mp z
          rw [Heap.size_push] at z'
          exact absurd z' (Nat.ne_of_lt (Nat.lt_succ_of_lt lt1))
      · cases r2 with
        | error e => exact told2
        | ok fl2 =>
          cases fl2 with
          | ret r =>
            obtain ⟨rfl, hp', tk, c', rfl, z1, z2, z3⟩ := told2
            repeat (any_goals (first | assumption | wp_step | fail))
            exact end_ _ _ _ z1 z2 z3
          | _ => exact told2.elim
    | _ => exact told.elim
end
/-- sorted(set(xs)) of texts -/
def tSortedSetT (K : PySem.W.Frag) (ta : TE) : TE := fun σ H Q => ta σ H fun x H1 => ∃ (l : Addr) (xs : List Str), x = .ref l ∧ SqL K H1 l (xs.map V.str) ∧ xs.length < 4000 ∧ (∃ zs : List Str, zs.length < 64 ∧ ∀ x ∈ xs, x ∈ zs) ∧ ∀ (ms : List Str) (p : Addr), sortedS ms = true → ms.Nodup → (∀ k, k ∈ ms ↔ k ∈ xs) → H1 p = none → Q (.ref p) (upd H1 p (.lst (ms.map V.str)))
theorem str_its : ∀ {xs : List Str} {us : List Value}, Vals (xs.map V.str) us → us.length = xs.length ∧ ∀ (i : Nat) (v : Value), us[i]? = some v → ∃ k t, xs[i]? = some k ∧ v = .str k t
  | [], _, .nil => ⟨rfl, fun _ _ e => nomatch e⟩
  | x :: xs, _, .cons r t => by
    obtain ⟨k, rfl⟩ := r
    obtain ⟨l, h⟩ := str_its t
    refine ⟨congrArg (· + 1) l, fun i v e => ?_⟩
    cases i with
    | zero => cases e; exact ⟨x, k, rfl, rfl⟩
    | succ i => exact h i v e
theorem pe_sortedSetT {X : Cx} {a : Expr} {ta : TE} {p p2 q pos : Pos} (hg : Gl X "sorted") (hm : X.mg "sorted" = none) (hg2 : Gl X "set") (hm2 : X.mg "set" = none) (ha : PE X a ta) (hc : X.calm = true := by rfl)
    (na : starEach [a] X.env = (false, eval a X.env) :: starEach [] X.env := by rfl) : PE X (.Call (.Name "sorted" p) [.Call (.Name "set" p2) [a] [] q] [] pos) (tSortedSetT X.K ta) := by
  refine ⟨fun pins s σ H Q I h => Call_ (ld_blt I hg hm boot_sorted ?_)⟩
  refine PyProof.Rows.callWith_builtin1 (PyProof.Rows.args_cons (Call_ (ld_blt I hg2 hm2 boot_set ?_)) rfl) rfl rfl
  refine PyProof.Rows.callWith_type1 (PyProof.Rows.args_cons (thn (ha.run pins s σ H _ I h) fun v s1 ⟨x, H1, I1, r1, q1⟩ => PyProof.Rows.args_nil ?_) na) na rfl
  obtain ⟨l, xs, rfl, sq, few, ⟨zs0, hzl, hzs⟩, q1⟩ := q1
  cases r1
  obtain ⟨its, r, pl, hz⟩ := I1.list sq
  obtain ⟨z1, z2⟩ := str_its r
  refine set_from_texts xs (I1.ok.hd hc) pl.isList (by simpa using z1) (by simpa using z2) (by unfold scanBound; omega) fun hp' tk c hS le kept => PyProof.Rows.args_nil ?_
  have I2 : Inv X pins σ H1 { s1 with heap := hp', toks := tk } := I1.kept kept
  have hc64 : c < 64 := by
    obtain ⟨o, es, ep, t, ho, hx, hd, X⟩ := hS
    have := nodup_len (l := es.toList.map keyT) (m := zs0) X.uniq fun k hk => hzs k (of_decide_eq_true ((X.mem k).mpr hk))
    rw [List.length_map, Array.length_toList, X.num] at this
    omega
  refine sorted_txts (s := { s1 with heap := hp', toks := tk }) hS (I1.ok.hd hc) hc64 fun st p out c' ms k g o hp hg' isI up nd mem cnt => ?_
  have len : (ms.map V.str).length ≤ sizeLine := by
    rw [List.length_map, sizeLine_eq]
    omega
  have new : H1 p = none := I2.hok.fresh hp
  have J : Inv X pins σ (upd H1 p (.lst (ms.map V.str))) { ({ s1 with heap := hp', toks := tk } : Shared) with heap := st.heap, gens := st.gens, drawn := st.drawn, toks := st.toks } :=
    I2.call (ch := []) (Un.laid k hp new) (I2.hok.laid k hp ⟨len, out.toList, c', vals_of_strs isI, hg'⟩) (by rw [g]; exact I2.bare) (fun _ z => nomatch z)
  have e : st = { s1 with heap := st.heap, gens := st.gens, drawn := st.drawn, toks := st.toks } := by
    cases st
    cases s1
    cases o
    rfl
  rw [e]
  exact ⟨.ref p, _, J, rfl, q1 ms p up nd (fun k => ⟨fun z => of_decide_eq_true ((mem k).mp z), fun z => (mem k).mpr (decide_eq_true z)⟩) new⟩
end StS

open G3
/-! ### the law's own: tin by tin -/
/-- a dict of counts by marks and tins -/
def kT (m : Str) (n : Int) : List L2.Key := [.inr m, .inl n]
theorem kT_inj {m m' : Str} {n n' : Int} : kT m n = kT m' n' ↔ m = m' ∧ n = n' := by
  unfold kT
  constructor
  · intro h
    have h1 := List.cons.inj h
    have h2 := List.cons.inj h1.2
    exact ⟨Sum.inr.inj h1.1, Sum.inl.inj h2.1⟩
  · rintro ⟨rfl, rfl⟩; rfl
structure CntD (kvs : List (List L2.Key × V)) (c : Str → Int → Nat) : Prop where
  nd : (kvs.map (·.1)).Nodup
  own : ∀ k ∈ kvs.map (·.1), ∃ m n, k = kT m n
  val : ∀ m n, valV kvs (kT m n) = if c m n = 0 then none else some (.int (c m n))
theorem putT_keys {κ : Type} [DecidableEq κ] {kvs : List (κ × V)} {k : κ} {v : V} (nd : (kvs.map (·.1)).Nodup) : ((putK kvs k v).map (·.1)).Nodup ∧ ∀ x, x ∈ (putK kvs k v).map (·.1) ↔ x = k ∨ x ∈ kvs.map (·.1) := by
  unfold putK
  split
  · rename_i c
    have e : (kvs.map fun kv => if kv.1 = k then (kv.1, v) else kv).map (·.1) = kvs.map (·.1) := by
      rw [List.map_map]
      refine List.map_congr_left fun e _ => ?_
      show (if e.1 = k then (e.1, v) else e).1 = e.1
      split <;> rfl
    rw [e]
    refine ⟨nd, fun x => ⟨.inr, fun h => h.elim (fun z => ?_) id⟩⟩
    obtain ⟨e0, h0, hk⟩ := List.any_eq_true.mp c
    rw [z]
    exact List.mem_map.mpr ⟨e0, h0, of_decide_eq_true hk⟩
  · rename_i c
    rw [List.map_append]
    refine ⟨List.nodup_append.mpr ⟨nd, List.nodup_cons.mpr ⟨(fun z => nomatch z), List.nodup_nil⟩, fun x hx y hy z => ?_⟩, fun x => ?_⟩
    · obtain ⟨e0, h0, rfl⟩ := List.mem_map.mp hx
      rw [List.mem_singleton.mp hy] at z
      exact c (List.any_eq_true.mpr ⟨e0, h0, decide_eq_true z⟩)
    · rw [List.mem_append]
      exact ⟨fun h => h.elim .inr fun z => .inl (List.mem_singleton.mp z), fun h => h.elim (fun z => .inr (List.mem_singleton.mpr z)) .inl⟩
theorem CntD.nil : CntD [] (fun _ _ => 0) := ⟨List.nodup_nil, (fun _ z => nomatch z), fun _ _ => rfl⟩
theorem CntD.cong {kvs : List (List L2.Key × V)} {c c' : Str → Int → Nat} (h : CntD kvs c) (e : ∀ m n, c m n = c' m n) : CntD kvs c' := by
  have : c = c' := funext fun m => funext fun n => e m n
  rw [← this]
  exact h
theorem CntD.put {kvs : List (List L2.Key × V)} {c c' : Str → Int → Nat} {m : Str} {n : Int} (h : CntD kvs c) (e1 : c' m n = c m n + 1) (e : ∀ m' n', ¬ (m' = m ∧ n' = n) → c' m' n' = c m' n') : CntD (putK kvs (kT m n) (.int ((c m n : Nat) + 1))) c' := by
  obtain ⟨n1, n2⟩ := putT_keys (k := kT m n) (v := V.int ((c m n : Nat) + 1)) h.nd
  refine ⟨n1, fun k hk => ?_, fun m' n' => ?_⟩
  · rcases (n2 k).mp hk with z | z
    · exact ⟨m, n, z⟩
    · exact h.own k z
  · rw [valV_put]
    by_cases z : m' = m ∧ n' = n
    · rw [if_pos (kT_inj.mpr z), z.1, z.2, e1, if_neg (by omega)]
      rfl
    · rw [if_neg (fun y => z (kT_inj.mp y)), e m' n' z]
      exact h.val m' n'
/-- the tins that the dict has -/
theorem CntD.tins {kvs : List (List L2.Key × V)} {c : Str → Int → Nat} (h : CntD kvs c) : ∃ ts : List (Str × Int), kvs.map (·.1) = ts.map (fun x => kT x.1 x.2) ∧ ts.Nodup ∧ ∀ x, x ∈ ts ↔ 1 ≤ c x.1 x.2 := by
  have : ∀ l : List (List L2.Key), (∀ k ∈ l, ∃ m n, k = kT m n) → ∃ ts : List (Str × Int), l = ts.map fun x => kT x.1 x.2 := fun l => by
    induction l with
    | nil => intro _; exact ⟨[], rfl⟩
    | cons k r ih =>
      intro hh
      obtain ⟨ts, e1⟩ := ih fun x hx => hh x (List.mem_cons_of_mem _ hx)
      obtain ⟨m, n, e2⟩ := hh k (List.mem_cons_self ..)
      exact ⟨(m, n) :: ts, by rw [List.map_cons, e1, e2]⟩
  obtain ⟨ts, e⟩ := this _ h.own
  refine ⟨ts, e, ?_, fun x => ?_⟩
  · have := h.nd
    rw [e] at this
    exact nodup_map_of this
  · have hv := h.val x.1 x.2
    have hin : x ∈ ts ↔ kT x.1 x.2 ∈ kvs.map (·.1) := by
      rw [e, List.mem_map]
      constructor
      · intro z; exact ⟨x, z, rfl⟩
      · rintro ⟨y, hy, z⟩
        have := kT_inj.mp z
        rw [show x = y from Prod.ext this.1.symm this.2.symm]
        exact hy
    rw [hin]
    constructor
    · intro z
      refine Nat.one_le_iff_ne_zero.mpr fun y => ?_
      rw [if_pos y] at hv
      exact valV_not hv z
    · intro z
      rw [if_neg (by omega)] at hv
      exact valV_in hv
abbrev Tin2 := Str × Int
def TinR (H : Hp) (zs : List V) (ts : List Tin2) : Prop := zs.length = ts.length ∧ ∀ (i : Nat) (x : Tin2), ts[i]? = some x → ∃ T, zs[i]? = some (.ref T) ∧ H T = some (.tup [.str x.1, .int x.2])
theorem TinR.nil {H : Hp} : TinR H [] [] := ⟨rfl, fun _ _ e => nomatch e⟩
def TupKp (H H' : Hp) : Prop := ∀ a xs, H a = some (.tup xs) → H' a = some (.tup xs)
theorem TinR.keep {H H' : Hp} {zs : List V} {ts : List Tin2} (h : TinR H zs ts) (k : TupKp H H') : TinR H' zs ts := ⟨h.1, fun i x e => let ⟨T, e1, e2⟩ := h.2 i x e; ⟨T, e1, k _ _ e2⟩⟩
theorem TinR.snoc {H : Hp} {zs : List V} {ts : List Tin2} {T : Addr} {x : Tin2} (h : TinR H zs ts) (e : H T = some (.tup [.str x.1, .int x.2])) : TinR H (zs ++ [.ref T]) (ts ++ [x]) := by
  refine ⟨by rw [List.length_append, List.length_append, h.1]; rfl, fun i y ey => ?_⟩
  rcases Nat.lt_or_ge i ts.length with z | z
  · rw [List.getElem?_append_left z] at ey
    obtain ⟨T', e1, e2⟩ := h.2 i y ey
    exact ⟨T', by rw [List.getElem?_append_left (by rw [h.1]; exact z)]; exact e1, e2⟩
  · rw [List.getElem?_append_right z] at ey
    have : i - ts.length = 0 := by
      have := (List.getElem?_eq_some_iff.mp ey).1
      simp at this
      omega
    rw [this] at ey
    cases ey
    exact ⟨T, by rw [List.getElem?_append_right (by rw [h.1]; exact z), h.1, this]; rfl, e⟩
theorem TinR.at {H : Hp} {zs : List V} {ts : List Tin2} {i : Nat} {v : V} (h : TinR H zs ts) (e : zs[i]? = some v) : ∃ x T, ts[i]? = some x ∧ v = .ref T ∧ H T = some (.tup [.str x.1, .int x.2]) := by
  have hi : i < ts.length := by rw [← h.1]; exact (List.getElem?_eq_some_iff.mp e).1
  obtain ⟨T, e1, e2⟩ := h.2 i _ (List.getElem?_eq_getElem hi)
  rw [e] at e1
  exact ⟨ts[i], T, List.getElem?_eq_getElem hi, Option.some.inj e1, e2⟩
/-- a tin of a tuple in the heap -/
def tinOf (H : Hp) (v : V) : Tin2 := match v with
  | .ref T => match H T with
    | some (.tup [.str m, .int n]) => (m, n)
    | _ => (⟨#[]⟩, 0)
  | _ => (⟨#[]⟩, 0)
theorem tinOf_at {H : Hp} {T : Addr} {m : Str} {n : Int} (e : H T = some (.tup [.str m, .int n])) : tinOf H (.ref T) = (m, n) := by
  unfold tinOf
  simp only [e]
theorem TinR.eq {H : Hp} {zs : List V} {ts : List Tin2} (h : TinR H zs ts) : ts = zs.map (tinOf H) := by
  refine List.ext_getElem? fun i => ?_
  rw [List.getElem?_map]
  cases e : zs[i]? with
  | none =>
    rw [List.getElem?_eq_none_iff] at e
    rw [Option.map_none, List.getElem?_eq_none_iff, ← h.1]
    exact e
  | some v =>
    obtain ⟨x, T, e1, rfl, e2⟩ := h.at e
    rw [e1, Option.map_some, tinOf_at e2]
theorem TinR.perm {H : Hp} {zs ys : List V} {ts : List Tin2} (h : TinR H zs ts) (p : ys.Perm zs) : TinR H ys (ys.map (tinOf H)) ∧ (ys.map (tinOf H)).Perm ts := by
  refine ⟨⟨by rw [List.length_map], fun i x e => ?_⟩, by rw [h.eq]; exact p.map _⟩
  rw [List.getElem?_map] at e
  obtain ⟨v, e1, e2⟩ := Option.map_eq_some_iff.mp e
  obtain ⟨j, hj, e3⟩ := List.getElem_of_mem (p.mem_iff.mp (List.mem_of_getElem? e1))
  obtain ⟨y, T, _, rfl, e4⟩ := h.at (by rw [List.getElem?_eq_getElem hj, e3])
  refine ⟨T, e1, ?_⟩
  rw [← e2, tinOf_at e4]
  exact e4
theorem TwR.of2 {L : List Part} {ys : List Str} {f : Str → List (Int × Int)} (hs : ys.Pairwise fun a b => a.cps.toList < b.cps.toList) (hm : ∀ m n, Tw L m n → m ∈ ys) (ht : ∀ m ∈ ys, Told (Tw L m) (f m)) (hf : ∀ m ∈ ys, ∃ n, Tw L m n) : TwR L (ys.map fun m => (m, f m)) := by
  refine ⟨?_, ?_, fun m n z => ⟨(m, f m), List.mem_map.mpr ⟨m, hm m n z, rfl⟩, rfl⟩⟩
  · rintro ⟨m, rs⟩
    rw [List.mem_map]
    constructor
    · rintro ⟨m', hm', e⟩
      cases e
      refine ⟨ht m hm', fun z => ?_⟩
      obtain ⟨n, hn⟩ := hf m hm'
      have := ((ht m hm').same n).mpr hn
      rw [show f m = [] from z] at this
      exact inS_nil this
    · rintro ⟨h1, h2⟩
      have h1 : Told (Tw L m) rs := h1
      have h2 : rs ≠ [] := h2
      cases rs with
      | nil => exact absurd rfl h2
      | cons p q =>
        obtain ⟨lo, hr⟩ := h1.ris
        have hT : Tw L m p.1 := (h1.same p.1).mp ⟨p, List.mem_cons_self .., Int.le_refl _, hr.2.1⟩
        have hy := hm m p.1 hT
        refine ⟨m, hy, ?_⟩
        rw [h1.one (ht m hy) fun _ => Iff.rfl]
  · exact List.pairwise_map.mpr hs
def spLCnt : Sp := fun vs H Q _ => ∃ (a : Addr) (us : List V) (pks : List Pk) (xs : List Str), vs = [.ref a] ∧ H a = some (.lst us) ∧ PksR H us pks ∧ (allP pks).length ≤ 200 ∧ (∀ p ∈ allP pks, Okp p ∧ p.2.2 ≤ 970 ∧ p.1 ∈ xs) ∧ xs.length ≤ 3 ∧
  ∀ l ws rows H', H l = none → H' l = some (.lst ws) → EchN (fun z => H z = none ∧ z ≠ l) H' ws (rows.map rowT) → TwR (allP pks) rows → Same H H' → Q (.ref l) H'
abbrev sLCnt : Stmt := topS 16
theorem scLCnt : FnScope ["_law_packings", "_law_counts", "_law_name", "_law_size", "_law_own", "_law_mark", "_law_first", "_law_last", "_law_tin", "_law_tins", "_law_marks", "_law_one"] ["_law_packings"] (defScope sLCnt) := ⟨rfl, rfl, rfl, by decide +kernel, rfl, by decide +kernel, by decide +kernel⟩
section
variable {K : PySem.W.Frag} {mg : Str → Option Value} {P : Program} {w : World} {base : Heap}
theorem ok_LCnt {f : Addr} {fd : FuncData} (F : Fun K "_law_counted" "_law_counted" sLCnt f fd) (C__law_set_of : Cal P w K mg base 1 "_law_set_of" ["_law_pairs"] spLSet) (m_range : mg "range" = none) (m_sorted : mg "sorted" = none) (m_set : mg "set" = none) : FnOk P w K mg base CX0 2 f fd ["_law_packings"] spLCnt := by
  refine F.ok scLCnt (fun vs H Q E h => ?_) (fun cdv A outer s H vs Q E hr h => ?_)
  · obtain ⟨a, us, pks, xs, rfl, _⟩ := h
    rfl
  · obtain ⟨a, us, pks, xs, rfl, ha, hpk, hal, hok, hxl, q⟩ := h
    refine ⟨_, pss_cons (ps_set (i := 1) scLCnt.nd rfl (.inr rfl) pe_dnewT)
      (pss_cons (ps_for PassesOwn.never rfl (pi_list (pv 0)) (pg_tup rfl (pgs_cons (pg_name (i := 2) scLCnt.nd rfl (.inl rfl)) (pgs_cons (pg_name (i := 3) scLCnt.nd rfl (.inl rfl)) (pgs_cons (pg_name (i := 4) scLCnt.nd rfl (.inl rfl)) pgs_nil))))
        (pss_one (ps_for PassesOwn.never rfl (pi_list (pv 4)) (pg_tup rfl (pgs_cons (pg_name (i := 5) scLCnt.nd rfl (.inl rfl)) (pgs_cons (pg_name (i := 6) scLCnt.nd rfl (.inl rfl)) (pgs_cons (pg_name (i := 7) scLCnt.nd rfl (.inl rfl)) pgs_nil))))
          (pss_one (ps_for PassesOwn.never rfl (pi_range2 rfl m_range (pa_cons (pv 6) (pa_cons (pe_op op_add (pv 7) pe_int) pa_nil))) (pg_name (i := 8) scLCnt.nd rfl (.inl rfl))
            (pss_one (ps_dput (hu_of hr) (pv 1) (pe_tup (pa_cons (pv 5) (pa_cons (pv 8) pa_nil))) (pe_op op_add (pe_dget2 (hu_of hr) (pv 1) (pe_tup (pa_cons (pv 5) (pa_cons (pv 8) pa_nil))) pe_int ⟨rfl, rfl, rfl, rfl⟩) pe_int) rfl)))))))
      (pss_cons (ps_set (i := 9) scLCnt.nd rfl (.inr rfl) (pe_callB cr_sortedK (by rfl) m_sorted (by decide +kernel) (pa_cons (pe_lock (pe_lc (own := [("_law_one", 11)]) (g := (gName 11)) (tt := (tTest (tOp (rI0 fun i j => .bl (decide (j < i))) (tDGet (tVar 1) (tVar 11)) (tC (.int 1))))) (te := (tVar 11)) rfl scLCnt.nd (pi_keys (pv 1)) (blkOk_by (own := [("_law_one", 11)]) (N := ["_law_packings", "_law_counts", "_law_name", "_law_size", "_law_own", "_law_mark", "_law_first", "_law_last", "_law_tin", "_law_tins", "_law_marks", "_law_one"]) (sc := defScope sLCnt) (by decide +kernel)) (fun _ _ _ _ _ => (pg_name (i := 11) scLCnt.nd rfl (.inl rfl))) (fun _ _ _ _ _ => (pts_one (pt_cmpR op_gt (pe_dget (hu_of hr) (pv 1) (pv 11) (fun _ _ => rfl)) pe_int (nomark _)))) (fun _ _ _ _ _ => (pv 11)))) pa_nil)))
      (pss_cons (ps_set (i := 10) scLCnt.nd rfl (.inl rfl) (StS.pe_sortedSetT (by rfl) m_sorted (by rfl) m_set (pe_lc (own := [("_law_mark", 5), ("_law_tin", 8)]) (g := (gTup K 2 (gCons (gName 5) (gCons (gName 8) gNil)))) (tt := tYes) (te := (tVar 5)) rfl scLCnt.nd (pi_list (pv 9)) (blkOk_by (own := [("_law_mark", 5), ("_law_tin", 8)]) (N := ["_law_packings", "_law_counts", "_law_name", "_law_size", "_law_own", "_law_mark", "_law_first", "_law_last", "_law_tin", "_law_tins", "_law_marks", "_law_one"]) (sc := defScope sLCnt) (by decide +kernel)) (fun _ _ _ _ _ => (pg_tup rfl (pgs_cons (pg_name (i := 5) scLCnt.nd rfl (.inl rfl)) (pgs_cons (pg_name (i := 8) scLCnt.nd rfl (.inl rfl)) pgs_nil)))) (fun _ _ _ _ _ => pts_nil) (fun _ _ _ _ _ => (pv 5)))))
      (pss_one (ps_ret (pe_lc (own := [("_law_mark", 5)]) (g := (gName 5)) (tt := tYes) (te := (tTup (tCons (tVar 5) (tCons (tCall spLSet [] E0 (tCons (tLc (iList K (tVar 9)) (gTup K 2 (gCons (gName 4) (gCons (gName 8) gNil))) (tTest (tOp rEq (tVar 4) (tVar 5))) (tTup (tCons (tVar 8) (tCons (tVar 8) tNil))) [4, 8]) tNil)) tNil)))) rfl scLCnt.nd (pi_list (pv 10)) (blkOk_by (own := [("_law_mark", 5)]) (N := ["_law_packings", "_law_counts", "_law_name", "_law_size", "_law_own", "_law_mark", "_law_first", "_law_last", "_law_tin", "_law_tins", "_law_marks", "_law_one"]) (sc := defScope sLCnt) (by decide +kernel)) (fun _ _ _ _ _ => (pg_name (i := 5) scLCnt.nd rfl (.inr rfl))) (fun _ _ _ _ _ => pts_nil) (fun _ _ _ _ _ => (pe_tup (pa_cons (pv 5) (pa_cons (pe_own C__law_set_of hr (by rfl) (pa_cons (pe_lc (own := [("_law_own", 4), ("_law_tin", 8)]) (g := (gTup K 2 (gCons (gName 4) (gCons (gName 8) gNil)))) (tt := (tTest (tOp rEq (tVar 4) (tVar 5)))) (te := (tTup (tCons (tVar 8) (tCons (tVar 8) tNil)))) rfl scLCnt.nd (pi_list (pv 9)) (blkOk_by (own := [("_law_own", 4), ("_law_tin", 8)]) (N := ["_law_packings", "_law_counts", "_law_name", "_law_size", "_law_own", "_law_mark", "_law_first", "_law_last", "_law_tin", "_law_tins", "_law_marks", "_law_one"]) (by show blkC _ ({ kind := .function, names := [(".0", .local), ("_law_mark", .cell), ("_law_set_of", .globalImplicit), ("_law_tins", .cell)], isGenerator := false, isCoroutine := false } : Scope) _ _ = true; decide +kernel)) (fun _ _ _ _ _ => (pg_tup rfl (pgs_cons (pg_name (i := 4) scLCnt.nd rfl (.inl rfl)) (pgs_cons (pg_name (i := 8) scLCnt.nd rfl (.inl rfl)) pgs_nil)))) (fun _ _ _ _ _ => (pts_one (pt_cmpR op_eq (pv 4) (pv 5) (nomark _)))) (fun _ _ _ _ _ => (pe_tup (pa_cons (pv 8) (pa_cons (pv 8) pa_nil))))) pa_nil)) pa_nil)))))))))), ?_⟩
    intro Pd nP
    have s1 := same_upd (o := .dT []) nP
    have eP := upd_same (H := H) (a := Pd) (o := .dT [])
    revert s1 eP
    generalize upd H Pd (.dT []) = H1
    intro s1 eP
    refine ⟨_, rfl, a, rfl, ⟨_, SqL.of (s1 _ _ ha)⟩, for_list (xs := us) (fun i σ Hx => ∃ (kvs : List (List L2.Key × V)) (y2 y3 y4 y5 y6 y7 y8 : Option V), σ = [some (.ref a), some (.ref Pd), y2, y3, y4, y5, y6, y7, y8, none, none, none] ∧ Same H Hx ∧ Hx Pd = some (.dT kvs) ∧ kvs.length ≤ (allP (pks.take i)).length * 971 ∧ CntD kvs fun m n => cntIn (prOf m (allP (pks.take i))) n) ⟨[], _, _, _, _, _, _, _, rfl, s1, eP, Nat.zero_le _, CntD.nil⟩ (fun i σ Hx _ hP => ?_) (fun i u σ Hx hu hP => ?_) (fun σ Hx hP => ?_)⟩
    · obtain ⟨_, _, _, _, _, _, _, _, rfl, sx, _⟩ := hP
      exact SqL.of (sx _ _ ha)
    · obtain ⟨kvs, y2, y3, y4, y5, y6, y7, y8, rfl, sx, eP, hkl, hd⟩ := hP
      have hi : i < pks.length := by rw [← hpk.1]; exact (List.getElem?_eq_some_iff.mp hu).1
      obtain ⟨b, lo, vs, rfl, eb, elo, hpt⟩ := hpk.2 i u _ hu (List.getElem?_eq_getElem hi)
      have ek : pks[i]? = some pks[i] := List.getElem?_eq_getElem hi
      revert ek eb hpt
      generalize pks[i] = k
      intro eb hpt ek
      have hkm : ∀ p ∈ k.2.2, p ∈ allP pks := fun p hp => List.mem_flatMap.mpr ⟨k, List.mem_of_getElem? ek, hp⟩
      have hkl2 : ∀ j, (allP (pks.take i) ++ k.2.2.take j).length ≤ (allP pks).length := fun j => by
        have e1 := allP_take ek
        have e2 : (allP (pks.take (i + 1))).length ≤ (allP pks).length := by
          unfold allP
          conv => rhs; rw [← List.take_append_drop (i + 1) pks, List.flatMap_append, List.length_append]
          exact Nat.le_add_right _ _
        rw [e1, List.length_append] at e2
        rw [List.length_append, List.length_take]
        omega
      refine ⟨b, _, rfl, .inl (.inl (sx _ _ eb)), rfl, _, _, rfl, _, _, rfl, _, _, rfl, rfl, _, rfl, lo, rfl, ⟨_, SqL.of (sx _ _ elo)⟩, for_list (xs := vs) (fun j σ Hy => ∃ (kvs : List (List L2.Key × V)) (y2 y3 y5 y6 y7 y8 : Option V), σ = [some (.ref a), some (.ref Pd), y2, y3, some (.ref lo), y5, y6, y7, y8, none, none, none] ∧ Same H Hy ∧ Hy Pd = some (.dT kvs) ∧ kvs.length ≤ (allP (pks.take i) ++ k.2.2.take j).length * 971 ∧ CntD kvs fun m n => cntIn (prOf m (allP (pks.take i) ++ k.2.2.take j)) n) ⟨kvs, _, _, _, _, _, _, rfl, sx, eP, by rw [List.take_zero, List.append_nil]; exact hkl, by rw [List.take_zero, List.append_nil]; exact hd⟩ (fun j σ Hy _ hP => ?_) (fun j x σ Hy hx hP => ?_) (fun σ Hy hP => ?_)⟩
      · obtain ⟨_, _, _, _, _, _, _, rfl, sy, _⟩ := hP
        exact SqL.of (sy _ _ elo)
      · obtain ⟨kvs, y2, y3, y5, y6, y7, y8, rfl, sy, eP, hkl, hd⟩ := hP
        obtain ⟨p, ep, T, rfl, eT⟩ := Pts.at (Pts.same hpt sy) hx
        have hpm := hkm p (List.mem_of_getElem? ep)
        obtain ⟨hpo, hpb, _⟩ := hok p hpm
        have p0 : 0 ≤ p.2.1 := hpo.2.1
        have p1 : p.2.1 ≤ p.2.2 := hpo.2.2.1
        have etk : allP (pks.take i) ++ k.2.2.take (j + 1) = (allP (pks.take i) ++ k.2.2.take j) ++ [p] := by rw [List.take_add_one, ep, List.append_assoc]; rfl
        have hLl := hkl2 j
        refine ⟨T, _, rfl, .inl (.inl eT), rfl, _, _, rfl, _, _, rfl, _, _, rfl, rfl, ?_⟩
        refine ⟨_, rfl, _, rfl, _, _, rfl, rfl, p.2.1, p.2.2 + 1, rfl, ⟨by omega, by omega, by omega, by omega⟩, for_range (fun t σ Hz => ∃ (kvs : List (List L2.Key × V)) (y2 y3 y8 : Option V), σ = [some (.ref a), some (.ref Pd), y2, y3, some (.ref lo), some (.str p.1), some (.int p.2.1), some (.int p.2.2), y8, none, none, none] ∧ Same H Hz ∧ Hz Pd = some (.dT kvs) ∧ kvs.length ≤ (allP (pks.take i) ++ k.2.2.take j).length * 971 + t ∧ CntD kvs fun m n => cntIn (prOf m (allP (pks.take i) ++ k.2.2.take j)) n + if m = p.1 ∧ p.2.1 ≤ n ∧ n < p.2.1 + (t : Nat) then 1 else 0) ⟨kvs, _, _, _, rfl, sy, eP, by omega, hd.cong fun m n => by rw [if_neg (by omega)]; rfl⟩ (fun t σ Hz ht hP => ?_) (fun σ Hz hP => ?_)⟩
        · obtain ⟨kvs, y2, y3, y8, rfl, sz, eP, hkl, hd⟩ := hP
          refine ⟨_, rfl, Pd, rfl, .inr ⟨kvs, .inl eP⟩, _, rfl, _, rfl, by show 2 ≤ sizeLine; decide, fun T1 n1 => ?_⟩
          have s1 := same_upd (o := .tup [V.str p.1, .int (p.2.1 + (t : Nat))]) n1
          have eP1 := s1 _ _ eP
          have sz1 := sz.trans s1
          have eT1 : upd Hz T1 (.tup [V.str p.1, .int (p.2.1 + (t : Nat))]) T1 = some (.tup [V.str p.1, .int (p.2.1 + (t : Nat))]) := upd_same
          revert eP1 sz1 eT1
          generalize upd Hz T1 (.tup [V.str p.1, .int (p.2.1 + (t : Nat))]) = H5
          intro eP1 sz1 eT1
          obtain ⟨cn, hcn⟩ : ∃ cn : Nat, cn = cntIn (prOf p.1 (allP (pks.take i) ++ k.2.2.take j)) (p.2.1 + (t : Nat)) + if p.1 = p.1 ∧ p.2.1 ≤ p.2.1 + (t : Nat) ∧ p.2.1 + (t : Nat) < p.2.1 + (t : Nat) then 1 else 0 := ⟨_, rfl⟩
          have hval := hd.val p.1 (p.2.1 + (t : Nat))
          rw [← hcn] at hval
          have hget : (valV kvs (kT p.1 (p.2.1 + (t : Nat)))).getD (.int 0) = .int cn := by
            rw [hval]
            by_cases z : cn = 0
            · rw [if_pos z, z]; rfl
            · rw [if_neg z]; rfl
          refine ⟨valV kvs (kT p.1 (p.2.1 + (t : Nat))), .inr ⟨kvs, kT p.1 (p.2.1 + (t : Nat)), T1, .inl eP1, rfl, eT1, rfl⟩, cn, 1, hget, rfl, ?_⟩
          refine ⟨_, rfl, _, rfl, _, rfl, by show 2 ≤ sizeLine; decide, fun T2 n2 => ?_⟩
          have s2 := same_upd (o := .tup [V.str p.1, .int (p.2.1 + (t : Nat))]) n2
          have eP2 := s2 _ _ eP1
          have sz2 := sz1.trans s2
          have hput := hd.put (m := p.1) (n := p.2.1 + (t : Nat)) (c' := fun m n => cntIn (prOf m (allP (pks.take i) ++ k.2.2.take j)) n + if m = p.1 ∧ p.2.1 ≤ n ∧ n < p.2.1 + ((t + 1 : Nat) : Int) then 1 else 0) (by
            show _ + (if _ then 1 else 0) = _ + (if _ then 1 else 0) + 1
            rw [if_pos ⟨rfl, by omega, by omega⟩, if_neg (fun z => by omega)]) (fun m' n' z => by
            show _ + (if _ then 1 else 0) = _ + (if _ then 1 else 0)
            congr 1
            by_cases c1 : m' = p.1 ∧ p.2.1 ≤ n' ∧ n' < p.2.1 + (t : Nat)
            · rw [if_pos c1, if_pos ⟨c1.1, c1.2.1, by omega⟩]
            · rw [if_neg c1, if_neg]
              rintro ⟨y1, y2, y3⟩
              exact c1 ⟨y1, y2, by
                have : n' ≠ p.2.1 + (t : Nat) := fun y => z ⟨y1, y⟩
                omega⟩)
          rw [← hcn] at hput
          have hpk := DSub.putK_len kvs (kT p.1 (p.2.1 + (t : Nat))) (.int ((cn : Nat) + 1))
          refine ⟨Pd, _, rfl, .inr ⟨kvs, kT p.1 (p.2.1 + (t : Nat)), T2, eP2, rfl, upd_same, by rw [sizeLine_eq]; omega, rfl⟩, _, _, _, _, rfl, fun b o e => ?_, upd_same, ?_, hput⟩
          · rw [upd_ne (ne_of_none e nP)]; exact sz2 _ _ e
          · exact Nat.le_trans hpk (by omega)
        · obtain ⟨kvs, y2, y3, y8, rfl, sz, eP, hkl, hd⟩ := hP
          refine ⟨kvs, _, _, _, _, _, _, rfl, sz, eP, ?_, ?_⟩
          · rw [etk, List.length_append]
            show _ ≤ (_ + 1) * 971
            omega
          · rw [etk]
            refine hd.cong fun m n => ?_
            rw [prOf_append m (allP (pks.take i) ++ k.2.2.take j) [p], cntIn_append _ (prOf m [p])]
            by_cases c : p.1 = m
            · rw [← c, prOf_one, cntIn_one]
              congr 1
              by_cases c2 : p.2.1 ≤ n ∧ n ≤ p.2.2
              · rw [if_pos c2, if_pos ⟨rfl, c2.1, by omega⟩]
              · rw [if_neg c2, if_neg fun z => c2 ⟨z.2.1, by omega⟩]
            · rw [prOf_other c, if_neg fun z => c z.1.symm]
              rfl
      · obtain ⟨kvs, y2, y3, y5, y6, y7, y8, rfl, sy, eP, hkl, hd⟩ := hP
        refine ⟨kvs, _, _, _, _, _, _, _, rfl, sy, eP, ?_, ?_⟩
        · rw [show vs.length = k.2.2.length from hpt.1, List.take_length] at hkl
          rw [allP_take ek]
          exact hkl
        · rw [allP_take ek]
          rw [show vs.length = k.2.2.length from hpt.1, List.take_length] at hd
          exact hd
    obtain ⟨kvs, y2, y3, y4, y5, y6, y7, y8, rfl, sx, eP, hkl, hd⟩ := hP
    rw [hpk.1, List.take_length] at hkl hd
    obtain ⟨ts0, ets, hnd0, hts0⟩ := hd.tins
    have htb : ∀ x : Tin2, 1 ≤ cntIn (prOf x.1 (allP pks)) x.2 → x.1 ∈ xs ∧ 0 ≤ x.2 ∧ x.2 ≤ 970 := fun x hx => by
      obtain ⟨p, hp, z1, z2⟩ := cntIn_pos.mp hx
      obtain ⟨w1, w2, w3⟩ := hok _ (prOf_mem hp)
      have := w1.2.1
      have w2 : p.2 ≤ 970 := w2
      have : 0 ≤ p.1 := this
      exact ⟨w3, by omega, by omega⟩
    have hTl : ∀ l : List Tin2, l.Nodup → (∀ x ∈ l, 1 ≤ cntIn (prOf x.1 (allP pks)) x.2) → l.length ≤ 2913 := fun l nd hl => by
      have := nodup_len (l := l) (m := xs.flatMap fun m => (List.range 971).map fun i : Nat => (m, (i : Int))) nd fun x hx => by
        obtain ⟨b1, b2, b3⟩ := htb x (hl x hx)
        refine List.mem_flatMap.mpr ⟨x.1, b1, List.mem_map.mpr ⟨x.2.toNat, List.mem_range.mpr (by omega), ?_⟩⟩
        exact Prod.ext rfl (by show (x.2.toNat : Int) = x.2; omega)
      have e : ∀ ys : List Str, (ys.flatMap fun m => (List.range 971).map fun i : Nat => (m, (i : Int))).length = ys.length * 971 := fun ys => by
        induction ys with
        | nil => rfl
        | cons y r ih => rw [List.flatMap_cons, List.length_append, ih, List.length_map, List.length_range, List.length_cons]; omega
      rw [e] at this
      omega
    have htwo : ∀ l : List Tin2, ∀ x ∈ l.filter fun x => decide (1 < cntIn (prOf x.1 (allP pks)) x.2), 1 ≤ cntIn (prOf x.1 (allP pks)) x.2 := fun l x hx => by
      have := of_decide_eq_true (List.mem_filter.mp hx).2
      omega
    refine ⟨Pd, .dT kvs, eP, trivial, fun od => ⟨_, rfl, Pd, od, rfl, .inr ⟨kvs, upd_same, fun D nD => lc_it walk_keysT (fun j H' => Same (upd Hx Pd (.frz od (.dT kvs))) H' ∧ ∃ zs, H' D = some (.lst zs) ∧ TinR H' zs ((ts0.take j).filter fun x => decide (1 < cntIn (prOf x.1 (allP pks)) x.2))) ⟨same_upd nD, [], upd_same, TinR.nil⟩ (fun j H' _ hP => hP.1 _ _ upd_same) (fun j x H' H'' hj hP hy => ?_) (fun H3 hP => ?_)⟩⟩⟩
    · obtain ⟨sz, zs, eD, hzs⟩ := hP
      obtain ⟨rfl, k, v, q', ek, rfl, eq⟩ := hy
      have ek1 : (kvs.map (·.1))[j]? = some k := by rw [List.getElem?_map, ek]; rfl
      rw [ets, List.getElem?_map] at ek1
      obtain ⟨x, ex, rfl⟩ := Option.map_eq_some_iff.mp ek1
      have etk : ts0.take (j + 1) = ts0.take j ++ [x] := by rw [List.take_add_one, ex]; rfl
      have hc1 := (hts0 x).mp (List.mem_of_getElem? ex)
      have hval := hd.val x.1 x.2
      rw [if_neg (by omega)] at hval
      have hzl : zs.length ≤ 2913 := by
        rw [hzs.1]
        exact hTl _ ((hnd0.sublist (List.take_sublist _ _)).sublist List.filter_sublist) (htwo _)
      refine ⟨rfl, ?_⟩
      refine ⟨_, rfl, _, rfl, Pd, _, rfl, .inr ⟨kvs, kT x.1 x.2, q', .inr ⟨od, sz _ _ upd_same⟩, rfl, eq, hval.symm⟩, _, 1, rfl, rfl, _, rfl, ?_⟩
      refine ite2 (fun c0 => ?_) (fun c0 => ?_)
      · have c1 : 1 < cntIn (prOf x.1 (allP pks)) x.2 := by
          have := of_decide_eq_true c0
          omega
        refine ⟨_, rfl, zs, eD, by rw [sizeLine_eq]; omega, fun b o e => ?_, zs ++ [.ref q'], upd_same, ?_⟩
        · rw [upd_ne (ne_of_none e nD)]; exact sz _ _ e
        · rw [etk, List.filter_append, List.filter_cons_of_pos (by exact decide_eq_true c1), List.filter_nil]
          exact (hzs.snoc eq).keep fun a us e => by rw [upd_ne (fun y => by rw [y, eD] at e; cases e)]; exact e
      · have c1 : ¬ 1 < cntIn (prOf x.1 (allP pks)) x.2 := fun z => c0 (decide_eq_true (by omega))
        refine ⟨sz, zs, eD, ?_⟩
        rw [etk, List.filter_append, List.filter_cons_of_neg (by simpa using c1), List.filter_nil, List.append_nil]
        exact hzs
    obtain ⟨s3, zs, eD3, hzs⟩ := hP
    have ef3 := s3 _ _ (upd_same (H := Hx) (a := Pd) (o := .frz od (.dT kvs)))
    refine ⟨ef3, ?_⟩
    have s13 : Same Hx (upd H3 Pd (.dT kvs)) := fun y o e => by
      by_cases z : y = Pd
      · subst z
        rw [upd_same, ← eP, e]
      · rw [upd_ne z]
        exact s3 y o (by rw [upd_ne z]; exact e)
    have nDs : D ≠ Pd := fun z => by rw [z, upd_same] at nD; cases nD
    have eD4 : upd H3 Pd (.dT kvs) D = some (.lst zs) := by rw [upd_ne nDs]; exact eD3
    have hzs4 := hzs.keep (H' := upd H3 Pd (.dT kvs)) fun a us e => by rw [upd_ne (fun y => by rw [y, ef3] at e; cases e)]; exact e
    rw [List.take_of_length_le (by have := congrArg List.length ets; rw [List.length_map, List.length_map] at this; omega)] at hzs4
    have hTnd : (ts0.filter fun x => decide (1 < cntIn (prOf x.1 (allP pks)) x.2)).Nodup := hnd0.sublist List.filter_sublist
    have hTm : ∀ x, x ∈ (ts0.filter fun x => decide (1 < cntIn (prOf x.1 (allP pks)) x.2)) ↔ Tw (allP pks) x.1 x.2 := fun x => by
      rw [List.mem_filter, hts0]
      unfold Tw
      constructor
      · rintro ⟨_, z⟩
        have := of_decide_eq_true z
        omega
      · intro z
        exact ⟨by omega, decide_eq_true (by omega)⟩
    have sH4 := sx.trans s13
    revert s13 eD4 hzs4 hTnd hTm sH4
    generalize upd H3 Pd (.dT kvs) = H4
    generalize (ts0.filter fun x => decide (1 < cntIn (prOf x.1 (allP pks)) x.2)) = TS
    intro s13 eD4 hzs4 hTnd hTm sH4
    refine ⟨D, zs, fun v => kT (tinOf H4 v).1 (tinOf H4 v).2, false, [true], rfl, SqL.of eD4, fun x hx => ?_, fun x hx y hy e => ?_, fun ys g hsrt stb ng => ?_⟩
    · obtain ⟨i, hi, e⟩ := List.getElem_of_mem hx
      obtain ⟨z, T, _, rfl, eT⟩ := hzs4.at (by rw [List.getElem?_eq_getElem hi, e])
      refine ⟨rfl, T, [], rfl, ?_⟩
      show H4 T = some (.tup ((kT (tinOf H4 (.ref T)).1 (tinOf H4 (.ref T)).2).map kV ++ []))
      rw [tinOf_at eT]
      exact eT
    · obtain ⟨i, hi, e1⟩ := List.getElem_of_mem hx
      obtain ⟨j, hj, e2⟩ := List.getElem_of_mem hy
      have ei : TS[i]? = some (tinOf H4 x) := by rw [hzs4.eq, List.getElem?_map, List.getElem?_eq_getElem hi, e1]; rfl
      have ej : TS[j]? = some (tinOf H4 y) := by rw [hzs4.eq, List.getElem?_map, List.getElem?_eq_getElem hj, e2]; rfl
      have exy : tinOf H4 x = tinOf H4 y := Prod.ext (kT_inj.mp e).1 (kT_inj.mp e).2
      rw [← exy] at ej
      obtain ⟨hi', e3⟩ := List.getElem?_eq_some_iff.mp ei
      obtain ⟨hj', e4⟩ := List.getElem?_eq_some_iff.mp ej
      have : i = j := (List.getElem_inj hTnd).mp (e3.trans e4.symm)
      subst this
      rw [← e1, ← e2]
    obtain ⟨hys, hpm⟩ := hzs4.perm stb.perm
    have sg := same_upd (o := .lst ys) ng
    have eg : upd H4 g (.lst ys) g = some (.lst ys) := upd_same
    have hys := hys.keep (H' := upd H4 g (.lst ys)) fun a us e => sg _ _ e
    have sH5 := sH4.trans sg
    have hTnd := hpm.nodup_iff.mpr hTnd
    have hTm : ∀ x, x ∈ ys.map (tinOf H4) ↔ Tw (allP pks) x.1 x.2 := fun x => hpm.mem_iff.trans (hTm x)
    revert eg hys sH5 hTnd hTm
    generalize ys.map (tinOf H4) = TS'
    generalize upd H4 g (.lst ys) = H5
    intro eg hys sH5 hTnd hTm
    have hTl2 : TS'.length ≤ 2913 := hTl _ hTnd fun x hx => by
      have := (hTm x).mp hx
      unfold Tw at this
      omega
    refine ⟨_, rfl, g, rfl, ⟨_, SqL.of eg⟩, fun D2 nD2 => lc_list (xs := ys) (fun j Hz => Same H5 Hz ∧ Hz D2 = some (.lst ((TS'.take j).map fun x => V.str x.1))) ⟨same_upd nD2, upd_same⟩ (fun j Hz _ p => SqL.of (p.1 _ _ eg)) (fun j v Hz hj hP => ?_) (fun H6 hP => ?_)⟩
    · obtain ⟨sz, eD⟩ := hP
      obtain ⟨x, T, ex, rfl, eT⟩ := hys.at hj
      refine ⟨T, _, rfl, .inl (.inl (sz _ _ eT)), rfl, _, _, rfl, _, _, rfl, rfl, rfl, ?_⟩
      refine ⟨_, rfl, _, eD, ?_, fun b o e => ?_, ?_⟩
      · rw [List.length_map, List.length_take, sizeLine_eq]; omega
      · rw [upd_ne (ne_of_none e nD2)]; exact sz _ _ e
      · rw [List.take_add_one, ex, List.map_append]; exact upd_same
    obtain ⟨s6, eD6⟩ := hP
    rw [hys.1, List.take_length] at eD6
    refine ⟨D2, TS'.map (·.1), rfl, SqL.of (by rw [List.map_map]; exact eD6), by rw [List.length_map]; omega, ⟨xs, by omega, fun m hm => ?_⟩, fun ms g2 hsort hnd hmem ng2 => ?_⟩
    · obtain ⟨x, hx, rfl⟩ := List.mem_map.mp hm
      have := (hTm x).mp hx
      unfold Tw at this
      exact (htb x (by omega)).1
    have s7 := same_upd (o := .lst (ms.map V.str)) ng2
    have eg2 : upd H6 g2 (.lst (ms.map V.str)) g2 = some (.lst (ms.map V.str)) := upd_same
    have sH7 := (sH5.trans s6).trans s7
    have eg7 := s7 _ _ (s6 _ _ eg)
    have hys7 := hys.keep (H' := upd H6 g2 (.lst (ms.map V.str))) fun a us e => s7 _ _ (s6 _ _ e)
    revert eg2 sH7 eg7 hys7
    generalize upd H6 g2 (.lst (ms.map V.str)) = H7
    intro eg2 sH7 eg7 hys7
    have hmt : ∀ m ∈ ms, ∃ n, Tw (allP pks) m n := fun m hm => by
      obtain ⟨x, hx, rfl⟩ := List.mem_map.mp ((hmem m).mp hm)
      exact ⟨x.2, (hTm x).mp hx⟩
    refine ⟨_, rfl, g2, rfl, ⟨_, SqL.of eg2⟩, fun l nl => lc_list (xs := ms.map V.str) (fun j Hz => Same H7 Hz ∧ ∃ ws, Hz l = some (.lst ws) ∧ EchN (fun z => H z = none ∧ z ≠ l) Hz ws (((ms.take j).map fun m => (m, canon (Tw (allP pks) m))).map rowT) ∧ ∀ m ∈ ms.take j, Told (Tw (allP pks) m) (canon (Tw (allP pks) m))) ⟨same_upd nl, [], upd_same, EchN.nil, fun _ z => nomatch z⟩ (fun j Hz _ p => SqL.of (p.1 _ _ eg2)) (fun j v Hz hj hP => ?_) (fun H8 hP => ?_)⟩
    · obtain ⟨sz, ws, el, hws, htd⟩ := hP
      obtain ⟨m, em, rfl⟩ : ∃ m, ms[j]? = some m ∧ v = .str m := by
        rw [List.getElem?_map] at hj
        obtain ⟨m, e1, e2⟩ := Option.map_eq_some_iff.mp hj
        exact ⟨m, e1, e2.symm⟩
      have etk : ms.take (j + 1) = ms.take j ++ [m] := by rw [List.take_add_one, em]; rfl
      have hjm : j < ms.length := (List.getElem?_eq_some_iff.mp em).1
      have hml : ms.length ≤ 3 := Nat.le_trans (nodup_len hnd fun m hm => by
        obtain ⟨x, hx, rfl⟩ := List.mem_map.mp ((hmem m).mp hm)
        have := (hTm x).mp hx
        unfold Tw at this
        exact (htb x (by omega)).1) hxl
      have hwl : ws.length ≤ 3 := by
        rw [hws.1, List.length_map, List.length_map, List.length_take]
        omega
      have hysz := hys7.keep (H' := Hz) fun a us e => sz _ _ e
      refine ⟨rfl, ?_⟩
      refine ⟨_, rfl, _, rfl, g, rfl, ⟨_, SqL.of (sz _ _ eg7)⟩, fun D3 nD3 => lc_list (xs := ys) (fun i Hw => Same Hz Hw ∧ ∃ us, Hw D3 = some (.lst us) ∧ Prs Hw us (((TS'.take i).filter fun x => decide (x.1 = m)).map fun x => (x.2, x.2))) ⟨same_upd nD3, [], upd_same, Prs.nil⟩ (fun i Hw _ p => SqL.of (p.1 _ _ (sz _ _ eg7))) (fun i v Hw hi hP => ?_) (fun H9 hP => ?_)⟩
      · obtain ⟨sw, us3, e3, hus⟩ := hP
        obtain ⟨x, T, ex, rfl, eT⟩ := hysz.at hi
        have etx : TS'.take (i + 1) = TS'.take i ++ [x] := by rw [List.take_add_one, ex]; rfl
        have hul : us3.length ≤ 2913 := by
          rw [hus.1, List.length_map]
          refine Nat.le_trans (List.length_filter_le _ _) ?_
          rw [List.length_take]
          omega
        refine ⟨T, _, rfl, .inl (.inl (sw _ _ eT)), rfl, _, _, rfl, _, _, rfl, rfl, rfl, ?_⟩
        refine ⟨_, rfl, _, rfl, rfl, _, rfl, ?_⟩
        refine ite2 (fun c0 => ?_) (fun c0 => ?_)
        · have c1 : x.1 = m := V.str.inj (of_decide_eq_true c0)
          refine ⟨_, rfl, _, rfl, by show 2 ≤ sizeLine; decide, fun T2 n2 => ?_⟩
          have s2 := same_upd (o := .tup [V.int x.2, .int x.2]) n2
          have e3' := s2 _ _ e3
          refine ⟨us3, e3', by rw [sizeLine_eq]; omega, fun b o e => ?_, us3 ++ [.ref T2], upd_same, ?_⟩
          · rw [upd_ne (ne_of_none e nD3)]; exact s2 _ _ (sw _ _ e)
          · rw [etx, List.filter_append, List.filter_cons_of_pos (by exact decide_eq_true c1), List.filter_nil, List.map_append]
            exact ((hus.same s2).snoc (x := x.2) (y := x.2) upd_same).upd_lst e3'
        · have c1 : ¬ x.1 = m := fun z => c0 (decide_eq_true (by rw [z]))
          refine ⟨sw, us3, e3, ?_⟩
          rw [etx, List.filter_append, List.filter_cons_of_neg (by simpa using c1), List.filter_nil, List.append_nil]
          exact hus
      obtain ⟨sw, us3, e3, hus⟩ := hP
      rw [hysz.1, List.take_length] at hus
      have hin : ∀ n, InS ((TS'.filter fun x => decide (x.1 = m)).map fun x => (x.2, x.2)) n ↔ Tw (allP pks) m n := fun n => by
        constructor
        · rintro ⟨p, hp, z1, z2⟩
          obtain ⟨x, hx, rfl⟩ := List.mem_map.mp hp
          obtain ⟨hx1, hx2⟩ := List.mem_filter.mp hx
          have hx2 := of_decide_eq_true hx2
          have z1 : x.2 ≤ n := z1
          have z2 : n ≤ x.2 := z2
          have := (hTm x).mp hx1
          rw [hx2, show x.2 = n by omega] at this
          exact this
        · intro z
          exact ⟨(n, n), List.mem_map.mpr ⟨(m, n), List.mem_filter.mpr ⟨(hTm (m, n)).mpr z, by exact decide_eq_true rfl⟩, rfl⟩, Int.le_refl _, Int.le_refl _⟩
      have hfl : ((TS'.filter fun x => decide (x.1 = m)).map fun x => (x.2, x.2)).length ≤ 971 := by
        rw [List.length_map]
        have := nodup_len (l := TS'.filter fun x => decide (x.1 = m)) (m := (List.range 971).map fun i : Nat => (m, (i : Int))) (hTnd.sublist List.filter_sublist) fun x hx => by
          obtain ⟨hx1, hx2⟩ := List.mem_filter.mp hx
          have hx2 := of_decide_eq_true hx2
          have h3 := (hTm x).mp hx1
          unfold Tw at h3
          obtain ⟨_, b2, b3⟩ := htb x (by omega)
          refine List.mem_map.mpr ⟨x.2.toNat, List.mem_range.mpr (by omega), ?_⟩
          exact Prod.ext hx2.symm (by show (x.2.toNat : Int) = x.2; omega)
        rw [List.length_map, List.length_range] at this
        exact this
      have elw := sw _ _ el
      have hwsw := hws.same sw
      refine ⟨D3, us3, _, rfl, e3, hus, by omega, fun lt wt rs Ht nlt elt hut htl hlen st => ⟨by show 2 ≤ sizeLine; decide, fun T nT => ?_⟩⟩
      have htl := htl.cong hin
      have ers : rs = canon (Tw (allP pks) m) := Told.canon (pr := Tw (allP pks) m) htl
      have sT := same_upd (o := .tup [V.str m, .ref lt]) nT
      have el5 := sT _ _ (st _ _ elw)
      have ltl : lt ≠ l := fun y => by rw [y, elw] at nlt; cases nlt
      have nltH : H lt = none := ((sH7.trans sz).trans sw).free nlt
      have hrow : DatN (fun z => H z = none ∧ z ≠ l) (upd Ht T (.tup [V.str m, .ref lt])) (.ref T) (rowT (m, canon (Tw (allP pks) m))) := by
        rw [← ers]
        exact EchN.tup (.cons (.str _) (.one ((Prs.ech hut).same sT |>.lst ⟨nltH, ltl⟩ (sT _ _ elt)))) upd_same
      have k : Kps (fun z => H z = none ∧ z ≠ l) (upd Ht T (.tup [V.str m, .ref lt])) (upd (upd Ht T (.tup [V.str m, .ref lt])) l (.lst (ws ++ [.ref T]))) := .upd el5 fun a z => z.2
      refine ⟨ws, el5, small1000 (by omega), fun b o e => ?_, ws ++ [.ref T], upd_same, ?_, fun m' hm' => ?_⟩
      · rw [upd_ne (ne_of_none e nl)]; exact sT _ _ (st _ _ (sw _ _ (sz _ _ e)))
      · rw [etk, List.map_append, List.map_append]
        exact (((hwsw.same st).same sT).keep k).snoc (hrow.keep k)
      · rw [etk] at hm'
        rcases List.mem_append.mp hm' with z | z
        · exact htd m' z
        · rw [List.mem_singleton.mp z, ← ers]; exact htl
    obtain ⟨sz, ws, el, hws, htd⟩ := hP
    rw [List.length_map, List.take_length] at hws htd
    refine q l ws _ H8 (sH7.free nl) el hws (TwR.of2 (sorted_strict hsort hnd) (fun m n z => (hmem m).mpr (List.mem_map.mpr ⟨(m, n), (hTm (m, n)).mpr z, rfl⟩)) htd hmt) (sH7.trans sz)
end

open G3
/-! ### the law's own: stretches between all ends -/
def spLDue : Sp := fun vs H Q _ => ∃ (a : Addr) (us : List V) (pks : List Pk) (xs : List Str), vs = [.ref a] ∧ H a = some (.lst us) ∧ PksR H us pks ∧ (allP pks).length ≤ 200 ∧ (∀ p ∈ allP pks, Okp p) ∧ (∀ p ∈ allP pks, p.1 ∈ xs) ∧ xs.length < 64 ∧
  ∀ l ws rows H', H l = none → H' l = some (.lst ws) → EchN (fun z => H z = none ∧ z ≠ l) H' ws (rows.map rowT) → TwR (allP pks) rows → rows.length ≤ 64 → (∀ r ∈ rows, r.2.length ≤ 900) → Same H H' → Q (.ref l) H'
theorem seg_le : ∀ {cs : List Int}, cs.Pairwise (· < ·) → ∀ p ∈ segS cs, p.1 ≤ p.2
  | [], _, _, h => nomatch h
  | [_], _, _, h => nomatch h
  | a :: b :: r, up, p, h => by
    obtain ⟨u1, u2⟩ := List.pairwise_cons.mp up
    rcases List.mem_cons.mp (show p ∈ (a, b - 1) :: segS (b :: r) from h) with z | z
    · have := u1 b (List.mem_cons_self ..)
      rw [z]
      show a ≤ b - 1
      omega
    · exact seg_le u2 p z
theorem eqv_none {α : Type} (f : α → PyData) (ps : List α) : PyData.eqv (PyData.list (ps.map f)) (PyData.list []) = ps.isEmpty := by
  cases ps with
  | nil => simp [PyData.eqv, PyData.eqvAll]
  | cons p r => simp [PyData.eqv, PyData.eqvAll]
/-- xs != [], of pairs -/
theorem ne_nilP {K : PySem.W.Frag} {H : Hp} {p l : Addr} {ps : List (Int × Int)} {Q : VK} (h : LsA H p ps) (el : H l = some (.lst [])) (q : Q (.bl (!ps.isEmpty)) H) : rNeD K (.ref p) (.ref l) H Q :=
  ⟨_, .list [], h.dp, .lst (SqL.of el) .nil, shaped_prs ps, by rfl, by rw [eqv_none]; exact q⟩
theorem MkL.nil {H : Hp} : MkL H [] [] := ⟨List.nodup_nil, (fun _ z => nomatch z), (fun _ z => nomatch z), fun _ z => nomatch z⟩
theorem MkL.same {H H' : Hp} {kvs : List (L2.Key × V)} {L : List Part} (h : MkL H kvs L) (s : Same H H') : MkL H' kvs L := ⟨h.nd, fun e he => let ⟨m, l, us, e1, e2, e3⟩ := h.ent e he; ⟨m, l, us, e1, s _ _ e2, e3.same s⟩, h.all, h.own⟩
abbrev sLDue : Stmt := topS 15
theorem scLDue : FnScope ["_law_packings", "_law_parts", "_law_rows", "_law_name", "_law_size", "_law_own", "_law_mark", "_law_first", "_law_last", "_law_cuts", "_law_pairs", "_law_low", "_law_high"] ["_law_packings"] (defScope sLDue) := ⟨rfl, rfl, rfl, by decide +kernel, rfl, by decide +kernel, by decide +kernel⟩
section
variable {K : PySem.W.Frag} {mg : Str → Option Value} {P : Program} {w : World} {base : Heap}
theorem ok_LDue {f : Addr} {fd : FuncData} (F : Fun K "_law_due" "_law_due" sLDue f fd) (C__law_set_of : Cal P w K mg base 1 "_law_set_of" ["_law_pairs"] spLSet) (m_sorted : mg "sorted" = none) (m_set : mg "set" = none) (m_zip : mg "zip" = none) (m_len : mg "len" = none) : FnOk P w K mg base CX0 2 f fd ["_law_packings"] spLDue := by
  refine F.ok scLDue (fun vs H Q E h => ?_) (fun cdv A outer s H vs Q E hr h => ?_)
  · obtain ⟨a, us, pks, xs, rfl, _⟩ := h
    rfl
  · obtain ⟨a, us, pks, xs, rfl, ha, hpk, hal, hok, hxs, hxl, q⟩ := h
    refine ⟨_, pss_cons (ps_par rfl scLDue.nd (i := 1) (j := 2) rfl rfl (by decide) rfl rfl (pa_cons pe_dnewK (pa_cons (pe_lst pa_nil) pa_nil)) (by rfl))
      (pss_cons (ps_for PassesOwn.never rfl (pi_list (pv 0)) (pg_tup rfl (pgs_cons (pg_name (i := 3) scLDue.nd rfl (.inl rfl)) (pgs_cons (pg_name (i := 4) scLDue.nd rfl (.inl rfl)) (pgs_cons (pg_name (i := 5) scLDue.nd rfl (.inl rfl)) pgs_nil))))
        (pss_one (ps_for PassesOwn.never rfl (pi_list (pv 5)) (pg_tup rfl (pgs_cons (pg_name (i := 6) scLDue.nd rfl (.inl rfl)) (pgs_cons (pg_name (i := 7) scLDue.nd rfl (.inl rfl)) (pgs_cons (pg_name (i := 8) scLDue.nd rfl (.inl rfl)) pgs_nil))))
          (pss_one (ps_dput (hu_of hr) (pv 1) (pv 6) (pe_op op_cat (pe_dget2 (hu_of hr) (pv 1) (pv 6) (pe_lst pa_nil) ⟨rfl, rfl, rfl, rfl⟩) (pe_lst (pa_cons (pe_tup (pa_cons (pv 7) (pa_cons (pv 8) pa_nil))) pa_nil))) rfl)))))
      (pss_cons (ps_for PassesOwn.never rfl (pi_list (pe_callB (call_sortedD rfl) (by rfl) m_sorted (by decide +kernel) (pa_cons (pv 1) pa_nil))) (pg_name (i := 6) scLDue.nd rfl (.inl rfl))
        (pss_cons (ps_set (i := 9) scLDue.nd rfl (.inl rfl) (pe_sortedSet (by rfl) m_sorted (by rfl) m_set (pe_op op_cat (pe_lc (own := [("_law_first", 7), ("_law_last", 8)]) (g := (gTup K 2 (gCons (gName 7) (gCons (gName 8) gNil)))) (tt := tYes) (te := (tVar 7)) rfl scLDue.nd (pi_list (pe_dget (hu_of hr) (pv 1) (pv 6) (fun _ _ => rfl))) (blkOk_by (own := [("_law_first", 7), ("_law_last", 8)]) (N := ["_law_packings", "_law_parts", "_law_rows", "_law_name", "_law_size", "_law_own", "_law_mark", "_law_first", "_law_last", "_law_cuts", "_law_pairs", "_law_low", "_law_high"]) (sc := defScope sLDue) (by decide +kernel)) (fun _ _ _ _ _ => (pg_tup rfl (pgs_cons (pg_name (i := 7) scLDue.nd rfl (.inl rfl)) (pgs_cons (pg_name (i := 8) scLDue.nd rfl (.inl rfl)) pgs_nil)))) (fun _ _ _ _ _ => pts_nil) (fun _ _ _ _ _ => (pv 7))) (pe_lc (own := [("_law_first", 7), ("_law_last", 8)]) (g := (gTup K 2 (gCons (gName 7) (gCons (gName 8) gNil)))) (tt := tYes) (te := (tOp (rI0 fun i j => .int (i + j)) (tVar 8) (tC (.int 1)))) rfl scLDue.nd (pi_list (pe_dget (hu_of hr) (pv 1) (pv 6) (fun _ _ => rfl))) (blkOk_by (own := [("_law_first", 7), ("_law_last", 8)]) (N := ["_law_packings", "_law_parts", "_law_rows", "_law_name", "_law_size", "_law_own", "_law_mark", "_law_first", "_law_last", "_law_cuts", "_law_pairs", "_law_low", "_law_high"]) (sc := defScope sLDue) (by decide +kernel)) (fun _ _ _ _ _ => (pg_tup rfl (pgs_cons (pg_name (i := 7) scLDue.nd rfl (.inl rfl)) (pgs_cons (pg_name (i := 8) scLDue.nd rfl (.inl rfl)) pgs_nil)))) (fun _ _ _ _ _ => pts_nil) (fun _ _ _ _ _ => (pe_op op_add (pv 8) pe_int))))))
        (pss_cons (ps_set (i := 10) scLDue.nd rfl (.inl rfl) (pe_lst pa_nil))
        (pss_cons (ps_for PassesOwn.never rfl (RZ.pi_zipA (by rfl) m_zip (pa_cons (pv 9) (pa_cons (pe_slice sl_list (pv 9) (po_some pe_int) po_none) pa_nil))) (pg_tup rfl (pgs_cons (pg_name (i := 11) scLDue.nd rfl (.inr rfl)) (pgs_cons (pg_name (i := 12) scLDue.nd rfl (.inl rfl)) pgs_nil)))
          (pss_one (ps_if (pt_cmpR op_gt (pe_callB call_len_seq (by rfl) m_len PySem.boot_len (pa_cons (pe_lc (own := [("_law_first", 7), ("_law_last", 8)]) (g := (gTup K 2 (gCons (gName 7) (gCons (gName 8) gNil)))) (tt := _) (te := (tC (.int 1))) rfl scLDue.nd (pi_list (pe_dget (hu_of hr) (pv 1) (pv 6) (fun _ _ => rfl))) (blkOk_by (own := [("_law_first", 7), ("_law_last", 8)]) (N := ["_law_packings", "_law_parts", "_law_rows", "_law_name", "_law_size", "_law_own", "_law_mark", "_law_first", "_law_last", "_law_cuts", "_law_pairs", "_law_low", "_law_high"]) (sc := defScope sLDue) (by decide +kernel)) (fun _ _ _ _ _ => (pg_tup rfl (pgs_cons (pg_name (i := 7) scLDue.nd rfl (.inl rfl)) (pgs_cons (pg_name (i := 8) scLDue.nd rfl (.inl rfl)) pgs_nil)))) (fun _ _ _ _ _ => (pts_one (pt_chain op_le op_le (pv 7) (pv 11) (pv 8)))) (fun _ _ _ _ _ => pe_int)) pa_nil)) pe_int (nomark _)) (pss_one (ps_expr (pe_bm PySem.F.plainAttrs_list PySem.F.slot_list_append PySem.F.type_list_append mt_append (pv 10) (pa_cons (pe_tup (pa_cons (pv 11) (pa_cons (pe_op op_sub (pv 12) pe_int) pa_nil))) pa_nil))))
            pss_nil)))
        (pss_one (ps_if (pt_cmpR (op_neD hr.units) (pv 10) (pe_lst pa_nil) (nomark _)) (pss_one (ps_expr (pe_bm PySem.F.plainAttrs_list PySem.F.slot_list_append PySem.F.type_list_append mt_append (pv 2) (pa_cons (pe_tup (pa_cons (pv 6) (pa_cons (pe_own C__law_set_of hr (by rfl) (pa_cons (pv 10) pa_nil)) pa_nil))) pa_nil))))
          pss_nil))))))
      (pss_one (ps_ret (pv 2))))), ?_⟩
    intro Pd nP
    have sP := same_upd (o := .dK []) nP
    have eP := upd_same (H := H) (a := Pd) (o := .dK [])
    revert sP eP
    generalize upd H Pd (.dK []) = H1
    intro sP eP
    refine ⟨Nat.zero_le _, fun l nl => ?_⟩
    have sl := same_upd (o := .lst []) nl
    have el := upd_same (H := H1) (a := l) (o := .lst [])
    have lP : l ≠ Pd := fun y => by rw [y, eP] at nl; cases nl
    have eP := sl _ _ eP
    have s1 := sP.trans sl
    have nlH := sP.free nl
    revert s1 eP el
    generalize upd H1 l (.lst []) = H2
    intro el eP s1
    refine ⟨_, _, rfl, _, rfl, a, rfl, ⟨_, SqL.of (s1 _ _ ha)⟩, for_list (xs := us) (fun i σ Hx => ∃ (kvs : List (L2.Key × V)) (y3 y4 y5 y6 y7 y8 : Option V), σ = [some (.ref a), some (.ref Pd), some (.ref l), y3, y4, y5, y6, y7, y8, none, none, none, none] ∧ Same H Hx ∧ Hx Pd = some (.dK kvs) ∧ Hx l = some (.lst []) ∧ MkL Hx kvs (allP (pks.take i))) ⟨[], _, _, _, _, _, _, rfl, s1, eP, el, MkL.nil⟩ (fun i σ Hx _ hP => ?_) (fun i u σ Hx hu hP => ?_) (fun σ Hx hP => ?_)⟩
    · obtain ⟨_, _, _, _, _, _, _, rfl, sx, _⟩ := hP
      exact SqL.of (sx _ _ ha)
    · obtain ⟨kvs, y3, y4, y5, y6, y7, y8, rfl, sx, eP, el, hd⟩ := hP
      have hi : i < pks.length := by rw [← hpk.1]; exact (List.getElem?_eq_some_iff.mp hu).1
      obtain ⟨b, lo, vs, rfl, eb, elo, hpt⟩ := hpk.2 i u _ hu (List.getElem?_eq_getElem hi)
      have ek : pks[i]? = some pks[i] := List.getElem?_eq_getElem hi
      revert ek eb hpt
      generalize pks[i] = k
      intro eb hpt ek
      have hkm : ∀ p ∈ k.2.2, p ∈ allP pks := fun p hp => List.mem_flatMap.mpr ⟨k, List.mem_of_getElem? ek, hp⟩
      have hkl : ∀ j, (allP (pks.take i) ++ k.2.2.take j).length ≤ (allP pks).length := fun j => by
        have e1 := allP_take ek
        have e2 : (allP (pks.take (i + 1))).length ≤ (allP pks).length := by
          unfold allP
          conv => rhs; rw [← List.take_append_drop (i + 1) pks, List.flatMap_append, List.length_append]
          exact Nat.le_add_right _ _
        rw [e1, List.length_append] at e2
        rw [List.length_append, List.length_take]
        omega
      refine ⟨b, _, rfl, .inl (.inl (sx _ _ eb)), rfl, _, _, rfl, _, _, rfl, _, _, rfl, rfl, _, rfl, lo, rfl, ⟨_, SqL.of (sx _ _ elo)⟩, for_list (xs := vs) (fun j σ Hy => ∃ (kvs : List (L2.Key × V)) (y3 y4 y6 y7 y8 : Option V), σ = [some (.ref a), some (.ref Pd), some (.ref l), y3, y4, some (.ref lo), y6, y7, y8, none, none, none, none] ∧ Same H Hy ∧ Hy Pd = some (.dK kvs) ∧ Hy l = some (.lst []) ∧ MkL Hy kvs (allP (pks.take i) ++ k.2.2.take j)) ⟨kvs, _, _, _, _, _, rfl, sx, eP, el, by rw [List.take_zero, List.append_nil]; exact hd⟩ (fun j σ Hy _ hP => ?_) (fun j x σ Hy hx hP => ?_) (fun σ Hy hP => ?_)⟩
      · obtain ⟨_, _, _, _, _, _, rfl, sy, _⟩ := hP
        exact SqL.of (sy _ _ elo)
      · obtain ⟨kvs, y3, y4, y6, y7, y8, rfl, sy, eP, el, hd⟩ := hP
        obtain ⟨p, ep, T, rfl, eT⟩ := Pts.at (Pts.same hpt sy) hx
        have hpm := hkm p (List.mem_of_getElem? ep)
        have etk : allP (pks.take i) ++ k.2.2.take (j + 1) = (allP (pks.take i) ++ k.2.2.take j) ++ [p] := by rw [List.take_add_one, ep, List.append_assoc]; rfl
        have hmem : ∀ p ∈ allP (pks.take i) ++ k.2.2.take j, p ∈ allP pks := fun p hp => by
          rcases List.mem_append.mp hp with z | z
          · obtain ⟨k', hk', z⟩ := List.mem_flatMap.mp z
            exact List.mem_flatMap.mpr ⟨k', List.mem_of_mem_take hk', z⟩
          · exact hkm p (List.mem_of_mem_take z)
        have hkvl := hd.few (xs := xs) fun p hp => hxs p (hmem p hp)
        refine ⟨T, _, rfl, .inl (.inl eT), rfl, _, _, rfl, _, _, rfl, _, _, rfl, rfl, ?_⟩
        refine ⟨_, rfl, Pd, rfl, .inl ⟨kvs, .inl eP⟩, _, rfl, Nat.zero_le _, fun z nz => ⟨valV kvs (.inr p.1), .inl ⟨kvs, .inr p.1, .inl (same_upd nz _ _ eP), rfl, rfl⟩, ?_⟩⟩
        have sz := same_upd (o := .lst []) nz
        obtain ⟨l2, us2, eg, e2, e3⟩ : ∃ l2 us2, (valV kvs (.inr p.1)).getD (.ref z) = .ref l2 ∧ upd Hy z (.lst []) l2 = some (.lst us2) ∧ Prs (upd Hy z (.lst [])) us2 (prOf p.1 (allP (pks.take i) ++ k.2.2.take j)) := by
          rcases hd.get p.1 with ⟨l2, us2, g1, g2, g3⟩ | ⟨g1, g2⟩
          · exact ⟨l2, us2, by rw [g1]; rfl, sz _ _ g2, g3.same sz⟩
          · exact ⟨z, [], by rw [g1]; rfl, upd_same, by rw [g2]; exact Prs.nil⟩
        have eP := sz _ _ eP
        have el := sz _ _ el
        have hd := hd.same sz
        have sy := sy.trans sz
        revert eP el hd sy e2 e3
        rw [eg]
        generalize upd Hy z (.lst []) = Hz
        intro e2 e3 eP el hd sy
        have hul : us2.length ≤ 200 := by
          rw [e3.1]
          exact Nat.le_trans (prOf_len _ _) (Nat.le_trans (hkl j) hal)
        refine ⟨_, rfl, _, rfl, by show 2 ≤ sizeLine; decide, fun T2 nT2 => ⟨by show 1 ≤ sizeLine; decide, fun c nc => ?_⟩⟩
        have sT := same_upd (o := .tup [V.int p.2.1, .int p.2.2]) nT2
        have sc := same_upd (o := .lst [.ref T2]) nc
        refine ⟨l2, c, us2, _, rfl, rfl, sc _ _ (sT _ _ e2), upd_same, by show us2.length + 1 ≤ sizeLine; rw [sizeLine_eq]; omega, fun n nn => ?_⟩
        have sn := same_upd (o := .lst (us2 ++ [.ref T2])) nn
        have st := (sT.trans sc).trans sn
        have eT2 : upd (upd (upd Hz T2 (.tup [V.int p.2.1, .int p.2.2])) c (.lst [.ref T2])) n (.lst (us2 ++ [.ref T2])) T2 = some (.tup [V.int p.2.1, .int p.2.2]) := sn _ _ (sc _ _ upd_same)
        have en : upd (upd (upd Hz T2 (.tup [V.int p.2.1, .int p.2.2])) c (.lst [.ref T2])) n (.lst (us2 ++ [.ref T2])) n = some (.lst (us2 ++ [.ref T2])) := upd_same
        revert st eT2 en
        generalize upd (upd (upd Hz T2 (.tup [V.int p.2.1, .int p.2.2])) c (.lst [.ref T2])) n (.lst (us2 ++ [.ref T2])) = Hn
        intro st eT2 en
        have eP := st _ _ eP
        refine ⟨_, rfl, _, rfl, Pd, _, rfl, .inl ⟨kvs, .inr p.1, eP, rfl, by rw [sizeLine_eq]; omega, rfl⟩, putK kvs (.inr p.1) (.ref n), _, _, _, _, _, rfl, fun b o e => ?_, upd_same, ?_, ?_⟩
        · rw [upd_ne (ne_of_none e nP)]; exact st _ _ (sy _ _ e)
        · rw [upd_ne (fun y => lP y)]; exact st _ _ el
        · rw [etk]
          refine (hd.same st).put (us' := us2 ++ [.ref T2]) ?_ ?_ (fun a xs e => ?_) fun a xs e => ?_
          · rw [upd_ne (fun y => by rw [y, eP] at en; cases en)]; exact en
          · refine prs_tk ((e3.same st).snoc eT2) fun a xs e => ?_
            rw [upd_ne (fun y => by rw [y, eP] at e; cases e)]; exact e
          · rw [upd_ne (fun y => by rw [y, eP] at e; cases e)]; exact e
          · rw [upd_ne (fun y => by rw [y, eP] at e; cases e)]; exact e
      · obtain ⟨kvs, y3, y4, y6, y7, y8, rfl, sy, eP, el, hd⟩ := hP
        refine ⟨kvs, _, _, _, _, _, _, rfl, sy, eP, el, ?_⟩
        rw [allP_take ek]
        rw [show vs.length = k.2.2.length from hpt.1, List.take_length] at hd
        exact hd
    obtain ⟨kvs, y3, y4, y5, y6, y7, y8, rfl, sx, eP, el, hd⟩ := hP
    rw [hpk.1, List.take_length] at hd
    obtain ⟨ns, en, hnd, hall, hent⟩ := hd.names
    have hkvl := hd.few (xs := xs) hxs
    have hnl : ns.length < 64 := by
      have := congrArg List.length en
      rw [List.length_map, List.length_map] at this
      omega
    have hne : ∀ m ∈ ns, prOf m (allP pks) ≠ [] := fun m hm => by
      have : (.inr m : L2.Key) ∈ kvs.map (·.1) := by rw [en]; exact List.mem_map.mpr ⟨m, hm, rfl⟩
      obtain ⟨e, he, e1⟩ := List.mem_map.mp this
      obtain ⟨p, hp, e2⟩ := hd.own e he
      rw [e1] at e2
      cases Sum.inr.inj e2
      intro z
      unfold prOf at z
      have : p.2 ∈ ((allP pks).filter fun q => decide (q.1 = p.1)).map (·.2) := List.mem_map.mpr ⟨p, List.mem_filter.mpr ⟨hp, by exact decide_eq_true rfl⟩, rfl⟩
      rw [z] at this
      cases this
    have hLt : ∀ m ∈ ns, ∀ rs, Told (fun n => 2 ≤ cntIn (prOf m (allP pks)) n) rs → rs = canon (Tw (allP pks) m) := fun m _ rs h => Told.canon (pr := Tw (allP pks) m) h
    refine ⟨_, rfl, Pd, kvs, ns, rfl, .inl eP, en, hnl, fun ys g hperm hsort ng => ⟨g, rfl, ⟨_, SqL.of upd_same⟩, for_list (xs := ys.map V.str) (fun i σ Hy => ∃ (ws : List V) (y3 y4 y5 y6 y7 y8 y9 y10 y11 y12 : Option V), σ = [some (.ref a), some (.ref Pd), some (.ref l), y3, y4, y5, y6, y7, y8, y9, y10, y11, y12] ∧ (∀ b o, b ≠ l → Hx b = some o → Hy b = some o) ∧ Hy g = some (.lst (ys.map V.str)) ∧ Hy l = some (.lst ws) ∧ EchN (fun z => H z = none ∧ z ≠ l) Hy ws ((((ys.take i).map fun m => (m, canon (Tw (allP pks) m))).filter fullT).map rowT) ∧ ∀ m ∈ ys.take i, Told (Tw (allP pks) m) (canon (Tw (allP pks) m)) ∧ (canon (Tw (allP pks) m)).length ≤ 900) ?_ (fun i σ Hy _ hP => ?_) (fun i x σ Hy hx hP => ?_) (fun σ Hy hP => ?_)⟩⟩
    · exact ⟨[], _, _, _, _, _, _, _, _, _, _, rfl, fun b o _ e => same_upd ng _ _ e, upd_same, same_upd ng _ _ el, EchN.nil, fun _ z => nomatch z⟩
    · obtain ⟨_, _, _, _, _, _, _, _, _, _, _, rfl, _, e, _⟩ := hP
      exact SqL.of e
    · obtain ⟨ws, y3, y4, y5, y6, y7, y8, y9, y10, y11, y12, rfl, sy, eg, el2, hws, htd⟩ := hP
      obtain ⟨m, em, rfl⟩ : ∃ m, ys[i]? = some m ∧ x = .str m := by
        rw [List.getElem?_map] at hx
        obtain ⟨m, e1, e2⟩ := Option.map_eq_some_iff.mp hx
        exact ⟨m, e1, e2.symm⟩
      have etk : ys.take (i + 1) = ys.take i ++ [m] := by rw [List.take_add_one, em]; rfl
      have hi : i < ys.length := (List.getElem?_eq_some_iff.mp em).1
      have hyl : ys.length < 64 := by rw [hperm.length_eq]; exact hnl
      have hmn : m ∈ ns := hperm.mem_iff.mp (List.mem_of_getElem? em)
      obtain ⟨l2, us2, hv, e2, e3⟩ := hent m hmn
      have hwl : ws.length ≤ i := by
        have := hws.1
        rw [List.length_map] at this
        have h2 := List.length_filter_le fullT ((ys.take i).map fun m => (m, canon (Tw (allP pks) m)))
        rw [List.length_map, List.length_take] at h2
        omega
      have hpl := prOf_len m (allP pks)
      have hl2 : l2 ≠ l := fun y => by
        rw [y, el] at e2
        cases e2
        have := e3.1
        exact hne m hmn (List.eq_nil_of_length_eq_zero this.symm)
      have e2y := sy _ _ hl2 e2
      have e3y : Prs Hy us2 (prOf m (allP pks)) := ⟨e3.1, fun i p ep => let ⟨b, z1, z2⟩ := e3.2 i p ep; ⟨b, z1, sy _ _ (fun y => by rw [y, el] at z2; cases z2) z2⟩⟩
      have ePy := sy _ _ (fun y => lP y.symm) eP
      have hpk2 : ∀ p ∈ prOf m (allP pks), p.1 ≤ p.2 := fun p hp => (hok _ (prOf_mem hp)).2.2.1
      have hul : us2.length ≤ 200 := by rw [e3.1]; omega
      refine ⟨_, rfl, _, rfl, Pd, .ref l2, rfl, .inl ⟨kvs, .inr m, .inl ePy, rfl, hv.symm⟩, l2, rfl, ⟨_, SqL.of e2y⟩, fun c1 nc1 => lc_list (xs := us2) (fun j Hz => Same Hy Hz ∧ Hz c1 = some (.lst (((prOf m (allP pks)).take j).map fun p => V.int p.1))) ⟨same_upd nc1, upd_same⟩ (fun j Hz _ p => SqL.of (p.1 _ _ e2y)) (fun j x Hz hj hP => ?_) (fun H1 hP => ?_)⟩
      · obtain ⟨sz, eD⟩ := hP
        obtain ⟨p, T, ep, rfl, eT⟩ := prs_at (e3y.same sz) hj
        refine ⟨T, _, rfl, .inl (.inl eT), rfl, _, _, rfl, _, _, rfl, rfl, rfl, ?_⟩
        refine ⟨_, rfl, _, eD, small1000 ?_, fun b o e => ?_, ?_⟩
        · rw [List.length_map, List.length_take]
          have := e3.1
          omega
        · rw [upd_ne (ne_of_none e nc1)]; exact sz _ _ e
        · rw [List.take_add_one, ep, List.map_append]; exact upd_same
      obtain ⟨s1', ec1⟩ := hP
      rw [e3.1, List.take_length] at ec1
      have ePy0 := ePy
      have e2y0 := e2y
      have e3y0 := e3y
      have ePy := s1' _ _ ePy
      have e2y := s1' _ _ e2y
      have e3y := e3y.same s1'
      refine ⟨_, rfl, _, rfl, Pd, .ref l2, rfl, .inl ⟨kvs, .inr m, .inl ePy, rfl, hv.symm⟩, l2, rfl, ⟨_, SqL.of e2y⟩, fun c2 nc2 => lc_list (xs := us2) (fun j Hz => Same H1 Hz ∧ Hz c2 = some (.lst (((prOf m (allP pks)).take j).map fun p => V.int (p.2 + 1)))) ⟨same_upd nc2, upd_same⟩ (fun j Hz _ p => SqL.of (p.1 _ _ e2y)) (fun j x Hz hj hP => ?_) (fun H2 hP => ?_)⟩
      · obtain ⟨sz, eD⟩ := hP
        obtain ⟨p, T, ep, rfl, eT⟩ := prs_at (e3y.same sz) hj
        refine ⟨T, _, rfl, .inl (.inl eT), rfl, _, _, rfl, _, _, rfl, rfl, rfl, ?_⟩
        refine ⟨_, rfl, _, _, rfl, rfl, _, eD, small1000 ?_, fun b o e => ?_, ?_⟩
        · rw [List.length_map, List.length_take]
          have := e3.1
          omega
        · rw [upd_ne (ne_of_none e nc2)]; exact sz _ _ e
        · rw [List.take_add_one, ep, List.map_append]; exact upd_same
      obtain ⟨s2', ec2⟩ := hP
      rw [e3.1, List.take_length] at ec2
      have hpl2 : (prOf m (allP pks)).length ≤ 200 := by omega
      refine ⟨c1, c2, _, _, rfl, rfl, s2' _ _ ec1, ec2, by rw [sizeLine_eq, List.length_map, List.length_map]; omega, fun c3 nc3 => ?_⟩
      have s3' := same_upd (o := .lst (((prOf m (allP pks)).map fun p => V.int p.1) ++ (prOf m (allP pks)).map fun p => V.int (p.2 + 1))) nc3
      refine ⟨c3, ((prOf m (allP pks)).map fun p => p.1) ++ (prOf m (allP pks)).map fun p => p.2 + 1, rfl, ?_, by rw [List.length_append, List.length_map, List.length_map]; omega, fun cs gc hup hcs ngc => ?_⟩
      · rw [List.map_append, List.map_map, List.map_map]
        exact SqL.of upd_same
      have sq := ((s1'.trans s2').trans s3').trans (same_upd (o := .lst (cs.map V.int)) ngc)
      have egc : upd (upd H2 c3 (.lst (((prOf m (allP pks)).map fun p => V.int p.1) ++ (prOf m (allP pks)).map fun p => V.int (p.2 + 1)))) gc (.lst (cs.map V.int)) gc = some (.lst (cs.map V.int)) := upd_same
      revert sq egc
      generalize upd (upd H2 c3 (.lst (((prOf m (allP pks)).map fun p => V.int p.1) ++ (prOf m (allP pks)).map fun p => V.int (p.2 + 1)))) gc (.lst (cs.map V.int)) = H4
      intro sq egc
      have hcl : cs.length ≤ 400 := by
        have := nodup_len (l := cs) (m := ((prOf m (allP pks)).map fun p => p.1) ++ (prOf m (allP pks)).map fun p => p.2 + 1) (hup.imp fun {_ _} z y => by omega) fun k hk => (hcs k).mp hk
        rw [List.length_append, List.length_map, List.length_map] at this
        omega
      refine ⟨Nat.zero_le _, fun pr npr => ?_⟩
      have s5 := same_upd (o := .lst []) npr
      have ngp : gc ≠ pr := ne_of_none egc npr
      have nprY : Hy pr = none := sq.free npr
      have epr : upd H4 pr (.lst []) pr = some (.lst []) := upd_same
      have egc := s5 _ _ egc
      have sq := sq.trans s5
      revert epr egc sq
      generalize upd H4 pr (.lst []) = H5
      intro epr egc sq
      refine ⟨_, rfl, _, rfl, 1, rfl, gc, _, rfl, SqL.of egc, fun c nc => ?_⟩
      rw [cutV_tail]
      have s6 := same_upd (o := .lst ((cs.drop 1).map V.int)) nc
      have ec : upd H5 c (.lst ((cs.drop 1).map V.int)) c = some (.lst ((cs.drop 1).map V.int)) := upd_same
      have ncp : c ≠ pr := fun y => by rw [y] at nc; rw [nc] at epr; cases epr
      have epr := s6 _ _ epr
      have egc := s6 _ _ egc
      have sq := sq.trans s6
      revert epr egc sq ec
      generalize upd H5 c (.lst ((cs.drop 1).map V.int)) = H6
      intro ec epr egc sq
      refine ⟨gc, c, _, _, rfl, .inl ⟨SqL.of egc, SqL.of ec, for_it (walk_zip (xs := cs.map V.int) (ys := (cs.drop 1).map V.int) (n := cs.length - 1) (by rw [List.length_map, List.length_map, List.length_drop]; omega)) (fun j σ Hz => ∃ (us : List V) (y11 y12 : Option V), σ = [some (.ref a), some (.ref Pd), some (.ref l), y3, y4, y5, some (.str m), y7, y8, some (.ref gc), some (.ref pr), y11, y12] ∧ (∀ b o, b ≠ pr → H6 b = some o → Hz b = some o) ∧ Hz pr = some (.lst us) ∧ Prs Hz us (((segS cs).take j).filter fun p => decide (1 < cntIn (prOf m (allP pks)) p.1))) ⟨[], _, _, rfl, fun _ _ _ e => e, epr, Prs.nil⟩ (fun j σ Hz _ hP => ?_) (fun j x σ Hz Hz' hj hP hy => ?_) (fun σ Hz hP => ?_)⟩⟩
      · obtain ⟨_, _, _, rfl, sz, _⟩ := hP
        exact ⟨SqL.of (sz _ _ ngp egc), SqL.of (sz _ _ ncp ec)⟩
      · obtain ⟨us, y11, y12, rfl, sz, epz, hps⟩ := hP
        obtain ⟨T, x1, x2, rfl, nT, rfl, f1, f2⟩ := hy
        have f1 : (cs.map V.int)[j]? = some x1 := f1
        have f2 : ((cs.drop 1).map V.int)[j]? = some x2 := f2
        obtain ⟨lo, g1, rfl⟩ : ∃ lo, cs[j]? = some lo ∧ x1 = .int lo := by
          rw [List.getElem?_map] at f1
          obtain ⟨m, e1, e2⟩ := Option.map_eq_some_iff.mp f1
          exact ⟨m, e1, e2.symm⟩
        obtain ⟨up, g2, rfl⟩ : ∃ up, cs[j + 1]? = some up ∧ x2 = .int up := by
          rw [List.getElem?_map, List.getElem?_drop, Nat.add_comm] at f2
          obtain ⟨m, e1, e2⟩ := Option.map_eq_some_iff.mp f2
          exact ⟨m, e1, e2.symm⟩
        have eseg := seg_at g1 g2
        have etj : (segS cs).take (j + 1) = (segS cs).take j ++ [(lo, up - 1)] := by rw [List.take_add_one, eseg]; rfl
        have st := same_upd (o := .tup [V.int lo, .int up]) nT
        have sYz : Same Hy Hz := fun b o e => sz b o (ne_of_none e nprY) (sq _ _ e)
        have sYt := sYz.trans st
        have e3z := e3y0.same sYt
        refine ⟨T, _, rfl, .inl (.inl upd_same), rfl, _, _, rfl, _, _, rfl, rfl, ?_⟩
        refine ⟨_, rfl, _, rfl, Pd, .ref l2, rfl, .inl ⟨kvs, .inr m, .inl (sYt _ _ ePy0), rfl, hv.symm⟩, l2, rfl, ⟨_, SqL.of (sYt _ _ e2y0)⟩, fun c4 nc4 => lc_list (xs := us2) (fun k Hw => Same (upd Hz T (.tup [V.int lo, .int up])) Hw ∧ Hw c4 = some (.lst (List.replicate (cntIn ((prOf m (allP pks)).take k) lo) (V.int 1)))) ⟨same_upd nc4, upd_same⟩ (fun k Hw _ p => SqL.of (p.1 _ _ (sYt _ _ e2y0))) (fun k x Hw hk hP => ?_) (fun Hw hP => ?_)⟩
        · obtain ⟨sw, eD⟩ := hP
          obtain ⟨p, T', ep, rfl, eT⟩ := prs_at (e3z.same sw) hk
          have hcw : cntIn ((prOf m (allP pks)).take k) lo ≤ 200 := by
            unfold cntIn
            refine Nat.le_trans (List.length_filter_le _ _) ?_
            rw [List.length_take]
            omega
          have ecn : cntIn ((prOf m (allP pks)).take (k + 1)) lo = cntIn ((prOf m (allP pks)).take k) lo + if p.1 ≤ lo ∧ lo ≤ p.2 then 1 else 0 := by
            rw [List.take_add_one, ep]
            show cntIn (_ ++ [p]) lo = _
            rw [cntIn_append, cntIn_one]
          refine ⟨T', _, rfl, .inl (.inl eT), rfl, _, _, rfl, _, _, rfl, rfl, rfl, ?_⟩
          refine ⟨_, rfl, _, rfl, p.1, lo, rfl, rfl, _, rfl, ?_⟩
          dsimp only
          by_cases c1 : p.1 ≤ lo
          · rw [if_pos (decide_eq_true c1)]
            refine ⟨_, rfl, lo, p.2, rfl, rfl, _, rfl, ?_⟩
            by_cases c2 : lo ≤ p.2
            · rw [if_pos (decide_eq_true c2)]
              refine ⟨_, eD, small1000 (by rw [List.length_replicate]; omega), fun b o e => ?_, ?_⟩
              · rw [upd_ne (ne_of_none e nc4)]; exact sw _ _ e
              · rw [ecn, if_pos ⟨c1, c2⟩, List.replicate_succ']; exact upd_same
            · rw [if_neg (by rw [decide_eq_false c2]; decide)]
              exact ⟨sw, by rw [ecn, if_neg (fun z => c2 z.2)]; exact eD⟩
          · rw [if_neg (by rw [decide_eq_false c1]; decide)]
            refine ⟨_, rfl, ?_⟩
            exact ⟨sw, by rw [ecn, if_neg (fun z => c1 z.1)]; exact eD⟩
        obtain ⟨sw, eD⟩ := hP
        rw [e3y0.1, List.take_length] at eD
        refine ⟨c4, _, rfl, .inl (SqL.of eD), _, _, rfl, rfl, _, rfl, ?_⟩
        have epw := sw _ _ (st _ _ epz)
        have hpsw := (hps.same st).same sw
        have szw : ∀ b o, b ≠ pr → H6 b = some o → Hw b = some o := fun b o n e => sw _ _ (st _ _ (sz b o n e))
        have hsegl : ((segS cs).take j).length ≤ 400 := by
          rw [List.length_take]
          have := seg_len cs
          omega
        refine ite2 (fun c0 => ?_) (fun c0 => ?_)
        · have c1 : 1 < cntIn (prOf m (allP pks)) lo := by
            have := of_decide_eq_true c0
            rw [List.length_replicate] at this
            omega
          refine ⟨_, rfl, .inl ⟨rfl, _, SqL.of epw⟩, _, rfl, _, rfl, up, 1, rfl, rfl, by show 2 ≤ sizeLine; decide, fun T2 nT2 => ?_⟩
          have sT2 := same_upd (o := .tup [V.int lo, .int (up - 1)]) nT2
          have epw := sT2 _ _ epw
          refine ⟨pr, us, _, rfl, rfl, epw, small1000 (by rw [hps.1]; exact Nat.le_trans (List.length_filter_le _ _) (by omega)), us ++ [.ref T2], _, _, rfl, fun b o n e => ?_, upd_same, ?_⟩
          · rw [upd_ne n]; exact sT2 _ _ (szw b o n e)
          · rw [etj, List.filter_append, List.filter_cons_of_pos (by exact decide_eq_true c1), List.filter_nil]
            exact ((hpsw.same sT2).snoc upd_same).upd_lst epw
        · have c1 : ¬ 1 < cntIn (prOf m (allP pks)) lo := fun z => c0 (decide_eq_true (by rw [List.length_replicate]; omega))
          refine ⟨us, _, _, rfl, szw, epw, ?_⟩
          rw [etj, List.filter_append, List.filter_cons_of_neg (by simpa using c1), List.filter_nil, List.append_nil]
          exact hpsw
      · obtain ⟨us, y11, y12, rfl, sz, epz, hps⟩ := hP
        rw [List.take_of_length_le (by rw [seg_len]; exact Nat.le_refl _)] at hps
        have htw : ∀ n, InS ((segS cs).filter fun p => decide (1 < cntIn (prOf m (allP pks)) p.1)) n ↔ Tw (allP pks) m n := fun n => seg_twice hup (fun p hp => ⟨(hcs _).mpr (List.mem_append_left _ (List.mem_map.mpr ⟨p, hp, rfl⟩)), (hcs _).mpr (List.mem_append_right _ (List.mem_map.mpr ⟨p, hp, rfl⟩))⟩) n
        have hple : ∀ p ∈ (segS cs).filter fun p => decide (1 < cntIn (prOf m (allP pks)) p.1), p.1 ≤ p.2 := fun p hp => seg_le hup p (List.mem_filter.mp hp).1
        have hpsl : ((segS cs).filter fun p => decide (1 < cntIn (prOf m (allP pks)) p.1)).length ≤ 400 := by
          refine Nat.le_trans (List.length_filter_le _ _) ?_
          have := seg_len cs
          omega
        revert hps htw hple hpsl
        generalize ((segS cs).filter fun p => decide (1 < cntIn (prOf m (allP pks)) p.1)) = PS
        intro hps htw hple hpsl
        have sYz : Same Hy Hz := fun b o e => sz b o (ne_of_none e nprY) (sq _ _ e)
        have sXz : ∀ b o, b ≠ l → Hx b = some o → Hz b = some o := fun b o n e => sYz _ _ (sy _ _ n e)
        have hws2 := hws.same sYz
        have el3 := sYz _ _ el2
        have eg3 := sYz _ _ eg
        refine ⟨_, rfl, Nat.zero_le _, fun e0 ne0 => ne_nilP ⟨us, same_upd ne0 _ _ epz, hps.same (same_upd ne0)⟩ upd_same ⟨_, rfl, ?_⟩⟩
        have s0 := same_upd (o := .lst []) ne0
        have sXz : ∀ b o, b ≠ l → Hx b = some o → upd Hz e0 (.lst []) b = some o := fun b o n e => s0 _ _ (sXz b o n e)
        have hws2 := hws2.same s0
        have el3 := s0 _ _ el3
        have eg3 := s0 _ _ eg3
        have epz := s0 _ _ epz
        have hps := hps.same s0
        have nH0 : Same H (upd Hz e0 (.lst [])) := fun b o e => sXz b o (ne_of_none e nlH) (sx _ _ e)
        revert sXz hws2 el3 eg3 epz hps nH0
        generalize upd Hz e0 (.lst []) = H7
        intro sXz hws2 el3 eg3 epz hps nH0
        have ctd : ∀ rs, Told (Tw (allP pks) m) rs → rs.length ≤ 900 → ∀ m' ∈ ys.take (i + 1), Told (Tw (allP pks) m') (canon (Tw (allP pks) m')) ∧ (canon (Tw (allP pks) m')).length ≤ 900 := fun rs h1 h2 m' hm' => by
          have e := hLt m hmn rs h1
          rw [etk] at hm'
          rcases List.mem_append.mp hm' with z | z
          · exact htd m' z
          · rw [List.mem_singleton.mp z, ← e]; exact ⟨h1, h2⟩
        cases PS with
        | nil =>
          have tn : Told (Tw (allP pks) m) [] := ⟨⟨0, True.intro⟩, fun n => ⟨fun z => absurd z inS_nil, fun z => absurd ((htw n).mpr z) inS_nil⟩⟩
          have e0 := hLt m hmn [] tn
          refine iteF (A := True) ⟨ws, _, _, _, _, _, _, _, _, _, _, rfl, sXz, eg3, el3, ?_, ctd [] tn (Nat.zero_le _)⟩
          rw [etk, List.map_append, List.filter_append, List.map_cons, List.map_nil, List.filter_cons_of_neg (by unfold fullT; rw [← e0]; exact fun z => by cases z), List.filter_nil, List.append_nil]
          exact hws2
        | cons p0 pr0 =>
          refine iteT (B := True) ⟨_, rfl, .inl ⟨rfl, _, SqL.of el3⟩, _, rfl, _, rfl, pr, us, _, rfl, epz, hps, by omega, fun lt wt rs Ht nlt elt hut htl hlen st => ⟨by show 2 ≤ sizeLine; decide, fun T nT => ?_⟩⟩
          have htl := htl.cong htw
          have ers := hLt m hmn rs htl
          have hrl : rs.length ≤ 900 := by omega
          have e0 : fullT (m, canon (Tw (allP pks) m)) = true := by
            unfold fullT
            rw [← ers]
            cases hrr : rs with
            | nil =>
              rw [hrr] at htl
              have := (htw p0.1).mp ⟨p0, List.mem_cons_self .., Int.le_refl _, hple p0 (List.mem_cons_self ..)⟩
              exact absurd ((htl.same p0.1).mpr this) inS_nil
            | cons _ _ => rfl
          have nltH : H lt = none := nH0.free nlt
          have el4 := st _ _ el3
          have sT := same_upd (o := .tup [V.str m, .ref lt]) nT
          have el5 := sT _ _ el4
          have ltl : lt ≠ l := fun y => by rw [y, el3] at nlt; cases nlt
          have hrow : DatN (fun z => H z = none ∧ z ≠ l) (upd Ht T (.tup [V.str m, .ref lt])) (.ref T) (rowT (m, canon (Tw (allP pks) m))) := by
            rw [← ers]
            exact EchN.tup (.cons (.str _) (.one ((Prs.ech hut).same sT |>.lst ⟨nltH, ltl⟩ (sT _ _ elt)))) upd_same
          have k : Kps (fun z => H z = none ∧ z ≠ l) (upd Ht T (.tup [V.str m, .ref lt])) (upd (upd Ht T (.tup [V.str m, .ref lt])) l (.lst (ws ++ [.ref T]))) := .upd el5 fun a z => z.2
          refine ⟨l, ws, _, rfl, rfl, el5, small1000 (by omega), ws ++ [.ref T], _, _, _, _, _, _, _, _, _, _, rfl, fun b o n e => ?_, ?_, upd_same, ?_, ctd rs htl hrl⟩
          · rw [upd_ne n]; exact sT _ _ (st _ _ (sXz b o n e))
          · rw [upd_ne (ne_of_none el ng).symm]
            exact sT _ _ (st _ _ eg3)
          · rw [etk, List.map_append, List.filter_append, List.map_cons, List.map_nil, List.filter_cons_of_pos e0, List.filter_nil, List.map_append]
            exact (((hws2.same st).same sT).keep k).snoc (hrow.keep k)
    · obtain ⟨ws, y3, y4, y5, y6, y7, y8, y9, y10, y11, y12, rfl, sy, eg, el2, hws, htd⟩ := hP
      rw [List.length_map, List.take_length] at hws htd
      have hyl : ys.length < 64 := by rw [hperm.length_eq]; exact hnl
      refine ⟨_, rfl, q l ws _ Hy nlH el2 hws (TwR.of (sorted_strict hsort (hperm.nodup_iff.mpr hnd)) (fun p hp => hperm.mem_iff.mpr (hall p hp)) fun m hm => (htd m hm).1) ?_ (fun r hr => ?_) fun b o e => sy b o (ne_of_none e nlH) (sx _ _ e)⟩
      · have h2 := List.length_filter_le fullT (ys.map fun m => (m, canon (Tw (allP pks) m)))
        rw [List.length_map] at h2
        omega
      · obtain ⟨m, hm, rfl⟩ := List.mem_map.mp (List.mem_filter.mp hr).1
        exact (htd m hm).2
end

open G3
/-! ### the law: packings that stand -/
structure PkL (H : Hp) (pl : Addr) (bs ls : List Addr) (pks : List Pk) : Prop where
  ep : H pl = some (.lst (bs.map V.ref))
  nb : bs.length = pks.length
  nl : ls.length = pks.length
  get : ∀ (i : Nat) (k : Pk), pks[i]? = some k → ∃ b l vs, bs[i]? = some b ∧ ls[i]? = some l ∧ H b = some (.tup [.str k.1, .int k.2.1, .ref l]) ∧ H l = some (.lst vs) ∧ Pts H vs k.2.2
  nd : ls.Nodup
  off : ∀ l ∈ ls, l ≠ pl
theorem noInt_refs (bs : List Addr) : NoInt (bs.map V.ref) := fun x hx i e => by
  obtain ⟨b, _, rfl⟩ := List.mem_map.mp hx
  cases e
theorem PkL.same {H H' : Hp} {pl : Addr} {bs ls : List Addr} {pks : List Pk} (h : PkL H pl bs ls pks) (s : Same H H') : PkL H' pl bs ls pks := ⟨s _ _ h.ep, h.nb, h.nl, fun i k e => let ⟨b, l, vs, e1, e2, e3, e4, e5⟩ := h.get i k e; ⟨b, l, vs, e1, e2, s _ _ e3, s _ _ e4, Pts.same e5 s⟩, h.nd, h.off⟩
theorem PkL.kp {H H' : Hp} {d c pl : Addr} {t : Int} {bs ls : List Addr} {pks : List Pk} (h : PkL H pl bs ls pks) (S : StAt H d c t) (k : Kp d c H H') : PkL H' pl bs ls pks := ⟨k.lst S h.ep (noInt_refs bs), h.nb, h.nl, fun i k' e => let ⟨b, l, vs, e1, e2, e3, e4, e5⟩ := h.get i k' e; ⟨b, l, vs, e1, e2, k.tup S e3, k.lst S e4 (Pts.noInt e5), Pts.kp e5 S k⟩, h.nd, h.off⟩
theorem PkL.rel {H : Hp} {pl : Addr} {bs ls : List Addr} {pks : List Pk} (h : PkL H pl bs ls pks) : PksR H (bs.map V.ref) pks := ⟨by rw [List.length_map, h.nb], fun i u k e1 e2 => by
  obtain ⟨b, l, vs, f1, f2, f3, f4, f5⟩ := h.get i k e2
  rw [List.getElem?_map, f1] at e1
  exact ⟨b, l, vs, (Option.some.inj e1).symm, f3, f4, f5⟩⟩
theorem PkL.nil {H : Hp} {pl : Addr} (e : H pl = some (.lst [])) : PkL H pl [] [] [] := ⟨e, rfl, rfl, (fun _ _ e => nomatch e), List.nodup_nil, fun _ z => nomatch z⟩
theorem PkL.put {H : Hp} {pl l : Addr} {bs ls : List Addr} {pks : List Pk} {i : Nat} {k : Pk} {vs' : List V} {ps' : List Part} (h : PkL H pl bs ls pks) (ek : pks[i]? = some k) (el : ls[i]? = some l) (hp : Pts H vs' ps') : PkL (upd H l (.lst vs')) pl bs ls (pks.set i (k.1, k.2.1, ps')) := by
  obtain ⟨b, l', vs, e1, e2, e3, e4, e5⟩ := h.get i k ek
  rw [el] at e2
  cases Option.some.inj e2
  have hi : i < pks.length := (List.getElem?_eq_some_iff.mp ek).1
  refine ⟨?_, by rw [List.length_set]; exact h.nb, by rw [List.length_set]; exact h.nl, fun j k' ej => ?_, h.nd, h.off⟩
  · rw [upd_ne (h.off l (List.mem_of_getElem? el)).symm]; exact h.ep
  · by_cases c : j = i
    · subst c
      rw [List.getElem?_set_self hi] at ej
      cases Option.some.inj ej
      refine ⟨b, l, vs', e1, el, ?_, upd_same, Pts.upd_lst hp e4⟩
      rw [upd_ne (ne_of e3 e4 (fun z => nomatch z))]; exact e3
    · rw [List.getElem?_set_ne (fun z => c z.symm)] at ej
      obtain ⟨b2, l2, vs2, f1, f2, f3, f4, f5⟩ := h.get j k' ej
      have ne : l2 ≠ l := fun z => by
        subst z
        obtain ⟨h1, g1⟩ := List.getElem?_eq_some_iff.mp f2
        obtain ⟨h2, g2⟩ := List.getElem?_eq_some_iff.mp el
        exact c ((List.getElem_inj h.nd).mp (g1.trans g2.symm))
      refine ⟨b2, l2, vs2, f1, f2, ?_, ?_, Pts.upd_lst f5 e4⟩
      · rw [upd_ne (ne_of f3 e4 (fun z => nomatch z))]; exact f3
      · rw [upd_ne ne]; exact f4
/-- a packing more -/
theorem PkL.more {H H' : Hp} {pl b l : Addr} {bs ls : List Addr} {pks : List Pk} {k : Pk} {vs : List V} (h : PkL H pl bs ls pks) (kp : ∀ a o, a ≠ pl → H a = some o → H' a = some o) (e : H' pl = some (.lst (bs.map V.ref ++ [.ref b]))) (eb : H' b = some (.tup [.str k.1, .int k.2.1, .ref l])) (nl : l ∉ ls) (el : H' l = some (.lst vs)) (hp : Pts H' vs k.2.2) (lp : l ≠ pl) : PkL H' pl (bs ++ [b]) (ls ++ [l]) (pks ++ [k]) := by
  refine ⟨by rw [e, List.map_append]; rfl, by rw [List.length_append, List.length_append, h.nb]; rfl, by rw [List.length_append, List.length_append, h.nl]; rfl, fun i k' ei => ?_, ?_, fun l' hl => ?_⟩
  · rcases Nat.lt_or_ge i pks.length with z | z
    · rw [List.getElem?_append_left z] at ei
      obtain ⟨b2, l2, vs2, f1, f2, f3, f4, f5⟩ := h.get i k' ei
      refine ⟨b2, l2, vs2, by rw [List.getElem?_append_left (by rw [h.nb]; exact z)]; exact f1, by rw [List.getElem?_append_left (by rw [h.nl]; exact z)]; exact f2, kp _ _ (fun y => ?_) f3, kp _ _ (h.off l2 (List.mem_of_getElem? f2)) f4, Pts.mono f5 fun v p _ ⟨a, e1, e2⟩ => ⟨a, e1, kp _ _ (fun y => ?_) e2⟩⟩
      · rw [y, h.ep] at f3; cases f3
      · rw [y, h.ep] at e2; cases e2
    · rw [List.getElem?_append_right z] at ei
      have z0 : i - pks.length = 0 := by
        have := (List.getElem?_eq_some_iff.mp ei).1
        simp at this
        omega
      rw [z0] at ei
      cases Option.some.inj ei
      refine ⟨b, l, vs, ?_, ?_, eb, el, hp⟩
      · rw [List.getElem?_append_right (by rw [h.nb]; exact z), h.nb, z0]; rfl
      · rw [List.getElem?_append_right (by rw [h.nl]; exact z), h.nl, z0]; rfl
  · refine List.nodup_append.mpr ⟨h.nd, List.nodup_cons.mpr ⟨(fun z => nomatch z), List.nodup_nil⟩, fun x hx y hy z => ?_⟩
    rw [List.mem_singleton.mp hy] at z
    exact nl (by rw [← z]; exact hx)
  · rcases List.mem_append.mp hl with z | z
    · exact h.off l' z
    · rw [List.mem_singleton.mp z]; exact lp
theorem PkL.fresh {H : Hp} {pl l : Addr} {bs ls : List Addr} {pks : List Pk} (h : PkL H pl bs ls pks) (n : H l = none) : l ∉ ls := fun hx => by
  obtain ⟨i, hi, ex⟩ := List.getElem_of_mem hx
  have hi2 : i < pks.length := by rw [← h.nl]; exact hi
  obtain ⟨b2, l2, vs2, f1, f2, f3, f4, f5⟩ := h.get i _ (List.getElem?_eq_getElem hi2)
  rw [List.getElem?_eq_getElem hi, ex] at f2
  cases Option.some.inj f2
  rw [n] at f4
  cases f4
theorem cutV_tl (us : List V) : cutV us (some 1) none = us.drop 1 := by
  unfold cutV
  rw [HT.sIx_none, show HT.sIx us.length 0 (some 1) = min 1 us.length from HT.sIx_nat _ _ 1]
  by_cases c : 1 ≤ us.length
  · rw [show min 1 us.length = 1 by omega, List.take_of_length_le (by rw [List.length_drop]; exact Nat.le_refl _)]
  · have : us = [] := List.eq_nil_of_length_eq_zero (by omega)
    rw [this]
    rfl
theorem PksR.rev {H : Hp} {us : List V} {pks : List Pk} (h : PksR H us pks) : PksR H us.reverse pks.reverse := by
  refine ⟨by rw [List.length_reverse, List.length_reverse, h.1], fun i u k e1 e2 => ?_⟩
  have hi : i < us.length := by
    have := (List.getElem?_eq_some_iff.mp e1).1
    rwa [List.length_reverse] at this
  rw [List.getElem?_reverse hi] at e1
  rw [List.getElem?_reverse (by rw [← h.1]; exact hi), ← h.1] at e2
  exact h.2 _ u k e1 e2
theorem PksR.app {H : Hp} {us vs : List V} {pks qks : List Pk} (h : PksR H us pks) (h2 : PksR H vs qks) : PksR H (us ++ vs) (pks ++ qks) := by
  refine ⟨by rw [List.length_append, List.length_append, h.1, h2.1], fun i u k e1 e2 => ?_⟩
  rcases Nat.lt_or_ge i us.length with z | z
  · rw [List.getElem?_append_left z] at e1
    rw [List.getElem?_append_left (by rw [← h.1]; exact z)] at e2
    exact h.2 i u k e1 e2
  · rw [List.getElem?_append_right z] at e1
    rw [List.getElem?_append_right (by rw [← h.1]; exact z), ← h.1] at e2
    exact h2.2 _ u k e1 e2
theorem allP_perm {pks pks' : List Pk} (p : pks.Perm pks') : (allP pks).Perm (allP pks') := p.flatMap_right _
theorem allP_app (pks qks : List Pk) : allP (pks ++ qks) = allP pks ++ allP qks := List.flatMap_append
theorem allP_len {n : Nat} : ∀ {pks : List Pk}, (∀ k ∈ pks, k.2.2.length ≤ n) → (allP pks).length ≤ pks.length * n
  | [], _ => Nat.zero_le _
  | k :: r, h => by
    have h1 := h k (List.mem_cons_self ..)
    have h2 := allP_len (pks := r) fun k hk => h k (List.mem_cons_of_mem _ hk)
    show (k.2.2 ++ allP r).length ≤ (r.length + 1) * n
    rw [List.length_append, Nat.add_mul]
    omega
/-- another list of parts in a packing's place -/
theorem allP_set : ∀ {pks : List Pk} {i : Nat} {k k' : Pk}, pks[i]? = some k → (allP (pks.set i k') ++ k.2.2).Perm (allP pks ++ k'.2.2)
  | [], _, _, _, h => nomatch h
  | x :: r, 0, k, k', h => by
    cases h
    show ((k'.2.2 ++ allP r) ++ x.2.2).Perm ((x.2.2 ++ allP r) ++ k'.2.2)
    refine (List.perm_append_comm (l₁ := k'.2.2 ++ allP r) (l₂ := x.2.2)).trans ?_
    rw [List.append_assoc]
    exact (List.perm_append_comm (l₁ := k'.2.2) (l₂ := allP r)).append_left x.2.2
  | x :: r, i + 1, k, k', h => by
    have ih := allP_set (k' := k') (show r[i]? = some k from h)
    show ((x.2.2 ++ allP (r.set i k')) ++ k.2.2).Perm ((x.2.2 ++ allP r) ++ k'.2.2)
    rw [List.append_assoc, List.append_assoc]
    exact ih.append_left x.2.2
structure GoodP (gr : Int) (xs : List Str) (pks : List Pk) : Prop where
  few : pks.length ≤ 12
  own : ∀ k ∈ pks, k.2.2.length ≤ 12 ∧ PyData.strOk k.1 = true
  ok : ∀ p ∈ allP pks, Okp p ∧ p.1 ∈ xs ∧ (gr = 0 → p.2.2 ≤ 970)
theorem GoodP.len {gr : Int} {xs : List Str} {pks : List Pk} (h : GoodP gr xs pks) : (allP pks).length ≤ 144 := by
  have := allP_len (n := 12) fun k hk => (h.own k hk).1
  have := h.few
  omega
theorem GoodP.set {gr : Int} {xs : List Str} {pks : List Pk} {i : Nat} {k : Pk} {ps : List Part} (h : GoodP gr xs pks) (ek : pks[i]? = some k) (hl : ps.length ≤ 12) (hs : ∀ p ∈ ps, p ∈ allP pks) : GoodP gr xs (pks.set i (k.1, k.2.1, ps)) := by
  refine ⟨by rw [List.length_set]; exact h.few, fun k' hk => ?_, fun p hp => ?_⟩
  · rcases List.mem_or_eq_of_mem_set hk with z | z
    · exact h.own k' z
    · rw [z]; exact ⟨hl, (h.own k (List.mem_of_getElem? ek)).2⟩
  · obtain ⟨k', hk, hp⟩ := List.mem_flatMap.mp hp
    rcases List.mem_or_eq_of_mem_set hk with z | z
    · exact h.ok p (List.mem_flatMap.mpr ⟨k', z, hp⟩)
    · rw [z] at hp; exact h.ok p (hs p hp)
/-! ### rows as data -/
theorem TwR.marks {L : List Part} {rows : List RowT} (h : TwR L rows) : ∀ r ∈ rows, ∃ p ∈ L, p.1 = r.1 := fun r hr => by
  obtain ⟨h1, h2⟩ := (h.mem r).mp hr
  cases e : r.2 with
  | nil => exact absurd e h2
  | cons p q =>
    rw [e] at h1
    obtain ⟨lo, hr⟩ := h1.ris
    have hT : Tw L r.1 p.1 := (h1.same p.1).mp ⟨p, List.mem_cons_self .., Int.le_refl _, hr.2.1⟩
    unfold Tw at hT
    obtain ⟨x, hx, _⟩ := cntIn_pos.mp (Nat.le_trans (by decide) hT)
    exact ⟨_, prOf_mem hx, rfl⟩
theorem lay_rows : ∀ {rows : List RowT}, (∀ r ∈ rows, PyData.strOk r.1 = true) → PyData.canLayAll0 (rows.map rowT) = true
  | [], _ => by simp only [List.map_nil, PyData.canLayAll0]
  | r :: rs, h => by
    rw [List.map_cons, PyData.canLayAll0, lay_rows fun q hq => h q (List.mem_cons_of_mem _ hq)]
    have := h r (List.mem_cons_self ..)
    simp only [rowT, PyData.canLay0, PyData.canLayAll0, this, lay_prs, Bool.and_true]
theorem depth_rows : ∀ rows : List RowT, PyData.depthAll (rows.map rowT) ≤ 4
  | [] => by simp only [List.map_nil, PyData.depthAll]; omega
  | r :: rs => by
    rw [List.map_cons, PyData.depthAll]
    have := depth_rows rs
    have := depth_prs r.2
    simp [rowT, PyData.depth, PyData.depthAll]
    omega
theorem shaped_rows {rows : List RowT} (h : ∀ r ∈ rows, PyData.strOk r.1 = true) : SeqAt.shaped (PyData.list (rows.map rowT)) = true := by
  unfold SeqAt.shaped
  rw [PyData.canLay0, lay_rows h, PyData.depth, Bool.true_and]
  exact decide_eq_true (by have := depth_rows rows; omega)
theorem eqv_rows {rows : List RowT} (h : ∀ r ∈ rows, PyData.strOk r.1 = true) : PyData.eqv (PyData.list (rows.map rowT)) (PyData.list (rows.map rowT)) = true := SeqAt.eqv_refl _ (by rw [PyData.canLay0]; exact lay_rows h)
theorem sm_rows {rows : List RowT} (h : rows.length ≤ 900) (h2 : ∀ r ∈ rows, r.2.length ≤ 900) : Sm 4 (.list (rows.map rowT)) := by
  refine ⟨by rw [List.length_map]; exact h, fun d hd => ?_⟩
  obtain ⟨r, hr, rfl⟩ := List.mem_map.mp hd
  refine ⟨by show 2 ≤ 900; decide, fun d hd => ?_⟩
  rcases List.mem_cons.mp hd with e | hd
  · rw [e]; trivial
  · rw [List.mem_singleton.mp hd]
    refine ⟨by rw [List.length_map]; exact h2 r hr, fun d hd => ?_⟩
    obtain ⟨p, _, rfl⟩ := List.mem_map.mp hd
    refine ⟨by show 2 ≤ 900; decide, fun d hd => ?_⟩
    rcases List.mem_cons.mp hd with e | hd
    · rw [e]; trivial
    · rw [List.mem_singleton.mp hd]; trivial
theorem noBl_rows (rows : List RowT) : NoBl (.list (rows.map rowT)) := by
  rw [NoBl]
  refine noBls_of fun d hd => ?_
  obtain ⟨r, _, rfl⟩ := List.mem_map.mp hd
  show NoBls [_, _]
  refine noBls_of fun d hd => ?_
  rcases List.mem_cons.mp hd with e | hd
  · rw [e]; trivial
  · rw [List.mem_singleton.mp hd]
    show NoBls _
    refine noBls_of fun d hd => ?_
    obtain ⟨p, _, rfl⟩ := List.mem_map.mp hd
    show NoBls [_, _]
    refine noBls_of fun d hd => ?_
    rcases List.mem_cons.mp hd with e | hd
    · rw [e]; trivial
    · rw [List.mem_singleton.mp hd]; trivial
/-- a set that has all from a to b has a pair that covers them -/
theorem ris_cover : ∀ {lo : Int} {rs : List (Int × Int)} {a b : Int}, Ris lo rs → a ≤ b → (∀ n, a ≤ n → n ≤ b → InS rs n) → ∃ q ∈ rs, q.1 ≤ a ∧ b ≤ q.2
  | _, [], a, b, _, hab, h => absurd (h a (Int.le_refl _) hab) inS_nil
  | lo, q :: r, a, b, hr, hab, h => by
    obtain ⟨h1, h2, h3⟩ := hr
    have split : ∀ n, InS (q :: r) n → (q.1 ≤ n ∧ n ≤ q.2) ∨ InS r n := fun n ⟨p, hp, z⟩ => by
      rcases List.mem_cons.mp hp with y | y
      · rw [y] at z; exact .inl z
      · exact .inr ⟨p, y, z⟩
    by_cases c : a ≤ q.2
    · refine ⟨q, List.mem_cons_self .., ?_, ?_⟩
      · rcases split a (h a (Int.le_refl _) hab) with z | z
        · exact z.1
        · have := h3.low z; omega
      · by_cases c2 : b ≤ q.2
        · exact c2
        · exfalso
          rcases split (q.2 + 1) (h _ (by omega) (by omega)) with z | z
          · omega
          · have := h3.low z; omega
    · obtain ⟨q', hq, z⟩ := ris_cover h3 hab fun n z1 z2 => by
        rcases split n (h n z1 z2) with z | z
        · omega
        · exact z
      exact ⟨q', List.mem_cons_of_mem _ hq, z⟩
theorem valV_merge {k : Key} : ∀ {more acc : List (Key × V)}, (more.map (·.1)).Nodup → valV (mergeK acc more) k = (valV more k).or (valV acc k)
  | [], acc, _ => by rw [valV_nil]; rfl
  | e :: r, acc, nd => by
    obtain ⟨n1, n2⟩ := List.nodup_cons.mp (show (e.1 :: r.map (·.1)).Nodup from nd)
    show valV (mergeK (putK acc e.1 e.2) r) k = _
    rw [valV_merge n2, valV_put]
    by_cases c : e.1 = k
    · rw [valV_pos c, if_pos c.symm]
      have : valV r k = none := by
        cases z : valV r k with
        | none => rfl
        | some v => exact absurd (valV_in z) (by rw [← c]; exact n1)
      rw [this]
      rfl
    · rw [valV_neg c, if_neg fun z => c z.symm]

/-! ### more of the law's data -/
def packD (k : Pk) : PyData := .tuple [.str k.1, .int k.2.1, .list (k.2.2.map partD)]
theorem lay_packs : ∀ {ks : List Pk}, (∀ k ∈ ks, PyData.strOk k.1 = true ∧ ∀ p ∈ k.2.2, PyData.strOk p.1 = true) → PyData.canLayAll0 (ks.map packD) = true
  | [], _ => by simp only [List.map_nil, PyData.canLayAll0]
  | k :: r, h => by
    rw [List.map_cons, PyData.canLayAll0, lay_packs fun q hq => h q (List.mem_cons_of_mem _ hq)]
    obtain ⟨h1, h2⟩ := h k (List.mem_cons_self ..)
    have h3 := lay_pts h2
    simp only [packD, PyData.canLay0, PyData.canLayAll0, h1, h3, Bool.and_true]
theorem depth_packs : ∀ ks : List Pk, PyData.depthAll (ks.map packD) ≤ 4
  | [] => by simp only [List.map_nil, PyData.depthAll]; omega
  | k :: r => by
    rw [List.map_cons, PyData.depthAll]
    have := depth_packs r
    have := depth_pts k.2.2
    simp [packD, PyData.depth, PyData.depthAll]
    omega
theorem shaped_packs {ks : List Pk} (h : ∀ k ∈ ks, PyData.strOk k.1 = true ∧ ∀ p ∈ k.2.2, PyData.strOk p.1 = true) : SeqAt.shaped (PyData.list (ks.map packD)) = true := by
  unfold SeqAt.shaped
  rw [PyData.canLay0, lay_packs h, PyData.depth, Bool.true_and]
  exact decide_eq_true (by have := depth_packs ks; omega)
/-- the packings that have parts, with their places -/
structure SomeP (H : Hp) (bs : List Addr) (pks : List Pk) (zs : List V) (ix : List (Nat × Pk)) : Prop where
  len : zs.length = ix.length
  up : ix.Pairwise fun x y => x.1 < y.1
  get : ∀ (q : Nat) (x : Nat × Pk), ix[q]? = some x → ∃ b, zs[q]? = some (.ref b) ∧ bs[x.1]? = some b ∧ pks[x.1]? = some x.2 ∧ x.2.2.2 ≠ []
theorem SomeP.snoc {H H' : Hp} {bs : List Addr} {pks : List Pk} {zs : List V} {ix : List (Nat × Pk)} {b : Addr} {j : Nat} {k : Pk} (h : SomeP H bs pks zs ix) (hl : ∀ x ∈ ix, x.1 < j) (eb : bs[j]? = some b) (ek : pks[j]? = some k) (ne : k.2.2 ≠ []) : SomeP H' bs pks (zs ++ [.ref b]) (ix ++ [(j, k)]) := by
  refine ⟨by rw [List.length_append, List.length_append, h.len]; rfl, List.pairwise_append.mpr ⟨h.up, List.pairwise_singleton _ _, fun x hx y hy => ?_⟩, fun q x ex => ?_⟩
  · rw [List.mem_singleton.mp hy]; exact hl x hx
  · rcases Nat.lt_or_ge q ix.length with z | z
    · rw [List.getElem?_append_left z] at ex
      obtain ⟨b', f1, f2, f3, f4⟩ := h.get q x ex
      exact ⟨b', by rw [List.getElem?_append_left (by rw [h.len]; exact z)]; exact f1, f2, f3, f4⟩
    · rw [List.getElem?_append_right z] at ex
      have z0 : q - ix.length = 0 := by
        have := (List.getElem?_eq_some_iff.mp ex).1
        simp at this
        omega
      rw [z0] at ex
      cases Option.some.inj ex
      exact ⟨b, by rw [List.getElem?_append_right (by rw [h.len]; exact z), h.len, z0]; rfl, eb, ek, ne⟩

theorem SomeP.noInt {H : Hp} {bs : List Addr} {pks : List Pk} {zs : List V} {ix : List (Nat × Pk)} (h : SomeP H bs pks zs ix) : NoInt zs := fun x hx i e => by
  obtain ⟨q, hq, ex⟩ := List.getElem_of_mem hx
  have hq2 : q < ix.length := by rw [← h.len]; exact hq
  obtain ⟨b, f1, _⟩ := h.get q _ (List.getElem?_eq_getElem hq2)
  rw [List.getElem?_eq_getElem hq, ex, e] at f1
  cases f1
/-- told rows as a dict's pairs -/
theorem rows_dict {K : PySem.W.Frag} {N : Addr → Prop} {H : Hp} : ∀ {rows : List RowT} {ws : List V}, EchN N H ws (rows.map rowT) → ∃ (as : List Addr) (kvs : List (Key × V)), ws = as.map V.ref ∧ PySem.Paired (fun p kv => SqT K H p [kV kv.1, kv.2]) as kvs ∧ kvs.map (·.1) = rows.map (fun r => (.inr r.1 : Key)) ∧ ∀ r ∈ rows, ∃ lt us, ((.inr r.1, .ref lt) : Key × V) ∈ kvs ∧ H lt = some (.lst us) ∧ Prs H us r.2
  | [], ws, h => ⟨[], [], h.inv0, .nil, rfl, fun _ z => nomatch z⟩
  | r :: rs, ws, h => by
    obtain ⟨w, ws', rfl, h1, h2⟩ := h.inv
    obtain ⟨as, kvs, e1, e2, e3, e4⟩ := rows_dict (K := K) h2
    obtain ⟨T, zz, rfl, eT, hz⟩ := h1.tuple
    obtain ⟨x1, zz1, rfl, g1, hz1⟩ := hz.inv
    obtain ⟨x2, zz2, rfl, g2, hz2⟩ := hz1.inv
    obtain rfl := hz2.inv0
    obtain ⟨lt, us', rfl, _, elt, hus⟩ := g2.list
    obtain rfl := g1.inv_str
    refine ⟨T :: as, (.inr r.1, .ref lt) :: kvs, by rw [e1]; rfl, .cons (.inl (.inl eT)) e2, by rw [List.map_cons, List.map_cons, e3], fun r' hr => ?_⟩
    rcases List.mem_cons.mp hr with z | z
    · rw [z]; exact ⟨lt, us', List.mem_cons_self .., elt, hus.prs⟩
    · obtain ⟨lt', us2, f1, f2, f3⟩ := e4 r' z
      exact ⟨lt', us2, List.mem_cons_of_mem _ f1, f2, f3⟩
theorem str_key {a b : Str} : a.cps.toList < b.cps.toList → a ≠ b := fun h e => by
  rw [e] at h
  exact List.lt_irrefl _ h
/-- the dict of told rows: what it has of a mark -/
theorem rows_val {rows : List RowT} {L : List Part} {kvs : List (Key × V)} {r : RowT} {lt : Addr} (h : TwR L rows) (hk : kvs.map (·.1) = rows.map (fun r => (.inr r.1 : Key))) (hm : ((.inr r.1, .ref lt) : Key × V) ∈ kvs) : valV (mergeK [] kvs) (.inr r.1) = some (.ref lt) := by
  have nd : (kvs.map (·.1)).Nodup := by
    rw [hk]
    exact List.pairwise_map.mpr (h.up.imp fun {x y} z e => str_key z (Sum.inr.inj e))
  rw [valV_merge nd, valK_at nd _ hm]
  rfl
/-- a part that stands once more is packed twice throughout -/
theorem more_twice {pks : List Pk} {nm : Str} {p : Part} (hp : p ∈ allP pks) {n : Int} (h1 : p.2.1 ≤ n) (h2 : n ≤ p.2.2) : Tw (allP (pks ++ [(nm, 1, [p])])) p.1 n := by
  unfold Tw
  rw [allP_app, prOf_append, cntIn_append]
  have e : prOf p.1 (allP [(nm, 1, [p])]) = [p.2] := prOf_one p
  rw [e, cntIn_one, if_pos ⟨h1, h2⟩]
  have : 1 ≤ cntIn (prOf p.1 (allP pks)) n := cntIn_pos.mpr ⟨p.2, by
    unfold prOf
    exact List.mem_map.mpr ⟨p, List.mem_filter.mpr ⟨hp, by simp⟩, rfl⟩, h1, h2⟩
  omega

open G3
/-! ### the law -/
def spLaw (K : PySem.W.Frag) : Sp := fun vs H Q _ => ∃ (a : Addr) (ns : List Int), vs = [.ref a] ∧ SqL K H a (ns.map V.int) ∧ ns.length ≤ 63 ∧ ∀ H', Q (.bl true) H'
theorem seqIx {n i : Nat} (h : i < n) : PySem.seqIndex? (i : Int) n = some i := by
  unfold PySem.seqIndex?
  simp
  omega
theorem atI_end {xs : List V} {v : V} (h : 0 < xs.length) (e : xs[xs.length - 1]? = some v) : atI xs (-1) = some v := by
  have hne : xs ≠ [] := fun z => by rw [z] at h; cases h
  have e2 : xs.getLast hne = v := by
    rw [List.getLast_eq_getElem]
    rw [List.getElem?_eq_getElem (by omega)] at e
    exact Option.some.inj e
  have e3 := List.dropLast_concat_getLast hne
  have : atI (xs.dropLast ++ [xs.getLast hne]) (-1) = some (xs.getLast hne) := atI_last _ _
  rw [e3, e2] at this
  exact this
theorem GoodP.set2 {gr : Int} {xs : List Str} {pks : List Pk} {i : Nat} {k : Pk} {ps : List Part} (h : GoodP gr xs pks) (ek : pks[i]? = some k) (hl : ps.length ≤ 12) (hs : ∀ p ∈ ps, Okp p ∧ p.1 ∈ xs ∧ (gr = 0 → p.2.2 ≤ 970)) : GoodP gr xs (pks.set i (k.1, k.2.1, ps)) := by
  refine ⟨by rw [List.length_set]; exact h.few, fun k' hk => ?_, fun p hp => ?_⟩
  · rcases List.mem_or_eq_of_mem_set hk with z | z
    · exact h.own k' z
    · rw [z]; exact ⟨hl, (h.own k (List.mem_of_getElem? ek)).2⟩
  · obtain ⟨k', hk, hp⟩ := List.mem_flatMap.mp hp
    rcases List.mem_or_eq_of_mem_set hk with z | z
    · exact h.ok p (List.mem_flatMap.mpr ⟨k', z, hp⟩)
    · rw [z] at hp; exact hs p hp
theorem Pts.erase {H : Hp} {vs : List V} {ps : List Part} {i : Nat} (h : Pts H vs ps) : Pts H (vs.eraseIdx i) (ps.eraseIdx i) := by
  refine ⟨by rw [List.length_eraseIdx, List.length_eraseIdx, h.1], fun j v p e1 e2 => ?_⟩
  rw [List.getElem?_eraseIdx] at e1 e2
  by_cases c : j < i
  · rw [if_pos c] at e1 e2
    exact h.2 j v p e1 e2
  · rw [if_neg c] at e1 e2
    exact h.2 (j + 1) v p e1 e2
abbrev sLaw : Stmt := topS 17
theorem scLaw : FnScope ["_law_script", "_law_state", "_law_marks", "_law_great", "_law_names_here", "_law_packings", "_law_turn", "_law_due_here", "_law_found", "_law_mark", "_law_tins", "_law_some", "_law_parts", "_law_first", "_law_last", "_law_other", "_law_told", "_law_one", "_law_kept", "_law_name", "_law_packing", "_law_low", "_law_high"] ["_law_script"] (defScope sLaw) := ⟨rfl, rfl, rfl, by decide +kernel, rfl, by decide +kernel, by decide +kernel⟩
section
variable {K : PySem.W.Frag} {mg : Str → Option Value} {P : Program} {w : World} {base : Heap}
theorem ok_Law {f : Addr} {fd : FuncData} (F : Fun K "law" "law" sLaw f fd) (C__law_begin : Cal P w K mg base 1 "_law_begin" ["_law_script"] (spBegin K)) (C__law_marks_by : Cal P w K mg base 2 "_law_marks_by" ["_law_state", "_law_many"] spNames) (C__law_take : Cal P w K mg base 1 "_law_take" ["_law_state", "_law_many"] spTake) (C__law_names : Cal P w K mg base 2 "_law_names" ["_law_state", "_law_many"] spNames) (C__law_packing_by : Cal P w K mg base 4 "_law_packing_by" ["_law_state", "_law_name", "_law_marks", "_law_great"] spPackBy) (C__law_due : Cal P w K mg base 2 "_law_due" ["_law_packings"] spLDue) (C__law_counted : Cal P w K mg base 2 "_law_counted" ["_law_packings"] spLCnt) (C_packed_twice : Cal P w K mg base 3 "packed_twice" ["packings"] (spPkTw K)) (C__law_same : Cal P w K mg base 5 "_law_same" ["_law_found", "_law_due_here"] (spSame 4)) (m_range : mg "range" = none) (m_tuple : mg "tuple" = none) (m_len : mg "len" = none) (m_dict : mg "dict" = none) (m_any : mg "any" = none) (m_list : mg "list" = none) : FnOk P w K mg base CX0 6 f fd ["_law_script"] (spLaw K) := by
  refine F.ok scLaw (fun vs H Q E h => ?_) (fun cdv A outer s H vs Q E hr h => ?_)
  · obtain ⟨a, ns, rfl, _⟩ := h
    rfl
  · obtain ⟨a, ns, rfl, hS, hlen, q⟩ := h
    refine ⟨_, pss_cons (ps_set (i := 1) scLaw.nd rfl (.inr rfl) (pe_own C__law_begin (hr.mono (show 1 ≤ 5 by decide)) (by rfl) (pa_cons (pv 0) pa_nil)))
      (pss_cons (ps_asg (pe_tup (pa_cons (pe_own C__law_marks_by (hr.mono (show 2 ≤ 5 by decide)) (by rfl) (pa_cons (pv 1) (pa_cons pe_int pa_nil))) (pa_cons (pe_own C__law_take (hr.mono (show 1 ≤ 5 by decide)) (by rfl) (pa_cons (pv 1) (pa_cons pe_int pa_nil))) pa_nil))) (pg_tup rfl (pgs_cons (pg_name (i := 2) scLaw.nd rfl (.inr rfl)) (pgs_cons (pg_name (i := 3) scLaw.nd rfl (.inr rfl)) pgs_nil))))
      (pss_cons (ps_set (i := 4) scLaw.nd rfl (.inl rfl) (pe_own C__law_names (hr.mono (show 2 ≤ 5 by decide)) (by rfl) (pa_cons (pv 1) (pa_cons (pe_op op_add pe_int (pe_ix ix_list (pe_lst (pa_cons pe_int (pa_cons pe_int (pa_cons pe_int (pa_cons pe_int pa_nil))))) (pe_own C__law_take (hr.mono (show 1 ≤ 5 by decide)) (by rfl) (pa_cons (pv 1) (pa_cons pe_int pa_nil))) (fun _ _ => rfl))) pa_nil))))
      (pss_cons (ps_setLc (i := 5) (own := [("_law_name", 19)]) (g := (gName 19)) (tt := tYes) (te := (tCall spPackBy [] E0 (tCons (tVar 1) (tCons (tVar 19) (tCons (tVar 2) (tCons (tVar 3) tNil)))))) rfl scLaw.nd rfl rfl (sw_true rfl rfl rfl (by decide +kernel)) (pi_list (pe_slice sl_list (pv 4) (po_some pe_int) po_none)) (blkOk_by (own := [("_law_name", 19)]) (N := ["_law_script", "_law_state", "_law_marks", "_law_great", "_law_names_here", "_law_packings", "_law_turn", "_law_due_here", "_law_found", "_law_mark", "_law_tins", "_law_some", "_law_parts", "_law_first", "_law_last", "_law_other", "_law_told", "_law_one", "_law_kept", "_law_name", "_law_packing", "_law_low", "_law_high"]) (sc := defScope sLaw) (by decide +kernel)) (fun _ _ _ _ _ => (pg_name (i := 19) scLaw.nd rfl (.inl rfl))) (fun _ _ _ _ _ => pts_nil) (fun _ _ _ _ _ => (pe_own C__law_packing_by (hr.mono (show 4 ≤ 5 by decide)) (by rfl) (pa_cons (pv 1) (pa_cons (pv 19) (pa_cons (pv 2) (pa_cons (pv 3) pa_nil)))))))
      (pss_cons (ps_for PassesOwn.never rfl (pi_range1 rfl m_range (pa_cons pe_int pa_nil)) (pg_name (i := 6) scLaw.nd rfl (.inl rfl))
        (pss_cons (ps_set (i := 7) scLaw.nd rfl (.inl rfl) (pe_own C__law_due (hr.mono (show 2 ≤ 5 by decide)) (by rfl) (pa_cons (pv 5) pa_nil)))
        (Evl.pss_cut (ps_if (PW.pt (pw_and (pt_cmpR op_eq (pv 3) pe_int (nomark _)) (pw_and1 (pt_cmpR (op_neD hr.units) (pv 7) (pe_own C__law_counted (hr.mono (show 2 ≤ 5 by decide)) (by rfl) (pa_cons (pv 5) pa_nil)) (nomark _))))) (pss_one (ps_ret pe_bl))
          pss_nil)
        (pss_cons (ps_set (i := 8) scLaw.nd rfl (.inl rfl) (pe_own C_packed_twice (hr.mono (show 3 ≤ 5 by decide)) (by rfl) (pa_cons (pv 5) pa_nil)))
        (pss_cons (ps_if (PW.pt (pw_or (pt_not (pt_val (pe_own C__law_same hr (by rfl) (pa_cons (pv 8) (pa_cons (pv 7) pa_nil))))) (pw_or1 (pt_not (pt_val (pe_own C__law_same hr (by rfl) (pa_cons (pe_own C_packed_twice (hr.mono (show 3 ≤ 5 by decide)) (by rfl) (pa_cons (pe_callTy call_tuple_of (by rfl) m_tuple (by decide +kernel) (pa_cons (pe_revL (pv 5)) pa_nil)) pa_nil)) (pa_cons (pv 7) pa_nil)))))))) (pss_one (ps_ret pe_bl))
          pss_nil)
        (pss_cons (ps_for PassesOwn.never rfl (pi_list (pv 8)) (pg_tup rfl (pgs_cons (pg_name (i := 9) scLaw.nd rfl (.inl rfl)) (pgs_cons (pg_name (i := 10) scLaw.nd rfl (.inl rfl)) pgs_nil)))
          (pss_one (ps_expr (pe_bm PySem.F.plainAttrs_list PySem.F.slot_list_append PySem.F.type_list_append mt_append (pv 10) (pa_cons (pe_tup (pa_cons pe_int (pa_cons pe_int pa_nil))) pa_nil)))))
        (pss_cons (ps_expr (pe_bm PySem.F.plainAttrs_list PySem.F.slot_list_append PySem.F.type_list_append mt_append (pv 8) (pa_cons (pe_tup (pa_cons pe_str (pa_cons (pe_lst pa_nil) pa_nil))) pa_nil)))
        (pss_cons (ps_if (pt_not (pt_val (pe_own C__law_same hr (by rfl) (pa_cons (pe_own C_packed_twice (hr.mono (show 3 ≤ 5 by decide)) (by rfl) (pa_cons (pv 5) pa_nil)) (pa_cons (pv 7) pa_nil))))) (pss_one (ps_ret pe_bl))
          pss_nil)
        (pss_cons (ps_setLc (i := 11) (own := [("_law_packing", 20)]) (g := (gName 20)) (tt := (tTest (tOp (rNeD K) (tOp (rIxT K) (tVar 20) (tC (.int 2))) (tLst tNil)))) (te := (tVar 20)) rfl scLaw.nd rfl rfl (sw_true rfl rfl rfl (by decide +kernel)) (pi_list (pv 5)) (blkOk_by (own := [("_law_packing", 20)]) (N := ["_law_script", "_law_state", "_law_marks", "_law_great", "_law_names_here", "_law_packings", "_law_turn", "_law_due_here", "_law_found", "_law_mark", "_law_tins", "_law_some", "_law_parts", "_law_first", "_law_last", "_law_other", "_law_told", "_law_one", "_law_kept", "_law_name", "_law_packing", "_law_low", "_law_high"]) (sc := defScope sLaw) (by decide +kernel)) (fun _ _ _ _ _ => (pg_name (i := 20) scLaw.nd rfl (.inl rfl))) (fun _ _ _ _ _ => (pts_one (pt_cmpR (op_neD hr.units) (pe_ix ix_tup (pv 20) pe_int (fun _ _ => rfl)) (pe_lst pa_nil) (nomark _)))) (fun _ _ _ _ _ => (pv 20)))
        (pss_one (ps_if (pt_cmpR (op_neD hr.units) (pv 11) (pe_lst pa_nil) (nomark _)) (pss_cons (ps_set (i := 12) scLaw.nd rfl (.inl rfl) (pe_ix ix_tup (pe_ix ix_list (pv 11) (pe_own C__law_take (hr.mono (show 1 ≤ 5 by decide)) (by rfl) (pa_cons (pv 1) (pa_cons (pe_callB call_len_seq (by rfl) m_len PySem.boot_len (pa_cons (pv 11) pa_nil)) pa_nil))) (fun _ _ => rfl)) pe_int (fun _ _ => rfl)))
          (pss_cons (ps_asg (pe_ix ix_list (pv 12) (pe_own C__law_take (hr.mono (show 1 ≤ 5 by decide)) (by rfl) (pa_cons (pv 1) (pa_cons (pe_callB call_len_seq (by rfl) m_len PySem.boot_len (pa_cons (pv 12) pa_nil)) pa_nil))) (fun _ _ => rfl)) (pg_tup rfl (pgs_cons (pg_name (i := 9) scLaw.nd rfl (.inl rfl)) (pgs_cons (pg_name (i := 13) scLaw.nd rfl (.inr rfl)) (pgs_cons (pg_name (i := 14) scLaw.nd rfl (.inr rfl)) pgs_nil)))))
          (pss_cons (ps_set (i := 15) scLaw.nd rfl (.inl rfl) (pe_lst (pa_cons (pe_tup (pa_cons (pe_ix ix_list (pv 4) pe_int (fun _ _ => rfl)) (pa_cons pe_int (pa_cons (pe_lst (pa_cons (pe_tup (pa_cons (pv 9) (pa_cons (pv 13) (pa_cons (pv 14) pa_nil)))) pa_nil)) pa_nil)))) pa_nil)))
          (Evl.pss_cut (ps_if (pt_cmpR op_lt (pe_callB call_len_seq (by rfl) m_len PySem.boot_len (pa_cons (pv 5) pa_nil)) pe_int (nomark _)) (pss_cons (ps_set (i := 16) scLaw.nd rfl (.inl rfl) (pe_callTy (call_dictP rfl) (by rfl) m_dict (by decide +kernel) (pa_cons (pe_own C_packed_twice (hr.mono (show 3 ≤ 5 by decide)) (by rfl) (pa_cons (pe_op op_cat (pv 5) (pv 15)) pa_nil)) pa_nil)))
            (pss_one (ps_if (pt_not (pt_val (pe_callB (cr_any rfl) (by rfl) m_any (by decide +kernel) (pa_cons (pe_lc (own := [("_law_low", 21), ("_law_high", 22)]) (g := (gTup K 2 (gCons (gName 21) (gCons (gName 22) gNil)))) (tt := tYes) (te := (tAndV (tOp (rI0 fun i j => .bl (decide (i ≤ j))) (tVar 21) (tVar 13)) (tOp (rI0 fun i j => .bl (decide (i ≤ j))) (tVar 14) (tVar 22)))) rfl scLaw.nd (pi_list (pe_dget2 (hu_of hr) (pv 16) (pv 9) (pe_lst pa_nil) ⟨rfl, rfl, rfl, rfl⟩)) (blkOk_by (own := [("_law_low", 21), ("_law_high", 22)]) (N := ["_law_script", "_law_state", "_law_marks", "_law_great", "_law_names_here", "_law_packings", "_law_turn", "_law_due_here", "_law_found", "_law_mark", "_law_tins", "_law_some", "_law_parts", "_law_first", "_law_last", "_law_other", "_law_told", "_law_one", "_law_kept", "_law_name", "_law_packing", "_law_low", "_law_high"]) (sc := defScope sLaw) (by decide +kernel)) (fun _ _ _ _ _ => (pg_tup rfl (pgs_cons (pg_name (i := 21) scLaw.nd rfl (.inl rfl)) (pgs_cons (pg_name (i := 22) scLaw.nd rfl (.inl rfl)) pgs_nil)))) (fun _ _ _ _ _ => pts_nil) (fun _ _ _ _ _ => (pe_and (pe_cmpR op_le (pv 21) (pv 13) (nomark _)) (pe_one (pe_cmpR op_le (pv 14) (pv 22) (nomark _)))))) pa_nil)))) (pss_one (ps_ret pe_bl))
              pss_nil)))
            pss_nil)
          (pss_cons (ps_expr (pe_bm PySem.F.plainAttrs_list PySem.F.slot_list_pop PySem.F.type_list_pop mt_popAt (pv 12) (pa_cons (pe_own C__law_take (hr.mono (show 1 ≤ 5 by decide)) (by rfl) (pa_cons (pv 1) (pa_cons (pe_callB call_len_seq (by rfl) m_len PySem.boot_len (pa_cons (pv 12) pa_nil)) pa_nil))) pa_nil)))
          (pss_cons (ps_par rfl scLaw.nd (i := 17) (j := 15) rfl rfl (by decide) rfl rfl (pa_cons (pe_ix ix_tup (pe_ix ix_list (pv 11) pe_int (fun _ _ => rfl)) pe_int (fun _ _ => rfl)) (pa_cons (pe_ix ix_tup (pe_ix ix_list (pv 11) (pe_un un_neg pe_int) (fun _ _ => rfl)) pe_int (fun _ _ => rfl)) pa_nil)) (by rfl))
          (pss_one (ps_if (PW.pt (pw_and (pt_cmpR op_gt (pe_callB call_len_seq (by rfl) m_len PySem.boot_len (pa_cons (pv 11) pa_nil)) pe_int (nomark _)) (pw_and1 (pt_cmpR op_eq (pv 6) pe_int (nomark _))))) (pss_cons (ps_par rfl scLaw.nd (i := 18) (j := 7) rfl rfl (by decide) rfl rfl (pa_cons (pe_callTy call_list_of (by rfl) m_list (by decide +kernel) (pa_cons (pv 17) pa_nil)) (pa_cons (pe_own C__law_due (hr.mono (show 2 ≤ 5 by decide)) (by rfl) (pa_cons (pv 5) pa_nil)) pa_nil)) (by rfl))
            (pss_cons (ps_expr (pe_bm0 PySem.F.plainAttrs_list PySem.F.slot_list_clear PySem.F.type_list_clear mt_clear (pv 17)))
            (pss_cons (ps_expr (pe_bm PySem.F.plainAttrs_list PySem.F.slot_list_extend PySem.F.type_list_extend mt_extend (pv 17) (pa_cons (pv 15) pa_nil)))
            (pss_cons (ps_expr (pe_bm0 PySem.F.plainAttrs_list PySem.F.slot_list_clear PySem.F.type_list_clear mt_clear (pv 15)))
            (pss_cons (ps_expr (pe_bm PySem.F.plainAttrs_list PySem.F.slot_list_extend PySem.F.type_list_extend mt_extend (pv 15) (pa_cons (pv 18) pa_nil)))
            (pss_one (ps_if (pt_not (pt_val (pe_own C__law_same hr (by rfl) (pa_cons (pe_own C_packed_twice (hr.mono (show 3 ≤ 5 by decide)) (by rfl) (pa_cons (pv 5) pa_nil)) (pa_cons (pv 7) pa_nil))))) (pss_one (ps_ret pe_bl))
              pss_nil)))))))
            pss_nil))))))))
          pss_nil)))))))))))
      (pss_one (ps_ret pe_bl)))))), ?_⟩
    refine ⟨.ref a, rfl, a, ns, rfl, hS, hlen, fun d c H1 s1 nd nc hS1 => ?_⟩
    refine ⟨_, rfl, d, c, 0, 3, rfl, hS1, by decide, by decide, by decide, fun ml xs t2 H2 nml eml hxs hxl hnd t20 t21 hS2 k2 => ?_⟩
    refine ⟨_, rfl, d, c, t2, 2, rfl, hS2, by omega, by decide, by decide, fun gr H3 g0 g1 hS3 k3 => ⟨by show 2 ≤ sizeLine; decide, fun T nT => ?_⟩⟩
    have hgr : gr = 0 ∨ gr = 1 := by omega
    have sT := same_upd (o := .tup [V.ref ml, .int gr]) nT
    refine ⟨T, _, rfl, .inl (.inl upd_same), rfl, _, _, rfl, _, _, rfl, rfl, ?_⟩
    have eml := sT _ _ (k3.lst hS2 eml (noInt_strs xs))
    have hS3 := hS3.same sT
    revert eml hS3
    generalize upd H3 T (.tup [V.ref ml, .int gr]) = H4
    intro eml hS3
    refine ⟨_, rfl, by show 4 ≤ sizeLine; decide, fun z nz => ?_⟩
    have sz1 := same_upd (o := .lst [.int 0, .int 1, .int 2, .int 12]) nz
    have offz := hS3.off nz
    refine ⟨_, rfl, d, c, t2 + 1, 4, rfl, hS3.same sz1, by omega, by decide, by decide, fun r H5 r0 r1 hS5 k5 => ?_⟩
    obtain ⟨m, m0, m1, hat⟩ : ∃ m : Int, 0 ≤ m ∧ m ≤ 12 ∧ atI [V.int 0, V.int 1, V.int 2, V.int 12] r = some (.int m) := by
      have : r = 0 ∨ r = 1 ∨ r = 2 ∨ r = 3 := by omega
      rcases this with rfl | rfl | rfl | rfl
      · exact ⟨_, by decide, by decide, rfl⟩
      · exact ⟨_, by decide, by decide, rfl⟩
      · exact ⟨_, by decide, by decide, rfl⟩
      · exact ⟨_, by decide, by decide, rfl⟩
    refine ⟨z, _, r, .int m, rfl, rfl, SqL.of (k5 _ _ offz.1 offz.2 upd_same), hat, 1, m, rfl, rfl, d, c, t2 + 1 + 1, 1 + m, rfl, hS5, by omega, by omega, by omega, fun nl nms t6 H6 nnl enl hns hnl hnn t60 t61 hS6 k6 => ?_⟩
    have eml := k6.lst hS5 (k5.lst (hS3.same sz1) (sz1 _ _ eml) (noInt_strs xs)) (noInt_strs xs)
    have hne : xs ≠ [] := fun z => by rw [z] at hxl; exact absurd hxl (by decide)
    have hxl3 : xs.length = 3 := by omega
    -- packings
    refine ⟨_, rfl, 1, rfl, nl, _, rfl, SqL.of enl, fun sl nsl => ?_⟩
    rw [cutV_tl, ← List.map_drop]
    have s7 := same_upd (o := .lst ((nms.drop 1).map V.str)) nsl
    have esl : upd H6 sl (.lst ((nms.drop 1).map V.str)) sl = some (.lst ((nms.drop 1).map V.str)) := upd_same
    have enl := s7 _ _ enl
    have eml := s7 _ _ eml
    have hS7 := hS6.same s7
    revert esl enl eml hS7
    generalize upd H6 sl (.lst ((nms.drop 1).map V.str)) = H7
    intro esl enl eml hS7
    have hml : (nms.drop 1).length ≤ 12 := by rw [List.length_drop]; omega
    refine ⟨sl, rfl, ⟨_, SqL.of esl⟩, fun pl npl => lc_list (xs := (nms.drop 1).map V.str) (fun j Hx => ∃ (t : Int) (bs ls : List Addr) (pks : List Pk), t6 ≤ t ∧ t ≤ t6 + 260 * j ∧ StAt Hx d c t ∧ PkL Hx pl bs ls pks ∧ pks.length = j ∧ GoodP gr xs pks ∧ Hx ml = some (.lst (xs.map V.str)) ∧ Hx nl = some (.lst (nms.map V.str)) ∧ Hx sl = some (.lst ((nms.drop 1).map V.str)) ∧ nl ∉ ls ∧ c ∉ ls) ⟨t6, [], [], [], by omega, by omega, hS7.same (same_upd npl), PkL.nil upd_same, rfl, ⟨Nat.zero_le _, (fun _ z => nomatch z), fun _ z => nomatch z⟩, same_upd npl _ _ eml, same_upd npl _ _ enl, same_upd npl _ _ esl, (fun z => nomatch z), fun z => nomatch z⟩ (fun j Hx hj hP => ?_) (fun j v Hx hj hP => ?_) (fun H8 hP => ?_)⟩
    · obtain ⟨_, _, _, _, _, _, _, _, _, _, _, _, e, _⟩ := hP
      exact SqL.of e
    · obtain ⟨t, bs, ls, pks, t0, t1, hSx, hpk, hpl, hgd, emx, enx, esx, nnl, ncl⟩ := hP
      obtain ⟨nm, em, rfl⟩ : ∃ m, (nms.drop 1)[j]? = some m ∧ v = .str m := by
        rw [List.getElem?_map] at hj
        obtain ⟨m, e1, e2⟩ := Option.map_eq_some_iff.mp hj
        exact ⟨m, e1, e2.symm⟩
      have hjl : j < 12 := Nat.lt_of_lt_of_le (List.getElem?_eq_some_iff.mp em).1 hml
      have hnm : PyData.strOk nm = true := hns nm (List.mem_of_mem_drop (List.mem_of_getElem? em))
      have offp := hS7.off npl
      refine ⟨rfl, ?_⟩
      refine ⟨_, rfl, _, rfl, _, rfl, _, rfl, d, c, ml, t, gr, nm, xs, rfl, hSx, by omega, emx, hxs, hne, by omega, hgr, fun b lb us ps sz t5 H9 nb nlb eb elb hus hpsl hps sz0 szB t50 t51 hS9 k9 => ?_⟩
      have hpk9 := hpk.kp hSx k9
      have nlp : lb ≠ pl := fun y => by rw [y, hpk.ep] at nlb; cases nlb
      have nbp : b ≠ pl := fun y => by rw [y, hpk.ep] at nb; cases nb
      have hup := hS9.upd (o := .lst (bs.map V.ref ++ [.ref b])) offp.1 offp.2
      refine ⟨_, hpk9.ep, small1000 (by rw [List.length_map, hpk.nb]; omega), t5, bs ++ [b], ls ++ [lb], pks ++ [(nm, sz, ps)], by omega, by omega, hup, hpk9.more (k := (nm, sz, ps)) (vs := us) (fun a o n e => by rw [upd_ne n]; exact e) upd_same (by rw [upd_ne nbp]; exact eb) (hpk.fresh nlb) (by rw [upd_ne nlp]; exact elb) (Pts.upd_lst hus hpk9.ep) nlp, by rw [List.length_append, hpl]; rfl, ⟨by rw [List.length_append, hpl]; exact hjl, fun k hk => ?_, fun p hp => ?_⟩, ?_, ?_, ?_, fun z => ?_, fun z => ?_⟩
      · rcases List.mem_append.mp hk with z | z
        · exact hgd.own k z
        · rw [List.mem_singleton.mp z]; exact ⟨hpsl, hnm⟩
      · rw [allP_app] at hp
        rcases List.mem_append.mp hp with z | z
        · exact hgd.ok p z
        · obtain ⟨k, hk, hp⟩ := List.mem_flatMap.mp z
          rw [List.mem_singleton.mp hk] at hp
          have hd := hps p hp
          refine ⟨hd.ok hpsl, hd.1.2, fun z => ?_⟩
          have h4 := hd.2.2.2.1
          rw [z] at h4
          have : (2 : Int) * grB 0 * (ps.length : Int) ≤ 2 * grB 0 * 12 := Int.mul_le_mul_of_nonneg_left (by omega) (by decide)
          have e0 : (2 : Int) * grB 0 * 12 = 960 := by decide
          omega
      · rw [upd_ne (fun y => by rw [y] at eml; rw [npl] at eml; cases eml)]; exact k9.lst hSx emx (noInt_strs xs)
      · rw [upd_ne (fun y => by rw [y] at enl; rw [npl] at enl; cases enl)]; exact k9.lst hSx enx (noInt_strs nms)
      · rw [upd_ne (fun y => by rw [y] at esl; rw [npl] at esl; cases esl)]; exact k9.lst hSx esx (noInt_strs _)
      · rcases List.mem_append.mp z with y | y
        · exact nnl y
        · rw [List.mem_singleton.mp y, nlb] at enx; cases enx
      · rcases List.mem_append.mp z with y | y
        · exact ncl y
        · obtain ⟨cs, ec, _⟩ := hSx.cells
          rw [List.mem_singleton.mp y, nlb] at ec; cases ec
    obtain ⟨t7, bs, ls, pks, t70, t71, hS8, hpk, hpl, hgd, _, en8, _, nnl8, ncl8⟩ := hP
    have htb : t7 < 10000 := by
      rw [List.length_map] at t71
      omega
    have offn : nl ≠ pl := fun y => by rw [y] at enl; rw [npl] at enl; cases enl
    refine ⟨3, rfl, by decide, by decide, for_range (n := 3) (fun i σ Hx => ∃ (t : Int) (bs ls : List Addr) (pks : List Pk) (y6 y7 y8 y9 y10 y11 y12 y13 y14 y15 y16 y17 y18 : Option V), σ = [some (.ref a), some (.ref d), some (.ref ml), some (.int gr), some (.ref nl), some (.ref pl), y6, y7, y8, y9, y10, y11, y12, y13, y14, y15, y16, y17, y18, none, none, none, none] ∧ 0 ≤ t ∧ t ≤ 10000 + 10 * i ∧ StAt Hx d c t ∧ PkL Hx pl bs ls pks ∧ GoodP gr xs pks ∧ Hx nl = some (.lst (nms.map V.str)) ∧ nl ∉ ls ∧ c ∉ ls) ⟨t7, bs, ls, pks, _, _, _, _, _, _, _, _, _, _, _, _, _, rfl, by omega, by omega, hS8, hpk, hgd, en8, nnl8, ncl8⟩ (fun i σ Hx hi hP => ?_) (fun σ Hx hP => ?_)⟩
    · obtain ⟨t, bs, ls, pks, y6, y7, y8, y9, y10, y11, y12, y13, y14, y15, y16, y17, y18, rfl, t0, t1, hSx, hpk, hgd, enx, nnl, ncl⟩ := hP
      have hgl := hgd.len
      refine ⟨_, rfl, pl, _, pks, xs, rfl, hpk.ep, hpk.rel, by omega, fun p hp => (hgd.ok p hp).1, fun p hp => (hgd.ok p hp).2.1, by omega, fun l1 ws1 rows H1 nl1 el1 hws1 htw hrl hrr s1 => ?_⟩
      have hstr : ∀ r ∈ rows, PyData.strOk r.1 = true := fun r hr => by
        obtain ⟨p, hp, e⟩ := htw.marks r hr
        rw [← e]
        exact (hgd.ok p hp).1.1
      have hpk1 := hpk.same s1
      have hS1 := hSx.same s1
      have en1 := s1 _ _ enx
      have hdue : DatN (fun z => Hx z = none ∧ H1 z ≠ none) H1 (.ref l1) (.list (rows.map rowT)) := (hws1.weak (N' := fun z => Hx z = none ∧ H1 z ≠ none) fun b xs z e => ⟨z.1, by rw [e]; exact fun z => nomatch z⟩).lst ⟨nl1, by rw [el1]; exact fun z => nomatch z⟩ el1
      have hsm : Sm 4 (.list (rows.map rowT)) := sm_rows (by omega) hrr
      refine ⟨fun σ' H' => σ' = [some (.ref a), some (.ref d), some (.ref ml), some (.int gr), some (.ref nl), some (.ref pl), some (.int (0 + (i : Int))), some (.ref l1), y8, y9, y10, y11, y12, y13, y14, y15, y16, y17, y18, none, none, none, none] ∧ Same H1 H', ?_, fun σ' H2 hM => ?_⟩
      · refine ⟨_, rfl, rfl, _, rfl, ite2 (fun c0 => ?_) (fun c0 => iteF ⟨rfl, fun b o e => e⟩)⟩
        have gr0 : gr = 0 := V.int.inj (of_decide_eq_true c0)
        refine ⟨_, rfl, _, rfl, pl, _, pks, xs, rfl, hpk1.ep, hpk1.rel, by omega, fun p hp => ⟨(hgd.ok p hp).1, (hgd.ok p hp).2.2 gr0, (hgd.ok p hp).2.1⟩, by omega, fun l2 ws2 rows2 H2 nl2 el2 hws2 htw2 s2 => ?_⟩
        rw [htw2.one htw] at hws2
        refine ⟨_, _, (hdue.same s2).dp, ((hws2.weak (N' := fun _ => True) fun _ _ _ _ => trivial).lst trivial el2).dp, shaped_rows hstr, shaped_rows hstr, _, rfl, ite2 (fun c1 => ?_) (fun c1 => ⟨rfl, s2⟩)⟩
        rw [eqv_rows hstr] at c1
        cases c1
      obtain ⟨rfl, s2⟩ := hM
      have hpk2 := hpk1.same s2
      have hS2 := hS1.same s2
      have en2 := s2 _ _ en1
      have hdue2 := hdue.same s2
      revert hpk2 hS2 en2 hdue2
      intro hpk2 hS2 en2 hdue2
      -- found
      refine ⟨_, rfl, pl, _, pks, xs, rfl, .inl hpk2.ep, hpk2.rel, by omega, fun p hp => (hgd.ok p hp).1, fun p hp => (hgd.ok p hp).2.1, by omega, fun l3 ws3 rows3 H3 nl3 el3 hws3 htw3 hrl3 hrr3 s3 => ?_⟩
      rw [htw3.one htw] at hws3
      have hf3 : Dat H3 (.ref l3) (.list (rows.map rowT)) := ((hws3.weak (N' := fun _ => True) fun _ _ _ _ => trivial).lst trivial el3).dat
      refine ⟨_, rfl, _, rfl, .ref l3, .ref l1, _, rfl, hf3, (hdue2.same s3).dat, hsm, noBl_rows rows, fun H4 s4 => ⟨_, rfl, iteF ?_⟩⟩
      have s24 := s3.trans s4
      have hpk4 := hpk2.same s24
      refine ⟨_, rfl, pl, _, rfl, SqL.of hpk4.ep, fun z nz => ⟨z, _, rfl, .inl ⟨SqL.of upd_same, fun T nT => ?_⟩⟩⟩
      have s5 := (same_upd (o := .lst (bs.map V.ref).reverse) nz).trans (same_upd (o := .tup (bs.map V.ref).reverse) nT)
      have eT : upd (upd H4 z (.lst (bs.map V.ref).reverse)) T (.tup (bs.map V.ref).reverse) T = some (.tup (bs.map V.ref).reverse) := upd_same
      have s25 := s24.trans s5
      revert s25 eT s5
      generalize upd (upd H4 z (.lst (bs.map V.ref).reverse)) T (.tup (bs.map V.ref).reverse) = H5
      intro s5 eT s25
      have hperm : (allP pks.reverse).Perm (allP pks) := allP_perm (List.reverse_perm pks)
      refine ⟨T, _, pks.reverse, xs, rfl, .inr eT, (hpk2.same s25).rel.rev, by rw [hperm.length_eq]; omega, fun p hp => (hgd.ok p (hperm.mem_iff.mp hp)).1, fun p hp => (hgd.ok p (hperm.mem_iff.mp hp)).2.1, by omega, fun l6 ws6 rows6 H6 nl6 el6 hws6 htw6 hrl6 hrr6 s6 => ?_⟩
      rw [(htw6.perm hperm).one htw] at hws6
      have s26 := s25.trans s6
      refine ⟨_, rfl, .ref l6, .ref l1, _, rfl, ((hws6.weak (N' := fun _ => True) fun _ _ _ _ => trivial).lst trivial el6).dat, (hdue2.same s26).dat, hsm, noBl_rows rows, fun H7 s7 => ⟨_, rfl, iteF ?_⟩⟩
      have s27 := s26.trans s7
      -- found is changed
      have hfl : ∀ (j' : Nat) v, ws3[j']? = some v → ∃ T mk lt us', v = V.ref T ∧ H7 T = some (.tup [.str mk, .ref lt]) ∧ H7 lt = some (.lst us') ∧ us'.length ≤ 900 + 0 ∧ H2 lt = none ∧ lt ≠ l3 := fun j' v ev => by
        have s37 : Same H3 H7 := ((s4.trans s5).trans s6).trans s7
        obtain ⟨r, er, hr⟩ := (hws3.same s37).atM ev
        obtain ⟨T, zz, rfl, eT, hz⟩ := hr.tuple
        obtain ⟨x1, zz1, rfl, h1, hz1⟩ := hz.inv
        obtain ⟨x2, zz2, rfl, h2, hz2⟩ := hz1.inv
        obtain rfl := hz2.inv0
        obtain ⟨lt, us', rfl, hN, elt, hus⟩ := h2.list
        refine ⟨T, r.1, lt, us', rfl, by rw [← h1.inv_str]; exact eT, elt, ?_, hN.1, hN.2⟩
        rw [hus.1, List.length_map]
        exact hrr r (List.mem_of_getElem? er)
      have hw3 : ws3.length ≤ 64 := by
        have := hws3.1
        rw [List.length_map] at this
        omega
      refine ⟨_, rfl, l3, rfl, ⟨_, SqL.of (((s4.trans s5).trans s6).trans s7 _ _ el3)⟩, for_list (xs := ws3) (fun j σ Hy => ∃ (z9 z10 : Option V), σ = [some (.ref a), some (.ref d), some (.ref ml), some (.int gr), some (.ref nl), some (.ref pl), some (.int (0 + (i : Int))), some (.ref l1), some (.ref l3), z9, z10, y11, y12, y13, y14, y15, y16, y17, y18, none, none, none, none] ∧ Same H2 Hy ∧ Hy l3 = some (.lst ws3) ∧ ∀ (j' : Nat) v, ws3[j']? = some v → ∃ T mk lt us', v = V.ref T ∧ Hy T = some (.tup [.str mk, .ref lt]) ∧ Hy lt = some (.lst us') ∧ us'.length ≤ 900 + j ∧ H2 lt = none ∧ lt ≠ l3) ⟨_, _, rfl, s27, ((s4.trans s5).trans s6).trans s7 _ _ el3, hfl⟩ (fun j σ Hy _ hP => ?_) (fun j v σ Hy hv hP => ?_) (fun σ Hy hP => ?_)⟩
      · obtain ⟨_, _, rfl, _, e, _⟩ := hP
        exact SqL.of e
      · obtain ⟨z9, z10, rfl, sy, e3, hf⟩ := hP
        have hj : j < 64 := Nat.lt_of_lt_of_le (List.getElem?_eq_some_iff.mp hv).1 hw3
        obtain ⟨T, mk, lt, us', rfl, eT, elt, hul, nlt, n3⟩ := hf j _ hv
        refine ⟨T, _, rfl, .inl (.inl eT), rfl, _, _, rfl, _, _, rfl, rfl, ?_⟩
        refine ⟨_, rfl, .inl ⟨rfl, _, SqL.of elt⟩, by show 2 ≤ sizeLine; decide, fun T2 nT2 => ?_⟩
        have sT2 := same_upd (o := .tup [V.int 7, .int 7]) nT2
        have elt2 := sT2 _ _ elt
        refine ⟨lt, us', _, rfl, rfl, elt2, small1000 (by omega), _, _, rfl, fun b o e => ?_, ?_, fun j' v' ev' => ?_⟩
        · rw [upd_ne (ne_of_none e nlt)]; exact sT2 _ _ (sy _ _ e)
        · rw [upd_ne n3.symm]; exact sT2 _ _ e3
        · obtain ⟨T', mk', lt', us'', f1, f2, f3, f4, f5, f6⟩ := hf j' v' ev'
          have f2 := sT2 _ _ f2
          have f3 := sT2 _ _ f3
          by_cases c1 : lt' = lt
          · subst c1
            rw [elt2] at f3
            cases f3
            exact ⟨T', mk', lt', us' ++ [.ref T2], f1, by rw [upd_ne (ne_of f2 elt2 (fun z => nomatch z))]; exact f2, upd_same, by rw [List.length_append]; show _ + 1 ≤ _; omega, f5, f6⟩
          · exact ⟨T', mk', lt', us'', f1, by rw [upd_ne (ne_of f2 elt2 (fun z => nomatch z))]; exact f2, by rw [upd_ne c1]; exact f3, by omega, f5, f6⟩
      obtain ⟨z9, z10, rfl, sy, e3, _⟩ := hP
      refine ⟨_, rfl, .inl ⟨rfl, _, SqL.of e3⟩, Nat.zero_le _, fun z8 nz8 => ⟨by show 2 ≤ sizeLine; decide, fun T8 nT8 => ?_⟩⟩
      have s8 := (same_upd (o := .lst []) nz8).trans (same_upd (o := .tup [V.str "more", .ref z8]) nT8)
      refine ⟨l3, ws3, _, rfl, rfl, s8 _ _ e3, small1000 (by omega), ?_⟩
      have s28 : Same H2 (upd (upd (upd Hy z8 (.lst [])) T8 (.tup [V.str "more", .ref z8])) l3 (.lst (ws3 ++ [.ref T8]))) := fun b o e => by
        rw [upd_ne (ne_of_none e nl3)]; exact s8 _ _ (sy _ _ e)
      revert s28
      generalize upd (upd (upd Hy z8 (.lst [])) T8 (.tup [V.str "more", .ref z8])) l3 (.lst (ws3 ++ [.ref T8])) = H8
      intro s28
      have hpk8 := hpk2.same s28
      refine ⟨_, rfl, pl, _, pks, xs, rfl, .inl hpk8.ep, hpk8.rel, by omega, fun p hp => (hgd.ok p hp).1, fun p hp => (hgd.ok p hp).2.1, by omega, fun l9 ws9 rows9 H9 nl9 el9 hws9 htw9 hrl9 hrr9 s9 => ?_⟩
      rw [htw9.one htw] at hws9
      have s29 := s28.trans s9
      refine ⟨_, rfl, .ref l9, .ref l1, _, rfl, ((hws9.weak (N' := fun _ => True) fun _ _ _ _ => trivial).lst trivial el9).dat, (hdue2.same s29).dat, hsm, noBl_rows rows, fun H10 s10 => ⟨_, rfl, iteF ?_⟩⟩
      have s210 := s29.trans s10
      have hpk10 := hpk2.same s210
      have hS10 := hS2.same s210
      have en10 := s210 _ _ en2
      have hdue10 := hdue2.same s210
      -- some
      refine ⟨_, rfl, pl, rfl, ⟨_, SqL.of hpk10.ep⟩, fun so nso => lc_list (xs := bs.map V.ref) (fun j Hy => Same H10 Hy ∧ ∃ (zs : List V) (ix : List (Nat × Pk)), Hy so = some (.lst zs) ∧ SomeP Hy bs pks zs ix ∧ ∀ x ∈ ix, x.1 < j) ⟨same_upd nso, [], [], upd_same, ⟨rfl, List.Pairwise.nil, fun _ _ e => nomatch e⟩, fun _ z => nomatch z⟩ (fun j Hy _ hP => SqL.of (hP.1 _ _ hpk10.ep)) (fun j v Hy hj hP => ?_) (fun H11 hP => ?_)⟩
      · obtain ⟨sz, zs, ix, eso, hso, hlo⟩ := hP
        obtain ⟨b, ebj, rfl⟩ : ∃ b, bs[j]? = some b ∧ v = .ref b := by
          rw [List.getElem?_map] at hj
          obtain ⟨m, e1, e2⟩ := Option.map_eq_some_iff.mp hj
          exact ⟨m, e1, e2.symm⟩
        have hjl : j < pks.length := by rw [← hpk.nb]; exact (List.getElem?_eq_some_iff.mp ebj).1
        have hpkz := hpk10.same sz
        obtain ⟨b', lb, vs, f1, f2, f3, f4, f5⟩ := hpkz.get j _ (List.getElem?_eq_getElem hjl)
        rw [ebj] at f1
        cases Option.some.inj f1
        have ek : pks[j]? = some pks[j] := List.getElem?_eq_getElem hjl
        have hzl : zs.length ≤ 12 := by
          rw [hso.len]
          have hnd : (ix.map (·.1)).Nodup := by
            refine List.pairwise_map.mpr (hso.up.imp fun {x y} z => by omega)
          have := nodup_len (l := ix.map (·.1)) (m := List.range j) hnd fun x hx => by
            obtain ⟨y, hy, rfl⟩ := List.mem_map.mp hx
            exact List.mem_range.mpr (hlo y hy)
          rw [List.length_map, List.length_range] at this
          have := hgd.few
          omega
        refine ⟨rfl, ?_⟩
        refine ⟨_, rfl, b, _, 2, .ref lb, rfl, rfl, .inl (.inl f3), atI_nat (j := 2) rfl, Nat.zero_le _, fun z nz => ?_⟩
        have sz1 := same_upd (o := .lst []) nz
        have hst : ∀ p ∈ (pks[j]).2.2, PyData.strOk p.1 = true := fun p hp => (hgd.ok p (List.mem_flatMap.mpr ⟨_, List.mem_of_getElem? ek, hp⟩)).1.1
        refine ⟨_, _, .lst (SqL.of (sz1 _ _ f4)) (dp_pts (Pts.same f5 sz1)), .lst (SqL.of upd_same) .nil, shaped_pts hst, shaped_pts (ps := []) (fun _ z => nomatch z), _, rfl, ite2 (fun c0 => ?_) (fun c0 => ?_)⟩
        · have hne : (pks[j]).2.2 ≠ [] := fun z => by
            rw [show ([] : List PyData) = ([] : List Part).map partD from rfl] at c0
            rw [z] at c0
            rw [eqv_pts (ps := []) (fun _ z => nomatch z)] at c0
            cases c0
          refine ⟨_, rfl, zs, sz1 _ _ eso, small1000 (by omega), fun bb o e => ?_, zs ++ [.ref b], ix ++ [(j, pks[j])], upd_same, hso.snoc hlo ebj ek hne, fun x hx => ?_⟩
          · rw [upd_ne (ne_of_none e nso)]; exact sz1 _ _ (sz _ _ e)
          · rcases List.mem_append.mp hx with y | y
            · have := hlo x y; omega
            · rw [List.mem_singleton.mp y]; exact Nat.lt_succ_self _
        · exact ⟨sz.trans sz1, zs, ix, sz1 _ _ eso, ⟨hso.len, hso.up, hso.get⟩, fun x hx => by have := hlo x hx; omega⟩
      obtain ⟨s11, zs, ix, eso, hso, hlo⟩ := hP
      have hso := (⟨hso.len, hso.up, hso.get⟩ : SomeP H11 bs pks zs ix)
      have hpk11 := hpk10.same s11
      have hS11 := hS10.same s11
      have en11 := s11 _ _ en10
      have hdue11 := hdue10.same s11
      have hzl : zs.length ≤ 12 := by
        rw [hso.len]
        have hnd : (ix.map (·.1)).Nodup := List.pairwise_map.mpr (hso.up.imp fun {x y} z => by omega)
        have := nodup_len (l := ix.map (·.1)) (m := List.range (bs.map V.ref).length) hnd fun x hx => by
          obtain ⟨y, hy, rfl⟩ := List.mem_map.mp hx
          exact List.mem_range.mpr (hlo y hy)
        rw [List.length_map, List.length_range, List.length_map, hpk.nb] at this
        have := hgd.few
        omega
      refine ⟨_, rfl, Nat.zero_le _, fun z nz => ?_⟩
      have sz1 := same_upd (o := .lst []) nz
      have ez : upd H11 z (.lst []) z = some (.lst []) := upd_same
      have hpk12 := hpk11.same sz1
      have hS12 := hS11.same sz1
      have en12 := sz1 _ _ en11
      have hdue12 := hdue11.same sz1
      have eso12 := sz1 _ _ eso
      revert ez hpk12 hS12 en12 hdue12 eso12
      generalize upd H11 z (.lst []) = H12
      intro ez hpk12 hS12 en12 hdue12 eso12
      have hgk : ∀ k ∈ pks, PyData.strOk k.1 = true ∧ ∀ p ∈ k.2.2, PyData.strOk p.1 = true := fun k hk => ⟨(hgd.own k hk).2, fun p hp => (hgd.ok p (List.mem_flatMap.mpr ⟨k, hk, hp⟩)).1.1⟩
      have hix : ∀ k ∈ ix.map (·.2), k ∈ pks := fun k hk => by
        obtain ⟨x, hx, rfl⟩ := List.mem_map.mp hk
        obtain ⟨qi, hqi, ex⟩ := List.getElem_of_mem hx
        obtain ⟨_, _, _, g3, _⟩ := hso.get qi x (by rw [List.getElem?_eq_getElem hqi, ex])
        exact List.mem_of_getElem? g3
      refine ⟨.list ((ix.map (·.2)).map packD), .list [], .lst (SqL.of eso12) (dpAll_of (by rw [List.length_map, List.length_map]; exact hso.len) fun qi x dd e1 e2 => ?_), .lst (SqL.of ez) .nil, shaped_packs fun k hk => hgk k (hix k hk), shaped_pts (ps := []) (fun _ z => nomatch z), _, rfl, ite2 (fun c0 => ?_) (fun c0 => ⟨t, bs, ls, pks, _, _, _, _, _, _, _, _, _, _, _, _, _, rfl, by omega, by omega, hS12, hpk12, hgd, en12, nnl, ncl⟩)⟩
      · rw [List.getElem?_map, List.getElem?_map] at e2
        obtain ⟨k, ek, rfl⟩ := Option.map_eq_some_iff.mp e2
        obtain ⟨y, ey, rfl⟩ := Option.map_eq_some_iff.mp ek
        obtain ⟨b, g1, g2, g3, _⟩ := hso.get qi y ey
        rw [e1] at g1
        cases Option.some.inj g1
        obtain ⟨b', lb, vs, f1, f2, f3, f4, f5⟩ := hpk12.get y.1 y.2 g3
        rw [g2] at f1
        cases Option.some.inj f1
        exact .tup (.inl (.inl f3)) (.cons (.str _) (.cons (.int _) (.cons (.lst (SqL.of f4) (dp_pts f5)) .nil)))
      have hixl : 0 < ix.length := by
        cases ix with
        | nil =>
          rw [List.map_nil, List.map_nil, show ([] : List PyData) = ([] : List Part).map partD from rfl, eqv_pts (ps := []) (fun _ z => nomatch z)] at c0
          cases c0
        | cons _ _ => exact Nat.succ_pos _
      -- parts
      refine ⟨_, rfl, _, rfl, _, rfl, so, _, rfl, .inl (SqL.of eso12), d, c, t, (zs.length : Int), rfl, hS12, by omega, by rw [hso.len]; omega, by omega, fun r H13 r0 r1 hS13 k13 => ?_⟩
      obtain ⟨qi, rfl⟩ := Int.eq_ofNat_of_zero_le r0
      have hqi : qi < ix.length := by rw [← hso.len]; omega
      obtain ⟨b, fz, fb, fk, fne⟩ := hso.get qi _ (List.getElem?_eq_getElem hqi)
      revert fb fk fne
      generalize ix[qi] = x
      intro fb fk fne
      have hpk13 := hpk12.kp hS12 k13
      have eso13 := k13.lst hS12 eso12 hso.noInt
      have en13 := k13.lst hS12 en12 (noInt_strs nms)
      have hcd : ∀ z, (Hx z = none ∧ H1 z ≠ none) → z ≠ c := fun z hz y => by
        obtain ⟨cs, ec, _⟩ := hSx.cells
        rw [y, ec] at hz
        exact nomatch hz.1
      have hdue13 := hdue12.keep (.kp k13 hS12 hcd)
      obtain ⟨b', lb, vs, g1, g2, g3, g4, g5⟩ := hpk13.get x.1 x.2 fk
      rw [fb] at g1
      cases Option.some.inj g1
      refine ⟨so, _, (qi : Int), .ref b, rfl, rfl, SqL.of eso13, atI_nat fz, b, _, 2, .ref lb, rfl, rfl, .inl (.inl g3), atI_nat (j := 2) rfl, ?_⟩
      have hvl : vs.length = x.2.2.2.length := g5.1
      have hvl0 : 0 < vs.length := by
        rw [hvl]
        exact List.length_pos_iff.mpr fne
      have hxk : x.2 ∈ pks := List.mem_of_getElem? fk
      have hv12 : vs.length ≤ 12 := by rw [hvl]; exact (hgd.own _ hxk).1
      refine ⟨_, rfl, _, rfl, _, rfl, lb, _, rfl, .inl (SqL.of g4), d, c, t + 1, (vs.length : Int), rfl, hS13, by omega, by omega, by omega, fun r2 H14 r20 r21 hS14 k14 => ?_⟩
      obtain ⟨pi, rfl⟩ := Int.eq_ofNat_of_zero_le r20
      have hpi : pi < vs.length := by omega
      have hpk14 := hpk13.kp hS13 k14
      have eso14 := k14.lst hS13 eso13 hso.noInt
      have en14 := k14.lst hS13 en13 (noInt_strs nms)
      have hdue14 := hdue13.keep (.kp k14 hS13 hcd)
      have g4' := k14.lst hS13 g4 (Pts.noInt g5)
      have g5' := Pts.kp g5 hS13 k14
      obtain ⟨p, ep, g, ev, eg⟩ := Pts.at g5' (List.getElem?_eq_getElem hpi)
      have hpx : p ∈ x.2.2.2 := List.mem_of_getElem? ep
      have hpA : p ∈ allP pks := List.mem_flatMap.mpr ⟨_, hxk, hpx⟩
      obtain ⟨nm0, en0⟩ : ∃ nm, nms[0]? = some nm := ⟨_, List.getElem?_eq_getElem (by omega)⟩
      refine ⟨lb, vs, (pi : Int), .ref g, rfl, rfl, SqL.of g4', atI_nat (by rw [List.getElem?_eq_getElem hpi, ev]), g, _, rfl, .inl (.inl eg), rfl, _, _, rfl, _, _, rfl, _, _, rfl, rfl, ?_⟩
      refine ⟨_, rfl, nl, _, 0, .str nm0, rfl, rfl, SqL.of en14, atI_nat (j := 0) (by rw [List.getElem?_map, en0]; rfl), _, rfl, _, rfl, _, rfl, by show 3 ≤ sizeLine; decide, fun g2' ng2 => ⟨by show 1 ≤ sizeLine; decide, fun lo nlo => ⟨by show 3 ≤ sizeLine; decide, fun b2 nb2 => ⟨by show 1 ≤ sizeLine; decide, fun ot not_ => ?_⟩⟩⟩⟩
      have t1' := same_upd (o := .tup [V.str p.1, .int p.2.1, .int p.2.2]) ng2
      have t2' := same_upd (o := .lst [.ref g2']) nlo
      have t3' := same_upd (o := .tup [V.str nm0, .int 1, .ref lo]) nb2
      have t4' := same_upd (o := .lst [.ref b2]) not_
      have s15 := ((t1'.trans t2').trans t3').trans t4'
      have eot : upd (upd (upd (upd H14 g2' (.tup [V.str p.1, .int p.2.1, .int p.2.2])) lo (.lst [.ref g2'])) b2 (.tup [V.str nm0, .int 1, .ref lo])) ot (.lst [.ref b2]) ot = some (.lst [.ref b2]) := upd_same
      have eb2 := t4' _ _ (upd_same (H := upd (upd H14 g2' (.tup [V.str p.1, .int p.2.1, .int p.2.2])) lo (.lst [.ref g2'])) (a := b2) (o := .tup [V.str nm0, .int 1, .ref lo]))
      have elo := t4' _ _ (t3' _ _ (upd_same (H := upd H14 g2' (.tup [V.str p.1, .int p.2.1, .int p.2.2])) (a := lo) (o := .lst [.ref g2'])))
      have eg2 := t4' _ _ (t3' _ _ (t2' _ _ (upd_same (H := H14) (a := g2') (o := .tup [V.str p.1, .int p.2.1, .int p.2.2]))))
      revert s15 eot eb2 elo eg2
      generalize upd (upd (upd (upd H14 g2' (.tup [V.str p.1, .int p.2.1, .int p.2.2])) lo (.lst [.ref g2'])) b2 (.tup [V.str nm0, .int 1, .ref lo])) ot (.lst [.ref b2]) = H15
      intro s15 eot eb2 elo eg2
      have hpk15 := hpk14.same s15
      have hS15 := hS14.same s15
      have en15 := s15 _ _ en14
      have hdue15 := hdue14.same s15
      have eso15 := s15 _ _ eso14
      refine ⟨fun σ' H' => ∃ z16, σ' = [some (.ref a), some (.ref d), some (.ref ml), some (.int gr), some (.ref nl), some (.ref pl), some (.int (0 + (i : Int))), some (.ref l1), some (.ref l3), some (.str p.1), z10, some (.ref so), some (.ref lb), some (.int p.2.1), some (.int p.2.2), some (.ref ot), z16, y17, y18, none, none, none, none] ∧ Same H15 H', ?_, fun σ' H16 hM => ?_⟩
      · refine ⟨_, rfl, pl, _, rfl, .inl (SqL.of hpk15.ep), _, 12, rfl, rfl, _, rfl, ite2 (fun c1 => ?_) (fun c1 => ⟨_, rfl, fun b o e => e⟩)⟩
        have hplen : pks.length ≤ 12 := hgd.few
        refine ⟨_, rfl, _, rfl, pl, ot, _, _, rfl, rfl, hpk15.ep, eot, by rw [List.length_map, hpk.nb, sizeLine_eq]; show _ + 1 ≤ _; omega, fun ca nca => ?_⟩
        have sca := same_upd (o := .lst (bs.map V.ref ++ [.ref b2])) nca
        have hrel1 : PksR H15 [.ref b2] [(nm0, 1, [p])] := ⟨rfl, fun j u k e1 e2 => by
          have hj : j = 0 := by
            have := (List.getElem?_eq_some_iff.mp e1).1
            simp at this
            exact this
          subst hj
          cases e1
          cases e2
          exact ⟨b2, lo, [.ref g2'], rfl, eb2, elo, Pts.one ⟨g2', rfl, eg2⟩⟩⟩
        have hLm : ∀ p' ∈ allP (pks ++ [(nm0, 1, [p])]), p' ∈ allP pks := fun p' hp' => by
          rw [allP_app] at hp'
          rcases List.mem_append.mp hp' with z | z
          · exact z
          · have : p' ∈ [p] := z
            rw [List.mem_singleton.mp this]; exact hpA
        refine ⟨ca, _, pks ++ [(nm0, 1, [p])], xs, rfl, .inl upd_same, (hpk15.rel.app hrel1).same sca, by rw [allP_app, List.length_append]; show _ + 1 ≤ 900; omega, fun p' hp' => (hgd.ok p' (hLm p' hp')).1, fun p' hp' => (hgd.ok p' (hLm p' hp')).2.1, by omega, fun l16 ws16 rows16 H16 nl16 el16 hws16 htw16 hrl16 hrr16 s16 => ?_⟩
        obtain ⟨as, kvs, ews, hpair, hkeys, hrows⟩ := rows_dict (K := K) hws16
        refine ⟨l16, as, kvs, rfl, SqL.of (by rw [← ews]; exact el16), hpair, fun dd ndd => ?_⟩
        have hle : p.2.1 ≤ p.2.2 := (hgd.ok p hpA).1.2.2.1
        obtain ⟨rw', hr, er⟩ := htw16.all p.1 p.2.1 (more_twice hpA (Int.le_refl _) hle)
        obtain ⟨lt, us, hmem, elt, hus⟩ := hrows rw' hr
        have hval := rows_val htw16 hkeys hmem
        rw [er] at hval
        have htold := ((htw16.mem rw').mp hr).1
        rw [er] at htold
        have hr9 := hrr16 rw' hr
        revert hus htold hr9
        generalize rw'.2 = rs
        intro hus htold hr9
        obtain ⟨lo', hris⟩ := htold.ris
        obtain ⟨qc, hqc, hq1, hq2⟩ := ris_cover hris hle fun n z1 z2 => (htold.same n).mpr (more_twice hpA z1 z2)
        have sdd := same_upd (o := .dK (mergeK [] kvs)) ndd
        have edd : upd H16 dd (.dK (mergeK [] kvs)) dd = some (.dK (mergeK [] kvs)) := upd_same
        have elt := sdd _ _ elt
        have hus := hus.same sdd
        have s17 := (sca.trans s16).trans sdd
        revert edd elt hus s17
        generalize upd H16 dd (.dK (mergeK [] kvs)) = H17
        intro edd elt hus s17
        refine ⟨_, rfl, dd, rfl, .inl ⟨_, .inl edd⟩, _, rfl, Nat.zero_le _, fun z9 nz9 => ⟨some (.ref lt), .inl ⟨mergeK [] kvs, .inr p.1, .inl (same_upd nz9 _ _ edd), rfl, hval.symm⟩, ?_⟩⟩
        have s9' := same_upd (o := .lst []) nz9
        have elt := s9' _ _ elt
        have hus := hus.same s9'
        have s17 := s17.trans s9'
        revert elt hus s17
        generalize upd H17 z9 (.lst []) = H18
        intro elt hus s17
        refine ⟨lt, rfl, ⟨_, SqL.of elt⟩, fun D nD => lc_list (xs := us) (fun j Hy => Same H18 Hy ∧ Hy D = some (.lst (((rs.take j).map fun q => decide (q.1 ≤ p.2.1) && decide (p.2.2 ≤ q.2)).map V.bl))) ⟨same_upd nD, upd_same⟩ (fun j Hy _ hP => SqL.of (hP.1 _ _ elt)) (fun j v Hy hj hP => ?_) (fun H19 hP => ?_)⟩
        · obtain ⟨sy, eD⟩ := hP
          obtain ⟨q0, Tq, eq0, rfl, eTq⟩ := prs_at (hus.same sy) hj
          have hjl : j < 900 := by
            have h1 := (List.getElem?_eq_some_iff.mp hj).1
            have h2 := hus.1
            omega
          have htk : (rs.take (j + 1)).map (fun q => decide (q.1 ≤ p.2.1) && decide (p.2.2 ≤ q.2)) = (rs.take j).map (fun q => decide (q.1 ≤ p.2.1) && decide (p.2.2 ≤ q.2)) ++ [decide (q0.1 ≤ p.2.1) && decide (p.2.2 ≤ q0.2)] := by
            rw [List.take_add_one, eq0, List.map_append]
            rfl
          have hsml : ((((rs.take j).map fun q => decide (q.1 ≤ p.2.1) && decide (p.2.2 ≤ q.2)).map V.bl)).length < sizeLine := small1000 (by rw [List.length_map, List.length_map, List.length_take]; omega)
          refine ⟨Tq, _, rfl, .inl (.inl eTq), rfl, _, _, rfl, _, _, rfl, rfl, rfl, ?_⟩
          refine ⟨_, rfl, _, rfl, q0.1, p.2.1, rfl, rfl, _, rfl, ite2 (fun c2 => ?_) (fun c2 => ?_)⟩
          · refine ⟨_, rfl, _, rfl, p.2.2, q0.2, rfl, rfl, _, eD, hsml, fun bb o e => ?_, ?_⟩
            · rw [upd_ne (ne_of_none e nD)]; exact sy _ _ e
            · rw [htk, List.map_append, c2, Bool.true_and]
              exact upd_same
          · refine ⟨_, eD, hsml, fun bb o e => ?_, ?_⟩
            · rw [upd_ne (ne_of_none e nD)]; exact sy _ _ e
            · rw [htk, List.map_append, Bool.eq_false_iff.mpr c2, Bool.false_and]
              exact upd_same
        obtain ⟨s19, eD⟩ := hP
        rw [hus.1, List.take_length] at eD
        refine ⟨D, _, rfl, SqL.of eD, _, rfl, ite2 (fun c2 => ?_) (fun c2 => ⟨_, rfl, s17.trans s19⟩)⟩
        have hany : (rs.map fun q => decide (q.1 ≤ p.2.1) && decide (p.2.2 ≤ q.2)).any id = true := List.any_eq_true.mpr ⟨true, List.mem_map.mpr ⟨qc, hqc, by rw [decide_eq_true hq1, decide_eq_true hq2]; rfl⟩, rfl⟩
        rw [hany] at c2
        cases c2
      obtain ⟨z16, rfl, s16⟩ := hM
      have hpk16 := hpk15.same s16
      have hS16 := hS15.same s16
      have en16 := s16 _ _ en15
      have eso16 := s16 _ _ eso15
      have elb16 := s16 _ _ (s15 _ _ g4')
      have hps16 := Pts.same (Pts.same g5' s15) s16
      -- a part taken out
      refine ⟨_, rfl, .inl ⟨rfl, _, SqL.of elb16⟩, _, rfl, _, rfl, lb, _, rfl, .inl (SqL.of elb16), d, c, t + 1 + 1, (vs.length : Int), rfl, hS16, by omega, by omega, by omega, fun r3 H17 r30 r31 hS17 k17 => ?_⟩
      obtain ⟨ri, rfl⟩ := Int.eq_ofNat_of_zero_le r30
      have hri : ri < vs.length := by omega
      have hpk17 := hpk16.kp hS16 k17
      have en17 := k17.lst hS16 en16 (noInt_strs nms)
      have eso17 := k17.lst hS16 eso16 hso.noInt
      have elb17 := k17.lst hS16 elb16 (Pts.noInt g5)
      have hps17 := Pts.kp hps16 hS16 k17
      have hsl : so ∉ ls := hpk10.fresh nso
      have hlbm : lb ∈ ls := List.mem_of_getElem? g2
      refine ⟨lb, vs, (ri : Int), ri, vs[ri], rfl, rfl, elb17, by omega, by omega, seqIx hri, List.getElem?_eq_getElem hri, ?_⟩
      have hpk18 := hpk17.put fk g2 (Pts.erase (i := ri) hps17)
      have hS18 := hS17.upd (l := lb) (o := .lst (vs.eraseIdx ri)) (fun y => by rw [y, hS17.dict] at elb17; cases elb17) (fun y => ncl (by rw [← y]; exact hlbm))
      have en18 : upd H17 lb (.lst (vs.eraseIdx ri)) nl = some (.lst (nms.map V.str)) := by rw [upd_ne (fun y => nnl (by rw [y]; exact hlbm))]; exact en17
      have eso18 : upd H17 lb (.lst (vs.eraseIdx ri)) so = some (.lst zs) := by rw [upd_ne (fun y => hsl (by rw [y]; exact hlbm))]; exact eso17
      have hgd18 := hgd.set (ps := x.2.2.2.eraseIdx ri) fk (Nat.le_trans (List.length_eraseIdx_le ..) (hgd.own _ hxk).1) fun p' hp' => List.mem_flatMap.mpr ⟨_, hxk, List.mem_of_mem_eraseIdx hp'⟩
      have hpl18 : (pks.set x.1 (x.2.1, x.2.2.1, x.2.2.2.eraseIdx ri)).length = pks.length := List.length_set
      revert hpk18 hS18 en18 eso18 hgd18 hpl18
      generalize pks.set x.1 (x.2.1, x.2.2.1, x.2.2.2.eraseIdx ri) = pk1
      generalize upd H17 lb (.lst (vs.eraseIdx ri)) = H18
      intro hpk18 hS18 en18 eso18 hgd18 hpl18
      -- the first, the last
      have hx0 : ix[0]? = some ix[0] := List.getElem?_eq_getElem hixl
      have hxn : ix[ix.length - 1]? = some ix[ix.length - 1] := List.getElem?_eq_getElem (by omega)
      have hup01 : 1 < ix.length → ix[0].1 < ix[ix.length - 1].1 := fun hh => List.pairwise_iff_getElem.mp hso.up 0 (ix.length - 1) hixl (by omega) (by omega)
      obtain ⟨b0, fz0, fb0, fk0, _⟩ := hso.get 0 _ hx0
      obtain ⟨bn, fzn, fbn, fkn, _⟩ := hso.get (ix.length - 1) _ hxn
      revert fb0 fk0 fbn fkn hup01
      generalize ix[0].1 = i0
      generalize ix[ix.length - 1].1 = i9
      intro hup01 fb0 fk0 fbn fkn
      have hi0 : i0 < pk1.length := by rw [hpl18]; exact (List.getElem?_eq_some_iff.mp fk0).1
      have hin : i9 < pk1.length := by rw [hpl18]; exact (List.getElem?_eq_some_iff.mp fkn).1
      obtain ⟨b0', l0, vs0, h01, h02, h03, h04, h05⟩ := hpk18.get i0 _ (List.getElem?_eq_getElem hi0)
      obtain ⟨bn', ln, vsn, hn1, hn2, hn3, hn4, hn5⟩ := hpk18.get i9 _ (List.getElem?_eq_getElem hin)
      rw [fb0] at h01
      cases Option.some.inj h01
      rw [fbn] at hn1
      cases Option.some.inj hn1
      refine ⟨_, rfl, so, _, 0, .ref b0, rfl, rfl, SqL.of eso18, atI_nat (j := 0) fz0, b0, _, 2, .ref l0, rfl, rfl, .inl (.inl h03), atI_nat (j := 2) rfl, _, rfl, 1, rfl, so, _, -1, .ref bn, rfl, rfl, SqL.of eso18, atI_end (by rw [hso.len]; exact hixl) (by rw [hso.len]; exact fzn), bn, _, 2, .ref ln, rfl, rfl, .inl (.inl hn3), atI_nat (j := 2) rfl, _, _, rfl, ?_⟩
      have hml0 : l0 ∈ ls := List.mem_of_getElem? h02
      have hmln : ln ∈ ls := List.mem_of_getElem? hn2
      have INV : ∀ (H' : Hp) (pk2 : List Pk) (z7 z18 : Option V) (z9 z10 z16 : Option V), StAt H' d c (t + 1 + 1 + 1) → PkL H' pl bs ls pk2 → GoodP gr xs pk2 → H' nl = some (.lst (nms.map V.str)) → ∃ (t : Int) (bs ls : List Addr) (pks : List Pk) (y6 y7 y8 y9 y10 y11 y12 y13 y14 y15 y16 y17 y18 : Option V), [some (V.ref a), some (.ref d), some (.ref ml), some (.int gr), some (.ref nl), some (.ref pl), some (.int (0 + (i : Int))), z7, some (.ref l3), z9, z10, some (.ref so), some (.ref lb), some (.int p.2.1), some (.int p.2.2), some (.ref ln), z16, some (.ref l0), z18, none, none, none, none] = [some (.ref a), some (.ref d), some (.ref ml), some (.int gr), some (.ref nl), some (.ref pl), y6, y7, y8, y9, y10, y11, y12, y13, y14, y15, y16, y17, y18, none, none, none, none] ∧ 0 ≤ t ∧ t ≤ 10000 + 10 * ((i + 1 : Nat) : Int) ∧ StAt H' d c t ∧ PkL H' pl bs ls pks ∧ GoodP gr xs pks ∧ H' nl = some (.lst (nms.map V.str)) ∧ nl ∉ ls ∧ c ∉ ls := fun H' pk2 z7 z18 z9 z10 z16 h1 h2 h3 h4 => ⟨t + 1 + 1 + 1, bs, ls, pk2, _, _, _, _, _, _, _, _, _, _, _, _, _, rfl, by omega, by omega, h1, h2, h3, h4, nnl, ncl⟩
      refine ⟨_, rfl, so, _, rfl, .inl (SqL.of eso18), _, 1, rfl, rfl, _, rfl, ite2 (fun c1 => ?_) (fun c1 => iteF (INV H18 pk1 _ _ _ _ _ hS18 hpk18 hgd18 en18))⟩
      refine ⟨_, rfl, rfl, _, rfl, ite2 (fun c2 => ?_) (fun c2 => INV H18 pk1 _ _ _ _ _ hS18 hpk18 hgd18 en18)⟩
      have hlen1 : 1 < ix.length := by
        have := of_decide_eq_true c1
        rw [hso.len] at this
        omega
      have hlt := hup01 hlen1
      have hl0n : l0 ≠ ln := fun y => by
        rw [← y] at hn2
        obtain ⟨q1, w1⟩ := List.getElem?_eq_some_iff.mp h02
        obtain ⟨q2, w2⟩ := List.getElem?_eq_some_iff.mp hn2
        have := (List.getElem_inj hpk18.nd).mp (w1.trans w2.symm)
        omega
      -- kept, due
      refine ⟨_, rfl, l0, _, rfl, .inl (SqL.of h04), fun kp nkp => ?_⟩
      have skp := same_upd (o := .lst vs0) nkp
      have ekp : upd H18 kp (.lst vs0) kp = some (.lst vs0) := upd_same
      have hpk19 := hpk18.same skp
      have hS19 := hS18.same skp
      have en19 := skp _ _ en18
      have nkl : kp ∉ ls := hpk18.fresh nkp
      have h04 := skp _ _ h04
      have hn4 := skp _ _ hn4
      have h05 := Pts.same h05 skp
      have hn5 := Pts.same hn5 skp
      revert ekp hpk19 hS19 en19 h04 hn4 h05 hn5
      generalize upd H18 kp (.lst vs0) = H19
      intro ekp hpk19 hS19 en19 h04 hn4 h05 hn5
      have hgl1 := hgd18.len
      refine ⟨_, rfl, pl, _, pk1, xs, rfl, hpk19.ep, hpk19.rel, by omega, fun p hp => (hgd18.ok p hp).1, fun p hp => (hgd18.ok p hp).2.1, by omega, fun l20 ws20 rows20 H20 nl20 el20 hws20 htw20 hrl20 hrr20 s20 => ?_⟩
      have hdue20 : DatN (fun z => H19 z = none) H20 (.ref l20) (.list (rows20.map rowT)) := (hws20.weak (N' := fun z => H19 z = none) fun b xs z e => z.1).lst nl20 el20
      have ekp := s20 _ _ ekp
      have hpk20 := hpk19.same s20
      have hS20 := hS19.same s20
      have en20 := s20 _ _ en19
      have h040 := s20 _ _ h04
      have hn40 := s20 _ _ hn4
      have h050 := Pts.same h05 s20
      have hn50 := Pts.same hn5 s20
      have nd0 : ∀ z, H19 z = none → z ≠ l0 := fun z hz y => by rw [y, h04] at hz; cases hz
      have ndn : ∀ z, H19 z = none → z ≠ ln := fun z hz y => by rw [y, hn4] at hz; cases hz
      have hsd : ∀ {Hq : Hp} {l : Addr} {o : HO}, StAt Hq d c (t + 1 + 1 + 1) → l ∈ ls → (∃ vv, Hq l = some (.lst vv)) → StAt (upd Hq l o) d c (t + 1 + 1 + 1) := fun {Hq l o} hS hm he => hS.upd (fun y => by obtain ⟨vv, he⟩ := he; rw [y, hS.dict] at he; cases he) fun y => ncl (by rw [← y]; exact hm)
      refine ⟨_, _, rfl, ?_⟩
      have ek0 : pk1[i0]? = some pk1[i0] := List.getElem?_eq_getElem hi0
      have ekn : pk1[i9]? = some pk1[i9] := List.getElem?_eq_getElem hin
      revert ek0 ekn h050 hn50
      generalize pk1[i0] = k0
      generalize pk1[i9] = kn
      intro h050 hn50 ek0 ekn
      have hk0m : k0 ∈ pk1 := List.mem_of_getElem? ek0
      have hknm : kn ∈ pk1 := List.mem_of_getElem? ekn
      have hl00 : vs0.length ≤ 12 := by rw [h050.1]; exact (hgd18.own _ hk0m).1
      have hlnn : vsn.length ≤ 12 := by rw [hn50.1]; exact (hgd18.own _ hknm).1
      have kl0 : kp ≠ l0 := fun y => nkl (by rw [y]; exact hml0)
      have kln : kp ≠ ln := fun y => nkl (by rw [y]; exact hmln)
      have nl0 : nl ≠ l0 := fun y => nnl (by rw [y]; exact hml0)
      have nln : nl ≠ ln := fun y => nnl (by rw [y]; exact hmln)
      -- clear
      refine ⟨_, rfl, .inl ⟨rfl, _, SqL.of h040⟩, l0, _, rfl, rfl, h040, ?_⟩
      have hpkA := hpk20.put ek0 h02 (Pts.nil (H := H20))
      have hSA := hsd (o := .lst []) hS20 hml0 ⟨_, h040⟩
      have hdA := hdue20.keep (.upd (o := .lst []) h040 nd0)
      have elA : upd H20 l0 (.lst []) l0 = some (.lst []) := upd_same
      have enA : upd H20 l0 (.lst []) ln = some (.lst vsn) := by rw [upd_ne hl0n.symm]; exact hn40
      have ekA : upd H20 l0 (.lst []) kp = some (.lst vs0) := by rw [upd_ne kl0]; exact ekp
      have emA : upd H20 l0 (.lst []) nl = some (.lst (nms.map V.str)) := by rw [upd_ne nl0]; exact en20
      have hpA0 := Pts.upd_lst (o := .lst []) h050 h040
      have hpAn := Pts.upd_lst (o := .lst []) hn50 h040
      have ekA0 : (pk1.set i0 (k0.1, k0.2.1, []))[i0]? = some (k0.1, k0.2.1, []) := List.getElem?_set_self hi0
      revert hpkA hSA hdA elA enA ekA emA hpA0 hpAn
      generalize upd H20 l0 (.lst []) = HA
      intro hpkA hSA hdA elA enA ekA emA hpA0 hpAn
      -- extend
      refine ⟨_, rfl, .inl ⟨rfl, _, SqL.of elA⟩, _, rfl, l0, ln, [], vsn, rfl, rfl, elA, enA, by rw [sizeLine_eq]; show 0 + _ ≤ _; omega, ?_⟩
      have hpkB := hpkA.put (k := (k0.1, k0.2.1, [])) (vs' := [] ++ vsn) ekA0 h02 hpAn
      rw [List.set_set] at hpkB
      have hSB := hsd (o := .lst ([] ++ vsn)) hSA hml0 ⟨_, elA⟩
      have hdB := hdA.keep (.upd (o := .lst ([] ++ vsn)) elA nd0)
      have enB : upd HA l0 (.lst ([] ++ vsn)) ln = some (.lst vsn) := by rw [upd_ne hl0n.symm]; exact enA
      have ekB : upd HA l0 (.lst ([] ++ vsn)) kp = some (.lst vs0) := by rw [upd_ne kl0]; exact ekA
      have emB : upd HA l0 (.lst ([] ++ vsn)) nl = some (.lst (nms.map V.str)) := by rw [upd_ne nl0]; exact emA
      have hpB0 := Pts.upd_lst (o := .lst ([] ++ vsn)) hpA0 elA
      have hgdB := hgd18.set2 (ps := kn.2.2) ek0 (hgd18.own _ hknm).1 fun p' hp' => hgd18.ok p' (List.mem_flatMap.mpr ⟨_, hknm, hp'⟩)
      have ekBn : (pk1.set i0 (k0.1, k0.2.1, kn.2.2))[i9]? = some kn := by rw [List.getElem?_set_ne (by omega)]; exact ekn
      have hprB := allP_set (k' := (k0.1, k0.2.1, kn.2.2)) ek0
      have hlB : (pk1.set i0 (k0.1, k0.2.1, kn.2.2)).length = pk1.length := List.length_set
      have hk0ok : ∀ p' ∈ k0.2.2, Okp p' ∧ p'.1 ∈ xs ∧ (gr = 0 → p'.2.2 ≤ 970) := fun p' hp' => hgd18.ok p' (List.mem_flatMap.mpr ⟨_, hk0m, hp'⟩)
      revert hpkB hSB hdB enB ekB emB hpB0 hgdB ekBn hprB hlB
      generalize upd HA l0 (.lst ([] ++ vsn)) = HB
      generalize pk1.set i0 (k0.1, k0.2.1, kn.2.2) = pkB
      intro hpkB hSB hdB enB ekB emB hpB0 hgdB ekBn hprB hlB
      -- clear
      refine ⟨_, rfl, .inl ⟨rfl, _, SqL.of enB⟩, ln, _, rfl, rfl, enB, ?_⟩
      have hpkC := hpkB.put ekBn hn2 (Pts.nil (H := HB))
      have hSC := hsd (o := .lst []) hSB hmln ⟨_, enB⟩
      have hdC := hdB.keep (.upd (o := .lst []) enB ndn)
      have enC : upd HB ln (.lst []) ln = some (.lst []) := upd_same
      have ekC : upd HB ln (.lst []) kp = some (.lst vs0) := by rw [upd_ne kln]; exact ekB
      have emC : upd HB ln (.lst []) nl = some (.lst (nms.map V.str)) := by rw [upd_ne nln]; exact emB
      have hpC0 := Pts.upd_lst (o := .lst []) hpB0 enB
      have ekCn : (pkB.set i9 (kn.1, kn.2.1, []))[i9]? = some (kn.1, kn.2.1, []) := List.getElem?_set_self (by omega)
      revert hpkC hSC hdC enC ekC emC hpC0
      generalize upd HB ln (.lst []) = HC
      intro hpkC hSC hdC enC ekC emC hpC0
      -- extend
      refine ⟨_, rfl, .inl ⟨rfl, _, SqL.of enC⟩, _, rfl, ln, kp, [], vs0, rfl, rfl, enC, ekC, by rw [sizeLine_eq]; show 0 + _ ≤ _; omega, ?_⟩
      have hpkD := hpkC.put (k := (kn.1, kn.2.1, [])) (vs' := [] ++ vs0) ekCn hn2 hpC0
      rw [List.set_set] at hpkD
      have hSD := hsd (o := .lst ([] ++ vs0)) hSC hmln ⟨_, enC⟩
      have hdD := hdC.keep (.upd (o := .lst ([] ++ vs0)) enC ndn)
      have emD : upd HC ln (.lst ([] ++ vs0)) nl = some (.lst (nms.map V.str)) := by rw [upd_ne nln]; exact emC
      have hgdD := hgdB.set2 (ps := k0.2.2) ekBn (hgd18.own _ hk0m).1 hk0ok
      have hprD := allP_set (k' := (kn.1, kn.2.1, k0.2.2)) ekBn
      revert hpkD hSD hdD emD hgdD hprD
      generalize upd HC ln (.lst ([] ++ vs0)) = HD
      generalize pkB.set i9 (kn.1, kn.2.1, k0.2.2) = pk2
      intro hpkD hSD hdD emD hgdD hprD
      have hperm2 : (allP pk2).Perm (allP pk1) := (List.perm_append_right_iff kn.2.2).mp (hprD.trans hprB)
      have hgl2 := hgdD.len
      refine ⟨_, rfl, pl, _, pk2, xs, rfl, .inl hpkD.ep, hpkD.rel, by omega, fun p hp => (hgdD.ok p hp).1, fun p hp => (hgdD.ok p hp).2.1, by omega, fun l25 ws25 rows25 H25 nl25 el25 hws25 htw25 hrl25 hrr25 s25 => ?_⟩
      rw [(htw25.perm hperm2).one htw20] at hws25
      refine ⟨_, rfl, .ref l25, .ref l20, _, rfl, ((hws25.weak (N' := fun _ => True) fun _ _ _ _ => trivial).lst trivial el25).dat, (hdD.same s25).dat, sm_rows (by omega) hrr20, noBl_rows rows20, fun H26 s26 => ⟨_, rfl, iteF (INV H26 pk2 _ _ _ _ _ ((hSD.same s25).same s26) ((hpkD.same s25).same s26) hgdD (s26 _ _ (s25 _ _ emD)))⟩⟩
    · obtain ⟨_, _, _, _, _, _, _, _, _, _, _, _, _, _, _, _, _, rfl, _⟩ := hP
      exact q _
end

/-! ### the end: what the top has left, the tables of code objects among it -/
/-- each def of the text has a code object with an empty table -/
def Tabs (q : Program) (mg : Str → Option Value) (h : Heap) : Prop := ∀ dr ∈ recsOf q, ∃ (f : Addr) (o : Obj) (fd : FuncData) (c P : Addr), mg dr.name = some (.ref f) ∧ h.get? f = some o ∧ o.data = .func fd ∧ fd.code = .ref c ∧ PySem.W.CodeHd h c P ∧ h.get? P = some (PySem.W.tabObj #[])
theorem tab_in {q : Program} {mg : Str → Option Value} {h : Heap} {K : PySem.W.Frag} {y : Str} {f c P : Addr} {oc e : Value} {od dd : Option Addr} {fd : FuncData} {osl sl : Array (Option Value)} {vs : Array Value} (TT : Tabs q mg h) (X : K.In h) (rec : ((recsOf q).any fun r => r.name == y) = true)
    (g : mg y = some (.ref f)) (lf : K.lookup f = some ⟨oc, od, .func fd, osl⟩) (hc : fd.code = .ref c) (lc : K.lookup c = some ⟨e, dd, .fields vs, sl⟩) (v : vs[11]? = some (.ref P)) : PySem.W.CodeHd h c P ∧ h.get? P = some (PySem.W.tabObj #[]) := by
  obtain ⟨dr, mem, nm⟩ := List.any_eq_true.mp rec
  obtain ⟨f', o', fd', c', P', t1, t2, t3, t4, t5, t6⟩ := TT dr mem
  have ef : f' = f := by
    rw [beq_iff_eq.mp nm, g] at t1
    exact (Value.ref.inj (Option.some.inj t1)).symm
  rw [ef, X _ _ lf] at t2
  rw [← Option.some.inj t2] at t3
  have efd : fd = fd' := Data.func.inj t3
  rw [← efd, hc] at t4
  have ec : c = c' := Value.ref.inj t4
  rw [← ec] at t5
  have t5' := t5
  obtain ⟨oc', us, _, _, _, _, _, _, _, u1, _, u3, u4, _⟩ := t5'
  rw [X _ _ lc] at u1
  rw [← Option.some.inj u1] at u3
  have eu : vs = us := Data.fields.inj u3
  rw [← eu, v] at u4
  have eP : P = P' := Value.ref.inj (Option.some.inj u4)
  rw [eP]
  exact ⟨t5, t6⟩
theorem law_end {l : PySem.W.OpenLaw} {k : Nat} {q : Program} {loose : List Str} {XP : (Str → Option Value) → Heap → Prop} {YP : World → Heap → Prop} {d : DefRec} {K : Params → PySem.W.Frag} (most : l.most = some 63) (plain : d.params.defaults = []) (room : Room k callerA)
    (part : ∀ w h, YP w h → (K w.params).In h) (made : ∀ (w : World) (mg : Str → Option Value) (f : Addr) (h : Heap), (K w.params).In h → h.Ns mainGlobals mg → mg d.name = some (.ref f) → Tabs q mg h → LamX.LawAtS l w (K w.params) CX0 k 63 "_law_script" mg f h) : PySem.W.WalkO q loose XP YP l.row.toRowW d [] (fun f vs => PySem.call f vs) := by
  refine Att.attach_callB most plain ?_
  intro w _ s₁ mg _ f _ _ _ _ a vs ns ground said _ _ _ name script nums len size still
  have X := part w _ said
  have tabs : Tabs q mg s₁.heap := fun dr mem => by
    obtain ⟨f', o', fd', c', P', t1, t2, t3, t4, t5, t6⟩ := ground.T.tab dr mem
    exact ⟨f', o', fd', c', P', t1, t2, t3, t4, PySem.W.CodeHd.of t5 t6, t6.2⟩
  obtain ⟨fd, cs, sp, e1, e2, e3, e4, e5, e6⟩ := made w mg f _ X ground.T.g name tabs
  exact LamX.law_callTs X ground.T.g ground.T.b ground.T.builtins ground.T.nolimit still e1 e2 e3 ground.T.bmain script nums (Nat.le_trans len (by decide)) room e6 e4 (fun H z1 z2 => e5 H a ns len size z1 z2) fun _ _ _ z => z

theorem all_mk {l : PySem.W.OpenLaw} {q : Program} {w : World} {K : PySem.W.Frag} {h : Heap} {mg : Str → Option Value} {fa f0 f1 f2 f3 f4 f5 f6 f7 f8 f9 f10 f11 f12 f13 f14 : Addr} (X : K.In h) (G : h.Ns mainGlobals mg) (hfa : mg "law" = some (.ref fa)) (TT : Tabs q mg h)
    {od0 an0 od1 an1 od2 an2 od3 an3 od4 an4 od5 an5 od6 an6 od7 an7 od8 an8 od9 an9 od10 an10 od11 an11 od12 an12 od13 an13 od14 an14 : Option Addr} {sl0 sl1 sl2 sl3 sl4 sl5 sl6 sl7 sl8 sl9 sl10 sl11 sl12 sl13 sl14 : Array (Option Value)} {oc0 kV0 dc0 pm0 ct0 cd0 oc1 kV1 dc1 pm1 ct1 cd1 oc2 kV2 dc2 pm2 ct2 cd2 oc3 kV3 dc3 pm3 ct3 cd3 oc4 kV4 dc4 pm4 ct4 cd4 oc5 kV5 dc5 pm5 ct5 cd5 oc6 kV6 dc6 pm6 ct6 cd6 oc7 kV7 dc7 pm7 ct7 cd7 oc8 kV8 dc8 pm8 ct8 cd8 oc9 kV9 dc9 pm9 ct9 cd9 oc10 kV10 dc10 pm10 ct10 cd10 oc11 kV11 dc11 pm11 ct11 cd11 oc12 kV12 dc12 pm12 ct12 cd12 oc13 kV13 dc13 pm13 ct13 cd13 oc14 kV14 dc14 pm14 ct14 cd14 : Value}
    (a0 : PySem.W.nsIn K mainGlobals "set_of" = some (some (.ref f0))) (l0 : K.lookup f0 = some ⟨oc0, od0, .func (PySem.W.fnOf "set_of" "set_of" (defArgs sSetOf) (defBody sSetOf) (defScope sSetOf) .none kV0 dc0 pm0 an0 cd0 ct0), sl0⟩) (c0' : PySem.W.codeIn K cd0 "set_of" = true) (k0 : PySem.W.keepIn K (.ref f0) = true)
    (a1 : PySem.W.nsIn K mainGlobals "twice_in" = some (some (.ref f1))) (l1 : K.lookup f1 = some ⟨oc1, od1, .func (PySem.W.fnOf "twice_in" "twice_in" (defArgs sTwIn) (defBody sTwIn) (defScope sTwIn) .none kV1 dc1 pm1 an1 cd1 ct1), sl1⟩) (c1' : PySem.W.codeIn K cd1 "twice_in" = true) (k1 : PySem.W.keepIn K (.ref f1) = true)
    (a2 : PySem.W.nsIn K mainGlobals "packed_twice" = some (some (.ref f2))) (l2 : K.lookup f2 = some ⟨oc2, od2, .func (PySem.W.fnOf "packed_twice" "packed_twice" (defArgs sPkTw) (defBody sPkTw) (defScope sPkTw) .none kV2 dc2 pm2 an2 cd2 ct2), sl2⟩) (c2' : PySem.W.codeIn K cd2 "packed_twice" = true) (k2 : PySem.W.keepIn K (.ref f2) = true)
    (a3 : PySem.W.nsIn K mainGlobals "_law_begin" = some (some (.ref f3))) (l3 : K.lookup f3 = some ⟨oc3, od3, .func (PySem.W.fnOf "_law_begin" "_law_begin" (defArgs sBegin) (defBody sBegin) (defScope sBegin) .none kV3 dc3 pm3 an3 cd3 ct3), sl3⟩) (c3' : PySem.W.codeIn K cd3 "_law_begin" = true) (k3 : PySem.W.keepIn K (.ref f3) = true)
    (a4 : PySem.W.nsIn K mainGlobals "_law_take" = some (some (.ref f4))) (l4 : K.lookup f4 = some ⟨oc4, od4, .func (PySem.W.fnOf "_law_take" "_law_take" (defArgs sTake) (defBody sTake) (defScope sTake) .none kV4 dc4 pm4 an4 cd4 ct4), sl4⟩) (c4' : PySem.W.codeIn K cd4 "_law_take" = true) (k4 : PySem.W.keepIn K (.ref f4) = true)
    (a5 : PySem.W.nsIn K mainGlobals "_law_same" = some (some (.ref f5))) (l5 : K.lookup f5 = some ⟨oc5, od5, .func (PySem.W.fnOf "_law_same" "_law_same" (defArgs sSame) (defBody sSame) (defScope sSame) .none kV5 dc5 pm5 an5 cd5 ct5), sl5⟩) (c5' : PySem.W.codeIn K cd5 "_law_same" = true) (k5 : PySem.W.keepIn K (.ref f5) = true)
    (a6 : PySem.W.nsIn K mainGlobals "_law_number" = some (some (.ref f6))) (l6 : K.lookup f6 = some ⟨oc6, od6, .func (PySem.W.fnOf "_law_number" "_law_number" (defArgs sNumber) (defBody sNumber) (defScope sNumber) .none kV6 dc6 pm6 an6 cd6 ct6), sl6⟩) (c6' : PySem.W.codeIn K cd6 "_law_number" = true) (k6 : PySem.W.keepIn K (.ref f6) = true)
    (a7 : PySem.W.nsIn K mainGlobals "_law_names" = some (some (.ref f7))) (l7 : K.lookup f7 = some ⟨oc7, od7, .func (PySem.W.fnOf "_law_names" "_law_names" (defArgs sNames) (defBody sNames) (defScope sNames) .none kV7 dc7 pm7 an7 cd7 ct7), sl7⟩) (c7' : PySem.W.codeIn K cd7 "_law_names" = true) (k7 : PySem.W.keepIn K (.ref f7) = true)
    (a8 : PySem.W.nsIn K mainGlobals "_law_marks_by" = some (some (.ref f8))) (l8 : K.lookup f8 = some ⟨oc8, od8, .func (PySem.W.fnOf "_law_marks_by" "_law_marks_by" (defArgs sMarks) (defBody sMarks) (defScope sMarks) .none kV8 dc8 pm8 an8 cd8 ct8), sl8⟩) (c8' : PySem.W.codeIn K cd8 "_law_marks_by" = true) (k8 : PySem.W.keepIn K (.ref f8) = true)
    (a9 : PySem.W.nsIn K mainGlobals "_law_set_of" = some (some (.ref f9))) (l9 : K.lookup f9 = some ⟨oc9, od9, .func (PySem.W.fnOf "_law_set_of" "_law_set_of" (defArgs sLSet) (defBody sLSet) (defScope sLSet) .none kV9 dc9 pm9 an9 cd9 ct9), sl9⟩) (c9' : PySem.W.codeIn K cd9 "_law_set_of" = true) (k9 : PySem.W.keepIn K (.ref f9) = true)
    (a10 : PySem.W.nsIn K mainGlobals "_law_parts_by" = some (some (.ref f10))) (l10 : K.lookup f10 = some ⟨oc10, od10, .func (PySem.W.fnOf "_law_parts_by" "_law_parts_by" (defArgs sParts) (defBody sParts) (defScope sParts) .none kV10 dc10 pm10 an10 cd10 ct10), sl10⟩) (c10' : PySem.W.codeIn K cd10 "_law_parts_by" = true) (k10 : PySem.W.keepIn K (.ref f10) = true)
    (a11 : PySem.W.nsIn K mainGlobals "_law_packing_by" = some (some (.ref f11))) (l11 : K.lookup f11 = some ⟨oc11, od11, .func (PySem.W.fnOf "_law_packing_by" "_law_packing_by" (defArgs sPackBy) (defBody sPackBy) (defScope sPackBy) .none kV11 dc11 pm11 an11 cd11 ct11), sl11⟩) (c11' : PySem.W.codeIn K cd11 "_law_packing_by" = true) (k11 : PySem.W.keepIn K (.ref f11) = true)
    (a12 : PySem.W.nsIn K mainGlobals "_law_due" = some (some (.ref f12))) (l12 : K.lookup f12 = some ⟨oc12, od12, .func (PySem.W.fnOf "_law_due" "_law_due" (defArgs sLDue) (defBody sLDue) (defScope sLDue) .none kV12 dc12 pm12 an12 cd12 ct12), sl12⟩) (c12' : PySem.W.codeIn K cd12 "_law_due" = true) (k12 : PySem.W.keepIn K (.ref f12) = true)
    (a13 : PySem.W.nsIn K mainGlobals "_law_counted" = some (some (.ref f13))) (l13 : K.lookup f13 = some ⟨oc13, od13, .func (PySem.W.fnOf "_law_counted" "_law_counted" (defArgs sLCnt) (defBody sLCnt) (defScope sLCnt) .none kV13 dc13 pm13 an13 cd13 ct13), sl13⟩) (c13' : PySem.W.codeIn K cd13 "_law_counted" = true) (k13 : PySem.W.keepIn K (.ref f13) = true)
    (a14 : PySem.W.nsIn K mainGlobals "law" = some (some (.ref f14))) (l14 : K.lookup f14 = some ⟨oc14, od14, .func (PySem.W.fnOf "law" "law" (defArgs sLaw) (defBody sLaw) (defScope sLaw) .none kV14 dc14 pm14 an14 cd14 ct14), sl14⟩) (c14' : PySem.W.codeIn K cd14 "law" = true) (k14 : PySem.W.keepIn K (.ref f14) = true)
    (z_all : PySem.W.nsIn K mainGlobals "all" = some none) (z_any : PySem.W.nsIn K mainGlobals "any" = some none) (z_bool : PySem.W.nsIn K mainGlobals "bool" = some none) (z_dict : PySem.W.nsIn K mainGlobals "dict" = some none) (z_divmod : PySem.W.nsIn K mainGlobals "divmod" = some none) (z_int : PySem.W.nsIn K mainGlobals "int" = some none) (z_isinstance : PySem.W.nsIn K mainGlobals "isinstance" = some none) (z_len : PySem.W.nsIn K mainGlobals "len" = some none) (z_list : PySem.W.nsIn K mainGlobals "list" = some none) (z_max : PySem.W.nsIn K mainGlobals "max" = some none) (z_min : PySem.W.nsIn K mainGlobals "min" = some none) (z_range : PySem.W.nsIn K mainGlobals "range" = some none) (z_set : PySem.W.nsIn K mainGlobals "set" = some none) (z_sorted : PySem.W.nsIn K mainGlobals "sorted" = some none) (z_str : PySem.W.nsIn K mainGlobals "str" = some none) (z_sum : PySem.W.nsIn K mainGlobals "sum" = some none) (z_tuple : PySem.W.nsIn K mainGlobals "tuple" = some none) (z_zip : PySem.W.nsIn K mainGlobals "zip" = some none) :
    LamX.LawAtS l w K CX0 6 63 "_law_script" mg fa h := by
  cases hfa.symm.trans (PySem.W.mg_of X G a14)
  have F0 := fun_mk (st := sSetOf) l0 c0' k0
  have b0 := F0.binds (ps := ["pairs"]) fun _ _ _ _ _ _ us hl => match us, hl with | [_], _ => rfl
  have F1 := fun_mk (st := sTwIn) l1 c1' k1
  have b1 := F1.binds (ps := ["pairs"]) fun _ _ _ _ _ _ us hl => match us, hl with | [_], _ => rfl
  have F2 := fun_mk (st := sPkTw) l2 c2' k2
  have b2 := F2.binds (ps := ["packings"]) fun _ _ _ _ _ _ us hl => match us, hl with | [_], _ => rfl
  have F3 := fun_mk (st := sBegin) l3 c3' k3
  have b3 := F3.binds (ps := ["_law_script"]) fun _ _ _ _ _ _ us hl => match us, hl with | [_], _ => rfl
  have F4 := fun_mk (st := sTake) l4 c4' k4
  have b4 := F4.binds (ps := ["_law_state", "_law_many"]) fun _ _ _ _ _ _ us hl => match us, hl with | [_, _], _ => rfl
  have F5 := fun_mk (st := sSame) l5 c5' k5
  have b5 := F5.binds (ps := ["_law_found", "_law_due_here"]) fun _ _ _ _ _ _ us hl => match us, hl with | [_, _], _ => rfl
  have F6 := fun_mk (st := sNumber) l6 c6' k6
  have b6 := F6.binds (ps := ["_law_state", "_law_sort"]) fun _ _ _ _ _ _ us hl => match us, hl with | [_, _], _ => rfl
  have F7 := fun_mk (st := sNames) l7 c7' k7
  have b7 := F7.binds (ps := ["_law_state", "_law_many"]) fun _ _ _ _ _ _ us hl => match us, hl with | [_, _], _ => rfl
  have F8 := fun_mk (st := sMarks) l8 c8' k8
  have b8 := F8.binds (ps := ["_law_state", "_law_many"]) fun _ _ _ _ _ _ us hl => match us, hl with | [_, _], _ => rfl
  have F9 := fun_mk (st := sLSet) l9 c9' k9
  have b9 := F9.binds (ps := ["_law_pairs"]) fun _ _ _ _ _ _ us hl => match us, hl with | [_], _ => rfl
  have F10 := fun_mk (st := sParts) l10 c10' k10
  have b10 := F10.binds (ps := ["_law_state", "_law_marks", "_law_many", "_law_great"]) fun _ _ _ _ _ _ us hl => match us, hl with | [_, _, _, _], _ => rfl
  have F11 := fun_mk (st := sPackBy) l11 c11' k11
  have b11 := F11.binds (ps := ["_law_state", "_law_name", "_law_marks", "_law_great"]) fun _ _ _ _ _ _ us hl => match us, hl with | [_, _, _, _], _ => rfl
  have F12 := fun_mk (st := sLDue) l12 c12' k12
  have b12 := F12.binds (ps := ["_law_packings"]) fun _ _ _ _ _ _ us hl => match us, hl with | [_], _ => rfl
  have F13 := fun_mk (st := sLCnt) l13 c13' k13
  have b13 := F13.binds (ps := ["_law_packings"]) fun _ _ _ _ _ _ us hl => match us, hl with | [_], _ => rfl
  have F14 := fun_mk (st := sLaw) l14 c14' k14
  have m_all := PySem.W.mg_none_of X G z_all
  have m_any := PySem.W.mg_none_of X G z_any
  have m_bool := PySem.W.mg_none_of X G z_bool
  have m_dict := PySem.W.mg_none_of X G z_dict
  have m_divmod := PySem.W.mg_none_of X G z_divmod
  have m_int := PySem.W.mg_none_of X G z_int
  have m_isinstance := PySem.W.mg_none_of X G z_isinstance
  have m_len := PySem.W.mg_none_of X G z_len
  have m_list := PySem.W.mg_none_of X G z_list
  have m_max := PySem.W.mg_none_of X G z_max
  have m_min := PySem.W.mg_none_of X G z_min
  have m_range := PySem.W.mg_none_of X G z_range
  have m_set := PySem.W.mg_none_of X G z_set
  have m_sorted := PySem.W.mg_none_of X G z_sorted
  have m_str := PySem.W.mg_none_of X G z_str
  have m_sum := PySem.W.mg_none_of X G z_sum
  have m_tuple := PySem.W.mg_none_of X G z_tuple
  have m_zip := PySem.W.mg_none_of X G z_zip
  refine ⟨PySem.W.fnOf "law" "law" (defArgs sLaw) (defBody sLaw) (defScope sLaw) .none kV14 dc14 pm14 an14 cd14 ct14, [], spLaw K, (fun p hp => nomatch hp), (fun p hp => nomatch hp), (fun p hp => nomatch hp), fun s v => .of_eq rfl, fun H a ns hl _ hH hS => ?_, fun base _ _ TB => ?_⟩
  ·  exact ⟨a, ns, rfl, hS, hl, fun _ => rfl⟩
  · have g := fun {x : Str} {f : Addr} (a : PySem.W.nsIn K mainGlobals x = some (some (.ref f))) => PySem.W.mg_of X G a
    have CT : Cal l.prog w K mg base 1 "_law_take" ["_law_state", "_law_many"] spTake := ⟨_, _, ok_take F4 m_len m_divmod, g a4, k4, b4⟩
    have CB : Cal l.prog w K mg base 1 "_law_begin" ["_law_script"] (spBegin K) := ⟨_, _, ok_begin F3 m_list, g a3, k3, b3⟩
    have CU : Cal l.prog w K mg base 2 "_law_number" ["_law_state", "_law_sort"] spNumber := ⟨_, _, ok_number F6 CT m_range, g a6, k6, b6⟩
    have CN : Cal l.prog w K mg base 2 "_law_names" ["_law_state", "_law_many"] spNames := ⟨_, _, ok_Names F7 CT m_range m_len, g a7, k7, b7⟩
    have CM : Cal l.prog w K mg base 2 "_law_marks_by" ["_law_state", "_law_many"] spNames := ⟨_, _, ok_Marks F8 CT m_range m_len, g a8, k8, b8⟩
    have SO : Cal l.prog w K mg base 1 "set_of" ["pairs"] (spSetOf K) := ⟨_, _, ok_setof F0 m_sorted m_max, g a0, k0, b0⟩
    have LS : Cal l.prog w K mg base 1 "_law_set_of" ["_law_pairs"] spLSet := ⟨_, _, ok_lset F9 m_sorted m_max, g a9, k9, b9⟩
    have PA : Cal l.prog w K mg base 3 "_law_parts_by" ["_law_state", "_law_marks", "_law_many", "_law_great"] spParts := ⟨_, _, ok_parts F10 CT CU m_range m_len m_max, g a10, k10, b10⟩
    have PB : Cal l.prog w K mg base 4 "_law_packing_by" ["_law_state", "_law_name", "_law_marks", "_law_great"] spPackBy := ⟨_, _, ok_packby F11 CT CU PA m_sum m_max, g a11, k11, b11⟩
    have E0_ : Cal l.prog w K mg base 1 "_law_same" ["_law_found", "_law_due_here"] (spSame 0) := ⟨_, _, ok_same0 F5 m_isinstance m_list m_tuple m_bool m_str m_int, g a5, k5, b5⟩
    have E1_ : Cal l.prog w K mg base 2 "_law_same" ["_law_found", "_law_due_here"] (spSame 1) := ⟨_, _, ok_sameS F5 E0_ m_isinstance m_list m_tuple m_bool m_str m_int m_len m_all m_zip, g a5, k5, b5⟩
    have E2_ : Cal l.prog w K mg base 3 "_law_same" ["_law_found", "_law_due_here"] (spSame 2) := ⟨_, _, ok_sameS F5 E1_ m_isinstance m_list m_tuple m_bool m_str m_int m_len m_all m_zip, g a5, k5, b5⟩
    have E3_ : Cal l.prog w K mg base 4 "_law_same" ["_law_found", "_law_due_here"] (spSame 3) := ⟨_, _, ok_sameS F5 E2_ m_isinstance m_list m_tuple m_bool m_str m_int m_len m_all m_zip, g a5, k5, b5⟩
    have E4_ : Cal l.prog w K mg base 5 "_law_same" ["_law_found", "_law_due_here"] (spSame 4) := ⟨_, _, ok_sameS F5 E3_ m_isinstance m_list m_tuple m_bool m_str m_int m_len m_all m_zip, g a5, k5, b5⟩
    have TI : Cal l.prog w K mg base 2 "twice_in" ["pairs"] (spTwIn K) := ⟨_, _, ok_TwIn F1 SO m_sorted m_min m_max, g a1, k1, b1⟩
    have PT : Cal l.prog w K mg base 3 "packed_twice" ["packings"] (spPkTw K) := ⟨_, _, ok_PkTw F2 TI m_sorted, g a2, k2, b2⟩
    have LD : Cal l.prog w K mg base 2 "_law_due" ["_law_packings"] spLDue := ⟨_, _, ok_LDue F12 LS m_sorted m_set m_zip m_len, g a12, k12, b12⟩
    have LC : Cal l.prog w K mg base 2 "_law_counted" ["_law_packings"] spLCnt := ⟨_, _, ok_LCnt F13 LS m_range m_sorted m_set, g a13, k13, b13⟩
    exact ok_Law F14 CB CM CT CN PB LD LC PT E4_ m_range m_tuple m_len m_dict m_any m_list
end TK
open PySem PySem.W PyProof.Rows
set_option maxHeartbeats 0 in
theorem PySem.Challenge.cw_tinrecall_k27_packed_twice_holds : PySem.Challenge.rw_tinrecall_k27_packed_twice.Holds := by
  w_on; o_law; k_head; (case hw => w_witness2)
  k_fill
  refine TK.law_end (l := PySem.Challenge.rw_tinrecall_k27_packed_twice) (k := 6) rfl rfl ⟨rfl, by decide, by decide⟩ (fun w h Y => PySem.W.kIn_of Y) ?made
  case made =>
    intro w mg f h KX G hmg TT
    refine' TK.all_mk KX G hmg TT ?a0 ?l0 ?c0 ?k0 ?a1 ?l1 ?c1 ?k1 ?a2 ?l2 ?c2 ?k2 ?a3 ?l3 ?c3 ?k3 ?a4 ?l4 ?c4 ?k4 ?a5 ?l5 ?c5 ?k5 ?a6 ?l6 ?c6 ?k6 ?a7 ?l7 ?c7 ?k7 ?a8 ?l8 ?c8 ?k8 ?a9 ?l9 ?c9 ?k9 ?a10 ?l10 ?c10 ?k10 ?a11 ?l11 ?c11 ?k11 ?a12 ?l12 ?c12 ?k12 ?a13 ?l13 ?c13 ?k13 ?a14 ?l14 ?c14 ?k14 ?z_all ?z_any ?z_bool ?z_dict ?z_divmod ?z_int ?z_isinstance ?z_len ?z_list ?z_max ?z_min ?z_range ?z_set ?z_sorted ?z_str ?z_sum ?z_tuple ?z_zip
    (case a0 => k_is); (case l0 => k_is); (case c0 => k_is); (case k0 => k_is)
    (case a1 => k_is); (case l1 => k_is); (case c1 => k_is); (case k1 => k_is)
    (case a2 => k_is); (case l2 => k_is); (case c2 => k_is); (case k2 => k_is)
    (case a3 => k_is); (case l3 => k_is); (case c3 => k_is); (case k3 => k_is)
    (case a4 => k_is); (case l4 => k_is); (case c4 => k_is); (case k4 => k_is)
    (case a5 => k_is); (case l5 => k_is); (case c5 => k_is); (case k5 => k_is)
    (case a6 => k_is); (case l6 => k_is); (case c6 => k_is); (case k6 => k_is)
    (case a7 => k_is); (case l7 => k_is); (case c7 => k_is); (case k7 => k_is)
    (case a8 => k_is); (case l8 => k_is); (case c8 => k_is); (case k8 => k_is)
    (case a9 => k_is); (case l9 => k_is); (case c9 => k_is); (case k9 => k_is)
    (case a10 => k_is); (case l10 => k_is); (case c10 => k_is); (case k10 => k_is)
    (case a11 => k_is); (case l11 => k_is); (case c11 => k_is); (case k11 => k_is)
    (case a12 => k_is); (case l12 => k_is); (case c12 => k_is); (case k12 => k_is)
    (case a13 => k_is); (case l13 => k_is); (case c13 => k_is); (case k13 => k_is)
    (case a14 => k_is); (case l14 => k_is); (case c14 => k_is); (case k14 => k_is)
    (case z_all => k_is); (case z_any => k_is); (case z_bool => k_is); (case z_dict => k_is); (case z_divmod => k_is); (case z_int => k_is); (case z_isinstance => k_is); (case z_len => k_is); (case z_list => k_is); (case z_max => k_is); (case z_min => k_is); (case z_range => k_is); (case z_set => k_is); (case z_sorted => k_is); (case z_str => k_is); (case z_sum => k_is); (case z_tuple => k_is); (case z_zip => k_is)

