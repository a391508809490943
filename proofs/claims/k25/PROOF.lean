import PyProof.Rows.All
import Wide.All
import OpenK.AllK
import Wide.FinOn
import HandS.ForMost
import HandS.WideBits
import HandS.IsInst
import HandS.Style
import HandS.AnyAll
import HandS.Nested
import HandS.Walk
import HandS.Evl
import HandS.EndTab
import HandS.SortInts
import HandS.SortRule
import HandS.Conv
import HandS.Star
import HandS.Codes
import HandS.Wide
import HandS.Zip
import HandS.DictComp
import HandS.Small
import HandS.More
import KE.KDictPairs
import KE.GoesMore
import KE.GoesEnum
import PyProof.SumAny
import PyProof.WalksPairs
import PyProof.GenCompT
import PySem.Challenge.RW_tinrecall_k25_cases_by_trying_all
set_option Elab.async false
set_option linter.all false
set_option maxRecDepth 100000
set_option maxHeartbeats 5000000
/-! ## sum(.. for a, b in ..): a generator expression over a list or a tuple of pairs of whole numbers -/
namespace GP
open PySem PySem.Spec PyProof.Rows L2 GxR

/-- a walk whose items are tuples that stand still -/
theorem asTuples {prog : Program} {w : World} {A : Around} {it : Addr} {foot : List Addr} {n : Nat} {Item : Nat → Value → Prop} {At : Nat → Heap → Prop} (W : Walks prog w A it foot [it] n Item At) (loc : Nat → Addr) (held : Nat → Array Value)
    (isT : ∀ j v, j < n → Item j v → v = .ref (loc j)) (apt : ∀ j, j < n → loc j ≠ it)
    (letGo : ∀ (es : List Expr) (k : Nat) (pos : Pos) (j : Nat) (T : Addr) (s : Shared) (Q : Unit → Shared → Prop) (E : Value → Shared → Prop), At j s.heap → Q () s → wpAny (model prog w) A (letOwnedTupleGo (.Tuple es k pos) (.ref it) (.ref T)) Q E s) :
    WalksU prog w A it (foot ++ (List.range n).map loc) [it] n (fun j xs => xs = held j) (fun j h => At j h ∧ ∀ m, m < n → h.IsTuple (loc m) (held m))
      (fun j T h => (j < n ∧ T = loc j) ∧ At (j + 1) h ∧ ∀ m, m < n → h.IsTuple (loc m) (held m)) := by
  have inFoot : ∀ m, m < n → loc m ∈ foot ++ (List.range n).map loc := fun m hm => List.mem_append.mpr (.inr (List.mem_map.mpr ⟨m, List.mem_range.mpr hm, rfl⟩))
  constructor
  case sub => exact fun b hb => List.mem_append.mpr (.inl (W.sub b hb))
  case frame =>
    intro j h h' ⟨a1, a2⟩ kept
    refine ⟨W.frame j h h' a1 fun b hb => kept b (List.mem_append.mpr (.inl hb)), fun m hm => ?_⟩
    obtain ⟨o, e, r⟩ := a2 m hm
    exact ⟨o, kept _ (inFoot m hm) o e, r⟩
  case item =>
    intro j s Q E hj ⟨a1, a2⟩ fin
    refine W.item j s Q E hj a1 fun v h' tk hv a1' kept => ?_
    have still : ∀ m, m < n → h'.IsTuple (loc m) (held m) := fun m hm => by
      obtain ⟨o, e, r⟩ := a2 m hm
      exact ⟨o, kept _ o (fun z => apt m hm (List.mem_singleton.mp z)) e, r⟩
    rw [isT j v hj hv]
    exact fin (loc j) (held j) h' tk rfl (still j hj) ⟨⟨hj, rfl⟩, a1', still⟩ kept
  case go =>
    intro es k pos j T s Q E hm fin
    exact letGo es k pos (j + 1) T s Q E hm.2.1 (fin s.heap hm.2 fun _ _ _ e => e)
  case apart =>
    intro j T h hm z
    rw [hm.1.2] at z
    exact apt j hm.1.1 (List.mem_singleton.mp z)
  case done => exact fun s Q E a fin => W.done s Q E a.1 fin
  case self => exact fun j s Q E a fin => W.self j s Q E a.1 fin

/-- the values vs are tuples that hold the pairs ps -/
def Prs (H : Hp) (vs : List V) (ps : List (Int × Int)) : Prop := vs.length = ps.length ∧ ∀ (i : Nat) p, ps[i]? = some p → ∃ a, vs[i]? = some (.ref a) ∧ H a = some (.tup [.int p.1, .int p.2])

/-- what is asked of the expression's own scope: the two names are its locals, its captured names are the def's -/
def OwnScope (env : Env) (sc : Scope) (xa xb : Str) : Prop :=
  (sc.kind = .function ∧ sc.isCoroutine = false ∧ xa ≠ xb) ∧ (sc.names.lookup (".0" : Str) = some .local ∧ sc.names.lookup xa = some .local ∧ sc.names.lookup xb = some .local) ∧
  (∀ y ∈ sc.names, y.2 ≠ NameKind.cell) ∧ ∀ y ∈ sc.names, y.2 = NameKind.free → ∃ c, env.cells.lookup y.1 = some c

section
variable {X : Cx} {s : Shared} {H : Hp} {σ : L2.St} {pins : List (Addr × Obj)}
/-- a tracked pair in the machine's heap -/
theorem pair_in {T : Addr} {p : Int × Int} (I : Inv X pins σ H s) (e : H T = some (.tup [.int p.1, .int p.2])) : ∃ ta tb, s.heap.IsTuple T #[.int p.1 ta, .int p.2 tb] := by
  obtain ⟨_, its, r, t⟩ := I.hok T _ e
  cases r with
  | cons q1 r =>
    cases r with
    | cons q2 r =>
      cases r
      obtain ⟨ta, rfl⟩ := q1
      obtain ⟨tb, rfl⟩ := q2
      exact ⟨ta, tb, t⟩
/-- the pairs by place: where they stand and what they hold -/
theorem pairs_in {vs : List V} {ps : List (Int × Int)} {its : List Value} (I : Inv X pins σ H s) (hp : Prs H vs ps) (r : Vals vs its) :
    ∃ (loc : Nat → Addr) (held : Nat → Array Value), ∀ j, j < ps.length → its[j]? = some (.ref (loc j)) ∧ s.heap.IsTuple (loc j) (held j) ∧ ∃ p ta tb, ps[j]? = some p ∧ held j = #[.int p.1 ta, .int p.2 tb] := by
  have one : ∀ j, ∃ (T : Addr) (xs : Array Value), j < ps.length → its[j]? = some (.ref T) ∧ s.heap.IsTuple T xs ∧ ∃ p ta tb, ps[j]? = some p ∧ xs = #[.int p.1 ta, .int p.2 tb] := fun j => by
    by_cases hj : j < ps.length
    · obtain ⟨T, e1, e2⟩ := hp.2 j ps[j] (List.getElem?_eq_getElem hj)
      obtain ⟨u, eu, ru⟩ := r.get e1
      cases ru
      obtain ⟨ta, tb, t⟩ := pair_in I e2
      exact ⟨T, _, fun _ => ⟨eu, t, ps[j], ta, tb, List.getElem?_eq_getElem hj, rfl⟩⟩
    · exact ⟨0, #[], fun z => absurd z hj⟩
  exact ⟨fun j => (one j).choose, fun j => (one j).choose_spec.choose, fun j hj => (one j).choose_spec.choose_spec hj⟩

/-- what a walk over the pairs is, begun at the new iterator that o is -/
def Begun (X : Cx) (s : Shared) (P : Addr) (ps : List (Int × Int)) (o : Obj) : Prop :=
  ∃ (foot : List Addr) (Hold : Nat → Array Value → Prop) (At : Nat → Heap → Prop) (Mid : Nat → Addr → Heap → Prop),
    (∀ A' : Around, A'.handled = none → WalksU X.prog X.w A' s.heap.objs.size foot [s.heap.objs.size] ps.length (fun j xs => j < ps.length ∧ Hold j xs) At Mid) ∧
    (∀ j xs, j < ps.length → Hold j xs → ∃ p ta tb, ps[j]? = some p ∧ xs = #[.int p.1 ta, .int p.2 tb]) ∧ At 0 (s.heap.push o) ∧ ∀ b ∈ foot, b < s.heap.objs.size + 1 ∧ b ≠ P
theorem begin_pairs {a P : Addr} {vs : List V} {ps : List (Int × Int)} {tb : Array Value} {Q' : Value → Shared → Prop} (I : Inv X pins σ H s) (hS : SqL X.K H a vs ∨ SqT X.K H a vs) (hp : Prs H vs ps) (hP : H P = some (.tbl tb))
    (fin : ∀ o, Begun X s P ps o → Q' (.ref s.heap.objs.size) { s with heap := s.heap.push o }) : wpAny (model X.prog X.w) X.A (pyIter (.ref a)) Q' X.xe s := by
  have hPo : s.heap.get? P = some { cls := .none, data := .fields tb } := I.hok P _ hP
  have notP : ∀ (b : Addr) (o : Obj) (xs : Array Value) (n : Nat), s.heap.get? b = some o → o.data = .seq xs n → b ≠ P := fun b o xs n e d z => by
    rw [z, hPo] at e
    rw [← Option.some.inj e] at d
    cases d
  have newP : s.heap.objs.size ≠ P := fun z => Nat.lt_irrefl _ (Nat.lt_of_lt_of_eq (Heap.lt_size hPo) z)
  -- from a walk over the items to the pairs
  have mk : ∀ (its : List Value) (o : Obj) (At : Nat → Heap → Prop), Vals vs its → a < s.heap.objs.size → a ≠ P → At 0 (s.heap.push o) →
      (∀ A' : Around, A'.handled = none → Walks X.prog X.w A' s.heap.objs.size [s.heap.objs.size, a] [s.heap.objs.size] its.toArray.size (fun i v => its.toArray[i]? = some v) At) →
      (∀ (A' : Around) (es : List Expr) (k : Nat) (pos : Pos) (j : Nat) (T : Addr) (s' : Shared) (Q : Unit → Shared → Prop) (E : Value → Shared → Prop), At j s'.heap → Q () s' → wpAny (model X.prog X.w) A' (letOwnedTupleGo (.Tuple es k pos) (.ref s.heap.objs.size) (.ref T)) Q E s') →
      Begun X s P ps o := by
    intro its o At r ha haP a0 W go
    obtain ⟨loc, held, hl⟩ := pairs_in I hp r
    have ln : its.toArray.size = ps.length := by rw [List.size_toArray, ← r.length, hp.1]
    have below : ∀ m, m < ps.length → loc m < s.heap.objs.size ∧ loc m ≠ P := fun m hm => by
      obtain ⟨_, ⟨ob, e, _, n, d⟩, _⟩ := hl m hm
      exact ⟨Heap.lt_size e, notP _ _ _ _ e d⟩
    refine ⟨_, _, _, _, fun A' hA => (asTuples (ln ▸ W A' hA) loc held (fun j v hj e => ?_) (fun j hj => Nat.ne_of_lt (below j hj).1) (fun es k pos j T s' Q E => go A' es k pos j T s' Q E)).bound, fun j xs hj e => ?_, ⟨a0, fun m hm => ?_⟩, fun b hb => ?_⟩
    · have e2 : its[j]? = some v := by simpa using e
      rw [(hl j hj).1] at e2
      exact (Option.some.inj e2).symm
    · obtain ⟨_, _, p, ta, tb', e1, e2⟩ := hl j hj
      exact ⟨p, ta, tb', e1, (show xs = held j from e).trans e2⟩
    · obtain ⟨_, ⟨ob, e, rest⟩, _⟩ := hl m hm
      exact ⟨ob, Heap.get?_push_of_some _ e, rest⟩
    · rcases List.mem_append.mp hb with z | z
      · rcases List.mem_cons.mp z with e | e
        · rw [e]; exact ⟨Nat.lt_succ_self _, newP⟩
        · rw [List.mem_singleton.mp e]; exact ⟨Nat.lt_succ_of_lt ha, haP⟩
      · obtain ⟨m, hm, e⟩ := List.mem_map.mp z
        obtain ⟨h1, h2⟩ := below m (List.mem_range.mp hm)
        rw [← e]; exact ⟨Nat.lt_succ_of_lt h1, h2⟩
  rcases hS with hS | hS
  · obtain ⟨its, r, hl, _⟩ := I.list hS
    obtain ⟨o, e, c, n, d⟩ := hl.isList
    refine wpAny_pyIter_list hl.isList (fin _ (mk its _ _ r (Heap.lt_size e) (notP _ _ _ _ e d) ⟨⟨_, Heap.get?_push_size _ rfl, rfl, rfl⟩, ⟨o, Heap.get?_push_of_some _ e, c, n, d⟩⟩ (fun A' hA => Walks.list hA _ a (Nat.ne_of_lt (Heap.lt_size e)) its.toArray) ?_))
    exact fun A' es k pos j T s' Q E at_ q => wpAny_letOwnedTupleGo_listiter at_.1 q
  · obtain ⟨its, r, ⟨o, e, c, n, d⟩, _⟩ := I.tuple hS
    refine wpAny_pyIter_tuple (items := its.toArray) ⟨o, e, c, n, d⟩ (fin _ (mk its _ _ r (Heap.lt_size e) (notP _ _ _ _ e d) ⟨⟨_, Heap.get?_push_size _ rfl, rfl, rfl⟩, ⟨o, Heap.get?_push_of_some _ e, c, n, d⟩⟩ (fun A' hA => Walks.tuple hA _ a (Nat.ne_of_lt (Heap.lt_size e)) its.toArray) ?_))
    exact fun A' es k pos j T s' Q E at_ q => letGo_tupleiter at_.1 q

/-- the expression's code object is made, or found: the table may grow, all else stands -/
theorem code_there {c P : Addr} {gpos : Pos} {qual : Str} {sc : Scope} {tb : Array Value} {Q' : Value → Shared → Prop} {E : Value → Shared → Prop} (hcode : X.env.code = .ref c) (C : PySem.W.CodeHd s.heap c P) (hP : s.heap.get? P = some { cls := .none, data := .fields tb }) (ok : TriplesOk tb.toList)
    (fin : ∀ (code : Value) (h' : Heap) (tk : Nat) (more : Array Value), Heap.ExtBut P s.heap h' → s.heap.objs.size ≤ h'.objs.size → h'.get? P = some { cls := .none, data := .fields (tb ++ more) } → TriplesOk (tb ++ more).toList → Q' code { s with heap := h', toks := tk }) :
    wpAny (model X.prog X.w) X.A (genexprCode X.env gpos qual sc) Q' E s := by
  cases found : codeAmong gpos tb.toList with
  | some old =>
    refine wpAny_genexprCode_hit hcode (C.code hP ok) found ?_
    have e : tb ++ #[] = tb := by simp
    exact fin old s.heap s.toks #[] (Heap.ExtBut.refl _ _) (Nat.le_refl _) (by rw [e]; exact hP) (by rw [e]; exact ok)
  | none =>
    refine wpAny_genexprCodeX hcode (C.code hP ok) (C.tab hP) found fun c' h' tk ext le lt isC _ tab _ => ?_
    obtain ⟨_, _, _, _, _, _, _, _, _, _, _, _, _, _, _, _, _, _, _, okT, _⟩ := isC
    exact fin _ h' tk _ ext (Nat.le_trans le (Nat.le_of_lt lt)) tab.2 okT

/-- the element at a pair of whole numbers: what it gives, wherever the expression runs later -/
def EltAt (X : Cx) (s₁ : Shared) (P : Addr) (sc : Scope) (xa xb : Str) (elt : Expr) (Gives : Int → Int → Value → Prop) : Prop :=
  ∀ (L : Addr) (code : Value) (A' : Around) (E' : Value → Shared → Prop) (a b : Int) (ta tb : Tok) (s₂ : Shared) (m : Str → Option Value), A'.handled = none →
    (∀ x o, x ≠ P → s₁.heap.get? x = some o → s₂.heap.get? x = some o) → s₂.heap.Ns L m → m xa = some (.int a ta) → m xb = some (.int b tb) →
    wpAny (model X.prog X.w) A' (eval elt (genEnv sc (cloFrom X.env.cells sc.names []) L code builtinsNs X.env)) (fun y s₃ => Gives a b y ∧ Keeps s₂ s₃) E' s₂

/-- the generator at g, in the state s₅, before its first item; H₁: what was held when it was made -/
def Fresh (X : Cx) (pins : List (Addr × Obj)) (σ : L2.St) (H₁ : Hp) (P : Addr) (ps : List (Int × Int)) (Gives : Int → Int → Value → Prop) (g : Addr) (s₅ : Shared) : Prop :=
  ∃ (foot writes : List Addr) (Gens : Array GenState → Array GenState → Prop) (Item : Nat → Value → Prop) (At : Nat → Shared → Prop),
    (WalksS X.prog X.w X.A.in1 g foot writes Gens ps.length Item At ∧ At 0 s₅ ∧ ∀ b ∈ foot, b < s₅.heap.objs.size) ∧
    (∀ j v, Item j v → ∃ p, ps[j]? = some p ∧ Gives p.1 p.2 v) ∧ ∀ s₆, Moved writes Gens s₅ s₆ → ∃ H₂, Tabbed P H₁ H₂ ∧ Inv X pins σ H₂ s₆

theorem gen_made {c P : Addr} {elt iter : Expr} {xa xb : Str} {pa pb pt gpos : Pos} {kt : Nat} {sc : Scope} {te : TE} {k : Nat} {Q' : Value → Shared → Prop} {Want : List (Int × Int) → Hp → Prop} {Gives : Int → Int → Value → Prop}
    (room : Room k X.A) (TB : TabB X.base X.mg c P) (hcode : X.env.code = .ref c) (own : OwnScope X.env sc xa xb) (walked : PE X iter te) (plain : ∀ v, genFold iter X.env v = pure v) (I : Inv X pins σ H s)
    (each : ∀ s₁ H₁, Inv X pins σ H₁ s₁ → TabG H₁ P → EltAt X s₁ P sc xa xb elt Gives)
    (h : te σ H fun v H₁ => ∃ (a : Addr) (vs : List V) (ps : List (Int × Int)), v = .ref a ∧ (SqL X.K H₁ a vs ∨ SqT X.K H₁ a vs) ∧ Prs H₁ vs ps ∧ TabG H₁ P ∧ Want ps H₁)
    (fin : ∀ ps H₁ g s₅, Want ps H₁ → Fresh X pins σ H₁ P ps Gives g s₅ → Q' (.ref g) s₅) :
    wpAny (model X.prog X.w) X.A (eval (.GeneratorExp elt [⟨.Tuple [.Name xa pa, .Name xb pb] kt pt, iter, [], 0⟩] sc gpos) X.env) Q' X.xe s := by
  obtain ⟨⟨o1, o2, o3⟩, ⟨o4, o5, o6⟩, o7, o8⟩ := own
  have deep : X.A.depth < recursionLimit := by have := room.dp; omega
  refine wpAny_GeneratorExp_walksQT room.hd o2 (closure_ok o8) o7 o4 o5 o6 o3 o1 deep (thn (walked.run pins s σ H _ I h) fun u s₁ had => ?_) plain
  obtain ⟨_, H₁, I₁, rel, a, vs, ps, rfl, hS, hp, ⟨tb, hP, ok⟩, want⟩ := had
  cases rel
  have tabAt : s₁.heap.get? P = some { cls := .none, data := .fields tb } := I₁.hok P _ hP
  refine begin_pairs I₁ hS hp hP fun o beg => ?_
  obtain ⟨foot, Hold, At, Mid, W, holds, at0, low⟩ := beg
  have statics : cStatics < s₁.heap.objs.size ∧ cStatics ≠ P := by
    obtain ⟨_, ns, _⟩ := I₁.nolimit
    refine ⟨ns.lt, fun z => ?_⟩
    obtain ⟨ob, _, _, e, d, _⟩ := ns
    rw [z, tabAt] at e
    rw [← Option.some.inj e] at d
    cases d
  have quiet : (s₁.heap.push o).NoLimit := I₁.nolimit.push o
  refine ⟨quiet, code_there hcode (TB.code.keeps fun b u e => Heap.get?_push_of_some _ (I₁.bk b u e)) (Heap.get?_push_of_some _ tabAt) ok fun code h₃ tk more ext le tab₃ ok₃ => ?_⟩
  rw [Heap.size_push] at le
  have stays : ∀ b u, b ≠ P → s₁.heap.get? b = some u → h₃.get? b = some u := fun b u hb e => ext b u hb (Heap.get?_push_of_some _ e)
  obtain ⟨bm, ob, f1, f2, f3, f4, f5, f6, f7, f8⟩ := TB.bm
  have globals : Heap.Ns h₃ X.env.globals X.mg := by
    rw [I₁.ok.glob]
    exact ((I₁.mod.glob.keeps I₁.bk).push o).extBut ext TB.gP
  refine wpAny_builtinsFor (m := X.mg) globals f1 f2 (stays bm ob f4 (I₁.bk bm ob f5)) f6 f7 f8 ?_
  have later : ∀ b u, s₁.heap.get? b = some u → b ∉ [h₃.objs.size, s₁.heap.objs.size] := fun b u e z => by
    have lt := Heap.lt_size e
    rcases List.mem_cons.mp z with z' | z'
    · exact Nat.lt_irrefl _ (Nat.lt_of_lt_of_le (z' ▸ lt) (Nat.le_of_succ_le le))
    · exact Nat.lt_irrefl _ (List.mem_singleton.mp z' ▸ lt)
  refine ⟨_, _, _, _, _, _, _, fun _ => true, fun i y => i < ps.length → ∃ p, ps[i]? = some p ∧ Gives p.1 p.2 y, rfl, W, fun i xs hx => ?_, ?_, fun b hb => Nat.lt_of_lt_of_le (low b hb).1 le, quiet.extBut ext statics.2, fun z => Nat.ne_of_lt statics.1 (List.mem_singleton.mp z), fun ref kept => ⟨?_, ?_⟩, ?_⟩
  · obtain ⟨p, ta, tb', _, e⟩ := holds i xs hx.1 hx.2
    exact ⟨_, _, e⟩
  · exact (W X.A room.hd).frame _ _ _ at0 fun b hb u e => ext b u (low b hb).2 e
  · intro A' E' i va vb s₂ m _ _ _ _ _ _
    rw [List.forIn_nil]
    exact wpAny_pure ⟨rfl, _, _, rfl, fun _ _ e => e⟩
  · intro A' E' i va vb s₂ m calm hx _ ns ea eb still
    obtain ⟨p, ta, tb', ep, e⟩ := holds i _ hx.1 hx.2
    have e1 : va = .int p.1 ta := by have z := congrArg (·[0]?) e; simpa using z
    have e2 : vb = .int p.2 tb' := by have z := congrArg (·[1]?) e; simpa using z
    subst e1 e2
    refine wpAny_mono (each s₁ H₁ I₁ ⟨tb, hP, ok⟩ _ code A' E' p.1 p.2 ta tb' s₂ m calm (fun b u hb q => ?_) ns ea eb) (fun y s₃ r => ⟨fun _ => ⟨p, ep, r.1⟩, r.2⟩) fun _ _ q => q
    have q3 := stays b u hb q
    exact still b (List.mem_range.mpr (Heap.lt_size q3)) (fun z => later b u q (List.mem_cons_of_mem _ z)) u (kept b u q3)
  · intro g h₅ tk₅ gs bare above size kept W₅ at₅
    rw [GxR.passing_true, List.length_range] at W₅
    have above' : h₃.objs.size < g := above
    have size' : h₅.objs.size = g + 1 := size
    refine fin ps H₁ g _ want ⟨_, _, _, _, _, ⟨W₅.in4_1, at₅, fun b hb => ?_⟩, fun j v it => ?_, fun s₆ mv => ?_⟩
    · show b < h₅.objs.size
      rw [size']
      rcases List.mem_cons.mp hb with eg | e
      · rw [eg]; exact Nat.lt_succ_self g
      · refine Nat.lt_succ_of_le (Nat.le_trans ?_ (Nat.le_of_lt above'))
        rcases List.mem_cons.mp e with e' | e'
        · rw [e']; exact Nat.le_refl _
        · exact Nat.le_of_lt (List.mem_range.mp e')
    · obtain ⟨i, ei, hg⟩ := it
      have lt : j < ps.length := by
        have z := (List.getElem?_eq_some_iff.mp ei).1
        rwa [List.length_range] at z
      rw [List.getElem?_range lt] at ei
      cases ei
      exact hg lt
    · have all : ∀ b u, b ≠ P → s₁.heap.get? b = some u → s₆.heap.get? b = some u := fun b u hb e => mv.heap b u (later b u e) (kept b u (stays b u hb e))
      have tab₆ := mv.heap P _ (later P _ tabAt) (kept P _ tab₃)
      have J := inv_tab (more := more) (d' := s₆.drawn) (t' := s₆.toks) I₁ hP all tab₆ (AllBare.movedS (I₁.bare.push bare) mv)
      rw [sh_eta s₁ s₆ mv.os] at J
      exact ⟨_, ⟨⟨tb ++ more, upd_same, ok₃⟩, fun b hb => upd_ne hb⟩, J⟩

/-- the sum of g over the pairs -/
def sumP (g : Int → Int → Int) (ps : List (Int × Int)) : Int := (ps.map fun p => g p.1 p.2).sum
theorem preSum_is (g : Int → Int → Int) (ps : List (Int × Int)) (val : Nat → Int) (h : ∀ i p, ps[i]? = some p → val i = g p.1 p.2) : ∀ n, n ≤ ps.length → preSum val n = sumP g (ps.take n)
  | 0, _ => rfl
  | n + 1, hn => by
    have e : ps[n]? = some ps[n] := List.getElem?_eq_getElem hn
    show preSum val n + val n = _
    rw [preSum_is g ps val h n (by omega), h n _ e]
    unfold sumP
    rw [List.take_add_one, e, List.map_append, List.sum_append]
    show _ = _ + (g ps[n].1 ps[n].2 + 0)
    rw [Int.add_zero]
/-- what the reading of sum(..), any(..) over pairs asks: what is captured (Cap), the pairs, the table; then the answer -/
def tOver {α : Type} (K : PySem.W.Frag) (P : Addr) (Cap : L2.St → α → Prop) (ans : α → List (Int × Int) → V) (te : TE) : TE := fun σ H Q => ∃ x : α, Cap σ x ∧ te σ H fun v H₁ => ∃ (a : Addr) (vs : List V) (ps : List (Int × Int)), v = .ref a ∧ (SqL K H₁ a vs ∨ SqT K H₁ a vs) ∧ Prs H₁ vs ps ∧ TabG H₁ P ∧
  ∀ H₂, Tabbed P H₁ H₂ → Q (ans x ps) H₂
/-- how a built-in takes a generator over pairs -/
def Takes2 (X : Cx) (name : String) (Gives : Int → Int → Value → Prop) (ans : List (Int × Int) → V) : Prop :=
  ∀ (pins : List (Addr × Obj)) (σ : L2.St) (P : Addr) (ps : List (Int × Int)) (H₁ : Hp) (gen : Addr) (s₅ : Shared) (Q : VK), Fresh X pins σ H₁ P ps Gives gen s₅ → (∀ H₂, Tabbed P H₁ H₂ → Q (ans ps) H₂) →
    wpAny (model X.prog X.w) X.A (call (.builtin name) [.ref gen]) (EP X pins σ Q) X.xe s₅
theorem pe_over {α : Type} {name : String} {x : Str} {c P : Addr} {elt iter : Expr} {xa xb : Str} {pa pb pt p pos gpos : Pos} {kt : Nat} {sc : Scope} {Cap : L2.St → α → Prop} {Gives : α → Int → Int → Value → Prop} {ans : α → List (Int × Int) → V} {te : TE} {k : Nat} (takes : ∀ y, Takes2 X name (Gives y) (ans y))
    (room : Room k X.A) (glob : Gl X x) (free : X.mg x = none) (bltn : bootBuiltins x = some (.builtin name)) (TB : TabB X.base X.mg c P) (hcode : X.env.code = .ref c) (own : OwnScope X.env sc xa xb) (walked : PE X iter te)
    (each : ∀ pins σ s₁ H₁ y, Inv X pins σ H₁ s₁ → TabG H₁ P → Cap σ y → EltAt X s₁ P sc xa xb elt (Gives y)) (plain : ∀ v, genFold iter X.env v = pure v) (n1 : x ≠ "__name__" := by decide) (n2 : (x == ("__debug__" : Str)) = false := by decide)
    (one : starEach [.GeneratorExp elt [⟨.Tuple [.Name xa pa, .Name xb pb] kt pt, iter, [], 0⟩] sc gpos] X.env = [(false, eval (.GeneratorExp elt [⟨.Tuple [.Name xa pa, .Name xb pb] kt pt, iter, [], 0⟩] sc gpos) X.env)] := by rfl) :
    PE X (.Call (.Name x p) [.GeneratorExp elt [⟨.Tuple [.Name xa pa, .Name xb pb] kt pt, iter, [], 0⟩] sc gpos] [] pos) (tOver X.K P Cap ans te) := by
  constructor
  intro pins s σ H Q I h
  obtain ⟨y, cap, h⟩ := h
  refine wpAny_Call_Name_kw (ld_blt I glob free bltn (callWith_builtin1 ?_ one (by rfl)) n1 n2)
  rw [one]
  refine Calls.spliced_cons (gen_made (Want := fun ps H₁ => ∀ H₂, Tabbed P H₁ H₂ → Q (ans y ps) H₂) (Gives := Gives y) room TB hcode own walked plain I (fun s₁ H₁ J g => each pins σ s₁ H₁ y J g cap) h fun ps H₁ gen s₅ want fresh => Calls.spliced_nil ?_)
  exact takes y pins σ P ps H₁ gen s₅ Q fresh want
theorem takes_sum (g : Int → Int → Int) : Takes2 X "sum" (fun a b y => ∃ t, y = .int (g a b) t) (fun ps => .int (sumP g ps)) := by
  intro pins σ P ps H₁ gen s₅ Q fresh want
  obtain ⟨foot, writes, Gens, Item, At, ⟨W, a0, low⟩, items, behind⟩ := fresh
  let val : Nat → Int := fun i => (ps[i]?.map fun p => g p.1 p.2).getD 0
  have hv : ∀ i p, ps[i]? = some p → val i = g p.1 p.2 := fun i p e => by show (ps[i]?.map _).getD 0 = _; rw [e]; rfl
  refine call_sum_walkAnyS (W.self 0 _ _ _ a0 ⟨gen, foot, writes, Gens, ps.length, Item, At, val, rfl, W, a0, low, fun i v it => ?_, fun s₆ t mv => ?_⟩)
  · obtain ⟨p, e, t, ev⟩ := items i v it
    exact ⟨t, by rw [hv i p e]; exact ev⟩
  · obtain ⟨H₂, tabbed, J⟩ := behind s₆ mv
    refine ⟨.int (preSum val ps.length), H₂, J, ⟨t, rfl⟩, ?_⟩
    rw [preSum_is g ps val hv ps.length (Nat.le_refl _), List.take_length]
    exact want H₂ tabbed
def anyP (g : Int → Int → Bool) (ps : List (Int × Int)) : Bool := ps.any fun p => g p.1 p.2
theorem any_is {α : Type} (ps : List α) (f : α → Bool) (tr : Nat → Bool) (h : ∀ i p, ps[i]? = some p → tr i = f p) : (List.range ps.length).any tr = ps.any f := by
  rw [Bool.eq_iff_iff, List.any_eq_true (l := List.range _), List.any_eq_true]
  constructor
  · rintro ⟨i, hi, e⟩
    have lt := List.mem_range.mp hi
    exact ⟨ps[i], List.getElem_mem lt, by rw [← h i _ (List.getElem?_eq_getElem lt)]; exact e⟩
  · rintro ⟨p, hp, e⟩
    obtain ⟨i, lt, rfl⟩ := List.getElem_of_mem hp
    exact ⟨i, List.mem_range.mpr lt, by rw [h i _ (List.getElem?_eq_getElem lt)]; exact e⟩
theorem takes_any (g : Int → Int → Bool) : Takes2 X "any" (fun a b y => y = .bool (g a b)) (fun ps => .bl (anyP g ps)) := by
  intro pins σ P ps H₁ gen s₅ Q fresh want
  obtain ⟨foot, writes, Gens, Item, At, ⟨W, a0, low⟩, items, behind⟩ := fresh
  let tr : Nat → Bool := fun i => (ps[i]?.map fun p => g p.1 p.2).getD false
  have ht : ∀ i p, ps[i]? = some p → tr i = g p.1 p.2 := fun i p e => by show (ps[i]?.map _).getD false = _; rw [e]; rfl
  refine call_any_walkS (W.self 0 _ _ _ a0 ⟨gen, foot, writes, Gens, ps.length, Item, At, tr, rfl, W, a0, fun i v s' Q' E' it q => ?_, fun s₆ mv => ?_⟩)
  · obtain ⟨p, e, rfl⟩ := items i v it
    rw [ht i p e] at q
    exact wpAny_truthy_bool q
  · obtain ⟨H₂, tabbed, J⟩ := behind s₆ mv
    refine ⟨.bl _, H₂, J, rfl, ?_⟩
    rw [any_is ps (fun p => g p.1 p.2) tr ht]
    exact want H₂ tabbed
/-- a whole number that the expression captures, as its cell has it -/
theorem captured {i : Nat} {y : Str} {n : Int} {P : Addr} (I : Inv X pins σ H s) (hN : X.N[i]? = some y) (hk : X.env.scope.names.lookup y = some .cell) (hv : σ[i]? = some (some (.int n))) (g : TabG H P) :
    ∃ c t, X.env.cells.lookup y = some c ∧ s.heap.IsCell c (some (.int n t)) ∧ c ≠ P := by
  obtain ⟨tb, hP, _⟩ := g
  obtain ⟨m, _, look⟩ := I.loc
  obtain ⟨u, ⟨t, rfl⟩, l⟩ := look i y _ hN hv (.inr (.inl hk))
  rcases l with ⟨z, _⟩ | ⟨_, c, e, o, ho, hd⟩
  · rw [show X.env.kindOf y = some .cell from hk] at z
    cases z
  · refine ⟨c, t, e, ⟨o, ho, hd⟩, fun z => ?_⟩
    rw [z, I.hok P _ hP] at ho
    rw [← Option.some.inj ho] at hd
    cases hd
/-- the names of the module and the built-in ones, where the expression runs -/
theorem names_in {P : Addr} {s₂ : Shared} (I : Inv X pins σ H s) (g : TabG H P) (gP : mainGlobals ≠ P) (kept : ∀ x o, x ≠ P → s.heap.get? x = some o → s₂.heap.get? x = some o) :
    s₂.heap.Ns mainGlobals X.mg ∧ ∃ mb, s₂.heap.Ns builtinsNs mb ∧ ∀ x : Str, x ≠ "__name__" → mb x = bootBuiltins x := by
  obtain ⟨tb, hP, _⟩ := g
  obtain ⟨mb, b1, b2⟩ := I.mod.blt
  have at_ : ∀ b m, b ≠ P → s.heap.Ns b m → s₂.heap.Ns b m := fun b m hb ⟨o, es, ep, ho, r⟩ => ⟨o, es, ep, kept b o hb ho, r⟩
  refine ⟨at_ _ _ gP (I.mod.glob.keeps I.bk), mb, at_ _ _ (fun z => ?_) (b1.keeps I.bk), b2⟩
  obtain ⟨o, es, ep, ho, hd, _⟩ := b1.keeps I.bk
  rw [z, I.hok P _ hP] at ho
  rw [← Option.some.inj ho] at hd
  cases hd
end
end GP

namespace TK
open PySem PySem.Spec PyProof.Rows L2 GP
def topS (i : Nat) : Stmt := PySem.Challenge.pw_tinrecall_k25_cases_by_trying_all.main.body.getD i (.Pass ⟨0, 0, 0, 0⟩)

/-- the draws' state: its dict at d, its cells at c -/
structure StAt (H : Hp) (d c : Addr) (t : Int) : Prop where
  dict : H d = some (.dK [(.inr "cells", .ref c), (.inr "turn", .int t)])
  cells : ∃ cs : List Int, H c = some (.lst (cs.map V.int)) ∧ cs ≠ [] ∧ cs.length ≤ 63
  pos : 0 ≤ t
theorem StAt.ne {H : Hp} {d c : Addr} {t : Int} (h : StAt H d c t) : d ≠ c := by
  obtain ⟨cs, hc, _⟩ := h.cells
  exact ne_of h.dict hc (by intro z; cases z)
/-- all but the state is as it was -/
def Kp (d c : Addr) (H H' : Hp) : Prop := ∀ b o, b ≠ d → b ≠ c → H b = some o → H' b = some o
theorem Kp.refl (d c : Addr) (H : Hp) : Kp d c H H := fun _ _ _ _ h => h
theorem Kp.trans {d c : Addr} {H H1 H2 : Hp} (a : Kp d c H H1) (b : Kp d c H1 H2) : Kp d c H H2 := fun x o h1 h2 h => b x o h1 h2 (a x o h1 h2 h)

theorem ixN_of {n j : Nat} (h : j < n) : ixN n (j : Int) = some j := by
  unfold ixN
  rw [if_pos (Int.natCast_nonneg j), if_pos (by omega), Int.toNat_natCast]
def spTake : Sp := fun vs H Q _ => ∃ (d c : Addr) (t m : Int), vs = [.ref d, .int m] ∧ StAt H d c t ∧ t < 2 ^ 60 ∧ 0 < m ∧ m.natAbs < 2 ^ 250 ∧
  ∀ r H', 0 ≤ r → r < m → StAt H' d c (t + 1) → Kp d c H H' → Q (.int r) H'

abbrev sTake : Stmt := topS 14
theorem scTake : FnScope ["_law_state", "_law_many", "_law_turn", "_law_place", "_law_cell", "_law_digit", "_law_mixed"] ["_law_state", "_law_many"] (defScope sTake) := ⟨rfl, rfl, rfl, by decide +kernel, rfl, by decide +kernel, by decide +kernel⟩
section
variable {K : PySem.W.Frag} {mg : Str → Option Value} {P : Program} {w : World} {base : Heap}
theorem ok_take {f : Addr} {fd : FuncData} {k : Nat} (F : Fun K "_law_take" "_law_take" sTake f fd) (ml : mg "len" = none) (md : mg "divmod" = none) : FnOk P w K mg base CX0 (k + 1) f fd ["_law_state", "_law_many"] spTake := by
  refine F.ok scTake (fun vs H Q E h => ?_) (fun cdv A outer s H vs Q E hr h => ?_)
  · obtain ⟨d, c, t, m, rfl, _⟩ := h
    rfl
  · obtain ⟨d, c, t, m, rfl, hS, ht, hm, hm2, q⟩ := h
    refine ⟨_, pss_cons (ps_set (i := 2) scTake.nd rfl (.inl rfl) (pe_op op_add (pe_dget (hu_of hr) (pv 0) pe_str (fun _ _ => rfl)) pe_int))
      (pss_cons (ps_dput (hu_of hr) (pv 0) pe_str (pv 2) rfl)
      (pss_cons (ps_set (i := 3) scTake.nd rfl (.inl rfl) (pe_op op_mod (pv 2) (pe_callB call_len_seq (by rfl) ml PySem.boot_len (pa_cons (pe_dget (hu_of hr) (pv 0) pe_str (fun _ _ => rfl)) pa_nil))))
      (pss_cons (ps_set (i := 4) scTake.nd rfl (.inl rfl) (pe_ix ix_list (pe_dget (hu_of hr) (pv 0) pe_str (fun _ _ => rfl)) (pv 3) (fun _ _ => rfl)))
      (pss_cons (ps_if (pt_cmpR op_ge (pv 4) (pe_op op_pow pe_int pe_int) (nomark _))
        (pss_cons (ps_asg (pe_callB call_divmodW (by rfl) md (by decide +kernel) (pa_cons (pv 4) (pa_cons (pv 1) pa_nil)))
            (pg_tup rfl (pgs_cons (pg_sub (pe_dget (hu_of hr) (pv 0) pe_str (fun _ _ => rfl)) (pv 3) set_list) (pgs_cons (pg_name (i := 5) scTake.nd rfl (.inl rfl)) pgs_nil))))
          (pss_one (ps_ret (pv 5)))) pss_nil)
      (pss_cons (ps_set (i := 6) scTake.nd rfl (.inl rfl) (pe_op op_mod (pe_op op_mul (pe_op op_add (pe_op op_add (pe_op op_mod (pv 4) pe_int) (pe_op op_mul (pe_op op_mul (pv 2) (pv 2)) pe_int)) pe_int) pe_int) pe_int))
      (pss_cons (ps_set (i := 6) scTake.nd rfl (.inl rfl) (pe_op op_mod (pe_op op_mul (pv 6) (pv 6)) pe_int))
      (pss_one (ps_ret (pe_op op_mod (pe_op op_fdiv (pe_op op_mod (pe_op op_mul (pe_op op_add (pv 6) (pe_op op_mul (pv 2) pe_int)) pe_int) pe_int) pe_int) (pv 1)))))))))), ?_⟩
    obtain ⟨hd, ⟨cs, hc, hne, hlen⟩, hpos⟩ := hS
    have ndc : d ≠ c := ne_of hd hc (by intro z; cases z)
    -- turn = state['turn'] + 1
    refine ⟨.ref d, rfl, d, .int t, rfl, DGet.k (k := Sum.inr "turn") hd, t, 1, rfl, rfl, ?_⟩
    -- state['turn'] = turn
    refine ⟨_, rfl, .ref d, rfl, d, _, rfl, DPut.k (k := Sum.inr "turn") hd (by show 2 < sizeLine; decide), ?_⟩
    have hput : putK [((.inr "cells" : Key), V.ref c), (.inr "turn", .int t)] (.inr "turn") (.int (t + 1)) = [(.inr "cells", .ref c), (.inr "turn", .int (t + 1))] := rfl
    rw [show (.int (t + 1) : V) = V.int (t + 1) from rfl] at *
    rw [hput]
    generalize hH1 : upd H d (.dK [((.inr "cells" : Key), V.ref c), (.inr "turn", .int (t + 1))]) = H1
    have hd1 : H1 d = some (.dK [(.inr "cells", .ref c), (.inr "turn", .int (t + 1))]) := by rw [← hH1]; exact upd_same
    have hc1 : H1 c = some (.lst (cs.map V.int)) := by rw [← hH1, upd_ne ndc.symm]; exact hc
    have k1 : Kp d c H H1 := fun b o h1 h2 e => by rw [← hH1, upd_ne h1]; exact e
    have hlp : 0 < cs.length := List.length_pos_iff.mpr hne
    -- place = turn % len(state['cells'])
    refine ⟨_, rfl, .ref d, rfl, d, .ref c, rfl, DGet.k (k := Sum.inr "cells") hd1, c, _, rfl, .inl (SqL.of hc1), _, _, rfl, rfl, (by show (0 : Int) < ((cs.map V.int).length : Int); rw [List.length_map]; omega), ?_⟩
    dsimp only
    rw [List.length_map]
    have hj0 : 0 ≤ (t + 1) % (cs.length : Int) := Int.emod_nonneg _ (by omega)
    have hj1 : (t + 1) % (cs.length : Int) < cs.length := Int.emod_lt_of_pos _ (by omega)
    obtain ⟨j, hj⟩ := Int.eq_ofNat_of_zero_le hj0
    have hjl : j < cs.length := by omega
    rw [hj]
    have gj : (cs.map V.int)[j]? = some (.int cs[j]) := by rw [List.getElem?_map, List.getElem?_eq_getElem hjl]; rfl
    -- cell = state['cells'][place]
    refine ⟨.ref d, rfl, d, .ref c, rfl, DGet.k (k := Sum.inr "cells") hd1, _, rfl, c, _, _, .int cs[j], rfl, rfl, SqL.of hc1, atI_nat gj, ?_⟩
    generalize cs[j] = x
    -- if cell >= 10 ** 18
    refine ⟨_, rfl, 10, 18, rfl, rfl, ⟨by decide, by decide, by decide⟩, _, _, rfl, rfl, _, rfl, ite2 (fun e => ?_) (fun e => ?_)⟩
    · have hdp : CDivP x m := ⟨hm, PyProof.noPylong_of_log2 (Nat.lt_trans (PySem.Flt.log2_lt_of (by decide) hm2) (by decide))⟩
      refine ⟨_, rfl, _, rfl, x, m, rfl, hdp, fun p hp => ?_⟩
      have npd : d ≠ p := ne_of_none hd1 hp
      have npc : c ≠ p := ne_of_none hc1 hp
      have hd2 : upd H1 p (.tup [.int (x / m), .int (x % m)]) d = some (.dK [(.inr "cells", .ref c), (.inr "turn", .int (t + 1))]) := by rw [upd_ne npd]; exact hd1
      have hc2 : upd H1 p (.tup [.int (x / m), .int (x % m)]) c = some (.lst (cs.map V.int)) := by rw [upd_ne npc]; exact hc1
      refine ⟨p, _, rfl, .inl (.inl upd_same), rfl, _, _, rfl, .ref d, rfl, d, .ref c, rfl, DGet.k (k := Sum.inr "cells") hd2, _, rfl, c, _, _, j, rfl, rfl, hc2, ixN_of (by rw [List.length_map]; exact hjl), _, _, rfl, rfl, ?_⟩
      refine ⟨_, rfl, ?_⟩
      refine q _ _ (Int.emod_nonneg _ (by omega)) (Int.emod_lt_of_pos _ hm) ⟨?_, ⟨cs.set j (x / m), ?_, ?_, ?_⟩, by omega⟩ ?_
      · rw [upd_ne ndc]; exact hd2
      · rw [upd_same, List.map_set]
      · intro z
        have z2 : (cs.set j (x / m)).length = 0 := by rw [z]; rfl
        rw [List.length_set] at z2
        omega
      · rw [List.length_set]; exact hlen
      · intro b o h1 h2 e
        rw [upd_ne h2, upd_ne (ne_of_none (k1 b o h1 h2 e) hp)]
        exact k1 b o h1 h2 e
    · have t1 : t + 1 < 2 ^ 61 := by omega
      -- mixed
      refine ⟨_, rfl, _, _, rfl, rfl, (show (0 : Int) < 2147483629 by decide), _, rfl, _, rfl, t + 1, t + 1, rfl, rfl, .inl ⟨by omega, by omega⟩, _, _, rfl, rfl, .inr ⟨by decide, by decide⟩, _, _, rfl, rfl, _, _, rfl, rfl, _, _, rfl, rfl, .inr ⟨by decide, by decide⟩, _, 2147483647, rfl, rfl, (show (0 : Int) < 2147483647 by decide), ?_⟩
      dsimp only
      generalize hy : ((x % 2147483629 + (t + 1) * (t + 1) * 7919 + 11) * 48271) = y
      have y0 : 0 ≤ y % 2147483647 := Int.emod_nonneg _ (by decide)
      have y1 : y % 2147483647 < 2147483647 := Int.emod_lt_of_pos _ (by decide)
      refine ⟨_, rfl, _, rfl, y % 2147483647, y % 2147483647, rfl, rfl, .inl ⟨by omega, by omega⟩, _, 2147483587, rfl, rfl, (show (0 : Int) < 2147483587 by decide), ?_⟩
      refine ⟨_, rfl, _, rfl, t + 1, 104729, rfl, rfl, .inr ⟨by decide, by decide⟩, _, _, rfl, rfl, _, _, rfl, rfl, .inr ⟨by decide, by decide⟩, _, 2147483629, rfl, rfl, (show (0 : Int) < 2147483629 by decide), _, 64, rfl, rfl, ⟨by decide, by decide⟩, _, rfl, _, m, rfl, rfl, hm, ?_⟩
      exact q _ _ (Int.emod_nonneg _ (by omega)) (Int.emod_lt_of_pos _ hm) ⟨hd1, ⟨cs, hc1, hne, hlen⟩, by omega⟩ k1
end

abbrev sBegin : Stmt := topS 13
theorem scBegin : FnScope ["_law_script", "_law_cells"] ["_law_script"] (defScope sBegin) := ⟨rfl, rfl, rfl, by decide +kernel, rfl, by decide +kernel, by decide +kernel⟩
theorem same_upd {H : Hp} {p : Addr} {o : HO} (h : H p = none) : Same H (upd H p o) := fun b x e => by
  rw [upd_ne (ne_of_none e h)]
  exact e
theorem cut_front (xs : List V) (m : Nat) : cutV xs none (some (m : Int)) = xs.take m := by
  unfold cutV
  rw [HT.sIx_none, HT.sIx_nat]
  show List.take (min m xs.length - 0) (xs.drop 0) = xs.take m
  rw [Nat.sub_zero, List.drop_zero]
  by_cases h : m ≤ xs.length
  · rw [Nat.min_eq_left h]
  · rw [Nat.min_eq_right (by omega), List.take_length, List.take_of_length_le (by omega)]
theorem dp_ints {K : PySem.W.Frag} {H : Hp} : ∀ ns : List Int, DpAll K H (ns.map V.int) (ns.map PyData.int)
  | [] => .nil
  | n :: r => .cons (.int n) (dp_ints r)
theorem lay_ints : ∀ ns : List Int, PyData.canLayAll0 (ns.map PyData.int) = true
  | [] => by simp only [List.map_nil, PyData.canLayAll0]
  | n :: r => by
    rw [List.map_cons, PyData.canLayAll0, lay_ints r]
    simp [PyData.canLay0]
theorem depth_ints : ∀ ns : List Int, PyData.depthAll (ns.map PyData.int) = 0
  | [] => by simp only [List.map_nil, PyData.depthAll]
  | n :: r => by
    rw [List.map_cons, PyData.depthAll, depth_ints r]
    simp [PyData.depth]
theorem shaped_ints (ns : List Int) : SeqAt.shaped (PyData.list (ns.map PyData.int)) = true := by
  unfold SeqAt.shaped
  rw [PyData.canLay0, lay_ints, PyData.depth, depth_ints]
  rfl
theorem eqv_nil (n : Int) (r : List Int) : PyData.eqv (PyData.list ((n :: r).map PyData.int)) (PyData.list []) = false := by
  simp [PyData.eqv, PyData.eqvAll]
theorem eqv_nil0 : PyData.eqv (PyData.list (([] : List Int).map PyData.int)) (PyData.list []) = true := by
  simp [PyData.eqv, PyData.eqvAll]
def spBegin (K : PySem.W.Frag) : Sp := fun vs H Q _ => ∃ (a : Addr) (ns : List Int), vs = [.ref a] ∧ SqL K H a (ns.map V.int) ∧ ns.length ≤ 63 ∧
  ∀ d c H', Same H H' → H d = none → H c = none → StAt H' d c 0 → Q (.ref d) H'
section
variable {K : PySem.W.Frag} {mg : Str → Option Value} {P : Program} {w : World} {base : Heap}
theorem ok_begin {f : Addr} {fd : FuncData} {k : Nat} (F : Fun K "_law_begin" "_law_begin" sBegin f fd) (ml : mg "list" = none) : FnOk P w K mg base CX0 (k + 1) f fd ["_law_script"] (spBegin K) := by
  refine F.ok scBegin (fun vs H Q E h => ?_) (fun cdv A outer s H vs Q E hr h => ?_)
  · obtain ⟨a, ns, rfl, _⟩ := h
    rfl
  · obtain ⟨a, ns, rfl, hS, hlen, q⟩ := h
    refine ⟨_, pss_cons (ps_set (i := 1) scBegin.nd rfl (.inl rfl) (pe_callTy call_list_of (by rfl) ml (by decide +kernel) (pa_cons (pe_slice sl_list (pv 0) po_none (po_some pe_int)) pa_nil)))
      (pss_cons (ps_if (pt_cmpR (op_eqD hr.units) (pv 1) (pe_lst pa_nil) (nomark _)) (pss_one (ps_set (i := 1) scBegin.nd rfl (.inl rfl) (pe_lst (pa_cons pe_int pa_nil)))) pss_nil)
      (pss_one (ps_ret (pe_disp (pps_cons pe_str (pv 1) (pps_cons pe_str pe_int pps_nil)) (by rfl) (by rfl) (fun z => by cases z) (by decide))))), ?_⟩
    -- the end: a dict of what stands at the cells' place
    have fin : ∀ (H1 : Hp) (c : Addr) (cs : List Int) (y : Option V), Same H H1 → H c = none → H1 c = some (.lst (cs.map V.int)) → cs ≠ [] → cs.length ≤ 63 →
        (tRet (tDisp [(tC (.str "cells"), tVar 1), (tC (.str "turn"), tC (.int 0))])) { nx := fun _ H' => Q .non H', rt := Q } [some (.ref a), some (.ref c)] H1 := by
      intro H1 c cs y s1 nc ec hne hl
      refine fun d nd => ⟨_, rfl, upd_same, [(.inr "cells", .ref c), (.inr "turn", .int 0)], rfl, (by show 2 ≤ 15; decide), ?_⟩
      have ndc : c ≠ d := ne_of_none ec nd
      refine q d c _ (fun b o e => ?_) (s1.free nd) nc ⟨?_, ⟨cs, ?_, hne, hl⟩, by decide⟩
      · have nb : b ≠ d := ne_of_none (s1 b o e) nd
        rw [upd_ne nb, upd_ne nb]
        exact s1 b o e
      · exact upd_same
      · rw [upd_ne ndc, upd_ne ndc]
        exact ec
    refine ⟨.ref a, rfl, 63, rfl, a, ns.map V.int, rfl, hS, fun p np => ?_⟩
    have s1 : Same H (upd H p (.lst (cutV (ns.map V.int) none (some 63)))) := same_upd np
    refine ⟨p, _, rfl, .inl (SqL.of upd_same), fun l nl => ?_⟩
    have s2 := s1.trans (same_upd (o := .lst (cutV (ns.map V.int) none (some 63))) nl)
    have ecut : cutV (ns.map V.int) none (some 63) = ns.map V.int := by
      have e := cut_front (ns.map V.int) 63
      have e2 : cutV (ns.map V.int) none (some 63) = (ns.map V.int).take 63 := e
      rw [e2, List.take_of_length_le (by rw [List.length_map]; exact hlen)]
    have el : upd (upd H p (.lst (cutV (ns.map V.int) none (some 63)))) l (.lst (cutV (ns.map V.int) none (some 63))) l = some (.lst (ns.map V.int)) := by
      rw [upd_same, ecut]
    revert s2 el
    generalize upd (upd H p (.lst (cutV (ns.map V.int) none (some 63)))) l (.lst (cutV (ns.map V.int) none (some 63))) = H2
    intro s2 el
    have nlH : H l = none := s1.free nl
    -- if cells == []
    refine ⟨.ref l, rfl, Nat.zero_le _, fun z nz => ?_⟩
    have s3 := s2.trans (same_upd (o := .lst []) nz)
    have nlz : l ≠ z := ne_of_none el nz
    have el3 : upd H2 z (.lst []) l = some (.lst (ns.map V.int)) := by rw [upd_ne nlz]; exact el
    refine ⟨.list (ns.map PyData.int), .list [], .lst (SqL.of el3) (dp_ints ns), .lst (SqL.of upd_same) .nil, shaped_ints ns, shaped_ints [], ?_⟩
    cases ns with
    | nil =>
      refine ⟨true, by rw [eqv_nil0], iteT ?_⟩
      refine ⟨(by show 1 ≤ sizeLine; decide), fun c nc => ?_⟩
      exact fin _ c [_] none (s3.trans (same_upd nc)) (s3.free nc) upd_same (by simp) (by decide)
    | cons n r =>
      refine ⟨false, by rw [eqv_nil], iteF ?_⟩
      exact fin _ l (n :: r) none s3 nlH el3 (by simp) hlen
end

/-- a def of the text that keeps a promise, as its callers see it -/
def Cal (P : Program) (w : World) (K : PySem.W.Frag) (mg : Str → Option Value) (base : Heap) (k : Nat) (x : Str) (ps : List Str) (sp : Sp) : Prop :=
  ∃ f fd, FnOk P w K mg base CX0 k f fd ps sp ∧ mg x = some (.ref f) ∧ PySem.W.keepIn K (.ref f) = true ∧ Binds K fd ps []
theorem pe_own {X : Cx} {k : Nat} {x : Str} {ps : List Str} {sp : Sp} {e : Expr} {es : List Expr} {t : TA} {p pos : Pos} (C : Cal X.prog X.w X.K X.mg X.base k x ps sp) (hr : Room k X.A) (hg : Gl X x) (ha : PA X (e :: es) t)
    (dbg : (x == ("__debug__" : Str)) = false := by decide) (one : starEach (e :: es) X.env = (false, eval e X.env) :: starEach es X.env := by rfl) (star : (backTo pos (starEach es X.env)).any (·.1) = false := by rfl) :
    PE X (.Call (.Name x p) (e :: es) [] pos) (tCall sp [] E0 t) := by
  obtain ⟨f, fd, F, hm, hk, hb⟩ := C
  exact pe_call F hr hg hm hk hb .nil pass0 ha dbg one star
theorem StAt.same {H H' : Hp} {d c : Addr} {t : Int} (h : StAt H d c t) (s : Same H H') : StAt H' d c t :=
  ⟨s _ _ h.dict, let ⟨cs, e, r⟩ := h.cells; ⟨cs, s _ _ e, r⟩, h.pos⟩
theorem Kp.same {H H' : Hp} (d c : Addr) (s : Same H H') : Kp d c H H' := fun b o _ _ e => s b o e
/-- what is made behind the state stays -/
theorem Kp.at {H H' : Hp} {d c a : Addr} {t : Int} {o : HO} (k : Kp d c H H') (S : StAt H d c t) (e : H a = some o) (h1 : ∀ kvs, o ≠ .dK kvs) (h2 : ∀ ns : List Int, o ≠ .lst (ns.map V.int)) : H' a = some o := by
  obtain ⟨cs, ec, _⟩ := S.cells
  refine k a o (fun z => ?_) (fun z => ?_) e
  · rw [z, S.dict] at e
    exact h1 _ (Option.some.inj e).symm
  · rw [z, ec] at e
    exact h2 _ (Option.some.inj e).symm
theorem StAt.upd {H : Hp} {d c l : Addr} {t : Int} {o : HO} (S : StAt H d c t) (h1 : l ≠ d) (h2 : l ≠ c) : StAt (L2.upd H l o) d c t := by
  refine ⟨by rw [upd_ne h1.symm]; exact S.dict, ?_, S.pos⟩
  obtain ⟨cs, ec, r⟩ := S.cells
  exact ⟨cs, by rw [upd_ne h2.symm]; exact ec, r⟩

theorem _root_.GP.Prs.same {H H' : Hp} {vs : List V} {ps : List (Int × Int)} (h : Prs H vs ps) (s : Same H H') : Prs H' vs ps :=
  ⟨h.1, fun i p e => let ⟨a, e1, e2⟩ := h.2 i p e; ⟨a, e1, s _ _ e2⟩⟩
theorem _root_.GP.Prs.kp {H H' : Hp} {d c : Addr} {t : Int} {vs : List V} {ps : List (Int × Int)} (h : Prs H vs ps) (S : StAt H d c t) (k : Kp d c H H') : Prs H' vs ps :=
  ⟨h.1, fun i p e => let ⟨a, e1, e2⟩ := h.2 i p e; ⟨a, e1, k.at S e2 (fun _ z => nomatch z) (fun _ z => nomatch z)⟩⟩
theorem _root_.GP.Prs.upd_lst {H : Hp} {l : Addr} {xs : List V} {o : HO} {vs : List V} {ps : List (Int × Int)} (h : Prs H vs ps) (hl : H l = some (.lst xs)) : Prs (upd H l o) vs ps :=
  ⟨h.1, fun i p e => let ⟨a, e1, e2⟩ := h.2 i p e; ⟨a, e1, by rw [upd_ne (ne_of e2 hl (fun z => nomatch z))]; exact e2⟩⟩
theorem _root_.GP.Prs.nil {H : Hp} : Prs H [] [] := ⟨rfl, fun i p e => by simp at e⟩
theorem _root_.GP.Prs.snoc {H : Hp} {a : Addr} {x y : Int} {vs : List V} {ps : List (Int × Int)} (h : Prs H vs ps) (e : H a = some (.tup [.int x, .int y])) : Prs H (vs ++ [.ref a]) (ps ++ [(x, y)]) := by
  refine ⟨by simp [h.1], fun i p ep => ?_⟩
  by_cases hi : i < ps.length
  · rw [List.getElem?_append_left hi] at ep
    obtain ⟨b, e1, e2⟩ := h.2 i p ep
    exact ⟨b, by rw [List.getElem?_append_left (by rw [h.1]; exact hi)]; exact e1, e2⟩
  · rw [List.getElem?_append_right (by omega)] at ep
    have hz : i - ps.length = 0 := by
      cases hq : i - ps.length with
      | zero => rfl
      | succ n => rw [hq] at ep; simp at ep
    rw [hz] at ep
    have ep' : (x, y) = p := by simpa using ep
    subst ep'
    refine ⟨a, ?_, e⟩
    rw [List.getElem?_append_right (by rw [h.1]; omega), h.1, hz]
    rfl
/-- rising stretches with gaps, from lo on -/
def Ris : Int → List (Int × Int) → Prop
  | _, [] => True
  | lo, p :: r => lo ≤ p.1 ∧ p.1 ≤ p.2 ∧ Ris (p.2 + 2) r
theorem Ris.snoc : ∀ {lo : Int} {ps : List (Int × Int)} {a b : Int}, Ris lo ps → lo ≤ a → (∀ p ∈ ps, p.2 + 2 ≤ a) → a ≤ b → Ris lo (ps ++ [(a, b)])
  | lo, [], a, b, _, h1, _, h3 => ⟨h1, h3, True.intro⟩
  | lo, p :: r, a, b, h, h1, h2, h3 => ⟨h.1, h.2.1, Ris.snoc h.2.2 (h2 p (List.mem_cons_self ..)) (fun q hq => h2 q (List.mem_cons_of_mem _ hq)) h3⟩
theorem pick2 {x y r : Int} (Pv : Int → Prop) (h0 : 0 ≤ r) (h1 : r < 2) (hx : Pv x) (hy : Pv y) : ∃ v, Pv v ∧ atI [V.int x, V.int y] r = some (.int v) := by
  have : r = 0 ∨ r = 1 := by omega
  rcases this with rfl | rfl
  · exact ⟨x, hx, rfl⟩
  · exact ⟨y, hy, rfl⟩
theorem pick3 {x y z r : Int} (Pv : Int → Prop) (h0 : 0 ≤ r) (h1 : r < 3) (hx : Pv x) (hy : Pv y) (hz : Pv z) : ∃ v, Pv v ∧ atI [V.int x, V.int y, V.int z] r = some (.int v) := by
  have : r = 0 ∨ r = 1 ∨ r = 2 := by omega
  rcases this with rfl | rfl | rfl
  · exact ⟨x, hx, rfl⟩
  · exact ⟨y, hy, rfl⟩
  · exact ⟨z, hz, rfl⟩
/-- a new object stands through the state's change -/
theorem Kp.new {H H' : Hp} {d c l : Addr} {t : Int} {o : HO} (k : Kp d c (upd H l o) H') (S : StAt H d c t) (n : H l = none) : H' l = some o := by
  obtain ⟨cs, ec, _⟩ := S.cells
  exact k l o (ne_of_none S.dict n).symm (ne_of_none ec n).symm upd_same
theorem drop_at {α : Type} {l : List α} {i : Nat} {x : α} (h : l[i]? = some x) : l.drop i = x :: l.drop (i + 1) := by
  obtain ⟨lt, e⟩ := List.getElem?_eq_some_iff.mp h
  rw [← e]
  exact List.drop_eq_getElem_cons lt
theorem prs_at {H : Hp} {vs : List V} {ps : List (Int × Int)} {i : Nat} {x : V} (h : Prs H vs ps) (e : vs[i]? = some x) : ∃ (p : Int × Int) (a : Addr), ps[i]? = some p ∧ x = .ref a ∧ H a = some (.tup [.int p.1, .int p.2]) := by
  obtain ⟨hi, _⟩ := List.getElem?_eq_some_iff.mp e
  have hi2 : i < ps.length := by rw [← h.1]; exact hi
  obtain ⟨a, e1, e2⟩ := h.2 i ps[i] (List.getElem?_eq_getElem hi2)
  rw [e] at e1
  exact ⟨ps[i], a, List.getElem?_eq_getElem hi2, Option.some.inj e1, e2⟩

theorem sumP_append (g : Int → Int → Int) (ps qs : List (Int × Int)) : sumP g (ps ++ qs) = sumP g ps + sumP g qs := by
  unfold sumP
  rw [List.map_append, List.sum_append]
def inB (n a b : Int) : Bool := decide (a ≤ n) && decide (n ≤ b)
theorem Ris.le : ∀ {lo : Int} {ps : List (Int × Int)}, Ris lo ps → ∀ p ∈ ps, lo ≤ p.1 ∧ p.1 ≤ p.2
  | _, [], _, _, hp => nomatch hp
  | lo, q :: r, h, p, hp => by
    rcases List.mem_cons.mp hp with e | e'
    · rw [e]; exact ⟨h.1, h.2.1⟩
    · have := Ris.le h.2.2 p e'
      have := h.2.1
      have := h.1
      omega

/-! ### walks over a list or a tuple -/
def Sq (K : PySem.W.Frag) (H : Hp) (a : Addr) (xs : List V) : Prop := SqL K H a xs ∨ SqT K H a xs
def iSeq (K : PySem.W.Frag) (tl : TE) : TI := fun σ H R => tl σ H fun x H1 => ∃ a, x = .ref a ∧ (((∃ xs, SqL K H1 a xs) ∧ R (Itl K a) H1) ∨ ((∃ xs, SqT K H1 a xs) ∧ R (Itt K a) H1))
/-- the iterator that was just laid is no one's -/
theorem lone {X : Cx} {pins : List (Addr × Obj)} {σ : L2.St} {H : Hp} {s : Shared} (I : Inv X pins σ H s) : ∀ b ∈ [s.heap.objs.size], FpOk X pins H b := fun b hb => by
  rw [List.mem_singleton.mp hb]
  exact I.fpOk (H' := H) (Nat.le_refl _) (I.hok.fresh (Nat.le_refl _))
theorem pi_seq {X : Cx} {tg l : Expr} {tl : TE} (walked : PE X l tl) : PI X tg l (iSeq X.K tl) := by
  constructor
  intro pins s σ H R I h
  refine thn (walked.run pins s σ H _ I h) fun u s1 had => ?_
  obtain ⟨_, H1, J, rel, a, rfl, had⟩ := had
  cases rel
  have laid : ∀ o, Inv X pins σ H1 { s1 with heap := s1.heap.push o } := fun o => J.kept (t' := s1.toks) fun _ _ e => Heap.get?_push_of_some _ e
  rcases had with ⟨⟨xs, hq⟩, q⟩ | ⟨⟨xs, hq⟩, q⟩
  · obtain ⟨its, _, isL, _⟩ := J.list hq
    exact wpAny_pyIter_list isL.isList ⟨_, _, _, _, H1, rfl, laid _, turn_list a _, ⟨_, Heap.get?_push_size _ rfl, rfl, rfl⟩, lone J, q⟩
  · obtain ⟨its, _, isT, _⟩ := J.tuple hq
    exact wpAny_pyIter_tuple (items := its.toArray) isT ⟨_, _, _, _, H1, rfl, laid _, turn_tuple a _, ⟨_, Heap.get?_push_size _ rfl, rfl, rfl⟩, lone J, q⟩
/-- the walked thing stands as it stood -/
def SqTo (K : PySem.W.Frag) (H H' : Hp) (a : Addr) (xs : List V) : Prop := (SqL K H a xs → SqL K H' a xs) ∧ (SqT K H a xs → SqT K H' a xs)
theorem SqTo.refl {K : PySem.W.Frag} {H : Hp} {a : Addr} {xs : List V} : SqTo K H H a xs := ⟨fun h => h, fun h => h⟩
theorem same_t {K : PySem.W.Frag} {H H' : Hp} {a : Addr} {xs : List V} (s : Same H H') (h : SqT K H a xs) : SqT K H' a xs :=
  h.elim (fun r => .inl (r.elim (fun e => .inl (s a _ e)) fun ⟨o, e⟩ => .inr ⟨o, s a _ e⟩)) .inr
theorem SqTo.same {K : PySem.W.Frag} {H H' : Hp} {a : Addr} {xs : List V} (s : Same H H') : SqTo K H H' a xs := ⟨s.seq, same_t s⟩
theorem Sq.same {K : PySem.W.Frag} {H H' : Hp} {a : Addr} {xs : List V} (h : Sq K H a xs) (s : Same H H') : Sq K H' a xs := h.elim (fun h => .inl (s.seq h)) fun h => .inr (same_t s h)
theorem Sq.list {K : PySem.W.Frag} {H : Hp} {a : Addr} {xs : List V} (h : H a = some (.lst xs)) : Sq K H a xs := .inl (SqL.of h)
theorem Sq.tup {K : PySem.W.Frag} {H : Hp} {a : Addr} {xs : List V} (h : H a = some (.tup xs)) : Sq K H a xs := .inr (.inl (.inl h))
abbrev ForR (J : It) (g : TG) (tb : TS) (D : Ends) (σ : L2.St) (H1 : Hp) : Prop := ∃ W : Nat → Nat → L2.St → Hp → Prop, (∃ m, W 0 m σ H1) ∧ ∀ i m σ H, W i m σ H →
  (J.stop i H ∧ D.nx σ H) ∨ (J.go i H ∧ ∃ N : L2.St → Hp → Prop, (∀ σ' H', N σ' H' → ∃ m', m' < m ∧ W (i + 1) m' σ' H') ∧ ∀ x H', J.yld i H x H' → g x σ H' fun σ2 H2 => tb { D with nx := N, ct := N, bk := D.nx } σ2 H2)
theorem for_seq {K : PySem.W.Frag} {a : Addr} {xs : List V} {g : TG} {tb : TS} {D : Ends} {σ : L2.St} {H1 : Hp} (hq : Sq K H1 a xs) (Pv : Nat → L2.St → Hp → Prop) (h0 : Pv 0 σ H1)
    (hl : ∀ i σ H', i ≤ xs.length → Pv i σ H' → SqTo K H1 H' a xs)
    (turn : ∀ i x σ H, xs[i]? = some x → Pv i σ H → g x σ H fun σ2 H2 => tb { D with nx := Pv (i + 1), ct := Pv (i + 1), bk := D.nx } σ2 H2) (fin : ∀ σ H, Pv xs.length σ H → D.nx σ H) :
    ((∃ xs, SqL K H1 a xs) ∧ ForR (Itl K a) g tb D σ H1) ∨ ((∃ xs, SqT K H1 a xs) ∧ ForR (Itt K a) g tb D σ H1) := by
  rcases hq with h | h
  · exact .inl ⟨⟨xs, h⟩, for_list (xs := xs) Pv h0 (fun i σ H' hi p => (hl i σ H' hi p).1 h) turn fin⟩
  · exact .inr ⟨⟨xs, h⟩, for_tup (xs := xs) Pv h0 (fun i σ H' hi p => (hl i σ H' hi p).2 h) turn fin⟩

/-! ### pairs as data -/
def pairD (p : Int × Int) : PyData := .tuple [.int p.1, .int p.2]
theorem dp_prs {K : PySem.W.Frag} {H : Hp} : ∀ {us : List V} {ps : List (Int × Int)}, Prs H us ps → DpAll K H us (ps.map pairD)
  | [], [], _ => .nil
  | [], _ :: _, h => nomatch h.1
  | _ :: _, [], h => nomatch h.1
  | u :: us, p :: ps, h => by
    obtain ⟨a, e1, e2⟩ := h.2 0 p rfl
    have eu : u = .ref a := Option.some.inj e1
    subst eu
    refine .cons (.tup (.inl (.inl e2)) (.cons (.int _) (.cons (.int _) .nil))) (dp_prs ⟨Nat.succ.inj h.1, fun i q e => ?_⟩)
    obtain ⟨b, f1, f2⟩ := h.2 (i + 1) q e
    exact ⟨b, f1, f2⟩
theorem lay_prs : ∀ ps : List (Int × Int), PyData.canLayAll0 (ps.map pairD) = true
  | [] => by simp only [List.map_nil, PyData.canLayAll0]
  | p :: r => by
    rw [List.map_cons, PyData.canLayAll0, lay_prs r]
    simp [pairD, PyData.canLay0, PyData.canLayAll0]
theorem depth_prs : ∀ ps : List (Int × Int), PyData.depthAll (ps.map pairD) ≤ 1
  | [] => by simp only [List.map_nil, PyData.depthAll]; omega
  | p :: r => by
    rw [List.map_cons, PyData.depthAll]  -- a pair, then the rest
    have := depth_prs r
    simp [pairD, PyData.depth, PyData.depthAll]
    omega
theorem shaped_prs (ps : List (Int × Int)) : SeqAt.shaped (PyData.list (ps.map pairD)) = true := by
  unfold SeqAt.shaped
  rw [PyData.canLay0, lay_prs, PyData.depth, Bool.true_and]
  exact decide_eq_true (by have := depth_prs ps; omega)
theorem eqv_prs (ps : List (Int × Int)) : PyData.eqv (PyData.list (ps.map pairD)) (PyData.list (ps.map pairD)) = true := SeqAt.eqv_refl _ (by rw [PyData.canLay0]; exact lay_prs ps)
theorem tabG_tabbed {Pt Pu : Addr} {H H2 : Hp} (g : GxR.TabG H Pu) (x : GxR.Tabbed Pt H H2) : GxR.TabG H2 Pu := by
  by_cases e : Pu = Pt
  · rw [e]; exact x.1
  · obtain ⟨ps, h, r⟩ := g
    exact ⟨ps, by rw [x.2 _ e]; exact h, r⟩

theorem Kp.free {H H' : Hp} {d c l : Addr} {t' : Int} (k : Kp d c H H') (S' : StAt H' d c t') (n : H' l = none) : H l = none := by
  cases e : H l with
  | none => rfl
  | some o =>
    obtain ⟨cs1, ec1, _⟩ := S'.cells
    have z := k l o (ne_of_none S'.dict n).symm (ne_of_none ec1 n).symm e
    rw [n] at z
    cases z
theorem StAt.off {H : Hp} {d c l : Addr} {t : Int} (S : StAt H d c t) (n : H l = none) : l ≠ d ∧ l ≠ c := by
  obtain ⟨cs1, ec1, _⟩ := S.cells
  exact ⟨(ne_of_none S.dict n).symm, (ne_of_none ec1 n).symm⟩
/-- no whole number among these: so it's not the draws' cells -/
def NoInt (xs : List V) : Prop := ∀ x ∈ xs, ∀ i, x ≠ .int i
theorem Kp.lst {H H' : Hp} {d c a : Addr} {t : Int} {xs : List V} (k : Kp d c H H') (S : StAt H d c t) (e : H a = some (.lst xs)) (h : NoInt xs) : H' a = some (.lst xs) := by
  obtain ⟨cs, ec, hne, _⟩ := S.cells
  refine k a _ (fun z => ?_) (fun z => ?_) e
  · rw [z, S.dict] at e
    cases e
  · rw [z, ec] at e
    have e' : cs.map V.int = xs := HO.lst.inj (Option.some.inj e)
    cases cs with
    | nil => exact hne rfl
    | cons n r => exact h (.int n) (e' ▸ List.mem_cons_self ..) n rfl
theorem Kp.tup {H H' : Hp} {d c a : Addr} {t : Int} {xs : List V} (k : Kp d c H H') (S : StAt H d c t) (e : H a = some (.tup xs)) : H' a = some (.tup xs) := k.at S e (fun _ z => nomatch z) (fun _ z => nomatch z)
theorem noInt_strs (xs : List Str) : NoInt (xs.map V.str) := fun x hx i e => by
  obtain ⟨y, _, rfl⟩ := List.mem_map.mp hx
  cases e
theorem noInt_prs {H : Hp} {us : List V} {ps : List (Int × Int)} (h : Prs H us ps) : NoInt us := fun x hx i e => by
  obtain ⟨j, hj, e1⟩ := List.getElem_of_mem hx
  obtain ⟨p, a, _, rfl, _⟩ := prs_at h (by rw [List.getElem?_eq_getElem hj, e1])
  cases e

abbrev sNumber : Stmt := topS 16
theorem scNumber : FnScope ["_law_state", "_law_sort", "_law_number_here", "_law_turn"] ["_law_state", "_law_sort"] (defScope sNumber) := ⟨rfl, rfl, rfl, by decide +kernel, rfl, by decide +kernel, by decide +kernel⟩
/-- what a number of a sort stays below -/
def sortB (kd : Int) : Int := if kd = 0 then 4 else if kd = 1 then 40 else 10 ^ 30
theorem sortB_le (kd : Int) : sortB kd ≤ 10 ^ 30 := by unfold sortB; split; decide; split; decide; exact Int.le_refl _
def spNumber : Sp := fun vs H Q _ => ∃ (d c : Addr) (t kd : Int), vs = [.ref d, .int kd] ∧ StAt H d c t ∧ t + 5 < 2 ^ 60 ∧ 0 ≤ kd ∧
  ∀ r t' H', 0 ≤ r → r < sortB kd → t ≤ t' → t' ≤ t + 5 → StAt H' d c t' → Kp d c H H' → Q (.int r) H'
section
variable {K : PySem.W.Frag} {mg : Str → Option Value} {P : Program} {w : World} {base : Heap}
theorem ok_number {f : Addr} {fd : FuncData} (F : Fun K "_law_number" "_law_number" sNumber f fd) (CT : Cal P w K mg base 1 "_law_take" ["_law_state", "_law_many"] spTake) (mr : mg "range" = none) :
    FnOk P w K mg base CX0 2 f fd ["_law_state", "_law_sort"] spNumber := by
  refine F.ok scNumber (fun vs H Q E h => ?_) (fun cdv A outer s H vs Q E hr h => ?_)
  · obtain ⟨d, c, t, kd, rfl, _⟩ := h
    rfl
  · obtain ⟨d, c, t, kd, rfl, hS, ht, hk, q⟩ := h
    refine ⟨_, pss_cons (ps_if (pt_cmpR op_lt (pv 1) pe_int (nomark _)) (pss_one (ps_ret (pe_own CT hr (by rfl) (pa_cons (pv 0) (pa_cons (pe_ix ix_list (pe_lst (pa_cons pe_int (pa_cons pe_int (pa_cons (pe_op op_pow pe_int pe_int) pa_nil)))) (pv 1) (fun _ _ => rfl)) pa_nil))))) pss_nil)
      (pss_cons (ps_set (i := 2) scNumber.nd rfl (.inl rfl) pe_int)
      (pss_cons (ps_for PassesOwn.never rfl (pi_range1 rfl mr (pa_cons pe_int pa_nil)) (pg_name (i := 3) scNumber.nd rfl (.inl rfl))
        (pss_one (ps_set (i := 2) scNumber.nd rfl (.inl rfl) (pe_op op_add (pe_op op_mul (pv 2) (pe_op op_pow pe_int pe_int)) (pe_own CT hr (by rfl) (pa_cons (pv 0) (pa_cons (pe_op op_pow pe_int pe_int) pa_nil)))))))
      (pss_one (ps_ret (pv 2))))), ?_⟩
    refine ⟨_, rfl, _, _, rfl, rfl, _, rfl, ite2 (fun e => ?_) (fun e => ?_)⟩
    · have e' := of_decide_eq_true e
      refine ⟨_, rfl, 10, 7, rfl, rfl, ⟨by decide, by decide, by decide⟩, (by show 3 ≤ sizeLine; decide), fun p np => ?_⟩
      have s1 : Same H (upd H p (.lst [.int 4, .int 40, .int (10 ^ (7 : Int).toNat)])) := same_upd np
      obtain ⟨m, hm0, hm1, hm2, hat⟩ : ∃ m : Int, 0 < m ∧ m ≤ 10 ^ 7 ∧ m ≤ sortB kd ∧ atI [V.int 4, V.int 40, V.int (10 ^ (7 : Int).toNat)] kd = some (.int m) := by
        have : kd = 0 ∨ kd = 1 ∨ kd = 2 := by omega
        rcases this with rfl | rfl | rfl
        · exact ⟨4, by decide, by decide, by decide, rfl⟩
        · exact ⟨40, by decide, by decide, by decide, rfl⟩
        · exact ⟨10 ^ (7 : Int).toNat, by decide, by decide, by decide, rfl⟩
      refine ⟨_, rfl, p, _, kd, .int m, rfl, rfl, SqL.of upd_same, hat, d, c, t, m, rfl, hS.same s1, by omega, hm0, by omega, fun r H' h0 h1 hS' k' => ?_⟩
      exact q r (t + 1) H' h0 (Int.lt_of_lt_of_le h1 hm2) (by omega) (by omega) hS' ((Kp.same d c s1).trans k')
    · have e3 : ¬ kd < 3 := fun z => e (decide_eq_true z)
      have eb : sortB kd = 10 ^ 30 := by unfold sortB; rw [if_neg (by omega), if_neg (by omega)]
      rw [eb] at q
      refine ⟨5, rfl, by decide, by decide, for_range (n := 5) (fun i σ H1 => ∃ (x t' : Int) (y : Option V), σ = [some (.ref d), some (.int kd), some (.int x), y] ∧ 0 ≤ x ∧ x < 10 ^ (6 * i) ∧ t ≤ t' ∧ t' ≤ t + i ∧ StAt H1 d c t' ∧ Kp d c H H1) ⟨0, t, none, rfl, by decide, by decide, by omega, by omega, hS, Kp.refl d c H⟩ (fun i σ H1 hi hP => ?_) (fun σ H1 hP => ?_)⟩
      · obtain ⟨x, t', y, rfl, x0, x1, h0, h1, hS1, k1⟩ := hP
        have x2 : x < 10 ^ 30 := by
          have : i = 0 ∨ i = 1 ∨ i = 2 ∨ i = 3 ∨ i = 4 := by omega
          rcases this with rfl | rfl | rfl | rfl | rfl <;> omega
        refine ⟨_, rfl, 10, 6, rfl, rfl, ⟨by decide, by decide, by decide⟩, x, 10 ^ 6, rfl, rfl, .inr ⟨by decide, by decide⟩, _, rfl, 10, 6, rfl, rfl, ⟨by decide, by decide, by decide⟩, d, c, t', 10 ^ 6, rfl, hS1, by omega, by decide, by decide, fun r H2 r0 r1 hS2 k2 => ?_⟩
        refine ⟨x * 10 ^ 6, r, rfl, rfl, x * 10 ^ 6 + r, t' + 1, _, rfl, by omega, ?_, by omega, by omega, hS2, k1.trans k2⟩
        have : i = 0 ∨ i = 1 ∨ i = 2 ∨ i = 3 ∨ i = 4 := by omega
        rcases this with rfl | rfl | rfl | rfl | rfl <;> omega
      · obtain ⟨x, t', y, rfl, x0, x1, h0, h1, hS1, k1⟩ := hP
        exact ⟨_, rfl, q x t' H1 x0 (by omega) h0 (by omega) hS1 k1⟩
end

/-- a text of one sign -/
def sgS (c : Nat) : Str := ⟨#[c]⟩
def sgn (c : Nat) : V := .str (sgS c)
def spNames : Sp := fun vs H Q _ => ∃ (d c : Addr) (t m : Int), vs = [.ref d, .int m] ∧ StAt H d c t ∧ t + 100 < 2 ^ 60 ∧ 0 ≤ m ∧ m ≤ 20 ∧
  ∀ (l : Addr) (xs : List Str) (t' : Int) H', H l = none → H' l = some (.lst (xs.map V.str)) → (∀ x ∈ xs, PyData.strOk x = true) → (xs.length : Int) = m → xs.Nodup → t ≤ t' → t' ≤ t + 20 → StAt H' d c t' → Kp d c H H' → Q (.ref l) H'
theorem join_small {cs : List Nat} (h : cs.length ≤ 10) : ((cs.map sgS).map (·.length)).sum + (cs.map sgS).length * ("" : Str).length ≤ 16777216 := by
  have e : ((cs.map sgS).map (·.length)).sum = cs.length := by
    induction cs with
    | nil => rfl
    | cons c r ih =>
      rw [List.map_cons, List.map_cons, List.sum_cons, ih (by rw [List.length_cons] at h; omega), List.length_cons]
      show 1 + r.length = r.length + 1
      omega
  rw [e, show ("" : Str).length = 0 from rfl, Nat.mul_zero]
  omega
theorem joinL_ones : ∀ cs : List Nat, TL.joinL [] (cs.map fun c => [c]) = cs
  | [] => rfl
  | [_] => rfl
  | c :: c2 :: r => by
    have ih := joinL_ones (c2 :: r)
    show [c] ++ ([] ++ TL.joinL [] ((c2 :: r).map fun c => [c])) = _
    rw [ih]
    rfl
theorem join_ok {cs : List Nat} (h : ∀ c ∈ cs, c < 1114112) : PyData.strOk (Txt.join "" (cs.map sgS)) = true := by
  have e : Txt.join "" (cs.map sgS) = SX.S cs := by
    have z := SX.join_S [] (cs.map fun c => [c])
    rw [joinL_ones, List.map_map] at z
    exact z
  rw [e]
  show (Array.all _ _) = true
  rw [Array.all_eq_true']
  intro c hc
  exact decide_eq_true (h c (by simpa using hc))
/-- words that are unlike at one sign -/
def Spelt (abc : Str) (N fi sv : Int) (js : Nat) (xs : List Str) : Prop := ∀ (k : Nat) x, xs[k]? = some x → ∃ (cs : List Nat) (ch : Nat), x = SX.S cs ∧ cs[js]? = some ch ∧ atI abc.cps.toList ((fi + sv * (k : Int)) % N) = some ch
theorem join_eq (cs : List Nat) : Txt.join "" (cs.map sgS) = SX.S cs := by
  have z := SX.join_S [] (cs.map fun c => [c])
  rw [joinL_ones, List.map_map] at z
  exact z
theorem Spelt.snoc {abc : Str} {N fi sv : Int} {js i : Nat} {xs : List Str} {cs : List Nat} {ch : Nat} (h : Spelt abc N fi sv js xs) (hl : xs.length = i) (e1 : cs[js]? = some ch) (e2 : atI abc.cps.toList ((fi + sv * (i : Int)) % N) = some ch) : Spelt abc N fi sv js (xs ++ [Txt.join "" (cs.map sgS)]) := fun k x e => by
  by_cases hk : k < xs.length
  · rw [List.getElem?_append_left hk] at e
    exact h k x e
  · rw [List.getElem?_append_right (by omega)] at e
    have hz : k - xs.length = 0 := by
      cases hq : k - xs.length with
      | zero => rfl
      | succ n => rw [hq] at e; cases e
    rw [hz] at e
    cases e
    have hki : k = i := by omega
    subst hki
    exact ⟨cs, ch, join_eq cs, e1, e2⟩
theorem Spelt.nodup {abc : Str} {N fi sv : Int} {js : Nat} {xs : List Str} (h : Spelt abc N fi sv js xs) (hN : 0 < N) (hl : (abc.cps.toList.length : Int) = N) (hn : abc.cps.toList.Nodup) (far : ∀ k k' : Nat, k < xs.length → k' < xs.length → (fi + sv * (k : Int)) % N = (fi + sv * (k' : Int)) % N → k = k') : xs.Nodup := by
  refine List.pairwise_iff_getElem.mpr fun i j hi hj hij ex => ?_
  obtain ⟨cs1, c1, e1, f1, g1⟩ := h i xs[i] (List.getElem?_eq_getElem hi)
  obtain ⟨cs2, c2, e2, f2, g2⟩ := h j xs[j] (List.getElem?_eq_getElem hj)
  rw [e1, e2] at ex
  have ec : cs1 = cs2 := SX.S_inj ex
  rw [ec, f2] at f1
  have ecc : c2 = c1 := Option.some.inj f1
  rw [← ecc] at g1
  obtain ⟨a, ha⟩ := Int.eq_ofNat_of_zero_le (Int.emod_nonneg (fi + sv * (i : Int)) (show N ≠ 0 by omega))
  obtain ⟨b, hb⟩ := Int.eq_ofNat_of_zero_le (Int.emod_nonneg (fi + sv * (j : Int)) (show N ≠ 0 by omega))
  have la := Int.emod_lt_of_pos (fi + sv * (i : Int)) hN
  have lb := Int.emod_lt_of_pos (fi + sv * (j : Int)) hN
  rw [ha] at g1 la
  rw [hb] at g2 lb
  have a1 : a < abc.cps.toList.length := by omega
  have b1 : b < abc.cps.toList.length := by omega
  have g1' : abc.cps.toList[a]? = some c2 := by
    have z := atI_nat (List.getElem?_eq_getElem a1)
    rw [z] at g1
    rw [List.getElem?_eq_getElem a1]
    exact g1
  have g2' : abc.cps.toList[b]? = some c2 := by
    have z := atI_nat (List.getElem?_eq_getElem b1)
    rw [z] at g2
    rw [List.getElem?_eq_getElem b1]
    exact g2
  have eab : a = b := (List.getElem?_inj a1 hn).mp (g1'.trans g2'.symm)
  have := far i j (by omega) hj (by rw [ha, hb, eab])
  omega
/-! ### _law_names -/
abbrev sNames : Stmt := topS 17
theorem scNames : FnScope ["_law_state", "_law_many", "_law_letters", "_law_k", "_law_word", "_law_spot", "_law_first", "_law_step", "_law_made"] ["_law_state", "_law_many"] (defScope sNames) := ⟨rfl, rfl, rfl, by decide +kernel, rfl, by decide +kernel, by decide +kernel⟩
abbrev letNames : Str := "abcdefghijklmnopqrstuvwxyz"
theorem atNames {r : Int} (h0 : 0 ≤ r) (h1 : r < 26) : ∃ ch : Nat, atI letNames.cps.toList r = some ch ∧ ch < 1114112 := by
  obtain ⟨j, rfl⟩ := Int.eq_ofNat_of_zero_le h0
  have hl : letNames.cps.toList.length = 26 := by decide +kernel
  have hj : j < letNames.cps.toList.length := by omega
  have hall : ∀ c ∈ letNames.cps.toList, c < 1114112 := by decide +kernel
  exact ⟨_, atI_nat (List.getElem?_eq_getElem hj), hall _ (List.getElem_mem hj)⟩
section
variable {K : PySem.W.Frag} {mg : Str → Option Value} {P : Program} {w : World} {base : Heap}
theorem ok_Names {f : Addr} {fd : FuncData} (F : Fun K "_law_names" "_law_names" sNames f fd) (CT : Cal P w K mg base 1 "_law_take" ["_law_state", "_law_many"] spTake) (mr : mg "range" = none) (me : mg "len" = none) : FnOk P w K mg base CX0 2 f fd ["_law_state", "_law_many"] spNames := by
  refine F.ok scNames (fun vs H Q E h => ?_) (fun cdv A outer s H vs Q E hr h => ?_)
  · obtain ⟨d, c, t, m, rfl, _⟩ := h
    rfl
  · obtain ⟨d, c, t, m, rfl, hS, ht, hm0, hm1, q⟩ := h
    refine ⟨_, pss_cons (ps_set (i := 2) scNames.nd rfl (.inr rfl) pe_str)
      (pss_cons (ps_setLc (i := 4) (own := [("_law_k", 3)]) (g := gName 3) (tt := tYes) (te := tOp L2.rIxS (tVar 2) (tCall spTake [] E0 (tCons (tVar 0) (tCons (tC (.int 26)) tNil)))) rfl scNames.nd rfl rfl rfl (pi_range1 rfl mr (pa_cons (pe_op op_add pe_int (pe_own CT hr (by rfl) (pa_cons (pv 0) (pa_cons pe_int pa_nil)))) pa_nil))
            (blkOk_by (own := [("_law_k", 3)]) (N := ["_law_state", "_law_many", "_law_letters", "_law_k", "_law_word", "_law_spot", "_law_first", "_law_step", "_law_made"]) (sc := defScope sNames) (by decide +kernel)) (fun _ _ _ _ _ => pg_name (i := 3) scNames.nd rfl (.inl rfl)) (fun _ _ _ _ _ => pts_nil) (fun _ _ _ _ _ => pe_ix ix_str (pv 2) (pe_own CT hr (by rfl) (pa_cons (pv 0) (pa_cons pe_int pa_nil))) (fun _ _ => rfl)))
      (pss_cons (ps_par3 rfl scNames.nd (i := 5) (j := 6) (l := 7) rfl rfl rfl (by decide) (by decide) (by decide) rfl rfl rfl (pa_cons (pe_own CT hr (by rfl) (pa_cons (pv 0) (pa_cons (pe_callB call_len_seq (by rfl) me PySem.boot_len (pa_cons (pv 4) pa_nil)) pa_nil))) (pa_cons (pe_own CT hr (by rfl) (pa_cons (pv 0) (pa_cons pe_int pa_nil))) (pa_cons (pe_ix ix_list (pe_lst (pa_cons pe_int (pa_cons pe_int (pa_cons pe_int (pa_cons pe_int pa_nil))))) (pe_own CT hr (by rfl) (pa_cons (pv 0) (pa_cons pe_int pa_nil))) (fun _ _ => rfl)) pa_nil))) (by rfl))
      (pss_cons (ps_set (i := 8) scNames.nd rfl (.inl rfl) (pe_lst pa_nil))
      (pss_cons (ps_for PassesOwn.never rfl (pi_range1 rfl mr (pa_cons (pv 1) pa_nil)) (pg_name (i := 3) scNames.nd rfl (.inl rfl))
        (pss_cons (ps_asg (pe_ix ix_str (pv 2) (pe_op op_mod (pe_op op_add (pv 6) (pe_op op_mul (pv 7) (pv 3))) pe_int) (fun _ _ => rfl)) (pg_sub (pv 4) (pv 5) set_list))
        (pss_one (ps_expr (pe_bm PySem.F.plainAttrs_list PySem.F.slot_list_append PySem.F.type_list_append mt_append (pv 8) (pa_cons (pe_join pe_str (pv 4)) pa_nil))))))
      (pss_one (ps_ret (pv 8))))))), ?_⟩
    refine ⟨_, rfl, d, c, t, 8, rfl, hS, by omega, by decide, by decide, fun r H1 r0 r1 hS1 k1 => ⟨1, r, rfl, rfl, 1 + r, rfl, by omega, by omega, fun D nD => ?_⟩⟩
    have offD := hS1.off nD
    refine lc_range (n := (1 + r).toNat) (fun j H' => ∃ (t' : Int) (cs : List Nat), H' D = some (.lst (cs.map sgn)) ∧ cs.length = j ∧ (∀ ch ∈ cs, ch < 1114112) ∧ t ≤ t' ∧ t' ≤ t + 1 + j ∧ StAt H' d c t' ∧ Kp d c H1 H') ⟨t + 1, [], upd_same, rfl, (fun _ z => nomatch z), by omega, by omega, hS1.same (same_upd nD), Kp.same d c (same_upd nD)⟩ (fun j H' hj hP => ?_) (fun H2 hP => ?_)
    · obtain ⟨t', cs, eD, hcl, hcs, u0, u1, hS', k'⟩ := hP
      have hj2 : j ≤ 10 := by omega
      refine ⟨rfl, _, rfl, _, rfl, d, c, t', 26, rfl, hS', by omega, by decide, by decide, fun r2 H3 r20 r21 hS3 k3 => ?_⟩
      obtain ⟨ch, hat, hch⟩ := atNames r20 r21
      have eD3 := k3 _ _ offD.1 offD.2 eD
      refine ⟨_, r2, ch, rfl, rfl, (by show letNames.length ≤ sizeLine; decide +kernel), hat, ?_⟩
      refine ⟨_, eD3, small1000 (by rw [List.length_map]; omega), t' + 1, cs ++ [ch], by rw [upd_same, List.map_append]; rfl, by rw [List.length_append, hcl]; rfl, fun x hx => ?_, by omega, by omega, hS3.upd offD.1 offD.2, fun b o b1 b2 e => ?_⟩
      · rcases List.mem_append.mp hx with z | z
        · exact hcs x z
        · rw [List.mem_singleton.mp z]; exact hch
      · rw [upd_ne (ne_of_none e nD)]
        exact k3 b o b1 b2 (k' b o b1 b2 e)
    obtain ⟨t', cs, eD, hcl, hcs, u0, u1, hS2, k2⟩ := hP
    have hcl1 : 1 ≤ cs.length := by omega
    have hcl2 : cs.length ≤ 10 := by omega
    have lenm : (cs.map sgn).length = cs.length := List.length_map ..
    -- spot, first, step
    refine ⟨_, rfl, _, rfl, D, _, rfl, Sq.list eD, d, c, t', (cs.length : Int), by rw [lenm]; rfl, hS2, by omega, by omega, by omega, fun sp H3 sp0 sp1 hS3 k3 => ?_⟩
    refine ⟨_, rfl, d, c, t' + 1, 26, rfl, hS3, by omega, by decide, by decide, fun fi H4 fi0 fi1 hS4 k4 => ?_⟩
    refine ⟨(by show 4 ≤ sizeLine; decide), fun z nz => ?_⟩
    have sz := same_upd (o := .lst [.int 1, .int 5, .int 7, .int 25]) nz
    have offz := hS4.off nz
    refine ⟨_, rfl, d, c, t' + 1 + 1, 4, rfl, hS4.same sz, by omega, by decide, by decide, fun r4 H5 r40 r41 hS5 k5 => ?_⟩
    obtain ⟨sv, hsv, hsv0, hsv1, hat4⟩ : ∃ sv : Int, (sv = 1 ∨ sv = 5 ∨ sv = 7 ∨ sv = 25) ∧ 0 ≤ sv ∧ sv ≤ 36 ∧ atI [V.int 1, V.int 5, V.int 7, V.int 25] r4 = some (.int sv) := by
      have : r4 = 0 ∨ r4 = 1 ∨ r4 = 2 ∨ r4 = 3 := by omega
      rcases this with rfl | rfl | rfl | rfl
      · exact ⟨1, .inl rfl, by decide, by decide, rfl⟩
      · exact ⟨5, .inr (.inl rfl), by decide, by decide, rfl⟩
      · exact ⟨7, .inr (.inr (.inl rfl)), by decide, by decide, rfl⟩
      · exact ⟨25, .inr (.inr (.inr rfl)), by decide, by decide, rfl⟩
    refine ⟨z, _, r4, .int sv, rfl, rfl, SqL.of (k5 _ _ offz.1 offz.2 upd_same), hat4, _, _, _, rfl, ?_⟩
    obtain ⟨js, rfl⟩ := Int.eq_ofNat_of_zero_le sp0
    have k25 : Kp d c H2 H5 := (k3.trans k4).trans ((Kp.same d c sz).trans k5)
    have eD5 := k25 _ _ offD.1 offD.2 eD
    -- made
    refine ⟨Nat.zero_le _, fun l nl => ?_⟩
    have sl := same_upd (o := .lst []) nl
    have offl := hS5.off nl
    have nlD : D ≠ l := ne_of_none eD5 nl
    have kall : Kp d c H H5 := (k1.trans k2).trans k25
    have nlH : H l = none := Kp.free kall hS5 nl
    have nDH : H D = none := Kp.free k1 hS1 nD
    refine ⟨_, rfl, m, rfl, by omega, by omega, for_range (n := m.toNat) (fun i σ Hx => ∃ (cs : List Nat) (xs : List Str) (y3 : Option V), σ = [some (.ref d), some (.int m), some (.str letNames), y3, some (.ref D), some (.int (js : Int)), some (.int fi), some (.int sv), some (.ref l)] ∧ Hx D = some (.lst (cs.map sgn)) ∧ 1 ≤ cs.length ∧ cs.length ≤ 10 ∧ js < cs.length ∧ (∀ ch ∈ cs, ch < 1114112) ∧ Hx l = some (.lst (xs.map V.str)) ∧ xs.length = i ∧ (∀ x ∈ xs, PyData.strOk x = true) ∧ Spelt letNames 26 fi sv js xs ∧ StAt Hx d c (t' + 1 + 1 + 1) ∧ Kp d c H Hx)
      ⟨cs, [], _, rfl, sl _ _ eD5, hcl1, hcl2, by omega, hcs, upd_same, rfl, (fun _ z => nomatch z), (fun _ _ e => nomatch e), hS5.same sl, kall.trans (Kp.same d c sl)⟩ (fun i σ Hx hi hP => ?_) (fun σ Hx hP => ?_)⟩
    · obtain ⟨cs, xs, y3, rfl, eDx, g1, g2, g3, hcs, elx, hxl, hxs, hsp, hSx, kx⟩ := hP
      have hi2 : (i : Int) < 40 := by omega
      have hmod0 : 0 ≤ (fi + sv * (0 + (i : Int))) % 26 := Int.emod_nonneg _ (by decide)
      have hmod1 : (fi + sv * (0 + (i : Int))) % 26 < 26 := Int.emod_lt_of_pos _ (by decide)
      obtain ⟨ch, hat, hch⟩ := atNames hmod0 hmod1
      refine ⟨_, rfl, _, rfl, _, rfl, _, rfl, sv, 0 + (i : Int), rfl, rfl, .inl ⟨by omega, by omega⟩, fi, _, rfl, rfl, _, 26, rfl, rfl, (show (0 : Int) < 26 by decide), _, _, ch, rfl, rfl, (by show letNames.length ≤ sizeLine; decide +kernel), hat, ?_⟩
      refine ⟨_, rfl, _, rfl, D, _, (js : Int), js, rfl, rfl, eDx, ixN_of (by rw [List.length_map]; exact g3), ?_⟩
      have es : (cs.map sgn).set js (.str ⟨#[ch]⟩) = (cs.set js ch).map sgn := by rw [List.map_set]; rfl
      rw [es]
      have hcs' : ∀ x ∈ cs.set js ch, x < 1114112 := fun x hx => by
        rcases List.mem_or_eq_of_mem_set hx with z | z
        · exact hcs x z
        · rw [z]; exact hch
      have hlen' : (cs.set js ch).length = cs.length := List.length_set ..
      have hjs : (cs.set js ch)[js]? = some ch := by rw [List.getElem?_set_self g3]
      have eD6 : upd Hx D (.lst ((cs.set js ch).map sgn)) D = some (.lst ((cs.set js ch).map sgn)) := upd_same
      have el6 : upd Hx D (.lst ((cs.set js ch).map sgn)) l = some (.lst (xs.map V.str)) := by rw [upd_ne nlD.symm]; exact elx
      have hS6 := hSx.upd (o := .lst ((cs.set js ch).map sgn)) offD.1 offD.2
      have k6 : Kp d c H (upd Hx D (.lst ((cs.set js ch).map sgn))) := fun b o b1 b2 e => by rw [upd_ne (ne_of_none e nDH)]; exact kx b o b1 b2 e
      revert eD6 el6 hS6 k6
      rw [← hlen'] at g1 g2 g3
      generalize upd Hx D (.lst ((cs.set js ch).map sgn)) = H6
      generalize cs.set js ch = cs2 at g1 g2 g3 hcs' hjs ⊢
      intro eD6 el6 hS6 k6
      refine ⟨_, rfl, .inl ⟨rfl, _, SqL.of el6⟩, ⟨_, rfl⟩, _, rfl, _, D, cs2.map sgS, rfl, rfl, .inl (SqL.of (by rw [eD6, List.map_map]; rfl)), join_small g2, ?_⟩
      refine ⟨l, _, _, rfl, rfl, el6, small1000 (by rw [List.length_map]; omega), cs2, xs ++ [Txt.join "" (cs2.map sgS)], _, rfl, by rw [upd_ne nlD]; exact eD6, g1, g2, g3, hcs', by rw [upd_same, List.map_append]; rfl, by rw [List.length_append, hxl]; rfl, fun x hx => ?_, hsp.snoc hxl hjs (by rw [Int.zero_add] at hat; exact hat), hS6.upd offl.1 offl.2, fun b o b1 b2 e => ?_⟩
      · rcases List.mem_append.mp hx with z | z
        · exact hxs x z
        · rw [List.mem_singleton.mp z]; exact join_ok hcs'
      · rw [upd_ne (ne_of_none e nlH)]
        exact k6 b o b1 b2 e
    · obtain ⟨cs, xs, y3, rfl, eDx, g1, g2, g3, hcs, elx, hxl, hxs, hsp, hSx, kx⟩ := hP
      exact ⟨_, rfl, q l xs _ Hx nlH elx hxs (by omega) (hsp.nodup (by decide) (by decide +kernel) (by decide +kernel) fun k k' hk hk' e => by rcases hsv with rfl | rfl | rfl | rfl <;> omega) (by omega) (by omega) hSx kx⟩
end
/-! ### _law_marks_by -/
abbrev sMarks : Stmt := topS 18
theorem scMarks : FnScope ["_law_state", "_law_many", "_law_signs", "_law_k", "_law_word", "_law_spot", "_law_first", "_law_step", "_law_made"] ["_law_state", "_law_many"] (defScope sMarks) := ⟨rfl, rfl, rfl, by decide +kernel, rfl, by decide +kernel, by decide +kernel⟩
abbrev letMarks : Str := "abcdefghijklmnopqrstuvwxyz0123456789"
theorem atMarks {r : Int} (h0 : 0 ≤ r) (h1 : r < 36) : ∃ ch : Nat, atI letMarks.cps.toList r = some ch ∧ ch < 1114112 := by
  obtain ⟨j, rfl⟩ := Int.eq_ofNat_of_zero_le h0
  have hl : letMarks.cps.toList.length = 36 := by decide +kernel
  have hj : j < letMarks.cps.toList.length := by omega
  have hall : ∀ c ∈ letMarks.cps.toList, c < 1114112 := by decide +kernel
  exact ⟨_, atI_nat (List.getElem?_eq_getElem hj), hall _ (List.getElem_mem hj)⟩
section
variable {K : PySem.W.Frag} {mg : Str → Option Value} {P : Program} {w : World} {base : Heap}
theorem ok_Marks {f : Addr} {fd : FuncData} (F : Fun K "_law_marks_by" "_law_marks_by" sMarks f fd) (CT : Cal P w K mg base 1 "_law_take" ["_law_state", "_law_many"] spTake) (mr : mg "range" = none) (me : mg "len" = none) : FnOk P w K mg base CX0 2 f fd ["_law_state", "_law_many"] spNames := by
  refine F.ok scMarks (fun vs H Q E h => ?_) (fun cdv A outer s H vs Q E hr h => ?_)
  · obtain ⟨d, c, t, m, rfl, _⟩ := h
    rfl
  · obtain ⟨d, c, t, m, rfl, hS, ht, hm0, hm1, q⟩ := h
    refine ⟨_, pss_cons (ps_set (i := 2) scMarks.nd rfl (.inr rfl) pe_str)
      (pss_cons (ps_setLc (i := 4) (own := [("_law_k", 3)]) (g := gName 3) (tt := tYes) (te := tOp L2.rIxS (tVar 2) (tCall spTake [] E0 (tCons (tVar 0) (tCons (tC (.int 36)) tNil)))) rfl scMarks.nd rfl rfl rfl (pi_range1 rfl mr (pa_cons (pe_op op_add pe_int (pe_own CT hr (by rfl) (pa_cons (pv 0) (pa_cons pe_int pa_nil)))) pa_nil))
            (blkOk_by (own := [("_law_k", 3)]) (N := ["_law_state", "_law_many", "_law_signs", "_law_k", "_law_word", "_law_spot", "_law_first", "_law_step", "_law_made"]) (sc := defScope sMarks) (by decide +kernel)) (fun _ _ _ _ _ => pg_name (i := 3) scMarks.nd rfl (.inl rfl)) (fun _ _ _ _ _ => pts_nil) (fun _ _ _ _ _ => pe_ix ix_str (pv 2) (pe_own CT hr (by rfl) (pa_cons (pv 0) (pa_cons pe_int pa_nil))) (fun _ _ => rfl)))
      (pss_cons (ps_par3 rfl scMarks.nd (i := 5) (j := 6) (l := 7) rfl rfl rfl (by decide) (by decide) (by decide) rfl rfl rfl (pa_cons (pe_own CT hr (by rfl) (pa_cons (pv 0) (pa_cons (pe_callB call_len_seq (by rfl) me PySem.boot_len (pa_cons (pv 4) pa_nil)) pa_nil))) (pa_cons (pe_own CT hr (by rfl) (pa_cons (pv 0) (pa_cons pe_int pa_nil))) (pa_cons (pe_ix ix_list (pe_lst (pa_cons pe_int (pa_cons pe_int (pa_cons pe_int (pa_cons pe_int pa_nil))))) (pe_own CT hr (by rfl) (pa_cons (pv 0) (pa_cons pe_int pa_nil))) (fun _ _ => rfl)) pa_nil))) (by rfl))
      (pss_cons (ps_set (i := 8) scMarks.nd rfl (.inl rfl) (pe_lst pa_nil))
      (pss_cons (ps_for PassesOwn.never rfl (pi_range1 rfl mr (pa_cons (pv 1) pa_nil)) (pg_name (i := 3) scMarks.nd rfl (.inl rfl))
        (pss_cons (ps_asg (pe_ix ix_str (pv 2) (pe_op op_mod (pe_op op_add (pv 6) (pe_op op_mul (pv 7) (pv 3))) pe_int) (fun _ _ => rfl)) (pg_sub (pv 4) (pv 5) set_list))
        (pss_one (ps_expr (pe_bm PySem.F.plainAttrs_list PySem.F.slot_list_append PySem.F.type_list_append mt_append (pv 8) (pa_cons (pe_join pe_str (pv 4)) pa_nil))))))
      (pss_one (ps_ret (pv 8))))))), ?_⟩
    refine ⟨_, rfl, d, c, t, 7, rfl, hS, by omega, by decide, by decide, fun r H1 r0 r1 hS1 k1 => ⟨4, r, rfl, rfl, 4 + r, rfl, by omega, by omega, fun D nD => ?_⟩⟩
    have offD := hS1.off nD
    refine lc_range (n := (4 + r).toNat) (fun j H' => ∃ (t' : Int) (cs : List Nat), H' D = some (.lst (cs.map sgn)) ∧ cs.length = j ∧ (∀ ch ∈ cs, ch < 1114112) ∧ t ≤ t' ∧ t' ≤ t + 1 + j ∧ StAt H' d c t' ∧ Kp d c H1 H') ⟨t + 1, [], upd_same, rfl, (fun _ z => nomatch z), by omega, by omega, hS1.same (same_upd nD), Kp.same d c (same_upd nD)⟩ (fun j H' hj hP => ?_) (fun H2 hP => ?_)
    · obtain ⟨t', cs, eD, hcl, hcs, u0, u1, hS', k'⟩ := hP
      have hj2 : j ≤ 10 := by omega
      refine ⟨rfl, _, rfl, _, rfl, d, c, t', 36, rfl, hS', by omega, by decide, by decide, fun r2 H3 r20 r21 hS3 k3 => ?_⟩
      obtain ⟨ch, hat, hch⟩ := atMarks r20 r21
      have eD3 := k3 _ _ offD.1 offD.2 eD
      refine ⟨_, r2, ch, rfl, rfl, (by show letMarks.length ≤ sizeLine; decide +kernel), hat, ?_⟩
      refine ⟨_, eD3, small1000 (by rw [List.length_map]; omega), t' + 1, cs ++ [ch], by rw [upd_same, List.map_append]; rfl, by rw [List.length_append, hcl]; rfl, fun x hx => ?_, by omega, by omega, hS3.upd offD.1 offD.2, fun b o b1 b2 e => ?_⟩
      · rcases List.mem_append.mp hx with z | z
        · exact hcs x z
        · rw [List.mem_singleton.mp z]; exact hch
      · rw [upd_ne (ne_of_none e nD)]
        exact k3 b o b1 b2 (k' b o b1 b2 e)
    obtain ⟨t', cs, eD, hcl, hcs, u0, u1, hS2, k2⟩ := hP
    have hcl1 : 1 ≤ cs.length := by omega
    have hcl2 : cs.length ≤ 10 := by omega
    have lenm : (cs.map sgn).length = cs.length := List.length_map ..
    -- spot, first, step
    refine ⟨_, rfl, _, rfl, D, _, rfl, Sq.list eD, d, c, t', (cs.length : Int), by rw [lenm]; rfl, hS2, by omega, by omega, by omega, fun sp H3 sp0 sp1 hS3 k3 => ?_⟩
    refine ⟨_, rfl, d, c, t' + 1, 36, rfl, hS3, by omega, by decide, by decide, fun fi H4 fi0 fi1 hS4 k4 => ?_⟩
    refine ⟨(by show 4 ≤ sizeLine; decide), fun z nz => ?_⟩
    have sz := same_upd (o := .lst [.int 1, .int 5, .int 7, .int 35]) nz
    have offz := hS4.off nz
    refine ⟨_, rfl, d, c, t' + 1 + 1, 4, rfl, hS4.same sz, by omega, by decide, by decide, fun r4 H5 r40 r41 hS5 k5 => ?_⟩
    obtain ⟨sv, hsv, hsv0, hsv1, hat4⟩ : ∃ sv : Int, (sv = 1 ∨ sv = 5 ∨ sv = 7 ∨ sv = 35) ∧ 0 ≤ sv ∧ sv ≤ 36 ∧ atI [V.int 1, V.int 5, V.int 7, V.int 35] r4 = some (.int sv) := by
      have : r4 = 0 ∨ r4 = 1 ∨ r4 = 2 ∨ r4 = 3 := by omega
      rcases this with rfl | rfl | rfl | rfl
      · exact ⟨1, .inl rfl, by decide, by decide, rfl⟩
      · exact ⟨5, .inr (.inl rfl), by decide, by decide, rfl⟩
      · exact ⟨7, .inr (.inr (.inl rfl)), by decide, by decide, rfl⟩
      · exact ⟨35, .inr (.inr (.inr rfl)), by decide, by decide, rfl⟩
    refine ⟨z, _, r4, .int sv, rfl, rfl, SqL.of (k5 _ _ offz.1 offz.2 upd_same), hat4, _, _, _, rfl, ?_⟩
    obtain ⟨js, rfl⟩ := Int.eq_ofNat_of_zero_le sp0
    have k25 : Kp d c H2 H5 := (k3.trans k4).trans ((Kp.same d c sz).trans k5)
    have eD5 := k25 _ _ offD.1 offD.2 eD
    -- made
    refine ⟨Nat.zero_le _, fun l nl => ?_⟩
    have sl := same_upd (o := .lst []) nl
    have offl := hS5.off nl
    have nlD : D ≠ l := ne_of_none eD5 nl
    have kall : Kp d c H H5 := (k1.trans k2).trans k25
    have nlH : H l = none := Kp.free kall hS5 nl
    have nDH : H D = none := Kp.free k1 hS1 nD
    refine ⟨_, rfl, m, rfl, by omega, by omega, for_range (n := m.toNat) (fun i σ Hx => ∃ (cs : List Nat) (xs : List Str) (y3 : Option V), σ = [some (.ref d), some (.int m), some (.str letMarks), y3, some (.ref D), some (.int (js : Int)), some (.int fi), some (.int sv), some (.ref l)] ∧ Hx D = some (.lst (cs.map sgn)) ∧ 1 ≤ cs.length ∧ cs.length ≤ 10 ∧ js < cs.length ∧ (∀ ch ∈ cs, ch < 1114112) ∧ Hx l = some (.lst (xs.map V.str)) ∧ xs.length = i ∧ (∀ x ∈ xs, PyData.strOk x = true) ∧ Spelt letMarks 36 fi sv js xs ∧ StAt Hx d c (t' + 1 + 1 + 1) ∧ Kp d c H Hx)
      ⟨cs, [], _, rfl, sl _ _ eD5, hcl1, hcl2, by omega, hcs, upd_same, rfl, (fun _ z => nomatch z), (fun _ _ e => nomatch e), hS5.same sl, kall.trans (Kp.same d c sl)⟩ (fun i σ Hx hi hP => ?_) (fun σ Hx hP => ?_)⟩
    · obtain ⟨cs, xs, y3, rfl, eDx, g1, g2, g3, hcs, elx, hxl, hxs, hsp, hSx, kx⟩ := hP
      have hi2 : (i : Int) < 40 := by omega
      have hmod0 : 0 ≤ (fi + sv * (0 + (i : Int))) % 36 := Int.emod_nonneg _ (by decide)
      have hmod1 : (fi + sv * (0 + (i : Int))) % 36 < 36 := Int.emod_lt_of_pos _ (by decide)
      obtain ⟨ch, hat, hch⟩ := atMarks hmod0 hmod1
      refine ⟨_, rfl, _, rfl, _, rfl, _, rfl, sv, 0 + (i : Int), rfl, rfl, .inl ⟨by omega, by omega⟩, fi, _, rfl, rfl, _, 36, rfl, rfl, (show (0 : Int) < 36 by decide), _, _, ch, rfl, rfl, (by show letMarks.length ≤ sizeLine; decide +kernel), hat, ?_⟩
      refine ⟨_, rfl, _, rfl, D, _, (js : Int), js, rfl, rfl, eDx, ixN_of (by rw [List.length_map]; exact g3), ?_⟩
      have es : (cs.map sgn).set js (.str ⟨#[ch]⟩) = (cs.set js ch).map sgn := by rw [List.map_set]; rfl
      rw [es]
      have hcs' : ∀ x ∈ cs.set js ch, x < 1114112 := fun x hx => by
        rcases List.mem_or_eq_of_mem_set hx with z | z
        · exact hcs x z
        · rw [z]; exact hch
      have hlen' : (cs.set js ch).length = cs.length := List.length_set ..
      have hjs : (cs.set js ch)[js]? = some ch := by rw [List.getElem?_set_self g3]
      have eD6 : upd Hx D (.lst ((cs.set js ch).map sgn)) D = some (.lst ((cs.set js ch).map sgn)) := upd_same
      have el6 : upd Hx D (.lst ((cs.set js ch).map sgn)) l = some (.lst (xs.map V.str)) := by rw [upd_ne nlD.symm]; exact elx
      have hS6 := hSx.upd (o := .lst ((cs.set js ch).map sgn)) offD.1 offD.2
      have k6 : Kp d c H (upd Hx D (.lst ((cs.set js ch).map sgn))) := fun b o b1 b2 e => by rw [upd_ne (ne_of_none e nDH)]; exact kx b o b1 b2 e
      revert eD6 el6 hS6 k6
      rw [← hlen'] at g1 g2 g3
      generalize upd Hx D (.lst ((cs.set js ch).map sgn)) = H6
      generalize cs.set js ch = cs2 at g1 g2 g3 hcs' hjs ⊢
      intro eD6 el6 hS6 k6
      refine ⟨_, rfl, .inl ⟨rfl, _, SqL.of el6⟩, ⟨_, rfl⟩, _, rfl, _, D, cs2.map sgS, rfl, rfl, .inl (SqL.of (by rw [eD6, List.map_map]; rfl)), join_small g2, ?_⟩
      refine ⟨l, _, _, rfl, rfl, el6, small1000 (by rw [List.length_map]; omega), cs2, xs ++ [Txt.join "" (cs2.map sgS)], _, rfl, by rw [upd_ne nlD]; exact eD6, g1, g2, g3, hcs', by rw [upd_same, List.map_append]; rfl, by rw [List.length_append, hxl]; rfl, fun x hx => ?_, hsp.snoc hxl hjs (by rw [Int.zero_add] at hat; exact hat), hS6.upd offl.1 offl.2, fun b o b1 b2 e => ?_⟩
      · rcases List.mem_append.mp hx with z | z
        · exact hxs x z
        · rw [List.mem_singleton.mp z]; exact join_ok hcs'
      · rw [upd_ne (ne_of_none e nlH)]
        exact k6 b o b1 b2 e
    · obtain ⟨cs, xs, y3, rfl, eDx, g1, g2, g3, hcs, elx, hxl, hxs, hsp, hSx, kx⟩ := hP
      exact ⟨_, rfl, q l xs _ Hx nlH elx hxs (by omega) (hsp.nodup (by decide) (by decide +kernel) (by decide +kernel) fun k k' hk hk' e => by rcases hsv with rfl | rfl | rfl | rfl <;> omega) (by omega) (by omega) hSx kx⟩
end

theorem snoc_cases {α : Type} (l : List α) : l = [] ∨ ∃ l' x, l = l' ++ [x] := by
  rcases List.eq_nil_or_concat l with h | ⟨l', x, h⟩
  · exact .inl h
  · exact .inr ⟨l', x, by rw [h]; simp⟩
theorem _root_.GP.Prs.last {H : Hp} {us : List V} {ps : List (Int × Int)} {p : Int × Int} (h : Prs H us (ps ++ [p])) : ∃ us' T, us = us' ++ [.ref T] ∧ H T = some (.tup [.int p.1, .int p.2]) ∧ Prs H us' ps := by
  have hl := h.1
  rw [List.length_append] at hl
  rcases snoc_cases us with e | ⟨us', x, e⟩
  · rw [e] at hl
    simp at hl
  · subst e
    rw [List.length_append] at hl
    have hl' : us'.length = ps.length := Nat.add_right_cancel hl
    obtain ⟨T, e1, e2⟩ := h.2 ps.length p (by rw [List.getElem?_append_right (Nat.le_refl _), Nat.sub_self]; rfl)
    rw [List.getElem?_append_right (by omega), hl', Nat.sub_self] at e1
    refine ⟨us', T, by rw [Option.some.inj e1], e2, hl', fun i q eq => ?_⟩
    have hi : i < ps.length := (List.getElem?_eq_some_iff.mp eq).1
    obtain ⟨b, f1, f2⟩ := h.2 i q (by rw [List.getElem?_append_left hi]; exact eq)
    rw [List.getElem?_append_left (by omega)] at f1
    exact ⟨b, f1, f2⟩
theorem eqv_pr_nil (ps : List (Int × Int)) : PyData.eqv (PyData.list (ps.map pairD)) (PyData.list []) = ps.isEmpty := by
  cases ps with
  | nil => simp [PyData.eqv, PyData.eqvAll]
  | cons p r => simp [PyData.eqv, PyData.eqvAll]
def rIxS (K : PySem.W.Frag) : R2 := fun x y H Q => ∃ p xs i v, x = .ref p ∧ y = .int i ∧ Sq K H p xs ∧ atI xs i = some v ∧ Q v H
theorem ix_seq {X : Cx} : IxR X (rIxS X.K) := by
  intro value slice pins s σ H x y v u Q I rx ry h hs
  obtain ⟨p, xs, i, z, e1, e2, hq, he, q⟩ := h
  rcases hq with hq | hq
  · exact ix_list value slice pins s σ H x y v u Q I rx ry ⟨p, xs, i, z, e1, e2, hq, he, q⟩ hs
  · exact ix_tup value slice pins s σ H x y v u Q I rx ry ⟨p, xs, i, z, e1, e2, hq, he, q⟩ hs

/-! ### the table of the def that holds the generator expression -/
theorem tab_at {Pt : Addr} {H H2 : Hp} {b : Addr} {o : HO} (g : GxR.TabG H Pt) (t : GxR.Tabbed Pt H H2) (e : H b = some o) (h : ∀ q, o ≠ .tbl q) : H2 b = some o := by
  obtain ⟨ps, hP, _⟩ := g
  rw [t.2 b (ne_of e hP (h ps))]
  exact e
theorem StAt.tab {Pt : Addr} {H H2 : Hp} {d c : Addr} {t : Int} (S : StAt H d c t) (g : GxR.TabG H Pt) (x : GxR.Tabbed Pt H H2) : StAt H2 d c t :=
  ⟨tab_at g x S.dict (fun _ z => nomatch z), let ⟨cs, e, r⟩ := S.cells; ⟨cs, tab_at g x e (fun _ z => nomatch z), r⟩, S.pos⟩
theorem _root_.GP.Prs.tab {Pt : Addr} {H H2 : Hp} {vs : List V} {ps : List (Int × Int)} (h : Prs H vs ps) (g : GxR.TabG H Pt) (x : GxR.Tabbed Pt H H2) : Prs H2 vs ps :=
  ⟨h.1, fun i p e => let ⟨a, e1, e2⟩ := h.2 i p e; ⟨a, e1, tab_at g x e2 (fun _ z => nomatch z)⟩⟩
theorem tabG_same {Pt : Addr} {H H' : Hp} (g : GxR.TabG H Pt) (s : Same H H') : GxR.TabG H' Pt := let ⟨ps, e, r⟩ := g; ⟨ps, s _ _ e, r⟩
theorem tabG_kp {Pt : Addr} {H H' : Hp} {d c : Addr} {t : Int} (g : GxR.TabG H Pt) (S : StAt H d c t) (k : Kp d c H H') : GxR.TabG H' Pt := let ⟨ps, e, r⟩ := g; ⟨ps, k.at S e (fun _ z => nomatch z) (fun _ z => nomatch z), r⟩
theorem tabG_upd {Pt : Addr} {H : Hp} {l : Addr} {o u : HO} (g : GxR.TabG H Pt) (e : H l = some o) (h : ∀ q, o ≠ .tbl q) : GxR.TabG (upd H l u) Pt := let ⟨ps, eP, r⟩ := g; ⟨ps, by rw [upd_ne (ne_of e eP (h ps)).symm]; exact eP, r⟩
theorem tabbed_free {Pt : Addr} {H H2 : Hp} {p : Addr} (g : GxR.TabG H Pt) (x : GxR.Tabbed Pt H H2) (h : H2 p = none) : H p = none := by
  obtain ⟨ps, e, _⟩ := x.1
  rw [← x.2 p (fun z => by rw [z, e] at h; cases h)]
  exact h

/-- a walk over what stood before a list was begun -/
theorem for_seqS {K : PySem.W.Frag} {a : Addr} {xs : List V} {g : TG} {tb : TS} {D : Ends} {σ : L2.St} {H0 H1 : Hp} (hq : Sq K H0 a xs) (s1 : Same H0 H1) (Pv : Nat → L2.St → Hp → Prop) (h0 : Pv 0 σ H1)
    (hl : ∀ i σ H', Pv i σ H' → Same H0 H')
    (turn : ∀ i x σ H, xs[i]? = some x → Pv i σ H → g x σ H fun σ2 H2 => tb { D with nx := Pv (i + 1), ct := Pv (i + 1), bk := D.nx } σ2 H2) (fin : ∀ σ H, Pv xs.length σ H → D.nx σ H) :
    ((∃ xs, SqL K H1 a xs) ∧ ForR (Itl K a) g tb D σ H1) ∨ ((∃ xs, SqT K H1 a xs) ∧ ForR (Itt K a) g tb D σ H1) := by
  rcases hq with h | h
  · exact .inl ⟨⟨xs, s1.seq h⟩, for_list (xs := xs) Pv h0 (fun i σ H' _ p => (hl i σ H' p).seq h) turn fin⟩
  · exact .inr ⟨⟨xs, same_t s1 h⟩, for_tup (xs := xs) Pv h0 (fun i σ H' _ p => same_t (hl i σ H' p) h) turn fin⟩

/-! ### zip of a list and a tuple -/
def ItzM (K : PySem.W.Frag) (a b : Addr) : It :=
  ⟨fun i H => ∃ (xs ys : List V) (x y : V), SqL K H a xs ∧ SqT K H b ys ∧ xs[i]? = some x ∧ ys[i]? = some y,
    fun i H v H' => ∃ T x y, v = .ref T ∧ H T = none ∧ H' = upd H T (.tup [x, y]) ∧ (∀ xs, SqL K H a xs → xs[i]? = some x) ∧ ∀ ys, SqT K H b ys → ys[i]? = some y,
    fun i H => ∃ xs ys : List V, SqL K H a xs ∧ SqT K H b ys ∧ i ≤ xs.length ∧ i ≤ ys.length ∧ (i = xs.length ∨ i = ys.length)⟩
theorem turn_zipM {P : Program} {w : World} {K : PySem.W.Frag} {elts : List Expr} {kk : Nat} {tpos : Pos} {a b z TI TO i1 i2 : Addr} (D : ZipSep2 z TI TO i1 i2 [i1, a] [i2, b]) (n1 : a ≠ i1) (n2 : b ≠ i2) :
    Turn P w K (.Tuple elts kk tpos) (ItzM K a b) [z, TI, TO, i1, i2] z (fun i h => IsZip h z TI TO .none ∧ IsTupOf2 h TI (.ref i1) (.ref i2) ∧ (∃ x y, IsTupOf2 h TO x y) ∧ h.IsListIter i1 a i ∧ h.IsTupleIter i2 b i) where
  mem := by simp
  obj := fun i h st c hc => by
    obtain ⟨hz, hTI, ⟨x, y, hTO⟩, ⟨o1, e1, _, d1⟩, ⟨o2, e2, _, d2⟩⟩ := st
    have e' : c = z ∨ c = TI ∨ c = TO ∨ c = i1 ∨ c = i2 := by simpa using hc
    rcases e' with q | q | q | q | q
    · rw [q]; exact ⟨_, hz, fun v q => nomatch q⟩
    · rw [q]; exact ⟨_, hTI, fun v q => nomatch q⟩
    · rw [q]; exact ⟨_, hTO, fun v q => nomatch q⟩
    · rw [q]; exact ⟨o1, e1, fun v q => by rw [d1] at q; cases q⟩
    · rw [q]; exact ⟨o2, e2, fun v q => by rw [d2] at q; cases q⟩
  keep := fun i h h' st k => by
    obtain ⟨hz, hTI, ⟨x, y, hTO⟩, h1, h2⟩ := st
    exact ⟨k z (by simp) _ hz, k TI (by simp) _ hTI, ⟨x, y, k TO (by simp) _ hTO⟩, h1.at fun o q => k i1 (by simp) o q, h2.at fun o q => k i2 (by simp) o q⟩
  item := by
    intro X hP hw hK hc i pins s σ H E I hf st hg
    subst hP hw hK
    obtain ⟨hz, hTI, ⟨x0, y0, hTO⟩, h1, h2⟩ := st
    obtain ⟨xs, ys, x, y, hqx, hqy, hx, hy⟩ := hg
    obtain ⟨its, rv, p, _⟩ := I.list hqx
    obtain ⟨its2, rv2, p2, _⟩ := I.tuple hqy
    obtain ⟨u, hu, ru⟩ := rv.get hx
    obtain ⟨u2, hu2, ru2⟩ := rv2.get hy
    have hui : its.toArray[i]? = some u := by simpa using hu
    have hui2 : its2.toArray[i]? = some u2 := by simpa using hu2
    have hzl : z < s.heap.objs.size := Heap.lt_size hz
    have D1 := Draws.list (prog := X.prog) (w := X.w) (A := X.A.in1) (I.ok.hd hc) i1 a n1 its.toArray
    have D2 := Draws.tuple (prog := X.prog) (w := X.w) (A := X.A.in1) (I.ok.hd hc) i2 b n2 its2.toArray
    refine wpAny_pyNext_zipD2_item D D1 D2 hz hTI hTO ⟨h1, p.isList⟩ ⟨h2, p2⟩ (Array.getElem?_eq_some_iff.mp hui).1 (Array.getElem?_eq_some_iff.mp hui2).1 fun v1 v2 h' tk e1 e2 z' TO' h1' h2' hT hsz hk => ?_
    have ev1 : u = v1 := Option.some.inj (hui.symm.trans e1)
    have ev2 : u2 = v2 := Option.some.inj (hui2.symm.trans e2)
    subst ev1 ev2
    refine ⟨_, rfl, wpAny_letOwnedTupleGo_zip (s := { s with heap := h', toks := tk }) z' fun h'' z'' sb => ?_⟩
    have hT2 : h''.get? s.heap.objs.size = some { cls := .type "tuple", data := .seq #[u, u2] } := (sb.2 _ (Nat.ne_of_gt hzl)).trans hT
    have new : ObjOk X.prog X.w (upd H s.heap.objs.size (.tup [x, y])) h'' s.heap.objs.size (.tup [x, y]) :=
      ⟨by show 2 ≤ sizeLine; decide, [u, u2], .cons ru (.cons ru2 .nil), ⟨_, hT2, rfl, _, rfl⟩⟩
    have I1 : Inv X pins σ (upd H s.heap.objs.size (.tup [x, y])) { s with heap := h'', toks := tk } :=
      I.turnedNew (t' := tk) (ch := [z, TI, TO, i1, i2]) (fun c o hb q => (sb.2 c (fun q' => hb (by simp [q']))).trans (hk c o (fun q' => hb (by simp [q'])) (fun q' => hb (by simp [q'])) (fun q' => hb (by simp [q'])) (fun q' => hb (by simp [q'])) q)) hf (Nat.le_refl _) new
    refine ⟨.ref s.heap.objs.size, _, I1, rfl, ⟨_, x, y, rfl, I.hok.fresh (Nat.le_refl _), rfl, fun l hl => by rw [I.list_inj hl hqx]; exact hx, fun l hl => by rw [I.tuple_inj hl hqy]; exact hy⟩, ⟨z'', ?_, ⟨u, u2, ?_⟩, ?_, ?_⟩, fun c hcm => ?_⟩
    · exact (sb.2 _ D.TIz).trans (hk _ _ D.TIz D.TITO D.TIi1 D.TIi2 hTI)
    · exact (sb.2 _ D.TOz).trans TO'
    · exact h1'.1.at fun o q => (sb.2 _ D.zi1.symm).trans q
    · exact h2'.1.at fun o q => (sb.2 _ D.zi2.symm).trans q
    · have hlt : c < s.heap.objs.size := by
        have e' : c = z ∨ c = TI ∨ c = TO ∨ c = i1 ∨ c = i2 := by simpa using hcm
        rcases e' with q | q | q | q | q
        · rw [q]; exact hzl
        · rw [q]; exact Heap.lt_size hTI
        · rw [q]; exact Heap.lt_size hTO
        · rw [q]; obtain ⟨_, e1, _⟩ := h1; exact Heap.lt_size e1
        · rw [q]; obtain ⟨_, e2, _⟩ := h2; exact Heap.lt_size e2
      rw [upd_ne (Nat.ne_of_lt hlt)]
      exact (hf c hcm).1
  done := by
    intro X hP hw hK hc i pins s σ H E I hf st hg
    subst hP hw hK
    obtain ⟨hz, hTI, ⟨x0, y0, hTO⟩, h1, h2⟩ := st
    obtain ⟨xs, ys, hqx, hqy, g1, g2, hend⟩ := hg
    obtain ⟨its, rv, p, _⟩ := I.list hqx
    obtain ⟨its2, rv2, p2, _⟩ := I.tuple hqy
    have l1 : its.toArray.size = xs.length := by rw [List.size_toArray, rv.length]
    have l2 : its2.toArray.size = ys.length := by rw [List.size_toArray, rv2.length]
    have D1 := Draws.list (prog := X.prog) (w := X.w) (A := X.A.in1) (I.ok.hd hc) i1 a n1 its.toArray
    have D2 := Draws.tuple (prog := X.prog) (w := X.w) (A := X.A.in1) (I.ok.hd hc) i2 b n2 its2.toArray
    exact wpAny_pyNext_zipD2_end D D1 D2 hz hTI hTO ⟨h1, p.isList⟩ ⟨h2, p2⟩ (by omega) (by omega) (by omega) fun h' tk hk => ⟨rfl, I.turnedL (t' := tk) (ch := [z, TI, TO, i1, i2]) (fun c o hb q =>
      hk c o (fun q' => hb (by simp [q'])) (fun q' => hb (by simp [q'])) (fun q' => hb (by simp [q'])) (fun q' => hb (by simp [q'])) q) hf⟩
  self := fun A i s Q E st h => wpAny_pyIter_zip st.1 h
def iZipM (K : PySem.W.Frag) (ta : TA) : TI := fun σ H R => ta σ H fun vs H1 => ∃ a b xs ys, vs = [.ref a, .ref b] ∧ ((SqL K H1 a xs ∧ SqL K H1 b ys ∧ R (Itz K a b) H1) ∨ (SqL K H1 a xs ∧ SqT K H1 b ys ∧ R (ItzM K a b) H1))
theorem pi_zipM {X : Cx} {e e2 : Expr} {ta : TA} {p pos tpos : Pos} {elts : List Expr} {kk : Nat} (hg : Gl X "zip") (hm : X.mg "zip" = none) (ha : PA X [e, e2] ta)
    (hs : starEach [e, e2] X.env = (false, eval e X.env) :: starEach [e2] X.env := by rfl) (hpl : (backTo pos (starEach [e2] X.env)).any (·.1) = false := by rfl) :
    PI X (.Tuple elts kk tpos) (.Call (.Name "zip" p) [e, e2] [] pos) (iZipM X.K ta) := by
  refine ⟨fun pins s σ H R I h => ?_⟩
  refine Call_ (ld_blt I hg hm PyProof.Rows.boot_zip (PyProof.Rows.callWith_type1 (thn (ha.run pos pins s σ H _ I h) fun us s1 ⟨vs, H1, I1, r1, q1⟩ => ?_) hs hpl))
  obtain ⟨a, b, xs, ys, ex, q1⟩ := q1
  subst ex
  cases r1 with
  | cons r rr =>
    cases rr with
    | cons r' rr =>
      cases rr
      cases r
      cases r'
      have fresh5 : ∀ c, c ∈ [s1.heap.objs.size + 4, s1.heap.objs.size + 2, s1.heap.objs.size + 3, s1.heap.objs.size, s1.heap.objs.size + 1] → FpOk X pins H1 c := fun c hcm => by
        have e' : c = s1.heap.objs.size + 4 ∨ c = s1.heap.objs.size + 2 ∨ c = s1.heap.objs.size + 3 ∨ c = s1.heap.objs.size ∨ c = s1.heap.objs.size + 1 := by simpa using hcm
        have hle : s1.heap.objs.size ≤ c := by
          rcases e' with z | z | z | z | z
          · rw [z]; exact Nat.le_add_right _ _
          · rw [z]; exact Nat.le_add_right _ _
          · rw [z]; exact Nat.le_add_right _ _
          · rw [z]; exact Nat.le_refl _
          · rw [z]; exact Nat.le_add_right _ _
        exact I1.fpOk hle (I1.hok.fresh hle)
      rcases q1 with ⟨hqx, hqy, q⟩ | ⟨hqx, hqy, q⟩
      · obtain ⟨its, rv, p1, _⟩ := I1.list hqx
        obtain ⟨its2, rv2, p2, _⟩ := I1.list hqy
        refine call_zip_2 p1.isList p2.isList fun h' hz hTI hTO h1 h2 hsz hk => wpAny_pyIter_zip hz ?_
        have I2 : Inv X pins σ H1 { s1 with heap := h' } := I1.kept (t' := s1.toks) hk
        exact ⟨s1.heap.objs.size + 4, [s1.heap.objs.size + 4, s1.heap.objs.size + 2, s1.heap.objs.size + 3, s1.heap.objs.size, s1.heap.objs.size + 1], _, _, H1, rfl, I2, turn_zip (PySem.W.ktu_apart s1.heap.objs.size a b p1.lt p2.lt), ⟨hz, hTI, ⟨_, _, hTO⟩, h1, h2⟩, fresh5, q⟩
      · obtain ⟨its, rv, p1, _⟩ := I1.list hqx
        obtain ⟨its2, rv2, p2, _⟩ := I1.tuple hqy
        have la : a < s1.heap.objs.size := p1.lt
        have lb : b < s1.heap.objs.size := let ⟨_, ho, _⟩ := id p2; Heap.lt_size ho
        refine zip_begins2 (begins_list a its.toArray) (begins_tuple b its2.toArray) p1.isList p2 fun h' hz hTI hTO h1 h2 hsz hk => wpAny_pyIter_zip hz ?_
        have I2 : Inv X pins σ H1 { s1 with heap := h' } := I1.kept (t' := s1.toks) hk
        exact ⟨s1.heap.objs.size + 4, [s1.heap.objs.size + 4, s1.heap.objs.size + 2, s1.heap.objs.size + 3, s1.heap.objs.size, s1.heap.objs.size + 1], _, _, H1, rfl, I2, turn_zipM (zip_sep2 (N := s1.heap.objs.size) (fun c hc => by rw [List.mem_singleton.mp hc]; exact la) (fun c hc => by rw [List.mem_singleton.mp hc]; exact lb)) (Nat.ne_of_lt la) (Nat.ne_of_lt (Nat.lt_succ_of_lt lb)), ⟨hz, hTI, ⟨_, _, hTO⟩, ⟨_, h1, rfl, rfl⟩, ⟨_, h2, rfl, rfl⟩⟩, fresh5, q⟩
theorem walk_zipM {K : PySem.W.Frag} {a b : Addr} {xs ys : List V} (hl : xs.length = ys.length) : Walk (ItzM K a b) xs.length (fun H => SqL K H a xs ∧ SqT K H b ys) (YPair (fun i => xs[i]?) (fun i => ys[i]?)) where
  goes := fun i _ hi q => ⟨xs, ys, xs[i], ys[i]'(hl ▸ hi), q.1, q.2, List.getElem?_eq_getElem hi, List.getElem?_eq_getElem (hl ▸ hi)⟩
  stops := fun _ q => ⟨xs, ys, q.1, q.2, Nat.le_refl _, Nat.le_of_eq hl, .inl rfl⟩
  yields := fun i H v H' _ q ⟨T, x, y, h1, h2, h3, h4, h5⟩ => ⟨T, x, y, h1, h2, h3, h4 xs q.1, h5 ys q.2⟩
/-- a loop over zip of a list and a list or tuple of one length -/
theorem for_zipM {K : PySem.W.Frag} {a b : Addr} {xs ys : List V} {g : TG} {tb : TS} {D : Ends} {σ : L2.St} {H0 H1 : Hp} (ha : SqL K H0 a xs) (hb : Sq K H0 b ys) (hl : xs.length = ys.length) (s1 : Same H0 H1) (Pv : Nat → L2.St → Hp → Prop) (h0 : Pv 0 σ H1) (hs : ∀ i σ H', Pv i σ H' → Same H0 H')
    (turn : ∀ i x y T σ H, xs[i]? = some x → ys[i]? = some y → Pv i σ H → H T = none → g (.ref T) σ (upd H T (.tup [x, y])) fun σ2 H2 => tb { D with nx := Pv (i + 1), ct := Pv (i + 1), bk := D.nx } σ2 H2) (fin : ∀ σ H, Pv xs.length σ H → D.nx σ H) :
    ((SqL K H1 a xs ∧ SqL K H1 b ys ∧ ForR (Itz K a b) g tb D σ H1) ∨ (SqL K H1 a xs ∧ SqT K H1 b ys ∧ ForR (ItzM K a b) g tb D σ H1)) := by
  have tn : ∀ i v σ H H', i < xs.length → Pv i σ H → YPair (fun i => xs[i]?) (fun i => ys[i]?) i H v H' → g v σ H' fun σ2 H2 => tb { D with nx := Pv (i + 1), ct := Pv (i + 1), bk := D.nx } σ2 H2 := by
    rintro i v σ H H' _ hp ⟨T, x, y, rfl, nT, rfl, e1, e2⟩
    exact turn i x y T σ H e1 e2 hp nT
  rcases hb with h | h
  · exact .inl ⟨s1.seq ha, s1.seq h, for_it (walk_zip (by omega)) Pv h0 (fun i σ H' _ p => ⟨(hs i σ H' p).seq ha, (hs i σ H' p).seq h⟩) tn fin⟩
  · exact .inr ⟨s1.seq ha, same_t s1 h, for_it (walk_zipM hl) Pv h0 (fun i σ H' _ p => ⟨(hs i σ H' p).seq ha, same_t (hs i σ H' p) h⟩) tn fin⟩

/-! ### zip of three: a list, a list or a tuple, a list -/
def Itz3L (K : PySem.W.Frag) (a b c3 : Addr) : It :=
  ⟨fun i H => ∃ (xs ys zs : List V) (x y z : V), SqL K H a xs ∧ SqL K H b ys ∧ SqL K H c3 zs ∧ xs[i]? = some x ∧ ys[i]? = some y ∧ zs[i]? = some z,
    fun i H v H' => ∃ T x y z, v = .ref T ∧ H T = none ∧ H' = upd H T (.tup [x, y, z]) ∧ (∀ xs, SqL K H a xs → xs[i]? = some x) ∧ (∀ ys, SqL K H b ys → ys[i]? = some y) ∧ ∀ zs, SqL K H c3 zs → zs[i]? = some z,
    fun i H => ∃ xs ys zs : List V, SqL K H a xs ∧ SqL K H b ys ∧ SqL K H c3 zs ∧ i = xs.length ∧ i = ys.length ∧ i = zs.length⟩
theorem turn_zip3L {P : Program} {w : World} {K : PySem.W.Frag} {elts : List Expr} {kk : Nat} {tpos : Pos} {a b c3 z TI TO i1 i2 i3 : Addr} (D : ZipSep3 z TI TO i1 i2 i3 [i1, a] [i2, b] [i3, c3]) (n1 : a ≠ i1) (n2 : b ≠ i2) (n3 : c3 ≠ i3) :
    Turn P w K (.Tuple elts kk tpos) (Itz3L K a b c3) [z, TI, TO, i1, i2, i3] z (fun i h => IsZip h z TI TO .none ∧ IsTupOf3 h TI (.ref i1) (.ref i2) (.ref i3) ∧ (∃ x y u, IsTupOf3 h TO x y u) ∧ h.IsListIter i1 a i ∧ h.IsListIter i2 b i ∧ h.IsListIter i3 c3 i) where
  mem := by simp
  obj := fun i h st c hc => by
    obtain ⟨hz, hTI, ⟨x, y, u, hTO⟩, ⟨o1, e1, _, d1⟩, ⟨o2, e2, _, d2⟩, ⟨o3, e3, _, d3⟩⟩ := st
    have which : c = z ∨ c = TI ∨ c = TO ∨ c = i1 ∨ c = i2 ∨ c = i3 := by simpa using hc
    rcases which with q | q | q | q | q | q
    · rw [q]; exact ⟨_, hz, fun v q => nomatch q⟩
    · rw [q]; exact ⟨_, hTI, fun v q => nomatch q⟩
    · rw [q]; exact ⟨_, hTO, fun v q => nomatch q⟩
    · rw [q]; exact ⟨o1, e1, fun v q => by rw [d1] at q; cases q⟩
    · rw [q]; exact ⟨o2, e2, fun v q => by rw [d2] at q; cases q⟩
    · rw [q]; exact ⟨o3, e3, fun v q => by rw [d3] at q; cases q⟩
  keep := fun i h h' st k => by
    obtain ⟨hz, hTI, ⟨x, y, u, hTO⟩, h1, h2, h3⟩ := st
    exact ⟨k z (by simp) _ hz, k TI (by simp) _ hTI, ⟨x, y, u, k TO (by simp) _ hTO⟩, h1.at fun o q => k i1 (by simp) o q, h2.at fun o q => k i2 (by simp) o q, h3.at fun o q => k i3 (by simp) o q⟩
  item := by
    intro X hP hw hK hc i pins s σ H E I hf st hg
    subst hP hw hK
    obtain ⟨hz, hTI, ⟨x0, y0, u0, hTO⟩, h1, h2, h3⟩ := st
    obtain ⟨xs, ys, zs, x, y, v3, hqx, hqy, hqz, hx, hy, hv⟩ := hg
    obtain ⟨its, rv, p, _⟩ := I.list hqx
    obtain ⟨its2, rv2, p2, _⟩ := I.list hqy
    obtain ⟨its3, rv3, p3, _⟩ := I.list hqz
    obtain ⟨u, hu, ru⟩ := rv.get hx
    obtain ⟨u2, hu2, ru2⟩ := rv2.get hy
    obtain ⟨u3, hu3, ru3⟩ := rv3.get hv
    have hui : its.toArray[i]? = some u := by simpa using hu
    have hui2 : its2.toArray[i]? = some u2 := by simpa using hu2
    have hui3 : its3.toArray[i]? = some u3 := by simpa using hu3
    have hzl : z < s.heap.objs.size := Heap.lt_size hz
    have D1 := Draws.list (prog := X.prog) (w := X.w) (A := X.A.in1) (I.ok.hd hc) i1 a n1 its.toArray
    have D2 := Draws.list (prog := X.prog) (w := X.w) (A := X.A.in1) (I.ok.hd hc) i2 b n2 its2.toArray
    have D3 := Draws.list (prog := X.prog) (w := X.w) (A := X.A.in1) (I.ok.hd hc) i3 c3 n3 its3.toArray
    refine wpAny_pyNext_zipD3_item D D1 D2 D3 hz hTI hTO ⟨h1, p.isList⟩ ⟨h2, p2.isList⟩ ⟨h3, p3.isList⟩ (Array.getElem?_eq_some_iff.mp hui).1 (Array.getElem?_eq_some_iff.mp hui2).1 (Array.getElem?_eq_some_iff.mp hui3).1 fun v1 v2 v4 h' tk e1 e2 e3 z' TO' h1' h2' h3' hT hsz hk => ?_
    have ev1 : u = v1 := Option.some.inj (hui.symm.trans e1)
    have ev2 : u2 = v2 := Option.some.inj (hui2.symm.trans e2)
    have ev3 : u3 = v4 := Option.some.inj (hui3.symm.trans e3)
    subst ev1 ev2 ev3
    refine ⟨_, rfl, wpAny_letOwnedTupleGo_zip (s := { s with heap := h', toks := tk }) z' fun h'' z'' sb => ?_⟩
    have hT2 : h''.get? s.heap.objs.size = some { cls := .type "tuple", data := .seq #[u, u2, u3] } := (sb.2 _ (Nat.ne_of_gt hzl)).trans hT
    have new : ObjOk X.prog X.w (upd H s.heap.objs.size (.tup [x, y, v3])) h'' s.heap.objs.size (.tup [x, y, v3]) :=
      ⟨by show 3 ≤ sizeLine; decide, [u, u2, u3], .cons ru (.cons ru2 (.cons ru3 .nil)), ⟨_, hT2, rfl, _, rfl⟩⟩
    have past : ∀ c o, c ∉ [z, TI, TO, i1, i2, i3] → s.heap.get? c = some o → h''.get? c = some o := fun c o hb q => (sb.2 c (fun q' => hb (by simp [q']))).trans (hk c o (fun q' => hb (by simp [q'])) (fun q' => hb (by simp [q'])) (fun q' => hb (by simp [q'])) (fun q' => hb (by simp [q'])) (fun q' => hb (by simp [q'])) q)
    have I1 : Inv X pins σ (upd H s.heap.objs.size (.tup [x, y, v3])) { s with heap := h'', toks := tk } := I.turnedNew (t' := tk) (ch := [z, TI, TO, i1, i2, i3]) past hf (Nat.le_refl _) new
    refine ⟨.ref s.heap.objs.size, _, I1, rfl, ⟨_, x, y, v3, rfl, I.hok.fresh (Nat.le_refl _), rfl, fun l hl => by rw [I.list_inj hl hqx]; exact hx, fun l hl => by rw [I.list_inj hl hqy]; exact hy, fun l hl => by rw [I.list_inj hl hqz]; exact hv⟩, ⟨z'', ?_, ⟨u, u2, u3, ?_⟩, ?_, ?_, ?_⟩, fun c hcm => ?_⟩
    · exact (sb.2 _ D.TIz).trans (hk _ _ D.TIz D.TITO D.TIi1 D.TIi2 D.TIi3 hTI)
    · exact (sb.2 _ D.TOz).trans TO'
    · exact h1'.1.at fun o q => (sb.2 _ D.zi1.symm).trans q
    · exact h2'.1.at fun o q => (sb.2 _ D.zi2.symm).trans q
    · exact h3'.1.at fun o q => (sb.2 _ D.zi3.symm).trans q
    · have hlt : c < s.heap.objs.size := by
        have which : c = z ∨ c = TI ∨ c = TO ∨ c = i1 ∨ c = i2 ∨ c = i3 := by simpa using hcm
        rcases which with q | q | q | q | q | q
        · rw [q]; exact hzl
        · rw [q]; exact Heap.lt_size hTI
        · rw [q]; exact Heap.lt_size hTO
        · rw [q]; obtain ⟨_, e1, _⟩ := h1; exact Heap.lt_size e1
        · rw [q]; obtain ⟨_, e2, _⟩ := h2; exact Heap.lt_size e2
        · rw [q]; obtain ⟨_, e3, _⟩ := h3; exact Heap.lt_size e3
      rw [upd_ne (Nat.ne_of_lt hlt)]
      exact (hf c hcm).1
  done := by
    intro X hP hw hK hc i pins s σ H E I hf st hg
    subst hP hw hK
    obtain ⟨hz, hTI, ⟨x0, y0, u0, hTO⟩, h1, h2, h3⟩ := st
    obtain ⟨xs, ys, zs, hqx, hqy, hqz, g1, g2, g3⟩ := hg
    obtain ⟨its, rv, p, _⟩ := I.list hqx
    obtain ⟨its2, rv2, p2, _⟩ := I.list hqy
    obtain ⟨its3, rv3, p3, _⟩ := I.list hqz
    have l1 : its.toArray.size = xs.length := by rw [List.size_toArray, rv.length]
    have l2 : its2.toArray.size = ys.length := by rw [List.size_toArray, rv2.length]
    have l3 : its3.toArray.size = zs.length := by rw [List.size_toArray, rv3.length]
    have D1 := Draws.list (prog := X.prog) (w := X.w) (A := X.A.in1) (I.ok.hd hc) i1 a n1 its.toArray
    have D2 := Draws.list (prog := X.prog) (w := X.w) (A := X.A.in1) (I.ok.hd hc) i2 b n2 its2.toArray
    have D3 := Draws.list (prog := X.prog) (w := X.w) (A := X.A.in1) (I.ok.hd hc) i3 c3 n3 its3.toArray
    exact wpAny_pyNext_zipD3_end D D1 D2 D3 hz hTI hTO ⟨h1, p.isList⟩ ⟨h2, p2.isList⟩ ⟨h3, p3.isList⟩ (by omega) (by omega) (by omega) (by omega) fun h' tk hk => ⟨rfl, I.turnedL (t' := tk) (ch := [z, TI, TO, i1, i2, i3]) (fun c o hb q =>
      hk c o (fun q' => hb (by simp [q'])) (fun q' => hb (by simp [q'])) (fun q' => hb (by simp [q'])) (fun q' => hb (by simp [q'])) (fun q' => hb (by simp [q'])) q) hf⟩
  self := fun A i s Q E st h => wpAny_pyIter_zip st.1 h
def Itz3T (K : PySem.W.Frag) (a b c3 : Addr) : It :=
  ⟨fun i H => ∃ (xs ys zs : List V) (x y z : V), SqL K H a xs ∧ SqT K H b ys ∧ SqL K H c3 zs ∧ xs[i]? = some x ∧ ys[i]? = some y ∧ zs[i]? = some z,
    fun i H v H' => ∃ T x y z, v = .ref T ∧ H T = none ∧ H' = upd H T (.tup [x, y, z]) ∧ (∀ xs, SqL K H a xs → xs[i]? = some x) ∧ (∀ ys, SqT K H b ys → ys[i]? = some y) ∧ ∀ zs, SqL K H c3 zs → zs[i]? = some z,
    fun i H => ∃ xs ys zs : List V, SqL K H a xs ∧ SqT K H b ys ∧ SqL K H c3 zs ∧ i = xs.length ∧ i = ys.length ∧ i = zs.length⟩
theorem turn_zip3T {P : Program} {w : World} {K : PySem.W.Frag} {elts : List Expr} {kk : Nat} {tpos : Pos} {a b c3 z TI TO i1 i2 i3 : Addr} (D : ZipSep3 z TI TO i1 i2 i3 [i1, a] [i2, b] [i3, c3]) (n1 : a ≠ i1) (n2 : b ≠ i2) (n3 : c3 ≠ i3) :
    Turn P w K (.Tuple elts kk tpos) (Itz3T K a b c3) [z, TI, TO, i1, i2, i3] z (fun i h => IsZip h z TI TO .none ∧ IsTupOf3 h TI (.ref i1) (.ref i2) (.ref i3) ∧ (∃ x y u, IsTupOf3 h TO x y u) ∧ h.IsListIter i1 a i ∧ h.IsTupleIter i2 b i ∧ h.IsListIter i3 c3 i) where
  mem := by simp
  obj := fun i h st c hc => by
    obtain ⟨hz, hTI, ⟨x, y, u, hTO⟩, ⟨o1, e1, _, d1⟩, ⟨o2, e2, _, d2⟩, ⟨o3, e3, _, d3⟩⟩ := st
    have which : c = z ∨ c = TI ∨ c = TO ∨ c = i1 ∨ c = i2 ∨ c = i3 := by simpa using hc
    rcases which with q | q | q | q | q | q
    · rw [q]; exact ⟨_, hz, fun v q => nomatch q⟩
    · rw [q]; exact ⟨_, hTI, fun v q => nomatch q⟩
    · rw [q]; exact ⟨_, hTO, fun v q => nomatch q⟩
    · rw [q]; exact ⟨o1, e1, fun v q => by rw [d1] at q; cases q⟩
    · rw [q]; exact ⟨o2, e2, fun v q => by rw [d2] at q; cases q⟩
    · rw [q]; exact ⟨o3, e3, fun v q => by rw [d3] at q; cases q⟩
  keep := fun i h h' st k => by
    obtain ⟨hz, hTI, ⟨x, y, u, hTO⟩, h1, h2, h3⟩ := st
    exact ⟨k z (by simp) _ hz, k TI (by simp) _ hTI, ⟨x, y, u, k TO (by simp) _ hTO⟩, h1.at fun o q => k i1 (by simp) o q, h2.at fun o q => k i2 (by simp) o q, h3.at fun o q => k i3 (by simp) o q⟩
  item := by
    intro X hP hw hK hc i pins s σ H E I hf st hg
    subst hP hw hK
    obtain ⟨hz, hTI, ⟨x0, y0, u0, hTO⟩, h1, h2, h3⟩ := st
    obtain ⟨xs, ys, zs, x, y, v3, hqx, hqy, hqz, hx, hy, hv⟩ := hg
    obtain ⟨its, rv, p, _⟩ := I.list hqx
    obtain ⟨its2, rv2, p2, _⟩ := I.tuple hqy
    obtain ⟨its3, rv3, p3, _⟩ := I.list hqz
    obtain ⟨u, hu, ru⟩ := rv.get hx
    obtain ⟨u2, hu2, ru2⟩ := rv2.get hy
    obtain ⟨u3, hu3, ru3⟩ := rv3.get hv
    have hui : its.toArray[i]? = some u := by simpa using hu
    have hui2 : its2.toArray[i]? = some u2 := by simpa using hu2
    have hui3 : its3.toArray[i]? = some u3 := by simpa using hu3
    have hzl : z < s.heap.objs.size := Heap.lt_size hz
    have D1 := Draws.list (prog := X.prog) (w := X.w) (A := X.A.in1) (I.ok.hd hc) i1 a n1 its.toArray
    have D2 := Draws.tuple (prog := X.prog) (w := X.w) (A := X.A.in1) (I.ok.hd hc) i2 b n2 its2.toArray
    have D3 := Draws.list (prog := X.prog) (w := X.w) (A := X.A.in1) (I.ok.hd hc) i3 c3 n3 its3.toArray
    refine wpAny_pyNext_zipD3_item D D1 D2 D3 hz hTI hTO ⟨h1, p.isList⟩ ⟨h2, p2⟩ ⟨h3, p3.isList⟩ (Array.getElem?_eq_some_iff.mp hui).1 (Array.getElem?_eq_some_iff.mp hui2).1 (Array.getElem?_eq_some_iff.mp hui3).1 fun v1 v2 v4 h' tk e1 e2 e3 z' TO' h1' h2' h3' hT hsz hk => ?_
    have ev1 : u = v1 := Option.some.inj (hui.symm.trans e1)
    have ev2 : u2 = v2 := Option.some.inj (hui2.symm.trans e2)
    have ev3 : u3 = v4 := Option.some.inj (hui3.symm.trans e3)
    subst ev1 ev2 ev3
    refine ⟨_, rfl, wpAny_letOwnedTupleGo_zip (s := { s with heap := h', toks := tk }) z' fun h'' z'' sb => ?_⟩
    have hT2 : h''.get? s.heap.objs.size = some { cls := .type "tuple", data := .seq #[u, u2, u3] } := (sb.2 _ (Nat.ne_of_gt hzl)).trans hT
    have new : ObjOk X.prog X.w (upd H s.heap.objs.size (.tup [x, y, v3])) h'' s.heap.objs.size (.tup [x, y, v3]) :=
      ⟨by show 3 ≤ sizeLine; decide, [u, u2, u3], .cons ru (.cons ru2 (.cons ru3 .nil)), ⟨_, hT2, rfl, _, rfl⟩⟩
    have past : ∀ c o, c ∉ [z, TI, TO, i1, i2, i3] → s.heap.get? c = some o → h''.get? c = some o := fun c o hb q => (sb.2 c (fun q' => hb (by simp [q']))).trans (hk c o (fun q' => hb (by simp [q'])) (fun q' => hb (by simp [q'])) (fun q' => hb (by simp [q'])) (fun q' => hb (by simp [q'])) (fun q' => hb (by simp [q'])) q)
    have I1 : Inv X pins σ (upd H s.heap.objs.size (.tup [x, y, v3])) { s with heap := h'', toks := tk } := I.turnedNew (t' := tk) (ch := [z, TI, TO, i1, i2, i3]) past hf (Nat.le_refl _) new
    refine ⟨.ref s.heap.objs.size, _, I1, rfl, ⟨_, x, y, v3, rfl, I.hok.fresh (Nat.le_refl _), rfl, fun l hl => by rw [I.list_inj hl hqx]; exact hx, fun l hl => by rw [I.tuple_inj hl hqy]; exact hy, fun l hl => by rw [I.list_inj hl hqz]; exact hv⟩, ⟨z'', ?_, ⟨u, u2, u3, ?_⟩, ?_, ?_, ?_⟩, fun c hcm => ?_⟩
    · exact (sb.2 _ D.TIz).trans (hk _ _ D.TIz D.TITO D.TIi1 D.TIi2 D.TIi3 hTI)
    · exact (sb.2 _ D.TOz).trans TO'
    · exact h1'.1.at fun o q => (sb.2 _ D.zi1.symm).trans q
    · exact h2'.1.at fun o q => (sb.2 _ D.zi2.symm).trans q
    · exact h3'.1.at fun o q => (sb.2 _ D.zi3.symm).trans q
    · have hlt : c < s.heap.objs.size := by
        have which : c = z ∨ c = TI ∨ c = TO ∨ c = i1 ∨ c = i2 ∨ c = i3 := by simpa using hcm
        rcases which with q | q | q | q | q | q
        · rw [q]; exact hzl
        · rw [q]; exact Heap.lt_size hTI
        · rw [q]; exact Heap.lt_size hTO
        · rw [q]; obtain ⟨_, e1, _⟩ := h1; exact Heap.lt_size e1
        · rw [q]; obtain ⟨_, e2, _⟩ := h2; exact Heap.lt_size e2
        · rw [q]; obtain ⟨_, e3, _⟩ := h3; exact Heap.lt_size e3
      rw [upd_ne (Nat.ne_of_lt hlt)]
      exact (hf c hcm).1
  done := by
    intro X hP hw hK hc i pins s σ H E I hf st hg
    subst hP hw hK
    obtain ⟨hz, hTI, ⟨x0, y0, u0, hTO⟩, h1, h2, h3⟩ := st
    obtain ⟨xs, ys, zs, hqx, hqy, hqz, g1, g2, g3⟩ := hg
    obtain ⟨its, rv, p, _⟩ := I.list hqx
    obtain ⟨its2, rv2, p2, _⟩ := I.tuple hqy
    obtain ⟨its3, rv3, p3, _⟩ := I.list hqz
    have l1 : its.toArray.size = xs.length := by rw [List.size_toArray, rv.length]
    have l2 : its2.toArray.size = ys.length := by rw [List.size_toArray, rv2.length]
    have l3 : its3.toArray.size = zs.length := by rw [List.size_toArray, rv3.length]
    have D1 := Draws.list (prog := X.prog) (w := X.w) (A := X.A.in1) (I.ok.hd hc) i1 a n1 its.toArray
    have D2 := Draws.tuple (prog := X.prog) (w := X.w) (A := X.A.in1) (I.ok.hd hc) i2 b n2 its2.toArray
    have D3 := Draws.list (prog := X.prog) (w := X.w) (A := X.A.in1) (I.ok.hd hc) i3 c3 n3 its3.toArray
    exact wpAny_pyNext_zipD3_end D D1 D2 D3 hz hTI hTO ⟨h1, p.isList⟩ ⟨h2, p2⟩ ⟨h3, p3.isList⟩ (by omega) (by omega) (by omega) (by omega) fun h' tk hk => ⟨rfl, I.turnedL (t' := tk) (ch := [z, TI, TO, i1, i2, i3]) (fun c o hb q =>
      hk c o (fun q' => hb (by simp [q'])) (fun q' => hb (by simp [q'])) (fun q' => hb (by simp [q'])) (fun q' => hb (by simp [q'])) (fun q' => hb (by simp [q'])) q) hf⟩
  self := fun A i s Q E st h => wpAny_pyIter_zip st.1 h
def iZip3 (K : PySem.W.Frag) (ta : TA) : TI := fun σ H R => ta σ H fun vs H1 => ∃ a b c3 xs ys zs, vs = [.ref a, .ref b, .ref c3] ∧ ((SqL K H1 a xs ∧ SqL K H1 b ys ∧ SqL K H1 c3 zs ∧ R (Itz3L K a b c3) H1) ∨ (SqL K H1 a xs ∧ SqT K H1 b ys ∧ SqL K H1 c3 zs ∧ R (Itz3T K a b c3) H1))
theorem pi_zip3 {X : Cx} {e e2 e3 : Expr} {ta : TA} {p pos tpos : Pos} {elts : List Expr} {kk : Nat} (hg : Gl X "zip") (hm : X.mg "zip" = none) (ha : PA X [e, e2, e3] ta)
    (hs : starEach [e, e2, e3] X.env = (false, eval e X.env) :: starEach [e2, e3] X.env := by rfl) (hpl : (backTo pos (starEach [e2, e3] X.env)).any (·.1) = false := by rfl) :
    PI X (.Tuple elts kk tpos) (.Call (.Name "zip" p) [e, e2, e3] [] pos) (iZip3 X.K ta) := by
  refine ⟨fun pins s σ H R I h => ?_⟩
  refine Call_ (ld_blt I hg hm PyProof.Rows.boot_zip (PyProof.Rows.callWith_type1 (thn (ha.run pos pins s σ H _ I h) fun us s1 ⟨vs, H1, I1, r1, q1⟩ => ?_) hs hpl))
  obtain ⟨a, b, c3, xs, ys, zs, ex, q1⟩ := q1
  subst ex
  cases r1 with
  | cons r rr =>
    cases rr with
    | cons r' rr =>
     cases rr with
     | cons r'' rr =>
      cases rr
      cases r
      cases r'
      cases r''
      have fresh6 : ∀ c, c ∈ [s1.heap.objs.size + 5, s1.heap.objs.size + 3, s1.heap.objs.size + 4, s1.heap.objs.size, s1.heap.objs.size + 1, s1.heap.objs.size + 2] → FpOk X pins H1 c := fun c hcm => by
        have which : c = s1.heap.objs.size + 5 ∨ c = s1.heap.objs.size + 3 ∨ c = s1.heap.objs.size + 4 ∨ c = s1.heap.objs.size ∨ c = s1.heap.objs.size + 1 ∨ c = s1.heap.objs.size + 2 := by simpa using hcm
        have hle : s1.heap.objs.size ≤ c := by
          rcases which with z | z | z | z | z | z
          · rw [z]; exact Nat.le_add_right _ _
          · rw [z]; exact Nat.le_add_right _ _
          · rw [z]; exact Nat.le_add_right _ _
          · rw [z]; exact Nat.le_refl _
          · rw [z]; exact Nat.le_add_right _ _
          · rw [z]; exact Nat.le_add_right _ _
        exact I1.fpOk hle (I1.hok.fresh hle)
      rcases q1 with ⟨hqx, hqy, hqz, q⟩ | ⟨hqx, hqy, hqz, q⟩
      · obtain ⟨its, rv, p1, _⟩ := I1.list hqx
        obtain ⟨its2, rv2, p2, _⟩ := I1.list hqy
        obtain ⟨its3, rv3, p3, _⟩ := I1.list hqz
        have la : a < s1.heap.objs.size := p1.lt
        have lb : b < s1.heap.objs.size := let ⟨_, ho, _⟩ := id p2.isList; Heap.lt_size ho
        have lc : c3 < s1.heap.objs.size := p3.lt
        refine zip_begins3 (begins_list a its.toArray) (begins_list b its2.toArray) (begins_list c3 its3.toArray) p1.isList p2.isList p3.isList fun h' hz hTI hTO h1 h2 h3 hsz hk => wpAny_pyIter_zip hz ?_
        have I2 : Inv X pins σ H1 { s1 with heap := h' } := I1.kept (t' := s1.toks) hk
        exact ⟨s1.heap.objs.size + 5, [s1.heap.objs.size + 5, s1.heap.objs.size + 3, s1.heap.objs.size + 4, s1.heap.objs.size, s1.heap.objs.size + 1, s1.heap.objs.size + 2], _, _, H1, rfl, I2, turn_zip3L (zip_sep3 (N := s1.heap.objs.size) (fun c hc => by rw [List.mem_singleton.mp hc]; exact la) (fun c hc => by rw [List.mem_singleton.mp hc]; exact lb) (fun c hc => by rw [List.mem_singleton.mp hc]; exact lc)) (Nat.ne_of_lt la) (Nat.ne_of_lt (Nat.lt_succ_of_lt lb)) (Nat.ne_of_lt (Nat.lt_succ_of_lt (Nat.lt_succ_of_lt lc))), ⟨hz, hTI, ⟨_, _, _, hTO⟩, ⟨_, h1, rfl, rfl⟩, ⟨_, h2, rfl, rfl⟩, ⟨_, h3, rfl, rfl⟩⟩, fresh6, q⟩
      · obtain ⟨its, rv, p1, _⟩ := I1.list hqx
        obtain ⟨its2, rv2, p2, _⟩ := I1.tuple hqy
        obtain ⟨its3, rv3, p3, _⟩ := I1.list hqz
        have la : a < s1.heap.objs.size := p1.lt
        have lb : b < s1.heap.objs.size := let ⟨_, ho, _⟩ := id p2; Heap.lt_size ho
        have lc : c3 < s1.heap.objs.size := p3.lt
        refine zip_begins3 (begins_list a its.toArray) (begins_tuple b its2.toArray) (begins_list c3 its3.toArray) p1.isList p2 p3.isList fun h' hz hTI hTO h1 h2 h3 hsz hk => wpAny_pyIter_zip hz ?_
        have I2 : Inv X pins σ H1 { s1 with heap := h' } := I1.kept (t' := s1.toks) hk
        exact ⟨s1.heap.objs.size + 5, [s1.heap.objs.size + 5, s1.heap.objs.size + 3, s1.heap.objs.size + 4, s1.heap.objs.size, s1.heap.objs.size + 1, s1.heap.objs.size + 2], _, _, H1, rfl, I2, turn_zip3T (zip_sep3 (N := s1.heap.objs.size) (fun c hc => by rw [List.mem_singleton.mp hc]; exact la) (fun c hc => by rw [List.mem_singleton.mp hc]; exact lb) (fun c hc => by rw [List.mem_singleton.mp hc]; exact lc)) (Nat.ne_of_lt la) (Nat.ne_of_lt (Nat.lt_succ_of_lt lb)) (Nat.ne_of_lt (Nat.lt_succ_of_lt (Nat.lt_succ_of_lt lc))), ⟨hz, hTI, ⟨_, _, _, hTO⟩, ⟨_, h1, rfl, rfl⟩, ⟨_, h2, rfl, rfl⟩, ⟨_, h3, rfl, rfl⟩⟩, fresh6, q⟩
def Y3 (xs ys zs : List V) : Nat → Hp → V → Hp → Prop := fun i H v H' => ∃ T x y z, v = .ref T ∧ H T = none ∧ H' = upd H T (.tup [x, y, z]) ∧ xs[i]? = some x ∧ ys[i]? = some y ∧ zs[i]? = some z
theorem walk_zip3L {K : PySem.W.Frag} {a b c3 : Addr} {xs ys zs : List V} (h1 : ys.length = xs.length) (h2 : zs.length = xs.length) : Walk (Itz3L K a b c3) xs.length (fun H => SqL K H a xs ∧ SqL K H b ys ∧ SqL K H c3 zs) (Y3 xs ys zs) where
  goes := fun i _ hi q => ⟨xs, ys, zs, xs[i], ys[i]'(h1 ▸ hi), zs[i]'(h2 ▸ hi), q.1, q.2.1, q.2.2, List.getElem?_eq_getElem hi, List.getElem?_eq_getElem (h1 ▸ hi), List.getElem?_eq_getElem (h2 ▸ hi)⟩
  stops := fun _ q => ⟨xs, ys, zs, q.1, q.2.1, q.2.2, rfl, h1.symm, h2.symm⟩
  yields := fun i H v H' _ q ⟨T, x, y, z, g1, g2, g3, g4, g5, g6⟩ => ⟨T, x, y, z, g1, g2, g3, g4 xs q.1, g5 ys q.2.1, g6 zs q.2.2⟩
theorem walk_zip3T {K : PySem.W.Frag} {a b c3 : Addr} {xs ys zs : List V} (h1 : ys.length = xs.length) (h2 : zs.length = xs.length) : Walk (Itz3T K a b c3) xs.length (fun H => SqL K H a xs ∧ SqT K H b ys ∧ SqL K H c3 zs) (Y3 xs ys zs) where
  goes := fun i _ hi q => ⟨xs, ys, zs, xs[i], ys[i]'(h1 ▸ hi), zs[i]'(h2 ▸ hi), q.1, q.2.1, q.2.2, List.getElem?_eq_getElem hi, List.getElem?_eq_getElem (h1 ▸ hi), List.getElem?_eq_getElem (h2 ▸ hi)⟩
  stops := fun _ q => ⟨xs, ys, zs, q.1, q.2.1, q.2.2, rfl, h1.symm, h2.symm⟩
  yields := fun i H v H' _ q ⟨T, x, y, z, g1, g2, g3, g4, g5, g6⟩ => ⟨T, x, y, z, g1, g2, g3, g4 xs q.1, g5 ys q.2.1, g6 zs q.2.2⟩

abbrev LcR (J : It) (g : TG) (tt : TT) (te : TE) (vs : List Nat) (σ : L2.St) (D : Addr) (Qd : Addr → Hp → Prop) (H1 : Hp) : Prop := ∃ W : Nat → Nat → Hp → Prop, (∃ m, W 0 m (upd H1 D (.lst []))) ∧ ∀ i m H, W i m H →
  (J.stop i H ∧ Qd D H) ∨ (J.go i H ∧ ∃ Nx : Hp → Prop, (∀ H', Nx H' → ∃ m', m' < m ∧ W (i + 1) m' H') ∧ ∀ x H', J.yld i H x H' → g x (wipe σ vs) H' fun σ2 H2 => wipe σ2 vs = wipe σ vs ∧ tt σ2 H2 fun b H3 => if b = true then
    te σ2 H3 fun y H4 => ∃ acc, H4 D = some (.lst acc) ∧ acc.length < sizeLine ∧ Nx (upd H4 D (.lst (acc ++ [y]))) else Nx H3)
theorem lc_seq {K : PySem.W.Frag} {a : Addr} {xs : List V} {g : TG} {tt : TT} {te : TE} {vs : List Nat} {σ : L2.St} {H1 : Hp} {Qd : Addr → Hp → Prop} (hq : Sq K H1 a xs) (Pv : Addr → Nat → Hp → Prop) (h0 : ∀ D, H1 D = none → Pv D 0 (upd H1 D (.lst [])))
    (still : ∀ D i H', H1 D = none → Pv D i H' → SqTo K H1 H' a xs)
    (turn : ∀ D i x H', H1 D = none → xs[i]? = some x → Pv D i H' → g x (wipe σ vs) H' fun σ2 H2 => wipe σ2 vs = wipe σ vs ∧ tt σ2 H2 fun b H3 =>
      if b = true then te σ2 H3 fun y H4 => ∃ acc, H4 D = some (.lst acc) ∧ acc.length < sizeLine ∧ Pv D (i + 1) (upd H4 D (.lst (acc ++ [y]))) else Pv D (i + 1) H3) (fin : ∀ D H', H1 D = none → Pv D xs.length H' → Qd D H') :
    ((∃ xs, SqL K H1 a xs) ∧ ∀ D, H1 D = none → LcR (Itl K a) g tt te vs σ D Qd H1) ∨ ((∃ xs, SqT K H1 a xs) ∧ ∀ D, H1 D = none → LcR (Itt K a) g tt te vs σ D Qd H1) := by
  rcases hq with h | h
  · exact .inl ⟨⟨xs, h⟩, fun D nD => lc_list (xs := xs) (Pv D) (h0 D nD) (fun i H' _ p => (still D i H' nD p).1 h) (fun i x H' e p => turn D i x H' nD e p) (fun H' p => fin D H' nD p)⟩
  · exact .inr ⟨⟨xs, h⟩, fun D nD => lc_tup (xs := xs) (Pv D) (h0 D nD) (fun i H' _ p => (still D i H' nD p).2 h) (fun i x H' e p => turn D i x H' nD e p) (fun H' p => fin D H' nD p)⟩

/-! ### sets by stretches: the mathematics -/
theorem inB_iff {n a b : Int} : inB n a b = true ↔ a ≤ n ∧ n ≤ b := by
  unfold inB
  rw [Bool.and_eq_true, decide_eq_true_eq (p := a ≤ n), decide_eq_true_eq]
theorem anyP_iff {n : Int} {ps : List (Int × Int)} : anyP (inB n) ps = true ↔ ∃ p ∈ ps, p.1 ≤ n ∧ n ≤ p.2 := by
  unfold anyP
  rw [List.any_eq_true]
  constructor
  · rintro ⟨p, hp, e⟩
    exact ⟨p, hp, inB_iff.mp e⟩
  · rintro ⟨p, hp, e⟩
    exact ⟨p, hp, inB_iff.mpr e⟩
/-- the same numbers -/
def Alike (ps qs : List (Int × Int)) : Prop := ∀ n : Int, (∃ p ∈ ps, p.1 ≤ n ∧ n ≤ p.2) ↔ ∃ p ∈ qs, p.1 ≤ n ∧ n ≤ p.2
theorem Alike.any {ps qs : List (Int × Int)} (h : Alike ps qs) (n : Int) : anyP (inB n) ps = anyP (inB n) qs := by
  rw [Bool.eq_iff_iff, anyP_iff, anyP_iff]
  exact h n
theorem Alike.symm {ps qs : List (Int × Int)} (h : Alike ps qs) : Alike qs ps := fun n => (h n).symm
theorem Alike.trans {ps qs rs : List (Int × Int)} (h : Alike ps qs) (h' : Alike qs rs) : Alike ps rs := fun n => (h n).trans (h' n)
theorem Alike.of_mem {ps qs : List (Int × Int)} (h : ∀ p, p ∈ ps ↔ p ∈ qs) : Alike ps qs := fun n => ⟨fun ⟨p, hp, e⟩ => ⟨p, (h p).mp hp, e⟩, fun ⟨p, hp, e⟩ => ⟨p, (h p).mpr hp, e⟩⟩
/-- of each set of numbers there is just one list -/
theorem ris_one : ∀ {rs rs' : List (Int × Int)} {lo lo' : Int}, Ris lo rs → Ris lo' rs' → Alike rs rs' → rs = rs'
  | [], [], _, _, _, _, _ => by rfl
  | [], q :: r, _, _, _, h', e => by
    obtain ⟨p, hp, _⟩ := (e q.1).mpr ⟨q, List.mem_cons_self .., Int.le_refl _, h'.2.1⟩
    exact nomatch hp
  | q :: r, [], _, _, h, _, e => by
    obtain ⟨p, hp, _⟩ := (e q.1).mp ⟨q, List.mem_cons_self .., Int.le_refl _, h.2.1⟩
    exact nomatch hp
  | (a, b) :: r, (a', b') :: r', lo, lo', h, h', e => by
    have hb : a ≤ b := h.2.1
    have hb' : a' ≤ b' := h'.2.1
    have tl : ∀ p ∈ r, b + 2 ≤ p.1 ∧ p.1 ≤ p.2 := Ris.le h.2.2
    have tl' : ∀ p ∈ r', b' + 2 ≤ p.1 ∧ p.1 ≤ p.2 := Ris.le h'.2.2
    have m1 : a' ≤ a := by
      obtain ⟨p, hp, e1, e2⟩ := (e a).mp ⟨(a, b), List.mem_cons_self .., Int.le_refl _, hb⟩
      rcases List.mem_cons.mp hp with z | z
      · rw [z] at e1; exact e1
      · have := tl' p z; omega
    have m2 : a ≤ a' := by
      obtain ⟨p, hp, e1, e2⟩ := (e a').mpr ⟨(a', b'), List.mem_cons_self .., Int.le_refl _, hb'⟩
      rcases List.mem_cons.mp hp with z | z
      · rw [z] at e1; exact e1
      · have := tl p z; omega
    have ea : a = a' := by omega
    have n1 : ¬ b < b' := fun lt => by
      obtain ⟨p, hp, e1, e2⟩ := (e (b + 1)).mpr ⟨(a', b'), List.mem_cons_self .., by show a' ≤ b + 1; omega, by show b + 1 ≤ b'; omega⟩
      rcases List.mem_cons.mp hp with z | z
      · rw [z] at e2; have : b + 1 ≤ b := e2; omega
      · have := tl p z; omega
    have n2 : ¬ b' < b := fun lt => by
      obtain ⟨p, hp, e1, e2⟩ := (e (b' + 1)).mp ⟨(a, b), List.mem_cons_self .., by show a ≤ b' + 1; omega, by show b' + 1 ≤ b; omega⟩
      rcases List.mem_cons.mp hp with z | z
      · rw [z] at e2; have : b' + 1 ≤ b' := e2; omega
      · have := tl' p z; omega
    have eb : b = b' := by omega
    subst ea eb
    have er : Alike r r' := fun n => by
      constructor
      · rintro ⟨p, hp, e1, e2⟩
        obtain ⟨p', hp', f1, f2⟩ := (e n).mp ⟨p, List.mem_cons_of_mem _ hp, e1, e2⟩
        rcases List.mem_cons.mp hp' with z | z
        · rw [z] at f2
          have : n ≤ b := f2
          have := tl p hp
          omega
        · exact ⟨p', z, f1, f2⟩
      · rintro ⟨p, hp, e1, e2⟩
        obtain ⟨p', hp', f1, f2⟩ := (e n).mpr ⟨p, List.mem_cons_of_mem _ hp, e1, e2⟩
        rcases List.mem_cons.mp hp' with z | z
        · rw [z] at f2
          have : n ≤ b := f2
          have := tl' p hp
          omega
        · exact ⟨p', z, f1, f2⟩
    rw [ris_one h.2.2 h'.2.2 er]
theorem Ris.front : ∀ {lo : Int} {rs : List (Int × Int)} {q : Int × Int}, Ris lo (rs ++ [q]) → Ris lo rs ∧ (∀ r ∈ rs, r.2 + 2 ≤ q.1) ∧ lo ≤ q.1 ∧ q.1 ≤ q.2
  | lo, [], q, h => ⟨True.intro, (fun _ z => nomatch z), h.1, h.2.1⟩
  | lo, r :: rs, q, h => by
    obtain ⟨h1, h2, h3, h4⟩ := Ris.front h.2.2
    refine ⟨⟨h.1, h.2.1, h1⟩, fun x hx => ?_, by have := h.1; have := h.2.1; omega, h4⟩
    rcases List.mem_cons.mp hx with z | z
    · rw [z]; exact h3
    · exact h2 x z
/-- what is told of pairs: a set of just their numbers -/
structure SetLike (ps rs : List (Int × Int)) : Prop where
  ris : ∃ lo, Ris lo rs
  same : Alike rs ps
  len : rs.length ≤ ps.length
/-- between two turns: the pairs so far, rising by their firsts, and what is merged of them -/
structure Mrg (pre rs : List (Int × Int)) : Prop extends SetLike pre rs where
  firsts : ∀ r ∈ rs, ∃ p ∈ pre, p.1 = r.1
theorem alike_snoc {pre : List (Int × Int)} {rs rs' : List (Int × Int)} {p : Int × Int} (h : Alike rs pre) (e : ∀ n, (∃ q ∈ rs', q.1 ≤ n ∧ n ≤ q.2) ↔ (∃ q ∈ rs, q.1 ≤ n ∧ n ≤ q.2) ∨ (p.1 ≤ n ∧ n ≤ p.2)) : Alike rs' (pre ++ [p]) := fun n => by
  rw [e n, h n]
  constructor
  · rintro (⟨q, hq, z⟩ | z)
    · exact ⟨q, List.mem_append_left _ hq, z⟩
    · exact ⟨p, List.mem_append_right _ (List.mem_singleton.mpr rfl), z⟩
  · rintro ⟨q, hq, z⟩
    rcases List.mem_append.mp hq with y | y
    · exact .inl ⟨q, y, z⟩
    · rw [List.mem_singleton.mp y] at z
      exact .inr z
theorem Mrg.join {pre rs : List (Int × Int)} {a b : Int} {p : Int × Int} (m : Mrg pre (rs ++ [(a, b)])) (hp : p.1 ≤ p.2) (ord : ∀ q ∈ pre, q.1 ≤ p.1) (near : p.1 ≤ b + 1) : Mrg (pre ++ [p]) (rs ++ [(a, if p.2 > b then p.2 else b)]) := by
  obtain ⟨lo, hr⟩ := m.ris
  obtain ⟨h1, h2, h3, h4⟩ := Ris.front hr
  obtain ⟨q, hq, eq⟩ := m.firsts (a, b) (List.mem_append_right _ (List.mem_singleton.mpr rfl))
  have hap : a ≤ p.1 := by have := ord q hq; have : q.1 = a := eq; omega
  have hab : a ≤ b := h4
  have big : a ≤ (if p.2 > b then p.2 else b) := by split <;> omega
  refine ⟨⟨⟨lo, h1.snoc h3 h2 big⟩, alike_snoc m.same fun n => ?_, ?_⟩, fun r hr => ?_⟩
  · constructor
    · rintro ⟨q, hq, z⟩
      rcases List.mem_append.mp hq with y | y
      · exact .inl ⟨q, List.mem_append_left _ y, z⟩
      · rw [List.mem_singleton.mp y] at z
        have z1 : a ≤ n := z.1
        have z2 : n ≤ (if p.2 > b then p.2 else b) := z.2
        by_cases c : n ≤ b
        · exact .inl ⟨(a, b), List.mem_append_right _ (List.mem_singleton.mpr rfl), z1, c⟩
        · refine .inr ⟨by omega, ?_⟩
          split at z2 <;> omega
    · rintro (⟨q, hq, z⟩ | z)
      · rcases List.mem_append.mp hq with y | y
        · exact ⟨q, List.mem_append_left _ y, z⟩
        · rw [List.mem_singleton.mp y] at z
          refine ⟨_, List.mem_append_right _ (List.mem_singleton.mpr rfl), z.1, ?_⟩
          have z2 : n ≤ b := z.2
          show n ≤ (if p.2 > b then p.2 else b)
          split <;> omega
      · refine ⟨_, List.mem_append_right _ (List.mem_singleton.mpr rfl), by show a ≤ n; omega, ?_⟩
        show n ≤ (if p.2 > b then p.2 else b)
        split <;> omega
  · have := m.len
    rw [List.length_append, List.length_append] at *
    show rs.length + 1 ≤ pre.length + 1
    have : rs.length + 1 ≤ pre.length := this
    omega
  · rcases List.mem_append.mp hr with y | y
    · obtain ⟨q, hq, e⟩ := m.firsts r (List.mem_append_left _ y)
      exact ⟨q, List.mem_append_left _ hq, e⟩
    · rw [List.mem_singleton.mp y]
      exact ⟨q, List.mem_append_left _ hq, eq⟩
theorem Mrg.new {pre rs : List (Int × Int)} {p : Int × Int} (m : Mrg pre rs) (hp : p.1 ≤ p.2) (ord : ∀ q ∈ pre, q.1 ≤ p.1) (far : ∀ r ∈ rs, r.2 + 2 ≤ p.1) : Mrg (pre ++ [p]) (rs ++ [p]) := by
  obtain ⟨lo, hr⟩ := m.ris
  refine ⟨⟨?_, alike_snoc m.same fun n => ?_, by have := m.len; rw [List.length_append, List.length_append]; show rs.length + 1 ≤ pre.length + 1; omega⟩, fun r hr => ?_⟩
  · cases rs with
    | nil => exact ⟨p.1, Int.le_refl _, hp, True.intro⟩
    | cons q r =>
      refine ⟨lo, hr.snoc ?_ far hp⟩
      have := hr.le q (List.mem_cons_self ..)
      have := far q (List.mem_cons_self ..)
      omega
  · constructor
    · rintro ⟨q, hq, z⟩
      rcases List.mem_append.mp hq with y | y
      · exact .inl ⟨q, y, z⟩
      · rw [List.mem_singleton.mp y] at z; exact .inr z
    · rintro (⟨q, hq, z⟩ | z)
      · exact ⟨q, List.mem_append_left _ hq, z⟩
      · exact ⟨p, List.mem_append_right _ (List.mem_singleton.mpr rfl), z⟩
  · rcases List.mem_append.mp hr with y | y
    · obtain ⟨q, hq, e⟩ := m.firsts r y
      exact ⟨q, List.mem_append_left _ hq, e⟩
    · rw [List.mem_singleton.mp y]
      exact ⟨p, List.mem_append_right _ (List.mem_singleton.mpr rfl), rfl⟩
theorem Mrg.nil : Mrg [] [] := ⟨⟨⟨0, True.intro⟩, fun _ => Iff.rfl, Nat.le_refl _⟩, fun _ z => nomatch z⟩

/-! ### sets put together: the mathematics -/
def InS (ps : List (Int × Int)) (n : Int) : Prop := ∃ p ∈ ps, p.1 ≤ n ∧ n ≤ p.2
theorem inS_nil {n : Int} : ¬ InS [] n := fun ⟨_, h, _⟩ => nomatch h
theorem inS_cons {p : Int × Int} {r : List (Int × Int)} {n : Int} : InS (p :: r) n ↔ (p.1 ≤ n ∧ n ≤ p.2) ∨ InS r n := by
  constructor
  · rintro ⟨q, hq, e⟩
    rcases List.mem_cons.mp hq with z | z
    · rw [z] at e; exact .inl e
    · exact .inr ⟨q, z, e⟩
  · rintro (e | ⟨q, hq, e⟩)
    · exact ⟨p, List.mem_cons_self .., e⟩
    · exact ⟨q, List.mem_cons_of_mem _ hq, e⟩
theorem inS_append {ps qs : List (Int × Int)} {n : Int} : InS (ps ++ qs) n ↔ InS ps n ∨ InS qs n := by
  constructor
  · rintro ⟨q, hq, e⟩
    rcases List.mem_append.mp hq with z | z
    · exact .inl ⟨q, z, e⟩
    · exact .inr ⟨q, z, e⟩
  · rintro (⟨q, hq, e⟩ | ⟨q, hq, e⟩)
    · exact ⟨q, List.mem_append_left _ hq, e⟩
    · exact ⟨q, List.mem_append_right _ hq, e⟩
theorem Ris.low {lo n : Int} {ps : List (Int × Int)} (h : Ris lo ps) (e : InS ps n) : lo ≤ n := by
  obtain ⟨p, hp, e1, e2⟩ := e
  have := h.le p hp
  omega
theorem Ris.mono : ∀ {lo lo' : Int} {ps : List (Int × Int)}, Ris lo ps → lo' ≤ lo → Ris lo' ps
  | _, _, [], _, _ => True.intro
  | _, _, _ :: _, h, e => ⟨Int.le_trans e h.1, h.2⟩
def mxI (i j : Int) : Int := if j > i then j else i
def mnI (i j : Int) : Int := if j < i then j else i
theorem mxI_le {i j n : Int} : mxI i j ≤ n ↔ i ≤ n ∧ j ≤ n := by unfold mxI; split <;> omega
theorem le_mxI {i j n : Int} : n ≤ mxI i j ↔ n ≤ i ∨ n ≤ j := by unfold mxI; split <;> omega
theorem le_mnI {i j n : Int} : n ≤ mnI i j ↔ n ≤ i ∧ n ≤ j := by unfold mnI; split <;> omega
theorem mnI_le {i j n : Int} : mnI i j ≤ n ↔ i ≤ n ∨ j ≤ n := by unfold mnI; split <;> omega
/-- going through both at once -/
def bothF : List (Int × Int) → List (Int × Int) → List (Int × Int)
  | [], _ => []
  | _ :: _, [] => []
  | p :: r, q :: s => (if mxI p.1 q.1 ≤ mnI p.2 q.2 then [(mxI p.1 q.1, mnI p.2 q.2)] else []) ++ (if p.2 < q.2 then bothF r (q :: s) else bothF (p :: r) s)
termination_by ps qs => ps.length + qs.length
theorem bothF_nil (ps : List (Int × Int)) : bothF ps [] = [] := by cases ps <;> rw [bothF]
theorem bothF_ris : ∀ {ps qs : List (Int × Int)} {lo lo' k : Int}, Ris lo ps → Ris lo' qs → (k ≤ lo ∨ k ≤ lo') → Ris k (bothF ps qs)
  | [], _, _, _, _, _, _, _ => by rw [bothF]; exact True.intro
  | _ :: _, [], _, _, _, _, _, _ => by rw [bothF]; exact True.intro
  | p :: r, q :: s, lo, lo', k, h, h', hk => by
    rw [bothF]
    have h1 := h.1
    have h2 := h.2.1
    have h1' := h'.1
    have h2' := h'.2.1
    by_cases c : mxI p.1 q.1 ≤ mnI p.2 q.2
    · rw [if_pos c]
      refine ⟨?_, c, ?_⟩
      · show k ≤ mxI p.1 q.1
        rw [le_mxI]
        omega
      · by_cases d : p.2 < q.2
        · rw [if_pos d]
          refine bothF_ris h.2.2 h' (.inl ?_)
          show mnI p.2 q.2 + 2 ≤ p.2 + 2
          have : mnI p.2 q.2 ≤ p.2 := mnI_le.mpr (.inl (Int.le_refl _))
          omega
        · rw [if_neg d]
          refine bothF_ris h h'.2.2 (.inr ?_)
          show mnI p.2 q.2 + 2 ≤ q.2 + 2
          have : mnI p.2 q.2 ≤ q.2 := mnI_le.mpr (.inr (Int.le_refl _))
          omega
    · rw [if_neg c, List.nil_append]
      by_cases d : p.2 < q.2
      · rw [if_pos d]
        refine bothF_ris h.2.2 h' ?_
        omega
      · rw [if_neg d]
        refine bothF_ris h h'.2.2 ?_
        omega
termination_by ps qs => ps.length + qs.length
theorem bothF_in {n : Int} : ∀ {ps qs : List (Int × Int)} {lo lo' : Int}, Ris lo ps → Ris lo' qs → (InS (bothF ps qs) n ↔ InS ps n ∧ InS qs n)
  | [], _, _, _, _, _ => by rw [bothF]; exact ⟨fun h => absurd h inS_nil, fun h => h.1⟩
  | _ :: _, [], _, _, _, _ => by rw [bothF]; exact ⟨fun h => absurd h inS_nil, fun h => h.2⟩
  | p :: r, q :: s, lo, lo', h, h' => by
    rw [bothF, inS_append, inS_cons, inS_cons]
    have e1 : InS (if mxI p.1 q.1 ≤ mnI p.2 q.2 then [(mxI p.1 q.1, mnI p.2 q.2)] else []) n ↔ (p.1 ≤ n ∧ n ≤ p.2) ∧ (q.1 ≤ n ∧ n ≤ q.2) := by
      by_cases c : mxI p.1 q.1 ≤ mnI p.2 q.2
      · rw [if_pos c, inS_cons]
        show ((mxI p.1 q.1 ≤ n ∧ n ≤ mnI p.2 q.2) ∨ InS [] n) ↔ _
        rw [mxI_le, le_mnI]
        constructor
        · rintro (z | z)
          · omega
          · exact absurd z inS_nil
        · intro z
          exact .inl (by omega)
      · rw [if_neg c]
        constructor
        · exact fun z => absurd z inS_nil
        · intro z
          refine absurd (Int.le_trans (mxI_le.mpr ⟨z.1.1, z.2.1⟩) (le_mnI.mpr ⟨z.1.2, z.2.2⟩)) c
    rw [e1]
    by_cases d : p.2 < q.2
    · rw [if_pos d, bothF_in h.2.2 h', inS_cons]
      have no : InS s n → ¬ n ≤ p.2 := fun z => by
        have := h'.2.2.low z
        omega
      constructor
      · rintro (⟨z1, z2⟩ | ⟨z1, z2⟩)
        · exact ⟨.inl z1, .inl z2⟩
        · exact ⟨.inr z1, z2⟩
      · rintro ⟨z1 | z1, z2 | z2⟩
        · exact .inl ⟨z1, z2⟩
        · exact absurd z1.2 (no z2)
        · exact .inr ⟨z1, .inl z2⟩
        · exact .inr ⟨z1, .inr z2⟩
    · rw [if_neg d, bothF_in h h'.2.2, inS_cons]
      have no : InS r n → ¬ n ≤ q.2 := fun z => by
        have := h.2.2.low z
        omega
      constructor
      · rintro (⟨z1, z2⟩ | ⟨z1, z2⟩)
        · exact ⟨.inl z1, .inl z2⟩
        · exact ⟨z1, .inr z2⟩
      · rintro ⟨z1 | z1, z2 | z2⟩
        · exact .inl ⟨z1, z2⟩
        · exact .inr ⟨.inl z1, z2⟩
        · exact absurd z2.2 (no z1)
        · exact .inr ⟨.inr z1, z2⟩
termination_by ps qs => ps.length + qs.length
/-- what lies between the stretches of a set -/
def gapsF (e : Int) : Int → List (Int × Int) → List (Int × Int)
  | st, [] => [(st, e)]
  | st, p :: r => (st, mnI (p.1 - 1) e) :: gapsF e (mxI st (p.2 + 1)) r
theorem gapsF_length (e : Int) : ∀ (qs : List (Int × Int)) (st : Int), (gapsF e st qs).length = qs.length + 1
  | [], _ => rfl
  | _ :: r, _ => by rw [gapsF, List.length_cons, gapsF_length e r, List.length_cons]
theorem gapsF_in {e n : Int} : ∀ {qs : List (Int × Int)} {lo st : Int}, Ris lo qs → (InS (gapsF e st qs) n ↔ (st ≤ n ∧ n ≤ e) ∧ ¬ InS qs n)
  | [], _, st, _ => by
    rw [gapsF, inS_cons]
    constructor
    · rintro (z | z)
      · exact ⟨z, inS_nil⟩
      · exact absurd z inS_nil
    · exact fun z => .inl z.1
  | p :: r, lo, st, h => by
    rw [gapsF, inS_cons, gapsF_in h.2.2, inS_cons]
    show ((st ≤ n ∧ n ≤ mnI (p.1 - 1) e) ∨ (mxI st (p.2 + 1) ≤ n ∧ n ≤ e) ∧ ¬ InS r n) ↔ _
    rw [le_mnI, mxI_le]
    have h2 := h.2.1
    have no : n ≤ p.2 + 1 → ¬ InS r n := fun z y => by
      have := h.2.2.low y
      omega
    constructor
    · rintro (z | ⟨z, y⟩)
      · refine ⟨by omega, ?_⟩
        rintro (x | x)
        · omega
        · exact no (by omega) x
      · refine ⟨by omega, ?_⟩
        rintro (x | x)
        · omega
        · exact y x
    · rintro ⟨z, y⟩
      by_cases c : n < p.1
      · exact .inl (by omega)
      · refine .inr ⟨?_, fun x => y (.inr x)⟩
        have : ¬ (p.1 ≤ n ∧ n ≤ p.2) := fun x => y (.inl x)
        omega
/-- a set of just the numbers of which pr holds -/
structure Told (pr : Int → Prop) (rs : List (Int × Int)) : Prop where
  ris : ∃ lo, Ris lo rs
  same : ∀ n, InS rs n ↔ pr n
theorem Told.one {pr pr' : Int → Prop} {rs rs' : List (Int × Int)} (h : Told pr rs) (h' : Told pr' rs') (e : ∀ n, pr n ↔ pr' n) : rs = rs' := by
  obtain ⟨lo, r⟩ := h.ris
  obtain ⟨lo', r'⟩ := h'.ris
  exact ris_one r r' fun n => (h.same n).trans ((e n).trans (h'.same n).symm)
theorem Told.of {lo : Int} {rs : List (Int × Int)} (h : Ris lo rs) : Told (InS rs) rs := ⟨⟨lo, h⟩, fun _ => Iff.rfl⟩
theorem SetLike.told {ps rs : List (Int × Int)} (h : SetLike ps rs) : Told (InS ps) rs := ⟨h.ris, h.same⟩
theorem Told.cong {pr pr' : Int → Prop} {rs : List (Int × Int)} (h : Told pr rs) (e : ∀ n, pr n ↔ pr' n) : Told pr' rs := ⟨h.ris, fun n => (h.same n).trans (e n)⟩
theorem Told.nneg {pr : Int → Prop} {rs : List (Int × Int)} (h : Told pr rs) (hn : ∀ n, pr n → 0 ≤ n) : Ris 0 rs := by
  obtain ⟨lo, r⟩ := h.ris
  cases rs with
  | nil => exact True.intro
  | cons p q => exact ⟨hn _ ((h.same _).mp (inS_cons.mpr (.inl ⟨Int.le_refl _, r.2.1⟩))), r.2⟩

theorem cut_back (xs : List V) (m : Nat) : cutV xs (some (m : Int)) none = xs.drop m := by
  unfold cutV
  rw [HT.sIx_none, HT.sIx_nat]
  by_cases h : m ≤ xs.length
  · rw [Nat.min_eq_left h]
    exact List.take_of_length_le (by rw [List.length_drop]; exact Nat.le_refl _)
  · rw [Nat.min_eq_right (by omega), Nat.sub_self, List.take_zero, List.drop_eq_nil_of_le (by omega)]
theorem _root_.GP.Prs.append {H : Hp} {us ws : List V} {ps qs : List (Int × Int)} (h : Prs H us ps) (h' : Prs H ws qs) : Prs H (us ++ ws) (ps ++ qs) := by
  refine ⟨by rw [List.length_append, List.length_append, h.1, h'.1], fun i p e => ?_⟩
  by_cases hi : i < ps.length
  · rw [List.getElem?_append_left hi] at e
    rw [List.getElem?_append_left (by rw [h.1]; exact hi)]
    exact h.2 i p e
  · rw [List.getElem?_append_right (by omega)] at e
    rw [List.getElem?_append_right (by rw [h.1]; omega), h.1]
    exact h'.2 _ p e
theorem _root_.GP.Prs.take {H : Hp} {us : List V} {ps : List (Int × Int)} (h : Prs H us ps) (n : Nat) : Prs H (us.take n) (ps.take n) := by
  refine ⟨by rw [List.length_take, List.length_take, h.1], fun i p e => ?_⟩
  rw [List.getElem?_take] at e ⊢
  split at e
  · rename_i hi
    rw [if_pos hi]
    exact h.2 i p e
  · cases e
theorem _root_.GP.Prs.drop {H : Hp} {us : List V} {ps : List (Int × Int)} (h : Prs H us ps) (n : Nat) : Prs H (us.drop n) (ps.drop n) := by
  refine ⟨by rw [List.length_drop, List.length_drop, h.1], fun i p e => ?_⟩
  rw [List.getElem?_drop] at e ⊢
  exact h.2 _ p e
theorem _root_.GP.Prs.reverse {H : Hp} {us : List V} {ps : List (Int × Int)} (h : Prs H us ps) : Prs H us.reverse ps.reverse := by
  refine ⟨by rw [List.length_reverse, List.length_reverse, h.1], fun i p e => ?_⟩
  have hi : i < ps.length := by
    have z := (List.getElem?_eq_some_iff.mp e).1
    rwa [List.length_reverse] at z
  rw [List.getElem?_reverse hi] at e
  rw [List.getElem?_reverse (by rw [h.1]; exact hi), h.1]
  exact h.2 _ p e

/-! ### set_of -/
/-- the pair that a tracked tuple holds -/
def pairOf (H : Hp) : V → Int × Int
  | .ref t => (match H t with
    | some (.tup [.int i, .int j]) => (i, j)
    | _ => (0, 0))
  | _ => (0, 0)
theorem pairOf_at {H : Hp} {t : Addr} {p : Int × Int} (e : H t = some (.tup [.int p.1, .int p.2])) : pairOf H (.ref t) = p := by
  show (match H t with | some (.tup [.int i, .int j]) => (i, j) | _ => (0, 0)) = p
  rw [e]
abbrev sSetOf : Stmt := topS 1
theorem scSetOf : FnScope ["pairs", "merged", "first", "last", "low", "high", "pair"] ["pairs"] (defScope sSetOf) := ⟨rfl, rfl, rfl, by decide +kernel, rfl, by decide +kernel, by decide +kernel⟩
def spSetOf (K : PySem.W.Frag) : Sp := fun vs H Q _ => ∃ (a : Addr) (us : List V) (ps : List (Int × Int)), vs = [.ref a] ∧ Sq K H a us ∧ Prs H us ps ∧ ps.length ≤ 900 ∧
  ∀ (l : Addr) (ws : List V) (rs : List (Int × Int)) H', H l = none → H' l = some (.lst ws) → Prs H' ws rs → SetLike ps rs → Same H H' → Q (.ref l) H'
section
variable {K : PySem.W.Frag} {mg : Str → Option Value} {P : Program} {w : World} {base : Heap}
theorem ok_setof {f : Addr} {fd : FuncData} {k : Nat} (F : Fun K "set_of" "set_of" sSetOf f fd) (mso : mg "sorted" = none) (mx : mg "max" = none) : FnOk P w K mg base CX0 (k + 1) f fd ["pairs"] (spSetOf K) := by
  refine F.ok scSetOf (fun vs H Q E h => ?_) (fun cdv A outer s H vs Q E hr h => ?_)
  · obtain ⟨a, us, ps, rfl, _⟩ := h
    rfl
  · obtain ⟨a, us, ps, rfl, hq, hp, hz, q⟩ := h
    refine ⟨_, pss_cons (ps_set (i := 1) scSetOf.nd rfl (.inl rfl) (pe_lst pa_nil))
      (pss_cons (ps_for PassesOwn.never rfl (pi_list (pe_callB cr_sortedPO (by rfl) mso (by decide +kernel) (pa_cons (pe_lc (own := [("pair", 6)]) (g := gName 6) (tt := tTest (tOp (rI0 fun i j => .bl (decide (i ≤ j))) (tOp (rIxT K) (tVar 6) (tC (.int 0))) (tOp (rIxT K) (tVar 6) (tC (.int 1))))) rfl scSetOf.nd (pi_seq (pv 0))
          (blkOk_by (own := [("pair", 6)]) (N := ["pairs", "merged", "first", "last", "low", "high", "pair"]) (sc := defScope sSetOf) (by decide +kernel))
          (fun _ _ _ _ _ => pg_name (i := 6) scSetOf.nd rfl (.inl rfl)) (fun _ _ _ _ _ => pts_one (pt_cmpR op_le (pe_ix ix_tup (pv 6) pe_int (fun _ _ => rfl)) (pe_ix ix_tup (pv 6) pe_int (fun _ _ => rfl)) (nomark _))) (fun _ _ _ _ _ => pv 6)) pa_nil)))
        (pg_tup rfl (pgs_cons (pg_name (i := 2) scSetOf.nd rfl (.inl rfl)) (pgs_cons (pg_name (i := 3) scSetOf.nd rfl (.inl rfl)) pgs_nil)))
        (pss_one (ps_if (PW.pt (pw_and (pt_truth (pv 1) (by intro _; rfl)) (pw_and1 (pt_cmpR op_le (pv 2) (pe_op op_add (pe_ix ix_tup (pe_ix ix_list (pv 1) (pe_un un_neg pe_int) (fun _ _ => rfl)) pe_int (fun _ _ => rfl)) pe_int) (nomark _)))))
          (pss_cons (ps_asg (pe_ix ix_list (pv 1) (pe_un un_neg pe_int) (fun _ _ => rfl)) (pg_tup rfl (pgs_cons (pg_name (i := 4) scSetOf.nd rfl (.inl rfl)) (pgs_cons (pg_name (i := 5) scSetOf.nd rfl (.inl rfl)) pgs_nil))))
          (pss_one (ps_asg (pe_tup (pa_cons (pv 4) (pa_cons (pe_callB (call_max2 rfl) (by rfl) mx (by decide +kernel) (pa_cons (pv 5) (pa_cons (pv 3) pa_nil))) pa_nil))) (pg_sub (pv 1) (pe_un un_neg pe_int) set_list))))
          (pss_one (ps_expr (pe_bm PySem.F.plainAttrs_list PySem.F.slot_list_append PySem.F.type_list_append mt_append (pv 1) (pa_cons (pe_tup (pa_cons (pv 2) (pa_cons (pv 3) pa_nil))) pa_nil)))))))
      (pss_one (ps_ret (pv 1)))), ?_⟩
    -- merged = []
    refine ⟨Nat.zero_le _, fun mg' nm => ?_⟩
    have s1 := same_upd (o := .lst []) nm
    have em1 : upd H mg' (.lst []) mg' = some (.lst []) := upd_same
    revert s1 em1
    generalize upd H mg' (.lst []) = H1
    intro s1 em1
    -- [pair for pair in pairs if ..]
    refine ⟨.ref a, rfl, a, rfl, lc_seq (xs := us) (hq.same s1) (fun D i H' => Same H1 H' ∧ ∃ ys, H' D = some (.lst ys) ∧ Prs H' ys ((ps.take i).filter fun p => decide (p.1 ≤ p.2)) ∧ ys.length ≤ i) (fun D nD => ⟨same_upd nD, [], upd_same, Prs.nil, Nat.le_refl _⟩)
      (fun D i H' nD hP => SqTo.same hP.1) (fun D i x H' nD hx hP => ?_) (fun D H2 nD hP => ?_)⟩
    · obtain ⟨sm, ys, eD, hys, hyl⟩ := hP
      obtain ⟨p, T, ep, rfl, eT⟩ := prs_at hp hx
      have hi : i < us.length := (List.getElem?_eq_some_iff.mp hx).1
      rw [hp.1] at hi
      have eT' := sm _ _ (s1 _ _ eT)
      refine ⟨rfl, _, rfl, T, _, 0, .int p.1, rfl, rfl, .inl (.inl eT'), atI_nat (j := 0) rfl, _, rfl, T, _, 1, .int p.2, rfl, rfl, .inl (.inl eT'), atI_nat (j := 1) rfl, p.1, p.2, rfl, rfl, _, rfl, ?_⟩
      have etake : (ps.take (i + 1)).filter (fun p => decide (p.1 ≤ p.2)) = (ps.take i).filter (fun p => decide (p.1 ≤ p.2)) ++ (if p.1 ≤ p.2 then [p] else []) := by
        rw [List.take_add_one, ep, List.filter_append]
        by_cases c : p.1 ≤ p.2
        · rw [if_pos c]; simp [c]
        · rw [if_neg c]; simp [c]
      refine ite2 (fun c => ?_) (fun c => ?_)
      · have c' := of_decide_eq_true c
        refine ⟨_, rfl, ys, eD, small1000 (by omega), fun b o e => ?_, _, upd_same, ?_, by rw [List.length_append]; show ys.length + 1 ≤ i + 1; omega⟩
        · rw [upd_ne (ne_of_none e nD)]
          exact sm b o e
        · rw [etake, if_pos c']
          exact (hys.snoc eT').upd_lst eD
      · have c' : ¬ p.1 ≤ p.2 := fun z => c (decide_eq_true z)
        refine ⟨sm, ys, eD, ?_, by omega⟩
        rw [etake, if_neg c', List.append_nil]
        exact hys
    · -- sorted
      obtain ⟨sm, ys, eD, hys, hyl⟩ := hP
      rw [hp.1, List.take_length] at hys
      refine ⟨D, ys, pairOf H2, rfl, SqL.of eD, fun x hx => ?_, fun zs g srt stb ng => ?_⟩
      · obtain ⟨i, hi, e⟩ := List.getElem_of_mem hx
        obtain ⟨p, T, _, rfl, eT⟩ := prs_at hys (by rw [List.getElem?_eq_getElem hi, e])
        exact ⟨T, rfl, by rw [pairOf_at eT]; exact eT⟩
      have sg := same_upd (o := .lst zs) ng
      have eg : upd H2 g (.lst zs) g = some (.lst zs) := upd_same
      have s3 : Same H (upd H2 g (.lst zs)) := (s1.trans sm).trans sg
      have em3 := sg _ _ (sm _ _ em1)
      -- the pairs of zs
      have each : ∀ x ∈ zs, ∃ T, x = .ref T ∧ H2 T = some (.tup [.int (pairOf H2 x).1, .int (pairOf H2 x).2]) := fun x hx => by
        obtain ⟨i, hi, e⟩ := List.getElem_of_mem (stb.perm.mem_iff.mp hx)
        obtain ⟨p, T, _, rfl, eT⟩ := prs_at hys (by rw [List.getElem?_eq_getElem hi, e])
        exact ⟨T, rfl, by rw [pairOf_at eT]; exact eT⟩
      have hzs : Prs H2 zs (zs.map (pairOf H2)) := ⟨by rw [List.length_map], fun i p e => by
        rw [List.getElem?_map] at e
        cases h : zs[i]? with
        | none => rw [h] at e; cases e
        | some x =>
          rw [h] at e
          cases e
          obtain ⟨T, rfl, eT⟩ := each x (List.mem_of_getElem? h)
          exact ⟨T, rfl, eT⟩⟩
      have hmap : ys.map (pairOf H2) = ps.filter fun p => decide (p.1 ≤ p.2) := by
        refine List.ext_getElem? fun i => ?_
        rw [List.getElem?_map]
        cases h : ys[i]? with
        | none =>
          have : (ps.filter fun p => decide (p.1 ≤ p.2))[i]? = none := by
            rw [List.getElem?_eq_none_iff] at h ⊢
            rw [← hys.1]
            exact h
          rw [this]
          rfl
        | some x =>
          obtain ⟨p, T, ep, rfl, eT⟩ := prs_at hys h
          rw [ep]
          show some (pairOf H2 (.ref T)) = some p
          rw [pairOf_at eT]
      have hperm : (zs.map (pairOf H2)).Perm (ps.filter fun p => decide (p.1 ≤ p.2)) := hmap ▸ stb.perm.map (pairOf H2)
      have hle : ∀ p ∈ zs.map (pairOf H2), p.1 ≤ p.2 := fun p hp' => by
        have := hperm.mem_iff.mp hp'
        exact of_decide_eq_true (List.mem_filter.mp this).2
      have hord : (zs.map (pairOf H2)).Pairwise fun x y => x.1 ≤ y.1 := by
        rw [List.pairwise_map]
        refine srt.imp fun {x y} h => ?_
        have := SrtO.lexB_no.mp h
        omega
      have hzl : zs.length ≤ 900 := by
        rw [stb.perm.length_eq, hys.1]
        exact Nat.le_trans (List.length_filter_le _ _) hz
      revert hzs hperm hle hord
      generalize zs.map (pairOf H2) = qs
      intro hzs hperm hle hord
      have hzs3 := hzs.same sg
      revert eg s3 em3 hzs3
      generalize upd H2 g (.lst zs) = H3
      intro eg s3 em3 hzs3
      have ngH : H g = none := (s1.trans sm).free ng
      have nmg : mg' ≠ g := ne_of_none (sm _ _ em1) ng
      -- the merging
      refine ⟨g, rfl, ⟨_, SqL.of eg⟩, for_list (xs := zs) (fun i σ H4 => ∃ (ms : List V) (rs : List (Int × Int)) (y2 y3 y4 y5 y6 : Option V), σ = [some (.ref a), some (.ref mg'), y2, y3, y4, y5, y6] ∧ Same H H4 ∧ H4 g = some (.lst zs) ∧ Prs H4 zs qs ∧ H4 mg' = some (.lst ms) ∧ Prs H4 ms rs ∧ Mrg (qs.take i) rs)
        ⟨[], [], _, _, _, _, _, rfl, s3, eg, hzs3, em3, Prs.nil, Mrg.nil⟩ (fun i σ H4 _ hP => ?_) (fun i x σ H4 hx hP => ?_) (fun σ H4 hP => ?_)⟩
      · obtain ⟨_, _, _, _, _, _, _, rfl, _, e, _⟩ := hP
        exact SqL.of e
      · obtain ⟨ms, rs, y2, y3, y4, y5, y6, rfl, sm4, eg4, hz4, em4, hms, m⟩ := hP
        obtain ⟨p, T, ep, rfl, eT⟩ := prs_at hz4 hx
        have hi : i < qs.length := (List.getElem?_eq_some_iff.mp ep).1
        have hp12 : p.1 ≤ p.2 := hle p (List.mem_of_getElem? ep)
        have ord : ∀ q ∈ qs.take i, q.1 ≤ p.1 := fun q hq' => by
          obtain ⟨j, hj, e⟩ := List.getElem_of_mem hq'
          rw [List.length_take] at hj
          rw [List.getElem_take] at e
          obtain ⟨_, e2⟩ := List.getElem?_eq_some_iff.mp ep
          rw [← e, ← e2]
          exact List.pairwise_iff_getElem.mp hord j i (by omega) hi (by omega)
        have etake : qs.take (i + 1) = qs.take i ++ [p] := by rw [List.take_add_one, ep]; rfl
        have hmsl : ms.length ≤ 900 := by
          have := m.len
          rw [List.length_take] at this
          have := hzs.1
          rw [hms.1]
          omega
        refine ⟨T, _, rfl, .inl (.inl eT), rfl, _, _, rfl, _, _, rfl, rfl, ?_⟩
        -- what a new tuple and a change of merged leave
        have grow : ∀ (T2 : Addr) (p2 : Int × Int) (ms2 : List V) (rs2 : List (Int × Int)), H4 T2 = none → Prs (upd H4 T2 (.tup [.int p2.1, .int p2.2])) ms2 rs2 →
            Same H (upd (upd H4 T2 (.tup [.int p2.1, .int p2.2])) mg' (.lst ms2)) ∧ upd (upd H4 T2 (.tup [.int p2.1, .int p2.2])) mg' (.lst ms2) g = some (.lst zs) ∧ Prs (upd (upd H4 T2 (.tup [.int p2.1, .int p2.2])) mg' (.lst ms2)) zs qs ∧ upd (upd H4 T2 (.tup [.int p2.1, .int p2.2])) mg' (.lst ms2) mg' = some (.lst ms2) ∧ Prs (upd (upd H4 T2 (.tup [.int p2.1, .int p2.2])) mg' (.lst ms2)) ms2 rs2 := by
          intro T2 p2 ms2 rs2 n2 h2
          have st := same_upd (o := .tup [.int p2.1, .int p2.2]) n2
          have em5 := st _ _ em4
          refine ⟨fun b o e => ?_, ?_, (hz4.same st).upd_lst em5, upd_same, h2.upd_lst em5⟩
          · rw [upd_ne (ne_of_none e nm)]
            exact st _ _ (sm4 _ _ e)
          · rw [upd_ne nmg.symm]
            exact st _ _ eg4
        -- append
        have app : (∀ r ∈ rs, r.2 + 2 ≤ p.1) → (tDrop (tBM K "list" rAppend (tVar 1) (tCons (tTup (tCons (tVar 2) (tCons (tVar 3) tNil))) tNil))) { nx := fun σ H4 => ∃ (ms : List V) (rs : List (Int × Int)) (y2 y3 y4 y5 y6 : Option V), σ = [some (.ref a), some (.ref mg'), y2, y3, y4, y5, y6] ∧ Same H H4 ∧ H4 g = some (.lst zs) ∧ Prs H4 zs qs ∧ H4 mg' = some (.lst ms) ∧ Prs H4 ms rs ∧ Mrg (qs.take (i + 1)) rs, rt := fun _ _ => False } [some (.ref a), some (.ref mg'), some (.int p.1), some (.int p.2), y4, y5, y6] H4 := by
          intro far
          refine ⟨.ref mg', rfl, .inl ⟨rfl, _, SqL.of em4⟩, _, rfl, _, rfl, (by show 2 ≤ sizeLine; decide), fun T2 n2 => ?_⟩
          have st := same_upd (o := .tup [.int p.1, .int p.2]) n2
          refine ⟨mg', _, _, rfl, rfl, st _ _ em4, small1000 (by omega), ?_⟩
          obtain ⟨g1, g2, g3, g4, g5⟩ := grow T2 p (ms ++ [.ref T2]) (rs ++ [p]) n2 ((hms.same st).snoc upd_same)
          exact ⟨_, _, _, _, _, _, _, rfl, g1, g2, g3, g4, g5, by rw [etake]; exact m.new hp12 ord far⟩
        rcases snoc_cases rs with e0 | ⟨rs', ⟨lo, hi'⟩, e0⟩
        · have e1 : ms = [] := List.eq_nil_of_length_eq_zero (by rw [hms.1, e0]; rfl)
          have em0 : H4 mg' = some (.lst []) := by rw [em4, e1]
          refine ⟨.ref mg', rfl, false, .inl ⟨[], SqL.of em0, rfl⟩, iteF (iteF ?_)⟩
          exact app (by rw [e0]; exact fun _ z => nomatch z)
        · subst e0
          obtain ⟨ms', T0, rfl, eT0, hms'⟩ := hms.last
          refine ⟨.ref mg', rfl, true, .inl ⟨_, SqL.of em4, by simp⟩, iteT ?_⟩
          refine ⟨_, rfl, .ref mg', rfl, 1, rfl, mg', _, -1, .ref T0, rfl, rfl, SqL.of em4, atI_last _ _, T0, _, 1, .int hi', rfl, rfl, .inl (.inl eT0), atI_nat (j := 1) rfl, hi', 1, rfl, rfl, p.1, _, rfl, rfl, _, rfl, ite2 (fun c => ?_) (fun c => ?_)⟩
          · have c' := of_decide_eq_true c
            refine ⟨.ref mg', rfl, 1, rfl, mg', _, -1, .ref T0, rfl, rfl, SqL.of em4, atI_last _ _, T0, _, rfl, .inl (.inl eT0), rfl, _, _, rfl, _, _, rfl, rfl, ?_⟩
            refine ⟨_, rfl, _, rfl, _, rfl, hi', p.2, rfl, (by show 2 ≤ sizeLine; decide), fun T2 n2 => ?_⟩
            have st := same_upd (o := .tup [.int lo, .int (if p.2 > hi' then p.2 else hi')]) n2
            have ei : ixN (ms' ++ [V.ref T0]).length (-1) = some ms'.length := by
              unfold ixN
              rw [if_neg (by decide), List.length_append, if_pos (by show -((ms'.length + 1 : Nat) : Int) ≤ -1; omega)]
              show some ((-1 : Int) + ((ms'.length + 1 : Nat) : Int)).toNat = _
              congr 1
              omega
            refine ⟨.ref mg', rfl, 1, rfl, mg', _, -1, ms'.length, rfl, rfl, st _ _ em4, ei, ?_⟩
            have es : (ms' ++ [V.ref T0]).set ms'.length (.ref T2) = ms' ++ [.ref T2] := by simp
            rw [es]
            obtain ⟨g1, g2, g3, g4, g5⟩ := grow T2 (lo, if p.2 > hi' then p.2 else hi') (ms' ++ [.ref T2]) (rs' ++ [(lo, if p.2 > hi' then p.2 else hi')]) n2 ((hms'.same st).snoc upd_same)
            exact ⟨_, _, _, _, _, _, _, rfl, g1, g2, g3, g4, g5, by rw [etake]; exact m.join hp12 ord c'⟩
          · have c' : ¬ p.1 ≤ hi' + 1 := fun z => c (decide_eq_true z)
            refine app fun r hr' => ?_
            obtain ⟨lo', hR⟩ := m.ris
            obtain ⟨_, h2, _, h4⟩ := Ris.front hR
            have h4' : lo ≤ hi' := h4
            rcases List.mem_append.mp hr' with y | y
            · have : r.2 + 2 ≤ lo := h2 r y
              omega
            · rw [List.mem_singleton.mp y]
              show hi' + 2 ≤ p.1
              omega
      · obtain ⟨ms, rs, y2, y3, y4, y5, y6, rfl, sm4, eg4, hz4, em4, hms, m⟩ := hP
        rw [hzs.1, List.take_length] at m
        refine ⟨_, rfl, q mg' ms rs H4 nm em4 hms ⟨m.ris, m.same.trans fun n => ?_, Nat.le_trans m.len (Nat.le_trans (Nat.le_of_eq hperm.length_eq) (List.length_filter_le _ _))⟩ sm4⟩
        constructor
        · rintro ⟨r, hr', e⟩
          exact ⟨r, (List.mem_filter.mp (hperm.mem_iff.mp hr')).1, e⟩
        · rintro ⟨r, hr', e⟩
          exact ⟨r, hperm.mem_iff.mpr (List.mem_filter.mpr ⟨hr', decide_eq_true (by omega)⟩), e⟩
end

def RetS (H : Hp) (pr : Int → Prop) (m : Nat) (Q : V → Hp → Prop) : Prop := ∀ (l : Addr) (ws : List V) (rs : List (Int × Int)) H', H l = none → H' l = some (.lst ws) → Prs H' ws rs → Told pr rs → rs.length ≤ m → Same H H' → Q (.ref l) H'

/-! ### what stands where: pairs in a list or a tuple -/
def PrA (K : PySem.W.Frag) (H : Hp) (a : Addr) (ps : List (Int × Int)) : Prop := ∃ us, Sq K H a us ∧ Prs H us ps
def LsA (H : Hp) (a : Addr) (ps : List (Int × Int)) : Prop := ∃ us, H a = some (.lst us) ∧ Prs H us ps
theorem LsA.pr {K : PySem.W.Frag} {H : Hp} {a : Addr} {ps : List (Int × Int)} (h : LsA H a ps) : PrA K H a ps := let ⟨us, e, p⟩ := h; ⟨us, Sq.list e, p⟩
theorem LsA.same {H H' : Hp} {a : Addr} {ps : List (Int × Int)} (h : LsA H a ps) (s : Same H H') : LsA H' a ps := let ⟨us, e, p⟩ := h; ⟨us, s _ _ e, p.same s⟩
theorem PrA.same {K : PySem.W.Frag} {H H' : Hp} {a : Addr} {ps : List (Int × Int)} (h : PrA K H a ps) (s : Same H H') : PrA K H' a ps := let ⟨us, e, p⟩ := h; ⟨us, e.same s, p.same s⟩
theorem LsA.nil {H : Hp} {a : Addr} (e : H a = some (.lst [])) : LsA H a [] := ⟨[], e, Prs.nil⟩
theorem LsA.dp {K : PySem.W.Frag} {H : Hp} {a : Addr} {ps : List (Int × Int)} (h : LsA H a ps) : Dp K H (.ref a) (.list (ps.map pairD)) := let ⟨_, e, p⟩ := h; .lst (SqL.of e) (dp_prs p)
/-- a told set: a new list -/
def TellS (pr : Int → Prop) (m : Nat) (H : Hp) (Q : VK) : Prop := ∀ l rs H', H l = none → LsA H' l rs → Told pr rs → rs.length ≤ m → Same H H' → Q (.ref l) H'
/-! ### both_of -/
abbrev sBoth : Stmt := topS 2
theorem scBoth : FnScope ["one", "other", "shared", "at", "to", "first", "last"] ["one", "other"] (defScope sBoth) := ⟨rfl, rfl, rfl, by decide +kernel, rfl, by decide +kernel, by decide +kernel⟩
def spBoth (K : PySem.W.Frag) : Sp := fun vs H Q _ => ∃ (a b : Addr) (ps qs : List (Int × Int)), vs = [.ref a, .ref b] ∧ PrA K H a ps ∧ PrA K H b qs ∧ (∃ lo, Ris lo ps) ∧ (∃ lo, Ris lo qs) ∧ ps.length + qs.length ≤ 900 ∧ TellS (fun n => InS ps n ∧ InS qs n) (ps.length + qs.length) H Q
/-- between two turns -/
def BothW (H : Hp) (a b sh : Addr) (ps qs : List (Int × Int)) (m : Nat) (σ : L2.St) (H1 : Hp) : Prop := ∃ (i j : Nat) (ms : List V) (rs : List (Int × Int)) (y5 y6 : Option V), σ = [some (.ref a), some (.ref b), some (.ref sh), some (.int i), some (.int j), y5, y6] ∧ m = (ps.length - i) + (qs.length - j) ∧ i ≤ ps.length ∧ j ≤ qs.length ∧ Same H H1 ∧
  H1 sh = some (.lst ms) ∧ Prs H1 ms rs ∧ rs.length ≤ i + j ∧ rs ++ bothF (ps.drop i) (qs.drop j) = bothF ps qs
section
variable {K : PySem.W.Frag} {mg : Str → Option Value} {P : Program} {w : World} {base : Heap}
theorem ok_both {f : Addr} {fd : FuncData} {k : Nat} (F : Fun K "both_of" "both_of" sBoth f fd) (ml : mg "len" = none) (mx : mg "max" = none) (mn : mg "min" = none) : FnOk P w K mg base CX0 (k + 1) f fd ["one", "other"] (spBoth K) := by
  refine F.ok scBoth (fun vs H Q E h => ?_) (fun cdv A outer s H vs Q E hr h => ?_)
  · obtain ⟨a, b, ps, qs, rfl, _⟩ := h
    rfl
  · obtain ⟨a, b, ps, qs, rfl, ⟨us, ha, hps⟩, ⟨ws, hb, hqs⟩, ⟨lo, hr1⟩, ⟨lo', hr2⟩, hz, q⟩ := h
    refine ⟨_, pss_cons (ps_set (i := 2) scBoth.nd rfl (.inl rfl) (pe_lst pa_nil))
      (pss_cons (ps_set (i := 3) scBoth.nd rfl (.inl rfl) pe_int)
      (pss_cons (ps_set (i := 4) scBoth.nd rfl (.inl rfl) pe_int)
      (pss_cons (ps_while PassesOwn.never (PW.pt (pw_and (pt_cmpR op_lt (pv 3) (pe_callB call_len_seq (by rfl) ml PySem.boot_len (pa_cons (pv 0) pa_nil)) (nomark _)) (pw_and1 (pt_cmpR op_lt (pv 4) (pe_callB call_len_seq (by rfl) ml PySem.boot_len (pa_cons (pv 1) pa_nil)) (nomark _)))))
        (pss_cons (ps_set (i := 5) scBoth.nd rfl (.inl rfl) (pe_callB (call_max2 rfl) (by rfl) mx (by decide +kernel) (pa_cons (pe_ix ix_tup (pe_ix ix_seq (pv 0) (pv 3) (fun _ _ => rfl)) pe_int (fun _ _ => rfl)) (pa_cons (pe_ix ix_tup (pe_ix ix_seq (pv 1) (pv 4) (fun _ _ => rfl)) pe_int (fun _ _ => rfl)) pa_nil))))
        (pss_cons (ps_set (i := 6) scBoth.nd rfl (.inl rfl) (pe_callB (call_min2 rfl) (by rfl) mn (by decide +kernel) (pa_cons (pe_ix ix_tup (pe_ix ix_seq (pv 0) (pv 3) (fun _ _ => rfl)) pe_int (fun _ _ => rfl)) (pa_cons (pe_ix ix_tup (pe_ix ix_seq (pv 1) (pv 4) (fun _ _ => rfl)) pe_int (fun _ _ => rfl)) pa_nil))))
        (Evl.pss_cut (ps_if (pt_cmpR op_le (pv 5) (pv 6) (nomark _)) (pss_one (ps_expr (pe_bm PySem.F.plainAttrs_list PySem.F.slot_list_append PySem.F.type_list_append mt_append (pv 2) (pa_cons (pe_tup (pa_cons (pv 5) (pa_cons (pv 6) pa_nil))) pa_nil)))) pss_nil)
        (pss_one (ps_if (pt_cmpR op_lt (pe_ix ix_tup (pe_ix ix_seq (pv 0) (pv 3) (fun _ _ => rfl)) pe_int (fun _ _ => rfl)) (pe_ix ix_tup (pe_ix ix_seq (pv 1) (pv 4) (fun _ _ => rfl)) pe_int (fun _ _ => rfl)) (nomark _))
          (pss_one (ps_aug (i := 3) scBoth.nd rfl (.inl rfl) pe_int ip_add)) (pss_one (ps_aug (i := 4) scBoth.nd rfl (.inl rfl) pe_int ip_add))))))))
      (pss_one (ps_ret (pv 2)))))), ?_⟩
    refine ⟨Nat.zero_le _, fun sh nsh => ?_⟩
    have s0 := same_upd (o := .lst []) nsh
    have hl1 := hps.1
    have hl2 := hqs.1
    refine ⟨BothW H a b sh ps qs, ⟨_, 0, 0, [], [], none, none, rfl, rfl, Nat.zero_le _, Nat.zero_le _, s0, upd_same, Prs.nil, Nat.le_refl _, rfl⟩, fun m σ H1 hW => ?_⟩
    obtain ⟨i, j, ms, rs, y5, y6, rfl, rfl, hi, hj, sm, esh, hms, hrl, hbo⟩ := hW
    have ha1 := ha.same sm
    have hb1 := hb.same sm
    -- the end: nothing is left of one
    have fin : bothF (ps.drop i) (qs.drop j) = [] → Q (.ref sh) H1 := by
      intro e
      rw [e, List.append_nil] at hbo
      subst hbo
      exact q sh (bothF ps qs) H1 nsh ⟨ms, esh, hms⟩ ⟨⟨lo, bothF_ris hr1 hr2 (.inl (Int.le_refl _))⟩, fun n => bothF_in hr1 hr2⟩ (by omega) sm
    refine ⟨_, rfl, _, rfl, a, us, rfl, ha1, (i : Int), (us.length : Int), rfl, rfl, _, rfl, ite2 (fun c1 => ?_) (fun c1 => ?_)⟩
    · have c1' := of_decide_eq_true c1
      refine ⟨_, rfl, _, rfl, b, ws, rfl, hb1, (j : Int), (ws.length : Int), rfl, rfl, _, rfl, ite2 (fun c2 => ?_) (fun c2 => ?_)⟩
      · have c2' := of_decide_eq_true c2
        have hi' : i < ps.length := by omega
        have hj' : j < qs.length := by omega
        obtain ⟨T1, g1, e1⟩ := hps.2 i ps[i] (List.getElem?_eq_getElem hi')
        obtain ⟨T2, g2, e2⟩ := hqs.2 j qs[j] (List.getElem?_eq_getElem hj')
        have ed1 := drop_at (List.getElem?_eq_getElem hi')
        have ed2 := drop_at (List.getElem?_eq_getElem hj')
        revert e1 e2 ed1 ed2
        generalize ps[i] = p
        generalize qs[j] = r
        intro e1 e2 ed1 ed2
        have f1 := sm _ _ e1
        have f2 := sm _ _ e2
        rw [ed1, ed2, bothF] at hbo
        refine ⟨fun σ' H' => ∃ m', m' < (ps.length - i) + (qs.length - j) ∧ BothW H a b sh ps qs m' σ' H', fun σ' H' h => h, ?_⟩
        -- first, last
        refine ⟨_, rfl, _, rfl, a, us, i, .ref T1, rfl, rfl, ha1, atI_nat g1, T1, _, 0, .int p.1, rfl, rfl, .inl (.inl f1), atI_nat (j := 0) rfl, _, rfl, _, rfl, b, ws, j, .ref T2, rfl, rfl, hb1, atI_nat g2, T2, _, 0, .int r.1, rfl, rfl, .inl (.inl f2), atI_nat (j := 0) rfl, p.1, r.1, rfl, ?_⟩
        refine ⟨_, rfl, _, rfl, a, us, i, .ref T1, rfl, rfl, ha1, atI_nat g1, T1, _, 1, .int p.2, rfl, rfl, .inl (.inl f1), atI_nat (j := 1) rfl, _, rfl, _, rfl, b, ws, j, .ref T2, rfl, rfl, hb1, atI_nat g2, T2, _, 1, .int r.2, rfl, rfl, .inl (.inl f2), atI_nat (j := 1) rfl, p.2, r.2, rfl, ?_⟩
        refine ⟨fun σ' H2 => ∃ ms2 rs2, σ' = [some (.ref a), some (.ref b), some (.ref sh), some (.int i), some (.int j), some (.int (mxI p.1 r.1)), some (.int (mnI p.2 r.2))] ∧ Same H H2 ∧ H2 sh = some (.lst ms2) ∧ Prs H2 ms2 rs2 ∧ rs2.length ≤ i + j + 1 ∧
          rs2 ++ (if p.2 < r.2 then bothF (ps.drop (i + 1)) (r :: qs.drop (j + 1)) else bothF (p :: ps.drop (i + 1)) (qs.drop (j + 1))) = bothF ps qs, ?_, fun σ' H2 hM => ?_⟩
        · refine ⟨_, rfl, _, rfl, mxI p.1 r.1, mnI p.2 r.2, rfl, rfl, _, rfl, ite2 (fun c => ?_) (fun c => ?_)⟩
          · have c' := of_decide_eq_true c
            rw [if_pos c', ← List.append_assoc] at hbo
            refine ⟨_, rfl, .inl ⟨rfl, _, SqL.of esh⟩, _, rfl, _, rfl, (by show 2 ≤ sizeLine; decide), fun T nT => ?_⟩
            have sT := same_upd (o := .tup [.int (mxI p.1 r.1), .int (mnI p.2 r.2)]) nT
            refine ⟨sh, _, _, rfl, rfl, sT _ _ esh, small1000 (by have := hms.1; omega), ?_⟩
            refine ⟨_, _, rfl, fun b o e => ?_, upd_same, ((hms.same sT).snoc upd_same).upd_lst (sT _ _ esh), by rw [List.length_append]; exact Nat.add_le_add_right hrl 1, hbo⟩
            rw [upd_ne (ne_of_none e nsh)]
            exact sT _ _ (sm b o e)
          · have c' : ¬ mxI p.1 r.1 ≤ mnI p.2 r.2 := fun z => c (decide_eq_true z)
            rw [if_neg c', List.nil_append] at hbo
            exact ⟨ms, rs, rfl, sm, esh, hms, by omega, hbo⟩
        · obtain ⟨ms2, rs2, rfl, sm2, esh2, hms2, hl3, hb3⟩ := hM
          have ha2 := ha.same sm2
          have hb2 := hb.same sm2
          have f1' := sm2 _ _ e1
          have f2' := sm2 _ _ e2
          refine ⟨_, rfl, _, rfl, a, us, i, .ref T1, rfl, rfl, ha2, atI_nat g1, T1, _, 1, .int p.2, rfl, rfl, .inl (.inl f1'), atI_nat (j := 1) rfl, _, rfl, _, rfl, b, ws, j, .ref T2, rfl, rfl, hb2, atI_nat g2, T2, _, 1, .int r.2, rfl, rfl, .inl (.inl f2'), atI_nat (j := 1) rfl, p.2, r.2, rfl, rfl, _, rfl, ite2 (fun c => ?_) (fun c => ?_)⟩
          · have c' := of_decide_eq_true c
            rw [if_pos c', ← ed2] at hb3
            exact ⟨_, rfl, (i : Int), 1, rfl, rfl, _, by omega, i + 1, j, ms2, rs2, _, _, rfl, rfl, by omega, hj, sm2, esh2, hms2, by omega, hb3⟩
          · have c' : ¬ p.2 < r.2 := fun z => c (decide_eq_true z)
            rw [if_neg c', ← ed1] at hb3
            exact ⟨_, rfl, (j : Int), 1, rfl, rfl, _, by omega, i, j + 1, ms2, rs2, _, _, rfl, rfl, hi, by omega, sm2, esh2, hms2, by omega, hb3⟩
      · have c' : ¬ (j : Int) < ws.length := fun z => c2 (decide_eq_true z)
        refine ⟨_, rfl, fin ?_⟩
        rw [List.drop_eq_nil_of_le (by omega : qs.length ≤ j)]
        exact bothF_nil _
    · have c' : ¬ (i : Int) < us.length := fun z => c1 (decide_eq_true z)
      refine ⟨_, rfl, fin ?_⟩
      rw [List.drop_eq_nil_of_le (by omega : ps.length ≤ i), bothF]
end
/-! ### gaps_of -/
abbrev sGaps : Stmt := topS 3
theorem scGaps : FnScope ["some", "begin", "end", "gaps", "start", "first", "last"] ["some", "begin", "end"] (defScope sGaps) := ⟨rfl, rfl, rfl, by decide +kernel, rfl, by decide +kernel, by decide +kernel⟩
def spGaps (K : PySem.W.Frag) : Sp := fun vs H Q _ => ∃ (a : Addr) (qs : List (Int × Int)) (x y : Int), vs = [.ref a, .int x, .int y] ∧ PrA K H a qs ∧ (∃ lo, Ris lo qs) ∧ qs.length ≤ 800 ∧ TellS (fun n => (x ≤ n ∧ n ≤ y) ∧ ¬ InS qs n) (qs.length + 1) H Q
section
variable {K : PySem.W.Frag} {mg : Str → Option Value} {P : Program} {w : World} {base : Heap}
theorem ok_gaps {f : Addr} {fd : FuncData} (F : Fun K "gaps_of" "gaps_of" sGaps f fd) (CO : Cal P w K mg base 1 "set_of" ["pairs"] (spSetOf K)) (mx : mg "max" = none) (mn : mg "min" = none) : FnOk P w K mg base CX0 2 f fd ["some", "begin", "end"] (spGaps K) := by
  refine F.ok scGaps (fun vs H Q E h => ?_) (fun cdv A outer s H vs Q E hr h => ?_)
  · obtain ⟨a, qs, x, y, rfl, _⟩ := h
    rfl
  · obtain ⟨a, qs, x, y, rfl, ⟨ws, hb, hqs⟩, ⟨lo, hr2⟩, hz, q⟩ := h
    refine ⟨_, pss_cons (ps_set (i := 3) scGaps.nd rfl (.inl rfl) (pe_lst pa_nil))
      (pss_cons (ps_set (i := 4) scGaps.nd rfl (.inl rfl) (pv 1))
      (pss_cons (ps_for PassesOwn.never rfl (pi_seq (pv 0)) (pg_tup rfl (pgs_cons (pg_name (i := 5) scGaps.nd rfl (.inl rfl)) (pgs_cons (pg_name (i := 6) scGaps.nd rfl (.inl rfl)) pgs_nil)))
        (pss_cons (ps_expr (pe_bm PySem.F.plainAttrs_list PySem.F.slot_list_append PySem.F.type_list_append mt_append (pv 3) (pa_cons (pe_tup (pa_cons (pv 4) (pa_cons (pe_callB (call_min2 rfl) (by rfl) mn (by decide +kernel) (pa_cons (pe_op op_sub (pv 5) pe_int) (pa_cons (pv 2) pa_nil))) pa_nil))) pa_nil)))
        (pss_one (ps_set (i := 4) scGaps.nd rfl (.inl rfl) (pe_callB (call_max2 rfl) (by rfl) mx (by decide +kernel) (pa_cons (pv 4) (pa_cons (pe_op op_add (pv 6) pe_int) pa_nil)))))))
      (pss_cons (ps_expr (pe_bm PySem.F.plainAttrs_list PySem.F.slot_list_append PySem.F.type_list_append mt_append (pv 3) (pa_cons (pe_tup (pa_cons (pv 4) (pa_cons (pv 2) pa_nil))) pa_nil)))
      (pss_one (ps_ret (pe_own CO hr (by rfl) (pa_cons (pv 3) pa_nil))))))), ?_⟩
    refine ⟨Nat.zero_le _, fun g ng => ?_⟩
    have s0 := same_upd (o := .lst []) ng
    have hl2 := hqs.1
    refine ⟨_, rfl, .ref a, rfl, a, rfl, for_seqS (xs := ws) hb s0 (fun i σ H1 => ∃ (st : Int) (ms : List V) (rs : List (Int × Int)) (y5 y6 : Option V), σ = [some (.ref a), some (.int x), some (.int y), some (.ref g), some (.int st), y5, y6] ∧ Same H H1 ∧ H1 g = some (.lst ms) ∧ Prs H1 ms rs ∧ rs.length = i ∧ rs ++ gapsF y st (qs.drop i) = gapsF y x qs)
      ⟨x, [], [], none, none, rfl, s0, upd_same, Prs.nil, rfl, rfl⟩ (fun i σ H1 hP => ?_) (fun i v σ H1 hv hP => ?_) (fun σ H1 hP => ?_)⟩
    · obtain ⟨_, _, _, _, _, rfl, sm, _⟩ := hP
      exact sm
    · obtain ⟨st, ms, rs, y5, y6, rfl, sm, eg, hms, hrl, hgf⟩ := hP
      obtain ⟨p, T, ep, rfl, eT⟩ := prs_at hqs hv
      have eT1 := sm _ _ eT
      have hi : i < qs.length := (List.getElem?_eq_some_iff.mp ep).1
      rw [drop_at ep, gapsF] at hgf
      refine ⟨T, _, rfl, .inl (.inl eT1), rfl, _, _, rfl, _, _, rfl, rfl, ?_⟩
      refine ⟨_, rfl, .inl ⟨rfl, _, SqL.of eg⟩, _, rfl, _, rfl, p.1, 1, rfl, rfl, _, rfl, p.1 - 1, y, rfl, (by show 2 ≤ sizeLine; decide), fun T2 n2 => ?_⟩
      have sT := same_upd (o := .tup [.int st, .int (mnI (p.1 - 1) y)]) n2
      refine ⟨g, _, _, rfl, rfl, sT _ _ eg, small1000 (by have := hms.1; omega), ?_⟩
      refine ⟨_, rfl, _, rfl, p.2, 1, rfl, rfl, st, p.2 + 1, rfl, mxI st (p.2 + 1), _, rs ++ [(st, mnI (p.1 - 1) y)], _, _, rfl, fun b o e => ?_, upd_same, ((hms.same sT).snoc upd_same).upd_lst (sT _ _ eg), by rw [List.length_append, hrl]; rfl, by rw [List.append_assoc]; exact hgf⟩
      rw [upd_ne (ne_of_none e ng)]
      exact sT _ _ (sm b o e)
    · obtain ⟨st, ms, rs, y5, y6, rfl, sm, eg, hms, hrl, hgf⟩ := hP
      rw [hl2, List.drop_length, gapsF] at hgf
      refine ⟨_, rfl, .inl ⟨rfl, _, SqL.of eg⟩, _, rfl, _, rfl, (by show 2 ≤ sizeLine; decide), fun T2 n2 => ?_⟩
      have sT := same_upd (o := .tup [.int st, .int y]) n2
      refine ⟨g, _, _, rfl, rfl, sT _ _ eg, small1000 (by have := hms.1; omega), ?_⟩
      have hp : Prs (upd (upd H1 T2 (.tup [.int st, .int y])) g (.lst (ms ++ [.ref T2]))) (ms ++ [.ref T2]) (gapsF y x qs) := by
        rw [← hgf]
        exact ((hms.same sT).snoc upd_same).upd_lst (sT _ _ eg)
      have s3 : Same H (upd (upd H1 T2 (.tup [.int st, .int y])) g (.lst (ms ++ [.ref T2]))) := fun b o e => by
        rw [upd_ne (ne_of_none e ng)]
        exact sT _ _ (sm b o e)
      refine ⟨_, rfl, g, _, _, rfl, Sq.list upd_same, hp, by rw [gapsF_length]; omega, fun l2 w2 rs2 H2 nl2 e2 hrs hset s2 => ?_⟩
      exact q l2 rs2 H2 (s3.free nl2) ⟨_, e2, hrs⟩ (hset.told.cong fun n => gapsF_in hr2) (by have := hset.len; rwa [gapsF_length] at this) (s3.trans s2)
end
/-! ### without -/
theorem Ris.upto : ∀ {lo n : Int} {ps : List (Int × Int)} {p : Int × Int}, Ris lo (ps ++ [p]) → InS (ps ++ [p]) n → n ≤ p.2 := by
  intro lo n ps p h e
  obtain ⟨h1, h2, h3, h4⟩ := Ris.front h
  rcases inS_append.mp e with z | z
  · obtain ⟨q, hq, z1, z2⟩ := z
    have := h2 q hq
    omega
  · rcases inS_cons.mp z with y | y
    · exact y.2
    · exact absurd y inS_nil
abbrev sWithout : Stmt := topS 4
theorem scWithout : FnScope ["one", "other"] ["one", "other"] (defScope sWithout) := ⟨rfl, rfl, rfl, by decide +kernel, rfl, by decide +kernel, by decide +kernel⟩
def spWithout (K : PySem.W.Frag) : Sp := fun vs H Q _ => ∃ (a b : Addr) (ps qs : List (Int × Int)), vs = [.ref a, .ref b] ∧ PrA K H a ps ∧ PrA K H b qs ∧ (∃ lo, Ris lo ps) ∧ (∃ lo, Ris lo qs) ∧ ps.length + qs.length ≤ 800 ∧ TellS (fun n => InS ps n ∧ ¬ InS qs n) (ps.length + qs.length + 1) H Q
section
variable {K : PySem.W.Frag} {mg : Str → Option Value} {P : Program} {w : World} {base : Heap}
theorem ok_without {f : Addr} {fd : FuncData} (F : Fun K "without" "without" sWithout f fd) (CA : Cal P w K mg base 1 "both_of" ["one", "other"] (spBoth K)) (CG : Cal P w K mg base 2 "gaps_of" ["some", "begin", "end"] (spGaps K)) : FnOk P w K mg base CX0 3 f fd ["one", "other"] (spWithout K) := by
  refine F.ok scWithout (fun vs H Q E h => ?_) (fun cdv A outer s H vs Q E hr h => ?_)
  · obtain ⟨a, b, ps, qs, rfl, _⟩ := h
    rfl
  · obtain ⟨a, b, ps, qs, rfl, ⟨us, ha, hps⟩, hb, ⟨lo, hr1⟩, hr2, hz, q⟩ := h
    have hr1' := hr.mono (show 1 ≤ 2 by decide)
    refine ⟨_, pss_cons (ps_if (pt_not (pt_truth (pv 0) (by intro _; rfl))) (pss_one (ps_ret (pe_lst pa_nil))) pss_nil)
      (pss_one (ps_ret (pe_own CA hr1' (by rfl) (pa_cons (pv 0) (pa_cons (pe_own CG hr (by rfl) (pa_cons (pv 1) (pa_cons (pe_ix ix_tup (pe_ix ix_seq (pv 0) pe_int (fun _ _ => rfl)) pe_int (fun _ _ => rfl)) (pa_cons (pe_ix ix_tup (pe_ix ix_seq (pv 0) (pe_un un_neg pe_int) (fun _ _ => rfl)) pe_int (fun _ _ => rfl)) pa_nil)))) pa_nil))))), ?_⟩
    have tru : ∀ k, k = (!us.isEmpty) → TruV K (.ref a) H k := fun k e => ha.elim (fun h => .inl ⟨us, h, e⟩) fun h => .inr (.inl ⟨us, h, e⟩)
    rcases snoc_cases ps with e0 | ⟨ps', p, e0⟩
    · have e1 : us = [] := List.eq_nil_of_length_eq_zero (by rw [hps.1, e0]; rfl)
      subst e0 e1
      refine ⟨_, rfl, false, tru _ rfl, iteT ?_⟩
      refine ⟨Nat.zero_le _, fun l nl => ?_⟩
      exact q l [] _ nl (LsA.nil upd_same) ⟨⟨0, True.intro⟩, fun n => ⟨fun z => absurd z inS_nil, fun z => z.1⟩⟩ (Nat.zero_le _) (same_upd nl)
    · subst e0
      obtain ⟨us', T0, eus, eT0, hus'⟩ := hps.last
      have hne : us.isEmpty = false := by rw [eus]; simp
      refine ⟨_, rfl, true, tru _ (by rw [hne]; rfl), iteF ?_⟩
      obtain ⟨p0, ep0⟩ : ∃ p0, (ps' ++ [p])[0]? = some p0 := by
        cases ps' with
        | nil => exact ⟨p, rfl⟩
        | cons x r => exact ⟨x, rfl⟩
      obtain ⟨T, g0, eT⟩ := hps.2 0 p0 ep0
      have glast : atI us (-1) = some (.ref T0) := by rw [eus]; exact atI_last _ _
      refine ⟨_, rfl, _, rfl, _, rfl, a, us, 0, .ref T, rfl, rfl, ha, atI_nat (j := 0) g0, T, _, 0, .int p0.1, rfl, rfl, .inl (.inl eT), atI_nat (j := 0) rfl, _, rfl, 1, rfl, a, us, -1, .ref T0, rfl, rfl, ha, glast, T0, _, 1, .int p.2, rfl, rfl, .inl (.inl eT0), atI_nat (j := 1) rfl, ?_⟩
      refine ⟨b, qs, p0.1, p.2, rfl, hb, hr2, by omega, fun l1 rs1 H1 n1 hl1 ht1 hz1 s1 => ?_⟩
      refine ⟨a, l1, ps' ++ [p], rs1, rfl, (PrA.same ⟨us, ha, hps⟩ s1), hl1.pr, ⟨lo, hr1⟩, ht1.ris, by omega, fun l2 rs2 H2 n2 hl2 ht2 hz2 s2 => ?_⟩
      refine q l2 rs2 H2 (s1.free n2) hl2 (ht2.cong fun n => ?_) (by omega) (s1.trans s2)
      rw [ht1.same n]
      constructor
      · exact fun z => ⟨z.1, z.2.2⟩
      · intro z
        refine ⟨z.1, ⟨?_, Ris.upto hr1 z.1⟩, z.2⟩
        have r0 : Ris p0.1 (ps' ++ [p]) := by
          cases ps' with
          | nil =>
            cases ep0
            exact ⟨Int.le_refl _, hr1.2⟩
          | cons x r =>
            cases ep0
            exact ⟨Int.le_refl _, hr1.2⟩
        exact r0.low z.1
end

/-! ### the law's own sets -/
theorem pairs_sorted {H : Hp} {ys zs : List V} {ps : List (Int × Int)} (hys : Prs H ys ps) (perm : zs.Perm ys) (srt : SrtO.Srtd (fun x y => SrtO.lexB (pairOf H x) (pairOf H y)) zs) : ∃ qs, Prs H zs qs ∧ qs.Perm ps ∧ qs.Pairwise fun x y => x.1 ≤ y.1 := by
  have hmap : ys.map (pairOf H) = ps := by
    refine List.ext_getElem? fun i => ?_
    rw [List.getElem?_map]
    cases h : ys[i]? with
    | none =>
      have : ps[i]? = none := by
        rw [List.getElem?_eq_none_iff] at h ⊢
        rw [← hys.1]
        exact h
      rw [this]
      rfl
    | some x =>
      obtain ⟨p, T, ep, rfl, eT⟩ := prs_at hys h
      rw [ep]
      exact congrArg some (pairOf_at eT)
  refine ⟨zs.map (pairOf H), ⟨by rw [List.length_map], fun i p e => ?_⟩, hmap ▸ perm.map _, ?_⟩
  · rw [List.getElem?_map] at e
    cases h : zs[i]? with
    | none => rw [h] at e; cases e
    | some x =>
      rw [h] at e
      cases e
      obtain ⟨j, hj, ej⟩ := List.getElem_of_mem (perm.mem_iff.mp (List.mem_of_getElem? h))
      obtain ⟨p, T, _, rfl, eT⟩ := prs_at hys (by rw [List.getElem?_eq_getElem hj, ej])
      exact ⟨T, rfl, by rw [pairOf_at eT]; exact eT⟩
  · rw [List.pairwise_map]
    refine srt.imp fun {x y} h => ?_
    have := SrtO.lexB_no.mp h
    omega
abbrev sLSet : Stmt := topS 19
theorem scLSet : FnScope ["_law_pairs", "_law_made", "_law_first", "_law_last"] ["_law_pairs"] (defScope sLSet) := ⟨rfl, rfl, rfl, by decide +kernel, rfl, by decide +kernel, by decide +kernel⟩
def spLSet : Sp := fun vs H Q _ => ∃ (a : Addr) (us : List V) (ps : List (Int × Int)), vs = [.ref a] ∧ H a = some (.lst us) ∧ Prs H us ps ∧ ps.length ≤ 900 ∧ RetS H (InS ps) ps.length Q
def upP (ps : List (Int × Int)) : List (Int × Int) := ps.filter fun p => decide (p.1 ≤ p.2)
def LSetW (H : Hp) (a mg' g : Addr) (zs : List V) (qs : List (Int × Int)) (i : Nat) (σ : L2.St) (H4 : Hp) : Prop := ∃ (ms : List V) (rs : List (Int × Int)) (y2 y3 : Option V), σ = [some (.ref a), some (.ref mg'), y2, y3] ∧ Same H H4 ∧ H4 g = some (.lst zs) ∧ Prs H4 zs qs ∧ H4 mg' = some (.lst ms) ∧ Prs H4 ms rs ∧ Mrg (upP (qs.take i)) rs
section
variable {K : PySem.W.Frag} {mg : Str → Option Value} {P : Program} {w : World} {base : Heap}
theorem ok_lset {f : Addr} {fd : FuncData} {k : Nat} (F : Fun K "_law_set_of" "_law_set_of" sLSet f fd) (mso : mg "sorted" = none) (mx : mg "max" = none) : FnOk P w K mg base CX0 (k + 1) f fd ["_law_pairs"] spLSet := by
  refine F.ok scLSet (fun vs H Q E h => ?_) (fun cdv A outer s H vs Q E hr h => ?_)
  · obtain ⟨a, us, ps, rfl, _⟩ := h
    rfl
  · obtain ⟨a, us, ps, rfl, ea, hp, hz, q⟩ := h
    refine ⟨_, pss_cons (ps_set (i := 1) scLSet.nd rfl (.inl rfl) (pe_lst pa_nil))
      (pss_cons (ps_for PassesOwn.never rfl (pi_list (pe_callB cr_sortedPO (by rfl) mso (by decide +kernel) (pa_cons (pv 0) pa_nil))) (pg_tup rfl (pgs_cons (pg_name (i := 2) scLSet.nd rfl (.inl rfl)) (pgs_cons (pg_name (i := 3) scLSet.nd rfl (.inl rfl)) pgs_nil)))
        (pss_cons (ps_if (pt_cmpR op_gt (pv 2) (pv 3) (nomark _)) (pss_one ps_continue) pss_nil)
        (pss_one (ps_if (PW.pt (pw_and (pt_cmpR (op_neD hr.units) (pv 1) (pe_lst pa_nil) (nomark _)) (pw_and1 (pt_cmpR op_le (pv 2) (pe_op op_add (pe_ix ix_tup (pe_ix ix_list (pv 1) (pe_un un_neg pe_int) (fun _ _ => rfl)) pe_int (fun _ _ => rfl)) pe_int) (nomark _)))))
          (pss_one (ps_asg (pe_tup (pa_cons (pe_ix ix_tup (pe_ix ix_list (pv 1) (pe_un un_neg pe_int) (fun _ _ => rfl)) pe_int (fun _ _ => rfl)) (pa_cons (pe_callB (call_max2 rfl) (by rfl) mx (by decide +kernel) (pa_cons (pv 3) (pa_cons (pe_ix ix_tup (pe_ix ix_list (pv 1) (pe_un un_neg pe_int) (fun _ _ => rfl)) pe_int (fun _ _ => rfl)) pa_nil))) pa_nil))) (pg_sub (pv 1) (pe_un un_neg pe_int) set_list)))
          (pss_one (ps_expr (pe_bm PySem.F.plainAttrs_list PySem.F.slot_list_append PySem.F.type_list_append mt_append (pv 1) (pa_cons (pe_tup (pa_cons (pv 2) (pa_cons (pv 3) pa_nil))) pa_nil))))))))
      (pss_one (ps_ret (pv 1)))), ?_⟩
    refine ⟨Nat.zero_le _, fun mg' nm => ?_⟩
    have s1 := same_upd (o := .lst []) nm
    have em1 : upd H mg' (.lst []) mg' = some (.lst []) := upd_same
    revert s1 em1
    generalize upd H mg' (.lst []) = H1
    intro s1 em1
    have hp1 := hp.same s1
    refine ⟨_, rfl, a, us, pairOf H1, rfl, SqL.of (s1 _ _ ea), fun x hx => ?_, fun zs g srt stb ng => ?_⟩
    · obtain ⟨i, hi, e⟩ := List.getElem_of_mem hx
      obtain ⟨p, T, _, rfl, eT⟩ := prs_at hp1 (by rw [List.getElem?_eq_getElem hi, e])
      exact ⟨T, rfl, by rw [pairOf_at eT]; exact eT⟩
    obtain ⟨qs, hqs, hperm, hord⟩ := pairs_sorted hp1 stb.perm srt
    have sg := same_upd (o := .lst zs) ng
    have eg : upd H1 g (.lst zs) g = some (.lst zs) := upd_same
    have s3 := s1.trans sg
    have em3 := sg _ _ em1
    have hzs3 := hqs.same sg
    have nmg : mg' ≠ g := ne_of_none em1 ng
    have hzl : zs.length ≤ 900 := by rw [hqs.1, hperm.length_eq]; exact hz
    revert eg s3 em3 hzs3
    generalize upd H1 g (.lst zs) = H3
    intro eg s3 em3 hzs3
    refine ⟨g, rfl, ⟨_, SqL.of eg⟩, for_list (xs := zs) (LSetW H a mg' g zs qs) ⟨[], [], _, _, rfl, s3, eg, hzs3, em3, Prs.nil, Mrg.nil⟩ (fun i σ H4 _ hP => ?_) (fun i x σ H4 hx hP => ?_) (fun σ H4 hP => ?_)⟩
    · obtain ⟨_, _, _, _, rfl, _, e, _⟩ := hP
      exact SqL.of e
    · obtain ⟨ms, rs, y2, y3, rfl, sm4, eg4, hz4, em4, hms, m⟩ := hP
      obtain ⟨p, T, ep, rfl, eT⟩ := prs_at hz4 hx
      have hi : i < qs.length := (List.getElem?_eq_some_iff.mp ep).1
      have etake : qs.take (i + 1) = qs.take i ++ [p] := by rw [List.take_add_one, ep]; rfl
      have eup : upP (qs.take (i + 1)) = upP (qs.take i) ++ (if p.1 ≤ p.2 then [p] else []) := by
        unfold upP
        rw [etake, List.filter_append]
        by_cases c : p.1 ≤ p.2
        · rw [if_pos c]; simp [c]
        · rw [if_neg c]; simp [c]
      have ord : ∀ q ∈ upP (qs.take i), q.1 ≤ p.1 := fun q hq' => by
        obtain ⟨j, hj, e⟩ := List.getElem_of_mem (List.mem_filter.mp hq').1
        rw [List.length_take] at hj
        rw [List.getElem_take] at e
        obtain ⟨_, e2⟩ := List.getElem?_eq_some_iff.mp ep
        rw [← e, ← e2]
        exact List.pairwise_iff_getElem.mp hord j i (by omega) hi (by omega)
      have hmsl : ms.length ≤ 900 := by
        have := m.len
        have h2 := List.length_filter_le (fun p : Int × Int => decide (p.1 ≤ p.2)) (qs.take i)
        rw [List.length_take] at h2
        have := hqs.1
        rw [hms.1]
        unfold upP at *
        omega
      refine ⟨T, _, rfl, .inl (.inl eT), rfl, _, _, rfl, _, _, rfl, rfl, ?_⟩
      refine ⟨_, rfl, _, rfl, p.1, p.2, rfl, rfl, _, rfl, ite2 (fun c0 => ?_) (fun c0 => ?_)⟩
      · have c0' := of_decide_eq_true c0
        refine ⟨ms, rs, _, _, rfl, sm4, eg4, hz4, em4, hms, ?_⟩
        rw [eup, if_neg (by omega), List.append_nil]
        exact m
      have hp12 : p.1 ≤ p.2 := by
        have : ¬ p.1 > p.2 := fun z => c0 (decide_eq_true z)
        omega
      rw [if_pos hp12] at eup
      -- the test's own list
      refine ⟨_, rfl, Nat.zero_le _, fun z nz => ?_⟩
      have sz := same_upd (o := .lst []) nz
      refine ⟨_, _, .lst (SqL.of (sz _ _ em4)) (dp_prs (hms.same sz)), .lst (SqL.of upd_same) .nil, shaped_prs rs, shaped_ints [], ?_⟩
      rw [eqv_pr_nil]
      have sm5 := sm4.trans sz
      have eg5 := sz _ _ eg4
      have hz5 := hz4.same sz
      have em5 := sz _ _ em4
      have hms5 := hms.same sz
      revert sm5 eg5 hz5 em5 hms5
      generalize upd H4 z (.lst []) = H5
      intro sm5 eg5 hz5 em5 hms5
      -- what a new tuple and a change of the list leave
      have grow : ∀ (T2 : Addr) (p2 : Int × Int) (ms2 : List V) (rs2 : List (Int × Int)), H5 T2 = none → Prs (upd H5 T2 (.tup [.int p2.1, .int p2.2])) ms2 rs2 → Mrg (upP (qs.take (i + 1))) rs2 → LSetW H a mg' g zs qs (i + 1) [some (.ref a), some (.ref mg'), some (.int p.1), some (.int p.2)] (upd (upd H5 T2 (.tup [.int p2.1, .int p2.2])) mg' (.lst ms2)) := by
        intro T2 p2 ms2 rs2 n2 h2 m2
        have st := same_upd (o := .tup [.int p2.1, .int p2.2]) n2
        have em6 := st _ _ em5
        refine ⟨ms2, rs2, _, _, rfl, fun b o e => ?_, ?_, (hz5.same st).upd_lst em6, upd_same, h2.upd_lst em6, m2⟩
        · rw [upd_ne (ne_of_none e nm)]
          exact st _ _ (sm5 _ _ e)
        · rw [upd_ne nmg.symm]
          exact st _ _ eg5
      have app : (∀ r ∈ rs, r.2 + 2 ≤ p.1) → (tDrop (tBM K "list" rAppend (tVar 1) (tCons (tTup (tCons (tVar 2) (tCons (tVar 3) tNil))) tNil))) { nx := LSetW H a mg' g zs qs (i + 1), rt := fun _ _ => False } [some (.ref a), some (.ref mg'), some (.int p.1), some (.int p.2)] H5 := by
        intro far
        refine ⟨.ref mg', rfl, .inl ⟨rfl, _, SqL.of em5⟩, _, rfl, _, rfl, (by show 2 ≤ sizeLine; decide), fun T2 n2 => ?_⟩
        have st := same_upd (o := .tup [.int p.1, .int p.2]) n2
        exact ⟨mg', _, _, rfl, rfl, st _ _ em5, small1000 (by omega), grow T2 p (ms ++ [.ref T2]) (rs ++ [p]) n2 ((hms5.same st).snoc upd_same) (by rw [eup]; exact m.new hp12 ord far)⟩
      rcases snoc_cases rs with e0 | ⟨rs', ⟨lo, hi'⟩, e0⟩
      · refine ⟨false, (by rw [e0]; rfl), iteF (iteF ?_)⟩
        exact app (by rw [e0]; exact fun _ z => nomatch z)
      · subst e0
        obtain ⟨ms', T0, rfl, eT0, hms'⟩ := hms5.last
        refine ⟨true, (by simp), iteT ?_⟩
        refine ⟨_, rfl, .ref mg', rfl, 1, rfl, mg', _, -1, .ref T0, rfl, rfl, SqL.of em5, atI_last _ _, T0, _, 1, .int hi', rfl, rfl, .inl (.inl eT0), atI_nat (j := 1) rfl, hi', 1, rfl, rfl, p.1, _, rfl, rfl, _, rfl, ite2 (fun c => ?_) (fun c => ?_)⟩
        · have c' := of_decide_eq_true c
          refine ⟨_, rfl, 1, rfl, mg', _, -1, .ref T0, rfl, rfl, SqL.of em5, atI_last _ _, T0, _, 0, .int lo, rfl, rfl, .inl (.inl eT0), atI_nat (j := 0) rfl, ?_⟩
          refine ⟨_, rfl, _, rfl, 1, rfl, mg', _, -1, .ref T0, rfl, rfl, SqL.of em5, atI_last _ _, T0, _, 1, .int hi', rfl, rfl, .inl (.inl eT0), atI_nat (j := 1) rfl, p.2, hi', rfl, (by show 2 ≤ sizeLine; decide), fun T2 n2 => ?_⟩
          have emax : (if hi' > p.2 then hi' else p.2) = (if p.2 > hi' then p.2 else hi') := by split <;> split <;> omega
          rw [emax]
          have st := same_upd (o := .tup [.int lo, .int (if p.2 > hi' then p.2 else hi')]) n2
          have ei : ixN (ms' ++ [V.ref T0]).length (-1) = some ms'.length := by
            unfold ixN
            rw [if_neg (by decide), List.length_append, if_pos (by show -((ms'.length + 1 : Nat) : Int) ≤ -1; omega)]
            show some ((-1 : Int) + ((ms'.length + 1 : Nat) : Int)).toNat = _
            congr 1
            omega
          refine ⟨.ref mg', rfl, 1, rfl, mg', _, -1, ms'.length, rfl, rfl, st _ _ em5, ei, ?_⟩
          have es : (ms' ++ [V.ref T0]).set ms'.length (.ref T2) = ms' ++ [.ref T2] := by simp
          rw [es]
          exact grow T2 (lo, if p.2 > hi' then p.2 else hi') (ms' ++ [.ref T2]) (rs' ++ [(lo, if p.2 > hi' then p.2 else hi')]) n2 ((hms'.same st).snoc upd_same) (by rw [eup]; exact m.join hp12 ord c')
        · have c' : ¬ p.1 ≤ hi' + 1 := fun z => c (decide_eq_true z)
          refine app fun r hr' => ?_
          obtain ⟨lo', hR⟩ := m.ris
          obtain ⟨_, h2, _, h4⟩ := Ris.front hR
          have h4' : lo ≤ hi' := h4
          rcases List.mem_append.mp hr' with y | y
          · have : r.2 + 2 ≤ lo := h2 r y
            omega
          · rw [List.mem_singleton.mp y]
            show hi' + 2 ≤ p.1
            omega
    · obtain ⟨ms, rs, y2, y3, rfl, sm4, eg4, hz4, em4, hms, m⟩ := hP
      rw [hqs.1, List.take_length] at m
      refine ⟨_, rfl, q mg' ms rs H4 nm em4 hms (m.told.cong fun n => ?_) (Nat.le_trans m.len (Nat.le_trans (List.length_filter_le _ _) (Nat.le_of_eq hperm.length_eq))) sm4⟩
      constructor
      · rintro ⟨r, hr', e⟩
        exact ⟨r, hperm.mem_iff.mp (List.mem_filter.mp hr').1, e⟩
      · rintro ⟨r, hr', e⟩
        exact ⟨r, List.mem_filter.mpr ⟨hperm.mem_iff.mpr hr', decide_eq_true (by omega)⟩, e⟩
end

/-! ### things as data, all of it tracked -/
inductive Dat (H : Hp) : V → PyData → Prop
  | non : Dat H .non .none
  | bl (b : Bool) : Dat H (.bl b) (.bool b)
  | int (i : Int) : Dat H (.int i) (.int i)
  | str (x : Str) : Dat H (.str x) (.str x)
  | lst {a : Addr} {xs : List V} {ds : List PyData} : H a = some (.lst xs) → xs.length = ds.length → (∀ (i : Nat) x d, xs[i]? = some x → ds[i]? = some d → Dat H x d) → Dat H (.ref a) (.list ds)
  | tup {a : Addr} {xs : List V} {ds : List PyData} : H a = some (.tup xs) → xs.length = ds.length → (∀ (i : Nat) x d, xs[i]? = some x → ds[i]? = some d → Dat H x d) → Dat H (.ref a) (.tuple ds)
theorem Dat.same {H H' : Hp} {v : V} {d : PyData} (h : Dat H v d) (s : Same H H') : Dat H' v d := by
  induction h with
  | non => exact .non
  | bl b => exact .bl b
  | int i => exact .int i
  | str x => exact .str x
  | lst e l _ ih => exact .lst (s _ _ e) l ih
  | tup e l _ ih => exact .tup (s _ _ e) l ih
/-- at most so deep, no longer than these lines -/
def Sm : Nat → PyData → Prop
  | _, .none => True
  | _, .bool _ => True
  | _, .int _ => True
  | _, .str _ => True
  | n + 1, .list ds => ds.length ≤ 900 ∧ ∀ d ∈ ds, Sm n d
  | n + 1, .tuple ds => ds.length ≤ 900 ∧ ∀ d ∈ ds, Sm n d
  | _, _ => False
/-- no list, no tuple -/
def Flat (d : PyData) : Prop := d = .none ∨ (∃ b, d = .bool b) ∨ (∃ i, d = .int i) ∨ ∃ x, d = .str x
theorem Sm.cases {n : Nat} {d : PyData} (h : Sm (n + 1) d) : Flat d ∨ (∃ ds, d = .list ds ∧ ds.length ≤ 900 ∧ ∀ d ∈ ds, Sm n d) ∨ ∃ ds, d = .tuple ds ∧ ds.length ≤ 900 ∧ ∀ d ∈ ds, Sm n d := by
  cases d <;> first | exact .inl (.inl rfl) | exact .inl (.inr (.inl ⟨_, rfl⟩)) | exact .inl (.inr (.inr (.inl ⟨_, rfl⟩))) | exact .inl (.inr (.inr (.inr ⟨_, rfl⟩))) | exact .inr (.inl ⟨_, rfl, h.1, h.2⟩) | exact .inr (.inr ⟨_, rfl, h.1, h.2⟩) | exact h.elim
theorem Sm.flat {d : PyData} (h : Sm 0 d) : Flat d := by
  cases d <;> first | exact .inl rfl | exact .inr (.inl ⟨_, rfl⟩) | exact .inr (.inr (.inl ⟨_, rfl⟩)) | exact .inr (.inr (.inr ⟨_, rfl⟩)) | exact h.elim
theorem walk_zipTs {K : PySem.W.Frag} {a b : Addr} {xs ys : List V} {n : Nat} (h1 : xs.length = n) (h2 : ys.length = n) : Walk (RZ.ItzT K a b) n (fun H => SqT K H a xs ∧ SqT K H b ys) (YPair (fun i => xs[i]?) (fun i => ys[i]?)) where
  goes := fun i _ lt q => ⟨xs, ys, _, _, q.1, q.2, List.getElem?_eq_getElem (h1.symm ▸ lt), List.getElem?_eq_getElem (h2.symm ▸ lt)⟩
  stops := fun _ q => ⟨xs, ys, q.1, q.2, .inl (Nat.le_of_eq h1)⟩
  yields := fun i _ _ _ _ q ⟨T, x, z, e1, e2, e3, e4, e5⟩ => ⟨T, x, z, e1, e2, e3, e4 xs q.1, e5 ys q.2⟩
theorem prs_dat {H : Hp} {us : List V} {ps : List (Int × Int)} (h : Prs H us ps) : ∀ (i : Nat) x d, us[i]? = some x → (ps.map pairD)[i]? = some d → Dat H x d := fun i x d e1 e2 => by
  obtain ⟨p, a, ep, rfl, ea⟩ := prs_at h e1
  rw [List.getElem?_map, ep] at e2
  have ed : pairD p = d := Option.some.inj e2
  rw [← ed]
  refine .tup ea rfl fun j y d f1 f2 => ?_
  have hj : j < 2 := (List.getElem?_eq_some_iff.mp f1).1
  have : j = 0 ∨ j = 1 := by omega
  rcases this with rfl | rfl
  · cases f1; cases f2; exact .int _
  · cases f1; cases f2; exact .int _
theorem sm_prs {ps : List (Int × Int)} (h : ps.length ≤ 900) : Sm 2 (.list (ps.map pairD)) := by
  refine ⟨by rw [List.length_map]; exact h, fun d hd => ?_⟩
  obtain ⟨p, _, rfl⟩ := List.mem_map.mp hd
  exact ⟨by show 2 ≤ 900; decide, fun d hd => by
    rcases List.mem_cons.mp hd with e | e
    · rw [e]; trivial
    · rw [List.mem_singleton.mp e]; trivial⟩
theorem ints_dat {H : Hp} {a : Addr} {ns : List Int} (e : H a = some (.lst (ns.map V.int))) : Dat H (.ref a) (.list (ns.map PyData.int)) := .lst e (by rw [List.length_map, List.length_map]) fun i x d e1 e2 => by
  rw [List.getElem?_map] at e1 e2
  cases h : ns[i]? with
  | none => rw [h] at e1; cases e1
  | some n =>
    rw [h] at e1 e2
    cases e1
    cases e2
    exact .int n
theorem sm_ints {ns : List Int} (h : ns.length ≤ 900) : Sm 1 (.list (ns.map PyData.int)) := by
  refine ⟨by rw [List.length_map]; exact h, fun d hd => ?_⟩
  obtain ⟨p, _, rfl⟩ := List.mem_map.mp hd
  trivial

mutual
/-- no truth among it -/
def NoBl : PyData → Prop
  | .bool _ => False
  | .list ds => NoBls ds
  | .tuple ds => NoBls ds
  | _ => True
def NoBls : List PyData → Prop
  | [] => True
  | d :: ds => NoBl d ∧ NoBls ds
end
theorem noBls_all : ∀ {ds : List PyData}, NoBls ds → ∀ d ∈ ds, NoBl d
  | [], _, _, h => nomatch h
  | e :: r, h, d, hd => by
    rw [NoBls] at h
    rcases List.mem_cons.mp hd with z | z
    · rw [z]; exact h.1
    · exact noBls_all h.2 d z
theorem noBls_of : ∀ {ds : List PyData}, (∀ d ∈ ds, NoBl d) → NoBls ds
  | [], _ => by rw [NoBls]; trivial
  | e :: r, h => by rw [NoBls]; exact ⟨h e (List.mem_cons_self ..), noBls_of fun d hd => h d (List.mem_cons_of_mem _ hd)⟩
abbrev sSame : Stmt := topS 15
theorem scSame : FnScope ["_law_found", "_law_due_here", "_law_one", "_law_other"] ["_law_found", "_law_due_here"] (defScope sSame) := ⟨rfl, rfl, rfl, by decide +kernel, rfl, by decide +kernel, by decide +kernel⟩
/-- alike: the same data twice (no truths among it) -/
def spSame (n : Nat) : Sp := fun vs H Q _ => ∃ (v u : V) (d : PyData), vs = [v, u] ∧ Dat H v d ∧ Dat H u d ∧ Sm n d ∧ NoBl d ∧ ∀ H', Same H H' → Q (.bl true) H'
theorem all_true (n : Nat) : (List.replicate n true).all id = true := by
  rw [List.all_eq_true]
  intro b hb
  exact (List.mem_replicate.mp hb).2
abbrev SameGoal (K : PySem.W.Frag) (mg : Str → Option Value) (P : Program) (w : World) (base : Heap) (f : Addr) (cdv : Value) (A : Around) (outer : List Env) (s : Shared) (H : Hp) (E : XK) (v u : V) (Q : VK) : Prop :=
  ∃ t, PSs (cxOf CX0 P w K mg base ["_law_found", "_law_due_here", "_law_one", "_law_other"] "_law_same" (defScope sSame) f cdv A outer s H E).nox (defBody sSame) t ∧ t { nx := fun _ H' => Q .non H', rt := Q } (start ["_law_found", "_law_due_here", "_law_one", "_law_other"] [v, u]) H
section
variable {K : PySem.W.Frag} {mg : Str → Option Value} {P : Program} {w : World} {base : Heap}
/-- of no list, no tuple -/
theorem same_flat {f : Addr} (mi : mg "isinstance" = none) (ml : mg "list" = none) (mt : mg "tuple" = none) (mb : mg "bool" = none) (ms : mg "str" = none) (mn : mg "int" = none) {cdv : Value} {A : Around} {outer : List Env} {s : Shared} {H : Hp} {v u : V} {d : PyData} {Q : VK} {E : XK}
    (h1 : Dat H v d) (h2 : Dat H u d) (hd : Flat d) (hb : NoBl d) (q : ∀ H', Same H H' → Q (.bl true) H') : SameGoal K mg P w base f cdv A outer s H E v u Q := by
  refine ⟨_, pss_cons (ps_if (pt_cmpR op_isN (pv 1) pe_non (nomark _)) (pss_one (ps_ret (pe_cmpR op_isN (pv 0) pe_non (nomark _)))) pss_nil)
      (pss_cons (ps_if (PW.pt (pw_or (pt_val (pe_callB call_isi (by rfl) mi (by decide +kernel) (pa_cons (pv 1) (pa_cons (pe_bltn (v := .ty "list") (by rfl) ml (by decide +kernel) rfl) pa_nil)))) (pw_or1 (pt_val (pe_callB call_isi (by rfl) mi (by decide +kernel) (pa_cons (pv 1) (pa_cons (pe_bltn (v := .ty "tuple") (by rfl) mt (by decide +kernel) rfl) pa_nil))))))) pss_never pss_nil)
      (pss_cons (ps_if (pt_val (pe_callB call_isi (by rfl) mi (by decide +kernel) (pa_cons (pv 1) (pa_cons (pe_bltn (v := .ty "str") (by rfl) ms (by decide +kernel) rfl) pa_nil)))) (pss_one (ps_ret (pe_and (pe_callB call_isi (by rfl) mi (by decide +kernel) (pa_cons (pv 0) (pa_cons (pe_bltn (v := .ty "str") (by rfl) ms (by decide +kernel) rfl) pa_nil))) (pe_one (pe_cmpR op_eq (pv 0) (pv 1) (nomark _)))))) pss_nil)
      (pss_one (ps_ret (pe_and (pe_callB call_isi (by rfl) mi (by decide +kernel) (pa_cons (pv 0) (pa_cons (pe_bltn (v := .ty "int") (by rfl) mn (by decide +kernel) rfl) pa_nil))) (pe_and (pe_not (pe_callB call_isi (by rfl) mi (by decide +kernel) (pa_cons (pv 0) (pa_cons (pe_bltn (v := .ty "bool") (by rfl) mb (by decide +kernel) rfl) pa_nil)))) (pe_one (pe_cmpR op_eq (pv 0) (pv 1) (nomark _))))))))), ?_⟩
  have deq : ∀ x : V, (decide (x = x)) = true := fun x => decide_eq_true rfl
  rcases hd with rfl | ⟨b, rfl⟩ | ⟨i, rfl⟩ | ⟨x, rfl⟩
  · cases h1
    cases h2
    refine ⟨_, rfl, rfl, _, rfl, iteT ?_⟩
    exact ⟨_, rfl, rfl, q _ (Same.refl H)⟩
  · rw [NoBl] at hb
    exact hb.elim
  · cases h1
    cases h2
    refine ⟨_, rfl, rfl, _, rfl, iteF ?_⟩
    refine ⟨_, rfl, _, _, .type "int", .type "list", false, rfl, .ty _, .base (.int i), kit_ty (by decide +kernel), _, rfl, iteF ?_⟩
    refine ⟨_, rfl, _, _, .type "int", .type "tuple", false, rfl, .ty _, .base (.int i), kit_ty (by decide +kernel), _, rfl, iteF ?_⟩
    refine ⟨_, rfl, _, _, .type "int", .type "str", false, rfl, .ty _, .base (.int i), kit_ty (by decide +kernel), _, rfl, iteF ?_⟩
    refine ⟨_, rfl, _, _, .type "int", .type "int", true, rfl, .ty _, .base (.int i), kit_ty (by decide +kernel), _, rfl, iteT ?_⟩
    refine ⟨_, rfl, _, _, .type "int", .type "bool", false, rfl, .ty _, .base (.int i), kit_ty (by decide +kernel), _, rfl, _, rfl, iteT ?_⟩
    refine ⟨_, rfl, _, rfl, rfl, ?_⟩
    rw [deq]
    exact q _ (Same.refl H)
  · cases h1
    cases h2
    refine ⟨_, rfl, rfl, _, rfl, iteF ?_⟩
    refine ⟨_, rfl, _, _, .type "str", .type "list", false, rfl, .ty _, .base (.str x), kit_ty (by decide +kernel), _, rfl, iteF ?_⟩
    refine ⟨_, rfl, _, _, .type "str", .type "tuple", false, rfl, .ty _, .base (.str x), kit_ty (by decide +kernel), _, rfl, iteF ?_⟩
    refine ⟨_, rfl, _, _, .type "str", .type "str", true, rfl, .ty _, .base (.str x), kit_ty (by decide +kernel), _, rfl, iteT ?_⟩
    refine ⟨_, rfl, _, _, .type "str", .type "str", true, rfl, .ty _, .base (.str x), kit_ty (by decide +kernel), _, rfl, iteT ?_⟩
    refine ⟨_, rfl, _, rfl, rfl, ?_⟩
    rw [deq]
    exact q _ (Same.refl H)
theorem ok_same0 {f : Addr} {fd : FuncData} {k : Nat} (F : Fun K "_law_same" "_law_same" sSame f fd) (mi : mg "isinstance" = none) (ml : mg "list" = none) (mt : mg "tuple" = none) (mb : mg "bool" = none) (ms : mg "str" = none) (mn : mg "int" = none) :
    FnOk P w K mg base CX0 (k + 1) f fd ["_law_found", "_law_due_here"] (spSame 0) := by
  refine F.ok scSame (fun vs H Q E h => ?_) (fun cdv A outer s H vs Q E hr h => ?_)
  · obtain ⟨v, u, d, rfl, _⟩ := h
    rfl
  · obtain ⟨v, u, d, rfl, h1, h2, hd, hb, q⟩ := h
    exact same_flat mi ml mt mb ms mn h1 h2 hd.flat hb q
theorem ok_sameS {f : Addr} {fd : FuncData} {n k : Nat} (F : Fun K "_law_same" "_law_same" sSame f fd) (C : Cal P w K mg base k "_law_same" ["_law_found", "_law_due_here"] (spSame n)) (mi : mg "isinstance" = none) (ml : mg "list" = none) (mt : mg "tuple" = none) (mb : mg "bool" = none) (ms : mg "str" = none) (mn : mg "int" = none) (me : mg "len" = none) (ma : mg "all" = none) (mz : mg "zip" = none) :
    FnOk P w K mg base CX0 (k + 1) f fd ["_law_found", "_law_due_here"] (spSame (n + 1)) := by
  refine F.ok scSame (fun vs H Q E h => ?_) (fun cdv A outer s H vs Q E hr h => ?_)
  · obtain ⟨v, u, d, rfl, _⟩ := h
    rfl
  · obtain ⟨v, u, d, rfl, h1, h2, hd, hb, q⟩ := h
    rcases hd.cases with hf | ⟨ds, rfl, hl, hall⟩ | ⟨ds, rfl, hl, hall⟩
    · exact same_flat mi ml mt mb ms mn h1 h2 hf hb q
    · refine ⟨_, pss_cons (ps_if (pt_cmpR op_isN (pv 1) pe_non (nomark _)) (pss_one (ps_ret (pe_cmpR op_isN (pv 0) pe_non (nomark _)))) pss_nil)
        (pss_cons (ps_if (PW.pt (pw_or (pt_val (pe_callB call_isi (by rfl) mi (by decide +kernel) (pa_cons (pv 1) (pa_cons (pe_bltn (v := .ty "list") (by rfl) ml (by decide +kernel) rfl) pa_nil)))) (pw_or1 (pt_val (pe_callB call_isi (by rfl) mi (by decide +kernel) (pa_cons (pv 1) (pa_cons (pe_bltn (v := .ty "tuple") (by rfl) mt (by decide +kernel) rfl) pa_nil)))))))
          (pss_cons (ps_if (pt_cmpR op_ne (pe_callB call_isi (by rfl) mi (by decide +kernel) (pa_cons (pv 0) (pa_cons (pe_bltn (v := .ty "list") (by rfl) ml (by decide +kernel) rfl) pa_nil))) (pe_callB call_isi (by rfl) mi (by decide +kernel) (pa_cons (pv 1) (pa_cons (pe_bltn (v := .ty "list") (by rfl) ml (by decide +kernel) rfl) pa_nil))) (nomark _)) (pss_one (ps_ret pe_bl)) pss_nil)
          (pss_cons (ps_if (PW.pt (pw_or (pt_cmpR op_ne (pe_callB call_isi (by rfl) mi (by decide +kernel) (pa_cons (pv 0) (pa_cons (pe_bltn (v := .ty "tuple") (by rfl) mt (by decide +kernel) rfl) pa_nil))) (pe_callB call_isi (by rfl) mi (by decide +kernel) (pa_cons (pv 1) (pa_cons (pe_bltn (v := .ty "tuple") (by rfl) mt (by decide +kernel) rfl) pa_nil))) (nomark _)) (pw_or1 (pt_cmpR op_ne (pe_callB call_len_seq (by rfl) me PySem.boot_len (pa_cons (pv 0) pa_nil)) (pe_callB call_len_seq (by rfl) me PySem.boot_len (pa_cons (pv 1) pa_nil)) (nomark _))))) (pss_one (ps_ret pe_bl)) pss_nil)
          (pss_one (ps_ret (pe_callB (cr_all rfl) (by rfl) ma (by decide +kernel) (pa_cons (pe_lc (own := [("_law_one", 2), ("_law_other", 3)]) (g := gTup K 2 (gCons (gName 2) (gCons (gName 3) gNil))) (tt := tYes) (te := tCall (spSame n) [] E0 (tCons (tVar 2) (tCons (tVar 3) tNil))) rfl scSame.nd (RZ.pi_zipA (by rfl) mz (pa_cons (pv 0) (pa_cons (pv 1) pa_nil)))
            (blkOk_by (own := [("_law_one", 2), ("_law_other", 3)]) (N := ["_law_found", "_law_due_here", "_law_one", "_law_other"]) (sc := defScope sSame) (by decide +kernel)) (fun _ _ _ _ _ => pg_tup rfl (pgs_cons (pg_name (i := 2) scSame.nd rfl (.inl rfl)) (pgs_cons (pg_name (i := 3) scSame.nd rfl (.inl rfl)) pgs_nil))) (fun _ _ _ _ _ => pts_nil)
            (fun _ _ _ _ _ => pe_own C hr (by rfl) (pa_cons (pv 2) (pa_cons (pv 3) pa_nil)))) pa_nil)))))) pss_nil) pss_never), ?_⟩
      cases h1 with | lst ea la da => ?_
      cases h2 with | lst eb lb db => ?_
      rename_i a xs b ys
      have deq : ∀ x : V, (decide (x = x)) = true := fun x => decide_eq_true rfl
      have hbl := noBls_all (by simpa only [NoBl] using hb)
      refine ⟨_, rfl, rfl, false, congrArg V.bl (decide_eq_false (fun z => nomatch z)), iteF ?_⟩
      refine ⟨_, rfl, _, _, .type "list", .type "list", true, rfl, .ty _, .base (.lst eb), kit_ty (by decide +kernel), _, rfl, iteT (iteT ?_)⟩
      refine ⟨_, rfl, _, _, .type "list", .type "list", true, rfl, .ty _, .base (.lst ea), kit_ty (by decide +kernel), _, rfl, _, _, .type "list", .type "list", true, rfl, .ty _, .base (.lst eb), kit_ty (by decide +kernel), rfl, false, congrArg V.bl (by rw [deq]; rfl), iteF ?_⟩
      refine ⟨_, rfl, _, _, .type "list", .type "tuple", false, rfl, .ty _, .base (.lst ea), kit_ty (by decide +kernel), _, rfl, _, _, .type "list", .type "tuple", false, rfl, .ty _, .base (.lst eb), kit_ty (by decide +kernel), rfl, false, congrArg V.bl (by rw [deq]; rfl), iteF ?_⟩
      refine ⟨_, rfl, a, xs, rfl, Sq.list ea, _, rfl, b, ys, rfl, Sq.list eb, rfl, false, congrArg V.bl (by rw [decide_eq_true (congrArg (fun n : Nat => V.int (n : Int)) (la.trans lb.symm))]; rfl), iteF ?_⟩
      refine ⟨_, rfl, _, rfl, a, b, xs, ys, rfl, .inl ⟨SqL.of ea, SqL.of eb, fun D nD => lc_it (walk_zip (K := K) (a := a) (b := b) (xs := xs) (ys := ys) (n := ds.length) (by rw [la, lb, Nat.min_self])) (fun j H' => Same H H' ∧ H' D = some (.lst ((List.replicate j true).map V.bl))) ⟨same_upd nD, upd_same⟩
        (fun j H' _ hP => ⟨SqL.of (hP.1 _ _ ea), SqL.of (hP.1 _ _ eb)⟩) (fun j x H' H'' hj hP hy => ?_) (fun H3 hP => ?_)⟩⟩
      · obtain ⟨sm', eD⟩ := hP
        obtain ⟨T, x1, x2, rfl, nT, rfl, f1, f2⟩ := hy
        have st := same_upd (o := .tup [x1, x2]) nT
        have hdj : ds[j]? = some ds[j] := List.getElem?_eq_getElem hj
        have S := sm'.trans st
        refine ⟨T, _, rfl, .inl (.inl upd_same), rfl, _, _, rfl, _, _, rfl, rfl, rfl, ?_⟩
        refine ⟨_, rfl, _, rfl, x1, x2, ds[j], rfl, (da j x1 _ f1 hdj).same S, (db j x2 _ f2 hdj).same S, hall _ (List.getElem_mem hj), hbl _ (List.getElem_mem hj), fun H4 s4 => ?_⟩
        refine ⟨_, s4 _ _ (st _ _ eD), small1000 (by rw [List.length_map, List.length_replicate]; omega), fun c o e => ?_, ?_⟩
        · rw [upd_ne (ne_of_none e nD)]
          exact s4 _ _ (st _ _ (sm' c o e))
        · rw [upd_same, List.replicate_succ', List.map_append]
          rfl
      · obtain ⟨sm', eD⟩ := hP
        refine ⟨D, List.replicate ds.length true, rfl, SqL.of eD, ?_⟩
        rw [all_true]
        exact q _ sm'
    · refine ⟨_, pss_cons (ps_if (pt_cmpR op_isN (pv 1) pe_non (nomark _)) (pss_one (ps_ret (pe_cmpR op_isN (pv 0) pe_non (nomark _)))) pss_nil)
        (pss_cons (ps_if (PW.pt (pw_or (pt_val (pe_callB call_isi (by rfl) mi (by decide +kernel) (pa_cons (pv 1) (pa_cons (pe_bltn (v := .ty "list") (by rfl) ml (by decide +kernel) rfl) pa_nil)))) (pw_or1 (pt_val (pe_callB call_isi (by rfl) mi (by decide +kernel) (pa_cons (pv 1) (pa_cons (pe_bltn (v := .ty "tuple") (by rfl) mt (by decide +kernel) rfl) pa_nil)))))))
          (pss_cons (ps_if (pt_cmpR op_ne (pe_callB call_isi (by rfl) mi (by decide +kernel) (pa_cons (pv 0) (pa_cons (pe_bltn (v := .ty "list") (by rfl) ml (by decide +kernel) rfl) pa_nil))) (pe_callB call_isi (by rfl) mi (by decide +kernel) (pa_cons (pv 1) (pa_cons (pe_bltn (v := .ty "list") (by rfl) ml (by decide +kernel) rfl) pa_nil))) (nomark _)) (pss_one (ps_ret pe_bl)) pss_nil)
          (pss_cons (ps_if (PW.pt (pw_or (pt_cmpR op_ne (pe_callB call_isi (by rfl) mi (by decide +kernel) (pa_cons (pv 0) (pa_cons (pe_bltn (v := .ty "tuple") (by rfl) mt (by decide +kernel) rfl) pa_nil))) (pe_callB call_isi (by rfl) mi (by decide +kernel) (pa_cons (pv 1) (pa_cons (pe_bltn (v := .ty "tuple") (by rfl) mt (by decide +kernel) rfl) pa_nil))) (nomark _)) (pw_or1 (pt_cmpR op_ne (pe_callB call_len_seq (by rfl) me PySem.boot_len (pa_cons (pv 0) pa_nil)) (pe_callB call_len_seq (by rfl) me PySem.boot_len (pa_cons (pv 1) pa_nil)) (nomark _))))) (pss_one (ps_ret pe_bl)) pss_nil)
          (pss_one (ps_ret (pe_callB (cr_all rfl) (by rfl) ma (by decide +kernel) (pa_cons (pe_lc (own := [("_law_one", 2), ("_law_other", 3)]) (g := gTup K 2 (gCons (gName 2) (gCons (gName 3) gNil))) (tt := tYes) (te := tCall (spSame n) [] E0 (tCons (tVar 2) (tCons (tVar 3) tNil))) rfl scSame.nd (RZ.pi_zipA (by rfl) mz (pa_cons (pv 0) (pa_cons (pv 1) pa_nil)))
            (blkOk_by (own := [("_law_one", 2), ("_law_other", 3)]) (N := ["_law_found", "_law_due_here", "_law_one", "_law_other"]) (sc := defScope sSame) (by decide +kernel)) (fun _ _ _ _ _ => pg_tup rfl (pgs_cons (pg_name (i := 2) scSame.nd rfl (.inl rfl)) (pgs_cons (pg_name (i := 3) scSame.nd rfl (.inl rfl)) pgs_nil))) (fun _ _ _ _ _ => pts_nil)
            (fun _ _ _ _ _ => pe_own C hr (by rfl) (pa_cons (pv 2) (pa_cons (pv 3) pa_nil)))) pa_nil)))))) pss_nil) pss_never), ?_⟩
      cases h1 with | tup ea la da => ?_
      cases h2 with | tup eb lb db => ?_
      rename_i a xs b ys
      have deq : ∀ x : V, (decide (x = x)) = true := fun x => decide_eq_true rfl
      have hbl := noBls_all (by simpa only [NoBl] using hb)
      refine ⟨_, rfl, rfl, false, congrArg V.bl (decide_eq_false (fun z => nomatch z)), iteF ?_⟩
      refine ⟨_, rfl, _, _, .type "tuple", .type "list", false, rfl, .ty _, .base (.tup eb), kit_ty (by decide +kernel), _, rfl, iteF ?_⟩
      refine ⟨_, rfl, _, _, .type "tuple", .type "tuple", true, rfl, .ty _, .base (.tup eb), kit_ty (by decide +kernel), _, rfl, iteT ?_⟩
      refine ⟨_, rfl, _, _, .type "tuple", .type "list", false, rfl, .ty _, .base (.tup ea), kit_ty (by decide +kernel), _, rfl, _, _, .type "tuple", .type "list", false, rfl, .ty _, .base (.tup eb), kit_ty (by decide +kernel), rfl, false, congrArg V.bl (by rw [deq]; rfl), iteF ?_⟩
      refine ⟨_, rfl, _, _, .type "tuple", .type "tuple", true, rfl, .ty _, .base (.tup ea), kit_ty (by decide +kernel), _, rfl, _, _, .type "tuple", .type "tuple", true, rfl, .ty _, .base (.tup eb), kit_ty (by decide +kernel), rfl, false, congrArg V.bl (by rw [deq]; rfl), iteF ?_⟩
      refine ⟨_, rfl, a, xs, rfl, Sq.tup ea, _, rfl, b, ys, rfl, Sq.tup eb, rfl, false, congrArg V.bl (by rw [decide_eq_true (congrArg (fun n : Nat => V.int (n : Int)) (la.trans lb.symm))]; rfl), iteF ?_⟩
      refine ⟨_, rfl, _, rfl, a, b, xs, ys, rfl, .inr ⟨.inl (.inl ea), .inl (.inl eb), fun D nD => lc_it (walk_zipTs (K := K) (a := a) (b := b) (xs := xs) (ys := ys) (n := ds.length) la lb) (fun j H' => Same H H' ∧ H' D = some (.lst ((List.replicate j true).map V.bl))) ⟨same_upd nD, upd_same⟩
        (fun j H' _ hP => ⟨.inl (.inl (hP.1 _ _ ea)), .inl (.inl (hP.1 _ _ eb))⟩) (fun j x H' H'' hj hP hy => ?_) (fun H3 hP => ?_)⟩⟩
      · obtain ⟨sm', eD⟩ := hP
        obtain ⟨T, x1, x2, rfl, nT, rfl, f1, f2⟩ := hy
        have st := same_upd (o := .tup [x1, x2]) nT
        have hdj : ds[j]? = some ds[j] := List.getElem?_eq_getElem hj
        have S := sm'.trans st
        refine ⟨T, _, rfl, .inl (.inl upd_same), rfl, _, _, rfl, _, _, rfl, rfl, rfl, ?_⟩
        refine ⟨_, rfl, _, rfl, x1, x2, ds[j], rfl, (da j x1 _ f1 hdj).same S, (db j x2 _ f2 hdj).same S, hall _ (List.getElem_mem hj), hbl _ (List.getElem_mem hj), fun H4 s4 => ?_⟩
        refine ⟨_, s4 _ _ (st _ _ eD), small1000 (by rw [List.length_map, List.length_replicate]; omega), fun c o e => ?_, ?_⟩
        · rw [upd_ne (ne_of_none e nD)]
          exact s4 _ _ (st _ _ (sm' c o e))
        · rw [upd_same, List.replicate_succ', List.map_append]
          rfl
      · obtain ⟨sm', eD⟩ := hP
        refine ⟨D, List.replicate ds.length true, rfl, SqL.of eD, ?_⟩
        rw [all_true]
        exact q _ sm'
end

/-! ### enumerate over a list or a tuple -/
theorem meets_enB {v : Value} {o : Obj} {G : Heap → Prop} (B : Begins v o G) : Meets (Builtin.«enumerate.__new__» ⟨[.type "enumerate", v], []⟩) (fun _ R s => G s.heap ∧
    R (.ok (.ret (.ref (s.heap.push o).objs.size))) { s with heap := (s.heap.push o).push { cls := .type "enumerate", data := .fields #[.none, .bool false, .ref s.heap.objs.size, rawInt 0, .none, .none] } }) :=
  .of_wp fun prog w A R s given => by
    obtain ⟨hp, g, d, tk, os⟩ := s
    obtain ⟨hg, given⟩ := given
    have sub0 := sub_enumerate
    have begun : ∀ {A' : Around} {E' Q' : Value → Shared → Prop}, Q' (.ref hp.objs.size) ⟨hp.push o, g, d, tk, os⟩ → wpAny (model prog w) A' (pyIter v) Q' E' ⟨hp, g, d, tk, os⟩ := fun q => B.iter prog w _ _ ⟨hp, g, d, tk, os⟩ _ hg q
    wp_walk using begun
    refine wpAny_stack_any fun stk => wpAny_pure ?_
    split
    · rename_i c0 _ _ _ _ _
      cases (c0 == Value.type "enumerate") <;> (wp_walk using begun; exact ⟨_, rfl, given⟩)
    · wp_walk using begun
      exact ⟨_, rfl, given⟩
theorem call_enB {prog : Program} {w : World} {A : Around} {E Q : Value → Shared → Prop} {s : Shared} {v : Value} {o : Obj} {G : Heap → Prop} (B : Begins v o G) (hg : G s.heap)
    (h : ∀ h', IsEnum h' (s.heap.objs.size + 1) s.heap.objs.size 0 .none → h'.get? s.heap.objs.size = some o → (∀ b o, s.heap.get? b = some o → h'.get? b = some o) → Q (.ref (s.heap.objs.size + 1)) { s with heap := h' }) : wpAny (model prog w) A (call (.type "enumerate") [v]) Q E s := by
  refine callType_new F.called_enumerate (by decide) (F.typeCall_enumerate_1 _) (F.newCall_enumerate_1 _) (fun obj => F.args_object_init_2 obj _) F.entry_enumerate_new (meets_enB B) ⟨hg, ?_⟩
  have z1 : (s.heap.push o).objs.size = s.heap.objs.size + 1 := Heap.size_push ..
  show _ ∧ _
  rw [z1]
  have made : IsEnum ((s.heap.push o).push { cls := .type "enumerate", data := .fields #[.none, .bool false, .ref s.heap.objs.size, rawInt 0, .none, .none] }) (s.heap.objs.size + 1) s.heap.objs.size 0 .none := by
    have e0 := Heap.get?_push_size (s.heap.push o) (o := { cls := .type "enumerate", data := .fields #[.none, .bool false, .ref s.heap.objs.size, rawInt 0, .none, .none] }) rfl
    rw [z1] at e0
    exact e0
  exact ⟨⟨_, made, rfl⟩, h _ made (Heap.get?_push_of_some _ (Heap.get?_push_size _ B.free)) fun b o x => Heap.get?_push_of_some _ (Heap.get?_push_of_some _ x)⟩
/-- the tuple at a as it stands, each item in a new pair -/
def IteT (K : PySem.W.Frag) (a : Addr) : It := ⟨fun i H => ∃ (xs : List V) (x : V), SqT K H a xs ∧ xs[i]? = some x, fun i H v H' => ∃ T x, v = .ref T ∧ H T = none ∧ H' = upd H T (.tup [.int (i : Nat), x]) ∧ ∀ xs, SqT K H a xs → xs[i]? = some x, fun i H => ∃ xs : List V, SqT K H a xs ∧ xs.length = i⟩
theorem turn_enT {P : Program} {w : World} {K : PySem.W.Frag} {elts : List Expr} {kk : Nat} {tpos : Pos} (a e it : Addr) (nei : e ≠ it) (nea : e ≠ a) (nai : a ≠ it) :
    Turn P w K (.Tuple elts kk tpos) (IteT K a) [e, it] e (fun i h => (∃ old, IsEnum h e it ((i : Nat) : Int) old) ∧ h.IsTupleIter it a i) where
  mem := List.mem_cons_self ..
  obj := fun i h ⟨⟨old, he⟩, ⟨o, ho, hc, hd⟩⟩ b hb => by
    rcases List.mem_cons.mp hb with z | z
    · subst z
      exact ⟨_, he, fun v q => nomatch q⟩
    · rw [List.mem_singleton.mp z]
      exact ⟨o, ho, fun v q => by rw [hd] at q; cases q⟩
  keep := fun i h h' ⟨⟨old, he⟩, hi⟩ k => ⟨⟨old, k e (List.mem_cons_self ..) _ he⟩, hi.at fun o q => k it (List.mem_cons_of_mem _ (List.mem_singleton.mpr rfl)) o q⟩
  item := by
    intro X hP hw hK hc i pins s σ H E I hf st hg
    subst hP hw hK
    obtain ⟨⟨old, he⟩, hit⟩ := st
    obtain ⟨xs, x, hq, hx⟩ := hg
    obtain ⟨its, rv, isT, _⟩ := I.tuple hq
    obtain ⟨u, hu, ru⟩ := rv.get hx
    have lte : e < s.heap.objs.size := Heap.lt_size he
    have lti : it < s.heap.objs.size := let ⟨_, q, _⟩ := hit; Heap.lt_size q
    have hui : its.toArray[i]? = some u := by simpa using hu
    have lt : i < its.toArray.size := (Array.getElem?_eq_some_iff.mp hui).1
    have D := Draws.tuple (prog := X.prog) (w := X.w) (A := X.A.in1) (I.ok.hd hc) it a nai its.toArray
    refine wpAny_pyNext_enum_itemD D he ⟨hit, isT⟩ lt nei (by intro z; rcases List.mem_cons.mp z with z | z; exact nei z; exact nea (List.mem_singleton.mp z)) fun x' h' tk hx' ho st' hT hsz hk => ?_
    have ex : u = x' := Option.some.inj (hui.symm.trans hx')
    subst ex
    refine ⟨_, rfl, wpAny_letOwnedTupleGo_enum (s := { s with heap := h', toks := tk + 1 }) ho fun h'' he' sb => ?_⟩
    have hT2 := (sb.2 _ (Nat.ne_of_gt lte)).trans hT
    have new : ObjOk X.prog X.w (upd H s.heap.objs.size (.tup [.int (i : Nat), x])) h'' s.heap.objs.size (.tup [.int (i : Nat), x]) := ⟨by show 2 ≤ sizeLine; decide, [.int i tk, u], .cons ⟨_, rfl⟩ (.cons ru .nil), ⟨_, hT2, rfl, _, rfl⟩⟩
    have I1 : Inv X pins σ (upd H s.heap.objs.size (.tup [.int (i : Nat), x])) { s with heap := h'', toks := tk + 1 } :=
      I.turnedNew (t' := tk + 1) (ch := [e, it]) (fun b ob hb q => (sb.2 b (fun z => hb (z ▸ List.mem_cons_self ..))).trans (hk b ob (fun z => hb (z ▸ List.mem_cons_self ..)) (fun z => hb (z ▸ List.mem_cons_of_mem _ (List.mem_singleton.mpr rfl))) q)) hf (Nat.le_refl _) new
    refine ⟨.ref s.heap.objs.size, _, I1, rfl, ⟨_, x, rfl, I.hok.fresh (Nat.le_refl _), rfl, fun ys hy => by rw [I.tuple_inj hy hq]; exact hx⟩, ⟨⟨u, ?_⟩, st'.1.at fun o q => (sb.2 it nei.symm).trans q⟩, fun b hb => ?_⟩
    · have e1 : ((i + 1 : Nat) : Int) = (i : Int) + 1 := by omega
      exact e1 ▸ he'
    · have ltb : b < s.heap.objs.size := by
        rcases List.mem_cons.mp hb with z | z
        · exact z ▸ lte
        · exact (List.mem_singleton.mp z) ▸ lti
      rw [upd_ne (Nat.ne_of_lt ltb)]
      exact (hf b hb).1
  done := by
    intro X hP hw hK hc i pins s σ H E I hf st hg
    subst hP hw hK
    obtain ⟨⟨old, he⟩, hit⟩ := st
    obtain ⟨xs, hq, hx⟩ := hg
    obtain ⟨its, rv, isT, _⟩ := I.tuple hq
    obtain ⟨f0, f1, _, f3, f4, f5⟩ := hf it (List.mem_cons_of_mem _ (List.mem_singleton.mpr rfl))
    have hl : its.toArray.size = i := by
      have := rv.length
      simp
      omega
    have D := Draws.tuple (prog := X.prog) (w := X.w) (A := X.A.in1) (I.ok.hd hc) it a nai its.toArray
    exact wpAny_pyNext_enum_endD D he (hl.symm ▸ ⟨hit, isT⟩) fun h' eb => ⟨rfl, I.turned (t' := s.toks) (fun b o hb q => eb b o hb q) f0 f1 f3 f4 f5⟩
  self := fun A i s Q E ⟨⟨_, he⟩, _⟩ h => wpAny_pyIter_enum he h
def iEnS (K : PySem.W.Frag) (ta : TA) : TI := fun σ H R => ta σ H fun vs H1 => ∃ a, vs = [.ref a] ∧ (((∃ xs, SqL K H1 a xs) ∧ R (Ite K a) H1) ∨ ((∃ xs, SqT K H1 a xs) ∧ R (IteT K a) H1))
theorem pi_enS {X : Cx} {e : Expr} {ta : TA} {p pos tpos : Pos} {elts : List Expr} {kk : Nat} (hg : Gl X "enumerate") (hm : X.mg "enumerate" = none) (ha : PA X [e] ta) (hs : starEach [e] X.env = [(false, eval e X.env)] := by rfl) : PI X (.Tuple elts kk tpos) (.Call (.Name "enumerate" p) [e] [] pos) (iEnS X.K ta) := by
  constructor
  intro pins s σ H R I h
  refine Call_ (ld_blt I hg hm boot_enumerate (PyProof.Rows.callWith_type1 (thn (ha.run pos pins s σ H _ I h) fun us s1 had => ?_) hs rfl))
  obtain ⟨_, H1, J, rel, a, rfl, had⟩ := had
  cases rel with | cons r rr => ?_
  cases rr
  cases r
  have apart : ∀ b ∈ [s1.heap.objs.size + 1, s1.heap.objs.size], FpOk X pins H1 b := fun b hb => by
    have le : s1.heap.objs.size ≤ b := by
      rcases List.mem_cons.mp hb with z | z
      · rw [z]; exact Nat.le_succ _
      · rw [List.mem_singleton.mp z]; exact Nat.le_refl _
    exact J.fpOk le (J.hok.fresh le)
  rcases had with ⟨⟨xs, hq⟩, q⟩ | ⟨⟨xs, hq⟩, q⟩
  · obtain ⟨its, _, isL, _⟩ := J.list hq
    exact call_enumerate_list isL.isList fun h' he hit _ hk => wpAny_pyIter_enum he ⟨_, _, _, _, H1, rfl, J.kept (t' := s1.toks) hk, turn_enum a _ _, ⟨⟨.none, he⟩, hit, Nat.succ_ne_self _⟩, apart, q⟩
  · obtain ⟨its, _, isT, _⟩ := J.tuple hq
    have lta : a < s1.heap.objs.size := let ⟨_, ho, _⟩ := id isT; Heap.lt_size ho
    exact call_enB (begins_tuple a its.toArray) isT fun h' he hit hk => wpAny_pyIter_enum he ⟨_, _, _, _, H1, rfl, J.kept (t' := s1.toks) hk, turn_enT a _ _ (Nat.succ_ne_self _) (Nat.ne_of_gt (Nat.lt_succ_of_lt lta)) (Nat.ne_of_lt lta), ⟨⟨.none, he⟩, ⟨_, hit, rfl, rfl⟩⟩, apart, q⟩
theorem walk_enT {K : PySem.W.Frag} {a : Addr} {xs : List V} : Walk (IteT K a) xs.length (fun H => SqT K H a xs) (YPair (fun i => some (.int (i : Nat))) (fun i => xs[i]?)) where
  goes := fun i _ hi q => ⟨xs, xs[i], q, List.getElem?_eq_getElem hi⟩
  stops := fun _ q => ⟨xs, q, rfl⟩
  yields := fun i H v H' _ q ⟨T, x, h1, h2, h3, h4⟩ => ⟨T, .int (i : Nat), x, h1, h2, h3, rfl, h4 xs q⟩
theorem for_enS {K : PySem.W.Frag} {a : Addr} {xs : List V} {g : TG} {tb : TS} {D : Ends} {σ : L2.St} {H0 H1 : Hp} (hq : Sq K H0 a xs) (s1 : Same H0 H1) (Pv : Nat → L2.St → Hp → Prop) (h0 : Pv 0 σ H1) (hl : ∀ i σ H', Pv i σ H' → Same H0 H')
    (turn : ∀ i x T σ H, xs[i]? = some x → Pv i σ H → H T = none → g (.ref T) σ (upd H T (.tup [.int (i : Nat), x])) fun σ2 H2 => tb { D with nx := Pv (i + 1), ct := Pv (i + 1), bk := D.nx } σ2 H2) (fin : ∀ σ H, Pv xs.length σ H → D.nx σ H) :
    ((∃ xs, SqL K H1 a xs) ∧ ForR (Ite K a) g tb D σ H1) ∨ ((∃ xs, SqT K H1 a xs) ∧ ForR (IteT K a) g tb D σ H1) := by
  have tn : ∀ i v σ H H', i < xs.length → Pv i σ H → YPair (fun i => some (.int (i : Nat))) (fun i => xs[i]?) i H v H' → g v σ H' fun σ2 H2 => tb { D with nx := Pv (i + 1), ct := Pv (i + 1), bk := D.nx } σ2 H2 := by
    rintro i v σ H H' _ hp ⟨T, x, y, rfl, nT, rfl, e1, e2⟩
    cases e1
    exact turn i y T σ H e2 hp nT
  rcases hq with h | h
  · exact .inl ⟨⟨xs, s1.seq h⟩, for_it walk_enum Pv h0 (fun i σ H' _ p => (hl i σ H' p).seq h) tn fin⟩
  · exact .inr ⟨⟨xs, same_t s1 h⟩, for_it walk_enT Pv h0 (fun i σ H' _ p => same_t (hl i σ H' p) h) tn fin⟩

/-! ## sum(.. for a, b, c in ..): a generator expression with three names, no test -/
namespace G3
open PySem PySem.Spec PyProof.Rows L2 GxR
/-- no item is left out -/
abbrev allOf : Nat → Bool := fun _ => true
section
variable {prog : Program} {w : World} {A : Around} {elt iter : Expr} {xa xb xc : Str} {pa pb pc pt pos : Pos} {kt : Nat} {sc : Scope}
abbrev gx (elt iter : Expr) (xa xb xc : Str) (pa pb pc pt : Pos) (kt : Nat) (sc : Scope) (pos : Pos) : Expr := .GeneratorExp elt [⟨.Tuple [.Name xa pa, .Name xb pb, .Name xc pc] kt pt, iter, [], 0⟩] sc pos
/-- what the element gives at the i-th triple, in any heap in which what stood at href still stands -/
def Elt3 (prog : Program) (w : World) (cenv : Env) (xa xb xc : Str) (elt : Expr) (foot writes : List Addr) (Hold : Nat → Array Value → Prop) (Gives : Nat → Value → Prop) (href : Heap) : Prop :=
  ∀ (A' : Around) (E' : Value → Shared → Prop) (i : Nat) (u v x : Value) (s2 : Shared) (m : Str → Option Value), A'.handled = none → Hold i #[u, v, x] → s2.heap.Ns cenv.locals m → m xa = some u → m xb = some v → m xc = some x →
    (∀ b ∈ foot, b ∉ writes → ∀ o, href.get? b = some o → s2.heap.get? b = some o) → wpAny (model prog w) A' (eval elt cenv) (fun y s3 => Gives i y ∧ Keeps s2 s3) E' s2
/-- the scope of the expression: three unlike locals -/
structure Env3 (cenv : Env) (xa xb xc : Str) (foot : List Addr) : Prop where
  ka : cenv.kindOf xa = some .local
  kb : cenv.kindOf xb = some .local
  kc : cenv.kindOf xc = some .local
  ab : xa ≠ xb
  ac : xa ≠ xc
  bc : xb ≠ xc
  plain : (cenv.scope.kind == .class || (cenv.scope.kind == .module && cenv.locals != cenv.globals)) = false
  sync : cenv.scope.isCoroutine = false
  out : cenv.locals ∉ foot
theorem loop3 {I : Addr} {foot writes : List Addr} {n : Nat} {Hold : Nat → Array Value → Prop} {At : Nat → Heap → Prop} {Mid : Nat → Addr → Heap → Prop} {cenv : Env} {Gives : Nat → Value → Prop} {href : Heap}
    (calm : A.handled = none) (W : ∀ A' : Around, A'.handled = none → WalksU prog w A' I foot writes n Hold At Mid) (three : ∀ i xs, Hold i xs → ∃ u v x, xs = #[u, v, x]) (N : Env3 cenv xa xb xc foot) (elts : Elt3 prog w cenv xa xb xc elt foot writes Hold Gives href) :
    ∀ (k i : Nat) (s0 s : Shared) (m : Str → Option Value), n - i = k → i ≤ n → At i s.heap → s.heap.Ns cenv.locals m → GenSince cenv.locals writes s0 s → (∀ b ∈ foot, b ∉ writes → ∀ o, href.get? b = some o → s.heap.get? b = some o) →
      Seg (model prog w) A (fun n s0 r s1 => r = .ok .next ∧ (n = 0 ∧ GenSince cenv.locals writes s0 s1)) (genProto cenv.locals foot writes allOf n Gives) (passing allOf n i).length s0
        (.compLoop (gx elt iter xa xb xc pa pb pc pt kt sc pos) 0 (.ref I) .none cenv) ((model prog w).den (.compLoop (gx elt iter xa xb xc pa pb pc pt kt sc pos) 0 (.ref I) .none cenv)) [] s := by
  have calm' : (A.over (.compLoop (gx elt iter xa xb xc pa pb pc pt kt sc pos) 0 (.ref I) .none cenv) []).handled = none := calm
  have lw : cenv.locals ∉ writes := fun z => N.out ((W A calm).sub _ z)
  intro k
  induction k with
  | zero =>
    intro i s0 s m hk hi at_ ns since still
    obtain rfl : i = n := by omega
    show Seg _ A _ _ _ s0 _ ((compTurn (gx elt iter xa xb xc pa pb pc pt kt sc pos) 0 (.ref I) .none cenv).onRaise (leaving cenv)) [] s
    rw [compTurn_gen, Sem.onRaise_eq_wrap]
    refine seg_bind_wrap (wpAny_standAt (seg_bind_wrap ((W _ calm').done s _ _ at_ fun h' tk kept => ?_)))
    exact seg_end (.ok .next) ⟨rfl, by rw [passing_end]; rfl, since.step fun b o _ hw e => kept b o hw e⟩
  | succ k ih =>
    intro i s0 s m hk hi at_ ns since still
    have lt : i < n := by omega
    show Seg _ A _ _ _ s0 _ ((compTurn (gx elt iter xa xb xc pa pb pc pt kt sc pos) 0 (.ref I) .none cenv).onRaise (leaving cenv)) [] s
    rw [compTurn_gen, Sem.onRaise_eq_wrap]
    refine seg_bind_wrap (wpAny_standAt (seg_bind_wrap ((W _ calm').item i s _ _ lt at_ fun T xs h1 tk1 hold isT mid k1 => ?_)))
    obtain ⟨u, v, x, rfl⟩ := three i xs hold
    refine seg_bind_wrap ((W _ calm').go _ _ _ i T _ _ _ mid fun h2 at2 k2 => ?_)
    have isT2 : h2.IsTuple T #[u, v, x] := let ⟨o, e, r⟩ := isT; ⟨o, k2 _ o ((W _ calm').apart i T _ mid) e, r⟩
    refine seg_bind_wrap (wpAny_assign_Tuple calm' isT2 rfl rfl fun h3 ext3 => ?_)
    have old3 : ∀ b o, h2.get? b = some o → h3.get? b = some o := fun b o e => ext3 b o (Nat.ne_of_lt (Heap.lt_size e)) e
    show wpAny _ _ (do holding [v, x] (assign (.Name xa pa) cenv u); do holding [x] (assign (.Name xb pb) cenv v); do holding [] (assign (.Name xc pc) cenv x); pure ()) _ _ _
    refine wpAny_bind (wpAny_holding (wpAny_assign_Name (wpAny_storeName_local N.ka (ns.at' fun o e => old3 _ o (k2 _ o lw (k1 _ o lw e))) (fun h4 ns4 sb4 => ?_) N.plain)))
    refine wpAny_bind (wpAny_holding (wpAny_assign_Name (wpAny_storeName_local N.kb ns4 (fun h5 ns5 sb5 => ?_) N.plain)))
    refine wpAny_bind (wpAny_holding (wpAny_assign_Name (wpAny_storeName_local N.kc ns5 (fun h6 ns6 sb6 => wpAny_pure ?_) N.plain)))
    have on : ∀ b o, b ≠ cenv.locals → h2.get? b = some o → h6.get? b = some o := fun b o hb e => sb6.extBut b o hb (sb5.extBut b o hb (sb4.extBut b o hb (old3 b o e)))
    have up : ∀ b o, b ≠ cenv.locals → b ∉ writes → s.heap.get? b = some o → h6.get? b = some o := fun b o hb hw e => on b o hb (k2 b o hw (k1 b o hw e))
    have no : ∀ b ∈ foot, b ≠ cenv.locals := fun b hb z => N.out (z ▸ hb)
    have at6 : At (i + 1) h6 := (W A calm).frame _ _ _ at2 fun b hb o e => on b o (no b hb) e
    have still6 : ∀ b ∈ foot, b ∉ writes → ∀ o, href.get? b = some o → h6.get? b = some o := fun b hb hw o e => up b o (no b hb) hw (still b hb hw o e)
    refine seg_bind_wrap ?_
    rw [List.forIn_nil]
    refine wpAny_pure ?_
    rw [passing_true lt rfl, List.length_cons]
    simp only [if_true]
    have out : ∀ y, yieldOut cenv y = yieldValue y := fun y => by simp only [yieldOut, N.sync, Bool.false_eq_true, if_false]
    simp only [out]
    rw [Sem.bind_eq_wrap', Sem.bind_eq_wrap', Sem.wrap_wrap, Sem.wrap_wrap]
    refine seg_wrap (wpAny_mono (elts _ _ i u v x _ _ calm' hold ns6 (by simp [N.ab, N.ac]) (by simp [N.bc]) (by simp) still6) (fun y s7 r => ?_) fun _ _ e => e)
    obtain ⟨gives, h7, tk7, rfl, k7⟩ := r
    refine seg_at (seg_yield rfl rfl rfl ⟨⟨i, passing_here lt rfl, gives⟩, since.step fun b o hb hw e => k7 b o (up b o hb hw e), fun s8 al => ?_⟩)
    exact seg_again rfl (ih (i + 1) s8 s8 _ (by omega) lt ((W A calm).frame _ _ _ at6 fun b hb o e => al b (List.mem_cons_of_mem _ hb) o (k7 b o e)) ((ns6.keeps k7).at' fun o e => al _ (List.mem_cons_self ..) o e) (GenSince.refl _ _ _)
      fun b hb hw o e => al b (List.mem_cons_of_mem _ hb) o (k7 b o (still6 b hb hw o e)))
theorem start3 {I : Addr} {foot writes : List Addr} {n : Nat} {Hold : Nat → Array Value → Prop} {At : Nat → Heap → Prop} {Mid : Nat → Addr → Heap → Prop} {cenv : Env} {Gives : Nat → Value → Prop} {href : Heap}
    (calm : A.handled = none) (W : ∀ A' : Around, A'.handled = none → WalksU prog w A' I foot writes n Hold At Mid) (three : ∀ i xs, Hold i xs → ∃ u v x, xs = #[u, v, x]) (N : Env3 cenv xa xb xc foot) (elts : Elt3 prog w cenv xa xb xc elt foot writes Hold Gives href)
    (s0 s : Shared) (m : Str → Option Value) (at_ : At 0 s.heap) (ns : s.heap.Ns cenv.locals m) (since : GenSince cenv.locals writes s0 s) (still : ∀ b ∈ foot, b ∉ writes → ∀ o, href.get? b = some o → s.heap.get? b = some o) :
    Seg (model prog w) A (fun n s0 r s1 => r = .ok .next ∧ (n = 0 ∧ GenSince cenv.locals writes s0 s1)) (genProto cenv.locals foot writes allOf n Gives) (passing allOf n 0).length s0
      (.compStart (gx elt iter xa xb xc pa pb pc pt kt sc pos) 0 (.ref I) .none cenv) ((model prog w).den (.compStart (gx elt iter xa xb xc pa pb pc pt kt sc pos) 0 (.ref I) .none cenv)) [] s := by
  have calm' : (A.over (.compStart (gx elt iter xa xb xc pa pb pc pt kt sc pos) 0 (.ref I) .none cenv) []).handled = none := calm
  have loop := loop3 (iter := iter) (pa := pa) (pb := pb) (pc := pc) (pt := pt) (kt := kt) (sc := sc) (pos := pos) calm W three N elts n 0 s0 s m (Nat.sub_zero _) (Nat.zero_le _) at_ ns since still
  show Seg _ A _ _ _ s0 _ ((compStart (gx elt iter xa xb xc pa pb pc pt kt sc pos) 0 (.ref I) .none cenv).onRaise (leaving cenv)) [] s
  unfold compStart
  rw [Sem.onRaise_eq_wrap]
  show Seg _ A _ _ _ s0 _ ((ask >>= _).wrap _ _ _ _) [] s
  refine seg_bind_wrap (wpAny_askSetting ?_)
  split
  · exact seg_again rfl loop
  · first
      | exact seg_bind_wrap (wpAny_rule (seg_bind_wrap (wpAny_standAt (seg_bind_wrap ((W _ calm').self 0 s _ _ at_ (seg_again rfl loop))))))
      | (refine seg_bind_wrap (wpAny_rule ?_); show Seg _ A _ _ _ s0 _ ((standAt iter.pos >>= _).wrap _ _ _ _) [] s; exact seg_bind_wrap (wpAny_standAt (seg_bind_wrap ((W _ calm').self 0 s _ _ at_ (seg_again rfl loop)))))
theorem fresh3 {I a : Addr} {g : Nat} {foot writes : List Addr} {n : Nat} {Hold : Nat → Array Value → Prop} {At : Nat → Heap → Prop} {Mid : Nat → Addr → Heap → Prop} {cenv : Env} {Gives : Nat → Value → Prop} {s : Shared} {m : Str → Option Value}
    (calm : A.handled = none) (W : ∀ A' : Around, A'.handled = none → WalksU prog w A' I foot writes n Hold At Mid) (three : ∀ i xs, Hold i xs → ∃ u v x, xs = #[u, v, x]) (N : Env3 cenv xa xb xc foot) (elts : Elt3 prog w cenv xa xb xc elt foot writes Hold Gives s.heap)
    (isG : s.heap.IsGen a g) (state : s.gens[g]? = some (.fresh (.compStart (gx elt iter xa xb xc pa pb pc pt kt sc pos) 0 (.ref I) .none cenv))) (at_ : At 0 s.heap) (ns : s.heap.Ns cenv.locals m) (quiet : s.heap.NoLimit) : GenAt prog w A a g cenv.locals foot writes allOf n Gives 0 s :=
  ⟨isG, quiet, _, state, fun s8 al => ⟨rfl, start3 (A := A.in1) calm W three N elts s8 s8 m ((W A calm).frame _ _ _ at_ fun b hb o e => al b (List.mem_cons_of_mem _ hb) o e) (ns.at' fun o e => al _ (List.mem_cons_self ..) o e) (GenSince.refl _ _ _) fun b hb _ o e => al b (List.mem_cons_of_mem _ hb) o e⟩⟩
end
end G3

namespace G3
open PySem PySem.Spec PyProof.Rows L2 GxR GP
/-- a part: its mark, its first tin, its last -/
abbrev Part := Str × Int × Int
/-- a part where it stands -/
def PtV (H : Hp) (v : V) (p : Part) : Prop := ∃ a, v = .ref a ∧ H a = some (.tup [.str p.1, .int p.2.1, .int p.2.2])
def Pts (H : Hp) (vs : List V) (ps : List Part) : Prop := vs.length = ps.length ∧ ∀ (i : Nat) v p, vs[i]? = some v → ps[i]? = some p → PtV H v p
/-- what the machine holds of a part -/
def Is3 (p : Part) (xs : Array Value) : Prop := ∃ t1 t2 t3, xs = #[.str p.1 t1, .int p.2.1 t2, .int p.2.2 t3]
section
variable {X : Cx} {s : Shared} {H : Hp} {σ : L2.St} {pins : List (Addr × Obj)}
theorem part_in {T : Addr} {p : Part} (I : Inv X pins σ H s) (e : H T = some (.tup [.str p.1, .int p.2.1, .int p.2.2])) : ∃ xs, s.heap.IsTuple T xs ∧ Is3 p xs := by
  obtain ⟨_, its, r, t⟩ := I.hok T _ e
  cases r with
  | cons q1 r =>
    cases r with
    | cons q2 r =>
      cases r with
      | cons q3 r =>
        cases r
        obtain ⟨t1, rfl⟩ := q1
        obtain ⟨t2, rfl⟩ := q2
        obtain ⟨t3, rfl⟩ := q3
        exact ⟨_, t, t1, t2, t3, rfl⟩
theorem parts_in {vs : List V} {ps : List Part} {its : List Value} (I : Inv X pins σ H s) (hp : Pts H vs ps) (r : Vals vs its) :
    ∃ (loc : Nat → Addr) (held : Nat → Array Value), ∀ j, j < ps.length → its[j]? = some (.ref (loc j)) ∧ s.heap.IsTuple (loc j) (held j) ∧ ∃ p, ps[j]? = some p ∧ Is3 p (held j) := by
  have one : ∀ j, ∃ (T : Addr) (xs : Array Value), j < ps.length → its[j]? = some (.ref T) ∧ s.heap.IsTuple T xs ∧ ∃ p, ps[j]? = some p ∧ Is3 p xs := fun j => by
    by_cases hj : j < ps.length
    · have hv : j < vs.length := by rw [hp.1]; exact hj
      obtain ⟨T, e1, e2⟩ := hp.2 j _ _ (List.getElem?_eq_getElem hv) (List.getElem?_eq_getElem hj)
      obtain ⟨u, eu, ru⟩ := r.get (List.getElem?_eq_getElem hv)
      rw [e1] at ru
      cases ru
      obtain ⟨xs, t, h3⟩ := part_in I e2
      exact ⟨T, xs, fun _ => ⟨eu, t, _, List.getElem?_eq_getElem hj, h3⟩⟩
    · exact ⟨0, #[], fun z => absurd z hj⟩
  exact ⟨fun j => (one j).choose, fun j => (one j).choose_spec.choose, fun j hj => (one j).choose_spec.choose_spec hj⟩
/-- a walk over the parts, begun at the new iterator that o is -/
def Begun3 (X : Cx) (s : Shared) (P : Addr) (ps : List Part) (o : Obj) : Prop :=
  ∃ (foot : List Addr) (Hold : Nat → Array Value → Prop) (At : Nat → Heap → Prop) (Mid : Nat → Addr → Heap → Prop),
    (∀ A' : Around, A'.handled = none → WalksU X.prog X.w A' s.heap.objs.size foot [s.heap.objs.size] ps.length (fun j xs => j < ps.length ∧ Hold j xs) At Mid) ∧
    (∀ j xs, j < ps.length → Hold j xs → ∃ p, ps[j]? = some p ∧ Is3 p xs) ∧ At 0 (s.heap.push o) ∧ ∀ b ∈ foot, b < s.heap.objs.size + 1 ∧ b ≠ P
theorem begin_parts {a P : Addr} {vs : List V} {ps : List Part} {tb : Array Value} {Q' : Value → Shared → Prop} (I : Inv X pins σ H s) (hS : SqL X.K H a vs ∨ SqT X.K H a vs) (hp : Pts H vs ps) (hP : H P = some (.tbl tb))
    (fin : ∀ o, Begun3 X s P ps o → Q' (.ref s.heap.objs.size) { s with heap := s.heap.push o }) : wpAny (model X.prog X.w) X.A (pyIter (.ref a)) Q' X.xe s := by
  have hPo : s.heap.get? P = some { cls := .none, data := .fields tb } := I.hok P _ hP
  have notP : ∀ (b : Addr) (o : Obj) (xs : Array Value) (n : Nat), s.heap.get? b = some o → o.data = .seq xs n → b ≠ P := fun b o xs n e d z => by
    subst z
    cases hPo.symm.trans e
    cases d
  have newP : s.heap.objs.size ≠ P := (Nat.ne_of_lt (Heap.lt_size hPo)).symm
  have mk : ∀ (its : List Value) (o : Obj) (At : Nat → Heap → Prop), Vals vs its → a < s.heap.objs.size → a ≠ P → At 0 (s.heap.push o) →
      (∀ A' : Around, A'.handled = none → Walks X.prog X.w A' s.heap.objs.size [s.heap.objs.size, a] [s.heap.objs.size] its.toArray.size (fun i v => its.toArray[i]? = some v) At) →
      (∀ (A' : Around) (es : List Expr) (k : Nat) (pos : Pos) (j : Nat) (T : Addr) (s' : Shared) (Q : Unit → Shared → Prop) (E : Value → Shared → Prop), At j s'.heap → Q () s' → wpAny (model X.prog X.w) A' (letOwnedTupleGo (.Tuple es k pos) (.ref s.heap.objs.size) (.ref T)) Q E s') →
      Begun3 X s P ps o := by
    intro its o At r ha haP a0 W go
    obtain ⟨loc, held, hl⟩ := parts_in I hp r
    have ln : its.toArray.size = ps.length := by rw [List.size_toArray, ← r.length, hp.1]
    have below : ∀ m, m < ps.length → loc m < s.heap.objs.size ∧ loc m ≠ P := fun m hm => by
      obtain ⟨_, ⟨ob, e, _, n, d⟩, _⟩ := hl m hm
      exact ⟨Heap.lt_size e, notP _ _ _ _ e d⟩
    refine ⟨_, _, _, _, fun A' hA => (asTuples (ln ▸ W A' hA) loc held (fun j v hj e => ?_) (fun j hj => Nat.ne_of_lt (below j hj).1) (fun es k pos j T s' Q E => go A' es k pos j T s' Q E)).bound, fun j xs hj e => ?_, ⟨a0, fun m hm => ?_⟩, fun b hb => ?_⟩
    · have e2 : its[j]? = some v := by simpa using e
      exact (Option.some.inj ((hl j hj).1.symm.trans e2)).symm
    · obtain ⟨_, _, p, e1, e2⟩ := hl j hj
      exact ⟨p, e1, (show xs = held j from e) ▸ e2⟩
    · obtain ⟨_, ⟨ob, e, rest⟩, _⟩ := hl m hm
      exact ⟨ob, Heap.get?_push_of_some _ e, rest⟩
    · rcases List.mem_append.mp hb with z | z
      · rcases List.mem_cons.mp z with e | e
        · rw [e]; exact ⟨Nat.lt_succ_self _, newP⟩
        · rw [List.mem_singleton.mp e]; exact ⟨Nat.lt_succ_of_lt ha, haP⟩
      · obtain ⟨m, hm, e⟩ := List.mem_map.mp z
        obtain ⟨h1, h2⟩ := below m (List.mem_range.mp hm)
        exact e ▸ ⟨Nat.lt_succ_of_lt h1, h2⟩
  rcases hS with hS | hS
  · obtain ⟨its, r, hl, _⟩ := I.list hS
    obtain ⟨o, e, c, n, d⟩ := hl.isList
    refine wpAny_pyIter_list hl.isList (fin _ (mk its _ _ r (Heap.lt_size e) (notP _ _ _ _ e d) ⟨⟨_, Heap.get?_push_size _ rfl, rfl, rfl⟩, ⟨o, Heap.get?_push_of_some _ e, c, n, d⟩⟩ (fun A' hA => Walks.list hA _ a (Nat.ne_of_lt (Heap.lt_size e)) its.toArray) ?_))
    exact fun A' es k pos j T s' Q E at_ q => wpAny_letOwnedTupleGo_listiter at_.1 q
  · obtain ⟨its, r, ⟨o, e, c, n, d⟩, _⟩ := I.tuple hS
    refine wpAny_pyIter_tuple (items := its.toArray) ⟨o, e, c, n, d⟩ (fin _ (mk its _ _ r (Heap.lt_size e) (notP _ _ _ _ e d) ⟨⟨_, Heap.get?_push_size _ rfl, rfl, rfl⟩, ⟨o, Heap.get?_push_of_some _ e, c, n, d⟩⟩ (fun A' hA => Walks.tuple hA _ a (Nat.ne_of_lt (Heap.lt_size e)) its.toArray) ?_))
    exact fun A' es k pos j T s' Q E at_ q => letGo_tupleiter at_.1 q
/-- what is asked of the expression's own scope -/
structure Own3 (env : Env) (sc : Scope) (xa xb xc : Str) : Prop where
  fn : sc.kind = .function
  sync : sc.isCoroutine = false
  dot : sc.names.lookup (".0" : Str) = some .local
  ka : sc.names.lookup xa = some .local
  kb : sc.names.lookup xb = some .local
  kc : sc.names.lookup xc = some .local
  ab : xa ≠ xb
  ac : xa ≠ xc
  bc : xb ≠ xc
  noCell : ∀ y ∈ sc.names, y.2 ≠ NameKind.cell
  free : ∀ y ∈ sc.names, y.2 = NameKind.free → ∃ c, env.cells.lookup y.1 = some c
/-- the element at a part, wherever the expression runs later -/
def EltAt3 (X : Cx) (s₁ : Shared) (P : Addr) (sc : Scope) (xa xb xc : Str) (elt : Expr) (Gives : Part → Value → Prop) : Prop :=
  ∀ (L : Addr) (code : Value) (A' : Around) (E' : Value → Shared → Prop) (p : Part) (t1 t2 t3 : Tok) (s₂ : Shared) (m : Str → Option Value), A'.handled = none →
    (∀ x o, x ≠ P → s₁.heap.get? x = some o → s₂.heap.get? x = some o) → s₂.heap.Ns L m → m xa = some (.str p.1 t1) → m xb = some (.int p.2.1 t2) → m xc = some (.int p.2.2 t3) →
    wpAny (model X.prog X.w) A' (eval elt (genEnv sc (cloFrom X.env.cells sc.names []) L code builtinsNs X.env)) (fun y s₃ => Gives p y ∧ Keeps s₂ s₃) E' s₂
/-- the generator at g before its first item -/
def Fresh3 (X : Cx) (pins : List (Addr × Obj)) (σ : L2.St) (H₁ : Hp) (P : Addr) (ps : List Part) (Gives : Part → Value → Prop) (g : Addr) (s₅ : Shared) : Prop :=
  ∃ (foot writes : List Addr) (Gens : Array GenState → Array GenState → Prop) (Item : Nat → Value → Prop) (At : Nat → Shared → Prop),
    (WalksS X.prog X.w X.A.in1 g foot writes Gens ps.length Item At ∧ At 0 s₅ ∧ ∀ b ∈ foot, b < s₅.heap.objs.size) ∧
    (∀ j v, Item j v → ∃ p, ps[j]? = some p ∧ Gives p v) ∧ ∀ s₆, Moved writes Gens s₅ s₆ → ∃ H₂, Tabbed P H₁ H₂ ∧ Inv X pins σ H₂ s₆
theorem made3 {c P : Addr} {elt iter : Expr} {xa xb xc : Str} {pa pb pc pt gpos : Pos} {kt : Nat} {sc : Scope} {te : TE} {k : Nat} {Q' : Value → Shared → Prop} {Want : List Part → Hp → Prop} {Gives : Part → Value → Prop}
    (room : Room k X.A) (TB : TabB X.base X.mg c P) (hcode : X.env.code = .ref c) (own : Own3 X.env sc xa xb xc) (walked : PE X iter te) (plain : ∀ v, genFold iter X.env v = pure v) (I : Inv X pins σ H s)
    (each : ∀ s₁ H₁, Inv X pins σ H₁ s₁ → TabG H₁ P → EltAt3 X s₁ P sc xa xb xc elt Gives)
    (h : te σ H fun v H₁ => ∃ (a : Addr) (vs : List V) (ps : List Part), v = .ref a ∧ (SqL X.K H₁ a vs ∨ SqT X.K H₁ a vs) ∧ Pts H₁ vs ps ∧ TabG H₁ P ∧ Want ps H₁)
    (fin : ∀ ps H₁ g s₅, Want ps H₁ → Fresh3 X pins σ H₁ P ps Gives g s₅ → Q' (.ref g) s₅) :
    wpAny (model X.prog X.w) X.A (eval (gx elt iter xa xb xc pa pb pc pt kt sc gpos) X.env) Q' X.xe s := by
  have deep : X.A.depth < recursionLimit := by have := room.dp; omega
  refine wpAny_GeneratorExp_make own.sync (closure_ok own.free) own.noCell own.dot own.fn deep (thn (walked.run pins s σ H _ I h) fun u s₁ had => ?_) plain
  obtain ⟨_, H₁, I₁, rel, a, vs, ps, rfl, hS, hp, ⟨tb, hP, ok⟩, want⟩ := had
  cases rel
  have tabAt : s₁.heap.get? P = some { cls := .none, data := .fields tb } := I₁.hok P _ hP
  refine begin_parts I₁ hS hp hP fun o beg => ?_
  obtain ⟨foot, Hold, At, Mid, W, holds, at0, low⟩ := beg
  have statics : cStatics < s₁.heap.objs.size ∧ cStatics ≠ P := by
    obtain ⟨_, ns, _⟩ := I₁.nolimit
    refine ⟨ns.lt, fun z => ?_⟩
    obtain ⟨ob, _, _, e, d, _⟩ := ns
    rw [z] at e
    cases tabAt.symm.trans e
    cases d
  have quiet : (s₁.heap.push o).NoLimit := I₁.nolimit.push o
  refine ⟨quiet, code_there hcode (TB.code.keeps fun b u e => Heap.get?_push_of_some _ (I₁.bk b u e)) (Heap.get?_push_of_some _ tabAt) ok fun code h₃ tk more ext le tab₃ ok₃ => ?_⟩
  rw [Heap.size_push] at le
  have stays : ∀ b u, b ≠ P → s₁.heap.get? b = some u → h₃.get? b = some u := fun b u hb e => ext b u hb (Heap.get?_push_of_some _ e)
  obtain ⟨bm, ob, f1, f2, f3, f4, f5, f6, f7, f8⟩ := TB.bm
  have globals : Heap.Ns h₃ X.env.globals X.mg := by
    rw [I₁.ok.glob]
    exact ((I₁.mod.glob.keeps I₁.bk).push o).extBut ext TB.gP
  refine wpAny_builtinsFor (m := X.mg) globals f1 f2 (stays bm ob f4 (I₁.bk bm ob f5)) f6 f7 f8 ?_
  have later : ∀ b u, s₁.heap.get? b = some u → b ∉ [h₃.objs.size, s₁.heap.objs.size] := fun b u e z => by
    have lt := Heap.lt_size e
    rcases List.mem_cons.mp z with z' | z'
    · exact Nat.lt_irrefl _ (Nat.lt_of_lt_of_le (z' ▸ lt) (Nat.le_of_succ_le le))
    · exact Nat.lt_irrefl _ (List.mem_singleton.mp z' ▸ lt)
  -- the frame of the expression is laid
  intro h' hn' hs'
  have size' : h'.objs.size = h₃.objs.size + 1 := by rw [hs'.1, Heap.size_push]
  have keep' : ∀ b u, h₃.get? b = some u → h'.get? b = some u := fun b u e => hs'.extBut b u (Nat.ne_of_lt (Heap.lt_size e)) (Heap.get?_push_of_some _ e)
  have quiet3 : h₃.NoLimit := quiet.extBut ext statics.2
  have inR : ∀ b ∈ foot, b ∈ List.range h₃.objs.size := fun b hb => List.mem_range.mpr (Nat.lt_of_lt_of_le (low b hb).1 le)
  have wr : ∀ b ∈ [s₁.heap.objs.size], b ∈ List.range h₃.objs.size := fun b hb => by rw [List.mem_singleton.mp hb]; exact List.mem_range.mpr le
  have cl : cStatics < h₃.objs.size := Nat.lt_of_lt_of_le statics.1 (Nat.le_of_succ_le le)
  have keep₅ : ∀ b u, h₃.get? b = some u → (h'.push { cls := .type "generator", data := .fields #[.int s₁.gens.size 0, .str "<genexpr>" (tk + 1), .str (X.env.qual ++ "<genexpr>") (tk + 1 + 1)] }).get? b = some u := fun b u e => Heap.get?_push_of_some _ (keep' b u e)
  let F : Nat → Value → Prop := fun i y => i < ps.length → ∃ p, ps[i]? = some p ∧ Gives p y
  have W₅ := WalksS.genexpQ (prog := X.prog) (w := X.w) (A := X.A.in4) room.hd h'.objs.size s₁.gens.size h₃.objs.size (List.range h₃.objs.size) [s₁.heap.objs.size] allOf ps.length F (by rw [size']; exact Nat.succ_ne_self _) (fun z => by have := List.mem_range.mp z; omega) wr deep (List.mem_range.mpr cl) (Nat.ne_of_lt cl) (fun z => Nat.ne_of_lt statics.1 (List.mem_singleton.mp z))
  rw [GxR.passing_true, List.length_range] at W₅
  have W' : ∀ A' : Around, A'.handled = none → WalksU X.prog X.w A' s₁.heap.objs.size (List.range h₃.objs.size) [s₁.heap.objs.size] ps.length (fun j xs => j < ps.length ∧ Hold j xs) At Mid := fun A' hA => (W A' hA).mono_fp inR
  have at5 : At 0 (h'.push { cls := .type "generator", data := .fields #[.int s₁.gens.size 0, .str "<genexpr>" (tk + 1), .str (X.env.qual ++ "<genexpr>") (tk + 1 + 1)] }) := (W X.A room.hd).frame _ _ _ at0 fun b hb u e => keep₅ b u (ext b u (low b hb).2 e)
  have N3 : Env3 (genEnv sc (cloFrom X.env.cells sc.names []) h₃.objs.size code builtinsNs X.env) xa xb xc (List.range h₃.objs.size) := ⟨own.ka, own.kb, own.kc, own.ab, own.ac, own.bc, by simp [genEnv, own.fn], own.sync, fun z => Nat.lt_irrefl _ (List.mem_range.mp z)⟩
  have E3 : Elt3 X.prog X.w (genEnv sc (cloFrom X.env.cells sc.names []) h₃.objs.size code builtinsNs X.env) xa xb xc elt (List.range h₃.objs.size) [s₁.heap.objs.size] (fun j xs => j < ps.length ∧ Hold j xs) F (h'.push { cls := .type "generator", data := .fields #[.int s₁.gens.size 0, .str "<genexpr>" (tk + 1), .str (X.env.qual ++ "<genexpr>") (tk + 1 + 1)] }) := by
    intro A' E' i u v x s₂ m calm hx ns ea eb ec still
    obtain ⟨p, ep, t1, t2, t3, e⟩ := holds i _ hx.1 hx.2
    obtain rfl : u = .str p.1 t1 := by have z := congrArg (·[0]?) e; simpa using z
    obtain rfl : v = .int p.2.1 t2 := by have z := congrArg (·[1]?) e; simpa using z
    obtain rfl : x = .int p.2.2 t3 := by have z := congrArg (·[2]?) e; simpa using z
    refine wpAny_mono (each s₁ H₁ I₁ ⟨tb, hP, ok⟩ _ code A' E' p t1 t2 t3 s₂ m calm (fun b o hb q => ?_) ns ea eb ec) (fun y s₃ r => ⟨fun _ => ⟨p, ep, r.1⟩, r.2⟩) fun _ _ q => q
    have q3 := stays b o hb q
    exact still b (List.mem_range.mpr (Heap.lt_size q3)) (fun z => later b o q (List.mem_cons_of_mem _ z)) o (keep₅ b o q3)
  refine fin ps H₁ h'.objs.size _ want ⟨_, _, _, _, _, ⟨W₅.in4_1, fresh3 (A := X.A.in4) (pa := pa) (pb := pb) (pc := pc) (pt := pt) (kt := kt) (sc := sc) (pos := gpos) (iter := iter) (m := fun y => if y = ".0" then some (.ref s₁.heap.objs.size) else none) room.hd W' (fun i xs hx => ?_) N3 E3 ⟨_, _, _, Heap.get?_push_size _ rfl, rfl, rfl, rfl⟩ (Array.getElem?_push_size ..) at5 (hn'.push _) (quiet3.keeps keep₅), fun b hb => ?_⟩, fun j v it => ?_, fun s₆ mv => ?_⟩
  · obtain ⟨p, _, t1, t2, t3, e⟩ := holds i xs hx.1 hx.2
    exact ⟨_, _, _, e⟩
  · show b < (h'.push _).objs.size
    rw [Heap.size_push, size']
    rcases List.mem_cons.mp hb with e | e
    · rw [e, size']; exact Nat.lt_succ_self _
    · rcases List.mem_cons.mp e with e' | e'
      · rw [e']; exact Nat.lt_succ_of_lt (Nat.lt_succ_self _)
      · exact Nat.lt_succ_of_lt (Nat.lt_succ_of_lt (List.mem_range.mp e'))
  · obtain ⟨i, ei, hg⟩ := it
    have lt : j < ps.length := by
      have z := (List.getElem?_eq_some_iff.mp ei).1
      rwa [List.length_range] at z
    rw [List.getElem?_range lt] at ei
    cases ei
    exact hg lt
  · have all : ∀ b u, b ≠ P → s₁.heap.get? b = some u → s₆.heap.get? b = some u := fun b u hb e => mv.heap b u (later b u e) (keep₅ b u (stays b u hb e))
    have tab₆ := mv.heap P _ (later P _ tabAt) (keep₅ P _ tab₃)
    have J := inv_tab (more := more) (d' := s₆.drawn) (t' := s₆.toks) I₁ hP all tab₆ (AllBare.movedS (I₁.bare.push rfl) mv)
    rw [sh_eta s₁ s₆ mv.os] at J
    exact ⟨_, ⟨⟨tb ++ more, upd_same, ok₃⟩, fun b hb => upd_ne hb⟩, J⟩
/-- the sum of g over the parts -/
def sum3 (g : Part → Int) (ps : List Part) : Int := (ps.map g).sum
theorem preSum3 (g : Part → Int) (ps : List Part) (val : Nat → Int) (h : ∀ i p, ps[i]? = some p → val i = g p) : ∀ n, n ≤ ps.length → preSum val n = sum3 g (ps.take n)
  | 0, _ => rfl
  | n + 1, hn => by
    have e : ps[n]? = some ps[n] := List.getElem?_eq_getElem hn
    show preSum val n + val n = _
    rw [preSum3 g ps val h n (by omega), h n _ e]
    unfold sum3
    rw [List.take_add_one, e, List.map_append, List.sum_append]
    show _ = _ + (g ps[n] + 0)
    rw [Int.add_zero]
def tSum3 (K : PySem.W.Frag) (P : Addr) (g : Part → Int) (te : TE) : TE := fun σ H Q => te σ H fun v H₁ => ∃ (a : Addr) (vs : List V) (ps : List Part), v = .ref a ∧ (SqL K H₁ a vs ∨ SqT K H₁ a vs) ∧ Pts H₁ vs ps ∧ TabG H₁ P ∧ ∀ H₂, Tabbed P H₁ H₂ → Q (.int (sum3 g ps)) H₂
theorem pe_sum3 {c P : Addr} {elt iter : Expr} {xa xb xc : Str} {pa pb pc pt p pos gpos : Pos} {kt : Nat} {sc : Scope} {g : Part → Int} {te : TE} {k : Nat}
    (room : Room k X.A) (glob : Gl X "sum") (free : X.mg "sum" = none) (TB : TabB X.base X.mg c P) (hcode : X.env.code = .ref c) (own : Own3 X.env sc xa xb xc) (walked : PE X iter te)
    (each : ∀ s₁, EltAt3 X s₁ P sc xa xb xc elt (fun p y => ∃ t, y = .int (g p) t)) (plain : ∀ v, genFold iter X.env v = pure v)
    (one : starEach [gx elt iter xa xb xc pa pb pc pt kt sc gpos] X.env = [(false, eval (gx elt iter xa xb xc pa pb pc pt kt sc gpos) X.env)] := by rfl) :
    PE X (.Call (.Name "sum" p) [gx elt iter xa xb xc pa pb pc pt kt sc gpos] [] pos) (tSum3 X.K P g te) := by
  constructor
  intro pins s σ H Q I h
  refine wpAny_Call_Name_kw (ld_blt I glob free (show bootBuiltins "sum" = some (.builtin "sum") by decide +kernel) (callWith_builtin1 ?_ one (by rfl)) (by decide) (by decide))
  rw [one]
  refine Calls.spliced_cons (made3 (Want := fun ps H₁ => ∀ H₂, Tabbed P H₁ H₂ → Q (.int (sum3 g ps)) H₂) (Gives := fun p y => ∃ t, y = .int (g p) t) room TB hcode own walked plain I (fun s₁ H₁ _ _ => each s₁) h fun ps H₁ gen s₅ want fresh => Calls.spliced_nil ?_)
  obtain ⟨foot, writes, Gens, Item, At, ⟨W, a0, low⟩, items, behind⟩ := fresh
  let val : Nat → Int := fun i => (ps[i]?.map g).getD 0
  have hv : ∀ i p, ps[i]? = some p → val i = g p := fun i p e => by show (ps[i]?.map _).getD 0 = _; rw [e]; rfl
  refine call_sum_walkAnyS (W.self 0 _ _ _ a0 ⟨gen, foot, writes, Gens, ps.length, Item, At, val, rfl, W, a0, low, fun i v it => ?_, fun s₆ t mv => ?_⟩)
  · obtain ⟨p, e, t, ev⟩ := items i v it
    exact ⟨t, by rw [hv i p e]; exact ev⟩
  · obtain ⟨H₂, tabbed, J⟩ := behind s₆ mv
    refine ⟨.int (preSum val ps.length), H₂, J, ⟨t, rfl⟩, ?_⟩
    rw [preSum3 g ps val hv ps.length (Nat.le_refl _), List.take_length]
    exact want H₂ tabbed
end
end G3

/-! ### parts and packings -/
open G3
theorem log_lt {i : Int} (h : i.natAbs < 2 ^ 400) : i.natAbs.log2 < 400 := PySem.Flt.log2_lt_of (by decide) h
def SqH (H : Hp) (a : Addr) (xs : List V) : Prop := H a = some (.lst xs) ∨ H a = some (.tup xs)
theorem SqH.sq {K : PySem.W.Frag} {H : Hp} {a : Addr} {xs : List V} (h : SqH H a xs) : Sq K H a xs := h.elim Sq.list Sq.tup
theorem SqH.same {H H' : Hp} {a : Addr} {xs : List V} (h : SqH H a xs) (s : Same H H') : SqH H' a xs := h.imp (s _ _) (s _ _)
theorem SqH.kp {H H' : Hp} {d c a : Addr} {t : Int} {xs : List V} (h : SqH H a xs) (S : StAt H d c t) (k : Kp d c H H') (n : NoInt xs) : SqH H' a xs := h.imp (fun e => k.lst S e n) (fun e => k.tup S e)
theorem SqH.tab {Pt : Addr} {H H2 : Hp} {a : Addr} {xs : List V} (h : SqH H a xs) (g : GxR.TabG H Pt) (x : GxR.Tabbed Pt H H2) : SqH H2 a xs := h.imp (fun e => tab_at g x e (fun _ z => nomatch z)) (fun e => tab_at g x e (fun _ z => nomatch z))
theorem getElem?_app {α β : Type} {xs ys : List α} {us ws : List β} (l : xs.length = us.length) {i : Nat} {x : α} {u : β} (e1 : (xs ++ ys)[i]? = some x) (e2 : (us ++ ws)[i]? = some u) : (xs[i]? = some x ∧ us[i]? = some u) ∨ (ys[i - xs.length]? = some x ∧ ws[i - xs.length]? = some u) := by
  by_cases hi : i < xs.length
  · rw [List.getElem?_append_left hi] at e1
    rw [List.getElem?_append_left (by omega)] at e2
    exact .inl ⟨e1, e2⟩
  · rw [List.getElem?_append_right (by omega)] at e1 e2
    rw [← l] at e2
    exact .inr ⟨e1, e2⟩
theorem Pts.mono {H H' : Hp} {vs : List V} {ps : List Part} (h : Pts H vs ps) (m : ∀ v p, p ∈ ps → PtV H v p → PtV H' v p) : Pts H' vs ps := ⟨h.1, fun i v p e1 e2 => m v p (List.mem_of_getElem? e2) (h.2 i v p e1 e2)⟩
theorem PtV.same {H H' : Hp} {v : V} {p : Part} (h : PtV H v p) (s : Same H H') : PtV H' v p := let ⟨a, e, r⟩ := h; ⟨a, e, s _ _ r⟩
theorem Pts.same {H H' : Hp} {vs : List V} {ps : List Part} (h : Pts H vs ps) (s : Same H H') : Pts H' vs ps := Pts.mono h fun _ _ _ q => PtV.same q s
theorem PtV.kp {H H' : Hp} {d c : Addr} {t : Int} {v : V} {p : Part} (h : PtV H v p) (S : StAt H d c t) (k : Kp d c H H') : PtV H' v p := let ⟨a, e, r⟩ := h; ⟨a, e, k.tup S r⟩
theorem Pts.kp {H H' : Hp} {d c : Addr} {t : Int} {vs : List V} {ps : List Part} (h : Pts H vs ps) (S : StAt H d c t) (k : Kp d c H H') : Pts H' vs ps := Pts.mono h fun _ _ _ q => PtV.kp q S k
theorem Pts.tab {Pt : Addr} {H H2 : Hp} {vs : List V} {ps : List Part} (h : Pts H vs ps) (g : GxR.TabG H Pt) (x : GxR.Tabbed Pt H H2) : Pts H2 vs ps := Pts.mono h fun _ _ _ ⟨a, e, r⟩ => ⟨a, e, tab_at g x r (fun _ z => nomatch z)⟩
theorem Pts.upd_lst {H : Hp} {l : Addr} {xs : List V} {o : HO} {vs : List V} {ps : List Part} (h : Pts H vs ps) (hl : H l = some (.lst xs)) : Pts (upd H l o) vs ps := Pts.mono h fun _ _ _ ⟨a, e, r⟩ => ⟨a, e, by rw [upd_ne (ne_of r hl (fun z => nomatch z))]; exact r⟩
theorem Pts.nil {H : Hp} : Pts H [] [] := ⟨rfl, fun _ _ _ e => nomatch e⟩
theorem Pts.app {H : Hp} {vs ws : List V} {ps qs : List Part} (h : Pts H vs ps) (h' : Pts H ws qs) : Pts H (vs ++ ws) (ps ++ qs) :=
  ⟨by rw [List.length_append, List.length_append, h.1, h'.1], fun i v p e1 e2 => (getElem?_app h.1 e1 e2).elim (fun z => h.2 i v p z.1 z.2) (fun z => h'.2 _ v p z.1 z.2)⟩
theorem Pts.one {H : Hp} {v : V} {p : Part} (h : PtV H v p) : Pts H [v] [p] := ⟨rfl, fun i u q e1 e2 => by
  have hi : i < 1 := (List.getElem?_eq_some_iff.mp e1).1
  obtain rfl : i = 0 := by omega
  cases e1
  cases e2
  exact h⟩
theorem Pts.at {H : Hp} {vs : List V} {ps : List Part} {i : Nat} {v : V} (h : Pts H vs ps) (e : vs[i]? = some v) : ∃ p, ps[i]? = some p ∧ PtV H v p := by
  have hi : i < ps.length := by rw [← h.1]; exact (List.getElem?_eq_some_iff.mp e).1
  exact ⟨_, List.getElem?_eq_getElem hi, h.2 i v _ e (List.getElem?_eq_getElem hi)⟩
theorem Pts.noInt {H : Hp} {vs : List V} {ps : List Part} (h : Pts H vs ps) : NoInt vs := fun x hx i e => by
  obtain ⟨j, hj, e1⟩ := List.getElem_of_mem hx
  obtain ⟨p, _, a, rfl, _⟩ := Pts.at h (by rw [List.getElem?_eq_getElem hj, e1])
  cases e
/-- where a packing stands -/
def PkA (H : Hp) (b : Addr) (nm : Str) (sz : Int) (ps : List Part) : Prop := ∃ a us, H b = some (.tup [.str nm, .int sz, .ref a]) ∧ SqH H a us ∧ Pts H us ps
theorem PkA.same {H H' : Hp} {b : Addr} {nm : Str} {sz : Int} {ps : List Part} (h : PkA H b nm sz ps) (s : Same H H') : PkA H' b nm sz ps := let ⟨a, us, e, h1, h2⟩ := h; ⟨a, us, s _ _ e, h1.same s, Pts.same h2 s⟩
theorem PkA.kp {H H' : Hp} {d c b : Addr} {t : Int} {nm : Str} {sz : Int} {ps : List Part} (h : PkA H b nm sz ps) (S : StAt H d c t) (k : Kp d c H H') : PkA H' b nm sz ps := let ⟨a, us, e, h1, h2⟩ := h; ⟨a, us, k.tup S e, h1.kp S k (Pts.noInt h2), Pts.kp h2 S k⟩
theorem PkA.tab {Pt : Addr} {H H2 : Hp} {b : Addr} {nm : Str} {sz : Int} {ps : List Part} (h : PkA H b nm sz ps) (g : GxR.TabG H Pt) (x : GxR.Tabbed Pt H H2) : PkA H2 b nm sz ps := let ⟨a, us, e, h1, h2⟩ := h; ⟨a, us, tab_at g x e (fun _ z => nomatch z), h1.tab g x, Pts.tab h2 g x⟩
def Okp (p : Part) : Prop := PyData.strOk p.1 = true ∧ 0 ≤ p.2.1 ∧ p.2.1 ≤ p.2.2 ∧ p.2.2 ≤ 10 ^ 40
def cntP (p : Part) : Int := p.2.2 - p.2.1 + 1
def cntF (ps : List Part) : Int := sum3 cntP ps
theorem cntF_snoc (ps : List Part) (p : Part) : cntF (ps ++ [p]) = cntF ps + cntP p := by
  unfold cntF sum3
  rw [List.map_append, List.sum_append]
  show _ + (cntP p + 0) = _
  rw [Int.add_zero]
theorem take_snoc {α : Type} {l : List α} {i : Nat} {x : α} (e : l[i]? = some x) : l.take (i + 1) = l.take i ++ [x] := by rw [List.take_add_one, e]; rfl
theorem cntF_cons (p : Part) (ps : List Part) : cntF (p :: ps) = cntP p + cntF ps := by unfold cntF sum3; rw [List.map_cons, List.sum_cons]
theorem cntF_bound : ∀ {ps : List Part}, (∀ p ∈ ps, Okp p) → 0 ≤ cntF ps ∧ cntF ps ≤ (10 ^ 40 + 1) * (ps.length : Int)
  | [], _ => ⟨Int.le_refl _, by show (0 : Int) ≤ _; simp⟩
  | p :: r, h => by
    obtain ⟨h1, h2⟩ := cntF_bound (ps := r) fun q hq => h q (List.mem_cons_of_mem _ hq)
    obtain ⟨_, g1, g2, g3⟩ := h p (List.mem_cons_self ..)
    rw [cntF_cons, List.length_cons]
    unfold cntP
    omega
/-- what a case has of a part whose first tin stands at this spot -/
def rowF (sz cs sp : Int) (p : Part) : Option Part :=
  let lo := if cs * sz - (sp - p.2.1) > p.2.1 then cs * sz - (sp - p.2.1) else p.2.1
  let hi := if cs * sz + sz - 1 - (sp - p.2.1) < p.2.2 then cs * sz + sz - 1 - (sp - p.2.1) else p.2.2
  if lo ≤ hi then some (p.1, lo, hi) else none
def rowsG (sz cs : Int) : Int → List Part → List Part
  | _, [] => []
  | sp, p :: r => (rowF sz cs sp p).toList ++ rowsG sz cs (sp + cntP p) r
theorem rowsG_snoc (sz cs : Int) : ∀ (sp : Int) (ps : List Part) (p : Part), rowsG sz cs sp (ps ++ [p]) = rowsG sz cs sp ps ++ (rowF sz cs (sp + cntF ps) p).toList
  | sp, [], p => by
    show (rowF sz cs sp p).toList ++ [] = [] ++ (rowF sz cs (sp + 0) p).toList
    rw [List.append_nil, Int.add_zero]
    rfl
  | sp, q :: r, p => by
    show (rowF sz cs sp q).toList ++ rowsG sz cs (sp + cntP q) (r ++ [p]) = _
    rw [rowsG_snoc sz cs (sp + cntP q) r p, cntF_cons, ← List.append_assoc, Int.add_assoc]
    rfl
theorem rowsG_len (sz cs : Int) : ∀ (sp : Int) (ps : List Part), (rowsG sz cs sp ps).length ≤ ps.length
  | sp, [] => Nat.le_refl _
  | sp, q :: r => by
    have := rowsG_len sz cs (sp + cntP q) r
    have h : (rowF sz cs sp q).toList.length ≤ 1 := by
      cases rowF sz cs sp q
      · exact Nat.zero_le _
      · exact Nat.le_refl _
    show ((rowF sz cs sp q).toList ++ rowsG sz cs (sp + cntP q) r).length ≤ r.length + 1
    rw [List.length_append]
    omega
def spotsF (ps : List Part) (i : Nat) : List Int := (List.range i).map fun j => cntF (ps.take j)
theorem spotsF_snoc (ps : List Part) (i : Nat) : spotsF ps (i + 1) = spotsF ps i ++ [cntF (ps.take i)] := by unfold spotsF; rw [List.range_succ, List.map_append]; rfl
/-! ### tins_packed, cases_of, spots_of, tins_in -/
abbrev sPacked : Stmt := topS 6
theorem scPacked : FnScope ["packing"] ["packing"] (defScope sPacked) := ⟨rfl, rfl, rfl, by decide +kernel, rfl, by decide +kernel, by decide +kernel⟩
def spPacked (Pt : Addr) : Sp := fun vs H Q _ => ∃ (b : Addr) (nm : Str) (sz : Int) (ps : List Part), vs = [.ref b] ∧ PkA H b nm sz ps ∧ GxR.TabG H Pt ∧ ∀ H2, GxR.Tabbed Pt H H2 → Q (.int (cntF ps)) H2
theorem elt_part {X : Cx} {s₁ : Shared} {P : Addr} {scope : Scope} {xa xb xc : Str} {j : Nat} {p1 p2 p3 p4 p5 : Pos} (hk : scope.kind = .function) (lb : scope.names.lookup xb = some .local) (lc : scope.names.lookup xc = some .local)
    (hdb : (xb == ("__debug__" : Str)) = false := by decide) (hdc : (xc == ("__debug__" : Str)) = false := by decide) :
    EltAt3 X s₁ P scope xa xb xc (.BinOp (.BinOp (.Name xc p1) .Sub (.Name xb p2) p3) .Add (.Constant (.int 1) j p4) p5) (fun p y => ∃ t, y = .int (cntP p) t) := by
  intro L code A' E' p t1 t2 t3 s₂ m₂ _ hkp hn hma hmb hmc
  refine wpAny_BinOp (wpAny_BinOp (wpAny_Name (wpAny_loadName_local hk (show scope.names.lookup xc = some .local from lc) hn hmc ?_) hdc))
  refine wpAny_Name (wpAny_loadName_local hk (show scope.names.lookup xb = some .local from lb) hn hmb ?_) hdb
  refine PyProof.Rows.sub_int ?_
  refine wpAny_Constant_int ?_
  exact PyProof.Rows.add_int ⟨⟨_, rfl⟩, ⟨_, _, rfl, fun _ _ e => e⟩⟩
section
variable {K : PySem.W.Frag} {mg : Str → Option Value} {P : Program} {w : World} {base : Heap}
theorem ok_packed {f : Addr} {k : Nat} {c Pt : Addr} {oc kV doc pm ct : Value} {od an : Option Addr} {osl : Array (Option Value)}
    (lk : K.lookup f = some ⟨oc, od, .func (PySem.W.fnOf "tins_packed" "tins_packed" (defArgs sPacked) (defBody sPacked) (defScope sPacked) .none kV doc pm an (.ref c) ct), osl⟩) (hcd : PySem.W.codeIn K (.ref c) "tins_packed" = true)
    (TB : GxR.TabB base mg c Pt) (ms : mg "sum" = none) :
    FnOk P w K mg base CX0 (k + 1) f (PySem.W.fnOf "tins_packed" "tins_packed" (defArgs sPacked) (defBody sPacked) (defScope sPacked) .none kV doc pm an (.ref c) ct) ["packing"] (spPacked Pt) := by
  refine fn_of lk hcd scPacked (fun vs H Q E h => ?_) (fun A outer s H vs Q E hr h => ?_)
  · obtain ⟨b, nm, sz, ps, rfl, _⟩ := h
    rfl
  · obtain ⟨b, nm, sz, ps, rfl, ⟨a, us, eb, ha, hus⟩, ht, q⟩ := h
    refine ⟨_, PSs.nox (pss_one (ps_ret (pe_sum3 (g := cntP) hr (by rfl) ms TB rfl ⟨rfl, rfl, by decide +kernel, by decide +kernel, by decide +kernel, by decide +kernel, by decide +kernel, by decide +kernel, by decide +kernel, by decide +kernel, fun y hy hf => absurd hf ((by decide +kernel : ∀ y ∈ _, y.2 ≠ NameKind.free) y hy)⟩ (pe_ix ix_tup (pv 0) pe_int (fun _ _ => rfl)) (fun s₁ => elt_part rfl (by decide +kernel) (by decide +kernel)) (fun _ => rfl)))), ?_⟩
    exact ⟨_, rfl, b, _, 2, .ref a, rfl, rfl, .inl (.inl eb), atI_nat (j := 2) rfl, a, us, ps, rfl, ha.sq, hus, ht, q⟩
end
abbrev sCases : Stmt := topS 7
theorem scCases : FnScope ["packing", "size"] ["packing"] (defScope sCases) := ⟨rfl, rfl, rfl, by decide +kernel, rfl, by decide +kernel, by decide +kernel⟩
def spCases (Pt : Addr) : Sp := fun vs H Q _ => ∃ (b : Addr) (nm : Str) (sz : Int) (ps : List Part), vs = [.ref b] ∧ PkA H b nm sz ps ∧ 1 ≤ sz ∧ sz ≤ 10 ^ 50 ∧ GxR.TabG H Pt ∧ ∀ H2, GxR.Tabbed Pt H H2 → Q (.int ((cntF ps + sz - 1) / sz)) H2
abbrev sSpots : Stmt := topS 8
theorem scSpots : FnScope ["packing", "spots", "spot", "mark", "first", "last"] ["packing"] (defScope sSpots) := ⟨rfl, rfl, rfl, by decide +kernel, rfl, by decide +kernel, by decide +kernel⟩
def spSpots : Sp := fun vs H Q _ => ∃ (b : Addr) (nm : Str) (sz : Int) (ps : List Part), vs = [.ref b] ∧ PkA H b nm sz ps ∧ ps.length ≤ 900 ∧ ∀ l H', H l = none → H' l = some (.lst ((spotsF ps ps.length).map V.int)) → Same H H' → Q (.ref l) H'
/-- a loop over zip of a list and a list or tuple, that both stand still -/
theorem for_zipN {K : PySem.W.Frag} {a b : Addr} {xs ys : List V} {g : TG} {tb : TS} {D : Ends} {σ : L2.St} {H1 : Hp} (ha : H1 a = some (.lst xs)) (hb : SqH H1 b ys) (hl : xs.length = ys.length) (Pv : Nat → L2.St → Hp → Prop) (h0 : Pv 0 σ H1) (hs : ∀ i σ H', Pv i σ H' → (∀ {o}, H1 a = some o → H' a = some o) ∧ (∀ {o}, H1 b = some o → H' b = some o))
    (turn : ∀ i x y T σ H, xs[i]? = some x → ys[i]? = some y → Pv i σ H → H T = none → g (.ref T) σ (upd H T (.tup [x, y])) fun σ2 H2 => tb { D with nx := Pv (i + 1), ct := Pv (i + 1), bk := D.nx } σ2 H2) (fin : ∀ σ H, Pv xs.length σ H → D.nx σ H) :
    ((SqL K H1 a xs ∧ SqL K H1 b ys ∧ ForR (Itz K a b) g tb D σ H1) ∨ (SqL K H1 a xs ∧ SqT K H1 b ys ∧ ForR (ItzM K a b) g tb D σ H1)) := by
  have tn : ∀ i v σ H H', i < xs.length → Pv i σ H → YPair (fun i => xs[i]?) (fun i => ys[i]?) i H v H' → g v σ H' fun σ2 H2 => tb { D with nx := Pv (i + 1), ct := Pv (i + 1), bk := D.nx } σ2 H2 := by
    rintro i v σ H H' _ hp ⟨T, x, y, rfl, nT, rfl, e1, e2⟩
    exact turn i x y T σ H e1 e2 hp nT
  rcases hb with h | h
  · exact .inl ⟨SqL.of ha, SqL.of h, for_it (walk_zip (by omega)) Pv h0 (fun i σ H' _ p => ⟨SqL.of ((hs i σ H' p).1 ha), SqL.of ((hs i σ H' p).2 h)⟩) tn fin⟩
  · exact .inr ⟨SqL.of ha, .inl (.inl h), for_it (walk_zipM hl) Pv h0 (fun i σ H' _ p => ⟨SqL.of ((hs i σ H' p).1 ha), .inl (.inl ((hs i σ H' p).2 h))⟩) tn fin⟩
section
variable {K : PySem.W.Frag} {mg : Str → Option Value} {P : Program} {w : World} {base : Heap}
theorem ok_cases {f Pt : Addr} {fd : FuncData} (F : Fun K "cases_of" "cases_of" sCases f fd) (CP : Cal P w K mg base 1 "tins_packed" ["packing"] (spPacked Pt)) : FnOk P w K mg base CX0 2 f fd ["packing"] (spCases Pt) := by
  refine F.ok scCases (fun vs H Q E h => ?_) (fun cdv A outer s H vs Q E hr h => ?_)
  · obtain ⟨b, nm, sz, ps, rfl, _⟩ := h
    rfl
  · obtain ⟨b, nm, sz, ps, rfl, hb, h1, h2, ht, q⟩ := h
    refine ⟨_, pss_cons (ps_set (i := 1) scCases.nd rfl (.inl rfl) (pe_ix ix_tup (pv 0) pe_int (fun _ _ => rfl)))
      (pss_one (ps_ret (pe_op op_fdivW (pe_op op_sub (pe_op op_add (pe_own CP hr (by rfl) (pa_cons (pv 0) pa_nil)) (pv 1)) pe_int) (pv 1)))), ?_⟩
    obtain ⟨a, us, eb, ha, hus⟩ := id hb
    refine ⟨_, rfl, b, _, 1, .int sz, rfl, rfl, .inl (.inl eb), atI_nat (j := 1) rfl, _, rfl, b, nm, sz, ps, rfl, hb, ht, fun H2 x2 => ?_⟩
    exact ⟨_, rfl, _, sz, rfl, rfl, _, 1, rfl, rfl, _, rfl, _, sz, rfl, rfl, ⟨by omega, Nat.lt_trans (log_lt (by omega)) (by decide)⟩, q H2 x2⟩
theorem ok_spots {f : Addr} {fd : FuncData} {k : Nat} (F : Fun K "spots_of" "spots_of" sSpots f fd) : FnOk P w K mg base CX0 (k + 1) f fd ["packing"] spSpots := by
  refine F.ok scSpots (fun vs H Q E h => ?_) (fun cdv A outer s H vs Q E hr h => ?_)
  · obtain ⟨b, nm, sz, ps, rfl, _⟩ := h
    rfl
  · obtain ⟨b, nm, sz, ps, rfl, ⟨a, us, eb, ha, hus⟩, hl, q⟩ := h
    refine ⟨_, pss_cons (ps_set (i := 1) scSpots.nd rfl (.inl rfl) (pe_lst pa_nil))
      (pss_cons (ps_set (i := 2) scSpots.nd rfl (.inl rfl) pe_int)
      (pss_cons (ps_for PassesOwn.never rfl (pi_seq (pe_ix ix_tup (pv 0) pe_int (fun _ _ => rfl))) (pg_tup rfl (pgs_cons (pg_name (i := 3) scSpots.nd rfl (.inl rfl)) (pgs_cons (pg_name (i := 4) scSpots.nd rfl (.inl rfl)) (pgs_cons (pg_name (i := 5) scSpots.nd rfl (.inl rfl)) pgs_nil))))
        (pss_cons (ps_expr (pe_bm PySem.F.plainAttrs_list PySem.F.slot_list_append PySem.F.type_list_append mt_append (pv 1) (pa_cons (pv 2) pa_nil)))
        (pss_one (ps_aug (i := 2) scSpots.nd rfl (.inl rfl) (pe_op op_add (pe_op op_sub (pv 5) (pv 4)) pe_int) ip_add))))
      (pss_one (ps_ret (pv 1))))), ?_⟩
    refine ⟨Nat.zero_le _, fun l nl => ?_⟩
    have s1 := same_upd (o := .lst []) nl
    refine ⟨_, rfl, b, _, 2, .ref a, rfl, rfl, .inl (.inl (s1 _ _ eb)), atI_nat (j := 2) rfl, a, rfl, for_seqS (xs := us) ha.sq s1 (fun i σ Hx => ∃ (y3 y4 y5 : Option V), σ = [some (.ref b), some (.ref l), some (.int (cntF (ps.take i))), y3, y4, y5] ∧ Same H Hx ∧ Hx l = some (.lst ((spotsF ps i).map V.int)))
      ⟨_, _, _, rfl, s1, upd_same⟩ (fun i σ Hx hP => ?_) (fun i x σ Hx hx hP => ?_) (fun σ Hx hP => ?_)⟩
    · obtain ⟨_, _, _, rfl, sx, _⟩ := hP
      exact sx
    · obtain ⟨y3, y4, y5, rfl, sx, el⟩ := hP
      obtain ⟨p, ep, g, rfl, eg⟩ := Pts.at (Pts.same hus sx) hx
      have hi : i < ps.length := (List.getElem?_eq_some_iff.mp ep).1
      refine ⟨g, _, rfl, .inl (.inl eg), rfl, _, _, rfl, _, _, rfl, _, _, rfl, rfl, ?_⟩
      refine ⟨_, rfl, .inl ⟨rfl, _, SqL.of el⟩, _, rfl, l, _, _, rfl, rfl, el, small1000 (by unfold spotsF; rw [List.length_map, List.length_map, List.length_range]; omega), ?_⟩
      refine ⟨_, rfl, _, rfl, _, rfl, p.2.2, p.2.1, rfl, rfl, _, _, rfl, rfl, _, _, rfl, rfl, some (.str p.1), some (.int p.2.1), some (.int p.2.2), ?_, fun c o e => ?_, ?_⟩
      · rw [take_snoc ep, cntF_snoc]
        rfl
      · rw [upd_ne (ne_of_none e nl)]
        exact sx c o e
      · rw [upd_same, spotsF_snoc, List.map_append]
        rfl
    · obtain ⟨y3, y4, y5, rfl, sx, el⟩ := hP
      rw [hus.1] at el
      exact ⟨_, rfl, q l Hx nl el sx⟩
end

open G3
/-! ### parts as data -/
def partD (p : Part) : PyData := .tuple [.str p.1, .int p.2.1, .int p.2.2]
theorem pts_tail {H : Hp} {u : V} {us : List V} {p : Part} {ps : List Part} (h : Pts H (u :: us) (p :: ps)) : PtV H u p ∧ Pts H us ps :=
  ⟨h.2 0 u p rfl rfl, Nat.succ.inj h.1, fun i v q e1 e2 => h.2 (i + 1) v q e1 e2⟩
theorem dp_pts {K : PySem.W.Frag} {H : Hp} : ∀ {us : List V} {ps : List Part}, Pts H us ps → DpAll K H us (ps.map partD)
  | [], [], _ => .nil
  | [], _ :: _, h => nomatch h.1
  | _ :: _, [], h => nomatch h.1
  | u :: us, p :: ps, h => by
    obtain ⟨⟨a, eu, e2⟩, hr⟩ := pts_tail h
    subst eu
    exact .cons (.tup (.inl (.inl e2)) (.cons (.str _) (.cons (.int _) (.cons (.int _) .nil)))) (dp_pts hr)
theorem lay_pts : ∀ {ps : List Part}, (∀ p ∈ ps, PyData.strOk p.1 = true) → PyData.canLayAll0 (ps.map partD) = true
  | [], _ => by simp only [List.map_nil, PyData.canLayAll0]
  | p :: r, h => by
    rw [List.map_cons, PyData.canLayAll0, lay_pts fun q hq => h q (List.mem_cons_of_mem _ hq)]
    have := h p (List.mem_cons_self ..)
    simp only [partD, PyData.canLay0, PyData.canLayAll0, this, Bool.and_true]
theorem depth_pts : ∀ ps : List Part, PyData.depthAll (ps.map partD) ≤ 1
  | [] => by simp only [List.map_nil, PyData.depthAll]; omega
  | p :: r => by
    rw [List.map_cons, PyData.depthAll]  -- a part, and what is behind it
    have := depth_pts r
    simp [partD, PyData.depth, PyData.depthAll]
    omega
theorem shaped_pts {ps : List Part} (h : ∀ p ∈ ps, PyData.strOk p.1 = true) : SeqAt.shaped (PyData.list (ps.map partD)) = true := by
  unfold SeqAt.shaped
  rw [PyData.canLay0, lay_pts h, PyData.depth, Bool.true_and]
  exact decide_eq_true (by have := depth_pts ps; omega)
theorem eqv_pts {ps : List Part} (h : ∀ p ∈ ps, PyData.strOk p.1 = true) : PyData.eqv (PyData.list (ps.map partD)) (PyData.list (ps.map partD)) = true := SeqAt.eqv_refl _ (by rw [PyData.canLay0]; exact lay_pts h)
theorem eqv_pts_nil (ps : List Part) : PyData.eqv (PyData.list (ps.map partD)) (PyData.list []) = ps.isEmpty := by
  cases ps with
  | nil => simp [PyData.eqv, PyData.eqvAll]
  | cons p r => simp [PyData.eqv, PyData.eqvAll]
theorem pts_dat {H : Hp} {a : Addr} {us : List V} {ps : List Part} (e : H a = some (.lst us)) (h : Pts H us ps) : Dat H (.ref a) (.list (ps.map partD)) := .lst e (by rw [List.length_map]; exact h.1) fun i x d e1 e2 => by
  obtain ⟨p, ep, b, rfl, eb⟩ := Pts.at h e1
  rw [List.getElem?_map, ep] at e2
  have ed : partD p = d := Option.some.inj e2
  rw [← ed]
  refine .tup eb rfl fun j y d f1 f2 => ?_
  have hj : j < 3 := (List.getElem?_eq_some_iff.mp f1).1
  have : j = 0 ∨ j = 1 ∨ j = 2 := by omega
  rcases this with rfl | rfl | rfl
  · cases f1; cases f2; exact .str _
  · cases f1; cases f2; exact .int _
  · cases f1; cases f2; exact .int _
theorem sm_pts {ps : List Part} (h : ps.length ≤ 900) : Sm 2 (.list (ps.map partD)) := by
  refine ⟨by rw [List.length_map]; exact h, fun d hd => ?_⟩
  obtain ⟨p, _, rfl⟩ := List.mem_map.mp hd
  refine ⟨by show 3 ≤ 900; decide, fun d hd => ?_⟩
  rcases List.mem_cons.mp hd with e | hd
  · rw [e]; trivial
  rcases List.mem_cons.mp hd with e | hd
  · rw [e]; trivial
  · rw [List.mem_singleton.mp hd]; trivial
theorem noBl_pts (ps : List Part) : NoBl (.list (ps.map partD)) := by
  rw [NoBl]
  refine noBls_of fun d hd => ?_
  obtain ⟨p, _, rfl⟩ := List.mem_map.mp hd
  simp only [partD, NoBl, NoBls, and_self]

open G3
/-! ### _law_parts_by -/
abbrev sParts : Stmt := topS 20
theorem scParts : FnScope ["_law_state", "_law_marks", "_law_many", "_law_great", "_law_parts", "_law_turn", "_law_mark", "_law_first", "_law_near"] ["_law_state", "_law_marks", "_law_many", "_law_great"] (defScope sParts) := ⟨rfl, rfl, rfl, by decide +kernel, rfl, by decide +kernel, by decide +kernel⟩
/-- how great: few, or of thirty figures -/
def grB (gr : Int) : Int := if gr = 0 then 40 else 10 ^ 30
def Drawn (gr : Int) (n : Nat) (p : Part) : Prop := PyData.strOk p.1 = true ∧ 0 ≤ p.2.1 ∧ p.2.1 ≤ p.2.2 ∧ p.2.2 ≤ 2 * grB gr * n ∧ p.2.2 - p.2.1 < grB gr
theorem grB_pos (gr : Int) : 40 ≤ grB gr := by unfold grB; split <;> decide
theorem Drawn.up {gr : Int} {n : Nat} {p : Part} (h : Drawn gr n p) : Drawn gr (n + 1) p := by
  obtain ⟨h1, h2, h3, h4, h5⟩ := h
  have := grB_pos gr
  refine ⟨h1, h2, h3, Int.le_trans h4 ?_, h5⟩
  rw [Int.natCast_add, Int.mul_add]
  omega
def spParts : Sp := fun vs H Q _ => ∃ (d c ml : Addr) (t m gr : Int) (xs : List Str), vs = [.ref d, .ref ml, .int m, .int gr] ∧ StAt H d c t ∧ t + 300 < 2 ^ 60 ∧ H ml = some (.lst (xs.map V.str)) ∧ (∀ x ∈ xs, PyData.strOk x = true) ∧ xs ≠ [] ∧ xs.length ≤ 100 ∧ 0 ≤ m ∧ m ≤ 12 ∧ (gr = 0 ∨ gr = 1) ∧
  ∀ l (us : List V) (ps : List Part) (t' : Int) H', H l = none → H' l = some (.lst us) → Pts H' us ps → (ps.length : Int) = m → (∀ p ∈ ps, Drawn gr ps.length p) → t ≤ t' → t' ≤ t + 20 * m → StAt H' d c t' → Kp d c H H' → Q (.ref l) H'
def PartsW (H : Hp) (d c ml l : Addr) (t m gr : Int) (i : Nat) (σ : L2.St) (Hx : Hp) : Prop := ∃ (us : List V) (ps : List Part) (t' : Int) (y5 y6 y7 y8 : Option V), σ = [some (.ref d), some (.ref ml), some (.int m), some (.int gr), some (.ref l), y5, y6, y7, y8] ∧ Hx l = some (.lst us) ∧ Pts Hx us ps ∧ ps.length = i ∧ (∀ p ∈ ps, Drawn gr i p) ∧ t ≤ t' ∧ t' ≤ t + 20 * i ∧ StAt Hx d c t' ∧ Kp d c H Hx
section
variable {K : PySem.W.Frag} {mg : Str → Option Value} {P : Program} {w : World} {base : Heap}
theorem ok_parts {f : Addr} {fd : FuncData} (F : Fun K "_law_parts_by" "_law_parts_by" sParts f fd) (CT : Cal P w K mg base 1 "_law_take" ["_law_state", "_law_many"] spTake) (CN : Cal P w K mg base 2 "_law_number" ["_law_state", "_law_sort"] spNumber) (mr : mg "range" = none) (me : mg "len" = none) (mx : mg "max" = none) : FnOk P w K mg base CX0 3 f fd ["_law_state", "_law_marks", "_law_many", "_law_great"] spParts := by
  refine F.ok scParts (fun vs H Q E h => ?_) (fun cdv A outer s H vs Q E hr h => ?_)
  · obtain ⟨d, c, ml, t, m, gr, xs, rfl, _⟩ := h
    rfl
  · obtain ⟨d, c, ml, t, m, gr, xs, rfl, hS, ht, em, hxs, hne, hxl, m0, m1, hgr, q⟩ := h
    have hr1 := hr.mono (show 1 ≤ 2 by decide)
    refine ⟨_, pss_cons (ps_set (i := 4) scParts.nd rfl (.inl rfl) (pe_lst pa_nil))
      (pss_cons (ps_for PassesOwn.never rfl (pi_range1 rfl mr (pa_cons (pv 2) pa_nil)) (pg_name (i := 5) scParts.nd rfl (.inl rfl))
        (pss_cons (ps_par rfl scParts.nd (i := 6) (j := 7) rfl rfl (by decide) rfl rfl (pa_cons (pe_ix ix_list (pv 1) (pe_own CT hr1 (by rfl) (pa_cons (pv 0) (pa_cons (pe_callB call_len_seq (by rfl) me PySem.boot_len (pa_cons (pv 1) pa_nil)) pa_nil))) (fun _ _ => rfl)) (pa_cons (pe_own CN hr (by rfl) (pa_cons (pv 0) (pa_cons (pe_ix ix_list (pe_lst (pa_cons pe_int (pa_cons pe_int pa_nil))) (pv 3) (fun _ _ => rfl)) pa_nil))) pa_nil)) (by rfl))
        (Evl.pss_cut (ps_if (PW.pt (pw_and (pt_cmpR (op_neD hr.units) (pv 4) (pe_lst pa_nil) (nomark _)) (pw_and1 (pt_cmpR op_eq (pe_own CT hr1 (by rfl) (pa_cons (pv 0) (pa_cons pe_int pa_nil))) pe_int (nomark _)))))
          (pss_cons (ps_set (i := 8) scParts.nd rfl (.inl rfl) (pe_ix ix_list (pv 4) (pe_own CT hr1 (by rfl) (pa_cons (pv 0) (pa_cons (pe_callB call_len_seq (by rfl) me PySem.boot_len (pa_cons (pv 4) pa_nil)) pa_nil))) (fun _ _ => rfl)))
          (pss_one (ps_par rfl scParts.nd (i := 6) (j := 7) rfl rfl (by decide) rfl rfl (pa_cons (pe_ix ix_tup (pv 8) pe_int (fun _ _ => rfl)) (pa_cons (pe_ix ix_list (pe_lst (pa_cons (pe_ix ix_tup (pv 8) pe_int (fun _ _ => rfl)) (pa_cons (pe_ix ix_tup (pv 8) pe_int (fun _ _ => rfl)) (pa_cons (pe_op op_add (pe_ix ix_tup (pv 8) pe_int (fun _ _ => rfl)) pe_int) (pa_cons (pe_callB (call_max2 rfl) (by rfl) mx (by decide +kernel) (pa_cons pe_int (pa_cons (pe_op op_sub (pe_ix ix_tup (pv 8) pe_int (fun _ _ => rfl)) pe_int) pa_nil))) pa_nil))))) (pe_own CT hr1 (by rfl) (pa_cons (pv 0) (pa_cons pe_int pa_nil))) (fun _ _ => rfl)) pa_nil)) (by rfl)))) pss_nil)
        (pss_one (ps_expr (pe_bm PySem.F.plainAttrs_list PySem.F.slot_list_append PySem.F.type_list_append mt_append (pv 4) (pa_cons (pe_tup (pa_cons (pv 6) (pa_cons (pv 7) (pa_cons (pe_op op_add (pv 7) (pe_own CN hr (by rfl) (pa_cons (pv 0) (pa_cons (pe_ix ix_list (pe_ix ix_list (pe_lst (pa_cons (pe_lst (pa_cons pe_int (pa_cons pe_int pa_nil))) (pa_cons (pe_lst (pa_cons pe_int (pa_cons pe_int pa_nil))) pa_nil))) (pv 3) (fun _ _ => rfl)) (pe_own CT hr1 (by rfl) (pa_cons (pv 0) (pa_cons pe_int pa_nil))) (fun _ _ => rfl)) pa_nil)))) pa_nil)))) pa_nil)))))))
      (pss_one (ps_ret (pv 4)))), ?_⟩
    refine ⟨Nat.zero_le _, fun l nl => ?_⟩
    have s1 := same_upd (o := .lst []) nl
    have offl := hS.off nl
    have G := grB_pos gr
    refine ⟨_, rfl, m, rfl, by omega, by omega, for_range (n := m.toNat) (PartsW H d c ml l t m gr)
      ⟨[], [], t, _, _, _, _, rfl, upd_same, Pts.nil, rfl, (fun _ z => nomatch z), by omega, by omega, hS.same s1, Kp.same d c s1⟩ (fun i σ Hx hi hP => ?_) (fun σ Hx hP => ?_)⟩
    · obtain ⟨us, ps, t', y5, y6, y7, y8, rfl, el, hus, hpl, hps, u0, u1, hSx, kx⟩ := hP
      have hi12 : i < 12 := by omega
      have hul : us.length = i := by rw [hus.1, hpl]
      have emx := kx.lst hS em (noInt_strs xs)
      have lenm : (xs.map V.str).length = xs.length := List.length_map ..
      have hxp : 0 < xs.length := List.length_pos_iff.mpr hne
      -- a mark, a first tin
      refine ⟨_, rfl, _, rfl, _, rfl, ml, _, rfl, Sq.list emx, d, c, t', (xs.length : Int), by rw [lenm]; rfl, hSx, by omega, by omega, by omega, fun r H1 r0 r1 hS1 k1 => ?_⟩
      obtain ⟨jr, rfl⟩ := Int.eq_ofNat_of_zero_le r0
      have hjr : jr < xs.length := by omega
      have hat : atI (xs.map V.str) (jr : Int) = some (.str xs[jr]) := atI_nat (by rw [List.getElem?_map, List.getElem?_eq_getElem hjr]; rfl)
      refine ⟨ml, _, (jr : Int), .str xs[jr], rfl, rfl, SqL.of (k1.lst hSx emx (noInt_strs xs)), hat, ?_⟩
      refine ⟨_, rfl, (by show 2 ≤ sizeLine; decide), fun z nz => ?_⟩
      have sz := same_upd (o := .lst [.int 1, .int 3]) nz
      obtain ⟨kd, kd0, kdB, hat2⟩ : ∃ kd : Int, 0 ≤ kd ∧ sortB kd = grB gr ∧ atI [V.int 1, V.int 3] gr = some (.int kd) := by
        rcases hgr with rfl | rfl
        · exact ⟨1, by decide, by decide, rfl⟩
        · exact ⟨3, by decide, by decide, rfl⟩
      refine ⟨_, rfl, z, _, gr, .int kd, rfl, rfl, SqL.of upd_same, hat2, d, c, t' + 1, kd, rfl, hS1.same sz, by omega, kd0, fun f t2 H2 f0 f1 v0 v1 hS2 k2 => ?_⟩
      rw [kdB] at f1
      have k02 : Kp d c Hx H2 := k1.trans ((Kp.same d c sz).trans k2)
      have hA : (0 : Int) ≤ 2 * grB gr * (i : Int) := Int.mul_nonneg (by omega) (by omega)
      have hA1 : 2 * grB gr * ((i + 1 : Nat) : Int) = 2 * grB gr * (i : Int) + 2 * grB gr := by rw [Int.natCast_add, Int.mul_add]; simp
      have offl2 := offl
      have el2 := k02 _ _ offl.1 offl.2 el
      have hus2 := Pts.kp hus hSx k02
      have k2' : Kp d c H H2 := kx.trans k02
      refine ⟨_, _, rfl, ?_⟩
      refine ⟨fun σ' H' => ∃ (mk : Str) (fi t3 : Int) (y8 : Option V), σ' = [some (.ref d), some (.ref ml), some (.int m), some (.int gr), some (.ref l), some (.int (0 + (i : Int))), some (.str mk), some (.int fi), y8] ∧ PyData.strOk mk = true ∧ 0 ≤ fi ∧ fi ≤ 2 * grB gr * (i : Int) + grB gr ∧ t2 ≤ t3 ∧ t3 ≤ t2 + 3 ∧ H' l = some (.lst us) ∧ Pts H' us ps ∧ StAt H' d c t3 ∧ Kp d c H H', ?_, fun σ' H' hM => ?_⟩
      · -- near another one
        refine ⟨_, rfl, Nat.zero_le _, fun z2 nz2 => ?_⟩
        have sz2 := same_upd (o := .lst []) nz2
        refine ⟨_, _, .lst (SqL.of (sz2 _ _ el2)) (dp_pts (Pts.same hus2 sz2)), .lst (SqL.of upd_same) .nil, shaped_pts (fun p hp => (hps p hp).1), shaped_pts (ps := []) (fun _ z => nomatch z), _, rfl, ?_⟩
        have k3 : Kp d c H2 (upd H2 z2 (.lst [])) := Kp.same d c sz2
        have hS3 := hS2.same sz2
        have el3 := sz2 _ _ el2
        have hus3 := Pts.same hus2 sz2
        revert k3 hS3 el3 hus3
        generalize upd H2 z2 (.lst []) = H3
        intro k3 hS3 el3 hus3
        rw [eqv_pts_nil]
        refine ite2 (fun c1 => ?_) (fun c1 => ?_)
        · have hne2 : ps ≠ [] := fun z => by rw [z] at c1; exact absurd c1 (by decide)
          have hip : 0 < ps.length := List.length_pos_iff.mpr hne2
          refine ⟨_, rfl, d, c, t2, 2, rfl, hS3, by omega, by decide, by decide, fun r4 H4 r40 r41 hS4 k4 => ⟨rfl, _, rfl, ?_⟩⟩
          have el4 := k4 _ _ offl.1 offl.2 el3
          have hus4 := Pts.kp hus3 hS3 k4
          have k04 := (k2'.trans k3).trans k4
          refine ite2 (fun c2 => ?_) (fun c2 => ?_)
          · refine ⟨_, rfl, _, rfl, _, rfl, l, _, rfl, Sq.list el4, d, c, t2 + 1, (us.length : Int), rfl, hS4, by omega, by omega, by omega, fun r5 H5 r50 r51 hS5 k5 => ?_⟩
            obtain ⟨j5, rfl⟩ := Int.eq_ofNat_of_zero_le r50
            have hj5 : j5 < us.length := by omega
            have hus5 := Pts.kp hus4 hS4 k5
            have el5 := k5 _ _ offl.1 offl.2 el4
            obtain ⟨p, ep, g, eg0, eg⟩ := Pts.at hus5 (List.getElem?_eq_getElem hj5)
            obtain ⟨o0, o1, o2, o3, o4⟩ := hps p (List.mem_of_getElem? ep)
            refine ⟨l, _, (j5 : Int), .ref g, rfl, rfl, SqL.of el5, atI_nat (by rw [List.getElem?_eq_getElem hj5, eg0]), ?_⟩
            refine ⟨_, rfl, g, _, 0, .str p.1, rfl, rfl, .inl (.inl eg), atI_nat (j := 0) rfl, ?_⟩
            refine ⟨_, rfl, g, _, 1, .int p.2.1, rfl, rfl, .inl (.inl eg), atI_nat (j := 1) rfl, _, rfl, g, _, 2, .int p.2.2, rfl, rfl, .inl (.inl eg), atI_nat (j := 2) rfl, _, rfl, g, _, 2, .int p.2.2, rfl, rfl, .inl (.inl eg), atI_nat (j := 2) rfl, p.2.2, 1, rfl, rfl, _, rfl, g, _, 1, .int p.2.1, rfl, rfl, .inl (.inl eg), atI_nat (j := 1) rfl, p.2.1, 1, rfl, rfl, 0, p.2.1 - 1, rfl, (by show 4 ≤ sizeLine; decide), fun z6 nz6 => ?_⟩
            have sz6 := same_upd (o := .lst [.int p.2.1, .int p.2.2, .int (p.2.2 + 1), .int (if p.2.1 - 1 > 0 then p.2.1 - 1 else 0)]) nz6
            have off6 := hS5.off nz6
            refine ⟨_, rfl, d, c, t2 + 1 + 1, 4, rfl, hS5.same sz6, by omega, by decide, by decide, fun r7 H7 r70 r71 hS7 k7 => ?_⟩
            obtain ⟨fv, fv0, fv1, hat7⟩ : ∃ fv : Int, 0 ≤ fv ∧ fv ≤ p.2.2 + 1 ∧ atI [V.int p.2.1, V.int p.2.2, V.int (p.2.2 + 1), V.int (if p.2.1 - 1 > 0 then p.2.1 - 1 else 0)] r7 = some (.int fv) := by
              have : r7 = 0 ∨ r7 = 1 ∨ r7 = 2 ∨ r7 = 3 := by omega
              rcases this with rfl | rfl | rfl | rfl
              · exact ⟨_, o1, by omega, rfl⟩
              · exact ⟨_, by omega, by omega, rfl⟩
              · exact ⟨_, by omega, by omega, rfl⟩
              · exact ⟨_, by split <;> omega, by split <;> omega, rfl⟩
            have k57 : Kp d c H5 H7 := (Kp.same d c sz6).trans k7
            refine ⟨z6, _, r7, .int fv, rfl, rfl, SqL.of (k7 _ _ off6.1 off6.2 upd_same), hat7, _, _, rfl, ?_⟩
            exact ⟨p.1, fv, t2 + 1 + 1 + 1, _, rfl, o0, fv0, by omega, by omega, by omega, k57 _ _ offl.1 offl.2 el5, Pts.kp hus5 hS5 k57, hS7, (k04.trans k5).trans k57⟩
          · exact ⟨xs[jr], f, t2 + 1, _, rfl, hxs _ (List.getElem_mem hjr), f0, by omega, by omega, by omega, el4, hus4, hS4, k04⟩
        · exact iteF ⟨xs[jr], f, t2, _, rfl, hxs _ (List.getElem_mem hjr), f0, by omega, by omega, by omega, el3, hus3, hS3, k2'.trans k3⟩
      · obtain ⟨mk, fi, t3, y8', rfl, hmk, fi0, fi1, w0, w1, el3, hus3, hS3, k03⟩ := hM
        refine ⟨_, rfl, .inl ⟨rfl, _, SqL.of el3⟩, _, rfl, _, rfl, _, rfl, _, rfl, (by show 2 ≤ sizeLine; decide), fun z1 nz1 => ⟨(by show 2 ≤ sizeLine; decide), fun z2 nz2 => ⟨(by show 2 ≤ sizeLine; decide), fun z3 nz3 => ?_⟩⟩⟩
        have q1 := same_upd (o := .lst [.int 0, .int 1]) nz1
        have q2 := same_upd (o := .lst [.int 0, .int 3]) nz2
        have q3 := same_upd (o := .lst [.ref z1, .ref z2]) nz3
        have Q3 := (q1.trans q2).trans q3
        have off1 := hS3.off nz1
        have off2 := (hS3.same q1).off nz2
        have e1 := q3 _ _ (q2 _ _ (upd_same (H := H') (a := z1) (o := .lst [.int 0, .int 1])))
        have e2 := q3 _ _ (upd_same (H := upd H' z1 (.lst [.int 0, .int 1])) (a := z2) (o := .lst [.int 0, .int 3]))
        have hS4 := hS3.same Q3
        obtain ⟨zz, ww, ez, ew, hat3⟩ : ∃ zz ww, atI [V.ref z1, V.ref z2] gr = some (.ref zz) ∧ (∀ Hy, Kp d c (upd (upd (upd H' z1 (.lst [.int 0, .int 1])) z2 (.lst [.int 0, .int 3])) z3 (.lst [.ref z1, .ref z2])) Hy → Hy zz = some (.lst ww)) ∧ ∀ r : Int, 0 ≤ r → r < 2 → ∃ kd : Int, 0 ≤ kd ∧ sortB kd ≤ grB gr ∧ atI ww r = some (.int kd) := by
          rcases hgr with rfl | rfl
          · refine ⟨z1, _, rfl, fun Hy ky => ky _ _ off1.1 off1.2 e1, fun r r0 r1 => ?_⟩
            have : r = 0 ∨ r = 1 := by omega
            rcases this with rfl | rfl
            · exact ⟨0, by decide, by decide, rfl⟩
            · exact ⟨1, by decide, by decide, rfl⟩
          · refine ⟨z2, _, rfl, fun Hy ky => ky _ _ off2.1 off2.2 e2, fun r r0 r1 => ?_⟩
            have : r = 0 ∨ r = 1 := by omega
            rcases this with rfl | rfl
            · exact ⟨0, by decide, by decide, rfl⟩
            · exact ⟨3, by decide, by decide, rfl⟩
        refine ⟨_, rfl, z3, _, gr, .ref zz, rfl, rfl, SqL.of upd_same, ez, _, rfl, d, c, t3, 2, rfl, hS4, by omega, by decide, by decide, fun r5 H5 r50 r51 hS5 k5 => ?_⟩
        obtain ⟨kd2, kd20, kd2B, hat5⟩ := hat3 r5 r50 r51
        refine ⟨zz, _, r5, .int kd2, rfl, rfl, SqL.of (ew _ k5), hat5, d, c, t3 + 1, kd2, rfl, hS5, by omega, kd20, fun r6 t6 H6 r60 r61 v60 v61 hS6 k6 => ?_⟩
        have k36 : Kp d c H' H6 := (Kp.same d c Q3).trans (k5.trans k6)
        refine ⟨fi, r6, rfl, rfl, (by show 3 ≤ sizeLine; decide), fun T nT => ?_⟩
        have sT := same_upd (o := .tup [.str mk, .int fi, .int (fi + r6)]) nT
        have el6 := sT _ _ (k36 _ _ offl.1 offl.2 el3)
        refine ⟨l, _, _, rfl, rfl, el6, small1000 (by omega), us ++ [.ref T], ps ++ [(mk, fi, fi + r6)], t6, _, _, _, _, rfl, upd_same, Pts.upd_lst (Pts.app (Pts.same (Pts.kp hus3 hS3 k36) sT) (Pts.one ⟨T, rfl, upd_same⟩)) el6, by rw [List.length_append, hpl]; rfl, fun p hp => ?_, by omega, by omega, (hS6.same sT).upd offl.1 offl.2, fun b o b1 b2 e => ?_⟩
        · rcases List.mem_append.mp hp with z | z
          · exact (hps p z).up
          · rw [List.mem_singleton.mp z]
            refine ⟨hmk, fi0, (by show fi ≤ fi + r6; omega), (by show fi + r6 ≤ _; rw [hA1]; omega), (by show fi + r6 - fi < _; omega)⟩
        · rw [upd_ne (ne_of_none e nl)]
          exact sT _ _ (k36 b o b1 b2 (k03 b o b1 b2 e))
    · obtain ⟨us, ps, t', y5, y6, y7, y8, rfl, el, hus, hpl, hps, u0, u1, hSx, kx⟩ := hP
      exact ⟨_, rfl, q l us ps t' Hx nl el hus (by omega) (by rw [hpl]; exact hps) u0 (by omega) hSx kx⟩
end

open G3
/-! ### _law_packing_by -/
abbrev sPackBy : Stmt := topS 21
theorem scPackBy : FnScope ["_law_state", "_law_name", "_law_marks", "_law_great", "_law_parts", "_law_many", "_law_sizes", "_law_mark", "_law_first", "_law_last"] ["_law_state", "_law_name", "_law_marks", "_law_great"] (defScope sPackBy) := ⟨rfl, rfl, rfl, by decide +kernel, rfl, by decide +kernel, by decide +kernel⟩
/-- a packing with a list of its parts, as it is drawn -/
def spPackBy : Sp := fun vs H Q _ => ∃ (d c ml : Addr) (t gr : Int) (nm : Str) (xs : List Str), vs = [.ref d, .str nm, .ref ml, .int gr] ∧ StAt H d c t ∧ t + 400 < 2 ^ 60 ∧ H ml = some (.lst (xs.map V.str)) ∧ (∀ x ∈ xs, PyData.strOk x = true) ∧ xs ≠ [] ∧ xs.length ≤ 100 ∧ (gr = 0 ∨ gr = 1) ∧
  ∀ (b l : Addr) (us : List V) (ps : List Part) (sz t' : Int) H', H' b = some (.tup [.str nm, .int sz, .ref l]) → H' l = some (.lst us) → Pts H' us ps → ps.length ≤ 12 → (∀ p ∈ ps, Drawn gr ps.length p) → 1 ≤ sz → (sz ≤ 10 ^ 50) → t ≤ t' → t' ≤ t + 260 → StAt H' d c t' → Kp d c H H' → Q (.ref b) H'
theorem Drawn.ok {gr : Int} {n : Nat} {p : Part} (h : Drawn gr n p) (hn : n ≤ 12) : Okp p := by
  obtain ⟨h1, h2, h3, h4, h5⟩ := h
  refine ⟨h1, h2, h3, Int.le_trans h4 ?_⟩
  have hn' : (n : Int) ≤ 12 := by omega
  have hg : grB gr ≤ 10 ^ 30 := by unfold grB; split <;> decide
  have h0 := grB_pos gr
  have : 2 * grB gr * (n : Int) ≤ 2 * grB gr * 12 := Int.mul_le_mul_of_nonneg_left hn' (by omega)
  have e40 : (10 : Int) ^ 40 = 10 ^ 10 * 10 ^ 30 := by decide
  omega
theorem sum_snoc (ns : List Int) (x : Int) : (ns ++ [x]).sum = ns.sum + x := by rw [List.sum_append]; simp
section
variable {K : PySem.W.Frag} {mg : Str → Option Value} {P : Program} {w : World} {base : Heap}
theorem ok_packby {f : Addr} {fd : FuncData} (F : Fun K "_law_packing_by" "_law_packing_by" sPackBy f fd) (CT : Cal P w K mg base 1 "_law_take" ["_law_state", "_law_many"] spTake) (CN : Cal P w K mg base 2 "_law_number" ["_law_state", "_law_sort"] spNumber) (CP : Cal P w K mg base 3 "_law_parts_by" ["_law_state", "_law_marks", "_law_many", "_law_great"] spParts) (ms : mg "sum" = none) (mx : mg "max" = none) : FnOk P w K mg base CX0 4 f fd ["_law_state", "_law_name", "_law_marks", "_law_great"] spPackBy := by
  refine F.ok scPackBy (fun vs H Q E h => ?_) (fun cdv A outer s H vs Q E hr h => ?_)
  · obtain ⟨d, c, ml, t, gr, nm, xs, rfl, _⟩ := h
    rfl
  · obtain ⟨d, c, ml, t, gr, nm, xs, rfl, hS, ht, em, hxs, hne, hxl, hgr, q⟩ := h
    have hr1 := hr.mono (show 1 ≤ 3 by decide)
    have hr2 := hr.mono (show 2 ≤ 3 by decide)
    refine ⟨_, pss_cons (ps_set (i := 4) scPackBy.nd rfl (.inl rfl) (pe_own CP hr (by rfl) (pa_cons (pv 0) (pa_cons (pv 2) (pa_cons (pe_ix ix_list (pe_lst (pa_cons pe_int (pa_cons pe_int (pa_cons pe_int (pa_cons pe_int (pa_cons pe_int pa_nil)))))) (pe_own CT hr1 (by rfl) (pa_cons (pv 0) (pa_cons pe_int pa_nil))) (fun _ _ => rfl)) (pa_cons (pv 3) pa_nil))))))
      (pss_cons (ps_set (i := 5) scPackBy.nd rfl (.inl rfl) (pe_callB (cr_sum rfl) (by rfl) ms (by decide +kernel) (pa_cons (pe_lc (own := [("_law_mark", 7), ("_law_first", 8), ("_law_last", 9)]) (g := gTup K 3 (gCons (gName 7) (gCons (gName 8) (gCons (gName 9) gNil)))) (tt := tYes) (te := tOp (rI0 fun i j => .int (i + j)) (tOp (rI0 fun i j => .int (i - j)) (tVar 9) (tVar 8)) (tC (.int 1))) rfl scPackBy.nd (pi_list (pv 4))
            (blkOk_by (own := [("_law_mark", 7), ("_law_first", 8), ("_law_last", 9)]) (N := ["_law_state", "_law_name", "_law_marks", "_law_great", "_law_parts", "_law_many", "_law_sizes", "_law_mark", "_law_first", "_law_last"]) (sc := defScope sPackBy) (by decide +kernel)) (fun _ _ _ _ _ => pg_tup rfl (pgs_cons (pg_name (i := 7) scPackBy.nd rfl (.inl rfl)) (pgs_cons (pg_name (i := 8) scPackBy.nd rfl (.inl rfl)) (pgs_cons (pg_name (i := 9) scPackBy.nd rfl (.inl rfl)) pgs_nil)))) (fun _ _ _ _ _ => pts_nil) (fun _ _ _ _ _ => pe_op op_add (pe_op op_sub (pv 9) (pv 8)) pe_int)) pa_nil)))
      (pss_cons (ps_set (i := 6) scPackBy.nd rfl (.inl rfl) (pe_lst (pa_cons pe_int (pa_cons (pe_op op_add pe_int (pe_own CT hr1 (by rfl) (pa_cons (pv 0) (pa_cons pe_int pa_nil)))) (pa_cons (pe_callB (call_max2 rfl) (by rfl) mx (by decide +kernel) (pa_cons pe_int (pa_cons (pv 5) pa_nil))) (pa_cons (pe_op op_add (pv 5) pe_int) (pa_cons (pe_op op_add pe_int (pe_own CN hr2 (by rfl) (pa_cons (pv 0) (pa_cons (pe_ix ix_list (pe_lst (pa_cons pe_int (pa_cons pe_int pa_nil))) (pv 3) (fun _ _ => rfl)) pa_nil)))) pa_nil)))))))
      (pss_one (ps_ret (pe_tup (pa_cons (pv 1) (pa_cons (pe_ix ix_list (pv 6) (pe_own CT hr1 (by rfl) (pa_cons (pv 0) (pa_cons pe_int pa_nil))) (fun _ _ => rfl)) (pa_cons (pv 4) pa_nil)))))))), ?_⟩
    -- parts
    refine ⟨_, rfl, _, rfl, (by show 5 ≤ sizeLine; decide), fun z nz => ?_⟩
    have sz1 := same_upd (o := .lst [.int 0, .int 1, .int 2, .int 3, .int 12]) nz
    have offz := hS.off nz
    refine ⟨_, rfl, d, c, t, 5, rfl, hS.same sz1, by omega, by decide, by decide, fun r H1 r0 r1 hS1 k1 => ?_⟩
    obtain ⟨m, m0, m1, hat⟩ : ∃ m : Int, 0 ≤ m ∧ m ≤ 12 ∧ atI [V.int 0, V.int 1, V.int 2, V.int 3, V.int 12] r = some (.int m) := by
      have : r = 0 ∨ r = 1 ∨ r = 2 ∨ r = 3 ∨ r = 4 := by omega
      rcases this with rfl | rfl | rfl | rfl | rfl
      · exact ⟨_, by decide, by decide, rfl⟩
      · exact ⟨_, by decide, by decide, rfl⟩
      · exact ⟨_, by decide, by decide, rfl⟩
      · exact ⟨_, by decide, by decide, rfl⟩
      · exact ⟨_, by decide, by decide, rfl⟩
    have k01 : Kp d c H H1 := (Kp.same d c sz1).trans k1
    refine ⟨z, _, r, .int m, rfl, rfl, SqL.of (k1 _ _ offz.1 offz.2 upd_same), hat, _, rfl, d, c, ml, t + 1, m, gr, xs, rfl, hS1, by omega, k01.lst hS em (noInt_strs xs), hxs, hne, hxl, m0, m1, hgr, fun l us ps t2 H2 nl el hus hpm hps u0 u1 hS2 k2 => ?_⟩
    have hpl : ps.length ≤ 12 := by omega
    have hok : ∀ p ∈ ps, Okp p := fun p hp => (hps p hp).ok hpl
    have offl := hS1.off nl
    -- many
    refine ⟨_, rfl, l, rfl, ⟨_, SqL.of el⟩, fun D nD => lc_list (xs := us) (fun j H' => Same H2 H' ∧ H' D = some (.lst (((ps.take j).map cntP).map V.int))) ⟨same_upd nD, upd_same⟩ (fun j H' _ hP => SqL.of (hP.1 _ _ el)) (fun j x H' hx hP => ?_) (fun H3 hP => ?_)⟩
    · obtain ⟨sm, eD⟩ := hP
      obtain ⟨p, ep, g, rfl, eg⟩ := Pts.at (Pts.same hus sm) hx
      refine ⟨g, _, rfl, .inl (.inl eg), rfl, _, _, rfl, _, _, rfl, _, _, rfl, rfl, rfl, ?_⟩
      refine ⟨_, rfl, _, rfl, p.2.2, p.2.1, rfl, rfl, _, 1, rfl, rfl, _, eD, small1000 (by rw [List.length_map, List.length_map, List.length_take]; omega), fun c o e => ?_, ?_⟩
      · rw [upd_ne (ne_of_none e nD)]
        exact sm c o e
      · rw [upd_same, take_snoc ep, List.map_append, List.map_append]
        rfl
    · obtain ⟨s3, eD⟩ := hP
      rw [hus.1, List.take_length] at eD
      have hcb := cntF_bound hok
      refine ⟨D, ps.map cntP, rfl, SqL.of eD, ?_⟩
      have esum : (ps.map cntP).sum = cntF ps := rfl
      rw [esum]
      have hS3 := hS2.same s3
      have el3 := s3 _ _ el
      have hus3 := Pts.same hus s3
      have k3 : Kp d c H H3 := (k01.trans k2).trans (Kp.same d c s3)
      -- sizes
      refine ⟨_, rfl, d, c, t2, 12, rfl, hS3, by omega, by decide, by decide, fun r4 H4 r40 r41 hS4 k4 => ⟨1, r4, rfl, rfl, ?_⟩⟩
      refine ⟨_, rfl, 1, cntF ps, rfl, _, rfl, cntF ps, 1, rfl, rfl, _, rfl, (by show 2 ≤ sizeLine; decide), fun z5 nz5 => ?_⟩
      have sz5 := same_upd (o := .lst [.int 1, .int 3]) nz5
      obtain ⟨kd, kd0, hat5⟩ : ∃ kd : Int, 0 ≤ kd ∧ atI [V.int 1, V.int 3] gr = some (.int kd) := by
        rcases hgr with rfl | rfl
        · exact ⟨1, by decide, rfl⟩
        · exact ⟨3, by decide, rfl⟩
      refine ⟨_, rfl, z5, _, gr, .int kd, rfl, rfl, SqL.of upd_same, hat5, d, c, t2 + 1, kd, rfl, hS4.same sz5, by omega, kd0, fun r6 t6 H6 r60 r61 v60 v61 hS6 k6 => ⟨1, r6, rfl, rfl, (by show 5 ≤ sizeLine; decide), fun z7 nz7 => ?_⟩⟩
      have hr6 := sortB_le kd
      have sz7 := same_upd (o := .lst [.int 1, .int (1 + r4), .int (if cntF ps > 1 then cntF ps else 1), .int (cntF ps + 1), .int (1 + r6)]) nz7
      have off7 := hS6.off nz7
      have k36 : Kp d c H3 H6 := k4.trans ((Kp.same d c sz5).trans k6)
      have hE : (10 : Int) ^ 50 = 10 ^ 10 * 10 ^ 40 := by decide
      have hE3 : (10 : Int) ^ 40 = 10 ^ 10 * 10 ^ 30 := by decide
      have hcb2 : cntF ps ≤ (10 ^ 40 + 1) * 12 := Int.le_trans hcb.2 (Int.mul_le_mul_of_nonneg_left (by omega) (by decide))
      refine ⟨_, rfl, _, rfl, _, rfl, d, c, t6, 5, rfl, hS6.same sz7, by omega, by decide, by decide, fun r8 H8 r80 r81 hS8 k8 => ?_⟩
      obtain ⟨sz, sz0, szB, hat8⟩ : ∃ sz : Int, 1 ≤ sz ∧ sz ≤ 10 ^ 50 ∧ atI [V.int 1, V.int (1 + r4), V.int (if cntF ps > 1 then cntF ps else 1), V.int (cntF ps + 1), V.int (1 + r6)] r8 = some (.int sz) := by
        have : r8 = 0 ∨ r8 = 1 ∨ r8 = 2 ∨ r8 = 3 ∨ r8 = 4 := by omega
        rcases this with rfl | rfl | rfl | rfl | rfl
        · exact ⟨_, by omega, by omega, rfl⟩
        · exact ⟨_, by omega, by omega, rfl⟩
        · exact ⟨_, by split <;> omega, by split <;> omega, rfl⟩
        · exact ⟨_, by omega, by omega, rfl⟩
        · exact ⟨_, by omega, by omega, rfl⟩
      refine ⟨z7, _, r8, .int sz, rfl, rfl, SqL.of (k8 _ _ off7.1 off7.2 upd_same), hat8, _, rfl, (by show 3 ≤ sizeLine; decide), fun T nT => ?_⟩
      have sT := same_upd (o := .tup [.str nm, .int sz, .ref l]) nT
      have k38 : Kp d c H3 (upd H8 T (.tup [.str nm, .int sz, .ref l])) := (k36.trans ((Kp.same d c sz7).trans k8)).trans (Kp.same d c sT)
      exact q T l us ps sz (t6 + 1) _ upd_same (k38 _ _ offl.1 offl.2 el3) (Pts.kp hus3 hS3 k38) hpl hps sz0 szB (by omega) (by omega) (hS8.same sT) (k3.trans k38)
end

open G3
/-! ### cases that have one of these tins -/
theorem div_iff {x sz cs : Int} (h : 1 ≤ sz) : x / sz = cs ↔ cs * sz ≤ x ∧ x ≤ cs * sz + sz - 1 := by
  constructor
  · rintro rfl
    have e := Int.mul_ediv_add_emod x sz
    have m0 := Int.emod_nonneg x (show sz ≠ 0 by omega)
    have m1 := Int.emod_lt_of_pos x (show 0 < sz by omega)
    rw [Int.mul_comm] at e
    omega
  · rintro ⟨h1, h2⟩
    have e : x = (x - cs * sz) + cs * sz := by omega
    rw [e, Int.add_mul_ediv_right _ _ (by omega), Int.ediv_eq_zero_of_lt (by omega) (by omega), Int.zero_add]
/-- of following numbers, the cases of all of them follow one another -/
theorem div_between {l h sz c : Int} (hs : 1 ≤ sz) (hl : l ≤ h) : (l / sz ≤ c ∧ c ≤ h / sz) ↔ ∃ x, l ≤ x ∧ x ≤ h ∧ x / sz = c := by
  have ⟨l1, l2⟩ := (div_iff (x := l) (cs := l / sz) hs).mp rfl
  have ⟨h1, h2⟩ := (div_iff (x := h) (cs := h / sz) hs).mp rfl
  constructor
  · rintro ⟨g1, g2⟩
    by_cases e : l / sz = c
    · exact ⟨l, Int.le_refl _, hl, e⟩
    · have m1 : (l / sz + 1) * sz ≤ c * sz := Int.mul_le_mul_of_nonneg_right (by omega) (by omega)
      have m2 : c * sz ≤ h / sz * sz := Int.mul_le_mul_of_nonneg_right g2 (by omega)
      rw [Int.add_mul] at m1
      exact ⟨c * sz, by omega, by omega, (div_iff hs).mpr ⟨by omega, by omega⟩⟩
  · rintro ⟨x, x1, x2, rfl⟩
    exact ⟨Int.ediv_le_ediv (by omega) x1, Int.ediv_le_ediv (by omega) x2⟩
abbrev Prs2 := List (Int × Int)
/-- chosen sets, one for each part -/
def ChA (H : Hp) (vs : List V) (css : List Prs2) : Prop := vs.length = css.length ∧ ∀ (i : Nat) v rs, vs[i]? = some v → css[i]? = some rs → ∃ a, v = .ref a ∧ LsA H a rs
theorem ChA.same {H H' : Hp} {vs : List V} {css : List Prs2} (h : ChA H vs css) (s : Same H H') : ChA H' vs css := ⟨h.1, fun i v rs e1 e2 => let ⟨a, e, l⟩ := h.2 i v rs e1 e2; ⟨a, e, l.same s⟩⟩
theorem ChA.nil {H : Hp} : ChA H [] [] := ⟨rfl, fun _ _ _ e => nomatch e⟩
theorem ChA.snoc {H : Hp} {vs : List V} {css : List Prs2} {a : Addr} {rs : Prs2} (h : ChA H vs css) (l : LsA H a rs) : ChA H (vs ++ [.ref a]) (css ++ [rs]) :=
  ⟨by rw [List.length_append, List.length_append, h.1]; rfl, fun i v qs e1 e2 => (getElem?_app h.1 e1 e2).elim (fun z => h.2 i v qs z.1 z.2) (fun z => by
    have hi : i - vs.length < 1 := (List.getElem?_eq_some_iff.mp z.1).1
    have e0 : i - vs.length = 0 := by omega
    rw [e0] at z
    obtain ⟨z1, z2⟩ := z
    cases z1
    cases z2
    exact ⟨a, rfl, l⟩)⟩
/-- the case of some chosen tin, of these parts -/
def TouchP (sz : Int) (ps : List Part) (css : List Prs2) (n : Nat) (c : Int) : Prop := ∃ (i : Nat) (p : Part) (rs : Prs2), i < n ∧ ps[i]? = some p ∧ css[i]? = some rs ∧ ∃ x, InS rs x ∧ (x + (cntF (ps.take i) - p.2.1)) / sz = c
def mapP (sz sh : Int) (p : Int × Int) : Int × Int := ((p.1 + sh) / sz, (p.2 + sh) / sz)
theorem inS_mapP {sz sh c : Int} {rs : Prs2} (hs : 1 ≤ sz) (hr : ∀ p ∈ rs, p.1 ≤ p.2) : InS (rs.map (mapP sz sh)) c ↔ ∃ x, InS rs x ∧ (x + sh) / sz = c := by
  constructor
  · rintro ⟨q, hq, h1, h2⟩
    obtain ⟨p, hp, rfl⟩ := List.mem_map.mp hq
    obtain ⟨y, y1, y2, y3⟩ := (div_between hs (show p.1 + sh ≤ p.2 + sh by have := hr p hp; omega)).mp ⟨h1, h2⟩
    refine ⟨y - sh, ⟨p, hp, by omega, by omega⟩, ?_⟩
    rw [show y - sh + sh = y by omega]
    exact y3
  · rintro ⟨x, ⟨p, hp, h1, h2⟩, e⟩
    have ⟨g1, g2⟩ := (div_between hs (show p.1 + sh ≤ p.2 + sh by omega)).mpr ⟨x + sh, by omega, by omega, e⟩
    exact ⟨mapP sz sh p, List.mem_map.mpr ⟨p, hp, rfl⟩, g1, g2⟩
abbrev sTouched : Stmt := topS 9
theorem scTouched : FnScope ["packing", "chosen", "size", "touched", "spot", "part", "some", "shift", "low", "high"] ["packing", "chosen"] (defScope sTouched) := ⟨rfl, rfl, rfl, by decide +kernel, rfl, by decide +kernel, by decide +kernel⟩
def spTouched : Sp := fun vs H Q _ => ∃ (b ch : Addr) (nm : Str) (sz : Int) (ps : List Part) (cv : List V) (css : List Prs2), vs = [.ref b, .ref ch] ∧ PkA H b nm sz ps ∧ H ch = some (.lst cv) ∧ ChA H cv css ∧ css.length = ps.length ∧ ps.length ≤ 12 ∧ (∀ rs ∈ css, rs.length ≤ 60 ∧ ∀ p ∈ rs, p.1 ≤ p.2) ∧ 1 ≤ sz ∧ sz ≤ 10 ^ 50 ∧ TellS (TouchP sz ps css ps.length) 720 H Q
theorem for_zip3 {K : PySem.W.Frag} {a b c3 : Addr} {xs ys zs : List V} {g : TG} {tb : TS} {D : Ends} {σ : L2.St} {H1 : Hp} (ha : H1 a = some (.lst xs)) (hb : SqH H1 b ys) (hc : H1 c3 = some (.lst zs)) (h1 : ys.length = xs.length) (h2 : zs.length = xs.length) (Pv : Nat → L2.St → Hp → Prop) (h0 : Pv 0 σ H1)
    (hs : ∀ i σ H', Pv i σ H' → (∀ {o}, H1 a = some o → H' a = some o) ∧ (∀ {o}, H1 b = some o → H' b = some o) ∧ (∀ {o}, H1 c3 = some o → H' c3 = some o))
    (turn : ∀ i x y z T σ H, xs[i]? = some x → ys[i]? = some y → zs[i]? = some z → Pv i σ H → H T = none → g (.ref T) σ (upd H T (.tup [x, y, z])) fun σ2 H2 => tb { D with nx := Pv (i + 1), ct := Pv (i + 1), bk := D.nx } σ2 H2) (fin : ∀ σ H, Pv xs.length σ H → D.nx σ H) :
    ((SqL K H1 a xs ∧ SqL K H1 b ys ∧ SqL K H1 c3 zs ∧ ForR (Itz3L K a b c3) g tb D σ H1) ∨ (SqL K H1 a xs ∧ SqT K H1 b ys ∧ SqL K H1 c3 zs ∧ ForR (Itz3T K a b c3) g tb D σ H1)) := by
  have tn : ∀ i v σ H H', i < xs.length → Pv i σ H → Y3 xs ys zs i H v H' → g v σ H' fun σ2 H2 => tb { D with nx := Pv (i + 1), ct := Pv (i + 1), bk := D.nx } σ2 H2 := by
    rintro i v σ H H' _ hp ⟨T, x, y, z, rfl, nT, rfl, e1, e2, e3⟩
    exact turn i x y z T σ H e1 e2 e3 hp nT
  rcases hb with h | h
  · exact .inl ⟨SqL.of ha, SqL.of h, SqL.of hc, for_it (walk_zip3L h1 h2) Pv h0 (fun i σ H' _ p => ⟨SqL.of ((hs i σ H' p).1 ha), SqL.of ((hs i σ H' p).2.1 h), SqL.of ((hs i σ H' p).2.2 hc)⟩) tn fin⟩
  · exact .inr ⟨SqL.of ha, .inl (.inl h), SqL.of hc, for_it (walk_zip3T h1 h2) Pv h0 (fun i σ H' _ p => ⟨SqL.of ((hs i σ H' p).1 ha), .inl (.inl ((hs i σ H' p).2.1 h)), SqL.of ((hs i σ H' p).2.2 hc)⟩) tn fin⟩
def TouW (H2 : Hp) (b ch l : Addr) (sz : Int) (ps : List Part) (css : List Prs2) (i : Nat) (σ : L2.St) (Hx : Hp) : Prop := ∃ (ws : List V) (qs : Prs2) (y4 y5 y6 y7 : Option V), σ = [some (.ref b), some (.ref ch), some (.int sz), some (.ref l), y4, y5, y6, y7, none, none] ∧ (∀ c o, c ≠ l → H2 c = some o → Hx c = some o) ∧ Hx l = some (.lst ws) ∧ Prs Hx ws qs ∧ qs.length ≤ 60 * i ∧ ∀ c, InS qs c ↔ TouchP sz ps css i c
theorem TouchP.succ {sz : Int} {ps : List Part} {css : List Prs2} {i : Nat} {c : Int} {p : Part} {rs : Prs2} (e1 : ps[i]? = some p) (e2 : css[i]? = some rs) : TouchP sz ps css (i + 1) c ↔ TouchP sz ps css i c ∨ ∃ x, InS rs x ∧ (x + (cntF (ps.take i) - p.2.1)) / sz = c := by
  constructor
  · rintro ⟨j, q, us, hj, f1, f2, h⟩
    by_cases e : j = i
    · subst e
      rw [e1] at f1
      rw [e2] at f2
      cases f1
      cases f2
      exact .inr h
    · exact .inl ⟨j, q, us, by omega, f1, f2, h⟩
  · rintro (⟨j, q, us, hj, h⟩ | h)
    · exact ⟨j, q, us, by omega, h⟩
    · exact ⟨i, p, rs, Nat.lt_succ_self i, e1, e2, h⟩
section
variable {K : PySem.W.Frag} {mg : Str → Option Value} {P : Program} {w : World} {base : Heap}
theorem ok_touched {f : Addr} {fd : FuncData} (F : Fun K "cases_touched" "cases_touched" sTouched f fd) (CS : Cal P w K mg base 1 "spots_of" ["packing"] spSpots) (CO : Cal P w K mg base 1 "set_of" ["pairs"] (spSetOf K)) (mz : mg "zip" = none) : FnOk P w K mg base CX0 2 f fd ["packing", "chosen"] spTouched := by
  refine F.ok scTouched (fun vs H Q E h => ?_) (fun cdv A outer s H vs Q E hr h => ?_)
  · obtain ⟨b, ch, nm, sz, ps, cv, css, rfl, _⟩ := h
    rfl
  · obtain ⟨b, ch, nm, sz, ps, cv, css, rfl, hb, hch, hcv, hcl, hpl, hok, h1, h2, q⟩ := h
    refine ⟨_, pss_cons (ps_set (i := 2) scTouched.nd rfl (.inr rfl) (pe_ix ix_tup (pv 0) pe_int (fun _ _ => rfl)))
      (pss_cons (ps_set (i := 3) scTouched.nd rfl (.inl rfl) (pe_lst pa_nil))
      (pss_cons (ps_for PassesOwn.never rfl (pi_zip3 (by rfl) mz (pa_cons (pe_own CS hr (by rfl) (pa_cons (pv 0) pa_nil)) (pa_cons (pe_ix ix_tup (pv 0) pe_int (fun _ _ => rfl)) (pa_cons (pv 1) pa_nil)))) (pg_tup rfl (pgs_cons (pg_name (i := 4) scTouched.nd rfl (.inl rfl)) (pgs_cons (pg_name (i := 5) scTouched.nd rfl (.inl rfl)) (pgs_cons (pg_name (i := 6) scTouched.nd rfl (.inl rfl)) pgs_nil))))
        (pss_cons (ps_set (i := 7) scTouched.nd rfl (.inr rfl) (pe_op op_sub (pv 4) (pe_ix ix_tup (pv 5) pe_int (fun _ _ => rfl))))
        (pss_one (ps_expr (pe_bm PySem.F.plainAttrs_list PySem.F.slot_list_extend PySem.F.type_list_extend mt_extend (pv 3) (pa_cons (pe_lc (own := [("low", 8), ("high", 9)]) (g := gTup K 2 (gCons (gName 8) (gCons (gName 9) gNil))) (tt := tYes) (te := tTup (tCons (tOp (rI CDivW fun i j => .int (i / j)) (tOp (rI0 fun i j => .int (i + j)) (tVar 8) (tVar 7)) (tVar 2)) (tCons (tOp (rI CDivW fun i j => .int (i / j)) (tOp (rI0 fun i j => .int (i + j)) (tVar 9) (tVar 7)) (tVar 2)) tNil))) rfl scTouched.nd (pi_list (pv 6))
            (blkOk_by (own := [("low", 8), ("high", 9)]) (N := ["packing", "chosen", "size", "touched", "spot", "part", "some", "shift", "low", "high"]) (sc := defScope sTouched) (by decide +kernel)) (fun _ _ _ _ _ => pg_tup rfl (pgs_cons (pg_name (i := 8) scTouched.nd rfl (.inl rfl)) (pgs_cons (pg_name (i := 9) scTouched.nd rfl (.inl rfl)) pgs_nil))) (fun _ _ _ _ _ => pts_nil) (fun _ _ _ _ _ => pe_tup (pa_cons (pe_op op_fdivW (pe_op op_add (pv 8) (pv 7)) (pv 2)) (pa_cons (pe_op op_fdivW (pe_op op_add (pv 9) (pv 7)) (pv 2)) pa_nil)))) pa_nil))))))
      (pss_one (ps_ret (pe_own CO hr (by rfl) (pa_cons (pv 3) pa_nil)))))), ?_⟩
    obtain ⟨a, us, eb, ha, hus⟩ := id hb
    refine ⟨_, rfl, b, _, 1, .int sz, rfl, rfl, .inl (.inl eb), atI_nat (j := 1) rfl, ?_⟩
    refine ⟨Nat.zero_le _, fun l nl => ?_⟩
    have s1 := same_upd (o := .lst []) nl
    refine ⟨_, rfl, b, nm, sz, ps, rfl, hb.same s1, by omega, fun sl H2 nsl esl s2 => ?_⟩
    have s12 := s1.trans s2
    have el2 := s2 _ _ (upd_same (H := H) (a := l) (o := .lst []))
    have nsl' : sl ≠ l := fun e => by rw [e, upd_same] at nsl; cases nsl
    have nal : a ≠ l := fun e => by
      subst e
      rcases ha with h | h
      · rw [nl] at h; cases h
      · rw [nl] at h; cases h
    have nchl : ch ≠ l := ne_of_none hch nl
    refine ⟨_, rfl, b, _, 2, .ref a, rfl, rfl, .inl (.inl (s12 _ _ eb)), atI_nat (j := 2) rfl, _, rfl, sl, a, ch, (spotsF ps ps.length).map V.int, us, cv, rfl, ?_⟩
    have hll : ((spotsF ps ps.length).map V.int).length = ps.length := by unfold spotsF; rw [List.length_map, List.length_map, List.length_range]
    refine for_zip3 (xs := (spotsF ps ps.length).map V.int) (ys := us) (zs := cv) esl (ha.same s12) (s12 _ _ hch) (by rw [hll]; exact hus.1) (by rw [hll, hcv.1, hcl]) (TouW H2 b ch l sz ps css)
      ⟨[], [], _, _, _, _, rfl, (fun _ _ _ e => e), el2, Prs.nil, by decide, fun c => ⟨fun z => (inS_nil z).elim, fun ⟨j, _, _, hj, _⟩ => absurd hj (Nat.not_lt_zero j)⟩⟩ (fun i σ H' hP => ?_) (fun i x y z T σ Hx hx hy hz hP nT => ?_) (fun σ Hx hP => ?_)
    · obtain ⟨_, _, _, _, _, _, rfl, kx, _⟩ := hP
      exact ⟨fun {o} e => kx _ _ nsl' e, fun {o} e => kx _ _ nal e, fun {o} e => kx _ _ nchl e⟩
    · obtain ⟨ws, qs, y4, y5, y6, y7, rfl, kx, el, hws, hql, hin⟩ := hP
      have hxs : Same H Hx := fun c o e => kx _ _ (ne_of_none e nl) (s12 _ _ e)
      have sT := same_upd (o := .tup [x, y, z]) nT
      obtain ⟨p, ep, g, rfl, eg⟩ := Pts.at (Pts.same hus hxs) hy
      have hi : i < ps.length := (List.getElem?_eq_some_iff.mp ep).1
      have ecs : css[i]? = some css[i] := List.getElem?_eq_getElem (by omega)
      obtain ⟨g3, rfl, zs, eg3, hzs⟩ := (hcv.same hxs).2 i z _ hz ecs
      obtain ⟨hrl, hrr⟩ := hok _ (List.mem_of_getElem? ecs)
      have exs : x = .int (cntF (ps.take i)) := by
        unfold spotsF at hx
        rw [List.getElem?_map, List.getElem?_map, List.getElem?_range hi] at hx
        exact (Option.some.inj hx).symm
      subst exs
      refine ⟨T, _, rfl, .inl (.inl upd_same), rfl, _, _, rfl, _, _, rfl, _, _, rfl, rfl, ?_⟩
      refine ⟨_, rfl, _, rfl, g, _, 1, .int p.2.1, rfl, rfl, .inl (.inl (sT _ _ eg)), atI_nat (j := 1) rfl, cntF (ps.take i), p.2.1, rfl, rfl, ?_⟩
      have elT := sT _ _ el
      have eg3T := sT _ _ eg3
      have hzsT := hzs.same sT
      refine ⟨_, rfl, .inl ⟨rfl, _, SqL.of elT⟩, _, rfl, g3, rfl, ⟨_, SqL.of eg3T⟩, fun D nD => lc_list (xs := zs) (fun j H' => Same (upd Hx T (.tup [.int (cntF (ps.take i)), .ref g, .ref g3])) H' ∧ ∃ vs : List V, H' D = some (.lst vs) ∧ Prs H' vs ((css[i].take j).map (mapP sz (cntF (ps.take i) - p.2.1)))) ⟨same_upd nD, [], upd_same, Prs.nil⟩ (fun j H' _ hP => SqL.of (hP.1 _ _ eg3T)) (fun j v H' hv hP => ?_) (fun H4 hP => ?_)⟩
      · obtain ⟨sm, vs, eD, hvs⟩ := hP
        obtain ⟨pr, a5, epr, rfl, ea5⟩ := prs_at (hzsT.same sm) hv
        have et : css[i].take (j + 1) = css[i].take j ++ [pr] := by rw [List.take_add_one, epr]; rfl
        have hvl : vs.length ≤ 60 := by
          rw [hvs.1, List.length_map, List.length_take]
          omega
        refine ⟨a5, _, rfl, .inl (.inl ea5), rfl, _, _, rfl, _, _, rfl, rfl, rfl, ?_⟩
        refine ⟨_, rfl, _, rfl, pr.1, cntF (ps.take i) - p.2.1, rfl, rfl, _, rfl, _, sz, rfl, rfl, ⟨by omega, Nat.lt_trans (log_lt (by omega)) (by decide)⟩, _, rfl, _, rfl, pr.2, cntF (ps.take i) - p.2.1, rfl, rfl, _, rfl, _, sz, rfl, rfl, ⟨by omega, Nat.lt_trans (log_lt (by omega)) (by decide)⟩, (by show 2 ≤ sizeLine; decide), fun t nt => ?_⟩
        have st := same_upd (o := .tup [.int ((pr.1 + (cntF (ps.take i) - p.2.1)) / sz), .int ((pr.2 + (cntF (ps.take i) - p.2.1)) / sz)]) nt
        have eDt := st _ _ eD
        refine ⟨_, eDt, small1000 (by omega), fun c o e => ?_, vs ++ [.ref t], upd_same, ?_⟩
        · rw [upd_ne (ne_of_none e nD)]
          exact st _ _ (sm c o e)
        · rw [et, List.map_append]
          exact Prs.upd_lst ((hvs.same st).snoc upd_same) eDt
      · obtain ⟨sm, vs, eD, hvs⟩ := hP
        rw [hzs.1, List.take_length] at hvs
        have hvl : vs.length ≤ 60 := by rw [hvs.1, List.length_map]; exact hrl
        have hwl := hws.1
        refine ⟨l, D, ws, vs, rfl, rfl, sm _ _ elT, eD, Nat.le_trans (show ws.length + vs.length ≤ 1000 by omega) (by decide), ws ++ vs, qs ++ css[i].map (mapP sz (cntF (ps.take i) - p.2.1)), _, _, _, _, rfl, fun c o hc e => ?_, upd_same, ?_, by rw [List.length_append, List.length_map]; omega, fun c => ?_⟩
        · rw [upd_ne hc]
          exact sm _ _ (sT _ _ (kx c o hc e))
        · exact Prs.upd_lst (Prs.append ((hws.same sT).same sm) hvs) (sm _ _ elT)
        · rw [inS_append, hin c, inS_mapP h1 hrr, TouchP.succ ep ecs]
    · obtain ⟨ws, qs, y4, y5, y6, y7, rfl, kx, el, hws, hql, hin⟩ := hP
      rw [hll] at hql hin
      have sx : Same H Hx := fun c o e => kx _ _ (ne_of_none e nl) (s12 _ _ e)
      refine ⟨_, rfl, l, ws, qs, rfl, Sq.list el, hws, by omega, fun l5 w5 rs5 H5 nl5 e5 hrs hset s5 => ?_⟩
      exact q l5 rs5 H5 (sx.free nl5) ⟨_, e5, hrs⟩ (hset.told.cong hin) (by have := hset.len; omega) (sx.trans s5)
end

open G3
/-! ### marked tins -/
/-- a set where it stands, as a list or a tuple -/
def SpA (H : Hp) (c : Addr) (rs : Prs2) : Prop := ∃ us, SqH H c us ∧ Prs H us rs
theorem SpA.same {H H' : Hp} {c : Addr} {rs : Prs2} (h : SpA H c rs) (s : Same H H') : SpA H' c rs := let ⟨us, e, p⟩ := h; ⟨us, e.same s, p.same s⟩
theorem SpA.pr {K : PySem.W.Frag} {H : Hp} {c : Addr} {rs : Prs2} (h : SpA H c rs) : PrA K H c rs := let ⟨us, e, p⟩ := h; ⟨us, e.sq, p⟩
theorem LsA.sp {H : Hp} {c : Addr} {rs : Prs2} (h : LsA H c rs) : SpA H c rs := let ⟨us, e, p⟩ := h; ⟨us, .inl e, p⟩
theorem putK_len (kvs : List (Key × V)) (k : Key) (v : V) : (putK kvs k v).length ≤ kvs.length + 1 := by
  unfold putK
  split
  · rw [List.length_map]; exact Nat.le_succ _
  · rw [List.length_append]; exact Nat.le_refl _
abbrev Rows := List (Str × Prs2)
/-- rows of marks with their sets -/
def RowsA (H : Hp) (vs : List V) (rows : Rows) : Prop := vs.length = rows.length ∧ ∀ (i : Nat) v r, vs[i]? = some v → rows[i]? = some r → ∃ a c, v = .ref a ∧ H a = some (.tup [.str r.1, .ref c]) ∧ SpA H c r.2
theorem RowsA.same {H H' : Hp} {vs : List V} {rows : Rows} (h : RowsA H vs rows) (s : Same H H') : RowsA H' vs rows := ⟨h.1, fun i v r e1 e2 => let ⟨a, c, e, f, g⟩ := h.2 i v r e1 e2; ⟨a, c, e, s _ _ f, g.same s⟩⟩
theorem RowsA.at {H : Hp} {vs : List V} {rows : Rows} {i : Nat} {v : V} (h : RowsA H vs rows) (e : vs[i]? = some v) : ∃ r a c, rows[i]? = some r ∧ v = .ref a ∧ H a = some (.tup [.str r.1, .ref c]) ∧ SpA H c r.2 := by
  have hi : i < rows.length := by rw [← h.1]; exact (List.getElem?_eq_some_iff.mp e).1
  obtain ⟨a, c, f⟩ := h.2 i v _ e (List.getElem?_eq_getElem hi)
  exact ⟨_, a, c, List.getElem?_eq_getElem hi, f⟩
def GoodR (rows : Rows) : Prop := (rows.map (·.1)).Nodup ∧ rows.length ≤ 12 ∧ ∀ r ∈ rows, Ris 0 r.2 ∧ r.2.length ≤ 30
/-- the tin x of the mark m is among them -/
def InM (rows : Rows) (m : Str) (x : Int) : Prop := ∃ rs, (m, rs) ∈ rows ∧ InS rs x
/-- the set of a mark -/
def setM (rows : Rows) (m : Str) : Prs2 := ((rows.find? fun r => decide (r.1 = m)).map (·.2)).getD []
theorem setM_in {rows : Rows} (h : (rows.map (·.1)).Nodup) (m : Str) (x : Int) : InS (setM rows m) x ↔ InM rows m x := by
  unfold setM InM
  cases e : rows.find? fun r => decide (r.1 = m) with
  | none =>
    refine ⟨fun z => (inS_nil z).elim, fun ⟨rs, hr, _⟩ => ?_⟩
    have := List.find?_eq_none.mp e _ hr
    exact absurd (decide_eq_true rfl) this
  | some r =>
    have hm : r.1 = m := of_decide_eq_true (List.find?_some (p := fun r : Str × Prs2 => decide (r.1 = m)) e)
    have hr := List.mem_of_find?_eq_some e
    refine ⟨fun z => ⟨r.2, hm ▸ hr, z⟩, fun ⟨rs, hrs, z⟩ => ?_⟩
    have eq : r = (m, rs) := by
      obtain ⟨i, hi, ei⟩ := List.getElem_of_mem hr
      obtain ⟨j, hj, ej⟩ := List.getElem_of_mem hrs
      have : i = j := (List.getElem_inj (h₀ := by rw [List.length_map]; exact hi) (h₁ := by rw [List.length_map]; exact hj) h).mp (by rw [List.getElem_map, List.getElem_map, ei, ej]; exact hm)
      subst this
      rw [← ei, ← ej]
    rw [eq]
    exact z
theorem setM_ok {rows : Rows} (g : GoodR rows) (m : Str) : Ris 0 (setM rows m) ∧ (setM rows m).length ≤ 30 := by
  unfold setM
  cases e : rows.find? fun r => decide (r.1 = m) with
  | none => exact ⟨True.intro, by decide⟩
  | some r => exact g.2.2 r (List.mem_of_find?_eq_some e)
/-- the dict of the first so many rows -/
def DicA (H : Hp) (kvs : List (Key × V)) (rows : Rows) (n : Nat) : Prop := (∀ i r, i < n → rows[i]? = some r → ∃ c, valV kvs (.inr r.1) = some (.ref c) ∧ SpA H c r.2) ∧ ∀ m, (∀ i r, i < n → rows[i]? = some r → r.1 ≠ m) → valV kvs (.inr m) = none
theorem DicA.same {H H' : Hp} {kvs : List (Key × V)} {rows : Rows} {n : Nat} (h : DicA H kvs rows n) (s : Same H H') : DicA H' kvs rows n := ⟨fun i r hi e => let ⟨c, f, g⟩ := h.1 i r hi e; ⟨c, f, g.same s⟩, h.2⟩
theorem SpA.upd_dK {H : Hp} {D c : Addr} {rs : Prs2} {ks : List (Key × V)} {o : HO} (h : SpA H c rs) (e : H D = some (.dK ks)) : SpA (upd H D o) c rs := by
  obtain ⟨us, h1, h2⟩ := h
  refine ⟨us, h1.imp (fun f => by rw [upd_ne (ne_of f e (fun z => nomatch z))]; exact f) (fun f => by rw [upd_ne (ne_of f e (fun z => nomatch z))]; exact f), h2.1, fun i p ep => ?_⟩
  obtain ⟨a, f1, f2⟩ := h2.2 i p ep
  exact ⟨a, f1, by rw [upd_ne (ne_of f2 e (fun z => nomatch z))]; exact f2⟩
theorem row_ne {rows : Rows} (nd : (rows.map (·.1)).Nodup) {i j : Nat} {r q : Str × Prs2} (e1 : rows[i]? = some r) (e2 : rows[j]? = some q) (h : i ≠ j) : r.1 ≠ q.1 := fun z => by
  obtain ⟨hi, ei⟩ := List.getElem?_eq_some_iff.mp e1
  obtain ⟨hj, ej⟩ := List.getElem?_eq_some_iff.mp e2
  exact h ((List.getElem_inj (h₀ := by rw [List.length_map]; exact hi) (h₁ := by rw [List.length_map]; exact hj) nd).mp (by rw [List.getElem_map, List.getElem_map, ei, ej]; exact z))
theorem DicA.put {H : Hp} {D : Addr} {kvs : List (Key × V)} {rows : Rows} {n : Nat} {r : Str × Prs2} {c : Addr} (h : DicA H kvs rows n) (nd : (rows.map (·.1)).Nodup) (er : rows[n]? = some r) (hD : H D = some (.dK kvs)) (hc : SpA H c r.2) : DicA (upd H D (.dK (putK kvs (.inr r.1) (.ref c)))) (putK kvs (.inr r.1) (.ref c)) rows (n + 1) := by
  refine ⟨fun i q hi e => ?_, fun m hm => ?_⟩
  · rw [valV_put]
    by_cases e0 : i = n
    · subst e0
      rw [er] at e
      cases e
      rw [if_pos rfl]
      exact ⟨c, rfl, hc.upd_dK hD⟩
    · have ne := row_ne nd e er e0
      rw [if_neg (fun z => ne (Sum.inr.inj z))]
      obtain ⟨c', f, g⟩ := h.1 i q (by omega) e
      exact ⟨c', f, g.upd_dK hD⟩
  · rw [valV_put, if_neg (fun z => hm n r (Nat.lt_succ_self n) er (Sum.inr.inj z).symm)]
    exact h.2 m fun i q hi e => hm i q (by omega) e
/-- what get tells: the set of the mark, or nothing -/
theorem DicA.get {H : Hp} {kvs : List (Key × V)} {rows : Rows} (h : DicA H kvs rows rows.length) (nd : (rows.map (·.1)).Nodup) (m : Str) {z : Addr} (hz : SpA H z []) : ∃ c, (valV kvs (.inr m)).getD (.ref z) = .ref c ∧ SpA H c (setM rows m) := by
  unfold setM
  cases e : rows.find? fun r => decide (r.1 = m) with
  | none =>
    refine ⟨z, ?_, hz⟩
    rw [h.2 m fun i r hi er e' => List.find?_eq_none.mp e r (List.mem_of_getElem? er) (decide_eq_true e')]
    rfl
  | some r =>
    have hm : r.1 = m := of_decide_eq_true (List.find?_some (p := fun r : Str × Prs2 => decide (r.1 = m)) e)
    obtain ⟨i, hi, ei⟩ := List.getElem_of_mem (List.mem_of_find?_eq_some e)
    obtain ⟨c, f, g⟩ := h.1 i r hi (by rw [List.getElem?_eq_getElem hi, ei])
    rw [← hm, f]
    exact ⟨c, rfl, g⟩
abbrev DcR (J : It) (g : TG) (tt : TT) (tk tv : TE) (vs : List Nat) (σ : L2.St) (D : Addr) (Qd : Hp → Prop) (H1 : Hp) : Prop := ∃ W : Nat → Nat → Hp → Prop, (∃ m, W 0 m (upd H1 D (.dK []))) ∧ ∀ i m H, W i m H →
  (J.stop i H ∧ Qd H) ∨ (J.go i H ∧ ∃ Nx : Hp → Prop, (∀ H', Nx H' → ∃ m', m' < m ∧ W (i + 1) m' H') ∧ ∀ x H', J.yld i H x H' → g x (wipe σ vs) H' fun σ2 H2 => wipe σ2 vs = wipe σ vs ∧ tt σ2 H2 fun b H3 =>
    if b = true then tk σ2 H3 fun y H4 => tv σ2 H4 fun z H5 => ∃ kvs k, y = kV k ∧ H5 D = some (.dK kvs) ∧ kvs.length < sizeLine ∧ Nx (upd H5 D (.dK (putK kvs k z))) else Nx H3)
/-- a dict comprehension over a list that stays -/
theorem dc_list {K : PySem.W.Frag} {a : Addr} {xs : List V} {g : TG} {tt : TT} {tk tv : TE} {vs : List Nat} {σ : L2.St} {H1 : Hp} {D : Addr} {Qd : Hp → Prop} (Pv : Nat → Hp → Prop) (h0 : Pv 0 (upd H1 D (.dK []))) (hl : ∀ i H, i ≤ xs.length → Pv i H → SqL K H a xs)
    (turn : ∀ i x H, xs[i]? = some x → Pv i H → g x (wipe σ vs) H fun σ2 H2 => wipe σ2 vs = wipe σ vs ∧ tt σ2 H2 fun b H3 =>
      if b = true then tk σ2 H3 fun y H4 => tv σ2 H4 fun z H5 => ∃ kvs k, y = kV k ∧ H5 D = some (.dK kvs) ∧ kvs.length < sizeLine ∧ Pv (i + 1) (upd H5 D (.dK (putK kvs k z))) else Pv (i + 1) H3) (fin : ∀ H, Pv xs.length H → Qd H) : DcR (Itl K a) g tt tk tv vs σ D Qd H1 := by
  refine ⟨fun i m H => m + i = xs.length ∧ Pv i H, ⟨xs.length, rfl, h0⟩, fun i m H ⟨e, p⟩ => ?_⟩
  have sq := hl i H (by omega) p
  rcases Nat.lt_or_ge i xs.length with lt | ge
  · exact .inr ⟨⟨xs, xs[i], sq, List.getElem?_eq_getElem lt⟩, Pv (i + 1), fun H' p' => ⟨m - 1, by omega, by omega, p'⟩, fun x H' ⟨e', y⟩ => by subst e'; exact turn i x _ (y xs sq) p⟩
  · obtain rfl : i = xs.length := by omega
    exact .inl ⟨⟨xs, sq, Nat.le_refl _⟩, fin H p⟩
theorem dc_seq {K : PySem.W.Frag} {a : Addr} {xs : List V} {g : TG} {tt : TT} {tk tv : TE} {vs : List Nat} {σ : L2.St} {H1 : Hp} {Qd : Addr → Hp → Prop} (hq : SqH H1 a xs) (Pv : Addr → Nat → Hp → Prop) (h0 : ∀ D, H1 D = none → Pv D 0 (upd H1 D (.dK []))) (still : ∀ D i H', H1 D = none → Pv D i H' → ∀ o, H1 a = some o → H' a = some o)
    (turn : ∀ D i x H, H1 D = none → xs[i]? = some x → Pv D i H → g x (wipe σ vs) H fun σ2 H2 => wipe σ2 vs = wipe σ vs ∧ tt σ2 H2 fun b H3 =>
      if b = true then tk σ2 H3 fun y H4 => tv σ2 H4 fun z H5 => ∃ kvs k, y = kV k ∧ H5 D = some (.dK kvs) ∧ kvs.length < sizeLine ∧ Pv D (i + 1) (upd H5 D (.dK (putK kvs k z))) else Pv D (i + 1) H3) (fin : ∀ D H, H1 D = none → Pv D xs.length H → Qd D H) :
    ((∃ xs, SqL K H1 a xs) ∧ ∀ D, H1 D = none → DcR (Itl K a) g tt tk tv vs σ D (Qd D) H1) ∨ ((∃ xs, SqT K H1 a xs) ∧ ∀ D, H1 D = none → DcR (Itt K a) g tt tk tv vs σ D (Qd D) H1) := by
  rcases hq with h | h
  · exact .inl ⟨⟨xs, SqL.of h⟩, fun D nD => dc_list (xs := xs) (Pv D) (h0 D nD) (fun i H' _ p => SqL.of (still D i H' nD p _ h)) (fun i x H' e p => turn D i x H' nD e p) (fun H' p => fin D H' nD p)⟩
  · exact .inr ⟨⟨xs, .inl (.inl h)⟩, fun D nD => dc_tup (xs := xs) (Pv D) (h0 D nD) (fun i H' _ p => .inl (.inl (still D i H' nD p _ h))) (fun i x H' e p => turn D i x H' nD e p) (fun H' p => fin D H' nD p)⟩
theorem ris_le : ∀ {lo : Int} {rs : Prs2}, Ris lo rs → ∀ p ∈ rs, p.1 ≤ p.2
  | _, [], _, _, h => nomatch h
  | _, q :: r, g, p, h => by
    rcases List.mem_cons.mp h with e | e
    · rw [e]; exact g.2.1
    · exact ris_le g.2.2 p e
theorem LsA.upd {H : Hp} {D a : Addr} {rs : Prs2} {xs : List V} {o : HO} (h : LsA H a rs) (n : a ≠ D) (e : H D = some (.lst xs)) : LsA (upd H D o) a rs := let ⟨us, f, p⟩ := h; ⟨us, by rw [upd_ne n]; exact f, p.upd_lst e⟩
/-- chosen as this holds -/
def Chosen (ps : List Part) (css : List Prs2) (pr : Str → Int → Prop) : Prop := ∀ (i : Nat) (p : Part) (rs : Prs2), ps[i]? = some p → css[i]? = some rs → Told (fun x => (p.2.1 ≤ x ∧ x ≤ p.2.2) ∧ pr p.1 x) rs
/-- what is chosen so far, in the list D -/
def ChW (H2 : Hp) (ps : List Part) (pr : Str → Int → Prop) (D : Addr) (j : Nat) (H' : Hp) : Prop := Same H2 H' ∧ ∃ (vs : List V) (css : List Prs2), H' D = some (.lst vs) ∧ ChA H' vs css ∧ (∀ v ∈ vs, v ≠ .ref D) ∧ css.length = j ∧ (∀ rs ∈ css, rs.length ≤ 60 ∧ ∀ p ∈ rs, p.1 ≤ p.2) ∧ Chosen ps css pr
theorem ChW.snoc {H2 H' H4 : Hp} {ps : List Part} {pr : Str → Int → Prop} {D l : Addr} {j : Nat} {p : Part} {rs : Prs2} (h : ChW H2 ps pr D j H') (nD : H2 D = none) (s : Same H' H4) (nl : H' l = none) (hl : LsA H4 l rs) (ep : ps[j]? = some p) (t : Told (fun x => (p.2.1 ≤ x ∧ x ≤ p.2.2) ∧ pr p.1 x) rs) (hz : rs.length ≤ 60) (hj : j ≤ 900) :
    ∃ acc, H4 D = some (.lst acc) ∧ acc.length < sizeLine ∧ ChW H2 ps pr D (j + 1) (upd H4 D (.lst (acc ++ [.ref l]))) := by
  obtain ⟨sm, vs, css, eD, hch, hne, hcl, hok, hcs⟩ := h
  have eD4 := s _ _ eD
  have nlD : l ≠ D := fun z => by rw [z, eD] at nl; cases nl
  have hvl : vs.length = j := by rw [hch.1, hcl]
  refine ⟨vs, eD4, small1000 (by omega), fun c o e => ?_, vs ++ [.ref l], css ++ [rs], upd_same, ?_, fun v hv => ?_, by rw [List.length_append, hcl]; rfl, fun qs hq => ?_, fun i q us e1 e2 => ?_⟩
  · rw [upd_ne (ne_of_none e nD)]
    exact s _ _ (sm c o e)
  · refine ChA.snoc ⟨hch.1, fun i v qs e1 e2 => ?_⟩ (hl.upd nlD eD4)
    obtain ⟨a, rfl, la⟩ := hch.2 i v qs e1 e2
    exact ⟨a, rfl, (la.same s).upd (fun z => hne _ (List.mem_of_getElem? e1) (by rw [z])) eD4⟩
  · rcases List.mem_append.mp hv with z | z
    · exact hne v z
    · rw [List.mem_singleton.mp z]
      exact fun e => nlD (V.ref.inj e)
  · rcases List.mem_append.mp hq with z | z
    · exact hok qs z
    · rw [List.mem_singleton.mp z]
      exact ⟨hz, let ⟨_, r⟩ := t.ris; ris_le r⟩
  · rcases Nat.lt_or_ge i css.length with lt | ge
    · rw [List.getElem?_append_left lt] at e2
      exact hcs i q us e1 e2
    · rw [List.getElem?_append_right ge] at e2
      have hi : i - css.length < 1 := (List.getElem?_eq_some_iff.mp e2).1
      have ei : i = j := by omega
      subst ei
      rw [hcl, Nat.sub_self] at e2
      rw [ep] at e1
      cases e1
      cases e2
      exact t
abbrev sWith : Stmt := topS 10
theorem scWith : FnScope ["packing", "marked", "sets", "chosen", "mark", "some", "first", "last"] ["packing", "marked"] (defScope sWith) := ⟨rfl, rfl, rfl, by decide +kernel, rfl, by decide +kernel, by decide +kernel⟩
/-- the case of a tin of which this holds -/
def WithP (sz : Int) (ps : List Part) (pr : Str → Int → Prop) (c : Int) : Prop := ∃ (i : Nat) (p : Part), ps[i]? = some p ∧ ∃ x, p.2.1 ≤ x ∧ x ≤ p.2.2 ∧ pr p.1 x ∧ (x + (cntF (ps.take i) - p.2.1)) / sz = c
theorem touch_with {sz : Int} {ps : List Part} {css : List Prs2} {pr : Str → Int → Prop} (h : Chosen ps css pr) (hl : css.length = ps.length) (c : Int) : TouchP sz ps css ps.length c ↔ WithP sz ps pr c := by
  constructor
  · rintro ⟨i, p, rs, hi, e1, e2, x, hx, e⟩
    have ⟨⟨a1, a2⟩, a3⟩ := ((h i p rs e1 e2).same x).mp hx
    exact ⟨i, p, e1, x, a1, a2, a3, e⟩
  · rintro ⟨i, p, e1, x, a1, a2, a3, e⟩
    have hi : i < ps.length := (List.getElem?_eq_some_iff.mp e1).1
    have e2 : css[i]? = some css[i] := List.getElem?_eq_getElem (by omega)
    exact ⟨i, p, _, hi, e1, e2, x, ((h i p _ e1 e2).same x).mpr ⟨⟨a1, a2⟩, a3⟩, e⟩
def spWith : Sp := fun vs H Q _ => ∃ (b a : Addr) (nm : Str) (sz : Int) (ps : List Part) (mv : List V) (rows : Rows), vs = [.ref b, .ref a] ∧ PkA H b nm sz ps ∧ SqH H a mv ∧ RowsA H mv rows ∧ GoodR rows ∧ ps.length ≤ 12 ∧ (∀ p ∈ ps, p.2.1 ≤ p.2.2) ∧ 1 ≤ sz ∧ sz ≤ 10 ^ 50 ∧ TellS (WithP sz ps (InM rows)) 720 H Q
section
variable {K : PySem.W.Frag} {mg : Str → Option Value} {P : Program} {w : World} {base : Heap}
theorem ok_with {f : Addr} {fd : FuncData} (F : Fun K "cases_with" "cases_with" sWith f fd) (CB : Cal P w K mg base 1 "both_of" ["one", "other"] (spBoth K)) (CT : Cal P w K mg base 2 "cases_touched" ["packing", "chosen"] spTouched) : FnOk P w K mg base CX0 3 f fd ["packing", "marked"] spWith := by
  refine F.ok scWith (fun vs H Q E h => ?_) (fun cdv A outer s H vs Q E hr h => ?_)
  · obtain ⟨b, a, nm, sz, ps, mv, rows, rfl, _⟩ := h
    rfl
  · obtain ⟨b, a, nm, sz, ps, mv, rows, rfl, hb, ha, hmv, hg, hpl, hle, h1, h2, q⟩ := h
    have hr1 := hr.mono (show 1 ≤ 2 by decide)
    refine ⟨_, pss_cons (ps_set (i := 2) scWith.nd rfl (.inr rfl) (pe_dc (own := [("mark", 4), ("some", 5)]) (g := gTup K 2 (gCons (gName 4) (gCons (gName 5) gNil))) (tt := tYes) (tk := tVar 4) (tv := tVar 5) rfl scWith.nd (pi_seq (pv 1))
            (blkOk_by (own := [("mark", 4), ("some", 5)]) (N := ["packing", "marked", "sets", "chosen", "mark", "some", "first", "last"]) (sc := defScope sWith) (by decide +kernel)) (fun _ _ _ _ _ => pg_tup rfl (pgs_cons (pg_name (i := 4) scWith.nd rfl (.inl rfl)) (pgs_cons (pg_name (i := 5) scWith.nd rfl (.inl rfl)) pgs_nil))) (fun _ _ _ _ _ => pts_nil) (fun _ _ _ _ _ => pv 4) (fun _ _ _ _ _ => pv 5)))
      (pss_cons (ps_setLc (i := 3) (own := [("mark", 4), ("first", 6), ("last", 7)]) (g := gTup K 3 (gCons (gName 4) (gCons (gName 6) (gCons (gName 7) gNil)))) (tt := tYes) (te := tCall (spBoth K) [] E0 (tCons (tLst (tCons (tTup (tCons (tVar 6) (tCons (tVar 7) tNil))) tNil)) (tCons (tDGet2 (tVar 2) (tVar 4) (tLst tNil)) tNil))) rfl scWith.nd rfl rfl rfl (pi_seq (pe_ix ix_tup (pv 0) pe_int (fun _ _ => rfl)))
            (blkOk_by (own := [("mark", 4), ("first", 6), ("last", 7)]) (N := ["packing", "marked", "sets", "chosen", "mark", "some", "first", "last"]) (sc := defScope sWith) (by decide +kernel)) (fun _ _ _ _ _ => pg_tup rfl (pgs_cons (pg_name (i := 4) scWith.nd rfl (.inl rfl)) (pgs_cons (pg_name (i := 6) scWith.nd rfl (.inl rfl)) (pgs_cons (pg_name (i := 7) scWith.nd rfl (.inl rfl)) pgs_nil)))) (fun _ _ _ _ _ => pts_nil) (fun _ _ _ _ _ => pe_own CB hr1 (by rfl) (pa_cons (pe_lst (pa_cons (pe_tup (pa_cons (pv 6) (pa_cons (pv 7) pa_nil))) pa_nil)) (pa_cons (pe_dget2 (Nat.lt_of_le_of_lt (Nat.add_le_add_left (show 1 ≤ 64 by decide) _) hr.units) (pv 2) (pv 4) (pe_lst pa_nil) ⟨rfl, rfl, rfl, rfl⟩) pa_nil))))
      (pss_one (ps_ret (pe_own CT hr (by rfl) (pa_cons (pv 0) (pa_cons (pv 3) pa_nil)))))), ?_⟩
    obtain ⟨a2, us, eb, ha2, hus⟩ := id hb
    refine ⟨_, rfl, a, rfl, dc_seq ha (fun D j H' => Same H H' ∧ ∃ kvs, H' D = some (.dK kvs) ∧ kvs.length ≤ j ∧ DicA H' kvs rows j) (fun D nD => ⟨same_upd nD, [], upd_same, Nat.le_refl _, (fun _ _ z => absurd z (Nat.not_lt_zero _)), fun _ _ => rfl⟩) (fun D i H' nD hP o e => hP.1 _ _ e) (fun D i x H' nD hx hP => ?_) (fun D H2 nD hP => ?_)⟩
    · obtain ⟨sm, kvs, eD, hkl, hdic⟩ := hP
      obtain ⟨r, g, c, er, rfl, eg, hc⟩ := (hmv.same sm).at hx
      have hi : i < rows.length := (List.getElem?_eq_some_iff.mp er).1
      have h12 := hg.2.1
      refine ⟨g, _, rfl, .inl (.inl eg), rfl, _, _, rfl, _, _, rfl, rfl, rfl, _, rfl, _, rfl, kvs, .inr r.1, rfl, eD, small1000 (by omega), fun b o e => ?_, _, upd_same, ?_, hdic.put hg.1 er eD hc⟩
      · rw [upd_ne (ne_of_none e nD)]
        exact sm b o e
      · have := putK_len kvs (.inr r.1) (.ref c)
        omega
    obtain ⟨s2, kvs, eD2, _, hdic⟩ := hP
    rw [hmv.1] at hdic
    -- chosen
    refine ⟨_, rfl, b, _, 2, .ref a2, rfl, rfl, .inl (.inl (s2 _ _ eb)), atI_nat (j := 2) rfl, a2, rfl, lc_seq (xs := us) (ha2.same s2).sq (ChW H2 ps (InM rows)) (fun D3 nD3 => ⟨same_upd nD3, [], [], upd_same, ChA.nil, (fun _ z => nomatch z), rfl, (fun _ z => nomatch z), (by intro i p rs e1 e2; cases e2)⟩) (fun D3 i H' nD3 hP => SqTo.same hP.1) (fun D3 i x H' nD3 hx hP => ?_) (fun D3 H3 nD3 hP => ?_)⟩
    · have sm := hP.1
      obtain ⟨p, ep, g, rfl, eg⟩ := Pts.at (Pts.same hus (s2.trans sm)) hx
      have hi : i < ps.length := (List.getElem?_eq_some_iff.mp ep).1
      have hple := hle p (List.mem_of_getElem? ep)
      refine ⟨g, _, rfl, .inl (.inl eg), rfl, _, _, rfl, _, _, rfl, _, _, rfl, rfl, rfl, ?_⟩
      refine ⟨_, rfl, _, rfl, (by show 2 ≤ sizeLine; decide), fun t nt => ⟨(by show 1 ≤ sizeLine; decide), fun l1 nl1 => ?_⟩⟩
      have st := same_upd (o := .tup [.int p.2.1, .int p.2.2]) nt
      have sl := same_upd (o := .lst [.ref t]) nl1
      have S1 := st.trans sl
      have et := sl _ _ (upd_same (H := H') (a := t) (o := .tup [.int p.2.1, .int p.2.2]))
      have el1 := upd_same (H := upd H' t (.tup [.int p.2.1, .int p.2.2])) (a := l1) (o := .lst [.ref t])
      have eD4 := S1 _ _ (sm _ _ eD2)
      have hd4 := (hdic.same sm).same S1
      refine ⟨_, rfl, D, rfl, .inl ⟨kvs, Rd.of eD4⟩, _, rfl, Nat.zero_le _, fun z nz => ?_⟩
      have sz' := same_upd (o := .lst []) nz
      obtain ⟨c, ec, hc⟩ := (hd4.same sz').get hg.1 p.1 (z := z) ⟨[], .inl upd_same, Prs.nil⟩
      refine ⟨valV kvs (.inr p.1), .inl ⟨kvs, .inr p.1, Rd.of (sz' _ _ eD4), rfl, rfl⟩, ?_⟩
      rw [ec]
      have hone : PrA K (upd (upd (upd H' t (.tup [.int p.2.1, .int p.2.2])) l1 (.lst [.ref t])) z (.lst [])) l1 [p.2] := ⟨_, Sq.list (sz' _ _ el1), rfl, fun i q e => by
        have hi0 : i < 1 := (List.getElem?_eq_some_iff.mp e).1
        obtain rfl : i = 0 := by omega
        cases e
        exact ⟨t, rfl, sz' _ _ et⟩⟩
      have ok := setM_ok hg p.1
      refine ⟨l1, c, [p.2], setM rows p.1, rfl, hone, hc.pr, ⟨p.2.1, Int.le_refl _, hple, True.intro⟩, ⟨0, ok.1⟩, (by show 1 + _ ≤ _; omega), fun l5 rs5 H5 nl5 hl5 told5 len5 s5 => ?_⟩
      have S5 := (S1.trans sz').trans s5
      refine ChW.snoc hP nD3 S5 ((S1.trans sz').free nl5) hl5 ep (told5.cong fun n => ?_) (Nat.le_trans len5 (by show 1 + _ ≤ _; omega)) (by omega)
      rw [setM_in hg.1]
      refine and_congr ⟨fun ⟨q, hq, e⟩ => ?_, fun e => ⟨p.2, List.mem_singleton.mpr rfl, e⟩⟩ Iff.rfl
      rw [List.mem_singleton.mp hq] at e
      exact e
    · obtain ⟨s3, vs, css, eD3, hch, _, hcl, hok, hcs⟩ := hP
      rw [hus.1] at hcl
      have S3 := s2.trans s3
      refine ⟨_, rfl, _, rfl, b, D3, nm, sz, ps, vs, css, rfl, hb.same S3, eD3, hch, hcl, hpl, hok, h1, h2, fun l rs H' nl hl told len s => ?_⟩
      exact q l rs H' (S3.free nl) hl (told.cong fun c => touch_with hcs hcl c) len (S3.trans s)
end

/-- all stands but the tables, which stay tables -/
structure Kt (H H' : Hp) : Prop where
  keep : ∀ b o, (∀ q, o ≠ .tbl q) → H b = some o → H' b = some o
  tab : ∀ P, GxR.TabG H P → GxR.TabG H' P
theorem Kt.refl (H : Hp) : Kt H H := ⟨fun _ _ _ e => e, fun _ g => g⟩
theorem Kt.same {H H' : Hp} (s : Same H H') : Kt H H' := ⟨fun b o _ e => s b o e, fun _ g => tabG_same g s⟩
theorem Kt.tabbed {H H' : Hp} {P : Addr} (g : GxR.TabG H P) (x : GxR.Tabbed P H H') : Kt H H' := ⟨fun _ _ h e => tab_at g x e h, fun _ g' => tabG_tabbed g' x⟩
theorem Kt.trans {H H1 H2 : Hp} (a : Kt H H1) (b : Kt H1 H2) : Kt H H2 := ⟨fun x o h e => b.keep x o h (a.keep x o h e), fun P g => b.tab P (a.tab P g)⟩
theorem _root_.GP.Prs.kt {H H' : Hp} {vs : List V} {ps : List (Int × Int)} (h : Prs H vs ps) (k : Kt H H') : Prs H' vs ps := ⟨h.1, fun i p e => let ⟨a, e1, e2⟩ := h.2 i p e; ⟨a, e1, k.keep _ _ (fun _ z => nomatch z) e2⟩⟩
theorem LsA.kt {H H' : Hp} {a : Addr} {ps : List (Int × Int)} (h : LsA H a ps) (k : Kt H H') : LsA H' a ps := let ⟨us, e, p⟩ := h; ⟨us, k.keep _ _ (fun _ z => nomatch z) e, p.kt k⟩
theorem StAt.kt {H H' : Hp} {d c : Addr} {t : Int} (S : StAt H d c t) (k : Kt H H') : StAt H' d c t := ⟨k.keep _ _ (fun _ z => nomatch z) S.dict, let ⟨cs, e, r⟩ := S.cells; ⟨cs, k.keep _ _ (fun _ z => nomatch z) e, r⟩, S.pos⟩

open G3
/-! ### cases all of whose tins are marked -/
def casesF (sz : Int) (ps : List Part) : Int := (cntF ps + sz - 1) / sz
def NotM (rows : Rows) (m : Str) (x : Int) : Prop := ¬ InM rows m x
def AllP (sz : Int) (ps : List Part) (rows : Rows) (c : Int) : Prop := (0 ≤ c ∧ c ≤ casesF sz ps - 1) ∧ ¬ WithP sz ps (NotM rows) c
theorem ChA.kt {H H' : Hp} {vs : List V} {css : List Prs2} (h : ChA H vs css) (k : Kt H H') : ChA H' vs css := ⟨h.1, fun i v rs e1 e2 => let ⟨a, e, l⟩ := h.2 i v rs e1 e2; ⟨a, e, l.kt k⟩⟩
abbrev sAll : Stmt := topS 11
theorem scAll : FnScope ["packing", "marked", "sets", "unmarked", "every", "mark", "some", "first", "last"] ["packing", "marked"] (defScope sAll) := ⟨rfl, rfl, rfl, by decide +kernel, rfl, by decide +kernel, by decide +kernel⟩
def spAll (Pt : Addr) : Sp := fun vs H Q _ => ∃ (b a : Addr) (nm : Str) (sz : Int) (ps : List Part) (mv : List V) (rows : Rows), vs = [.ref b, .ref a] ∧ PkA H b nm sz ps ∧ SqH H a mv ∧ RowsA H mv rows ∧ GoodR rows ∧ ps.length ≤ 12 ∧ (∀ p ∈ ps, p.2.1 ≤ p.2.2) ∧ 1 ≤ sz ∧ sz ≤ 10 ^ 50 ∧ GxR.TabG H Pt ∧
  ∀ l rs H', H l = none → LsA H' l rs → Told (AllP sz ps rows) rs → rs.length ≤ 730 → Kt H H' → Q (.ref l) H'
section
variable {K : PySem.W.Frag} {mg : Str → Option Value} {P : Program} {w : World} {base : Heap}
theorem ok_all {f Pt : Addr} {fd : FuncData} (F : Fun K "cases_all" "cases_all" sAll f fd) (CW : Cal P w K mg base 3 "without" ["one", "other"] (spWithout K)) (CT : Cal P w K mg base 2 "cases_touched" ["packing", "chosen"] spTouched) (CO : Cal P w K mg base 1 "set_of" ["pairs"] (spSetOf K)) (CC : Cal P w K mg base 2 "cases_of" ["packing"] (spCases Pt)) : FnOk P w K mg base CX0 4 f fd ["packing", "marked"] (spAll Pt) := by
  refine F.ok scAll (fun vs H Q E h => ?_) (fun cdv A outer s H vs Q E hr h => ?_)
  · obtain ⟨b, a, nm, sz, ps, mv, rows, rfl, _⟩ := h
    rfl
  · obtain ⟨b, a, nm, sz, ps, mv, rows, rfl, hb, ha, hmv, hg, hpl, hle, h1, h2, hT, q⟩ := h
    have hr1 := hr.mono (show 1 ≤ 3 by decide)
    have hr2 := hr.mono (show 2 ≤ 3 by decide)
    refine ⟨_, pss_cons (ps_set (i := 2) scAll.nd rfl (.inr rfl) (pe_dc (own := [("mark", 5), ("some", 6)]) (g := gTup K 2 (gCons (gName 5) (gCons (gName 6) gNil))) (tt := tYes) (tk := tVar 5) (tv := tVar 6) rfl scAll.nd (pi_seq (pv 1))
            (blkOk_by (own := [("mark", 5), ("some", 6)]) (N := ["packing", "marked", "sets", "unmarked", "every", "mark", "some", "first", "last"]) (sc := defScope sAll) (by decide +kernel)) (fun _ _ _ _ _ => pg_tup rfl (pgs_cons (pg_name (i := 5) scAll.nd rfl (.inl rfl)) (pgs_cons (pg_name (i := 6) scAll.nd rfl (.inl rfl)) pgs_nil))) (fun _ _ _ _ _ => pts_nil) (fun _ _ _ _ _ => pv 5) (fun _ _ _ _ _ => pv 6)))
      (pss_cons (ps_setLc (i := 3) (own := [("mark", 5), ("first", 7), ("last", 8)]) (g := gTup K 3 (gCons (gName 5) (gCons (gName 7) (gCons (gName 8) gNil)))) (tt := tYes) (te := tCall (spWithout K) [] E0 (tCons (tLst (tCons (tTup (tCons (tVar 7) (tCons (tVar 8) tNil))) tNil)) (tCons (tDGet2 (tVar 2) (tVar 5) (tLst tNil)) tNil))) rfl scAll.nd rfl rfl rfl (pi_seq (pe_ix ix_tup (pv 0) pe_int (fun _ _ => rfl)))
            (blkOk_by (own := [("mark", 5), ("first", 7), ("last", 8)]) (N := ["packing", "marked", "sets", "unmarked", "every", "mark", "some", "first", "last"]) (sc := defScope sAll) (by decide +kernel)) (fun _ _ _ _ _ => pg_tup rfl (pgs_cons (pg_name (i := 5) scAll.nd rfl (.inl rfl)) (pgs_cons (pg_name (i := 7) scAll.nd rfl (.inl rfl)) (pgs_cons (pg_name (i := 8) scAll.nd rfl (.inl rfl)) pgs_nil)))) (fun _ _ _ _ _ => pts_nil) (fun _ _ _ _ _ => pe_own CW hr (by rfl) (pa_cons (pe_lst (pa_cons (pe_tup (pa_cons (pv 7) (pa_cons (pv 8) pa_nil))) pa_nil)) (pa_cons (pe_dget2 (Nat.lt_of_le_of_lt (Nat.add_le_add_left (show 1 ≤ 64 by decide) _) hr.units) (pv 2) (pv 5) (pe_lst pa_nil) ⟨rfl, rfl, rfl, rfl⟩) pa_nil))))
      (pss_cons (ps_set (i := 4) scAll.nd rfl (.inl rfl) (pe_own CO hr1 (by rfl) (pa_cons (pe_lst (pa_cons (pe_tup (pa_cons pe_int (pa_cons (pe_op op_sub (pe_own CC hr2 (by rfl) (pa_cons (pv 0) pa_nil)) pe_int) pa_nil))) pa_nil)) pa_nil)))
      (pss_one (ps_ret (pe_own CW hr (by rfl) (pa_cons (pv 4) (pa_cons (pe_own CT hr2 (by rfl) (pa_cons (pv 0) (pa_cons (pv 3) pa_nil))) pa_nil))))))), ?_⟩
    obtain ⟨a2, us, eb, ha2, hus⟩ := id hb
    refine ⟨_, rfl, a, rfl, dc_seq ha (fun D j H' => Same H H' ∧ ∃ kvs, H' D = some (.dK kvs) ∧ kvs.length ≤ j ∧ DicA H' kvs rows j) (fun D nD => ⟨same_upd nD, [], upd_same, Nat.le_refl _, (fun _ _ z => absurd z (Nat.not_lt_zero _)), fun _ _ => rfl⟩) (fun D i H' nD hP o e => hP.1 _ _ e) (fun D i x H' nD hx hP => ?_) (fun D H2 nD hP => ?_)⟩
    · obtain ⟨sm, kvs, eD, hkl, hdic⟩ := hP
      obtain ⟨r, g, c, er, rfl, eg, hc⟩ := (hmv.same sm).at hx
      have hi : i < rows.length := (List.getElem?_eq_some_iff.mp er).1
      have h12 := hg.2.1
      refine ⟨g, _, rfl, .inl (.inl eg), rfl, _, _, rfl, _, _, rfl, rfl, rfl, _, rfl, _, rfl, kvs, .inr r.1, rfl, eD, small1000 (by omega), fun b o e => ?_, _, upd_same, ?_, hdic.put hg.1 er eD hc⟩
      · rw [upd_ne (ne_of_none e nD)]
        exact sm b o e
      · have := putK_len kvs (.inr r.1) (.ref c)
        omega
    obtain ⟨s2, kvs, eD2, _, hdic⟩ := hP
    rw [hmv.1] at hdic
    -- unmarked
    refine ⟨_, rfl, b, _, 2, .ref a2, rfl, rfl, .inl (.inl (s2 _ _ eb)), atI_nat (j := 2) rfl, a2, rfl, lc_seq (xs := us) (ha2.same s2).sq (ChW H2 ps (NotM rows)) (fun D3 nD3 => ⟨same_upd nD3, [], [], upd_same, ChA.nil, (fun _ z => nomatch z), rfl, (fun _ z => nomatch z), (by intro i p rs e1 e2; cases e2)⟩) (fun D3 i H' nD3 hP => SqTo.same hP.1) (fun D3 i x H' nD3 hx hP => ?_) (fun D3 H3 nD3 hP => ?_)⟩
    · have sm := hP.1
      obtain ⟨p, ep, g, rfl, eg⟩ := Pts.at (Pts.same hus (s2.trans sm)) hx
      have hi : i < ps.length := (List.getElem?_eq_some_iff.mp ep).1
      have hple := hle p (List.mem_of_getElem? ep)
      refine ⟨g, _, rfl, .inl (.inl eg), rfl, _, _, rfl, _, _, rfl, _, _, rfl, rfl, rfl, ?_⟩
      refine ⟨_, rfl, _, rfl, (by show 2 ≤ sizeLine; decide), fun t nt => ⟨(by show 1 ≤ sizeLine; decide), fun l1 nl1 => ?_⟩⟩
      have st := same_upd (o := .tup [.int p.2.1, .int p.2.2]) nt
      have sl := same_upd (o := .lst [.ref t]) nl1
      have S1 := st.trans sl
      have et := sl _ _ (upd_same (H := H') (a := t) (o := .tup [.int p.2.1, .int p.2.2]))
      have el1 := upd_same (H := upd H' t (.tup [.int p.2.1, .int p.2.2])) (a := l1) (o := .lst [.ref t])
      have eD4 := S1 _ _ (sm _ _ eD2)
      have hd4 := (hdic.same sm).same S1
      refine ⟨_, rfl, D, rfl, .inl ⟨kvs, Rd.of eD4⟩, _, rfl, Nat.zero_le _, fun z nz => ?_⟩
      have sz' := same_upd (o := .lst []) nz
      obtain ⟨c, ec, hc⟩ := (hd4.same sz').get hg.1 p.1 (z := z) ⟨[], .inl upd_same, Prs.nil⟩
      refine ⟨valV kvs (.inr p.1), .inl ⟨kvs, .inr p.1, Rd.of (sz' _ _ eD4), rfl, rfl⟩, ?_⟩
      rw [ec]
      have hone : PrA K (upd (upd (upd H' t (.tup [.int p.2.1, .int p.2.2])) l1 (.lst [.ref t])) z (.lst [])) l1 [p.2] := ⟨_, Sq.list (sz' _ _ el1), rfl, fun i q e => by
        have hi0 : i < 1 := (List.getElem?_eq_some_iff.mp e).1
        obtain rfl : i = 0 := by omega
        cases e
        exact ⟨t, rfl, sz' _ _ et⟩⟩
      have ok := setM_ok hg p.1
      refine ⟨l1, c, [p.2], setM rows p.1, rfl, hone, hc.pr, ⟨p.2.1, Int.le_refl _, hple, True.intro⟩, ⟨0, ok.1⟩, (by show 1 + _ ≤ _; omega), fun l5 rs5 H5 nl5 hl5 told5 len5 s5 => ?_⟩
      have S5 := (S1.trans sz').trans s5
      refine ChW.snoc hP nD3 S5 ((S1.trans sz').free nl5) hl5 ep (told5.cong fun n => ?_) (Nat.le_trans len5 (by show 1 + _ + 1 ≤ _; omega)) (by omega)
      rw [setM_in hg.1]
      refine and_congr ⟨fun ⟨q, hq, e⟩ => ?_, fun e => ⟨p.2, List.mem_singleton.mpr rfl, e⟩⟩ Iff.rfl
      rw [List.mem_singleton.mp hq] at e
      exact e
    · obtain ⟨s3, vs, css, eD3, hch, _, hcl, hok, hcs⟩ := hP
      rw [hus.1] at hcl
      have S3 := s2.trans s3
      have hT3 := tabG_same hT S3
      have hb3 := hb.same S3
      refine ⟨_, rfl, b, nm, sz, ps, rfl, hb3, h1, h2, hT3, fun H4 x4 => ⟨_, 1, rfl, rfl, (by show 2 ≤ sizeLine; decide), fun t nt => ⟨(by show 1 ≤ sizeLine; decide), fun l5 nl5 => ?_⟩⟩⟩
      have ecs : (cntF ps + sz - 1) / sz = casesF sz ps := rfl
      rw [ecs] at nl5 ⊢
      have k4 := Kt.tabbed hT3 x4
      have st := same_upd (o := .tup [.int 0, .int (casesF sz ps - 1)]) nt
      have sl := same_upd (o := .lst [.ref t]) nl5
      have S5 := st.trans sl
      have hone : Prs (upd (upd H4 t (.tup [.int 0, .int (casesF sz ps - 1)])) l5 (.lst [.ref t])) [.ref t] [(0, casesF sz ps - 1)] := ⟨rfl, fun i q e => by
        have hi0 : i < 1 := (List.getElem?_eq_some_iff.mp e).1
        obtain rfl : i = 0 := by omega
        cases e
        exact ⟨t, rfl, sl _ _ upd_same⟩⟩
      refine ⟨l5, _, _, rfl, Sq.list upd_same, hone, (by show 1 ≤ 900; decide), fun l6 w6 rs6 H6 nl6 e6 hrs6 hset6 s6 => ?_⟩
      have k46 : Kt H4 H6 := Kt.same (S5.trans s6)
      have k36 : Kt H3 H6 := k4.trans k46
      have hb6 := ((hb3.tab hT3 x4).same S5).same s6
      refine ⟨_, rfl, _, rfl, _, rfl, b, D3, nm, sz, ps, vs, css, rfl, hb6, k36.keep _ _ (fun _ z => nomatch z) eD3, hch.kt k36, hcl, hpl, hok, h1, h2, fun l7 rs7 H7 nl7 hl7 told7 len7 s7 => ?_⟩
      have len6 : rs6.length ≤ 1 := hset6.len
      have ls6 : LsA H7 l6 rs6 := LsA.same ⟨w6, e6, hrs6⟩ s7
      refine ⟨l6, l7, rs6, rs7, rfl, ls6.pr, hl7.pr, hset6.ris, told7.ris, by omega, fun l8 rs8 H8 nl8 hl8 told8 len8 s8 => ?_⟩
      refine q l8 rs8 H8 ?_ hl8 (told8.cong fun c => ?_) (by omega) (((Kt.same S3).trans k36).trans (Kt.same (s7.trans s8)))
      · exact S3.free (tabbed_free hT3 x4 (S5.free (s6.free (s7.free nl8))))
      · unfold AllP
        refine and_congr ((hset6.told.same c).trans ⟨fun ⟨q, hq, e⟩ => ?_, fun e => ⟨_, List.mem_singleton.mpr rfl, e⟩⟩) (not_congr ((told7.same c).trans (touch_with hcs hcl c)))
        rw [List.mem_singleton.mp hq] at e
        exact e
end

open G3
theorem rowF_none {sz cs sp : Int} {p : Part} (hs : 1 ≤ sz) (hp : p.2.1 ≤ p.2.2) : rowF sz cs sp p = none ↔ ¬ (sp < cs * sz + sz ∧ cs * sz < sp + cntP p) := by
  unfold rowF cntP
  dsimp only
  generalize cs * sz = m
  by_cases c : (if m - (sp - p.2.1) > p.2.1 then m - (sp - p.2.1) else p.2.1) ≤ (if m + sz - 1 - (sp - p.2.1) < p.2.2 then m + sz - 1 - (sp - p.2.1) else p.2.2)
  · rw [if_pos c]
    refine ⟨fun z => (nomatch z), fun z => ?_⟩
    split at c <;> split at c <;> omega
  · rw [if_neg c]
    refine ⟨fun _ => ?_, fun _ => rfl⟩
    split at c <;> split at c <;> omega
theorem cntF_nonneg : ∀ {ps : List Part}, (∀ p ∈ ps, p.2.1 ≤ p.2.2) → 0 ≤ cntF ps
  | [], _ => Int.le_refl _
  | p :: r, h => by
    have h1 := cntF_nonneg (ps := r) fun q hq => h q (List.mem_cons_of_mem _ hq)
    have h2 := h p (List.mem_cons_self ..)
    rw [cntF_cons]
    unfold cntP
    omega
theorem rowsG_nil {sz cs : Int} (hs : 1 ≤ sz) : ∀ {sp : Int} {ps : List Part}, (∀ p ∈ ps, p.2.1 ≤ p.2.2) → (rowsG sz cs sp ps = [] ↔ ¬ (0 < cntF ps ∧ sp < cs * sz + sz ∧ cs * sz < sp + cntF ps))
  | sp, [], _ => ⟨fun _ h => absurd h.1 (by decide), fun _ => rfl⟩
  | sp, p :: r, h => by
    have hr : ∀ q ∈ r, q.2.1 ≤ q.2.2 := fun q hq => h q (List.mem_cons_of_mem _ hq)
    have hp := h p (List.mem_cons_self ..)
    have ih := rowsG_nil hs (cs := cs) (sp := sp + cntP p) hr
    have h0 := cntF_nonneg hr
    have hc : 1 ≤ cntP p := by unfold cntP; omega
    have hf := rowF_none (cs := cs) (sp := sp) hs hp
    have e : rowsG sz cs sp (p :: r) = [] ↔ rowF sz cs sp p = none ∧ rowsG sz cs (sp + cntP p) r = [] := by
      show (rowF sz cs sp p).toList ++ _ = [] ↔ _
      rw [List.append_eq_nil_iff]
      cases rowF sz cs sp p
      · exact ⟨fun z => ⟨rfl, z.2⟩, fun z => ⟨rfl, z.2⟩⟩
      · exact ⟨fun z => (nomatch z.1), fun z => (nomatch z.1)⟩
    rw [e, hf, ih, cntF_cons]
    generalize cs * sz = m
    omega
theorem cases_mul {sz C : Int} (hs : 1 ≤ sz) : (C + sz - 1) / sz * sz ≤ C + sz - 1 ∧ C ≤ (C + sz - 1) / sz * sz := by
  have h := (div_iff (x := C + sz - 1) (cs := (C + sz - 1) / sz) hs).mp rfl
  omega
theorem rows_nil {sz cs : Int} {ps : List Part} (hs : 1 ≤ sz) (hc : 0 ≤ cs) (hp : ∀ p ∈ ps, p.2.1 ≤ p.2.2) : (rowsG sz cs 0 ps).isEmpty = decide (casesF sz ps ≤ cs) := by
  rw [Bool.eq_iff_iff, List.isEmpty_iff, decide_eq_true_iff, rowsG_nil hs hp]
  have h0 := cntF_nonneg hp
  have hm : 0 ≤ cs * sz := Int.mul_nonneg hc (by omega)
  have ⟨g1, g2⟩ := cases_mul (C := cntF ps) hs
  unfold casesF
  revert g1 g2
  generalize (cntF ps + sz - 1) / sz = k
  intro g1 g2
  constructor
  · intro h
    have h1 : cntF ps ≤ cs * sz := by omega
    by_cases c : k ≤ cs
    · exact c
    · have := Int.mul_le_mul_of_nonneg_right (show cs + 1 ≤ k by omega) (show 0 ≤ sz by omega)
      rw [Int.add_mul] at this
      omega
  · intro h
    have := Int.mul_le_mul_of_nonneg_right h (show 0 ≤ sz by omega)
    omega
theorem cases_le {sz : Int} {ps : List Part} (hs : 1 ≤ sz) (hp : ∀ p ∈ ps, p.2.1 ≤ p.2.2) : 0 ≤ casesF sz ps ∧ casesF sz ps ≤ cntF ps := by
  have h0 := cntF_nonneg hp
  have ⟨g1, g2⟩ := cases_mul (C := cntF ps) hs
  unfold casesF
  revert g1 g2
  have hk : 0 ≤ (cntF ps + sz - 1) / sz := Int.ediv_nonneg (by omega) (by omega)
  revert hk
  generalize (cntF ps + sz - 1) / sz = k
  intro hk g1 g2
  refine ⟨hk, ?_⟩
  by_cases c : k ≤ cntF ps
  · exact c
  · have h1 := Int.mul_le_mul_of_nonneg_right (show cntF ps + 1 ≤ k by omega) (show 0 ≤ sz by omega)
    have h2 := Int.mul_le_mul_of_nonneg_left hs h0
    rw [Int.add_mul] at h1
    omega

open G3
/-! ### _law_marked_by -/
/-- an expression, then a word of what it gives: what follows is shown once -/
def tMid (te : TE) : TE := fun σ H Q => ∃ M : V → Hp → Prop, te σ H M ∧ ∀ v H', M v H' → Q v H'
theorem pe_mid {X : Cx} {e : Expr} {te : TE} (h : PE X e te) : PE X e (tMid te) := ⟨fun pins s σ H Q I ⟨M, h1, h2⟩ => thn (h.run pins s σ H M I h1) fun _ _ ⟨y, H1, I1, r, q⟩ => ⟨y, H1, I1, r, h2 _ _ q⟩⟩
theorem SqH.kp' {H H' : Hp} {d c a : Addr} {t : Int} {xs : List V} (h : SqH H a xs) (S : StAt H d c t) (k : Kp d c H H') (n : NoInt xs) : SqH H' a xs := h.imp (fun e => k.lst S e n) (fun e => k.tup S e)
theorem SpA.kp {H H' : Hp} {d c a : Addr} {t : Int} {rs : Prs2} (h : SpA H a rs) (S : StAt H d c t) (k : Kp d c H H') : SpA H' a rs := let ⟨us, e, p⟩ := h; ⟨us, e.kp' S k (noInt_prs p), p.kp S k⟩
/-- rows whose sets stand apart from the list D -/
def RowsN (H : Hp) (D : Addr) (vs : List V) (rows : Rows) : Prop := vs.length = rows.length ∧ ∀ (i : Nat) v r, vs[i]? = some v → rows[i]? = some r → ∃ a c us, v = .ref a ∧ H a = some (.tup [.str r.1, .ref c]) ∧ H c = some (.lst us) ∧ Prs H us r.2 ∧ c ≠ D
theorem RowsN.a {H : Hp} {D : Addr} {vs : List V} {rows : Rows} (h : RowsN H D vs rows) : RowsA H vs rows := ⟨h.1, fun i v r e1 e2 => let ⟨a, c, us, f1, f2, f3, f4, _⟩ := h.2 i v r e1 e2; ⟨a, c, f1, f2, us, .inl f3, f4⟩⟩
theorem RowsN.kp {H H' : Hp} {d c D : Addr} {t : Int} {vs : List V} {rows : Rows} (h : RowsN H D vs rows) (S : StAt H d c t) (k : Kp d c H H') : RowsN H' D vs rows := ⟨h.1, fun i v r e1 e2 => let ⟨a, c, us, f1, f2, f3, f4, f5⟩ := h.2 i v r e1 e2; ⟨a, c, us, f1, k.tup S f2, k.lst S f3 (noInt_prs f4), f4.kp S k, f5⟩⟩
theorem RowsN.upd {H : Hp} {D : Addr} {xs vs : List V} {rows : Rows} {o : HO} (h : RowsN H D vs rows) (e : H D = some (.lst xs)) : RowsN (upd H D o) D vs rows := ⟨h.1, fun i v r e1 e2 => by
  obtain ⟨a, c, us, f1, f2, f3, f4, f5⟩ := h.2 i v r e1 e2
  exact ⟨a, c, us, f1, by rw [upd_ne (ne_of f2 e (fun z => nomatch z))]; exact f2, by rw [upd_ne f5]; exact f3, f4.upd_lst e, f5⟩⟩
theorem RowsN.noInt {H : Hp} {D : Addr} {vs : List V} {rows : Rows} (h : RowsN H D vs rows) : NoInt vs := fun x hx i e => by
  obtain ⟨j, hj, e1⟩ := List.getElem_of_mem hx
  have hj' : j < rows.length := by rw [← h.1]; exact hj
  obtain ⟨a, c, us, f1, _⟩ := h.2 j x _ (by rw [List.getElem?_eq_getElem hj, e1]) (List.getElem?_eq_getElem hj')
  rw [f1] at e
  cases e
theorem RowsN.ins {H : Hp} {D : Addr} {vs : List V} {rows : Rows} {v : V} {r : Str × Prs2} (h : RowsN H D vs rows) (hv : ∃ a c us, v = .ref a ∧ H a = some (.tup [.str r.1, .ref c]) ∧ H c = some (.lst us) ∧ Prs H us r.2 ∧ c ≠ D) (k : Nat) : RowsN H D (vs.take k ++ v :: vs.drop k) (rows.take k ++ r :: rows.drop k) := by
  have hl := h.1
  refine ⟨by simp only [List.length_append, List.length_cons, List.length_take, List.length_drop]; omega, fun i u q e1 e2 => ?_⟩
  have hlt : (vs.take k).length = (rows.take k).length := by rw [List.length_take, List.length_take, hl]
  rcases getElem?_app hlt e1 e2 with ⟨z1, z2⟩ | ⟨z1, z2⟩
  · have hi : i < k := by
      have := (List.getElem?_eq_some_iff.mp z1).1
      rw [List.length_take] at this
      omega
    rw [List.getElem?_take, if_pos hi] at z1 z2
    exact h.2 i u q z1 z2
  · revert z1 z2
    generalize i - (vs.take k).length = j
    intro z1 z2
    cases j with
    | zero =>
      cases z1
      cases z2
      exact hv
    | succ j =>
      rw [List.getElem?_cons_succ, List.getElem?_drop] at z1 z2
      exact h.2 _ u q z1 z2
abbrev sMarked : Stmt := topS 22
theorem scMarked : FnScope ["_law_state", "_law_marks", "_law_packing", "_law_great", "_law_rows", "_law_mark", "_law_pairs", "_law_turn", "_law_first", "_law_some", "_law_near", "_law_edge", "_law_part"] ["_law_state", "_law_marks", "_law_packing", "_law_great"] (defScope sMarked) := ⟨rfl, rfl, rfl, by decide +kernel, rfl, by decide +kernel, by decide +kernel⟩
def spMarked : Sp := fun vs H Q _ => ∃ (d c ml b l : Addr) (t gr sz : Int) (nm : Str) (xs : List Str) (us : List V) (ps : List Part), vs = [.ref d, .ref ml, .ref b, .int gr] ∧ StAt H d c t ∧ t + 900 < 2 ^ 60 ∧ H ml = some (.lst (xs.map V.str)) ∧ xs.Nodup ∧ xs.length ≤ 12 ∧ H b = some (.tup [.str nm, .int sz, .ref l]) ∧ H l = some (.lst us) ∧ Pts H us ps ∧ ps.length ≤ 12 ∧ (∀ p ∈ ps, PyData.strOk p.1 = true) ∧ (gr = 0 ∨ gr = 1) ∧
  ∀ (rl : Addr) (mv : List V) (rows : Rows) (t' : Int) H', H rl = none → H' rl = some (.lst mv) → RowsN H' rl mv rows → GoodR rows → (∀ r ∈ rows, r.1 ∈ xs) → rows.length ≤ xs.length → t ≤ t' → t' ≤ t + 60 * xs.length → StAt H' d c t' → Kp d c H H' → Q (.ref rl) H'
/-- what stands between two marks -/
def MrkW (H : Hp) (d c ml b rl : Addr) (t gr : Int) (xs : List Str) (i : Nat) (σ : L2.St) (Hx : Hp) : Prop := ∃ (mv : List V) (rows : Rows) (t' : Int) (y5 y6 y7 y8 y9 y10 y11 : Option V), σ = [some (.ref d), some (.ref ml), some (.ref b), some (.int gr), some (.ref rl), y5, y6, y7, y8, y9, y10, y11, none] ∧ Hx rl = some (.lst mv) ∧ RowsN Hx rl mv rows ∧ GoodR rows ∧ (∀ r ∈ rows, r.1 ∈ xs.take i) ∧ rows.length ≤ i ∧ t ≤ t' ∧ t' ≤ t + 60 * i ∧ StAt Hx d c t' ∧ Kp d c H Hx
/-- what stands between two pairs -/
def PrsW (H H0 : Hp) (d c ml b rl pl : Addr) (t gr : Int) (m : Str) (i : Nat) (σ : L2.St) (Hx : Hp) : Prop := ∃ (ws : List V) (qs : Prs2) (t' : Int) (y7 y8 y9 y10 y11 : Option V), σ = [some (.ref d), some (.ref ml), some (.ref b), some (.int gr), some (.ref rl), some (.str m), some (.ref pl), y7, y8, y9, y10, y11, none] ∧ Hx pl = some (.lst ws) ∧ Prs Hx ws qs ∧ qs.length = i ∧ (∀ q ∈ qs, 0 ≤ q.1 ∧ q.1 ≤ q.2) ∧ t ≤ t' ∧ t' ≤ t + 16 * i ∧ StAt Hx d c t' ∧ Kp d c H0 Hx
section
variable {K : PySem.W.Frag} {mg : Str → Option Value} {P : Program} {w : World} {base : Heap}
theorem ok_marked {f : Addr} {fd : FuncData} (F : Fun K "_law_marked_by" "_law_marked_by" sMarked f fd) (CT : Cal P w K mg base 1 "_law_take" ["_law_state", "_law_many"] spTake) (CN : Cal P w K mg base 2 "_law_number" ["_law_state", "_law_sort"] spNumber) (CS : Cal P w K mg base 1 "_law_set_of" ["_law_pairs"] spLSet) (mr : mg "range" = none) (me : mg "len" = none) (mx : mg "max" = none) : FnOk P w K mg base CX0 3 f fd ["_law_state", "_law_marks", "_law_packing", "_law_great"] spMarked := by
  refine F.ok scMarked (fun vs H Q E h => ?_) (fun cdv A outer s H vs Q E hr h => ?_)
  · obtain ⟨d, c, ml, b, l, t, gr, sz, nm, xs, us, ps, rfl, _⟩ := h
    rfl
  · obtain ⟨d, c, ml, b, l, t, gr, sz, nm, xs, us, ps, rfl, hS, ht, em, hnd, hxl, eb, el, hus, hpl, hok, hgr, q⟩ := h
    have hr1 := hr.mono (show 1 ≤ 2 by decide)
    refine ⟨_, pss_cons (ps_set (i := 4) scMarked.nd rfl (.inl rfl) (pe_lst pa_nil))
      (pss_cons (ps_for PassesOwn.never rfl (pi_list (pv 1)) (pg_name (i := 5) scMarked.nd rfl (.inr rfl))
        (pss_cons (ps_set (i := 6) scMarked.nd rfl (.inl rfl) (pe_lst pa_nil))
        (pss_cons (ps_for PassesOwn.never rfl (pi_range1 (by rfl) mr (pa_cons (pe_own CT hr1 (by rfl) (pa_cons (pv 0) (pa_cons pe_int pa_nil))) pa_nil)) (pg_name (i := 7) scMarked.nd rfl (.inl rfl))
          (pss_cons (ps_set (i := 8) scMarked.nd rfl (.inl rfl) (pe_own CN hr (by rfl) (pa_cons (pv 0) (pa_cons (pe_ix ix_list (pe_lst (pa_cons pe_int (pa_cons pe_int pa_nil))) (pv 3) (fun _ _ => rfl)) pa_nil))))
          (pss_cons (ps_setLc (i := 9) (own := [("_law_part", 12)]) (g := gName 12) (tt := tTest (tOp rEq (tOp (rIxT K) (tVar 12) (tC (.int 0))) (tVar 5))) (te := tVar 12) rfl scMarked.nd rfl rfl (sw_true rfl rfl rfl (by decide +kernel)) (pi_list (pe_ix ix_tup (pv 2) pe_int (fun _ _ => rfl)))
            (blkOk_by (own := [("_law_part", 12)]) (N := ["_law_state", "_law_marks", "_law_packing", "_law_great", "_law_rows", "_law_mark", "_law_pairs", "_law_turn", "_law_first", "_law_some", "_law_near", "_law_edge", "_law_part"]) (sc := defScope sMarked) (by decide +kernel)) (fun _ _ _ _ _ => pg_name (i := 12) scMarked.nd rfl (.inl rfl)) (fun _ _ _ _ _ => pts_one (pt_cmpR op_eq (pe_ix ix_tup (pv 12) pe_int (fun _ _ => rfl)) (pv 5) (nomark _))) (fun _ _ _ _ _ => pv 12))
          (Evl.pss_cut (ps_if (PW.pt (pw_and (pt_cmpR (op_neD hr.units) (pv 9) (pe_lst pa_nil) (nomark _)) (pw_and1 (pt_cmpR op_gt (pe_own CT hr1 (by rfl) (pa_cons (pv 0) (pa_cons pe_int pa_nil))) pe_int (nomark _)))))
            (pss_cons (ps_set (i := 10) scMarked.nd rfl (.inl rfl) (pe_ix ix_list (pv 9) (pe_own CT hr1 (by rfl) (pa_cons (pv 0) (pa_cons (pe_callB call_len_seq (by rfl) me PySem.boot_len (pa_cons (pv 9) pa_nil)) pa_nil))) (fun _ _ => rfl)))
            (pss_cons (ps_set (i := 11) scMarked.nd rfl (.inl rfl) (pe_op op_add (pe_ix ix_tup (pv 10) pe_int (fun _ _ => rfl)) (pe_op op_mul (pe_ix ix_tup (pv 2) pe_int (fun _ _ => rfl)) (pe_own CT hr1 (by rfl) (pa_cons (pv 0) (pa_cons pe_int pa_nil))))))
            (pss_one (ps_set (i := 8) scMarked.nd rfl (.inl rfl) (pe_callB (call_max2 rfl) (by rfl) mx (by decide +kernel) (pa_cons pe_int (pa_cons (pe_ix ix_list (pe_lst (pa_cons (pe_ix ix_tup (pv 10) pe_int (fun _ _ => rfl)) (pa_cons (pe_ix ix_tup (pv 10) pe_int (fun _ _ => rfl)) (pa_cons (pv 11) (pa_cons (pe_op op_sub (pv 11) pe_int) (pa_cons (pe_op op_sub (pe_ix ix_tup (pv 10) pe_int (fun _ _ => rfl)) pe_int) (pa_cons (pe_op op_add (pe_ix ix_tup (pv 10) pe_int (fun _ _ => rfl)) pe_int) pa_nil))))))) (pe_own CT hr1 (by rfl) (pa_cons (pv 0) (pa_cons pe_int pa_nil))) (fun _ _ => rfl)) pa_nil))))))) pss_nil)
          (pss_one (ps_expr (pe_bm PySem.F.plainAttrs_list PySem.F.slot_list_append PySem.F.type_list_append mt_append (pv 6) (pa_cons (pe_tup (pa_cons (pv 8) (pa_cons (pe_op op_add (pv 8) (pe_own CN hr (by rfl) (pa_cons (pv 0) (pa_cons (pe_ix ix_list (pe_lst (pa_cons pe_int (pa_cons (pe_ix ix_list (pe_lst (pa_cons pe_int (pa_cons pe_int pa_nil))) (pv 3) (fun _ _ => rfl)) pa_nil))) (pe_own CT hr1 (by rfl) (pa_cons (pv 0) (pa_cons pe_int pa_nil))) (fun _ _ => rfl)) pa_nil)))) pa_nil))) pa_nil))))))))
        (pss_one (ps_if (pt_cmpR op_gt (pe_own CT hr1 (by rfl) (pa_cons (pv 0) (pa_cons pe_int pa_nil))) pe_int (nomark _)) (pss_one (ps_expr (pe_bm PySem.F.plainAttrs_list PySem.F.slot_list_insert PySem.F.type_list_insert mt_insert (pv 4) (pa_cons (pe_own CT hr1 (by rfl) (pa_cons (pv 0) (pa_cons (pe_op op_add (pe_callB call_len_seq (by rfl) me PySem.boot_len (pa_cons (pv 4) pa_nil)) pe_int) pa_nil))) (pa_cons (pe_tup (pa_cons (pv 5) (pa_cons (pe_own CS hr1 (by rfl) (pa_cons (pv 6) pa_nil)) pa_nil))) pa_nil))))) pss_nil)))))
      (pss_one (ps_ret (pv 4)))), ?_⟩
    refine ⟨Nat.zero_le _, fun rl nrl => ?_⟩
    have s1 := same_upd (o := .lst []) nrl
    have offrl := hS.off nrl
    obtain ⟨kd, kd0, hat⟩ : ∃ kd : Int, 0 ≤ kd ∧ atI [V.int 1, V.int 3] gr = some (.int kd) := by
      rcases hgr with rfl | rfl
      · exact ⟨1, by decide, rfl⟩
      · exact ⟨3, by decide, rfl⟩
    refine ⟨_, rfl, ml, rfl, ⟨_, SqL.of (s1 _ _ em)⟩, for_list (xs := xs.map V.str) (MrkW H d c ml b rl t gr xs)
      ⟨[], [], t, _, _, _, _, _, _, _, rfl, upd_same, ⟨rfl, fun _ _ _ e => nomatch e⟩, ⟨List.nodup_nil, by decide, fun _ z => nomatch z⟩, (fun _ z => nomatch z), Nat.le_refl _, by omega, by omega, hS.same s1, Kp.same d c s1⟩ (fun i σ Hx _ hP => ?_) (fun i x σ Hx hx hP => ?_) (fun σ Hx hP => ?_)⟩
    · obtain ⟨_, _, _, _, _, _, _, _, _, _, rfl, _, _, _, _, _, _, _, _, kx⟩ := hP
      exact SqL.of (kx.lst hS em (noInt_strs xs))
    · obtain ⟨mv, rows, t1, y5, y6, y7, y8, y9, y10, y11, rfl, erl, hrows, hgood, hmem, hrl, u0, u1, hSx, kx⟩ := hP
      obtain ⟨m, emk, rfl⟩ : ∃ m, xs[i]? = some m ∧ x = .str m := by
        rw [List.getElem?_map] at hx
        cases h : xs[i]? with
        | none => rw [h] at hx; cases hx
        | some n => rw [h] at hx; exact ⟨n, rfl, (Option.some.inj hx).symm⟩
      have hi : i < xs.length := (List.getElem?_eq_some_iff.mp emk).1
      refine ⟨Nat.zero_le _, fun pl npl => ?_⟩
      have sp := same_upd (o := .lst []) npl
      have offpl := hSx.off npl
      refine ⟨_, rfl, d, c, t1, 4, rfl, hSx.same sp, by omega, by decide, by decide, fun r H2 r0 r1 hS2 k2 => ?_⟩
      have k02 : Kp d c Hx H2 := (Kp.same d c sp).trans k2
      refine ⟨r, rfl, by omega, by omega, for_range (n := r.toNat) (PrsW H Hx d c ml b rl pl (t1 + 1) gr m)
        ⟨[], [], t1 + 1, _, _, _, _, _, rfl, k2 _ _ offpl.1 offpl.2 upd_same, Prs.nil, rfl, (fun _ z => nomatch z), by omega, by omega, hS2, k02⟩ (fun j σ Hy hj hP => ?_) (fun σ Hy hP => ?_)⟩
      · obtain ⟨ws, qs, t2, y7, y8, y9, y10, y11, rfl, epl, hws, hql, hqs, v0, v1, hSy, ky⟩ := hP
        have hj3 : j < 3 := by omega
        have eby := ky.tup hSx (kx.tup hS eb)
        have ely := ky.lst hSx (kx.lst hS el (Pts.noInt hus)) (Pts.noInt hus)
        have husy := Pts.kp (Pts.kp hus hS kx) hSx ky
        refine ⟨_, rfl, (by show 2 ≤ sizeLine; decide), fun z nz => ?_⟩
        have sz1 := same_upd (o := .lst [.int 1, .int 3]) nz
        refine ⟨_, rfl, z, _, gr, .int kd, rfl, rfl, SqL.of upd_same, hat, d, c, t2, kd, rfl, hSy.same sz1, by omega, kd0, fun f0 t3 H3 f00 f01 w0 w1 hS3 k3 => ?_⟩
        have ky3 : Kp d c Hy H3 := (Kp.same d c sz1).trans k3
        have eb3 := ky3.tup hSy eby
        have el3 := ky3.lst hSy ely (Pts.noInt hus)
        have hus3 := Pts.kp husy hSy ky3
        refine ⟨_, rfl, b, _, 2, .ref l, rfl, rfl, .inl (.inl eb3), atI_nat (j := 2) rfl, l, rfl, ⟨_, SqL.of el3⟩, fun D nD => lc_list (xs := us) (fun k H' => Same H3 H' ∧ ∃ (ws2 : List V) (qs2 : List Part), H' D = some (.lst ws2) ∧ Pts H' ws2 qs2 ∧ qs2.length ≤ k ∧ ∀ q ∈ qs2, PyData.strOk q.1 = true) ⟨same_upd nD, [], [], upd_same, Pts.nil, Nat.le_refl _, fun _ z => nomatch z⟩ (fun k H' _ hP => SqL.of (hP.1 _ _ el3)) (fun k x H' hx hP => ?_) (fun H4 hP => ?_)⟩
        · obtain ⟨sm, ws2, qs2, eD, hw2, hq2, hq3⟩ := hP
          obtain ⟨p, ep, g, rfl, eg⟩ := Pts.at (Pts.same hus3 sm) hx
          have hk : k < ps.length := (List.getElem?_eq_some_iff.mp ep).1
          have hwl := hw2.1
          refine ⟨rfl, _, rfl, g, _, 0, .str p.1, rfl, rfl, .inl (.inl eg), atI_nat (j := 0) rfl, _, rfl, rfl, _, rfl, ite2 (fun e => ?_) (fun e => ?_)⟩
          · refine ⟨_, rfl, _, eD, small1000 (by omega), fun b o e => ?_, ws2 ++ [.ref g], qs2 ++ [p], upd_same, Pts.upd_lst (Pts.app hw2 (Pts.one ⟨g, rfl, eg⟩)) eD, by rw [List.length_append]; show _ + 1 ≤ _; omega, fun q hq => ?_⟩
            · rw [upd_ne (ne_of_none e nD)]
              exact sm b o e
            · rcases List.mem_append.mp hq with y | y
              · exact hq3 q y
              · rw [List.mem_singleton.mp y]; exact hok p (List.mem_of_getElem? ep)
          · exact ⟨sm, ws2, qs2, eD, hw2, by omega, hq3⟩
        obtain ⟨s4, ws2, qs2, eD4, hw4, hq2, hq3⟩ := hP
        have hS4 := hS3.same s4
        have ky4 : Kp d c Hy H4 := ky3.trans (Kp.same d c s4)
        have eb4 := s4 _ _ eb3
        have offD := hS3.off nD
        refine ⟨fun σ' H' => ∃ (f1 t4 : Int) (y9 y10 y11 : Option V), σ' = [some (.ref d), some (.ref ml), some (.ref b), some (.int gr), some (.ref rl), some (.str m), some (.ref pl), some (.int (0 + (j : Int))), some (.int f1), y9, y10, y11, none] ∧ 0 ≤ f1 ∧ t3 ≤ t4 ∧ t4 ≤ t3 + 4 ∧ StAt H' d c t4 ∧ Kp d c Hy H', ?_, fun σ' H' hM => ?_⟩
        · refine ⟨_, rfl, Nat.zero_le _, fun z5 nz5 => ?_⟩
          have sz5 := same_upd (o := .lst []) nz5
          refine ⟨_, _, .lst (SqL.of (sz5 _ _ eD4)) (dp_pts (Pts.same hw4 sz5)), .lst (SqL.of upd_same) .nil, shaped_pts hq3, shaped_pts (ps := []) (fun _ z => nomatch z), _, rfl, ?_⟩
          rw [eqv_pts_nil]
          refine ite2 (fun c1 => ?_) (fun c1 => iteF ⟨f0, t3, _, _, _, rfl, f00, by omega, by omega, hS4.same sz5, ky4.trans (Kp.same d c sz5)⟩)
          have hne : qs2 ≠ [] := fun e => by rw [e] at c1; exact absurd c1 (by decide)
          have hpos := List.length_pos_iff.mpr hne
          have hwl := hw4.1
          have hul := hus.1
          refine ⟨_, rfl, d, c, t3, 4, rfl, hS4.same sz5, by omega, by decide, by decide, fun r6 H6 r60 r61 hS6 k6 => ⟨r6, 0, rfl, rfl, _, rfl, ite2 (fun c2 => ?_) (fun c2 => ⟨f0, t3 + 1, _, _, _, rfl, f00, by omega, by omega, hS6, (ky4.trans (Kp.same d c sz5)).trans k6⟩)⟩⟩
          have ky6 : Kp d c Hy H6 := (ky4.trans (Kp.same d c sz5)).trans k6
          have eD6 := k6 _ _ offD.1 offD.2 (sz5 _ _ eD4)
          have hw6 := Pts.kp (Pts.same hw4 sz5) (hS4.same sz5) k6
          have eb6 := ky6.tup hSy eby
          refine ⟨_, rfl, _, rfl, _, rfl, D, _, rfl, Sq.list eD6, d, c, t3 + 1, (ws2.length : Int), rfl, hS6, by omega, by omega, by omega, fun r7 H7 r70 r71 hS7 k7 => ?_⟩
          obtain ⟨j7, rfl⟩ := Int.eq_ofNat_of_zero_le r70
          have hj7 : j7 < ws2.length := by omega
          have hw7 := Pts.kp hw6 hS6 k7
          have eD7 := k7 _ _ offD.1 offD.2 eD6
          obtain ⟨p, ep, g, eg0, eg⟩ := Pts.at hw7 (List.getElem?_eq_getElem hj7)
          have eb7 := k7.tup hS6 eb6
          refine ⟨D, _, (j7 : Int), .ref g, rfl, rfl, SqL.of eD7, atI_nat (by rw [List.getElem?_eq_getElem hj7, eg0]), ?_⟩
          refine ⟨_, rfl, g, _, 1, .int p.2.1, rfl, rfl, .inl (.inl eg), atI_nat (j := 1) rfl, _, rfl, b, _, 1, .int sz, rfl, rfl, .inl (.inl eb7), atI_nat (j := 1) rfl, _, rfl, d, c, t3 + 1 + 1, 3, rfl, hS7, by omega, by decide, by decide, fun r8 H8 r80 r81 hS8 k8 => ⟨sz, r8, rfl, rfl, .inr ⟨by omega, by omega⟩, p.2.1, sz * r8, rfl, rfl, ?_⟩⟩
          have eg8 := k8.tup hS7 eg
          refine ⟨_, rfl, g, _, 1, .int p.2.1, rfl, rfl, .inl (.inl eg8), atI_nat (j := 1) rfl, _, rfl, g, _, 2, .int p.2.2, rfl, rfl, .inl (.inl eg8), atI_nat (j := 2) rfl, _, rfl, _, rfl, p.2.1 + sz * r8, 1, rfl, rfl, _, rfl, g, _, 1, .int p.2.1, rfl, rfl, .inl (.inl eg8), atI_nat (j := 1) rfl, p.2.1, 1, rfl, rfl, _, rfl, g, _, 2, .int p.2.2, rfl, rfl, .inl (.inl eg8), atI_nat (j := 2) rfl, p.2.2, 1, rfl, rfl, (by show 6 ≤ sizeLine; decide), fun z9 nz9 => ?_⟩
          have sz9 := same_upd (o := .lst [.int p.2.1, .int p.2.2, .int (p.2.1 + sz * r8), .int (p.2.1 + sz * r8 - 1), .int (p.2.1 - 1), .int (p.2.2 + 1)]) nz9
          have off9 := hS8.off nz9
          refine ⟨_, rfl, d, c, t3 + 1 + 1 + 1, 6, rfl, hS8.same sz9, by omega, by decide, by decide, fun r10 H10 r100 r101 hS10 k10 => ?_⟩
          obtain ⟨v, hv⟩ : ∃ v : Int, atI [V.int p.2.1, V.int p.2.2, V.int (p.2.1 + sz * r8), V.int (p.2.1 + sz * r8 - 1), V.int (p.2.1 - 1), V.int (p.2.2 + 1)] r10 = some (.int v) := by
            have : r10 = 0 ∨ r10 = 1 ∨ r10 = 2 ∨ r10 = 3 ∨ r10 = 4 ∨ r10 = 5 := by omega
            rcases this with rfl | rfl | rfl | rfl | rfl | rfl
            · exact ⟨_, rfl⟩
            · exact ⟨_, rfl⟩
            · exact ⟨_, rfl⟩
            · exact ⟨_, rfl⟩
            · exact ⟨_, rfl⟩
            · exact ⟨_, rfl⟩
          refine ⟨z9, _, r10, .int v, rfl, rfl, SqL.of (k10 _ _ off9.1 off9.2 upd_same), hv, 0, v, rfl, ?_⟩
          exact ⟨if v > 0 then v else 0, t3 + 1 + 1 + 1 + 1, _, _, _, rfl, by split <;> omega, by omega, by omega, hS10, ((ky6.trans k7).trans k8).trans ((Kp.same d c sz9).trans k10)⟩
        · obtain ⟨f1, t4, y9', y10', y11', rfl, f10, x0, x1, hS5, ky5⟩ := hM
          have epl5 := ky5 _ _ offpl.1 offpl.2 epl
          have hws5 := hws.kp hSy ky5
          have hwl := hws.1
          refine ⟨_, rfl, .inl ⟨rfl, _, SqL.of epl5⟩, _, rfl, _, rfl, _, rfl, (by show 2 ≤ sizeLine; decide), fun z6 nz6 => ?_⟩
          have sz6 := same_upd (o := .lst [.int 1, .int 3]) nz6
          refine ⟨_, rfl, z6, _, gr, .int kd, rfl, rfl, SqL.of upd_same, hat, (by show 2 ≤ sizeLine; decide), fun z7 nz7 => ?_⟩
          have sz7 := same_upd (o := .lst [.int 0, .int kd]) nz7
          have off7 := (hS5.same sz6).off nz7
          have S7 := sz6.trans sz7
          refine ⟨_, rfl, d, c, t4, 2, rfl, hS5.same S7, by omega, by decide, by decide, fun r8 H8 r80 r81 hS8 k8 => ?_⟩
          obtain ⟨kd2, kd20, hat2⟩ : ∃ kd2 : Int, 0 ≤ kd2 ∧ atI [V.int 0, V.int kd] r8 = some (.int kd2) := by
            have : r8 = 0 ∨ r8 = 1 := by omega
            rcases this with rfl | rfl
            · exact ⟨0, by decide, rfl⟩
            · exact ⟨kd, kd0, rfl⟩
          refine ⟨z7, _, r8, .int kd2, rfl, rfl, SqL.of (k8 _ _ off7.1 off7.2 upd_same), hat2, d, c, t4 + 1, kd2, rfl, hS8, by omega, kd20, fun r9 t9 H9 r90 r91 w90 w91 hS9 k9 => ?_⟩
          have k59 : Kp d c H' H9 := (Kp.same d c S7).trans (k8.trans k9)
          refine ⟨f1, r9, rfl, rfl, (by show 2 ≤ sizeLine; decide), fun T nT => ?_⟩
          have sT := same_upd (o := .tup [.int f1, .int (f1 + r9)]) nT
          have epl9 := sT _ _ (k59 _ _ offpl.1 offpl.2 epl5)
          refine ⟨pl, _, _, rfl, rfl, epl9, small1000 (by omega), ws ++ [.ref T], qs ++ [(f1, f1 + r9)], t9, _, _, _, _, _, rfl, upd_same, Prs.upd_lst (((hws5.kp hS5 k59).same sT).snoc upd_same) epl9, by rw [List.length_append, hql]; rfl, fun q hq => ?_, by omega, by omega, (hS9.same sT).upd offpl.1 offpl.2, fun b o b1 b2 e => ?_⟩
          · rcases List.mem_append.mp hq with y | y
            · exact hqs q y
            · rw [List.mem_singleton.mp y]; exact ⟨f10, by show f1 ≤ f1 + r9; omega⟩
          · rw [upd_ne (ne_of_none e npl)]
            exact sT _ _ (k59 b o b1 b2 (ky5 b o b1 b2 (ky b o b1 b2 e)))
      · obtain ⟨ws, qs, t2, y7, y8, y9, y10, y11, rfl, epl, hws, hql, hqs, v0, v1, hSy, ky⟩ := hP
        have et : xs.take (i + 1) = xs.take i ++ [m] := by rw [List.take_add_one, emk]; rfl
        have hmem2 : ∀ r ∈ rows, r.1 ∈ xs.take (i + 1) := fun r hr => by rw [et]; exact List.mem_append.mpr (.inl (hmem r hr))
        refine ⟨_, rfl, d, c, t2, 5, rfl, hSy, by omega, by decide, by decide, fun r3 H3 r30 r31 hS3 k3 => ⟨r3, 0, rfl, rfl, _, rfl, ite2 (fun c1 => ?_) (fun c1 => ?_)⟩⟩
        · have kx3 : Kp d c Hx H3 := ky.trans k3
          have erl3 := kx3.lst hSx erl hrows.noInt
          have hrows3 := hrows.kp hSx kx3
          have hml := hrows.1
          refine ⟨_, rfl, .inl ⟨rfl, _, SqL.of erl3⟩, _, rfl, _, rfl, rl, _, rfl, Sq.list erl3, (mv.length : Int), 1, rfl, rfl, d, c, t2 + 1, (mv.length : Int) + 1, rfl, hS3, by omega, by omega, by omega, fun r4 H4 r40 r41 hS4 k4 => ?_⟩
          have epl4 := k4 _ _ offpl.1 offpl.2 (k3 _ _ offpl.1 offpl.2 epl)
          have hws4 := (hws.kp hSy k3).kp hS3 k4
          refine ⟨_, rfl, _, rfl, pl, ws, qs, rfl, epl4, hws4, by omega, fun l5 w5 rs5 H5 nl5 e5 hrs5 told5 len5 s5 => ⟨(by show 2 ≤ sizeLine; decide), fun T nT => ?_⟩⟩
          have sT := same_upd (o := .tup [.str m, .ref l5]) nT
          have kx5 : Kp d c Hx (upd H5 T (.tup [.str m, .ref l5])) := ((kx3.trans k4).trans (Kp.same d c s5)).trans (Kp.same d c sT)
          have erl5 := kx5.lst hSx erl hrows.noInt
          have hrows5 := hrows.kp hSx kx5
          have hS5 := (hS4.same s5).same sT
          have nl5r : l5 ≠ rl := fun e => by
            have := k4.lst hS3 erl3 hrows.noInt
            rw [e, this] at nl5
            cases nl5
          have hins := (hrows5.ins (v := .ref T) (r := (m, rs5)) ⟨T, l5, w5, rfl, upd_same, sT _ _ e5, hrs5.same sT, nl5r⟩ r4.toNat).upd (o := .lst (mv.take r4.toNat ++ .ref T :: mv.drop r4.toNat)) erl5
          have elist : mv.take r4.toNat ++ [V.ref T] ++ mv.drop r4.toNat = mv.take r4.toNat ++ V.ref T :: mv.drop r4.toNat := by rw [List.append_assoc]; rfl
          have hris : Ris 0 rs5 := told5.nneg fun n ⟨q, hq, h1, h2⟩ => by have := hqs q hq; omega
          have hperm : (rows.take r4.toNat ++ (m, rs5) :: rows.drop r4.toNat).Perm ((m, rs5) :: rows) := by
            have h1 := List.perm_middle (a := (m, rs5)) (l₁ := rows.take r4.toNat) (l₂ := rows.drop r4.toNat)
            rw [List.take_append_drop] at h1
            exact h1
          have hm0 : m ∉ xs.take i := fun z => by
            obtain ⟨j, hj, ej⟩ := List.getElem_of_mem z
            rw [List.length_take] at hj
            rw [List.getElem_take] at ej
            obtain ⟨hi2, ei⟩ := List.getElem?_eq_some_iff.mp emk
            have := (List.getElem_inj (h₀ := by omega) (h₁ := hi2) hnd).mp (ej.trans ei.symm)
            omega
          refine ⟨rl, mv, r4, .ref T, rfl, rfl, erl5, small1000 (by omega), r40, by omega, mv.take r4.toNat ++ .ref T :: mv.drop r4.toNat, rows.take r4.toNat ++ (m, rs5) :: rows.drop r4.toNat, t2 + 1 + 1, _, _, _, _, _, _, _, rfl, by rw [upd_same, elist], ?_, ⟨?_, ?_, fun r hr => ?_⟩, fun r hr => ?_, ?_, by omega, by omega, hS5.upd offrl.1 offrl.2, fun b o b1 b2 e => ?_⟩
          · rw [elist]
            exact hins
          · rw [(hperm.map (·.1)).nodup_iff, List.map_cons, List.nodup_cons]
            refine ⟨fun z => ?_, hgood.1⟩
            obtain ⟨q, hq, e⟩ := List.mem_map.mp z
            have e' : q.1 = m := e
            exact hm0 (e' ▸ hmem q hq)
          · rw [hperm.length_eq, List.length_cons]
            omega
          · rcases List.mem_cons.mp (hperm.mem_iff.mp hr) with e | e
            · rw [e]; exact ⟨hris, by show rs5.length ≤ 30; omega⟩
            · exact hgood.2.2 r e
          · rcases List.mem_cons.mp (hperm.mem_iff.mp hr) with e | e
            · rw [e, et]; exact List.mem_append.mpr (.inr (List.mem_singleton.mpr rfl))
            · exact hmem2 r e
          · rw [hperm.length_eq, List.length_cons]
            omega
          · rw [upd_ne (ne_of_none e nrl)]
            exact kx5 b o b1 b2 (kx b o b1 b2 e)
        · have kx3 : Kp d c Hx H3 := ky.trans k3
          exact ⟨mv, rows, t2 + 1, _, _, _, _, _, _, _, rfl, kx3.lst hSx erl hrows.noInt, hrows.kp hSx kx3, hgood, hmem2, by omega, by omega, by omega, hS3, kx.trans kx3⟩
    · obtain ⟨mv, rows, t1, y5, y6, y7, y8, y9, y10, y11, rfl, erl, hrows, hgood, hmem, hrl, u0, u1, hSx, kx⟩ := hP
      rw [List.length_map] at u1 hmem hrl
      exact ⟨_, rfl, q rl mv rows t1 Hx nrl erl hrows hgood (fun r hr => by have := hmem r hr; rwa [List.take_length] at this) hrl u0 u1 hSx kx⟩
end

open G3
abbrev sGiven : Stmt := topS 25
theorem scGiven : FnScope ["_law_state", "_law_packing"] ["_law_state", "_law_packing"] (defScope sGiven) := ⟨rfl, rfl, rfl, by decide +kernel, rfl, by decide +kernel, by decide +kernel⟩
def spGiven : Sp := fun vs H Q _ => ∃ (d c b : Addr) (t : Int) (nm : Str) (sz : Int) (ps : List Part), vs = [.ref d, .ref b] ∧ StAt H d c t ∧ t < 2 ^ 60 ∧ PkA H b nm sz ps ∧ ∀ (b' : Addr) H', PkA H' b' nm sz ps → StAt H' d c (t + 1) → Kp d c H H' → Q (.ref b') H'
section
variable {K : PySem.W.Frag} {mg : Str → Option Value} {P : Program} {w : World} {base : Heap}
theorem ok_given {f : Addr} {fd : FuncData} (F : Fun K "_law_given" "_law_given" sGiven f fd) (CT : Cal P w K mg base 1 "_law_take" ["_law_state", "_law_many"] spTake) (ml : mg "list" = none) (mt : mg "tuple" = none) : FnOk P w K mg base CX0 2 f fd ["_law_state", "_law_packing"] spGiven := by
  refine F.ok scGiven (fun vs H Q E h => ?_) (fun cdv A outer s H vs Q E hr h => ?_)
  · obtain ⟨d, c, b, t, nm, sz, ps, rfl, _⟩ := h
    rfl
  · obtain ⟨d, c, b, t, nm, sz, ps, rfl, hS, ht, ⟨a, us, eb, ha, hus⟩, q⟩ := h
    refine ⟨_, pss_one (ps_ret (pe_tup (pa_cons (pe_ix ix_tup (pv 1) pe_int (fun _ _ => rfl)) (pa_cons (pe_ix ix_tup (pv 1) pe_int (fun _ _ => rfl)) (pa_cons (pe_ix ix_list (pe_lst (pa_cons (pe_callTy call_list_of (by rfl) ml (by decide +kernel) (pa_cons (pe_ix ix_tup (pv 1) pe_int (fun _ _ => rfl)) pa_nil)) (pa_cons (pe_mid (pe_callTy call_tuple_of (by rfl) mt (by decide +kernel) (pa_cons (pe_ix ix_tup (pv 1) pe_int (fun _ _ => rfl)) pa_nil))) pa_nil))) (pe_own CT hr (by rfl) (pa_cons (pv 0) (pa_cons pe_int pa_nil))) (fun _ _ => rfl)) pa_nil))))), ?_⟩
    refine ⟨_, rfl, b, _, 0, .str nm, rfl, rfl, .inl (.inl eb), atI_nat (j := 0) rfl, _, rfl, b, _, 1, .int sz, rfl, rfl, .inl (.inl eb), atI_nat (j := 1) rfl, ?_⟩
    refine ⟨_, rfl, b, _, 2, .ref a, rfl, rfl, .inl (.inl eb), atI_nat (j := 2) rfl, a, us, rfl, ha.elim (fun h => .inl (SqL.of h)) (fun h => .inr (.inl (.inl h))), fun g1 ng1 => ?_⟩
    have sg1 := same_upd (o := .lst us) ng1
    have eg1 := upd_same (H := H) (a := g1) (o := .lst us)
    have eb' := sg1 _ _ eb
    refine ⟨fun v H' => ∃ g2, v = .ref g2 ∧ H' g2 = some (.tup us) ∧ Same (upd H g1 (.lst us)) H', ?_, fun v H5 hM => ?_⟩
    · refine ⟨_, rfl, b, _, 2, .ref a, rfl, rfl, .inl (.inl eb'), atI_nat (j := 2) rfl, a, us, rfl, ?_⟩
      rcases ha with h | h
      · exact .inl ⟨SqL.of (sg1 _ _ h), fun g2 ng2 => ⟨g2, rfl, upd_same, same_upd ng2⟩⟩
      · exact .inr ⟨.inl (.inl (sg1 _ _ h)), a, rfl, sg1 _ _ h, Same.refl _⟩
    obtain ⟨g2, rfl, eg2, s5⟩ := hM
    refine ⟨(by show 2 ≤ sizeLine; decide), fun z nz => ?_⟩
    have sz' := same_upd (o := .lst [.ref g1, .ref g2]) nz
    have S6 := (sg1.trans s5).trans sz'
    have offz := ((hS.same sg1).same s5).off nz
    have off1 := hS.off ng1
    have eg1' := sz' _ _ (s5 _ _ eg1)
    have eg2' := sz' _ _ eg2
    refine ⟨_, rfl, d, c, t, 2, rfl, hS.same S6, ht, by decide, by decide, fun r H7 r0 r1 hS7 k7 => ?_⟩
    have kx7 : Kp d c H H7 := (Kp.same d c S6).trans k7
    obtain ⟨gg, hat, hgg⟩ : ∃ gg, atI [V.ref g1, V.ref g2] r = some (.ref gg) ∧ SqH H7 gg us := by
      have : r = 0 ∨ r = 1 := by omega
      rcases this with rfl | rfl
      · exact ⟨g1, rfl, .inl (k7 _ _ off1.1 off1.2 eg1')⟩
      · exact ⟨g2, rfl, .inr (k7.tup (hS.same S6) eg2')⟩
    refine ⟨z, _, r, .ref gg, rfl, rfl, SqL.of (k7 _ _ offz.1 offz.2 upd_same), hat, (by show 3 ≤ sizeLine; decide), fun Tt nTt => ?_⟩
    have sT := same_upd (o := .tup [.str nm, .int sz, .ref gg]) nTt
    exact q Tt _ ⟨gg, us, upd_same, hgg.same sT, Pts.same (Pts.kp hus hS kx7) sT⟩ (hS7.same sT) (kx7.trans (Kp.same d c sT))
end

open G3
/-! ### all tins, laid out one behind the other -/
abbrev Tin := Str × Int
def tinsP (p : Part) : List Tin := (List.range (cntP p).toNat).map fun j : Nat => (p.1, p.2.1 + (j : Int))
def tinsF (ps : List Part) : List Tin := ps.flatMap tinsP
theorem tinsF_snoc (ps : List Part) (p : Part) : tinsF (ps ++ [p]) = tinsF ps ++ tinsP p := by unfold tinsF; rw [List.flatMap_append]; simp
theorem tinsP_len (p : Part) : (tinsP p).length = (cntP p).toNat := by unfold tinsP; rw [List.length_map, List.length_range]
theorem tinsF_len : ∀ {ps : List Part}, (∀ p ∈ ps, p.2.1 ≤ p.2.2) → ((tinsF ps).length : Int) = cntF ps
  | [], _ => rfl
  | p :: r, h => by
    have ih := tinsF_len (ps := r) fun q hq => h q (List.mem_cons_of_mem _ hq)
    have hp := h p (List.mem_cons_self ..)
    have e : tinsF (p :: r) = tinsP p ++ tinsF r := rfl
    rw [e, List.length_append, tinsP_len, cntF_cons, Int.natCast_add, ih]
    unfold cntP
    omega
/-- where a tin stands -/
theorem tinsF_at : ∀ {ps : List Part} {k : Nat} {t : Tin}, (∀ p ∈ ps, p.2.1 ≤ p.2.2) → ((tinsF ps)[k]? = some t ↔ ∃ (i : Nat) (p : Part), ps[i]? = some p ∧ t.1 = p.1 ∧ p.2.1 ≤ t.2 ∧ t.2 ≤ p.2.2 ∧ (k : Int) = t.2 + (cntF (ps.take i) - p.2.1))
  | [], k, t, _ => ⟨fun z => (nomatch z), fun ⟨_, _, z, _⟩ => (nomatch z)⟩
  | p :: r, k, t, h => by
    have hr : ∀ q ∈ r, q.2.1 ≤ q.2.2 := fun q hq => h q (List.mem_cons_of_mem _ hq)
    have hp := h p (List.mem_cons_self ..)
    have e : tinsF (p :: r) = tinsP p ++ tinsF r := rfl
    have hc : ((cntP p).toNat : Int) = p.2.2 - p.2.1 + 1 := by unfold cntP; omega
    rw [e]
    by_cases c : k < (cntP p).toNat
    · rw [List.getElem?_append_left (by rw [tinsP_len]; exact c)]
      constructor
      · intro z
        unfold tinsP at z
        rw [List.getElem?_map, List.getElem?_range c] at z
        have z' := Option.some.inj z
        subst z'
        refine ⟨0, p, rfl, rfl, ?_, ?_, ?_⟩
        · show p.2.1 ≤ p.2.1 + (k : Int); omega
        · show p.2.1 + (k : Int) ≤ p.2.2; omega
        · show (k : Int) = p.2.1 + (k : Int) + (0 - p.2.1); omega
      · rintro ⟨i, q, e1, e2, e3, e4, e5⟩
        cases i with
        | zero =>
          have eq : p = q := Option.some.inj e1
          subst eq
          have e5' : (k : Int) = t.2 + (0 - p.2.1) := e5
          unfold tinsP
          rw [List.getElem?_map, List.getElem?_range c]
          exact congrArg some (Prod.ext e2.symm (by show p.2.1 + (k : Int) = t.2; omega))
        | succ i =>
          rw [List.take_succ_cons, cntF_cons] at e5
          have h0 := cntF_nonneg (ps := r.take i) fun x hx => hr x (List.mem_of_mem_take hx)
          unfold cntP at e5 c
          omega
    · rw [List.getElem?_append_right (by rw [tinsP_len]; omega), tinsP_len, tinsF_at hr]
      constructor
      · rintro ⟨i, q, e1, e2, e3, e4, e5⟩
        refine ⟨i + 1, q, e1, e2, e3, e4, ?_⟩
        rw [List.take_succ_cons, cntF_cons]
        unfold cntP at *
        omega
      · rintro ⟨i, q, e1, e2, e3, e4, e5⟩
        cases i with
        | zero =>
          have eq : p = q := Option.some.inj e1
          subst eq
          have e5' : (k : Int) = t.2 + (0 - p.2.1) := e5
          omega
        | succ i =>
          refine ⟨i, q, e1, e2, e3, e4, ?_⟩
          rw [List.take_succ_cons, cntF_cons] at e5
          unfold cntP at *
          omega
def TinA (H : Hp) (vs : List V) (ts : List Tin) : Prop := vs.length = ts.length ∧ ∀ (i : Nat) v t, vs[i]? = some v → ts[i]? = some t → ∃ a, v = .ref a ∧ H a = some (.tup [.str t.1, .int t.2])
theorem TinA.same {H H' : Hp} {vs : List V} {ts : List Tin} (h : TinA H vs ts) (s : Same H H') : TinA H' vs ts := ⟨h.1, fun i v t e1 e2 => let ⟨a, f1, f2⟩ := h.2 i v t e1 e2; ⟨a, f1, s _ _ f2⟩⟩
theorem TinA.nil {H : Hp} : TinA H [] [] := ⟨rfl, fun _ _ _ e => nomatch e⟩
theorem TinA.app {H : Hp} {vs ws : List V} {ts us : List Tin} (h : TinA H vs ts) (h' : TinA H ws us) : TinA H (vs ++ ws) (ts ++ us) :=
  ⟨by rw [List.length_append, List.length_append, h.1, h'.1], fun i v t e1 e2 => (getElem?_app h.1 e1 e2).elim (fun z => h.2 i v t z.1 z.2) (fun z => h'.2 _ v t z.1 z.2)⟩
theorem TinA.one {H : Hp} {a : Addr} {t : Tin} (e : H a = some (.tup [.str t.1, .int t.2])) : TinA H [.ref a] [t] := ⟨rfl, fun i v u e1 e2 => by
  have hi : i < 1 := (List.getElem?_eq_some_iff.mp e1).1
  obtain rfl : i = 0 := by omega
  cases e1
  cases e2
  exact ⟨a, rfl, e⟩⟩
theorem TinA.upd_lst {H : Hp} {l : Addr} {xs : List V} {o : HO} {vs : List V} {ts : List Tin} (h : TinA H vs ts) (hl : H l = some (.lst xs)) : TinA (upd H l o) vs ts := ⟨h.1, fun i v t e1 e2 => let ⟨a, f1, f2⟩ := h.2 i v t e1 e2; ⟨a, f1, by rw [upd_ne (ne_of f2 hl (fun z => nomatch z))]; exact f2⟩⟩
theorem TinA.at {H : Hp} {vs : List V} {ts : List Tin} {i : Nat} {v : V} (h : TinA H vs ts) (e : vs[i]? = some v) : ∃ t a, ts[i]? = some t ∧ v = .ref a ∧ H a = some (.tup [.str t.1, .int t.2]) := by
  have hi : i < ts.length := by rw [← h.1]; exact (List.getElem?_eq_some_iff.mp e).1
  obtain ⟨a, f⟩ := h.2 i v _ e (List.getElem?_eq_getElem hi)
  exact ⟨_, a, List.getElem?_eq_getElem hi, f⟩
/-- a part of few tins -/
def Few (p : Part) : Prop := PyData.strOk p.1 = true ∧ 0 ≤ p.2.1 ∧ p.2.1 ≤ p.2.2 ∧ p.2.2 ≤ 10 ^ 6 ∧ p.2.2 - p.2.1 ≤ 500
theorem drawn0 {n : Nat} {p : Part} (h : Drawn 0 n p) (hn : n ≤ 12) : Few p := by
  obtain ⟨h1, h2, h3, h4, h5⟩ := h
  have e : grB 0 = 40 := rfl
  rw [e] at h4 h5
  exact ⟨h1, h2, h3, by omega, by omega⟩
theorem cntF40 : ∀ {ps : List Part} {n : Nat}, (∀ p ∈ ps, Drawn 0 n p) → cntF ps ≤ 40 * (ps.length : Int)
  | [], _, _ => by show (0 : Int) ≤ _; simp
  | p :: r, n, h => by
    have h1 := cntF40 (ps := r) fun q hq => h q (List.mem_cons_of_mem _ hq)
    obtain ⟨_, _, _, _, h5⟩ := h p (List.mem_cons_self ..)
    have e : grB 0 = 40 := rfl
    rw [e] at h5
    rw [cntF_cons, List.length_cons]
    unfold cntP
    omega
abbrev sLaid : Stmt := topS 23
theorem scLaid : FnScope ["_law_packing", "_law_tins", "_law_mark", "_law_first", "_law_last", "_law_tin"] ["_law_packing"] (defScope sLaid) := ⟨rfl, rfl, rfl, by decide +kernel, rfl, by decide +kernel, by decide +kernel⟩
def spLaid : Sp := fun vs H Q _ => ∃ (b : Addr) (nm : Str) (sz : Int) (ps : List Part), vs = [.ref b] ∧ PkA H b nm sz ps ∧ (∀ p ∈ ps, Few p) ∧ cntF ps ≤ 900 ∧
  ∀ l (ws : List V) H', H l = none → H' l = some (.lst ws) → TinA H' ws (tinsF ps) → Same H H' → Q (.ref l) H'
def LaidW (H : Hp) (b l : Addr) (ps : List Part) (i : Nat) (σ : L2.St) (Hx : Hp) : Prop := ∃ (ws : List V) (y2 y3 y4 : Option V), σ = [some (.ref b), some (.ref l), y2, y3, y4, none] ∧ Same H Hx ∧ Hx l = some (.lst ws) ∧ TinA Hx ws (tinsF (ps.take i))
theorem tins_take_le {ps : List Part} (h : ∀ p ∈ ps, Few p) (i : Nat) : (tinsF (ps.take i)).length ≤ (tinsF ps).length := by
  have e : tinsF ps = tinsF (ps.take i) ++ tinsF (ps.drop i) := by
    unfold tinsF
    rw [← List.flatMap_append, List.take_append_drop]
  rw [e, List.length_append]
  omega
section
variable {K : PySem.W.Frag} {mg : Str → Option Value} {P : Program} {w : World} {base : Heap}
theorem ok_laid {f : Addr} {fd : FuncData} {k : Nat} (F : Fun K "_law_laid_out" "_law_laid_out" sLaid f fd) (mr : mg "range" = none) : FnOk P w K mg base CX0 (k + 1) f fd ["_law_packing"] spLaid := by
  refine F.ok scLaid (fun vs H Q E h => ?_) (fun cdv A outer s H vs Q E hr h => ?_)
  · obtain ⟨b, nm, sz, ps, rfl, _⟩ := h
    rfl
  · obtain ⟨b, nm, sz, ps, rfl, ⟨a, us, eb, ha, hus⟩, hf, hc, q⟩ := h
    have hlen := tinsF_len (ps := ps) fun p hp => (hf p hp).2.2.1
    refine ⟨_, pss_cons (ps_set (i := 1) scLaid.nd rfl (.inl rfl) (pe_lst pa_nil))
      (pss_cons (ps_for PassesOwn.never rfl (pi_seq (pe_ix ix_tup (pv 0) pe_int (fun _ _ => rfl))) (pg_tup rfl (pgs_cons (pg_name (i := 2) scLaid.nd rfl (.inr rfl)) (pgs_cons (pg_name (i := 3) scLaid.nd rfl (.inl rfl)) (pgs_cons (pg_name (i := 4) scLaid.nd rfl (.inl rfl)) pgs_nil))))
        (pss_one (ps_expr (pe_bm PySem.F.plainAttrs_list PySem.F.slot_list_extend PySem.F.type_list_extend mt_extend (pv 1) (pa_cons (pe_lc (own := [("_law_tin", 5)]) (g := gName 5) (tt := tYes) (te := tTup (tCons (tVar 2) (tCons (tVar 5) tNil))) rfl scLaid.nd (pi_range2 rfl mr (pa_cons (pv 3) (pa_cons (pe_op op_add (pv 4) pe_int) pa_nil)))
            (blkOk_by (own := [("_law_tin", 5)]) (N := ["_law_packing", "_law_tins", "_law_mark", "_law_first", "_law_last", "_law_tin"]) (sc := defScope sLaid) (by decide +kernel)) (fun _ _ _ _ _ => pg_name (i := 5) scLaid.nd rfl (.inl rfl)) (fun _ _ _ _ _ => pts_nil) (fun _ _ _ _ _ => pe_tup (pa_cons (pv 2) (pa_cons (pv 5) pa_nil)))) pa_nil)))))
      (pss_one (ps_ret (pv 1)))), ?_⟩
    refine ⟨Nat.zero_le _, fun l nl => ?_⟩
    have s1 := same_upd (o := .lst []) nl
    refine ⟨_, rfl, b, _, 2, .ref a, rfl, rfl, .inl (.inl (s1 _ _ eb)), atI_nat (j := 2) rfl, a, rfl, for_seqS (xs := us) ha.sq s1 (LaidW H b l ps)
      ⟨[], _, _, _, rfl, s1, upd_same, TinA.nil⟩ (fun i σ Hx hP => ?_) (fun i x σ Hx hx hP => ?_) (fun σ Hx hP => ?_)⟩
    · obtain ⟨_, _, _, _, rfl, sx, _⟩ := hP
      exact sx
    · obtain ⟨ws, y2, y3, y4, rfl, sx, el, hws⟩ := hP
      obtain ⟨p, ep, g, rfl, eg⟩ := Pts.at (Pts.same hus sx) hx
      obtain ⟨_, f0, f1, f2, f3⟩ := hf p (List.mem_of_getElem? ep)
      have etake := take_snoc ep
      have hle := tins_take_le hf (i + 1)
      have hcn : tinsF (ps.take (i + 1)) = tinsF (ps.take i) ++ tinsP p := by rw [etake, tinsF_snoc]
      have hcp : (cntP p).toNat = (p.2.2 + 1 - p.2.1).toNat := by unfold cntP; omega
      refine ⟨g, _, rfl, .inl (.inl eg), rfl, _, _, rfl, _, _, rfl, _, _, rfl, rfl, ?_⟩
      refine ⟨_, rfl, .inl ⟨rfl, _, SqL.of el⟩, _, rfl, _, rfl, p.2.2, 1, rfl, rfl, p.2.1, p.2.2 + 1, rfl, ⟨by omega, by omega, by omega, by omega⟩, fun D nD => lc_range (lo := p.2.1) (n := (p.2.2 + 1 - p.2.1).toNat) (fun j H' => Same Hx H' ∧ ∃ zs : List V, H' D = some (.lst zs) ∧ TinA H' zs ((List.range j).map fun j : Nat => (p.1, p.2.1 + (j : Int)))) ⟨same_upd nD, [], upd_same, TinA.nil⟩ (fun j H' hj hP => ?_) (fun H2 hP => ?_)⟩
      · obtain ⟨sm, zs, eD, hz⟩ := hP
        have hzl := hz.1
        rw [List.length_map, List.length_range] at hzl
        refine ⟨rfl, _, rfl, _, rfl, (by show 2 ≤ sizeLine; decide), fun t nt => ?_⟩
        have st := same_upd (o := .tup [.str p.1, .int (p.2.1 + (j : Int))]) nt
        refine ⟨_, st _ _ eD, small1000 (by omega), fun c o e => ?_, zs ++ [.ref t], upd_same, ?_⟩
        · rw [upd_ne (ne_of_none e nD)]
          exact st _ _ (sm c o e)
        · rw [List.range_succ, List.map_append]
          exact TinA.upd_lst (TinA.app (hz.same st) (TinA.one upd_same)) (st _ _ eD)
      · obtain ⟨sm, zs, eD, hz⟩ := hP
        have hzl := hz.1
        have hwl := hws.1
        rw [List.length_map, List.length_range] at hzl
        rw [hcn, List.length_append, tinsP_len] at hle
        refine ⟨l, D, ws, zs, rfl, rfl, sm _ _ el, eD, Nat.le_trans (show ws.length + zs.length ≤ 1000 by omega) (by decide), ws ++ zs, _, _, _, rfl, fun c o e => ?_, upd_same, ?_⟩
        · rw [upd_ne (ne_of_none e nl)]
          exact sm _ _ (sx c o e)
        · rw [hcn]
          refine TinA.upd_lst (TinA.app (hws.same sm) ?_) (sm _ _ el)
          unfold tinsP
          rw [hcp]
          exact hz
    · obtain ⟨ws, y2, y3, y4, rfl, sx, el, hws⟩ := hP
      rw [hus.1, List.take_length] at hws
      exact ⟨_, rfl, q l ws Hx nl el hws sx⟩
end
abbrev sHas : Stmt := topS 24
theorem scHas : FnScope ["_law_rows", "_law_mark", "_law_tin", "_law_own", "_law_tins", "_law_first", "_law_last"] ["_law_rows", "_law_mark", "_law_tin"] (defScope sHas) := ⟨rfl, rfl, rfl, by decide +kernel, rfl, by decide +kernel, by decide +kernel⟩
def spHas : Sp := fun vs H Q _ => ∃ (rl : Addr) (m : Str) (x : Int) (mv : List V) (rows : Rows), vs = [.ref rl, .str m, .int x] ∧ H rl = some (.lst mv) ∧ RowsA H mv rows ∧ GoodR rows ∧ ∀ bb H', (bb = true ↔ InM rows m x) → Same H H' → Q (.bl bb) H'
section
variable {K : PySem.W.Frag} {mg : Str → Option Value} {P : Program} {w : World} {base : Heap}
theorem ok_has {f : Addr} {fd : FuncData} {k : Nat} (F : Fun K "_law_has" "_law_has" sHas f fd) (ma : mg "any" = none) : FnOk P w K mg base CX0 (k + 1) f fd ["_law_rows", "_law_mark", "_law_tin"] spHas := by
  refine F.ok scHas (fun vs H Q E h => ?_) (fun cdv A outer s H vs Q E hr h => ?_)
  · obtain ⟨rl, m, x, mv, rows, rfl, _⟩ := h
    rfl
  · obtain ⟨rl, m, n, mv, rows, rfl, erl, hmv, hg, q⟩ := h
    refine ⟨_, pss_cons (ps_for PassesOwn.never rfl (pi_list (pv 0)) (pg_tup rfl (pgs_cons (pg_name (i := 3) scHas.nd rfl (.inl rfl)) (pgs_cons (pg_name (i := 4) scHas.nd rfl (.inl rfl)) pgs_nil)))
        (pss_one (ps_if (PW.pt (pw_and (pt_cmpR op_eq (pv 3) (pv 1) (nomark _)) (pw_and1 (pt_val (pe_callB (cr_any rfl) (by rfl) ma (by decide +kernel) (pa_cons (pe_lc (own := [("_law_first", 5), ("_law_last", 6)]) (g := gTup K 2 (gCons (gName 5) (gCons (gName 6) gNil))) (tt := tYes) (te := tChain (rI0 fun i j => .bl (decide (i ≤ j))) (rI0 fun i j => .bl (decide (i ≤ j))) (tVar 5) (tVar 2) (tVar 6)) rfl scHas.nd (pi_seq (pv 4))
            (blkOk_by (own := [("_law_first", 5), ("_law_last", 6)]) (N := ["_law_rows", "_law_mark", "_law_tin", "_law_own", "_law_tins", "_law_first", "_law_last"]) (sc := defScope sHas) (by decide +kernel)) (fun _ _ _ _ _ => pg_tup rfl (pgs_cons (pg_name (i := 5) scHas.nd rfl (.inl rfl)) (pgs_cons (pg_name (i := 6) scHas.nd rfl (.inl rfl)) pgs_nil))) (fun _ _ _ _ _ => pts_nil) (fun _ _ _ _ _ => pe_chain op_le op_le (pv 5) (pv 2) (pv 6))) pa_nil)))))) (pss_one (ps_ret pe_bl)) pss_nil)))
      (pss_one (ps_ret pe_bl)), ?_⟩
    refine ⟨_, rfl, rl, rfl, ⟨_, SqL.of erl⟩, for_list (xs := mv) (fun i σ Hx => ∃ y3 y4 : Option V, σ = [some (.ref rl), some (.str m), some (.int n), y3, y4, none, none] ∧ Same H Hx ∧ ∀ j r, j < i → rows[j]? = some r → ¬ (r.1 = m ∧ InS r.2 n))
      ⟨_, _, rfl, Same.refl _, fun j _ z => absurd z (Nat.not_lt_zero j)⟩ (fun i σ Hx _ hP => ?_) (fun i x σ Hx hx hP => ?_) (fun σ Hx hP => ?_)⟩
    · obtain ⟨_, _, _, sx, _⟩ := hP
      exact SqL.of (sx _ _ erl)
    · obtain ⟨y3, y4, rfl, sx, hno⟩ := hP
      obtain ⟨r, g, c, er, rfl, eg, us, hus, hps⟩ := (hmv.same sx).at hx
      have hok := hg.2.2 r (List.mem_of_getElem? er)
      have next : ¬ (r.1 = m ∧ InS r.2 n) → ∀ j r', j < i + 1 → rows[j]? = some r' → ¬ (r'.1 = m ∧ InS r'.2 n) := fun hn j r' hj e => by
        by_cases z : j = i
        · subst z
          rw [er] at e
          cases e
          exact hn
        · exact hno j r' (by omega) e
      refine ⟨g, _, rfl, .inl (.inl eg), rfl, _, _, rfl, _, _, rfl, rfl, ?_⟩
      refine ⟨_, rfl, _, rfl, rfl, _, rfl, ite2 (fun e => ?_) (fun e => ?_)⟩
      · have e' : r.1 = m := V.str.inj (of_decide_eq_true e)
        refine ⟨_, rfl, c, rfl, lc_seq (xs := us) hus.sq (fun D j H' => Same Hx H' ∧ H' D = some (.lst (((r.2.take j).map fun p => inB n p.1 p.2).map V.bl))) (fun D nD => ⟨same_upd nD, upd_same⟩) (fun D j H' nD hP => SqTo.same hP.1) (fun D j v H' nD hv hP => ?_) (fun D H4 nD hP => ?_)⟩
        · obtain ⟨sm, eD⟩ := hP
          obtain ⟨pr, a5, epr, rfl, ea5⟩ := prs_at (hps.same sm) hv
          have ej : r.2.take (j + 1) = r.2.take j ++ [pr] := by rw [List.take_add_one, epr]; rfl
          have turn : ∀ b : Bool, b = inB n pr.1 pr.2 → ∃ acc, H' D = some (.lst acc) ∧ acc.length < sizeLine ∧ Same Hx (upd H' D (.lst (acc ++ [.bl b]))) ∧ upd H' D (.lst (acc ++ [.bl b])) D = some (.lst (((r.2.take (j + 1)).map fun p => inB n p.1 p.2).map V.bl)) := by
            intro b hb
            refine ⟨_, eD, small1000 ?_, fun c o e => ?_, ?_⟩
            · rw [List.length_map, List.length_map, List.length_take]
              omega
            · rw [upd_ne (ne_of_none e nD)]
              exact sm c o e
            · rw [upd_same, ej, List.map_append, List.map_append, hb]
              rfl
          refine ⟨a5, _, rfl, .inl (.inl ea5), rfl, _, _, rfl, _, _, rfl, rfl, rfl, ?_⟩
          refine ⟨_, rfl, _, rfl, pr.1, n, rfl, rfl, _, rfl, ite2 (fun d1 => ?_) (fun d1 => ?_)⟩
          · refine ⟨_, rfl, n, pr.2, rfl, rfl, turn _ ?_⟩
            unfold inB
            rw [d1, Bool.true_and]
          · refine turn _ ?_
            unfold inB
            rw [Bool.eq_false_iff.mpr d1, Bool.false_and]
        · obtain ⟨sm, eD⟩ := hP
          rw [hps.1, List.take_length] at eD
          have hany : ((r.2.map fun p => inB n p.1 p.2).any id = true) ↔ InS r.2 n := by
            rw [List.any_map, List.any_eq_true]
            exact ⟨fun ⟨p, hp, h⟩ => ⟨p, hp, inB_iff.mp h⟩, fun ⟨p, hp, h⟩ => ⟨p, hp, inB_iff.mpr h⟩⟩
          refine ⟨D, r.2.map fun p => inB n p.1 p.2, rfl, SqL.of eD, _, rfl, ite2 (fun d1 => ?_) (fun d1 => ?_)⟩
          · exact q true H4 ⟨fun _ => ⟨r.2, by rw [← e']; exact List.mem_of_getElem? er, hany.mp d1⟩, fun _ => rfl⟩ (sx.trans sm)
          · exact ⟨_, _, rfl, sx.trans sm, next fun z => d1 (hany.mpr z.2)⟩
      · exact iteF ⟨_, _, rfl, sx, next fun z => e (decide_eq_true (congrArg V.str z.1))⟩
    · obtain ⟨y3, y4, rfl, sx, hno⟩ := hP
      rw [hmv.1] at hno
      refine q false Hx ⟨fun z => (nomatch z), fun ⟨rs, hr, hi⟩ => ?_⟩ sx
      obtain ⟨j, hj, ej⟩ := List.getElem_of_mem hr
      exact absurd ⟨rfl, hi⟩ (hno j (m, rs) hj (by rw [List.getElem?_eq_getElem hj, ej]))
end

open G3
/-! ### by all tins -/
def HasT (rows : Rows) (ts : List Tin) (j : Nat) : Prop := ∃ t, ts[j]? = some t ∧ InM rows t.1 t.2
/-- a dict of truths by cases: of which there are some, and which are true -/
def BoolD (kvs : List (Key × V)) (has val : Int → Prop) : Prop := (∀ p ∈ kvs, ∃ c, p.1 = .inl c) ∧ ∀ c, (has c → ∃ bb, valV kvs (.inl c) = some (.bl bb) ∧ (bb = true ↔ val c)) ∧ (¬ has c → valV kvs (.inl c) = none)
theorem BoolD.nil {has val : Int → Prop} (h : ∀ c, ¬ has c) : BoolD [] has val := ⟨fun _ z => (nomatch z), fun c => ⟨fun z => absurd z (h c), fun _ => rfl⟩⟩
theorem BoolD.get {kvs : List (Key × V)} {has val : Int → Prop} {c : Int} {d : Bool} (h : BoolD kvs has val) (hd : ¬ has c → (d = true ↔ val c)) : ∃ b, (valV kvs (.inl c)).getD (.bl d) = .bl b ∧ (b = true ↔ val c) := by
  by_cases e : has c
  · obtain ⟨bb, f, g⟩ := (h.2 c).1 e
    exact ⟨bb, by rw [f]; rfl, g⟩
  · exact ⟨d, by rw [(h.2 c).2 e]; rfl, hd e⟩
theorem mem_putK {kvs : List (Key × V)} {k : Key} {v : V} {p : Key × V} (h : p ∈ putK kvs k v) : p.1 = k ∨ ∃ q ∈ kvs, p.1 = q.1 := by
  unfold putK at h
  split at h
  · obtain ⟨q, hq, e⟩ := List.mem_map.mp h
    split at e
    · exact .inr ⟨q, hq, by rw [← e]⟩
    · exact .inr ⟨q, hq, by rw [e]⟩
  · rcases List.mem_append.mp h with z | z
    · exact .inr ⟨p, z, rfl⟩
    · exact .inl (by rw [List.mem_singleton.mp z])
theorem BoolD.put {kvs : List (Key × V)} {has val has' val' : Int → Prop} {c : Int} {b : Bool} (h : BoolD kvs has val) (h1 : ∀ x, has' x ↔ has x ∨ x = c) (h2 : ∀ x, x ≠ c → (val' x ↔ val x)) (h3 : b = true ↔ val' c) : BoolD (putK kvs (.inl c) (.bl b)) has' val' := by
  refine ⟨fun p hp => ?_, fun x => ?_⟩
  · rcases mem_putK hp with e | ⟨q, hq, e⟩
    · exact ⟨c, e⟩
    · rw [e]; exact h.1 q hq
  · rw [valV_put]
    by_cases e : x = c
    · subst e
      rw [if_pos rfl]
      exact ⟨fun _ => ⟨b, rfl, h3⟩, fun z => absurd ((h1 x).mpr (.inr rfl)) z⟩
    · rw [if_neg (fun z => e (Sum.inl.inj z))]
      refine ⟨fun z => ?_, fun z => (h.2 x).2 fun y => z ((h1 x).mpr (.inl y))⟩
      obtain ⟨bb, f, g⟩ := (h.2 x).1 (((h1 x).mp z).resolve_right e)
      exact ⟨bb, f, g.trans (h2 x e).symm⟩
/-- the keys of what is true -/
theorem BoolD.keys {kvs : List (Key × V)} {has val : Int → Prop} (h : BoolD kvs has val) (c : Int) : (∃ (i : Nat) (v : V), i < kvs.length ∧ kvs[i]? = some (.inl c, v) ∧ valV kvs (.inl c) = some (.bl true)) ↔ has c ∧ val c := by
  constructor
  · rintro ⟨i, v, _, _, e⟩
    by_cases z : has c
    · obtain ⟨bb, f, g⟩ := (h.2 c).1 z
      rw [e] at f
      cases f
      exact ⟨z, g.mp rfl⟩
    · rw [(h.2 c).2 z] at e
      cases e
  · rintro ⟨h1, h2⟩
    obtain ⟨bb, f, g⟩ := (h.2 c).1 h1
    rw [g.mpr h2] at f
    have f' := f
    unfold valV at f'
    cases hf : kvs.find? fun kv => decide (kv.1 = (Sum.inl c : Key)) with
    | none => rw [hf] at f'; cases f'
    | some kv =>
      have hk : kv.1 = .inl c := of_decide_eq_true (List.find?_some (p := fun kv : Key × V => decide (kv.1 = Sum.inl c)) hf)
      obtain ⟨i, hi, ei⟩ := List.getElem_of_mem (List.mem_of_find?_eq_some hf)
      exact ⟨i, kv.2, hi, by rw [List.getElem?_eq_getElem hi, ei, ← hk], f⟩
def InC (sz : Int) (k : Nat) (c : Int) : Prop := ∃ j : Nat, j < k ∧ (j : Int) / sz = c
def SomeC (sz : Int) (rows : Rows) (ts : List Tin) (k : Nat) (c : Int) : Prop := ∃ j : Nat, j < k ∧ (j : Int) / sz = c ∧ HasT rows ts j
def AllC (sz : Int) (rows : Rows) (ts : List Tin) (k : Nat) (c : Int) : Prop := ∀ j : Nat, j < k → (j : Int) / sz = c → HasT rows ts j
theorem InC.succ {sz : Int} {k : Nat} {c : Int} : InC sz (k + 1) c ↔ InC sz k c ∨ c = (k : Int) / sz := by
  constructor
  · rintro ⟨j, h1, h2⟩
    by_cases e : j = k
    · subst e; exact .inr h2.symm
    · exact .inl ⟨j, by omega, h2⟩
  · rintro (⟨j, h1, h2⟩ | h)
    · exact ⟨j, by omega, h2⟩
    · exact ⟨k, Nat.lt_succ_self k, h.symm⟩
theorem SomeC.succ {sz : Int} {rows : Rows} {ts : List Tin} {k : Nat} {c : Int} : SomeC sz rows ts (k + 1) c ↔ SomeC sz rows ts k c ∨ (c = (k : Int) / sz ∧ HasT rows ts k) := by
  constructor
  · rintro ⟨j, h1, h2, h3⟩
    by_cases e : j = k
    · subst e; exact .inr ⟨h2.symm, h3⟩
    · exact .inl ⟨j, by omega, h2, h3⟩
  · rintro (⟨j, h1, h2, h3⟩ | ⟨h, h3⟩)
    · exact ⟨j, by omega, h2, h3⟩
    · exact ⟨k, Nat.lt_succ_self k, h.symm, h3⟩
theorem AllC.succ {sz : Int} {rows : Rows} {ts : List Tin} {k : Nat} {c : Int} : AllC sz rows ts (k + 1) c ↔ AllC sz rows ts k c ∧ (c = (k : Int) / sz → HasT rows ts k) := by
  constructor
  · intro h
    exact ⟨fun j hj e => h j (by omega) e, fun e => h k (Nat.lt_succ_self k) e.symm⟩
  · rintro ⟨h1, h2⟩ j hj e
    by_cases z : j = k
    · subst z; exact h2 e.symm
    · exact h1 j (by omega) e
theorem some_with {sz : Int} {rows : Rows} {ps : List Part} (hp : ∀ p ∈ ps, p.2.1 ≤ p.2.2) (c : Int) : (InC sz (tinsF ps).length c ∧ SomeC sz rows (tinsF ps) (tinsF ps).length c) ↔ WithP sz ps (InM rows) c := by
  constructor
  · rintro ⟨_, j, hj, e, t, et, hm⟩
    obtain ⟨i, p, ep, e1, e2, e3, e4⟩ := (tinsF_at hp).mp et
    exact ⟨i, p, ep, t.2, e2, e3, e1 ▸ hm, by rw [← e4]; exact e⟩
  · rintro ⟨i, p, ep, x, x1, x2, x3, x4⟩
    have h0 := cntF_nonneg (ps := ps.take i) fun q hq => hp q (List.mem_of_mem_take hq)
    obtain ⟨k, hk⟩ := Int.eq_ofNat_of_zero_le (show 0 ≤ x + (cntF (ps.take i) - p.2.1) by omega)
    have et : (tinsF ps)[k]? = some (p.1, x) := (tinsF_at hp).mpr ⟨i, p, ep, rfl, x1, x2, hk.symm⟩
    have hl : k < (tinsF ps).length := (List.getElem?_eq_some_iff.mp et).1
    rw [hk] at x4
    exact ⟨⟨k, hl, x4⟩, k, hl, x4, _, et, x3⟩
theorem all_with {sz : Int} {rows : Rows} {ps : List Part} (hs : 1 ≤ sz) (hp : ∀ p ∈ ps, p.2.1 ≤ p.2.2) (c : Int) : (InC sz (tinsF ps).length c ∧ AllC sz rows (tinsF ps) (tinsF ps).length c) ↔ AllP sz ps rows c := by
  have hlen := tinsF_len hp
  have ⟨g1, g2⟩ := cases_mul (C := cntF ps) hs
  have hin : InC sz (tinsF ps).length c ↔ 0 ≤ c ∧ c ≤ casesF sz ps - 1 := by
    unfold casesF
    revert g1 g2
    generalize (cntF ps + sz - 1) / sz = k
    intro g1 g2
    constructor
    · rintro ⟨j, hj, e⟩
      have ⟨d1, d2⟩ := (div_iff hs).mp e
      have c0 : 0 ≤ c := by rw [← e]; exact Int.ediv_nonneg (by omega) (by omega)
      refine ⟨c0, ?_⟩
      by_cases z : c ≤ k - 1
      · exact z
      · have := Int.mul_le_mul_of_nonneg_right (show k ≤ c by omega) (show 0 ≤ sz by omega)
        omega
    · rintro ⟨c0, c1⟩
      have m0 : 0 ≤ c * sz := Int.mul_nonneg c0 (by omega)
      have m1 := Int.mul_le_mul_of_nonneg_right (show c + 1 ≤ k by omega) (show 0 ≤ sz by omega)
      rw [Int.add_mul] at m1
      obtain ⟨j, hj⟩ := Int.eq_ofNat_of_zero_le m0
      exact ⟨j, by omega, (div_iff hs).mpr ⟨by omega, by omega⟩⟩
  unfold AllP
  rw [hin]
  refine and_congr Iff.rfl ⟨fun h => ?_, fun h => ?_⟩
  · rintro ⟨i, p, ep, x, x1, x2, x3, x4⟩
    have h0 := cntF_nonneg (ps := ps.take i) fun q hq => hp q (List.mem_of_mem_take hq)
    obtain ⟨k, hk⟩ := Int.eq_ofNat_of_zero_le (show 0 ≤ x + (cntF (ps.take i) - p.2.1) by omega)
    have et : (tinsF ps)[k]? = some (p.1, x) := (tinsF_at hp).mpr ⟨i, p, ep, rfl, x1, x2, hk.symm⟩
    rw [hk] at x4
    obtain ⟨t, et', hm⟩ := h k (List.getElem?_eq_some_iff.mp et).1 x4
    rw [et] at et'
    cases et'
    exact x3 hm
  · intro j hj e
    have et : (tinsF ps)[j]? = some (tinsF ps)[j] := List.getElem?_eq_getElem hj
    refine ⟨_, et, ?_⟩
    obtain ⟨i, p, ep, e1, e2, e3, e4⟩ := (tinsF_at hp).mp et
    by_cases z : InM rows (tinsF ps)[j].1 (tinsF ps)[j].2
    · exact z
    · exact absurd ⟨i, p, ep, _, e2, e3, fun y => z (e1 ▸ y), by rw [← e4]; exact e⟩ h
abbrev sDue : Stmt := topS 26
theorem scDue : FnScope ["_law_packing", "_law_rows", "_law_tins", "_law_some", "_law_whole", "_law_at", "_law_mark", "_law_tin", "_law_has_here", "_law_case", "_law_one"] ["_law_packing", "_law_rows"] (defScope sDue) := ⟨rfl, rfl, rfl, by decide +kernel, rfl, by decide +kernel, by decide +kernel⟩
def spDue : Sp := fun vs H Q _ => ∃ (b rl : Addr) (nm : Str) (sz : Int) (ps : List Part) (mv : List V) (rows : Rows), vs = [.ref b, .ref rl] ∧ PkA H b nm sz ps ∧ (∀ p ∈ ps, Few p) ∧ cntF ps ≤ 900 ∧ H rl = some (.lst mv) ∧ RowsA H mv rows ∧ GoodR rows ∧ 1 ≤ sz ∧ sz ≤ 10 ^ 50 ∧
  ∀ (T l1 l2 : Addr) (rs1 rs2 : Prs2) H', H' T = some (.tup [.ref l1, .ref l2]) → LsA H' l1 rs1 → Told (WithP sz ps (InM rows)) rs1 → rs1.length ≤ 900 → LsA H' l2 rs2 → Told (AllP sz ps rows) rs2 → rs2.length ≤ 900 → Same H H' → Q (.ref T) H'
def DuW (H0 : Hp) (b rl l ds dw : Addr) (sz : Int) (rows : Rows) (ts : List Tin) (k : Nat) (σ : L2.St) (Hx : Hp) : Prop := ∃ (k1 k2 : List (Key × V)) (y5 y6 y7 y8 y9 : Option V), σ = [some (.ref b), some (.ref rl), some (.ref l), some (.ref ds), some (.ref dw), y5, y6, y7, y8, y9, none] ∧ Same H0 Hx ∧ Hx ds = some (.dK k1) ∧ Hx dw = some (.dK k2) ∧ k1.length ≤ k ∧ k2.length ≤ k ∧ BoolD k1 (InC sz k) (SomeC sz rows ts k) ∧ BoolD k2 (InC sz k) (AllC sz rows ts k)
/-- pairs of the first so many keys that are true -/
def KeyW (Hf : Hp) (kvs : List (Key × V)) (D : Addr) (j : Nat) (H' : Hp) : Prop := Same Hf H' ∧ ∃ (vs : List V) (qs : Prs2), H' D = some (.lst vs) ∧ Prs H' vs qs ∧ qs.length ≤ j ∧ ∀ c, InS qs c ↔ ∃ (i : Nat) (v : V), i < j ∧ kvs[i]? = some (.inl c, v) ∧ valV kvs (.inl c) = some (.bl true)
theorem key_turn {Hf H' : Hp} {ds D : Addr} {od : Obj} {kvs : List (Key × V)} {has val : Int → Prop} {j : Nat} {k : Key} {v : V} {σ : L2.St} {i : Nat} (b : BoolD kvs has val) (hP : KeyW Hf kvs D j H') (nD : Hf D = none) (ek : kvs[j]? = some (k, v)) (hj : j ≤ 900) (ef : Hf ds = some (.frz od (.dK kvs))) (h3 : σ[i]? = some (some (.ref ds))) (h9 : σ[9]? = some (some (kV k))) :
    tTest (tDGet (tVar i) (tVar 9)) σ H' fun bb H3 => if bb = true then tTup (tCons (tVar 9) (tCons (tVar 9) tNil)) σ H3 fun y H4 => ∃ acc, H4 D = some (.lst acc) ∧ acc.length < sizeLine ∧ KeyW Hf kvs D (j + 1) (upd H4 D (.lst (acc ++ [y]))) else KeyW Hf kvs D (j + 1) H3 := by
  obtain ⟨c, hk⟩ := b.1 _ (List.mem_of_getElem? ek)
  have hk' : k = .inl c := hk
  subst hk'
  obtain ⟨sm, vs, qs, eD, hvs, hql, hin⟩ := hP
  obtain ⟨bb, ev⟩ : ∃ bb, valV kvs (.inl c) = some (.bl bb) := by
    by_cases z : has c
    · obtain ⟨bb, e, _⟩ := (b.2 c).1 z
      exact ⟨bb, e⟩
    · have h0 := (b.2 c).2 z
      have h1 := valV_any (Sum.inl c : Key) kvs
      rw [h0] at h1
      have h2 : (kvs.any fun kv => decide (kv.1 = (Sum.inl c : Key))) = true := List.any_eq_true.mpr ⟨_, List.mem_of_getElem? ek, decide_eq_true rfl⟩
      rw [h2] at h1
      cases h1
  have step : ∀ c', (∃ (i : Nat) (v : V), i < j + 1 ∧ kvs[i]? = some (.inl c', v) ∧ valV kvs (.inl c') = some (.bl true)) ↔ (∃ (i : Nat) (v : V), i < j ∧ kvs[i]? = some (.inl c', v) ∧ valV kvs (.inl c') = some (.bl true)) ∨ (c' = c ∧ bb = true) := fun c' => by
    constructor
    · rintro ⟨i, u, hi, e1, e2⟩
      by_cases z : i = j
      · subst z
        rw [ek] at e1
        have hc : c = c' := Sum.inl.inj (congrArg Prod.fst (Option.some.inj e1))
        subst hc
        rw [ev] at e2
        cases e2
        exact .inr ⟨rfl, rfl⟩
      · exact .inl ⟨i, u, by omega, e1, e2⟩
    · rintro (⟨i, u, hi, h⟩ | ⟨rfl, rfl⟩)
      · exact ⟨i, u, by omega, h⟩
      · exact ⟨j, v, Nat.lt_succ_self j, ek, ev⟩
  refine ⟨_, h3, _, h9, ds, .bl bb, rfl, .inl ⟨kvs, .inl c, .inr ⟨od, sm _ _ ef⟩, rfl, ev.symm⟩, bb, rfl, ite2 (fun z => ?_) (fun z => ?_)⟩
  · refine ⟨_, h9, _, h9, (by show 2 ≤ sizeLine; decide), fun t nt => ?_⟩
    have st := same_upd (o := .tup [kV (.inl c), kV (.inl c)]) nt
    have eDt := st _ _ eD
    have hvl := hvs.1
    refine ⟨vs, eDt, small1000 (by omega), fun y o e => ?_, vs ++ [.ref t], qs ++ [(c, c)], upd_same, Prs.upd_lst ((hvs.same st).snoc upd_same) eDt, by rw [List.length_append]; show _ + 1 ≤ _; omega, fun c' => ?_⟩
    · rw [upd_ne (ne_of_none e nD)]
      exact st _ _ (sm y o e)
    · rw [inS_append, hin c', step c']
      refine or_congr Iff.rfl ⟨fun ⟨q, hq, h1, h2⟩ => ?_, fun h => ⟨(c, c), List.mem_singleton.mpr rfl, by show c ≤ c'; omega, by show c' ≤ c; omega⟩⟩
      rw [List.mem_singleton.mp hq] at h1 h2
      have h1' : c ≤ c' := h1
      have h2' : c' ≤ c := h2
      exact ⟨by omega, z⟩
  · refine ⟨sm, vs, qs, eD, hvs, by omega, fun c' => ?_⟩
    rw [hin c', step c']
    exact ⟨.inl, fun h => h.elim id fun y => absurd y.2 z⟩
section
variable {K : PySem.W.Frag} {mg : Str → Option Value} {P : Program} {w : World} {base : Heap}
theorem ok_due {f : Addr} {fd : FuncData} (F : Fun K "_law_due" "_law_due" sDue f fd) (CL : Cal P w K mg base 1 "_law_laid_out" ["_law_packing"] spLaid) (CH : Cal P w K mg base 1 "_law_has" ["_law_rows", "_law_mark", "_law_tin"] spHas) (CS : Cal P w K mg base 1 "_law_set_of" ["_law_pairs"] spLSet) (me : mg "enumerate" = none) : FnOk P w K mg base CX0 2 f fd ["_law_packing", "_law_rows"] spDue := by
  refine F.ok scDue (fun vs H Q E h => ?_) (fun cdv A outer s H vs Q E hr h => ?_)
  · obtain ⟨b, rl, nm, sz, ps, mv, rows, rfl, _⟩ := h
    rfl
  · obtain ⟨b, rl, nm, sz, ps, mv, rows, rfl, hb, hf, hc, erl, hmv, hg, h1, h2, q⟩ := h
    have hu := Nat.lt_of_le_of_lt (Nat.add_le_add_left (show 1 ≤ 64 by decide) _) hr.units
    refine ⟨_, pss_cons (ps_asg (pe_tup (pa_cons (pe_own CL hr (by rfl) (pa_cons (pv 0) pa_nil)) (pa_cons pe_dnewK (pa_cons pe_dnewK pa_nil)))) (pg_tup rfl (pgs_cons (pg_name (i := 2) scDue.nd rfl (.inl rfl)) (pgs_cons (pg_name (i := 3) scDue.nd rfl (.inr rfl)) (pgs_cons (pg_name (i := 4) scDue.nd rfl (.inr rfl)) pgs_nil)))))
      (pss_cons (ps_for PassesOwn.never rfl (pi_enS (by rfl) me (pa_cons (pv 2) pa_nil)) (pg_tup rfl (pgs_cons (pg_name (i := 5) scDue.nd rfl (.inl rfl)) (pgs_cons (pg_tup rfl (pgs_cons (pg_name (i := 6) scDue.nd rfl (.inl rfl)) (pgs_cons (pg_name (i := 7) scDue.nd rfl (.inl rfl)) pgs_nil))) pgs_nil)))
        (pss_cons (ps_set (i := 8) scDue.nd rfl (.inl rfl) (pe_own CH hr (by rfl) (pa_cons (pv 1) (pa_cons (pv 6) (pa_cons (pv 7) pa_nil)))))
        (pss_cons (ps_set (i := 9) scDue.nd rfl (.inl rfl) (pe_op op_fdivW (pv 5) (pe_ix ix_tup (pv 0) pe_int (fun _ _ => rfl))))
        (pss_cons (ps_asg (pe_mid (pe_or (pe_dget2 hu (pv 3) (pv 9) pe_bl ⟨rfl, rfl, rfl, rfl⟩) (pe_one (pv 8)))) (pg_sub (pv 3) (pv 9) (set_dict hu)))
        (pss_one (ps_asg (pe_mid (pe_and (pe_dget2 hu (pv 4) (pv 9) pe_bl ⟨rfl, rfl, rfl, rfl⟩) (pe_one (pv 8)))) (pg_sub (pv 4) (pv 9) (set_dict hu))))))))
      (pss_cons (ps_set (i := 10) scDue.nd rfl (.inl rfl) (pe_own CS hr (by rfl) (pa_cons (pe_lock (pe_lc (own := [("_law_case", 9)]) (g := gName 9) (tt := tTest (tDGet (tVar 3) (tVar 9))) (te := tTup (tCons (tVar 9) (tCons (tVar 9) tNil))) rfl scDue.nd (pi_keys (pv 3))
            (blkOk_by (own := [("_law_case", 9)]) (N := ["_law_packing", "_law_rows", "_law_tins", "_law_some", "_law_whole", "_law_at", "_law_mark", "_law_tin", "_law_has_here", "_law_case", "_law_one"]) (sc := defScope sDue) (by decide +kernel)) (fun _ _ _ _ _ => pg_name (i := 9) scDue.nd rfl (.inl rfl)) (fun _ _ _ _ _ => pts_one (pt_val (pe_dget hu (pv 3) (pv 9) (fun _ _ => rfl)))) (fun _ _ _ _ _ => pe_tup (pa_cons (pv 9) (pa_cons (pv 9) pa_nil))))) pa_nil)))
      (pss_one (ps_ret (pe_tup (pa_cons (pv 10) (pa_cons (pe_own CS hr (by rfl) (pa_cons (pe_lock (pe_lc (own := [("_law_case", 9)]) (g := gName 9) (tt := tTest (tDGet (tVar 4) (tVar 9))) (te := tTup (tCons (tVar 9) (tCons (tVar 9) tNil))) rfl scDue.nd (pi_keys (pv 4))
            (blkOk_by (own := [("_law_case", 9)]) (N := ["_law_packing", "_law_rows", "_law_tins", "_law_some", "_law_whole", "_law_at", "_law_mark", "_law_tin", "_law_has_here", "_law_case", "_law_one"]) (sc := defScope sDue) (by decide +kernel)) (fun _ _ _ _ _ => pg_name (i := 9) scDue.nd rfl (.inl rfl)) (fun _ _ _ _ _ => pts_one (pt_val (pe_dget hu (pv 4) (pv 9) (fun _ _ => rfl)))) (fun _ _ _ _ _ => pe_tup (pa_cons (pv 9) (pa_cons (pv 9) pa_nil))))) pa_nil)) pa_nil))))))), ?_⟩
    have hle : ∀ p ∈ ps, p.2.1 ≤ p.2.2 := fun p hp => (hf p hp).2.2.1
    have hlen := tinsF_len hle
    have hw := some_with (sz := sz) (rows := rows) hle
    have ha := all_with (rows := rows) h1 hle
    refine ⟨_, rfl, b, nm, sz, ps, rfl, hb, hf, hc, fun l ws H1 nl el hws s1 => ?_⟩
    revert hlen hw ha hws
    generalize tinsF ps = ts
    intro hlen hw ha hws
    have hwl := hws.1
    intro ds nds dw ndw
    have sd := same_upd (o := .dK []) nds
    have sw := same_upd (o := .dK []) ndw
    refine ⟨(by show 3 ≤ sizeLine; decide), fun T nT => ?_⟩
    have sT := same_upd (o := .tup [.ref l, .ref ds, .ref dw]) nT
    have S1 := (sd.trans sw).trans sT
    have ndw' : dw ≠ ds := fun e => by rw [e, upd_same] at ndw; cases ndw
    have eds0 := sT _ _ (sw _ _ (upd_same (H := H1) (a := ds) (o := .dK [])))
    have edw0 := sT _ _ (upd_same (H := upd H1 ds (.dK [])) (a := dw) (o := .dK []))
    have ndwH1 : H1 dw = none := by rw [upd_ne ndw'] at ndw; exact ndw
    refine ⟨T, _, rfl, .inl (.inl upd_same), rfl, _, _, rfl, _, _, rfl, _, _, rfl, rfl, ?_⟩
    have hPk := hb.same s1
    refine ⟨_, rfl, l, rfl, for_enS (xs := ws) (Sq.list el) S1 (DuW H1 b rl l ds dw sz rows ts)
      ⟨[], [], _, _, _, _, _, rfl, S1, eds0, edw0, Nat.le_refl _, Nat.le_refl _, BoolD.nil (fun c ⟨j, hj, _⟩ => absurd hj (Nat.not_lt_zero j)), BoolD.nil (fun c ⟨j, hj, _⟩ => absurd hj (Nat.not_lt_zero j))⟩ (fun i σ Hx hP => ?_) (fun i x T2 σ Hx hx hP nT2 => ?_) (fun σ Hx hP => ?_)⟩
    · obtain ⟨_, _, _, _, _, _, _, rfl, sx, _⟩ := hP
      exact sx
    · obtain ⟨k1, k2, y5, y6, y7, y8, y9, rfl, sx, e1, e2, l1, l2, b1, b2⟩ := hP
      obtain ⟨t, g, et, rfl, eg⟩ := (hws.same sx).at hx
      have hi : i < ts.length := (List.getElem?_eq_some_iff.mp et).1
      have sT2 := same_upd (o := .tup [.int (i : Nat), .ref g]) nT2
      have sx2 := sx.trans sT2
      have e1' := sT2 _ _ e1
      have e2' := sT2 _ _ e2
      refine ⟨T2, _, rfl, .inl (.inl upd_same), rfl, _, _, rfl, _, _, rfl, g, _, rfl, .inl (.inl (sT2 _ _ eg)), rfl, _, _, rfl, _, _, rfl, rfl, rfl, ?_⟩
      revert sx2 e1' e2'
      generalize upd Hx T2 (.tup [.int (i : Nat), .ref g]) = Hy
      intro sx2 e1' e2'
      refine ⟨_, rfl, _, rfl, _, rfl, rl, t.1, t.2, mv, rows, rfl, sx2 _ _ (s1 _ _ erl), (hmv.same s1).same sx2, hg, fun hb' H3 hbt s3 => ?_⟩
      have sx3 := sx2.trans s3
      have e13 := s3 _ _ e1'
      have e23 := s3 _ _ e2'
      obtain ⟨a, us, eb, _⟩ := hPk.same sx3
      have hHas : hb' = true ↔ HasT rows ts i := hbt.trans ⟨fun z => ⟨t, et, z⟩, fun ⟨t', e', z⟩ => by rw [et] at e'; cases e'; exact z⟩
      refine ⟨_, rfl, _, rfl, b, _, 1, .int sz, rfl, rfl, .inl (.inl eb), atI_nat (j := 1) rfl, (i : Int), sz, rfl, rfl, ⟨by omega, Nat.lt_trans (log_lt (by omega)) (by decide)⟩, ?_⟩
      -- some
      obtain ⟨v1, g1, g1'⟩ := b1.get (c := (i : Int) / sz) (d := false) fun hn => ⟨fun z => (nomatch z), fun ⟨j, hj, e, _⟩ => absurd ⟨j, hj, e⟩ hn⟩
      refine ⟨fun v H' => ∃ bb : Bool, v = .bl bb ∧ (bb = true ↔ SomeC sz rows ts (i + 1) ((i : Int) / sz)) ∧ H' = H3, ?_, fun v H' hM => ?_⟩
      · refine ⟨_, rfl, ds, rfl, .inl ⟨k1, Rd.of e13⟩, _, rfl, valV k1 (.inl ((i : Int) / sz)), .inl ⟨k1, .inl ((i : Int) / sz), Rd.of e13, rfl, rfl⟩, v1, g1, ite2 (fun z => ?_) (fun z => ?_)⟩
        · exact ⟨true, rfl, ⟨fun _ => SomeC.succ.mpr (.inl (g1'.mp z)), fun _ => rfl⟩, rfl⟩
        · refine ⟨_, rfl, hb', rfl, hHas.trans ⟨fun y => SomeC.succ.mpr (.inr ⟨rfl, y⟩), fun y => ?_⟩, rfl⟩
          rcases SomeC.succ.mp y with y | y
          · exact absurd (g1'.mpr y) z
          · exact y.2
      obtain ⟨w1, rfl, hw1, rfl⟩ := hM
      refine ⟨_, rfl, _, rfl, ds, _, rfl, DPut.k (k := .inl ((i : Int) / sz)) e13 (Nat.lt_of_le_of_lt (show k1.length ≤ 1000 by omega) (by decide)), ?_⟩
      have nds2 : dw ≠ ds := ndw'
      have e24 : upd H' ds (.dK (putK k1 (.inl ((i : Int) / sz)) (.bl w1))) dw = some (.dK k2) := by rw [upd_ne ndw']; exact e23
      have sx4 : Same H1 (upd H' ds (.dK (putK k1 (.inl ((i : Int) / sz)) (.bl w1)))) := fun y o e => by rw [upd_ne (ne_of_none e nds)]; exact sx3 y o e
      have e14 : upd H' ds (.dK (putK k1 (.inl ((i : Int) / sz)) (.bl w1))) ds = some (.dK (putK k1 (.inl ((i : Int) / sz)) (.bl w1))) := upd_same
      revert e24 sx4 e14
      generalize upd H' ds (.dK (putK k1 (.inl ((i : Int) / sz)) (.bl w1))) = H4
      intro e24 sx4 e14
      -- whole
      obtain ⟨v2, g2, g2'⟩ := b2.get (c := (i : Int) / sz) (d := true) fun hn => ⟨fun _ j hj e => absurd ⟨j, hj, e⟩ hn, fun _ => rfl⟩
      refine ⟨fun v H'' => ∃ bb : Bool, v = .bl bb ∧ (bb = true ↔ AllC sz rows ts (i + 1) ((i : Int) / sz)) ∧ H'' = H4, ?_, fun v H'' hM => ?_⟩
      · refine ⟨_, rfl, dw, rfl, .inl ⟨k2, Rd.of e24⟩, _, rfl, valV k2 (.inl ((i : Int) / sz)), .inl ⟨k2, .inl ((i : Int) / sz), Rd.of e24, rfl, rfl⟩, v2, g2, ite2 (fun z => ?_) (fun z => ?_)⟩
        · refine ⟨_, rfl, hb', rfl, hHas.trans ⟨fun y => AllC.succ.mpr ⟨g2'.mp z, fun _ => y⟩, fun y => (AllC.succ.mp y).2 rfl⟩, rfl⟩
        · exact ⟨false, rfl, ⟨fun y => (nomatch y), fun y => absurd (g2'.mpr (AllC.succ.mp y).1) z⟩, rfl⟩
      obtain ⟨w2, rfl, hw2, rfl⟩ := hM
      refine ⟨_, rfl, _, rfl, dw, _, rfl, DPut.k (k := .inl ((i : Int) / sz)) e24 (Nat.lt_of_le_of_lt (show k2.length ≤ 1000 by omega) (by decide)), ?_⟩
      refine ⟨_, _, _, _, _, _, _, rfl, fun y o e => ?_, by rw [upd_ne ndw'.symm]; exact e14, upd_same, ?_, ?_, b1.put (fun x => InC.succ) (fun x hx => SomeC.succ.trans ⟨fun z => z.elim id fun y => absurd y.1 hx, .inl⟩) hw1, b2.put (fun x => InC.succ) (fun x hx => AllC.succ.trans ⟨fun z => z.1, fun z => ⟨z, fun y => absurd y hx⟩⟩) hw2⟩
      · rw [upd_ne (ne_of_none e ndwH1)]
        exact sx4 y o e
      · have := putK_len k1 (.inl ((i : Int) / sz)) (.bl w1)
        omega
      · have := putK_len k2 (.inl ((i : Int) / sz)) (.bl w2)
        omega
    · obtain ⟨k1, k2, y5, y6, y7, y8, y9, rfl, sx, e1, e2, l1, l2, b1, b2⟩ := hP
      rw [hwl] at l1 l2 b1 b2
      refine ⟨ds, .dK k1, e1, trivial, fun od => ⟨_, rfl, ds, od, rfl, .inl ⟨k1, upd_same, fun D nD => lc_it walk_keys (KeyW (upd Hx ds (.frz od (.dK k1))) k1 D) ⟨same_upd nD, [], [], upd_same, Prs.nil, Nat.le_refl _, fun c => ⟨fun z => (inS_nil z).elim, fun ⟨i, _, hi, _⟩ => absurd hi (Nat.not_lt_zero i)⟩⟩ (fun j H' _ hP => hP.1 _ _ upd_same) (fun j x H' H'' hj hP hy => ?_) (fun H3 hP => ?_)⟩⟩⟩
      · obtain ⟨rfl, k, v, ek, rfl⟩ := hy
        exact ⟨rfl, key_turn (i := 3) b1 hP nD ek (by omega) upd_same rfl rfl⟩
      obtain ⟨s3, vs3, qs3, eD3, hvs3, hq3, hin3⟩ := hP
      have ef3 := s3 _ _ (upd_same (H := Hx) (a := ds) (o := .frz od (.dK k1)))
      refine ⟨ef3, ?_⟩
      have s13 : Same Hx (upd H3 ds (.dK k1)) := fun y o e => by
        by_cases z : y = ds
        · subst z
          rw [upd_same, ← e1, e]
        · rw [upd_ne z]
          exact s3 y o (by rw [upd_ne z]; exact e)
      have nDs : D ≠ ds := fun z => by rw [z, upd_same] at nD; cases nD
      have eD4 : upd H3 ds (.dK k1) D = some (.lst vs3) := by rw [upd_ne nDs]; exact eD3
      have hvs4 : Prs (upd H3 ds (.dK k1)) vs3 qs3 := ⟨hvs3.1, fun i p ep => by
        obtain ⟨a, f1, f2⟩ := hvs3.2 i p ep
        exact ⟨a, f1, by rw [upd_ne (ne_of f2 ef3 (fun z => nomatch z))]; exact f2⟩⟩
      revert s13 eD4 hvs4
      generalize upd H3 ds (.dK k1) = H4
      intro s13 eD4 hvs4
      refine ⟨D, vs3, qs3, rfl, eD4, hvs4, by omega, fun l5 w5 rs5 H5 nl5 e5 hrs5 told5 len5 s5 => ?_⟩
      have S5 := s13.trans s5
      have e25 := S5 _ _ e2
      refine ⟨_, rfl, dw, .dK k2, e25, trivial, fun od2 => ⟨_, rfl, dw, od2, rfl, .inl ⟨k2, upd_same, fun D2 nD2 => lc_it walk_keys (KeyW (upd H5 dw (.frz od2 (.dK k2))) k2 D2) ⟨same_upd nD2, [], [], upd_same, Prs.nil, Nat.le_refl _, fun c => ⟨fun z => (inS_nil z).elim, fun ⟨i, _, hi, _⟩ => absurd hi (Nat.not_lt_zero i)⟩⟩ (fun j H' _ hP => hP.1 _ _ upd_same) (fun j x H' H'' hj hP hy => ?_) (fun H6 hP => ?_)⟩⟩⟩
      · obtain ⟨rfl, k, v, ek, rfl⟩ := hy
        exact ⟨rfl, key_turn (i := 4) b2 hP nD2 ek (by omega) upd_same rfl rfl⟩
      obtain ⟨s6, vs6, qs6, eD6, hvs6, hq6, hin6⟩ := hP
      have ef6 := s6 _ _ (upd_same (H := H5) (a := dw) (o := .frz od2 (.dK k2)))
      refine ⟨ef6, ?_⟩
      have s56 : Same H5 (upd H6 dw (.dK k2)) := fun y o e => by
        by_cases z : y = dw
        · subst z
          rw [upd_same, ← e25, e]
        · rw [upd_ne z]
          exact s6 y o (by rw [upd_ne z]; exact e)
      have nDw : D2 ≠ dw := fun z => by rw [z, upd_same] at nD2; cases nD2
      have eD7 : upd H6 dw (.dK k2) D2 = some (.lst vs6) := by rw [upd_ne nDw]; exact eD6
      have hvs7 : Prs (upd H6 dw (.dK k2)) vs6 qs6 := ⟨hvs6.1, fun i p ep => by
        obtain ⟨a, f1, f2⟩ := hvs6.2 i p ep
        exact ⟨a, f1, by rw [upd_ne (ne_of f2 ef6 (fun z => nomatch z))]; exact f2⟩⟩
      revert s56 eD7 hvs7
      generalize upd H6 dw (.dK k2) = H7
      intro s56 eD7 hvs7
      refine ⟨D2, vs6, qs6, rfl, eD7, hvs7, by omega, fun l8 w8 rs8 H8 nl8 e8 hrs8 told8 len8 s8 => ⟨(by show 2 ≤ sizeLine; decide), fun T9 nT9 => ?_⟩⟩
      have sT9 := same_upd (o := .tup [.ref l5, .ref l8]) nT9
      have ls5 : LsA H5 l5 rs5 := ⟨w5, e5, hrs5⟩
      have ls8 : LsA H8 l8 rs8 := ⟨w8, e8, hrs8⟩
      refine q T9 l5 l8 rs5 rs8 _ upd_same (((ls5.same s56).same s8).same sT9) (told5.cong fun c => ?_) (by omega) (ls8.same sT9) (told8.cong fun c => ?_) (by omega) (((((s1.trans sx).trans S5).trans s56).trans s8).trans sT9)
      · rw [hin3 c, b1.keys c, hw c]
      · rw [hin6 c, b2.keys c, ha c]
end

open G3
/-! ### rows as data, and more -/
theorem rgc2 {i j : Int} (hi : 0 ≤ i) (hj : i < j) (hb : j ≤ 10 ^ 7) : RgC i j 2 (((j - i - 1) / 2 + 1).toNat) := by
  have e : Builtin.Range.rangeSize i j 2 = (j - i - 1) / 2 + 1 := by
    unfold Builtin.Range.rangeSize
    rw [if_pos (show (2 : Int) > 0 by decide), if_pos hj]
  have h0 : 0 ≤ (j - i - 1) / 2 + 1 := by omega
  refine ⟨by decide, by decide, ?_, by rw [e]; exact (Int.toNat_of_nonneg h0).symm⟩
  unfold Builtin.Range.small
  rw [e]
  simp only [Builtin.Range.rangeFitsLong, Bool.and_eq_true, Bool.or_eq_true, decide_eq_true_eq, beq_iff_eq, show (2 : Int) > 0 by decide, if_true]
  omega
theorem nb_prs (ps : List (Int × Int)) : NoBl (.list (ps.map pairD)) := by
  rw [NoBl]
  refine noBls_of fun d hd => ?_
  obtain ⟨p, _, rfl⟩ := List.mem_map.mp hd
  simp only [pairD, NoBl, NoBls, and_self]
theorem LsA.dat {H : Hp} {l : Addr} {rs : Prs2} (h : LsA H l rs) : Dat H (.ref l) (.list (rs.map pairD)) := let ⟨_, e, p⟩ := h; .lst e (by rw [List.length_map]; exact p.1) (prs_dat p)
def twoD (rs1 rs2 : Prs2) : PyData := .tuple [.list (rs1.map pairD), .list (rs2.map pairD)]
theorem two_dat {H : Hp} {T l1 l2 : Addr} {rs1 rs2 : Prs2} (e : H T = some (.tup [.ref l1, .ref l2])) (h1 : LsA H l1 rs1) (h2 : LsA H l2 rs2) : Dat H (.ref T) (twoD rs1 rs2) := .tup e rfl fun i x d e1 e2 => by
  have hi : i < 2 := (List.getElem?_eq_some_iff.mp e1).1
  have : i = 0 ∨ i = 1 := by omega
  rcases this with rfl | rfl
  · cases e1; cases e2; exact h1.dat
  · cases e1; cases e2; exact h2.dat
theorem two_sm {rs1 rs2 : Prs2} (h1 : rs1.length ≤ 900) (h2 : rs2.length ≤ 900) : Sm 3 (twoD rs1 rs2) := by
  refine ⟨by show 2 ≤ 900; decide, fun d hd => ?_⟩
  rcases List.mem_cons.mp hd with e | hd
  · rw [e]; exact sm_prs h1
  · rw [List.mem_singleton.mp hd]; exact sm_prs h2
theorem two_nb (rs1 rs2 : Prs2) : NoBl (twoD rs1 rs2) := by
  unfold twoD
  rw [NoBl]
  exact noBls_of fun d hd => by
    rcases List.mem_cons.mp hd with e | hd
    · rw [e]; exact nb_prs rs1
    · rw [List.mem_singleton.mp hd]; exact nb_prs rs2
/-- rows whose sets are lists -/
def RowsL (H : Hp) (vs : List V) (rows : Rows) : Prop := vs.length = rows.length ∧ ∀ (i : Nat) v r, vs[i]? = some v → rows[i]? = some r → ∃ a c us, v = .ref a ∧ H a = some (.tup [.str r.1, .ref c]) ∧ H c = some (.lst us) ∧ Prs H us r.2
theorem RowsN.l {H : Hp} {D : Addr} {vs : List V} {rows : Rows} (h : RowsN H D vs rows) : RowsL H vs rows := ⟨h.1, fun i v r e1 e2 => let ⟨a, c, us, f1, f2, f3, f4, _⟩ := h.2 i v r e1 e2; ⟨a, c, us, f1, f2, f3, f4⟩⟩
theorem RowsL.a {H : Hp} {vs : List V} {rows : Rows} (h : RowsL H vs rows) : RowsA H vs rows := ⟨h.1, fun i v r e1 e2 => let ⟨a, c, us, f1, f2, f3, f4⟩ := h.2 i v r e1 e2; ⟨a, c, f1, f2, us, .inl f3, f4⟩⟩
theorem RowsL.same {H H' : Hp} {vs : List V} {rows : Rows} (h : RowsL H vs rows) (s : Same H H') : RowsL H' vs rows := ⟨h.1, fun i v r e1 e2 => let ⟨a, c, us, f1, f2, f3, f4⟩ := h.2 i v r e1 e2; ⟨a, c, us, f1, s _ _ f2, s _ _ f3, f4.same s⟩⟩
theorem RowsL.kt {H H' : Hp} {vs : List V} {rows : Rows} (h : RowsL H vs rows) (k : Kt H H') : RowsL H' vs rows := ⟨h.1, fun i v r e1 e2 => let ⟨a, c, us, f1, f2, f3, f4⟩ := h.2 i v r e1 e2; ⟨a, c, us, f1, k.keep _ _ (fun _ z => nomatch z) f2, k.keep _ _ (fun _ z => nomatch z) f3, f4.kt k⟩⟩
theorem RowsL.kp {H H' : Hp} {d c : Addr} {t : Int} {vs : List V} {rows : Rows} (h : RowsL H vs rows) (S : StAt H d c t) (k : Kp d c H H') : RowsL H' vs rows := ⟨h.1, fun i v r e1 e2 => let ⟨a, c, us, f1, f2, f3, f4⟩ := h.2 i v r e1 e2; ⟨a, c, us, f1, k.tup S f2, k.lst S f3 (noInt_prs f4), f4.kp S k⟩⟩
theorem RowsL.noInt {H : Hp} {vs : List V} {rows : Rows} (h : RowsL H vs rows) : NoInt vs := fun x hx i e => by
  obtain ⟨j, hj, e1⟩ := List.getElem_of_mem hx
  have hj' : j < rows.length := by rw [← h.1]; exact hj
  obtain ⟨a, c, us, f1, _⟩ := h.2 j x _ (by rw [List.getElem?_eq_getElem hj, e1]) (List.getElem?_eq_getElem hj')
  rw [f1] at e
  cases e
theorem RowsL.nil {H : Hp} : RowsL H [] [] := ⟨rfl, fun _ _ _ e => nomatch e⟩
theorem RowsL.app {H : Hp} {vs ws : List V} {rs qs : Rows} (h : RowsL H vs rs) (h' : RowsL H ws qs) : RowsL H (vs ++ ws) (rs ++ qs) :=
  ⟨by rw [List.length_append, List.length_append, h.1, h'.1], fun i v r e1 e2 => (getElem?_app h.1 e1 e2).elim (fun z => h.2 i v r z.1 z.2) (fun z => h'.2 _ v r z.1 z.2)⟩
theorem RowsL.one {H : Hp} {a c : Addr} {us : List V} {r : Str × Prs2} (f2 : H a = some (.tup [.str r.1, .ref c])) (f3 : H c = some (.lst us)) (f4 : Prs H us r.2) : RowsL H [.ref a] [r] := ⟨rfl, fun i v u e1 e2 => by
  have hi : i < 1 := (List.getElem?_eq_some_iff.mp e1).1
  obtain rfl : i = 0 := by omega
  cases e1
  cases e2
  exact ⟨a, c, us, rfl, f2, f3, f4⟩⟩
theorem RowsL.at {H : Hp} {vs : List V} {rows : Rows} {i : Nat} {v : V} (h : RowsL H vs rows) (e : vs[i]? = some v) : ∃ r a c us, rows[i]? = some r ∧ v = .ref a ∧ H a = some (.tup [.str r.1, .ref c]) ∧ H c = some (.lst us) ∧ Prs H us r.2 := by
  have hi : i < rows.length := by rw [← h.1]; exact (List.getElem?_eq_some_iff.mp e).1
  obtain ⟨a, c, us, f⟩ := h.2 i v _ e (List.getElem?_eq_getElem hi)
  exact ⟨_, a, c, us, List.getElem?_eq_getElem hi, f⟩
def rowD (r : Str × Prs2) : PyData := .tuple [.str r.1, .list (r.2.map pairD)]
theorem dp_rows {K : PySem.W.Frag} {H : Hp} : ∀ {vs : List V} {rows : Rows}, RowsL H vs rows → DpAll K H vs (rows.map rowD)
  | [], [], _ => .nil
  | [], _ :: _, h => nomatch h.1
  | _ :: _, [], h => nomatch h.1
  | v :: vs, r :: rs, h => by
    obtain ⟨a, c, us, f1, f2, f3, f4⟩ := h.2 0 v r rfl rfl
    subst f1
    exact .cons (.tup (.inl (.inl f2)) (.cons (.str _) (.cons (.lst (SqL.of f3) (dp_prs f4)) .nil))) (dp_rows ⟨Nat.succ.inj h.1, fun i v q e1 e2 => h.2 (i + 1) v q e1 e2⟩)
theorem lay_rows : ∀ {rows : Rows}, (∀ r ∈ rows, PyData.strOk r.1 = true) → PyData.canLayAll0 (rows.map rowD) = true
  | [], _ => by simp only [List.map_nil, PyData.canLayAll0]
  | r :: rs, h => by
    rw [List.map_cons, PyData.canLayAll0, lay_rows fun q hq => h q (List.mem_cons_of_mem _ hq)]
    have h1 := h r (List.mem_cons_self ..)
    have h2 := lay_prs r.2
    simp only [rowD, PyData.canLay0, PyData.canLayAll0, h1, h2, Bool.and_true]
theorem depth_rows : ∀ rows : Rows, PyData.depthAll (rows.map rowD) ≤ 3
  | [] => by simp only [List.map_nil, PyData.depthAll]; omega
  | r :: rs => by
    rw [List.map_cons, PyData.depthAll]  -- a row, and the rows behind it
    have h1 := depth_rows rs
    have h2 := depth_prs r.2
    simp [rowD, PyData.depth, PyData.depthAll]
    omega
theorem shaped_rows {rows : Rows} (h : ∀ r ∈ rows, PyData.strOk r.1 = true) : SeqAt.shaped (PyData.list (rows.map rowD)) = true := by
  unfold SeqAt.shaped
  rw [PyData.canLay0, lay_rows h, PyData.depth, Bool.true_and]
  exact decide_eq_true (by have := depth_rows rows; omega)
theorem eqv_rows {rows : Rows} (h : ∀ r ∈ rows, PyData.strOk r.1 = true) : PyData.eqv (PyData.list (rows.map rowD)) (PyData.list (rows.map rowD)) = true := SeqAt.eqv_refl _ (SeqAt.canLay_of_shaped (shaped_rows h))
theorem Pts.kt {H H' : Hp} {vs : List V} {ps : List Part} (h : Pts H vs ps) (k : Kt H H') : Pts H' vs ps := Pts.mono h fun _ _ _ ⟨a, e, r⟩ => ⟨a, e, k.keep _ _ (fun _ z => nomatch z) r⟩
theorem PkA.kt {H H' : Hp} {b : Addr} {nm : Str} {sz : Int} {ps : List Part} (h : PkA H b nm sz ps) (k : Kt H H') : PkA H' b nm sz ps := let ⟨a, us, e, h1, h2⟩ := h; ⟨a, us, k.keep _ _ (fun _ z => nomatch z) e, h1.imp (fun f => k.keep _ _ (fun _ z => nomatch z) f) (fun f => k.keep _ _ (fun _ z => nomatch z) f), Pts.kt h2 k⟩
theorem SpA.kt {H H' : Hp} {a : Addr} {rs : Prs2} (h : SpA H a rs) (k : Kt H H') : SpA H' a rs := let ⟨us, e, p⟩ := h; ⟨us, e.imp (fun f => k.keep _ _ (fun _ z => nomatch z) f) (fun f => k.keep _ _ (fun _ z => nomatch z) f), p.kt k⟩
theorem RowsA.kt {H H' : Hp} {vs : List V} {rows : Rows} (h : RowsA H vs rows) (k : Kt H H') : RowsA H' vs rows := ⟨h.1, fun i v r e1 e2 => let ⟨a, c, e, f, g⟩ := h.2 i v r e1 e2; ⟨a, c, e, k.keep _ _ (fun _ z => nomatch z) f, g.kt k⟩⟩
theorem RowsA.kp {H H' : Hp} {d c : Addr} {t : Int} {vs : List V} {rows : Rows} (h : RowsA H vs rows) (S : StAt H d c t) (k : Kp d c H H') : RowsA H' vs rows := ⟨h.1, fun i v r e1 e2 => let ⟨a, c, e, f, g⟩ := h.2 i v r e1 e2; ⟨a, c, e, k.tup S f, g.kp S k⟩⟩
theorem RowsA.noInt {H : Hp} {vs : List V} {rows : Rows} (h : RowsA H vs rows) : NoInt vs := fun x hx i e => by
  obtain ⟨j, hj, e1⟩ := List.getElem_of_mem hx
  obtain ⟨r, a, c, _, f1, _⟩ := h.at (by rw [List.getElem?_eq_getElem hj, e1])
  rw [f1] at e
  cases e
theorem Kt.put {H H' : Hp} {l : Addr} {o : HO} (k : Kt H H') (nl : H l = none) : Kt H (upd H' l o) := ⟨fun b u h e => by rw [upd_ne (ne_of_none e nl)]; exact k.keep b u h e, fun P g => by
  obtain ⟨ps, e, _⟩ := id g
  obtain ⟨ps', e', r'⟩ := k.tab P g
  exact ⟨ps', by rw [upd_ne (ne_of_none e nl)]; exact e', r'⟩⟩
/-- every second number -/
def oddF (f : Int) (n : Nat) : Prs2 := (List.range n).map fun j : Nat => (f + (j : Int) * 2, f + (j : Int) * 2)
theorem oddF_ris : ∀ (n : Nat) {f lo : Int}, lo ≤ f → Ris lo (oddF f n)
  | 0, _, _, _ => True.intro
  | n + 1, f, lo, h => by
    have e : oddF f (n + 1) = (f, f) :: oddF (f + 2) n := by
      unfold oddF
      rw [List.range_succ_eq_map, List.map_cons, List.map_map]
      have e0 : f + ((0 : Nat) : Int) * 2 = f := by simp
      rw [e0]
      refine congrArg (List.cons _) (List.map_congr_left fun j _ => ?_)
      show (f + ((j + 1 : Nat) : Int) * 2, f + ((j + 1 : Nat) : Int) * 2) = (f + 2 + (j : Int) * 2, f + 2 + (j : Int) * 2)
      have : f + ((j + 1 : Nat) : Int) * 2 = f + 2 + (j : Int) * 2 := by omega
      rw [this]
    rw [e]
    exact ⟨h, Int.le_refl _, oddF_ris n (Int.le_refl _)⟩
theorem ris_take : ∀ {lo : Int} {rs : Prs2} (n : Nat), Ris lo rs → Ris lo (rs.take n)
  | _, [], n, _ => by rw [List.take_nil]; exact True.intro
  | _, _ :: _, 0, _ => True.intro
  | _, _ :: _, n + 1, h => ⟨h.1, h.2.1, ris_take n h.2.2⟩

open G3
/-! ### the law -/
theorem RowsN.same' {H H' : Hp} {D : Addr} {vs : List V} {rows : Rows} (h : RowsN H D vs rows) (s : Same H H') : RowsN H' D vs rows := ⟨h.1, fun i v r e1 e2 => let ⟨a, c, us, f1, f2, f3, f4, f5⟩ := h.2 i v r e1 e2; ⟨a, c, us, f1, s _ _ f2, s _ _ f3, f4.same s, f5⟩⟩
theorem RowsN.snoc {H : Hp} {D a c : Addr} {us vs : List V} {rows : Rows} {r : Str × Prs2} (h : RowsN H D vs rows) (f2 : H a = some (.tup [.str r.1, .ref c])) (f3 : H c = some (.lst us)) (f4 : Prs H us r.2) (f5 : c ≠ D) : RowsN H D (vs ++ [.ref a]) (rows ++ [r]) :=
  ⟨by rw [List.length_append, List.length_append, h.1]; rfl, fun i v q e1 e2 => (getElem?_app h.1 e1 e2).elim (fun z => h.2 i v q z.1 z.2) (fun z => by
    have hi : i - vs.length < 1 := (List.getElem?_eq_some_iff.mp z.1).1
    have e0 : i - vs.length = 0 := by omega
    rw [e0] at z
    obtain ⟨z1, z2⟩ := z
    cases z1
    cases z2
    exact ⟨a, c, us, rfl, f2, f3, f4, f5⟩)⟩
/-- rows, their sets lists or tuples, apart from D -/
def RowsX (H : Hp) (D : Addr) (vs : List V) (rows : Rows) : Prop := vs.length = rows.length ∧ ∀ (i : Nat) v r, vs[i]? = some v → rows[i]? = some r → ∃ a c, v = .ref a ∧ H a = some (.tup [.str r.1, .ref c]) ∧ SpA H c r.2 ∧ c ≠ D
theorem RowsX.a {H : Hp} {D : Addr} {vs : List V} {rows : Rows} (h : RowsX H D vs rows) : RowsA H vs rows := ⟨h.1, fun i v r e1 e2 => let ⟨a, c, f1, f2, f3, _⟩ := h.2 i v r e1 e2; ⟨a, c, f1, f2, f3⟩⟩
theorem RowsX.kp {H H' : Hp} {d c D : Addr} {t : Int} {vs : List V} {rows : Rows} (h : RowsX H D vs rows) (S : StAt H d c t) (k : Kp d c H H') : RowsX H' D vs rows := ⟨h.1, fun i v r e1 e2 => let ⟨a, c, f1, f2, f3, f4⟩ := h.2 i v r e1 e2; ⟨a, c, f1, k.tup S f2, f3.kp S k, f4⟩⟩
theorem RowsX.same {H H' : Hp} {D : Addr} {vs : List V} {rows : Rows} (h : RowsX H D vs rows) (s : Same H H') : RowsX H' D vs rows := ⟨h.1, fun i v r e1 e2 => let ⟨a, c, f1, f2, f3, f4⟩ := h.2 i v r e1 e2; ⟨a, c, f1, s _ _ f2, f3.same s, f4⟩⟩
theorem SpA.upd_ne {H : Hp} {D c : Addr} {rs : Prs2} {xs : List V} {o : HO} (h : SpA H c rs) (n : c ≠ D) (e : H D = some (.lst xs)) : SpA (upd H D o) c rs := let ⟨us, f, p⟩ := h; ⟨us, f.imp (fun f => by rw [L2.upd_ne n]; exact f) (fun f => by rw [L2.upd_ne n]; exact f), p.upd_lst e⟩
theorem RowsX.snoc {H : Hp} {D a c : Addr} {xs vs : List V} {rows : Rows} {r : Str × Prs2} {o : HO} (h : RowsX H D vs rows) (e : H D = some (.lst xs)) (f2 : H a = some (.tup [.str r.1, .ref c])) (f3 : SpA H c r.2) (f4 : c ≠ D) : RowsX (upd H D o) D (vs ++ [.ref a]) (rows ++ [r]) := by
  refine ⟨by rw [List.length_append, List.length_append, h.1]; rfl, fun i v q e1 e2 => (getElem?_app h.1 e1 e2).elim (fun z => ?_) (fun z => ?_)⟩
  · obtain ⟨a', c', g1, g2, g3, g4⟩ := h.2 i v q z.1 z.2
    exact ⟨a', c', g1, by rw [upd_ne (ne_of g2 e (fun z => nomatch z))]; exact g2, g3.upd_ne g4 e, g4⟩
  · have hi : i - vs.length < 1 := (List.getElem?_eq_some_iff.mp z.1).1
    have e0 : i - vs.length = 0 := by omega
    rw [e0] at z
    obtain ⟨z1, z2⟩ := z
    cases z1
    cases z2
    exact ⟨a, c, rfl, by rw [upd_ne (ne_of f2 e (fun z => nomatch z))]; exact f2, f3.upd_ne f4 e, f4⟩
theorem told_nil {pr : Int → Prop} {rs : Prs2} (h : Told pr rs) (no : ∀ n, ¬ pr n) : rs = [] := h.one (pr' := fun _ => False) ⟨⟨0, True.intro⟩, fun _ => ⟨fun z => inS_nil z, False.elim⟩⟩ fun n => ⟨fun z => no n z, False.elim⟩
/-- what stands all along -/
structure MidF (Pt d c ml nl b l : Addr) (t : Int) (nm : Str) (sz : Int) (xs nms : List Str) (us : List V) (ps : List Part) (H : Hp) : Prop where
  st : StAt H d c t
  tab : GxR.TabG H Pt
  em : H ml = some (.lst (xs.map V.str))
  en : H nl = some (.lst (nms.map V.str))
  eb : H b = some (.tup [.str nm, .int sz, .ref l])
  el : H l = some (.lst us)
  hus : Pts H us ps
theorem MidF.kp {Pt d c ml nl b l : Addr} {t t' : Int} {nm : Str} {sz : Int} {xs nms : List Str} {us : List V} {ps : List Part} {H H' : Hp} (m : MidF Pt d c ml nl b l t nm sz xs nms us ps H) (S : StAt H' d c t') (k : Kp d c H H') : MidF Pt d c ml nl b l t' nm sz xs nms us ps H' :=
  ⟨S, tabG_kp m.tab m.st k, k.lst m.st m.em (noInt_strs xs), k.lst m.st m.en (noInt_strs nms), k.tup m.st m.eb, k.lst m.st m.el (Pts.noInt m.hus), Pts.kp m.hus m.st k⟩
theorem MidF.kt {Pt d c ml nl b l : Addr} {t : Int} {nm : Str} {sz : Int} {xs nms : List Str} {us : List V} {ps : List Part} {H H' : Hp} (m : MidF Pt d c ml nl b l t nm sz xs nms us ps H) (k : Kt H H') : MidF Pt d c ml nl b l t nm sz xs nms us ps H' :=
  ⟨m.st.kt k, k.tab _ m.tab, k.keep _ _ (fun _ z => nomatch z) m.em, k.keep _ _ (fun _ z => nomatch z) m.en, k.keep _ _ (fun _ z => nomatch z) m.eb, k.keep _ _ (fun _ z => nomatch z) m.el, Pts.kt m.hus k⟩
theorem MidF.same {Pt d c ml nl b l : Addr} {t : Int} {nm : Str} {sz : Int} {xs nms : List Str} {us : List V} {ps : List Part} {H H' : Hp} (m : MidF Pt d c ml nl b l t nm sz xs nms us ps H) (s : Same H H') : MidF Pt d c ml nl b l t nm sz xs nms us ps H' := m.kt (Kt.same s)
theorem MidF.pk {Pt d c ml nl b l : Addr} {t : Int} {nm : Str} {sz : Int} {xs nms : List Str} {us : List V} {ps : List Part} {H : Hp} (m : MidF Pt d c ml nl b l t nm sz xs nms us ps H) : PkA H b nm sz ps := ⟨l, us, m.eb, .inl m.el, m.hus⟩
def rLo (K : PySem.W.Frag) : List V → Hp → VK → Prop := fun xs H Q => ∃ p ys, xs = [V.ref p] ∧ (SqL K H p ys ∨ SqT K H p ys) ∧ ∀ l, H l = none → Q (.ref l) (upd H l (.lst ys))
def rTo (K : PySem.W.Frag) : List V → Hp → VK → Prop := fun xs H Q => ∃ p ys, xs = [V.ref p] ∧ ((SqL K H p ys ∧ ∀ l, H l = none → Q (.ref l) (upd H l (.tup ys))) ∨ (SqT K H p ys ∧ Q (.ref p) H))
abbrev lawN : List Str := ["_law_script", "_law_state", "_law_marks", "_law_name", "_law_packing", "_law_turn", "_law_rows", "_law_mark", "_law_first", "_law_last", "_law_odd", "_law_handed", "_law_given_here", "_law_due_here", "_law_second", "_law_tin", "_law_row", "_law_tins"]
abbrev sLaw : Stmt := topS 27
theorem scLaw : FnScope ["_law_script", "_law_state", "_law_marks", "_law_name", "_law_packing", "_law_turn", "_law_rows", "_law_mark", "_law_first", "_law_last", "_law_odd", "_law_handed", "_law_given_here", "_law_due_here", "_law_second", "_law_tin", "_law_row", "_law_tins"] ["_law_script"] (defScope sLaw) := ⟨rfl, rfl, rfl, by decide +kernel, rfl, by decide +kernel, by decide +kernel⟩
def spLaw (K : PySem.W.Frag) (Pt : Addr) : Sp := fun vs H Q _ => ∃ (a : Addr) (ns : List Int), vs = [.ref a] ∧ SqL K H a (ns.map V.int) ∧ ns.length ≤ 63 ∧ GxR.TabG H Pt ∧ ∀ H', Q (.bl true) H'
section
variable {K : PySem.W.Frag} {mg : Str → Option Value} {P : Program} {w : World} {base : Heap}
theorem ok_law {f Pt : Addr} {fd : FuncData} (F : Fun K "law" "law" sLaw f fd) (CB : Cal P w K mg base 1 "_law_begin" ["_law_script"] (spBegin K)) (CT : Cal P w K mg base 1 "_law_take" ["_law_state", "_law_many"] spTake) (CN : Cal P w K mg base 2 "_law_names" ["_law_state", "_law_many"] spNames) (CM : Cal P w K mg base 2 "_law_marks_by" ["_law_state", "_law_many"] spNames)
    (CK : Cal P w K mg base 4 "_law_packing_by" ["_law_state", "_law_name", "_law_marks", "_law_great"] spPackBy) (CR : Cal P w K mg base 3 "_law_marked_by" ["_law_state", "_law_marks", "_law_packing", "_law_great"] spMarked) (CG : Cal P w K mg base 2 "_law_given" ["_law_state", "_law_packing"] spGiven) (CD : Cal P w K mg base 2 "_law_due" ["_law_packing", "_law_rows"] spDue) (CW : Cal P w K mg base 3 "cases_with" ["packing", "marked"] spWith) (CA : Cal P w K mg base 4 "cases_all" ["packing", "marked"] (spAll Pt)) (CE : Cal P w K mg base 4 "_law_same" ["_law_found", "_law_due_here"] (spSame 3))
    (mr : mg "range" = none) (me : mg "len" = none) (ml' : mg "list" = none) (mt : mg "tuple" = none) :
    FnOk P w K mg base CX0 5 f fd ["_law_script"] (spLaw K Pt) := by
  refine F.ok scLaw (fun vs H Q E h => ?_) (fun cdv A outer s H vs Q E hr h => ?_)
  · obtain ⟨a, ns, rfl, _⟩ := h
    rfl
  · obtain ⟨a, ns, rfl, hS, hlen, hT, q⟩ := h
    have hr1 := hr.mono (show 1 ≤ 4 by decide)
    have hr2 := hr.mono (show 2 ≤ 4 by decide)
    have hr3 := hr.mono (show 3 ≤ 4 by decide)
    refine ⟨_, pss_cons (ps_set (i := 1) scLaw.nd rfl (.inr rfl) (pe_own CB hr1 (by rfl) (pa_cons (pv 0) pa_nil)))
      (pss_cons (ps_set (i := 2) scLaw.nd rfl (.inl rfl) (pe_own CM hr2 (by rfl) (pa_cons (pv 1) (pa_cons pe_int pa_nil))))
      (pss_cons (ps_for PassesOwn.never rfl (pi_list (pe_own CN hr2 (by rfl) (pa_cons (pv 1) (pa_cons pe_int pa_nil)))) (pg_name (i := 3) scLaw.nd rfl (.inl rfl))
        (pss_cons (ps_set (i := 4) scLaw.nd rfl (.inl rfl) (pe_own CK hr (by rfl) (pa_cons (pv 1) (pa_cons (pv 3) (pa_cons (pe_slice sl_list (pv 2) po_none (po_some pe_int)) (pa_cons pe_int pa_nil))))))
        (pss_cons (ps_for PassesOwn.never rfl (pi_range1 (by rfl) mr (pa_cons pe_int pa_nil)) (pg_name (i := 5) scLaw.nd rfl (.inl rfl))
          (pss_cons (ps_set (i := 6) scLaw.nd rfl (.inl rfl) (pe_own CR hr3 (by rfl) (pa_cons (pv 1) (pa_cons (pv 2) (pa_cons (pv 4) (pa_cons pe_int pa_nil))))))
          (Evl.pss_cut (ps_if (PW.pt (pw_and (pt_cmpR (op_neD hr.units) (pe_ix ix_tup (pv 4) pe_int (fun _ _ => rfl)) (pe_lst pa_nil) (nomark _)) (pw_and1 (pt_cmpR op_eq (pe_own CT hr1 (by rfl) (pa_cons (pv 1) (pa_cons pe_int pa_nil))) pe_int (nomark _)))))
            (pss_cons (ps_asg (pe_ix ix_list (pe_ix ix_tup (pv 4) pe_int (fun _ _ => rfl)) (pe_own CT hr1 (by rfl) (pa_cons (pv 1) (pa_cons (pe_callB call_len_seq (by rfl) me PySem.boot_len (pa_cons (pe_ix ix_tup (pv 4) pe_int (fun _ _ => rfl)) pa_nil)) pa_nil))) (fun _ _ => rfl)) (pg_tup rfl (pgs_cons (pg_name (i := 7) scLaw.nd rfl (.inr rfl)) (pgs_cons (pg_name (i := 8) scLaw.nd rfl (.inl rfl)) (pgs_cons (pg_name (i := 9) scLaw.nd rfl (.inl rfl)) pgs_nil)))))
            (pss_cons (ps_setLc (i := 10) (own := [("_law_tin", 15)]) (g := gName 15) (tt := tYes) (te := tTup (tCons (tVar 15) (tCons (tVar 15) tNil))) rfl scLaw.nd rfl rfl rfl (pi_range3 (by rfl) mr (pa_cons (pv 8) (pa_cons (pe_op op_add (pv 9) pe_int) (pa_cons pe_int pa_nil))))
              (blkOk_by (own := [("_law_tin", 15)]) (N := lawN) (sc := defScope sLaw) (by decide +kernel)) (fun _ _ _ _ _ => pg_name (i := 15) scLaw.nd rfl (.inl rfl)) (fun _ _ _ _ _ => pts_nil) (fun _ _ _ _ _ => pe_tup (pa_cons (pv 15) (pa_cons (pv 15) pa_nil))))
            (pss_one (ps_set (i := 6) scLaw.nd rfl (.inl rfl) (pe_op op_cat (pe_lc (own := [("_law_row", 16)]) (g := gName 16) (tt := tTest (tOp rNe (tOp (rIxT K) (tVar 16) (tC (.int 0))) (tVar 7))) (te := tVar 16) rfl scLaw.nd (pi_list (pv 6))
              (blkOk_by (own := [("_law_row", 16)]) (N := lawN) (sc := defScope sLaw) (by decide +kernel)) (fun _ _ _ _ _ => pg_name (i := 16) scLaw.nd rfl (.inl rfl)) (fun _ _ _ _ _ => pts_one (pt_cmpR op_ne (pe_ix ix_tup (pv 16) pe_int (fun _ _ => rfl)) (pv 7) (nomark _))) (fun _ _ _ _ _ => pv 16)) (pe_lst (pa_cons (pe_tup (pa_cons (pv 7) (pa_cons (pe_slice sl_list (pv 10) po_none (po_some pe_int)) pa_nil))) pa_nil))))))) pss_nil)
          (pss_cons (ps_setLc (i := 11) (own := [("_law_mark", 7), ("_law_tins", 17)]) (g := gTup K 2 (gCons (gName 7) (gCons (gName 17) gNil))) (tt := tYes) (te := tTup (tCons (tVar 7) (tCons (tOp (rIxL K) (tLst (tCons (tCB (rLo K) (tCons (tVar 17) tNil)) (tCons (tCB (rTo K) (tCons (tVar 17) tNil)) tNil))) (tCall spTake [] E0 (tCons (tVar 1) (tCons (tC (.int 2)) tNil)))) tNil))) rfl scLaw.nd rfl rfl rfl (pi_list (pv 6))
              (blkOk_by (own := [("_law_mark", 7), ("_law_tins", 17)]) (N := lawN) (sc := defScope sLaw) (by decide +kernel)) (fun _ _ _ _ _ => pg_tup rfl (pgs_cons (pg_name (i := 7) scLaw.nd rfl (.inl rfl)) (pgs_cons (pg_name (i := 17) scLaw.nd rfl (.inl rfl)) pgs_nil))) (fun _ _ _ _ _ => pts_nil) (fun _ _ _ _ _ => pe_tup (pa_cons (pv 7) (pa_cons (pe_ix ix_list (pe_lst (pa_cons (pe_callTy call_list_of (by rfl) ml' (by decide +kernel) (pa_cons (pv 17) pa_nil)) (pa_cons (pe_callTy call_tuple_of (by rfl) mt (by decide +kernel) (pa_cons (pv 17) pa_nil)) pa_nil))) (pe_own CT hr1 (by rfl) (pa_cons (pv 1) (pa_cons pe_int pa_nil))) (fun _ _ => rfl)) pa_nil))))
          (pss_cons (ps_par rfl scLaw.nd (i := 12) (j := 13) rfl rfl (by decide) rfl rfl (pa_cons (pe_own CG hr2 (by rfl) (pa_cons (pv 1) (pa_cons (pv 4) pa_nil))) (pa_cons (pe_own CD hr2 (by rfl) (pa_cons (pv 4) (pa_cons (pv 6) pa_nil))) pa_nil)) (by rfl))
          (pss_cons (ps_par rfl scLaw.nd (i := 8) (j := 14) rfl rfl (by decide) rfl rfl (pa_cons (pe_own CW hr3 (by rfl) (pa_cons (pv 12) (pa_cons (pv 11) pa_nil))) (pa_cons (pe_own CA hr (by rfl) (pa_cons (pv 12) (pa_cons (pe_callTy call_tuple_of (by rfl) mt (by decide +kernel) (pa_cons (pv 11) pa_nil)) pa_nil))) pa_nil)) (by rfl))
          (pss_cons (ps_if (pt_not (pt_val (pe_own CE hr (by rfl) (pa_cons (pe_tup (pa_cons (pv 8) (pa_cons (pv 14) pa_nil))) (pa_cons (pv 13) pa_nil))))) (pss_one (ps_ret pe_bl)) pss_nil)
          (pss_cons (ps_expr (pe_bm PySem.F.plainAttrs_list PySem.F.slot_list_append PySem.F.type_list_append mt_append (pv 8) (pa_cons (pe_tup (pa_cons pe_int (pa_cons pe_int pa_nil))) pa_nil)))
          (pss_cons (ps_expr (pe_bm PySem.F.plainAttrs_list PySem.F.slot_list_append PySem.F.type_list_append mt_append (pv 14) (pa_cons (pe_tup (pa_cons pe_int (pa_cons pe_int pa_nil))) pa_nil)))
          (pss_cons (ps_if (pt_not (pt_val (pe_own CE hr (by rfl) (pa_cons (pe_tup (pa_cons (pe_own CW hr3 (by rfl) (pa_cons (pv 12) (pa_cons (pe_callTy call_tuple_of (by rfl) mt (by decide +kernel) (pa_cons (pv 11) pa_nil)) pa_nil))) (pa_cons (pe_own CA hr (by rfl) (pa_cons (pv 12) (pa_cons (pv 11) pa_nil))) pa_nil))) (pa_cons (pv 13) pa_nil))))) (pss_one (ps_ret pe_bl)) pss_nil)
          (pss_one (ps_if (PW.pt (pw_or (pt_cmpR (op_neD hr.units) (pe_lc (own := [("_law_mark", 7), ("_law_tins", 17)]) (g := gTup K 2 (gCons (gName 7) (gCons (gName 17) gNil))) (tt := tYes) (te := tTup (tCons (tVar 7) (tCons (tCB (rLo K) (tCons (tVar 17) tNil)) tNil))) rfl scLaw.nd (pi_list (pv 11))
              (blkOk_by (own := [("_law_mark", 7), ("_law_tins", 17)]) (N := lawN) (sc := defScope sLaw) (by decide +kernel)) (fun _ _ _ _ _ => pg_tup rfl (pgs_cons (pg_name (i := 7) scLaw.nd rfl (.inl rfl)) (pgs_cons (pg_name (i := 17) scLaw.nd rfl (.inl rfl)) pgs_nil))) (fun _ _ _ _ _ => pts_nil) (fun _ _ _ _ _ => pe_tup (pa_cons (pv 7) (pa_cons (pe_callTy call_list_of (by rfl) ml' (by decide +kernel) (pa_cons (pv 17) pa_nil)) pa_nil)))) (pv 6) (nomark _)) (pw_or1 (pt_cmpR (op_neD hr.units) (pe_callTy call_list_of (by rfl) ml' (by decide +kernel) (pa_cons (pe_ix ix_tup (pv 12) pe_int (fun _ _ => rfl)) pa_nil)) (pe_ix ix_tup (pv 4) pe_int (fun _ _ => rfl)) (nomark _))))) (pss_one (ps_ret pe_bl)) pss_nil))))))))))))
        (pss_one (ps_if (PW.pt (pw_or (pt_cmpR (op_neD hr.units) (pe_own CW hr3 (by rfl) (pa_cons (pv 4) (pa_cons (pe_lst pa_nil) pa_nil))) (pe_lst pa_nil) (nomark _)) (pw_or1 (pt_cmpR (op_neD hr.units) (pe_own CA hr (by rfl) (pa_cons (pv 4) (pa_cons (pe_lst pa_nil) pa_nil))) (pe_lst pa_nil) (nomark _))))) (pss_one (ps_ret pe_bl)) pss_nil)))))
      (pss_one (ps_ret pe_bl)))), ?_⟩
    refine ⟨.ref a, rfl, a, ns, rfl, hS, hlen, fun d c H1 s1 nd nc hS1 => ?_⟩
    refine ⟨_, rfl, d, c, 0, 3, rfl, hS1, by decide, by decide, by decide, fun ml xs t2 H2 nml eml hxs hxl hnd t20 t21 hS2 k2 => ?_⟩
    refine ⟨_, rfl, d, c, t2, 3, rfl, hS2, by omega, by decide, by decide, fun nl nms t3 H3 nnl enl hns hnl hnn t30 t31 hS3 k3 => ?_⟩
    have hT3 : GxR.TabG H3 Pt := tabG_kp (tabG_kp (tabG_same hT s1) hS1 k2) hS2 k3
    refine ⟨nl, rfl, ⟨_, SqL.of enl⟩, for_list (xs := nms.map V.str) (fun i σ Hx => ∃ (t : Int) (y3 y4 y5 y6 y7 y8 y9 y10 y11 y12 y13 y14 : Option V), σ = [some (.ref a), some (.ref d), some (.ref ml), y3, y4, y5, y6, y7, y8, y9, y10, y11, y12, y13, y14, none, none, none] ∧ 0 ≤ t ∧ t ≤ 40 + 2000 * i ∧ StAt Hx d c t ∧ GxR.TabG Hx Pt ∧ Hx ml = some (.lst (xs.map V.str)) ∧ Hx nl = some (.lst (nms.map V.str)))
      ⟨t3, _, _, _, _, _, _, _, _, _, _, _, _, rfl, by omega, by omega, hS3, hT3, k3.lst hS2 eml (noInt_strs xs), enl⟩ (fun i σ Hx _ hP => ?_) (fun i x σ Hx hx hP => ?_) (fun σ Hx hP => ?_)⟩
    · obtain ⟨_, _, _, _, _, _, _, _, _, _, _, _, _, rfl, _, _, _, _, _, e⟩ := hP
      exact SqL.of e
    · obtain ⟨t, y3, y4, y5, y6, y7, y8, y9, y10, y11, y12, y13, y14, rfl, t0, t1, hSx, hTx, emx, enx⟩ := hP
      obtain ⟨nm, emk, rfl⟩ : ∃ nm, nms[i]? = some nm ∧ x = .str nm := by
        rw [List.getElem?_map] at hx
        cases h : nms[i]? with
        | none => rw [h] at hx; cases hx
        | some n => rw [h] at hx; exact ⟨n, rfl, (Option.some.inj hx).symm⟩
      have hi : i < 3 := by
        have := (List.getElem?_eq_some_iff.mp emk).1
        omega
      -- packing
      refine ⟨_, rfl, _, rfl, _, rfl, 2, rfl, ml, _, rfl, SqL.of emx, fun cu ncu => ?_⟩
      have scu := same_upd (o := .lst (cutV (xs.map V.str) none (some 2))) ncu
      have ecu : upd Hx cu (.lst (cutV (xs.map V.str) none (some 2))) cu = some (.lst ((xs.take 2).map V.str)) := by
        rw [upd_same]
        exact congrArg (fun z => some (HO.lst z)) (by rw [show (some (2 : Int)) = some ((2 : Nat) : Int) from rfl, cut_front, List.map_take])
      have hne2 : xs.take 2 ≠ [] := fun z => by
        have := congrArg List.length z
        rw [List.length_take] at this
        have h0 : ([] : List Str).length = 0 := rfl
        omega
      refine ⟨d, c, cu, t, 0, nm, xs.take 2, rfl, hSx.same scu, by omega, ecu, fun x hx => hxs x (List.mem_of_mem_take hx), hne2, by rw [List.length_take]; omega, .inl rfl, fun b l us ps sz t5 H5 eb el hus hpl hps sz0 szB t50 t51 hS5 k5 => ?_⟩
      have kx5 : Kp d c Hx H5 := (Kp.same d c scu).trans k5
      have m5 : MidF Pt d c ml nl b l t5 nm sz xs nms us ps H5 := ⟨hS5, tabG_kp hTx hSx kx5, kx5.lst hSx emx (noInt_strs xs), kx5.lst hSx enx (noInt_strs nms), eb, el, hus⟩
      have hfew : ∀ p ∈ ps, Few p := fun p hp => drawn0 (hps p hp) hpl
      have hstr : ∀ p ∈ ps, PyData.strOk p.1 = true := fun p hp => (hps p hp).1
      have hle : ∀ p ∈ ps, p.2.1 ≤ p.2.2 := fun p hp => (hps p hp).2.2.1
      have hcnt := cntF40 hps
      refine ⟨2, rfl, by decide, by decide, for_range (n := 2) (fun j σ Hy => ∃ (t : Int) (y5 y6 y7 y8 y9 y10 y11 y12 y13 y14 : Option V), σ = [some (.ref a), some (.ref d), some (.ref ml), some (.str nm), some (.ref b), y5, y6, y7, y8, y9, y10, y11, y12, y13, y14, none, none, none] ∧ t5 ≤ t ∧ t ≤ t5 + 500 * j ∧ MidF Pt d c ml nl b l t nm sz xs nms us ps Hy)
        ⟨t5, _, _, _, _, _, _, _, _, _, _, rfl, by omega, by omega, m5⟩ (fun j σ Hy hj hP => ?_) (fun σ Hy hP => ?_)⟩
      · obtain ⟨t, y5, y6, y7, y8, y9, y10, y11, y12, y13, y14, rfl, u0, u1, m⟩ := hP
        -- rows
        refine ⟨_, rfl, _, rfl, _, rfl, d, c, ml, b, l, t, 0, sz, nm, xs, us, ps, rfl, m.st, by omega, m.em, hnd, by omega, m.eb, m.el, m.hus, hpl, hstr, .inl rfl, fun rl mv rows t6 H6 nrl erl hrows hgood hin hrlen t60 t61 hS6 k6 => ?_⟩
        have m6 := m.kp hS6 k6
        have hstr6 : ∀ r ∈ rows, PyData.strOk r.1 = true := fun r hr => hxs r.1 (hin r hr)
        refine ⟨fun σ' H' => ∃ (rl : Addr) (mv : List V) (rows : Rows) (t7 : Int) (y7 y8 y9 y10 : Option V), σ' = [some (.ref a), some (.ref d), some (.ref ml), some (.str nm), some (.ref b), some (.int (0 + (j : Int))), some (.ref rl), y7, y8, y9, y10, y11, y12, y13, y14, none, none, none] ∧ H' rl = some (.lst mv) ∧ RowsL H' mv rows ∧ GoodR rows ∧ (∀ r ∈ rows, PyData.strOk r.1 = true) ∧ t6 ≤ t7 ∧ t7 ≤ t6 + 2 ∧ MidF Pt d c ml nl b l t7 nm sz xs nms us ps H', ?_, fun σ' H7 hM => ?_⟩
        · refine ⟨_, rfl, b, _, 2, .ref l, rfl, rfl, .inl (.inl m6.eb), atI_nat (j := 2) rfl, Nat.zero_le _, fun z nz => ?_⟩
          have sz1 := same_upd (o := .lst []) nz
          refine ⟨_, _, .lst (SqL.of (sz1 _ _ m6.el)) (dp_pts (Pts.same m6.hus sz1)), .lst (SqL.of upd_same) .nil, shaped_pts hstr, shaped_pts (ps := []) (fun _ z => nomatch z), _, rfl, ?_⟩
          rw [eqv_pts_nil]
          have m7 := m6.same sz1
          have erl7 := sz1 _ _ erl
          have hrows7 := hrows.l.same sz1
          revert m7 erl7 hrows7
          generalize upd H6 z (.lst []) = H7
          intro m7 erl7 hrows7
          refine ite2 (fun c1 => ?_) (fun c1 => iteF ⟨rl, mv, rows, t6, _, _, _, _, rfl, erl7, hrows7, hgood, hstr6, by omega, by omega, m7⟩)
          have hne : ps ≠ [] := fun e => by rw [e] at c1; exact absurd c1 (by decide)
          have hpos := List.length_pos_iff.mpr hne
          have hul := m7.hus.1
          refine ⟨_, rfl, d, c, t6, 4, rfl, m7.st, by omega, by decide, by decide, fun r8 H8 r80 r81 hS8 k8 => ⟨rfl, _, rfl, ite2 (fun c2 => ?_) (fun c2 => ⟨rl, mv, rows, t6 + 1, _, _, _, _, rfl, k8.lst m7.st erl7 hrows7.noInt, hrows7.kp m7.st k8, hgood, hstr6, by omega, by omega, m7.kp hS8 k8⟩)⟩⟩
          have m8 := m7.kp hS8 k8
          refine ⟨_, rfl, b, _, 2, .ref l, rfl, rfl, .inl (.inl m8.eb), atI_nat (j := 2) rfl, _, rfl, _, rfl, b, _, 2, .ref l, rfl, rfl, .inl (.inl m8.eb), atI_nat (j := 2) rfl, l, us, rfl, Sq.list m8.el, d, c, t6 + 1, (us.length : Int), rfl, m8.st, by omega, by omega, by omega, fun r9 H9 r90 r91 hS9 k9 => ?_⟩
          have m9 := m8.kp hS9 k9
          have k79 := k8.trans k9
          have erl9 := k79.lst m7.st erl7 hrows7.noInt
          have hrows9 := hrows7.kp m7.st k79
          obtain ⟨j9, rfl⟩ := Int.eq_ofNat_of_zero_le r90
          have hj9 : j9 < us.length := by omega
          obtain ⟨p, ep, g, eg0, eg⟩ := Pts.at m9.hus (List.getElem?_eq_getElem hj9)
          obtain ⟨f1, f2, f3, f4, f5⟩ := hfew p (List.mem_of_getElem? ep)
          refine ⟨l, _, (j9 : Int), .ref g, rfl, rfl, SqL.of m9.el, atI_nat (by rw [List.getElem?_eq_getElem hj9, eg0]), g, _, rfl, .inl (.inl eg), rfl, _, _, rfl, _, _, rfl, _, _, rfl, rfl, ?_⟩
          have hn : ((p.2.2 + 1 - p.2.1 - 1) / 2 + 1).toNat ≤ 300 := by omega
          refine ⟨_, rfl, _, rfl, p.2.2, 1, rfl, rfl, p.2.1, p.2.2 + 1, 2, ((p.2.2 + 1 - p.2.1 - 1) / 2 + 1).toNat, rfl, rgc2 f2 (by omega) (by omega), fun D nD => lc_it walk_rangeC (fun k H' => Same H9 H' ∧ ∃ vs : List V, H' D = some (.lst vs) ∧ Prs H' vs (oddF p.2.1 k)) ⟨same_upd nD, [], upd_same, Prs.nil⟩ (fun _ _ _ _ => True.intro) (fun k x H' H'' hk hP hy => ?_) (fun H10 hP => ?_)⟩
          · obtain ⟨rfl, rfl⟩ := hy
            obtain ⟨sm, vs, eD, hvs⟩ := hP
            have hvl := hvs.1
            have hol : (oddF p.2.1 k).length = k := by unfold oddF; rw [List.length_map, List.length_range]
            refine ⟨rfl, _, rfl, _, rfl, (by show 2 ≤ sizeLine; decide), fun tt ntt => ?_⟩
            have st := same_upd (o := .tup [.int (p.2.1 + (k : Nat) * 2), .int (p.2.1 + (k : Nat) * 2)]) ntt
            have eDt := st _ _ eD
            refine ⟨vs, eDt, small1000 (by omega), fun y o e => ?_, vs ++ [.ref tt], upd_same, ?_⟩
            · rw [upd_ne (ne_of_none e nD)]
              exact st _ _ (sm y o e)
            · have eo : oddF p.2.1 (k + 1) = oddF p.2.1 k ++ [(p.2.1 + (k : Nat) * 2, p.2.1 + (k : Nat) * 2)] := by unfold oddF; rw [List.range_succ, List.map_append]; rfl
              rw [eo]
              exact Prs.upd_lst ((hvs.same st).snoc upd_same) eDt
          obtain ⟨s10, vs10, eD10, hvs10⟩ := hP
          have m10 := m9.same s10
          have erl10 := s10 _ _ erl9
          have hrows10 := hrows9.same s10
          refine ⟨_, rfl, rl, rfl, ⟨_, SqL.of erl10⟩, fun D2 nD2 => lc_list (xs := mv) (fun k H' => Same H10 H' ∧ ∃ vs : List V, H' D2 = some (.lst vs) ∧ RowsL H10 vs ((rows.take k).filter fun r => !decide (r.1 = p.1))) ⟨same_upd nD2, [], upd_same, RowsL.nil⟩ (fun k H' _ hP => SqL.of (hP.1 _ _ erl10)) (fun k x H' hx hP => ?_) (fun H11 hP => ?_)⟩
          · obtain ⟨sm, vs, eD, hvs⟩ := hP
            obtain ⟨r, ga, gc, gus, er, rfl, g2, g3, g4⟩ := hrows10.at hx
            have et : rows.take (k + 1) = rows.take k ++ [r] := by rw [List.take_add_one, er]; rfl
            have hvl : vs.length ≤ 12 := by
              rw [hvs.1]
              have h1 : ((rows.take k).filter fun r => !decide (r.1 = p.1)).length ≤ (rows.take k).length := List.length_filter_le ..
              rw [List.length_take] at h1
              have := hgood.2.1
              omega
            refine ⟨rfl, _, rfl, ga, _, 0, .str r.1, rfl, rfl, .inl (.inl (sm _ _ g2)), atI_nat (j := 0) rfl, _, rfl, rfl, _, rfl, ite2 (fun c3 => ?_) (fun c3 => ?_)⟩
            · have c3' : (!decide (r.1 = p.1)) = true := by
                cases z : decide (r.1 = p.1) with
                | false => rfl
                | true => rw [decide_eq_true (congrArg V.str (of_decide_eq_true z))] at c3; exact absurd c3 (by decide)
              refine ⟨_, rfl, vs, eD, small1000 (by omega), fun y o e => ?_, vs ++ [.ref ga], upd_same, ?_⟩
              · rw [upd_ne (ne_of_none e nD2)]
                exact sm y o e
              · rw [et, List.filter_append, List.filter_cons_of_pos (p := fun r : Str × Prs2 => !decide (r.1 = p.1)) (a := r) c3']
                exact RowsL.app hvs (RowsL.one g2 g3 g4)
            · have c3' : ¬ (!decide (r.1 = p.1)) = true := fun z => c3 (by
                have hn : ¬ r.1 = p.1 := fun y => by rw [decide_eq_true y] at z; exact absurd z (by decide)
                rw [decide_eq_false (fun y => hn (V.str.inj y))]
                rfl)
              refine ⟨sm, vs, eD, ?_⟩
              rw [et, List.filter_append, List.filter_cons_of_neg (p := fun r : Str × Prs2 => !decide (r.1 = p.1)) (a := r) c3', List.filter_nil, List.append_nil]
              exact hvs
          obtain ⟨s11, vs11, eD11, hvs11⟩ := hP
          rw [hrows10.1, List.take_length] at hvs11
          have m11 := m10.same s11
          refine ⟨_, rfl, _, rfl, 24, rfl, D, _, rfl, SqL.of (s11 _ _ eD10), fun cu2 ncu2 => ?_⟩
          have ecut : cutV vs10 none (some 24) = vs10.take 24 := by rw [show (some (24 : Int)) = some ((24 : Nat) : Int) from rfl, cut_front]
          rw [ecut]
          have s12 := same_upd (o := .lst (vs10.take 24)) ncu2
          have e12 := upd_same (H := H11) (a := cu2) (o := .lst (vs10.take 24))
          refine ⟨(by show 2 ≤ sizeLine; decide), fun t13 nt13 => ⟨(by show 1 ≤ sizeLine; decide), fun z14 nz14 => ?_⟩⟩
          have s13 := same_upd (o := .tup [.str p.1, .ref cu2]) nt13
          have s14 := same_upd (o := .lst [.ref t13]) nz14
          have e13 := s14 _ _ (upd_same (H := upd H11 cu2 (.lst (vs10.take 24))) (a := t13) (o := .tup [.str p.1, .ref cu2]))
          have S14 := (s12.trans s13).trans s14
          have hvl11 : vs11.length ≤ 12 := by
            rw [hvs11.1]
            have h1 : (rows.filter fun r => !decide (r.1 = p.1)).length ≤ rows.length := List.length_filter_le ..
            omega
          refine ⟨D2, z14, vs11, [.ref t13], rfl, rfl, S14 _ _ eD11, upd_same, Nat.le_trans (show _ ≤ 1000 by show _ + 1 ≤ _; omega) (by decide), fun rl2 nrl2 => ?_⟩
          have s15 := same_upd (o := .lst (vs11 ++ [.ref t13])) nrl2
          have S15 := S14.trans s15
          have hfl : (rows.filter fun r => !decide (r.1 = p.1)).length ≤ 3 := Nat.le_trans (List.length_filter_le ..) (by omega)
          refine ⟨rl2, _, (rows.filter fun r => !decide (r.1 = p.1)) ++ [(p.1, (oddF p.2.1 ((p.2.2 + 1 - p.2.1 - 1) / 2 + 1).toNat).take 24)], t6 + 1 + 1, _, _, _, _, rfl, upd_same, RowsL.app (((hvs11.same s11).same S14).same s15) (RowsL.one (s15 _ _ e13) (s15 _ _ (s14 _ _ (s13 _ _ e12))) ((((hvs10.take 24).same s11).same S14).same s15)), ⟨?_, ?_, fun r hr => ?_⟩, fun r hr => ?_, by omega, by omega, (m11.same S14).same s15⟩
          · rw [List.map_append, List.nodup_append]
            refine ⟨?_, List.nodup_cons.mpr ⟨fun z => (nomatch z), List.nodup_nil⟩, fun y hy z hz e => ?_⟩
            · exact (List.Sublist.map _ List.filter_sublist).nodup hgood.1
            · rw [List.mem_singleton.mp hz] at e
              obtain ⟨q, hq, eq⟩ := List.mem_map.mp hy
              have h1 := (List.mem_filter.mp hq).2
              have h2 : q.1 = p.1 := by rw [eq, e]
              rw [decide_eq_true h2] at h1
              exact absurd h1 (by decide)
          · rw [List.length_append]
            show _ + 1 ≤ _
            omega
          · rcases List.mem_append.mp hr with z | z
            · exact hgood.2.2 r (List.mem_filter.mp z).1
            · rw [List.mem_singleton.mp z]
              exact ⟨ris_take 24 (oddF_ris _ f2), Nat.le_trans (by rw [List.length_take]; exact Nat.min_le_left ..) (show 24 ≤ 30 by decide)⟩
          · rcases List.mem_append.mp hr with z | z
            · exact hstr6 r (List.mem_filter.mp z).1
            · rw [List.mem_singleton.mp z]; exact f1
        · clear hrows hgood hin hrlen hstr6 erl nrl
          obtain ⟨rl, mv, rows, t7, y7, y8, y9, y10, rfl, erl, hrows, hgood, hstrR, w0, w1, m7⟩ := hM
          have hrl12 := hgood.2.1
          -- handed
          refine ⟨_, rfl, rl, rfl, ⟨_, SqL.of erl⟩, fun D3 nD3 => lc_list (xs := mv) (fun k H' => ∃ (t' : Int) (hv : List V), t7 ≤ t' ∧ t' ≤ t7 + k ∧ StAt H' d c t' ∧ Kp d c H7 H' ∧ H' D3 = some (.lst hv) ∧ RowsX H' D3 hv (rows.take k)) ⟨t7, [], by omega, by omega, m7.st.same (same_upd nD3), Kp.same d c (same_upd nD3), upd_same, rfl, fun _ _ _ e => nomatch e⟩ (fun k H' _ hP => ?_) (fun k x H' hx hP => ?_) (fun H8 hP => ?_)⟩
          · obtain ⟨_, _, _, _, _, k', _⟩ := hP
            exact SqL.of (k'.lst m7.st erl hrows.noInt)
          · obtain ⟨t', hv, v0, v1, hS', k', eD, hx'⟩ := hP
            obtain ⟨r, ga, gc, gus, er, rfl, g2, g3, g4⟩ := (hrows.kp m7.st k').at hx
            have hk : k < rows.length := (List.getElem?_eq_some_iff.mp er).1
            have et : rows.take (k + 1) = rows.take k ++ [r] := by rw [List.take_add_one, er]; rfl
            have offD := m7.st.off nD3
            have hhl := hx'.1
            rw [List.length_take] at hhl
            refine ⟨ga, _, rfl, .inl (.inl g2), rfl, _, _, rfl, _, _, rfl, rfl, rfl, ?_⟩
            refine ⟨_, rfl, _, rfl, gc, gus, rfl, .inl (SqL.of g3), fun q1 nq1 => ?_⟩
            have sq1 := same_upd (o := .lst gus) nq1
            refine ⟨_, rfl, gc, gus, rfl, .inl ⟨SqL.of (sq1 _ _ g3), fun q2 nq2 => ⟨(by show 2 ≤ sizeLine; decide), fun z3 nz3 => ?_⟩⟩⟩
            have sq2 := same_upd (o := .tup gus) nq2
            have sz3 := same_upd (o := .lst [.ref q1, .ref q2]) nz3
            have S3 := (sq1.trans sq2).trans sz3
            have eq1 := sz3 _ _ (sq2 _ _ (upd_same (H := H') (a := q1) (o := .lst gus)))
            have eq2 := sz3 _ _ (upd_same (H := upd H' q1 (.lst gus)) (a := q2) (o := .tup gus))
            have offz := ((hS'.same sq1).same sq2).off nz3
            refine ⟨_, rfl, d, c, t', 2, rfl, hS'.same S3, by omega, by decide, by decide, fun r4 H4 r40 r41 hS4 k4 => ?_⟩
            obtain ⟨gg, hat, hgg, ngg⟩ : ∃ gg, atI [V.ref q1, V.ref q2] r4 = some (.ref gg) ∧ SpA H4 gg r.2 ∧ gg ≠ D3 := by
              have g4' := (g4.same S3)
              have : r4 = 0 ∨ r4 = 1 := by omega
              rcases this with rfl | rfl
              · exact ⟨q1, rfl, ⟨gus, .inl (k4.lst (hS'.same S3) eq1 (noInt_prs g4)), g4'.kp (hS'.same S3) k4⟩, fun e => by rw [e, eD] at nq1; cases nq1⟩
              · exact ⟨q2, rfl, ⟨gus, .inr (k4.tup (hS'.same S3) eq2), g4'.kp (hS'.same S3) k4⟩, fun e => by rw [e, sq1 _ _ eD] at nq2; cases nq2⟩
            have kk : Kp d c H' H4 := (Kp.same d c S3).trans k4
            refine ⟨z3, _, r4, .ref gg, rfl, rfl, SqL.of (k4 _ _ offz.1 offz.2 upd_same), hat, (by show 2 ≤ sizeLine; decide), fun T5 nT5 => ?_⟩
            have sT5 := same_upd (o := .tup [.str r.1, .ref gg]) nT5
            have eD5 := sT5 _ _ (kk _ _ offD.1 offD.2 eD)
            refine ⟨_, eD5, small1000 (by omega), t' + 1, hv ++ [.ref T5], by omega, by omega, (hS4.same sT5).upd offD.1 offD.2, fun y o y1 y2 e => ?_, upd_same, ?_⟩
            · rw [upd_ne (ne_of_none e nD3)]
              exact sT5 _ _ (kk y o y1 y2 (k' y o y1 y2 e))
            · rw [et]
              exact ((hx'.kp hS' kk).same sT5).snoc eD5 upd_same (hgg.same sT5) ngg
          obtain ⟨t8, hv, v0, v1, hS8, k8, eh8, hx8⟩ := hP
          have m8 := m7.kp hS8 k8
          have erl8 := k8.lst m7.st erl hrows.noInt
          have hrows8 := hrows.kp m7.st k8
          have hml := hrows.1
          rw [hml, List.take_length] at hx8
          have hxA := hx8.a
          -- given, due
          refine ⟨_, rfl, _, rfl, d, c, b, t8, nm, sz, ps, rfl, m8.st, by omega, m8.pk, fun b' H9 hb' hS9 k9 => ?_⟩
          have m9 := m8.kp hS9 k9
          have erl9 := k9.lst m8.st erl8 hrows8.noInt
          have hrows9 := hrows8.kp m8.st k9
          have eh9 := k9.lst m8.st eh8 hxA.noInt
          have hxA9 := hxA.kp m8.st k9
          refine ⟨_, rfl, _, rfl, b, rl, nm, sz, ps, mv, rows, rfl, m9.pk, hfew, by omega, erl9, hrows9.a, hgood, sz0, szB, fun T l1 l2 rs1 rs2 H10 eT hl1 told1 len1 hl2 told2 len2 s10 => ⟨_, _, rfl, ?_⟩⟩
          have m10 := m9.same s10
          have erl10 := s10 _ _ erl9
          have hrows10 := hrows9.same s10
          have eh10 := s10 _ _ eh9
          have hxA10 := hxA9.same s10
          have hb10 := hb'.same s10
          -- told
          refine ⟨_, rfl, _, rfl, b', D3, nm, sz, ps, hv, rows, rfl, hb10, .inl eh10, hxA10, hgood, hpl, hle, sz0, szB, fun f1 rs3 H11 nf1 hf1 told3 len3 s11 => ?_⟩
          have er3 : rs3 = rs1 := told3.one told1 fun _ => Iff.rfl
          subst er3
          refine ⟨_, rfl, _, rfl, D3, hv, rfl, .inl ⟨SqL.of (s11 _ _ eh10), fun tu ntu => ?_⟩⟩
          have stu := same_upd (o := .tup hv) ntu
          have S12 := s11.trans stu
          refine ⟨b', tu, nm, sz, ps, hv, rows, rfl, hb10.same S12, .inr upd_same, hxA10.same S12, hgood, hpl, hle, sz0, szB, tabG_same m10.tab S12, fun f2 rs4 H13 nf2 hf2 told4 len4 k13 => ⟨_, _, rfl, ?_⟩⟩
          have er4 : rs4 = rs2 := told4.one told2 fun _ => Iff.rfl
          subst er4
          have k10_13 : Kt H10 H13 := (Kt.same S12).trans k13
          have hf1' := (hf1.same stu).kt k13
          refine ⟨_, rfl, _, rfl, (by show 2 ≤ sizeLine; decide), fun T14 nT14 => ?_⟩
          have s14 := same_upd (o := .tup [.ref f1, .ref f2]) nT14
          have k10_14 : Kt H10 (upd H13 T14 (.tup [.ref f1, .ref f2])) := k10_13.trans (Kt.same s14)
          refine ⟨_, rfl, .ref T14, .ref T, twoD rs3 rs4, rfl, two_dat upd_same (hf1'.same s14) (hf2.same s14), two_dat (k10_14.keep _ _ (fun _ z => nomatch z) eT) (hl1.kt k10_14) (hl2.kt k10_14), two_sm (by omega) (by omega), two_nb _ _, fun H15 s15 => ⟨_, rfl, iteF ?_⟩⟩
          have k10_15 : Kt H10 H15 := k10_14.trans (Kt.same s15)
          obtain ⟨w1', ef1, _⟩ := (hf1'.same s14).same s15
          obtain ⟨w2', ef2, pf2⟩ := (hf2.same s14).same s15
          have hw1l : w1'.length ≤ 900 := by
            obtain ⟨_, e', p'⟩ := (hf1'.same s14).same s15
            rw [ef1] at e'
            cases e'
            rw [p'.1]
            omega
          have hw2l : w2'.length ≤ 900 := by rw [pf2.1]; omega
          have nf12 : f2 ≠ f1 := fun e => by
            obtain ⟨_, e', _⟩ := hf1
            rw [e, stu _ _ e'] at nf2
            cases nf2
          have nf2' : H10 f2 = none := S12.free nf2
          refine ⟨_, rfl, .inl ⟨rfl, _, SqL.of ef1⟩, (by show 2 ≤ sizeLine; decide), fun t16 nt16 => ?_⟩
          have s16 := same_upd (o := .tup [.int 99, .int 99]) nt16
          refine ⟨f1, _, _, rfl, rfl, s16 _ _ ef1, small1000 (by omega), ?_⟩
          have k10_17 : Kt H10 (upd (upd H15 t16 (.tup [.int 99, .int 99])) f1 (.lst (w1' ++ [.ref t16]))) := (k10_15.trans (Kt.same s16)).put nf1
          have ef2' : upd (upd H15 t16 (.tup [.int 99, .int 99])) f1 (.lst (w1' ++ [.ref t16])) f2 = some (.lst w2') := by rw [upd_ne nf12]; exact s16 _ _ ef2
          revert k10_17 ef2'
          generalize upd (upd H15 t16 (.tup [.int 99, .int 99])) f1 (.lst (w1' ++ [.ref t16])) = H17
          intro k10_17 ef2'
          refine ⟨_, rfl, .inl ⟨rfl, _, SqL.of ef2'⟩, (by show 2 ≤ sizeLine; decide), fun t18 nt18 => ?_⟩
          have s18 := same_upd (o := .tup [.int 99, .int 99]) nt18
          refine ⟨f2, _, _, rfl, rfl, s18 _ _ ef2', small1000 (by omega), ?_⟩
          have k10_19 : Kt H10 (upd (upd H17 t18 (.tup [.int 99, .int 99])) f2 (.lst (w2' ++ [.ref t18]))) := (k10_17.trans (Kt.same s18)).put nf2'
          revert k10_19
          generalize upd (upd H17 t18 (.tup [.int 99, .int 99])) f2 (.lst (w2' ++ [.ref t18])) = H19
          intro k10_19
          -- told again
          have eh19 := k10_19.keep _ _ (by intro _ z; cases z) eh10
          have hxA19 := hxA10.kt k10_19
          have hb19 := hb10.kt k10_19
          refine ⟨_, rfl, _, rfl, D3, hv, rfl, .inl ⟨SqL.of eh19, fun tu2 ntu2 => ?_⟩⟩
          have stu2 := same_upd (o := .tup hv) ntu2
          refine ⟨b', tu2, nm, sz, ps, hv, rows, rfl, hb19.same stu2, .inr upd_same, hxA19.same stu2, hgood, hpl, hle, sz0, szB, fun f3 rs5 H20 nf3 hf3 told5 len5 s20 => ?_⟩
          have er5 : rs5 = rs3 := told5.one told1 fun _ => Iff.rfl
          subst er5
          have S20 := stu2.trans s20
          have k10_20 : Kt H10 H20 := k10_19.trans (Kt.same S20)
          refine ⟨_, rfl, _, rfl, b', D3, nm, sz, ps, hv, rows, rfl, hb19.same S20, .inl (S20 _ _ eh19), hxA19.same S20, hgood, hpl, hle, sz0, szB, k10_20.tab _ m10.tab, fun f4 rs6 H21 nf4 hf4 told6 len6 k21 => ⟨(by show 2 ≤ sizeLine; decide), fun T22 nT22 => ?_⟩⟩
          have er6 : rs6 = rs4 := told6.one told2 fun _ => Iff.rfl
          subst er6
          have s22 := same_upd (o := .tup [.ref f3, .ref f4]) nT22
          have k10_22 : Kt H10 (upd H21 T22 (.tup [.ref f3, .ref f4])) := (k10_20.trans k21).trans (Kt.same s22)
          refine ⟨_, rfl, .ref T22, .ref T, twoD rs5 rs6, rfl, two_dat upd_same ((hf3.kt k21).same s22) (hf4.same s22), two_dat (k10_22.keep _ _ (fun _ z => nomatch z) eT) (hl1.kt k10_22) (hl2.kt k10_22), two_sm (by omega) (by omega), two_nb _ _, fun H23 s23 => ⟨_, rfl, iteF ?_⟩⟩
          have k10_23 : Kt H10 H23 := k10_22.trans (Kt.same s23)
          -- what is handed in stays
          have eh23 := k10_23.keep _ _ (by intro _ z; cases z) eh10
          have hxA23 := hxA10.kt k10_23
          have hhl := hxA23.1
          refine ⟨_, rfl, D3, rfl, ⟨_, SqL.of eh23⟩, fun D4 nD4 => lc_list (xs := hv) (fun k H' => Same H23 H' ∧ ∃ vs : List V, H' D4 = some (.lst vs) ∧ RowsN H' D4 vs (rows.take k)) ⟨same_upd nD4, [], upd_same, rfl, fun _ _ _ e => nomatch e⟩ (fun k H' _ hP => SqL.of (hP.1 _ _ eh23)) (fun k x H' hx hP => ?_) (fun H24 hP => ?_)⟩
          · obtain ⟨sm, vs, eD, hvs⟩ := hP
            obtain ⟨r, ga, gc, er, rfl, g2, gus, g3, g4⟩ := (hxA23.same sm).at hx
            have hk : k < rows.length := (List.getElem?_eq_some_iff.mp er).1
            have et : rows.take (k + 1) = rows.take k ++ [r] := by rw [List.take_add_one, er]; rfl
            have hvl := hvs.1
            rw [List.length_take] at hvl
            refine ⟨ga, _, rfl, .inl (.inl g2), rfl, _, _, rfl, _, _, rfl, rfl, rfl, ?_⟩
            refine ⟨_, rfl, _, rfl, gc, gus, rfl, g3.elim (fun h => .inl (SqL.of h)) (fun h => .inr (.inl (.inl h))), fun q1 nq1 => ⟨(by show 2 ≤ sizeLine; decide), fun T5 nT5 => ?_⟩⟩
            have sq1 := same_upd (o := .lst gus) nq1
            have sT5 := same_upd (o := .tup [.str r.1, .ref q1]) nT5
            have S5 := sq1.trans sT5
            have eD5 := S5 _ _ eD
            refine ⟨vs, eD5, small1000 (by omega), fun y o e => ?_, vs ++ [.ref T5], upd_same, ?_⟩
            · rw [upd_ne (ne_of_none e nD4)]
              exact S5 _ _ (sm y o e)
            · rw [et]
              exact ((hvs.same' S5).snoc (r := r) upd_same (sT5 _ _ upd_same) (g4.same S5) (fun e => by rw [e, eD] at nq1; cases nq1)).upd eD5
          obtain ⟨s24, vs24, eD24, hvs24⟩ := hP
          rw [hhl, List.take_length] at hvs24
          have k10_24 : Kt H10 H24 := k10_23.trans (Kt.same s24)
          have m24 := m10.kt k10_24
          refine ⟨_, rfl, _, _, .lst (SqL.of eD24) (dp_rows hvs24.l), .lst (SqL.of (k10_24.keep _ _ (by intro _ z; cases z) erl10)) (dp_rows (hrows10.kt k10_24)), shaped_rows hstrR, shaped_rows hstrR, _, rfl, ?_⟩
          rw [eqv_rows hstrR]
          refine iteF ?_
          obtain ⟨a2, us2, eb2, ha2, hus2⟩ := hb10.kt k10_24
          refine ⟨_, rfl, b', _, 2, .ref a2, rfl, rfl, .inl (.inl eb2), atI_nat (j := 2) rfl, a2, us2, rfl, ha2.elim (fun h => .inl (SqL.of h)) (fun h => .inr (.inl (.inl h))), fun g ng => ?_⟩
          have sg := same_upd (o := .lst us2) ng
          have mg' := m24.same sg
          refine ⟨_, rfl, b, _, 2, .ref l, rfl, rfl, .inl (.inl mg'.eb), atI_nat (j := 2) rfl, _, _, .lst (SqL.of upd_same) (dp_pts (Pts.same hus2 sg)), .lst (SqL.of mg'.el) (dp_pts mg'.hus), shaped_pts hstr, shaped_pts hstr, _, rfl, ?_⟩
          rw [eqv_pts hstr]
          refine iteF ?_
          exact ⟨t8 + 1, _, _, _, _, _, _, _, _, _, _, rfl, by omega, by omega, mg'⟩
      · obtain ⟨t, y5, y6, y7, y8, y9, y10, y11, y12, y13, y14, rfl, u0, u1, m⟩ := hP
        have g0 : GoodR ([] : Rows) := ⟨List.nodup_nil, by decide, fun _ z => nomatch z⟩
        have no1 : ∀ n, ¬ WithP sz ps (InM []) n := fun n ⟨_, _, _, _, _, _, ⟨_, z, _⟩, _⟩ => nomatch z
        have no2 : ∀ n, ¬ AllP sz ps [] n := fun n z => by
          obtain ⟨⟨j, hj, e⟩, h⟩ := (all_with sz0 hle n).mpr z
          obtain ⟨_, _, _, y, _⟩ := h j hj e
          exact nomatch y
        refine ⟨_, rfl, Nat.zero_le _, fun z nz => ?_⟩
        have sz1 := same_upd (o := .lst []) nz
        refine ⟨b, z, nm, sz, ps, [], [], rfl, m.pk.same sz1, .inl upd_same, ⟨rfl, fun _ _ _ e => nomatch e⟩, g0, hpl, hle, sz0, szB, fun f1 rs H6 nf1 hf1 told len s6 => ⟨Nat.zero_le _, fun z7 nz7 => ?_⟩⟩
        have ers := told_nil told no1
        subst ers
        have s7 := same_upd (o := .lst []) nz7
        obtain ⟨w1, ew1, pw1⟩ := hf1.same s7
        refine ⟨_, _, .lst (SqL.of ew1) (dp_prs pw1), .lst (SqL.of upd_same) .nil, shaped_prs [], shaped_prs [], _, rfl, ?_⟩
        rw [eqv_pr_nil]
        refine iteF ?_
        have m7 := m.same ((sz1.trans s6).trans s7)
        revert m7
        generalize upd H6 z7 (.lst []) = H7
        intro m7
        refine ⟨_, rfl, Nat.zero_le _, fun z8 nz8 => ?_⟩
        have s8 := same_upd (o := .lst []) nz8
        refine ⟨b, z8, nm, sz, ps, [], [], rfl, m7.pk.same s8, .inl upd_same, ⟨rfl, fun _ _ _ e => nomatch e⟩, g0, hpl, hle, sz0, szB, tabG_same m7.tab s8, fun f2 rs2 H9 nf2 hf2 told2 len2 k9 => ⟨Nat.zero_le _, fun z10 nz10 => ?_⟩⟩
        have ers2 := told_nil told2 no2
        subst ers2
        have s10 := same_upd (o := .lst []) nz10
        obtain ⟨w2, ew2, pw2⟩ := hf2.same s10
        refine ⟨_, _, .lst (SqL.of ew2) (dp_prs pw2), .lst (SqL.of upd_same) .nil, shaped_prs [], shaped_prs [], _, rfl, ?_⟩
        rw [eqv_pr_nil]
        refine iteF ?_
        have m10 := (m7.kt ((Kt.same s8).trans k9)).same s10
        exact ⟨t, _, _, _, _, _, _, _, _, _, _, _, _, rfl, by omega, by omega, m10.st, m10.tab, m10.em, m10.en⟩
    · exact q _
end

/-! ### the end: what the top has left, the tables of code objects among it -/
/-- each def of the text has a code object with an empty table -/
def Tabs (q : Program) (mg : Str → Option Value) (h : Heap) : Prop := ∀ dr ∈ recsOf q, ∃ (f : Addr) (o : Obj) (fd : FuncData) (c P : Addr), mg dr.name = some (.ref f) ∧ h.get? f = some o ∧ o.data = .func fd ∧ fd.code = .ref c ∧ PySem.W.CodeHd h c P ∧ h.get? P = some (PySem.W.tabObj #[])
theorem tab_in {q : Program} {mg : Str → Option Value} {h : Heap} {K : PySem.W.Frag} {y : Str} {f c P : Addr} {oc e : Value} {od dd : Option Addr} {fd : FuncData} {osl sl : Array (Option Value)} {vs : Array Value} (TT : Tabs q mg h) (X : K.In h) (rec : ((recsOf q).any fun r => r.name == y) = true)
    (g : mg y = some (.ref f)) (lf : K.lookup f = some ⟨oc, od, .func fd, osl⟩) (hc : fd.code = .ref c) (lc : K.lookup c = some ⟨e, dd, .fields vs, sl⟩) (v : vs[11]? = some (.ref P)) : PySem.W.CodeHd h c P ∧ h.get? P = some (PySem.W.tabObj #[]) := by
  obtain ⟨dr, mem, nm⟩ := List.any_eq_true.mp rec
  obtain ⟨f', o', fd', c', P', t1, t2, t3, t4, t5, t6⟩ := TT dr mem
  have ef : f' = f := by
    rw [beq_iff_eq.mp nm, g] at t1
    exact (Value.ref.inj (Option.some.inj t1)).symm
  rw [ef, X _ _ lf] at t2
  rw [← Option.some.inj t2] at t3
  have efd : fd = fd' := Data.func.inj t3
  rw [← efd, hc] at t4
  have ec : c = c' := Value.ref.inj t4
  rw [← ec] at t5
  have t5' := t5
  obtain ⟨oc', us, _, _, _, _, _, _, _, u1, _, u3, u4, _⟩ := t5'
  rw [X _ _ lc] at u1
  rw [← Option.some.inj u1] at u3
  have eu : vs = us := Data.fields.inj u3
  rw [← eu, v] at u4
  have eP : P = P' := Value.ref.inj (Option.some.inj u4)
  rw [eP]
  exact ⟨t5, t6⟩
theorem law_end {l : PySem.W.OpenLaw} {k : Nat} {q : Program} {loose : List Str} {XP : (Str → Option Value) → Heap → Prop} {YP : World → Heap → Prop} {d : DefRec} {K : Params → PySem.W.Frag} (most : l.most = some 63) (plain : d.params.defaults = []) (room : Room k callerA)
    (part : ∀ w h, YP w h → (K w.params).In h) (made : ∀ (w : World) (mg : Str → Option Value) (f : Addr) (h : Heap), (K w.params).In h → h.Ns mainGlobals mg → mg d.name = some (.ref f) → Tabs q mg h → LamX.LawAtS l w (K w.params) CX0 k 63 "_law_script" mg f h) : PySem.W.WalkO q loose XP YP l.row.toRowW d [] (fun f vs => PySem.call f vs) := by
  refine Att.attach_callB most plain ?_
  intro w _ s₁ mg _ f _ _ _ _ a vs ns ground said _ _ _ name script nums len size still
  have X := part w _ said
  have tabs : Tabs q mg s₁.heap := fun dr mem => by
    obtain ⟨f', o', fd', c', P', t1, t2, t3, t4, t5, t6⟩ := ground.T.tab dr mem
    exact ⟨f', o', fd', c', P', t1, t2, t3, t4, PySem.W.CodeHd.of t5 t6, t6.2⟩
  obtain ⟨fd, cs, sp, e1, e2, e3, e4, e5, e6⟩ := made w mg f _ X ground.T.g name tabs
  exact LamX.law_callTs X ground.T.g ground.T.b ground.T.builtins ground.T.nolimit still e1 e2 e3 ground.T.bmain script nums (Nat.le_trans len (by decide)) room e6 e4 (fun H z1 z2 => e5 H a ns len size z1 z2) fun _ _ _ z => z

theorem all_mk {l : PySem.W.OpenLaw} {q : Program} {w : World} {K : PySem.W.Frag} {h : Heap} {mg : Str → Option Value} {fa f0 f1 f2 f3 f4 f5 f6 f7 f8 f9 f10 f11 f12 f13 f14 f15 f16 f17 f18 f19 f20 f21 f22 f23 f24 : Addr} {c4 P4 : Addr} (X : K.In h) (G : h.Ns mainGlobals mg) (hfa : mg "law" = some (.ref fa)) (TT : Tabs q mg h)
    {od0 an0 od1 an1 od2 an2 od3 an3 od4 an4 od5 an5 od6 an6 od7 an7 od8 an8 od9 an9 od10 an10 od11 an11 od12 an12 od13 an13 od14 an14 od15 an15 od16 an16 od17 an17 od18 an18 od19 an19 od20 an20 od21 an21 od22 an22 od23 an23 od24 an24 : Option Addr} {sl0 sl1 sl2 sl3 sl4 sl5 sl6 sl7 sl8 sl9 sl10 sl11 sl12 sl13 sl14 sl15 sl16 sl17 sl18 sl19 sl20 sl21 sl22 sl23 sl24 : Array (Option Value)} {oc0 kV0 dc0 pm0 ct0 cd0 oc1 kV1 dc1 pm1 ct1 cd1 oc2 kV2 dc2 pm2 ct2 cd2 oc3 kV3 dc3 pm3 ct3 cd3 oc4 kV4 dc4 pm4 ct4 oc5 kV5 dc5 pm5 ct5 cd5 oc6 kV6 dc6 pm6 ct6 cd6 oc7 kV7 dc7 pm7 ct7 cd7 oc8 kV8 dc8 pm8 ct8 cd8 oc9 kV9 dc9 pm9 ct9 cd9 oc10 kV10 dc10 pm10 ct10 cd10 oc11 kV11 dc11 pm11 ct11 cd11 oc12 kV12 dc12 pm12 ct12 cd12 oc13 kV13 dc13 pm13 ct13 cd13 oc14 kV14 dc14 pm14 ct14 cd14 oc15 kV15 dc15 pm15 ct15 cd15 oc16 kV16 dc16 pm16 ct16 cd16 oc17 kV17 dc17 pm17 ct17 cd17 oc18 kV18 dc18 pm18 ct18 cd18 oc19 kV19 dc19 pm19 ct19 cd19 oc20 kV20 dc20 pm20 ct20 cd20 oc21 kV21 dc21 pm21 ct21 cd21 oc22 kV22 dc22 pm22 ct22 cd22 oc23 kV23 dc23 pm23 ct23 cd23 oc24 kV24 dc24 pm24 ct24 cd24 : Value}
    {e4 : Value} {dd4 : Option Addr} {vs4 : Array Value} {sc4 : Array (Option Value)}
    (a0 : PySem.W.nsIn K mainGlobals "set_of" = some (some (.ref f0))) (l0 : K.lookup f0 = some ⟨oc0, od0, .func (PySem.W.fnOf "set_of" "set_of" (defArgs sSetOf) (defBody sSetOf) (defScope sSetOf) .none kV0 dc0 pm0 an0 cd0 ct0), sl0⟩) (c0' : PySem.W.codeIn K cd0 "set_of" = true) (k0 : PySem.W.keepIn K (.ref f0) = true)
    (a1 : PySem.W.nsIn K mainGlobals "both_of" = some (some (.ref f1))) (l1 : K.lookup f1 = some ⟨oc1, od1, .func (PySem.W.fnOf "both_of" "both_of" (defArgs sBoth) (defBody sBoth) (defScope sBoth) .none kV1 dc1 pm1 an1 cd1 ct1), sl1⟩) (c1' : PySem.W.codeIn K cd1 "both_of" = true) (k1 : PySem.W.keepIn K (.ref f1) = true)
    (a2 : PySem.W.nsIn K mainGlobals "gaps_of" = some (some (.ref f2))) (l2 : K.lookup f2 = some ⟨oc2, od2, .func (PySem.W.fnOf "gaps_of" "gaps_of" (defArgs sGaps) (defBody sGaps) (defScope sGaps) .none kV2 dc2 pm2 an2 cd2 ct2), sl2⟩) (c2' : PySem.W.codeIn K cd2 "gaps_of" = true) (k2 : PySem.W.keepIn K (.ref f2) = true)
    (a3 : PySem.W.nsIn K mainGlobals "without" = some (some (.ref f3))) (l3 : K.lookup f3 = some ⟨oc3, od3, .func (PySem.W.fnOf "without" "without" (defArgs sWithout) (defBody sWithout) (defScope sWithout) .none kV3 dc3 pm3 an3 cd3 ct3), sl3⟩) (c3' : PySem.W.codeIn K cd3 "without" = true) (k3 : PySem.W.keepIn K (.ref f3) = true)
    (a4 : PySem.W.nsIn K mainGlobals "tins_packed" = some (some (.ref f4))) (l4 : K.lookup f4 = some ⟨oc4, od4, .func (PySem.W.fnOf "tins_packed" "tins_packed" (defArgs sPacked) (defBody sPacked) (defScope sPacked) .none kV4 dc4 pm4 an4 (.ref c4) ct4), sl4⟩) (c4' : PySem.W.codeIn K (.ref c4) "tins_packed" = true) (k4 : PySem.W.keepIn K (.ref f4) = true)
    (a5 : PySem.W.nsIn K mainGlobals "cases_of" = some (some (.ref f5))) (l5 : K.lookup f5 = some ⟨oc5, od5, .func (PySem.W.fnOf "cases_of" "cases_of" (defArgs sCases) (defBody sCases) (defScope sCases) .none kV5 dc5 pm5 an5 cd5 ct5), sl5⟩) (c5' : PySem.W.codeIn K cd5 "cases_of" = true) (k5 : PySem.W.keepIn K (.ref f5) = true)
    (a6 : PySem.W.nsIn K mainGlobals "spots_of" = some (some (.ref f6))) (l6 : K.lookup f6 = some ⟨oc6, od6, .func (PySem.W.fnOf "spots_of" "spots_of" (defArgs sSpots) (defBody sSpots) (defScope sSpots) .none kV6 dc6 pm6 an6 cd6 ct6), sl6⟩) (c6' : PySem.W.codeIn K cd6 "spots_of" = true) (k6 : PySem.W.keepIn K (.ref f6) = true)
    (a7 : PySem.W.nsIn K mainGlobals "cases_touched" = some (some (.ref f7))) (l7 : K.lookup f7 = some ⟨oc7, od7, .func (PySem.W.fnOf "cases_touched" "cases_touched" (defArgs sTouched) (defBody sTouched) (defScope sTouched) .none kV7 dc7 pm7 an7 cd7 ct7), sl7⟩) (c7' : PySem.W.codeIn K cd7 "cases_touched" = true) (k7 : PySem.W.keepIn K (.ref f7) = true)
    (a8 : PySem.W.nsIn K mainGlobals "cases_with" = some (some (.ref f8))) (l8 : K.lookup f8 = some ⟨oc8, od8, .func (PySem.W.fnOf "cases_with" "cases_with" (defArgs sWith) (defBody sWith) (defScope sWith) .none kV8 dc8 pm8 an8 cd8 ct8), sl8⟩) (c8' : PySem.W.codeIn K cd8 "cases_with" = true) (k8 : PySem.W.keepIn K (.ref f8) = true)
    (a9 : PySem.W.nsIn K mainGlobals "cases_all" = some (some (.ref f9))) (l9 : K.lookup f9 = some ⟨oc9, od9, .func (PySem.W.fnOf "cases_all" "cases_all" (defArgs sAll) (defBody sAll) (defScope sAll) .none kV9 dc9 pm9 an9 cd9 ct9), sl9⟩) (c9' : PySem.W.codeIn K cd9 "cases_all" = true) (k9 : PySem.W.keepIn K (.ref f9) = true)
    (a10 : PySem.W.nsIn K mainGlobals "_law_begin" = some (some (.ref f10))) (l10 : K.lookup f10 = some ⟨oc10, od10, .func (PySem.W.fnOf "_law_begin" "_law_begin" (defArgs sBegin) (defBody sBegin) (defScope sBegin) .none kV10 dc10 pm10 an10 cd10 ct10), sl10⟩) (c10' : PySem.W.codeIn K cd10 "_law_begin" = true) (k10 : PySem.W.keepIn K (.ref f10) = true)
    (a11 : PySem.W.nsIn K mainGlobals "_law_take" = some (some (.ref f11))) (l11 : K.lookup f11 = some ⟨oc11, od11, .func (PySem.W.fnOf "_law_take" "_law_take" (defArgs sTake) (defBody sTake) (defScope sTake) .none kV11 dc11 pm11 an11 cd11 ct11), sl11⟩) (c11' : PySem.W.codeIn K cd11 "_law_take" = true) (k11 : PySem.W.keepIn K (.ref f11) = true)
    (a12 : PySem.W.nsIn K mainGlobals "_law_same" = some (some (.ref f12))) (l12 : K.lookup f12 = some ⟨oc12, od12, .func (PySem.W.fnOf "_law_same" "_law_same" (defArgs sSame) (defBody sSame) (defScope sSame) .none kV12 dc12 pm12 an12 cd12 ct12), sl12⟩) (c12' : PySem.W.codeIn K cd12 "_law_same" = true) (k12 : PySem.W.keepIn K (.ref f12) = true)
    (a13 : PySem.W.nsIn K mainGlobals "_law_number" = some (some (.ref f13))) (l13 : K.lookup f13 = some ⟨oc13, od13, .func (PySem.W.fnOf "_law_number" "_law_number" (defArgs sNumber) (defBody sNumber) (defScope sNumber) .none kV13 dc13 pm13 an13 cd13 ct13), sl13⟩) (c13' : PySem.W.codeIn K cd13 "_law_number" = true) (k13 : PySem.W.keepIn K (.ref f13) = true)
    (a14 : PySem.W.nsIn K mainGlobals "_law_names" = some (some (.ref f14))) (l14 : K.lookup f14 = some ⟨oc14, od14, .func (PySem.W.fnOf "_law_names" "_law_names" (defArgs sNames) (defBody sNames) (defScope sNames) .none kV14 dc14 pm14 an14 cd14 ct14), sl14⟩) (c14' : PySem.W.codeIn K cd14 "_law_names" = true) (k14 : PySem.W.keepIn K (.ref f14) = true)
    (a15 : PySem.W.nsIn K mainGlobals "_law_marks_by" = some (some (.ref f15))) (l15 : K.lookup f15 = some ⟨oc15, od15, .func (PySem.W.fnOf "_law_marks_by" "_law_marks_by" (defArgs sMarks) (defBody sMarks) (defScope sMarks) .none kV15 dc15 pm15 an15 cd15 ct15), sl15⟩) (c15' : PySem.W.codeIn K cd15 "_law_marks_by" = true) (k15 : PySem.W.keepIn K (.ref f15) = true)
    (a16 : PySem.W.nsIn K mainGlobals "_law_set_of" = some (some (.ref f16))) (l16 : K.lookup f16 = some ⟨oc16, od16, .func (PySem.W.fnOf "_law_set_of" "_law_set_of" (defArgs sLSet) (defBody sLSet) (defScope sLSet) .none kV16 dc16 pm16 an16 cd16 ct16), sl16⟩) (c16' : PySem.W.codeIn K cd16 "_law_set_of" = true) (k16 : PySem.W.keepIn K (.ref f16) = true)
    (a17 : PySem.W.nsIn K mainGlobals "_law_parts_by" = some (some (.ref f17))) (l17 : K.lookup f17 = some ⟨oc17, od17, .func (PySem.W.fnOf "_law_parts_by" "_law_parts_by" (defArgs sParts) (defBody sParts) (defScope sParts) .none kV17 dc17 pm17 an17 cd17 ct17), sl17⟩) (c17' : PySem.W.codeIn K cd17 "_law_parts_by" = true) (k17 : PySem.W.keepIn K (.ref f17) = true)
    (a18 : PySem.W.nsIn K mainGlobals "_law_packing_by" = some (some (.ref f18))) (l18 : K.lookup f18 = some ⟨oc18, od18, .func (PySem.W.fnOf "_law_packing_by" "_law_packing_by" (defArgs sPackBy) (defBody sPackBy) (defScope sPackBy) .none kV18 dc18 pm18 an18 cd18 ct18), sl18⟩) (c18' : PySem.W.codeIn K cd18 "_law_packing_by" = true) (k18 : PySem.W.keepIn K (.ref f18) = true)
    (a19 : PySem.W.nsIn K mainGlobals "_law_marked_by" = some (some (.ref f19))) (l19 : K.lookup f19 = some ⟨oc19, od19, .func (PySem.W.fnOf "_law_marked_by" "_law_marked_by" (defArgs sMarked) (defBody sMarked) (defScope sMarked) .none kV19 dc19 pm19 an19 cd19 ct19), sl19⟩) (c19' : PySem.W.codeIn K cd19 "_law_marked_by" = true) (k19 : PySem.W.keepIn K (.ref f19) = true)
    (a20 : PySem.W.nsIn K mainGlobals "_law_laid_out" = some (some (.ref f20))) (l20 : K.lookup f20 = some ⟨oc20, od20, .func (PySem.W.fnOf "_law_laid_out" "_law_laid_out" (defArgs sLaid) (defBody sLaid) (defScope sLaid) .none kV20 dc20 pm20 an20 cd20 ct20), sl20⟩) (c20' : PySem.W.codeIn K cd20 "_law_laid_out" = true) (k20 : PySem.W.keepIn K (.ref f20) = true)
    (a21 : PySem.W.nsIn K mainGlobals "_law_has" = some (some (.ref f21))) (l21 : K.lookup f21 = some ⟨oc21, od21, .func (PySem.W.fnOf "_law_has" "_law_has" (defArgs sHas) (defBody sHas) (defScope sHas) .none kV21 dc21 pm21 an21 cd21 ct21), sl21⟩) (c21' : PySem.W.codeIn K cd21 "_law_has" = true) (k21 : PySem.W.keepIn K (.ref f21) = true)
    (a22 : PySem.W.nsIn K mainGlobals "_law_given" = some (some (.ref f22))) (l22 : K.lookup f22 = some ⟨oc22, od22, .func (PySem.W.fnOf "_law_given" "_law_given" (defArgs sGiven) (defBody sGiven) (defScope sGiven) .none kV22 dc22 pm22 an22 cd22 ct22), sl22⟩) (c22' : PySem.W.codeIn K cd22 "_law_given" = true) (k22 : PySem.W.keepIn K (.ref f22) = true)
    (a23 : PySem.W.nsIn K mainGlobals "_law_due" = some (some (.ref f23))) (l23 : K.lookup f23 = some ⟨oc23, od23, .func (PySem.W.fnOf "_law_due" "_law_due" (defArgs sDue) (defBody sDue) (defScope sDue) .none kV23 dc23 pm23 an23 cd23 ct23), sl23⟩) (c23' : PySem.W.codeIn K cd23 "_law_due" = true) (k23 : PySem.W.keepIn K (.ref f23) = true)
    (a24 : PySem.W.nsIn K mainGlobals "law" = some (some (.ref f24))) (l24 : K.lookup f24 = some ⟨oc24, od24, .func (PySem.W.fnOf "law" "law" (defArgs sLaw) (defBody sLaw) (defScope sLaw) .none kV24 dc24 pm24 an24 cd24 ct24), sl24⟩) (c24' : PySem.W.codeIn K cd24 "law" = true) (k24 : PySem.W.keepIn K (.ref f24) = true)
    (lc4 : K.lookup c4 = some ⟨e4, dd4, .fields vs4, sc4⟩) (v4 : vs4[11]? = some (.ref P4)) (nP4 : K.lookup P4 = none) (r4 : ((recsOf q).any fun e => e.name == ("tins_packed" : Str)) = true)
    (z_all : PySem.W.nsIn K mainGlobals "all" = some none) (z_any : PySem.W.nsIn K mainGlobals "any" = some none) (z_bool : PySem.W.nsIn K mainGlobals "bool" = some none) (z_divmod : PySem.W.nsIn K mainGlobals "divmod" = some none) (z_enumerate : PySem.W.nsIn K mainGlobals "enumerate" = some none) (z_int : PySem.W.nsIn K mainGlobals "int" = some none) (z_isinstance : PySem.W.nsIn K mainGlobals "isinstance" = some none) (z_len : PySem.W.nsIn K mainGlobals "len" = some none) (z_list : PySem.W.nsIn K mainGlobals "list" = some none) (z_max : PySem.W.nsIn K mainGlobals "max" = some none) (z_min : PySem.W.nsIn K mainGlobals "min" = some none) (z_range : PySem.W.nsIn K mainGlobals "range" = some none) (z_sorted : PySem.W.nsIn K mainGlobals "sorted" = some none) (z_str : PySem.W.nsIn K mainGlobals "str" = some none) (z_sum : PySem.W.nsIn K mainGlobals "sum" = some none) (z_tuple : PySem.W.nsIn K mainGlobals "tuple" = some none) (z_zip : PySem.W.nsIn K mainGlobals "zip" = some none) :
    LamX.LawAtS l w K CX0 5 63 "_law_script" mg fa h := by
  cases hfa.symm.trans (PySem.W.mg_of X G a24)
  have F0 := fun_mk (st := sSetOf) l0 c0' k0
  have b0 := F0.binds (ps := ["pairs"]) fun _ _ _ _ _ _ us hl => match us, hl with | [_], _ => rfl
  have F1 := fun_mk (st := sBoth) l1 c1' k1
  have b1 := F1.binds (ps := ["one", "other"]) fun _ _ _ _ _ _ us hl => match us, hl with | [_, _], _ => rfl
  have F2 := fun_mk (st := sGaps) l2 c2' k2
  have b2 := F2.binds (ps := ["some", "begin", "end"]) fun _ _ _ _ _ _ us hl => match us, hl with | [_, _, _], _ => rfl
  have F3 := fun_mk (st := sWithout) l3 c3' k3
  have b3 := F3.binds (ps := ["one", "other"]) fun _ _ _ _ _ _ us hl => match us, hl with | [_, _], _ => rfl
  have F4 := fun_mk (st := sPacked) l4 c4' k4
  have b4 := F4.binds (ps := ["packing"]) fun _ _ _ _ _ _ us hl => match us, hl with | [_], _ => rfl
  have F5 := fun_mk (st := sCases) l5 c5' k5
  have b5 := F5.binds (ps := ["packing"]) fun _ _ _ _ _ _ us hl => match us, hl with | [_], _ => rfl
  have F6 := fun_mk (st := sSpots) l6 c6' k6
  have b6 := F6.binds (ps := ["packing"]) fun _ _ _ _ _ _ us hl => match us, hl with | [_], _ => rfl
  have F7 := fun_mk (st := sTouched) l7 c7' k7
  have b7 := F7.binds (ps := ["packing", "chosen"]) fun _ _ _ _ _ _ us hl => match us, hl with | [_, _], _ => rfl
  have F8 := fun_mk (st := sWith) l8 c8' k8
  have b8 := F8.binds (ps := ["packing", "marked"]) fun _ _ _ _ _ _ us hl => match us, hl with | [_, _], _ => rfl
  have F9 := fun_mk (st := sAll) l9 c9' k9
  have b9 := F9.binds (ps := ["packing", "marked"]) fun _ _ _ _ _ _ us hl => match us, hl with | [_, _], _ => rfl
  have F10 := fun_mk (st := sBegin) l10 c10' k10
  have b10 := F10.binds (ps := ["_law_script"]) fun _ _ _ _ _ _ us hl => match us, hl with | [_], _ => rfl
  have F11 := fun_mk (st := sTake) l11 c11' k11
  have b11 := F11.binds (ps := ["_law_state", "_law_many"]) fun _ _ _ _ _ _ us hl => match us, hl with | [_, _], _ => rfl
  have F12 := fun_mk (st := sSame) l12 c12' k12
  have b12 := F12.binds (ps := ["_law_found", "_law_due_here"]) fun _ _ _ _ _ _ us hl => match us, hl with | [_, _], _ => rfl
  have F13 := fun_mk (st := sNumber) l13 c13' k13
  have b13 := F13.binds (ps := ["_law_state", "_law_sort"]) fun _ _ _ _ _ _ us hl => match us, hl with | [_, _], _ => rfl
  have F14 := fun_mk (st := sNames) l14 c14' k14
  have b14 := F14.binds (ps := ["_law_state", "_law_many"]) fun _ _ _ _ _ _ us hl => match us, hl with | [_, _], _ => rfl
  have F15 := fun_mk (st := sMarks) l15 c15' k15
  have b15 := F15.binds (ps := ["_law_state", "_law_many"]) fun _ _ _ _ _ _ us hl => match us, hl with | [_, _], _ => rfl
  have F16 := fun_mk (st := sLSet) l16 c16' k16
  have b16 := F16.binds (ps := ["_law_pairs"]) fun _ _ _ _ _ _ us hl => match us, hl with | [_], _ => rfl
  have F17 := fun_mk (st := sParts) l17 c17' k17
  have b17 := F17.binds (ps := ["_law_state", "_law_marks", "_law_many", "_law_great"]) fun _ _ _ _ _ _ us hl => match us, hl with | [_, _, _, _], _ => rfl
  have F18 := fun_mk (st := sPackBy) l18 c18' k18
  have b18 := F18.binds (ps := ["_law_state", "_law_name", "_law_marks", "_law_great"]) fun _ _ _ _ _ _ us hl => match us, hl with | [_, _, _, _], _ => rfl
  have F19 := fun_mk (st := sMarked) l19 c19' k19
  have b19 := F19.binds (ps := ["_law_state", "_law_marks", "_law_packing", "_law_great"]) fun _ _ _ _ _ _ us hl => match us, hl with | [_, _, _, _], _ => rfl
  have F20 := fun_mk (st := sLaid) l20 c20' k20
  have b20 := F20.binds (ps := ["_law_packing"]) fun _ _ _ _ _ _ us hl => match us, hl with | [_], _ => rfl
  have F21 := fun_mk (st := sHas) l21 c21' k21
  have b21 := F21.binds (ps := ["_law_rows", "_law_mark", "_law_tin"]) fun _ _ _ _ _ _ us hl => match us, hl with | [_, _, _], _ => rfl
  have F22 := fun_mk (st := sGiven) l22 c22' k22
  have b22 := F22.binds (ps := ["_law_state", "_law_packing"]) fun _ _ _ _ _ _ us hl => match us, hl with | [_, _], _ => rfl
  have F23 := fun_mk (st := sDue) l23 c23' k23
  have b23 := F23.binds (ps := ["_law_packing", "_law_rows"]) fun _ _ _ _ _ _ us hl => match us, hl with | [_, _], _ => rfl
  have F24 := fun_mk (st := sLaw) l24 c24' k24
  have m_all := PySem.W.mg_none_of X G z_all
  have m_any := PySem.W.mg_none_of X G z_any
  have m_bool := PySem.W.mg_none_of X G z_bool
  have m_divmod := PySem.W.mg_none_of X G z_divmod
  have m_enumerate := PySem.W.mg_none_of X G z_enumerate
  have m_int := PySem.W.mg_none_of X G z_int
  have m_isinstance := PySem.W.mg_none_of X G z_isinstance
  have m_len := PySem.W.mg_none_of X G z_len
  have m_list := PySem.W.mg_none_of X G z_list
  have m_max := PySem.W.mg_none_of X G z_max
  have m_min := PySem.W.mg_none_of X G z_min
  have m_range := PySem.W.mg_none_of X G z_range
  have m_sorted := PySem.W.mg_none_of X G z_sorted
  have m_str := PySem.W.mg_none_of X G z_str
  have m_sum := PySem.W.mg_none_of X G z_sum
  have m_tuple := PySem.W.mg_none_of X G z_tuple
  have m_zip := PySem.W.mg_none_of X G z_zip
  have tb4 := tab_in TT X r4 (PySem.W.mg_of X G a4) l4 rfl lc4 v4
  refine ⟨PySem.W.fnOf "law" "law" (defArgs sLaw) (defBody sLaw) (defScope sLaw) .none kV24 dc24 pm24 an24 cd24 ct24, [(c4, P4)], spLaw K P4, List.forall_mem_cons.mpr ⟨tb4.2, fun _ z => nomatch z⟩, List.forall_mem_cons.mpr ⟨nP4, fun _ z => nomatch z⟩, List.forall_mem_cons.mpr ⟨tb4.1, fun _ z => nomatch z⟩, fun s v => .of_eq rfl, fun H a ns hl _ hH hS => ?_, fun base _ _ TB => ?_⟩
  · have hT4 : GxR.TabG H P4 := ⟨#[], hH (c4, P4) (List.mem_cons_self ..), trivial⟩; exact ⟨a, ns, rfl, hS, hl, hT4, fun _ => rfl⟩
  · have g := fun {x : Str} {f : Addr} (a : PySem.W.nsIn K mainGlobals x = some (some (.ref f))) => PySem.W.mg_of X G a
    have T4 : GxR.TabB base mg c4 P4 := let t := TB (c4, P4) (List.mem_cons_self ..); ⟨t.code, t.bm, t.gP⟩
    have CT : Cal l.prog w K mg base 1 "_law_take" ["_law_state", "_law_many"] spTake := ⟨_, _, ok_take F11 m_len m_divmod, g a11, k11, b11⟩
    have CB : Cal l.prog w K mg base 1 "_law_begin" ["_law_script"] (spBegin K) := ⟨_, _, ok_begin F10 m_list, g a10, k10, b10⟩
    have CU : Cal l.prog w K mg base 2 "_law_number" ["_law_state", "_law_sort"] spNumber := ⟨_, _, ok_number F13 CT m_range, g a13, k13, b13⟩
    have CN : Cal l.prog w K mg base 2 "_law_names" ["_law_state", "_law_many"] spNames := ⟨_, _, ok_Names F14 CT m_range m_len, g a14, k14, b14⟩
    have CM : Cal l.prog w K mg base 2 "_law_marks_by" ["_law_state", "_law_many"] spNames := ⟨_, _, ok_Marks F15 CT m_range m_len, g a15, k15, b15⟩
    have SO : Cal l.prog w K mg base 1 "set_of" ["pairs"] (spSetOf K) := ⟨_, _, ok_setof F0 m_sorted m_max, g a0, k0, b0⟩
    have LS : Cal l.prog w K mg base 1 "_law_set_of" ["_law_pairs"] spLSet := ⟨_, _, ok_lset F16 m_sorted m_max, g a16, k16, b16⟩
    have PA : Cal l.prog w K mg base 3 "_law_parts_by" ["_law_state", "_law_marks", "_law_many", "_law_great"] spParts := ⟨_, _, ok_parts F17 CT CU m_range m_len m_max, g a17, k17, b17⟩
    have PB : Cal l.prog w K mg base 4 "_law_packing_by" ["_law_state", "_law_name", "_law_marks", "_law_great"] spPackBy := ⟨_, _, ok_packby F18 CT CU PA m_sum m_max, g a18, k18, b18⟩
    have E0_ : Cal l.prog w K mg base 1 "_law_same" ["_law_found", "_law_due_here"] (spSame 0) := ⟨_, _, ok_same0 F12 m_isinstance m_list m_tuple m_bool m_str m_int, g a12, k12, b12⟩
    have E1_ : Cal l.prog w K mg base 2 "_law_same" ["_law_found", "_law_due_here"] (spSame 1) := ⟨_, _, ok_sameS F12 E0_ m_isinstance m_list m_tuple m_bool m_str m_int m_len m_all m_zip, g a12, k12, b12⟩
    have E2_ : Cal l.prog w K mg base 3 "_law_same" ["_law_found", "_law_due_here"] (spSame 2) := ⟨_, _, ok_sameS F12 E1_ m_isinstance m_list m_tuple m_bool m_str m_int m_len m_all m_zip, g a12, k12, b12⟩
    have E3_ : Cal l.prog w K mg base 4 "_law_same" ["_law_found", "_law_due_here"] (spSame 3) := ⟨_, _, ok_sameS F12 E2_ m_isinstance m_list m_tuple m_bool m_str m_int m_len m_all m_zip, g a12, k12, b12⟩
    have TP : Cal l.prog w K mg base 1 "tins_packed" ["packing"] (spPacked P4) := ⟨_, _, ok_packed l4 c4' T4 m_sum, g a4, k4, b4⟩
    have CO : Cal l.prog w K mg base 2 "cases_of" ["packing"] (spCases P4) := ⟨_, _, ok_cases F5 TP, g a5, k5, b5⟩
    have SP : Cal l.prog w K mg base 1 "spots_of" ["packing"] spSpots := ⟨_, _, ok_spots F6, g a6, k6, b6⟩
    have BO : Cal l.prog w K mg base 1 "both_of" ["one", "other"] (spBoth K) := ⟨_, _, ok_both F1 m_len m_max m_min, g a1, k1, b1⟩
    have GA : Cal l.prog w K mg base 2 "gaps_of" ["some", "begin", "end"] (spGaps K) := ⟨_, _, ok_gaps F2 SO m_max m_min, g a2, k2, b2⟩
    have WO : Cal l.prog w K mg base 3 "without" ["one", "other"] (spWithout K) := ⟨_, _, ok_without F3 BO GA, g a3, k3, b3⟩
    have TO : Cal l.prog w K mg base 2 "cases_touched" ["packing", "chosen"] spTouched := ⟨_, _, ok_touched F7 SP SO m_zip, g a7, k7, b7⟩
    have WI : Cal l.prog w K mg base 3 "cases_with" ["packing", "marked"] spWith := ⟨_, _, ok_with F8 BO TO, g a8, k8, b8⟩
    have AL : Cal l.prog w K mg base 4 "cases_all" ["packing", "marked"] (spAll P4) := ⟨_, _, ok_all F9 WO TO SO CO, g a9, k9, b9⟩
    have MB : Cal l.prog w K mg base 3 "_law_marked_by" ["_law_state", "_law_marks", "_law_packing", "_law_great"] spMarked := ⟨_, _, ok_marked F19 CT CU LS m_range m_len m_max, g a19, k19, b19⟩
    have GI : Cal l.prog w K mg base 2 "_law_given" ["_law_state", "_law_packing"] spGiven := ⟨_, _, ok_given F22 CT m_list m_tuple, g a22, k22, b22⟩
    have LA : Cal l.prog w K mg base 1 "_law_laid_out" ["_law_packing"] spLaid := ⟨_, _, ok_laid F20 m_range, g a20, k20, b20⟩
    have HA : Cal l.prog w K mg base 1 "_law_has" ["_law_rows", "_law_mark", "_law_tin"] spHas := ⟨_, _, ok_has F21 m_any, g a21, k21, b21⟩
    have DU : Cal l.prog w K mg base 2 "_law_due" ["_law_packing", "_law_rows"] spDue := ⟨_, _, ok_due F23 LA HA LS m_enumerate, g a23, k23, b23⟩
    exact ok_law F24 CB CT CN CM PB MB GI DU WI AL E3_ m_range m_len m_list m_tuple
end TK
open PySem PySem.W PyProof.Rows
set_option maxHeartbeats 0 in
theorem PySem.Challenge.cw_tinrecall_k25_cases_by_trying_all_holds : PySem.Challenge.rw_tinrecall_k25_cases_by_trying_all.Holds := by
  w_on; o_law; k_head; (case hw => w_witness2)
  k_fill
  refine TK.law_end (l := PySem.Challenge.rw_tinrecall_k25_cases_by_trying_all) (k := 5) rfl rfl ⟨rfl, by decide, by decide⟩ (fun w h Y => PySem.W.kIn_of Y) ?made
  case made =>
    intro w mg f h KX G hmg TT
    refine' TK.all_mk KX G hmg TT ?a0 ?l0 ?c0 ?k0 ?a1 ?l1 ?c1 ?k1 ?a2 ?l2 ?c2 ?k2 ?a3 ?l3 ?c3 ?k3 ?a4 ?l4 ?c4 ?k4 ?a5 ?l5 ?c5 ?k5 ?a6 ?l6 ?c6 ?k6 ?a7 ?l7 ?c7 ?k7 ?a8 ?l8 ?c8 ?k8 ?a9 ?l9 ?c9 ?k9 ?a10 ?l10 ?c10 ?k10 ?a11 ?l11 ?c11 ?k11 ?a12 ?l12 ?c12 ?k12 ?a13 ?l13 ?c13 ?k13 ?a14 ?l14 ?c14 ?k14 ?a15 ?l15 ?c15 ?k15 ?a16 ?l16 ?c16 ?k16 ?a17 ?l17 ?c17 ?k17 ?a18 ?l18 ?c18 ?k18 ?a19 ?l19 ?c19 ?k19 ?a20 ?l20 ?c20 ?k20 ?a21 ?l21 ?c21 ?k21 ?a22 ?l22 ?c22 ?k22 ?a23 ?l23 ?c23 ?k23 ?a24 ?l24 ?c24 ?k24 ?lc4 ?v4 ?nP4 ?r4 ?z_all ?z_any ?z_bool ?z_divmod ?z_enumerate ?z_int ?z_isinstance ?z_len ?z_list ?z_max ?z_min ?z_range ?z_sorted ?z_str ?z_sum ?z_tuple ?z_zip
    (case a0 => k_is); (case l0 => k_is); (case c0 => k_is); (case k0 => k_is)
    (case a1 => k_is); (case l1 => k_is); (case c1 => k_is); (case k1 => k_is)
    (case a2 => k_is); (case l2 => k_is); (case c2 => k_is); (case k2 => k_is)
    (case a3 => k_is); (case l3 => k_is); (case c3 => k_is); (case k3 => k_is)
    (case a4 => k_is); (case l4 => k_is); (case c4 => k_is); (case k4 => k_is)
    (case a5 => k_is); (case l5 => k_is); (case c5 => k_is); (case k5 => k_is)
    (case a6 => k_is); (case l6 => k_is); (case c6 => k_is); (case k6 => k_is)
    (case a7 => k_is); (case l7 => k_is); (case c7 => k_is); (case k7 => k_is)
    (case a8 => k_is); (case l8 => k_is); (case c8 => k_is); (case k8 => k_is)
    (case a9 => k_is); (case l9 => k_is); (case c9 => k_is); (case k9 => k_is)
    (case a10 => k_is); (case l10 => k_is); (case c10 => k_is); (case k10 => k_is)
    (case a11 => k_is); (case l11 => k_is); (case c11 => k_is); (case k11 => k_is)
    (case a12 => k_is); (case l12 => k_is); (case c12 => k_is); (case k12 => k_is)
    (case a13 => k_is); (case l13 => k_is); (case c13 => k_is); (case k13 => k_is)
    (case a14 => k_is); (case l14 => k_is); (case c14 => k_is); (case k14 => k_is)
    (case a15 => k_is); (case l15 => k_is); (case c15 => k_is); (case k15 => k_is)
    (case a16 => k_is); (case l16 => k_is); (case c16 => k_is); (case k16 => k_is)
    (case a17 => k_is); (case l17 => k_is); (case c17 => k_is); (case k17 => k_is)
    (case a18 => k_is); (case l18 => k_is); (case c18 => k_is); (case k18 => k_is)
    (case a19 => k_is); (case l19 => k_is); (case c19 => k_is); (case k19 => k_is)
    (case a20 => k_is); (case l20 => k_is); (case c20 => k_is); (case k20 => k_is)
    (case a21 => k_is); (case l21 => k_is); (case c21 => k_is); (case k21 => k_is)
    (case a22 => k_is); (case l22 => k_is); (case c22 => k_is); (case k22 => k_is)
    (case a23 => k_is); (case l23 => k_is); (case c23 => k_is); (case k23 => k_is)
    (case a24 => k_is); (case l24 => k_is); (case c24 => k_is); (case k24 => k_is)
    (case lc4 => k_is); (case v4 => exact rfl); (case nP4 => exact rfl); (case r4 => decide +kernel)
    (case z_all => k_is); (case z_any => k_is); (case z_bool => k_is); (case z_divmod => k_is); (case z_enumerate => k_is); (case z_int => k_is); (case z_isinstance => k_is); (case z_len => k_is); (case z_list => k_is); (case z_max => k_is); (case z_min => k_is); (case z_range => k_is); (case z_sorted => k_is); (case z_str => k_is); (case z_sum => k_is); (case z_tuple => k_is); (case z_zip => k_is)

