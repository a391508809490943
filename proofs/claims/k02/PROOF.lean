import PyProof.Rows.All
import Wide.All
import OpenK.AllK
import Wide.FinOn
import HandS.ForMost
import HandS.WideBits
import HandS.IsInst
import HandS.Style
import HandS.AnyAll
import HandS.Nested
import HandS.Walk
import HandS.Evl
import HandS.EndTab
import HandS.SortInts
import HandS.SortRule
import HandS.Conv
import HandS.Star
import HandS.Codes
import HandS.Wide
import HandS.Zip
import HandS.DictComp
import PyProof.ReprRoads
import PyProof.ReprLen
import HandS.Small
import HandS.More
import KE.KDictPairs
import KE.GoesMore
import KE.GoesEnum
import PyProof.SumAny
import PyProof.WalksPairs
import PyProof.GenCompT
import PySem.Challenge.RW_tinrecall_k02_sets_put_together
set_option Elab.async false
set_option linter.all false
set_option maxRecDepth 100000
set_option maxHeartbeats 5000000
/-! ## sum(.. for a, b in ..): a generator expression over a list or a tuple of pairs of whole numbers -/
namespace GP
open PySem PySem.Spec PyProof.Rows L2 GxR

/-- a walk whose items are tuples that stand still -/
theorem asTuples {prog : Program} {w : World} {A : Around} {it : Addr} {foot : List Addr} {n : Nat} {Item : Nat → Value → Prop} {At : Nat → Heap → Prop} (W : Walks prog w A it foot [it] n Item At) (loc : Nat → Addr) (held : Nat → Array Value)
    (isT : ∀ j v, j < n → Item j v → v = .ref (loc j)) (apt : ∀ j, j < n → loc j ≠ it)
    (letGo : ∀ (es : List Expr) (k : Nat) (pos : Pos) (j : Nat) (T : Addr) (s : Shared) (Q : Unit → Shared → Prop) (E : Value → Shared → Prop), At j s.heap → Q () s → wpAny (model prog w) A (letOwnedTupleGo (.Tuple es k pos) (.ref it) (.ref T)) Q E s) :
    WalksU prog w A it (foot ++ (List.range n).map loc) [it] n (fun j xs => xs = held j) (fun j h => At j h ∧ ∀ m, m < n → h.IsTuple (loc m) (held m))
      (fun j T h => (j < n ∧ T = loc j) ∧ At (j + 1) h ∧ ∀ m, m < n → h.IsTuple (loc m) (held m)) := by
  have inFoot : ∀ m, m < n → loc m ∈ foot ++ (List.range n).map loc := fun m hm => List.mem_append.mpr (.inr (List.mem_map.mpr ⟨m, List.mem_range.mpr hm, rfl⟩))
  constructor
  case sub => exact fun b hb => List.mem_append.mpr (.inl (W.sub b hb))
  case frame =>
    intro j h h' ⟨a1, a2⟩ kept
    refine ⟨W.frame j h h' a1 fun b hb => kept b (List.mem_append.mpr (.inl hb)), fun m hm => ?_⟩
    obtain ⟨o, e, r⟩ := a2 m hm
    exact ⟨o, kept _ (inFoot m hm) o e, r⟩
  case item =>
    intro j s Q E hj ⟨a1, a2⟩ fin
    refine W.item j s Q E hj a1 fun v h' tk hv a1' kept => ?_
    have still : ∀ m, m < n → h'.IsTuple (loc m) (held m) := fun m hm => by
      obtain ⟨o, e, r⟩ := a2 m hm
      exact ⟨o, kept _ o (fun z => apt m hm (List.mem_singleton.mp z)) e, r⟩
    rw [isT j v hj hv]
    exact fin (loc j) (held j) h' tk rfl (still j hj) ⟨⟨hj, rfl⟩, a1', still⟩ kept
  case go =>
    intro es k pos j T s Q E hm fin
    exact letGo es k pos (j + 1) T s Q E hm.2.1 (fin s.heap hm.2 fun _ _ _ e => e)
  case apart =>
    intro j T h hm z
    rw [hm.1.2] at z
    exact apt j hm.1.1 (List.mem_singleton.mp z)
  case done => exact fun s Q E a fin => W.done s Q E a.1 fin
  case self => exact fun j s Q E a fin => W.self j s Q E a.1 fin

/-- the values vs are tuples that hold the pairs ps -/
def Prs (H : Hp) (vs : List V) (ps : List (Int × Int)) : Prop := vs.length = ps.length ∧ ∀ (i : Nat) p, ps[i]? = some p → ∃ a, vs[i]? = some (.ref a) ∧ H a = some (.tup [.int p.1, .int p.2])

/-- what is asked of the expression's own scope: the two names are its locals, its captured names are the def's -/
def OwnScope (env : Env) (sc : Scope) (xa xb : Str) : Prop :=
  (sc.kind = .function ∧ sc.isCoroutine = false ∧ xa ≠ xb) ∧ (sc.names.lookup (".0" : Str) = some .local ∧ sc.names.lookup xa = some .local ∧ sc.names.lookup xb = some .local) ∧
  (∀ y ∈ sc.names, y.2 ≠ NameKind.cell) ∧ ∀ y ∈ sc.names, y.2 = NameKind.free → ∃ c, env.cells.lookup y.1 = some c

section
variable {X : Cx} {s : Shared} {H : Hp} {σ : L2.St} {pins : List (Addr × Obj)}
/-- a tracked pair in the machine's heap -/
theorem pair_in {T : Addr} {p : Int × Int} (I : Inv X pins σ H s) (e : H T = some (.tup [.int p.1, .int p.2])) : ∃ ta tb, s.heap.IsTuple T #[.int p.1 ta, .int p.2 tb] := by
  obtain ⟨_, its, r, t⟩ := I.hok T _ e
  cases r with
  | cons q1 r =>
    cases r with
    | cons q2 r =>
      cases r
      obtain ⟨ta, rfl⟩ := q1
      obtain ⟨tb, rfl⟩ := q2
      exact ⟨ta, tb, t⟩
/-- the pairs by place: where they stand and what they hold -/
theorem pairs_in {vs : List V} {ps : List (Int × Int)} {its : List Value} (I : Inv X pins σ H s) (hp : Prs H vs ps) (r : Vals vs its) :
    ∃ (loc : Nat → Addr) (held : Nat → Array Value), ∀ j, j < ps.length → its[j]? = some (.ref (loc j)) ∧ s.heap.IsTuple (loc j) (held j) ∧ ∃ p ta tb, ps[j]? = some p ∧ held j = #[.int p.1 ta, .int p.2 tb] := by
  have one : ∀ j, ∃ (T : Addr) (xs : Array Value), j < ps.length → its[j]? = some (.ref T) ∧ s.heap.IsTuple T xs ∧ ∃ p ta tb, ps[j]? = some p ∧ xs = #[.int p.1 ta, .int p.2 tb] := fun j => by
    by_cases hj : j < ps.length
    · obtain ⟨T, e1, e2⟩ := hp.2 j ps[j] (List.getElem?_eq_getElem hj)
      obtain ⟨u, eu, ru⟩ := r.get e1
      cases ru
      obtain ⟨ta, tb, t⟩ := pair_in I e2
      exact ⟨T, _, fun _ => ⟨eu, t, ps[j], ta, tb, List.getElem?_eq_getElem hj, rfl⟩⟩
    · exact ⟨0, #[], fun z => absurd z hj⟩
  exact ⟨fun j => (one j).choose, fun j => (one j).choose_spec.choose, fun j hj => (one j).choose_spec.choose_spec hj⟩

/-- what a walk over the pairs is, begun at the new iterator that o is -/
def Begun (X : Cx) (s : Shared) (P : Addr) (ps : List (Int × Int)) (o : Obj) : Prop :=
  ∃ (foot : List Addr) (Hold : Nat → Array Value → Prop) (At : Nat → Heap → Prop) (Mid : Nat → Addr → Heap → Prop),
    (∀ A' : Around, A'.handled = none → WalksU X.prog X.w A' s.heap.objs.size foot [s.heap.objs.size] ps.length (fun j xs => j < ps.length ∧ Hold j xs) At Mid) ∧
    (∀ j xs, j < ps.length → Hold j xs → ∃ p ta tb, ps[j]? = some p ∧ xs = #[.int p.1 ta, .int p.2 tb]) ∧ At 0 (s.heap.push o) ∧ ∀ b ∈ foot, b < s.heap.objs.size + 1 ∧ b ≠ P
theorem begin_pairs {a P : Addr} {vs : List V} {ps : List (Int × Int)} {tb : Array Value} {Q' : Value → Shared → Prop} (I : Inv X pins σ H s) (hS : SqL X.K H a vs ∨ SqT X.K H a vs) (hp : Prs H vs ps) (hP : H P = some (.tbl tb))
    (fin : ∀ o, Begun X s P ps o → Q' (.ref s.heap.objs.size) { s with heap := s.heap.push o }) : wpAny (model X.prog X.w) X.A (pyIter (.ref a)) Q' X.xe s := by
  have hPo : s.heap.get? P = some { cls := .none, data := .fields tb } := I.hok P _ hP
  have notP : ∀ (b : Addr) (o : Obj) (xs : Array Value) (n : Nat), s.heap.get? b = some o → o.data = .seq xs n → b ≠ P := fun b o xs n e d z => by
    rw [z, hPo] at e
    rw [← Option.some.inj e] at d
    cases d
  have newP : s.heap.objs.size ≠ P := fun z => Nat.lt_irrefl _ (Nat.lt_of_lt_of_eq (Heap.lt_size hPo) z)
  -- from a walk over the items to the pairs
  have mk : ∀ (its : List Value) (o : Obj) (At : Nat → Heap → Prop), Vals vs its → a < s.heap.objs.size → a ≠ P → At 0 (s.heap.push o) →
      (∀ A' : Around, A'.handled = none → Walks X.prog X.w A' s.heap.objs.size [s.heap.objs.size, a] [s.heap.objs.size] its.toArray.size (fun i v => its.toArray[i]? = some v) At) →
      (∀ (A' : Around) (es : List Expr) (k : Nat) (pos : Pos) (j : Nat) (T : Addr) (s' : Shared) (Q : Unit → Shared → Prop) (E : Value → Shared → Prop), At j s'.heap → Q () s' → wpAny (model X.prog X.w) A' (letOwnedTupleGo (.Tuple es k pos) (.ref s.heap.objs.size) (.ref T)) Q E s') →
      Begun X s P ps o := by
    intro its o At r ha haP a0 W go
    obtain ⟨loc, held, hl⟩ := pairs_in I hp r
    have ln : its.toArray.size = ps.length := by rw [List.size_toArray, ← r.length, hp.1]
    have below : ∀ m, m < ps.length → loc m < s.heap.objs.size ∧ loc m ≠ P := fun m hm => by
      obtain ⟨_, ⟨ob, e, _, n, d⟩, _⟩ := hl m hm
      exact ⟨Heap.lt_size e, notP _ _ _ _ e d⟩
    refine ⟨_, _, _, _, fun A' hA => (asTuples (ln ▸ W A' hA) loc held (fun j v hj e => ?_) (fun j hj => Nat.ne_of_lt (below j hj).1) (fun es k pos j T s' Q E => go A' es k pos j T s' Q E)).bound, fun j xs hj e => ?_, ⟨a0, fun m hm => ?_⟩, fun b hb => ?_⟩
    · have e2 : its[j]? = some v := by simpa using e
      rw [(hl j hj).1] at e2
      exact (Option.some.inj e2).symm
    · obtain ⟨_, _, p, ta, tb', e1, e2⟩ := hl j hj
      exact ⟨p, ta, tb', e1, (show xs = held j from e).trans e2⟩
    · obtain ⟨_, ⟨ob, e, rest⟩, _⟩ := hl m hm
      exact ⟨ob, Heap.get?_push_of_some _ e, rest⟩
    · rcases List.mem_append.mp hb with z | z
      · rcases List.mem_cons.mp z with e | e
        · rw [e]; exact ⟨Nat.lt_succ_self _, newP⟩
        · rw [List.mem_singleton.mp e]; exact ⟨Nat.lt_succ_of_lt ha, haP⟩
      · obtain ⟨m, hm, e⟩ := List.mem_map.mp z
        obtain ⟨h1, h2⟩ := below m (List.mem_range.mp hm)
        rw [← e]; exact ⟨Nat.lt_succ_of_lt h1, h2⟩
  rcases hS with hS | hS
  · obtain ⟨its, r, hl, _⟩ := I.list hS
    obtain ⟨o, e, c, n, d⟩ := hl.isList
    refine wpAny_pyIter_list hl.isList (fin _ (mk its _ _ r (Heap.lt_size e) (notP _ _ _ _ e d) ⟨⟨_, Heap.get?_push_size _ rfl, rfl, rfl⟩, ⟨o, Heap.get?_push_of_some _ e, c, n, d⟩⟩ (fun A' hA => Walks.list hA _ a (Nat.ne_of_lt (Heap.lt_size e)) its.toArray) ?_))
    exact fun A' es k pos j T s' Q E at_ q => wpAny_letOwnedTupleGo_listiter at_.1 q
  · obtain ⟨its, r, ⟨o, e, c, n, d⟩, _⟩ := I.tuple hS
    refine wpAny_pyIter_tuple (items := its.toArray) ⟨o, e, c, n, d⟩ (fin _ (mk its _ _ r (Heap.lt_size e) (notP _ _ _ _ e d) ⟨⟨_, Heap.get?_push_size _ rfl, rfl, rfl⟩, ⟨o, Heap.get?_push_of_some _ e, c, n, d⟩⟩ (fun A' hA => Walks.tuple hA _ a (Nat.ne_of_lt (Heap.lt_size e)) its.toArray) ?_))
    exact fun A' es k pos j T s' Q E at_ q => letGo_tupleiter at_.1 q

/-- the expression's code object is made, or found: the table may grow, all else stands -/
theorem code_there {c P : Addr} {gpos : Pos} {qual : Str} {sc : Scope} {tb : Array Value} {Q' : Value → Shared → Prop} {E : Value → Shared → Prop} (hcode : X.env.code = .ref c) (C : PySem.W.CodeHd s.heap c P) (hP : s.heap.get? P = some { cls := .none, data := .fields tb }) (ok : TriplesOk tb.toList)
    (fin : ∀ (code : Value) (h' : Heap) (tk : Nat) (more : Array Value), Heap.ExtBut P s.heap h' → s.heap.objs.size ≤ h'.objs.size → h'.get? P = some { cls := .none, data := .fields (tb ++ more) } → TriplesOk (tb ++ more).toList → Q' code { s with heap := h', toks := tk }) :
    wpAny (model X.prog X.w) X.A (genexprCode X.env gpos qual sc) Q' E s := by
  cases found : codeAmong gpos tb.toList with
  | some old =>
    refine wpAny_genexprCode_hit hcode (C.code hP ok) found ?_
    have e : tb ++ #[] = tb := by simp
    exact fin old s.heap s.toks #[] (Heap.ExtBut.refl _ _) (Nat.le_refl _) (by rw [e]; exact hP) (by rw [e]; exact ok)
  | none =>
    refine wpAny_genexprCodeX hcode (C.code hP ok) (C.tab hP) found fun c' h' tk ext le lt isC _ tab _ => ?_
    obtain ⟨_, _, _, _, _, _, _, _, _, _, _, _, _, _, _, _, _, _, _, okT, _⟩ := isC
    exact fin _ h' tk _ ext (Nat.le_trans le (Nat.le_of_lt lt)) tab.2 okT

/-- the element at a pair of whole numbers: what it gives, wherever the expression runs later -/
def EltAt (X : Cx) (s₁ : Shared) (P : Addr) (sc : Scope) (xa xb : Str) (elt : Expr) (Gives : Int → Int → Value → Prop) : Prop :=
  ∀ (L : Addr) (code : Value) (A' : Around) (E' : Value → Shared → Prop) (a b : Int) (ta tb : Tok) (s₂ : Shared) (m : Str → Option Value), A'.handled = none →
    (∀ x o, x ≠ P → s₁.heap.get? x = some o → s₂.heap.get? x = some o) → s₂.heap.Ns L m → m xa = some (.int a ta) → m xb = some (.int b tb) →
    wpAny (model X.prog X.w) A' (eval elt (genEnv sc (cloFrom X.env.cells sc.names []) L code builtinsNs X.env)) (fun y s₃ => Gives a b y ∧ Keeps s₂ s₃) E' s₂

/-- the generator at g, in the state s₅, before its first item; H₁: what was held when it was made -/
def Fresh (X : Cx) (pins : List (Addr × Obj)) (σ : L2.St) (H₁ : Hp) (P : Addr) (ps : List (Int × Int)) (Gives : Int → Int → Value → Prop) (g : Addr) (s₅ : Shared) : Prop :=
  ∃ (foot writes : List Addr) (Gens : Array GenState → Array GenState → Prop) (Item : Nat → Value → Prop) (At : Nat → Shared → Prop),
    (WalksS X.prog X.w X.A.in1 g foot writes Gens ps.length Item At ∧ At 0 s₅ ∧ ∀ b ∈ foot, b < s₅.heap.objs.size) ∧
    (∀ j v, Item j v → ∃ p, ps[j]? = some p ∧ Gives p.1 p.2 v) ∧ ∀ s₆, Moved writes Gens s₅ s₆ → ∃ H₂, Tabbed P H₁ H₂ ∧ Inv X pins σ H₂ s₆

theorem gen_made {c P : Addr} {elt iter : Expr} {xa xb : Str} {pa pb pt gpos : Pos} {kt : Nat} {sc : Scope} {te : TE} {k : Nat} {Q' : Value → Shared → Prop} {Want : List (Int × Int) → Hp → Prop} {Gives : Int → Int → Value → Prop}
    (room : Room k X.A) (TB : TabB X.base X.mg c P) (hcode : X.env.code = .ref c) (own : OwnScope X.env sc xa xb) (walked : PE X iter te) (plain : ∀ v, genFold iter X.env v = pure v) (I : Inv X pins σ H s)
    (each : ∀ s₁ H₁, Inv X pins σ H₁ s₁ → TabG H₁ P → EltAt X s₁ P sc xa xb elt Gives)
    (h : te σ H fun v H₁ => ∃ (a : Addr) (vs : List V) (ps : List (Int × Int)), v = .ref a ∧ (SqL X.K H₁ a vs ∨ SqT X.K H₁ a vs) ∧ Prs H₁ vs ps ∧ TabG H₁ P ∧ Want ps H₁)
    (fin : ∀ ps H₁ g s₅, Want ps H₁ → Fresh X pins σ H₁ P ps Gives g s₅ → Q' (.ref g) s₅) :
    wpAny (model X.prog X.w) X.A (eval (.GeneratorExp elt [⟨.Tuple [.Name xa pa, .Name xb pb] kt pt, iter, [], 0⟩] sc gpos) X.env) Q' X.xe s := by
  obtain ⟨⟨o1, o2, o3⟩, ⟨o4, o5, o6⟩, o7, o8⟩ := own
  have deep : X.A.depth < recursionLimit := by have := room.dp; omega
  refine wpAny_GeneratorExp_walksQT room.hd o2 (closure_ok o8) o7 o4 o5 o6 o3 o1 deep (thn (walked.run pins s σ H _ I h) fun u s₁ had => ?_) plain
  obtain ⟨_, H₁, I₁, rel, a, vs, ps, rfl, hS, hp, ⟨tb, hP, ok⟩, want⟩ := had
  cases rel
  have tabAt : s₁.heap.get? P = some { cls := .none, data := .fields tb } := I₁.hok P _ hP
  refine begin_pairs I₁ hS hp hP fun o beg => ?_
  obtain ⟨foot, Hold, At, Mid, W, holds, at0, low⟩ := beg
  have statics : cStatics < s₁.heap.objs.size ∧ cStatics ≠ P := by
    obtain ⟨_, ns, _⟩ := I₁.nolimit
    refine ⟨ns.lt, fun z => ?_⟩
    obtain ⟨ob, _, _, e, d, _⟩ := ns
    rw [z, tabAt] at e
    rw [← Option.some.inj e] at d
    cases d
  have quiet : (s₁.heap.push o).NoLimit := I₁.nolimit.push o
  refine ⟨quiet, code_there hcode (TB.code.keeps fun b u e => Heap.get?_push_of_some _ (I₁.bk b u e)) (Heap.get?_push_of_some _ tabAt) ok fun code h₃ tk more ext le tab₃ ok₃ => ?_⟩
  rw [Heap.size_push] at le
  have stays : ∀ b u, b ≠ P → s₁.heap.get? b = some u → h₃.get? b = some u := fun b u hb e => ext b u hb (Heap.get?_push_of_some _ e)
  obtain ⟨bm, ob, f1, f2, f3, f4, f5, f6, f7, f8⟩ := TB.bm
  have globals : Heap.Ns h₃ X.env.globals X.mg := by
    rw [I₁.ok.glob]
    exact ((I₁.mod.glob.keeps I₁.bk).push o).extBut ext TB.gP
  refine wpAny_builtinsFor (m := X.mg) globals f1 f2 (stays bm ob f4 (I₁.bk bm ob f5)) f6 f7 f8 ?_
  have later : ∀ b u, s₁.heap.get? b = some u → b ∉ [h₃.objs.size, s₁.heap.objs.size] := fun b u e z => by
    have lt := Heap.lt_size e
    rcases List.mem_cons.mp z with z' | z'
    · exact Nat.lt_irrefl _ (Nat.lt_of_lt_of_le (z' ▸ lt) (Nat.le_of_succ_le le))
    · exact Nat.lt_irrefl _ (List.mem_singleton.mp z' ▸ lt)
  refine ⟨_, _, _, _, _, _, _, fun _ => true, fun i y => i < ps.length → ∃ p, ps[i]? = some p ∧ Gives p.1 p.2 y, rfl, W, fun i xs hx => ?_, ?_, fun b hb => Nat.lt_of_lt_of_le (low b hb).1 le, quiet.extBut ext statics.2, fun z => Nat.ne_of_lt statics.1 (List.mem_singleton.mp z), fun ref kept => ⟨?_, ?_⟩, ?_⟩
  · obtain ⟨p, ta, tb', _, e⟩ := holds i xs hx.1 hx.2
    exact ⟨_, _, e⟩
  · exact (W X.A room.hd).frame _ _ _ at0 fun b hb u e => ext b u (low b hb).2 e
  · intro A' E' i va vb s₂ m _ _ _ _ _ _
    rw [List.forIn_nil]
    exact wpAny_pure ⟨rfl, _, _, rfl, fun _ _ e => e⟩
  · intro A' E' i va vb s₂ m calm hx _ ns ea eb still
    obtain ⟨p, ta, tb', ep, e⟩ := holds i _ hx.1 hx.2
    have e1 : va = .int p.1 ta := by have z := congrArg (·[0]?) e; simpa using z
    have e2 : vb = .int p.2 tb' := by have z := congrArg (·[1]?) e; simpa using z
    subst e1 e2
    refine wpAny_mono (each s₁ H₁ I₁ ⟨tb, hP, ok⟩ _ code A' E' p.1 p.2 ta tb' s₂ m calm (fun b u hb q => ?_) ns ea eb) (fun y s₃ r => ⟨fun _ => ⟨p, ep, r.1⟩, r.2⟩) fun _ _ q => q
    have q3 := stays b u hb q
    exact still b (List.mem_range.mpr (Heap.lt_size q3)) (fun z => later b u q (List.mem_cons_of_mem _ z)) u (kept b u q3)
  · intro g h₅ tk₅ gs bare above size kept W₅ at₅
    rw [GxR.passing_true, List.length_range] at W₅
    have above' : h₃.objs.size < g := above
    have size' : h₅.objs.size = g + 1 := size
    refine fin ps H₁ g _ want ⟨_, _, _, _, _, ⟨W₅.in4_1, at₅, fun b hb => ?_⟩, fun j v it => ?_, fun s₆ mv => ?_⟩
    · show b < h₅.objs.size
      rw [size']
      rcases List.mem_cons.mp hb with eg | e
      · rw [eg]; exact Nat.lt_succ_self g
      · refine Nat.lt_succ_of_le (Nat.le_trans ?_ (Nat.le_of_lt above'))
        rcases List.mem_cons.mp e with e' | e'
        · rw [e']; exact Nat.le_refl _
        · exact Nat.le_of_lt (List.mem_range.mp e')
    · obtain ⟨i, ei, hg⟩ := it
      have lt : j < ps.length := by
        have z := (List.getElem?_eq_some_iff.mp ei).1
        rwa [List.length_range] at z
      rw [List.getElem?_range lt] at ei
      cases ei
      exact hg lt
    · have all : ∀ b u, b ≠ P → s₁.heap.get? b = some u → s₆.heap.get? b = some u := fun b u hb e => mv.heap b u (later b u e) (kept b u (stays b u hb e))
      have tab₆ := mv.heap P _ (later P _ tabAt) (kept P _ tab₃)
      have J := inv_tab (more := more) (d' := s₆.drawn) (t' := s₆.toks) I₁ hP all tab₆ (AllBare.movedS (I₁.bare.push bare) mv)
      rw [sh_eta s₁ s₆ mv.os] at J
      exact ⟨_, ⟨⟨tb ++ more, upd_same, ok₃⟩, fun b hb => upd_ne hb⟩, J⟩

/-- the sum of g over the pairs -/
def sumP (g : Int → Int → Int) (ps : List (Int × Int)) : Int := (ps.map fun p => g p.1 p.2).sum
theorem preSum_is (g : Int → Int → Int) (ps : List (Int × Int)) (val : Nat → Int) (h : ∀ i p, ps[i]? = some p → val i = g p.1 p.2) : ∀ n, n ≤ ps.length → preSum val n = sumP g (ps.take n)
  | 0, _ => rfl
  | n + 1, hn => by
    have e : ps[n]? = some ps[n] := List.getElem?_eq_getElem hn
    show preSum val n + val n = _
    rw [preSum_is g ps val h n (by omega), h n _ e]
    unfold sumP
    rw [List.take_add_one, e, List.map_append, List.sum_append]
    show _ = _ + (g ps[n].1 ps[n].2 + 0)
    rw [Int.add_zero]
/-- what the reading of sum(..), any(..) over pairs asks: what is captured (Cap), the pairs, the table; then the answer -/
def tOver {α : Type} (K : PySem.W.Frag) (P : Addr) (Cap : L2.St → α → Prop) (ans : α → List (Int × Int) → V) (te : TE) : TE := fun σ H Q => ∃ x : α, Cap σ x ∧ te σ H fun v H₁ => ∃ (a : Addr) (vs : List V) (ps : List (Int × Int)), v = .ref a ∧ (SqL K H₁ a vs ∨ SqT K H₁ a vs) ∧ Prs H₁ vs ps ∧ TabG H₁ P ∧
  ∀ H₂, Tabbed P H₁ H₂ → Q (ans x ps) H₂
/-- how a built-in takes a generator over pairs -/
def Takes2 (X : Cx) (name : String) (Gives : Int → Int → Value → Prop) (ans : List (Int × Int) → V) : Prop :=
  ∀ (pins : List (Addr × Obj)) (σ : L2.St) (P : Addr) (ps : List (Int × Int)) (H₁ : Hp) (gen : Addr) (s₅ : Shared) (Q : VK), Fresh X pins σ H₁ P ps Gives gen s₅ → (∀ H₂, Tabbed P H₁ H₂ → Q (ans ps) H₂) →
    wpAny (model X.prog X.w) X.A (call (.builtin name) [.ref gen]) (EP X pins σ Q) X.xe s₅
theorem pe_over {α : Type} {name : String} {x : Str} {c P : Addr} {elt iter : Expr} {xa xb : Str} {pa pb pt p pos gpos : Pos} {kt : Nat} {sc : Scope} {Cap : L2.St → α → Prop} {Gives : α → Int → Int → Value → Prop} {ans : α → List (Int × Int) → V} {te : TE} {k : Nat} (takes : ∀ y, Takes2 X name (Gives y) (ans y))
    (room : Room k X.A) (glob : Gl X x) (free : X.mg x = none) (bltn : bootBuiltins x = some (.builtin name)) (TB : TabB X.base X.mg c P) (hcode : X.env.code = .ref c) (own : OwnScope X.env sc xa xb) (walked : PE X iter te)
    (each : ∀ pins σ s₁ H₁ y, Inv X pins σ H₁ s₁ → TabG H₁ P → Cap σ y → EltAt X s₁ P sc xa xb elt (Gives y)) (plain : ∀ v, genFold iter X.env v = pure v) (n1 : x ≠ "__name__" := by decide) (n2 : (x == ("__debug__" : Str)) = false := by decide)
    (one : starEach [.GeneratorExp elt [⟨.Tuple [.Name xa pa, .Name xb pb] kt pt, iter, [], 0⟩] sc gpos] X.env = [(false, eval (.GeneratorExp elt [⟨.Tuple [.Name xa pa, .Name xb pb] kt pt, iter, [], 0⟩] sc gpos) X.env)] := by rfl) :
    PE X (.Call (.Name x p) [.GeneratorExp elt [⟨.Tuple [.Name xa pa, .Name xb pb] kt pt, iter, [], 0⟩] sc gpos] [] pos) (tOver X.K P Cap ans te) := by
  constructor
  intro pins s σ H Q I h
  obtain ⟨y, cap, h⟩ := h
  refine wpAny_Call_Name_kw (ld_blt I glob free bltn (callWith_builtin1 ?_ one (by rfl)) n1 n2)
  rw [one]
  refine Calls.spliced_cons (gen_made (Want := fun ps H₁ => ∀ H₂, Tabbed P H₁ H₂ → Q (ans y ps) H₂) (Gives := Gives y) room TB hcode own walked plain I (fun s₁ H₁ J g => each pins σ s₁ H₁ y J g cap) h fun ps H₁ gen s₅ want fresh => Calls.spliced_nil ?_)
  exact takes y pins σ P ps H₁ gen s₅ Q fresh want
theorem takes_sum (g : Int → Int → Int) : Takes2 X "sum" (fun a b y => ∃ t, y = .int (g a b) t) (fun ps => .int (sumP g ps)) := by
  intro pins σ P ps H₁ gen s₅ Q fresh want
  obtain ⟨foot, writes, Gens, Item, At, ⟨W, a0, low⟩, items, behind⟩ := fresh
  let val : Nat → Int := fun i => (ps[i]?.map fun p => g p.1 p.2).getD 0
  have hv : ∀ i p, ps[i]? = some p → val i = g p.1 p.2 := fun i p e => by show (ps[i]?.map _).getD 0 = _; rw [e]; rfl
  refine call_sum_walkAnyS (W.self 0 _ _ _ a0 ⟨gen, foot, writes, Gens, ps.length, Item, At, val, rfl, W, a0, low, fun i v it => ?_, fun s₆ t mv => ?_⟩)
  · obtain ⟨p, e, t, ev⟩ := items i v it
    exact ⟨t, by rw [hv i p e]; exact ev⟩
  · obtain ⟨H₂, tabbed, J⟩ := behind s₆ mv
    refine ⟨.int (preSum val ps.length), H₂, J, ⟨t, rfl⟩, ?_⟩
    rw [preSum_is g ps val hv ps.length (Nat.le_refl _), List.take_length]
    exact want H₂ tabbed
def anyP (g : Int → Int → Bool) (ps : List (Int × Int)) : Bool := ps.any fun p => g p.1 p.2
theorem any_is {α : Type} (ps : List α) (f : α → Bool) (tr : Nat → Bool) (h : ∀ i p, ps[i]? = some p → tr i = f p) : (List.range ps.length).any tr = ps.any f := by
  rw [Bool.eq_iff_iff, List.any_eq_true (l := List.range _), List.any_eq_true]
  constructor
  · rintro ⟨i, hi, e⟩
    have lt := List.mem_range.mp hi
    exact ⟨ps[i], List.getElem_mem lt, by rw [← h i _ (List.getElem?_eq_getElem lt)]; exact e⟩
  · rintro ⟨p, hp, e⟩
    obtain ⟨i, lt, rfl⟩ := List.getElem_of_mem hp
    exact ⟨i, List.mem_range.mpr lt, by rw [h i _ (List.getElem?_eq_getElem lt)]; exact e⟩
theorem takes_any (g : Int → Int → Bool) : Takes2 X "any" (fun a b y => y = .bool (g a b)) (fun ps => .bl (anyP g ps)) := by
  intro pins σ P ps H₁ gen s₅ Q fresh want
  obtain ⟨foot, writes, Gens, Item, At, ⟨W, a0, low⟩, items, behind⟩ := fresh
  let tr : Nat → Bool := fun i => (ps[i]?.map fun p => g p.1 p.2).getD false
  have ht : ∀ i p, ps[i]? = some p → tr i = g p.1 p.2 := fun i p e => by show (ps[i]?.map _).getD false = _; rw [e]; rfl
  refine call_any_walkS (W.self 0 _ _ _ a0 ⟨gen, foot, writes, Gens, ps.length, Item, At, tr, rfl, W, a0, fun i v s' Q' E' it q => ?_, fun s₆ mv => ?_⟩)
  · obtain ⟨p, e, rfl⟩ := items i v it
    rw [ht i p e] at q
    exact wpAny_truthy_bool q
  · obtain ⟨H₂, tabbed, J⟩ := behind s₆ mv
    refine ⟨.bl _, H₂, J, rfl, ?_⟩
    rw [any_is ps (fun p => g p.1 p.2) tr ht]
    exact want H₂ tabbed
/-- a whole number that the expression captures, as its cell has it -/
theorem captured {i : Nat} {y : Str} {n : Int} {P : Addr} (I : Inv X pins σ H s) (hN : X.N[i]? = some y) (hk : X.env.scope.names.lookup y = some .cell) (hv : σ[i]? = some (some (.int n))) (g : TabG H P) :
    ∃ c t, X.env.cells.lookup y = some c ∧ s.heap.IsCell c (some (.int n t)) ∧ c ≠ P := by
  obtain ⟨tb, hP, _⟩ := g
  obtain ⟨m, _, look⟩ := I.loc
  obtain ⟨u, ⟨t, rfl⟩, l⟩ := look i y _ hN hv (.inr (.inl hk))
  rcases l with ⟨z, _⟩ | ⟨_, c, e, o, ho, hd⟩
  · rw [show X.env.kindOf y = some .cell from hk] at z
    cases z
  · refine ⟨c, t, e, ⟨o, ho, hd⟩, fun z => ?_⟩
    rw [z, I.hok P _ hP] at ho
    rw [← Option.some.inj ho] at hd
    cases hd
/-- the names of the module and the built-in ones, where the expression runs -/
theorem names_in {P : Addr} {s₂ : Shared} (I : Inv X pins σ H s) (g : TabG H P) (gP : mainGlobals ≠ P) (kept : ∀ x o, x ≠ P → s.heap.get? x = some o → s₂.heap.get? x = some o) :
    s₂.heap.Ns mainGlobals X.mg ∧ ∃ mb, s₂.heap.Ns builtinsNs mb ∧ ∀ x : Str, x ≠ "__name__" → mb x = bootBuiltins x := by
  obtain ⟨tb, hP, _⟩ := g
  obtain ⟨mb, b1, b2⟩ := I.mod.blt
  have at_ : ∀ b m, b ≠ P → s.heap.Ns b m → s₂.heap.Ns b m := fun b m hb ⟨o, es, ep, ho, r⟩ => ⟨o, es, ep, kept b o hb ho, r⟩
  refine ⟨at_ _ _ gP (I.mod.glob.keeps I.bk), mb, at_ _ _ (fun z => ?_) (b1.keeps I.bk), b2⟩
  obtain ⟨o, es, ep, ho, hd, _⟩ := b1.keeps I.bk
  rw [z, I.hok P _ hP] at ho
  rw [← Option.some.inj ho] at hd
  cases hd
end
end GP

namespace TK
open PySem PySem.Spec PyProof.Rows L2 GP
def topS (i : Nat) : Stmt := PySem.Challenge.pw_tinrecall_k02_sets_put_together.main.body.getD i (.Pass ⟨0, 0, 0, 0⟩)

/-- the draws' state: its dict at d, its cells at c -/
structure StAt (H : Hp) (d c : Addr) (t : Int) : Prop where
  dict : H d = some (.dK [(.inr "cells", .ref c), (.inr "turn", .int t)])
  cells : ∃ cs : List Int, H c = some (.lst (cs.map V.int)) ∧ cs ≠ [] ∧ cs.length ≤ 63
  pos : 0 ≤ t
theorem StAt.ne {H : Hp} {d c : Addr} {t : Int} (h : StAt H d c t) : d ≠ c := by
  obtain ⟨cs, hc, _⟩ := h.cells
  exact ne_of h.dict hc (by intro z; cases z)
/-- all but the state is as it was -/
def Kp (d c : Addr) (H H' : Hp) : Prop := ∀ b o, b ≠ d → b ≠ c → H b = some o → H' b = some o
theorem Kp.refl (d c : Addr) (H : Hp) : Kp d c H H := fun _ _ _ _ h => h
theorem Kp.trans {d c : Addr} {H H1 H2 : Hp} (a : Kp d c H H1) (b : Kp d c H1 H2) : Kp d c H H2 := fun x o h1 h2 h => b x o h1 h2 (a x o h1 h2 h)

theorem ixN_of {n j : Nat} (h : j < n) : ixN n (j : Int) = some j := by
  unfold ixN
  rw [if_pos (Int.natCast_nonneg j), if_pos (by omega), Int.toNat_natCast]
def spTake : Sp := fun vs H Q _ => ∃ (d c : Addr) (t m : Int), vs = [.ref d, .int m] ∧ StAt H d c t ∧ t < 2 ^ 60 ∧ 0 < m ∧ m.natAbs < 2 ^ 200 ∧
  ∀ r H', 0 ≤ r → r < m → StAt H' d c (t + 1) → Kp d c H H' → Q (.int r) H'

abbrev sTake : Stmt := topS 8
theorem scTake : FnScope ["_law_state", "_law_many", "_law_turn", "_law_place", "_law_cell", "_law_digit", "_law_mixed"] ["_law_state", "_law_many"] (defScope sTake) := ⟨rfl, rfl, rfl, by decide +kernel, rfl, by decide +kernel, by decide +kernel⟩
section
variable {K : PySem.W.Frag} {mg : Str → Option Value} {P : Program} {w : World} {base : Heap}
theorem ok_take {f : Addr} {fd : FuncData} {k : Nat} (F : Fun K "_law_take" "_law_take" sTake f fd) (ml : mg "len" = none) (md : mg "divmod" = none) : FnOk P w K mg base CX0 (k + 1) f fd ["_law_state", "_law_many"] spTake := by
  refine F.ok scTake (fun vs H Q E h => ?_) (fun cdv A outer s H vs Q E hr h => ?_)
  · obtain ⟨d, c, t, m, rfl, _⟩ := h
    rfl
  · obtain ⟨d, c, t, m, rfl, hS, ht, hm, hm2, q⟩ := h
    refine ⟨_, pss_cons (ps_set (i := 2) scTake.nd rfl (.inl rfl) (pe_op op_add (pe_dget (hu_of hr) (pv 0) pe_str (fun _ _ => rfl)) pe_int))
      (pss_cons (ps_dput (hu_of hr) (pv 0) pe_str (pv 2) rfl)
      (pss_cons (ps_set (i := 3) scTake.nd rfl (.inl rfl) (pe_op op_mod (pv 2) (pe_callB call_len_seq (by rfl) ml PySem.boot_len (pa_cons (pe_dget (hu_of hr) (pv 0) pe_str (fun _ _ => rfl)) pa_nil))))
      (pss_cons (ps_set (i := 4) scTake.nd rfl (.inl rfl) (pe_ix ix_list (pe_dget (hu_of hr) (pv 0) pe_str (fun _ _ => rfl)) (pv 3) (fun _ _ => rfl)))
      (pss_cons (ps_if (pt_cmpR op_ge (pv 4) (pe_op op_pow pe_int pe_int) (nomark _))
        (pss_cons (ps_asg (pe_callB call_divmodW (by rfl) md (by decide +kernel) (pa_cons (pv 4) (pa_cons (pv 1) pa_nil)))
            (pg_tup rfl (pgs_cons (pg_sub (pe_dget (hu_of hr) (pv 0) pe_str (fun _ _ => rfl)) (pv 3) set_list) (pgs_cons (pg_name (i := 5) scTake.nd rfl (.inl rfl)) pgs_nil))))
          (pss_one (ps_ret (pv 5)))) pss_nil)
      (pss_cons (ps_set (i := 6) scTake.nd rfl (.inl rfl) (pe_op op_mod (pe_op op_mul (pe_op op_add (pe_op op_add (pe_op op_mod (pv 4) pe_int) (pe_op op_mul (pe_op op_mul (pv 2) (pv 2)) pe_int)) pe_int) pe_int) pe_int))
      (pss_cons (ps_set (i := 6) scTake.nd rfl (.inl rfl) (pe_op op_mod (pe_op op_mul (pv 6) (pv 6)) pe_int))
      (pss_one (ps_ret (pe_op op_mod (pe_op op_fdiv (pe_op op_mod (pe_op op_mul (pe_op op_add (pv 6) (pe_op op_mul (pv 2) pe_int)) pe_int) pe_int) pe_int) (pv 1)))))))))), ?_⟩
    obtain ⟨hd, ⟨cs, hc, hne, hlen⟩, hpos⟩ := hS
    have ndc : d ≠ c := ne_of hd hc (by intro z; cases z)
    -- turn = state['turn'] + 1
    refine ⟨.ref d, rfl, d, .int t, rfl, DGet.k (k := Sum.inr "turn") hd, t, 1, rfl, rfl, ?_⟩
    -- state['turn'] = turn
    refine ⟨_, rfl, .ref d, rfl, d, _, rfl, DPut.k (k := Sum.inr "turn") hd (by show 2 < sizeLine; decide), ?_⟩
    have hput : putK [((.inr "cells" : Key), V.ref c), (.inr "turn", .int t)] (.inr "turn") (.int (t + 1)) = [(.inr "cells", .ref c), (.inr "turn", .int (t + 1))] := rfl
    rw [show (.int (t + 1) : V) = V.int (t + 1) from rfl] at *
    rw [hput]
    generalize hH1 : upd H d (.dK [((.inr "cells" : Key), V.ref c), (.inr "turn", .int (t + 1))]) = H1
    have hd1 : H1 d = some (.dK [(.inr "cells", .ref c), (.inr "turn", .int (t + 1))]) := by rw [← hH1]; exact upd_same
    have hc1 : H1 c = some (.lst (cs.map V.int)) := by rw [← hH1, upd_ne ndc.symm]; exact hc
    have k1 : Kp d c H H1 := fun b o h1 h2 e => by rw [← hH1, upd_ne h1]; exact e
    have hlp : 0 < cs.length := List.length_pos_iff.mpr hne
    -- place = turn % len(state['cells'])
    refine ⟨_, rfl, .ref d, rfl, d, .ref c, rfl, DGet.k (k := Sum.inr "cells") hd1, c, _, rfl, .inl (SqL.of hc1), _, _, rfl, rfl, (by show (0 : Int) < ((cs.map V.int).length : Int); rw [List.length_map]; omega), ?_⟩
    dsimp only
    rw [List.length_map]
    have hj0 : 0 ≤ (t + 1) % (cs.length : Int) := Int.emod_nonneg _ (by omega)
    have hj1 : (t + 1) % (cs.length : Int) < cs.length := Int.emod_lt_of_pos _ (by omega)
    obtain ⟨j, hj⟩ := Int.eq_ofNat_of_zero_le hj0
    have hjl : j < cs.length := by omega
    rw [hj]
    have gj : (cs.map V.int)[j]? = some (.int cs[j]) := by rw [List.getElem?_map, List.getElem?_eq_getElem hjl]; rfl
    -- cell = state['cells'][place]
    refine ⟨.ref d, rfl, d, .ref c, rfl, DGet.k (k := Sum.inr "cells") hd1, _, rfl, c, _, _, .int cs[j], rfl, rfl, SqL.of hc1, atI_nat gj, ?_⟩
    generalize cs[j] = x
    -- if cell >= 10 ** 18
    refine ⟨_, rfl, 10, 18, rfl, rfl, ⟨by decide, by decide, by decide⟩, _, _, rfl, rfl, _, rfl, ite2 (fun e => ?_) (fun e => ?_)⟩
    · have hdp : CDivP x m := ⟨hm, PyProof.noPylong_of_log2 (Nat.lt_trans (PySem.Flt.log2_lt_of (by decide) hm2) (by decide))⟩
      refine ⟨_, rfl, _, rfl, x, m, rfl, hdp, fun p hp => ?_⟩
      have npd : d ≠ p := ne_of_none hd1 hp
      have npc : c ≠ p := ne_of_none hc1 hp
      have hd2 : upd H1 p (.tup [.int (x / m), .int (x % m)]) d = some (.dK [(.inr "cells", .ref c), (.inr "turn", .int (t + 1))]) := by rw [upd_ne npd]; exact hd1
      have hc2 : upd H1 p (.tup [.int (x / m), .int (x % m)]) c = some (.lst (cs.map V.int)) := by rw [upd_ne npc]; exact hc1
      refine ⟨p, _, rfl, .inl (.inl upd_same), rfl, _, _, rfl, .ref d, rfl, d, .ref c, rfl, DGet.k (k := Sum.inr "cells") hd2, _, rfl, c, _, _, j, rfl, rfl, hc2, ixN_of (by rw [List.length_map]; exact hjl), _, _, rfl, rfl, ?_⟩
      refine ⟨_, rfl, ?_⟩
      refine q _ _ (Int.emod_nonneg _ (by omega)) (Int.emod_lt_of_pos _ hm) ⟨?_, ⟨cs.set j (x / m), ?_, ?_, ?_⟩, by omega⟩ ?_
      · rw [upd_ne ndc]; exact hd2
      · rw [upd_same, List.map_set]
      · intro z
        have z2 : (cs.set j (x / m)).length = 0 := by rw [z]; rfl
        rw [List.length_set] at z2
        omega
      · rw [List.length_set]; exact hlen
      · intro b o h1 h2 e
        rw [upd_ne h2, upd_ne (ne_of_none (k1 b o h1 h2 e) hp)]
        exact k1 b o h1 h2 e
    · have t1 : t + 1 < 2 ^ 61 := by omega
      -- mixed
      refine ⟨_, rfl, _, _, rfl, rfl, (show (0 : Int) < 2147483629 by decide), _, rfl, _, rfl, t + 1, t + 1, rfl, rfl, .inl ⟨by omega, by omega⟩, _, _, rfl, rfl, .inr ⟨by decide, by decide⟩, _, _, rfl, rfl, _, _, rfl, rfl, _, _, rfl, rfl, .inr ⟨by decide, by decide⟩, _, 2147483647, rfl, rfl, (show (0 : Int) < 2147483647 by decide), ?_⟩
      dsimp only
      generalize hy : ((x % 2147483629 + (t + 1) * (t + 1) * 7919 + 11) * 48271) = y
      have y0 : 0 ≤ y % 2147483647 := Int.emod_nonneg _ (by decide)
      have y1 : y % 2147483647 < 2147483647 := Int.emod_lt_of_pos _ (by decide)
      refine ⟨_, rfl, _, rfl, y % 2147483647, y % 2147483647, rfl, rfl, .inl ⟨by omega, by omega⟩, _, 2147483587, rfl, rfl, (show (0 : Int) < 2147483587 by decide), ?_⟩
      refine ⟨_, rfl, _, rfl, t + 1, 104729, rfl, rfl, .inr ⟨by decide, by decide⟩, _, _, rfl, rfl, _, _, rfl, rfl, .inr ⟨by decide, by decide⟩, _, 2147483629, rfl, rfl, (show (0 : Int) < 2147483629 by decide), _, 64, rfl, rfl, ⟨by decide, by decide⟩, _, rfl, _, m, rfl, rfl, hm, ?_⟩
      exact q _ _ (Int.emod_nonneg _ (by omega)) (Int.emod_lt_of_pos _ hm) ⟨hd1, ⟨cs, hc1, hne, hlen⟩, by omega⟩ k1
end

abbrev sBegin : Stmt := topS 7
theorem scBegin : FnScope ["_law_script", "_law_cells"] ["_law_script"] (defScope sBegin) := ⟨rfl, rfl, rfl, by decide +kernel, rfl, by decide +kernel, by decide +kernel⟩
theorem same_upd {H : Hp} {p : Addr} {o : HO} (h : H p = none) : Same H (upd H p o) := fun b x e => by
  rw [upd_ne (ne_of_none e h)]
  exact e
theorem cut_front (xs : List V) (m : Nat) : cutV xs none (some (m : Int)) = xs.take m := by
  unfold cutV
  rw [HT.sIx_none, HT.sIx_nat]
  show List.take (min m xs.length - 0) (xs.drop 0) = xs.take m
  rw [Nat.sub_zero, List.drop_zero]
  by_cases h : m ≤ xs.length
  · rw [Nat.min_eq_left h]
  · rw [Nat.min_eq_right (by omega), List.take_length, List.take_of_length_le (by omega)]
theorem dp_ints {K : PySem.W.Frag} {H : Hp} : ∀ ns : List Int, DpAll K H (ns.map V.int) (ns.map PyData.int)
  | [] => .nil
  | n :: r => .cons (.int n) (dp_ints r)
theorem lay_ints : ∀ ns : List Int, PyData.canLayAll0 (ns.map PyData.int) = true
  | [] => by simp only [List.map_nil, PyData.canLayAll0]
  | n :: r => by
    rw [List.map_cons, PyData.canLayAll0, lay_ints r]
    simp [PyData.canLay0]
theorem depth_ints : ∀ ns : List Int, PyData.depthAll (ns.map PyData.int) = 0
  | [] => by simp only [List.map_nil, PyData.depthAll]
  | n :: r => by
    rw [List.map_cons, PyData.depthAll, depth_ints r]
    simp [PyData.depth]
theorem shaped_ints (ns : List Int) : SeqAt.shaped (PyData.list (ns.map PyData.int)) = true := by
  unfold SeqAt.shaped
  rw [PyData.canLay0, lay_ints, PyData.depth, depth_ints]
  rfl
theorem eqv_nil (n : Int) (r : List Int) : PyData.eqv (PyData.list ((n :: r).map PyData.int)) (PyData.list []) = false := by
  simp [PyData.eqv, PyData.eqvAll]
theorem eqv_nil0 : PyData.eqv (PyData.list (([] : List Int).map PyData.int)) (PyData.list []) = true := by
  simp [PyData.eqv, PyData.eqvAll]
def spBegin (K : PySem.W.Frag) : Sp := fun vs H Q _ => ∃ (a : Addr) (ns : List Int), vs = [.ref a] ∧ SqL K H a (ns.map V.int) ∧ ns.length ≤ 63 ∧
  ∀ d c H', Same H H' → H d = none → H c = none → StAt H' d c 0 → Q (.ref d) H'
section
variable {K : PySem.W.Frag} {mg : Str → Option Value} {P : Program} {w : World} {base : Heap}
theorem ok_begin {f : Addr} {fd : FuncData} {k : Nat} (F : Fun K "_law_begin" "_law_begin" sBegin f fd) (ml : mg "list" = none) : FnOk P w K mg base CX0 (k + 1) f fd ["_law_script"] (spBegin K) := by
  refine F.ok scBegin (fun vs H Q E h => ?_) (fun cdv A outer s H vs Q E hr h => ?_)
  · obtain ⟨a, ns, rfl, _⟩ := h
    rfl
  · obtain ⟨a, ns, rfl, hS, hlen, q⟩ := h
    refine ⟨_, pss_cons (ps_set (i := 1) scBegin.nd rfl (.inl rfl) (pe_callTy call_list_of (by rfl) ml (by decide +kernel) (pa_cons (pe_slice sl_list (pv 0) po_none (po_some pe_int)) pa_nil)))
      (pss_cons (ps_if (pt_cmpR (op_eqD hr.units) (pv 1) (pe_lst pa_nil) (nomark _)) (pss_one (ps_set (i := 1) scBegin.nd rfl (.inl rfl) (pe_lst (pa_cons pe_int pa_nil)))) pss_nil)
      (pss_one (ps_ret (pe_disp (pps_cons pe_str (pv 1) (pps_cons pe_str pe_int pps_nil)) (by rfl) (by rfl) (fun z => by cases z) (by decide))))), ?_⟩
    -- the end: a dict of what stands at the cells' place
    have fin : ∀ (H1 : Hp) (c : Addr) (cs : List Int) (y : Option V), Same H H1 → H c = none → H1 c = some (.lst (cs.map V.int)) → cs ≠ [] → cs.length ≤ 63 →
        (tRet (tDisp [(tC (.str "cells"), tVar 1), (tC (.str "turn"), tC (.int 0))])) { nx := fun _ H' => Q .non H', rt := Q } [some (.ref a), some (.ref c)] H1 := by
      intro H1 c cs y s1 nc ec hne hl
      refine fun d nd => ⟨_, rfl, upd_same, [(.inr "cells", .ref c), (.inr "turn", .int 0)], rfl, (by show 2 ≤ 15; decide), ?_⟩
      have ndc : c ≠ d := ne_of_none ec nd
      refine q d c _ (fun b o e => ?_) (s1.free nd) nc ⟨?_, ⟨cs, ?_, hne, hl⟩, by decide⟩
      · have nb : b ≠ d := ne_of_none (s1 b o e) nd
        rw [upd_ne nb, upd_ne nb]
        exact s1 b o e
      · exact upd_same
      · rw [upd_ne ndc, upd_ne ndc]
        exact ec
    refine ⟨.ref a, rfl, 63, rfl, a, ns.map V.int, rfl, hS, fun p np => ?_⟩
    have s1 : Same H (upd H p (.lst (cutV (ns.map V.int) none (some 63)))) := same_upd np
    refine ⟨p, _, rfl, .inl (SqL.of upd_same), fun l nl => ?_⟩
    have s2 := s1.trans (same_upd (o := .lst (cutV (ns.map V.int) none (some 63))) nl)
    have ecut : cutV (ns.map V.int) none (some 63) = ns.map V.int := by
      have e := cut_front (ns.map V.int) 63
      have e2 : cutV (ns.map V.int) none (some 63) = (ns.map V.int).take 63 := e
      rw [e2, List.take_of_length_le (by rw [List.length_map]; exact hlen)]
    have el : upd (upd H p (.lst (cutV (ns.map V.int) none (some 63)))) l (.lst (cutV (ns.map V.int) none (some 63))) l = some (.lst (ns.map V.int)) := by
      rw [upd_same, ecut]
    revert s2 el
    generalize upd (upd H p (.lst (cutV (ns.map V.int) none (some 63)))) l (.lst (cutV (ns.map V.int) none (some 63))) = H2
    intro s2 el
    have nlH : H l = none := s1.free nl
    -- if cells == []
    refine ⟨.ref l, rfl, Nat.zero_le _, fun z nz => ?_⟩
    have s3 := s2.trans (same_upd (o := .lst []) nz)
    have nlz : l ≠ z := ne_of_none el nz
    have el3 : upd H2 z (.lst []) l = some (.lst (ns.map V.int)) := by rw [upd_ne nlz]; exact el
    refine ⟨.list (ns.map PyData.int), .list [], .lst (SqL.of el3) (dp_ints ns), .lst (SqL.of upd_same) .nil, shaped_ints ns, shaped_ints [], ?_⟩
    cases ns with
    | nil =>
      refine ⟨true, by rw [eqv_nil0], iteT ?_⟩
      refine ⟨(by show 1 ≤ sizeLine; decide), fun c nc => ?_⟩
      exact fin _ c [_] none (s3.trans (same_upd nc)) (s3.free nc) upd_same (by simp) (by decide)
    | cons n r =>
      refine ⟨false, by rw [eqv_nil], iteF ?_⟩
      exact fin _ l (n :: r) none s3 nlH el3 (by simp) hlen
end

/-- a def of the text that keeps a promise, as its callers see it -/
def Cal (P : Program) (w : World) (K : PySem.W.Frag) (mg : Str → Option Value) (base : Heap) (k : Nat) (x : Str) (ps : List Str) (sp : Sp) : Prop :=
  ∃ f fd, FnOk P w K mg base CX0 k f fd ps sp ∧ mg x = some (.ref f) ∧ PySem.W.keepIn K (.ref f) = true ∧ Binds K fd ps []
theorem pe_own {X : Cx} {k : Nat} {x : Str} {ps : List Str} {sp : Sp} {e : Expr} {es : List Expr} {t : TA} {p pos : Pos} (C : Cal X.prog X.w X.K X.mg X.base k x ps sp) (hr : Room k X.A) (hg : Gl X x) (ha : PA X (e :: es) t)
    (dbg : (x == ("__debug__" : Str)) = false := by decide) (one : starEach (e :: es) X.env = (false, eval e X.env) :: starEach es X.env := by rfl) (star : (backTo pos (starEach es X.env)).any (·.1) = false := by rfl) :
    PE X (.Call (.Name x p) (e :: es) [] pos) (tCall sp [] E0 t) := by
  obtain ⟨f, fd, F, hm, hk, hb⟩ := C
  exact pe_call F hr hg hm hk hb .nil pass0 ha dbg one star
theorem StAt.same {H H' : Hp} {d c : Addr} {t : Int} (h : StAt H d c t) (s : Same H H') : StAt H' d c t :=
  ⟨s _ _ h.dict, let ⟨cs, e, r⟩ := h.cells; ⟨cs, s _ _ e, r⟩, h.pos⟩
theorem Kp.same {H H' : Hp} (d c : Addr) (s : Same H H') : Kp d c H H' := fun b o _ _ e => s b o e
/-- what is made behind the state stays -/
theorem Kp.at {H H' : Hp} {d c a : Addr} {t : Int} {o : HO} (k : Kp d c H H') (S : StAt H d c t) (e : H a = some o) (h1 : ∀ kvs, o ≠ .dK kvs) (h2 : ∀ ns : List Int, o ≠ .lst (ns.map V.int)) : H' a = some o := by
  obtain ⟨cs, ec, _⟩ := S.cells
  refine k a o (fun z => ?_) (fun z => ?_) e
  · rw [z, S.dict] at e
    exact h1 _ (Option.some.inj e).symm
  · rw [z, ec] at e
    exact h2 _ (Option.some.inj e).symm
theorem StAt.upd {H : Hp} {d c l : Addr} {t : Int} {o : HO} (S : StAt H d c t) (h1 : l ≠ d) (h2 : l ≠ c) : StAt (L2.upd H l o) d c t := by
  refine ⟨by rw [upd_ne h1.symm]; exact S.dict, ?_, S.pos⟩
  obtain ⟨cs, ec, r⟩ := S.cells
  exact ⟨cs, by rw [upd_ne h2.symm]; exact ec, r⟩

abbrev sNumber : Stmt := topS 9
theorem scNumber : FnScope ["_law_state", "_law_kind", "_law_found", "_law_turn"] ["_law_state", "_law_kind"] (defScope sNumber) := ⟨rfl, rfl, rfl, by decide +kernel, rfl, by decide +kernel, by decide +kernel⟩
def spNumber : Sp := fun vs H Q _ => ∃ (d c : Addr) (t kd : Int), vs = [.ref d, .int kd] ∧ StAt H d c t ∧ t + 5 < 2 ^ 60 ∧ 0 ≤ kd ∧
  ∀ r t' H', 0 ≤ r → r < 10 ^ 30 → t ≤ t' → t' ≤ t + 5 → StAt H' d c t' → Kp d c H H' → Q (.int r) H'
section
variable {K : PySem.W.Frag} {mg : Str → Option Value} {P : Program} {w : World} {base : Heap}
theorem ok_number {f : Addr} {fd : FuncData} (F : Fun K "_law_number" "_law_number" sNumber f fd) (CT : Cal P w K mg base 1 "_law_take" ["_law_state", "_law_many"] spTake) (mr : mg "range" = none) :
    FnOk P w K mg base CX0 2 f fd ["_law_state", "_law_kind"] spNumber := by
  refine F.ok scNumber (fun vs H Q E h => ?_) (fun cdv A outer s H vs Q E hr h => ?_)
  · obtain ⟨d, c, t, kd, rfl, _⟩ := h
    rfl
  · obtain ⟨d, c, t, kd, rfl, hS, ht, hk, q⟩ := h
    refine ⟨_, pss_cons (ps_if (pt_cmpR op_lt (pv 1) pe_int (nomark _)) (pss_one (ps_ret (pe_own CT hr (by rfl) (pa_cons (pv 0) (pa_cons (pe_ix ix_list (pe_lst (pa_cons pe_int (pa_cons pe_int pa_nil))) (pv 1) (fun _ _ => rfl)) pa_nil))))) pss_nil)
      (pss_cons (ps_set (i := 2) scNumber.nd rfl (.inl rfl) pe_int)
      (pss_cons (ps_for PassesOwn.never rfl (pi_range1 rfl mr (pa_cons pe_int pa_nil)) (pg_name (i := 3) scNumber.nd rfl (.inl rfl))
        (pss_one (ps_set (i := 2) scNumber.nd rfl (.inl rfl) (pe_op op_add (pe_op op_mul (pv 2) (pe_op op_pow pe_int pe_int)) (pe_own CT hr (by rfl) (pa_cons (pv 0) (pa_cons (pe_op op_pow pe_int pe_int) pa_nil)))))))
      (pss_one (ps_ret (pv 2))))), ?_⟩
    refine ⟨_, rfl, _, _, rfl, rfl, _, rfl, ite2 (fun e => ?_) (fun e => ?_)⟩
    · have e' := of_decide_eq_true e
      refine ⟨_, rfl, (by show 2 ≤ sizeLine; decide), fun p np => ?_⟩
      have s1 : Same H (upd H p (.lst [.int 4, .int 1000001])) := same_upd np
      obtain ⟨m, hm0, hm1, hat⟩ : ∃ m : Int, 0 < m ∧ m ≤ 1000001 ∧ atI [V.int 4, V.int 1000001] kd = some (.int m) := by
        have : kd = 0 ∨ kd = 1 := by omega
        rcases this with rfl | rfl
        · exact ⟨4, by decide, by decide, rfl⟩
        · exact ⟨1000001, by decide, by decide, rfl⟩
      refine ⟨_, rfl, p, _, kd, .int m, rfl, rfl, SqL.of upd_same, hat, d, c, t, m, rfl, hS.same s1, by omega, hm0, by omega, fun r H' h0 h1 hS' k' => ?_⟩
      exact q r (t + 1) H' h0 (by omega) (by omega) (by omega) hS' ((Kp.same d c s1).trans k')
    · refine ⟨5, rfl, by decide, by decide, for_range (n := 5) (fun i σ H1 => ∃ (x t' : Int) (y : Option V), σ = [some (.ref d), some (.int kd), some (.int x), y] ∧ 0 ≤ x ∧ x < 10 ^ (6 * i) ∧ t ≤ t' ∧ t' ≤ t + i ∧ StAt H1 d c t' ∧ Kp d c H H1) ⟨0, t, none, rfl, by decide, by decide, by omega, by omega, hS, Kp.refl d c H⟩ (fun i σ H1 hi hP => ?_) (fun σ H1 hP => ?_)⟩
      · obtain ⟨x, t', y, rfl, x0, x1, h0, h1, hS1, k1⟩ := hP
        have x2 : x < 10 ^ 30 := by
          have : i = 0 ∨ i = 1 ∨ i = 2 ∨ i = 3 ∨ i = 4 := by omega
          rcases this with rfl | rfl | rfl | rfl | rfl <;> omega
        refine ⟨_, rfl, 10, 6, rfl, rfl, ⟨by decide, by decide, by decide⟩, x, 10 ^ 6, rfl, rfl, .inr ⟨by decide, by decide⟩, _, rfl, 10, 6, rfl, rfl, ⟨by decide, by decide, by decide⟩, d, c, t', 10 ^ 6, rfl, hS1, by omega, by decide, by decide, fun r H2 r0 r1 hS2 k2 => ?_⟩
        refine ⟨x * 10 ^ 6, r, rfl, rfl, x * 10 ^ 6 + r, t' + 1, _, rfl, by omega, ?_, by omega, by omega, hS2, k1.trans k2⟩
        have : i = 0 ∨ i = 1 ∨ i = 2 ∨ i = 3 ∨ i = 4 := by omega
        rcases this with rfl | rfl | rfl | rfl | rfl <;> omega
      · obtain ⟨x, t', y, rfl, x0, x1, h0, h1, hS1, k1⟩ := hP
        exact ⟨_, rfl, q x t' H1 x0 (by omega) h0 (by omega) hS1 k1⟩
end

theorem _root_.GP.Prs.same {H H' : Hp} {vs : List V} {ps : List (Int × Int)} (h : Prs H vs ps) (s : Same H H') : Prs H' vs ps :=
  ⟨h.1, fun i p e => let ⟨a, e1, e2⟩ := h.2 i p e; ⟨a, e1, s _ _ e2⟩⟩
theorem _root_.GP.Prs.kp {H H' : Hp} {d c : Addr} {t : Int} {vs : List V} {ps : List (Int × Int)} (h : Prs H vs ps) (S : StAt H d c t) (k : Kp d c H H') : Prs H' vs ps :=
  ⟨h.1, fun i p e => let ⟨a, e1, e2⟩ := h.2 i p e; ⟨a, e1, k.at S e2 (fun _ z => nomatch z) (fun _ z => nomatch z)⟩⟩
theorem _root_.GP.Prs.upd_lst {H : Hp} {l : Addr} {xs : List V} {o : HO} {vs : List V} {ps : List (Int × Int)} (h : Prs H vs ps) (hl : H l = some (.lst xs)) : Prs (upd H l o) vs ps :=
  ⟨h.1, fun i p e => let ⟨a, e1, e2⟩ := h.2 i p e; ⟨a, e1, by rw [upd_ne (ne_of e2 hl (fun z => nomatch z))]; exact e2⟩⟩
theorem _root_.GP.Prs.nil {H : Hp} : Prs H [] [] := ⟨rfl, fun i p e => by simp at e⟩
theorem _root_.GP.Prs.snoc {H : Hp} {a : Addr} {x y : Int} {vs : List V} {ps : List (Int × Int)} (h : Prs H vs ps) (e : H a = some (.tup [.int x, .int y])) : Prs H (vs ++ [.ref a]) (ps ++ [(x, y)]) := by
  refine ⟨by simp [h.1], fun i p ep => ?_⟩
  by_cases hi : i < ps.length
  · rw [List.getElem?_append_left hi] at ep
    obtain ⟨b, e1, e2⟩ := h.2 i p ep
    exact ⟨b, by rw [List.getElem?_append_left (by rw [h.1]; exact hi)]; exact e1, e2⟩
  · rw [List.getElem?_append_right (by omega)] at ep
    have hz : i - ps.length = 0 := by
      cases hq : i - ps.length with
      | zero => rfl
      | succ n => rw [hq] at ep; simp at ep
    rw [hz] at ep
    have ep' : (x, y) = p := by simpa using ep
    subst ep'
    refine ⟨a, ?_, e⟩
    rw [List.getElem?_append_right (by rw [h.1]; omega), h.1, hz]
    rfl
/-- rising stretches with gaps, from lo on -/
def Ris : Int → List (Int × Int) → Prop
  | _, [] => True
  | lo, p :: r => lo ≤ p.1 ∧ p.1 ≤ p.2 ∧ Ris (p.2 + 2) r
theorem Ris.snoc : ∀ {lo : Int} {ps : List (Int × Int)} {a b : Int}, Ris lo ps → lo ≤ a → (∀ p ∈ ps, p.2 + 2 ≤ a) → a ≤ b → Ris lo (ps ++ [(a, b)])
  | lo, [], a, b, _, h1, _, h3 => ⟨h1, h3, True.intro⟩
  | lo, p :: r, a, b, h, h1, h2, h3 => ⟨h.1, h.2.1, Ris.snoc h.2.2 (h2 p (List.mem_cons_self ..)) (fun q hq => h2 q (List.mem_cons_of_mem _ hq)) h3⟩
theorem pick2 {x y r : Int} (Pv : Int → Prop) (h0 : 0 ≤ r) (h1 : r < 2) (hx : Pv x) (hy : Pv y) : ∃ v, Pv v ∧ atI [V.int x, V.int y] r = some (.int v) := by
  have : r = 0 ∨ r = 1 := by omega
  rcases this with rfl | rfl
  · exact ⟨x, hx, rfl⟩
  · exact ⟨y, hy, rfl⟩
theorem pick3 {x y z r : Int} (Pv : Int → Prop) (h0 : 0 ≤ r) (h1 : r < 3) (hx : Pv x) (hy : Pv y) (hz : Pv z) : ∃ v, Pv v ∧ atI [V.int x, V.int y, V.int z] r = some (.int v) := by
  have : r = 0 ∨ r = 1 ∨ r = 2 := by omega
  rcases this with rfl | rfl | rfl
  · exact ⟨x, hx, rfl⟩
  · exact ⟨y, hy, rfl⟩
  · exact ⟨z, hz, rfl⟩
/-- a new object stands through the state's change -/
theorem Kp.new {H H' : Hp} {d c l : Addr} {t : Int} {o : HO} (k : Kp d c (upd H l o) H') (S : StAt H d c t) (n : H l = none) : H' l = some o := by
  obtain ⟨cs, ec, _⟩ := S.cells
  exact k l o (ne_of_none S.dict n).symm (ne_of_none ec n).symm upd_same
theorem drop_at {α : Type} {l : List α} {i : Nat} {x : α} (h : l[i]? = some x) : l.drop i = x :: l.drop (i + 1) := by
  obtain ⟨lt, e⟩ := List.getElem?_eq_some_iff.mp h
  rw [← e]
  exact List.drop_eq_getElem_cons lt
theorem prs_at {H : Hp} {vs : List V} {ps : List (Int × Int)} {i : Nat} {x : V} (h : Prs H vs ps) (e : vs[i]? = some x) : ∃ (p : Int × Int) (a : Addr), ps[i]? = some p ∧ x = .ref a ∧ H a = some (.tup [.int p.1, .int p.2]) := by
  obtain ⟨hi, _⟩ := List.getElem?_eq_some_iff.mp e
  have hi2 : i < ps.length := by rw [← h.1]; exact hi
  obtain ⟨a, e1, e2⟩ := h.2 i ps[i] (List.getElem?_eq_getElem hi2)
  rw [e] at e1
  exact ⟨ps[i], a, List.getElem?_eq_getElem hi2, Option.some.inj e1, e2⟩

theorem sumP_append (g : Int → Int → Int) (ps qs : List (Int × Int)) : sumP g (ps ++ qs) = sumP g ps + sumP g qs := by
  unfold sumP
  rw [List.map_append, List.sum_append]
def inB (n a b : Int) : Bool := decide (a ≤ n) && decide (n ≤ b)
theorem Ris.le : ∀ {lo : Int} {ps : List (Int × Int)}, Ris lo ps → ∀ p ∈ ps, lo ≤ p.1 ∧ p.1 ≤ p.2
  | _, [], _, _, hp => nomatch hp
  | lo, q :: r, h, p, hp => by
    rcases List.mem_cons.mp hp with e | e'
    · rw [e]; exact ⟨h.1, h.2.1⟩
    · have := Ris.le h.2.2 p e'
      have := h.2.1
      have := h.1
      omega

abbrev sSet : Stmt := topS 10
theorem scSet : FnScope ["_law_state", "_law_kind", "_law_found", "_law_here", "_law_k", "_law_last"] ["_law_state"] (defScope sSet) := ⟨rfl, rfl, rfl, by decide +kernel, rfl, by decide +kernel, by decide +kernel⟩
def spSet : Sp := fun vs H Q _ => ∃ (d c : Addr) (t : Int), vs = [.ref d] ∧ StAt H d c t ∧ t + 500 < 2 ^ 60 ∧
  ∀ (l : Addr) (us : List V) (ps : List (Int × Int)) (t' : Int) H', H l = none → H' l = some (.lst us) → Prs H' us ps → Ris 0 ps → ps.length ≤ 24 → (∀ p ∈ ps, p.2 < 10 ^ 33) → t ≤ t' → t' ≤ t + 500 → StAt H' d c t' → Kp d c H H' → Q (.ref l) H'
section
variable {K : PySem.W.Frag} {mg : Str → Option Value} {P : Program} {w : World} {base : Heap}
theorem ok_set {f : Addr} {fd : FuncData} (F : Fun K "_law_set" "_law_set" sSet f fd) (CT : Cal P w K mg base 1 "_law_take" ["_law_state", "_law_many"] spTake) (CN : Cal P w K mg base 2 "_law_number" ["_law_state", "_law_kind"] spNumber) (mr : mg "range" = none) :
    FnOk P w K mg base CX0 3 f fd ["_law_state"] spSet := by
  refine F.ok scSet (fun vs H Q E h => ?_) (fun cdv A outer s H vs Q E hr h => ?_)
  · obtain ⟨d, c, t, rfl, _⟩ := h
    rfl
  · obtain ⟨d, c, t, rfl, hS, ht, q⟩ := h
    have hr1 := hr.mono (show 1 ≤ 2 by decide)
    refine ⟨_, pss_cons (ps_par3 rfl scSet.nd (i := 1) (j := 2) (l := 3) rfl rfl rfl (by decide) (by decide) (by decide) rfl rfl rfl
        (pa_cons (pe_own CT hr1 (by rfl) (pa_cons (pv 0) (pa_cons pe_int pa_nil))) (pa_cons (pe_lst pa_nil) (pa_cons (pe_ix ix_list (pe_lst (pa_cons pe_int (pa_cons (pe_own CT hr1 (by rfl) (pa_cons (pv 0) (pa_cons pe_int pa_nil))) pa_nil))) (pe_own CT hr1 (by rfl) (pa_cons (pv 0) (pa_cons pe_int pa_nil))) (fun _ _ => rfl)) pa_nil))) (by rfl))
      (pss_cons (ps_for PassesOwn.never rfl (pi_range1 rfl mr (pa_cons (pe_ix ix_list (pe_lst (pa_cons pe_int (pa_cons (pe_own CT hr1 (by rfl) (pa_cons (pv 0) (pa_cons pe_int pa_nil))) (pa_cons (pe_own CT hr1 (by rfl) (pa_cons (pv 0) (pa_cons pe_int pa_nil))) pa_nil)))) (pe_own CT hr1 (by rfl) (pa_cons (pv 0) (pa_cons pe_int pa_nil))) (fun _ _ => rfl)) pa_nil)) (pg_name (i := 4) scSet.nd rfl (.inl rfl))
        (pss_cons (ps_set (i := 5) scSet.nd rfl (.inl rfl) (pe_op op_add (pv 3) (pe_ix ix_list (pe_lst (pa_cons pe_int (pa_cons (pe_own CT hr1 (by rfl) (pa_cons (pv 0) (pa_cons pe_int pa_nil))) (pa_cons (pe_own CN hr (by rfl) (pa_cons (pv 0) (pa_cons (pv 1) pa_nil))) pa_nil)))) (pe_own CT hr1 (by rfl) (pa_cons (pv 0) (pa_cons pe_int pa_nil))) (fun _ _ => rfl))))
        (pss_cons (ps_expr (pe_bm PySem.F.plainAttrs_list PySem.F.slot_list_append PySem.F.type_list_append mt_append (pv 2) (pa_cons (pe_tup (pa_cons (pv 3) (pa_cons (pv 5) pa_nil))) pa_nil)))
        (pss_one (ps_set (i := 3) scSet.nd rfl (.inl rfl) (pe_op op_add (pe_op op_add (pv 5) pe_int) (pe_ix ix_list (pe_lst (pa_cons pe_int (pa_cons (pe_own CT hr1 (by rfl) (pa_cons (pv 0) (pa_cons pe_int pa_nil))) (pa_cons (pe_own CN hr (by rfl) (pa_cons (pv 0) (pa_cons (pv 1) pa_nil))) pa_nil)))) (pe_own CT hr1 (by rfl) (pa_cons (pv 0) (pa_cons pe_int pa_nil))) (fun _ _ => rfl))))))))
      (pss_one (ps_ret (pv 2)))), ?_⟩
    -- kind, found, here
    refine ⟨.ref d, rfl, d, c, t, 3, rfl, hS, by omega, by decide, by decide, fun kd H1 k0 k1 hS1 p1 => ?_⟩
    refine ⟨Nat.zero_le _, fun l nl => ?_⟩
    have sl := same_upd (o := .lst []) nl
    refine ⟨.ref d, rfl, d, c, t + 1, 9, rfl, hS1.same sl, by omega, by decide, by decide, fun r1 H2 r10 r11 hS2 p2 => ?_⟩
    have el2 : H2 l = some (.lst []) := p2.new hS1 nl
    refine ⟨(by show 2 ≤ sizeLine; decide), fun z1 nz1 => ?_⟩
    have sz1 := same_upd (o := .lst [.int 0, .int r1]) nz1
    refine ⟨.ref d, rfl, d, c, _, 2, rfl, hS2.same sz1, by omega, by decide, by decide, fun r2 H3 r20 r21 hS3 p3 => ?_⟩
    obtain ⟨he, ⟨he0, he1⟩, hat⟩ := pick2 (x := 0) (y := r1) (fun v => 0 ≤ v ∧ v ≤ 9) r20 r21 (by decide) ⟨r10, by omega⟩
    refine ⟨z1, _, r2, .int he, rfl, rfl, SqL.of (p3.new hS2 nz1), hat, _, _, _, rfl, ?_⟩
    have nlH : H l = none := by
      cases e : H l with
      | none => rfl
      | some o =>
        obtain ⟨cs, ec, _⟩ := hS.cells
        obtain ⟨cs1, ec1, _⟩ := hS1.cells
        have := p1 l o (ne_of_none hS1.dict nl).symm (ne_of_none ec1 nl).symm e
        rw [nl] at this
        cases this
    have nld : l ≠ d := (ne_of_none hS.dict nlH).symm
    have nlc : l ≠ c := by
      obtain ⟨cs, ec, _⟩ := hS.cells
      exact (ne_of_none ec nlH).symm
    have el3 : H3 l = some (.lst []) := p3 l _ nld nlc (sz1 _ _ el2)
    have P3 : Kp d c H H3 := ((p1.trans (Kp.same d c sl)).trans p2).trans ((Kp.same d c sz1).trans p3)
    -- the range
    refine ⟨.ref d, rfl, d, c, _, 25, rfl, hS3, by omega, by decide, by decide, fun r3 H4 r30 r31 hS4 p4 => ?_⟩
    refine ⟨.ref d, rfl, d, c, _, 4, rfl, hS4, by omega, by decide, by decide, fun r4 H5 r40 r41 hS5 p5 => ?_⟩
    refine ⟨(by show 3 ≤ sizeLine; decide), fun z2 nz2 => ?_⟩
    have sz2 := same_upd (o := .lst [.int 24, .int r3, .int r4]) nz2
    refine ⟨.ref d, rfl, d, c, _, 3, rfl, hS5.same sz2, by omega, by decide, by decide, fun r5 H6 r50 r51 hS6 p6 => ?_⟩
    obtain ⟨n, ⟨n0, n1⟩, hat2⟩ := pick3 (x := 24) (y := r3) (z := r4) (fun v => 0 ≤ v ∧ v ≤ 24) r50 r51 (by decide) (by omega) (by omega)
    have el6 : H6 l = some (.lst []) := p6 l _ nld nlc (sz2 _ _ (p5 l _ nld nlc (p4 l _ nld nlc el3)))
    have P6 : Kp d c H H6 := P3.trans ((p4.trans p5).trans ((Kp.same d c sz2).trans p6))
    refine ⟨z2, _, r5, .int n, rfl, rfl, SqL.of (p6.new hS5 nz2), hat2, n, rfl, by omega, by omega, for_range (n := n.toNat) (fun i σ Hx => ∃ (x : Int) (us : List V) (ps : List (Int × Int)) (t' : Int) (y4 y5 : Option V), σ = [some (.ref d), some (.int kd), some (.ref l), some (.int x), y4, y5] ∧
        0 ≤ x ∧ x ≤ 10 + 2 * 10 ^ 30 * (i : Int) ∧ (∀ p ∈ ps, p.2 + 2 ≤ x) ∧ Hx l = some (.lst us) ∧ Prs Hx us ps ∧ Ris 0 ps ∧ ps.length = i ∧ t ≤ t' ∧ t' ≤ t + 10 + 14 * i ∧ StAt Hx d c t' ∧ Kp d c H Hx)
      ⟨he, [], [], _, none, none, rfl, he0, by omega, (fun _ h => nomatch h), el6, Prs.nil, True.intro, rfl, by omega, by omega, hS6, P6⟩ (fun i σ Hx hi hP => ?_) (fun σ Hx hP => ?_)⟩
    · obtain ⟨x, us, ps, t', y4, y5, rfl, x0, xb, hx, el, hps, hris, hlen, ht1, ht2, hSx, px⟩ := hP
      refine ⟨_, rfl, .ref d, rfl, d, c, t', 4, rfl, hSx, by omega, by decide, by decide, fun a1 H7 a10 a11 hS7 p7 => ?_⟩
      refine ⟨.ref d, rfl, _, rfl, d, c, _, kd, rfl, hS7, by omega, k0, fun a2 t8 H8 a20 a21 t80 t81 hS8 p8 => ?_⟩
      refine ⟨(by show 3 ≤ sizeLine; decide), fun z3 nz3 => ?_⟩
      have sz3 := same_upd (o := .lst [.int 0, .int a1, .int a2]) nz3
      refine ⟨.ref d, rfl, d, c, _, 3, rfl, hS8.same sz3, by omega, by decide, by decide, fun r6 H9 r60 r61 hS9 p9 => ?_⟩
      obtain ⟨v, ⟨v0, v1⟩, hat3⟩ := pick3 (x := 0) (y := a1) (z := a2) (fun v => 0 ≤ v ∧ v < 10 ^ 30) r60 r61 (by decide) ⟨a10, by omega⟩ ⟨a20, a21⟩
      refine ⟨z3, _, r6, .int v, rfl, rfl, SqL.of (p9.new hS8 nz3), hat3, x, v, rfl, rfl, ?_⟩
      have P9 : Kp d c Hx H9 := (p7.trans p8).trans ((Kp.same d c sz3).trans p9)
      have el9 : H9 l = some (.lst us) := P9 l _ nld nlc el
      have hps9 : Prs H9 us ps := hps.kp hSx P9
      -- found.append((here, last))
      refine ⟨.ref l, rfl, .inl ⟨rfl, _, SqL.of el9⟩, _, rfl, _, rfl, (by show 2 ≤ sizeLine; decide), fun T nT => ?_⟩
      have sT := same_upd (o := .tup [.int x, .int (x + v)]) nT
      have elT := sT _ _ el9
      refine ⟨l, _, _, rfl, rfl, elT, small1000 (by rw [hps.1]; omega), ?_⟩
      have psA : Prs (upd (upd H9 T (.tup [.int x, .int (x + v)])) l (.lst (us ++ [.ref T]))) (us ++ [.ref T]) (ps ++ [(x, x + v)]) := ((hps9.same sT).snoc upd_same).upd_lst elT
      have elA : upd (upd H9 T (.tup [.int x, .int (x + v)])) l (.lst (us ++ [.ref T])) l = some (.lst (us ++ [.ref T])) := upd_same
      have PA : Kp d c H (upd (upd H9 T (.tup [.int x, .int (x + v)])) l (.lst (us ++ [.ref T]))) := fun b o b1 b2 e => by
        rw [upd_ne (ne_of_none e nlH)]
        exact sT b o (P9 b o b1 b2 (px b o b1 b2 e))
      have hSA := (hS9.same sT).upd (o := .lst (us ++ [.ref T])) nld nlc
      revert psA elA PA hSA
      generalize upd (upd H9 T (.tup [.int x, .int (x + v)])) l (.lst (us ++ [.ref T])) = HA
      intro psA elA PA hSA
      -- here = last + 2 + ..
      refine ⟨_, rfl, x + v, 2, rfl, rfl, .ref d, rfl, d, c, _, 3, rfl, hSA, by omega, by decide, by decide, fun b1 H10 b10 b11 hS10 p10 => ?_⟩
      refine ⟨.ref d, rfl, _, rfl, d, c, _, kd, rfl, hS10, by omega, k0, fun b2 t11 H11 b20 b21 t110 t111 hS11 p11 => ?_⟩
      refine ⟨(by show 3 ≤ sizeLine; decide), fun z4 nz4 => ?_⟩
      have sz4 := same_upd (o := .lst [.int 0, .int b1, .int b2]) nz4
      refine ⟨.ref d, rfl, d, c, _, 3, rfl, hS11.same sz4, by omega, by decide, by decide, fun r7 H12 r70 r71 hS12 p12 => ?_⟩
      obtain ⟨u, ⟨u0, u1⟩, hat4⟩ := pick3 (x := 0) (y := b1) (z := b2) (fun v => 0 ≤ v ∧ v < 10 ^ 30) r70 r71 (by decide) ⟨b10, by omega⟩ ⟨b20, b21⟩
      have P12 : Kp d c HA H12 := (p10.trans p11).trans ((Kp.same d c sz4).trans p12)
      refine ⟨z4, _, r7, .int u, rfl, rfl, SqL.of (p12.new hS11 nz4), hat4, x + v + 2, u, rfl, rfl, x + v + 2 + u, us ++ [.ref T], ps ++ [(x, x + v)], _, _, _, rfl, by omega, ?_, ?_, P12 l _ nld nlc elA, psA.kp hSA P12, hris.snoc (by omega) (fun p hp => hx p hp) (by omega), by rw [List.length_append, hlen]; rfl, by omega, ?_, hS12, PA.trans P12⟩
      · have ei : ((i + 1 : Nat) : Int) = (i : Int) + 1 := by omega
        rw [ei]
        omega
      · intro p hp
        rcases List.mem_append.mp hp with old | new
        · have := hx p old
          omega
        · rw [List.mem_singleton.mp new]
          show x + v + 2 ≤ x + v + 2 + u
          omega
      · have ei : ((i + 1 : Nat) : Int) = (i : Int) + 1 := by omega
        rw [ei]
        omega
    · obtain ⟨x, us, ps, t', y4, y5, rfl, x0, xb, hx, el, hps, hris, hlen, ht1, ht2, hSx, px⟩ := hP
      exact ⟨_, rfl, q l us ps t' Hx nlH el hps hris (by omega) (fun p hp => by have := hx p hp; have : ((n.toNat : Nat) : Int) ≤ 24 := (by omega); omega) ht1 (by omega) hSx px⟩
end

/-! ### walks over a list or a tuple -/
def Sq (K : PySem.W.Frag) (H : Hp) (a : Addr) (xs : List V) : Prop := SqL K H a xs ∨ SqT K H a xs
def iSeq (K : PySem.W.Frag) (tl : TE) : TI := fun σ H R => tl σ H fun x H1 => ∃ a, x = .ref a ∧ (((∃ xs, SqL K H1 a xs) ∧ R (Itl K a) H1) ∨ ((∃ xs, SqT K H1 a xs) ∧ R (Itt K a) H1))
/-- the iterator that was just laid is no one's -/
theorem lone {X : Cx} {pins : List (Addr × Obj)} {σ : L2.St} {H : Hp} {s : Shared} (I : Inv X pins σ H s) : ∀ b ∈ [s.heap.objs.size], FpOk X pins H b := fun b hb => by
  rw [List.mem_singleton.mp hb]
  exact I.fpOk (H' := H) (Nat.le_refl _) (I.hok.fresh (Nat.le_refl _))
theorem pi_seq {X : Cx} {tg l : Expr} {tl : TE} (walked : PE X l tl) : PI X tg l (iSeq X.K tl) := by
  constructor
  intro pins s σ H R I h
  refine thn (walked.run pins s σ H _ I h) fun u s1 had => ?_
  obtain ⟨_, H1, J, rel, a, rfl, had⟩ := had
  cases rel
  have laid : ∀ o, Inv X pins σ H1 { s1 with heap := s1.heap.push o } := fun o => J.kept (t' := s1.toks) fun _ _ e => Heap.get?_push_of_some _ e
  rcases had with ⟨⟨xs, hq⟩, q⟩ | ⟨⟨xs, hq⟩, q⟩
  · obtain ⟨its, _, isL, _⟩ := J.list hq
    exact wpAny_pyIter_list isL.isList ⟨_, _, _, _, H1, rfl, laid _, turn_list a _, ⟨_, Heap.get?_push_size _ rfl, rfl, rfl⟩, lone J, q⟩
  · obtain ⟨its, _, isT, _⟩ := J.tuple hq
    exact wpAny_pyIter_tuple (items := its.toArray) isT ⟨_, _, _, _, H1, rfl, laid _, turn_tuple a _, ⟨_, Heap.get?_push_size _ rfl, rfl, rfl⟩, lone J, q⟩
/-- the walked thing stands as it stood -/
def SqTo (K : PySem.W.Frag) (H H' : Hp) (a : Addr) (xs : List V) : Prop := (SqL K H a xs → SqL K H' a xs) ∧ (SqT K H a xs → SqT K H' a xs)
theorem SqTo.refl {K : PySem.W.Frag} {H : Hp} {a : Addr} {xs : List V} : SqTo K H H a xs := ⟨fun h => h, fun h => h⟩
theorem same_t {K : PySem.W.Frag} {H H' : Hp} {a : Addr} {xs : List V} (s : Same H H') (h : SqT K H a xs) : SqT K H' a xs :=
  h.elim (fun r => .inl (r.elim (fun e => .inl (s a _ e)) fun ⟨o, e⟩ => .inr ⟨o, s a _ e⟩)) .inr
theorem SqTo.same {K : PySem.W.Frag} {H H' : Hp} {a : Addr} {xs : List V} (s : Same H H') : SqTo K H H' a xs := ⟨s.seq, same_t s⟩
theorem Sq.same {K : PySem.W.Frag} {H H' : Hp} {a : Addr} {xs : List V} (h : Sq K H a xs) (s : Same H H') : Sq K H' a xs := h.elim (fun h => .inl (s.seq h)) fun h => .inr (same_t s h)
theorem Sq.list {K : PySem.W.Frag} {H : Hp} {a : Addr} {xs : List V} (h : H a = some (.lst xs)) : Sq K H a xs := .inl (SqL.of h)
theorem Sq.tup {K : PySem.W.Frag} {H : Hp} {a : Addr} {xs : List V} (h : H a = some (.tup xs)) : Sq K H a xs := .inr (.inl (.inl h))
abbrev ForR (J : It) (g : TG) (tb : TS) (D : Ends) (σ : L2.St) (H1 : Hp) : Prop := ∃ W : Nat → Nat → L2.St → Hp → Prop, (∃ m, W 0 m σ H1) ∧ ∀ i m σ H, W i m σ H →
  (J.stop i H ∧ D.nx σ H) ∨ (J.go i H ∧ ∃ N : L2.St → Hp → Prop, (∀ σ' H', N σ' H' → ∃ m', m' < m ∧ W (i + 1) m' σ' H') ∧ ∀ x H', J.yld i H x H' → g x σ H' fun σ2 H2 => tb { D with nx := N, ct := N, bk := D.nx } σ2 H2)
theorem for_seq {K : PySem.W.Frag} {a : Addr} {xs : List V} {g : TG} {tb : TS} {D : Ends} {σ : L2.St} {H1 : Hp} (hq : Sq K H1 a xs) (Pv : Nat → L2.St → Hp → Prop) (h0 : Pv 0 σ H1)
    (hl : ∀ i σ H', i ≤ xs.length → Pv i σ H' → SqTo K H1 H' a xs)
    (turn : ∀ i x σ H, xs[i]? = some x → Pv i σ H → g x σ H fun σ2 H2 => tb { D with nx := Pv (i + 1), ct := Pv (i + 1), bk := D.nx } σ2 H2) (fin : ∀ σ H, Pv xs.length σ H → D.nx σ H) :
    ((∃ xs, SqL K H1 a xs) ∧ ForR (Itl K a) g tb D σ H1) ∨ ((∃ xs, SqT K H1 a xs) ∧ ForR (Itt K a) g tb D σ H1) := by
  rcases hq with h | h
  · exact .inl ⟨⟨xs, h⟩, for_list (xs := xs) Pv h0 (fun i σ H' hi p => (hl i σ H' hi p).1 h) turn fin⟩
  · exact .inr ⟨⟨xs, h⟩, for_tup (xs := xs) Pv h0 (fun i σ H' hi p => (hl i σ H' hi p).2 h) turn fin⟩

/-! ### the table of the def that holds the generator expression -/
theorem tab_at {Pt : Addr} {H H2 : Hp} {b : Addr} {o : HO} (g : GxR.TabG H Pt) (t : GxR.Tabbed Pt H H2) (e : H b = some o) (h : ∀ q, o ≠ .tbl q) : H2 b = some o := by
  obtain ⟨ps, hP, _⟩ := g
  rw [t.2 b (ne_of e hP (h ps))]
  exact e
theorem StAt.tab {Pt : Addr} {H H2 : Hp} {d c : Addr} {t : Int} (S : StAt H d c t) (g : GxR.TabG H Pt) (x : GxR.Tabbed Pt H H2) : StAt H2 d c t :=
  ⟨tab_at g x S.dict (fun _ z => nomatch z), let ⟨cs, e, r⟩ := S.cells; ⟨cs, tab_at g x e (fun _ z => nomatch z), r⟩, S.pos⟩
theorem _root_.GP.Prs.tab {Pt : Addr} {H H2 : Hp} {vs : List V} {ps : List (Int × Int)} (h : Prs H vs ps) (g : GxR.TabG H Pt) (x : GxR.Tabbed Pt H H2) : Prs H2 vs ps :=
  ⟨h.1, fun i p e => let ⟨a, e1, e2⟩ := h.2 i p e; ⟨a, e1, tab_at g x e2 (fun _ z => nomatch z)⟩⟩
theorem tabG_same {Pt : Addr} {H H' : Hp} (g : GxR.TabG H Pt) (s : Same H H') : GxR.TabG H' Pt := let ⟨ps, e, r⟩ := g; ⟨ps, s _ _ e, r⟩
theorem tabG_kp {Pt : Addr} {H H' : Hp} {d c : Addr} {t : Int} (g : GxR.TabG H Pt) (S : StAt H d c t) (k : Kp d c H H') : GxR.TabG H' Pt := let ⟨ps, e, r⟩ := g; ⟨ps, k.at S e (fun _ z => nomatch z) (fun _ z => nomatch z), r⟩
theorem tabG_upd {Pt : Addr} {H : Hp} {l : Addr} {o u : HO} (g : GxR.TabG H Pt) (e : H l = some o) (h : ∀ q, o ≠ .tbl q) : GxR.TabG (upd H l u) Pt := let ⟨ps, eP, r⟩ := g; ⟨ps, by rw [upd_ne (ne_of e eP (h ps)).symm]; exact eP, r⟩
theorem tabbed_free {Pt : Addr} {H H2 : Hp} {p : Addr} (g : GxR.TabG H Pt) (x : GxR.Tabbed Pt H H2) (h : H2 p = none) : H p = none := by
  obtain ⟨ps, e, _⟩ := x.1
  rw [← x.2 p (fun z => by rw [z, e] at h; cases h)]
  exact h

/-! ### d.update([(k, v), ..]) -/
def rUpdP (K : PySem.W.Frag) : V → List V → Hp → VK → Prop := fun x vs H Q => ∃ (d a : Addr) (ps : List Addr) (kvs old : List (Key × V)), x = .ref d ∧ vs = [.ref a] ∧ H d = some (.dK old) ∧ H a = some (.lst (ps.map V.ref)) ∧ Paired (fun p kv => SqT K H p [kV kv.1, kv.2]) ps kvs ∧
  old.length + kvs.length ≤ sizeLine ∧ Q .non (upd H d (.dK (mergeK old kvs)))
theorem mt_update {X : Cx} (calm : X.calm = true) : MtR X "dict.update" (rUpdP X.K) := by
  intro pins s σ H x vs v us Q I rx rv had
  obtain ⟨d, a, ps, kvs, old, rfl, rfl, hd, ha, hp, hz, q⟩ := had
  cases rx
  obtain ⟨u, rfl, ru⟩ := vals1 rv
  cases ru
  obtain ⟨_, its, n, ri, ea⟩ := I.hok a _ ha
  obtain rfl := refs_at ri
  obtain ⟨prs, rel, plen, hpr⟩ := pairs_of I hp
  obtain ⟨_, sys, ws, rw', isD⟩ := I.hok d _ hd
  -- the pairs, by place
  have one : ∀ j : Nat, ∃ (b : Addr) (k : Value), ∀ qv, prs[j]? = some qv → ps[j]? = some b ∧ IsTup s.heap b #[k, qv.2] ∧ keyIs qv.1 k = true := fun j => by
    cases e : prs[j]? with
    | none => exact ⟨0, .none, fun _ z => nomatch z⟩
    | some qv =>
      obtain ⟨b, k, h1, h2, h3⟩ := hpr j qv e
      exact ⟨b, k, fun qv' z => by cases z; exact ⟨h1, h2, h3⟩⟩
  let loc : Nat → Addr := fun j => (one j).choose
  let key : Nat → Value := fun j => (one j).choose_spec.choose
  have spec : ∀ j qv, prs[j]? = some qv → ps[j]? = some (loc j) ∧ IsTup s.heap (loc j) #[key j, qv.2] ∧ keyIs qv.1 (key j) = true := fun j => (one j).choose_spec.choose_spec
  let pv : List (Value × Value) := (List.range prs.length).map fun j => (key j, (prs[j]?.map (·.2)).getD .none)
  have pvl : pv.length = prs.length := by simp [pv]
  have pvat : ∀ j k v, pv[j]? = some (k, v) → ∃ qv, prs[j]? = some qv ∧ k = key j ∧ v = qv.2 := fun j k v e => by
    have hj : j < prs.length := by rw [← pvl]; exact (List.getElem?_eq_some_iff.mp e).1
    have e2 : pv[j]? = some (key j, (prs[j]?.map (·.2)).getD .none) := by simp [pv, hj]
    rw [e2, List.getElem?_eq_getElem hj] at e
    cases e
    exact ⟨_, List.getElem?_eq_getElem hj, rfl, rfl⟩
  have lenk : kvs.length = prs.length := Paired.length rel
  have isL : PlainSeq "list" s.heap a (ps.map Value.ref).toArray := ⟨_, n, ea, rfl, rfl, rfl⟩
  have items : PairItems s.heap (ps.map Value.ref).toArray loc pv := ⟨by rw [List.size_toArray, List.length_map, pvl, plen], fun j k v e => by
    obtain ⟨qv, e1, rfl, rfl⟩ := pvat j k v e
    obtain ⟨h1, h2, _⟩ := spec j qv e1
    refine ⟨?_, .inl h2⟩
    rw [List.getElem?_toArray, List.getElem?_map, h1]
    rfl⟩
  have off : d ∉ a :: (List.range pv.length).map loc := fun z => by
    rcases List.mem_cons.mp z with e | e
    · exact ne_of hd ha (fun z => nomatch z) e
    · obtain ⟨j, hj, e⟩ := List.mem_map.mp e
      have hj' : j < prs.length := by rw [← pvl]; exact List.mem_range.mp hj
      obtain ⟨_, ⟨o, h2, h3, _⟩, _⟩ := spec j prs[j] (List.getElem?_eq_getElem hj')
      obtain ⟨o', _, _, g1, g2, _⟩ := isD
      rw [e, g1] at h2
      have z3 := g2.1
      rw [Option.some.inj h2, h3] at z3
      simp at z3
  have wl : old.length = ws.length := Paired.length rw'
  refine call_update_pairs (knd := mixKind X.prog X.w) (kvs := prs) (PairArg.list a (ps.map Value.ref).toArray loc pv) (I.ok.hd calm) ⟨isL, items⟩ off ⟨pvl.symm, fun i k v e => ?_⟩ isD (by rw [pvl, ← wl, ← lenk]; exact hz) fun h' tk made kept => ?_
  · obtain ⟨qv, e1, rfl, rfl⟩ := pvat i k v e
    exact ⟨qv.1, e1, (spec i qv e1).2.2⟩
  · refine ⟨.non, _, I.write (x := d) (e := d) (by rw [hd]; trivial) (.inl rfl) (fun b u hb e => kept b u hb (fun z => nomatch z) e) ?_ ?_, rfl, q⟩
    · obtain ⟨o, _, _, g1, _⟩ := made
      exact ⟨o, g1⟩
    · refine ⟨Nat.le_trans (length_mergeK kvs old) ?_, sys, merged ws prs, KV.merge rel rw', made⟩
      exact hz

/-! ### pairs as data -/
def pairD (p : Int × Int) : PyData := .tuple [.int p.1, .int p.2]
theorem dp_prs {K : PySem.W.Frag} {H : Hp} : ∀ {us : List V} {ps : List (Int × Int)}, Prs H us ps → DpAll K H us (ps.map pairD)
  | [], [], _ => .nil
  | [], _ :: _, h => nomatch h.1
  | _ :: _, [], h => nomatch h.1
  | u :: us, p :: ps, h => by
    obtain ⟨a, e1, e2⟩ := h.2 0 p rfl
    have eu : u = .ref a := Option.some.inj e1
    subst eu
    refine .cons (.tup (.inl (.inl e2)) (.cons (.int _) (.cons (.int _) .nil))) (dp_prs ⟨Nat.succ.inj h.1, fun i q e => ?_⟩)
    obtain ⟨b, f1, f2⟩ := h.2 (i + 1) q e
    exact ⟨b, f1, f2⟩
theorem lay_prs : ∀ ps : List (Int × Int), PyData.canLayAll0 (ps.map pairD) = true
  | [] => by simp only [List.map_nil, PyData.canLayAll0]
  | p :: r => by
    rw [List.map_cons, PyData.canLayAll0, lay_prs r]
    simp [pairD, PyData.canLay0, PyData.canLayAll0]
theorem depth_prs : ∀ ps : List (Int × Int), PyData.depthAll (ps.map pairD) ≤ 1
  | [] => by simp only [List.map_nil, PyData.depthAll]; omega
  | p :: r => by
    rw [List.map_cons, PyData.depthAll]  -- a pair, then the rest
    have := depth_prs r
    simp [pairD, PyData.depth, PyData.depthAll]
    omega
theorem shaped_prs (ps : List (Int × Int)) : SeqAt.shaped (PyData.list (ps.map pairD)) = true := by
  unfold SeqAt.shaped
  rw [PyData.canLay0, lay_prs, PyData.depth, Bool.true_and]
  exact decide_eq_true (by have := depth_prs ps; omega)
theorem eqv_prs (ps : List (Int × Int)) : PyData.eqv (PyData.list (ps.map pairD)) (PyData.list (ps.map pairD)) = true := SeqAt.eqv_refl _ (by rw [PyData.canLay0]; exact lay_prs ps)
theorem tabG_tabbed {Pt Pu : Addr} {H H2 : Hp} (g : GxR.TabG H Pu) (x : GxR.Tabbed Pt H H2) : GxR.TabG H2 Pu := by
  by_cases e : Pu = Pt
  · rw [e]; exact x.1
  · obtain ⟨ps, h, r⟩ := g
    exact ⟨ps, by rw [x.2 _ e]; exact h, r⟩

/-! ### sets by stretches: the mathematics -/
theorem inB_iff {n a b : Int} : inB n a b = true ↔ a ≤ n ∧ n ≤ b := by
  unfold inB
  rw [Bool.and_eq_true, decide_eq_true_eq (p := a ≤ n), decide_eq_true_eq]
theorem anyP_iff {n : Int} {ps : List (Int × Int)} : anyP (inB n) ps = true ↔ ∃ p ∈ ps, p.1 ≤ n ∧ n ≤ p.2 := by
  unfold anyP
  rw [List.any_eq_true]
  constructor
  · rintro ⟨p, hp, e⟩
    exact ⟨p, hp, inB_iff.mp e⟩
  · rintro ⟨p, hp, e⟩
    exact ⟨p, hp, inB_iff.mpr e⟩
/-- the same numbers -/
def Alike (ps qs : List (Int × Int)) : Prop := ∀ n : Int, (∃ p ∈ ps, p.1 ≤ n ∧ n ≤ p.2) ↔ ∃ p ∈ qs, p.1 ≤ n ∧ n ≤ p.2
theorem Alike.any {ps qs : List (Int × Int)} (h : Alike ps qs) (n : Int) : anyP (inB n) ps = anyP (inB n) qs := by
  rw [Bool.eq_iff_iff, anyP_iff, anyP_iff]
  exact h n
theorem Alike.symm {ps qs : List (Int × Int)} (h : Alike ps qs) : Alike qs ps := fun n => (h n).symm
theorem Alike.trans {ps qs rs : List (Int × Int)} (h : Alike ps qs) (h' : Alike qs rs) : Alike ps rs := fun n => (h n).trans (h' n)
theorem Alike.of_mem {ps qs : List (Int × Int)} (h : ∀ p, p ∈ ps ↔ p ∈ qs) : Alike ps qs := fun n => ⟨fun ⟨p, hp, e⟩ => ⟨p, (h p).mp hp, e⟩, fun ⟨p, hp, e⟩ => ⟨p, (h p).mpr hp, e⟩⟩
/-- of each set of numbers there is just one list -/
theorem ris_one : ∀ {rs rs' : List (Int × Int)} {lo lo' : Int}, Ris lo rs → Ris lo' rs' → Alike rs rs' → rs = rs'
  | [], [], _, _, _, _, _ => by rfl
  | [], q :: r, _, _, _, h', e => by
    obtain ⟨p, hp, _⟩ := (e q.1).mpr ⟨q, List.mem_cons_self .., Int.le_refl _, h'.2.1⟩
    exact nomatch hp
  | q :: r, [], _, _, h, _, e => by
    obtain ⟨p, hp, _⟩ := (e q.1).mp ⟨q, List.mem_cons_self .., Int.le_refl _, h.2.1⟩
    exact nomatch hp
  | (a, b) :: r, (a', b') :: r', lo, lo', h, h', e => by
    have hb : a ≤ b := h.2.1
    have hb' : a' ≤ b' := h'.2.1
    have tl : ∀ p ∈ r, b + 2 ≤ p.1 ∧ p.1 ≤ p.2 := Ris.le h.2.2
    have tl' : ∀ p ∈ r', b' + 2 ≤ p.1 ∧ p.1 ≤ p.2 := Ris.le h'.2.2
    have m1 : a' ≤ a := by
      obtain ⟨p, hp, e1, e2⟩ := (e a).mp ⟨(a, b), List.mem_cons_self .., Int.le_refl _, hb⟩
      rcases List.mem_cons.mp hp with z | z
      · rw [z] at e1; exact e1
      · have := tl' p z; omega
    have m2 : a ≤ a' := by
      obtain ⟨p, hp, e1, e2⟩ := (e a').mpr ⟨(a', b'), List.mem_cons_self .., Int.le_refl _, hb'⟩
      rcases List.mem_cons.mp hp with z | z
      · rw [z] at e1; exact e1
      · have := tl p z; omega
    have ea : a = a' := by omega
    have n1 : ¬ b < b' := fun lt => by
      obtain ⟨p, hp, e1, e2⟩ := (e (b + 1)).mpr ⟨(a', b'), List.mem_cons_self .., by show a' ≤ b + 1; omega, by show b + 1 ≤ b'; omega⟩
      rcases List.mem_cons.mp hp with z | z
      · rw [z] at e2; have : b + 1 ≤ b := e2; omega
      · have := tl p z; omega
    have n2 : ¬ b' < b := fun lt => by
      obtain ⟨p, hp, e1, e2⟩ := (e (b' + 1)).mp ⟨(a, b), List.mem_cons_self .., by show a ≤ b' + 1; omega, by show b' + 1 ≤ b; omega⟩
      rcases List.mem_cons.mp hp with z | z
      · rw [z] at e2; have : b' + 1 ≤ b' := e2; omega
      · have := tl' p z; omega
    have eb : b = b' := by omega
    subst ea eb
    have er : Alike r r' := fun n => by
      constructor
      · rintro ⟨p, hp, e1, e2⟩
        obtain ⟨p', hp', f1, f2⟩ := (e n).mp ⟨p, List.mem_cons_of_mem _ hp, e1, e2⟩
        rcases List.mem_cons.mp hp' with z | z
        · rw [z] at f2
          have : n ≤ b := f2
          have := tl p hp
          omega
        · exact ⟨p', z, f1, f2⟩
      · rintro ⟨p, hp, e1, e2⟩
        obtain ⟨p', hp', f1, f2⟩ := (e n).mpr ⟨p, List.mem_cons_of_mem _ hp, e1, e2⟩
        rcases List.mem_cons.mp hp' with z | z
        · rw [z] at f2
          have : n ≤ b := f2
          have := tl' p hp
          omega
        · exact ⟨p', z, f1, f2⟩
    rw [ris_one h.2.2 h'.2.2 er]
theorem Ris.front : ∀ {lo : Int} {rs : List (Int × Int)} {q : Int × Int}, Ris lo (rs ++ [q]) → Ris lo rs ∧ (∀ r ∈ rs, r.2 + 2 ≤ q.1) ∧ lo ≤ q.1 ∧ q.1 ≤ q.2
  | lo, [], q, h => ⟨True.intro, (fun _ z => nomatch z), h.1, h.2.1⟩
  | lo, r :: rs, q, h => by
    obtain ⟨h1, h2, h3, h4⟩ := Ris.front h.2.2
    refine ⟨⟨h.1, h.2.1, h1⟩, fun x hx => ?_, by have := h.1; have := h.2.1; omega, h4⟩
    rcases List.mem_cons.mp hx with z | z
    · rw [z]; exact h3
    · exact h2 x z
/-- what is told of pairs: a set of just their numbers -/
structure SetLike (ps rs : List (Int × Int)) : Prop where
  ris : ∃ lo, Ris lo rs
  same : Alike rs ps
  len : rs.length ≤ ps.length
/-- between two turns: the pairs so far, rising by their firsts, and what is merged of them -/
structure Mrg (pre rs : List (Int × Int)) : Prop extends SetLike pre rs where
  firsts : ∀ r ∈ rs, ∃ p ∈ pre, p.1 = r.1
theorem alike_snoc {pre : List (Int × Int)} {rs rs' : List (Int × Int)} {p : Int × Int} (h : Alike rs pre) (e : ∀ n, (∃ q ∈ rs', q.1 ≤ n ∧ n ≤ q.2) ↔ (∃ q ∈ rs, q.1 ≤ n ∧ n ≤ q.2) ∨ (p.1 ≤ n ∧ n ≤ p.2)) : Alike rs' (pre ++ [p]) := fun n => by
  rw [e n, h n]
  constructor
  · rintro (⟨q, hq, z⟩ | z)
    · exact ⟨q, List.mem_append_left _ hq, z⟩
    · exact ⟨p, List.mem_append_right _ (List.mem_singleton.mpr rfl), z⟩
  · rintro ⟨q, hq, z⟩
    rcases List.mem_append.mp hq with y | y
    · exact .inl ⟨q, y, z⟩
    · rw [List.mem_singleton.mp y] at z
      exact .inr z
theorem Mrg.join {pre rs : List (Int × Int)} {a b : Int} {p : Int × Int} (m : Mrg pre (rs ++ [(a, b)])) (hp : p.1 ≤ p.2) (ord : ∀ q ∈ pre, q.1 ≤ p.1) (near : p.1 ≤ b + 1) : Mrg (pre ++ [p]) (rs ++ [(a, if p.2 > b then p.2 else b)]) := by
  obtain ⟨lo, hr⟩ := m.ris
  obtain ⟨h1, h2, h3, h4⟩ := Ris.front hr
  obtain ⟨q, hq, eq⟩ := m.firsts (a, b) (List.mem_append_right _ (List.mem_singleton.mpr rfl))
  have hap : a ≤ p.1 := by have := ord q hq; have : q.1 = a := eq; omega
  have hab : a ≤ b := h4
  have big : a ≤ (if p.2 > b then p.2 else b) := by split <;> omega
  refine ⟨⟨⟨lo, h1.snoc h3 h2 big⟩, alike_snoc m.same fun n => ?_, ?_⟩, fun r hr => ?_⟩
  · constructor
    · rintro ⟨q, hq, z⟩
      rcases List.mem_append.mp hq with y | y
      · exact .inl ⟨q, List.mem_append_left _ y, z⟩
      · rw [List.mem_singleton.mp y] at z
        have z1 : a ≤ n := z.1
        have z2 : n ≤ (if p.2 > b then p.2 else b) := z.2
        by_cases c : n ≤ b
        · exact .inl ⟨(a, b), List.mem_append_right _ (List.mem_singleton.mpr rfl), z1, c⟩
        · refine .inr ⟨by omega, ?_⟩
          split at z2 <;> omega
    · rintro (⟨q, hq, z⟩ | z)
      · rcases List.mem_append.mp hq with y | y
        · exact ⟨q, List.mem_append_left _ y, z⟩
        · rw [List.mem_singleton.mp y] at z
          refine ⟨_, List.mem_append_right _ (List.mem_singleton.mpr rfl), z.1, ?_⟩
          have z2 : n ≤ b := z.2
          show n ≤ (if p.2 > b then p.2 else b)
          split <;> omega
      · refine ⟨_, List.mem_append_right _ (List.mem_singleton.mpr rfl), by show a ≤ n; omega, ?_⟩
        show n ≤ (if p.2 > b then p.2 else b)
        split <;> omega
  · have := m.len
    rw [List.length_append, List.length_append] at *
    show rs.length + 1 ≤ pre.length + 1
    have : rs.length + 1 ≤ pre.length := this
    omega
  · rcases List.mem_append.mp hr with y | y
    · obtain ⟨q, hq, e⟩ := m.firsts r (List.mem_append_left _ y)
      exact ⟨q, List.mem_append_left _ hq, e⟩
    · rw [List.mem_singleton.mp y]
      exact ⟨q, List.mem_append_left _ hq, eq⟩
theorem Mrg.new {pre rs : List (Int × Int)} {p : Int × Int} (m : Mrg pre rs) (hp : p.1 ≤ p.2) (ord : ∀ q ∈ pre, q.1 ≤ p.1) (far : ∀ r ∈ rs, r.2 + 2 ≤ p.1) : Mrg (pre ++ [p]) (rs ++ [p]) := by
  obtain ⟨lo, hr⟩ := m.ris
  refine ⟨⟨?_, alike_snoc m.same fun n => ?_, by have := m.len; rw [List.length_append, List.length_append]; show rs.length + 1 ≤ pre.length + 1; omega⟩, fun r hr => ?_⟩
  · cases rs with
    | nil => exact ⟨p.1, Int.le_refl _, hp, True.intro⟩
    | cons q r =>
      refine ⟨lo, hr.snoc ?_ far hp⟩
      have := hr.le q (List.mem_cons_self ..)
      have := far q (List.mem_cons_self ..)
      omega
  · constructor
    · rintro ⟨q, hq, z⟩
      rcases List.mem_append.mp hq with y | y
      · exact .inl ⟨q, y, z⟩
      · rw [List.mem_singleton.mp y] at z; exact .inr z
    · rintro (⟨q, hq, z⟩ | z)
      · exact ⟨q, List.mem_append_left _ hq, z⟩
      · exact ⟨p, List.mem_append_right _ (List.mem_singleton.mpr rfl), z⟩
  · rcases List.mem_append.mp hr with y | y
    · obtain ⟨q, hq, e⟩ := m.firsts r y
      exact ⟨q, List.mem_append_left _ hq, e⟩
    · rw [List.mem_singleton.mp y]
      exact ⟨p, List.mem_append_right _ (List.mem_singleton.mpr rfl), rfl⟩
theorem Mrg.nil : Mrg [] [] := ⟨⟨⟨0, True.intro⟩, fun _ => Iff.rfl, Nat.le_refl _⟩, fun _ z => nomatch z⟩

/-! ### sets put together: the mathematics -/
def InS (ps : List (Int × Int)) (n : Int) : Prop := ∃ p ∈ ps, p.1 ≤ n ∧ n ≤ p.2
theorem inS_nil {n : Int} : ¬ InS [] n := fun ⟨_, h, _⟩ => nomatch h
theorem inS_cons {p : Int × Int} {r : List (Int × Int)} {n : Int} : InS (p :: r) n ↔ (p.1 ≤ n ∧ n ≤ p.2) ∨ InS r n := by
  constructor
  · rintro ⟨q, hq, e⟩
    rcases List.mem_cons.mp hq with z | z
    · rw [z] at e; exact .inl e
    · exact .inr ⟨q, z, e⟩
  · rintro (e | ⟨q, hq, e⟩)
    · exact ⟨p, List.mem_cons_self .., e⟩
    · exact ⟨q, List.mem_cons_of_mem _ hq, e⟩
theorem inS_append {ps qs : List (Int × Int)} {n : Int} : InS (ps ++ qs) n ↔ InS ps n ∨ InS qs n := by
  constructor
  · rintro ⟨q, hq, e⟩
    rcases List.mem_append.mp hq with z | z
    · exact .inl ⟨q, z, e⟩
    · exact .inr ⟨q, z, e⟩
  · rintro (⟨q, hq, e⟩ | ⟨q, hq, e⟩)
    · exact ⟨q, List.mem_append_left _ hq, e⟩
    · exact ⟨q, List.mem_append_right _ hq, e⟩
theorem Ris.low {lo n : Int} {ps : List (Int × Int)} (h : Ris lo ps) (e : InS ps n) : lo ≤ n := by
  obtain ⟨p, hp, e1, e2⟩ := e
  have := h.le p hp
  omega
theorem Ris.mono : ∀ {lo lo' : Int} {ps : List (Int × Int)}, Ris lo ps → lo' ≤ lo → Ris lo' ps
  | _, _, [], _, _ => True.intro
  | _, _, _ :: _, h, e => ⟨Int.le_trans e h.1, h.2⟩
def mxI (i j : Int) : Int := if j > i then j else i
def mnI (i j : Int) : Int := if j < i then j else i
theorem mxI_le {i j n : Int} : mxI i j ≤ n ↔ i ≤ n ∧ j ≤ n := by unfold mxI; split <;> omega
theorem le_mxI {i j n : Int} : n ≤ mxI i j ↔ n ≤ i ∨ n ≤ j := by unfold mxI; split <;> omega
theorem le_mnI {i j n : Int} : n ≤ mnI i j ↔ n ≤ i ∧ n ≤ j := by unfold mnI; split <;> omega
theorem mnI_le {i j n : Int} : mnI i j ≤ n ↔ i ≤ n ∨ j ≤ n := by unfold mnI; split <;> omega
/-- going through both at once -/
def bothF : List (Int × Int) → List (Int × Int) → List (Int × Int)
  | [], _ => []
  | _ :: _, [] => []
  | p :: r, q :: s => (if mxI p.1 q.1 ≤ mnI p.2 q.2 then [(mxI p.1 q.1, mnI p.2 q.2)] else []) ++ (if p.2 < q.2 then bothF r (q :: s) else bothF (p :: r) s)
termination_by ps qs => ps.length + qs.length
theorem bothF_nil (ps : List (Int × Int)) : bothF ps [] = [] := by cases ps <;> rw [bothF]
theorem bothF_ris : ∀ {ps qs : List (Int × Int)} {lo lo' k : Int}, Ris lo ps → Ris lo' qs → (k ≤ lo ∨ k ≤ lo') → Ris k (bothF ps qs)
  | [], _, _, _, _, _, _, _ => by rw [bothF]; exact True.intro
  | _ :: _, [], _, _, _, _, _, _ => by rw [bothF]; exact True.intro
  | p :: r, q :: s, lo, lo', k, h, h', hk => by
    rw [bothF]
    have h1 := h.1
    have h2 := h.2.1
    have h1' := h'.1
    have h2' := h'.2.1
    by_cases c : mxI p.1 q.1 ≤ mnI p.2 q.2
    · rw [if_pos c]
      refine ⟨?_, c, ?_⟩
      · show k ≤ mxI p.1 q.1
        rw [le_mxI]
        omega
      · by_cases d : p.2 < q.2
        · rw [if_pos d]
          refine bothF_ris h.2.2 h' (.inl ?_)
          show mnI p.2 q.2 + 2 ≤ p.2 + 2
          have : mnI p.2 q.2 ≤ p.2 := mnI_le.mpr (.inl (Int.le_refl _))
          omega
        · rw [if_neg d]
          refine bothF_ris h h'.2.2 (.inr ?_)
          show mnI p.2 q.2 + 2 ≤ q.2 + 2
          have : mnI p.2 q.2 ≤ q.2 := mnI_le.mpr (.inr (Int.le_refl _))
          omega
    · rw [if_neg c, List.nil_append]
      by_cases d : p.2 < q.2
      · rw [if_pos d]
        refine bothF_ris h.2.2 h' ?_
        omega
      · rw [if_neg d]
        refine bothF_ris h h'.2.2 ?_
        omega
termination_by ps qs => ps.length + qs.length
theorem bothF_in {n : Int} : ∀ {ps qs : List (Int × Int)} {lo lo' : Int}, Ris lo ps → Ris lo' qs → (InS (bothF ps qs) n ↔ InS ps n ∧ InS qs n)
  | [], _, _, _, _, _ => by rw [bothF]; exact ⟨fun h => absurd h inS_nil, fun h => h.1⟩
  | _ :: _, [], _, _, _, _ => by rw [bothF]; exact ⟨fun h => absurd h inS_nil, fun h => h.2⟩
  | p :: r, q :: s, lo, lo', h, h' => by
    rw [bothF, inS_append, inS_cons, inS_cons]
    have e1 : InS (if mxI p.1 q.1 ≤ mnI p.2 q.2 then [(mxI p.1 q.1, mnI p.2 q.2)] else []) n ↔ (p.1 ≤ n ∧ n ≤ p.2) ∧ (q.1 ≤ n ∧ n ≤ q.2) := by
      by_cases c : mxI p.1 q.1 ≤ mnI p.2 q.2
      · rw [if_pos c, inS_cons]
        show ((mxI p.1 q.1 ≤ n ∧ n ≤ mnI p.2 q.2) ∨ InS [] n) ↔ _
        rw [mxI_le, le_mnI]
        constructor
        · rintro (z | z)
          · omega
          · exact absurd z inS_nil
        · intro z
          exact .inl (by omega)
      · rw [if_neg c]
        constructor
        · exact fun z => absurd z inS_nil
        · intro z
          refine absurd (Int.le_trans (mxI_le.mpr ⟨z.1.1, z.2.1⟩) (le_mnI.mpr ⟨z.1.2, z.2.2⟩)) c
    rw [e1]
    by_cases d : p.2 < q.2
    · rw [if_pos d, bothF_in h.2.2 h', inS_cons]
      have no : InS s n → ¬ n ≤ p.2 := fun z => by
        have := h'.2.2.low z
        omega
      constructor
      · rintro (⟨z1, z2⟩ | ⟨z1, z2⟩)
        · exact ⟨.inl z1, .inl z2⟩
        · exact ⟨.inr z1, z2⟩
      · rintro ⟨z1 | z1, z2 | z2⟩
        · exact .inl ⟨z1, z2⟩
        · exact absurd z1.2 (no z2)
        · exact .inr ⟨z1, .inl z2⟩
        · exact .inr ⟨z1, .inr z2⟩
    · rw [if_neg d, bothF_in h h'.2.2, inS_cons]
      have no : InS r n → ¬ n ≤ q.2 := fun z => by
        have := h.2.2.low z
        omega
      constructor
      · rintro (⟨z1, z2⟩ | ⟨z1, z2⟩)
        · exact ⟨.inl z1, .inl z2⟩
        · exact ⟨z1, .inr z2⟩
      · rintro ⟨z1 | z1, z2 | z2⟩
        · exact .inl ⟨z1, z2⟩
        · exact .inr ⟨.inl z1, z2⟩
        · exact absurd z2.2 (no z1)
        · exact .inr ⟨.inr z1, z2⟩
termination_by ps qs => ps.length + qs.length
/-- what lies between the stretches of a set -/
def gapsF (e : Int) : Int → List (Int × Int) → List (Int × Int)
  | st, [] => [(st, e)]
  | st, p :: r => (st, mnI (p.1 - 1) e) :: gapsF e (mxI st (p.2 + 1)) r
theorem gapsF_length (e : Int) : ∀ (qs : List (Int × Int)) (st : Int), (gapsF e st qs).length = qs.length + 1
  | [], _ => rfl
  | _ :: r, _ => by rw [gapsF, List.length_cons, gapsF_length e r, List.length_cons]
theorem gapsF_in {e n : Int} : ∀ {qs : List (Int × Int)} {lo st : Int}, Ris lo qs → (InS (gapsF e st qs) n ↔ (st ≤ n ∧ n ≤ e) ∧ ¬ InS qs n)
  | [], _, st, _ => by
    rw [gapsF, inS_cons]
    constructor
    · rintro (z | z)
      · exact ⟨z, inS_nil⟩
      · exact absurd z inS_nil
    · exact fun z => .inl z.1
  | p :: r, lo, st, h => by
    rw [gapsF, inS_cons, gapsF_in h.2.2, inS_cons]
    show ((st ≤ n ∧ n ≤ mnI (p.1 - 1) e) ∨ (mxI st (p.2 + 1) ≤ n ∧ n ≤ e) ∧ ¬ InS r n) ↔ _
    rw [le_mnI, mxI_le]
    have h2 := h.2.1
    have no : n ≤ p.2 + 1 → ¬ InS r n := fun z y => by
      have := h.2.2.low y
      omega
    constructor
    · rintro (z | ⟨z, y⟩)
      · refine ⟨by omega, ?_⟩
        rintro (x | x)
        · omega
        · exact no (by omega) x
      · refine ⟨by omega, ?_⟩
        rintro (x | x)
        · omega
        · exact y x
    · rintro ⟨z, y⟩
      by_cases c : n < p.1
      · exact .inl (by omega)
      · refine .inr ⟨?_, fun x => y (.inr x)⟩
        have : ¬ (p.1 ≤ n ∧ n ≤ p.2) := fun x => y (.inl x)
        omega
/-- a set of just the numbers of which pr holds -/
structure Told (pr : Int → Prop) (rs : List (Int × Int)) : Prop where
  ris : ∃ lo, Ris lo rs
  same : ∀ n, InS rs n ↔ pr n
theorem Told.one {pr pr' : Int → Prop} {rs rs' : List (Int × Int)} (h : Told pr rs) (h' : Told pr' rs') (e : ∀ n, pr n ↔ pr' n) : rs = rs' := by
  obtain ⟨lo, r⟩ := h.ris
  obtain ⟨lo', r'⟩ := h'.ris
  exact ris_one r r' fun n => (h.same n).trans ((e n).trans (h'.same n).symm)
theorem Told.of {lo : Int} {rs : List (Int × Int)} (h : Ris lo rs) : Told (InS rs) rs := ⟨⟨lo, h⟩, fun _ => Iff.rfl⟩
theorem SetLike.told {ps rs : List (Int × Int)} (h : SetLike ps rs) : Told (InS ps) rs := ⟨h.ris, h.same⟩
theorem Told.cong {pr pr' : Int → Prop} {rs : List (Int × Int)} (h : Told pr rs) (e : ∀ n, pr n ↔ pr' n) : Told pr' rs := ⟨h.ris, fun n => (h.same n).trans (e n)⟩
theorem Told.nneg {pr : Int → Prop} {rs : List (Int × Int)} (h : Told pr rs) (hn : ∀ n, pr n → 0 ≤ n) : Ris 0 rs := by
  obtain ⟨lo, r⟩ := h.ris
  cases rs with
  | nil => exact True.intro
  | cons p q => exact ⟨hn _ ((h.same _).mp (inS_cons.mpr (.inl ⟨Int.le_refl _, r.2.1⟩))), r.2⟩

theorem cut_back (xs : List V) (m : Nat) : cutV xs (some (m : Int)) none = xs.drop m := by
  unfold cutV
  rw [HT.sIx_none, HT.sIx_nat]
  by_cases h : m ≤ xs.length
  · rw [Nat.min_eq_left h]
    exact List.take_of_length_le (by rw [List.length_drop]; exact Nat.le_refl _)
  · rw [Nat.min_eq_right (by omega), Nat.sub_self, List.take_zero, List.drop_eq_nil_of_le (by omega)]
theorem _root_.GP.Prs.append {H : Hp} {us ws : List V} {ps qs : List (Int × Int)} (h : Prs H us ps) (h' : Prs H ws qs) : Prs H (us ++ ws) (ps ++ qs) := by
  refine ⟨by rw [List.length_append, List.length_append, h.1, h'.1], fun i p e => ?_⟩
  by_cases hi : i < ps.length
  · rw [List.getElem?_append_left hi] at e
    rw [List.getElem?_append_left (by rw [h.1]; exact hi)]
    exact h.2 i p e
  · rw [List.getElem?_append_right (by omega)] at e
    rw [List.getElem?_append_right (by rw [h.1]; omega), h.1]
    exact h'.2 _ p e
theorem _root_.GP.Prs.take {H : Hp} {us : List V} {ps : List (Int × Int)} (h : Prs H us ps) (n : Nat) : Prs H (us.take n) (ps.take n) := by
  refine ⟨by rw [List.length_take, List.length_take, h.1], fun i p e => ?_⟩
  rw [List.getElem?_take] at e ⊢
  split at e
  · rename_i hi
    rw [if_pos hi]
    exact h.2 i p e
  · cases e
theorem _root_.GP.Prs.drop {H : Hp} {us : List V} {ps : List (Int × Int)} (h : Prs H us ps) (n : Nat) : Prs H (us.drop n) (ps.drop n) := by
  refine ⟨by rw [List.length_drop, List.length_drop, h.1], fun i p e => ?_⟩
  rw [List.getElem?_drop] at e ⊢
  exact h.2 _ p e
theorem _root_.GP.Prs.reverse {H : Hp} {us : List V} {ps : List (Int × Int)} (h : Prs H us ps) : Prs H us.reverse ps.reverse := by
  refine ⟨by rw [List.length_reverse, List.length_reverse, h.1], fun i p e => ?_⟩
  have hi : i < ps.length := by
    have z := (List.getElem?_eq_some_iff.mp e).1
    rwa [List.length_reverse] at z
  rw [List.getElem?_reverse hi] at e
  rw [List.getElem?_reverse (by rw [h.1]; exact hi), h.1]
  exact h.2 _ p e

/-! ### set_of -/
abbrev LcR (J : It) (g : TG) (tt : TT) (te : TE) (vs : List Nat) (σ : L2.St) (D : Addr) (Qd : Addr → Hp → Prop) (H1 : Hp) : Prop := ∃ W : Nat → Nat → Hp → Prop, (∃ m, W 0 m (upd H1 D (.lst []))) ∧ ∀ i m H, W i m H →
  (J.stop i H ∧ Qd D H) ∨ (J.go i H ∧ ∃ Nx : Hp → Prop, (∀ H', Nx H' → ∃ m', m' < m ∧ W (i + 1) m' H') ∧ ∀ x H', J.yld i H x H' → g x (wipe σ vs) H' fun σ2 H2 => wipe σ2 vs = wipe σ vs ∧ tt σ2 H2 fun b H3 => if b = true then
    te σ2 H3 fun y H4 => ∃ acc, H4 D = some (.lst acc) ∧ acc.length < sizeLine ∧ Nx (upd H4 D (.lst (acc ++ [y]))) else Nx H3)
theorem lc_seq {K : PySem.W.Frag} {a : Addr} {xs : List V} {g : TG} {tt : TT} {te : TE} {vs : List Nat} {σ : L2.St} {H1 : Hp} {Qd : Addr → Hp → Prop} (hq : Sq K H1 a xs) (Pv : Addr → Nat → Hp → Prop) (h0 : ∀ D, H1 D = none → Pv D 0 (upd H1 D (.lst [])))
    (still : ∀ D i H', H1 D = none → Pv D i H' → SqTo K H1 H' a xs)
    (turn : ∀ D i x H', H1 D = none → xs[i]? = some x → Pv D i H' → g x (wipe σ vs) H' fun σ2 H2 => wipe σ2 vs = wipe σ vs ∧ tt σ2 H2 fun b H3 =>
      if b = true then te σ2 H3 fun y H4 => ∃ acc, H4 D = some (.lst acc) ∧ acc.length < sizeLine ∧ Pv D (i + 1) (upd H4 D (.lst (acc ++ [y]))) else Pv D (i + 1) H3) (fin : ∀ D H', H1 D = none → Pv D xs.length H' → Qd D H') :
    ((∃ xs, SqL K H1 a xs) ∧ ∀ D, H1 D = none → LcR (Itl K a) g tt te vs σ D Qd H1) ∨ ((∃ xs, SqT K H1 a xs) ∧ ∀ D, H1 D = none → LcR (Itt K a) g tt te vs σ D Qd H1) := by
  rcases hq with h | h
  · exact .inl ⟨⟨xs, h⟩, fun D nD => lc_list (xs := xs) (Pv D) (h0 D nD) (fun i H' _ p => (still D i H' nD p).1 h) (fun i x H' e p => turn D i x H' nD e p) (fun H' p => fin D H' nD p)⟩
  · exact .inr ⟨⟨xs, h⟩, fun D nD => lc_tup (xs := xs) (Pv D) (h0 D nD) (fun i H' _ p => (still D i H' nD p).2 h) (fun i x H' e p => turn D i x H' nD e p) (fun H' p => fin D H' nD p)⟩
theorem snoc_cases {α : Type} (l : List α) : l = [] ∨ ∃ l' x, l = l' ++ [x] := by
  rcases List.eq_nil_or_concat l with h | ⟨l', x, h⟩
  · exact .inl h
  · exact .inr ⟨l', x, by rw [h]; simp⟩
theorem _root_.GP.Prs.last {H : Hp} {us : List V} {ps : List (Int × Int)} {p : Int × Int} (h : Prs H us (ps ++ [p])) : ∃ us' T, us = us' ++ [.ref T] ∧ H T = some (.tup [.int p.1, .int p.2]) ∧ Prs H us' ps := by
  have hl := h.1
  rw [List.length_append] at hl
  rcases snoc_cases us with e | ⟨us', x, e⟩
  · rw [e] at hl
    simp at hl
  · subst e
    rw [List.length_append] at hl
    have hl' : us'.length = ps.length := Nat.add_right_cancel hl
    obtain ⟨T, e1, e2⟩ := h.2 ps.length p (by rw [List.getElem?_append_right (Nat.le_refl _), Nat.sub_self]; rfl)
    rw [List.getElem?_append_right (by omega), hl', Nat.sub_self] at e1
    refine ⟨us', T, by rw [Option.some.inj e1], e2, hl', fun i q eq => ?_⟩
    have hi : i < ps.length := (List.getElem?_eq_some_iff.mp eq).1
    obtain ⟨b, f1, f2⟩ := h.2 i q (by rw [List.getElem?_append_left hi]; exact eq)
    rw [List.getElem?_append_left (by omega)] at f1
    exact ⟨b, f1, f2⟩
/-- the pair that a tracked tuple holds -/
def pairOf (H : Hp) : V → Int × Int
  | .ref t => (match H t with
    | some (.tup [.int i, .int j]) => (i, j)
    | _ => (0, 0))
  | _ => (0, 0)
theorem pairOf_at {H : Hp} {t : Addr} {p : Int × Int} (e : H t = some (.tup [.int p.1, .int p.2])) : pairOf H (.ref t) = p := by
  show (match H t with | some (.tup [.int i, .int j]) => (i, j) | _ => (0, 0)) = p
  rw [e]
abbrev sSetOf : Stmt := topS 1
theorem scSetOf : FnScope ["pairs", "merged", "first", "last", "low", "high", "pair"] ["pairs"] (defScope sSetOf) := ⟨rfl, rfl, rfl, by decide +kernel, rfl, by decide +kernel, by decide +kernel⟩
def spSetOf (K : PySem.W.Frag) : Sp := fun vs H Q _ => ∃ (a : Addr) (us : List V) (ps : List (Int × Int)), vs = [.ref a] ∧ Sq K H a us ∧ Prs H us ps ∧ ps.length ≤ 900 ∧
  ∀ (l : Addr) (ws : List V) (rs : List (Int × Int)) H', H l = none → H' l = some (.lst ws) → Prs H' ws rs → SetLike ps rs → Same H H' → Q (.ref l) H'
section
variable {K : PySem.W.Frag} {mg : Str → Option Value} {P : Program} {w : World} {base : Heap}
theorem ok_setof {f : Addr} {fd : FuncData} {k : Nat} (F : Fun K "set_of" "set_of" sSetOf f fd) (mso : mg "sorted" = none) (mx : mg "max" = none) : FnOk P w K mg base CX0 (k + 1) f fd ["pairs"] (spSetOf K) := by
  refine F.ok scSetOf (fun vs H Q E h => ?_) (fun cdv A outer s H vs Q E hr h => ?_)
  · obtain ⟨a, us, ps, rfl, _⟩ := h
    rfl
  · obtain ⟨a, us, ps, rfl, hq, hp, hz, q⟩ := h
    refine ⟨_, pss_cons (ps_set (i := 1) scSetOf.nd rfl (.inl rfl) (pe_lst pa_nil))
      (pss_cons (ps_for PassesOwn.never rfl (pi_list (pe_callB cr_sortedPO (by rfl) mso (by decide +kernel) (pa_cons (pe_lc (own := [("pair", 6)]) (g := gName 6) (tt := tTest (tOp (rI0 fun i j => .bl (decide (i ≤ j))) (tOp (rIxT K) (tVar 6) (tC (.int 0))) (tOp (rIxT K) (tVar 6) (tC (.int 1))))) rfl scSetOf.nd (pi_seq (pv 0))
          (blkOk_by (own := [("pair", 6)]) (N := ["pairs", "merged", "first", "last", "low", "high", "pair"]) (sc := defScope sSetOf) (by decide +kernel))
          (fun _ _ _ _ _ => pg_name (i := 6) scSetOf.nd rfl (.inl rfl)) (fun _ _ _ _ _ => pts_one (pt_cmpR op_le (pe_ix ix_tup (pv 6) pe_int (fun _ _ => rfl)) (pe_ix ix_tup (pv 6) pe_int (fun _ _ => rfl)) (nomark _))) (fun _ _ _ _ _ => pv 6)) pa_nil)))
        (pg_tup rfl (pgs_cons (pg_name (i := 2) scSetOf.nd rfl (.inl rfl)) (pgs_cons (pg_name (i := 3) scSetOf.nd rfl (.inl rfl)) pgs_nil)))
        (pss_one (ps_if (PW.pt (pw_and (pt_truth (pv 1) (by intro _; rfl)) (pw_and1 (pt_cmpR op_le (pv 2) (pe_op op_add (pe_ix ix_tup (pe_ix ix_list (pv 1) (pe_un un_neg pe_int) (fun _ _ => rfl)) pe_int (fun _ _ => rfl)) pe_int) (nomark _)))))
          (pss_cons (ps_asg (pe_ix ix_list (pv 1) (pe_un un_neg pe_int) (fun _ _ => rfl)) (pg_tup rfl (pgs_cons (pg_name (i := 4) scSetOf.nd rfl (.inl rfl)) (pgs_cons (pg_name (i := 5) scSetOf.nd rfl (.inl rfl)) pgs_nil))))
          (pss_one (ps_asg (pe_tup (pa_cons (pv 4) (pa_cons (pe_callB (call_max2 rfl) (by rfl) mx (by decide +kernel) (pa_cons (pv 5) (pa_cons (pv 3) pa_nil))) pa_nil))) (pg_sub (pv 1) (pe_un un_neg pe_int) set_list))))
          (pss_one (ps_expr (pe_bm PySem.F.plainAttrs_list PySem.F.slot_list_append PySem.F.type_list_append mt_append (pv 1) (pa_cons (pe_tup (pa_cons (pv 2) (pa_cons (pv 3) pa_nil))) pa_nil)))))))
      (pss_one (ps_ret (pv 1)))), ?_⟩
    -- merged = []
    refine ⟨Nat.zero_le _, fun mg' nm => ?_⟩
    have s1 := same_upd (o := .lst []) nm
    have em1 : upd H mg' (.lst []) mg' = some (.lst []) := upd_same
    revert s1 em1
    generalize upd H mg' (.lst []) = H1
    intro s1 em1
    -- [pair for pair in pairs if ..]
    refine ⟨.ref a, rfl, a, rfl, lc_seq (xs := us) (hq.same s1) (fun D i H' => Same H1 H' ∧ ∃ ys, H' D = some (.lst ys) ∧ Prs H' ys ((ps.take i).filter fun p => decide (p.1 ≤ p.2)) ∧ ys.length ≤ i) (fun D nD => ⟨same_upd nD, [], upd_same, Prs.nil, Nat.le_refl _⟩)
      (fun D i H' nD hP => SqTo.same hP.1) (fun D i x H' nD hx hP => ?_) (fun D H2 nD hP => ?_)⟩
    · obtain ⟨sm, ys, eD, hys, hyl⟩ := hP
      obtain ⟨p, T, ep, rfl, eT⟩ := prs_at hp hx
      have hi : i < us.length := (List.getElem?_eq_some_iff.mp hx).1
      rw [hp.1] at hi
      have eT' := sm _ _ (s1 _ _ eT)
      refine ⟨rfl, _, rfl, T, _, 0, .int p.1, rfl, rfl, .inl (.inl eT'), atI_nat (j := 0) rfl, _, rfl, T, _, 1, .int p.2, rfl, rfl, .inl (.inl eT'), atI_nat (j := 1) rfl, p.1, p.2, rfl, rfl, _, rfl, ?_⟩
      have etake : (ps.take (i + 1)).filter (fun p => decide (p.1 ≤ p.2)) = (ps.take i).filter (fun p => decide (p.1 ≤ p.2)) ++ (if p.1 ≤ p.2 then [p] else []) := by
        rw [List.take_add_one, ep, List.filter_append]
        by_cases c : p.1 ≤ p.2
        · rw [if_pos c]; simp [c]
        · rw [if_neg c]; simp [c]
      refine ite2 (fun c => ?_) (fun c => ?_)
      · have c' := of_decide_eq_true c
        refine ⟨_, rfl, ys, eD, small1000 (by omega), fun b o e => ?_, _, upd_same, ?_, by rw [List.length_append]; show ys.length + 1 ≤ i + 1; omega⟩
        · rw [upd_ne (ne_of_none e nD)]
          exact sm b o e
        · rw [etake, if_pos c']
          exact (hys.snoc eT').upd_lst eD
      · have c' : ¬ p.1 ≤ p.2 := fun z => c (decide_eq_true z)
        refine ⟨sm, ys, eD, ?_, by omega⟩
        rw [etake, if_neg c', List.append_nil]
        exact hys
    · -- sorted
      obtain ⟨sm, ys, eD, hys, hyl⟩ := hP
      rw [hp.1, List.take_length] at hys
      refine ⟨D, ys, pairOf H2, rfl, SqL.of eD, fun x hx => ?_, fun zs g srt stb ng => ?_⟩
      · obtain ⟨i, hi, e⟩ := List.getElem_of_mem hx
        obtain ⟨p, T, _, rfl, eT⟩ := prs_at hys (by rw [List.getElem?_eq_getElem hi, e])
        exact ⟨T, rfl, by rw [pairOf_at eT]; exact eT⟩
      have sg := same_upd (o := .lst zs) ng
      have eg : upd H2 g (.lst zs) g = some (.lst zs) := upd_same
      have s3 : Same H (upd H2 g (.lst zs)) := (s1.trans sm).trans sg
      have em3 := sg _ _ (sm _ _ em1)
      -- the pairs of zs
      have each : ∀ x ∈ zs, ∃ T, x = .ref T ∧ H2 T = some (.tup [.int (pairOf H2 x).1, .int (pairOf H2 x).2]) := fun x hx => by
        obtain ⟨i, hi, e⟩ := List.getElem_of_mem (stb.perm.mem_iff.mp hx)
        obtain ⟨p, T, _, rfl, eT⟩ := prs_at hys (by rw [List.getElem?_eq_getElem hi, e])
        exact ⟨T, rfl, by rw [pairOf_at eT]; exact eT⟩
      have hzs : Prs H2 zs (zs.map (pairOf H2)) := ⟨by rw [List.length_map], fun i p e => by
        rw [List.getElem?_map] at e
        cases h : zs[i]? with
        | none => rw [h] at e; cases e
        | some x =>
          rw [h] at e
          cases e
          obtain ⟨T, rfl, eT⟩ := each x (List.mem_of_getElem? h)
          exact ⟨T, rfl, eT⟩⟩
      have hmap : ys.map (pairOf H2) = ps.filter fun p => decide (p.1 ≤ p.2) := by
        refine List.ext_getElem? fun i => ?_
        rw [List.getElem?_map]
        cases h : ys[i]? with
        | none =>
          have : (ps.filter fun p => decide (p.1 ≤ p.2))[i]? = none := by
            rw [List.getElem?_eq_none_iff] at h ⊢
            rw [← hys.1]
            exact h
          rw [this]
          rfl
        | some x =>
          obtain ⟨p, T, ep, rfl, eT⟩ := prs_at hys h
          rw [ep]
          show some (pairOf H2 (.ref T)) = some p
          rw [pairOf_at eT]
      have hperm : (zs.map (pairOf H2)).Perm (ps.filter fun p => decide (p.1 ≤ p.2)) := hmap ▸ stb.perm.map (pairOf H2)
      have hle : ∀ p ∈ zs.map (pairOf H2), p.1 ≤ p.2 := fun p hp' => by
        have := hperm.mem_iff.mp hp'
        exact of_decide_eq_true (List.mem_filter.mp this).2
      have hord : (zs.map (pairOf H2)).Pairwise fun x y => x.1 ≤ y.1 := by
        rw [List.pairwise_map]
        refine srt.imp fun {x y} h => ?_
        have := SrtO.lexB_no.mp h
        omega
      have hzl : zs.length ≤ 900 := by
        rw [stb.perm.length_eq, hys.1]
        exact Nat.le_trans (List.length_filter_le _ _) hz
      revert hzs hperm hle hord
      generalize zs.map (pairOf H2) = qs
      intro hzs hperm hle hord
      have hzs3 := hzs.same sg
      revert eg s3 em3 hzs3
      generalize upd H2 g (.lst zs) = H3
      intro eg s3 em3 hzs3
      have ngH : H g = none := (s1.trans sm).free ng
      have nmg : mg' ≠ g := ne_of_none (sm _ _ em1) ng
      -- the merging
      refine ⟨g, rfl, ⟨_, SqL.of eg⟩, for_list (xs := zs) (fun i σ H4 => ∃ (ms : List V) (rs : List (Int × Int)) (y2 y3 y4 y5 y6 : Option V), σ = [some (.ref a), some (.ref mg'), y2, y3, y4, y5, y6] ∧ Same H H4 ∧ H4 g = some (.lst zs) ∧ Prs H4 zs qs ∧ H4 mg' = some (.lst ms) ∧ Prs H4 ms rs ∧ Mrg (qs.take i) rs)
        ⟨[], [], _, _, _, _, _, rfl, s3, eg, hzs3, em3, Prs.nil, Mrg.nil⟩ (fun i σ H4 _ hP => ?_) (fun i x σ H4 hx hP => ?_) (fun σ H4 hP => ?_)⟩
      · obtain ⟨_, _, _, _, _, _, _, rfl, _, e, _⟩ := hP
        exact SqL.of e
      · obtain ⟨ms, rs, y2, y3, y4, y5, y6, rfl, sm4, eg4, hz4, em4, hms, m⟩ := hP
        obtain ⟨p, T, ep, rfl, eT⟩ := prs_at hz4 hx
        have hi : i < qs.length := (List.getElem?_eq_some_iff.mp ep).1
        have hp12 : p.1 ≤ p.2 := hle p (List.mem_of_getElem? ep)
        have ord : ∀ q ∈ qs.take i, q.1 ≤ p.1 := fun q hq' => by
          obtain ⟨j, hj, e⟩ := List.getElem_of_mem hq'
          rw [List.length_take] at hj
          rw [List.getElem_take] at e
          obtain ⟨_, e2⟩ := List.getElem?_eq_some_iff.mp ep
          rw [← e, ← e2]
          exact List.pairwise_iff_getElem.mp hord j i (by omega) hi (by omega)
        have etake : qs.take (i + 1) = qs.take i ++ [p] := by rw [List.take_add_one, ep]; rfl
        have hmsl : ms.length ≤ 900 := by
          have := m.len
          rw [List.length_take] at this
          have := hzs.1
          rw [hms.1]
          omega
        refine ⟨T, _, rfl, .inl (.inl eT), rfl, _, _, rfl, _, _, rfl, rfl, ?_⟩
        -- what a new tuple and a change of merged leave
        have grow : ∀ (T2 : Addr) (p2 : Int × Int) (ms2 : List V) (rs2 : List (Int × Int)), H4 T2 = none → Prs (upd H4 T2 (.tup [.int p2.1, .int p2.2])) ms2 rs2 →
            Same H (upd (upd H4 T2 (.tup [.int p2.1, .int p2.2])) mg' (.lst ms2)) ∧ upd (upd H4 T2 (.tup [.int p2.1, .int p2.2])) mg' (.lst ms2) g = some (.lst zs) ∧ Prs (upd (upd H4 T2 (.tup [.int p2.1, .int p2.2])) mg' (.lst ms2)) zs qs ∧ upd (upd H4 T2 (.tup [.int p2.1, .int p2.2])) mg' (.lst ms2) mg' = some (.lst ms2) ∧ Prs (upd (upd H4 T2 (.tup [.int p2.1, .int p2.2])) mg' (.lst ms2)) ms2 rs2 := by
          intro T2 p2 ms2 rs2 n2 h2
          have st := same_upd (o := .tup [.int p2.1, .int p2.2]) n2
          have em5 := st _ _ em4
          refine ⟨fun b o e => ?_, ?_, (hz4.same st).upd_lst em5, upd_same, h2.upd_lst em5⟩
          · rw [upd_ne (ne_of_none e nm)]
            exact st _ _ (sm4 _ _ e)
          · rw [upd_ne nmg.symm]
            exact st _ _ eg4
        -- append
        have app : (∀ r ∈ rs, r.2 + 2 ≤ p.1) → (tDrop (tBM K "list" rAppend (tVar 1) (tCons (tTup (tCons (tVar 2) (tCons (tVar 3) tNil))) tNil))) { nx := fun σ H4 => ∃ (ms : List V) (rs : List (Int × Int)) (y2 y3 y4 y5 y6 : Option V), σ = [some (.ref a), some (.ref mg'), y2, y3, y4, y5, y6] ∧ Same H H4 ∧ H4 g = some (.lst zs) ∧ Prs H4 zs qs ∧ H4 mg' = some (.lst ms) ∧ Prs H4 ms rs ∧ Mrg (qs.take (i + 1)) rs, rt := fun _ _ => False } [some (.ref a), some (.ref mg'), some (.int p.1), some (.int p.2), y4, y5, y6] H4 := by
          intro far
          refine ⟨.ref mg', rfl, .inl ⟨rfl, _, SqL.of em4⟩, _, rfl, _, rfl, (by show 2 ≤ sizeLine; decide), fun T2 n2 => ?_⟩
          have st := same_upd (o := .tup [.int p.1, .int p.2]) n2
          refine ⟨mg', _, _, rfl, rfl, st _ _ em4, small1000 (by omega), ?_⟩
          obtain ⟨g1, g2, g3, g4, g5⟩ := grow T2 p (ms ++ [.ref T2]) (rs ++ [p]) n2 ((hms.same st).snoc upd_same)
          exact ⟨_, _, _, _, _, _, _, rfl, g1, g2, g3, g4, g5, by rw [etake]; exact m.new hp12 ord far⟩
        rcases snoc_cases rs with e0 | ⟨rs', ⟨lo, hi'⟩, e0⟩
        · have e1 : ms = [] := List.eq_nil_of_length_eq_zero (by rw [hms.1, e0]; rfl)
          have em0 : H4 mg' = some (.lst []) := by rw [em4, e1]
          refine ⟨.ref mg', rfl, false, .inl ⟨[], SqL.of em0, rfl⟩, iteF (iteF ?_)⟩
          exact app (by rw [e0]; exact fun _ z => nomatch z)
        · subst e0
          obtain ⟨ms', T0, rfl, eT0, hms'⟩ := hms.last
          refine ⟨.ref mg', rfl, true, .inl ⟨_, SqL.of em4, by simp⟩, iteT ?_⟩
          refine ⟨_, rfl, .ref mg', rfl, 1, rfl, mg', _, -1, .ref T0, rfl, rfl, SqL.of em4, atI_last _ _, T0, _, 1, .int hi', rfl, rfl, .inl (.inl eT0), atI_nat (j := 1) rfl, hi', 1, rfl, rfl, p.1, _, rfl, rfl, _, rfl, ite2 (fun c => ?_) (fun c => ?_)⟩
          · have c' := of_decide_eq_true c
            refine ⟨.ref mg', rfl, 1, rfl, mg', _, -1, .ref T0, rfl, rfl, SqL.of em4, atI_last _ _, T0, _, rfl, .inl (.inl eT0), rfl, _, _, rfl, _, _, rfl, rfl, ?_⟩
            refine ⟨_, rfl, _, rfl, _, rfl, hi', p.2, rfl, (by show 2 ≤ sizeLine; decide), fun T2 n2 => ?_⟩
            have st := same_upd (o := .tup [.int lo, .int (if p.2 > hi' then p.2 else hi')]) n2
            have ei : ixN (ms' ++ [V.ref T0]).length (-1) = some ms'.length := by
              unfold ixN
              rw [if_neg (by decide), List.length_append, if_pos (by show -((ms'.length + 1 : Nat) : Int) ≤ -1; omega)]
              show some ((-1 : Int) + ((ms'.length + 1 : Nat) : Int)).toNat = _
              congr 1
              omega
            refine ⟨.ref mg', rfl, 1, rfl, mg', _, -1, ms'.length, rfl, rfl, st _ _ em4, ei, ?_⟩
            have es : (ms' ++ [V.ref T0]).set ms'.length (.ref T2) = ms' ++ [.ref T2] := by simp
            rw [es]
            obtain ⟨g1, g2, g3, g4, g5⟩ := grow T2 (lo, if p.2 > hi' then p.2 else hi') (ms' ++ [.ref T2]) (rs' ++ [(lo, if p.2 > hi' then p.2 else hi')]) n2 ((hms'.same st).snoc upd_same)
            exact ⟨_, _, _, _, _, _, _, rfl, g1, g2, g3, g4, g5, by rw [etake]; exact m.join hp12 ord c'⟩
          · have c' : ¬ p.1 ≤ hi' + 1 := fun z => c (decide_eq_true z)
            refine app fun r hr' => ?_
            obtain ⟨lo', hR⟩ := m.ris
            obtain ⟨_, h2, _, h4⟩ := Ris.front hR
            have h4' : lo ≤ hi' := h4
            rcases List.mem_append.mp hr' with y | y
            · have : r.2 + 2 ≤ lo := h2 r y
              omega
            · rw [List.mem_singleton.mp y]
              show hi' + 2 ≤ p.1
              omega
      · obtain ⟨ms, rs, y2, y3, y4, y5, y6, rfl, sm4, eg4, hz4, em4, hms, m⟩ := hP
        rw [hzs.1, List.take_length] at m
        refine ⟨_, rfl, q mg' ms rs H4 nm em4 hms ⟨m.ris, m.same.trans fun n => ?_, Nat.le_trans m.len (Nat.le_trans (Nat.le_of_eq hperm.length_eq) (List.length_filter_le _ _))⟩ sm4⟩
        constructor
        · rintro ⟨r, hr', e⟩
          exact ⟨r, (List.mem_filter.mp (hperm.mem_iff.mp hr')).1, e⟩
        · rintro ⟨r, hr', e⟩
          exact ⟨r, hperm.mem_iff.mpr (List.mem_filter.mpr ⟨hr', decide_eq_true (by omega)⟩), e⟩
end

/-! ### what stands where: pairs in a list or a tuple -/
def PrA (K : PySem.W.Frag) (H : Hp) (a : Addr) (ps : List (Int × Int)) : Prop := ∃ us, Sq K H a us ∧ Prs H us ps
def LsA (H : Hp) (a : Addr) (ps : List (Int × Int)) : Prop := ∃ us, H a = some (.lst us) ∧ Prs H us ps
theorem LsA.pr {K : PySem.W.Frag} {H : Hp} {a : Addr} {ps : List (Int × Int)} (h : LsA H a ps) : PrA K H a ps := let ⟨us, e, p⟩ := h; ⟨us, Sq.list e, p⟩
theorem LsA.same {H H' : Hp} {a : Addr} {ps : List (Int × Int)} (h : LsA H a ps) (s : Same H H') : LsA H' a ps := let ⟨us, e, p⟩ := h; ⟨us, s _ _ e, p.same s⟩
theorem PrA.same {K : PySem.W.Frag} {H H' : Hp} {a : Addr} {ps : List (Int × Int)} (h : PrA K H a ps) (s : Same H H') : PrA K H' a ps := let ⟨us, e, p⟩ := h; ⟨us, e.same s, p.same s⟩
theorem LsA.nil {H : Hp} {a : Addr} (e : H a = some (.lst [])) : LsA H a [] := ⟨[], e, Prs.nil⟩
theorem LsA.dp {K : PySem.W.Frag} {H : Hp} {a : Addr} {ps : List (Int × Int)} (h : LsA H a ps) : Dp K H (.ref a) (.list (ps.map pairD)) := let ⟨_, e, p⟩ := h; .lst (SqL.of e) (dp_prs p)
/-- a told set: a new list -/
def TellS (pr : Int → Prop) (m : Nat) (H : Hp) (Q : VK) : Prop := ∀ l rs H', H l = none → LsA H' l rs → Told pr rs → rs.length ≤ m → Same H H' → Q (.ref l) H'
theorem eqv_pr_nil (ps : List (Int × Int)) : PyData.eqv (PyData.list (ps.map pairD)) (PyData.list []) = ps.isEmpty := by
  cases ps with
  | nil => simp [PyData.eqv, PyData.eqvAll]
  | cons p r => simp [PyData.eqv, PyData.eqvAll]
def rIxS (K : PySem.W.Frag) : R2 := fun x y H Q => ∃ p xs i v, x = .ref p ∧ y = .int i ∧ Sq K H p xs ∧ atI xs i = some v ∧ Q v H
theorem ix_seq {X : Cx} : IxR X (rIxS X.K) := by
  intro value slice pins s σ H x y v u Q I rx ry h hs
  obtain ⟨p, xs, i, z, e1, e2, hq, he, q⟩ := h
  rcases hq with hq | hq
  · exact ix_list value slice pins s σ H x y v u Q I rx ry ⟨p, xs, i, z, e1, e2, hq, he, q⟩ hs
  · exact ix_tup value slice pins s σ H x y v u Q I rx ry ⟨p, xs, i, z, e1, e2, hq, he, q⟩ hs
/-! ### either -/
abbrev sEither : Stmt := topS 2
theorem scEither : FnScope ["one", "other"] ["one", "other"] (defScope sEither) := ⟨rfl, rfl, rfl, by decide +kernel, rfl, by decide +kernel, by decide +kernel⟩
def spEither (K : PySem.W.Frag) : Sp := fun vs H Q _ => ∃ (a b : Addr) (ps qs : List (Int × Int)), vs = [.ref a, .ref b] ∧ PrA K H a ps ∧ PrA K H b qs ∧ ps.length + qs.length ≤ 900 ∧ TellS (fun n => InS ps n ∨ InS qs n) (ps.length + qs.length) H Q
section
variable {K : PySem.W.Frag} {mg : Str → Option Value} {P : Program} {w : World} {base : Heap}
theorem ok_either {f : Addr} {fd : FuncData} (F : Fun K "either" "either" sEither f fd) (CO : Cal P w K mg base 1 "set_of" ["pairs"] (spSetOf K)) : FnOk P w K mg base CX0 2 f fd ["one", "other"] (spEither K) := by
  refine F.ok scEither (fun vs H Q E h => ?_) (fun cdv A outer s H vs Q E hr h => ?_)
  · obtain ⟨a, b, ps, qs, rfl, _⟩ := h
    rfl
  · obtain ⟨a, b, ps, qs, rfl, ⟨us, ha, hps⟩, ⟨ws, hb, hqs⟩, hz, q⟩ := h
    refine ⟨_, pss_one (ps_ret (pe_own CO hr (by rfl) (pa_cons (pe_lst (StX.pa_star (pv 0) (StX.pa_star (pv 1) pa_nil))) pa_nil))), ?_⟩
    have el : (us ++ (ws ++ [])).length ≤ 900 := by
      rw [List.append_nil, List.length_append, hps.1, hqs.1]
      exact hz
    refine ⟨_, rfl, a, us, rfl, ha.symm, _, rfl, b, ws, rfl, hb.symm, Nat.le_of_lt (small1000 (Nat.le_trans el (by decide))), fun l nl => ?_⟩
    have sl := same_upd (o := .lst (us ++ (ws ++ []))) nl
    have hp : Prs (upd H l (.lst (us ++ (ws ++ [])))) (us ++ (ws ++ [])) (ps ++ qs) := by
      have z := ((hps.append hqs).same sl)
      rw [List.append_nil] at *
      exact z
    refine ⟨l, _, ps ++ qs, rfl, Sq.list upd_same, hp, by rw [List.length_append]; exact hz, fun l2 w2 rs H2 n2 e2 hrs hset s2 => ?_⟩
    exact q l2 rs H2 (sl.free n2) ⟨_, e2, hrs⟩ (hset.told.cong fun n => inS_append) (by have := hset.len; rwa [List.length_append] at this) (sl.trans s2)
end
/-! ### both_of -/
abbrev sBoth : Stmt := topS 3
theorem scBoth : FnScope ["one", "other", "shared", "at", "to", "first", "last"] ["one", "other"] (defScope sBoth) := ⟨rfl, rfl, rfl, by decide +kernel, rfl, by decide +kernel, by decide +kernel⟩
def spBoth (K : PySem.W.Frag) : Sp := fun vs H Q _ => ∃ (a b : Addr) (ps qs : List (Int × Int)), vs = [.ref a, .ref b] ∧ PrA K H a ps ∧ PrA K H b qs ∧ (∃ lo, Ris lo ps) ∧ (∃ lo, Ris lo qs) ∧ ps.length + qs.length ≤ 900 ∧ TellS (fun n => InS ps n ∧ InS qs n) (ps.length + qs.length) H Q
/-- between two turns -/
def BothW (H : Hp) (a b sh : Addr) (ps qs : List (Int × Int)) (m : Nat) (σ : L2.St) (H1 : Hp) : Prop := ∃ (i j : Nat) (ms : List V) (rs : List (Int × Int)) (y5 y6 : Option V), σ = [some (.ref a), some (.ref b), some (.ref sh), some (.int i), some (.int j), y5, y6] ∧ m = (ps.length - i) + (qs.length - j) ∧ i ≤ ps.length ∧ j ≤ qs.length ∧ Same H H1 ∧
  H1 sh = some (.lst ms) ∧ Prs H1 ms rs ∧ rs.length ≤ i + j ∧ rs ++ bothF (ps.drop i) (qs.drop j) = bothF ps qs
section
variable {K : PySem.W.Frag} {mg : Str → Option Value} {P : Program} {w : World} {base : Heap}
theorem ok_both {f : Addr} {fd : FuncData} {k : Nat} (F : Fun K "both_of" "both_of" sBoth f fd) (ml : mg "len" = none) (mx : mg "max" = none) (mn : mg "min" = none) : FnOk P w K mg base CX0 (k + 1) f fd ["one", "other"] (spBoth K) := by
  refine F.ok scBoth (fun vs H Q E h => ?_) (fun cdv A outer s H vs Q E hr h => ?_)
  · obtain ⟨a, b, ps, qs, rfl, _⟩ := h
    rfl
  · obtain ⟨a, b, ps, qs, rfl, ⟨us, ha, hps⟩, ⟨ws, hb, hqs⟩, ⟨lo, hr1⟩, ⟨lo', hr2⟩, hz, q⟩ := h
    refine ⟨_, pss_cons (ps_set (i := 2) scBoth.nd rfl (.inl rfl) (pe_lst pa_nil))
      (pss_cons (ps_set (i := 3) scBoth.nd rfl (.inl rfl) pe_int)
      (pss_cons (ps_set (i := 4) scBoth.nd rfl (.inl rfl) pe_int)
      (pss_cons (ps_while PassesOwn.never (PW.pt (pw_and (pt_cmpR op_lt (pv 3) (pe_callB call_len_seq (by rfl) ml PySem.boot_len (pa_cons (pv 0) pa_nil)) (nomark _)) (pw_and1 (pt_cmpR op_lt (pv 4) (pe_callB call_len_seq (by rfl) ml PySem.boot_len (pa_cons (pv 1) pa_nil)) (nomark _)))))
        (pss_cons (ps_set (i := 5) scBoth.nd rfl (.inl rfl) (pe_callB (call_max2 rfl) (by rfl) mx (by decide +kernel) (pa_cons (pe_ix ix_tup (pe_ix ix_seq (pv 0) (pv 3) (fun _ _ => rfl)) pe_int (fun _ _ => rfl)) (pa_cons (pe_ix ix_tup (pe_ix ix_seq (pv 1) (pv 4) (fun _ _ => rfl)) pe_int (fun _ _ => rfl)) pa_nil))))
        (pss_cons (ps_set (i := 6) scBoth.nd rfl (.inl rfl) (pe_callB (call_min2 rfl) (by rfl) mn (by decide +kernel) (pa_cons (pe_ix ix_tup (pe_ix ix_seq (pv 0) (pv 3) (fun _ _ => rfl)) pe_int (fun _ _ => rfl)) (pa_cons (pe_ix ix_tup (pe_ix ix_seq (pv 1) (pv 4) (fun _ _ => rfl)) pe_int (fun _ _ => rfl)) pa_nil))))
        (Evl.pss_cut (ps_if (pt_cmpR op_le (pv 5) (pv 6) (nomark _)) (pss_one (ps_expr (pe_bm PySem.F.plainAttrs_list PySem.F.slot_list_append PySem.F.type_list_append mt_append (pv 2) (pa_cons (pe_tup (pa_cons (pv 5) (pa_cons (pv 6) pa_nil))) pa_nil)))) pss_nil)
        (pss_one (ps_if (pt_cmpR op_lt (pe_ix ix_tup (pe_ix ix_seq (pv 0) (pv 3) (fun _ _ => rfl)) pe_int (fun _ _ => rfl)) (pe_ix ix_tup (pe_ix ix_seq (pv 1) (pv 4) (fun _ _ => rfl)) pe_int (fun _ _ => rfl)) (nomark _))
          (pss_one (ps_aug (i := 3) scBoth.nd rfl (.inl rfl) pe_int ip_add)) (pss_one (ps_aug (i := 4) scBoth.nd rfl (.inl rfl) pe_int ip_add))))))))
      (pss_one (ps_ret (pv 2)))))), ?_⟩
    refine ⟨Nat.zero_le _, fun sh nsh => ?_⟩
    have s0 := same_upd (o := .lst []) nsh
    have hl1 := hps.1
    have hl2 := hqs.1
    refine ⟨BothW H a b sh ps qs, ⟨_, 0, 0, [], [], none, none, rfl, rfl, Nat.zero_le _, Nat.zero_le _, s0, upd_same, Prs.nil, Nat.le_refl _, rfl⟩, fun m σ H1 hW => ?_⟩
    obtain ⟨i, j, ms, rs, y5, y6, rfl, rfl, hi, hj, sm, esh, hms, hrl, hbo⟩ := hW
    have ha1 := ha.same sm
    have hb1 := hb.same sm
    -- the end: nothing is left of one
    have fin : bothF (ps.drop i) (qs.drop j) = [] → Q (.ref sh) H1 := by
      intro e
      rw [e, List.append_nil] at hbo
      subst hbo
      exact q sh (bothF ps qs) H1 nsh ⟨ms, esh, hms⟩ ⟨⟨lo, bothF_ris hr1 hr2 (.inl (Int.le_refl _))⟩, fun n => bothF_in hr1 hr2⟩ (by omega) sm
    refine ⟨_, rfl, _, rfl, a, us, rfl, ha1, (i : Int), (us.length : Int), rfl, rfl, _, rfl, ite2 (fun c1 => ?_) (fun c1 => ?_)⟩
    · have c1' := of_decide_eq_true c1
      refine ⟨_, rfl, _, rfl, b, ws, rfl, hb1, (j : Int), (ws.length : Int), rfl, rfl, _, rfl, ite2 (fun c2 => ?_) (fun c2 => ?_)⟩
      · have c2' := of_decide_eq_true c2
        have hi' : i < ps.length := by omega
        have hj' : j < qs.length := by omega
        obtain ⟨T1, g1, e1⟩ := hps.2 i ps[i] (List.getElem?_eq_getElem hi')
        obtain ⟨T2, g2, e2⟩ := hqs.2 j qs[j] (List.getElem?_eq_getElem hj')
        have ed1 := drop_at (List.getElem?_eq_getElem hi')
        have ed2 := drop_at (List.getElem?_eq_getElem hj')
        revert e1 e2 ed1 ed2
        generalize ps[i] = p
        generalize qs[j] = r
        intro e1 e2 ed1 ed2
        have f1 := sm _ _ e1
        have f2 := sm _ _ e2
        rw [ed1, ed2, bothF] at hbo
        refine ⟨fun σ' H' => ∃ m', m' < (ps.length - i) + (qs.length - j) ∧ BothW H a b sh ps qs m' σ' H', fun σ' H' h => h, ?_⟩
        -- first, last
        refine ⟨_, rfl, _, rfl, a, us, i, .ref T1, rfl, rfl, ha1, atI_nat g1, T1, _, 0, .int p.1, rfl, rfl, .inl (.inl f1), atI_nat (j := 0) rfl, _, rfl, _, rfl, b, ws, j, .ref T2, rfl, rfl, hb1, atI_nat g2, T2, _, 0, .int r.1, rfl, rfl, .inl (.inl f2), atI_nat (j := 0) rfl, p.1, r.1, rfl, ?_⟩
        refine ⟨_, rfl, _, rfl, a, us, i, .ref T1, rfl, rfl, ha1, atI_nat g1, T1, _, 1, .int p.2, rfl, rfl, .inl (.inl f1), atI_nat (j := 1) rfl, _, rfl, _, rfl, b, ws, j, .ref T2, rfl, rfl, hb1, atI_nat g2, T2, _, 1, .int r.2, rfl, rfl, .inl (.inl f2), atI_nat (j := 1) rfl, p.2, r.2, rfl, ?_⟩
        refine ⟨fun σ' H2 => ∃ ms2 rs2, σ' = [some (.ref a), some (.ref b), some (.ref sh), some (.int i), some (.int j), some (.int (mxI p.1 r.1)), some (.int (mnI p.2 r.2))] ∧ Same H H2 ∧ H2 sh = some (.lst ms2) ∧ Prs H2 ms2 rs2 ∧ rs2.length ≤ i + j + 1 ∧
          rs2 ++ (if p.2 < r.2 then bothF (ps.drop (i + 1)) (r :: qs.drop (j + 1)) else bothF (p :: ps.drop (i + 1)) (qs.drop (j + 1))) = bothF ps qs, ?_, fun σ' H2 hM => ?_⟩
        · refine ⟨_, rfl, _, rfl, mxI p.1 r.1, mnI p.2 r.2, rfl, rfl, _, rfl, ite2 (fun c => ?_) (fun c => ?_)⟩
          · have c' := of_decide_eq_true c
            rw [if_pos c', ← List.append_assoc] at hbo
            refine ⟨_, rfl, .inl ⟨rfl, _, SqL.of esh⟩, _, rfl, _, rfl, (by show 2 ≤ sizeLine; decide), fun T nT => ?_⟩
            have sT := same_upd (o := .tup [.int (mxI p.1 r.1), .int (mnI p.2 r.2)]) nT
            refine ⟨sh, _, _, rfl, rfl, sT _ _ esh, small1000 (by have := hms.1; omega), ?_⟩
            refine ⟨_, _, rfl, fun b o e => ?_, upd_same, ((hms.same sT).snoc upd_same).upd_lst (sT _ _ esh), by rw [List.length_append]; exact Nat.add_le_add_right hrl 1, hbo⟩
            rw [upd_ne (ne_of_none e nsh)]
            exact sT _ _ (sm b o e)
          · have c' : ¬ mxI p.1 r.1 ≤ mnI p.2 r.2 := fun z => c (decide_eq_true z)
            rw [if_neg c', List.nil_append] at hbo
            exact ⟨ms, rs, rfl, sm, esh, hms, by omega, hbo⟩
        · obtain ⟨ms2, rs2, rfl, sm2, esh2, hms2, hl3, hb3⟩ := hM
          have ha2 := ha.same sm2
          have hb2 := hb.same sm2
          have f1' := sm2 _ _ e1
          have f2' := sm2 _ _ e2
          refine ⟨_, rfl, _, rfl, a, us, i, .ref T1, rfl, rfl, ha2, atI_nat g1, T1, _, 1, .int p.2, rfl, rfl, .inl (.inl f1'), atI_nat (j := 1) rfl, _, rfl, _, rfl, b, ws, j, .ref T2, rfl, rfl, hb2, atI_nat g2, T2, _, 1, .int r.2, rfl, rfl, .inl (.inl f2'), atI_nat (j := 1) rfl, p.2, r.2, rfl, rfl, _, rfl, ite2 (fun c => ?_) (fun c => ?_)⟩
          · have c' := of_decide_eq_true c
            rw [if_pos c', ← ed2] at hb3
            exact ⟨_, rfl, (i : Int), 1, rfl, rfl, _, by omega, i + 1, j, ms2, rs2, _, _, rfl, rfl, by omega, hj, sm2, esh2, hms2, by omega, hb3⟩
          · have c' : ¬ p.2 < r.2 := fun z => c (decide_eq_true z)
            rw [if_neg c', ← ed1] at hb3
            exact ⟨_, rfl, (j : Int), 1, rfl, rfl, _, by omega, i, j + 1, ms2, rs2, _, _, rfl, rfl, hi, by omega, sm2, esh2, hms2, by omega, hb3⟩
      · have c' : ¬ (j : Int) < ws.length := fun z => c2 (decide_eq_true z)
        refine ⟨_, rfl, fin ?_⟩
        rw [List.drop_eq_nil_of_le (by omega : qs.length ≤ j)]
        exact bothF_nil _
    · have c' : ¬ (i : Int) < us.length := fun z => c1 (decide_eq_true z)
      refine ⟨_, rfl, fin ?_⟩
      rw [List.drop_eq_nil_of_le (by omega : ps.length ≤ i), bothF]
end
/-- a walk over what stood before a list was begun -/
theorem for_seqS {K : PySem.W.Frag} {a : Addr} {xs : List V} {g : TG} {tb : TS} {D : Ends} {σ : L2.St} {H0 H1 : Hp} (hq : Sq K H0 a xs) (s1 : Same H0 H1) (Pv : Nat → L2.St → Hp → Prop) (h0 : Pv 0 σ H1)
    (hl : ∀ i σ H', Pv i σ H' → Same H0 H')
    (turn : ∀ i x σ H, xs[i]? = some x → Pv i σ H → g x σ H fun σ2 H2 => tb { D with nx := Pv (i + 1), ct := Pv (i + 1), bk := D.nx } σ2 H2) (fin : ∀ σ H, Pv xs.length σ H → D.nx σ H) :
    ((∃ xs, SqL K H1 a xs) ∧ ForR (Itl K a) g tb D σ H1) ∨ ((∃ xs, SqT K H1 a xs) ∧ ForR (Itt K a) g tb D σ H1) := by
  rcases hq with h | h
  · exact .inl ⟨⟨xs, s1.seq h⟩, for_list (xs := xs) Pv h0 (fun i σ H' _ p => (hl i σ H' p).seq h) turn fin⟩
  · exact .inr ⟨⟨xs, same_t s1 h⟩, for_tup (xs := xs) Pv h0 (fun i σ H' _ p => same_t (hl i σ H' p) h) turn fin⟩
/-! ### gaps_of -/
abbrev sGaps : Stmt := topS 4
theorem scGaps : FnScope ["some", "begin", "end", "gaps", "start", "first", "last"] ["some", "begin", "end"] (defScope sGaps) := ⟨rfl, rfl, rfl, by decide +kernel, rfl, by decide +kernel, by decide +kernel⟩
def spGaps (K : PySem.W.Frag) : Sp := fun vs H Q _ => ∃ (a : Addr) (qs : List (Int × Int)) (x y : Int), vs = [.ref a, .int x, .int y] ∧ PrA K H a qs ∧ (∃ lo, Ris lo qs) ∧ qs.length ≤ 800 ∧ TellS (fun n => (x ≤ n ∧ n ≤ y) ∧ ¬ InS qs n) (qs.length + 1) H Q
section
variable {K : PySem.W.Frag} {mg : Str → Option Value} {P : Program} {w : World} {base : Heap}
theorem ok_gaps {f : Addr} {fd : FuncData} (F : Fun K "gaps_of" "gaps_of" sGaps f fd) (CO : Cal P w K mg base 1 "set_of" ["pairs"] (spSetOf K)) (mx : mg "max" = none) (mn : mg "min" = none) : FnOk P w K mg base CX0 2 f fd ["some", "begin", "end"] (spGaps K) := by
  refine F.ok scGaps (fun vs H Q E h => ?_) (fun cdv A outer s H vs Q E hr h => ?_)
  · obtain ⟨a, qs, x, y, rfl, _⟩ := h
    rfl
  · obtain ⟨a, qs, x, y, rfl, ⟨ws, hb, hqs⟩, ⟨lo, hr2⟩, hz, q⟩ := h
    refine ⟨_, pss_cons (ps_set (i := 3) scGaps.nd rfl (.inl rfl) (pe_lst pa_nil))
      (pss_cons (ps_set (i := 4) scGaps.nd rfl (.inl rfl) (pv 1))
      (pss_cons (ps_for PassesOwn.never rfl (pi_seq (pv 0)) (pg_tup rfl (pgs_cons (pg_name (i := 5) scGaps.nd rfl (.inl rfl)) (pgs_cons (pg_name (i := 6) scGaps.nd rfl (.inl rfl)) pgs_nil)))
        (pss_cons (ps_expr (pe_bm PySem.F.plainAttrs_list PySem.F.slot_list_append PySem.F.type_list_append mt_append (pv 3) (pa_cons (pe_tup (pa_cons (pv 4) (pa_cons (pe_callB (call_min2 rfl) (by rfl) mn (by decide +kernel) (pa_cons (pe_op op_sub (pv 5) pe_int) (pa_cons (pv 2) pa_nil))) pa_nil))) pa_nil)))
        (pss_one (ps_set (i := 4) scGaps.nd rfl (.inl rfl) (pe_callB (call_max2 rfl) (by rfl) mx (by decide +kernel) (pa_cons (pv 4) (pa_cons (pe_op op_add (pv 6) pe_int) pa_nil)))))))
      (pss_cons (ps_expr (pe_bm PySem.F.plainAttrs_list PySem.F.slot_list_append PySem.F.type_list_append mt_append (pv 3) (pa_cons (pe_tup (pa_cons (pv 4) (pa_cons (pv 2) pa_nil))) pa_nil)))
      (pss_one (ps_ret (pe_own CO hr (by rfl) (pa_cons (pv 3) pa_nil))))))), ?_⟩
    refine ⟨Nat.zero_le _, fun g ng => ?_⟩
    have s0 := same_upd (o := .lst []) ng
    have hl2 := hqs.1
    refine ⟨_, rfl, .ref a, rfl, a, rfl, for_seqS (xs := ws) hb s0 (fun i σ H1 => ∃ (st : Int) (ms : List V) (rs : List (Int × Int)) (y5 y6 : Option V), σ = [some (.ref a), some (.int x), some (.int y), some (.ref g), some (.int st), y5, y6] ∧ Same H H1 ∧ H1 g = some (.lst ms) ∧ Prs H1 ms rs ∧ rs.length = i ∧ rs ++ gapsF y st (qs.drop i) = gapsF y x qs)
      ⟨x, [], [], none, none, rfl, s0, upd_same, Prs.nil, rfl, rfl⟩ (fun i σ H1 hP => ?_) (fun i v σ H1 hv hP => ?_) (fun σ H1 hP => ?_)⟩
    · obtain ⟨_, _, _, _, _, rfl, sm, _⟩ := hP
      exact sm
    · obtain ⟨st, ms, rs, y5, y6, rfl, sm, eg, hms, hrl, hgf⟩ := hP
      obtain ⟨p, T, ep, rfl, eT⟩ := prs_at hqs hv
      have eT1 := sm _ _ eT
      have hi : i < qs.length := (List.getElem?_eq_some_iff.mp ep).1
      rw [drop_at ep, gapsF] at hgf
      refine ⟨T, _, rfl, .inl (.inl eT1), rfl, _, _, rfl, _, _, rfl, rfl, ?_⟩
      refine ⟨_, rfl, .inl ⟨rfl, _, SqL.of eg⟩, _, rfl, _, rfl, p.1, 1, rfl, rfl, _, rfl, p.1 - 1, y, rfl, (by show 2 ≤ sizeLine; decide), fun T2 n2 => ?_⟩
      have sT := same_upd (o := .tup [.int st, .int (mnI (p.1 - 1) y)]) n2
      refine ⟨g, _, _, rfl, rfl, sT _ _ eg, small1000 (by have := hms.1; omega), ?_⟩
      refine ⟨_, rfl, _, rfl, p.2, 1, rfl, rfl, st, p.2 + 1, rfl, mxI st (p.2 + 1), _, rs ++ [(st, mnI (p.1 - 1) y)], _, _, rfl, fun b o e => ?_, upd_same, ((hms.same sT).snoc upd_same).upd_lst (sT _ _ eg), by rw [List.length_append, hrl]; rfl, by rw [List.append_assoc]; exact hgf⟩
      rw [upd_ne (ne_of_none e ng)]
      exact sT _ _ (sm b o e)
    · obtain ⟨st, ms, rs, y5, y6, rfl, sm, eg, hms, hrl, hgf⟩ := hP
      rw [hl2, List.drop_length, gapsF] at hgf
      refine ⟨_, rfl, .inl ⟨rfl, _, SqL.of eg⟩, _, rfl, _, rfl, (by show 2 ≤ sizeLine; decide), fun T2 n2 => ?_⟩
      have sT := same_upd (o := .tup [.int st, .int y]) n2
      refine ⟨g, _, _, rfl, rfl, sT _ _ eg, small1000 (by have := hms.1; omega), ?_⟩
      have hp : Prs (upd (upd H1 T2 (.tup [.int st, .int y])) g (.lst (ms ++ [.ref T2]))) (ms ++ [.ref T2]) (gapsF y x qs) := by
        rw [← hgf]
        exact ((hms.same sT).snoc upd_same).upd_lst (sT _ _ eg)
      have s3 : Same H (upd (upd H1 T2 (.tup [.int st, .int y])) g (.lst (ms ++ [.ref T2]))) := fun b o e => by
        rw [upd_ne (ne_of_none e ng)]
        exact sT _ _ (sm b o e)
      refine ⟨_, rfl, g, _, _, rfl, Sq.list upd_same, hp, by rw [gapsF_length]; omega, fun l2 w2 rs2 H2 nl2 e2 hrs hset s2 => ?_⟩
      exact q l2 rs2 H2 (s3.free nl2) ⟨_, e2, hrs⟩ (hset.told.cong fun n => gapsF_in hr2) (by have := hset.len; rwa [gapsF_length] at this) (s3.trans s2)
end
/-! ### without -/
theorem Ris.upto : ∀ {lo n : Int} {ps : List (Int × Int)} {p : Int × Int}, Ris lo (ps ++ [p]) → InS (ps ++ [p]) n → n ≤ p.2 := by
  intro lo n ps p h e
  obtain ⟨h1, h2, h3, h4⟩ := Ris.front h
  rcases inS_append.mp e with z | z
  · obtain ⟨q, hq, z1, z2⟩ := z
    have := h2 q hq
    omega
  · rcases inS_cons.mp z with y | y
    · exact y.2
    · exact absurd y inS_nil
abbrev sWithout : Stmt := topS 5
theorem scWithout : FnScope ["one", "other"] ["one", "other"] (defScope sWithout) := ⟨rfl, rfl, rfl, by decide +kernel, rfl, by decide +kernel, by decide +kernel⟩
def spWithout (K : PySem.W.Frag) : Sp := fun vs H Q _ => ∃ (a b : Addr) (ps qs : List (Int × Int)), vs = [.ref a, .ref b] ∧ PrA K H a ps ∧ PrA K H b qs ∧ (∃ lo, Ris lo ps) ∧ (∃ lo, Ris lo qs) ∧ ps.length + qs.length ≤ 800 ∧ TellS (fun n => InS ps n ∧ ¬ InS qs n) (ps.length + qs.length + 1) H Q
section
variable {K : PySem.W.Frag} {mg : Str → Option Value} {P : Program} {w : World} {base : Heap}
theorem ok_without {f : Addr} {fd : FuncData} (F : Fun K "without" "without" sWithout f fd) (CA : Cal P w K mg base 1 "both_of" ["one", "other"] (spBoth K)) (CG : Cal P w K mg base 2 "gaps_of" ["some", "begin", "end"] (spGaps K)) : FnOk P w K mg base CX0 3 f fd ["one", "other"] (spWithout K) := by
  refine F.ok scWithout (fun vs H Q E h => ?_) (fun cdv A outer s H vs Q E hr h => ?_)
  · obtain ⟨a, b, ps, qs, rfl, _⟩ := h
    rfl
  · obtain ⟨a, b, ps, qs, rfl, ⟨us, ha, hps⟩, hb, ⟨lo, hr1⟩, hr2, hz, q⟩ := h
    have hr1' := hr.mono (show 1 ≤ 2 by decide)
    refine ⟨_, pss_cons (ps_if (pt_not (pt_truth (pv 0) (by intro _; rfl))) (pss_one (ps_ret (pe_lst pa_nil))) pss_nil)
      (pss_one (ps_ret (pe_own CA hr1' (by rfl) (pa_cons (pv 0) (pa_cons (pe_own CG hr (by rfl) (pa_cons (pv 1) (pa_cons (pe_ix ix_tup (pe_ix ix_seq (pv 0) pe_int (fun _ _ => rfl)) pe_int (fun _ _ => rfl)) (pa_cons (pe_ix ix_tup (pe_ix ix_seq (pv 0) (pe_un un_neg pe_int) (fun _ _ => rfl)) pe_int (fun _ _ => rfl)) pa_nil)))) pa_nil))))), ?_⟩
    have tru : ∀ k, k = (!us.isEmpty) → TruV K (.ref a) H k := fun k e => ha.elim (fun h => .inl ⟨us, h, e⟩) fun h => .inr (.inl ⟨us, h, e⟩)
    rcases snoc_cases ps with e0 | ⟨ps', p, e0⟩
    · have e1 : us = [] := List.eq_nil_of_length_eq_zero (by rw [hps.1, e0]; rfl)
      subst e0 e1
      refine ⟨_, rfl, false, tru _ rfl, iteT ?_⟩
      refine ⟨Nat.zero_le _, fun l nl => ?_⟩
      exact q l [] _ nl (LsA.nil upd_same) ⟨⟨0, True.intro⟩, fun n => ⟨fun z => absurd z inS_nil, fun z => z.1⟩⟩ (Nat.zero_le _) (same_upd nl)
    · subst e0
      obtain ⟨us', T0, eus, eT0, hus'⟩ := hps.last
      have hne : us.isEmpty = false := by rw [eus]; simp
      refine ⟨_, rfl, true, tru _ (by rw [hne]; rfl), iteF ?_⟩
      obtain ⟨p0, ep0⟩ : ∃ p0, (ps' ++ [p])[0]? = some p0 := by
        cases ps' with
        | nil => exact ⟨p, rfl⟩
        | cons x r => exact ⟨x, rfl⟩
      obtain ⟨T, g0, eT⟩ := hps.2 0 p0 ep0
      have glast : atI us (-1) = some (.ref T0) := by rw [eus]; exact atI_last _ _
      refine ⟨_, rfl, _, rfl, _, rfl, a, us, 0, .ref T, rfl, rfl, ha, atI_nat (j := 0) g0, T, _, 0, .int p0.1, rfl, rfl, .inl (.inl eT), atI_nat (j := 0) rfl, _, rfl, 1, rfl, a, us, -1, .ref T0, rfl, rfl, ha, glast, T0, _, 1, .int p.2, rfl, rfl, .inl (.inl eT0), atI_nat (j := 1) rfl, ?_⟩
      refine ⟨b, qs, p0.1, p.2, rfl, hb, hr2, by omega, fun l1 rs1 H1 n1 hl1 ht1 hz1 s1 => ?_⟩
      refine ⟨a, l1, ps' ++ [p], rs1, rfl, (PrA.same ⟨us, ha, hps⟩ s1), hl1.pr, ⟨lo, hr1⟩, ht1.ris, by omega, fun l2 rs2 H2 n2 hl2 ht2 hz2 s2 => ?_⟩
      refine q l2 rs2 H2 (s1.free n2) hl2 (ht2.cong fun n => ?_) (by omega) (s1.trans s2)
      rw [ht1.same n]
      constructor
      · exact fun z => ⟨z.1, z.2.2⟩
      · intro z
        refine ⟨z.1, ⟨?_, Ris.upto hr1 z.1⟩, z.2⟩
        have r0 : Ris p0.1 (ps' ++ [p]) := by
          cases ps' with
          | nil =>
            cases ep0
            exact ⟨Int.le_refl _, hr1.2⟩
          | cons x r =>
            cases ep0
            exact ⟨Int.le_refl _, hr1.2⟩
        exact r0.low z.1
end

theorem Kp.free {H H' : Hp} {d c l : Addr} {t t' : Int} (k : Kp d c H H') (S' : StAt H' d c t') (n : H' l = none) : H l = none := by
  cases e : H l with
  | none => rfl
  | some o =>
    obtain ⟨cs1, ec1, _⟩ := S'.cells
    have z := k l o (ne_of_none S'.dict n).symm (ne_of_none ec1 n).symm e
    rw [n] at z
    cases z
theorem StAt.off {H : Hp} {d c l : Addr} {t : Int} (S : StAt H d c t) (n : H l = none) : l ≠ d ∧ l ≠ c := by
  obtain ⟨cs1, ec1, _⟩ := S.cells
  exact ⟨(ne_of_none S.dict n).symm, (ne_of_none ec1 n).symm⟩
theorem LsA.kp {H H' : Hp} {d c a : Addr} {t : Int} {ps : List (Int × Int)} (h : LsA H a ps) (S : StAt H d c t) (k : Kp d c H H') (n : a ≠ d ∧ a ≠ c) : LsA H' a ps := let ⟨us, e, p⟩ := h; ⟨us, k _ _ n.1 n.2 e, p.kp S k⟩
/-! ### another set near to one -/
abbrev sNear : Stmt := topS 11
theorem scNear : FnScope ["_law_state", "_law_some", "_law_found", "_law_least", "_law_first", "_law_last"] ["_law_state", "_law_some"] (defScope sNear) := ⟨rfl, rfl, rfl, by decide +kernel, rfl, by decide +kernel, by decide +kernel⟩
def spNear : Sp := fun vs H Q _ => ∃ (d c l : Addr) (t : Int) (ps : List (Int × Int)), vs = [.ref d, .ref l] ∧ StAt H d c t ∧ t + 700 < 2 ^ 60 ∧ LsA H l ps ∧ (l ≠ d ∧ l ≠ c) ∧ (∀ p ∈ ps, 0 ≤ p.2 ∧ p.2 < 10 ^ 33) ∧ ps.length ≤ 100 ∧
  ∀ (l' : Addr) (qs : List (Int × Int)) (t' : Int) H', H l' = none → LsA H' l' qs → Ris 0 qs → qs.length ≤ 24 → (∀ p ∈ qs, p.2 < 10 ^ 35) → t ≤ t' → t' ≤ t + 600 → StAt H' d c t' → Kp d c H H' → Q (.ref l') H'
/-- between two turns -/
def NearW (H : Hp) (d c l fo cu : Addr) (us : List V) (t : Int) (i : Nat) (σ : L2.St) (Hx : Hp) : Prop := ∃ (le t' : Int) (ms : List V) (rs : List (Int × Int)) (y4 y5 : Option V), σ = [some (.ref d), some (.ref l), some (.ref fo), some (.int le), y4, y5] ∧ 0 ≤ le ∧ le < 10 ^ 34 ∧ (∀ p ∈ rs, p.2 + 2 ≤ le) ∧ Hx fo = some (.lst ms) ∧ Prs Hx ms rs ∧
  Ris 0 rs ∧ rs.length ≤ i ∧ t ≤ t' ∧ t' ≤ t + 1 + 3 * i ∧ StAt Hx d c t' ∧ Kp d c H Hx ∧ Hx cu = some (.lst (us.take 23))
section
variable {K : PySem.W.Frag} {mg : Str → Option Value} {P : Program} {w : World} {base : Heap}
theorem ok_near {f : Addr} {fd : FuncData} (F : Fun K "_law_near" "_law_near" sNear f fd) (CT : Cal P w K mg base 1 "_law_take" ["_law_state", "_law_many"] spTake) (CS : Cal P w K mg base 3 "_law_set" ["_law_state"] spSet) :
    FnOk P w K mg base CX0 4 f fd ["_law_state", "_law_some"] spNear := by
  refine F.ok scNear (fun vs H Q E h => ?_) (fun cdv A outer s H vs Q E hr h => ?_)
  · obtain ⟨d, c, l, t, ps, rfl, _⟩ := h
    rfl
  · obtain ⟨d, c, l, t, ps, rfl, hS, ht, ⟨us, el, hps⟩, nl, hp0, hpl, q⟩ := h
    have hr1 := hr.mono (show 1 ≤ 3 by decide)
    refine ⟨_, pss_cons (ps_if (PW.pt (pw_or (pt_cmpR (op_eqD hr.units) (pv 1) (pe_lst pa_nil) (nomark _)) (pw_or1 (pt_cmpR op_eq (pe_own CT hr1 (by rfl) (pa_cons (pv 0) (pa_cons pe_int pa_nil))) pe_int (nomark _))))) (pss_one (ps_ret (pe_own CS hr (by rfl) (pa_cons (pv 0) pa_nil)))) pss_nil)
      (pss_cons (ps_par rfl scNear.nd (i := 2) (j := 3) rfl rfl (by decide) rfl rfl (pa_cons (pe_lst pa_nil) (pa_cons pe_int pa_nil)) (by rfl))
      (pss_cons (ps_for PassesOwn.never rfl (pi_list (pe_slice sl_list (pv 1) po_none (po_some pe_int))) (pg_tup rfl (pgs_cons (pg_name (i := 4) scNear.nd rfl (.inl rfl)) (pgs_cons (pg_name (i := 5) scNear.nd rfl (.inl rfl)) pgs_nil)))
        (pss_cons (ps_par rfl scNear.nd (i := 4) (j := 5) rfl rfl (by decide) rfl rfl (pa_cons (pe_op op_sub (pe_op op_add (pv 4) (pe_own CT hr1 (by rfl) (pa_cons (pv 0) (pa_cons pe_int pa_nil)))) pe_int) (pa_cons (pe_op op_sub (pe_op op_add (pv 5) (pe_own CT hr1 (by rfl) (pa_cons (pv 0) (pa_cons pe_int pa_nil)))) pe_int) pa_nil)) (by rfl))
        (pss_one (ps_if (PW.pt (pw_and (pt_cmpR op_ge (pv 4) (pv 3) (nomark _)) (pw_and (pt_cmpR op_ge (pv 5) (pv 4) (nomark _)) (pw_and1 (pt_cmpR op_gt (pe_own CT hr1 (by rfl) (pa_cons (pv 0) (pa_cons pe_int pa_nil))) pe_int (nomark _))))))
          (pss_cons (ps_expr (pe_bm PySem.F.plainAttrs_list PySem.F.slot_list_append PySem.F.type_list_append mt_append (pv 2) (pa_cons (pe_tup (pa_cons (pv 4) (pa_cons (pv 5) pa_nil))) pa_nil)))
          (pss_one (ps_set (i := 3) scNear.nd rfl (.inl rfl) (pe_op op_add (pv 5) pe_int)))) pss_nil))))
      (pss_one (ps_ret (pe_op op_cat (pv 2) (pe_op op_rep (pe_lst (pa_cons (pe_tup (pa_cons (pe_op op_add (pv 3) (pe_ix ix_tup (pe_ix ix_list (pv 1) (pe_un un_neg pe_int) (fun _ _ => rfl)) pe_int (fun _ _ => rfl))) (pa_cons (pe_op op_add (pe_op op_add (pv 3) (pe_ix ix_tup (pe_ix ix_list (pv 1) (pe_un un_neg pe_int) (fun _ _ => rfl)) pe_int (fun _ _ => rfl))) pe_int) pa_nil))) pa_nil)) (pe_own CT hr1 (by rfl) (pa_cons (pv 0) (pa_cons pe_int pa_nil))))))))), ?_⟩
    -- any set
    have any : ∀ (H1 : Hp) (t1 : Int), t ≤ t1 → t1 ≤ t + 1 → StAt H1 d c t1 → Kp d c H H1 → ∀ y2 y3 y4 y5 : Option V, (tRet (tCall spSet [] E0 (tCons (tVar 0) tNil))) { nx := fun _ H' => Q .non H', rt := Q } [some (.ref d), some (.ref l), y2, y3, y4, y5] H1 := by
      intro H1 t1 h1 h2 S1 k1 y2 y3 y4 y5
      refine ⟨_, rfl, d, c, t1, rfl, S1, by omega, fun l2 us2 ps2 t2 H2 n2 e2 hp2 hr2 hl2 hz2 ha hb S2 k2 => ?_⟩
      exact q l2 ps2 t2 H2 (Kp.free (t := t) k1 S1 n2) ⟨us2, e2, hp2⟩ hr2 hl2 (fun p hp => Int.lt_trans (hz2 p hp) (by decide)) (by omega) (by omega) S2 (k1.trans k2)
    refine ⟨_, rfl, Nat.zero_le _, fun z nz => ?_⟩
    have sz := same_upd (o := .lst []) nz
    refine ⟨_, _, .lst (SqL.of (sz _ _ el)) (dp_prs (hps.same sz)), .lst (SqL.of upd_same) .nil, shaped_prs ps, shaped_ints [], ?_⟩
    rw [eqv_pr_nil]
    refine ⟨_, rfl, ite2 (fun e0 => ?_) (fun e0 => ?_)⟩
    · exact iteT (any _ t (by omega) (by omega) (hS.same sz) (Kp.same d c sz) _ _ _ _)
    · refine ⟨_, rfl, d, c, t, 3, rfl, hS.same sz, by omega, by decide, by decide, fun r1 H1 r10 r11 hS1 k1' => ?_⟩
      have k1 : Kp d c H H1 := (Kp.same d c sz).trans k1'
      have el1 := k1 l _ nl.1 nl.2 el
      have hps1 := hps.kp hS k1
      refine ⟨rfl, _, rfl, ite2 (fun _ => ?_) (fun _ => ?_)⟩
      · exact any H1 (t + 1) (by omega) (by omega) hS1 k1 _ _ _ _
      · -- found, least
        refine ⟨Nat.zero_le _, fun fo nfo => ?_⟩
        have sf := same_upd (o := .lst []) nfo
        refine ⟨_, _, rfl, ?_⟩
        -- some[:23]
        refine ⟨_, rfl, 23, rfl, l, us, rfl, SqL.of (sf _ _ el1), fun cu ncu => ?_⟩
        have sc := same_upd (o := .lst (cutV us none (some 23))) ncu
        have ecut : cutV us none (some 23) = us.take 23 := cut_front us 23
        have ecu : upd (upd H1 fo (.lst [])) cu (.lst (cutV us none (some 23))) cu = some (.lst (us.take 23)) := by rw [upd_same, ecut]
        have efo := sc _ _ (upd_same (H := H1) (a := fo) (o := .lst []))
        have k2 : Kp d c H (upd (upd H1 fo (.lst [])) cu (.lst (cutV us none (some 23)))) := k1.trans (Kp.same d c (sf.trans sc))
        have hS2 := (hS1.same sf).same sc
        have ncf : cu ≠ fo := (ne_of_none (upd_same (H := H1) (a := fo) (o := .lst [])) ncu).symm
        have nfH : H fo = none := Kp.free (t := t) k1 hS1 nfo
        have offf := hS1.off nfo
        have offc := (hS1.same sf).off ncu
        revert ecu efo k2 hS2
        generalize upd (upd H1 fo (.lst [])) cu (.lst (cutV us none (some 23))) = H2
        intro ecu efo k2 hS2
        have hut : (us.take 23).length ≤ 23 := by rw [List.length_take]; omega
        refine ⟨cu, rfl, ⟨_, SqL.of ecu⟩, for_list (xs := us.take 23) (NearW H d c l fo cu us t)
          ⟨0, t + 1, [], [], none, none, rfl, by decide, by decide, (fun _ h => nomatch h), efo, Prs.nil, True.intro, Nat.le_refl _, by omega, by omega, hS2, k2, ecu⟩ (fun i σ Hx _ hP => ?_) (fun i x σ Hx hx hP => ?_) (fun σ Hx hP => ?_)⟩
        · obtain ⟨_, _, _, _, _, _, rfl, _, _, _, _, _, _, _, _, _, _, _, e⟩ := hP
          exact SqL.of e
        · obtain ⟨le, t', ms, rs, y4, y5, rfl, le0, leb, hle, ef, hms, hris, hrl, t1, t2, hSx, kx, ec⟩ := hP
          have hi : i < 23 := Nat.lt_of_lt_of_le (List.getElem?_eq_some_iff.mp hx).1 hut
          have hx' : us[i]? = some x := by rw [List.getElem?_take, if_pos hi] at hx; exact hx
          obtain ⟨p, T, ep, rfl, eT⟩ := prs_at (hps.kp hS kx) hx'
          refine ⟨T, _, rfl, .inl (.inl eT), rfl, _, _, rfl, _, _, rfl, rfl, ?_⟩
          refine ⟨_, rfl, _, rfl, d, c, t', 3, rfl, hSx, by omega, by decide, by decide, fun a1 H3 a10 a11 hS3 k3 => ⟨p.1, a1, rfl, rfl, _, 1, rfl, rfl, ?_⟩⟩
          refine ⟨_, rfl, _, rfl, d, c, t' + 1, 3, rfl, hS3, by omega, by decide, by decide, fun a2 H4 a20 a21 hS4 k4 => ⟨p.2, a2, rfl, rfl, _, 1, rfl, rfl, ?_⟩⟩
          refine ⟨_, _, rfl, ?_⟩
          have kx4 : Kp d c Hx H4 := k3.trans k4
          -- unchanged but for the state
          have keep : ∀ (H5 : Hp) (t5 : Int) (z4 z5 : Option V), t' ≤ t5 → t5 ≤ t' + 3 → StAt H5 d c t5 → Kp d c Hx H5 → NearW H d c l fo cu us t (i + 1) [some (.ref d), some (.ref l), some (.ref fo), some (.int le), z4, z5] H5 := by
            intro H5 t5 z4 z5 h1 h2 S5 k5
            exact ⟨le, t5, ms, rs, z4, z5, rfl, le0, leb, hle, k5 _ _ offf.1 offf.2 ef, hms.kp hSx k5, hris, by omega, by omega, by omega, S5, kx.trans k5, k5 _ _ offc.1 offc.2 ec⟩
          refine ⟨_, rfl, _, rfl, p.1 + a1 - 1, le, rfl, rfl, _, rfl, ite2 (fun c1 => ?_) (fun c1 => iteF (keep H4 (t' + 1 + 1) _ _ (by omega) (by omega) hS4 kx4))⟩
          have c1' := of_decide_eq_true c1
          refine ⟨_, rfl, _, rfl, p.2 + a2 - 1, p.1 + a1 - 1, rfl, rfl, _, rfl, ite2 (fun c2 => ?_) (fun c2 => iteF (keep H4 (t' + 1 + 1) _ _ (by omega) (by omega) hS4 kx4))⟩
          have c2' := of_decide_eq_true c2
          refine ⟨_, rfl, d, c, t' + 1 + 1, 4, rfl, hS4, by omega, by decide, by decide, fun a3 H5 a30 a31 hS5 k5 => ?_⟩
          have kx5 : Kp d c Hx H5 := kx4.trans k5
          refine ⟨a3, 0, rfl, rfl, _, rfl, ite2 (fun c3 => ?_) (fun c3 => keep H5 (t' + 1 + 1 + 1) _ _ (by omega) (by omega) hS5 kx5)⟩
          have ef5 := kx5 _ _ offf.1 offf.2 ef
          have hms5 := hms.kp hSx kx5
          refine ⟨_, rfl, .inl ⟨rfl, _, SqL.of ef5⟩, _, rfl, _, rfl, (by show 2 ≤ sizeLine; decide), fun T2 n2 => ?_⟩
          have sT := same_upd (o := .tup [.int (p.1 + a1 - 1), .int (p.2 + a2 - 1)]) n2
          have ef6 := sT _ _ ef5
          refine ⟨fo, _, _, rfl, rfl, ef6, small1000 (by have := hms.1; omega), ?_⟩
          have ec5 := sT _ _ (kx5 _ _ offc.1 offc.2 ec)
          refine ⟨_, rfl, p.2 + a2 - 1, 2, rfl, rfl, p.2 + a2 - 1 + 2, t' + 1 + 1 + 1, ms ++ [.ref T2], rs ++ [(p.1 + a1 - 1, p.2 + a2 - 1)], _, _, rfl, by omega, by have := (hp0 p (List.mem_of_getElem? ep)).2; omega, fun r hr' => ?_, upd_same, ((hms5.same sT).snoc upd_same).upd_lst ef6, hris.snoc (by omega) (fun r hr' => by have := hle r hr'; omega) (by omega), by rw [List.length_append]; exact Nat.add_le_add_right hrl 1, by omega, by omega, (hS5.same sT).upd offf.1 offf.2, fun b o b1 b2 e => ?_, by rw [upd_ne ncf]; exact ec5⟩
          · rcases List.mem_append.mp hr' with y | y
            · have := hle r y
              omega
            · rw [List.mem_singleton.mp y]
              exact Int.le_refl _
          · rw [upd_ne (ne_of_none e nfH)]
            exact sT _ _ (kx5 b o b1 b2 (kx b o b1 b2 e))
        · obtain ⟨le, t', ms, rs, y4, y5, rfl, le0, leb, hle, ef, hms, hris, hrl, t1, t2, hSx, kx, ec⟩ := hP
          have hrl' : rs.length ≤ 23 := Nat.le_trans hrl hut
          have ht2 : t' ≤ t + 1 + 3 * 23 := by have : ((us.take 23).length : Int) ≤ 23 := by omega
                                               omega
          have elx := kx l _ nl.1 nl.2 el
          have hpsx := hps.kp hS kx
          rcases snoc_cases ps with z0 | ⟨ps', p, z0⟩
          · rw [z0] at e0
            exact absurd rfl e0
          subst z0
          obtain ⟨us', T0, eus, eT0, hus'⟩ := hpsx.last
          have glast : atI us (-1) = some (.ref T0) := by rw [eus]; exact atI_last _ _
          obtain ⟨hp2, hp3⟩ := hp0 p (List.mem_append_right _ (List.mem_singleton.mpr rfl))
          refine ⟨_, rfl, _, rfl, _, rfl, 1, rfl, l, us, -1, .ref T0, rfl, rfl, SqL.of elx, glast, T0, _, 1, .int p.2, rfl, rfl, .inl (.inl eT0), atI_nat (j := 1) rfl, le, p.2, rfl, rfl, ?_⟩
          refine ⟨_, rfl, _, rfl, 1, rfl, l, us, -1, .ref T0, rfl, rfl, SqL.of elx, glast, T0, _, 1, .int p.2, rfl, rfl, .inl (.inl eT0), atI_nat (j := 1) rfl, le, p.2, rfl, rfl, le + p.2, 3, rfl, rfl, (by show 2 ≤ sizeLine; decide), fun T nT => ?_⟩
          have sT := same_upd (o := .tup [.int (le + p.2), .int (le + p.2 + 3)]) nT
          refine ⟨(by show 1 ≤ sizeLine; decide), fun z nz => ?_⟩
          have sz := same_upd (o := .lst [.ref T]) nz
          have sTz := sT.trans sz
          have offz := ((hSx.same sT).off nz)
          have offT := hSx.off nT
          refine ⟨_, rfl, d, c, t', 2, rfl, hSx.same sTz, by omega, by decide, by decide, fun r2 H6 r20 r21 hS6 k6 => ?_⟩
          have ez : H6 z = some (.lst [.ref T]) := k6 _ _ offz.1 offz.2 upd_same
          have eT6 : H6 T = some (.tup [.int (le + p.2), .int (le + p.2 + 3)]) := k6 _ _ offT.1 offT.2 (sz _ _ upd_same)
          have ef6 : H6 fo = some (.lst ms) := k6 _ _ offf.1 offf.2 (sTz _ _ ef)
          have kx6 : Kp d c Hx H6 := (Kp.same d c sTz).trans k6
          refine ⟨z, r2, _, rfl, rfl, ez, by omega, by omega, ?_, fun g ng => ?_⟩
          · have : r2.toNat ≤ 1 := by omega
            exact Nat.le_trans (Nat.mul_le_mul (Nat.le_refl 1) this) (by decide)
          have sg := same_upd (o := .lst (List.replicate r2.toNat [V.ref T]).flatten) ng
          have hpg : Prs (upd H6 g (.lst (List.replicate r2.toNat [V.ref T]).flatten)) (List.replicate r2.toNat [V.ref T]).flatten (List.replicate r2.toNat [(le + p.2, le + p.2 + 3)]).flatten ∧ ((List.replicate r2.toNat [(le + p.2, le + p.2 + 3)]).flatten = [] ∨ (List.replicate r2.toNat [(le + p.2, le + p.2 + 3)]).flatten = [(le + p.2, le + p.2 + 3)]) := by
            have : r2 = 0 ∨ r2 = 1 := by omega
            rcases this with rfl | rfl
            · exact ⟨Prs.nil, .inl rfl⟩
            · exact ⟨Prs.snoc (a := T) Prs.nil (sg _ _ eT6), .inr rfl⟩
          revert hpg
          generalize (List.replicate r2.toNat [(le + p.2, le + p.2 + 3)]).flatten = gs
          generalize (List.replicate r2.toNat [V.ref T]).flatten = gv at sg ⊢
          intro hpg
          obtain ⟨hpg, hgs⟩ := hpg
          have hgl : gs.length ≤ 1 := by rcases hgs with e | e <;> rw [e] <;> simp
          refine ⟨fo, g, _, _, rfl, rfl, sg _ _ ef6, upd_same, Nat.le_of_lt (small1000 (by have := hms.1; have := hpg.1; omega)), fun g2 ng2 => ?_⟩
          have sg2 := same_upd (o := .lst (ms ++ gv)) ng2
          have k7 : Kp d c H (upd (upd H6 g (.lst gv)) g2 (.lst (ms ++ gv))) := (kx.trans kx6).trans (Kp.same d c (sg.trans sg2))
          have hS7 := (hS6.same sg).same sg2
          refine q g2 (rs ++ gs) (t' + 1) _ ?_ ⟨_, upd_same, (((hms.kp hSx kx6).same sg).append hpg).same sg2⟩ ?_ ?_ ?_ (by omega) (by omega) hS7 k7
          · exact Kp.free (t := t) (kx.trans (kx6.trans (Kp.same d c sg))) (hS6.same sg) ng2
          · rcases hgs with e | e
            · rw [e, List.append_nil]; exact hris
            · rw [e]
              exact hris.snoc (by omega) (fun r hr' => by have := hle r hr'; omega) (by omega)
          · rw [List.length_append]
            omega
          · intro r hr'
            rcases List.mem_append.mp hr' with y | y
            · have := hle r y
              omega
            · rcases hgs with e | e
              · rw [e] at y; exact nomatch y
              · rw [e] at y
                rw [List.mem_singleton.mp y]
                show le + p.2 + 3 < 10 ^ 35
                omega
end

abbrev sIsSet : Stmt := topS 13
theorem scIsSet : FnScope ["_law_thing", "_law_pair", "_law_one", "_law_other"] ["_law_thing"] (defScope sIsSet) := ⟨rfl, rfl, rfl, by decide +kernel, rfl, by decide +kernel, by decide +kernel⟩
def spIsSet : Sp := fun vs H Q _ => ∃ (l : Addr) (us : List V) (rs : List (Int × Int)), vs = [.ref l] ∧ H l = some (.lst us) ∧ Prs H us rs ∧ Ris 0 rs ∧ rs.length ≤ 900 ∧ ∀ H', Same H H' → Q (.bl true) H'
theorem all_true (n : Nat) : (List.replicate n true).all id = true := by
  rw [List.all_eq_true]
  intro b hb
  exact (List.mem_replicate.mp hb).2
theorem Ris.gap : ∀ {lo : Int} {rs : List (Int × Int)} {i : Nat} {p q : Int × Int}, Ris lo rs → rs[i]? = some p → rs[i + 1]? = some q → p.2 + 1 < q.1
  | _, [], _, _, _, _, e, _ => nomatch e
  | _, [_], 0, _, _, _, _, e => nomatch e
  | lo, a :: b :: r, 0, p, q, h, e1, e2 => by
    cases e1
    cases e2
    have := h.2.2.1
    omega
  | lo, a :: r, i + 1, p, q, h, e1, e2 => Ris.gap (i := i) h.2.2 e1 e2
section
variable {K : PySem.W.Frag} {mg : Str → Option Value} {P : Program} {w : World} {base : Heap}
theorem ok_isset {f : Addr} {fd : FuncData} {k : Nat} (F : Fun K "_law_is_set" "_law_is_set" sIsSet f fd) (mi : mg "isinstance" = none) (ml : mg "list" = none) (mt : mg "tuple" = none) (mn : mg "int" = none) (mb : mg "bool" = none) (me : mg "len" = none) (ma : mg "all" = none) (mz : mg "zip" = none) :
    FnOk P w K mg base CX0 (k + 1) f fd ["_law_thing"] spIsSet := by
  refine F.ok scIsSet (fun vs H Q E h => ?_) (fun cdv A outer s H vs Q E hr h => ?_)
  · obtain ⟨l, us, rs, rfl, _⟩ := h
    rfl
  · obtain ⟨l, us, rs, rfl, hl, hp, hris, hlen, q⟩ := h
    refine ⟨_, pss_cons (ps_if (pt_not (pt_val (pe_callB call_isi (by rfl) mi (by decide +kernel) (pa_cons (pv 0) (pa_cons (pe_bltn (v := .ty "list") (by rfl) ml (by decide +kernel) rfl) pa_nil))))) (pss_one (ps_ret pe_bl)) pss_nil)
      (pss_cons (ps_for PassesOwn.never rfl (pi_list (pv 0)) (pg_name (i := 1) scIsSet.nd rfl (.inl rfl))
        (pss_cons (ps_if (PW.pt (pw_or (pt_not (pt_val (pe_callB call_isi (by rfl) mi (by decide +kernel) (pa_cons (pv 1) (pa_cons (pe_bltn (v := .ty "tuple") (by rfl) mt (by decide +kernel) rfl) pa_nil))))) (pw_or1 (pt_cmpR op_ne (pe_callB call_len_seq (by rfl) me PySem.boot_len (pa_cons (pv 1) pa_nil)) pe_int (nomark _))))) (pss_one (ps_ret pe_bl)) pss_nil)
        (pss_cons (ps_if (pt_not (pt_val (pe_callB (cr_all rfl) (by rfl) ma (by decide +kernel) (pa_cons (pe_lc (own := [("_law_one", 2)]) (g := gName 2) (tt := tYes) (te := tAndV (tCB (rIsi K) (tCons (tVar 2) (tCons (tC (.ty "int")) tNil))) (tAndV (tNotV (tCB (rIsi K) (tCons (tVar 2) (tCons (tC (.ty "bool")) tNil)))) (tOp (rI0 fun i j => .bl (decide (j ≤ i))) (tVar 2) (tC (.int 0))))) rfl scIsSet.nd (pi_tup (pv 1))
              (blkOk_by (own := [("_law_one", 2)]) (N := ["_law_thing", "_law_pair", "_law_one", "_law_other"]) (sc := defScope sIsSet) (by decide +kernel)) (fun _ _ _ _ _ => pg_name (i := 2) scIsSet.nd rfl (.inl rfl)) (fun _ _ _ _ _ => pts_nil)
              (fun _ _ _ _ _ => pe_and (pe_callB call_isi (by rfl) mi (by decide +kernel) (pa_cons (pv 2) (pa_cons (pe_bltn (v := .ty "int") (by rfl) mn (by decide +kernel) rfl) pa_nil))) (pe_and (pe_not (pe_callB call_isi (by rfl) mi (by decide +kernel) (pa_cons (pv 2) (pa_cons (pe_bltn (v := .ty "bool") (by rfl) mb (by decide +kernel) rfl) pa_nil)))) (pe_one (pe_cmpR op_ge (pv 2) pe_int (nomark _)))))) pa_nil)))) (pss_one (ps_ret pe_bl)) pss_nil)
        (pss_one (ps_if (pt_cmpR op_gt (pe_ix ix_tup (pv 1) pe_int (fun _ _ => rfl)) (pe_ix ix_tup (pv 1) pe_int (fun _ _ => rfl)) (nomark _)) (pss_one (ps_ret pe_bl)) pss_nil)))))
      (pss_one (ps_ret (pe_callB (cr_all rfl) (by rfl) ma (by decide +kernel) (pa_cons (pe_lc (own := [("_law_one", 2), ("_law_other", 3)]) (g := gTup K 2 (gCons (gName 2) (gCons (gName 3) gNil))) (tt := tYes) (te := tOp (rI0 fun i j => .bl (decide (i < j))) (tOp (rI0 fun i j => .int (i + j)) (tOp (rIxT K) (tVar 2) (tC (.int 1))) (tC (.int 1))) (tOp (rIxT K) (tVar 3) (tC (.int 0)))) rfl scIsSet.nd (pi_zip (by rfl) mz (pa_cons (pv 0) (pa_cons (pe_slice sl_list (pv 0) (po_some pe_int) po_none) pa_nil)))
          (blkOk_by (own := [("_law_one", 2), ("_law_other", 3)]) (N := ["_law_thing", "_law_pair", "_law_one", "_law_other"]) (sc := defScope sIsSet) (by decide +kernel)) (fun _ _ _ _ _ => pg_tup rfl (pgs_cons (pg_name (i := 2) scIsSet.nd rfl (.inl rfl)) (pgs_cons (pg_name (i := 3) scIsSet.nd rfl (.inl rfl)) pgs_nil))) (fun _ _ _ _ _ => pts_nil)
          (fun _ _ _ _ _ => pe_cmpR op_lt (pe_op op_add (pe_ix ix_tup (pv 2) pe_int (fun _ _ => rfl)) pe_int) (pe_ix ix_tup (pv 3) pe_int (fun _ _ => rfl)) (nomark _))) pa_nil))))), ?_⟩
    refine ⟨_, rfl, _, _, .type "list", .type "list", true, rfl, .ty _, .base (.lst hl), kit_ty (by decide +kernel), _, rfl, iteF ?_⟩
    refine ⟨.ref l, rfl, l, rfl, ⟨_, SqL.of hl⟩, for_list (xs := us) (fun i σ H1 => ∃ (y1 y2 y3 : Option V), σ = [some (.ref l), y1, y2, y3] ∧ Same H H1) ⟨_, _, _, rfl, Same.refl H⟩ (fun i σ H1 _ hP => ?_) (fun i x σ H1 hx hP => ?_) (fun σ H1 hP => ?_)⟩
    · obtain ⟨_, _, _, rfl, sm⟩ := hP
      exact SqL.of (sm _ _ hl)
    · obtain ⟨y1, y2, y3, rfl, sm⟩ := hP
      obtain ⟨p, T, ep, rfl, eT0⟩ := prs_at hp hx
      have eT := sm _ _ eT0
      have hle := hris.le p (List.mem_of_getElem? ep)
      refine ⟨_, rfl, _, _, .type "tuple", .type "tuple", true, rfl, .ty _, .base (.tup eT), kit_ty (by decide +kernel), _, rfl, iteF ?_⟩
      refine ⟨_, rfl, T, _, rfl, .inr (.inl (.inl eT)), rfl, _, rfl, iteF ?_⟩
      refine ⟨_, rfl, T, rfl, ⟨_, .inl (.inl eT)⟩, fun D nD => lc_tup (xs := [.int p.1, .int p.2]) (fun j H' => Same H1 H' ∧ H' D = some (.lst ((List.replicate j true).map V.bl))) ⟨same_upd nD, upd_same⟩ (fun j H' _ hP => .inl (.inl (hP.1 _ _ eT))) (fun j x H' hx hP => ?_) (fun H2 hP => ?_)⟩
      · obtain ⟨sm', eD⟩ := hP
        have hj : j < 2 := (List.getElem?_eq_some_iff.mp hx).1
        obtain ⟨v, rfl, v0⟩ : ∃ v : Int, x = .int v ∧ 0 ≤ v := by
          have : j = 0 ∨ j = 1 := by omega
          rcases this with rfl | rfl
          · exact ⟨p.1, (Option.some.inj hx).symm, hle.1⟩
          · exact ⟨p.2, (Option.some.inj hx).symm, by omega⟩
        refine ⟨rfl, _, rfl, _, _, .type "int", .type "int", true, rfl, .ty _, .base (.int v), kit_ty (by decide +kernel), _, rfl, iteT ?_⟩
        refine ⟨_, rfl, _, _, .type "int", .type "bool", false, rfl, .ty _, .base (.int v), kit_ty (by decide +kernel), _, rfl, _, rfl, iteT ?_⟩
        refine ⟨_, rfl, v, 0, rfl, rfl, ?_⟩
        dsimp only
        rw [decide_eq_true v0]
        refine ⟨_, eD, small1000 ?_, fun b o e => ?_, ?_⟩
        · rw [List.length_map, List.length_replicate]
          omega
        · rw [upd_ne (ne_of_none e nD)]
          exact sm' b o e
        · rw [upd_same, List.replicate_succ', List.map_append]
          rfl
      · obtain ⟨sm', eD⟩ := hP
        refine ⟨D, List.replicate 2 true, rfl, SqL.of eD, _, rfl, ?_⟩
        rw [all_true]
        refine iteF ?_
        have eT2 := sm' _ _ eT
        refine ⟨_, rfl, T, _, 0, .int p.1, rfl, rfl, .inl (.inl eT2), atI_nat (j := 0) rfl, _, rfl, T, _, 1, .int p.2, rfl, rfl, .inl (.inl eT2), atI_nat (j := 1) rfl, p.1, p.2, rfl, rfl, _, rfl, ?_⟩
        dsimp only
        rw [decide_eq_false (show ¬ p.2 < p.1 by omega)]
        exact iteF ⟨_, _, _, rfl, sm.trans sm'⟩
    · obtain ⟨y1, y2, y3, rfl, sm⟩ := hP
      refine ⟨.ref l, rfl, .ref l, rfl, 1, rfl, l, us, rfl, SqL.of (sm _ _ hl), fun c nc => ?_⟩
      have sc' := same_upd (o := .lst (cutV us (some 1) none)) nc
      have ecut : cutV us (some 1) none = us.drop 1 := by
        unfold cutV
        rw [show HT.sIx us.length 0 (some 1) = min 1 us.length from HT.sIx_nat us.length 0 1, HT.sIx_none]
        cases us with
        | nil => rfl
        | cons x r =>
          rw [show min 1 (x :: r).length = 1 by rw [List.length_cons]; omega]
          show List.take ((x :: r).length - 1) r = r
          rw [List.length_cons, Nat.add_sub_cancel]
          exact List.take_length
      have ec : upd H1 c (.lst (cutV us (some 1) none)) c = some (.lst (us.drop 1)) := by rw [upd_same, ecut]
      have s2 := sm.trans sc'
      revert ec s2
      generalize upd H1 c (.lst (cutV us (some 1) none)) = H2
      intro ec s2
      refine ⟨l, c, us, us.drop 1, rfl, SqL.of (s2 _ _ hl), SqL.of ec, fun D nD => lc_it (walk_zip (K := K) (a := l) (b := c) (xs := us) (ys := us.drop 1) (n := us.length - 1) (by rw [List.length_drop]; omega)) (fun j H' => Same H2 H' ∧ H' D = some (.lst ((List.replicate j true).map V.bl))) ⟨same_upd nD, upd_same⟩
        (fun j H' _ hP => ⟨SqL.of (hP.1 _ _ (s2 _ _ hl)), SqL.of (hP.1 _ _ ec)⟩) (fun j x H' H'' hj hP hy => ?_) (fun H3 hP => ?_)⟩
      · obtain ⟨sm', eD⟩ := hP
        obtain ⟨T, x1, x2, rfl, nT, rfl, f1, f2⟩ := hy
        have f2' : us[j + 1]? = some x2 := by
          have z : (us.drop 1)[j]? = some x2 := f2
          rw [List.getElem?_drop, Nat.add_comm] at z
          exact z
        obtain ⟨p1, T1, ep1, rfl, eT1⟩ := prs_at hp f1
        obtain ⟨p2, T2, ep2, rfl, eT2⟩ := prs_at hp f2'
        have st := same_upd (o := .tup [.ref T1, .ref T2]) nT
        have g1 := st _ _ (sm' _ _ (s2 _ _ eT1))
        have g2 := st _ _ (sm' _ _ (s2 _ _ eT2))
        refine ⟨T, _, rfl, .inl (.inl upd_same), rfl, _, _, rfl, _, _, rfl, rfl, rfl, ?_⟩
        refine ⟨_, rfl, T1, _, 1, .int p1.2, rfl, rfl, .inl (.inl g1), atI_nat (j := 1) rfl, p1.2, 1, rfl, rfl, _, rfl, T2, _, 0, .int p2.1, rfl, rfl, .inl (.inl g2), atI_nat (j := 0) rfl, _, p2.1, rfl, rfl, ?_⟩
        dsimp only
        rw [decide_eq_true (hris.gap ep1 ep2)]
        refine ⟨_, st _ _ eD, small1000 ?_, fun b o e => ?_, ?_⟩
        · rw [List.length_map, List.length_replicate]
          have := hp.1
          omega
        · rw [upd_ne (ne_of_none e nD)]
          exact st _ _ (sm' b o e)
        · rw [upd_same, List.replicate_succ', List.map_append]
          rfl
      · obtain ⟨sm', eD⟩ := hP
        refine ⟨D, List.replicate (us.length - 1) true, rfl, SqL.of eD, ?_⟩
        rw [all_true]
        exact q _ (s2.trans sm')
end

/-- all keys are whole numbers, at most b of them -/
def KInt (kvs : List (Key × V)) (b : Nat) : Prop := ∃ ks : List Int, kvs.map (·.1) = ks.map Sum.inl ∧ ks.length ≤ b
theorem KInt.mono {kvs : List (Key × V)} {b b' : Nat} (h : KInt kvs b) (hb : b ≤ b') : KInt kvs b' := let ⟨ks, e, l⟩ := h; ⟨ks, e, Nat.le_trans l hb⟩
theorem KInt.put {kvs : List (Key × V)} {b : Nat} (h : KInt kvs b) (k : Int) (v : V) : KInt (putK kvs (.inl k) v) (b + 1) := by
  obtain ⟨ks, e, l⟩ := h
  unfold putK
  by_cases c : (kvs.any fun kv => decide (kv.1 = Sum.inl k)) = true
  · rw [if_pos c]
    refine ⟨ks, ?_, by omega⟩
    rw [List.map_map, ← e]
    refine List.map_congr_left fun kv _ => ?_
    show (if kv.1 = Sum.inl k then (kv.1, v) else kv).1 = kv.1
    split <;> rfl
  · rw [if_neg c]
    exact ⟨ks ++ [k], by rw [List.map_append, List.map_append, e]; rfl, by rw [List.length_append]; exact Nat.add_le_add_right l 1⟩
theorem KInt.four {kvs : List (Key × V)} {b : Nat} (h : KInt kvs b) (k1 k2 k3 k4 : Int) (v : V) : KInt (mergeK kvs [(.inl k1, v), (.inl k2, v), (.inl k3, v), (.inl k4, v)]) (b + 4) := (((h.put k1 v).put k2 v).put k3 v).put k4 v
theorem KInt.length {kvs : List (Key × V)} {b : Nat} (h : KInt kvs b) : kvs.length ≤ b := by
  obtain ⟨ks, e, l⟩ := h
  have z := congrArg List.length e
  rw [List.length_map, List.length_map] at z
  omega
abbrev sProbes : Stmt := topS 14
theorem scProbes : FnScope ["_law_lists", "_law_found", "_law_pairs", "_law_first", "_law_last"] ["_law_lists"] (defScope sProbes) := ⟨rfl, rfl, rfl, by decide +kernel, rfl, by decide +kernel, by decide +kernel⟩
/-- some numbers, whichever: the lists are of pairs -/
def spProbes (K : PySem.W.Frag) : Sp := fun vs H Q _ => ∃ (L : Addr) (ls : List (Addr × List V × List (Int × Int))), vs = [.ref L] ∧ H L = some (.lst (ls.map fun x => .ref x.1)) ∧ (∀ x ∈ ls, Sq K H x.1 x.2.1 ∧ Prs H x.2.1 x.2.2 ∧ x.2.2.length ≤ 200) ∧ ls.length ≤ 5 ∧
  ∀ p (ns : List Int) H', H p = none → H' p = some (.lst (ns.map V.int)) → ns.length ≤ 5000 → ns.Pairwise (· ≤ ·) → Same H H' → Q (.ref p) H'
section
variable {K : PySem.W.Frag} {mg : Str → Option Value} {P : Program} {w : World} {base : Heap}
theorem ok_probes {f : Addr} {fd : FuncData} {k : Nat} (F : Fun K "_law_probes" "_law_probes" sProbes f fd) (mx : mg "max" = none) (ms : mg "sorted" = none) (ml : mg "list" = none) : FnOk P w K mg base CX0 (k + 1) f fd ["_law_lists"] (spProbes K) := by
  refine F.ok scProbes (fun vs H Q E h => ?_) (fun cdv A outer s H vs Q E hr h => ?_)
  · obtain ⟨L, ls, rfl, _⟩ := h
    rfl
  · obtain ⟨L, ls, rfl, hL, hls, hl2, q⟩ := h
    refine ⟨_, pss_cons (ps_set (i := 1) scProbes.nd rfl (.inl rfl) (pe_disp (pps_cons pe_int pe_bl pps_nil) (by rfl) (by rfl) (fun z => by cases z) (by decide)))
      (pss_cons (ps_for PassesOwn.never rfl (pi_list (pv 0)) (pg_name (i := 2) scProbes.nd rfl (.inl rfl))
        (pss_one (ps_for PassesOwn.never rfl (pi_seq (pv 2)) (pg_tup rfl (pgs_cons (pg_name (i := 3) scProbes.nd rfl (.inl rfl)) (pgs_cons (pg_name (i := 4) scProbes.nd rfl (.inl rfl)) pgs_nil)))
          (pss_one (ps_expr (pe_bm PySem.F.plainAttrs_dict PySem.F.slot_dict_update PySem.F.type_dict_update (mt_update rfl) (pv 1) (pa_cons (pe_lst
            (pa_cons (pe_tup (pa_cons (pe_callB (call_max2 rfl) (by rfl) mx (by decide +kernel) (pa_cons pe_int (pa_cons (pe_op op_sub (pv 3) pe_int) pa_nil))) (pa_cons pe_bl pa_nil)))
            (pa_cons (pe_tup (pa_cons (pv 3) (pa_cons pe_bl pa_nil))) (pa_cons (pe_tup (pa_cons (pv 4) (pa_cons pe_bl pa_nil))) (pa_cons (pe_tup (pa_cons (pe_op op_add (pv 4) pe_int) (pa_cons pe_bl pa_nil))) pa_nil))))) pa_nil)))))))
      (pss_one (ps_ret (pe_callB cr_sortedI (by rfl) ms (by decide +kernel) (pa_cons (pe_callTy (call_list_dK rfl) (by rfl) ml (by decide +kernel) (pa_cons (pv 1) pa_nil)) pa_nil))))), ?_⟩
    refine fun d nd => ⟨upd_same, [(.inl 0, .bl true)], rfl, (by show 1 ≤ 15; decide), ?_⟩
    have s0 : Same H (upd (upd H d (.dK [])) d (.dK (mergeK [] [(.inl 0, .bl true)]))) := fun b o e => by
      rw [upd_ne (ne_of_none e nd), upd_ne (ne_of_none e nd)]
      exact e
    refine ⟨.ref L, rfl, L, rfl, ⟨_, SqL.of (s0 _ _ hL)⟩, for_list (xs := ls.map fun x => V.ref x.1) (fun i σ H1 => ∃ (kvs : List (Key × V)) (y2 y3 y4 : Option V), σ = [some (.ref L), some (.ref d), y2, y3, y4] ∧ Same H H1 ∧ H1 d = some (.dK kvs) ∧ KInt kvs (1 + 800 * i))
      ⟨_, none, none, none, rfl, s0, upd_same, ⟨[0], rfl, Nat.le_refl _⟩⟩ (fun i σ H1 _ hP => ?_) (fun i x σ H1 hx hP => ?_) (fun σ H1 hP => ?_)⟩
    · obtain ⟨_, _, _, _, rfl, sm, _⟩ := hP
      exact SqL.of (sm _ _ hL)
    · obtain ⟨kvs, y2, y3, y4, rfl, sm, eD, hk⟩ := hP
      obtain ⟨y, hy, rfl⟩ : ∃ y ∈ ls, x = .ref y.1 := by
        obtain ⟨hi, e⟩ := List.getElem?_eq_some_iff.mp hx
        rw [List.getElem_map] at e
        exact ⟨_, List.getElem_mem _, e.symm⟩
      have hil : i < ls.length := by
        have z := (List.getElem?_eq_some_iff.mp hx).1
        rwa [List.length_map] at z
      obtain ⟨el, hp, hlen⟩ := hls y hy
      refine ⟨.ref y.1, rfl, y.1, rfl, for_seqS (xs := y.2.1) el sm (fun j σ H2 => ∃ (kvs : List (Key × V)) (y3 y4 : Option V), σ = [some (.ref L), some (.ref d), some (.ref y.1), y3, y4] ∧ Same H H2 ∧ H2 d = some (.dK kvs) ∧ KInt kvs (1 + 800 * i + 4 * j))
        ⟨kvs, _, _, rfl, sm, eD, hk⟩ (fun j σ H2 hP => ?_) (fun j x σ H2 hx hP => ?_) (fun σ H2 hP => ?_)⟩
      · obtain ⟨_, _, _, rfl, sm, _⟩ := hP
        exact sm
      · obtain ⟨kvs, y3, y4, rfl, sm, eD, hk⟩ := hP
        obtain ⟨p, T, ep, rfl, eT⟩ := prs_at hp hx
        have hj : j < y.2.2.length := by
          have z := (List.getElem?_eq_some_iff.mp hx).1
          rwa [hp.1] at z
        refine ⟨T, _, rfl, .inl (.inl (sm _ _ eT)), rfl, _, _, rfl, _, _, rfl, rfl, ?_⟩
        refine ⟨.ref d, rfl, ?_, _, rfl, p.1, 1, rfl, rfl, 0, _, rfl, (by show 2 ≤ sizeLine; decide), fun T1 n1 => ⟨_, rfl, (by show 2 ≤ sizeLine; decide), fun T2 n2 => ⟨_, rfl, (by show 2 ≤ sizeLine; decide), fun T3 n3 => ⟨_, rfl, p.2, 1, rfl, rfl, (by show 2 ≤ sizeLine; decide), fun T4 n4 => ⟨(by show 4 ≤ sizeLine; decide), fun z nz => ?_⟩⟩⟩⟩⟩
        · exact .inr (.inr (.inl ⟨rfl, .inl ⟨_, eD⟩⟩))
        · have t1 := same_upd (o := .tup [.int (if p.1 - 1 > 0 then p.1 - 1 else 0), .bl true]) n1
          have t2 := same_upd (o := .tup [.int p.1, .bl true]) n2
          have t3 := same_upd (o := .tup [.int p.2, .bl true]) n3
          have t4 := same_upd (o := .tup [.int (p.2 + 1), .bl true]) n4
          have tz := same_upd (o := .lst [.ref T1, .ref T2, .ref T3, .ref T4]) nz
          have eD' := tz _ _ (t4 _ _ (t3 _ _ (t2 _ _ (t1 _ _ eD))))
          refine ⟨d, z, [T1, T2, T3, T4], [(.inl _, .bl true), (.inl _, .bl true), (.inl _, .bl true), (.inl _, .bl true)], kvs, rfl, rfl, eD', upd_same,
            .cons (.inl (.inl (tz _ _ (t4 _ _ (t3 _ _ (t2 _ _ upd_same)))))) (.cons (.inl (.inl (tz _ _ (t4 _ _ (t3 _ _ upd_same))))) (.cons (.inl (.inl (tz _ _ (t4 _ _ upd_same)))) (.cons (.inl (.inl (tz _ _ upd_same))) .nil))), ?_, ?_⟩
          · have := hk.length
            exact Nat.le_trans (show kvs.length + 4 ≤ 5000 by omega) (by decide)
          · refine ⟨_, _, _, rfl, fun b o e => ?_, upd_same, (hk.four _ _ _ _ _).mono (by omega)⟩
            rw [upd_ne (ne_of_none e nd)]
            exact tz _ _ (t4 _ _ (t3 _ _ (t2 _ _ (t1 _ _ (sm _ _ e)))))
      · obtain ⟨kvs, y3, y4, rfl, sm, eD, hk⟩ := hP
        exact ⟨kvs, _, _, _, rfl, sm, eD, hk.mono (by rw [hp.1]; omega)⟩
    · obtain ⟨kvs, y2, y3, y4, rfl, sm, eD, hk⟩ := hP
      rw [List.length_map] at hk
      obtain ⟨ks, ek, hkl⟩ := hk
      refine ⟨.ref d, rfl, d, kvs, rfl, eD, fun g ng => ?_⟩
      have eg : (kvs.map fun kv => kV kv.1) = ks.map V.int := by
        have z : (kvs.map fun kv => kV kv.1) = (kvs.map (·.1)).map kV := by rw [List.map_map]; rfl
        rw [z, ek, List.map_map]
        rfl
      refine ⟨g, ks, rfl, SqL.of (by rw [upd_same, eg]), fun ns p perm ord np => ?_⟩
      have sg := same_upd (o := .lst (kvs.map fun kv => kV kv.1)) ng
      refine q p ns _ (sm.free (sg.free np)) upd_same ?_ ord ((sm.trans sg).trans (same_upd np))
      rw [perm.length_eq]
      omega
end

/-! ### defs that are called while nothing is being shown: str of lists within lists -/
/-- a def keeps its promise where nothing is being shown -/
structure FnG (P : Program) (w : World) (K : PySem.W.Frag) (mg : Str → Option Value) (base : Heap) (CX : CXT) (k : Nat) (f : Addr) (fd : FuncData) (ps : List Str) (sp : Sp) : Prop where
  len : ∀ (vs : List V) (H : Hp) (Q : VK) (E : XK), sp vs H Q E → vs.length = ps.length
  run : ∀ (A : Around) (outer : List Env) (s : Shared) (H : Hp) (args : Args) (us : List Value) (vs : List V) (Q : VK) (E : XK), A.guards = some [] → Room k A → Env0 P w K mg base A outer s H → BindsTo s fd args (ps.zip us) → Vals vs us → sp vs H Q E → codeAny (model P w) A (Code.call (Value.ref f) args) (CR CX outer P w H s Q E) s
section
variable {CX : CXT} {P : Program} {w : World} {K : PySem.W.Frag} {mg : Str → Option Value} {base : Heap} {k : Nat}
theorem FnG.of {f : Addr} {fd : FuncData} {ps : List Str} {sp : Sp} (F : FnOk P w K mg base CX k f fd ps sp) : FnG P w K mg base CX k f fd ps sp :=
  ⟨F.len, fun A outer s H args us vs Q E _ hr e0 hb r hsp => F.run A outer s H args us vs Q E hr e0 hb r hsp⟩
theorem fn_ofG {f : Addr} {name qual : Str} {params : Arguments} {body : List Stmt} {scope : Scope} {dV kV doc pm cdv ct oc : Value} {an od : Option Addr} {osl : Array (Option Value)} {N ps : List Str} {sp : Sp}
    (lk : List.lookup f K = some { cls := oc, dict := od, data := Data.func (PySem.W.fnOf name qual params body scope dV kV doc pm an cdv ct), slots := osl }) (hcd : PySem.W.codeIn K cdv qual = true) (S : FnScope N ps scope)
    (len : ∀ (vs : List V) (H : Hp) (Q : VK) (E : XK), sp vs H Q E → vs.length = ps.length)
    (hbody : ∀ (A : Around) (outer : List Env) (s : Shared) (H : Hp) (vs : List V) (Q : VK) (E : XK), A.guards = some [] → Room k (A.deeper (PyProof.Rows.envOfC qual scope s.heap.objs.size f cdv)) → sp vs H Q E →
      ∃ t, PSs (cxOf CX P w K mg base N qual scope f cdv A outer s H E) body t ∧ t { nx := fun _ H' => Q V.non H', rt := Q } (L2.start N vs) H) :
    FnG P w K mg base CX (k + 1) f (PySem.W.fnOf name qual params body scope dV kV doc pm an cdv ct) ps sp := by
  refine ⟨len, fun A outer s H args us vs Q E hgd hr e0 hb r hsp => ?_⟩
  have hl := len vs H Q E hsp
  have KX := PySem.W.Frag.In.keeps e0.mod.kin fun b o e => (e0.bs b o e).1
  have lim := Heap.NoLimit.keeps e0.mod.nolimit fun b o e => (e0.bs b o e).1
  refine codeAny_call_function (Room.depth hr) (KX f _ lk) rfl S.co S.gen rfl (PySem.W.codeRec_of KX hcd) (hb (model P w) A.in1 _ _ (wpAny_newFunctionEnv_cells S.kind (fun x hy => ?_) fun env he s1 x => ?_))
  · obtain ⟨n, v⟩ := x
    rcases S.par n (List.of_mem_zip hy).1 with q | q
    · exact .inl q
    · exact .inr ⟨q, PySem.W.cellsFrom_some scope.names _ [] (.inl q)⟩
  · subst he
    refine ⟨Heap.NoLimit.keeps lim x.toInCall.keep, codeAny_func ?_⟩
    obtain ⟨t, ht, hq⟩ := hbody A outer s H vs Q E hgd (Room.deeper hr _) hsp
    have I := inv_start (CX := CX) (E := E) S hr.hd e0 hl r x
    refine wpAny_mono (ht.run [] s1 (L2.start N vs) H _ I hq) (fun fl s' hs => ?_) (fun e s' hs => hs)
    cases fl with
    | ret u =>
      obtain ⟨v, σ', H', J, rv, q⟩ := hs
      exact ⟨v, H', J.os, J.bare, J.base, J.hok, rv, q⟩
    | next =>
      obtain ⟨σ', H', J, q⟩ := hs
      exact ⟨V.non, H', J.os, J.bare, J.base, J.hok, rfl, q⟩
    | _ =>
      obtain ⟨_, _, _, q⟩ := hs
      exact q.elim
theorem Fun_okG {x qual : Str} {st : Stmt} {f : Addr} {fd : FuncData} {N ps : List Str} {sp : Sp} (F : Fun K x qual st f fd) (S : FnScope N ps (defScope st))
    (len : ∀ (vs : List V) (H : Hp) (Q : VK) (E : XK), sp vs H Q E → vs.length = ps.length)
    (hbody : ∀ (cdv : Value) (A : Around) (outer : List Env) (s : Shared) (H : Hp) (vs : List V) (Q : VK) (E : XK), A.guards = some [] → Room k (A.deeper (PyProof.Rows.envOfC qual (defScope st) s.heap.objs.size f cdv)) → sp vs H Q E →
      ∃ t, PSs (cxOf CX0 P w K mg base N qual (defScope st) f cdv A outer s H E).nox (defBody st) t ∧ t { nx := fun _ H' => Q V.non H', rt := Q } (L2.start N vs) H) :
    FnG P w K mg base CX0 (k + 1) f fd ps sp := by
  obtain ⟨oc, od, kV, doc, pm, an, cdv, ct, osl, rfl, lk, hcd⟩ := F.ex
  refine fn_ofG lk hcd S len fun A outer s H vs Q E hg hr hsp => ?_
  obtain ⟨t, h, q⟩ := hbody cdv A outer s H vs Q E hg hr hsp
  exact ⟨t, PSs.nox h, q⟩
end
theorem run_fnG {X : Cx} {CX : CXT} {k : Nat} {f : Addr} {fd : FuncData} {ps : List Str} {sp : Sp} {dvs : List V} {ds : List Value} {E : XK} {pins : List (Addr × Obj)} {σ : L2.St} {H : Hp} {s : Shared} {Q : VK} {us : List Value} {vs : List V}
    (F : FnG X.prog X.w X.K X.mg X.base CX k f fd ps sp) (hgd : X.A.guards = some []) (hr : Room k X.A) (hb : Binds X.K fd ps ds) (hd : Vals dvs ds) (hx : Passes CX X E) (I : L2.Inv X pins σ H s) (r : Vals vs us) (h : sp (vs ++ dvs) H Q E) :
    wpAny (model X.prog X.w) X.A (call (Value.ref f) us) (EP X pins σ Q) X.xe s := by
  have r2 := Vals.append r hd
  have hl : (us ++ ds).length = ps.length := by rw [← Vals.length r2]; exact F.len _ _ _ _ h
  refine wpAny_call (codeAny_mono (F.run X.A X.stack s H _ _ _ Q E hgd hr (Inv.env0 I) (hb s us (Inv.kIn I) hl) r2 h) fun r s' hq => ?_)
  cases r with
  | error e => exact hx pins σ H s e s' I hq
  | ok fl =>
    cases fl with
    | ret u => exact Inv.after I hq
    | _ => exact hq.elim
/-- a def of the text that keeps a promise where nothing is being shown, as its callers see it -/
def CalG (P : Program) (w : World) (K : PySem.W.Frag) (mg : Str → Option Value) (base : Heap) (k : Nat) (x : Str) (ps : List Str) (sp : Sp) : Prop :=
  ∃ f fd, FnG P w K mg base CX0 k f fd ps sp ∧ mg x = some (.ref f) ∧ PySem.W.keepIn K (.ref f) = true ∧ Binds K fd ps []
theorem pe_ownG {X : Cx} {k : Nat} {x : Str} {ps : List Str} {sp : Sp} {e : Expr} {es : List Expr} {t : TA} {p pos : Pos} (C : CalG X.prog X.w X.K X.mg X.base k x ps sp) (hgd : X.A.guards = some []) (hr : Room k X.A) (hg : Gl X x) (ha : PA X (e :: es) t)
    (dbg : (x == ("__debug__" : Str)) = false := by decide) (one : starEach (e :: es) X.env = (false, eval e X.env) :: starEach es X.env := by rfl) (star : (backTo pos (starEach es X.env)).any (·.1) = false := by rfl) :
    PE X (.Call (.Name x p) (e :: es) [] pos) (tCall sp [] E0 t) := by
  obtain ⟨f, fd, F, hm, hk, hb⟩ := C
  refine ⟨fun pins s σ H Q I h => wpAny_Call_Name_kw (ld_glob I hg hm (PySem.W.callWith_K I.ok.mod.kin hk (thn (ha.run pos pins s σ H _ I h) fun us s1 z => ?_) one star) dbg)⟩
  obtain ⟨vs, H1, I1, r, q⟩ := z
  exact ⟨Inv.kIn I1, run_fnG F hgd hr hb .nil pass0 I1 r q⟩
/-- str of data -/
def rStrD (K : PySem.W.Frag) : List V → Hp → VK → Prop := fun xs H Q => ∃ (a : Addr) (d : PyData), xs = [.ref a] ∧ Dp K H (.ref a) d ∧ d.showable = true ∧ d.hasDict = false ∧ d.depth ≤ 8 ∧ d.shown.length ≤ sizeLine ∧ Q (.str d.shown) H
theorem cr_strD {X : Cx} (hg : X.A.guards = some []) (hu : X.A.units + 11 < cLine) : CallR X (.type "str") (rStrD X.K) := fun pins s σ H xs us Q I hv h => by
  obtain ⟨a, d, rfl, hd, h1, h2, h3, h4, q⟩ := h
  cases hv with
  | cons ru hn =>
    cases hn
    cases ru
    obtain ⟨as, hR⟩ := Dp.reads I d (.ref a) (.ref a) hd rfl
    exact str_of_reads hR h1 (fun z => by rw [h2] at z; cases z) hg (by omega) (fun b o e => e) (fun h' u tk keep => ⟨.str d.shown, H, I.kept keep, ⟨u, rfl⟩, q⟩) h4
/-! ### the end -/
theorem law_callG {P : Program} {w : World} {K : PySem.W.Frag} {mg mb : Str → Option Value} {CX : CXT} {k : Nat} {fa a : Addr} {fd : FuncData} {x : Str} {sp : Sp} {s₁ : Shared} {vs : List Value} {ns : List Int}
    (KX : K.In s₁.heap) (hns : s₁.heap.Ns mainGlobals mg) (hb : s₁.heap.Ns builtinsNs mb) (hbb : ∀ (x : Str), x ≠ Str.ofString "__name__" → mb x = bootBuiltins x) (hlim : s₁.heap.NoLimit) (hg : s₁.gens = #[])
    (ha : s₁.heap.get? a = some { cls := Value.type "list", data := Data.seq vs.toArray }) (hi : PyProof.Rows.IntsAre vs ns) (hl : ns.length ≤ sizeLine) (hr : Room k callerA)
    (F : ∀ (base : Heap), K.In base → base.Ns mainGlobals mg → FnG P w K mg base CX k fa fd [x] sp) (hbind : ∀ (s : Shared) (u : Value), BindsTo s fd { pos := [u] } [(x, u)])
    (hsp : ∀ (H : Hp), Only H → SqL K H a (List.map V.int ns) → sp [V.ref a] H (fun v _ => v = V.bl true) fun _ _ _ => False) (hCX : ∀ (H : Hp) (e : Value) (s' : Shared), CX [] H s₁ (fun _ _ _ => False) e s' → False) :
    codeAny (model P w) callerA (Code.call (Value.ref fa) { pos := [Value.ref a] }) (fun r s' => r = Except.ok (Flow.ret (Value.bool true)) ∧ OldK s₁.heap s'.heap ∧ s'.os = s₁.os ∧ PyProof.Rows.AllBare s'.gens) s₁ := by
  have rv := vals_ints hi
  have lenV := PyProof.Rows.IntsAre.length hi
  have core : ∀ H : Hp, Only H → SqL K H a (List.map V.int ns) → HOk P w H s₁.heap → (∀ b, H b ≠ none → b = a) → (H a ≠ none → List.lookup a K = none) →
      codeAny (model P w) callerA (Code.call (Value.ref fa) { pos := [Value.ref a] }) (fun r s' => r = Except.ok (Flow.ret (Value.bool true)) ∧ OldK s₁.heap s'.heap ∧ s'.os = s₁.os ∧ PyProof.Rows.AllBare s'.gens) s₁ := by
    intro H hO hS hok hA hK
    have isA : ∀ {b : Addr} {u : HO}, H b = some u → b = a := fun {b u} hh => hA b (by rw [hh]; exact fun z => nomatch z)
    have noA : ∀ {b : Addr} {o : Obj} {es ep}, s₁.heap.get? b = some o → o.data = Data.dict es ep → H b = none := by
      intro b o es ep e d
      cases hh : H b with
      | none => rfl
      | some u =>
        rw [isA hh, ha] at e
        rw [← Option.some.inj e] at d
        cases d
    have nsK : ∀ {b : Addr} {m : Str → Option Value}, s₁.heap.Ns b m → (hidT s₁.heap H).Ns b m := fun {b m} z => by
      obtain ⟨o, es, ep, e, d, r⟩ := z
      exact ⟨o, es, ep, hidT_get e (noA e d), d, r⟩
    have hKb : K.In (hidT s₁.heap H) := fun b o e => hidT_get (KX b o e) (by
      cases hh : H b with
      | none => rfl
      | some u =>
        rw [isA hh, hK (by rw [isA hh] at hh; rw [hh]; exact fun z => nomatch z)] at e
        cases e)
    have hM : L2.Mod K mg (hidT s₁.heap H) := ⟨hKb, nsK hns, ⟨mb, nsK hb, hbb⟩, let ⟨mc, h1, h2⟩ := hlim; ⟨mc, nsK h1, h2⟩⟩
    have e0 : Env0 P w K mg (hidT s₁.heap H) callerA [] s₁ H := ⟨rfl, hM, fun b o e => of_hidT e, Nat.le_of_eq (hidT_size ..), trivial, fun b hb => (nomatch hb), hok, .of_eq hg⟩
    refine codeAny_mono ((F _ hKb (nsK hns)).run callerA [] s₁ H ⟨[.ref a], []⟩ [.ref a] [.ref a] (fun v _ => v = .bl true) (fun _ _ _ => False) rfl hr e0 (hbind s₁ (.ref a)) (.cons rfl .nil) (hsp H hO hS)) fun r s' h => ?_
    cases r with
    | error e => exact (hCX H e s' h).elim
    | ok fl =>
      cases fl with
      | ret u =>
        obtain ⟨v, H', os, bare, un, hok', r', q⟩ := h
        subst q
        cases r'
        refine ⟨rfl, OldK.of_keep fun b o e => ?_, os, bare⟩
        cases hh : H b with
        | none => exact un.keep b o e hh (fun z => nomatch z) (fun z => nomatch z)
        | some u =>
          rcases hO b with z | ⟨ob, xs, z⟩
          · rw [z] at hh; cases hh
          · have z2 := un.frzs b ob (HO.lst xs) z
            have e1 := (hok b _ z).1
            have e2 := (hok' b _ z2).1
            rw [e] at e1
            rw [Option.some.inj e1]
            exact e2
      | _ => exact h.elim
  cases hk : List.lookup a K with
  | none =>
    have at_a : (fun b => if b = a then some (HO.frz { cls := Value.type "list", data := Data.seq vs.toArray } (HO.lst (List.map V.int ns))) else none : Hp) a = some (HO.frz { cls := Value.type "list", data := Data.seq vs.toArray } (HO.lst (List.map V.int ns))) := if_pos rfl
    refine core (fun b => if b = a then some (HO.frz { cls := Value.type "list", data := Data.seq vs.toArray } (HO.lst (List.map V.int ns))) else none) (fun b => ?_) (.inl (.inr ⟨_, at_a⟩)) (fun b u z => ?_) (fun b z => ?_) (fun _ => hk)
    · by_cases hb : b = a
      · exact .inr ⟨_, _, if_pos hb⟩
      · exact .inl (if_neg hb)
    · by_cases hb : b = a
      · have z' := Eq.trans (Eq.symm (if_pos hb)) z
        cases z'
        subst hb
        exact ⟨ha, by rw [List.length_map]; exact hl, vs, 0, rv, ha⟩
      · have z' := Eq.trans (Eq.symm (if_neg hb)) z
        cases z'
    · by_cases hb : b = a
      · exact hb
      · exact absurd (if_neg hb) z
  | some o =>
    have e := KX a o hk
    rw [ha] at e
    cases e
    exact core (fun _ => none) (fun _ => .inl rfl) (.inr ⟨_, vs.toArray, 0, hk, rfl, rfl, rfl, by rw [List.size_toArray, lenV]; exact hl, rv⟩) (fun b u z => nomatch z) (fun b z => absurd rfl z) (fun z => absurd rfl z)
def LawAtG (l : PySem.W.OpenLaw) (w : World) (K : PySem.W.Frag) (k : Nat) (mg : Str → Option Value) (fa : Addr) : Prop :=
  ∃ (fd : FuncData) (sp : Sp), (∀ (s : Shared) (u : Value), BindsTo s fd { pos := [u] } [("_law_script", u)]) ∧ (∀ (H : Hp) (a : Addr) (ns : List Int), ns.length ≤ 63 → SqL K H a (List.map V.int ns) → sp [V.ref a] H (fun v _ => v = V.bl true) fun _ _ _ => False) ∧
    ∀ (base : Heap), K.In base → base.Ns mainGlobals mg → FnG l.prog w K mg base CX0 k fa fd ["_law_script"] sp
theorem law_endG {l : PySem.W.OpenLaw} {k : Nat} {q : Program} {loose : List Str} {XP : (Str → Option Value) → Heap → Prop} {YP : World → Heap → Prop} {d : DefRec} {K : Params → PySem.W.Frag} (most : l.most = some 63) (plain : d.params.defaults = []) (room : Room k callerA)
    (part : ∀ w h, YP w h → (K w.params).In h) (made : ∀ (w : World) (mg : Str → Option Value) (f : Addr) (h : Heap), (K w.params).In h → h.Ns mainGlobals mg → mg d.name = some (.ref f) → LawAtG l w (K w.params) k mg f) : PySem.W.WalkO q loose XP YP l.row.toRowW d [] (fun f vs => PySem.call f vs) := by
  refine Att.attach_callB most plain ?_
  intro w _ s₁ mg _ f _ _ _ _ a vs ns ground said _ _ _ name script nums len size still
  have X := part w _ said
  obtain ⟨fd, sp, e4, e5, e6⟩ := made w mg f _ X ground.T.g name
  exact law_callG X ground.T.g ground.T.b ground.T.builtins ground.T.nolimit still script nums (Nat.le_trans len (by decide)) room e6 e4 (fun H z1 z2 => e5 H a ns len z2) fun _ _ _ z => z

/-- an expression, then a word of what it gives: what follows is shown once -/
def tMid (te : TE) : TE := fun σ H Q => ∃ M : V → Hp → Prop, te σ H M ∧ ∀ v H', M v H' → Q v H'
theorem pe_mid {X : Cx} {e : Expr} {te : TE} (h : PE X e te) : PE X e (tMid te) := ⟨fun pins s σ H Q I ⟨M, h1, h2⟩ => thn (h.run pins s σ H M I h1) fun _ _ ⟨y, H1, I1, r, q⟩ => ⟨y, H1, I1, r, h2 _ _ q⟩⟩

/-! ### _law_flags -/
theorem drop_in {ps : List (Int × Int)} {n : Int} {i : Nat} {p : Int × Int} (h : ∃ lo, Ris lo (ps.drop i)) (e : ps[i]? = some p) (hn : n ≤ p.2) : InS (ps.drop i) n ↔ p.1 ≤ n := by
  obtain ⟨lo, h⟩ := h
  rw [drop_at e] at h ⊢
  rw [inS_cons]
  constructor
  · rintro (z | z)
    · exact z.1
    · have := Ris.low h.2.2 z
      omega
  · intro z
    exact .inl ⟨z, hn⟩
theorem ris_drop : ∀ {ps : List (Int × Int)} {lo : Int} (i : Nat), Ris lo ps → ∃ lo', Ris lo' (ps.drop i)
  | ps, lo, 0, h => ⟨lo, h⟩
  | [], lo, _ + 1, _ => ⟨lo, True.intro⟩
  | _ :: r, _, i + 1, h => ris_drop (ps := r) i h.2.2
/-- what lies ahead of i isn't met any more -/
def Behind (ps : List (Int × Int)) (i : Nat) (n : Int) : Prop := ∀ (j : Nat) (p : Int × Int), j < i → ps[j]? = some p → p.2 < n
theorem Behind.in {ps : List (Int × Int)} {i : Nat} {n : Int} (h : Behind ps i n) : InS ps n ↔ InS (ps.drop i) n := by
  have e : ps = ps.take i ++ ps.drop i := (List.take_append_drop i ps).symm
  constructor
  · rintro ⟨p, hp, h1, h2⟩
    rw [e] at hp
    rcases List.mem_append.mp hp with z | z
    · obtain ⟨j, hj, ej⟩ := List.mem_iff_getElem.mp z
      rw [List.length_take] at hj
      rw [List.getElem_take] at ej
      have := h j p (by omega) (by rw [List.getElem?_eq_getElem (by omega), ej])
      omega
    · exact ⟨p, z, h1, h2⟩
  · rintro ⟨p, hp, h1, h2⟩
    exact ⟨p, List.mem_of_mem_drop hp, h1, h2⟩
abbrev sFlags : Stmt := topS 12
theorem scFlags : FnScope ["_law_some", "_law_numbers", "_law_found", "_law_at", "_law_number_here"] ["_law_some", "_law_numbers"] (defScope sFlags) := ⟨rfl, rfl, rfl, by decide +kernel, rfl, by decide +kernel, by decide +kernel⟩
/-- for each of rising numbers whether it is in the set -/
def spFlags (K : PySem.W.Frag) : Sp := fun vs H Q _ => ∃ (a b : Addr) (ps : List (Int × Int)) (ns : List Int), vs = [.ref a, .ref b] ∧ PrA K H a ps ∧ (∃ lo, Ris lo ps) ∧ ps.length ≤ 200 ∧ H b = some (.lst (ns.map V.int)) ∧ ns.length ≤ 5000 ∧ ns.Pairwise (· ≤ ·) ∧
  ∀ l (bs : List Bool) H', H l = none → H' l = some (.lst (bs.map V.bl)) → bs.length = ns.length → (∀ (i : Nat) b n, bs[i]? = some b → ns[i]? = some n → (b = true ↔ InS ps n)) → Same H H' → Q (.ref l) H'
/-- between two turns: all ahead of i lies behind -/
def FlagW (K : PySem.W.Frag) (H : Hp) (a b l : Addr) (ps : List (Int × Int)) (ns : List Int) (k : Nat) (σ : L2.St) (H1 : Hp) : Prop := ∃ (i : Nat) (bs : List Bool) (y4 : Option V), σ = [some (.ref a), some (.ref b), some (.ref l), some (.int i), y4] ∧ i ≤ ps.length ∧ Same H H1 ∧ H1 l = some (.lst (bs.map V.bl)) ∧ bs.length = k ∧
  (∀ (j : Nat) n, k ≤ j → ns[j]? = some n → Behind ps i n) ∧ ∀ (j : Nat) b n, bs[j]? = some b → ns[j]? = some n → (b = true ↔ InS ps n)
section
variable {K : PySem.W.Frag} {mg : Str → Option Value} {P : Program} {w : World} {base : Heap}
theorem ok_flags {f : Addr} {fd : FuncData} {k : Nat} (F : Fun K "_law_flags" "_law_flags" sFlags f fd) (ml : mg "len" = none) : FnOk P w K mg base CX0 (k + 1) f fd ["_law_some", "_law_numbers"] (spFlags K) := by
  refine F.ok scFlags (fun vs H Q E h => ?_) (fun cdv A outer s H vs Q E hr h => ?_)
  · obtain ⟨a, b, ps, ns, rfl, _⟩ := h
    rfl
  · obtain ⟨a, b, ps, ns, rfl, ⟨us, ha, hps⟩, ⟨lo, hris⟩, hz, eb, hnl, ord, q⟩ := h
    refine ⟨_, pss_cons (ps_par rfl scFlags.nd (i := 2) (j := 3) rfl rfl (by decide) rfl rfl (pa_cons (pe_lst pa_nil) (pa_cons pe_int pa_nil)) (by rfl))
      (pss_cons (ps_for PassesOwn.never rfl (pi_list (pv 1)) (pg_name (i := 4) scFlags.nd rfl (.inl rfl))
        (pss_cons (ps_while PassesOwn.never (PW.pt (pw_and (pt_cmpR op_lt (pv 3) (pe_callB call_len_seq (by rfl) ml PySem.boot_len (pa_cons (pv 0) pa_nil)) (nomark _)) (pw_and1 (pt_cmpR op_lt (pe_ix ix_tup (pe_ix ix_seq (pv 0) (pv 3) (fun _ _ => rfl)) pe_int (fun _ _ => rfl)) (pv 4) (nomark _)))))
          (pss_one (ps_set (i := 3) scFlags.nd rfl (.inl rfl) (pe_op op_add (pv 3) pe_int))))
        (pss_one (ps_expr (pe_bm PySem.F.plainAttrs_list PySem.F.slot_list_append PySem.F.type_list_append mt_append (pv 2) (pa_cons (pe_mid (pe_and (pe_cmpR op_lt (pv 3) (pe_callB call_len_seq (by rfl) ml PySem.boot_len (pa_cons (pv 0) pa_nil)) (nomark _)) (pe_one (pe_cmpR op_le (pe_ix ix_tup (pe_ix ix_seq (pv 0) (pv 3) (fun _ _ => rfl)) pe_int (fun _ _ => rfl)) (pv 4) (nomark _))))) pa_nil))))))
      (pss_one (ps_ret (pv 2)))), ?_⟩
    refine ⟨Nat.zero_le _, fun l nl => ?_⟩
    have s0 := same_upd (o := .lst []) nl
    have hl1 := hps.1
    refine ⟨_, _, rfl, ?_⟩
    refine ⟨_, rfl, b, rfl, ⟨_, SqL.of (s0 _ _ eb)⟩, for_list (xs := ns.map V.int) (FlagW K H a b l ps ns)
      ⟨0, [], none, rfl, Nat.zero_le _, s0, upd_same, rfl, (fun _ _ _ _ j p z => absurd z (Nat.not_lt_zero _)), (fun _ _ _ z => nomatch z)⟩ (fun i σ H1 _ hP => ?_) (fun k x σ H1 hx hP => ?_) (fun σ H1 hP => ?_)⟩
    · obtain ⟨_, _, _, rfl, _, sm, _⟩ := hP
      exact SqL.of (sm _ _ eb)
    · obtain ⟨i, bs, y4, rfl, hi, sm, el, hbl, hbe, hbs⟩ := hP
      obtain ⟨n, en, rfl⟩ : ∃ n, ns[k]? = some n ∧ x = .int n := by
        rw [List.getElem?_map] at hx
        cases e : ns[k]? with
        | none => rw [e] at hx; cases hx
        | some n => rw [e] at hx; exact ⟨n, rfl, (Option.some.inj hx).symm⟩
      have hk : k < ns.length := (List.getElem?_eq_some_iff.mp en).1
      -- later numbers are as great
      have later : ∀ (j : Nat) m, k ≤ j → ns[j]? = some m → n ≤ m := fun j m hj em => by
        obtain ⟨h1, e1⟩ := List.getElem?_eq_some_iff.mp em
        obtain ⟨h2, e2⟩ := List.getElem?_eq_some_iff.mp en
        rcases Nat.eq_or_lt_of_le hj with z | z
        · subst z; rw [← e1, ← e2]; exact Int.le_refl _
        · rw [← e1, ← e2]
          exact List.pairwise_iff_getElem.mp ord k j h2 h1 z
      refine ⟨fun m σ H2 => ∃ i : Nat, σ = [some (.ref a), some (.ref b), some (.ref l), some (.int i), some (.int n)] ∧ m = ps.length - i ∧ i ≤ ps.length ∧ H2 = H1 ∧ Behind ps i n, ⟨_, i, rfl, rfl, hi, rfl, hbe k n (Nat.le_refl _) en⟩, fun m σ H2 hW => ?_⟩
      obtain ⟨i, rfl, rfl, hi, rfl, hb⟩ := hW
      have ha1 := ha.same sm
      -- what is told of this number
      have tell : (¬ (i : Int) < us.length ∨ ∃ p, ps[i]? = some p ∧ n ≤ p.2) → ∀ c : Bool, (c = true ↔ InS ps n) → FlagW K H a b l ps ns (k + 1) [some (.ref a), some (.ref b), some (.ref l), some (.int i), some (.int n)] (upd H2 l (.lst (bs.map V.bl ++ [.bl c]))) := by
        intro _ c hc
        refine ⟨i, bs ++ [c], _, rfl, hi, fun x o e => ?_, by rw [upd_same, List.map_append]; rfl, by rw [List.length_append, hbl]; rfl, fun j m hj em jj p h1 h2 => ?_, fun j b' m e1 e2 => ?_⟩
        · rw [upd_ne (ne_of_none e nl)]
          exact sm x o e
        · have := hb jj p h1 h2
          have := later j m (by omega) em
          omega
        · by_cases hj : j < bs.length
          · rw [List.getElem?_append_left hj] at e1
            exact hbs j b' m e1 e2
          · rw [List.getElem?_append_right (by omega)] at e1
            have hz : j - bs.length = 0 := by
              cases hq : j - bs.length with
              | zero => rfl
              | succ n => rw [hq] at e1; cases e1
            rw [hz] at e1
            cases e1
            have : j = k := by omega
            subst this
            rw [en] at e2
            cases e2
            exact hc
      refine ⟨_, rfl, _, rfl, a, us, rfl, ha1, (i : Int), (us.length : Int), rfl, rfl, _, rfl, ite2 (fun c1 => ?_) (fun c1 => ?_)⟩
      · have c1' := of_decide_eq_true c1
        have hi' : i < ps.length := by omega
        obtain ⟨T, g1, e1⟩ := hps.2 i ps[i] (List.getElem?_eq_getElem hi')
        have ep : ps[i]? = some ps[i] := List.getElem?_eq_getElem hi'
        revert e1 ep
        generalize ps[i] = p
        intro e1 ep
        have f1 := sm _ _ e1
        refine ⟨_, rfl, _, rfl, a, us, i, .ref T, rfl, rfl, ha1, atI_nat g1, T, _, 1, .int p.2, rfl, rfl, .inl (.inl f1), atI_nat (j := 1) rfl, _, rfl, p.2, n, rfl, rfl, _, rfl, ite2 (fun c2 => ?_) (fun c2 => ?_)⟩
        · have c2' := of_decide_eq_true c2
          refine ⟨fun σ' H' => ∃ m', m' < ps.length - i ∧ ∃ i' : Nat, σ' = [some (.ref a), some (.ref b), some (.ref l), some (.int i'), some (.int n)] ∧ m' = ps.length - i' ∧ i' ≤ ps.length ∧ H' = H2 ∧ Behind ps i' n, fun σ' H' h => h, ?_⟩
          refine ⟨_, rfl, (i : Int), 1, rfl, rfl, _, by omega, i + 1, rfl, rfl, by omega, rfl, fun j r h1 h2 => ?_⟩
          rcases Nat.lt_or_ge j i with z | z
          · exact hb j r z h2
          · have : j = i := by omega
            subst this
            rw [ep] at h2
            cases h2
            exact c2'
        · have c2' : n ≤ p.2 := by
            have : ¬ p.2 < n := fun z => c2 (decide_eq_true z)
            omega
          refine ⟨_, rfl, .inl ⟨rfl, _, SqL.of el⟩, fun v H' => H' = H2 ∧ ∃ c : Bool, v = .bl c ∧ (c = true ↔ InS ps n), ?_, fun v H' hv => ?_⟩
          · refine ⟨_, rfl, _, rfl, a, us, rfl, ha1, (i : Int), (us.length : Int), rfl, rfl, _, rfl, ite2 (fun _ => ?_) (fun z => absurd c1 z)⟩
            refine ⟨_, rfl, _, rfl, a, us, i, .ref T, rfl, rfl, ha1, atI_nat g1, T, _, 0, .int p.1, rfl, rfl, .inl (.inl f1), atI_nat (j := 0) rfl, _, rfl, p.1, n, rfl, rfl, rfl, _, rfl, ?_⟩
            rw [hb.in, drop_in (ris_drop i hris) ep c2']
            exact decide_eq_true_iff
          · obtain ⟨rfl, c, rfl, hc⟩ := hv
            exact ⟨l, _, _, rfl, rfl, el, Nat.lt_of_le_of_lt (show (bs.map V.bl).length ≤ 5000 by rw [List.length_map]; omega) (by decide), tell (.inr ⟨p, ep, c2'⟩) c hc⟩
      · have c1' : ¬ (i : Int) < us.length := fun z => c1 (decide_eq_true z)
        refine ⟨_, rfl, .inl ⟨rfl, _, SqL.of el⟩, fun v H' => H' = H2 ∧ ∃ c : Bool, v = .bl c ∧ (c = true ↔ InS ps n), ?_, fun v H' hv => ?_⟩
        · refine ⟨_, rfl, _, rfl, a, us, rfl, ha1, (i : Int), (us.length : Int), rfl, rfl, _, rfl, ite2 (fun z => absurd z c1) (fun _ => ⟨rfl, false, rfl, ?_⟩)⟩
          rw [hb.in, List.drop_eq_nil_of_le (show ps.length ≤ i by omega)]
          exact ⟨(fun z => nomatch z), fun z => absurd z inS_nil⟩
        · obtain ⟨rfl, c, rfl, hc⟩ := hv
          exact ⟨l, _, _, rfl, rfl, el, Nat.lt_of_le_of_lt (show (bs.map V.bl).length ≤ 5000 by rw [List.length_map]; omega) (by decide), tell (.inl c1') c hc⟩
    · obtain ⟨i, bs, y4, rfl, hi, sm, el, hbl, hbe, hbs⟩ := hP
      exact ⟨_, rfl, q l bs H1 nl el (by rw [hbl, List.length_map]) hbs sm⟩
end

/-! ### zip of any number of lists, of five -/
abbrev IsTup (h : Heap) (T : Addr) (xs : List Value) : Prop := h.get? T = some { cls := .type "tuple", data := .seq xs.toArray }
theorem forIn_steps {α β : Type} {M : Model} {A : Around} {E : Value → Shared → Prop} {body : α → β → Sem (ForInStep β)} {init : β} {Q : β → Shared → Prop} :
    ∀ (L : List α) (Iv : Nat → Shared → Prop) (s : Shared), Iv 0 s → (∀ k x s, L[k]? = some x → Iv k s → wpAny M A (body x init) (fun r s' => r = .yield init ∧ Iv (k + 1) s') E s) → (∀ s, Iv L.length s → Q init s) → wpAny M A (forIn L init body) Q E s
  | [], Iv, s, h0, _, hq => by rw [List.forIn_nil]; exact wpAny_pure (hq s h0)
  | x :: r, Iv, s, h0, st, hq => by
    rw [List.forIn_cons]
    refine wpAny_bind (wpAny_mono (st 0 x s rfl h0) (fun t s' h => ?_) (fun _ _ h => h))
    obtain ⟨rfl, h⟩ := h
    exact forIn_steps r (fun k => Iv (k + 1)) s' h (fun k x s e => st (k + 1) x s e) hq
/-- what stands apart -/
structure SepN (z TI TO : Addr) (its as : List Addr) : Prop where
  zTI : TI ≠ z
  zTO : TO ≠ z
  TITO : TI ≠ TO
  zi : z ∉ its
  TIi : TI ∉ its
  TOi : TO ∉ its
  nd : its.Nodup
  za : z ∉ as
  TOa : TO ∉ as
  ai : ∀ a ∈ as, a ∉ its
theorem upd_tup {prog : Program} {w : World} {A : Around} {E : Value → Shared → Prop} {s : Shared} {xs : List Value} {T : Addr} {x : Value} {k : Nat} {Q : Unit → Shared → Prop} (hT : IsTup s.heap T xs) (hn : xs.length ≤ 16)
    (h : ∀ (h' : Heap), IsTup h' T (xs.set k x) → Heap.SameBut T s.heap h' → Q () { heap := h', gens := s.gens, drawn := s.drawn, toks := s.toks, os := s.os }) :
    wpAny (model prog w) A (updateSeq T fun x_1 => x_1.setIfInBounds k x) Q E s := by
  refine wpAny_updateSeq hT rfl (h _ ?_ (Heap.SameBut.update s.heap T _)) ?_ ?_
  · show Heap.get? _ _ = _
    rw [Heap.get?_update_self _ hT rfl]
    simp [Obj.mapSeq]
  · simp only [List.size_toArray]
    exact Nat.le_trans hn (by decide)
  · simp only [Array.size_setIfInBounds, List.size_toArray]
    exact Nat.le_trans hn (by decide)
theorem zipN_next_item {prog : Program} {w : World} {A : Around} {E : Value → Shared → Prop} {s : Shared} {z TI TO : Addr} {its as : List Addr} {arrs : List (Array Value)} {i : Nat} {xs0 : List Value} {Q : Value → Shared → Prop} (S : SepN z TI TO its as) (hd : A.handled = none) (hl : as.length = its.length) (hl2 : arrs.length = its.length) (ne : its ≠ []) (hn : its.length ≤ 16)
    (hz : IsZip s.heap z TI TO .none) (hTI : IsTup s.heap TI (its.map .ref)) (hTO : IsTup s.heap TO xs0) (hx0 : xs0.length = its.length)
    (hit : ∀ (j : Nat) it a, its[j]? = some it → as[j]? = some a → s.heap.IsListIter it a i) (hls : ∀ (j : Nat) a ar, as[j]? = some a → arrs[j]? = some ar → s.heap.IsList a ar) (hlt : ∀ ar ∈ arrs, i < ar.size)
    (hQ : ∀ (xs : List Value) (h' : Heap) (tk : Nat), xs.length = its.length → (∀ (j : Nat) ar, arrs[j]? = some ar → xs[j]? = ar[i]?) → IsZip h' z TI TO (rawInt ↑s.heap.objs.size) → IsTup h' TO xs → (∀ (j : Nat) it a, its[j]? = some it → as[j]? = some a → h'.IsListIter it a (i + 1)) → IsTup h' s.heap.objs.size xs → h'.objs.size = s.heap.objs.size + 1 →
      (∀ c o, c ≠ z → c ≠ TO → c ∉ its → s.heap.get? c = some o → h'.get? c = some o) → Q (.ref s.heap.objs.size) { heap := h', gens := s.gens, drawn := s.drawn, toks := tk, os := s.os }) :
    wpAny (model prog w) A (Builtin.«zip.__next__» { pos := [Value.ref z] }) (fun fin s' => ∃ v, fin = Fin.done (Flow.ret v) ∧ Q v s') E s := by
  unfold Builtin.«zip.__next__»
  refine wpAny_bind ?_
  show wpAny _ _ (pure (Value.ref z, [])) _ _ _
  refine wpAny_pure ?_
  refine wpAny_bind (wpAny_field hz rfl rfl ?_)
  refine wpAny_bind (wpAny_field hz rfl rfl ?_)
  refine wpAny_bind (wpAny_seqItems hTI rfl ?_)
  have e0 : (its.map Value.ref).toArray.isEmpty = false := by
    cases its with
    | nil => exact absurd rfl ne
    | cons a r => simp
  simp only [e0]
  refine wpAny_bind ?_
  unfold Builtin.SmallTypes.ownedTupleIsFree
  refine wpAny_bind (wpAny_field hz rfl rfl (wpAny_pure ?_))
  rw [if_pos rfl]
  refine wpAny_bind (wpAny_rule ?_)
  refine wpAny_bind (wpAny_field hz rfl rfl ?_)
  refine wpAny_bind (wpAny_setField_rec hz (by simp) fun g0 hz0 hs0 => ?_)
  refine wpAny_bind (forIn_steps _ (fun k s' => ∃ (xs : List Value) (tk : Nat) (h' : Heap), s' = { heap := h', gens := s.gens, drawn := s.drawn, toks := tk, os := s.os } ∧ xs.length = its.length ∧ h'.get? z = some { cls := .type "zip", data := .fields #[.ellipsis, .bool false, .bool false, .ref TI, .ref TO] } ∧ IsTup h' TO xs ∧
    (∀ (j : Nat) ar, j < k → arrs[j]? = some ar → xs[j]? = ar[i]?) ∧ (∀ (j : Nat) it a, its[j]? = some it → as[j]? = some a → h'.IsListIter it a (if j < k then i + 1 else i)) ∧ h'.objs.size = s.heap.objs.size ∧ (∀ c o, c ≠ z → c ≠ TO → c ∉ its → s.heap.get? c = some o → h'.get? c = some o)) _ ?_ ?_ ?_)
  · refine ⟨xs0, s.toks, g0, rfl, hx0, hz0, (hs0.2 _ S.zTO).trans hTO, fun j ar z => absurd z (Nat.not_lt_zero _), fun j it a e1 e2 => ?_, hs0.1, fun c o c1 _ _ e => (hs0.2 _ c1).trans e⟩
    rw [if_neg (Nat.not_lt_zero _)]
    exact (hit j it a e1 e2).at fun o q => (hs0.2 _ (fun q' => S.zi (q' ▸ List.mem_of_getElem? e1))).trans q
  · intro k x s' ex hI
    obtain ⟨xs, tk, h1, rfl, hxl, hz1, hTO1, hdr, hi1, hsz1, hk1⟩ := hI
    have hk : k < its.length := by
      have := (List.getElem?_eq_some_iff.mp ex).1
      rwa [List.length_zipIdx, List.length_map] at this
    obtain ⟨it, eit⟩ : ∃ it, its[k]? = some it := ⟨_, List.getElem?_eq_getElem hk⟩
    obtain ⟨a, ea⟩ : ∃ a, as[k]? = some a := ⟨_, List.getElem?_eq_getElem (hl ▸ hk)⟩
    obtain ⟨ar, ear⟩ : ∃ ar, arrs[k]? = some ar := ⟨_, List.getElem?_eq_getElem (hl2 ▸ hk)⟩
    have exx : x = (.ref it, k) := by
      rw [List.getElem?_zipIdx, List.getElem?_map, eit] at ex
      simpa using ex.symm
    subst exx
    have mit := List.mem_of_getElem? eit
    have ma := List.mem_of_getElem? ea
    have nai : a ≠ it := fun q => S.ai a ma (q ▸ mit)
    have hla : h1.IsList a ar := by
      obtain ⟨o, ho, r⟩ := hls k a ar ea ear
      exact ⟨o, hk1 a o (fun q => S.za (q ▸ ma)) (fun q => S.TOa (q ▸ ma)) (S.ai a ma) ho, r⟩
    have hia := hi1 k it a eit ea
    rw [if_neg (Nat.lt_irrefl _)] at hia
    have D := Draws.list (prog := prog) (w := w) (A := A) hd it a nai ar
    refine wpAny_bind (wpAny_onRaise ?_)
    show wpAny _ _ (Builtin.SmallTypes.nextOf (.ref it) >>= fun a => pure (some a)) _ _ _
    refine wpAny_bind (D.item i _ _ _ (hlt ar (List.mem_of_getElem? ear)) ⟨hia, hla⟩ fun v h2 tk2 hv st2 hs2 => wpAny_pure ?_)
    have nTOit : TO ≠ it := fun q => S.TOi (q ▸ mit)
    have hTO2 : IsTup h2 TO xs := (hs2.2 _ nTOit).trans hTO1
    refine wpAny_bind (wpAny_seqItems hTO2 rfl ?_)
    refine wpAny_bind (upd_tup hTO2 (by omega) fun h3 hTO3 hs3 => ?_)
    refine wpAny_bind (wpAny_letGo (wpAny_pure ⟨rfl, xs.set k v, tk2, h3, rfl, by rw [List.length_set]; exact hxl, ?_, hTO3, fun j ar' hj ej => ?_, fun j it' a' ej ej2 => ?_, ?_, fun c o c1 c2 c3 e => ?_⟩))
    · exact (hs3.2 _ S.zTO.symm).trans ((hs2.2 _ (show z ≠ it from fun q => S.zi (q ▸ mit))).trans hz1)
    · by_cases hjk : j = k
      · subst hjk
        rw [ear] at ej
        cases ej
        rw [List.getElem?_set_self (by omega)]
        exact hv.symm
      · rw [List.getElem?_set_ne (Ne.symm hjk)]
        exact hdr j ar' (by omega) ej
    · have mj := List.mem_of_getElem? ej
      by_cases hjk : j = k
      · subst hjk
        rw [eit] at ej
        cases ej
        rw [ea] at ej2
        cases ej2
        rw [if_pos (Nat.lt_succ_self _)]
        exact st2.1.at fun o q => (hs3.2 _ nTOit.symm).trans q
      · have nij : it' ≠ it := fun q => by
          subst q
          exact hjk ((List.getElem?_inj (List.getElem?_eq_some_iff.mp ej).1 S.nd).mp (ej.trans eit.symm))
        have old := hi1 j it' a' ej ej2
        have nx := old.at (h' := h3) fun o q => (hs3.2 _ (fun q' => S.TOi (q' ▸ mj))).trans ((hs2.2 _ nij).trans q)
        by_cases hlt' : j < k
        · rw [if_pos hlt'] at nx
          rw [if_pos (by omega)]
          exact nx
        · rw [if_neg hlt'] at nx
          rw [if_neg (by omega)]
          exact nx
    · rw [hs3.1, hs2.1]
      exact hsz1
    · exact (hs3.2 _ c2).trans ((hs2.2 _ (show c ≠ it from fun q => c3 (q ▸ mit))).trans (hk1 c o c1 c2 c3 e))
  · intro s' hI
    obtain ⟨xs, tk, h1, rfl, hxl, hz1, hTO1, hdr, hi1, hsz1, hk1⟩ := hI
    rw [List.length_zipIdx, List.length_map] at hdr hi1
    refine wpAny_bind (wpAny_seqItems hTO1 rfl ?_)
    refine wpAny_bind (wpAny_newTuple ?_ (by rw [List.toList_toArray, hxl]; exact Nat.le_trans hn (by decide)))
    have hzlt : z < h1.objs.size := Heap.lt_size hz1
    have nzN : h1.objs.size ≠ z := Nat.ne_of_gt hzlt
    unfold Builtin.SmallTypes.ownedTupleHandOut
    refine wpAny_bind ?_
    refine wpAny_bind (wpAny_setField_rec (Heap.get?_push_of_some _ hz1) (by simp) fun h7 hz7 hs7 => ?_)
    refine wpAny_setField_rec hz7 (by simp) fun h8 hz8 hs8 => ?_
    have up : ∀ c o, c ≠ z → h1.get? c = some o → h8.get? c = some o := fun c o c1 e => (hs8.2 _ c1).trans ((hs7.2 _ c1).trans (Heap.get?_push_of_some _ e))
    refine wpAny_pure ⟨_, rfl, ?_⟩
    have hN : h8.get? h1.objs.size = some { cls := .type "tuple", data := .seq xs.toArray } := (hs8.2 _ nzN).trans ((hs7.2 _ nzN).trans (Heap.get?_push_size h1 rfl))
    rw [hsz1] at hN hz8
    show Q (.ref h1.objs.size) _
    rw [hsz1]
    refine hQ xs h8 tk hxl (fun j ar e => hdr j ar ?_ e) hz8 (up _ _ S.zTO hTO1) (fun j it a e1 e2 => ?_) hN ?_ (fun c o c1 c2 c3 e => up c o c1 (hk1 c o c1 c2 c3 e))
    · have := (List.getElem?_eq_some_iff.mp e).1
      omega
    · have old := hi1 j it a e1 e2
      rw [if_pos (List.getElem?_eq_some_iff.mp e1).1] at old
      exact old.at fun o q => up _ o (fun q' => S.zi (q' ▸ List.mem_of_getElem? e1)) q
    · rw [hs8.1, hs7.1, Heap.size_push, hsz1]
theorem zipN_next_end {prog : Program} {w : World} {A : Around} {E : Value → Shared → Prop} {s : Shared} {z TI TO it a : Addr} {its as : List Addr} {ar : Array Value} {Q : PySem.Fin → Shared → Prop} (S : SepN z TI TO (it :: its) (a :: as)) (hd : A.handled = none)
    (hz : IsZip s.heap z TI TO .none) (hTI : IsTup s.heap TI ((it :: its).map .ref)) (hit : s.heap.IsListIter it a ar.size) (hls : s.heap.IsList a ar)
    (hE : ∀ (h' : Heap) (e : Addr), (∀ c o, c ≠ z → c ∉ it :: its → s.heap.get? c = some o → h'.get? c = some o) → (∃ o, h'.get? e = some o ∧ o.cls = Value.type "StopIteration") → E (.ref e) { heap := h', gens := s.gens, drawn := s.drawn, toks := s.toks, os := s.os }) :
    wpAny (model prog w) A (Builtin.«zip.__next__» { pos := [Value.ref z] }) Q E s := by
  unfold Builtin.«zip.__next__»
  refine wpAny_bind ?_
  show wpAny _ _ (pure (Value.ref z, [])) _ _ _
  refine wpAny_pure ?_
  refine wpAny_bind (wpAny_field hz rfl rfl ?_)
  refine wpAny_bind (wpAny_field hz rfl rfl ?_)
  refine wpAny_bind (wpAny_seqItems hTI rfl ?_)
  have e0 : ((it :: its).map Value.ref).toArray.isEmpty = false := by simp
  simp only [e0]
  refine wpAny_bind ?_
  unfold Builtin.SmallTypes.ownedTupleIsFree
  refine wpAny_bind (wpAny_field hz rfl rfl (wpAny_pure ?_))
  rw [if_pos rfl]
  refine wpAny_bind (wpAny_rule ?_)
  refine wpAny_bind (wpAny_field hz rfl rfl ?_)
  refine wpAny_bind (wpAny_setField_rec hz (by simp) fun g0 hz0 hs0 => ?_)
  have mit : it ∈ it :: its := List.mem_cons_self ..
  have ma : a ∈ a :: as := List.mem_cons_self ..
  have nzi : z ≠ it := fun q => S.zi (q ▸ mit)
  have nza : z ≠ a := fun q => S.za (q ▸ ma)
  have nai : a ≠ it := fun q => S.ai a ma (q ▸ mit)
  have D := Draws.list (prog := prog) (w := w) (A := A) hd it a nai ar
  have hit0 : g0.IsListIter it a ar.size := hit.at fun o q => (hs0.2 _ nzi.symm).trans q
  have hls0 : g0.IsList a ar := by
    obtain ⟨o, ho, r⟩ := hls
    exact ⟨o, (hs0.2 _ nza.symm).trans ho, r⟩
  refine wpAny_bind ?_
  rw [List.map_cons, List.zipIdx_cons, List.forIn_cons]
  refine wpAny_bind (wpAny_bind (wpAny_onRaise ?_))
  show wpAny _ _ (Builtin.SmallTypes.nextOf (.ref it) >>= fun a => pure (some a)) _ _ _
  refine wpAny_bind (D.done _ _ _ ⟨hit0, hls0⟩ fun h1 e ext he => ?_)
  refine wpAny_setField_rec (ext _ _ nzi hz0) (by simp) fun h2 hz2 hs2 => ?_
  obtain ⟨o, ho, hc⟩ := he
  have nez : e ≠ z := fun q => by
    rw [q, ext _ _ nzi hz0] at ho
    rw [← Option.some.inj ho] at hc
    exact absurd (Value.type.inj hc) (by decide)
  exact hE h2 e (fun c o c1 c2 q => (hs2.2 _ c1).trans (ext _ _ (fun q' => c2 (q' ▸ mit)) ((hs0.2 _ c1).trans q))) ⟨o, (hs2.2 _ nez).trans ho, hc⟩
theorem pyNext_zipN_item {prog : Program} {w : World} {A : Around} {E : Value → Shared → Prop} {s : Shared} {z TI TO : Addr} {its as : List Addr} {arrs : List (Array Value)} {i : Nat} {xs0 : List Value} {Q : Option Value → Shared → Prop} (S : SepN z TI TO its as) (hd : A.handled = none) (hl : as.length = its.length) (hl2 : arrs.length = its.length) (ne : its ≠ []) (hn : its.length ≤ 16)
    (hz : IsZip s.heap z TI TO .none) (hTI : IsTup s.heap TI (its.map .ref)) (hTO : IsTup s.heap TO xs0) (hx0 : xs0.length = its.length)
    (hit : ∀ (j : Nat) it a, its[j]? = some it → as[j]? = some a → s.heap.IsListIter it a i) (hls : ∀ (j : Nat) a ar, as[j]? = some a → arrs[j]? = some ar → s.heap.IsList a ar) (hlt : ∀ ar ∈ arrs, i < ar.size)
    (hQ : ∀ (xs : List Value) (h' : Heap) (tk : Nat), xs.length = its.length → (∀ (j : Nat) ar, arrs[j]? = some ar → xs[j]? = ar[i]?) → IsZip h' z TI TO (rawInt ↑s.heap.objs.size) → IsTup h' TO xs → (∀ (j : Nat) it a, its[j]? = some it → as[j]? = some a → h'.IsListIter it a (i + 1)) → IsTup h' s.heap.objs.size xs → h'.objs.size = s.heap.objs.size + 1 →
      (∀ c o, c ≠ z → c ≠ TO → c ∉ its → s.heap.get? c = some o → h'.get? c = some o) → Q (some (.ref s.heap.objs.size)) { heap := h', gens := s.gens, drawn := s.drawn, toks := tk, os := s.os }) :
    wpAny (model prog w) A (pyNext (Value.ref z)) Q E s := by
  have hT : s.TypeIs (Value.ref z) "zip" := ⟨_, hz, rfl⟩
  exact wpAny_bind (wpAny_attempt (wpAny_callSpecial?_slot hT F.slot_zip_next (wpAny_call_entry F.slot_zip_next hT F.entry_zip_next (zipN_next_item (A := A.in1) S hd hl hl2 ne hn hz hTI hTO hx0 hit hls hlt fun xs h' tk y1 y2 y3 y4 y5 y6 y7 y8 => wpAny_pure (hQ xs h' tk y1 y2 y3 y4 y5 y6 y7 y8)) (F.args_zip_next_1 (Value.ref z)))))
theorem pyNext_zipN_end {prog : Program} {w : World} {A : Around} {E : Value → Shared → Prop} {s : Shared} {z TI TO it a : Addr} {its as : List Addr} {ar : Array Value} {Q : Option Value → Shared → Prop} (S : SepN z TI TO (it :: its) (a :: as)) (hd : A.handled = none)
    (hz : IsZip s.heap z TI TO .none) (hTI : IsTup s.heap TI ((it :: its).map .ref)) (hit : s.heap.IsListIter it a ar.size) (hls : s.heap.IsList a ar)
    (hQ : ∀ (h' : Heap), (∀ c o, c ≠ z → c ∉ it :: its → s.heap.get? c = some o → h'.get? c = some o) → Q none { heap := h', gens := s.gens, drawn := s.drawn, toks := s.toks, os := s.os }) :
    wpAny (model prog w) A (pyNext (Value.ref z)) Q E s := by
  have hT : s.TypeIs (Value.ref z) "zip" := ⟨_, hz, rfl⟩
  refine wpAny_bind (wpAny_attempt (wpAny_callSpecial?_slot hT F.slot_zip_next (wpAny_call_entry F.slot_zip_next hT F.entry_zip_next (zipN_next_end (A := A.in1) S hd hz hTI hit hls fun h' e hk he => ?_) (F.args_zip_next_1 (Value.ref z)))))
  obtain ⟨o, ho, hc⟩ := he
  exact wpAny_bind (wpAny_isInstance ⟨o, ho, hc⟩ isSubtype_stop (wpAny_pure (hQ h' hk)))
theorem forIn_acc {α β : Type} {M : Model} {A : Around} {E : Value → Shared → Prop} {body : α → β → Sem (ForInStep β)} {Q : β → Shared → Prop} :
    ∀ (L : List α) (Iv : Nat → β → Shared → Prop) (b : β) (s : Shared), Iv 0 b s → (∀ k x b s, L[k]? = some x → Iv k b s → wpAny M A (body x b) (fun r s' => ∃ b', r = .yield b' ∧ Iv (k + 1) b' s') E s) → (∀ b s, Iv L.length b s → Q b s) → wpAny M A (forIn L b body) Q E s
  | [], Iv, b, s, h0, _, hq => by rw [List.forIn_nil]; exact wpAny_pure (hq b s h0)
  | x :: r, Iv, b, s, h0, st, hq => by
    rw [List.forIn_cons]
    refine wpAny_bind (wpAny_mono (st 0 x b s rfl h0) (fun t s' h => ?_) (fun _ _ h => h))
    obtain ⟨b', rfl, h⟩ := h
    exact forIn_acc r (fun k => Iv (k + 1)) b' s' h (fun k x b s e => st (k + 1) x b s e) hq
def refsFrom (N n : Nat) : List Value := (List.range n).map fun j => Value.ref (N + j)
theorem iterAll_lists {prog : Program} {w : World} {A : Around} {E : Value → Shared → Prop} {s : Shared} {as : List Addr} {Q : List Value → Shared → Prop} (hls : ∀ a ∈ as, ∃ ar, s.heap.IsList a ar)
    (hQ : ∀ h' : Heap, h'.objs.size = s.heap.objs.size + as.length → (∀ c o, s.heap.get? c = some o → h'.get? c = some o) → (∀ (j : Nat) a, as[j]? = some a → h'.IsListIter (s.heap.objs.size + j) a 0) → Q (refsFrom s.heap.objs.size as.length) { heap := h', gens := s.gens, drawn := s.drawn, toks := s.toks, os := s.os }) :
    wpAny (model prog w) A (Builtin.SmallTypes.iterAll (as.map Value.ref)) Q E s := by
  unfold Builtin.SmallTypes.iterAll
  refine wpAny_bind (forIn_acc _ (fun k (b : Array Value) s' => ∃ h' : Heap, s' = { heap := h', gens := s.gens, drawn := s.drawn, toks := s.toks, os := s.os } ∧ b.toList = refsFrom s.heap.objs.size k ∧ h'.objs.size = s.heap.objs.size + k ∧ (∀ c o, s.heap.get? c = some o → h'.get? c = some o) ∧ ∀ (j : Nat) a, j < k → as[j]? = some a → h'.IsListIter (s.heap.objs.size + j) a 0) _ _ ?_ ?_ ?_)
  · exact ⟨s.heap, rfl, rfl, rfl, fun _ _ e => e, fun j a z => absurd z (Nat.not_lt_zero _)⟩
  · intro k x b s' ex hI
    obtain ⟨h1, rfl, eb, hsz, hk, hi⟩ := hI
    obtain ⟨a, ea, rfl⟩ : ∃ a, as[k]? = some a ∧ x = .ref a := by
      rw [List.getElem?_map] at ex
      cases e : as[k]? with
      | none => rw [e] at ex; cases ex
      | some a => rw [e] at ex; exact ⟨a, rfl, (Option.some.inj ex).symm⟩
    obtain ⟨ar, har⟩ := hls a (List.mem_of_getElem? ea)
    have har1 : h1.IsList a ar := by
      obtain ⟨o, ho, r⟩ := har
      exact ⟨o, hk _ _ ho, r⟩
    refine wpAny_bind (wpAny_holding ((begins_list a ar).iter prog w _ _ _ _ har1 (wpAny_pure ?_)))
    refine ⟨_, rfl, _, rfl, ?_, ?_, fun c o e => Heap.get?_push_of_some _ (hk c o e), fun j a' hj ej => ?_⟩
    · rw [Array.toList_push, eb]
      unfold refsFrom
      rw [List.range_succ, List.map_append]
      show _ ++ [Value.ref h1.objs.size] = _
      rw [hsz]
      rfl
    · rw [Heap.size_push, hsz]
      rfl
    · by_cases hjk : j < k
      · exact (hi j a' hjk ej).at fun o q => Heap.get?_push_of_some _ q
      · have : j = k := by omega
        subst this
        rw [ea] at ej
        cases ej
        refine ⟨{ cls := .type "list_iterator", data := .fields #[.ref a, .int 0 0] }, ?_, rfl, rfl⟩
        rw [← hsz]
        exact Heap.get?_push_size h1 rfl
  · intro b s' hI
    obtain ⟨h1, rfl, eb, hsz, hk, hi⟩ := hI
    rw [List.length_map] at eb hsz hi
    refine wpAny_pure ?_
    rw [eb]
    exact hQ h1 hsz hk fun j a e => hi j a (List.getElem?_eq_some_iff.mp e).1 e
theorem meets_zipN {as : List Addr} (hn : as.length ≤ 16) : Meets (Builtin.«zip.__new__» { pos := Value.type "zip" :: as.map Value.ref }) fun _ R s => (∀ a ∈ as, ∃ ar, s.heap.IsList a ar) ∧
    ∀ h' : Heap, IsZip h' (s.heap.objs.size + as.length + 2) (s.heap.objs.size + as.length) (s.heap.objs.size + as.length + 1) .none → IsTup h' (s.heap.objs.size + as.length) (refsFrom s.heap.objs.size as.length) → IsTup h' (s.heap.objs.size + as.length + 1) ((refsFrom s.heap.objs.size as.length).map fun _ => Value.none) →
      (∀ (j : Nat) a, as[j]? = some a → h'.IsListIter (s.heap.objs.size + j) a 0) → (∀ c o, s.heap.get? c = some o → h'.get? c = some o) → R (.ok (.ret (.ref (s.heap.objs.size + as.length + 2)))) { heap := h', gens := s.gens, drawn := s.drawn, toks := s.toks, os := s.os } := by
  refine Meets.of_wp fun prog w A R s h => ?_
  obtain ⟨hls, hR⟩ := h
  have lenR : (refsFrom s.heap.objs.size as.length).length = as.length := by unfold refsFrom; rw [List.length_map, List.length_range]
  unfold Builtin.«zip.__new__»
  refine wpAny_bind ?_
  show wpAny _ _ (pure (Value.type "zip", as.map Value.ref)) _ _ _
  refine wpAny_pure ?_
  refine wpAny_ite_false rfl ?_
  refine wpAny_bind (iterAll_lists hls fun h1 hsz hk hi => ?_)
  refine wpAny_bind (wpAny_newTuple ?_ (by rw [lenR]; exact Nat.le_trans hn (by decide)))
  refine wpAny_bind (wpAny_newTuple ?_ (by rw [List.length_map, lenR]; exact Nat.le_trans hn (by decide)))
  have q1 : ((h1.push { cls := .type "tuple", data := .seq (refsFrom s.heap.objs.size as.length).toArray }).objs.size) = s.heap.objs.size + as.length + 1 := by rw [Heap.size_push, hsz]
  have q2 : (((h1.push { cls := .type "tuple", data := .seq (refsFrom s.heap.objs.size as.length).toArray }).push { cls := .type "tuple", data := .seq ((refsFrom s.heap.objs.size as.length).map fun _ => Value.none).toArray }).objs.size) = s.heap.objs.size + as.length + 2 := by rw [Heap.size_push, q1]
  refine wpAny_bind ?_
  unfold Builtin.SmallTypes.newRecord newObj
  refine wpAny_ite_false rfl ?_
  refine wpAny_bind (wpAny_alloc' (wpAny_pure (wpAny_pure ⟨_, rfl, ?_⟩)))
  dsimp only
  rw [q2]
  refine hR _ ?_ ?_ ?_ (fun j a e => (hi j a e).at fun o q => ?_) fun c o e => ?_
  · rw [← q2, ← q1, ← hsz]
    exact Heap.get?_push_size _ rfl
  · rw [← hsz]
    exact Heap.get?_push_of_some _ (Heap.get?_push_of_some _ (Heap.get?_push_size h1 rfl))
  · rw [← q1]
    exact Heap.get?_push_of_some _ (Heap.get?_push_size _ rfl)
  · exact Heap.get?_push_of_some _ (Heap.get?_push_of_some _ (Heap.get?_push_of_some _ q))
  · exact Heap.get?_push_of_some _ (Heap.get?_push_of_some _ (Heap.get?_push_of_some _ (hk c o e)))
theorem vals_of : ∀ {ys : List V} {us : List Value}, ys.length = us.length → (∀ (j : Nat) y u, ys[j]? = some y → us[j]? = some u → RelV y u) → Vals ys us
  | [], [], _, _ => .nil
  | y :: r, u :: t, h, q => .cons (q 0 y u rfl rfl) (vals_of (by simpa using h) fun j => q (j + 1))
def ItzN (K : PySem.W.Frag) (as : List Addr) : It :=
  ⟨fun i H => ∀ a ∈ as, ∃ xs, SqL K H a xs ∧ i < xs.length,
    fun i H v H' => ∃ (T : Addr) (ys : List V), v = .ref T ∧ H T = none ∧ H' = upd H T (.tup ys) ∧ ys.length = as.length ∧ ∀ (j : Nat) a y, as[j]? = some a → ys[j]? = some y → ∀ xs, SqL K H a xs → xs[i]? = some y,
    fun i H => ∀ a ∈ as, ∃ xs, SqL K H a xs ∧ i = xs.length⟩
theorem turn_zipN {P : Program} {w : World} {K : PySem.W.Frag} {elts : List Expr} {kk : Nat} {tpos : Pos} {z TI TO : Addr} {its as : List Addr} (S : SepN z TI TO its as) (hl : as.length = its.length) (ne : its ≠ []) (hn : its.length ≤ 16) :
    Turn P w K (.Tuple elts kk tpos) (ItzN K as) (z :: TI :: TO :: its) z (fun i h => IsZip h z TI TO .none ∧ IsTup h TI (its.map .ref) ∧ (∃ xs, xs.length = its.length ∧ IsTup h TO xs) ∧ ∀ (j : Nat) it a, its[j]? = some it → as[j]? = some a → h.IsListIter it a i) where
  mem := List.mem_cons_self ..
  obj := fun i h st c hc => by
    obtain ⟨hz, hTI, ⟨xs, hx, hTO⟩, hit⟩ := st
    rcases List.mem_cons.mp hc with q | hc
    · rw [q]; exact ⟨_, hz, fun v q => nomatch q⟩
    rcases List.mem_cons.mp hc with q | hc
    · rw [q]; exact ⟨_, hTI, fun v q => nomatch q⟩
    rcases List.mem_cons.mp hc with q | hc
    · rw [q]; exact ⟨_, hTO, fun v q => nomatch q⟩
    obtain ⟨j, hj, ej⟩ := List.mem_iff_getElem.mp hc
    obtain ⟨o, e, _, d⟩ := hit j c as[j] (by rw [List.getElem?_eq_getElem hj, ej]) (List.getElem?_eq_getElem (hl ▸ hj))
    exact ⟨o, e, fun v q => by rw [d] at q; cases q⟩
  keep := fun i h h' st k => by
    obtain ⟨hz, hTI, ⟨xs, hx, hTO⟩, hit⟩ := st
    refine ⟨k z (by simp) _ hz, k TI (by simp) _ hTI, ⟨xs, hx, k TO (by simp) _ hTO⟩, fun j it a e1 e2 => (hit j it a e1 e2).at fun o q => k it ?_ o q⟩
    have := List.mem_of_getElem? e1
    simp [this]
  item := by
    intro X hP hw hK hc i pins s σ H E I hf st hg
    subst hP hw hK
    obtain ⟨hz, hTI, ⟨xs0, hx0, hTO⟩, hit⟩ := st
    have ch : ∀ a, ∃ xu : List V × List Value, a ∈ as → SqL X.K H a xu.1 ∧ i < xu.1.length ∧ Vals xu.1 xu.2 ∧ s.heap.IsList a xu.2.toArray := fun a => by
      by_cases h : a ∈ as
      · obtain ⟨xs, h1, h2⟩ := hg a h
        obtain ⟨us, rv, p, _⟩ := I.list h1
        exact ⟨(xs, us), fun _ => ⟨h1, h2, rv, p.isList⟩⟩
      · exact ⟨([], []), fun z => absurd z h⟩
    obtain ⟨g, hgv⟩ := Classical.axiomOfChoice ch
    have hzl : z < s.heap.objs.size := Heap.lt_size hz
    refine pyNext_zipN_item (arrs := as.map fun a => (g a).2.toArray) S (I.ok.hd hc) hl (by rw [List.length_map, hl]) ne hn hz hTI hTO hx0 hit (fun j a ar e1 e2 => ?_) (fun ar har => ?_) fun us h' tk yl ydr z' TO' hi' hT hsz hk => ?_
    · rw [List.getElem?_map, e1] at e2
      cases e2
      exact (hgv a (List.mem_of_getElem? e1)).2.2.2
    · obtain ⟨a, ha, rfl⟩ := List.mem_map.mp har
      rw [List.size_toArray, ← (hgv a ha).2.2.1.length]
      exact (hgv a ha).2.1
    refine ⟨_, rfl, wpAny_letOwnedTupleGo_zip (s := { s with heap := h', toks := tk }) z' fun h'' z'' sb => ?_⟩
    have hT2 : h''.get? s.heap.objs.size = some { cls := .type "tuple", data := .seq us.toArray } := (sb.2 _ (Nat.ne_of_gt hzl)).trans hT
    have vals : Vals (as.map fun a => (g a).1.getD i .non) us := vals_of (by rw [List.length_map, yl, hl]) fun j y u ey eu => by
      rw [List.getElem?_map] at ey
      cases ea : as[j]? with
      | none => rw [ea] at ey; cases ey
      | some a =>
        rw [ea] at ey
        have ma := List.mem_of_getElem? ea
        have q := ydr j (g a).2.toArray (by rw [List.getElem?_map, ea]; rfl)
        rw [eu] at q
        have lt := (hgv a ma).2.1
        obtain ⟨u', hu', ru⟩ := (hgv a ma).2.2.1.get (List.getElem?_eq_getElem lt)
        have : (g a).2.toArray[i]? = some u' := by simpa using hu'
        rw [this] at q
        cases q
        have ey' : (g a).1.getD i .non = y := Option.some.inj ey
        rw [← ey', List.getD_eq_getElem?_getD, List.getElem?_eq_getElem lt]
        exact ru
    have new : ObjOk X.prog X.w (upd H s.heap.objs.size (.tup (as.map fun a => (g a).1.getD i .non))) h'' s.heap.objs.size (.tup (as.map fun a => (g a).1.getD i .non)) :=
      ⟨by rw [List.length_map, hl]; exact Nat.le_trans hn (by decide), us, vals, ⟨_, hT2, rfl, _, rfl⟩⟩
    have past : ∀ c o, c ∉ z :: TI :: TO :: its → s.heap.get? c = some o → h''.get? c = some o := fun c o hb q => (sb.2 c (fun q' => hb (by simp [q']))).trans (hk c o (fun q' => hb (by simp [q'])) (fun q' => hb (by simp [q'])) (fun q' => hb (by simp [q'])) q)
    have I1 : Inv X pins σ (upd H s.heap.objs.size (.tup (as.map fun a => (g a).1.getD i .non))) { s with heap := h'', toks := tk } := I.turnedNew (t' := tk) (ch := z :: TI :: TO :: its) past hf (Nat.le_refl _) new
    refine ⟨.ref s.heap.objs.size, _, I1, rfl, ⟨_, _, rfl, I.hok.fresh (Nat.le_refl _), rfl, by rw [List.length_map], fun j a y ea ey l hq => ?_⟩, ⟨z'', ?_, ⟨us, yl, ?_⟩, fun j it a e1 e2 => ?_⟩, fun c hcm => ?_⟩
    · have ma := List.mem_of_getElem? ea
      rw [List.getElem?_map, ea] at ey
      have ey' : (g a).1.getD i .non = y := Option.some.inj ey
      rw [I.list_inj hq (hgv a ma).1, ← ey', List.getD_eq_getElem?_getD, List.getElem?_eq_getElem (hgv a ma).2.1]
      rfl
    · exact (sb.2 _ S.zTI).trans (hk _ _ S.zTI S.TITO S.TIi hTI)
    · exact (sb.2 _ S.zTO).trans TO'
    · exact (hi' j it a e1 e2).at fun o q => (sb.2 _ (fun q' => S.zi (q' ▸ List.mem_of_getElem? e1))).trans q
    · have hlt : c < s.heap.objs.size := by
        rcases List.mem_cons.mp hcm with q | hcm
        · rw [q]; exact hzl
        rcases List.mem_cons.mp hcm with q | hcm
        · rw [q]; exact Heap.lt_size hTI
        rcases List.mem_cons.mp hcm with q | hcm
        · rw [q]; exact Heap.lt_size hTO
        obtain ⟨j, hj, ej⟩ := List.mem_iff_getElem.mp hcm
        obtain ⟨o, e, _⟩ := hit j c as[j] (by rw [List.getElem?_eq_getElem hj, ej]) (List.getElem?_eq_getElem (hl ▸ hj))
        exact Heap.lt_size e
      rw [upd_ne (Nat.ne_of_lt hlt)]
      exact (hf c (by simp only [List.mem_cons]; rcases List.mem_cons.mp hcm with q | q; exact .inl q; rcases List.mem_cons.mp q with q | q; exact .inr (.inl q); rcases List.mem_cons.mp q with q | q; exact .inr (.inr (.inl q)); exact .inr (.inr (.inr q)))).1
  done := by
    intro X hP hw hK hc i pins s σ H E I hf st hg
    subst hP hw hK
    obtain ⟨hz, hTI, ⟨xs0, hx0, hTO⟩, hit⟩ := st
    cases its with
    | nil => exact absurd rfl ne
    | cons it its =>
      cases as with
      | nil => cases hl
      | cons a as =>
        obtain ⟨xs, h1, h2⟩ := hg a (List.mem_cons_self ..)
        obtain ⟨us, rv, p, _⟩ := I.list h1
        have h0 := hit 0 it a rfl rfl
        rw [show i = us.toArray.size by rw [List.size_toArray, ← rv.length, h2]] at h0
        refine pyNext_zipN_end S (I.ok.hd hc) hz hTI h0 p.isList fun h' hk => ⟨rfl, I.turnedL (t' := s.toks) (ch := z :: TI :: TO :: it :: its) (fun c o hb q => hk c o (fun q' => hb (by simp [q'])) (fun q' => hb (by simp only [List.mem_cons] at q' ⊢; exact .inr (.inr (.inr q')))) q) hf⟩
  self := fun A i s Q E st h => wpAny_pyIter_zip st.1 h
section
set_option maxRecDepth 100000
theorem typeCall5 (a b c d e : Value) : checkTypeCall "zip" { pos := [a, b, c, d, e] } = pure () := rfl
theorem newCall5 (a b c d e : Value) : checkBuiltinCall "zip.__new__" { pos := [Value.type "zip", a, b, c, d, e] } = pure () := by with_unfolding_all rfl
theorem initArgs5 (obj a b c d e : Value) : argsOk "object.__init__" { pos := [obj, a, b, c, d, e] } := by with_unfolding_all rfl
end
theorem mem_from {N n x : Nat} (hx : x ∈ (List.range n).map fun j => N + j) : N ≤ x ∧ x < N + n := by
  obtain ⟨j, hj, rfl⟩ := List.mem_map.mp hx
  have := List.mem_range.mp hj
  omega
theorem sepN_new (N n : Nat) (as : List Nat) (hlt : ∀ x ∈ as, x < N) : SepN (N + n + 2) (N + n) (N + n + 1) ((List.range n).map fun j => N + j) as := by
  refine ⟨show (N + n : Nat) ≠ N + n + 2 by omega, show (N + n + 1 : Nat) ≠ N + n + 2 by omega, show (N + n : Nat) ≠ N + n + 1 by omega, fun z => ?_, fun z => ?_, fun z => ?_, ?_, fun z => ?_, fun z => ?_, fun x hx z => ?_⟩
  · have : (N + n + 2 : Nat) < N + n := (mem_from z).2
    omega
  · have : (N + n : Nat) < N + n := (mem_from z).2
    omega
  · have : (N + n + 1 : Nat) < N + n := (mem_from z).2
    omega
  · exact List.pairwise_map.mpr (List.Pairwise.imp (fun {a b} (hne : (a : Nat) ≠ b) (z : (N + a : Nat) = N + b) => hne (by omega)) List.nodup_range)
  · have : (N + n + 2 : Nat) < N := hlt _ z
    omega
  · have : (N + n + 1 : Nat) < N := hlt _ z
    omega
  · exact absurd (hlt _ hx) (Nat.not_lt_of_le (mem_from z).1)
def iZip5 (K : PySem.W.Frag) (ta : TA) : TI := fun σ H R => ta σ H fun vs H1 => ∃ a b c d e : Addr, vs = [.ref a, .ref b, .ref c, .ref d, .ref e] ∧ (∀ x ∈ [a, b, c, d, e], ∃ xs, SqL K H1 x xs) ∧ R (ItzN K [a, b, c, d, e]) H1
theorem pi_zip5 {X : Cx} {e1 e2 e3 e4 e5 : Expr} {ta : TA} {p pos tpos : Pos} {elts : List Expr} {kk : Nat} (hg : Gl X "zip") (hm : X.mg "zip" = none) (ha : PA X [e1, e2, e3, e4, e5] ta)
    (hs : starEach [e1, e2, e3, e4, e5] X.env = (false, eval e1 X.env) :: starEach [e2, e3, e4, e5] X.env := by rfl) (hpl : (backTo pos (starEach [e2, e3, e4, e5] X.env)).any (·.1) = false := by rfl) :
    PI X (.Tuple elts kk tpos) (.Call (.Name "zip" p) [e1, e2, e3, e4, e5] [] pos) (iZip5 X.K ta) := by
  refine ⟨fun pins s σ H R I h => ?_⟩
  refine Call_ (ld_blt I hg hm PyProof.Rows.boot_zip (PyProof.Rows.callWith_type1 (thn (ha.run pos pins s σ H _ I h) fun us s1 ⟨vs, H1, I1, r1, q1⟩ => ?_) hs hpl))
  obtain ⟨a, b, c, d, e, ex, hq, q⟩ := q1
  subst ex
  have hus : us = [a, b, c, d, e].map Value.ref := by
    cases r1 with
    | cons r r1 => cases r1 with
      | cons r' r1 => cases r1 with
        | cons r'' r1 => cases r1 with
          | cons r3 r1 => cases r1 with
            | cons r4 r1 => cases r1; cases r; cases r'; cases r''; cases r3; cases r4; rfl
  subst hus
  have hls : ∀ x ∈ [a, b, c, d, e], ∃ ar, s1.heap.IsList x ar := fun x hx => by
    obtain ⟨xs, h1⟩ := hq x hx
    obtain ⟨us, _, p, _⟩ := I1.list h1
    exact ⟨_, p.isList⟩
  have hlt : ∀ x ∈ [a, b, c, d, e], x < s1.heap.objs.size := fun x hx => by
    obtain ⟨_, o, ho, _⟩ := hls x hx
    exact Heap.lt_size ho
  revert hq q hls hlt
  generalize eas : [a, b, c, d, e] = as
  intro hq q hls hlt
  have hn : as.length = 5 := by subst eas; rfl
  refine callType_new F.called_zip (by decide) (by subst eas; exact typeCall5 ..) (by subst eas; exact newCall5 ..) (fun obj => by subst eas; exact initArgs5 ..) F.entry_zip_new (meets_zipN (as := as) (by rw [hn]; decide)) ⟨hls, fun h' hz hTI hTO hit hk => ⟨⟨_, hz, rfl⟩, ?_⟩⟩
  refine wpAny_pyIter_zip hz ?_
  have I2 : Inv X pins σ H1 { s1 with heap := h' } := I1.kept (t' := s1.toks) hk
  have its : refsFrom s1.heap.objs.size as.length = ((List.range as.length).map fun j => s1.heap.objs.size + j).map Value.ref := by unfold refsFrom; rw [List.map_map]; rfl
  have S := sepN_new s1.heap.objs.size as.length as hlt
  have fresh : ∀ x ∈ (s1.heap.objs.size + as.length + 2) :: (s1.heap.objs.size + as.length) :: (s1.heap.objs.size + as.length + 1) :: (List.range as.length).map (fun j => s1.heap.objs.size + j), FpOk X pins H1 x := fun x hx => by
    have hle : s1.heap.objs.size ≤ x := by
      simp only [List.mem_cons] at hx
      rcases hx with z | z | z | z
      · rw [z]; exact Nat.le_trans (Nat.le_add_right _ _) (Nat.le_add_right _ _)
      · rw [z]; exact Nat.le_add_right _ _
      · rw [z]; exact Nat.le_trans (Nat.le_add_right _ _) (Nat.le_add_right _ _)
      · exact (mem_from z).1
    exact I1.fpOk hle (I1.hok.fresh hle)
  refine ⟨s1.heap.objs.size + as.length + 2, _, _, _, H1, rfl, I2, turn_zipN S (by rw [List.length_map, List.length_range]) (fun z => ?_) (by rw [List.length_map, List.length_range, hn]; decide), ⟨hz, by rw [← its]; exact hTI, ⟨_, by simp [refsFrom], hTO⟩, fun j it x e1 e2 => ?_⟩, fresh, q⟩
  · have := congrArg List.length z
    rw [List.length_map, List.length_range, hn] at this
    cases this
  · have hj : j < as.length := (List.getElem?_eq_some_iff.mp e2).1
    rw [List.getElem?_map, List.getElem?_range hj] at e1
    cases e1
    exact hit j x e2
def Y5 (x1 x2 x3 x4 x5 : List V) : Nat → Hp → V → Hp → Prop := fun i H v H' => ∃ T a b c d e, v = .ref T ∧ H T = none ∧ H' = upd H T (.tup [a, b, c, d, e]) ∧ x1[i]? = some a ∧ x2[i]? = some b ∧ x3[i]? = some c ∧ x4[i]? = some d ∧ x5[i]? = some e
theorem walk_zip5 {K : PySem.W.Frag} {a b c d e : Addr} {x1 x2 x3 x4 x5 : List V} (h2 : x2.length = x1.length) (h3 : x3.length = x1.length) (h4 : x4.length = x1.length) (h5 : x5.length = x1.length) : Walk (ItzN K [a, b, c, d, e]) x1.length (fun H => SqL K H a x1 ∧ SqL K H b x2 ∧ SqL K H c x3 ∧ SqL K H d x4 ∧ SqL K H e x5) (Y5 x1 x2 x3 x4 x5) where
  goes := fun i _ hi q x hx => by
    simp only [List.mem_cons, List.not_mem_nil, or_false] at hx
    rcases hx with z | z | z | z | z
    · rw [z]; exact ⟨x1, q.1, hi⟩
    · rw [z]; exact ⟨x2, q.2.1, h2 ▸ hi⟩
    · rw [z]; exact ⟨x3, q.2.2.1, h3 ▸ hi⟩
    · rw [z]; exact ⟨x4, q.2.2.2.1, h4 ▸ hi⟩
    · rw [z]; exact ⟨x5, q.2.2.2.2, h5 ▸ hi⟩
  stops := fun _ q x hx => by
    simp only [List.mem_cons, List.not_mem_nil, or_false] at hx
    rcases hx with z | z | z | z | z
    · rw [z]; exact ⟨x1, q.1, rfl⟩
    · rw [z]; exact ⟨x2, q.2.1, h2.symm⟩
    · rw [z]; exact ⟨x3, q.2.2.1, h3.symm⟩
    · rw [z]; exact ⟨x4, q.2.2.2.1, h4.symm⟩
    · rw [z]; exact ⟨x5, q.2.2.2.2, h5.symm⟩
  yields := fun i H v H' _ q ⟨T, ys, g1, g2, g3, g4, g5⟩ => by
    match ys, g4 with
    | [y1, y2, y3, y4, y5], _ => exact ⟨T, y1, y2, y3, y4, y5, g1, g2, g3, g5 0 a y1 rfl rfl x1 q.1, g5 1 b y2 rfl rfl x2 q.2.1, g5 2 c y3 rfl rfl x3 q.2.2.1, g5 3 d y4 rfl rfl x4 q.2.2.2.1, g5 4 e y5 rfl rfl x5 q.2.2.2.2⟩

/-! ### _law_right -/
theorem for_zip5 {K : PySem.W.Frag} {a b c d e : Addr} {x1 x2 x3 x4 x5 : List V} {g : TG} {tb : TS} {D : Ends} {σ : L2.St} {H1 : Hp} (h2 : x2.length = x1.length) (h3 : x3.length = x1.length) (h4 : x4.length = x1.length) (h5 : x5.length = x1.length) (Pv : Nat → L2.St → Hp → Prop) (h0 : Pv 0 σ H1)
    (hs : ∀ i σ H', Pv i σ H' → SqL K H' a x1 ∧ SqL K H' b x2 ∧ SqL K H' c x3 ∧ SqL K H' d x4 ∧ SqL K H' e x5)
    (turn : ∀ i y1 y2 y3 y4 y5 T σ H, x1[i]? = some y1 → x2[i]? = some y2 → x3[i]? = some y3 → x4[i]? = some y4 → x5[i]? = some y5 → Pv i σ H → H T = none → g (.ref T) σ (upd H T (.tup [y1, y2, y3, y4, y5])) fun σ2 H2 => tb { D with nx := Pv (i + 1), ct := Pv (i + 1), bk := D.nx } σ2 H2) (fin : ∀ σ H, Pv x1.length σ H → D.nx σ H) :
    ForR (ItzN K [a, b, c, d, e]) g tb D σ H1 := by
  refine for_it (walk_zip5 h2 h3 h4 h5) Pv h0 (fun i σ H' _ p => hs i σ H' p) ?_ fin
  rintro i v σ H H' _ hp ⟨T, y1, y2, y3, y4, y5, rfl, nT, rfl, e1, e2, e3, e4, e5⟩
  exact turn i y1 y2 y3 y4 y5 T σ H e1 e2 e3 e4 e5 hp nT
abbrev sRight : Stmt := topS 15
theorem scRight : FnScope ["_law_one", "_law_other", "_law_sets", "_law_numbers", "_law_rows", "_law_first", "_law_second", "_law_all_of", "_law_both", "_law_rest", "_law_thing"] ["_law_one", "_law_other"] (defScope sRight) := ⟨rfl, rfl, rfl, by decide +kernel, rfl, by decide +kernel, by decide +kernel⟩
def spRight (K : PySem.W.Frag) : Sp := fun vs H Q _ => ∃ (a b : Addr) (ps qs : List (Int × Int)), vs = [.ref a, .ref b] ∧ PrA K H a ps ∧ PrA K H b qs ∧ Ris 0 ps ∧ Ris 0 qs ∧ ps.length ≤ 99 ∧ qs.length ≤ 99 ∧ ∀ H', Same H H' → Q (.bl true) H'
/-- the row of flags of a set -/
def RowA (H : Hp) (r : Addr) (ns : List Int) (ps : List (Int × Int)) : Prop := ∃ bs : List Bool, H r = some (.lst (bs.map V.bl)) ∧ bs.length = ns.length ∧ ∀ (i : Nat) b n, bs[i]? = some b → ns[i]? = some n → (b = true ↔ InS ps n)
theorem RowA.same {H H' : Hp} {r : Addr} {ns : List Int} {ps : List (Int × Int)} (h : RowA H r ns ps) (s : Same H H') : RowA H' r ns ps := let ⟨bs, e, q⟩ := h; ⟨bs, s _ _ e, q⟩
theorem bl_at {bs : List Bool} {i : Nat} {y : V} (h : (bs.map V.bl)[i]? = some y) : ∃ c, bs[i]? = some c ∧ y = .bl c := by
  rw [List.getElem?_map] at h
  cases e : bs[i]? with
  | none => rw [e] at h; cases h
  | some c => rw [e] at h; exact ⟨c, rfl, (Option.some.inj h).symm⟩
theorem shaped_bl3 (x y z : Bool) : SeqAt.shaped (PyData.list [.bool x, .bool y, .bool z]) = true := by
  cases x <;> cases y <;> cases z <;> rfl
theorem eqv_bl3 (x y z : Bool) : PyData.eqv (PyData.list [.bool x, .bool y, .bool z]) (PyData.list [.bool x, .bool y, .bool z]) = true := by
  cases x <;> cases y <;> cases z <;> simp [PyData.eqv, PyData.eqvAll]
section
variable {K : PySem.W.Frag} {mg : Str → Option Value} {P : Program} {w : World} {base : Heap}
theorem ok_right {f : Addr} {fd : FuncData} (F : Fun K "_law_right" "_law_right" sRight f fd) (CE : Cal P w K mg base 2 "either" ["one", "other"] (spEither K)) (CA : Cal P w K mg base 1 "both_of" ["one", "other"] (spBoth K)) (CW : Cal P w K mg base 3 "without" ["one", "other"] (spWithout K)) (CI : Cal P w K mg base 1 "_law_is_set" ["_law_thing"] spIsSet) (CP : Cal P w K mg base 1 "_law_probes" ["_law_lists"] (spProbes K)) (CF : Cal P w K mg base 1 "_law_flags" ["_law_some", "_law_numbers"] (spFlags K)) (ma : mg "all" = none) (mz : mg "zip" = none) :
    FnOk P w K mg base CX0 4 f fd ["_law_one", "_law_other"] (spRight K) := by
  refine F.ok scRight (fun vs H Q E h => ?_) (fun cdv A outer s H vs Q E hr h => ?_)
  · obtain ⟨a, b, ps, qs, rfl, _⟩ := h
    rfl
  · obtain ⟨a, b, ps, qs, rfl, ha, hb, hr1, hr2, hl1, hl2, q⟩ := h
    have r1 := hr.mono (show 1 ≤ 3 by decide)
    have r2 := hr.mono (show 2 ≤ 3 by decide)
    refine ⟨_, pss_cons (ps_set (i := 2) scRight.nd rfl (.inl rfl) (pe_lst (pa_cons (pe_own CE r2 (by rfl) (pa_cons (pv 0) (pa_cons (pv 1) pa_nil))) (pa_cons (pe_own CA r1 (by rfl) (pa_cons (pv 0) (pa_cons (pv 1) pa_nil))) (pa_cons (pe_own CW hr (by rfl) (pa_cons (pv 0) (pa_cons (pv 1) pa_nil))) pa_nil)))))
      (pss_cons (ps_if (pt_not (pt_val (pe_callB (cr_all rfl) (by rfl) ma (by decide +kernel) (pa_cons (pe_lc (own := [("_law_thing", 10)]) (g := gName 10) (tt := tYes) (te := tCall spIsSet [] E0 (tCons (tVar 10) tNil)) rfl scRight.nd (pi_list (pv 2))
          (blkOk_by (own := [("_law_thing", 10)]) (N := ["_law_one", "_law_other", "_law_sets", "_law_numbers", "_law_rows", "_law_first", "_law_second", "_law_all_of", "_law_both", "_law_rest", "_law_thing"]) (sc := defScope sRight) (by decide +kernel)) (fun _ _ _ _ _ => pg_name (i := 10) scRight.nd rfl (.inl rfl)) (fun _ _ _ _ _ => pts_nil) (fun _ _ _ _ _ => pe_own CI r1 (by rfl) (pa_cons (pv 10) pa_nil))) pa_nil)))) (pss_one (ps_ret pe_bl)) pss_nil)
      (pss_cons (ps_set (i := 3) scRight.nd rfl (.inr rfl) (pe_own CP r1 (by rfl) (pa_cons (pe_op op_cat (pe_lst (pa_cons (pv 0) (pa_cons (pv 1) pa_nil))) (pv 2)) pa_nil)))
      (pss_cons (ps_setLc (i := 4) (own := [("_law_thing", 10)]) (g := gName 10) (tt := tYes) (te := tCall (spFlags K) [] E0 (tCons (tVar 10) (tCons (tVar 3) tNil))) rfl scRight.nd rfl rfl rfl (pi_list (pe_op op_cat (pe_lst (pa_cons (pv 0) (pa_cons (pv 1) pa_nil))) (pv 2)))
          (blkOk_by (own := [("_law_thing", 10)]) (N := ["_law_one", "_law_other", "_law_sets", "_law_numbers", "_law_rows", "_law_first", "_law_second", "_law_all_of", "_law_both", "_law_rest", "_law_thing"]) (sc := defScope sRight) (by decide +kernel)) (fun _ _ _ _ _ => pg_name (i := 10) scRight.nd rfl (.inl rfl)) (fun _ _ _ _ _ => pts_nil) (fun _ _ _ _ _ => pe_own CF r1 (by rfl) (pa_cons (pv 10) (pa_cons (pv 3) pa_nil))))
      (pss_cons (ps_for PassesOwn.never rfl (pi_zip5 (by rfl) mz (pa_cons (pe_ix ix_list (pv 4) pe_int (fun _ _ => rfl)) (pa_cons (pe_ix ix_list (pv 4) pe_int (fun _ _ => rfl)) (pa_cons (pe_ix ix_list (pv 4) pe_int (fun _ _ => rfl)) (pa_cons (pe_ix ix_list (pv 4) pe_int (fun _ _ => rfl)) (pa_cons (pe_ix ix_list (pv 4) pe_int (fun _ _ => rfl)) pa_nil))))))
          (pg_tup rfl (pgs_cons (pg_name (i := 5) scRight.nd rfl (.inl rfl)) (pgs_cons (pg_name (i := 6) scRight.nd rfl (.inl rfl)) (pgs_cons (pg_name (i := 7) scRight.nd rfl (.inl rfl)) (pgs_cons (pg_name (i := 8) scRight.nd rfl (.inl rfl)) (pgs_cons (pg_name (i := 9) scRight.nd rfl (.inl rfl)) pgs_nil))))))
        (pss_one (ps_if (pt_cmpR (op_neD hr.units) (pe_lst (pa_cons (pv 7) (pa_cons (pv 8) (pa_cons (pv 9) pa_nil)))) (pe_lst (pa_cons (pe_mid (pe_or (pv 5) (pe_one (pv 6)))) (pa_cons (pe_mid (pe_and (pv 5) (pe_one (pv 6)))) (pa_cons (pe_mid (pe_and (pv 5) (pe_one (pe_not (pv 6))))) pa_nil)))) (nomark _)) (pss_one (ps_ret pe_bl)) pss_nil)))
      (pss_one (ps_ret pe_bl)))))), ?_⟩
    -- the three sets
    refine ⟨_, rfl, _, rfl, a, b, ps, qs, rfl, ha, hb, by omega, fun l1 s1 H1 n1 L1 t1 z1 m1 => ?_⟩
    refine ⟨_, rfl, _, rfl, a, b, ps, qs, rfl, ha.same m1, hb.same m1, ⟨0, hr1⟩, ⟨0, hr2⟩, by omega, fun l2 s2 H2 n2 L2 t2 z2 m2 => ?_⟩
    refine ⟨_, rfl, _, rfl, a, b, ps, qs, rfl, (ha.same m1).same m2, (hb.same m1).same m2, ⟨0, hr1⟩, ⟨0, hr2⟩, by omega, fun l3 s3 H3 n3 L3 t3 z3 m3 => ?_⟩
    refine ⟨(by show 3 ≤ sizeLine; decide), fun S nS => ?_⟩
    have mS := same_upd (o := .lst [.ref l1, .ref l2, .ref l3]) nS
    have M4 := ((m1.trans m2).trans m3).trans mS
    have L1' := ((L1.same m2).same m3).same mS
    have L2' := (L2.same m3).same mS
    have L3' := L3.same mS
    have eS : upd H3 S (.lst [.ref l1, .ref l2, .ref l3]) S = some (.lst [.ref l1, .ref l2, .ref l3]) := upd_same
    have ha4 := ha.same M4
    have hb4 := hb.same M4
    revert M4 L1' L2' L3' eS ha4 hb4
    generalize upd H3 S (.lst [.ref l1, .ref l2, .ref l3]) = H4
    intro M4 L1' L2' L3' eS ha4 hb4
    have q1 : Ris 0 s1 := t1.nneg fun n h => h.elim (fun h => hr1.low h) fun h => hr2.low h
    have q2 : Ris 0 s2 := t2.nneg fun n h => hr1.low h.1
    have q3 : Ris 0 s3 := t3.nneg fun n h => hr1.low h.1
    have each : ∀ (j : Nat) x, [V.ref l1, V.ref l2, V.ref l3][j]? = some x → ∃ l rs, x = .ref l ∧ LsA H4 l rs ∧ Ris 0 rs ∧ rs.length ≤ 200 := fun j x e => by
      match j, e with
      | 0, e => cases e; exact ⟨l1, s1, rfl, L1', q1, by omega⟩
      | 1, e => cases e; exact ⟨l2, s2, rfl, L2', q2, by omega⟩
      | 2, e => cases e; exact ⟨l3, s3, rfl, L3', q3, by omega⟩
    -- each is a set
    refine ⟨_, rfl, S, rfl, ⟨_, SqL.of eS⟩, fun D nD => lc_list (xs := [.ref l1, .ref l2, .ref l3]) (fun j H' => Same H4 H' ∧ H' D = some (.lst ((List.replicate j true).map V.bl))) ⟨same_upd nD, upd_same⟩ (fun j H' _ hP => SqL.of (hP.1 _ _ eS)) (fun j x H' hx hP => ?_) (fun H5 hP => ?_)⟩
    · obtain ⟨sm, eD⟩ := hP
      have hj : j < 3 := (List.getElem?_eq_some_iff.mp hx).1
      obtain ⟨l, rs, rfl, ⟨us, el, hp⟩, hris, hlen⟩ := each j x hx
      refine ⟨rfl, _, rfl, l, us, rs, rfl, sm _ _ el, hp.same sm, hris, by omega, fun H6 s6 => ?_⟩
      refine ⟨_, s6 _ _ eD, small1000 (by rw [List.length_map, List.length_replicate]; omega), fun b o e => ?_, ?_⟩
      · rw [upd_ne (ne_of_none e nD)]
        exact s6 _ _ (sm b o e)
      · rw [upd_same, List.replicate_succ', List.map_append]
        rfl
    obtain ⟨sm5, eD5⟩ := hP
    refine ⟨D, List.replicate 3 true, rfl, SqL.of eD5, _, rfl, ?_⟩
    rw [all_true]
    refine iteF ?_
    have ha5 := ha4.same sm5
    have hb5 := hb4.same sm5
    have eS5 := sm5 _ _ eS
    -- the numbers
    refine ⟨_, rfl, _, rfl, (by show 2 ≤ sizeLine; decide), fun A1 nA1 => ⟨_, rfl, ?_⟩⟩
    have mA1 := same_upd (o := .lst [.ref a, .ref b]) nA1
    refine ⟨A1, S, _, _, rfl, rfl, upd_same, mA1 _ _ eS5, (by show 5 ≤ sizeLine; decide), fun A2 nA2 => ?_⟩
    have mA2 := same_upd (o := .lst ([.ref a, .ref b] ++ [.ref l1, .ref l2, .ref l3])) nA2
    have M6 := (sm5.trans mA1).trans mA2
    have eA2 : upd (upd H5 A1 (.lst [.ref a, .ref b])) A2 (.lst ([.ref a, .ref b] ++ [.ref l1, .ref l2, .ref l3])) A2 = some (.lst [.ref a, .ref b, .ref l1, .ref l2, .ref l3]) := upd_same
    revert M6 eA2
    generalize upd (upd H5 A1 (.lst [.ref a, .ref b])) A2 (.lst ([.ref a, .ref b] ++ [.ref l1, .ref l2, .ref l3])) = H6
    intro M6 eA2
    obtain ⟨ua, ea, pa⟩ := ha4.same M6
    obtain ⟨ub, eb, pb⟩ := hb4.same M6
    obtain ⟨u1, e1, p1⟩ := L1'.same M6
    obtain ⟨u2, e2, p2⟩ := L2'.same M6
    obtain ⟨u3, e3, p3⟩ := L3'.same M6
    refine ⟨A2, [(a, ua, ps), (b, ub, qs), (l1, u1, s1), (l2, u2, s2), (l3, u3, s3)], rfl, eA2, fun x hx => ?_, Nat.le_refl _, fun N ns H7 nN eN hnl ord m7 => ?_⟩
    · simp only [List.mem_cons, List.not_mem_nil, or_false] at hx
      rcases hx with z | z | z | z | z
      · rw [z]; exact ⟨ea, pa, by show ps.length ≤ 200; omega⟩
      · rw [z]; exact ⟨eb, pb, by show qs.length ≤ 200; omega⟩
      · rw [z]; exact ⟨Sq.list e1, p1, by show s1.length ≤ 200; omega⟩
      · rw [z]; exact ⟨Sq.list e2, p2, by show s2.length ≤ 200; omega⟩
      · rw [z]; exact ⟨Sq.list e3, p3, by show s3.length ≤ 200; omega⟩
    -- the rows
    have M7 := M6.trans m7
    refine ⟨_, rfl, _, rfl, (by show 2 ≤ sizeLine; decide), fun A3 nA3 => ⟨_, rfl, ?_⟩⟩
    have mA3 := same_upd (o := .lst [.ref a, .ref b]) nA3
    refine ⟨A3, S, _, _, rfl, rfl, upd_same, mA3 _ _ (M7 _ _ eS), (by show 5 ≤ sizeLine; decide), fun A4 nA4 => ?_⟩
    have mA4 := same_upd (o := .lst ([.ref a, .ref b] ++ [.ref l1, .ref l2, .ref l3])) nA4
    have M8 := (M7.trans mA3).trans mA4
    have eN8 := mA4 _ _ (mA3 _ _ eN)
    have eA4 : upd (upd H7 A3 (.lst [.ref a, .ref b])) A4 (.lst ([.ref a, .ref b] ++ [.ref l1, .ref l2, .ref l3])) A4 = some (.lst [.ref a, .ref b, .ref l1, .ref l2, .ref l3]) := upd_same
    revert M8 eA4 eN8
    generalize upd (upd H7 A3 (.lst [.ref a, .ref b])) A4 (.lst ([.ref a, .ref b] ++ [.ref l1, .ref l2, .ref l3])) = H8
    intro M8 eN8 eA4
    have each5 : ∀ (j : Nat) x, [V.ref a, V.ref b, V.ref l1, V.ref l2, V.ref l3][j]? = some x → ∃ l rs, x = .ref l ∧ PrA K H8 l rs ∧ (∃ lo, Ris lo rs) ∧ rs.length ≤ 200 ∧ [ps, qs, s1, s2, s3][j]? = some rs := fun j x e => by
      match j, e with
      | 0, e => cases e; exact ⟨a, ps, rfl, ha4.same M8, ⟨0, hr1⟩, by omega, rfl⟩
      | 1, e => cases e; exact ⟨b, qs, rfl, hb4.same M8, ⟨0, hr2⟩, by omega, rfl⟩
      | 2, e => cases e; exact ⟨l1, s1, rfl, (L1'.same M8).pr, ⟨0, q1⟩, by omega, rfl⟩
      | 3, e => cases e; exact ⟨l2, s2, rfl, (L2'.same M8).pr, ⟨0, q2⟩, by omega, rfl⟩
      | 4, e => cases e; exact ⟨l3, s3, rfl, (L3'.same M8).pr, ⟨0, q3⟩, by omega, rfl⟩
    refine ⟨A4, rfl, ⟨_, SqL.of eA4⟩, fun D2 nD2 => lc_list (xs := [.ref a, .ref b, .ref l1, .ref l2, .ref l3]) (fun j H' => Same H8 H' ∧ ∃ rws : List Addr, H' D2 = some (.lst (rws.map V.ref)) ∧ rws.length = j ∧ (∀ r ∈ rws, r ≠ D2) ∧ ∀ (i : Nat) r rs, rws[i]? = some r → [ps, qs, s1, s2, s3][i]? = some rs → RowA H' r ns rs)
      ⟨same_upd nD2, [], upd_same, rfl, (fun _ z => nomatch z), (fun _ _ _ z => nomatch z)⟩ (fun j H' _ hP => SqL.of (hP.1 _ _ eA4)) (fun j x H' hx hP => ?_) (fun H9 hP => ?_)⟩
    · obtain ⟨sm, rws, eD, hrl, hne, hrow⟩ := hP
      have hj : j < 5 := (List.getElem?_eq_some_iff.mp hx).1
      obtain ⟨l, rs, rfl, hp, hris, hlen, ers⟩ := each5 j x hx
      refine ⟨rfl, _, rfl, _, rfl, l, N, rs, ns, rfl, hp.same sm, hris, hlen, sm _ _ eN8, hnl, ord, fun R bs H' nR eR hbl hbs s' => ?_⟩
      have nRD : R ≠ D2 := (ne_of_none eD nR).symm
      refine ⟨_, s' _ _ eD, small1000 (by rw [List.length_map, hrl]; omega), fun b o e => ?_, rws ++ [R], by rw [upd_same, List.map_append]; rfl, by rw [List.length_append, hrl]; rfl, fun r hr' => ?_, fun i r rs' e1 e2 => ?_⟩
      · rw [upd_ne (ne_of_none e nD2)]
        exact s' _ _ (sm b o e)
      · rcases List.mem_append.mp hr' with z | z
        · exact hne r z
        · rw [List.mem_singleton.mp z]; exact nRD
      · by_cases hi : i < rws.length
        · rw [List.getElem?_append_left hi] at e1
          obtain ⟨bs', eb', r'⟩ := (hrow i r rs' e1 e2).same s'
          exact ⟨bs', by rw [upd_ne (hne r (List.mem_of_getElem? e1))]; exact eb', r'⟩
        · rw [List.getElem?_append_right (by omega)] at e1
          have hz : i - rws.length = 0 := by
            cases hq : i - rws.length with
            | zero => rfl
            | succ n => rw [hq] at e1; cases e1
          rw [hz] at e1
          cases e1
          have : i = j := by omega
          subst this
          rw [ers] at e2
          cases e2
          exact ⟨bs, by rw [upd_ne nRD]; exact eR, hbl, hbs⟩
    obtain ⟨sm9, rws, eD9, hrl, hne, hrow⟩ := hP
    match rws, hrl with
    | [r1, r2, r3, r4, r5], _ =>
      obtain ⟨b1, f1, g1, k1⟩ := hrow 0 r1 ps rfl rfl
      obtain ⟨b2, f2, g2, k2⟩ := hrow 1 r2 qs rfl rfl
      obtain ⟨b3, f3, g3, k3⟩ := hrow 2 r3 s1 rfl rfl
      obtain ⟨b4, f4, g4, k4⟩ := hrow 3 r4 s2 rfl rfl
      obtain ⟨b5, f5, g5, k5⟩ := hrow 4 r5 s3 rfl rfl
      refine ⟨_, rfl, D2, _, 0, .ref r1, rfl, rfl, SqL.of eD9, atI_nat (j := 0) rfl, ?_⟩
      refine ⟨_, rfl, D2, _, 1, .ref r2, rfl, rfl, SqL.of eD9, atI_nat (j := 1) rfl, ?_⟩
      refine ⟨_, rfl, D2, _, 2, .ref r3, rfl, rfl, SqL.of eD9, atI_nat (j := 2) rfl, ?_⟩
      refine ⟨_, rfl, D2, _, 3, .ref r4, rfl, rfl, SqL.of eD9, atI_nat (j := 3) rfl, ?_⟩
      refine ⟨_, rfl, D2, _, 4, .ref r5, rfl, rfl, SqL.of eD9, atI_nat (j := 4) rfl, ?_⟩
      refine ⟨r1, r2, r3, r4, r5, rfl, fun x hx => ?_, ?_⟩
      · simp only [List.mem_cons, List.not_mem_nil, or_false] at hx
        rcases hx with z | z | z | z | z
        · rw [z]; exact ⟨_, SqL.of f1⟩
        · rw [z]; exact ⟨_, SqL.of f2⟩
        · rw [z]; exact ⟨_, SqL.of f3⟩
        · rw [z]; exact ⟨_, SqL.of f4⟩
        · rw [z]; exact ⟨_, SqL.of f5⟩
      have hlen : ∀ {bs : List Bool}, bs.length = ns.length → (bs.map V.bl).length = (b1.map V.bl).length := fun h => by rw [List.length_map, List.length_map, h, g1]
      refine for_zip5 (hlen g2) (hlen g3) (hlen g4) (hlen g5) (fun i σ H' => ∃ y5 y6 y7 y8 y9 y10 : Option V, σ = [some (.ref a), some (.ref b), some (.ref S), some (.ref N), some (.ref D2), y5, y6, y7, y8, y9, y10] ∧ Same H9 H') ⟨_, _, _, _, _, _, rfl, Same.refl H9⟩ (fun i σ H' hP => ?_) (fun i y1 y2 y3 y4 y5 T σ H' h1 h2 h3 h4 h5 hP nT => ?_) (fun σ H' hP => ?_)
      · obtain ⟨_, _, _, _, _, _, rfl, sm⟩ := hP
        exact ⟨SqL.of (sm _ _ f1), SqL.of (sm _ _ f2), SqL.of (sm _ _ f3), SqL.of (sm _ _ f4), SqL.of (sm _ _ f5)⟩
      · obtain ⟨_, _, _, _, _, _, rfl, sm⟩ := hP
        obtain ⟨c1, d1, rfl⟩ := bl_at h1
        obtain ⟨c2, d2, rfl⟩ := bl_at h2
        obtain ⟨c3, d3, rfl⟩ := bl_at h3
        obtain ⟨c4, d4, rfl⟩ := bl_at h4
        obtain ⟨c5, d5, rfl⟩ := bl_at h5
        have hi : i < ns.length := by rw [← g1]; exact (List.getElem?_eq_some_iff.mp d1).1
        have en : ns[i]? = some ns[i] := List.getElem?_eq_getElem hi
        have w1 := k1 i c1 _ d1 en
        have w2 := k2 i c2 _ d2 en
        have w3 := (k3 i c3 _ d3 en).trans (t1.same _)
        have w4 := (k4 i c4 _ d4 en).trans (t2.same _)
        have w5 := (k5 i c5 _ d5 en).trans (t3.same _)
        have v3 : c3 = (c1 || c2) := by
          rw [Bool.eq_iff_iff, w3, Bool.or_eq_true, w1, w2]
        have v4 : c4 = (c1 && c2) := by
          rw [Bool.eq_iff_iff, w4, Bool.and_eq_true, w1, w2]
        have v5 : c5 = (c1 && !c2) := by
          rw [Bool.eq_iff_iff, w5, Bool.and_eq_true, w1, Bool.not_eq_true', ← Bool.not_eq_true, w2]
        subst v3 v4 v5
        have sT := same_upd (o := .tup [.bl c1, .bl c2, .bl (c1 || c2), .bl (c1 && c2), .bl (c1 && !c2)]) nT
        refine ⟨T, _, rfl, .inl (.inl upd_same), rfl, _, _, rfl, _, _, rfl, _, _, rfl, _, _, rfl, _, _, rfl, rfl, ?_⟩
        refine ⟨_, rfl, _, rfl, _, rfl, (by show 3 ≤ sizeLine; decide), fun B1 nB1 => ?_⟩
        have sB1 := same_upd (o := .lst [.bl (c1 || c2), .bl (c1 && c2), .bl (c1 && !c2)]) nB1
        have eB1 : upd (upd H' T (.tup [.bl c1, .bl c2, .bl (c1 || c2), .bl (c1 && c2), .bl (c1 && !c2)])) B1 (.lst [.bl (c1 || c2), .bl (c1 && c2), .bl (c1 && !c2)]) B1 = some (.lst [.bl (c1 || c2), .bl (c1 && c2), .bl (c1 && !c2)]) := upd_same
        have sx := (sm.trans sT).trans sB1
        revert eB1 sx
        generalize upd (upd H' T (.tup [.bl c1, .bl c2, .bl (c1 || c2), .bl (c1 && c2), .bl (c1 && !c2)])) B1 (.lst [.bl (c1 || c2), .bl (c1 && c2), .bl (c1 && !c2)]) = Hy
        intro eB1 sx
        refine ⟨fun v Hz => v = .bl (c1 || c2) ∧ Hz = Hy, ⟨_, rfl, c1, rfl, ite2 (fun z => ⟨by rw [z]; rfl, rfl⟩) (fun z => ⟨_, rfl, by rw [Bool.eq_false_iff.mpr z]; rfl, rfl⟩)⟩, ?_⟩
        rintro _ Hz ⟨rfl, hz⟩
        rw [hz]
        clear hz Hz
        refine ⟨fun v Hz => v = .bl (c1 && c2) ∧ Hz = Hy, ⟨_, rfl, c1, rfl, ite2 (fun z => ⟨_, rfl, by rw [z]; rfl, rfl⟩) (fun z => ⟨by rw [Bool.eq_false_iff.mpr z]; rfl, rfl⟩)⟩, ?_⟩
        rintro _ Hz ⟨rfl, hz⟩
        rw [hz]
        clear hz Hz
        refine ⟨fun v Hz => v = .bl (c1 && !c2) ∧ Hz = Hy, ⟨_, rfl, c1, rfl, ite2 (fun z => ⟨_, rfl, c2, rfl, by rw [z]; rfl, rfl⟩) (fun z => ⟨by rw [Bool.eq_false_iff.mpr z]; rfl, rfl⟩)⟩, ?_⟩
        rintro _ Hz ⟨rfl, hz⟩
        rw [hz]
        clear hz Hz
        refine ⟨(by show 3 ≤ sizeLine; decide), fun B2 nB2 => ?_⟩
        have sB2 := same_upd (o := .lst [.bl (c1 || c2), .bl (c1 && c2), .bl (c1 && !c2)]) nB2
        refine ⟨_, _, .lst (SqL.of (sB2 _ _ eB1)) (.cons (.bl _) (.cons (.bl _) (.cons (.bl _) .nil))), .lst (SqL.of upd_same) (.cons (.bl _) (.cons (.bl _) (.cons (.bl _) .nil))), shaped_bl3 _ _ _, shaped_bl3 _ _ _, ?_⟩
        rw [eqv_bl3]
        exact ⟨_, rfl, iteF ⟨_, _, _, _, _, _, rfl, sx.trans sB2⟩⟩
      · obtain ⟨_, _, _, _, _, _, rfl, sm⟩ := hP
        exact q _ (((M4.trans M8).trans sm9).trans sm)
end

/-! ### what is shown of sets -/
theorem shown_int40 {i : Int} (h : i.natAbs < 10 ^ 39) : (PyData.int i).shown.length ≤ 40 := by
  have e := int_text_length_le10 (k := 39) (by decide) h
  show (Str.ofString (toString i)).length ≤ 40
  rw [PySem.ofString_length]
  exact e
theorem weight_int {i : Int} (h : i.natAbs < 10 ^ 39) : (PyData.int i).weight ≤ 131 := by
  rw [PyData.weight]
  split
  · omega
  · by_cases z : i.natAbs = 0
    · rw [z]; decide
    · have : i.natAbs.log2 < 130 := (Nat.log2_lt z).mpr (Nat.lt_trans h (by decide))
      omega
theorem showable_int {i : Int} (h : i.natAbs < 10 ^ 39) : (PyData.int i).showable = true := by
  rw [PyData.showable]
  by_cases z : i.natAbs = 0
  · rw [z]; decide
  · exact decide_eq_true (Nat.lt_trans ((Nat.log2_lt (k := 130) z).mpr (Nat.lt_trans h (by decide))) (by decide))
def Small39 (ps : List (Int × Int)) : Prop := ∀ p ∈ ps, p.1.natAbs < 10 ^ 39 ∧ p.2.natAbs < 10 ^ 39
theorem show_prs : ∀ {ps : List (Int × Int)}, Small39 ps → PyData.leavesShortAll 40 (ps.map pairD) = true ∧ PyData.weightAll (ps.map pairD) ≤ 300 * ps.length ∧ PyData.showableAll (ps.map pairD) = true ∧ PyData.hasDictAll (ps.map pairD) = false ∧ PyData.depthAll (ps.map pairD) ≤ 1
  | [], _ => by simp [PyData.leavesShortAll, PyData.weightAll, PyData.showableAll, PyData.hasDictAll, PyData.depthAll]
  | p :: r, h => by
    obtain ⟨g1, g2, g3, g4, g5⟩ := show_prs (ps := r) fun q hq => h q (List.mem_cons_of_mem _ hq)
    obtain ⟨h1, h2⟩ := h p (List.mem_cons_self ..)
    have e : (p :: r).map pairD = PyData.tuple [.int p.1, .int p.2] :: r.map pairD := rfl
    have w1 := weight_int h1
    have w2 := weight_int h2
    rw [e]
    refine ⟨?_, ?_, ?_, ?_, ?_⟩
    · simp only [PyData.leavesShortAll, PyData.leavesShort, g1, Bool.and_true]
      simp [shown_int40 h1, shown_int40 h2]
    · simp only [PyData.weightAll]
      rw [show (PyData.tuple [.int p.1, .int p.2]).weight = PyData.weightAll [.int p.1, .int p.2] by simp only [PyData.weight]]
      simp only [PyData.weightAll, List.length_cons]
      omega
    · simp only [PyData.showableAll, g3, Bool.and_true]
      rw [show (PyData.tuple [.int p.1, .int p.2]).showable = PyData.showableAll [.int p.1, .int p.2] by simp only [PyData.showable]]
      simp only [PyData.showableAll, showable_int h1, showable_int h2]
      rfl
    · simp [PyData.hasDictAll, PyData.hasDict, g4]
    · simp only [PyData.depthAll, PyData.depth]
      omega
def twoD (ps qs : List (Int × Int)) : PyData := .list [.list (ps.map pairD), .list (qs.map pairD)]
theorem show_two {ps qs : List (Int × Int)} (h : Small39 ps) (h' : Small39 qs) (hl : ps.length ≤ 24) (hl' : qs.length ≤ 24) : (twoD ps qs).showable = true ∧ (twoD ps qs).hasDict = false ∧ (twoD ps qs).depth ≤ 8 ∧ (twoD ps qs).shown.length ≤ sizeLine := by
  obtain ⟨g1, g2, g3, g4, g5⟩ := show_prs h
  obtain ⟨k1, k2, k3, k4, k5⟩ := show_prs h'
  refine ⟨?_, ?_, ?_, ?_⟩
  · simp [twoD, PyData.showable, PyData.showableAll, g3, k3]
  · simp [twoD, PyData.hasDict, PyData.hasDictAll, g4, k4]
  · simp only [twoD, PyData.depth, PyData.depthAll]
    omega
  · have z := PyData.shown_le 40 (by decide) (twoD ps qs) (by simp [twoD, PyData.leavesShort, PyData.leavesShortAll, g1, k1])
    have w : (twoD ps qs).weight ≤ 20000 := by
      simp only [twoD, PyData.weight, PyData.weightAll]
      omega
    exact Nat.le_trans z (Nat.le_trans (Nat.add_le_add_right (Nat.mul_le_mul_left 42 w) 40) (by decide))
theorem small39 {ps : List (Int × Int)} {n : Nat} (h : Ris 0 ps) (hb : ∀ p ∈ ps, p.2 < 10 ^ 35) : Small39 ps := fun p hp => by
  have := h.le p hp
  have := hb p hp
  omega
/-! ### law -/
abbrev sLaw : Stmt := topS 16
theorem scLaw : FnScope ["_law_script", "_law_state", "_law_turn", "_law_one", "_law_other", "_law_kept", "_law_handed", "_law_more"] ["_law_script"] (defScope sLaw) := ⟨rfl, rfl, rfl, by decide +kernel, rfl, by decide +kernel, by decide +kernel⟩
def spLaw (K : PySem.W.Frag) : Sp := fun vs H Q _ => ∃ (a : Addr) (ns : List Int), vs = [.ref a] ∧ SqL K H a (ns.map V.int) ∧ ns.length ≤ 63 ∧ ∀ H', Q (.bl true) H'
section
variable {K : PySem.W.Frag} {mg : Str → Option Value} {P : Program} {w : World} {base : Heap}
theorem ok_law {f : Addr} {fd : FuncData} (F : Fun K "law" "law" sLaw f fd) (CB : Cal P w K mg base 1 "_law_begin" ["_law_script"] (spBegin K)) (CT : Cal P w K mg base 1 "_law_take" ["_law_state", "_law_many"] spTake) (CS : Cal P w K mg base 3 "_law_set" ["_law_state"] spSet) (CR : Cal P w K mg base 4 "_law_near" ["_law_state", "_law_some"] spNear)
    (CQ : Cal P w K mg base 4 "_law_right" ["_law_one", "_law_other"] (spRight K)) (CE : Cal P w K mg base 2 "either" ["one", "other"] (spEither K)) (CA : Cal P w K mg base 1 "both_of" ["one", "other"] (spBoth K)) (CW : Cal P w K mg base 3 "without" ["one", "other"] (spWithout K)) (mr : mg "range" = none) (mt : mg "tuple" = none) (ms : mg "str" = none) : FnG P w K mg base CX0 5 f fd ["_law_script"] (spLaw K) := by
  refine Fun_okG F scLaw (fun vs H Q E h => ?_) (fun cdv A outer s H vs Q E hgd hr h => ?_)
  · obtain ⟨a, ns, rfl, _⟩ := h
    rfl
  · obtain ⟨a, ns, rfl, hS, hlen, q⟩ := h
    have hr1 := hr.mono (show 1 ≤ 4 by decide)
    have hr2 := hr.mono (show 2 ≤ 4 by decide)
    have hr3 := hr.mono (show 3 ≤ 4 by decide)
    have hu : (A.deeper (PyProof.Rows.envOfC "law" (defScope sLaw) s.heap.objs.size f cdv)).units + 11 < cLine := by have := hr.units; omega
    refine ⟨_, pss_cons (ps_set (i := 1) scLaw.nd rfl (.inl rfl) (pe_own CB hr1 (by rfl) (pa_cons (pv 0) pa_nil)))
      (pss_cons (ps_for PassesOwn.never rfl (pi_range1 rfl mr (pa_cons pe_int pa_nil)) (pg_name (i := 2) scLaw.nd rfl (.inl rfl))
        (pss_cons (ps_set (i := 3) scLaw.nd rfl (.inl rfl) (pe_own CS hr3 (by rfl) (pa_cons (pv 1) pa_nil)))
        (pss_cons (ps_set (i := 4) scLaw.nd rfl (.inl rfl) (pe_own CR hr (by rfl) (pa_cons (pv 1) (pa_cons (pv 3) pa_nil))))
        (pss_cons (ps_par rfl scLaw.nd (i := 5) (j := 6) rfl rfl (by decide) rfl rfl (pa_cons (pe_callTy (cr_strD hgd hu) (by rfl) ms (by decide +kernel) (pa_cons (pe_lst (pa_cons (pv 3) (pa_cons (pv 4) pa_nil))) pa_nil)) (pa_cons (pe_mid (pe_ix ix_list (pe_lst (pa_cons (pv 3) (pa_cons (pe_callTy call_tuple_of (by rfl) mt (by decide +kernel) (pa_cons (pv 3) pa_nil)) pa_nil))) (pe_own CT hr1 (by rfl) (pa_cons (pv 1) (pa_cons pe_int pa_nil))) (fun _ _ => rfl))) pa_nil)) (by rfl))
        (pss_cons (ps_if (PW.pt (pw_or (pt_not (pt_val (pe_own CQ hr (by rfl) (pa_cons (pv 6) (pa_cons (pv 4) pa_nil))))) (pw_or (pt_not (pt_val (pe_own CQ hr (by rfl) (pa_cons (pv 4) (pa_cons (pv 6) pa_nil))))) (pw_or1 (pt_not (pt_val (pe_own CQ hr (by rfl) (pa_cons (pv 3) (pa_cons (pv 3) pa_nil))))))))) (pss_one (ps_ret pe_bl)) pss_nil)
        (pss_cons (ps_if (PW.pt (pw_or (pt_not (pt_val (pe_own CQ hr (by rfl) (pa_cons (pv 3) (pa_cons (pe_lst pa_nil) pa_nil))))) (pw_or (pt_not (pt_val (pe_own CQ hr (by rfl) (pa_cons (pe_lst pa_nil) (pa_cons (pe_callTy call_tuple_of (by rfl) mt (by decide +kernel) (pa_cons (pv 3) pa_nil)) pa_nil))))) (pw_or1 (pt_cmpR op_ne (pe_callTy (cr_strD hgd hu) (by rfl) ms (by decide +kernel) (pa_cons (pe_lst (pa_cons (pv 3) (pa_cons (pv 4) pa_nil))) pa_nil)) (pv 5) (nomark _)))))) (pss_one (ps_ret pe_bl)) pss_nil)
        (pss_cons (ps_set (i := 7) scLaw.nd rfl (.inl rfl) (pe_own CE hr2 (by rfl) (pa_cons (pv 3) (pa_cons (pv 4) pa_nil))))
        (pss_one (ps_if (PW.pt (pw_or (pt_not (pt_val (pe_own CQ hr (by rfl) (pa_cons (pv 7) (pa_cons (pe_own CA hr1 (by rfl) (pa_cons (pv 3) (pa_cons (pv 4) pa_nil))) pa_nil))))) (pw_or1 (pt_not (pt_val (pe_own CQ hr (by rfl) (pa_cons (pe_own CW hr3 (by rfl) (pa_cons (pv 7) (pa_cons (pv 3) pa_nil))) (pa_cons (pv 4) pa_nil)))))))) (pss_one (ps_ret pe_bl)) pss_nil)))))))))
      (pss_one (ps_ret pe_bl))), ?_⟩
    refine ⟨.ref a, rfl, a, ns, rfl, hS, hlen, fun d c H1 s1 nd nc hS1 => ?_⟩
    refine ⟨4, rfl, by decide, by decide, for_range (n := 4) (fun i σ Hx => ∃ (t : Int) (y2 y3 y4 y5 y6 y7 : Option V), σ = [some (.ref a), some (.ref d), y2, y3, y4, y5, y6, y7] ∧ 0 ≤ t ∧ t ≤ 2000 * i ∧ StAt Hx d c t)
      ⟨0, _, _, _, _, _, _, rfl, by decide, by decide, hS1⟩ (fun i σ Hx hi hP => ?_) (fun σ Hx hP => ?_)⟩
    · obtain ⟨t, y2, y3, y4, y5, y6, y7, rfl, t0, t1, hSx⟩ := hP
      refine ⟨.ref d, rfl, d, c, t, rfl, hSx, by omega, fun l us ps t2 H2 nl el hps hris hpl hbd ht20 ht21 hS2 k2 => ?_⟩
      have offl := hSx.off nl
      have a2 : LsA H2 l ps := ⟨us, el, hps⟩
      refine ⟨_, rfl, _, rfl, d, c, l, t2, ps, rfl, hS2, by omega, a2, offl, fun p hp => ⟨by have := hris.le p hp; omega, hbd p hp⟩, by omega, fun l3 qs t3 H3 n3 b3 rb lb qbd t30 t31 hS3 k3 => ?_⟩
      have offb := hS2.off n3
      have a3 := a2.kp hS2 k3 offl
      have sp := small39 (n := 0) hris fun p hp => Int.lt_trans (hbd p hp) (by decide)
      have sq := small39 (n := 0) rb qbd
      obtain ⟨v1, v2, v3, v4⟩ := show_two sp sq hpl lb
      have dtwo : ∀ {H' : Hp} {A1 : Addr}, LsA H' l ps → LsA H' l3 qs → H' A1 = some (.lst [.ref l, .ref l3]) → Dp K H' (.ref A1) (twoD ps qs) := fun h1 h2 e => .lst (SqL.of e) (.cons h1.dp (.cons h2.dp .nil))
      refine ⟨_, rfl, _, rfl, (by show 2 ≤ sizeLine; decide), fun A1 nA1 => ?_⟩
      have sA := same_upd (o := .lst [.ref l, .ref l3]) nA1
      refine ⟨A1, twoD ps qs, rfl, dtwo (a3.same sA) (b3.same sA) upd_same, v1, v2, v3, v4, ?_⟩
      have a4 := a3.same sA
      have b4 := b3.same sA
      have hS4 := hS3.same sA
      revert a4 b4 hS4
      generalize upd H3 A1 (.lst [.ref l, .ref l3]) = H4
      intro a4 b4 hS4
      -- handed
      refine ⟨fun v H' => ∃ g, v = .ref g ∧ PrA K H' g ps ∧ LsA H' l ps ∧ LsA H' l3 qs ∧ StAt H' d c (t3 + 1), ?_, ?_⟩
      · obtain ⟨uu, eu, pu⟩ := a4
        have offu := hS4
        refine ⟨_, rfl, _, rfl, l, uu, rfl, .inl ⟨SqL.of eu, fun T nT => ?_⟩⟩
        have sT := same_upd (o := .tup uu) nT
        refine ⟨(by show 2 ≤ sizeLine; decide), fun A2 nA2 => ?_⟩
        have sA2 := same_upd (o := .lst [.ref l, .ref T]) nA2
        have nA2' := (hS4.same sT).off nA2
        have nT' := hS4.off nT
        refine ⟨_, rfl, d, c, t3, 2, rfl, (hS4.same sT).same sA2, by omega, by decide, by decide, fun r H5 r0 r1 hS5 k5 => ?_⟩
        have eA2 : H5 A2 = some (.lst [.ref l, .ref T]) := k5 _ _ nA2'.1 nA2'.2 upd_same
        have eT5 : H5 T = some (.tup uu) := k5 _ _ nT'.1 nT'.2 (sA2 _ _ upd_same)
        have kall : Kp d c H4 H5 := (Kp.same d c (sT.trans sA2)).trans k5
        have a5 : LsA H5 l ps := (show LsA H4 l ps from ⟨uu, eu, pu⟩).kp hS4 kall offl
        have b5 := b4.kp hS4 kall offb
        have : r = 0 ∨ r = 1 := by omega
        rcases this with rfl | rfl
        · exact ⟨A2, _, 0, .ref l, rfl, rfl, SqL.of eA2, atI_nat (j := 0) rfl, l, rfl, a5.pr, a5, b5, hS5⟩
        · exact ⟨A2, _, 1, .ref T, rfl, rfl, SqL.of eA2, atI_nat (j := 1) rfl, T, rfl, ⟨uu, Sq.tup eT5, pu.kp hS4 kall⟩, a5, b5, hS5⟩
      rintro _ H5 ⟨g, rfl, hg, a5, b5, hS5⟩
      refine ⟨_, _, rfl, ?_⟩
      -- right, three times
      refine ⟨_, rfl, _, rfl, g, l3, ps, qs, rfl, hg, b5.pr, hris, rb, by omega, by omega, fun H6 m6 => ⟨_, rfl, iteF ?_⟩⟩
      refine ⟨_, rfl, _, rfl, l3, g, qs, ps, rfl, (b5.same m6).pr, hg.same m6, rb, hris, by omega, by omega, fun H7 m7 => ⟨_, rfl, iteF ?_⟩⟩
      have M7 := m6.trans m7
      refine ⟨_, rfl, _, rfl, l, l, ps, ps, rfl, (a5.same M7).pr, (a5.same M7).pr, hris, hris, by omega, by omega, fun H8 m8 => ⟨_, rfl, iteF ?_⟩⟩
      have M8 := M7.trans m8
      -- with nothing
      refine ⟨_, rfl, Nat.zero_le _, fun Z nZ => ?_⟩
      have mZ := same_upd (o := .lst []) nZ
      have M9 := M8.trans mZ
      refine ⟨l, Z, ps, [], rfl, (a5.same M9).pr, (LsA.nil upd_same).pr, hris, True.intro, by omega, Nat.zero_le _, fun H10 m10 => ⟨_, rfl, iteF ?_⟩⟩
      have M10 := M9.trans m10
      refine ⟨Nat.zero_le _, fun Y nY => ?_⟩
      have mY := same_upd (o := .lst []) nY
      have M11 := M10.trans mY
      obtain ⟨uu, eu, pu⟩ := a5.same M11
      refine ⟨_, rfl, l, uu, rfl, .inl ⟨SqL.of eu, fun T nT => ?_⟩⟩
      have mT := same_upd (o := .tup uu) nT
      have M12 := M11.trans mT
      refine ⟨Y, T, [], ps, rfl, ((LsA.nil upd_same).same mT).pr, ⟨uu, Sq.tup upd_same, pu.same mT⟩, True.intro, hris, Nat.zero_le _, by omega, fun H13 m13 => ⟨_, rfl, iteF ?_⟩⟩
      have M13 := M12.trans m13
      refine ⟨_, rfl, _, rfl, (by show 2 ≤ sizeLine; decide), fun A3 nA3 => ?_⟩
      have mA := same_upd (o := .lst [.ref l, .ref l3]) nA3
      have M14 := M13.trans mA
      refine ⟨A3, twoD ps qs, rfl, dtwo (a5.same M14) (b5.same M14) upd_same, v1, v2, v3, v4, _, rfl, rfl, _, rfl, ?_⟩
      rw [decide_eq_true rfl]
      refine iteF ?_
      -- more
      refine ⟨_, rfl, _, rfl, l, l3, ps, qs, rfl, (a5.same M14).pr, (b5.same M14).pr, by omega, fun g8 x8 H15 n8 h8 w8 z8 m15 => ?_⟩
      have M15 := M14.trans m15
      have q8 : Ris 0 x8 := w8.nneg fun n h => h.elim (fun h => hris.low h) fun h => rb.low h
      refine ⟨_, rfl, _, rfl, _, rfl, l, l3, ps, qs, rfl, (a5.same M15).pr, (b5.same M15).pr, ⟨0, hris⟩, ⟨0, rb⟩, by omega, fun g9 x9 H16 n9 h9 w9 z9 m16 => ?_⟩
      have M16 := M15.trans m16
      refine ⟨g8, g9, x8, x9, rfl, (h8.same m16).pr, h9.pr, q8, w9.nneg fun n h => hris.low h.1, by omega, by omega, fun H17 m17 => ⟨_, rfl, iteF ?_⟩⟩
      have M17 := M16.trans m17
      refine ⟨_, rfl, _, rfl, g8, l, x8, ps, rfl, ((h8.same m16).same m17).pr, (a5.same M17).pr, ⟨0, q8⟩, ⟨0, hris⟩, by omega, fun g10 x10 H18 n10 h10 w10 z10 m18 => ?_⟩
      have M18 := M17.trans m18
      refine ⟨_, rfl, g10, l3, x10, qs, rfl, h10.pr, (b5.same M18).pr, w10.nneg fun n h => q8.low h.1, rb, by omega, by omega, fun H19 m19 => ⟨_, rfl, iteF ?_⟩⟩
      have ei : ((i + 1 : Nat) : Int) = (i : Int) + 1 := by omega
      exact ⟨t3 + 1, _, _, _, _, _, _, rfl, by omega, by rw [ei]; omega, hS5.same (M18.trans m19)⟩
    · exact q _
end

theorem all_mk {l : PySem.W.OpenLaw} {w : World} {K : PySem.W.Frag} {h : Heap} {mg : Str → Option Value} {fa f0 f1 f2 f3 f4 f5 f6 f7 f8 f9 f10 f11 f12 f13 f14 : Addr} (X : K.In h) (G : h.Ns mainGlobals mg) (hfa : mg "law" = some (.ref fa))
    {od0 an0 od1 an1 od2 an2 od3 an3 od4 an4 od5 an5 od6 an6 od7 an7 od8 an8 od9 an9 od10 an10 od11 an11 od12 an12 od13 an13 od14 an14 : Option Addr} {sl0 sl1 sl2 sl3 sl4 sl5 sl6 sl7 sl8 sl9 sl10 sl11 sl12 sl13 sl14 : Array (Option Value)} {oc0 kV0 dc0 pm0 ct0 cd0 oc1 kV1 dc1 pm1 ct1 cd1 oc2 kV2 dc2 pm2 ct2 cd2 oc3 kV3 dc3 pm3 ct3 cd3 oc4 kV4 dc4 pm4 ct4 cd4 oc5 kV5 dc5 pm5 ct5 cd5 oc6 kV6 dc6 pm6 ct6 cd6 oc7 kV7 dc7 pm7 ct7 cd7 oc8 kV8 dc8 pm8 ct8 cd8 oc9 kV9 dc9 pm9 ct9 cd9 oc10 kV10 dc10 pm10 ct10 cd10 oc11 kV11 dc11 pm11 ct11 cd11 oc12 kV12 dc12 pm12 ct12 cd12 oc13 kV13 dc13 pm13 ct13 cd13 oc14 kV14 dc14 pm14 ct14 cd14 : Value}
    (a0 : PySem.W.nsIn K mainGlobals "set_of" = some (some (.ref f0))) (l0 : K.lookup f0 = some ⟨oc0, od0, .func (PySem.W.fnOf "set_of" "set_of" (defArgs sSetOf) (defBody sSetOf) (defScope sSetOf) .none kV0 dc0 pm0 an0 cd0 ct0), sl0⟩) (c0' : PySem.W.codeIn K cd0 "set_of" = true) (k0 : PySem.W.keepIn K (.ref f0) = true)
    (a1 : PySem.W.nsIn K mainGlobals "either" = some (some (.ref f1))) (l1 : K.lookup f1 = some ⟨oc1, od1, .func (PySem.W.fnOf "either" "either" (defArgs sEither) (defBody sEither) (defScope sEither) .none kV1 dc1 pm1 an1 cd1 ct1), sl1⟩) (c1' : PySem.W.codeIn K cd1 "either" = true) (k1 : PySem.W.keepIn K (.ref f1) = true)
    (a2 : PySem.W.nsIn K mainGlobals "both_of" = some (some (.ref f2))) (l2 : K.lookup f2 = some ⟨oc2, od2, .func (PySem.W.fnOf "both_of" "both_of" (defArgs sBoth) (defBody sBoth) (defScope sBoth) .none kV2 dc2 pm2 an2 cd2 ct2), sl2⟩) (c2' : PySem.W.codeIn K cd2 "both_of" = true) (k2 : PySem.W.keepIn K (.ref f2) = true)
    (a3 : PySem.W.nsIn K mainGlobals "gaps_of" = some (some (.ref f3))) (l3 : K.lookup f3 = some ⟨oc3, od3, .func (PySem.W.fnOf "gaps_of" "gaps_of" (defArgs sGaps) (defBody sGaps) (defScope sGaps) .none kV3 dc3 pm3 an3 cd3 ct3), sl3⟩) (c3' : PySem.W.codeIn K cd3 "gaps_of" = true) (k3 : PySem.W.keepIn K (.ref f3) = true)
    (a4 : PySem.W.nsIn K mainGlobals "without" = some (some (.ref f4))) (l4 : K.lookup f4 = some ⟨oc4, od4, .func (PySem.W.fnOf "without" "without" (defArgs sWithout) (defBody sWithout) (defScope sWithout) .none kV4 dc4 pm4 an4 cd4 ct4), sl4⟩) (c4' : PySem.W.codeIn K cd4 "without" = true) (k4 : PySem.W.keepIn K (.ref f4) = true)
    (a5 : PySem.W.nsIn K mainGlobals "_law_begin" = some (some (.ref f5))) (l5 : K.lookup f5 = some ⟨oc5, od5, .func (PySem.W.fnOf "_law_begin" "_law_begin" (defArgs sBegin) (defBody sBegin) (defScope sBegin) .none kV5 dc5 pm5 an5 cd5 ct5), sl5⟩) (c5' : PySem.W.codeIn K cd5 "_law_begin" = true) (k5 : PySem.W.keepIn K (.ref f5) = true)
    (a6 : PySem.W.nsIn K mainGlobals "_law_take" = some (some (.ref f6))) (l6 : K.lookup f6 = some ⟨oc6, od6, .func (PySem.W.fnOf "_law_take" "_law_take" (defArgs sTake) (defBody sTake) (defScope sTake) .none kV6 dc6 pm6 an6 cd6 ct6), sl6⟩) (c6' : PySem.W.codeIn K cd6 "_law_take" = true) (k6 : PySem.W.keepIn K (.ref f6) = true)
    (a7 : PySem.W.nsIn K mainGlobals "_law_number" = some (some (.ref f7))) (l7 : K.lookup f7 = some ⟨oc7, od7, .func (PySem.W.fnOf "_law_number" "_law_number" (defArgs sNumber) (defBody sNumber) (defScope sNumber) .none kV7 dc7 pm7 an7 cd7 ct7), sl7⟩) (c7' : PySem.W.codeIn K cd7 "_law_number" = true) (k7 : PySem.W.keepIn K (.ref f7) = true)
    (a8 : PySem.W.nsIn K mainGlobals "_law_set" = some (some (.ref f8))) (l8 : K.lookup f8 = some ⟨oc8, od8, .func (PySem.W.fnOf "_law_set" "_law_set" (defArgs sSet) (defBody sSet) (defScope sSet) .none kV8 dc8 pm8 an8 cd8 ct8), sl8⟩) (c8' : PySem.W.codeIn K cd8 "_law_set" = true) (k8 : PySem.W.keepIn K (.ref f8) = true)
    (a9 : PySem.W.nsIn K mainGlobals "_law_near" = some (some (.ref f9))) (l9 : K.lookup f9 = some ⟨oc9, od9, .func (PySem.W.fnOf "_law_near" "_law_near" (defArgs sNear) (defBody sNear) (defScope sNear) .none kV9 dc9 pm9 an9 cd9 ct9), sl9⟩) (c9' : PySem.W.codeIn K cd9 "_law_near" = true) (k9 : PySem.W.keepIn K (.ref f9) = true)
    (a10 : PySem.W.nsIn K mainGlobals "_law_flags" = some (some (.ref f10))) (l10 : K.lookup f10 = some ⟨oc10, od10, .func (PySem.W.fnOf "_law_flags" "_law_flags" (defArgs sFlags) (defBody sFlags) (defScope sFlags) .none kV10 dc10 pm10 an10 cd10 ct10), sl10⟩) (c10' : PySem.W.codeIn K cd10 "_law_flags" = true) (k10 : PySem.W.keepIn K (.ref f10) = true)
    (a11 : PySem.W.nsIn K mainGlobals "_law_is_set" = some (some (.ref f11))) (l11 : K.lookup f11 = some ⟨oc11, od11, .func (PySem.W.fnOf "_law_is_set" "_law_is_set" (defArgs sIsSet) (defBody sIsSet) (defScope sIsSet) .none kV11 dc11 pm11 an11 cd11 ct11), sl11⟩) (c11' : PySem.W.codeIn K cd11 "_law_is_set" = true) (k11 : PySem.W.keepIn K (.ref f11) = true)
    (a12 : PySem.W.nsIn K mainGlobals "_law_probes" = some (some (.ref f12))) (l12 : K.lookup f12 = some ⟨oc12, od12, .func (PySem.W.fnOf "_law_probes" "_law_probes" (defArgs sProbes) (defBody sProbes) (defScope sProbes) .none kV12 dc12 pm12 an12 cd12 ct12), sl12⟩) (c12' : PySem.W.codeIn K cd12 "_law_probes" = true) (k12 : PySem.W.keepIn K (.ref f12) = true)
    (a13 : PySem.W.nsIn K mainGlobals "_law_right" = some (some (.ref f13))) (l13 : K.lookup f13 = some ⟨oc13, od13, .func (PySem.W.fnOf "_law_right" "_law_right" (defArgs sRight) (defBody sRight) (defScope sRight) .none kV13 dc13 pm13 an13 cd13 ct13), sl13⟩) (c13' : PySem.W.codeIn K cd13 "_law_right" = true) (k13 : PySem.W.keepIn K (.ref f13) = true)
    (a14 : PySem.W.nsIn K mainGlobals "law" = some (some (.ref f14))) (l14 : K.lookup f14 = some ⟨oc14, od14, .func (PySem.W.fnOf "law" "law" (defArgs sLaw) (defBody sLaw) (defScope sLaw) .none kV14 dc14 pm14 an14 cd14 ct14), sl14⟩) (c14' : PySem.W.codeIn K cd14 "law" = true) (k14 : PySem.W.keepIn K (.ref f14) = true)
    (z_all : PySem.W.nsIn K mainGlobals "all" = some none) (z_bool : PySem.W.nsIn K mainGlobals "bool" = some none) (z_divmod : PySem.W.nsIn K mainGlobals "divmod" = some none) (z_int : PySem.W.nsIn K mainGlobals "int" = some none) (z_isinstance : PySem.W.nsIn K mainGlobals "isinstance" = some none) (z_len : PySem.W.nsIn K mainGlobals "len" = some none) (z_list : PySem.W.nsIn K mainGlobals "list" = some none) (z_max : PySem.W.nsIn K mainGlobals "max" = some none) (z_min : PySem.W.nsIn K mainGlobals "min" = some none) (z_range : PySem.W.nsIn K mainGlobals "range" = some none) (z_sorted : PySem.W.nsIn K mainGlobals "sorted" = some none) (z_str : PySem.W.nsIn K mainGlobals "str" = some none) (z_tuple : PySem.W.nsIn K mainGlobals "tuple" = some none) (z_zip : PySem.W.nsIn K mainGlobals "zip" = some none) :
    LawAtG l w K 5 mg fa := by
  cases hfa.symm.trans (PySem.W.mg_of X G a14)
  have F0 := fun_mk (st := sSetOf) l0 c0' k0
  have b0 := F0.binds (ps := ["pairs"]) fun _ _ _ _ _ _ us hl => match us, hl with | [_], _ => rfl
  have F1 := fun_mk (st := sEither) l1 c1' k1
  have b1 := F1.binds (ps := ["one", "other"]) fun _ _ _ _ _ _ us hl => match us, hl with | [_, _], _ => rfl
  have F2 := fun_mk (st := sBoth) l2 c2' k2
  have b2 := F2.binds (ps := ["one", "other"]) fun _ _ _ _ _ _ us hl => match us, hl with | [_, _], _ => rfl
  have F3 := fun_mk (st := sGaps) l3 c3' k3
  have b3 := F3.binds (ps := ["some", "begin", "end"]) fun _ _ _ _ _ _ us hl => match us, hl with | [_, _, _], _ => rfl
  have F4 := fun_mk (st := sWithout) l4 c4' k4
  have b4 := F4.binds (ps := ["one", "other"]) fun _ _ _ _ _ _ us hl => match us, hl with | [_, _], _ => rfl
  have F5 := fun_mk (st := sBegin) l5 c5' k5
  have b5 := F5.binds (ps := ["_law_script"]) fun _ _ _ _ _ _ us hl => match us, hl with | [_], _ => rfl
  have F6 := fun_mk (st := sTake) l6 c6' k6
  have b6 := F6.binds (ps := ["_law_state", "_law_many"]) fun _ _ _ _ _ _ us hl => match us, hl with | [_, _], _ => rfl
  have F7 := fun_mk (st := sNumber) l7 c7' k7
  have b7 := F7.binds (ps := ["_law_state", "_law_kind"]) fun _ _ _ _ _ _ us hl => match us, hl with | [_, _], _ => rfl
  have F8 := fun_mk (st := sSet) l8 c8' k8
  have b8 := F8.binds (ps := ["_law_state"]) fun _ _ _ _ _ _ us hl => match us, hl with | [_], _ => rfl
  have F9 := fun_mk (st := sNear) l9 c9' k9
  have b9 := F9.binds (ps := ["_law_state", "_law_some"]) fun _ _ _ _ _ _ us hl => match us, hl with | [_, _], _ => rfl
  have F10 := fun_mk (st := sFlags) l10 c10' k10
  have b10 := F10.binds (ps := ["_law_some", "_law_numbers"]) fun _ _ _ _ _ _ us hl => match us, hl with | [_, _], _ => rfl
  have F11 := fun_mk (st := sIsSet) l11 c11' k11
  have b11 := F11.binds (ps := ["_law_thing"]) fun _ _ _ _ _ _ us hl => match us, hl with | [_], _ => rfl
  have F12 := fun_mk (st := sProbes) l12 c12' k12
  have b12 := F12.binds (ps := ["_law_lists"]) fun _ _ _ _ _ _ us hl => match us, hl with | [_], _ => rfl
  have F13 := fun_mk (st := sRight) l13 c13' k13
  have b13 := F13.binds (ps := ["_law_one", "_law_other"]) fun _ _ _ _ _ _ us hl => match us, hl with | [_, _], _ => rfl
  have F14 := fun_mk (st := sLaw) l14 c14' k14
  have m_all := PySem.W.mg_none_of X G z_all
  have m_bool := PySem.W.mg_none_of X G z_bool
  have m_divmod := PySem.W.mg_none_of X G z_divmod
  have m_int := PySem.W.mg_none_of X G z_int
  have m_isinstance := PySem.W.mg_none_of X G z_isinstance
  have m_len := PySem.W.mg_none_of X G z_len
  have m_list := PySem.W.mg_none_of X G z_list
  have m_max := PySem.W.mg_none_of X G z_max
  have m_min := PySem.W.mg_none_of X G z_min
  have m_range := PySem.W.mg_none_of X G z_range
  have m_sorted := PySem.W.mg_none_of X G z_sorted
  have m_str := PySem.W.mg_none_of X G z_str
  have m_tuple := PySem.W.mg_none_of X G z_tuple
  have m_zip := PySem.W.mg_none_of X G z_zip
  refine ⟨PySem.W.fnOf "law" "law" (defArgs sLaw) (defBody sLaw) (defScope sLaw) .none kV14 dc14 pm14 an14 cd14 ct14, spLaw K, fun s v => .of_eq rfl, fun H a ns hl hS => ?_, fun base _ _ => ?_⟩
  ·  exact ⟨a, ns, rfl, hS, hl, fun _ => rfl⟩
  · have g := fun {x : Str} {f : Addr} (a : PySem.W.nsIn K mainGlobals x = some (some (.ref f))) => PySem.W.mg_of X G a
    have CT : Cal l.prog w K mg base 1 "_law_take" ["_law_state", "_law_many"] spTake := ⟨_, _, ok_take F6 m_len m_divmod, g a6, k6, b6⟩
    have CB : Cal l.prog w K mg base 1 "_law_begin" ["_law_script"] (spBegin K) := ⟨_, _, ok_begin F5 m_list, g a5, k5, b5⟩
    have CU : Cal l.prog w K mg base 2 "_law_number" ["_law_state", "_law_kind"] spNumber := ⟨_, _, ok_number F7 CT m_range, g a7, k7, b7⟩
    have SO : Cal l.prog w K mg base 1 "set_of" ["pairs"] (spSetOf K) := ⟨_, _, ok_setof F0 m_sorted m_max, g a0, k0, b0⟩
    have CE : Cal l.prog w K mg base 2 "either" ["one", "other"] (spEither K) := ⟨_, _, ok_either F1 SO, g a1, k1, b1⟩
    have CA : Cal l.prog w K mg base 1 "both_of" ["one", "other"] (spBoth K) := ⟨_, _, ok_both F2 m_len m_max m_min, g a2, k2, b2⟩
    have CG : Cal l.prog w K mg base 2 "gaps_of" ["some", "begin", "end"] (spGaps K) := ⟨_, _, ok_gaps F3 SO m_max m_min, g a3, k3, b3⟩
    have CW : Cal l.prog w K mg base 3 "without" ["one", "other"] (spWithout K) := ⟨_, _, ok_without F4 CA CG, g a4, k4, b4⟩
    have CS : Cal l.prog w K mg base 3 "_law_set" ["_law_state"] spSet := ⟨_, _, ok_set F8 CT CU m_range, g a8, k8, b8⟩
    have CR : Cal l.prog w K mg base 4 "_law_near" ["_law_state", "_law_some"] spNear := ⟨_, _, ok_near F9 CT CS, g a9, k9, b9⟩
    have CF : Cal l.prog w K mg base 1 "_law_flags" ["_law_some", "_law_numbers"] (spFlags K) := ⟨_, _, ok_flags F10 m_len, g a10, k10, b10⟩
    have CI : Cal l.prog w K mg base 1 "_law_is_set" ["_law_thing"] spIsSet := ⟨_, _, ok_isset F11 m_isinstance m_list m_tuple m_int m_bool m_len m_all m_zip, g a11, k11, b11⟩
    have CP : Cal l.prog w K mg base 1 "_law_probes" ["_law_lists"] (spProbes K) := ⟨_, _, ok_probes F12 m_max m_sorted m_list, g a12, k12, b12⟩
    have CQ : Cal l.prog w K mg base 4 "_law_right" ["_law_one", "_law_other"] (spRight K) := ⟨_, _, ok_right F13 CE CA CW CI CP CF m_all m_zip, g a13, k13, b13⟩
    exact ok_law F14 CB CT CS CR CQ CE CA CW m_range m_tuple m_str
end TK
open PySem PySem.W PyProof.Rows
set_option maxHeartbeats 0 in
theorem PySem.Challenge.cw_tinrecall_k02_sets_put_together_holds : PySem.Challenge.rw_tinrecall_k02_sets_put_together.Holds := by
  w_on; o_law; k_head; (case hw => w_witness2)
  k_fill
  refine TK.law_endG (l := PySem.Challenge.rw_tinrecall_k02_sets_put_together) (k := 5) rfl rfl ⟨rfl, by decide, by decide⟩ (fun w h Y => PySem.W.kIn_of Y) ?made
  case made =>
    intro w mg f h KX G hmg
    refine' TK.all_mk KX G hmg ?a0 ?l0 ?c0 ?k0 ?a1 ?l1 ?c1 ?k1 ?a2 ?l2 ?c2 ?k2 ?a3 ?l3 ?c3 ?k3 ?a4 ?l4 ?c4 ?k4 ?a5 ?l5 ?c5 ?k5 ?a6 ?l6 ?c6 ?k6 ?a7 ?l7 ?c7 ?k7 ?a8 ?l8 ?c8 ?k8 ?a9 ?l9 ?c9 ?k9 ?a10 ?l10 ?c10 ?k10 ?a11 ?l11 ?c11 ?k11 ?a12 ?l12 ?c12 ?k12 ?a13 ?l13 ?c13 ?k13 ?a14 ?l14 ?c14 ?k14 ?z_all ?z_bool ?z_divmod ?z_int ?z_isinstance ?z_len ?z_list ?z_max ?z_min ?z_range ?z_sorted ?z_str ?z_tuple ?z_zip
    (case a0 => k_is); (case l0 => k_is); (case c0 => k_is); (case k0 => k_is)
    (case a1 => k_is); (case l1 => k_is); (case c1 => k_is); (case k1 => k_is)
    (case a2 => k_is); (case l2 => k_is); (case c2 => k_is); (case k2 => k_is)
    (case a3 => k_is); (case l3 => k_is); (case c3 => k_is); (case k3 => k_is)
    (case a4 => k_is); (case l4 => k_is); (case c4 => k_is); (case k4 => k_is)
    (case a5 => k_is); (case l5 => k_is); (case c5 => k_is); (case k5 => k_is)
    (case a6 => k_is); (case l6 => k_is); (case c6 => k_is); (case k6 => k_is)
    (case a7 => k_is); (case l7 => k_is); (case c7 => k_is); (case k7 => k_is)
    (case a8 => k_is); (case l8 => k_is); (case c8 => k_is); (case k8 => k_is)
    (case a9 => k_is); (case l9 => k_is); (case c9 => k_is); (case k9 => k_is)
    (case a10 => k_is); (case l10 => k_is); (case c10 => k_is); (case k10 => k_is)
    (case a11 => k_is); (case l11 => k_is); (case c11 => k_is); (case k11 => k_is)
    (case a12 => k_is); (case l12 => k_is); (case c12 => k_is); (case k12 => k_is)
    (case a13 => k_is); (case l13 => k_is); (case c13 => k_is); (case k13 => k_is)
    (case a14 => k_is); (case l14 => k_is); (case c14 => k_is); (case k14 => k_is)
    (case z_all => k_is); (case z_bool => k_is); (case z_divmod => k_is); (case z_int => k_is); (case z_isinstance => k_is); (case z_len => k_is); (case z_list => k_is); (case z_max => k_is); (case z_min => k_is); (case z_range => k_is); (case z_sorted => k_is); (case z_str => k_is); (case z_tuple => k_is); (case z_zip => k_is)

