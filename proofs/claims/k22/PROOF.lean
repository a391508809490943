import PyProof.Rows.All
import Wide.All
import OpenK.AllK
import Wide.FinOn
import HandS.ForMost
import HandS.WideBits
import HandS.IsInst
import HandS.Style
import HandS.AnyAll
import HandS.Nested
import HandS.Walk
import HandS.Evl
import HandS.EndTab
import HandS.SortInts
import HandS.SortRule
import HandS.Conv
import HandS.Star
import HandS.Codes
import HandS.Wide
import HandS.Zip
import HandS.More
import KE.KDictPairs
import KE.GoesMore
import PyProof.SumAny
import PyProof.WalksPairs
import PyProof.GenCompT
import PySem.Challenge.RW_tinrecall_k22_reached_beyond_counting
set_option Elab.async false
set_option linter.all false
set_option maxRecDepth 100000
set_option maxHeartbeats 5000000
namespace GP
open PySem PySem.Spec PyProof.Rows L2
/-- the values vs are tuples that hold the pairs ps -/
def Prs (H : Hp) (vs : List V) (ps : List (Int × Int)) : Prop := vs.length = ps.length ∧ ∀ (i : Nat) p, ps[i]? = some p → ∃ a, vs[i]? = some (.ref a) ∧ H a = some (.tup [.int p.1, .int p.2])
/-- the sum of g over the pairs -/
def sumP (g : Int → Int → Int) (ps : List (Int × Int)) : Int := (ps.map fun p => g p.1 p.2).sum
def anyP (g : Int → Int → Bool) (ps : List (Int × Int)) : Bool := ps.any fun p => g p.1 p.2
end GP

namespace TK
open PySem PySem.Spec PyProof.Rows L2 GP
def topS (i : Nat) : Stmt := PySem.Challenge.pw_tinrecall_k22_reached_beyond_counting.main.body.getD i (.Pass ⟨0, 0, 0, 0⟩)

/-- the draws' state: its dict at d, its cells at c -/
structure StAt (H : Hp) (d c : Addr) (t : Int) : Prop where
  dict : H d = some (.dK [(.inr "cells", .ref c), (.inr "turn", .int t)])
  cells : ∃ cs : List Int, H c = some (.lst (cs.map V.int)) ∧ cs ≠ [] ∧ cs.length ≤ 63
  pos : 0 ≤ t
theorem StAt.ne {H : Hp} {d c : Addr} {t : Int} (h : StAt H d c t) : d ≠ c := by
  obtain ⟨cs, hc, _⟩ := h.cells
  exact ne_of h.dict hc (by intro z; cases z)
/-- all but the state is as it was -/
def Kp (d c : Addr) (H H' : Hp) : Prop := ∀ b o, b ≠ d → b ≠ c → H b = some o → H' b = some o
theorem Kp.refl (d c : Addr) (H : Hp) : Kp d c H H := fun _ _ _ _ h => h
theorem Kp.trans {d c : Addr} {H H1 H2 : Hp} (a : Kp d c H H1) (b : Kp d c H1 H2) : Kp d c H H2 := fun x o h1 h2 h => b x o h1 h2 (a x o h1 h2 h)

theorem ixN_of {n j : Nat} (h : j < n) : ixN n (j : Int) = some j := by
  unfold ixN
  rw [if_pos (Int.natCast_nonneg j), if_pos (by omega), Int.toNat_natCast]
def spTake : Sp := fun vs H Q _ => ∃ (d c : Addr) (t m : Int), vs = [.ref d, .int m] ∧ StAt H d c t ∧ t < 2 ^ 60 ∧ 0 < m ∧ m.natAbs < 2 ^ 250 ∧
  ∀ r H', 0 ≤ r → r < m → StAt H' d c (t + 1) → Kp d c H H' → Q (.int r) H'

abbrev sTake : Stmt := topS 17
theorem scTake : FnScope ["_law_state", "_law_many", "_law_turn", "_law_place", "_law_cell", "_law_digit", "_law_mixed"] ["_law_state", "_law_many"] (defScope sTake) := ⟨rfl, rfl, rfl, by decide +kernel, rfl, by decide +kernel, by decide +kernel⟩
section
variable {K : PySem.W.Frag} {mg : Str → Option Value} {P : Program} {w : World} {base : Heap}
theorem ok_take {f : Addr} {fd : FuncData} {k : Nat} (F : Fun K "_law_take" "_law_take" sTake f fd) (ml : mg "len" = none) (md : mg "divmod" = none) : FnOk P w K mg base CX0 (k + 1) f fd ["_law_state", "_law_many"] spTake := by
  refine F.ok scTake (fun vs H Q E h => ?_) (fun cdv A outer s H vs Q E hr h => ?_)
  · obtain ⟨d, c, t, m, rfl, _⟩ := h
    rfl
  · obtain ⟨d, c, t, m, rfl, hS, ht, hm, hm2, q⟩ := h
    refine ⟨_, pss_cons (ps_set (i := 2) scTake.nd rfl (.inl rfl) (pe_op op_add (pe_dget (hu_of hr) (pv 0) pe_str (fun _ _ => rfl)) pe_int))
      (pss_cons (ps_dput (hu_of hr) (pv 0) pe_str (pv 2) rfl)
      (pss_cons (ps_set (i := 3) scTake.nd rfl (.inl rfl) (pe_op op_mod (pv 2) (pe_callB call_len_seq (by rfl) ml PySem.boot_len (pa_cons (pe_dget (hu_of hr) (pv 0) pe_str (fun _ _ => rfl)) pa_nil))))
      (pss_cons (ps_set (i := 4) scTake.nd rfl (.inl rfl) (pe_ix ix_list (pe_dget (hu_of hr) (pv 0) pe_str (fun _ _ => rfl)) (pv 3) (fun _ _ => rfl)))
      (pss_cons (ps_if (pt_cmpR op_ge (pv 4) (pe_op op_pow pe_int pe_int) (nomark _))
        (pss_cons (ps_asg (pe_callB call_divmodW (by rfl) md (by decide +kernel) (pa_cons (pv 4) (pa_cons (pv 1) pa_nil)))
            (pg_tup rfl (pgs_cons (pg_sub (pe_dget (hu_of hr) (pv 0) pe_str (fun _ _ => rfl)) (pv 3) set_list) (pgs_cons (pg_name (i := 5) scTake.nd rfl (.inl rfl)) pgs_nil))))
          (pss_one (ps_ret (pv 5)))) pss_nil)
      (pss_cons (ps_set (i := 6) scTake.nd rfl (.inl rfl) (pe_op op_mod (pe_op op_mul (pe_op op_add (pe_op op_add (pe_op op_mod (pv 4) pe_int) (pe_op op_mul (pe_op op_mul (pv 2) (pv 2)) pe_int)) pe_int) pe_int) pe_int))
      (pss_cons (ps_set (i := 6) scTake.nd rfl (.inl rfl) (pe_op op_mod (pe_op op_mul (pv 6) (pv 6)) pe_int))
      (pss_one (ps_ret (pe_op op_mod (pe_op op_fdiv (pe_op op_mod (pe_op op_mul (pe_op op_add (pv 6) (pe_op op_mul (pv 2) pe_int)) pe_int) pe_int) pe_int) (pv 1)))))))))), ?_⟩
    obtain ⟨hd, ⟨cs, hc, hne, hlen⟩, hpos⟩ := hS
    have ndc : d ≠ c := ne_of hd hc (by intro z; cases z)
    -- turn = state['turn'] + 1
    refine ⟨.ref d, rfl, d, .int t, rfl, DGet.k (k := Sum.inr "turn") hd, t, 1, rfl, rfl, ?_⟩
    -- state['turn'] = turn
    refine ⟨_, rfl, .ref d, rfl, d, _, rfl, DPut.k (k := Sum.inr "turn") hd (by show 2 < sizeLine; decide), ?_⟩
    have hput : putK [((.inr "cells" : Key), V.ref c), (.inr "turn", .int t)] (.inr "turn") (.int (t + 1)) = [(.inr "cells", .ref c), (.inr "turn", .int (t + 1))] := rfl
    rw [show (.int (t + 1) : V) = V.int (t + 1) from rfl] at *
    rw [hput]
    generalize hH1 : upd H d (.dK [((.inr "cells" : Key), V.ref c), (.inr "turn", .int (t + 1))]) = H1
    have hd1 : H1 d = some (.dK [(.inr "cells", .ref c), (.inr "turn", .int (t + 1))]) := by rw [← hH1]; exact upd_same
    have hc1 : H1 c = some (.lst (cs.map V.int)) := by rw [← hH1, upd_ne ndc.symm]; exact hc
    have k1 : Kp d c H H1 := fun b o h1 h2 e => by rw [← hH1, upd_ne h1]; exact e
    have hlp : 0 < cs.length := List.length_pos_iff.mpr hne
    -- place = turn % len(state['cells'])
    refine ⟨_, rfl, .ref d, rfl, d, .ref c, rfl, DGet.k (k := Sum.inr "cells") hd1, c, _, rfl, .inl (SqL.of hc1), _, _, rfl, rfl, (by show (0 : Int) < ((cs.map V.int).length : Int); rw [List.length_map]; omega), ?_⟩
    dsimp only
    rw [List.length_map]
    have hj0 : 0 ≤ (t + 1) % (cs.length : Int) := Int.emod_nonneg _ (by omega)
    have hj1 : (t + 1) % (cs.length : Int) < cs.length := Int.emod_lt_of_pos _ (by omega)
    obtain ⟨j, hj⟩ := Int.eq_ofNat_of_zero_le hj0
    have hjl : j < cs.length := by omega
    rw [hj]
    have gj : (cs.map V.int)[j]? = some (.int cs[j]) := by rw [List.getElem?_map, List.getElem?_eq_getElem hjl]; rfl
    -- cell = state['cells'][place]
    refine ⟨.ref d, rfl, d, .ref c, rfl, DGet.k (k := Sum.inr "cells") hd1, _, rfl, c, _, _, .int cs[j], rfl, rfl, SqL.of hc1, atI_nat gj, ?_⟩
    generalize cs[j] = x
    -- if cell >= 10 ** 18
    refine ⟨_, rfl, 10, 18, rfl, rfl, ⟨by decide, by decide, by decide⟩, _, _, rfl, rfl, _, rfl, ite2 (fun e => ?_) (fun e => ?_)⟩
    · have hdp : CDivP x m := ⟨hm, PyProof.noPylong_of_log2 (Nat.lt_trans (PySem.Flt.log2_lt_of (by decide) hm2) (by decide))⟩
      refine ⟨_, rfl, _, rfl, x, m, rfl, hdp, fun p hp => ?_⟩
      have npd : d ≠ p := ne_of_none hd1 hp
      have npc : c ≠ p := ne_of_none hc1 hp
      have hd2 : upd H1 p (.tup [.int (x / m), .int (x % m)]) d = some (.dK [(.inr "cells", .ref c), (.inr "turn", .int (t + 1))]) := by rw [upd_ne npd]; exact hd1
      have hc2 : upd H1 p (.tup [.int (x / m), .int (x % m)]) c = some (.lst (cs.map V.int)) := by rw [upd_ne npc]; exact hc1
      refine ⟨p, _, rfl, .inl (.inl upd_same), rfl, _, _, rfl, .ref d, rfl, d, .ref c, rfl, DGet.k (k := Sum.inr "cells") hd2, _, rfl, c, _, _, j, rfl, rfl, hc2, ixN_of (by rw [List.length_map]; exact hjl), _, _, rfl, rfl, ?_⟩
      refine ⟨_, rfl, ?_⟩
      refine q _ _ (Int.emod_nonneg _ (by omega)) (Int.emod_lt_of_pos _ hm) ⟨?_, ⟨cs.set j (x / m), ?_, ?_, ?_⟩, by omega⟩ ?_
      · rw [upd_ne ndc]; exact hd2
      · rw [upd_same, List.map_set]
      · intro z
        have z2 : (cs.set j (x / m)).length = 0 := by rw [z]; rfl
        rw [List.length_set] at z2
        omega
      · rw [List.length_set]; exact hlen
      · intro b o h1 h2 e
        rw [upd_ne h2, upd_ne (ne_of_none (k1 b o h1 h2 e) hp)]
        exact k1 b o h1 h2 e
    · have t1 : t + 1 < 2 ^ 61 := by omega
      -- mixed
      refine ⟨_, rfl, _, _, rfl, rfl, (show (0 : Int) < 2147483629 by decide), _, rfl, _, rfl, t + 1, t + 1, rfl, rfl, .inl ⟨by omega, by omega⟩, _, _, rfl, rfl, .inr ⟨by decide, by decide⟩, _, _, rfl, rfl, _, _, rfl, rfl, _, _, rfl, rfl, .inr ⟨by decide, by decide⟩, _, 2147483647, rfl, rfl, (show (0 : Int) < 2147483647 by decide), ?_⟩
      dsimp only
      generalize hy : ((x % 2147483629 + (t + 1) * (t + 1) * 7919 + 11) * 48271) = y
      have y0 : 0 ≤ y % 2147483647 := Int.emod_nonneg _ (by decide)
      have y1 : y % 2147483647 < 2147483647 := Int.emod_lt_of_pos _ (by decide)
      refine ⟨_, rfl, _, rfl, y % 2147483647, y % 2147483647, rfl, rfl, .inl ⟨by omega, by omega⟩, _, 2147483587, rfl, rfl, (show (0 : Int) < 2147483587 by decide), ?_⟩
      refine ⟨_, rfl, _, rfl, t + 1, 104729, rfl, rfl, .inr ⟨by decide, by decide⟩, _, _, rfl, rfl, _, _, rfl, rfl, .inr ⟨by decide, by decide⟩, _, 2147483629, rfl, rfl, (show (0 : Int) < 2147483629 by decide), _, 64, rfl, rfl, ⟨by decide, by decide⟩, _, rfl, _, m, rfl, rfl, hm, ?_⟩
      exact q _ _ (Int.emod_nonneg _ (by omega)) (Int.emod_lt_of_pos _ hm) ⟨hd1, ⟨cs, hc1, hne, hlen⟩, by omega⟩ k1
end

abbrev sBegin : Stmt := topS 16
theorem scBegin : FnScope ["_law_script", "_law_cells"] ["_law_script"] (defScope sBegin) := ⟨rfl, rfl, rfl, by decide +kernel, rfl, by decide +kernel, by decide +kernel⟩
theorem same_upd {H : Hp} {p : Addr} {o : HO} (h : H p = none) : Same H (upd H p o) := fun b x e => by
  rw [upd_ne (ne_of_none e h)]
  exact e
theorem cut_front (xs : List V) (m : Nat) : cutV xs none (some (m : Int)) = xs.take m := by
  unfold cutV
  rw [HT.sIx_none, HT.sIx_nat]
  show List.take (min m xs.length - 0) (xs.drop 0) = xs.take m
  rw [Nat.sub_zero, List.drop_zero]
  by_cases h : m ≤ xs.length
  · rw [Nat.min_eq_left h]
  · rw [Nat.min_eq_right (by omega), List.take_length, List.take_of_length_le (by omega)]
theorem dp_ints {K : PySem.W.Frag} {H : Hp} : ∀ ns : List Int, DpAll K H (ns.map V.int) (ns.map PyData.int)
  | [] => .nil
  | n :: r => .cons (.int n) (dp_ints r)
theorem lay_ints : ∀ ns : List Int, PyData.canLayAll0 (ns.map PyData.int) = true
  | [] => by simp only [List.map_nil, PyData.canLayAll0]
  | n :: r => by
    rw [List.map_cons, PyData.canLayAll0, lay_ints r]
    simp [PyData.canLay0]
theorem depth_ints : ∀ ns : List Int, PyData.depthAll (ns.map PyData.int) = 0
  | [] => by simp only [List.map_nil, PyData.depthAll]
  | n :: r => by
    rw [List.map_cons, PyData.depthAll, depth_ints r]
    simp [PyData.depth]
theorem shaped_ints (ns : List Int) : SeqAt.shaped (PyData.list (ns.map PyData.int)) = true := by
  unfold SeqAt.shaped
  rw [PyData.canLay0, lay_ints, PyData.depth, depth_ints]
  rfl
theorem eqv_nil (n : Int) (r : List Int) : PyData.eqv (PyData.list ((n :: r).map PyData.int)) (PyData.list []) = false := by
  simp [PyData.eqv, PyData.eqvAll]
theorem eqv_nil0 : PyData.eqv (PyData.list (([] : List Int).map PyData.int)) (PyData.list []) = true := by
  simp [PyData.eqv, PyData.eqvAll]
def spBegin (K : PySem.W.Frag) : Sp := fun vs H Q _ => ∃ (a : Addr) (ns : List Int), vs = [.ref a] ∧ SqL K H a (ns.map V.int) ∧ ns.length ≤ 63 ∧
  ∀ d c H', Same H H' → H d = none → H c = none → StAt H' d c 0 → Q (.ref d) H'
section
variable {K : PySem.W.Frag} {mg : Str → Option Value} {P : Program} {w : World} {base : Heap}
theorem ok_begin {f : Addr} {fd : FuncData} {k : Nat} (F : Fun K "_law_begin" "_law_begin" sBegin f fd) (ml : mg "list" = none) : FnOk P w K mg base CX0 (k + 1) f fd ["_law_script"] (spBegin K) := by
  refine F.ok scBegin (fun vs H Q E h => ?_) (fun cdv A outer s H vs Q E hr h => ?_)
  · obtain ⟨a, ns, rfl, _⟩ := h
    rfl
  · obtain ⟨a, ns, rfl, hS, hlen, q⟩ := h
    refine ⟨_, pss_cons (ps_set (i := 1) scBegin.nd rfl (.inl rfl) (pe_callTy call_list_of (by rfl) ml (by decide +kernel) (pa_cons (pe_slice sl_list (pv 0) po_none (po_some pe_int)) pa_nil)))
      (pss_cons (ps_if (pt_cmpR (op_eqD hr.units) (pv 1) (pe_lst pa_nil) (nomark _)) (pss_one (ps_set (i := 1) scBegin.nd rfl (.inl rfl) (pe_lst (pa_cons pe_int pa_nil)))) pss_nil)
      (pss_one (ps_ret (pe_disp (pps_cons pe_str (pv 1) (pps_cons pe_str pe_int pps_nil)) (by rfl) (by rfl) (fun z => by cases z) (by decide))))), ?_⟩
    -- the end: a dict of what stands at the cells' place
    have fin : ∀ (H1 : Hp) (c : Addr) (cs : List Int) (y : Option V), Same H H1 → H c = none → H1 c = some (.lst (cs.map V.int)) → cs ≠ [] → cs.length ≤ 63 →
        (tRet (tDisp [(tC (.str "cells"), tVar 1), (tC (.str "turn"), tC (.int 0))])) { nx := fun _ H' => Q .non H', rt := Q } [some (.ref a), some (.ref c)] H1 := by
      intro H1 c cs y s1 nc ec hne hl
      refine fun d nd => ⟨_, rfl, upd_same, [(.inr "cells", .ref c), (.inr "turn", .int 0)], rfl, (by show 2 ≤ 15; decide), ?_⟩
      have ndc : c ≠ d := ne_of_none ec nd
      refine q d c _ (fun b o e => ?_) (s1.free nd) nc ⟨?_, ⟨cs, ?_, hne, hl⟩, by decide⟩
      · have nb : b ≠ d := ne_of_none (s1 b o e) nd
        rw [upd_ne nb, upd_ne nb]
        exact s1 b o e
      · exact upd_same
      · rw [upd_ne ndc, upd_ne ndc]
        exact ec
    refine ⟨.ref a, rfl, 63, rfl, a, ns.map V.int, rfl, hS, fun p np => ?_⟩
    have s1 : Same H (upd H p (.lst (cutV (ns.map V.int) none (some 63)))) := same_upd np
    refine ⟨p, _, rfl, .inl (SqL.of upd_same), fun l nl => ?_⟩
    have s2 := s1.trans (same_upd (o := .lst (cutV (ns.map V.int) none (some 63))) nl)
    have ecut : cutV (ns.map V.int) none (some 63) = ns.map V.int := by
      have e := cut_front (ns.map V.int) 63
      have e2 : cutV (ns.map V.int) none (some 63) = (ns.map V.int).take 63 := e
      rw [e2, List.take_of_length_le (by rw [List.length_map]; exact hlen)]
    have el : upd (upd H p (.lst (cutV (ns.map V.int) none (some 63)))) l (.lst (cutV (ns.map V.int) none (some 63))) l = some (.lst (ns.map V.int)) := by
      rw [upd_same, ecut]
    revert s2 el
    generalize upd (upd H p (.lst (cutV (ns.map V.int) none (some 63)))) l (.lst (cutV (ns.map V.int) none (some 63))) = H2
    intro s2 el
    have nlH : H l = none := s1.free nl
    -- if cells == []
    refine ⟨.ref l, rfl, Nat.zero_le _, fun z nz => ?_⟩
    have s3 := s2.trans (same_upd (o := .lst []) nz)
    have nlz : l ≠ z := ne_of_none el nz
    have el3 : upd H2 z (.lst []) l = some (.lst (ns.map V.int)) := by rw [upd_ne nlz]; exact el
    refine ⟨.list (ns.map PyData.int), .list [], .lst (SqL.of el3) (dp_ints ns), .lst (SqL.of upd_same) .nil, shaped_ints ns, shaped_ints [], ?_⟩
    cases ns with
    | nil =>
      refine ⟨true, by rw [eqv_nil0], iteT ?_⟩
      refine ⟨(by show 1 ≤ sizeLine; decide), fun c nc => ?_⟩
      exact fin _ c [_] none (s3.trans (same_upd nc)) (s3.free nc) upd_same (by simp) (by decide)
    | cons n r =>
      refine ⟨false, by rw [eqv_nil], iteF ?_⟩
      exact fin _ l (n :: r) none s3 nlH el3 (by simp) hlen
end

/-- a def of the text that keeps a promise, as its callers see it -/
def Cal (P : Program) (w : World) (K : PySem.W.Frag) (mg : Str → Option Value) (base : Heap) (k : Nat) (x : Str) (ps : List Str) (sp : Sp) : Prop :=
  ∃ f fd, FnOk P w K mg base CX0 k f fd ps sp ∧ mg x = some (.ref f) ∧ PySem.W.keepIn K (.ref f) = true ∧ Binds K fd ps []
theorem pe_own {X : Cx} {k : Nat} {x : Str} {ps : List Str} {sp : Sp} {e : Expr} {es : List Expr} {t : TA} {p pos : Pos} (C : Cal X.prog X.w X.K X.mg X.base k x ps sp) (hr : Room k X.A) (hg : Gl X x) (ha : PA X (e :: es) t)
    (dbg : (x == ("__debug__" : Str)) = false := by decide) (one : starEach (e :: es) X.env = (false, eval e X.env) :: starEach es X.env := by rfl) (star : (backTo pos (starEach es X.env)).any (·.1) = false := by rfl) :
    PE X (.Call (.Name x p) (e :: es) [] pos) (tCall sp [] E0 t) := by
  obtain ⟨f, fd, F, hm, hk, hb⟩ := C
  exact pe_call F hr hg hm hk hb .nil pass0 ha dbg one star
theorem StAt.same {H H' : Hp} {d c : Addr} {t : Int} (h : StAt H d c t) (s : Same H H') : StAt H' d c t :=
  ⟨s _ _ h.dict, let ⟨cs, e, r⟩ := h.cells; ⟨cs, s _ _ e, r⟩, h.pos⟩
theorem Kp.same {H H' : Hp} (d c : Addr) (s : Same H H') : Kp d c H H' := fun b o _ _ e => s b o e
/-- what is made behind the state stays -/
theorem Kp.at {H H' : Hp} {d c a : Addr} {t : Int} {o : HO} (k : Kp d c H H') (S : StAt H d c t) (e : H a = some o) (h1 : ∀ kvs, o ≠ .dK kvs) (h2 : ∀ ns : List Int, o ≠ .lst (ns.map V.int)) : H' a = some o := by
  obtain ⟨cs, ec, _⟩ := S.cells
  refine k a o (fun z => ?_) (fun z => ?_) e
  · rw [z, S.dict] at e
    exact h1 _ (Option.some.inj e).symm
  · rw [z, ec] at e
    exact h2 _ (Option.some.inj e).symm
theorem StAt.upd {H : Hp} {d c l : Addr} {t : Int} {o : HO} (S : StAt H d c t) (h1 : l ≠ d) (h2 : l ≠ c) : StAt (L2.upd H l o) d c t := by
  refine ⟨by rw [upd_ne h1.symm]; exact S.dict, ?_, S.pos⟩
  obtain ⟨cs, ec, r⟩ := S.cells
  exact ⟨cs, by rw [upd_ne h2.symm]; exact ec, r⟩

theorem _root_.GP.Prs.same {H H' : Hp} {vs : List V} {ps : List (Int × Int)} (h : Prs H vs ps) (s : Same H H') : Prs H' vs ps :=
  ⟨h.1, fun i p e => let ⟨a, e1, e2⟩ := h.2 i p e; ⟨a, e1, s _ _ e2⟩⟩
theorem _root_.GP.Prs.kp {H H' : Hp} {d c : Addr} {t : Int} {vs : List V} {ps : List (Int × Int)} (h : Prs H vs ps) (S : StAt H d c t) (k : Kp d c H H') : Prs H' vs ps :=
  ⟨h.1, fun i p e => let ⟨a, e1, e2⟩ := h.2 i p e; ⟨a, e1, k.at S e2 (fun _ z => nomatch z) (fun _ z => nomatch z)⟩⟩
theorem _root_.GP.Prs.upd_lst {H : Hp} {l : Addr} {xs : List V} {o : HO} {vs : List V} {ps : List (Int × Int)} (h : Prs H vs ps) (hl : H l = some (.lst xs)) : Prs (upd H l o) vs ps :=
  ⟨h.1, fun i p e => let ⟨a, e1, e2⟩ := h.2 i p e; ⟨a, e1, by rw [upd_ne (ne_of e2 hl (fun z => nomatch z))]; exact e2⟩⟩
theorem _root_.GP.Prs.nil {H : Hp} : Prs H [] [] := ⟨rfl, fun i p e => by simp at e⟩
theorem _root_.GP.Prs.snoc {H : Hp} {a : Addr} {x y : Int} {vs : List V} {ps : List (Int × Int)} (h : Prs H vs ps) (e : H a = some (.tup [.int x, .int y])) : Prs H (vs ++ [.ref a]) (ps ++ [(x, y)]) := by
  refine ⟨by simp [h.1], fun i p ep => ?_⟩
  by_cases hi : i < ps.length
  · rw [List.getElem?_append_left hi] at ep
    obtain ⟨b, e1, e2⟩ := h.2 i p ep
    exact ⟨b, by rw [List.getElem?_append_left (by rw [h.1]; exact hi)]; exact e1, e2⟩
  · rw [List.getElem?_append_right (by omega)] at ep
    have hz : i - ps.length = 0 := by
      cases hq : i - ps.length with
      | zero => rfl
      | succ n => rw [hq] at ep; simp at ep
    rw [hz] at ep
    have ep' : (x, y) = p := by simpa using ep
    subst ep'
    refine ⟨a, ?_, e⟩
    rw [List.getElem?_append_right (by rw [h.1]; omega), h.1, hz]
    rfl
/-- rising stretches with gaps, from lo on -/
def Ris : Int → List (Int × Int) → Prop
  | _, [] => True
  | lo, p :: r => lo ≤ p.1 ∧ p.1 ≤ p.2 ∧ Ris (p.2 + 2) r
theorem Ris.snoc : ∀ {lo : Int} {ps : List (Int × Int)} {a b : Int}, Ris lo ps → lo ≤ a → (∀ p ∈ ps, p.2 + 2 ≤ a) → a ≤ b → Ris lo (ps ++ [(a, b)])
  | lo, [], a, b, _, h1, _, h3 => ⟨h1, h3, True.intro⟩
  | lo, p :: r, a, b, h, h1, h2, h3 => ⟨h.1, h.2.1, Ris.snoc h.2.2 (h2 p (List.mem_cons_self ..)) (fun q hq => h2 q (List.mem_cons_of_mem _ hq)) h3⟩
theorem pick2 {x y r : Int} (Pv : Int → Prop) (h0 : 0 ≤ r) (h1 : r < 2) (hx : Pv x) (hy : Pv y) : ∃ v, Pv v ∧ atI [V.int x, V.int y] r = some (.int v) := by
  have : r = 0 ∨ r = 1 := by omega
  rcases this with rfl | rfl
  · exact ⟨x, hx, rfl⟩
  · exact ⟨y, hy, rfl⟩
theorem pick3 {x y z r : Int} (Pv : Int → Prop) (h0 : 0 ≤ r) (h1 : r < 3) (hx : Pv x) (hy : Pv y) (hz : Pv z) : ∃ v, Pv v ∧ atI [V.int x, V.int y, V.int z] r = some (.int v) := by
  have : r = 0 ∨ r = 1 ∨ r = 2 := by omega
  rcases this with rfl | rfl | rfl
  · exact ⟨x, hx, rfl⟩
  · exact ⟨y, hy, rfl⟩
  · exact ⟨z, hz, rfl⟩
/-- a new object stands through the state's change -/
theorem Kp.new {H H' : Hp} {d c l : Addr} {t : Int} {o : HO} (k : Kp d c (upd H l o) H') (S : StAt H d c t) (n : H l = none) : H' l = some o := by
  obtain ⟨cs, ec, _⟩ := S.cells
  exact k l o (ne_of_none S.dict n).symm (ne_of_none ec n).symm upd_same
theorem drop_at {α : Type} {l : List α} {i : Nat} {x : α} (h : l[i]? = some x) : l.drop i = x :: l.drop (i + 1) := by
  obtain ⟨lt, e⟩ := List.getElem?_eq_some_iff.mp h
  rw [← e]
  exact List.drop_eq_getElem_cons lt
theorem prs_at {H : Hp} {vs : List V} {ps : List (Int × Int)} {i : Nat} {x : V} (h : Prs H vs ps) (e : vs[i]? = some x) : ∃ (p : Int × Int) (a : Addr), ps[i]? = some p ∧ x = .ref a ∧ H a = some (.tup [.int p.1, .int p.2]) := by
  obtain ⟨hi, _⟩ := List.getElem?_eq_some_iff.mp e
  have hi2 : i < ps.length := by rw [← h.1]; exact hi
  obtain ⟨a, e1, e2⟩ := h.2 i ps[i] (List.getElem?_eq_getElem hi2)
  rw [e] at e1
  exact ⟨ps[i], a, List.getElem?_eq_getElem hi2, Option.some.inj e1, e2⟩

theorem sumP_append (g : Int → Int → Int) (ps qs : List (Int × Int)) : sumP g (ps ++ qs) = sumP g ps + sumP g qs := by
  unfold sumP
  rw [List.map_append, List.sum_append]
def inB (n a b : Int) : Bool := decide (a ≤ n) && decide (n ≤ b)
theorem Ris.le : ∀ {lo : Int} {ps : List (Int × Int)}, Ris lo ps → ∀ p ∈ ps, lo ≤ p.1 ∧ p.1 ≤ p.2
  | _, [], _, _, hp => nomatch hp
  | lo, q :: r, h, p, hp => by
    rcases List.mem_cons.mp hp with e | e'
    · rw [e]; exact ⟨h.1, h.2.1⟩
    · have := Ris.le h.2.2 p e'
      have := h.2.1
      have := h.1
      omega

/-! ### walks over a list or a tuple -/
def Sq (K : PySem.W.Frag) (H : Hp) (a : Addr) (xs : List V) : Prop := SqL K H a xs ∨ SqT K H a xs
def iSeq (K : PySem.W.Frag) (tl : TE) : TI := fun σ H R => tl σ H fun x H1 => ∃ a, x = .ref a ∧ (((∃ xs, SqL K H1 a xs) ∧ R (Itl K a) H1) ∨ ((∃ xs, SqT K H1 a xs) ∧ R (Itt K a) H1))
/-- the iterator that was just laid is no one's -/
theorem lone {X : Cx} {pins : List (Addr × Obj)} {σ : L2.St} {H : Hp} {s : Shared} (I : Inv X pins σ H s) : ∀ b ∈ [s.heap.objs.size], FpOk X pins H b := fun b hb => by
  rw [List.mem_singleton.mp hb]
  exact I.fpOk (H' := H) (Nat.le_refl _) (I.hok.fresh (Nat.le_refl _))
theorem pi_seq {X : Cx} {tg l : Expr} {tl : TE} (walked : PE X l tl) : PI X tg l (iSeq X.K tl) := by
  constructor
  intro pins s σ H R I h
  refine thn (walked.run pins s σ H _ I h) fun u s1 had => ?_
  obtain ⟨_, H1, J, rel, a, rfl, had⟩ := had
  cases rel
  have laid : ∀ o, Inv X pins σ H1 { s1 with heap := s1.heap.push o } := fun o => J.kept (t' := s1.toks) fun _ _ e => Heap.get?_push_of_some _ e
  rcases had with ⟨⟨xs, hq⟩, q⟩ | ⟨⟨xs, hq⟩, q⟩
  · obtain ⟨its, _, isL, _⟩ := J.list hq
    exact wpAny_pyIter_list isL.isList ⟨_, _, _, _, H1, rfl, laid _, turn_list a _, ⟨_, Heap.get?_push_size _ rfl, rfl, rfl⟩, lone J, q⟩
  · obtain ⟨its, _, isT, _⟩ := J.tuple hq
    exact wpAny_pyIter_tuple (items := its.toArray) isT ⟨_, _, _, _, H1, rfl, laid _, turn_tuple a _, ⟨_, Heap.get?_push_size _ rfl, rfl, rfl⟩, lone J, q⟩
/-- the walked thing stands as it stood -/
def SqTo (K : PySem.W.Frag) (H H' : Hp) (a : Addr) (xs : List V) : Prop := (SqL K H a xs → SqL K H' a xs) ∧ (SqT K H a xs → SqT K H' a xs)
theorem SqTo.refl {K : PySem.W.Frag} {H : Hp} {a : Addr} {xs : List V} : SqTo K H H a xs := ⟨fun h => h, fun h => h⟩
theorem same_t {K : PySem.W.Frag} {H H' : Hp} {a : Addr} {xs : List V} (s : Same H H') (h : SqT K H a xs) : SqT K H' a xs :=
  h.elim (fun r => .inl (r.elim (fun e => .inl (s a _ e)) fun ⟨o, e⟩ => .inr ⟨o, s a _ e⟩)) .inr
theorem SqTo.same {K : PySem.W.Frag} {H H' : Hp} {a : Addr} {xs : List V} (s : Same H H') : SqTo K H H' a xs := ⟨s.seq, same_t s⟩
theorem Sq.same {K : PySem.W.Frag} {H H' : Hp} {a : Addr} {xs : List V} (h : Sq K H a xs) (s : Same H H') : Sq K H' a xs := h.elim (fun h => .inl (s.seq h)) fun h => .inr (same_t s h)
theorem Sq.list {K : PySem.W.Frag} {H : Hp} {a : Addr} {xs : List V} (h : H a = some (.lst xs)) : Sq K H a xs := .inl (SqL.of h)
theorem Sq.tup {K : PySem.W.Frag} {H : Hp} {a : Addr} {xs : List V} (h : H a = some (.tup xs)) : Sq K H a xs := .inr (.inl (.inl h))
abbrev ForR (J : It) (g : TG) (tb : TS) (D : Ends) (σ : L2.St) (H1 : Hp) : Prop := ∃ W : Nat → Nat → L2.St → Hp → Prop, (∃ m, W 0 m σ H1) ∧ ∀ i m σ H, W i m σ H →
  (J.stop i H ∧ D.nx σ H) ∨ (J.go i H ∧ ∃ N : L2.St → Hp → Prop, (∀ σ' H', N σ' H' → ∃ m', m' < m ∧ W (i + 1) m' σ' H') ∧ ∀ x H', J.yld i H x H' → g x σ H' fun σ2 H2 => tb { D with nx := N, ct := N, bk := D.nx } σ2 H2)
theorem for_seq {K : PySem.W.Frag} {a : Addr} {xs : List V} {g : TG} {tb : TS} {D : Ends} {σ : L2.St} {H1 : Hp} (hq : Sq K H1 a xs) (Pv : Nat → L2.St → Hp → Prop) (h0 : Pv 0 σ H1)
    (hl : ∀ i σ H', i ≤ xs.length → Pv i σ H' → SqTo K H1 H' a xs)
    (turn : ∀ i x σ H, xs[i]? = some x → Pv i σ H → g x σ H fun σ2 H2 => tb { D with nx := Pv (i + 1), ct := Pv (i + 1), bk := D.nx } σ2 H2) (fin : ∀ σ H, Pv xs.length σ H → D.nx σ H) :
    ((∃ xs, SqL K H1 a xs) ∧ ForR (Itl K a) g tb D σ H1) ∨ ((∃ xs, SqT K H1 a xs) ∧ ForR (Itt K a) g tb D σ H1) := by
  rcases hq with h | h
  · exact .inl ⟨⟨xs, h⟩, for_list (xs := xs) Pv h0 (fun i σ H' hi p => (hl i σ H' hi p).1 h) turn fin⟩
  · exact .inr ⟨⟨xs, h⟩, for_tup (xs := xs) Pv h0 (fun i σ H' hi p => (hl i σ H' hi p).2 h) turn fin⟩

/-! ### pairs as data -/
def pairD (p : Int × Int) : PyData := .tuple [.int p.1, .int p.2]
theorem dp_prs {K : PySem.W.Frag} {H : Hp} : ∀ {us : List V} {ps : List (Int × Int)}, Prs H us ps → DpAll K H us (ps.map pairD)
  | [], [], _ => .nil
  | [], _ :: _, h => nomatch h.1
  | _ :: _, [], h => nomatch h.1
  | u :: us, p :: ps, h => by
    obtain ⟨a, e1, e2⟩ := h.2 0 p rfl
    have eu : u = .ref a := Option.some.inj e1
    subst eu
    refine .cons (.tup (.inl (.inl e2)) (.cons (.int _) (.cons (.int _) .nil))) (dp_prs ⟨Nat.succ.inj h.1, fun i q e => ?_⟩)
    obtain ⟨b, f1, f2⟩ := h.2 (i + 1) q e
    exact ⟨b, f1, f2⟩
theorem lay_prs : ∀ ps : List (Int × Int), PyData.canLayAll0 (ps.map pairD) = true
  | [] => by simp only [List.map_nil, PyData.canLayAll0]
  | p :: r => by
    rw [List.map_cons, PyData.canLayAll0, lay_prs r]
    simp [pairD, PyData.canLay0, PyData.canLayAll0]
theorem depth_prs : ∀ ps : List (Int × Int), PyData.depthAll (ps.map pairD) ≤ 1
  | [] => by simp only [List.map_nil, PyData.depthAll]; omega
  | p :: r => by
    rw [List.map_cons, PyData.depthAll]  -- a pair, then the rest
    have := depth_prs r
    simp [pairD, PyData.depth, PyData.depthAll]
    omega
theorem shaped_prs (ps : List (Int × Int)) : SeqAt.shaped (PyData.list (ps.map pairD)) = true := by
  unfold SeqAt.shaped
  rw [PyData.canLay0, lay_prs, PyData.depth, Bool.true_and]
  exact decide_eq_true (by have := depth_prs ps; omega)
theorem eqv_prs (ps : List (Int × Int)) : PyData.eqv (PyData.list (ps.map pairD)) (PyData.list (ps.map pairD)) = true := SeqAt.eqv_refl _ (by rw [PyData.canLay0]; exact lay_prs ps)
theorem tabG_tabbed {Pt Pu : Addr} {H H2 : Hp} (g : GxR.TabG H Pu) (x : GxR.Tabbed Pt H H2) : GxR.TabG H2 Pu := by
  by_cases e : Pu = Pt
  · rw [e]; exact x.1
  · obtain ⟨ps, h, r⟩ := g
    exact ⟨ps, by rw [x.2 _ e]; exact h, r⟩

theorem Kp.free {H H' : Hp} {d c l : Addr} {t' : Int} (k : Kp d c H H') (S' : StAt H' d c t') (n : H' l = none) : H l = none := by
  cases e : H l with
  | none => rfl
  | some o =>
    obtain ⟨cs1, ec1, _⟩ := S'.cells
    have z := k l o (ne_of_none S'.dict n).symm (ne_of_none ec1 n).symm e
    rw [n] at z
    cases z
theorem StAt.off {H : Hp} {d c l : Addr} {t : Int} (S : StAt H d c t) (n : H l = none) : l ≠ d ∧ l ≠ c := by
  obtain ⟨cs1, ec1, _⟩ := S.cells
  exact ⟨(ne_of_none S.dict n).symm, (ne_of_none ec1 n).symm⟩
/-- no whole number among these: so it's not the draws' cells -/
def NoInt (xs : List V) : Prop := ∀ x ∈ xs, ∀ i, x ≠ .int i
theorem Kp.lst {H H' : Hp} {d c a : Addr} {t : Int} {xs : List V} (k : Kp d c H H') (S : StAt H d c t) (e : H a = some (.lst xs)) (h : NoInt xs) : H' a = some (.lst xs) := by
  obtain ⟨cs, ec, hne, _⟩ := S.cells
  refine k a _ (fun z => ?_) (fun z => ?_) e
  · rw [z, S.dict] at e
    cases e
  · rw [z, ec] at e
    have e' : cs.map V.int = xs := HO.lst.inj (Option.some.inj e)
    cases cs with
    | nil => exact hne rfl
    | cons n r => exact h (.int n) (e' ▸ List.mem_cons_self ..) n rfl
theorem Kp.tup {H H' : Hp} {d c a : Addr} {t : Int} {xs : List V} (k : Kp d c H H') (S : StAt H d c t) (e : H a = some (.tup xs)) : H' a = some (.tup xs) := k.at S e (fun _ z => nomatch z) (fun _ z => nomatch z)
theorem noInt_strs (xs : List Str) : NoInt (xs.map V.str) := fun x hx i e => by
  obtain ⟨y, _, rfl⟩ := List.mem_map.mp hx
  cases e
theorem noInt_prs {H : Hp} {us : List V} {ps : List (Int × Int)} (h : Prs H us ps) : NoInt us := fun x hx i e => by
  obtain ⟨j, hj, e1⟩ := List.getElem_of_mem hx
  obtain ⟨p, a, _, rfl, _⟩ := prs_at h (by rw [List.getElem?_eq_getElem hj, e1])
  cases e

abbrev sNumber : Stmt := topS 19
theorem scNumber : FnScope ["_law_state", "_law_sort", "_law_number_here", "_law_turn"] ["_law_state", "_law_sort"] (defScope sNumber) := ⟨rfl, rfl, rfl, by decide +kernel, rfl, by decide +kernel, by decide +kernel⟩
def spNumber : Sp := fun vs H Q _ => ∃ (d c : Addr) (t kd : Int), vs = [.ref d, .int kd] ∧ StAt H d c t ∧ t + 5 < 2 ^ 60 ∧ 0 ≤ kd ∧
  ∀ r t' H', 0 ≤ r → r < 10 ^ 30 → t ≤ t' → t' ≤ t + 5 → StAt H' d c t' → Kp d c H H' → Q (.int r) H'
section
variable {K : PySem.W.Frag} {mg : Str → Option Value} {P : Program} {w : World} {base : Heap}
theorem ok_number {f : Addr} {fd : FuncData} (F : Fun K "_law_number" "_law_number" sNumber f fd) (CT : Cal P w K mg base 1 "_law_take" ["_law_state", "_law_many"] spTake) (mr : mg "range" = none) :
    FnOk P w K mg base CX0 2 f fd ["_law_state", "_law_sort"] spNumber := by
  refine F.ok scNumber (fun vs H Q E h => ?_) (fun cdv A outer s H vs Q E hr h => ?_)
  · obtain ⟨d, c, t, kd, rfl, _⟩ := h
    rfl
  · obtain ⟨d, c, t, kd, rfl, hS, ht, hk, q⟩ := h
    refine ⟨_, pss_cons (ps_if (pt_cmpR op_lt (pv 1) pe_int (nomark _)) (pss_one (ps_ret (pe_own CT hr (by rfl) (pa_cons (pv 0) (pa_cons (pe_ix ix_list (pe_lst (pa_cons pe_int (pa_cons pe_int (pa_cons (pe_op op_pow pe_int pe_int) pa_nil)))) (pv 1) (fun _ _ => rfl)) pa_nil))))) pss_nil)
      (pss_cons (ps_set (i := 2) scNumber.nd rfl (.inl rfl) pe_int)
      (pss_cons (ps_for PassesOwn.never rfl (pi_range1 rfl mr (pa_cons pe_int pa_nil)) (pg_name (i := 3) scNumber.nd rfl (.inl rfl))
        (pss_one (ps_set (i := 2) scNumber.nd rfl (.inl rfl) (pe_op op_add (pe_op op_mul (pv 2) (pe_op op_pow pe_int pe_int)) (pe_own CT hr (by rfl) (pa_cons (pv 0) (pa_cons (pe_op op_pow pe_int pe_int) pa_nil)))))))
      (pss_one (ps_ret (pv 2))))), ?_⟩
    refine ⟨_, rfl, _, _, rfl, rfl, _, rfl, ite2 (fun e => ?_) (fun e => ?_)⟩
    · have e' := of_decide_eq_true e
      refine ⟨_, rfl, 10, 7, rfl, rfl, ⟨by decide, by decide, by decide⟩, (by show 3 ≤ sizeLine; decide), fun p np => ?_⟩
      have s1 : Same H (upd H p (.lst [.int 4, .int 40, .int (10 ^ (7 : Int).toNat)])) := same_upd np
      obtain ⟨m, ⟨hm0, hm1⟩, hat⟩ := pick3 (x := 4) (y := 40) (z := 10 ^ (7 : Int).toNat) (r := kd) (fun m => 0 < m ∧ m ≤ 10 ^ 7) hk e' (by decide) (by decide) (by decide)
      refine ⟨_, rfl, p, _, kd, .int m, rfl, rfl, SqL.of upd_same, hat, d, c, t, m, rfl, hS.same s1, by omega, hm0, by omega, fun r H' h0 h1 hS' k' => ?_⟩
      exact q r (t + 1) H' h0 (by omega) (by omega) (by omega) hS' ((Kp.same d c s1).trans k')
    · refine ⟨5, rfl, by decide, by decide, for_range (n := 5) (fun i σ H1 => ∃ (x t' : Int) (y : Option V), σ = [some (.ref d), some (.int kd), some (.int x), y] ∧ 0 ≤ x ∧ x < 10 ^ (6 * i) ∧ t ≤ t' ∧ t' ≤ t + i ∧ StAt H1 d c t' ∧ Kp d c H H1) ⟨0, t, none, rfl, by decide, by decide, by omega, by omega, hS, Kp.refl d c H⟩ (fun i σ H1 hi hP => ?_) (fun σ H1 hP => ?_)⟩
      · obtain ⟨x, t', y, rfl, x0, x1, h0, h1, hS1, k1⟩ := hP
        have x2 : x < 10 ^ 30 := by
          have : i = 0 ∨ i = 1 ∨ i = 2 ∨ i = 3 ∨ i = 4 := by omega
          rcases this with rfl | rfl | rfl | rfl | rfl <;> omega
        refine ⟨_, rfl, 10, 6, rfl, rfl, ⟨by decide, by decide, by decide⟩, x, 10 ^ 6, rfl, rfl, .inr ⟨by decide, by decide⟩, _, rfl, 10, 6, rfl, rfl, ⟨by decide, by decide, by decide⟩, d, c, t', 10 ^ 6, rfl, hS1, by omega, by decide, by decide, fun r H2 r0 r1 hS2 k2 => ?_⟩
        refine ⟨x * 10 ^ 6, r, rfl, rfl, x * 10 ^ 6 + r, t' + 1, _, rfl, by omega, ?_, by omega, by omega, hS2, k1.trans k2⟩
        have : i = 0 ∨ i = 1 ∨ i = 2 ∨ i = 3 ∨ i = 4 := by omega
        rcases this with rfl | rfl | rfl | rfl | rfl <;> omega
      · obtain ⟨x, t', y, rfl, x0, x1, h0, h1, hS1, k1⟩ := hP
        exact ⟨_, rfl, q x t' H1 x0 (by omega) h0 (by omega) hS1 k1⟩
end

/-- a text of one sign -/
def sgS (c : Nat) : Str := ⟨#[c]⟩
def sgn (c : Nat) : V := .str (sgS c)
def spNames : Sp := fun vs H Q _ => ∃ (d c : Addr) (t m : Int), vs = [.ref d, .int m] ∧ StAt H d c t ∧ t + 100 < 2 ^ 60 ∧ 0 ≤ m ∧ m ≤ 20 ∧
  ∀ (l : Addr) (xs : List Str) (t' : Int) H', H l = none → H' l = some (.lst (xs.map V.str)) → (∀ x ∈ xs, PyData.strOk x = true) → (xs.length : Int) = m → xs.Nodup → t ≤ t' → t' ≤ t + 20 → StAt H' d c t' → Kp d c H H' → Q (.ref l) H'
theorem join_small {cs : List Nat} (h : cs.length ≤ 10) : ((cs.map sgS).map (·.length)).sum + (cs.map sgS).length * ("" : Str).length ≤ 16777216 := by
  have e : ((cs.map sgS).map (·.length)).sum = cs.length := by
    induction cs with
    | nil => rfl
    | cons c r ih =>
      rw [List.map_cons, List.map_cons, List.sum_cons, ih (by rw [List.length_cons] at h; omega), List.length_cons]
      show 1 + r.length = r.length + 1
      omega
  rw [e, show ("" : Str).length = 0 from rfl, Nat.mul_zero]
  omega
theorem joinL_ones : ∀ cs : List Nat, TL.joinL [] (cs.map fun c => [c]) = cs
  | [] => rfl
  | [_] => rfl
  | c :: c2 :: r => by
    have ih := joinL_ones (c2 :: r)
    show [c] ++ ([] ++ TL.joinL [] ((c2 :: r).map fun c => [c])) = _
    rw [ih]
    rfl
theorem join_ok {cs : List Nat} (h : ∀ c ∈ cs, c < 1114112) : PyData.strOk (Txt.join "" (cs.map sgS)) = true := by
  have e : Txt.join "" (cs.map sgS) = SX.S cs := by
    have z := SX.join_S [] (cs.map fun c => [c])
    rw [joinL_ones, List.map_map] at z
    exact z
  rw [e]
  show (Array.all _ _) = true
  rw [Array.all_eq_true']
  intro c hc
  exact decide_eq_true (h c (by simpa using hc))
/-- words that are unlike at one sign -/
def Spelt (abc : Str) (N fi sv : Int) (js : Nat) (xs : List Str) : Prop := ∀ (k : Nat) x, xs[k]? = some x → ∃ (cs : List Nat) (ch : Nat), x = SX.S cs ∧ cs[js]? = some ch ∧ atI abc.cps.toList ((fi + sv * (k : Int)) % N) = some ch
theorem join_eq (cs : List Nat) : Txt.join "" (cs.map sgS) = SX.S cs := by
  have z := SX.join_S [] (cs.map fun c => [c])
  rw [joinL_ones, List.map_map] at z
  exact z
theorem Spelt.snoc {abc : Str} {N fi sv : Int} {js i : Nat} {xs : List Str} {cs : List Nat} {ch : Nat} (h : Spelt abc N fi sv js xs) (hl : xs.length = i) (e1 : cs[js]? = some ch) (e2 : atI abc.cps.toList ((fi + sv * (i : Int)) % N) = some ch) : Spelt abc N fi sv js (xs ++ [Txt.join "" (cs.map sgS)]) := fun k x e => by
  by_cases hk : k < xs.length
  · rw [List.getElem?_append_left hk] at e
    exact h k x e
  · rw [List.getElem?_append_right (by omega)] at e
    have hz : k - xs.length = 0 := by
      cases hq : k - xs.length with
      | zero => rfl
      | succ n => rw [hq] at e; cases e
    rw [hz] at e
    cases e
    have hki : k = i := by omega
    subst hki
    exact ⟨cs, ch, join_eq cs, e1, e2⟩
theorem Spelt.nodup {abc : Str} {N fi sv : Int} {js : Nat} {xs : List Str} (h : Spelt abc N fi sv js xs) (hN : 0 < N) (hl : (abc.cps.toList.length : Int) = N) (hn : abc.cps.toList.Nodup) (far : ∀ k k' : Nat, k < xs.length → k' < xs.length → (fi + sv * (k : Int)) % N = (fi + sv * (k' : Int)) % N → k = k') : xs.Nodup := by
  refine List.pairwise_iff_getElem.mpr fun i j hi hj hij ex => ?_
  obtain ⟨cs1, c1, e1, f1, g1⟩ := h i xs[i] (List.getElem?_eq_getElem hi)
  obtain ⟨cs2, c2, e2, f2, g2⟩ := h j xs[j] (List.getElem?_eq_getElem hj)
  rw [e1, e2] at ex
  have ec : cs1 = cs2 := SX.S_inj ex
  rw [ec, f2] at f1
  have ecc : c2 = c1 := Option.some.inj f1
  rw [← ecc] at g1
  obtain ⟨a, ha⟩ := Int.eq_ofNat_of_zero_le (Int.emod_nonneg (fi + sv * (i : Int)) (show N ≠ 0 by omega))
  obtain ⟨b, hb⟩ := Int.eq_ofNat_of_zero_le (Int.emod_nonneg (fi + sv * (j : Int)) (show N ≠ 0 by omega))
  have la := Int.emod_lt_of_pos (fi + sv * (i : Int)) hN
  have lb := Int.emod_lt_of_pos (fi + sv * (j : Int)) hN
  rw [ha] at g1 la
  rw [hb] at g2 lb
  have a1 : a < abc.cps.toList.length := by omega
  have b1 : b < abc.cps.toList.length := by omega
  have g1' : abc.cps.toList[a]? = some c2 := by
    have z := atI_nat (List.getElem?_eq_getElem a1)
    rw [z] at g1
    rw [List.getElem?_eq_getElem a1]
    exact g1
  have g2' : abc.cps.toList[b]? = some c2 := by
    have z := atI_nat (List.getElem?_eq_getElem b1)
    rw [z] at g2
    rw [List.getElem?_eq_getElem b1]
    exact g2
  have eab : a = b := (List.getElem?_inj a1 hn).mp (g1'.trans g2'.symm)
  have := far i j (by omega) hj (by rw [ha, hb, eab])
  omega
/-! ### _law_names -/
abbrev sNames : Stmt := topS 20
theorem scNames : FnScope ["_law_state", "_law_many", "_law_letters", "_law_k", "_law_word", "_law_spot", "_law_first", "_law_step", "_law_made"] ["_law_state", "_law_many"] (defScope sNames) := ⟨rfl, rfl, rfl, by decide +kernel, rfl, by decide +kernel, by decide +kernel⟩
abbrev letNames : Str := "abcdefghijklmnopqrstuvwxyz"
theorem atNames {r : Int} (h0 : 0 ≤ r) (h1 : r < 26) : ∃ ch : Nat, atI letNames.cps.toList r = some ch ∧ ch < 1114112 := by
  obtain ⟨j, rfl⟩ := Int.eq_ofNat_of_zero_le h0
  have hl : letNames.cps.toList.length = 26 := by decide +kernel
  have hj : j < letNames.cps.toList.length := by omega
  have hall : ∀ c ∈ letNames.cps.toList, c < 1114112 := by decide +kernel
  exact ⟨_, atI_nat (List.getElem?_eq_getElem hj), hall _ (List.getElem_mem hj)⟩
section
variable {K : PySem.W.Frag} {mg : Str → Option Value} {P : Program} {w : World} {base : Heap}
theorem ok_Names {f : Addr} {fd : FuncData} (F : Fun K "_law_names" "_law_names" sNames f fd) (CT : Cal P w K mg base 1 "_law_take" ["_law_state", "_law_many"] spTake) (mr : mg "range" = none) (me : mg "len" = none) : FnOk P w K mg base CX0 2 f fd ["_law_state", "_law_many"] spNames := by
  refine F.ok scNames (fun vs H Q E h => ?_) (fun cdv A outer s H vs Q E hr h => ?_)
  · obtain ⟨d, c, t, m, rfl, _⟩ := h
    rfl
  · obtain ⟨d, c, t, m, rfl, hS, ht, hm0, hm1, q⟩ := h
    refine ⟨_, pss_cons (ps_set (i := 2) scNames.nd rfl (.inr rfl) pe_str)
      (pss_cons (ps_setLc (i := 4) (own := [("_law_k", 3)]) (g := gName 3) (tt := tYes) (te := tOp L2.rIxS (tVar 2) (tCall spTake [] E0 (tCons (tVar 0) (tCons (tC (.int 26)) tNil)))) rfl scNames.nd rfl rfl rfl (pi_range1 rfl mr (pa_cons (pe_op op_add pe_int (pe_own CT hr (by rfl) (pa_cons (pv 0) (pa_cons pe_int pa_nil)))) pa_nil))
            (blkOk_by (own := [("_law_k", 3)]) (N := ["_law_state", "_law_many", "_law_letters", "_law_k", "_law_word", "_law_spot", "_law_first", "_law_step", "_law_made"]) (sc := defScope sNames) (by decide +kernel)) (fun _ _ _ _ _ => pg_name (i := 3) scNames.nd rfl (.inl rfl)) (fun _ _ _ _ _ => pts_nil) (fun _ _ _ _ _ => pe_ix ix_str (pv 2) (pe_own CT hr (by rfl) (pa_cons (pv 0) (pa_cons pe_int pa_nil))) (fun _ _ => rfl)))
      (pss_cons (ps_par3 rfl scNames.nd (i := 5) (j := 6) (l := 7) rfl rfl rfl (by decide) (by decide) (by decide) rfl rfl rfl (pa_cons (pe_own CT hr (by rfl) (pa_cons (pv 0) (pa_cons (pe_callB call_len_seq (by rfl) me PySem.boot_len (pa_cons (pv 4) pa_nil)) pa_nil))) (pa_cons (pe_own CT hr (by rfl) (pa_cons (pv 0) (pa_cons pe_int pa_nil))) (pa_cons (pe_ix ix_list (pe_lst (pa_cons pe_int (pa_cons pe_int (pa_cons pe_int (pa_cons pe_int pa_nil))))) (pe_own CT hr (by rfl) (pa_cons (pv 0) (pa_cons pe_int pa_nil))) (fun _ _ => rfl)) pa_nil))) (by rfl))
      (pss_cons (ps_set (i := 8) scNames.nd rfl (.inl rfl) (pe_lst pa_nil))
      (pss_cons (ps_for PassesOwn.never rfl (pi_range1 rfl mr (pa_cons (pv 1) pa_nil)) (pg_name (i := 3) scNames.nd rfl (.inl rfl))
        (pss_cons (ps_asg (pe_ix ix_str (pv 2) (pe_op op_mod (pe_op op_add (pv 6) (pe_op op_mul (pv 7) (pv 3))) pe_int) (fun _ _ => rfl)) (pg_sub (pv 4) (pv 5) set_list))
        (pss_one (ps_expr (pe_bm PySem.F.plainAttrs_list PySem.F.slot_list_append PySem.F.type_list_append mt_append (pv 8) (pa_cons (pe_join pe_str (pv 4)) pa_nil))))))
      (pss_one (ps_ret (pv 8))))))), ?_⟩
    refine ⟨_, rfl, d, c, t, 8, rfl, hS, by omega, by decide, by decide, fun r H1 r0 r1 hS1 k1 => ⟨1, r, rfl, rfl, 1 + r, rfl, by omega, by omega, fun D nD => ?_⟩⟩
    have offD := hS1.off nD
    refine lc_range (n := (1 + r).toNat) (fun j H' => ∃ (t' : Int) (cs : List Nat), H' D = some (.lst (cs.map sgn)) ∧ cs.length = j ∧ (∀ ch ∈ cs, ch < 1114112) ∧ t ≤ t' ∧ t' ≤ t + 1 + j ∧ StAt H' d c t' ∧ Kp d c H1 H') ⟨t + 1, [], upd_same, rfl, (fun _ z => nomatch z), by omega, by omega, hS1.same (same_upd nD), Kp.same d c (same_upd nD)⟩ (fun j H' hj hP => ?_) (fun H2 hP => ?_)
    · obtain ⟨t', cs, eD, hcl, hcs, u0, u1, hS', k'⟩ := hP
      have hj2 : j ≤ 10 := by omega
      refine ⟨rfl, _, rfl, _, rfl, d, c, t', 26, rfl, hS', by omega, by decide, by decide, fun r2 H3 r20 r21 hS3 k3 => ?_⟩
      obtain ⟨ch, hat, hch⟩ := atNames r20 r21
      have eD3 := k3 _ _ offD.1 offD.2 eD
      refine ⟨_, r2, ch, rfl, rfl, (by show letNames.length ≤ sizeLine; decide +kernel), hat, ?_⟩
      refine ⟨_, eD3, small1000 (by rw [List.length_map]; omega), t' + 1, cs ++ [ch], by rw [upd_same, List.map_append]; rfl, by rw [List.length_append, hcl]; rfl, fun x hx => ?_, by omega, by omega, hS3.upd offD.1 offD.2, fun b o b1 b2 e => ?_⟩
      · rcases List.mem_append.mp hx with z | z
        · exact hcs x z
        · rw [List.mem_singleton.mp z]; exact hch
      · rw [upd_ne (ne_of_none e nD)]
        exact k3 b o b1 b2 (k' b o b1 b2 e)
    obtain ⟨t', cs, eD, hcl, hcs, u0, u1, hS2, k2⟩ := hP
    have hcl1 : 1 ≤ cs.length := by omega
    have hcl2 : cs.length ≤ 10 := by omega
    have lenm : (cs.map sgn).length = cs.length := List.length_map ..
    -- spot, first, step
    refine ⟨_, rfl, _, rfl, D, _, rfl, Sq.list eD, d, c, t', (cs.length : Int), by rw [lenm]; rfl, hS2, by omega, by omega, by omega, fun sp H3 sp0 sp1 hS3 k3 => ?_⟩
    refine ⟨_, rfl, d, c, t' + 1, 26, rfl, hS3, by omega, by decide, by decide, fun fi H4 fi0 fi1 hS4 k4 => ?_⟩
    refine ⟨(by show 4 ≤ sizeLine; decide), fun z nz => ?_⟩
    have sz := same_upd (o := .lst [.int 1, .int 5, .int 7, .int 25]) nz
    have offz := hS4.off nz
    refine ⟨_, rfl, d, c, t' + 1 + 1, 4, rfl, hS4.same sz, by omega, by decide, by decide, fun r4 H5 r40 r41 hS5 k5 => ?_⟩
    obtain ⟨sv, hsv, hsv0, hsv1, hat4⟩ : ∃ sv : Int, (sv = 1 ∨ sv = 5 ∨ sv = 7 ∨ sv = 25) ∧ 0 ≤ sv ∧ sv ≤ 36 ∧ atI [V.int 1, V.int 5, V.int 7, V.int 25] r4 = some (.int sv) := by
      have : r4 = 0 ∨ r4 = 1 ∨ r4 = 2 ∨ r4 = 3 := by omega
      rcases this with rfl | rfl | rfl | rfl
      · exact ⟨1, .inl rfl, by decide, by decide, rfl⟩
      · exact ⟨5, .inr (.inl rfl), by decide, by decide, rfl⟩
      · exact ⟨7, .inr (.inr (.inl rfl)), by decide, by decide, rfl⟩
      · exact ⟨25, .inr (.inr (.inr rfl)), by decide, by decide, rfl⟩
    refine ⟨z, _, r4, .int sv, rfl, rfl, SqL.of (k5 _ _ offz.1 offz.2 upd_same), hat4, _, _, _, rfl, ?_⟩
    obtain ⟨js, rfl⟩ := Int.eq_ofNat_of_zero_le sp0
    have k25 : Kp d c H2 H5 := (k3.trans k4).trans ((Kp.same d c sz).trans k5)
    have eD5 := k25 _ _ offD.1 offD.2 eD
    -- made
    refine ⟨Nat.zero_le _, fun l nl => ?_⟩
    have sl := same_upd (o := .lst []) nl
    have offl := hS5.off nl
    have nlD : D ≠ l := ne_of_none eD5 nl
    have kall : Kp d c H H5 := (k1.trans k2).trans k25
    have nlH : H l = none := Kp.free kall hS5 nl
    have nDH : H D = none := Kp.free k1 hS1 nD
    refine ⟨_, rfl, m, rfl, by omega, by omega, for_range (n := m.toNat) (fun i σ Hx => ∃ (cs : List Nat) (xs : List Str) (y3 : Option V), σ = [some (.ref d), some (.int m), some (.str letNames), y3, some (.ref D), some (.int (js : Int)), some (.int fi), some (.int sv), some (.ref l)] ∧ Hx D = some (.lst (cs.map sgn)) ∧ 1 ≤ cs.length ∧ cs.length ≤ 10 ∧ js < cs.length ∧ (∀ ch ∈ cs, ch < 1114112) ∧ Hx l = some (.lst (xs.map V.str)) ∧ xs.length = i ∧ (∀ x ∈ xs, PyData.strOk x = true) ∧ Spelt letNames 26 fi sv js xs ∧ StAt Hx d c (t' + 1 + 1 + 1) ∧ Kp d c H Hx)
      ⟨cs, [], _, rfl, sl _ _ eD5, hcl1, hcl2, by omega, hcs, upd_same, rfl, (fun _ z => nomatch z), (fun _ _ e => nomatch e), hS5.same sl, kall.trans (Kp.same d c sl)⟩ (fun i σ Hx hi hP => ?_) (fun σ Hx hP => ?_)⟩
    · obtain ⟨cs, xs, y3, rfl, eDx, g1, g2, g3, hcs, elx, hxl, hxs, hsp, hSx, kx⟩ := hP
      have hi2 : (i : Int) < 40 := by omega
      have hmod0 : 0 ≤ (fi + sv * (0 + (i : Int))) % 26 := Int.emod_nonneg _ (by decide)
      have hmod1 : (fi + sv * (0 + (i : Int))) % 26 < 26 := Int.emod_lt_of_pos _ (by decide)
      obtain ⟨ch, hat, hch⟩ := atNames hmod0 hmod1
      refine ⟨_, rfl, _, rfl, _, rfl, _, rfl, sv, 0 + (i : Int), rfl, rfl, .inl ⟨by omega, by omega⟩, fi, _, rfl, rfl, _, 26, rfl, rfl, (show (0 : Int) < 26 by decide), _, _, ch, rfl, rfl, (by show letNames.length ≤ sizeLine; decide +kernel), hat, ?_⟩
      refine ⟨_, rfl, _, rfl, D, _, (js : Int), js, rfl, rfl, eDx, ixN_of (by rw [List.length_map]; exact g3), ?_⟩
      have es : (cs.map sgn).set js (.str ⟨#[ch]⟩) = (cs.set js ch).map sgn := by rw [List.map_set]; rfl
      rw [es]
      have hcs' : ∀ x ∈ cs.set js ch, x < 1114112 := fun x hx => by
        rcases List.mem_or_eq_of_mem_set hx with z | z
        · exact hcs x z
        · rw [z]; exact hch
      have hlen' : (cs.set js ch).length = cs.length := List.length_set ..
      have hjs : (cs.set js ch)[js]? = some ch := by rw [List.getElem?_set_self g3]
      have eD6 : upd Hx D (.lst ((cs.set js ch).map sgn)) D = some (.lst ((cs.set js ch).map sgn)) := upd_same
      have el6 : upd Hx D (.lst ((cs.set js ch).map sgn)) l = some (.lst (xs.map V.str)) := by rw [upd_ne nlD.symm]; exact elx
      have hS6 := hSx.upd (o := .lst ((cs.set js ch).map sgn)) offD.1 offD.2
      have k6 : Kp d c H (upd Hx D (.lst ((cs.set js ch).map sgn))) := fun b o b1 b2 e => by rw [upd_ne (ne_of_none e nDH)]; exact kx b o b1 b2 e
      revert eD6 el6 hS6 k6
      rw [← hlen'] at g1 g2 g3
      generalize upd Hx D (.lst ((cs.set js ch).map sgn)) = H6
      generalize cs.set js ch = cs2 at g1 g2 g3 hcs' hjs ⊢
      intro eD6 el6 hS6 k6
      refine ⟨_, rfl, .inl ⟨rfl, _, SqL.of el6⟩, ⟨_, rfl⟩, _, rfl, _, D, cs2.map sgS, rfl, rfl, .inl (SqL.of (by rw [eD6, List.map_map]; rfl)), join_small g2, ?_⟩
      refine ⟨l, _, _, rfl, rfl, el6, small1000 (by rw [List.length_map]; omega), cs2, xs ++ [Txt.join "" (cs2.map sgS)], _, rfl, by rw [upd_ne nlD]; exact eD6, g1, g2, g3, hcs', by rw [upd_same, List.map_append]; rfl, by rw [List.length_append, hxl]; rfl, fun x hx => ?_, hsp.snoc hxl hjs (by rw [Int.zero_add] at hat; exact hat), hS6.upd offl.1 offl.2, fun b o b1 b2 e => ?_⟩
      · rcases List.mem_append.mp hx with z | z
        · exact hxs x z
        · rw [List.mem_singleton.mp z]; exact join_ok hcs'
      · rw [upd_ne (ne_of_none e nlH)]
        exact k6 b o b1 b2 e
    · obtain ⟨cs, xs, y3, rfl, eDx, g1, g2, g3, hcs, elx, hxl, hxs, hsp, hSx, kx⟩ := hP
      exact ⟨_, rfl, q l xs _ Hx nlH elx hxs (by omega) (hsp.nodup (by decide) (by decide +kernel) (by decide +kernel) fun k k' hk hk' e => by rcases hsv with rfl | rfl | rfl | rfl <;> omega) (by omega) (by omega) hSx kx⟩
end
/-! ### _law_marks_by -/
abbrev sMarks : Stmt := topS 21
theorem scMarks : FnScope ["_law_state", "_law_many", "_law_signs", "_law_k", "_law_word", "_law_spot", "_law_first", "_law_step", "_law_made"] ["_law_state", "_law_many"] (defScope sMarks) := ⟨rfl, rfl, rfl, by decide +kernel, rfl, by decide +kernel, by decide +kernel⟩
abbrev letMarks : Str := "abcdefghijklmnopqrstuvwxyz0123456789"
theorem atMarks {r : Int} (h0 : 0 ≤ r) (h1 : r < 36) : ∃ ch : Nat, atI letMarks.cps.toList r = some ch ∧ ch < 1114112 := by
  obtain ⟨j, rfl⟩ := Int.eq_ofNat_of_zero_le h0
  have hl : letMarks.cps.toList.length = 36 := by decide +kernel
  have hj : j < letMarks.cps.toList.length := by omega
  have hall : ∀ c ∈ letMarks.cps.toList, c < 1114112 := by decide +kernel
  exact ⟨_, atI_nat (List.getElem?_eq_getElem hj), hall _ (List.getElem_mem hj)⟩
section
variable {K : PySem.W.Frag} {mg : Str → Option Value} {P : Program} {w : World} {base : Heap}
theorem ok_Marks {f : Addr} {fd : FuncData} (F : Fun K "_law_marks_by" "_law_marks_by" sMarks f fd) (CT : Cal P w K mg base 1 "_law_take" ["_law_state", "_law_many"] spTake) (mr : mg "range" = none) (me : mg "len" = none) : FnOk P w K mg base CX0 2 f fd ["_law_state", "_law_many"] spNames := by
  refine F.ok scMarks (fun vs H Q E h => ?_) (fun cdv A outer s H vs Q E hr h => ?_)
  · obtain ⟨d, c, t, m, rfl, _⟩ := h
    rfl
  · obtain ⟨d, c, t, m, rfl, hS, ht, hm0, hm1, q⟩ := h
    refine ⟨_, pss_cons (ps_set (i := 2) scMarks.nd rfl (.inr rfl) pe_str)
      (pss_cons (ps_setLc (i := 4) (own := [("_law_k", 3)]) (g := gName 3) (tt := tYes) (te := tOp L2.rIxS (tVar 2) (tCall spTake [] E0 (tCons (tVar 0) (tCons (tC (.int 36)) tNil)))) rfl scMarks.nd rfl rfl rfl (pi_range1 rfl mr (pa_cons (pe_op op_add pe_int (pe_own CT hr (by rfl) (pa_cons (pv 0) (pa_cons pe_int pa_nil)))) pa_nil))
            (blkOk_by (own := [("_law_k", 3)]) (N := ["_law_state", "_law_many", "_law_signs", "_law_k", "_law_word", "_law_spot", "_law_first", "_law_step", "_law_made"]) (sc := defScope sMarks) (by decide +kernel)) (fun _ _ _ _ _ => pg_name (i := 3) scMarks.nd rfl (.inl rfl)) (fun _ _ _ _ _ => pts_nil) (fun _ _ _ _ _ => pe_ix ix_str (pv 2) (pe_own CT hr (by rfl) (pa_cons (pv 0) (pa_cons pe_int pa_nil))) (fun _ _ => rfl)))
      (pss_cons (ps_par3 rfl scMarks.nd (i := 5) (j := 6) (l := 7) rfl rfl rfl (by decide) (by decide) (by decide) rfl rfl rfl (pa_cons (pe_own CT hr (by rfl) (pa_cons (pv 0) (pa_cons (pe_callB call_len_seq (by rfl) me PySem.boot_len (pa_cons (pv 4) pa_nil)) pa_nil))) (pa_cons (pe_own CT hr (by rfl) (pa_cons (pv 0) (pa_cons pe_int pa_nil))) (pa_cons (pe_ix ix_list (pe_lst (pa_cons pe_int (pa_cons pe_int (pa_cons pe_int (pa_cons pe_int pa_nil))))) (pe_own CT hr (by rfl) (pa_cons (pv 0) (pa_cons pe_int pa_nil))) (fun _ _ => rfl)) pa_nil))) (by rfl))
      (pss_cons (ps_set (i := 8) scMarks.nd rfl (.inl rfl) (pe_lst pa_nil))
      (pss_cons (ps_for PassesOwn.never rfl (pi_range1 rfl mr (pa_cons (pv 1) pa_nil)) (pg_name (i := 3) scMarks.nd rfl (.inl rfl))
        (pss_cons (ps_asg (pe_ix ix_str (pv 2) (pe_op op_mod (pe_op op_add (pv 6) (pe_op op_mul (pv 7) (pv 3))) pe_int) (fun _ _ => rfl)) (pg_sub (pv 4) (pv 5) set_list))
        (pss_one (ps_expr (pe_bm PySem.F.plainAttrs_list PySem.F.slot_list_append PySem.F.type_list_append mt_append (pv 8) (pa_cons (pe_join pe_str (pv 4)) pa_nil))))))
      (pss_one (ps_ret (pv 8))))))), ?_⟩
    refine ⟨_, rfl, d, c, t, 7, rfl, hS, by omega, by decide, by decide, fun r H1 r0 r1 hS1 k1 => ⟨4, r, rfl, rfl, 4 + r, rfl, by omega, by omega, fun D nD => ?_⟩⟩
    have offD := hS1.off nD
    refine lc_range (n := (4 + r).toNat) (fun j H' => ∃ (t' : Int) (cs : List Nat), H' D = some (.lst (cs.map sgn)) ∧ cs.length = j ∧ (∀ ch ∈ cs, ch < 1114112) ∧ t ≤ t' ∧ t' ≤ t + 1 + j ∧ StAt H' d c t' ∧ Kp d c H1 H') ⟨t + 1, [], upd_same, rfl, (fun _ z => nomatch z), by omega, by omega, hS1.same (same_upd nD), Kp.same d c (same_upd nD)⟩ (fun j H' hj hP => ?_) (fun H2 hP => ?_)
    · obtain ⟨t', cs, eD, hcl, hcs, u0, u1, hS', k'⟩ := hP
      have hj2 : j ≤ 10 := by omega
      refine ⟨rfl, _, rfl, _, rfl, d, c, t', 36, rfl, hS', by omega, by decide, by decide, fun r2 H3 r20 r21 hS3 k3 => ?_⟩
      obtain ⟨ch, hat, hch⟩ := atMarks r20 r21
      have eD3 := k3 _ _ offD.1 offD.2 eD
      refine ⟨_, r2, ch, rfl, rfl, (by show letMarks.length ≤ sizeLine; decide +kernel), hat, ?_⟩
      refine ⟨_, eD3, small1000 (by rw [List.length_map]; omega), t' + 1, cs ++ [ch], by rw [upd_same, List.map_append]; rfl, by rw [List.length_append, hcl]; rfl, fun x hx => ?_, by omega, by omega, hS3.upd offD.1 offD.2, fun b o b1 b2 e => ?_⟩
      · rcases List.mem_append.mp hx with z | z
        · exact hcs x z
        · rw [List.mem_singleton.mp z]; exact hch
      · rw [upd_ne (ne_of_none e nD)]
        exact k3 b o b1 b2 (k' b o b1 b2 e)
    obtain ⟨t', cs, eD, hcl, hcs, u0, u1, hS2, k2⟩ := hP
    have hcl1 : 1 ≤ cs.length := by omega
    have hcl2 : cs.length ≤ 10 := by omega
    have lenm : (cs.map sgn).length = cs.length := List.length_map ..
    -- spot, first, step
    refine ⟨_, rfl, _, rfl, D, _, rfl, Sq.list eD, d, c, t', (cs.length : Int), by rw [lenm]; rfl, hS2, by omega, by omega, by omega, fun sp H3 sp0 sp1 hS3 k3 => ?_⟩
    refine ⟨_, rfl, d, c, t' + 1, 36, rfl, hS3, by omega, by decide, by decide, fun fi H4 fi0 fi1 hS4 k4 => ?_⟩
    refine ⟨(by show 4 ≤ sizeLine; decide), fun z nz => ?_⟩
    have sz := same_upd (o := .lst [.int 1, .int 5, .int 7, .int 35]) nz
    have offz := hS4.off nz
    refine ⟨_, rfl, d, c, t' + 1 + 1, 4, rfl, hS4.same sz, by omega, by decide, by decide, fun r4 H5 r40 r41 hS5 k5 => ?_⟩
    obtain ⟨sv, hsv, hsv0, hsv1, hat4⟩ : ∃ sv : Int, (sv = 1 ∨ sv = 5 ∨ sv = 7 ∨ sv = 35) ∧ 0 ≤ sv ∧ sv ≤ 36 ∧ atI [V.int 1, V.int 5, V.int 7, V.int 35] r4 = some (.int sv) := by
      have : r4 = 0 ∨ r4 = 1 ∨ r4 = 2 ∨ r4 = 3 := by omega
      rcases this with rfl | rfl | rfl | rfl
      · exact ⟨1, .inl rfl, by decide, by decide, rfl⟩
      · exact ⟨5, .inr (.inl rfl), by decide, by decide, rfl⟩
      · exact ⟨7, .inr (.inr (.inl rfl)), by decide, by decide, rfl⟩
      · exact ⟨35, .inr (.inr (.inr rfl)), by decide, by decide, rfl⟩
    refine ⟨z, _, r4, .int sv, rfl, rfl, SqL.of (k5 _ _ offz.1 offz.2 upd_same), hat4, _, _, _, rfl, ?_⟩
    obtain ⟨js, rfl⟩ := Int.eq_ofNat_of_zero_le sp0
    have k25 : Kp d c H2 H5 := (k3.trans k4).trans ((Kp.same d c sz).trans k5)
    have eD5 := k25 _ _ offD.1 offD.2 eD
    -- made
    refine ⟨Nat.zero_le _, fun l nl => ?_⟩
    have sl := same_upd (o := .lst []) nl
    have offl := hS5.off nl
    have nlD : D ≠ l := ne_of_none eD5 nl
    have kall : Kp d c H H5 := (k1.trans k2).trans k25
    have nlH : H l = none := Kp.free kall hS5 nl
    have nDH : H D = none := Kp.free k1 hS1 nD
    refine ⟨_, rfl, m, rfl, by omega, by omega, for_range (n := m.toNat) (fun i σ Hx => ∃ (cs : List Nat) (xs : List Str) (y3 : Option V), σ = [some (.ref d), some (.int m), some (.str letMarks), y3, some (.ref D), some (.int (js : Int)), some (.int fi), some (.int sv), some (.ref l)] ∧ Hx D = some (.lst (cs.map sgn)) ∧ 1 ≤ cs.length ∧ cs.length ≤ 10 ∧ js < cs.length ∧ (∀ ch ∈ cs, ch < 1114112) ∧ Hx l = some (.lst (xs.map V.str)) ∧ xs.length = i ∧ (∀ x ∈ xs, PyData.strOk x = true) ∧ Spelt letMarks 36 fi sv js xs ∧ StAt Hx d c (t' + 1 + 1 + 1) ∧ Kp d c H Hx)
      ⟨cs, [], _, rfl, sl _ _ eD5, hcl1, hcl2, by omega, hcs, upd_same, rfl, (fun _ z => nomatch z), (fun _ _ e => nomatch e), hS5.same sl, kall.trans (Kp.same d c sl)⟩ (fun i σ Hx hi hP => ?_) (fun σ Hx hP => ?_)⟩
    · obtain ⟨cs, xs, y3, rfl, eDx, g1, g2, g3, hcs, elx, hxl, hxs, hsp, hSx, kx⟩ := hP
      have hi2 : (i : Int) < 40 := by omega
      have hmod0 : 0 ≤ (fi + sv * (0 + (i : Int))) % 36 := Int.emod_nonneg _ (by decide)
      have hmod1 : (fi + sv * (0 + (i : Int))) % 36 < 36 := Int.emod_lt_of_pos _ (by decide)
      obtain ⟨ch, hat, hch⟩ := atMarks hmod0 hmod1
      refine ⟨_, rfl, _, rfl, _, rfl, _, rfl, sv, 0 + (i : Int), rfl, rfl, .inl ⟨by omega, by omega⟩, fi, _, rfl, rfl, _, 36, rfl, rfl, (show (0 : Int) < 36 by decide), _, _, ch, rfl, rfl, (by show letMarks.length ≤ sizeLine; decide +kernel), hat, ?_⟩
      refine ⟨_, rfl, _, rfl, D, _, (js : Int), js, rfl, rfl, eDx, ixN_of (by rw [List.length_map]; exact g3), ?_⟩
      have es : (cs.map sgn).set js (.str ⟨#[ch]⟩) = (cs.set js ch).map sgn := by rw [List.map_set]; rfl
      rw [es]
      have hcs' : ∀ x ∈ cs.set js ch, x < 1114112 := fun x hx => by
        rcases List.mem_or_eq_of_mem_set hx with z | z
        · exact hcs x z
        · rw [z]; exact hch
      have hlen' : (cs.set js ch).length = cs.length := List.length_set ..
      have hjs : (cs.set js ch)[js]? = some ch := by rw [List.getElem?_set_self g3]
      have eD6 : upd Hx D (.lst ((cs.set js ch).map sgn)) D = some (.lst ((cs.set js ch).map sgn)) := upd_same
      have el6 : upd Hx D (.lst ((cs.set js ch).map sgn)) l = some (.lst (xs.map V.str)) := by rw [upd_ne nlD.symm]; exact elx
      have hS6 := hSx.upd (o := .lst ((cs.set js ch).map sgn)) offD.1 offD.2
      have k6 : Kp d c H (upd Hx D (.lst ((cs.set js ch).map sgn))) := fun b o b1 b2 e => by rw [upd_ne (ne_of_none e nDH)]; exact kx b o b1 b2 e
      revert eD6 el6 hS6 k6
      rw [← hlen'] at g1 g2 g3
      generalize upd Hx D (.lst ((cs.set js ch).map sgn)) = H6
      generalize cs.set js ch = cs2 at g1 g2 g3 hcs' hjs ⊢
      intro eD6 el6 hS6 k6
      refine ⟨_, rfl, .inl ⟨rfl, _, SqL.of el6⟩, ⟨_, rfl⟩, _, rfl, _, D, cs2.map sgS, rfl, rfl, .inl (SqL.of (by rw [eD6, List.map_map]; rfl)), join_small g2, ?_⟩
      refine ⟨l, _, _, rfl, rfl, el6, small1000 (by rw [List.length_map]; omega), cs2, xs ++ [Txt.join "" (cs2.map sgS)], _, rfl, by rw [upd_ne nlD]; exact eD6, g1, g2, g3, hcs', by rw [upd_same, List.map_append]; rfl, by rw [List.length_append, hxl]; rfl, fun x hx => ?_, hsp.snoc hxl hjs (by rw [Int.zero_add] at hat; exact hat), hS6.upd offl.1 offl.2, fun b o b1 b2 e => ?_⟩
      · rcases List.mem_append.mp hx with z | z
        · exact hxs x z
        · rw [List.mem_singleton.mp z]; exact join_ok hcs'
      · rw [upd_ne (ne_of_none e nlH)]
        exact k6 b o b1 b2 e
    · obtain ⟨cs, xs, y3, rfl, eDx, g1, g2, g3, hcs, elx, hxl, hxs, hsp, hSx, kx⟩ := hP
      exact ⟨_, rfl, q l xs _ Hx nlH elx hxs (by omega) (hsp.nodup (by decide) (by decide +kernel) (by decide +kernel) fun k k' hk hk' e => by rcases hsv with rfl | rfl | rfl | rfl <;> omega) (by omega) (by omega) hSx kx⟩
end

theorem snoc_cases {α : Type} (l : List α) : l = [] ∨ ∃ l' x, l = l' ++ [x] := by
  rcases List.eq_nil_or_concat l with h | ⟨l', x, h⟩
  · exact .inl h
  · exact .inr ⟨l', x, by rw [h]; simp⟩
theorem _root_.GP.Prs.last {H : Hp} {us : List V} {ps : List (Int × Int)} {p : Int × Int} (h : Prs H us (ps ++ [p])) : ∃ us' T, us = us' ++ [.ref T] ∧ H T = some (.tup [.int p.1, .int p.2]) ∧ Prs H us' ps := by
  have hl := h.1
  rw [List.length_append] at hl
  rcases snoc_cases us with e | ⟨us', x, e⟩
  · rw [e] at hl
    simp at hl
  · subst e
    rw [List.length_append] at hl
    have hl' : us'.length = ps.length := Nat.add_right_cancel hl
    obtain ⟨T, e1, e2⟩ := h.2 ps.length p (by rw [List.getElem?_append_right (Nat.le_refl _), Nat.sub_self]; rfl)
    rw [List.getElem?_append_right (by omega), hl', Nat.sub_self] at e1
    refine ⟨us', T, by rw [Option.some.inj e1], e2, hl', fun i q eq => ?_⟩
    have hi : i < ps.length := (List.getElem?_eq_some_iff.mp eq).1
    obtain ⟨b, f1, f2⟩ := h.2 i q (by rw [List.getElem?_append_left hi]; exact eq)
    rw [List.getElem?_append_left (by omega)] at f1
    exact ⟨b, f1, f2⟩
theorem eqv_pr_nil (ps : List (Int × Int)) : PyData.eqv (PyData.list (ps.map pairD)) (PyData.list []) = ps.isEmpty := by
  cases ps with
  | nil => simp [PyData.eqv, PyData.eqvAll]
  | cons p r => simp [PyData.eqv, PyData.eqvAll]
def rIxS (K : PySem.W.Frag) : R2 := fun x y H Q => ∃ p xs i v, x = .ref p ∧ y = .int i ∧ Sq K H p xs ∧ atI xs i = some v ∧ Q v H
theorem ix_seq {X : Cx} : IxR X (rIxS X.K) := by
  intro value slice pins s σ H x y v u Q I rx ry h hs
  obtain ⟨p, xs, i, z, e1, e2, hq, he, q⟩ := h
  rcases hq with hq | hq
  · exact ix_list value slice pins s σ H x y v u Q I rx ry ⟨p, xs, i, z, e1, e2, hq, he, q⟩ hs
  · exact ix_tup value slice pins s σ H x y v u Q I rx ry ⟨p, xs, i, z, e1, e2, hq, he, q⟩ hs

/-! ### passes and batches -/
inductive Pas
  | line (place : Str) (st lo by_ : Int)
  | racks (place : Str) (per : Int) (stays : List (Int × Int))
def Pas.place : Pas → Str
  | .line p _ _ _ => p
  | .racks p _ _ => p
/-- as it is drawn, for so many tins -/
def Pas.Good (T : Int) : Pas → Prop
  | .line p st lo b => PyData.strOk p = true ∧ 0 ≤ st ∧ st < 10 ^ 40 ∧ 0 ≤ lo ∧ lo < 10 ^ 30 ∧ 1 ≤ b ∧ b ≤ 10 ^ 30
  | .racks p per ss => PyData.strOk p = true ∧ 1 ≤ per ∧ per ≤ T ∧ T ≤ per * ss.length ∧ ss.length ≤ 12 ∧ ∀ s ∈ ss, 0 ≤ s.1 ∧ s.1 ≤ s.2 ∧ s.2 ≤ 10 ^ 40
/-- of no great minutes -/
def Pas.Low : Pas → Prop
  | .line _ st _ _ => st < 10 ^ 30
  | .racks _ _ ss => ∀ s ∈ ss, s.2 ≤ 10 ^ 32
/-- a list or a tuple of these -/
def SqH (H : Hp) (a : Addr) (xs : List V) : Prop := H a = some (.lst xs) ∨ H a = some (.tup xs)
theorem SqH.sq {K : PySem.W.Frag} {H : Hp} {a : Addr} {xs : List V} (h : SqH H a xs) : Sq K H a xs := h.elim Sq.list Sq.tup
theorem SqH.same {H H' : Hp} {a : Addr} {xs : List V} (h : SqH H a xs) (s : Same H H') : SqH H' a xs := h.imp (s _ _) (s _ _)
theorem SqH.kp {H H' : Hp} {d c a : Addr} {t : Int} {xs : List V} (h : SqH H a xs) (S : StAt H d c t) (k : Kp d c H H') (n : NoInt xs) : SqH H' a xs := h.imp (fun e => k.lst S e n) (fun e => k.tup S e)
/-- where a pass stands -/
def PasV (H : Hp) (v : V) : Pas → Prop
  | .line p st lo b => ∃ a, v = .ref a ∧ H a = some (.tup [.str "line", .str p, .int st, .int lo, .int b])
  | .racks p per ss => ∃ a s us, v = .ref a ∧ H a = some (.tup [.str "racks", .str p, .int per, .ref s]) ∧ SqH H s us ∧ Prs H us ss
theorem PasV.same {H H' : Hp} {v : V} {p : Pas} (h : PasV H v p) (s : Same H H') : PasV H' v p := by
  cases p with
  | line => obtain ⟨a, e, h⟩ := h; exact ⟨a, e, s _ _ h⟩
  | racks => obtain ⟨a, b, us, e, h1, h2, h3⟩ := h; exact ⟨a, b, us, e, s _ _ h1, h2.same s, h3.same s⟩
theorem PasV.kp {H H' : Hp} {d c : Addr} {t : Int} {v : V} {p : Pas} (h : PasV H v p) (S : StAt H d c t) (k : Kp d c H H') : PasV H' v p := by
  cases p with
  | line => obtain ⟨a, e, h⟩ := h; exact ⟨a, e, k.tup S h⟩
  | racks => obtain ⟨a, b, us, e, h1, h2, h3⟩ := h; exact ⟨a, b, us, e, k.tup S h1, h2.kp S k (noInt_prs h3), h3.kp S k⟩
theorem PasV.ref {H : Hp} {v : V} {p : Pas} (h : PasV H v p) : ∃ a, v = .ref a := by
  cases p with
  | line => obtain ⟨a, e, _⟩ := h; exact ⟨a, e⟩
  | racks => obtain ⟨a, b, us, e, _⟩ := h; exact ⟨a, e⟩
def PassA (H : Hp) (vs : List V) (ps : List Pas) : Prop := vs.length = ps.length ∧ ∀ (i : Nat) v p, vs[i]? = some v → ps[i]? = some p → PasV H v p
theorem PassA.same {H H' : Hp} {vs : List V} {ps : List Pas} (h : PassA H vs ps) (s : Same H H') : PassA H' vs ps := ⟨h.1, fun i v p e1 e2 => (h.2 i v p e1 e2).same s⟩
theorem PassA.kp {H H' : Hp} {d c : Addr} {t : Int} {vs : List V} {ps : List Pas} (h : PassA H vs ps) (S : StAt H d c t) (k : Kp d c H H') : PassA H' vs ps := ⟨h.1, fun i v p e1 e2 => (h.2 i v p e1 e2).kp S k⟩
theorem PassA.at {H : Hp} {vs : List V} {ps : List Pas} {i : Nat} {v : V} (h : PassA H vs ps) (e : vs[i]? = some v) : ∃ p, ps[i]? = some p ∧ PasV H v p := by
  have hi : i < ps.length := by rw [← h.1]; exact (List.getElem?_eq_some_iff.mp e).1
  exact ⟨_, List.getElem?_eq_getElem hi, h.2 i v _ e (List.getElem?_eq_getElem hi)⟩
theorem PassA.noInt {H : Hp} {vs : List V} {ps : List Pas} (h : PassA H vs ps) : NoInt vs := fun x hx i e => by
  obtain ⟨j, hj, e1⟩ := List.getElem_of_mem hx
  obtain ⟨p, _, hp⟩ := h.at (by rw [List.getElem?_eq_getElem hj, e1])
  obtain ⟨a, rfl⟩ := hp.ref
  cases e
theorem PassA.nil {H : Hp} : PassA H [] [] := ⟨rfl, fun _ _ _ e => nomatch e⟩
theorem getElem?_app {α β : Type} {xs ys : List α} {us ws : List β} (l : xs.length = us.length) {i : Nat} {x : α} {u : β} (e1 : (xs ++ ys)[i]? = some x) (e2 : (us ++ ws)[i]? = some u) : (xs[i]? = some x ∧ us[i]? = some u) ∨ (ys[i - xs.length]? = some x ∧ ws[i - xs.length]? = some u) := by
  by_cases hi : i < xs.length
  · rw [List.getElem?_append_left hi] at e1
    rw [List.getElem?_append_left (by omega)] at e2
    exact .inl ⟨e1, e2⟩
  · rw [List.getElem?_append_right (by omega)] at e1 e2
    rw [← l] at e2
    exact .inr ⟨e1, e2⟩
theorem PassA.app {H : Hp} {vs ws : List V} {ps qs : List Pas} (h : PassA H vs ps) (h' : PassA H ws qs) : PassA H (vs ++ ws) (ps ++ qs) :=
  ⟨by rw [List.length_append, List.length_append, h.1, h'.1], fun i v p e1 e2 => (getElem?_app h.1 e1 e2).elim (fun z => h.2 i v p z.1 z.2) (fun z => h'.2 _ v p z.1 z.2)⟩
theorem PassA.one {H : Hp} {v : V} {p : Pas} (h : PasV H v p) : PassA H [v] [p] := ⟨rfl, fun i u q e1 e2 => by
  have hi : i < 1 := (List.getElem?_eq_some_iff.mp e1).1
  have : i = 0 := by omega
  subst this
  cases e1
  cases e2
  exact h⟩
theorem PassA.take {H : Hp} {vs : List V} {ps : List Pas} (h : PassA H vs ps) (k : Nat) : PassA H (vs.take k) (ps.take k) := ⟨by rw [List.length_take, List.length_take, h.1], fun i v p e1 e2 => by
  rw [List.getElem?_take] at e1 e2
  split at e1
  · rename_i hi
    rw [if_pos hi] at e2
    exact h.2 i v p e1 e2
  · cases e1⟩
theorem PassA.drop {H : Hp} {vs : List V} {ps : List Pas} (h : PassA H vs ps) (k : Nat) : PassA H (vs.drop k) (ps.drop k) := ⟨by rw [List.length_drop, List.length_drop, h.1], fun i v p e1 e2 => by
  rw [List.getElem?_drop] at e1 e2
  exact h.2 _ v p e1 e2⟩
/-- where a batch stands -/
def BatA (H : Hp) (b : Addr) (mark : Str) (T : Int) (ps : List Pas) : Prop := ∃ a vs, H b = some (.tup [.str mark, .int T, .ref a]) ∧ SqH H a vs ∧ PassA H vs ps
theorem BatA.same {H H' : Hp} {b : Addr} {m : Str} {T : Int} {ps : List Pas} (h : BatA H b m T ps) (s : Same H H') : BatA H' b m T ps := let ⟨a, vs, e, h1, h2⟩ := h; ⟨a, vs, s _ _ e, h1.same s, h2.same s⟩
theorem BatA.kp {H H' : Hp} {d c : Addr} {t : Int} {b : Addr} {m : Str} {T : Int} {ps : List Pas} (h : BatA H b m T ps) (S : StAt H d c t) (k : Kp d c H H') : BatA H' b m T ps := let ⟨a, vs, e, h1, h2⟩ := h; ⟨a, vs, k.tup S e, h1.kp S k h2.noInt, h2.kp S k⟩
def pick4 {x y z u r : Int} (Pv : Int → Prop) (h0 : 0 ≤ r) (h1 : r < 4) (hx : Pv x) (hy : Pv y) (hz : Pv z) (hu : Pv u) : ∃ v, Pv v ∧ atI [V.int x, V.int y, V.int z, V.int u] r = some (.int v) := by
  have : r = 0 ∨ r = 1 ∨ r = 2 ∨ r = 3 := by omega
  rcases this with rfl | rfl | rfl | rfl
  · exact ⟨x, hx, rfl⟩
  · exact ⟨y, hy, rfl⟩
  · exact ⟨z, hz, rfl⟩
  · exact ⟨u, hu, rfl⟩
/-- log2 of what is below 2 ^ 200 -/
theorem log_lt {i : Int} (h : i.natAbs < 2 ^ 400) : i.natAbs.log2 < 400 := PySem.Flt.log2_lt_of (by decide) h
theorem ceil_up {T R : Int} (hT : 1 ≤ T) (hR : 1 ≤ R) : 1 ≤ (T + R - 1) / R ∧ (T + R - 1) / R ≤ T ∧ T ≤ (T + R - 1) / R * R := by
  have e := Int.mul_ediv_add_emod (T + R - 1) R
  have m0 := Int.emod_nonneg (T + R - 1) (show R ≠ 0 by omega)
  have m1 := Int.emod_lt_of_pos (T + R - 1) (show 0 < R by omega)
  rw [Int.mul_comm] at e
  have hge : T ≤ (T + R - 1) / R * R := by omega
  refine ⟨?_, ?_, hge⟩
  · have : 0 < (T + R - 1) / R := by
      rcases Int.lt_or_le 0 ((T + R - 1) / R) with z | z
      · exact z
      · have := Int.mul_le_mul_of_nonneg_right z (show 0 ≤ R by omega)
        omega
    omega
  · have h1 : 1 * T ≤ R * T := Int.mul_le_mul_of_nonneg_right hR (by omega)
    have h2 : (T + R - 1) / R < T + 1 := Int.ediv_lt_of_lt_mul (by omega) (by rw [Int.add_mul, Int.mul_comm T R]; omega)
    omega
theorem ceil_le {T per R : Int} (hp : 1 ≤ per) (h : T ≤ per * R) : (T + per - 1) / per ≤ R := by
  have h2 : (T + per - 1) / per < R + 1 := Int.ediv_lt_of_lt_mul (by omega) (by rw [Int.add_mul, Int.mul_comm R per]; omega)
  omega

abbrev sPass : Stmt := topS 22
theorem scPass : FnScope ["_law_state", "_law_place", "_law_tins", "_law_great", "_law_sort", "_law_long", "_law_by", "_law_racks", "_law_per", "_law_stays", "_law_turn", "_law_first"] ["_law_state", "_law_place", "_law_tins", "_law_great"] (defScope sPass) := ⟨rfl, rfl, rfl, by decide +kernel, rfl, by decide +kernel, by decide +kernel⟩
def spPass : Sp := fun vs H Q _ => ∃ (d c : Addr) (t T gr : Int) (pl : Str), vs = [.ref d, .str pl, .int T, .int gr] ∧ StAt H d c t ∧ t + 500 < 2 ^ 60 ∧ PyData.strOk pl = true ∧ 1 ≤ T ∧ T ≤ 10 ^ 30 ∧ 0 ≤ gr ∧ gr < 2 ∧
  ∀ (v : V) (p : Pas) (t' : Int) H', PasV H' v p → p.Good T → p.Low → p.place = pl → t ≤ t' → t' ≤ t + 200 → StAt H' d c t' → Kp d c H H' → Q v H'
section
variable {K : PySem.W.Frag} {mg : Str → Option Value} {P : Program} {w : World} {base : Heap}
theorem ok_pass {f : Addr} {fd : FuncData} (F : Fun K "_law_pass" "_law_pass" sPass f fd) (CT : Cal P w K mg base 1 "_law_take" ["_law_state", "_law_many"] spTake) (CN : Cal P w K mg base 2 "_law_number" ["_law_state", "_law_sort"] spNumber) (mr : mg "range" = none) :
    FnOk P w K mg base CX0 3 f fd ["_law_state", "_law_place", "_law_tins", "_law_great"] spPass := by
  refine F.ok scPass (fun vs H Q E h => ?_) (fun cdv A outer s H vs Q E hr h => ?_)
  · obtain ⟨d, c, t, T, gr, pl, rfl, _⟩ := h
    rfl
  · obtain ⟨d, c, t, T, gr, pl, rfl, hS, ht, hpl, hT1, hT2, hg0, hg1, q⟩ := h
    have hr1 := hr.mono (show 1 ≤ 2 by decide)
    refine ⟨_, pss_cons (ps_set (i := 4) scPass.nd rfl (.inl rfl) (pe_ix ix_list (pe_lst (pa_cons (pe_own CT hr1 (by rfl) (pa_cons (pv 0) (pa_cons pe_int pa_nil))) (pa_cons pe_int pa_nil))) (pv 3) (fun _ _ => rfl)))
      (pss_cons (ps_if (pt_cmpR op_eq (pe_own CT hr1 (by rfl) (pa_cons (pv 0) (pa_cons pe_int pa_nil))) pe_int (nomark _))
        (pss_cons (ps_set (i := 5) scPass.nd rfl (.inl rfl) (pe_ix ix_list (pe_lst (pa_cons pe_int (pa_cons pe_int (pa_cons (pe_own CT hr1 (by rfl) (pa_cons (pv 0) (pa_cons pe_int pa_nil))) (pa_cons (pe_own CN hr (by rfl) (pa_cons (pv 0) (pa_cons (pv 4) pa_nil))) pa_nil))))) (pe_own CT hr1 (by rfl) (pa_cons (pv 0) (pa_cons pe_int pa_nil))) (fun _ _ => rfl)))
        (pss_cons (ps_set (i := 6) scPass.nd rfl (.inl rfl) (pe_op op_add pe_int (pe_ix ix_list (pe_lst (pa_cons pe_int (pa_cons (pe_own CT hr1 (by rfl) (pa_cons (pv 0) (pa_cons pe_int pa_nil))) (pa_cons (pe_own CN hr (by rfl) (pa_cons (pv 0) (pa_cons (pv 4) pa_nil))) pa_nil)))) (pe_own CT hr1 (by rfl) (pa_cons (pv 0) (pa_cons pe_int pa_nil))) (fun _ _ => rfl))))
        (pss_one (ps_ret (pe_tup (pa_cons pe_str (pa_cons (pv 1) (pa_cons (pe_own CN hr (by rfl) (pa_cons (pv 0) (pa_cons (pv 4) pa_nil))) (pa_cons (pv 5) (pa_cons (pv 6) pa_nil)))))))))) pss_nil)
      (pss_cons (ps_set (i := 7) scPass.nd rfl (.inl rfl) (pe_op op_add pe_int (pe_own CT hr1 (by rfl) (pa_cons (pv 0) (pa_cons pe_int pa_nil)))))
      (pss_cons (ps_par rfl scPass.nd (i := 8) (j := 9) rfl rfl (by decide) rfl rfl (pa_cons (pe_op op_fdivW (pe_op op_sub (pe_op op_add (pv 2) (pv 7)) pe_int) (pv 7)) (pa_cons (pe_lst pa_nil) pa_nil)) (by rfl))
      (pss_cons (ps_for PassesOwn.never rfl (pi_range1 rfl mr (pa_cons (pe_op op_fdivW (pe_op op_sub (pe_op op_add (pv 2) (pv 8)) pe_int) (pv 8)) pa_nil)) (pg_name (i := 10) scPass.nd rfl (.inl rfl))
        (pss_cons (ps_set (i := 11) scPass.nd rfl (.inl rfl) (pe_own CN hr (by rfl) (pa_cons (pv 0) (pa_cons (pv 4) pa_nil))))
        (Evl.pss_cut (ps_if (PW.pt (pw_and (pt_cmpR (op_neD hr.units) (pv 9) (pe_lst pa_nil) (nomark _)) (pw_and1 (pt_cmpR op_eq (pe_own CT hr1 (by rfl) (pa_cons (pv 0) (pa_cons pe_int pa_nil))) pe_int (nomark _)))))
          (pss_one (ps_set (i := 11) scPass.nd rfl (.inl rfl) (pe_op op_add (pe_ix ix_tup (pe_ix ix_list (pv 9) (pe_un un_neg pe_int) (fun _ _ => rfl)) pe_int (fun _ _ => rfl)) (pe_own CT hr1 (by rfl) (pa_cons (pv 0) (pa_cons pe_int pa_nil)))))) pss_nil)
        (pss_one (ps_expr (pe_bm PySem.F.plainAttrs_list PySem.F.slot_list_append PySem.F.type_list_append mt_append (pv 9) (pa_cons (pe_tup (pa_cons (pv 11) (pa_cons (pe_op op_add (pv 11) (pe_ix ix_list (pe_lst (pa_cons pe_int (pa_cons (pe_own CT hr1 (by rfl) (pa_cons (pv 0) (pa_cons pe_int pa_nil))) (pa_cons (pe_own CN hr (by rfl) (pa_cons (pv 0) (pa_cons (pv 4) pa_nil))) pa_nil)))) (pe_own CT hr1 (by rfl) (pa_cons (pv 0) (pa_cons pe_int pa_nil))) (fun _ _ => rfl))) pa_nil))) pa_nil)))))))
      (pss_one (ps_ret (pe_tup (pa_cons pe_str (pa_cons (pv 1) (pa_cons (pv 8) (pa_cons (pv 9) pa_nil))))))))))), ?_⟩
    -- sort
    refine ⟨_, rfl, d, c, t, 2, rfl, hS, by omega, by decide, by decide, fun r1 H1 r10 r11 hS1 k1 => ⟨(by show 2 ≤ sizeLine; decide), fun z1 nz1 => ?_⟩⟩
    have sz1 := same_upd (o := .lst [.int r1, .int 3]) nz1
    obtain ⟨so, hso, hat1⟩ := pick2 (x := r1) (y := 3) (fun v => 0 ≤ v) hg0 hg1 r10 (by decide)
    refine ⟨_, rfl, z1, _, gr, .int so, rfl, rfl, SqL.of upd_same, hat1, ?_⟩
    have hS2 := hS1.same sz1
    have k2 : Kp d c H (upd H1 z1 (.lst [.int r1, .int 3])) := k1.trans (Kp.same d c sz1)
    revert hS2 k2
    generalize upd H1 z1 (.lst [.int r1, .int 3]) = H2
    intro hS2 k2
    refine ⟨_, rfl, d, c, t + 1, 2, rfl, hS2, by omega, by decide, by decide, fun r2 H3 r20 r21 hS3 k3' => ⟨rfl, _, rfl, ite2 (fun _ => ?_) (fun _ => ?_)⟩⟩
    · have k3 := k2.trans k3'
      -- a line
      refine ⟨_, rfl, d, c, t + 1 + 1, 9, rfl, hS3, by omega, by decide, by decide, fun a1 H4 a10 a11 hS4 k4 => ?_⟩
      refine ⟨_, rfl, _, rfl, d, c, _, so, rfl, hS4, by omega, hso, fun a2 t5 H5 a20 a21 t50 t51 hS5 k5 => ⟨(by show 4 ≤ sizeLine; decide), fun z2 nz2 => ?_⟩⟩
      have sz2 := same_upd (o := .lst [.int 0, .int 1, .int a1, .int a2]) nz2
      refine ⟨_, rfl, d, c, t5, 4, rfl, hS5.same sz2, by omega, by decide, by decide, fun r3 H6 r30 r31 hS6 k6 => ?_⟩
      obtain ⟨lo, ⟨hlo0, hlo1⟩, hat2⟩ := pick4 (x := 0) (y := 1) (z := a1) (u := a2) (fun v => 0 ≤ v ∧ v < 10 ^ 30) r30 r31 (by decide) (by decide) (by omega) (by omega)
      refine ⟨z2, _, r3, .int lo, rfl, rfl, SqL.of (k6.new hS5 nz2), hat2, ?_⟩
      have k36 : Kp d c H H6 := ((k3.trans k4).trans k5).trans ((Kp.same d c sz2).trans k6)
      refine ⟨_, rfl, d, c, _, 9, rfl, hS6, by omega, by decide, by decide, fun b1 H7 b10 b11 hS7 k7 => ?_⟩
      refine ⟨_, rfl, _, rfl, d, c, _, so, rfl, hS7, by omega, hso, fun b2 t8 H8 b20 b21 t80 t81 hS8 k8 => ⟨(by show 3 ≤ sizeLine; decide), fun z3 nz3 => ?_⟩⟩
      have sz3 := same_upd (o := .lst [.int 0, .int b1, .int b2]) nz3
      refine ⟨_, rfl, d, c, t8, 3, rfl, hS8.same sz3, by omega, by decide, by decide, fun r4 H9 r40 r41 hS9 k9 => ?_⟩
      obtain ⟨by_, ⟨hb0, hb1⟩, hat3⟩ := pick3 (x := 0) (y := b1) (z := b2) (fun v => 0 ≤ v ∧ v < 10 ^ 30) r40 r41 (by decide) (by omega) (by omega)
      refine ⟨z3, _, r4, .int by_, rfl, rfl, SqL.of (k9.new hS8 nz3), hat3, 1, by_, rfl, rfl, ?_⟩
      have k39 : Kp d c H H9 := ((k36.trans k7).trans k8).trans ((Kp.same d c sz3).trans k9)
      refine ⟨_, rfl, _, rfl, _, rfl, d, c, _, so, rfl, hS9, by omega, hso, fun st t10 H10 st0 st1 t100 t101 hS10 k10 => ?_⟩
      refine ⟨_, rfl, _, rfl, (by show 5 ≤ sizeLine; decide), fun Tt nTt => ?_⟩
      have sT := same_upd (o := .tup [.str "line", .str pl, .int st, .int lo, .int (1 + by_)]) nTt
      exact q _ (.line pl st lo (1 + by_)) t10 _ ⟨Tt, rfl, upd_same⟩ ⟨hpl, st0, by omega, hlo0, hlo1, by omega, by omega⟩ st1 rfl (by omega) (by omega) (hS10.same sT) ((k39.trans k10).trans (Kp.same d c sT))
    · have k3 := k2.trans k3'
      -- racks
      refine ⟨_, rfl, d, c, t + 1 + 1, 12, rfl, hS3, by omega, by decide, by decide, fun r3 H4 r30 r31 hS4 k4' => ⟨1, r3, rfl, rfl, ?_⟩⟩
      have k4 := k3.trans k4'
      obtain ⟨c1, c2, c3⟩ := ceil_up (T := T) (R := 1 + r3) hT1 (by omega)
      refine ⟨_, rfl, _, rfl, T, 1 + r3, rfl, rfl, _, 1, rfl, rfl, _, rfl, T + (1 + r3) - 1, 1 + r3, rfl, rfl, ⟨by omega, Nat.lt_trans (log_lt (by omega)) (by decide)⟩, Nat.zero_le _, fun sy nsy => ⟨_, _, rfl, ?_⟩⟩
      have ssy := same_upd (o := .lst []) nsy
      have offs := hS4.off nsy
      have nsH : H sy = none := Kp.free k4 hS4 nsy
      dsimp only
      revert c1 c2 c3
      generalize (T + (1 + r3) - 1) / (1 + r3) = per
      intro c1 c2 c3
      obtain ⟨e1, _, e3⟩ := ceil_up (T := T) (R := per) hT1 c1
      have e4 := ceil_le (T := T) (per := per) (R := 1 + r3) c1 c3
      obtain ⟨cnt, hcnt⟩ : ∃ cnt, (T + per - 1) / per = cnt := ⟨_, rfl⟩
      rw [hcnt] at e1 e3 e4
      refine ⟨_, rfl, _, rfl, T, per, rfl, rfl, _, 1, rfl, rfl, _, rfl, T + per - 1, per, rfl, rfl, ⟨by omega, Nat.lt_trans (log_lt (by omega)) (by decide)⟩, cnt, (by show [V.int ((T + per - 1) / per)] = [V.int cnt]; rw [hcnt]), by omega, by omega, ?_⟩
      refine for_range (n := cnt.toNat) (fun i σ Hx => ∃ (t' : Int) (ms : List V) (ss : List (Int × Int)) (y10 y11 : Option V), σ = [some (.ref d), some (.str pl), some (.int T), some (.int gr), some (.int so), none, none, some (.int (1 + r3)), some (.int per), some (.ref sy), y10, y11] ∧ Hx sy = some (.lst ms) ∧ Prs Hx ms ss ∧ ss.length = i ∧ (∀ s ∈ ss, 0 ≤ s.1 ∧ s.1 ≤ s.2 ∧ s.2 ≤ 2 * 10 ^ 30 * (i : Int)) ∧ t ≤ t' ∧ t' ≤ t + 3 + 14 * i ∧ StAt Hx d c t' ∧ Kp d c H Hx)
        ⟨t + 1 + 1 + 1, [], [], none, none, rfl, upd_same, Prs.nil, rfl, (fun _ z => nomatch z), by omega, by omega, hS4.same ssy, k4.trans (Kp.same d c ssy)⟩ (fun i σ Hx hi hP => ?_) (fun σ Hx hP => ?_)
      · obtain ⟨t', ms, ss, y10, y11, rfl, esy, hms, hsl, hbs, u0, u1, hSx, kx⟩ := hP
        have hi2 : (i : Int) < 12 := by omega
        refine ⟨_, rfl, _, rfl, d, c, t', so, rfl, hSx, by omega, hso, fun fi t5 H5 fi0 fi1 t50 t51 hS5 k5 => ?_⟩
        have kx5 := k5
        have esy5 := k5 _ _ offs.1 offs.2 esy
        have hms5 := hms.kp hSx k5
        refine ⟨fun σ' H' => ∃ (fi t6 : Int), σ' = [some (.ref d), some (.str pl), some (.int T), some (.int gr), some (.int so), none, none, some (.int (1 + r3)), some (.int per), some (.ref sy), some (.int (0 + (i : Int))), some (.int fi)] ∧ H' sy = some (.lst ms) ∧ Prs H' ms ss ∧ (0 ≤ fi ∧ fi ≤ 2 * 10 ^ 30 * (i : Int) + 10 ^ 30) ∧ t5 ≤ t6 ∧ t6 ≤ t5 + 2 ∧ StAt H' d c t6 ∧ Kp d c H H', ?_, fun σ' H' hM => ?_⟩
        · refine ⟨_, rfl, Nat.zero_le _, fun z nz => ?_⟩
          have sz := same_upd (o := .lst []) nz
          refine ⟨_, _, .lst (SqL.of (sz _ _ esy5)) (dp_prs (hms5.same sz)), .lst (SqL.of upd_same) .nil, shaped_prs ss, shaped_ints [], ?_⟩
          rw [eqv_pr_nil]
          have hS6 := hS5.same sz
          have k6 : Kp d c H (upd H5 z (.lst [])) := (kx.trans k5).trans (Kp.same d c sz)
          have esy6 := sz _ _ esy5
          have hms6 := hms5.same sz
          revert hS6 k6 esy6 hms6
          generalize upd H5 z (.lst []) = H6
          intro hS6 k6 esy6 hms6
          refine ⟨_, rfl, ite2 (fun c4 => ?_) (fun c4 => iteF ⟨fi, t5, rfl, esy6, hms6, ⟨fi0, by omega⟩, by omega, by omega, hS6, k6⟩)⟩
          refine ⟨_, rfl, d, c, t5, 3, rfl, hS6, by omega, by decide, by decide, fun r5 H7 r50 r51 hS7 k7 => ?_⟩
          have esy7 := k7 _ _ offs.1 offs.2 esy6
          have hms7 := hms6.kp hS6 k7
          refine ⟨rfl, _, rfl, ite2 (fun _ => ?_) (fun _ => ⟨fi, t5 + 1, rfl, esy7, hms7, ⟨fi0, by omega⟩, by omega, by omega, hS7, k6.trans k7⟩)⟩
          rcases snoc_cases ss with z0 | ⟨ss', p, z0⟩
          · rw [z0] at c4
            exact absurd c4 (by decide)
          subst z0
          obtain ⟨ms', T0, ems, eT0, _⟩ := hms7.last
          have hbp := hbs p (List.mem_append_right _ (List.mem_singleton.mpr rfl))
          refine ⟨_, rfl, 1, rfl, sy, ms, -1, .ref T0, rfl, rfl, SqL.of esy7, by rw [ems]; exact atI_last _ _, T0, _, 1, .int p.2, rfl, rfl, .inl (.inl eT0), atI_nat (j := 1) rfl, ?_⟩
          refine ⟨_, rfl, d, c, t5 + 1, 3, rfl, hS7, by omega, by decide, by decide, fun r6 H8 r60 r61 hS8 k8 => ⟨p.2, r6, rfl, rfl, p.2 + r6, t5 + 1 + 1, rfl, k8 _ _ offs.1 offs.2 esy7, hms7.kp hS7 k8, ⟨by omega, by omega⟩, by omega, by omega, hS8, (k6.trans k7).trans k8⟩⟩
        · obtain ⟨fi, t6, rfl, esy6, hms6, ⟨hf0, hf1⟩, v0, v1, hS6, k6⟩ := hM
          refine ⟨_, rfl, .inl ⟨rfl, _, SqL.of esy6⟩, _, rfl, _, rfl, _, rfl, d, c, t6, 9, rfl, hS6, by omega, by decide, by decide, fun b1 H7 b10 b11 hS7 k7 => ?_⟩
          refine ⟨_, rfl, _, rfl, d, c, _, so, rfl, hS7, by omega, hso, fun b2 t8 H8 b20 b21 t80 t81 hS8 k8 => ⟨(by show 3 ≤ sizeLine; decide), fun z3 nz3 => ?_⟩⟩
          have sz3 := same_upd (o := .lst [.int 0, .int b1, .int b2]) nz3
          refine ⟨_, rfl, d, c, t8, 3, rfl, hS8.same sz3, by omega, by decide, by decide, fun r4 H9 r40 r41 hS9 k9 => ?_⟩
          obtain ⟨ad, ⟨ad0, ad1⟩, hat3⟩ := pick3 (x := 0) (y := b1) (z := b2) (fun v => 0 ≤ v ∧ v < 10 ^ 30) r40 r41 (by decide) (by omega) (by omega)
          have k69 : Kp d c _ H9 := (k7.trans k8).trans ((Kp.same d c sz3).trans k9)
          refine ⟨z3, _, r4, .int ad, rfl, rfl, SqL.of (k9.new hS8 nz3), hat3, fi, ad, rfl, rfl, (by show 2 ≤ sizeLine; decide), fun Tt nTt => ?_⟩
          have sT := same_upd (o := .tup [.int fi, .int (fi + ad)]) nTt
          have esy9 := sT _ _ (k69 _ _ offs.1 offs.2 esy6)
          have hnew : ∀ s ∈ ss ++ [(fi, fi + ad)], 0 ≤ s.1 ∧ s.1 ≤ s.2 ∧ s.2 ≤ 2 * 10 ^ 30 * ((i + 1 : Nat) : Int) := fun s hs => by
            rcases List.mem_append.mp hs with z | z
            · have := hbs s z
              omega
            · rw [List.mem_singleton.mp z]
              refine ⟨hf0, ?_, ?_⟩
              · show fi ≤ fi + ad
                omega
              · show fi + ad ≤ _
                omega
          refine ⟨sy, _, _, rfl, rfl, esy9, small1000 (by rw [hms.1, hsl]; omega), t8 + 1, _, ss ++ [(fi, fi + ad)], _, _, rfl, upd_same, (((hms6.kp hS6 k69).same sT).snoc upd_same).upd_lst esy9, by rw [List.length_append, hsl]; rfl, hnew, by omega, by omega, (hS9.same sT).upd offs.1 offs.2, fun b o b1 b2 e => ?_⟩
          rw [upd_ne (ne_of_none e nsH)]
          exact sT _ _ (k69 b o b1 b2 (k6 b o b1 b2 e))
      · obtain ⟨t', ms, ss, y10, y11, rfl, esy, hms, hsl, hbs, u0, u1, hSx, kx⟩ := hP
        refine ⟨_, rfl, _, rfl, _, rfl, (by show 4 ≤ sizeLine; decide), fun Tt nTt => ?_⟩
        have sT := same_upd (o := .tup [.str "racks", .str pl, .int per, .ref sy]) nTt
        have hcn : (ss.length : Int) = cnt := by omega
        refine q _ (.racks pl per ss) t' _ ⟨Tt, sy, ms, rfl, upd_same, .inl (sT _ _ esy), hms.same sT⟩ ⟨hpl, c1, c2, by rw [hcn, Int.mul_comm]; exact e3, by omega, fun s hs => by have := hbs s hs; omega⟩ (fun s hs => by have := hbs s hs; omega) rfl (by omega) (by omega) (hSx.same sT) (kx.trans (Kp.same d c sT))
end

/-- stays are no passes -/
theorem stays_ne {H : Hp} {vs us : List V} {ps : List Pas} {ss : List (Int × Int)} {a s : Addr} (e : H a = some (.lst vs)) (hv : PassA H vs ps) (hs : SqH H s us) (hp : Prs H us ss) (hne : ss ≠ []) : s ≠ a := fun z => by
  subst z
  rcases hs with h | h
  · rw [h] at e
    have eu : us = vs := HO.lst.inj (Option.some.inj e)
    subst eu
    cases ss with
    | nil => exact hne rfl
    | cons q r =>
      obtain ⟨b, f1, f2⟩ := hp.2 0 q rfl
      obtain ⟨p, _, pv⟩ := hv.at f1
      cases p with
      | line => obtain ⟨b', e', h'⟩ := pv; cases e'; rw [f2] at h'; cases h'
      | racks => obtain ⟨b', _, _, e', h', _⟩ := pv; cases e'; rw [f2] at h'; cases h'
  · rw [h] at e
    cases e
theorem Pas.Good.stays {T : Int} {p : Str} {per : Int} {ss : List (Int × Int)} (h : (Pas.racks p per ss).Good T) (hT : 1 ≤ T) : ss ≠ [] := fun z => by
  have := h.2.2.2.1
  rw [z] at this
  have e : per * (([] : List (Int × Int)).length : Int) = 0 := by simp
  omega

/-! ### a batch -/
/-- a batch whose passes stand at one of these -/
def BatF (N : Addr → Prop) (H : Hp) (b : Addr) (mark : Str) (T : Int) (ps : List Pas) : Prop := ∃ a vs, H b = some (.tup [.str mark, .int T, .ref a]) ∧ SqH H a vs ∧ PassA H vs ps ∧ N a
theorem BatF.bat {N : Addr → Prop} {H : Hp} {b : Addr} {m : Str} {T : Int} {ps : List Pas} (h : BatF N H b m T ps) : BatA H b m T ps := let ⟨a, vs, h1, h2, h3, _⟩ := h; ⟨a, vs, h1, h2, h3⟩
theorem BatF.same {N : Addr → Prop} {H H' : Hp} {b : Addr} {m : Str} {T : Int} {ps : List Pas} (h : BatF N H b m T ps) (s : Same H H') : BatF N H' b m T ps := let ⟨a, vs, h1, h2, h3, h4⟩ := h; ⟨a, vs, s _ _ h1, h2.same s, h3.same s, h4⟩
theorem BatF.kp {N : Addr → Prop} {H H' : Hp} {d c : Addr} {t : Int} {b : Addr} {m : Str} {T : Int} {ps : List Pas} (h : BatF N H b m T ps) (S : StAt H d c t) (k : Kp d c H H') : BatF N H' b m T ps := let ⟨a, vs, h1, h2, h3, h4⟩ := h; ⟨a, vs, k.tup S h1, h2.kp S k h3.noInt, h3.kp S k, h4⟩
theorem BatF.weak {N N' : Addr → Prop} {H : Hp} {b : Addr} {m : Str} {T : Int} {ps : List Pas} (h : BatF N H b m T ps) (n : ∀ x, N x → N' x) : BatF N' H b m T ps := let ⟨a, vs, h1, h2, h3, h4⟩ := h; ⟨a, vs, h1, h2, h3, n _ h4⟩
abbrev sBatch : Stmt := topS 23
theorem scBatch : FnScope ["_law_state", "_law_mark", "_law_places", "_law_great", "_law_tins", "_law_passes", "_law_place"] ["_law_state", "_law_mark", "_law_places", "_law_great"] (defScope sBatch) := ⟨rfl, rfl, rfl, by decide +kernel, rfl, by decide +kernel, by decide +kernel⟩
def spBatch : Sp := fun vs H Q _ => ∃ (d c l : Addr) (t gr : Int) (mark : Str) (pls : List Str), vs = [.ref d, .str mark, .ref l, .int gr] ∧ StAt H d c t ∧ t + 3000 < 2 ^ 60 ∧ H l = some (.lst (pls.map V.str)) ∧ (∀ x ∈ pls, PyData.strOk x = true) ∧ pls.length ≤ 6 ∧ 0 ≤ gr ∧ gr < 2 ∧
  ∀ (b : Addr) (T : Int) (ps : List Pas) (t' : Int) H', BatF (fun x => H x = none) H' b mark T ps → 1 ≤ T → T ≤ 10 ^ 30 → (gr = 0 → T ≤ 40) → (∀ p ∈ ps, p.Good T) → (∀ p ∈ ps, p.Low) → (pls.Nodup → (ps.map Pas.place).Nodup) → ps.length ≤ 6 → t ≤ t' → t' ≤ t + 1300 → StAt H' d c t' → Kp d c H H' → Q (.ref b) H'
section
variable {K : PySem.W.Frag} {mg : Str → Option Value} {P : Program} {w : World} {base : Heap}
theorem ok_batch {f : Addr} {fd : FuncData} (F : Fun K "_law_batch_by" "_law_batch_by" sBatch f fd) (CT : Cal P w K mg base 1 "_law_take" ["_law_state", "_law_many"] spTake) (CN : Cal P w K mg base 2 "_law_number" ["_law_state", "_law_sort"] spNumber) (CP : Cal P w K mg base 3 "_law_pass" ["_law_state", "_law_place", "_law_tins", "_law_great"] spPass) (me : mg "len" = none) :
    FnOk P w K mg base CX0 4 f fd ["_law_state", "_law_mark", "_law_places", "_law_great"] spBatch := by
  refine F.ok scBatch (fun vs H Q E h => ?_) (fun cdv A outer s H vs Q E hr h => ?_)
  · obtain ⟨d, c, l, t, gr, mark, pls, rfl, _⟩ := h
    rfl
  · obtain ⟨d, c, l, t, gr, mark, pls, rfl, hS, ht, el, hok, hpl, hg0, hg1, q⟩ := h
    have hr1 := hr.mono (show 1 ≤ 3 by decide)
    have hr2 := hr.mono (show 2 ≤ 3 by decide)
    refine ⟨_, pss_cons (ps_set (i := 4) scBatch.nd rfl (.inl rfl) (pe_op op_add pe_int (pe_ix ix_list (pe_lst (pa_cons (pe_own CT hr1 (by rfl) (pa_cons (pv 0) (pa_cons pe_int pa_nil))) (pa_cons (pe_own CN hr2 (by rfl) (pa_cons (pv 0) (pa_cons pe_int pa_nil))) pa_nil))) (pv 3) (fun _ _ => rfl))))
      (pss_cons (ps_set (i := 5) scBatch.nd rfl (.inl rfl) (pe_lst pa_nil))
      (pss_cons (ps_for PassesOwn.never rfl (pi_list (pv 2)) (pg_name (i := 6) scBatch.nd rfl (.inl rfl))
        (pss_one (ps_if (pt_cmpR op_gt (pe_own CT hr1 (by rfl) (pa_cons (pv 0) (pa_cons pe_int pa_nil))) pe_int (nomark _))
          (pss_one (ps_expr (pe_bm PySem.F.plainAttrs_list PySem.F.slot_list_insert PySem.F.type_list_insert mt_insert (pv 5) (pa_cons (pe_own CT hr1 (by rfl) (pa_cons (pv 0) (pa_cons (pe_op op_add (pe_callB call_len_seq (by rfl) me PySem.boot_len (pa_cons (pv 5) pa_nil)) pe_int) pa_nil))) (pa_cons (pe_own CP hr (by rfl) (pa_cons (pv 0) (pa_cons (pv 6) (pa_cons (pv 4) (pa_cons (pv 3) pa_nil))))) pa_nil))))) pss_nil)))
      (pss_one (ps_ret (pe_tup (pa_cons (pv 1) (pa_cons (pv 4) (pa_cons (pv 5) pa_nil)))))))), ?_⟩
    refine ⟨_, rfl, d, c, t, 40, rfl, hS, by omega, by decide, by decide, fun r1 H1 r10 r11 hS1 k1 => ?_⟩
    refine ⟨_, rfl, d, c, t + 1, 3, rfl, hS1, by omega, by decide, fun r2 t2 H2 r20 r21 t20 t21 hS2 k2 => ⟨(by show 2 ≤ sizeLine; decide), fun z nz => ?_⟩⟩
    have sz := same_upd (o := .lst [.int r1, .int r2]) nz
    obtain ⟨T0, ⟨hT0, hT1, hT40⟩, hat⟩ : ∃ v, (0 ≤ v ∧ v < 10 ^ 30 ∧ (gr = 0 → v < 40)) ∧ atI [V.int r1, V.int r2] gr = some (.int v) := by
      have : gr = 0 ∨ gr = 1 := by omega
      rcases this with rfl | rfl
      · exact ⟨r1, ⟨r10, by omega, fun _ => r11⟩, rfl⟩
      · exact ⟨r2, ⟨r20, r21, fun z => absurd z (by decide)⟩, rfl⟩
    refine ⟨_, rfl, z, _, gr, .int T0, rfl, rfl, SqL.of upd_same, hat, 1, T0, rfl, rfl, ?_⟩
    have hS3 := hS2.same sz
    have k3 : Kp d c H (upd H2 z (.lst [.int r1, .int r2])) := (k1.trans k2).trans (Kp.same d c sz)
    revert hS3 k3
    generalize upd H2 z (.lst [.int r1, .int r2]) = H3
    intro hS3 k3
    refine ⟨Nat.zero_le _, fun pa npa => ?_⟩
    have spa := same_upd (o := .lst []) npa
    have offp := hS3.off npa
    have npH : H pa = none := Kp.free k3 hS3 npa
    have k4 := k3.trans (Kp.same d c spa)
    refine ⟨_, rfl, l, rfl, ⟨_, SqL.of (k4.lst hS el (noInt_strs pls))⟩, for_list (xs := pls.map V.str) (fun i σ Hx => ∃ (t' : Int) (vs : List V) (ps : List Pas) (y6 : Option V), σ = [some (.ref d), some (.str mark), some (.ref l), some (.int gr), some (.int (1 + T0)), some (.ref pa), y6] ∧ Hx pa = some (.lst vs) ∧ PassA Hx vs ps ∧ ps.length ≤ i ∧ (∀ p ∈ ps, (p.Good (1 + T0) ∧ p.Low) ∧ ∃ j, j < i ∧ pls[j]? = some p.place) ∧ (pls.Nodup → (ps.map Pas.place).Nodup) ∧ t ≤ t' ∧ t' ≤ t + 6 + 202 * i ∧ StAt Hx d c t' ∧ Kp d c H Hx)
      ⟨t2, [], [], none, rfl, upd_same, PassA.nil, Nat.le_refl _, (fun _ z => nomatch z), (fun _ => List.nodup_nil), by omega, by omega, hS3.same spa, k4⟩ (fun i σ Hx _ hP => ?_) (fun i x σ Hx hx hP => ?_) (fun σ Hx hP => ?_)⟩
    · obtain ⟨_, _, _, _, rfl, _, _, _, _, _, _, _, _, kx⟩ := hP
      exact SqL.of (kx.lst hS el (noInt_strs pls))
    · obtain ⟨t', vs, ps, y6, rfl, epa, hvs, hpl2, hgd, hnd, u0, u1, hSx, kx⟩ := hP
      obtain ⟨pl, epl, rfl⟩ : ∃ pl, pls[i]? = some pl ∧ x = .str pl := by
        rw [List.getElem?_map] at hx
        cases h : pls[i]? with
        | none => rw [h] at hx; cases hx
        | some n => rw [h] at hx; exact ⟨n, rfl, (Option.some.inj hx).symm⟩
      have hi : i < 6 := Nat.lt_of_lt_of_le (List.getElem?_eq_some_iff.mp epl).1 hpl
      refine ⟨_, rfl, d, c, t', 4, rfl, hSx, by omega, by decide, by decide, fun r3 H4 r30 r31 hS4 k4' => ⟨r3, 0, rfl, rfl, _, rfl, ite2 (fun _ => ?_) (fun _ => ?_)⟩⟩
      · have ep4 := k4' _ _ offp.1 offp.2 epa
        refine ⟨_, rfl, .inl ⟨rfl, _, SqL.of ep4⟩, _, rfl, _, rfl, pa, vs, rfl, Sq.list ep4, (vs.length : Int), 1, rfl, rfl, d, c, t' + 1, (vs.length : Int) + 1, rfl, hS4, by omega, by omega, by have := hvs.1; omega, fun r5 H5 r50 r51 hS5 k5 => ?_⟩
        refine ⟨_, rfl, _, rfl, _, rfl, _, rfl, d, c, t' + 1 + 1, 1 + T0, gr, pl, rfl, hS5, by omega, hok pl (List.mem_of_getElem? epl), by omega, by omega, hg0, hg1, fun v p t6 H6 hv hgp hlow hplc v0 v1 hS6 k6 => ?_⟩
        have kx6 := (k4'.trans k5).trans k6
        have ep6 := kx6 _ _ offp.1 offp.2 epa
        have hvs6 := hvs.kp hSx kx6
        have hvl : vs.length ≤ 6 := by rw [hvs.1]; omega
        have gdn : ∀ x ∈ ps.take r5.toNat ++ [p] ++ ps.drop r5.toNat, (x.Good (1 + T0) ∧ x.Low) ∧ ∃ j, j < i + 1 ∧ pls[j]? = some x.place := fun x hx => by
          have old : x ∈ ps → (x.Good (1 + T0) ∧ x.Low) ∧ ∃ j, j < i + 1 ∧ pls[j]? = some x.place := fun y => let ⟨g, j, lt, e⟩ := hgd x y; ⟨g, j, Nat.lt_succ_of_lt lt, e⟩
          rcases List.mem_append.mp hx with z | z
          · rcases List.mem_append.mp z with y | y
            · exact old (List.mem_of_mem_take y)
            · rw [List.mem_singleton.mp y]; exact ⟨⟨hgp, hlow⟩, i, Nat.lt_succ_self i, by rw [hplc]; exact epl⟩
          · exact old (List.mem_of_mem_drop z)
        have ndn : pls.Nodup → ((ps.take r5.toNat ++ [p] ++ ps.drop r5.toNat).map Pas.place).Nodup := fun hh => by
          have perm : (ps.take r5.toNat ++ [p] ++ ps.drop r5.toNat).Perm (p :: ps) := by
            rw [List.append_assoc]
            refine List.perm_middle.trans (List.Perm.cons _ ?_)
            exact List.Perm.of_eq (List.take_append_drop _ _)
          refine (perm.map Pas.place).nodup_iff.mpr ?_
          rw [List.map_cons, List.nodup_cons]
          refine ⟨fun hm => ?_, hnd hh⟩
          obtain ⟨y, hy, ey⟩ := List.mem_map.mp hm
          obtain ⟨_, j, lt, ej⟩ := hgd y hy
          rw [ey, hplc, ← epl] at ej
          have hji : j < pls.length := by
            have := (List.getElem?_eq_some_iff.mp epl).1
            omega
          have := (List.getElem?_inj hji hh).mp ej
          omega
        refine ⟨pa, vs, r5, v, rfl, rfl, ep6, small1000 (by omega), r50, by omega, t6, _, ps.take r5.toNat ++ [p] ++ ps.drop r5.toNat, _, rfl, upd_same, ?_, ?_, gdn, ndn, by omega, by omega, hS6.upd offp.1 offp.2, fun b o b1 b2 e => ?_⟩
        · have hnew : PassA H6 (vs.take r5.toNat ++ [v] ++ vs.drop r5.toNat) (ps.take r5.toNat ++ [p] ++ ps.drop r5.toNat) := ((hvs6.take r5.toNat).app (PassA.one hv)).app (hvs6.drop r5.toNat)
          exact ⟨hnew.1, fun j u q e1 e2 => by
            have z := hnew.2 j u q e1 e2
            have gq := (gdn q (List.mem_of_getElem? e2)).1.1
            cases q with
            | line => obtain ⟨a, e, h⟩ := z; exact ⟨a, e, by rw [upd_ne (ne_of h ep6 (fun z => nomatch z))]; exact h⟩
            | racks =>
              obtain ⟨a, s, us, e, h1, h2, h3⟩ := z
              have ns := stays_ne ep6 hvs6 h2 h3 (gq.stays (by omega))
              exact ⟨a, s, us, e, by rw [upd_ne (ne_of h1 ep6 (fun z => nomatch z))]; exact h1, h2.imp (fun h => by rw [upd_ne ns]; exact h) (fun h => by rw [upd_ne ns]; exact h), h3.upd_lst ep6⟩⟩
        · rw [List.length_append, List.length_append, List.length_take, List.length_drop, List.length_singleton]
          omega
        · rw [upd_ne (ne_of_none e npH)]
          exact kx6 b o b1 b2 (kx b o b1 b2 e)
      · exact ⟨t' + 1, vs, ps, _, rfl, k4' _ _ offp.1 offp.2 epa, hvs.kp hSx k4', by omega, (fun x hx => let ⟨g, j, lt, e⟩ := hgd x hx; ⟨g, j, Nat.lt_succ_of_lt lt, e⟩), hnd, by omega, by omega, hS4, kx.trans k4'⟩
    · obtain ⟨t', vs, ps, y6, rfl, epa, hvs, hpl2, hgd, hnd, u0, u1, hSx, kx⟩ := hP
      rw [List.length_map] at hpl2 u1
      refine ⟨_, rfl, _, rfl, _, rfl, (by show 3 ≤ sizeLine; decide), fun Tt nTt => ?_⟩
      have sT := same_upd (o := .tup [.str mark, .int (1 + T0), .ref pa]) nTt
      exact q Tt (1 + T0) ps t' _ ⟨pa, vs, upd_same, .inl (sT _ _ epa), hvs.same sT, npH⟩ (by omega) (by omega) (fun z => by have := hT40 z; omega) (fun p hp => (hgd p hp).1.1) (fun p hp => (hgd p hp).1.2) hnd (by omega) u0 (by omega) (hSx.same sT) (kx.trans (Kp.same d c sT))
end

/-! ### windows: the mathematics -/
def winF (pl : Str) (tin : Int) : List Pas → Option (Int × Int)
  | [] => none
  | .line p st lo b :: r => if p = pl then some (st + tin * lo / b, st + tin * lo / b) else winF pl tin r
  | .racks p per ss :: r => if p = pl then ss[(tin / per).toNat]? else winF pl tin r
def passF (pl : Str) : List Pas → Option Pas
  | [] => none
  | p :: r => if p.place = pl then some p else passF pl r
theorem passF_mem {pl : Str} {p : Pas} : ∀ {ps : List Pas}, passF pl ps = some p → p ∈ ps
  | [], e => nomatch e
  | q :: r, e => by
    unfold passF at e
    split at e
    · cases e
      exact List.mem_cons_self ..
    · exact List.mem_cons_of_mem _ (passF_mem e)
def winP (tin : Int) : Option Pas → Option (Int × Int)
  | none => none
  | some (.line _ st lo b) => some (st + tin * lo / b, st + tin * lo / b)
  | some (.racks _ per ss) => ss[(tin / per).toNat]?
theorem win_eq (pl : Str) (tin : Int) : ∀ ps : List Pas, winF pl tin ps = winP tin (passF pl ps)
  | [] => rfl
  | .line p st lo b :: r => by
    unfold winF passF
    by_cases h : p = pl
    · rw [if_pos h, if_pos (show (Pas.line p st lo b).place = pl from h)]
      rfl
    · rw [if_neg h, if_neg (show ¬ (Pas.line p st lo b).place = pl from h), win_eq pl tin r]
  | .racks p per ss :: r => by
    unfold winF passF
    by_cases h : p = pl
    · rw [if_pos h, if_pos (show (Pas.racks p per ss).place = pl from h)]
      rfl
    · rw [if_neg h, if_neg (show ¬ (Pas.racks p per ss).place = pl from h), win_eq pl tin r]
/-- where a tin's stay is -/
theorem stay_at {T tin per : Int} {ss : List (Int × Int)} (h0 : 0 ≤ tin) (h1 : tin < T) (hp : 1 ≤ per) (h : T ≤ per * ss.length) : ∃ j : Nat, tin / per = (j : Int) ∧ j < ss.length := by
  have z0 : 0 ≤ tin / per := Int.ediv_nonneg h0 (by omega)
  have z1 : tin / per < ss.length := Int.ediv_lt_of_lt_mul (by omega) (by rw [Int.mul_comm]; omega)
  obtain ⟨j, e⟩ := Int.eq_ofNat_of_zero_le z0
  exact ⟨j, e, by omega⟩
def WinV (H : Hp) (v : V) : Option (Int × Int) → Prop
  | none => v = .non
  | some p => ∃ a, v = .ref a ∧ H a = some (.tup [.int p.1, .int p.2])
/-! ### the law's own window -/
abbrev sLWin : Stmt := topS 24
theorem scLWin : FnScope ["_law_batch", "_law_place", "_law_tin", "_law_one", "_law_minute"] ["_law_batch", "_law_place", "_law_tin"] (defScope sLWin) := ⟨rfl, rfl, rfl, by decide +kernel, rfl, by decide +kernel, by decide +kernel⟩
def spWin : Sp := fun vs H Q _ => ∃ (b : Addr) (mark pl : Str) (T tin : Int) (ps : List Pas), vs = [.ref b, .str pl, .int tin] ∧ BatA H b mark T ps ∧ 0 ≤ tin ∧ tin < T ∧ T ≤ 10 ^ 30 ∧ (∀ p ∈ ps, p.Good T) ∧
  ∀ v H', WinV H' v (winF pl tin ps) → Same H H' → Q v H'
section
variable {K : PySem.W.Frag} {mg : Str → Option Value} {P : Program} {w : World} {base : Heap}
theorem ok_lwin {f : Addr} {fd : FuncData} {k : Nat} (F : Fun K "_law_window" "_law_window" sLWin f fd) : FnOk P w K mg base CX0 (k + 1) f fd ["_law_batch", "_law_place", "_law_tin"] spWin := by
  refine F.ok scLWin (fun vs H Q E h => ?_) (fun cdv A outer s H vs Q E hr h => ?_)
  · obtain ⟨b, mark, pl, T, tin, ps, rfl, _⟩ := h
    rfl
  · obtain ⟨b, mark, pl, T, tin, ps, rfl, ⟨a, us, eb, ha, hus⟩, h0, h1, hT, hgd, q⟩ := h
    refine ⟨_, pss_cons (ps_for PassesOwn.never rfl (pi_seq (pe_ix ix_tup (pv 0) pe_int (fun _ _ => rfl))) (pg_name (i := 3) scLWin.nd rfl (.inl rfl))
        (pss_cons (ps_if (PW.pt (pw_and (pt_cmpR op_eq (pe_ix ix_tup (pv 3) pe_int (fun _ _ => rfl)) (pv 1) (nomark _)) (pw_and1 (pt_cmpR op_eq (pe_ix ix_tup (pv 3) pe_int (fun _ _ => rfl)) pe_str (nomark _)))))
          (pss_cons (ps_set (i := 4) scLWin.nd rfl (.inl rfl) (pe_op op_add (pe_ix ix_tup (pv 3) pe_int (fun _ _ => rfl)) (pe_op op_fdivW (pe_op op_mulW (pv 2) (pe_ix ix_tup (pv 3) pe_int (fun _ _ => rfl))) (pe_ix ix_tup (pv 3) pe_int (fun _ _ => rfl)))))
          (pss_one (ps_ret (pe_tup (pa_cons (pv 4) (pa_cons (pv 4) pa_nil)))))) pss_nil)
        (pss_one (ps_if (pt_cmpR op_eq (pe_ix ix_tup (pv 3) pe_int (fun _ _ => rfl)) (pv 1) (nomark _)) (pss_one (ps_ret (pe_ix ix_seq (pe_ix ix_tup (pv 3) pe_int (fun _ _ => rfl)) (pe_op op_fdivW (pv 2) (pe_ix ix_tup (pv 3) pe_int (fun _ _ => rfl))) (fun _ _ => rfl)))) pss_nil))))
      (pss_one (ps_ret pe_non)), ?_⟩
    refine ⟨_, rfl, b, _, 2, .ref a, rfl, rfl, .inl (.inl eb), atI_nat (j := 2) rfl, a, rfl, for_seq (xs := us) ha.sq (fun i σ H1 => ∃ (y3 y4 : Option V), σ = [some (.ref b), some (.str pl), some (.int tin), y3, y4] ∧ H1 = H ∧ ∀ v H', WinV H' v (winF pl tin (ps.drop i)) → Same H H' → Q v H') ⟨none, none, rfl, rfl, q⟩
      (fun i σ H1 _ hP => ?_) (fun i x σ H1 hx hP => ?_) (fun σ H1 hP => ?_)⟩
    · obtain ⟨_, _, rfl, rfl, _⟩ := hP
      exact SqTo.refl
    · obtain ⟨y3, y4, rfl, rfl, q⟩ := hP
      obtain ⟨p, ep, hv⟩ := hus.at hx
      have hg := hgd p (List.mem_of_getElem? ep)
      rw [drop_at ep] at q
      cases p with
      | line p st lo by_ =>
        obtain ⟨g, rfl, eg⟩ := hv
        obtain ⟨_, st0, st1, lo0, lo1, b0, b1⟩ := hg
        refine ⟨_, rfl, g, _, 1, .str p, rfl, rfl, .inl (.inl eg), atI_nat (j := 1) rfl, _, rfl, rfl, _, rfl, ite2 (fun c => ?_) (fun c => ?_)⟩
        · have c' : p = pl := V.str.inj (of_decide_eq_true c)
          unfold winF at q
          rw [if_pos c'] at q
          refine ⟨_, rfl, g, _, 0, .str "line", rfl, rfl, .inl (.inl eg), atI_nat (j := 0) rfl, rfl, true, congrArg V.bl (decide_eq_true rfl), iteT ?_⟩
          refine ⟨_, rfl, g, _, 2, .int st, rfl, rfl, .inl (.inl eg), atI_nat (j := 2) rfl, _, rfl, _, rfl, g, _, 3, .int lo, rfl, rfl, .inl (.inl eg), atI_nat (j := 3) rfl, tin, lo, rfl, rfl, ?_, _, rfl, g, _, 4, .int by_, rfl, rfl, .inl (.inl eg), atI_nat (j := 4) rfl, tin * lo, by_, rfl, rfl, ⟨by omega, Nat.lt_trans (log_lt (by omega)) (by decide)⟩, st, _, rfl, rfl, ?_⟩
          · have z1 := log_lt (i := tin) (by omega)
            have z2 := log_lt (i := lo) (by omega)
            show tin.natAbs.log2 + lo.natAbs.log2 < 1000000
            omega
          · refine ⟨_, rfl, _, rfl, (by show 2 ≤ sizeLine; decide), fun Tt nTt => ?_⟩
            exact q _ _ ⟨Tt, rfl, upd_same⟩ (same_upd nTt)
        · have c' : ¬ p = pl := fun z => c (decide_eq_true (congrArg V.str z))
          unfold winF at q
          rw [if_neg c'] at q
          refine iteF ?_
          refine ⟨_, rfl, g, _, 1, .str p, rfl, rfl, .inl (.inl eg), atI_nat (j := 1) rfl, _, rfl, rfl, false, congrArg V.bl (Bool.eq_false_iff.mpr c), iteF ?_⟩
          exact ⟨_, _, rfl, rfl, q⟩
      | racks p per ss =>
        obtain ⟨g, sy, ws, rfl, eg, hsy, hws⟩ := hv
        obtain ⟨_, p0, p1, p2, p3⟩ := hg
        have hline : decide (V.str "racks" = V.str "line") = false := by decide +kernel
        unfold winF at q
        refine ⟨_, rfl, g, _, 1, .str p, rfl, rfl, .inl (.inl eg), atI_nat (j := 1) rfl, _, rfl, rfl, _, rfl, ite2 (fun c => ?_) (fun c => ?_)⟩
        · have c' : p = pl := V.str.inj (of_decide_eq_true c)
          rw [if_pos c'] at q
          refine ⟨_, rfl, g, _, 0, .str "racks", rfl, rfl, .inl (.inl eg), atI_nat (j := 0) rfl, rfl, false, congrArg V.bl hline, iteF ?_⟩
          refine ⟨_, rfl, g, _, 1, .str p, rfl, rfl, .inl (.inl eg), atI_nat (j := 1) rfl, _, rfl, rfl, true, congrArg V.bl c, iteT ?_⟩
          obtain ⟨j, ej, hj⟩ := stay_at h0 h1 p0 p2
          have hget : ss[j]? = some ss[j] := List.getElem?_eq_getElem hj
          obtain ⟨T0, f1, f2⟩ := hws.2 j _ hget
          refine ⟨_, rfl, g, _, 3, .ref sy, rfl, rfl, .inl (.inl eg), atI_nat (j := 3) rfl, _, rfl, _, rfl, g, _, 2, .int per, rfl, rfl, .inl (.inl eg), atI_nat (j := 2) rfl, tin, per, rfl, rfl, ⟨by omega, Nat.lt_trans (log_lt (by omega)) (by decide)⟩, sy, ws, tin / per, .ref T0, rfl, rfl, hsy.sq, by rw [ej]; exact atI_nat f1, ?_⟩
          refine q _ _ ?_ (Same.refl _)
          rw [ej, Int.toNat_natCast, hget]
          exact ⟨T0, rfl, f2⟩
        · have c' : ¬ p = pl := fun z => c (decide_eq_true (congrArg V.str z))
          rw [if_neg c'] at q
          refine iteF ?_
          refine ⟨_, rfl, g, _, 1, .str p, rfl, rfl, .inl (.inl eg), atI_nat (j := 1) rfl, _, rfl, rfl, false, congrArg V.bl (Bool.eq_false_iff.mpr c), iteF ?_⟩
          exact ⟨_, _, rfl, rfl, q⟩
    · obtain ⟨y3, y4, rfl, rfl, q⟩ := hP
      rw [hus.1, List.drop_length] at q
      exact q .non _ rfl (Same.refl _)
end
/-! ### the program's -/
abbrev sPassAt : Stmt := topS 5
theorem scPassAt : FnScope ["batch", "place", "passed"] ["batch", "place"] (defScope sPassAt) := ⟨rfl, rfl, rfl, by decide +kernel, rfl, by decide +kernel, by decide +kernel⟩
def PasO (H : Hp) (v : V) : Option Pas → Prop
  | none => v = .non
  | some p => PasV H v p
def spPassAt : Sp := fun vs H Q _ => ∃ (b : Addr) (mark pl : Str) (T : Int) (ps : List Pas), vs = [.ref b, .str pl] ∧ BatA H b mark T ps ∧ ∀ v, PasO H v (passF pl ps) → Q v H
section
variable {K : PySem.W.Frag} {mg : Str → Option Value} {P : Program} {w : World} {base : Heap}
theorem ok_passat {f : Addr} {fd : FuncData} {k : Nat} (F : Fun K "pass_at" "pass_at" sPassAt f fd) : FnOk P w K mg base CX0 (k + 1) f fd ["batch", "place"] spPassAt := by
  refine F.ok scPassAt (fun vs H Q E h => ?_) (fun cdv A outer s H vs Q E hr h => ?_)
  · obtain ⟨b, mark, pl, T, ps, rfl, _⟩ := h
    rfl
  · obtain ⟨b, mark, pl, T, ps, rfl, ⟨a, us, eb, ha, hus⟩, q⟩ := h
    refine ⟨_, pss_cons (ps_for PassesOwn.never rfl (pi_seq (pe_ix ix_tup (pv 0) pe_int (fun _ _ => rfl))) (pg_name (i := 2) scPassAt.nd rfl (.inl rfl))
        (pss_one (ps_if (pt_cmpR op_eq (pe_ix ix_tup (pv 2) pe_int (fun _ _ => rfl)) (pv 1) (nomark _)) (pss_one (ps_ret (pv 2))) pss_nil)))
      (pss_one (ps_ret pe_non)), ?_⟩
    refine ⟨_, rfl, b, _, 2, .ref a, rfl, rfl, .inl (.inl eb), atI_nat (j := 2) rfl, a, rfl, for_seq (xs := us) ha.sq (fun i σ H1 => ∃ (y2 : Option V), σ = [some (.ref b), some (.str pl), y2] ∧ H1 = H ∧ ∀ v, PasO H v (passF pl (ps.drop i)) → Q v H) ⟨none, rfl, rfl, q⟩
      (fun i σ H1 _ hP => ?_) (fun i x σ H1 hx hP => ?_) (fun σ H1 hP => ?_)⟩
    · obtain ⟨_, rfl, rfl, _⟩ := hP
      exact SqTo.refl
    · obtain ⟨y2, rfl, rfl, q⟩ := hP
      obtain ⟨p, ep, hv⟩ := hus.at hx
      rw [drop_at ep] at q
      obtain ⟨g, us', rfl, eg⟩ : ∃ (g : Addr) (r : List V), x = .ref g ∧ ∃ z, H1 g = some (.tup (.str z :: .str p.place :: r)) := by
        cases p with
        | line => obtain ⟨g, e, h⟩ := hv; exact ⟨g, _, e, _, h⟩
        | racks => obtain ⟨g, _, _, e, h, _⟩ := hv; exact ⟨g, _, e, _, h⟩
      obtain ⟨z, eg⟩ := eg
      unfold passF at q
      refine ⟨_, rfl, g, _, 1, .str p.place, rfl, rfl, .inl (.inl eg), atI_nat (j := 1) rfl, _, rfl, rfl, _, rfl, ite2 (fun c => ?_) (fun c => ?_)⟩
      · have c' : p.place = pl := V.str.inj (of_decide_eq_true c)
        rw [if_pos c'] at q
        exact ⟨_, rfl, q _ hv⟩
      · have c' : ¬ p.place = pl := fun z => c (decide_eq_true (congrArg V.str z))
        rw [if_neg c'] at q
        exact ⟨_, rfl, rfl, q⟩
    · obtain ⟨y2, rfl, rfl, q⟩ := hP
      rw [hus.1, List.drop_length] at q
      exact q .non rfl
end

/-- an expression, then a word of what it gives: what follows is shown once -/
def tMid (te : TE) : TE := fun σ H Q => ∃ M : V → Hp → Prop, te σ H M ∧ ∀ v H', M v H' → Q v H'
theorem pe_mid {X : Cx} {e : Expr} {te : TE} (h : PE X e te) : PE X e (tMid te) := ⟨fun pins s σ H Q I ⟨M, h1, h2⟩ => thn (h.run pins s σ H M I h1) fun _ _ ⟨y, H1, I1, r, q⟩ => ⟨y, H1, I1, r, h2 _ _ q⟩⟩

abbrev LcR (J : It) (g : TG) (tt : TT) (te : TE) (vs : List Nat) (σ : L2.St) (D : Addr) (Qd : Addr → Hp → Prop) (H1 : Hp) : Prop := ∃ W : Nat → Nat → Hp → Prop, (∃ m, W 0 m (upd H1 D (.lst []))) ∧ ∀ i m H, W i m H →
  (J.stop i H ∧ Qd D H) ∨ (J.go i H ∧ ∃ Nx : Hp → Prop, (∀ H', Nx H' → ∃ m', m' < m ∧ W (i + 1) m' H') ∧ ∀ x H', J.yld i H x H' → g x (wipe σ vs) H' fun σ2 H2 => wipe σ2 vs = wipe σ vs ∧ tt σ2 H2 fun b H3 => if b = true then
    te σ2 H3 fun y H4 => ∃ acc, H4 D = some (.lst acc) ∧ acc.length < sizeLine ∧ Nx (upd H4 D (.lst (acc ++ [y]))) else Nx H3)
theorem lc_seq {K : PySem.W.Frag} {a : Addr} {xs : List V} {g : TG} {tt : TT} {te : TE} {vs : List Nat} {σ : L2.St} {H1 : Hp} {Qd : Addr → Hp → Prop} (hq : Sq K H1 a xs) (Pv : Addr → Nat → Hp → Prop) (h0 : ∀ D, H1 D = none → Pv D 0 (upd H1 D (.lst [])))
    (still : ∀ D i H', H1 D = none → Pv D i H' → SqTo K H1 H' a xs)
    (turn : ∀ D i x H', H1 D = none → xs[i]? = some x → Pv D i H' → g x (wipe σ vs) H' fun σ2 H2 => wipe σ2 vs = wipe σ vs ∧ tt σ2 H2 fun b H3 =>
      if b = true then te σ2 H3 fun y H4 => ∃ acc, H4 D = some (.lst acc) ∧ acc.length < sizeLine ∧ Pv D (i + 1) (upd H4 D (.lst (acc ++ [y]))) else Pv D (i + 1) H3) (fin : ∀ D H', H1 D = none → Pv D xs.length H' → Qd D H') :
    ((∃ xs, SqL K H1 a xs) ∧ ∀ D, H1 D = none → LcR (Itl K a) g tt te vs σ D Qd H1) ∨ ((∃ xs, SqT K H1 a xs) ∧ ∀ D, H1 D = none → LcR (Itt K a) g tt te vs σ D Qd H1) := by
  rcases hq with h | h
  · exact .inl ⟨⟨xs, h⟩, fun D nD => lc_list (xs := xs) (Pv D) (h0 D nD) (fun i H' _ p => (still D i H' nD p).1 h) (fun i x H' e p => turn D i x H' nD e p) (fun H' p => fin D H' nD p)⟩
  · exact .inr ⟨⟨xs, h⟩, fun D nD => lc_tup (xs := xs) (Pv D) (h0 D nD) (fun i H' _ p => (still D i H' nD p).2 h) (fun i x H' e p => turn D i x H' nD e p) (fun H' p => fin D H' nD p)⟩

/-! ### sets by stretches: the mathematics -/
theorem inB_iff {n a b : Int} : inB n a b = true ↔ a ≤ n ∧ n ≤ b := by
  unfold inB
  rw [Bool.and_eq_true, decide_eq_true_eq (p := a ≤ n), decide_eq_true_eq]
theorem anyP_iff {n : Int} {ps : List (Int × Int)} : anyP (inB n) ps = true ↔ ∃ p ∈ ps, p.1 ≤ n ∧ n ≤ p.2 := by
  unfold anyP
  rw [List.any_eq_true]
  constructor
  · rintro ⟨p, hp, e⟩
    exact ⟨p, hp, inB_iff.mp e⟩
  · rintro ⟨p, hp, e⟩
    exact ⟨p, hp, inB_iff.mpr e⟩
/-- the same numbers -/
def Alike (ps qs : List (Int × Int)) : Prop := ∀ n : Int, (∃ p ∈ ps, p.1 ≤ n ∧ n ≤ p.2) ↔ ∃ p ∈ qs, p.1 ≤ n ∧ n ≤ p.2
theorem Alike.any {ps qs : List (Int × Int)} (h : Alike ps qs) (n : Int) : anyP (inB n) ps = anyP (inB n) qs := by
  rw [Bool.eq_iff_iff, anyP_iff, anyP_iff]
  exact h n
theorem Alike.symm {ps qs : List (Int × Int)} (h : Alike ps qs) : Alike qs ps := fun n => (h n).symm
theorem Alike.trans {ps qs rs : List (Int × Int)} (h : Alike ps qs) (h' : Alike qs rs) : Alike ps rs := fun n => (h n).trans (h' n)
theorem Alike.of_mem {ps qs : List (Int × Int)} (h : ∀ p, p ∈ ps ↔ p ∈ qs) : Alike ps qs := fun n => ⟨fun ⟨p, hp, e⟩ => ⟨p, (h p).mp hp, e⟩, fun ⟨p, hp, e⟩ => ⟨p, (h p).mpr hp, e⟩⟩
/-- of each set of numbers there is just one list -/
theorem ris_one : ∀ {rs rs' : List (Int × Int)} {lo lo' : Int}, Ris lo rs → Ris lo' rs' → Alike rs rs' → rs = rs'
  | [], [], _, _, _, _, _ => by rfl
  | [], q :: r, _, _, _, h', e => by
    obtain ⟨p, hp, _⟩ := (e q.1).mpr ⟨q, List.mem_cons_self .., Int.le_refl _, h'.2.1⟩
    exact nomatch hp
  | q :: r, [], _, _, h, _, e => by
    obtain ⟨p, hp, _⟩ := (e q.1).mp ⟨q, List.mem_cons_self .., Int.le_refl _, h.2.1⟩
    exact nomatch hp
  | (a, b) :: r, (a', b') :: r', lo, lo', h, h', e => by
    have hb : a ≤ b := h.2.1
    have hb' : a' ≤ b' := h'.2.1
    have tl : ∀ p ∈ r, b + 2 ≤ p.1 ∧ p.1 ≤ p.2 := Ris.le h.2.2
    have tl' : ∀ p ∈ r', b' + 2 ≤ p.1 ∧ p.1 ≤ p.2 := Ris.le h'.2.2
    have m1 : a' ≤ a := by
      obtain ⟨p, hp, e1, e2⟩ := (e a).mp ⟨(a, b), List.mem_cons_self .., Int.le_refl _, hb⟩
      rcases List.mem_cons.mp hp with z | z
      · rw [z] at e1; exact e1
      · have := tl' p z; omega
    have m2 : a ≤ a' := by
      obtain ⟨p, hp, e1, e2⟩ := (e a').mpr ⟨(a', b'), List.mem_cons_self .., Int.le_refl _, hb'⟩
      rcases List.mem_cons.mp hp with z | z
      · rw [z] at e1; exact e1
      · have := tl p z; omega
    have ea : a = a' := by omega
    have n1 : ¬ b < b' := fun lt => by
      obtain ⟨p, hp, e1, e2⟩ := (e (b + 1)).mpr ⟨(a', b'), List.mem_cons_self .., by show a' ≤ b + 1; omega, by show b + 1 ≤ b'; omega⟩
      rcases List.mem_cons.mp hp with z | z
      · rw [z] at e2; have : b + 1 ≤ b := e2; omega
      · have := tl p z; omega
    have n2 : ¬ b' < b := fun lt => by
      obtain ⟨p, hp, e1, e2⟩ := (e (b' + 1)).mp ⟨(a, b), List.mem_cons_self .., by show a ≤ b' + 1; omega, by show b' + 1 ≤ b; omega⟩
      rcases List.mem_cons.mp hp with z | z
      · rw [z] at e2; have : b' + 1 ≤ b' := e2; omega
      · have := tl' p z; omega
    have eb : b = b' := by omega
    subst ea eb
    have er : Alike r r' := fun n => by
      constructor
      · rintro ⟨p, hp, e1, e2⟩
        obtain ⟨p', hp', f1, f2⟩ := (e n).mp ⟨p, List.mem_cons_of_mem _ hp, e1, e2⟩
        rcases List.mem_cons.mp hp' with z | z
        · rw [z] at f2
          have : n ≤ b := f2
          have := tl p hp
          omega
        · exact ⟨p', z, f1, f2⟩
      · rintro ⟨p, hp, e1, e2⟩
        obtain ⟨p', hp', f1, f2⟩ := (e n).mpr ⟨p, List.mem_cons_of_mem _ hp, e1, e2⟩
        rcases List.mem_cons.mp hp' with z | z
        · rw [z] at f2
          have : n ≤ b := f2
          have := tl' p hp
          omega
        · exact ⟨p', z, f1, f2⟩
    rw [ris_one h.2.2 h'.2.2 er]
theorem Ris.front : ∀ {lo : Int} {rs : List (Int × Int)} {q : Int × Int}, Ris lo (rs ++ [q]) → Ris lo rs ∧ (∀ r ∈ rs, r.2 + 2 ≤ q.1) ∧ lo ≤ q.1 ∧ q.1 ≤ q.2
  | lo, [], q, h => ⟨True.intro, (fun _ z => nomatch z), h.1, h.2.1⟩
  | lo, r :: rs, q, h => by
    obtain ⟨h1, h2, h3, h4⟩ := Ris.front h.2.2
    refine ⟨⟨h.1, h.2.1, h1⟩, fun x hx => ?_, by have := h.1; have := h.2.1; omega, h4⟩
    rcases List.mem_cons.mp hx with z | z
    · rw [z]; exact h3
    · exact h2 x z
/-- what is told of pairs: a set of just their numbers -/
structure SetLike (ps rs : List (Int × Int)) : Prop where
  ris : ∃ lo, Ris lo rs
  same : Alike rs ps
  len : rs.length ≤ ps.length
/-- between two turns: the pairs so far, rising by their firsts, and what is merged of them -/
structure Mrg (pre rs : List (Int × Int)) : Prop extends SetLike pre rs where
  firsts : ∀ r ∈ rs, ∃ p ∈ pre, p.1 = r.1
theorem alike_snoc {pre : List (Int × Int)} {rs rs' : List (Int × Int)} {p : Int × Int} (h : Alike rs pre) (e : ∀ n, (∃ q ∈ rs', q.1 ≤ n ∧ n ≤ q.2) ↔ (∃ q ∈ rs, q.1 ≤ n ∧ n ≤ q.2) ∨ (p.1 ≤ n ∧ n ≤ p.2)) : Alike rs' (pre ++ [p]) := fun n => by
  rw [e n, h n]
  constructor
  · rintro (⟨q, hq, z⟩ | z)
    · exact ⟨q, List.mem_append_left _ hq, z⟩
    · exact ⟨p, List.mem_append_right _ (List.mem_singleton.mpr rfl), z⟩
  · rintro ⟨q, hq, z⟩
    rcases List.mem_append.mp hq with y | y
    · exact .inl ⟨q, y, z⟩
    · rw [List.mem_singleton.mp y] at z
      exact .inr z
theorem Mrg.join {pre rs : List (Int × Int)} {a b : Int} {p : Int × Int} (m : Mrg pre (rs ++ [(a, b)])) (hp : p.1 ≤ p.2) (ord : ∀ q ∈ pre, q.1 ≤ p.1) (near : p.1 ≤ b + 1) : Mrg (pre ++ [p]) (rs ++ [(a, if p.2 > b then p.2 else b)]) := by
  obtain ⟨lo, hr⟩ := m.ris
  obtain ⟨h1, h2, h3, h4⟩ := Ris.front hr
  obtain ⟨q, hq, eq⟩ := m.firsts (a, b) (List.mem_append_right _ (List.mem_singleton.mpr rfl))
  have hap : a ≤ p.1 := by have := ord q hq; have : q.1 = a := eq; omega
  have hab : a ≤ b := h4
  have big : a ≤ (if p.2 > b then p.2 else b) := by split <;> omega
  refine ⟨⟨⟨lo, h1.snoc h3 h2 big⟩, alike_snoc m.same fun n => ?_, ?_⟩, fun r hr => ?_⟩
  · constructor
    · rintro ⟨q, hq, z⟩
      rcases List.mem_append.mp hq with y | y
      · exact .inl ⟨q, List.mem_append_left _ y, z⟩
      · rw [List.mem_singleton.mp y] at z
        have z1 : a ≤ n := z.1
        have z2 : n ≤ (if p.2 > b then p.2 else b) := z.2
        by_cases c : n ≤ b
        · exact .inl ⟨(a, b), List.mem_append_right _ (List.mem_singleton.mpr rfl), z1, c⟩
        · refine .inr ⟨by omega, ?_⟩
          split at z2 <;> omega
    · rintro (⟨q, hq, z⟩ | z)
      · rcases List.mem_append.mp hq with y | y
        · exact ⟨q, List.mem_append_left _ y, z⟩
        · rw [List.mem_singleton.mp y] at z
          refine ⟨_, List.mem_append_right _ (List.mem_singleton.mpr rfl), z.1, ?_⟩
          have z2 : n ≤ b := z.2
          show n ≤ (if p.2 > b then p.2 else b)
          split <;> omega
      · refine ⟨_, List.mem_append_right _ (List.mem_singleton.mpr rfl), by show a ≤ n; omega, ?_⟩
        show n ≤ (if p.2 > b then p.2 else b)
        split <;> omega
  · have := m.len
    rw [List.length_append, List.length_append] at *
    show rs.length + 1 ≤ pre.length + 1
    have : rs.length + 1 ≤ pre.length := this
    omega
  · rcases List.mem_append.mp hr with y | y
    · obtain ⟨q, hq, e⟩ := m.firsts r (List.mem_append_left _ y)
      exact ⟨q, List.mem_append_left _ hq, e⟩
    · rw [List.mem_singleton.mp y]
      exact ⟨q, List.mem_append_left _ hq, eq⟩
theorem Mrg.new {pre rs : List (Int × Int)} {p : Int × Int} (m : Mrg pre rs) (hp : p.1 ≤ p.2) (ord : ∀ q ∈ pre, q.1 ≤ p.1) (far : ∀ r ∈ rs, r.2 + 2 ≤ p.1) : Mrg (pre ++ [p]) (rs ++ [p]) := by
  obtain ⟨lo, hr⟩ := m.ris
  refine ⟨⟨?_, alike_snoc m.same fun n => ?_, by have := m.len; rw [List.length_append, List.length_append]; show rs.length + 1 ≤ pre.length + 1; omega⟩, fun r hr => ?_⟩
  · cases rs with
    | nil => exact ⟨p.1, Int.le_refl _, hp, True.intro⟩
    | cons q r =>
      refine ⟨lo, hr.snoc ?_ far hp⟩
      have := hr.le q (List.mem_cons_self ..)
      have := far q (List.mem_cons_self ..)
      omega
  · constructor
    · rintro ⟨q, hq, z⟩
      rcases List.mem_append.mp hq with y | y
      · exact .inl ⟨q, y, z⟩
      · rw [List.mem_singleton.mp y] at z; exact .inr z
    · rintro (⟨q, hq, z⟩ | z)
      · exact ⟨q, List.mem_append_left _ hq, z⟩
      · exact ⟨p, List.mem_append_right _ (List.mem_singleton.mpr rfl), z⟩
  · rcases List.mem_append.mp hr with y | y
    · obtain ⟨q, hq, e⟩ := m.firsts r y
      exact ⟨q, List.mem_append_left _ hq, e⟩
    · rw [List.mem_singleton.mp y]
      exact ⟨p, List.mem_append_right _ (List.mem_singleton.mpr rfl), rfl⟩
theorem Mrg.nil : Mrg [] [] := ⟨⟨⟨0, True.intro⟩, fun _ => Iff.rfl, Nat.le_refl _⟩, fun _ z => nomatch z⟩

/-! ### sets put together: the mathematics -/
def InS (ps : List (Int × Int)) (n : Int) : Prop := ∃ p ∈ ps, p.1 ≤ n ∧ n ≤ p.2
theorem inS_nil {n : Int} : ¬ InS [] n := fun ⟨_, h, _⟩ => nomatch h
theorem inS_cons {p : Int × Int} {r : List (Int × Int)} {n : Int} : InS (p :: r) n ↔ (p.1 ≤ n ∧ n ≤ p.2) ∨ InS r n := by
  constructor
  · rintro ⟨q, hq, e⟩
    rcases List.mem_cons.mp hq with z | z
    · rw [z] at e; exact .inl e
    · exact .inr ⟨q, z, e⟩
  · rintro (e | ⟨q, hq, e⟩)
    · exact ⟨p, List.mem_cons_self .., e⟩
    · exact ⟨q, List.mem_cons_of_mem _ hq, e⟩
theorem inS_append {ps qs : List (Int × Int)} {n : Int} : InS (ps ++ qs) n ↔ InS ps n ∨ InS qs n := by
  constructor
  · rintro ⟨q, hq, e⟩
    rcases List.mem_append.mp hq with z | z
    · exact .inl ⟨q, z, e⟩
    · exact .inr ⟨q, z, e⟩
  · rintro (⟨q, hq, e⟩ | ⟨q, hq, e⟩)
    · exact ⟨q, List.mem_append_left _ hq, e⟩
    · exact ⟨q, List.mem_append_right _ hq, e⟩
theorem Ris.low {lo n : Int} {ps : List (Int × Int)} (h : Ris lo ps) (e : InS ps n) : lo ≤ n := by
  obtain ⟨p, hp, e1, e2⟩ := e
  have := h.le p hp
  omega
theorem Ris.mono : ∀ {lo lo' : Int} {ps : List (Int × Int)}, Ris lo ps → lo' ≤ lo → Ris lo' ps
  | _, _, [], _, _ => True.intro
  | _, _, _ :: _, h, e => ⟨Int.le_trans e h.1, h.2⟩
def mxI (i j : Int) : Int := if j > i then j else i
def mnI (i j : Int) : Int := if j < i then j else i
theorem mxI_le {i j n : Int} : mxI i j ≤ n ↔ i ≤ n ∧ j ≤ n := by unfold mxI; split <;> omega
theorem le_mxI {i j n : Int} : n ≤ mxI i j ↔ n ≤ i ∨ n ≤ j := by unfold mxI; split <;> omega
theorem le_mnI {i j n : Int} : n ≤ mnI i j ↔ n ≤ i ∧ n ≤ j := by unfold mnI; split <;> omega
theorem mnI_le {i j n : Int} : mnI i j ≤ n ↔ i ≤ n ∨ j ≤ n := by unfold mnI; split <;> omega
/-- going through both at once -/
def bothF : List (Int × Int) → List (Int × Int) → List (Int × Int)
  | [], _ => []
  | _ :: _, [] => []
  | p :: r, q :: s => (if mxI p.1 q.1 ≤ mnI p.2 q.2 then [(mxI p.1 q.1, mnI p.2 q.2)] else []) ++ (if p.2 < q.2 then bothF r (q :: s) else bothF (p :: r) s)
termination_by ps qs => ps.length + qs.length
theorem bothF_nil (ps : List (Int × Int)) : bothF ps [] = [] := by cases ps <;> rw [bothF]
theorem bothF_ris : ∀ {ps qs : List (Int × Int)} {lo lo' k : Int}, Ris lo ps → Ris lo' qs → (k ≤ lo ∨ k ≤ lo') → Ris k (bothF ps qs)
  | [], _, _, _, _, _, _, _ => by rw [bothF]; exact True.intro
  | _ :: _, [], _, _, _, _, _, _ => by rw [bothF]; exact True.intro
  | p :: r, q :: s, lo, lo', k, h, h', hk => by
    rw [bothF]
    have h1 := h.1
    have h2 := h.2.1
    have h1' := h'.1
    have h2' := h'.2.1
    by_cases c : mxI p.1 q.1 ≤ mnI p.2 q.2
    · rw [if_pos c]
      refine ⟨?_, c, ?_⟩
      · show k ≤ mxI p.1 q.1
        rw [le_mxI]
        omega
      · by_cases d : p.2 < q.2
        · rw [if_pos d]
          refine bothF_ris h.2.2 h' (.inl ?_)
          show mnI p.2 q.2 + 2 ≤ p.2 + 2
          have : mnI p.2 q.2 ≤ p.2 := mnI_le.mpr (.inl (Int.le_refl _))
          omega
        · rw [if_neg d]
          refine bothF_ris h h'.2.2 (.inr ?_)
          show mnI p.2 q.2 + 2 ≤ q.2 + 2
          have : mnI p.2 q.2 ≤ q.2 := mnI_le.mpr (.inr (Int.le_refl _))
          omega
    · rw [if_neg c, List.nil_append]
      by_cases d : p.2 < q.2
      · rw [if_pos d]
        refine bothF_ris h.2.2 h' ?_
        omega
      · rw [if_neg d]
        refine bothF_ris h h'.2.2 ?_
        omega
termination_by ps qs => ps.length + qs.length
theorem bothF_in {n : Int} : ∀ {ps qs : List (Int × Int)} {lo lo' : Int}, Ris lo ps → Ris lo' qs → (InS (bothF ps qs) n ↔ InS ps n ∧ InS qs n)
  | [], _, _, _, _, _ => by rw [bothF]; exact ⟨fun h => absurd h inS_nil, fun h => h.1⟩
  | _ :: _, [], _, _, _, _ => by rw [bothF]; exact ⟨fun h => absurd h inS_nil, fun h => h.2⟩
  | p :: r, q :: s, lo, lo', h, h' => by
    rw [bothF, inS_append, inS_cons, inS_cons]
    have e1 : InS (if mxI p.1 q.1 ≤ mnI p.2 q.2 then [(mxI p.1 q.1, mnI p.2 q.2)] else []) n ↔ (p.1 ≤ n ∧ n ≤ p.2) ∧ (q.1 ≤ n ∧ n ≤ q.2) := by
      by_cases c : mxI p.1 q.1 ≤ mnI p.2 q.2
      · rw [if_pos c, inS_cons]
        show ((mxI p.1 q.1 ≤ n ∧ n ≤ mnI p.2 q.2) ∨ InS [] n) ↔ _
        rw [mxI_le, le_mnI]
        constructor
        · rintro (z | z)
          · omega
          · exact absurd z inS_nil
        · intro z
          exact .inl (by omega)
      · rw [if_neg c]
        constructor
        · exact fun z => absurd z inS_nil
        · intro z
          refine absurd (Int.le_trans (mxI_le.mpr ⟨z.1.1, z.2.1⟩) (le_mnI.mpr ⟨z.1.2, z.2.2⟩)) c
    rw [e1]
    by_cases d : p.2 < q.2
    · rw [if_pos d, bothF_in h.2.2 h', inS_cons]
      have no : InS s n → ¬ n ≤ p.2 := fun z => by
        have := h'.2.2.low z
        omega
      constructor
      · rintro (⟨z1, z2⟩ | ⟨z1, z2⟩)
        · exact ⟨.inl z1, .inl z2⟩
        · exact ⟨.inr z1, z2⟩
      · rintro ⟨z1 | z1, z2 | z2⟩
        · exact .inl ⟨z1, z2⟩
        · exact absurd z1.2 (no z2)
        · exact .inr ⟨z1, .inl z2⟩
        · exact .inr ⟨z1, .inr z2⟩
    · rw [if_neg d, bothF_in h h'.2.2, inS_cons]
      have no : InS r n → ¬ n ≤ q.2 := fun z => by
        have := h.2.2.low z
        omega
      constructor
      · rintro (⟨z1, z2⟩ | ⟨z1, z2⟩)
        · exact ⟨.inl z1, .inl z2⟩
        · exact ⟨z1, .inr z2⟩
      · rintro ⟨z1 | z1, z2 | z2⟩
        · exact .inl ⟨z1, z2⟩
        · exact .inr ⟨.inl z1, z2⟩
        · exact absurd z2.2 (no z1)
        · exact .inr ⟨.inr z1, z2⟩
termination_by ps qs => ps.length + qs.length
/-- what lies between the stretches of a set -/
def gapsF (e : Int) : Int → List (Int × Int) → List (Int × Int)
  | st, [] => [(st, e)]
  | st, p :: r => (st, mnI (p.1 - 1) e) :: gapsF e (mxI st (p.2 + 1)) r
theorem gapsF_length (e : Int) : ∀ (qs : List (Int × Int)) (st : Int), (gapsF e st qs).length = qs.length + 1
  | [], _ => rfl
  | _ :: r, _ => by rw [gapsF, List.length_cons, gapsF_length e r, List.length_cons]
theorem gapsF_in {e n : Int} : ∀ {qs : List (Int × Int)} {lo st : Int}, Ris lo qs → (InS (gapsF e st qs) n ↔ (st ≤ n ∧ n ≤ e) ∧ ¬ InS qs n)
  | [], _, st, _ => by
    rw [gapsF, inS_cons]
    constructor
    · rintro (z | z)
      · exact ⟨z, inS_nil⟩
      · exact absurd z inS_nil
    · exact fun z => .inl z.1
  | p :: r, lo, st, h => by
    rw [gapsF, inS_cons, gapsF_in h.2.2, inS_cons]
    show ((st ≤ n ∧ n ≤ mnI (p.1 - 1) e) ∨ (mxI st (p.2 + 1) ≤ n ∧ n ≤ e) ∧ ¬ InS r n) ↔ _
    rw [le_mnI, mxI_le]
    have h2 := h.2.1
    have no : n ≤ p.2 + 1 → ¬ InS r n := fun z y => by
      have := h.2.2.low y
      omega
    constructor
    · rintro (z | ⟨z, y⟩)
      · refine ⟨by omega, ?_⟩
        rintro (x | x)
        · omega
        · exact no (by omega) x
      · refine ⟨by omega, ?_⟩
        rintro (x | x)
        · omega
        · exact y x
    · rintro ⟨z, y⟩
      by_cases c : n < p.1
      · exact .inl (by omega)
      · refine .inr ⟨?_, fun x => y (.inr x)⟩
        have : ¬ (p.1 ≤ n ∧ n ≤ p.2) := fun x => y (.inl x)
        omega
/-- a set of just the numbers of which pr holds -/
structure Told (pr : Int → Prop) (rs : List (Int × Int)) : Prop where
  ris : ∃ lo, Ris lo rs
  same : ∀ n, InS rs n ↔ pr n
theorem Told.one {pr pr' : Int → Prop} {rs rs' : List (Int × Int)} (h : Told pr rs) (h' : Told pr' rs') (e : ∀ n, pr n ↔ pr' n) : rs = rs' := by
  obtain ⟨lo, r⟩ := h.ris
  obtain ⟨lo', r'⟩ := h'.ris
  exact ris_one r r' fun n => (h.same n).trans ((e n).trans (h'.same n).symm)
theorem Told.of {lo : Int} {rs : List (Int × Int)} (h : Ris lo rs) : Told (InS rs) rs := ⟨⟨lo, h⟩, fun _ => Iff.rfl⟩
theorem SetLike.told {ps rs : List (Int × Int)} (h : SetLike ps rs) : Told (InS ps) rs := ⟨h.ris, h.same⟩
theorem Told.cong {pr pr' : Int → Prop} {rs : List (Int × Int)} (h : Told pr rs) (e : ∀ n, pr n ↔ pr' n) : Told pr' rs := ⟨h.ris, fun n => (h.same n).trans (e n)⟩
theorem Told.nneg {pr : Int → Prop} {rs : List (Int × Int)} (h : Told pr rs) (hn : ∀ n, pr n → 0 ≤ n) : Ris 0 rs := by
  obtain ⟨lo, r⟩ := h.ris
  cases rs with
  | nil => exact True.intro
  | cons p q => exact ⟨hn _ ((h.same _).mp (inS_cons.mpr (.inl ⟨Int.le_refl _, r.2.1⟩))), r.2⟩

theorem cut_back (xs : List V) (m : Nat) : cutV xs (some (m : Int)) none = xs.drop m := by
  unfold cutV
  rw [HT.sIx_none, HT.sIx_nat]
  by_cases h : m ≤ xs.length
  · rw [Nat.min_eq_left h]
    exact List.take_of_length_le (by rw [List.length_drop]; exact Nat.le_refl _)
  · rw [Nat.min_eq_right (by omega), Nat.sub_self, List.take_zero, List.drop_eq_nil_of_le (by omega)]
theorem _root_.GP.Prs.append {H : Hp} {us ws : List V} {ps qs : List (Int × Int)} (h : Prs H us ps) (h' : Prs H ws qs) : Prs H (us ++ ws) (ps ++ qs) := by
  refine ⟨by rw [List.length_append, List.length_append, h.1, h'.1], fun i p e => ?_⟩
  by_cases hi : i < ps.length
  · rw [List.getElem?_append_left hi] at e
    rw [List.getElem?_append_left (by rw [h.1]; exact hi)]
    exact h.2 i p e
  · rw [List.getElem?_append_right (by omega)] at e
    rw [List.getElem?_append_right (by rw [h.1]; omega), h.1]
    exact h'.2 _ p e
theorem _root_.GP.Prs.take {H : Hp} {us : List V} {ps : List (Int × Int)} (h : Prs H us ps) (n : Nat) : Prs H (us.take n) (ps.take n) := by
  refine ⟨by rw [List.length_take, List.length_take, h.1], fun i p e => ?_⟩
  rw [List.getElem?_take] at e ⊢
  split at e
  · rename_i hi
    rw [if_pos hi]
    exact h.2 i p e
  · cases e
theorem _root_.GP.Prs.drop {H : Hp} {us : List V} {ps : List (Int × Int)} (h : Prs H us ps) (n : Nat) : Prs H (us.drop n) (ps.drop n) := by
  refine ⟨by rw [List.length_drop, List.length_drop, h.1], fun i p e => ?_⟩
  rw [List.getElem?_drop] at e ⊢
  exact h.2 _ p e
theorem _root_.GP.Prs.reverse {H : Hp} {us : List V} {ps : List (Int × Int)} (h : Prs H us ps) : Prs H us.reverse ps.reverse := by
  refine ⟨by rw [List.length_reverse, List.length_reverse, h.1], fun i p e => ?_⟩
  have hi : i < ps.length := by
    have z := (List.getElem?_eq_some_iff.mp e).1
    rwa [List.length_reverse] at z
  rw [List.getElem?_reverse hi] at e
  rw [List.getElem?_reverse (by rw [h.1]; exact hi), h.1]
  exact h.2 _ p e

/-! ### set_of -/
/-- the pair that a tracked tuple holds -/
def pairOf (H : Hp) : V → Int × Int
  | .ref t => (match H t with
    | some (.tup [.int i, .int j]) => (i, j)
    | _ => (0, 0))
  | _ => (0, 0)
theorem pairOf_at {H : Hp} {t : Addr} {p : Int × Int} (e : H t = some (.tup [.int p.1, .int p.2])) : pairOf H (.ref t) = p := by
  show (match H t with | some (.tup [.int i, .int j]) => (i, j) | _ => (0, 0)) = p
  rw [e]
abbrev sSetOf : Stmt := topS 1
theorem scSetOf : FnScope ["pairs", "merged", "first", "last", "low", "high", "pair"] ["pairs"] (defScope sSetOf) := ⟨rfl, rfl, rfl, by decide +kernel, rfl, by decide +kernel, by decide +kernel⟩
def spSetOf (K : PySem.W.Frag) : Sp := fun vs H Q _ => ∃ (a : Addr) (us : List V) (ps : List (Int × Int)), vs = [.ref a] ∧ Sq K H a us ∧ Prs H us ps ∧ ps.length ≤ 900 ∧
  ∀ (l : Addr) (ws : List V) (rs : List (Int × Int)) H', H l = none → H' l = some (.lst ws) → Prs H' ws rs → SetLike ps rs → Same H H' → Q (.ref l) H'
section
variable {K : PySem.W.Frag} {mg : Str → Option Value} {P : Program} {w : World} {base : Heap}
theorem ok_setof {f : Addr} {fd : FuncData} {k : Nat} (F : Fun K "set_of" "set_of" sSetOf f fd) (mso : mg "sorted" = none) (mx : mg "max" = none) : FnOk P w K mg base CX0 (k + 1) f fd ["pairs"] (spSetOf K) := by
  refine F.ok scSetOf (fun vs H Q E h => ?_) (fun cdv A outer s H vs Q E hr h => ?_)
  · obtain ⟨a, us, ps, rfl, _⟩ := h
    rfl
  · obtain ⟨a, us, ps, rfl, hq, hp, hz, q⟩ := h
    refine ⟨_, pss_cons (ps_set (i := 1) scSetOf.nd rfl (.inl rfl) (pe_lst pa_nil))
      (pss_cons (ps_for PassesOwn.never rfl (pi_list (pe_callB cr_sortedPO (by rfl) mso (by decide +kernel) (pa_cons (pe_lc (own := [("pair", 6)]) (g := gName 6) (tt := tTest (tOp (rI0 fun i j => .bl (decide (i ≤ j))) (tOp (rIxT K) (tVar 6) (tC (.int 0))) (tOp (rIxT K) (tVar 6) (tC (.int 1))))) rfl scSetOf.nd (pi_seq (pv 0))
          (blkOk_by (own := [("pair", 6)]) (N := ["pairs", "merged", "first", "last", "low", "high", "pair"]) (sc := defScope sSetOf) (by decide +kernel))
          (fun _ _ _ _ _ => pg_name (i := 6) scSetOf.nd rfl (.inl rfl)) (fun _ _ _ _ _ => pts_one (pt_cmpR op_le (pe_ix ix_tup (pv 6) pe_int (fun _ _ => rfl)) (pe_ix ix_tup (pv 6) pe_int (fun _ _ => rfl)) (nomark _))) (fun _ _ _ _ _ => pv 6)) pa_nil)))
        (pg_tup rfl (pgs_cons (pg_name (i := 2) scSetOf.nd rfl (.inl rfl)) (pgs_cons (pg_name (i := 3) scSetOf.nd rfl (.inl rfl)) pgs_nil)))
        (pss_one (ps_if (PW.pt (pw_and (pt_truth (pv 1) (by intro _; rfl)) (pw_and1 (pt_cmpR op_le (pv 2) (pe_op op_add (pe_ix ix_tup (pe_ix ix_list (pv 1) (pe_un un_neg pe_int) (fun _ _ => rfl)) pe_int (fun _ _ => rfl)) pe_int) (nomark _)))))
          (pss_cons (ps_asg (pe_ix ix_list (pv 1) (pe_un un_neg pe_int) (fun _ _ => rfl)) (pg_tup rfl (pgs_cons (pg_name (i := 4) scSetOf.nd rfl (.inl rfl)) (pgs_cons (pg_name (i := 5) scSetOf.nd rfl (.inl rfl)) pgs_nil))))
          (pss_one (ps_asg (pe_tup (pa_cons (pv 4) (pa_cons (pe_callB (call_max2 rfl) (by rfl) mx (by decide +kernel) (pa_cons (pv 5) (pa_cons (pv 3) pa_nil))) pa_nil))) (pg_sub (pv 1) (pe_un un_neg pe_int) set_list))))
          (pss_one (ps_expr (pe_bm PySem.F.plainAttrs_list PySem.F.slot_list_append PySem.F.type_list_append mt_append (pv 1) (pa_cons (pe_tup (pa_cons (pv 2) (pa_cons (pv 3) pa_nil))) pa_nil)))))))
      (pss_one (ps_ret (pv 1)))), ?_⟩
    -- merged = []
    refine ⟨Nat.zero_le _, fun mg' nm => ?_⟩
    have s1 := same_upd (o := .lst []) nm
    have em1 : upd H mg' (.lst []) mg' = some (.lst []) := upd_same
    revert s1 em1
    generalize upd H mg' (.lst []) = H1
    intro s1 em1
    -- [pair for pair in pairs if ..]
    refine ⟨.ref a, rfl, a, rfl, lc_seq (xs := us) (hq.same s1) (fun D i H' => Same H1 H' ∧ ∃ ys, H' D = some (.lst ys) ∧ Prs H' ys ((ps.take i).filter fun p => decide (p.1 ≤ p.2)) ∧ ys.length ≤ i) (fun D nD => ⟨same_upd nD, [], upd_same, Prs.nil, Nat.le_refl _⟩)
      (fun D i H' nD hP => SqTo.same hP.1) (fun D i x H' nD hx hP => ?_) (fun D H2 nD hP => ?_)⟩
    · obtain ⟨sm, ys, eD, hys, hyl⟩ := hP
      obtain ⟨p, T, ep, rfl, eT⟩ := prs_at hp hx
      have hi : i < us.length := (List.getElem?_eq_some_iff.mp hx).1
      rw [hp.1] at hi
      have eT' := sm _ _ (s1 _ _ eT)
      refine ⟨rfl, _, rfl, T, _, 0, .int p.1, rfl, rfl, .inl (.inl eT'), atI_nat (j := 0) rfl, _, rfl, T, _, 1, .int p.2, rfl, rfl, .inl (.inl eT'), atI_nat (j := 1) rfl, p.1, p.2, rfl, rfl, _, rfl, ?_⟩
      have etake : (ps.take (i + 1)).filter (fun p => decide (p.1 ≤ p.2)) = (ps.take i).filter (fun p => decide (p.1 ≤ p.2)) ++ (if p.1 ≤ p.2 then [p] else []) := by
        rw [List.take_add_one, ep, List.filter_append]
        by_cases c : p.1 ≤ p.2
        · rw [if_pos c]; simp [c]
        · rw [if_neg c]; simp [c]
      refine ite2 (fun c => ?_) (fun c => ?_)
      · have c' := of_decide_eq_true c
        refine ⟨_, rfl, ys, eD, small1000 (by omega), fun b o e => ?_, _, upd_same, ?_, by rw [List.length_append]; show ys.length + 1 ≤ i + 1; omega⟩
        · rw [upd_ne (ne_of_none e nD)]
          exact sm b o e
        · rw [etake, if_pos c']
          exact (hys.snoc eT').upd_lst eD
      · have c' : ¬ p.1 ≤ p.2 := fun z => c (decide_eq_true z)
        refine ⟨sm, ys, eD, ?_, by omega⟩
        rw [etake, if_neg c', List.append_nil]
        exact hys
    · -- sorted
      obtain ⟨sm, ys, eD, hys, hyl⟩ := hP
      rw [hp.1, List.take_length] at hys
      refine ⟨D, ys, pairOf H2, rfl, SqL.of eD, fun x hx => ?_, fun zs g srt stb ng => ?_⟩
      · obtain ⟨i, hi, e⟩ := List.getElem_of_mem hx
        obtain ⟨p, T, _, rfl, eT⟩ := prs_at hys (by rw [List.getElem?_eq_getElem hi, e])
        exact ⟨T, rfl, by rw [pairOf_at eT]; exact eT⟩
      have sg := same_upd (o := .lst zs) ng
      have eg : upd H2 g (.lst zs) g = some (.lst zs) := upd_same
      have s3 : Same H (upd H2 g (.lst zs)) := (s1.trans sm).trans sg
      have em3 := sg _ _ (sm _ _ em1)
      -- the pairs of zs
      have each : ∀ x ∈ zs, ∃ T, x = .ref T ∧ H2 T = some (.tup [.int (pairOf H2 x).1, .int (pairOf H2 x).2]) := fun x hx => by
        obtain ⟨i, hi, e⟩ := List.getElem_of_mem (stb.perm.mem_iff.mp hx)
        obtain ⟨p, T, _, rfl, eT⟩ := prs_at hys (by rw [List.getElem?_eq_getElem hi, e])
        exact ⟨T, rfl, by rw [pairOf_at eT]; exact eT⟩
      have hzs : Prs H2 zs (zs.map (pairOf H2)) := ⟨by rw [List.length_map], fun i p e => by
        rw [List.getElem?_map] at e
        cases h : zs[i]? with
        | none => rw [h] at e; cases e
        | some x =>
          rw [h] at e
          cases e
          obtain ⟨T, rfl, eT⟩ := each x (List.mem_of_getElem? h)
          exact ⟨T, rfl, eT⟩⟩
      have hmap : ys.map (pairOf H2) = ps.filter fun p => decide (p.1 ≤ p.2) := by
        refine List.ext_getElem? fun i => ?_
        rw [List.getElem?_map]
        cases h : ys[i]? with
        | none =>
          have : (ps.filter fun p => decide (p.1 ≤ p.2))[i]? = none := by
            rw [List.getElem?_eq_none_iff] at h ⊢
            rw [← hys.1]
            exact h
          rw [this]
          rfl
        | some x =>
          obtain ⟨p, T, ep, rfl, eT⟩ := prs_at hys h
          rw [ep]
          show some (pairOf H2 (.ref T)) = some p
          rw [pairOf_at eT]
      have hperm : (zs.map (pairOf H2)).Perm (ps.filter fun p => decide (p.1 ≤ p.2)) := hmap ▸ stb.perm.map (pairOf H2)
      have hle : ∀ p ∈ zs.map (pairOf H2), p.1 ≤ p.2 := fun p hp' => by
        have := hperm.mem_iff.mp hp'
        exact of_decide_eq_true (List.mem_filter.mp this).2
      have hord : (zs.map (pairOf H2)).Pairwise fun x y => x.1 ≤ y.1 := by
        rw [List.pairwise_map]
        refine srt.imp fun {x y} h => ?_
        have := SrtO.lexB_no.mp h
        omega
      have hzl : zs.length ≤ 900 := by
        rw [stb.perm.length_eq, hys.1]
        exact Nat.le_trans (List.length_filter_le _ _) hz
      revert hzs hperm hle hord
      generalize zs.map (pairOf H2) = qs
      intro hzs hperm hle hord
      have hzs3 := hzs.same sg
      revert eg s3 em3 hzs3
      generalize upd H2 g (.lst zs) = H3
      intro eg s3 em3 hzs3
      have ngH : H g = none := (s1.trans sm).free ng
      have nmg : mg' ≠ g := ne_of_none (sm _ _ em1) ng
      -- the merging
      refine ⟨g, rfl, ⟨_, SqL.of eg⟩, for_list (xs := zs) (fun i σ H4 => ∃ (ms : List V) (rs : List (Int × Int)) (y2 y3 y4 y5 y6 : Option V), σ = [some (.ref a), some (.ref mg'), y2, y3, y4, y5, y6] ∧ Same H H4 ∧ H4 g = some (.lst zs) ∧ Prs H4 zs qs ∧ H4 mg' = some (.lst ms) ∧ Prs H4 ms rs ∧ Mrg (qs.take i) rs)
        ⟨[], [], _, _, _, _, _, rfl, s3, eg, hzs3, em3, Prs.nil, Mrg.nil⟩ (fun i σ H4 _ hP => ?_) (fun i x σ H4 hx hP => ?_) (fun σ H4 hP => ?_)⟩
      · obtain ⟨_, _, _, _, _, _, _, rfl, _, e, _⟩ := hP
        exact SqL.of e
      · obtain ⟨ms, rs, y2, y3, y4, y5, y6, rfl, sm4, eg4, hz4, em4, hms, m⟩ := hP
        obtain ⟨p, T, ep, rfl, eT⟩ := prs_at hz4 hx
        have hi : i < qs.length := (List.getElem?_eq_some_iff.mp ep).1
        have hp12 : p.1 ≤ p.2 := hle p (List.mem_of_getElem? ep)
        have ord : ∀ q ∈ qs.take i, q.1 ≤ p.1 := fun q hq' => by
          obtain ⟨j, hj, e⟩ := List.getElem_of_mem hq'
          rw [List.length_take] at hj
          rw [List.getElem_take] at e
          obtain ⟨_, e2⟩ := List.getElem?_eq_some_iff.mp ep
          rw [← e, ← e2]
          exact List.pairwise_iff_getElem.mp hord j i (by omega) hi (by omega)
        have etake : qs.take (i + 1) = qs.take i ++ [p] := by rw [List.take_add_one, ep]; rfl
        have hmsl : ms.length ≤ 900 := by
          have := m.len
          rw [List.length_take] at this
          have := hzs.1
          rw [hms.1]
          omega
        refine ⟨T, _, rfl, .inl (.inl eT), rfl, _, _, rfl, _, _, rfl, rfl, ?_⟩
        -- what a new tuple and a change of merged leave
        have grow : ∀ (T2 : Addr) (p2 : Int × Int) (ms2 : List V) (rs2 : List (Int × Int)), H4 T2 = none → Prs (upd H4 T2 (.tup [.int p2.1, .int p2.2])) ms2 rs2 →
            Same H (upd (upd H4 T2 (.tup [.int p2.1, .int p2.2])) mg' (.lst ms2)) ∧ upd (upd H4 T2 (.tup [.int p2.1, .int p2.2])) mg' (.lst ms2) g = some (.lst zs) ∧ Prs (upd (upd H4 T2 (.tup [.int p2.1, .int p2.2])) mg' (.lst ms2)) zs qs ∧ upd (upd H4 T2 (.tup [.int p2.1, .int p2.2])) mg' (.lst ms2) mg' = some (.lst ms2) ∧ Prs (upd (upd H4 T2 (.tup [.int p2.1, .int p2.2])) mg' (.lst ms2)) ms2 rs2 := by
          intro T2 p2 ms2 rs2 n2 h2
          have st := same_upd (o := .tup [.int p2.1, .int p2.2]) n2
          have em5 := st _ _ em4
          refine ⟨fun b o e => ?_, ?_, (hz4.same st).upd_lst em5, upd_same, h2.upd_lst em5⟩
          · rw [upd_ne (ne_of_none e nm)]
            exact st _ _ (sm4 _ _ e)
          · rw [upd_ne nmg.symm]
            exact st _ _ eg4
        -- append
        have app : (∀ r ∈ rs, r.2 + 2 ≤ p.1) → (tDrop (tBM K "list" rAppend (tVar 1) (tCons (tTup (tCons (tVar 2) (tCons (tVar 3) tNil))) tNil))) { nx := fun σ H4 => ∃ (ms : List V) (rs : List (Int × Int)) (y2 y3 y4 y5 y6 : Option V), σ = [some (.ref a), some (.ref mg'), y2, y3, y4, y5, y6] ∧ Same H H4 ∧ H4 g = some (.lst zs) ∧ Prs H4 zs qs ∧ H4 mg' = some (.lst ms) ∧ Prs H4 ms rs ∧ Mrg (qs.take (i + 1)) rs, rt := fun _ _ => False } [some (.ref a), some (.ref mg'), some (.int p.1), some (.int p.2), y4, y5, y6] H4 := by
          intro far
          refine ⟨.ref mg', rfl, .inl ⟨rfl, _, SqL.of em4⟩, _, rfl, _, rfl, (by show 2 ≤ sizeLine; decide), fun T2 n2 => ?_⟩
          have st := same_upd (o := .tup [.int p.1, .int p.2]) n2
          refine ⟨mg', _, _, rfl, rfl, st _ _ em4, small1000 (by omega), ?_⟩
          obtain ⟨g1, g2, g3, g4, g5⟩ := grow T2 p (ms ++ [.ref T2]) (rs ++ [p]) n2 ((hms.same st).snoc upd_same)
          exact ⟨_, _, _, _, _, _, _, rfl, g1, g2, g3, g4, g5, by rw [etake]; exact m.new hp12 ord far⟩
        rcases snoc_cases rs with e0 | ⟨rs', ⟨lo, hi'⟩, e0⟩
        · have e1 : ms = [] := List.eq_nil_of_length_eq_zero (by rw [hms.1, e0]; rfl)
          have em0 : H4 mg' = some (.lst []) := by rw [em4, e1]
          refine ⟨.ref mg', rfl, false, .inl ⟨[], SqL.of em0, rfl⟩, iteF (iteF ?_)⟩
          exact app (by rw [e0]; exact fun _ z => nomatch z)
        · subst e0
          obtain ⟨ms', T0, rfl, eT0, hms'⟩ := hms.last
          refine ⟨.ref mg', rfl, true, .inl ⟨_, SqL.of em4, by simp⟩, iteT ?_⟩
          refine ⟨_, rfl, .ref mg', rfl, 1, rfl, mg', _, -1, .ref T0, rfl, rfl, SqL.of em4, atI_last _ _, T0, _, 1, .int hi', rfl, rfl, .inl (.inl eT0), atI_nat (j := 1) rfl, hi', 1, rfl, rfl, p.1, _, rfl, rfl, _, rfl, ite2 (fun c => ?_) (fun c => ?_)⟩
          · have c' := of_decide_eq_true c
            refine ⟨.ref mg', rfl, 1, rfl, mg', _, -1, .ref T0, rfl, rfl, SqL.of em4, atI_last _ _, T0, _, rfl, .inl (.inl eT0), rfl, _, _, rfl, _, _, rfl, rfl, ?_⟩
            refine ⟨_, rfl, _, rfl, _, rfl, hi', p.2, rfl, (by show 2 ≤ sizeLine; decide), fun T2 n2 => ?_⟩
            have st := same_upd (o := .tup [.int lo, .int (if p.2 > hi' then p.2 else hi')]) n2
            have ei : ixN (ms' ++ [V.ref T0]).length (-1) = some ms'.length := by
              unfold ixN
              rw [if_neg (by decide), List.length_append, if_pos (by show -((ms'.length + 1 : Nat) : Int) ≤ -1; omega)]
              show some ((-1 : Int) + ((ms'.length + 1 : Nat) : Int)).toNat = _
              congr 1
              omega
            refine ⟨.ref mg', rfl, 1, rfl, mg', _, -1, ms'.length, rfl, rfl, st _ _ em4, ei, ?_⟩
            have es : (ms' ++ [V.ref T0]).set ms'.length (.ref T2) = ms' ++ [.ref T2] := by simp
            rw [es]
            obtain ⟨g1, g2, g3, g4, g5⟩ := grow T2 (lo, if p.2 > hi' then p.2 else hi') (ms' ++ [.ref T2]) (rs' ++ [(lo, if p.2 > hi' then p.2 else hi')]) n2 ((hms'.same st).snoc upd_same)
            exact ⟨_, _, _, _, _, _, _, rfl, g1, g2, g3, g4, g5, by rw [etake]; exact m.join hp12 ord c'⟩
          · have c' : ¬ p.1 ≤ hi' + 1 := fun z => c (decide_eq_true z)
            refine app fun r hr' => ?_
            obtain ⟨lo', hR⟩ := m.ris
            obtain ⟨_, h2, _, h4⟩ := Ris.front hR
            have h4' : lo ≤ hi' := h4
            rcases List.mem_append.mp hr' with y | y
            · have : r.2 + 2 ≤ lo := h2 r y
              omega
            · rw [List.mem_singleton.mp y]
              show hi' + 2 ≤ p.1
              omega
      · obtain ⟨ms, rs, y2, y3, y4, y5, y6, rfl, sm4, eg4, hz4, em4, hms, m⟩ := hP
        rw [hzs.1, List.take_length] at m
        refine ⟨_, rfl, q mg' ms rs H4 nm em4 hms ⟨m.ris, m.same.trans fun n => ?_, Nat.le_trans m.len (Nat.le_trans (Nat.le_of_eq hperm.length_eq) (List.length_filter_le _ _))⟩ sm4⟩
        constructor
        · rintro ⟨r, hr', e⟩
          exact ⟨r, (List.mem_filter.mp (hperm.mem_iff.mp hr')).1, e⟩
        · rintro ⟨r, hr', e⟩
          exact ⟨r, hperm.mem_iff.mpr (List.mem_filter.mpr ⟨hr', decide_eq_true (by omega)⟩), e⟩
end

/-! ### what stands where: pairs in a list or a tuple -/
def PrA (K : PySem.W.Frag) (H : Hp) (a : Addr) (ps : List (Int × Int)) : Prop := ∃ us, Sq K H a us ∧ Prs H us ps
def LsA (H : Hp) (a : Addr) (ps : List (Int × Int)) : Prop := ∃ us, H a = some (.lst us) ∧ Prs H us ps
theorem LsA.pr {K : PySem.W.Frag} {H : Hp} {a : Addr} {ps : List (Int × Int)} (h : LsA H a ps) : PrA K H a ps := let ⟨us, e, p⟩ := h; ⟨us, Sq.list e, p⟩
theorem LsA.same {H H' : Hp} {a : Addr} {ps : List (Int × Int)} (h : LsA H a ps) (s : Same H H') : LsA H' a ps := let ⟨us, e, p⟩ := h; ⟨us, s _ _ e, p.same s⟩
theorem PrA.same {K : PySem.W.Frag} {H H' : Hp} {a : Addr} {ps : List (Int × Int)} (h : PrA K H a ps) (s : Same H H') : PrA K H' a ps := let ⟨us, e, p⟩ := h; ⟨us, e.same s, p.same s⟩
theorem LsA.nil {H : Hp} {a : Addr} (e : H a = some (.lst [])) : LsA H a [] := ⟨[], e, Prs.nil⟩
theorem LsA.dp {K : PySem.W.Frag} {H : Hp} {a : Addr} {ps : List (Int × Int)} (h : LsA H a ps) : Dp K H (.ref a) (.list (ps.map pairD)) := let ⟨_, e, p⟩ := h; .lst (SqL.of e) (dp_prs p)
/-- a told set: a new list -/
def TellS (pr : Int → Prop) (m : Nat) (H : Hp) (Q : VK) : Prop := ∀ l rs H', H l = none → LsA H' l rs → Told pr rs → rs.length ≤ m → Same H H' → Q (.ref l) H'
/-! ### both_of -/
abbrev sBoth : Stmt := topS 2
theorem scBoth : FnScope ["one", "other", "shared", "at", "to", "first", "last"] ["one", "other"] (defScope sBoth) := ⟨rfl, rfl, rfl, by decide +kernel, rfl, by decide +kernel, by decide +kernel⟩
def spBoth (K : PySem.W.Frag) : Sp := fun vs H Q _ => ∃ (a b : Addr) (ps qs : List (Int × Int)), vs = [.ref a, .ref b] ∧ PrA K H a ps ∧ PrA K H b qs ∧ (∃ lo, Ris lo ps) ∧ (∃ lo, Ris lo qs) ∧ ps.length + qs.length ≤ 900 ∧ TellS (fun n => InS ps n ∧ InS qs n) (ps.length + qs.length) H Q
/-- between two turns -/
def BothW (H : Hp) (a b sh : Addr) (ps qs : List (Int × Int)) (m : Nat) (σ : L2.St) (H1 : Hp) : Prop := ∃ (i j : Nat) (ms : List V) (rs : List (Int × Int)) (y5 y6 : Option V), σ = [some (.ref a), some (.ref b), some (.ref sh), some (.int i), some (.int j), y5, y6] ∧ m = (ps.length - i) + (qs.length - j) ∧ i ≤ ps.length ∧ j ≤ qs.length ∧ Same H H1 ∧
  H1 sh = some (.lst ms) ∧ Prs H1 ms rs ∧ rs.length ≤ i + j ∧ rs ++ bothF (ps.drop i) (qs.drop j) = bothF ps qs
section
variable {K : PySem.W.Frag} {mg : Str → Option Value} {P : Program} {w : World} {base : Heap}
theorem ok_both {f : Addr} {fd : FuncData} {k : Nat} (F : Fun K "both_of" "both_of" sBoth f fd) (ml : mg "len" = none) (mx : mg "max" = none) (mn : mg "min" = none) : FnOk P w K mg base CX0 (k + 1) f fd ["one", "other"] (spBoth K) := by
  refine F.ok scBoth (fun vs H Q E h => ?_) (fun cdv A outer s H vs Q E hr h => ?_)
  · obtain ⟨a, b, ps, qs, rfl, _⟩ := h
    rfl
  · obtain ⟨a, b, ps, qs, rfl, ⟨us, ha, hps⟩, ⟨ws, hb, hqs⟩, ⟨lo, hr1⟩, ⟨lo', hr2⟩, hz, q⟩ := h
    refine ⟨_, pss_cons (ps_set (i := 2) scBoth.nd rfl (.inl rfl) (pe_lst pa_nil))
      (pss_cons (ps_set (i := 3) scBoth.nd rfl (.inl rfl) pe_int)
      (pss_cons (ps_set (i := 4) scBoth.nd rfl (.inl rfl) pe_int)
      (pss_cons (ps_while PassesOwn.never (PW.pt (pw_and (pt_cmpR op_lt (pv 3) (pe_callB call_len_seq (by rfl) ml PySem.boot_len (pa_cons (pv 0) pa_nil)) (nomark _)) (pw_and1 (pt_cmpR op_lt (pv 4) (pe_callB call_len_seq (by rfl) ml PySem.boot_len (pa_cons (pv 1) pa_nil)) (nomark _)))))
        (pss_cons (ps_set (i := 5) scBoth.nd rfl (.inl rfl) (pe_callB (call_max2 rfl) (by rfl) mx (by decide +kernel) (pa_cons (pe_ix ix_tup (pe_ix ix_seq (pv 0) (pv 3) (fun _ _ => rfl)) pe_int (fun _ _ => rfl)) (pa_cons (pe_ix ix_tup (pe_ix ix_seq (pv 1) (pv 4) (fun _ _ => rfl)) pe_int (fun _ _ => rfl)) pa_nil))))
        (pss_cons (ps_set (i := 6) scBoth.nd rfl (.inl rfl) (pe_callB (call_min2 rfl) (by rfl) mn (by decide +kernel) (pa_cons (pe_ix ix_tup (pe_ix ix_seq (pv 0) (pv 3) (fun _ _ => rfl)) pe_int (fun _ _ => rfl)) (pa_cons (pe_ix ix_tup (pe_ix ix_seq (pv 1) (pv 4) (fun _ _ => rfl)) pe_int (fun _ _ => rfl)) pa_nil))))
        (Evl.pss_cut (ps_if (pt_cmpR op_le (pv 5) (pv 6) (nomark _)) (pss_one (ps_expr (pe_bm PySem.F.plainAttrs_list PySem.F.slot_list_append PySem.F.type_list_append mt_append (pv 2) (pa_cons (pe_tup (pa_cons (pv 5) (pa_cons (pv 6) pa_nil))) pa_nil)))) pss_nil)
        (pss_one (ps_if (pt_cmpR op_lt (pe_ix ix_tup (pe_ix ix_seq (pv 0) (pv 3) (fun _ _ => rfl)) pe_int (fun _ _ => rfl)) (pe_ix ix_tup (pe_ix ix_seq (pv 1) (pv 4) (fun _ _ => rfl)) pe_int (fun _ _ => rfl)) (nomark _))
          (pss_one (ps_aug (i := 3) scBoth.nd rfl (.inl rfl) pe_int ip_add)) (pss_one (ps_aug (i := 4) scBoth.nd rfl (.inl rfl) pe_int ip_add))))))))
      (pss_one (ps_ret (pv 2)))))), ?_⟩
    refine ⟨Nat.zero_le _, fun sh nsh => ?_⟩
    have s0 := same_upd (o := .lst []) nsh
    have hl1 := hps.1
    have hl2 := hqs.1
    refine ⟨BothW H a b sh ps qs, ⟨_, 0, 0, [], [], none, none, rfl, rfl, Nat.zero_le _, Nat.zero_le _, s0, upd_same, Prs.nil, Nat.le_refl _, rfl⟩, fun m σ H1 hW => ?_⟩
    obtain ⟨i, j, ms, rs, y5, y6, rfl, rfl, hi, hj, sm, esh, hms, hrl, hbo⟩ := hW
    have ha1 := ha.same sm
    have hb1 := hb.same sm
    -- the end: nothing is left of one
    have fin : bothF (ps.drop i) (qs.drop j) = [] → Q (.ref sh) H1 := by
      intro e
      rw [e, List.append_nil] at hbo
      subst hbo
      exact q sh (bothF ps qs) H1 nsh ⟨ms, esh, hms⟩ ⟨⟨lo, bothF_ris hr1 hr2 (.inl (Int.le_refl _))⟩, fun n => bothF_in hr1 hr2⟩ (by omega) sm
    refine ⟨_, rfl, _, rfl, a, us, rfl, ha1, (i : Int), (us.length : Int), rfl, rfl, _, rfl, ite2 (fun c1 => ?_) (fun c1 => ?_)⟩
    · have c1' := of_decide_eq_true c1
      refine ⟨_, rfl, _, rfl, b, ws, rfl, hb1, (j : Int), (ws.length : Int), rfl, rfl, _, rfl, ite2 (fun c2 => ?_) (fun c2 => ?_)⟩
      · have c2' := of_decide_eq_true c2
        have hi' : i < ps.length := by omega
        have hj' : j < qs.length := by omega
        obtain ⟨T1, g1, e1⟩ := hps.2 i ps[i] (List.getElem?_eq_getElem hi')
        obtain ⟨T2, g2, e2⟩ := hqs.2 j qs[j] (List.getElem?_eq_getElem hj')
        have ed1 := drop_at (List.getElem?_eq_getElem hi')
        have ed2 := drop_at (List.getElem?_eq_getElem hj')
        revert e1 e2 ed1 ed2
        generalize ps[i] = p
        generalize qs[j] = r
        intro e1 e2 ed1 ed2
        have f1 := sm _ _ e1
        have f2 := sm _ _ e2
        rw [ed1, ed2, bothF] at hbo
        refine ⟨fun σ' H' => ∃ m', m' < (ps.length - i) + (qs.length - j) ∧ BothW H a b sh ps qs m' σ' H', fun σ' H' h => h, ?_⟩
        -- first, last
        refine ⟨_, rfl, _, rfl, a, us, i, .ref T1, rfl, rfl, ha1, atI_nat g1, T1, _, 0, .int p.1, rfl, rfl, .inl (.inl f1), atI_nat (j := 0) rfl, _, rfl, _, rfl, b, ws, j, .ref T2, rfl, rfl, hb1, atI_nat g2, T2, _, 0, .int r.1, rfl, rfl, .inl (.inl f2), atI_nat (j := 0) rfl, p.1, r.1, rfl, ?_⟩
        refine ⟨_, rfl, _, rfl, a, us, i, .ref T1, rfl, rfl, ha1, atI_nat g1, T1, _, 1, .int p.2, rfl, rfl, .inl (.inl f1), atI_nat (j := 1) rfl, _, rfl, _, rfl, b, ws, j, .ref T2, rfl, rfl, hb1, atI_nat g2, T2, _, 1, .int r.2, rfl, rfl, .inl (.inl f2), atI_nat (j := 1) rfl, p.2, r.2, rfl, ?_⟩
        refine ⟨fun σ' H2 => ∃ ms2 rs2, σ' = [some (.ref a), some (.ref b), some (.ref sh), some (.int i), some (.int j), some (.int (mxI p.1 r.1)), some (.int (mnI p.2 r.2))] ∧ Same H H2 ∧ H2 sh = some (.lst ms2) ∧ Prs H2 ms2 rs2 ∧ rs2.length ≤ i + j + 1 ∧
          rs2 ++ (if p.2 < r.2 then bothF (ps.drop (i + 1)) (r :: qs.drop (j + 1)) else bothF (p :: ps.drop (i + 1)) (qs.drop (j + 1))) = bothF ps qs, ?_, fun σ' H2 hM => ?_⟩
        · refine ⟨_, rfl, _, rfl, mxI p.1 r.1, mnI p.2 r.2, rfl, rfl, _, rfl, ite2 (fun c => ?_) (fun c => ?_)⟩
          · have c' := of_decide_eq_true c
            rw [if_pos c', ← List.append_assoc] at hbo
            refine ⟨_, rfl, .inl ⟨rfl, _, SqL.of esh⟩, _, rfl, _, rfl, (by show 2 ≤ sizeLine; decide), fun T nT => ?_⟩
            have sT := same_upd (o := .tup [.int (mxI p.1 r.1), .int (mnI p.2 r.2)]) nT
            refine ⟨sh, _, _, rfl, rfl, sT _ _ esh, small1000 (by have := hms.1; omega), ?_⟩
            refine ⟨_, _, rfl, fun b o e => ?_, upd_same, ((hms.same sT).snoc upd_same).upd_lst (sT _ _ esh), by rw [List.length_append]; exact Nat.add_le_add_right hrl 1, hbo⟩
            rw [upd_ne (ne_of_none e nsh)]
            exact sT _ _ (sm b o e)
          · have c' : ¬ mxI p.1 r.1 ≤ mnI p.2 r.2 := fun z => c (decide_eq_true z)
            rw [if_neg c', List.nil_append] at hbo
            exact ⟨ms, rs, rfl, sm, esh, hms, by omega, hbo⟩
        · obtain ⟨ms2, rs2, rfl, sm2, esh2, hms2, hl3, hb3⟩ := hM
          have ha2 := ha.same sm2
          have hb2 := hb.same sm2
          have f1' := sm2 _ _ e1
          have f2' := sm2 _ _ e2
          refine ⟨_, rfl, _, rfl, a, us, i, .ref T1, rfl, rfl, ha2, atI_nat g1, T1, _, 1, .int p.2, rfl, rfl, .inl (.inl f1'), atI_nat (j := 1) rfl, _, rfl, _, rfl, b, ws, j, .ref T2, rfl, rfl, hb2, atI_nat g2, T2, _, 1, .int r.2, rfl, rfl, .inl (.inl f2'), atI_nat (j := 1) rfl, p.2, r.2, rfl, rfl, _, rfl, ite2 (fun c => ?_) (fun c => ?_)⟩
          · have c' := of_decide_eq_true c
            rw [if_pos c', ← ed2] at hb3
            exact ⟨_, rfl, (i : Int), 1, rfl, rfl, _, by omega, i + 1, j, ms2, rs2, _, _, rfl, rfl, by omega, hj, sm2, esh2, hms2, by omega, hb3⟩
          · have c' : ¬ p.2 < r.2 := fun z => c (decide_eq_true z)
            rw [if_neg c', ← ed1] at hb3
            exact ⟨_, rfl, (j : Int), 1, rfl, rfl, _, by omega, i, j + 1, ms2, rs2, _, _, rfl, rfl, hi, by omega, sm2, esh2, hms2, by omega, hb3⟩
      · have c' : ¬ (j : Int) < ws.length := fun z => c2 (decide_eq_true z)
        refine ⟨_, rfl, fin ?_⟩
        rw [List.drop_eq_nil_of_le (by omega : qs.length ≤ j)]
        exact bothF_nil _
    · have c' : ¬ (i : Int) < us.length := fun z => c1 (decide_eq_true z)
      refine ⟨_, rfl, fin ?_⟩
      rw [List.drop_eq_nil_of_le (by omega : ps.length ≤ i), bothF]
end

/-! ### things as data, all of it tracked -/
inductive Dat (H : Hp) : V → PyData → Prop
  | non : Dat H .non .none
  | bl (b : Bool) : Dat H (.bl b) (.bool b)
  | int (i : Int) : Dat H (.int i) (.int i)
  | str (x : Str) : Dat H (.str x) (.str x)
  | lst {a : Addr} {xs : List V} {ds : List PyData} : H a = some (.lst xs) → xs.length = ds.length → (∀ (i : Nat) x d, xs[i]? = some x → ds[i]? = some d → Dat H x d) → Dat H (.ref a) (.list ds)
  | tup {a : Addr} {xs : List V} {ds : List PyData} : H a = some (.tup xs) → xs.length = ds.length → (∀ (i : Nat) x d, xs[i]? = some x → ds[i]? = some d → Dat H x d) → Dat H (.ref a) (.tuple ds)
theorem Dat.same {H H' : Hp} {v : V} {d : PyData} (h : Dat H v d) (s : Same H H') : Dat H' v d := by
  induction h with
  | non => exact .non
  | bl b => exact .bl b
  | int i => exact .int i
  | str x => exact .str x
  | lst e l _ ih => exact .lst (s _ _ e) l ih
  | tup e l _ ih => exact .tup (s _ _ e) l ih
/-- at most so deep, no longer than these lines -/
def Sm : Nat → PyData → Prop
  | _, .none => True
  | _, .bool _ => True
  | _, .int _ => True
  | _, .str _ => True
  | n + 1, .list ds => ds.length ≤ 900 ∧ ∀ d ∈ ds, Sm n d
  | n + 1, .tuple ds => ds.length ≤ 900 ∧ ∀ d ∈ ds, Sm n d
  | _, _ => False
/-- no list, no tuple -/
def Flat (d : PyData) : Prop := d = .none ∨ (∃ b, d = .bool b) ∨ (∃ i, d = .int i) ∨ ∃ x, d = .str x
theorem Sm.cases {n : Nat} {d : PyData} (h : Sm (n + 1) d) : Flat d ∨ (∃ ds, d = .list ds ∧ ds.length ≤ 900 ∧ ∀ d ∈ ds, Sm n d) ∨ ∃ ds, d = .tuple ds ∧ ds.length ≤ 900 ∧ ∀ d ∈ ds, Sm n d := by
  cases d <;> first | exact .inl (.inl rfl) | exact .inl (.inr (.inl ⟨_, rfl⟩)) | exact .inl (.inr (.inr (.inl ⟨_, rfl⟩))) | exact .inl (.inr (.inr (.inr ⟨_, rfl⟩))) | exact .inr (.inl ⟨_, rfl, h.1, h.2⟩) | exact .inr (.inr ⟨_, rfl, h.1, h.2⟩) | exact h.elim
theorem Sm.flat {d : PyData} (h : Sm 0 d) : Flat d := by
  cases d <;> first | exact .inl rfl | exact .inr (.inl ⟨_, rfl⟩) | exact .inr (.inr (.inl ⟨_, rfl⟩)) | exact .inr (.inr (.inr ⟨_, rfl⟩)) | exact h.elim
theorem walk_zipTs {K : PySem.W.Frag} {a b : Addr} {xs ys : List V} {n : Nat} (h1 : xs.length = n) (h2 : ys.length = n) : Walk (RZ.ItzT K a b) n (fun H => SqT K H a xs ∧ SqT K H b ys) (YPair (fun i => xs[i]?) (fun i => ys[i]?)) where
  goes := fun i _ lt q => ⟨xs, ys, _, _, q.1, q.2, List.getElem?_eq_getElem (h1.symm ▸ lt), List.getElem?_eq_getElem (h2.symm ▸ lt)⟩
  stops := fun _ q => ⟨xs, ys, q.1, q.2, .inl (Nat.le_of_eq h1)⟩
  yields := fun i _ _ _ _ q ⟨T, x, z, e1, e2, e3, e4, e5⟩ => ⟨T, x, z, e1, e2, e3, e4 xs q.1, e5 ys q.2⟩
theorem prs_dat {H : Hp} {us : List V} {ps : List (Int × Int)} (h : Prs H us ps) : ∀ (i : Nat) x d, us[i]? = some x → (ps.map pairD)[i]? = some d → Dat H x d := fun i x d e1 e2 => by
  obtain ⟨p, a, ep, rfl, ea⟩ := prs_at h e1
  rw [List.getElem?_map, ep] at e2
  have ed : pairD p = d := Option.some.inj e2
  rw [← ed]
  refine .tup ea rfl fun j y d f1 f2 => ?_
  have hj : j < 2 := (List.getElem?_eq_some_iff.mp f1).1
  have : j = 0 ∨ j = 1 := by omega
  rcases this with rfl | rfl
  · cases f1; cases f2; exact .int _
  · cases f1; cases f2; exact .int _
theorem sm_prs {ps : List (Int × Int)} (h : ps.length ≤ 900) : Sm 2 (.list (ps.map pairD)) := by
  refine ⟨by rw [List.length_map]; exact h, fun d hd => ?_⟩
  obtain ⟨p, _, rfl⟩ := List.mem_map.mp hd
  exact ⟨by show 2 ≤ 900; decide, fun d hd => by
    rcases List.mem_cons.mp hd with e | e
    · rw [e]; trivial
    · rw [List.mem_singleton.mp e]; trivial⟩
theorem ints_dat {H : Hp} {a : Addr} {ns : List Int} (e : H a = some (.lst (ns.map V.int))) : Dat H (.ref a) (.list (ns.map PyData.int)) := .lst e (by rw [List.length_map, List.length_map]) fun i x d e1 e2 => by
  rw [List.getElem?_map] at e1 e2
  cases h : ns[i]? with
  | none => rw [h] at e1; cases e1
  | some n =>
    rw [h] at e1 e2
    cases e1
    cases e2
    exact .int n
theorem sm_ints {ns : List Int} (h : ns.length ≤ 900) : Sm 1 (.list (ns.map PyData.int)) := by
  refine ⟨by rw [List.length_map]; exact h, fun d hd => ?_⟩
  obtain ⟨p, _, rfl⟩ := List.mem_map.mp hd
  trivial

mutual
/-- no truth among it -/
def NoBl : PyData → Prop
  | .bool _ => False
  | .list ds => NoBls ds
  | .tuple ds => NoBls ds
  | _ => True
def NoBls : List PyData → Prop
  | [] => True
  | d :: ds => NoBl d ∧ NoBls ds
end
theorem noBls_all : ∀ {ds : List PyData}, NoBls ds → ∀ d ∈ ds, NoBl d
  | [], _, _, h => nomatch h
  | e :: r, h, d, hd => by
    rw [NoBls] at h
    rcases List.mem_cons.mp hd with z | z
    · rw [z]; exact h.1
    · exact noBls_all h.2 d z
theorem noBls_of : ∀ {ds : List PyData}, (∀ d ∈ ds, NoBl d) → NoBls ds
  | [], _ => by rw [NoBls]; trivial
  | e :: r, h => by rw [NoBls]; exact ⟨h e (List.mem_cons_self ..), noBls_of fun d hd => h d (List.mem_cons_of_mem _ hd)⟩
abbrev sSame : Stmt := topS 18
theorem scSame : FnScope ["_law_found", "_law_due_here", "_law_one", "_law_other"] ["_law_found", "_law_due_here"] (defScope sSame) := ⟨rfl, rfl, rfl, by decide +kernel, rfl, by decide +kernel, by decide +kernel⟩
/-- alike: the same data twice (no truths among it) -/
def spSame (n : Nat) : Sp := fun vs H Q _ => ∃ (v u : V) (d : PyData), vs = [v, u] ∧ Dat H v d ∧ Dat H u d ∧ Sm n d ∧ NoBl d ∧ ∀ H', Same H H' → Q (.bl true) H'
theorem all_true (n : Nat) : (List.replicate n true).all id = true := by
  rw [List.all_eq_true]
  intro b hb
  exact (List.mem_replicate.mp hb).2
abbrev SameGoal (K : PySem.W.Frag) (mg : Str → Option Value) (P : Program) (w : World) (base : Heap) (f : Addr) (cdv : Value) (A : Around) (outer : List Env) (s : Shared) (H : Hp) (E : XK) (v u : V) (Q : VK) : Prop :=
  ∃ t, PSs (cxOf CX0 P w K mg base ["_law_found", "_law_due_here", "_law_one", "_law_other"] "_law_same" (defScope sSame) f cdv A outer s H E).nox (defBody sSame) t ∧ t { nx := fun _ H' => Q .non H', rt := Q } (start ["_law_found", "_law_due_here", "_law_one", "_law_other"] [v, u]) H
section
variable {K : PySem.W.Frag} {mg : Str → Option Value} {P : Program} {w : World} {base : Heap}
/-- of no list, no tuple -/
theorem same_flat {f : Addr} (mi : mg "isinstance" = none) (ml : mg "list" = none) (mt : mg "tuple" = none) (mb : mg "bool" = none) (ms : mg "str" = none) (mn : mg "int" = none) {cdv : Value} {A : Around} {outer : List Env} {s : Shared} {H : Hp} {v u : V} {d : PyData} {Q : VK} {E : XK}
    (h1 : Dat H v d) (h2 : Dat H u d) (hd : Flat d) (hb : NoBl d) (q : ∀ H', Same H H' → Q (.bl true) H') : SameGoal K mg P w base f cdv A outer s H E v u Q := by
  refine ⟨_, pss_cons (ps_if (pt_cmpR op_isN (pv 1) pe_non (nomark _)) (pss_one (ps_ret (pe_cmpR op_isN (pv 0) pe_non (nomark _)))) pss_nil)
      (pss_cons (ps_if (PW.pt (pw_or (pt_val (pe_callB call_isi (by rfl) mi (by decide +kernel) (pa_cons (pv 1) (pa_cons (pe_bltn (v := .ty "list") (by rfl) ml (by decide +kernel) rfl) pa_nil)))) (pw_or1 (pt_val (pe_callB call_isi (by rfl) mi (by decide +kernel) (pa_cons (pv 1) (pa_cons (pe_bltn (v := .ty "tuple") (by rfl) mt (by decide +kernel) rfl) pa_nil))))))) pss_never pss_nil)
      (pss_cons (ps_if (pt_val (pe_callB call_isi (by rfl) mi (by decide +kernel) (pa_cons (pv 1) (pa_cons (pe_bltn (v := .ty "str") (by rfl) ms (by decide +kernel) rfl) pa_nil)))) (pss_one (ps_ret (pe_and (pe_callB call_isi (by rfl) mi (by decide +kernel) (pa_cons (pv 0) (pa_cons (pe_bltn (v := .ty "str") (by rfl) ms (by decide +kernel) rfl) pa_nil))) (pe_one (pe_cmpR op_eq (pv 0) (pv 1) (nomark _)))))) pss_nil)
      (pss_one (ps_ret (pe_and (pe_callB call_isi (by rfl) mi (by decide +kernel) (pa_cons (pv 0) (pa_cons (pe_bltn (v := .ty "int") (by rfl) mn (by decide +kernel) rfl) pa_nil))) (pe_and (pe_not (pe_callB call_isi (by rfl) mi (by decide +kernel) (pa_cons (pv 0) (pa_cons (pe_bltn (v := .ty "bool") (by rfl) mb (by decide +kernel) rfl) pa_nil)))) (pe_one (pe_cmpR op_eq (pv 0) (pv 1) (nomark _))))))))), ?_⟩
  have deq : ∀ x : V, (decide (x = x)) = true := fun x => decide_eq_true rfl
  rcases hd with rfl | ⟨b, rfl⟩ | ⟨i, rfl⟩ | ⟨x, rfl⟩
  · cases h1
    cases h2
    refine ⟨_, rfl, rfl, _, rfl, iteT ?_⟩
    exact ⟨_, rfl, rfl, q _ (Same.refl H)⟩
  · rw [NoBl] at hb
    exact hb.elim
  · cases h1
    cases h2
    refine ⟨_, rfl, rfl, _, rfl, iteF ?_⟩
    refine ⟨_, rfl, _, _, .type "int", .type "list", false, rfl, .ty _, .base (.int i), kit_ty (by decide +kernel), _, rfl, iteF ?_⟩
    refine ⟨_, rfl, _, _, .type "int", .type "tuple", false, rfl, .ty _, .base (.int i), kit_ty (by decide +kernel), _, rfl, iteF ?_⟩
    refine ⟨_, rfl, _, _, .type "int", .type "str", false, rfl, .ty _, .base (.int i), kit_ty (by decide +kernel), _, rfl, iteF ?_⟩
    refine ⟨_, rfl, _, _, .type "int", .type "int", true, rfl, .ty _, .base (.int i), kit_ty (by decide +kernel), _, rfl, iteT ?_⟩
    refine ⟨_, rfl, _, _, .type "int", .type "bool", false, rfl, .ty _, .base (.int i), kit_ty (by decide +kernel), _, rfl, _, rfl, iteT ?_⟩
    refine ⟨_, rfl, _, rfl, rfl, ?_⟩
    rw [deq]
    exact q _ (Same.refl H)
  · cases h1
    cases h2
    refine ⟨_, rfl, rfl, _, rfl, iteF ?_⟩
    refine ⟨_, rfl, _, _, .type "str", .type "list", false, rfl, .ty _, .base (.str x), kit_ty (by decide +kernel), _, rfl, iteF ?_⟩
    refine ⟨_, rfl, _, _, .type "str", .type "tuple", false, rfl, .ty _, .base (.str x), kit_ty (by decide +kernel), _, rfl, iteF ?_⟩
    refine ⟨_, rfl, _, _, .type "str", .type "str", true, rfl, .ty _, .base (.str x), kit_ty (by decide +kernel), _, rfl, iteT ?_⟩
    refine ⟨_, rfl, _, _, .type "str", .type "str", true, rfl, .ty _, .base (.str x), kit_ty (by decide +kernel), _, rfl, iteT ?_⟩
    refine ⟨_, rfl, _, rfl, rfl, ?_⟩
    rw [deq]
    exact q _ (Same.refl H)
theorem ok_same0 {f : Addr} {fd : FuncData} {k : Nat} (F : Fun K "_law_same" "_law_same" sSame f fd) (mi : mg "isinstance" = none) (ml : mg "list" = none) (mt : mg "tuple" = none) (mb : mg "bool" = none) (ms : mg "str" = none) (mn : mg "int" = none) :
    FnOk P w K mg base CX0 (k + 1) f fd ["_law_found", "_law_due_here"] (spSame 0) := by
  refine F.ok scSame (fun vs H Q E h => ?_) (fun cdv A outer s H vs Q E hr h => ?_)
  · obtain ⟨v, u, d, rfl, _⟩ := h
    rfl
  · obtain ⟨v, u, d, rfl, h1, h2, hd, hb, q⟩ := h
    exact same_flat mi ml mt mb ms mn h1 h2 hd.flat hb q
theorem ok_sameS {f : Addr} {fd : FuncData} {n k : Nat} (F : Fun K "_law_same" "_law_same" sSame f fd) (C : Cal P w K mg base k "_law_same" ["_law_found", "_law_due_here"] (spSame n)) (mi : mg "isinstance" = none) (ml : mg "list" = none) (mt : mg "tuple" = none) (mb : mg "bool" = none) (ms : mg "str" = none) (mn : mg "int" = none) (me : mg "len" = none) (ma : mg "all" = none) (mz : mg "zip" = none) :
    FnOk P w K mg base CX0 (k + 1) f fd ["_law_found", "_law_due_here"] (spSame (n + 1)) := by
  refine F.ok scSame (fun vs H Q E h => ?_) (fun cdv A outer s H vs Q E hr h => ?_)
  · obtain ⟨v, u, d, rfl, _⟩ := h
    rfl
  · obtain ⟨v, u, d, rfl, h1, h2, hd, hb, q⟩ := h
    rcases hd.cases with hf | ⟨ds, rfl, hl, hall⟩ | ⟨ds, rfl, hl, hall⟩
    · exact same_flat mi ml mt mb ms mn h1 h2 hf hb q
    · refine ⟨_, pss_cons (ps_if (pt_cmpR op_isN (pv 1) pe_non (nomark _)) (pss_one (ps_ret (pe_cmpR op_isN (pv 0) pe_non (nomark _)))) pss_nil)
        (pss_cons (ps_if (PW.pt (pw_or (pt_val (pe_callB call_isi (by rfl) mi (by decide +kernel) (pa_cons (pv 1) (pa_cons (pe_bltn (v := .ty "list") (by rfl) ml (by decide +kernel) rfl) pa_nil)))) (pw_or1 (pt_val (pe_callB call_isi (by rfl) mi (by decide +kernel) (pa_cons (pv 1) (pa_cons (pe_bltn (v := .ty "tuple") (by rfl) mt (by decide +kernel) rfl) pa_nil)))))))
          (pss_cons (ps_if (pt_cmpR op_ne (pe_callB call_isi (by rfl) mi (by decide +kernel) (pa_cons (pv 0) (pa_cons (pe_bltn (v := .ty "list") (by rfl) ml (by decide +kernel) rfl) pa_nil))) (pe_callB call_isi (by rfl) mi (by decide +kernel) (pa_cons (pv 1) (pa_cons (pe_bltn (v := .ty "list") (by rfl) ml (by decide +kernel) rfl) pa_nil))) (nomark _)) (pss_one (ps_ret pe_bl)) pss_nil)
          (pss_cons (ps_if (PW.pt (pw_or (pt_cmpR op_ne (pe_callB call_isi (by rfl) mi (by decide +kernel) (pa_cons (pv 0) (pa_cons (pe_bltn (v := .ty "tuple") (by rfl) mt (by decide +kernel) rfl) pa_nil))) (pe_callB call_isi (by rfl) mi (by decide +kernel) (pa_cons (pv 1) (pa_cons (pe_bltn (v := .ty "tuple") (by rfl) mt (by decide +kernel) rfl) pa_nil))) (nomark _)) (pw_or1 (pt_cmpR op_ne (pe_callB call_len_seq (by rfl) me PySem.boot_len (pa_cons (pv 0) pa_nil)) (pe_callB call_len_seq (by rfl) me PySem.boot_len (pa_cons (pv 1) pa_nil)) (nomark _))))) (pss_one (ps_ret pe_bl)) pss_nil)
          (pss_one (ps_ret (pe_callB (cr_all rfl) (by rfl) ma (by decide +kernel) (pa_cons (pe_lc (own := [("_law_one", 2), ("_law_other", 3)]) (g := gTup K 2 (gCons (gName 2) (gCons (gName 3) gNil))) (tt := tYes) (te := tCall (spSame n) [] E0 (tCons (tVar 2) (tCons (tVar 3) tNil))) rfl scSame.nd (RZ.pi_zipA (by rfl) mz (pa_cons (pv 0) (pa_cons (pv 1) pa_nil)))
            (blkOk_by (own := [("_law_one", 2), ("_law_other", 3)]) (N := ["_law_found", "_law_due_here", "_law_one", "_law_other"]) (sc := defScope sSame) (by decide +kernel)) (fun _ _ _ _ _ => pg_tup rfl (pgs_cons (pg_name (i := 2) scSame.nd rfl (.inl rfl)) (pgs_cons (pg_name (i := 3) scSame.nd rfl (.inl rfl)) pgs_nil))) (fun _ _ _ _ _ => pts_nil)
            (fun _ _ _ _ _ => pe_own C hr (by rfl) (pa_cons (pv 2) (pa_cons (pv 3) pa_nil)))) pa_nil)))))) pss_nil) pss_never), ?_⟩
      cases h1 with | lst ea la da => ?_
      cases h2 with | lst eb lb db => ?_
      rename_i a xs b ys
      have deq : ∀ x : V, (decide (x = x)) = true := fun x => decide_eq_true rfl
      have hbl := noBls_all (by simpa only [NoBl] using hb)
      refine ⟨_, rfl, rfl, false, congrArg V.bl (decide_eq_false (fun z => nomatch z)), iteF ?_⟩
      refine ⟨_, rfl, _, _, .type "list", .type "list", true, rfl, .ty _, .base (.lst eb), kit_ty (by decide +kernel), _, rfl, iteT (iteT ?_)⟩
      refine ⟨_, rfl, _, _, .type "list", .type "list", true, rfl, .ty _, .base (.lst ea), kit_ty (by decide +kernel), _, rfl, _, _, .type "list", .type "list", true, rfl, .ty _, .base (.lst eb), kit_ty (by decide +kernel), rfl, false, congrArg V.bl (by rw [deq]; rfl), iteF ?_⟩
      refine ⟨_, rfl, _, _, .type "list", .type "tuple", false, rfl, .ty _, .base (.lst ea), kit_ty (by decide +kernel), _, rfl, _, _, .type "list", .type "tuple", false, rfl, .ty _, .base (.lst eb), kit_ty (by decide +kernel), rfl, false, congrArg V.bl (by rw [deq]; rfl), iteF ?_⟩
      refine ⟨_, rfl, a, xs, rfl, Sq.list ea, _, rfl, b, ys, rfl, Sq.list eb, rfl, false, congrArg V.bl (by rw [decide_eq_true (congrArg (fun n : Nat => V.int (n : Int)) (la.trans lb.symm))]; rfl), iteF ?_⟩
      refine ⟨_, rfl, _, rfl, a, b, xs, ys, rfl, .inl ⟨SqL.of ea, SqL.of eb, fun D nD => lc_it (walk_zip (K := K) (a := a) (b := b) (xs := xs) (ys := ys) (n := ds.length) (by rw [la, lb, Nat.min_self])) (fun j H' => Same H H' ∧ H' D = some (.lst ((List.replicate j true).map V.bl))) ⟨same_upd nD, upd_same⟩
        (fun j H' _ hP => ⟨SqL.of (hP.1 _ _ ea), SqL.of (hP.1 _ _ eb)⟩) (fun j x H' H'' hj hP hy => ?_) (fun H3 hP => ?_)⟩⟩
      · obtain ⟨sm', eD⟩ := hP
        obtain ⟨T, x1, x2, rfl, nT, rfl, f1, f2⟩ := hy
        have st := same_upd (o := .tup [x1, x2]) nT
        have hdj : ds[j]? = some ds[j] := List.getElem?_eq_getElem hj
        have S := sm'.trans st
        refine ⟨T, _, rfl, .inl (.inl upd_same), rfl, _, _, rfl, _, _, rfl, rfl, rfl, ?_⟩
        refine ⟨_, rfl, _, rfl, x1, x2, ds[j], rfl, (da j x1 _ f1 hdj).same S, (db j x2 _ f2 hdj).same S, hall _ (List.getElem_mem hj), hbl _ (List.getElem_mem hj), fun H4 s4 => ?_⟩
        refine ⟨_, s4 _ _ (st _ _ eD), small1000 (by rw [List.length_map, List.length_replicate]; omega), fun c o e => ?_, ?_⟩
        · rw [upd_ne (ne_of_none e nD)]
          exact s4 _ _ (st _ _ (sm' c o e))
        · rw [upd_same, List.replicate_succ', List.map_append]
          rfl
      · obtain ⟨sm', eD⟩ := hP
        refine ⟨D, List.replicate ds.length true, rfl, SqL.of eD, ?_⟩
        rw [all_true]
        exact q _ sm'
    · refine ⟨_, pss_cons (ps_if (pt_cmpR op_isN (pv 1) pe_non (nomark _)) (pss_one (ps_ret (pe_cmpR op_isN (pv 0) pe_non (nomark _)))) pss_nil)
        (pss_cons (ps_if (PW.pt (pw_or (pt_val (pe_callB call_isi (by rfl) mi (by decide +kernel) (pa_cons (pv 1) (pa_cons (pe_bltn (v := .ty "list") (by rfl) ml (by decide +kernel) rfl) pa_nil)))) (pw_or1 (pt_val (pe_callB call_isi (by rfl) mi (by decide +kernel) (pa_cons (pv 1) (pa_cons (pe_bltn (v := .ty "tuple") (by rfl) mt (by decide +kernel) rfl) pa_nil)))))))
          (pss_cons (ps_if (pt_cmpR op_ne (pe_callB call_isi (by rfl) mi (by decide +kernel) (pa_cons (pv 0) (pa_cons (pe_bltn (v := .ty "list") (by rfl) ml (by decide +kernel) rfl) pa_nil))) (pe_callB call_isi (by rfl) mi (by decide +kernel) (pa_cons (pv 1) (pa_cons (pe_bltn (v := .ty "list") (by rfl) ml (by decide +kernel) rfl) pa_nil))) (nomark _)) (pss_one (ps_ret pe_bl)) pss_nil)
          (pss_cons (ps_if (PW.pt (pw_or (pt_cmpR op_ne (pe_callB call_isi (by rfl) mi (by decide +kernel) (pa_cons (pv 0) (pa_cons (pe_bltn (v := .ty "tuple") (by rfl) mt (by decide +kernel) rfl) pa_nil))) (pe_callB call_isi (by rfl) mi (by decide +kernel) (pa_cons (pv 1) (pa_cons (pe_bltn (v := .ty "tuple") (by rfl) mt (by decide +kernel) rfl) pa_nil))) (nomark _)) (pw_or1 (pt_cmpR op_ne (pe_callB call_len_seq (by rfl) me PySem.boot_len (pa_cons (pv 0) pa_nil)) (pe_callB call_len_seq (by rfl) me PySem.boot_len (pa_cons (pv 1) pa_nil)) (nomark _))))) (pss_one (ps_ret pe_bl)) pss_nil)
          (pss_one (ps_ret (pe_callB (cr_all rfl) (by rfl) ma (by decide +kernel) (pa_cons (pe_lc (own := [("_law_one", 2), ("_law_other", 3)]) (g := gTup K 2 (gCons (gName 2) (gCons (gName 3) gNil))) (tt := tYes) (te := tCall (spSame n) [] E0 (tCons (tVar 2) (tCons (tVar 3) tNil))) rfl scSame.nd (RZ.pi_zipA (by rfl) mz (pa_cons (pv 0) (pa_cons (pv 1) pa_nil)))
            (blkOk_by (own := [("_law_one", 2), ("_law_other", 3)]) (N := ["_law_found", "_law_due_here", "_law_one", "_law_other"]) (sc := defScope sSame) (by decide +kernel)) (fun _ _ _ _ _ => pg_tup rfl (pgs_cons (pg_name (i := 2) scSame.nd rfl (.inl rfl)) (pgs_cons (pg_name (i := 3) scSame.nd rfl (.inl rfl)) pgs_nil))) (fun _ _ _ _ _ => pts_nil)
            (fun _ _ _ _ _ => pe_own C hr (by rfl) (pa_cons (pv 2) (pa_cons (pv 3) pa_nil)))) pa_nil)))))) pss_nil) pss_never), ?_⟩
      cases h1 with | tup ea la da => ?_
      cases h2 with | tup eb lb db => ?_
      rename_i a xs b ys
      have deq : ∀ x : V, (decide (x = x)) = true := fun x => decide_eq_true rfl
      have hbl := noBls_all (by simpa only [NoBl] using hb)
      refine ⟨_, rfl, rfl, false, congrArg V.bl (decide_eq_false (fun z => nomatch z)), iteF ?_⟩
      refine ⟨_, rfl, _, _, .type "tuple", .type "list", false, rfl, .ty _, .base (.tup eb), kit_ty (by decide +kernel), _, rfl, iteF ?_⟩
      refine ⟨_, rfl, _, _, .type "tuple", .type "tuple", true, rfl, .ty _, .base (.tup eb), kit_ty (by decide +kernel), _, rfl, iteT ?_⟩
      refine ⟨_, rfl, _, _, .type "tuple", .type "list", false, rfl, .ty _, .base (.tup ea), kit_ty (by decide +kernel), _, rfl, _, _, .type "tuple", .type "list", false, rfl, .ty _, .base (.tup eb), kit_ty (by decide +kernel), rfl, false, congrArg V.bl (by rw [deq]; rfl), iteF ?_⟩
      refine ⟨_, rfl, _, _, .type "tuple", .type "tuple", true, rfl, .ty _, .base (.tup ea), kit_ty (by decide +kernel), _, rfl, _, _, .type "tuple", .type "tuple", true, rfl, .ty _, .base (.tup eb), kit_ty (by decide +kernel), rfl, false, congrArg V.bl (by rw [deq]; rfl), iteF ?_⟩
      refine ⟨_, rfl, a, xs, rfl, Sq.tup ea, _, rfl, b, ys, rfl, Sq.tup eb, rfl, false, congrArg V.bl (by rw [decide_eq_true (congrArg (fun n : Nat => V.int (n : Int)) (la.trans lb.symm))]; rfl), iteF ?_⟩
      refine ⟨_, rfl, _, rfl, a, b, xs, ys, rfl, .inr ⟨.inl (.inl ea), .inl (.inl eb), fun D nD => lc_it (walk_zipTs (K := K) (a := a) (b := b) (xs := xs) (ys := ys) (n := ds.length) la lb) (fun j H' => Same H H' ∧ H' D = some (.lst ((List.replicate j true).map V.bl))) ⟨same_upd nD, upd_same⟩
        (fun j H' _ hP => ⟨.inl (.inl (hP.1 _ _ ea)), .inl (.inl (hP.1 _ _ eb))⟩) (fun j x H' H'' hj hP hy => ?_) (fun H3 hP => ?_)⟩⟩
      · obtain ⟨sm', eD⟩ := hP
        obtain ⟨T, x1, x2, rfl, nT, rfl, f1, f2⟩ := hy
        have st := same_upd (o := .tup [x1, x2]) nT
        have hdj : ds[j]? = some ds[j] := List.getElem?_eq_getElem hj
        have S := sm'.trans st
        refine ⟨T, _, rfl, .inl (.inl upd_same), rfl, _, _, rfl, _, _, rfl, rfl, rfl, ?_⟩
        refine ⟨_, rfl, _, rfl, x1, x2, ds[j], rfl, (da j x1 _ f1 hdj).same S, (db j x2 _ f2 hdj).same S, hall _ (List.getElem_mem hj), hbl _ (List.getElem_mem hj), fun H4 s4 => ?_⟩
        refine ⟨_, s4 _ _ (st _ _ eD), small1000 (by rw [List.length_map, List.length_replicate]; omega), fun c o e => ?_, ?_⟩
        · rw [upd_ne (ne_of_none e nD)]
          exact s4 _ _ (st _ _ (sm' c o e))
        · rw [upd_same, List.replicate_succ', List.map_append]
          rfl
      · obtain ⟨sm', eD⟩ := hP
        refine ⟨D, List.replicate ds.length true, rfl, SqL.of eD, ?_⟩
        rw [all_true]
        exact q _ sm'
end

/-- a walk over what stood before a list was begun -/
theorem for_seqS {K : PySem.W.Frag} {a : Addr} {xs : List V} {g : TG} {tb : TS} {D : Ends} {σ : L2.St} {H0 H1 : Hp} (hq : Sq K H0 a xs) (s1 : Same H0 H1) (Pv : Nat → L2.St → Hp → Prop) (h0 : Pv 0 σ H1)
    (hl : ∀ i σ H', Pv i σ H' → Same H0 H')
    (turn : ∀ i x σ H, xs[i]? = some x → Pv i σ H → g x σ H fun σ2 H2 => tb { D with nx := Pv (i + 1), ct := Pv (i + 1), bk := D.nx } σ2 H2) (fin : ∀ σ H, Pv xs.length σ H → D.nx σ H) :
    ((∃ xs, SqL K H1 a xs) ∧ ForR (Itl K a) g tb D σ H1) ∨ ((∃ xs, SqT K H1 a xs) ∧ ForR (Itt K a) g tb D σ H1) := by
  rcases hq with h | h
  · exact .inl ⟨⟨xs, s1.seq h⟩, for_list (xs := xs) Pv h0 (fun i σ H' _ p => (hl i σ H' p).seq h) turn fin⟩
  · exact .inr ⟨⟨xs, same_t s1 h⟩, for_tup (xs := xs) Pv h0 (fun i σ H' _ p => same_t (hl i σ H' p) h) turn fin⟩

/-! ### enumerate over a list or a tuple -/
theorem meets_enB {v : Value} {o : Obj} {G : Heap → Prop} (B : Begins v o G) : Meets (Builtin.«enumerate.__new__» ⟨[.type "enumerate", v], []⟩) (fun _ R s => G s.heap ∧
    R (.ok (.ret (.ref (s.heap.push o).objs.size))) { s with heap := (s.heap.push o).push { cls := .type "enumerate", data := .fields #[.none, .bool false, .ref s.heap.objs.size, rawInt 0, .none, .none] } }) :=
  .of_wp fun prog w A R s given => by
    obtain ⟨hp, g, d, tk, os⟩ := s
    obtain ⟨hg, given⟩ := given
    have sub0 := sub_enumerate
    have begun : ∀ {A' : Around} {E' Q' : Value → Shared → Prop}, Q' (.ref hp.objs.size) ⟨hp.push o, g, d, tk, os⟩ → wpAny (model prog w) A' (pyIter v) Q' E' ⟨hp, g, d, tk, os⟩ := fun q => B.iter prog w _ _ ⟨hp, g, d, tk, os⟩ _ hg q
    wp_walk using begun
    refine wpAny_stack_any fun stk => wpAny_pure ?_
    split
    · rename_i c0 _ _ _ _ _
      cases (c0 == Value.type "enumerate") <;> (wp_walk using begun; exact ⟨_, rfl, given⟩)
    · wp_walk using begun
      exact ⟨_, rfl, given⟩
theorem call_enB {prog : Program} {w : World} {A : Around} {E Q : Value → Shared → Prop} {s : Shared} {v : Value} {o : Obj} {G : Heap → Prop} (B : Begins v o G) (hg : G s.heap)
    (h : ∀ h', IsEnum h' (s.heap.objs.size + 1) s.heap.objs.size 0 .none → h'.get? s.heap.objs.size = some o → (∀ b o, s.heap.get? b = some o → h'.get? b = some o) → Q (.ref (s.heap.objs.size + 1)) { s with heap := h' }) : wpAny (model prog w) A (call (.type "enumerate") [v]) Q E s := by
  refine callType_new F.called_enumerate (by decide) (F.typeCall_enumerate_1 _) (F.newCall_enumerate_1 _) (fun obj => F.args_object_init_2 obj _) F.entry_enumerate_new (meets_enB B) ⟨hg, ?_⟩
  have z1 : (s.heap.push o).objs.size = s.heap.objs.size + 1 := Heap.size_push ..
  show _ ∧ _
  rw [z1]
  have made : IsEnum ((s.heap.push o).push { cls := .type "enumerate", data := .fields #[.none, .bool false, .ref s.heap.objs.size, rawInt 0, .none, .none] }) (s.heap.objs.size + 1) s.heap.objs.size 0 .none := by
    have e0 := Heap.get?_push_size (s.heap.push o) (o := { cls := .type "enumerate", data := .fields #[.none, .bool false, .ref s.heap.objs.size, rawInt 0, .none, .none] }) rfl
    rw [z1] at e0
    exact e0
  exact ⟨⟨_, made, rfl⟩, h _ made (Heap.get?_push_of_some _ (Heap.get?_push_size _ B.free)) fun b o x => Heap.get?_push_of_some _ (Heap.get?_push_of_some _ x)⟩
/-- the tuple at a as it stands, each item in a new pair -/
def IteT (K : PySem.W.Frag) (a : Addr) : It := ⟨fun i H => ∃ (xs : List V) (x : V), SqT K H a xs ∧ xs[i]? = some x, fun i H v H' => ∃ T x, v = .ref T ∧ H T = none ∧ H' = upd H T (.tup [.int (i : Nat), x]) ∧ ∀ xs, SqT K H a xs → xs[i]? = some x, fun i H => ∃ xs : List V, SqT K H a xs ∧ xs.length = i⟩
theorem turn_enT {P : Program} {w : World} {K : PySem.W.Frag} {elts : List Expr} {kk : Nat} {tpos : Pos} (a e it : Addr) (nei : e ≠ it) (nea : e ≠ a) (nai : a ≠ it) :
    Turn P w K (.Tuple elts kk tpos) (IteT K a) [e, it] e (fun i h => (∃ old, IsEnum h e it ((i : Nat) : Int) old) ∧ h.IsTupleIter it a i) where
  mem := List.mem_cons_self ..
  obj := fun i h ⟨⟨old, he⟩, ⟨o, ho, hc, hd⟩⟩ b hb => by
    rcases List.mem_cons.mp hb with z | z
    · subst z
      exact ⟨_, he, fun v q => nomatch q⟩
    · rw [List.mem_singleton.mp z]
      exact ⟨o, ho, fun v q => by rw [hd] at q; cases q⟩
  keep := fun i h h' ⟨⟨old, he⟩, hi⟩ k => ⟨⟨old, k e (List.mem_cons_self ..) _ he⟩, hi.at fun o q => k it (List.mem_cons_of_mem _ (List.mem_singleton.mpr rfl)) o q⟩
  item := by
    intro X hP hw hK hc i pins s σ H E I hf st hg
    subst hP hw hK
    obtain ⟨⟨old, he⟩, hit⟩ := st
    obtain ⟨xs, x, hq, hx⟩ := hg
    obtain ⟨its, rv, isT, _⟩ := I.tuple hq
    obtain ⟨u, hu, ru⟩ := rv.get hx
    have lte : e < s.heap.objs.size := Heap.lt_size he
    have lti : it < s.heap.objs.size := let ⟨_, q, _⟩ := hit; Heap.lt_size q
    have hui : its.toArray[i]? = some u := by simpa using hu
    have lt : i < its.toArray.size := (Array.getElem?_eq_some_iff.mp hui).1
    have D := Draws.tuple (prog := X.prog) (w := X.w) (A := X.A.in1) (I.ok.hd hc) it a nai its.toArray
    refine wpAny_pyNext_enum_itemD D he ⟨hit, isT⟩ lt nei (by intro z; rcases List.mem_cons.mp z with z | z; exact nei z; exact nea (List.mem_singleton.mp z)) fun x' h' tk hx' ho st' hT hsz hk => ?_
    have ex : u = x' := Option.some.inj (hui.symm.trans hx')
    subst ex
    refine ⟨_, rfl, wpAny_letOwnedTupleGo_enum (s := { s with heap := h', toks := tk + 1 }) ho fun h'' he' sb => ?_⟩
    have hT2 := (sb.2 _ (Nat.ne_of_gt lte)).trans hT
    have new : ObjOk X.prog X.w (upd H s.heap.objs.size (.tup [.int (i : Nat), x])) h'' s.heap.objs.size (.tup [.int (i : Nat), x]) := ⟨by show 2 ≤ sizeLine; decide, [.int i tk, u], .cons ⟨_, rfl⟩ (.cons ru .nil), ⟨_, hT2, rfl, _, rfl⟩⟩
    have I1 : Inv X pins σ (upd H s.heap.objs.size (.tup [.int (i : Nat), x])) { s with heap := h'', toks := tk + 1 } :=
      I.turnedNew (t' := tk + 1) (ch := [e, it]) (fun b ob hb q => (sb.2 b (fun z => hb (z ▸ List.mem_cons_self ..))).trans (hk b ob (fun z => hb (z ▸ List.mem_cons_self ..)) (fun z => hb (z ▸ List.mem_cons_of_mem _ (List.mem_singleton.mpr rfl))) q)) hf (Nat.le_refl _) new
    refine ⟨.ref s.heap.objs.size, _, I1, rfl, ⟨_, x, rfl, I.hok.fresh (Nat.le_refl _), rfl, fun ys hy => by rw [I.tuple_inj hy hq]; exact hx⟩, ⟨⟨u, ?_⟩, st'.1.at fun o q => (sb.2 it nei.symm).trans q⟩, fun b hb => ?_⟩
    · have e1 : ((i + 1 : Nat) : Int) = (i : Int) + 1 := by omega
      exact e1 ▸ he'
    · have ltb : b < s.heap.objs.size := by
        rcases List.mem_cons.mp hb with z | z
        · exact z ▸ lte
        · exact (List.mem_singleton.mp z) ▸ lti
      rw [upd_ne (Nat.ne_of_lt ltb)]
      exact (hf b hb).1
  done := by
    intro X hP hw hK hc i pins s σ H E I hf st hg
    subst hP hw hK
    obtain ⟨⟨old, he⟩, hit⟩ := st
    obtain ⟨xs, hq, hx⟩ := hg
    obtain ⟨its, rv, isT, _⟩ := I.tuple hq
    obtain ⟨f0, f1, _, f3, f4, f5⟩ := hf it (List.mem_cons_of_mem _ (List.mem_singleton.mpr rfl))
    have hl : its.toArray.size = i := by
      have := rv.length
      simp
      omega
    have D := Draws.tuple (prog := X.prog) (w := X.w) (A := X.A.in1) (I.ok.hd hc) it a nai its.toArray
    exact wpAny_pyNext_enum_endD D he (hl.symm ▸ ⟨hit, isT⟩) fun h' eb => ⟨rfl, I.turned (t' := s.toks) (fun b o hb q => eb b o hb q) f0 f1 f3 f4 f5⟩
  self := fun A i s Q E ⟨⟨_, he⟩, _⟩ h => wpAny_pyIter_enum he h
def iEnS (K : PySem.W.Frag) (ta : TA) : TI := fun σ H R => ta σ H fun vs H1 => ∃ a, vs = [.ref a] ∧ (((∃ xs, SqL K H1 a xs) ∧ R (Ite K a) H1) ∨ ((∃ xs, SqT K H1 a xs) ∧ R (IteT K a) H1))
theorem pi_enS {X : Cx} {e : Expr} {ta : TA} {p pos tpos : Pos} {elts : List Expr} {kk : Nat} (hg : Gl X "enumerate") (hm : X.mg "enumerate" = none) (ha : PA X [e] ta) (hs : starEach [e] X.env = [(false, eval e X.env)] := by rfl) : PI X (.Tuple elts kk tpos) (.Call (.Name "enumerate" p) [e] [] pos) (iEnS X.K ta) := by
  constructor
  intro pins s σ H R I h
  refine Call_ (ld_blt I hg hm boot_enumerate (PyProof.Rows.callWith_type1 (thn (ha.run pos pins s σ H _ I h) fun us s1 had => ?_) hs rfl))
  obtain ⟨_, H1, J, rel, a, rfl, had⟩ := had
  cases rel with | cons r rr => ?_
  cases rr
  cases r
  have apart : ∀ b ∈ [s1.heap.objs.size + 1, s1.heap.objs.size], FpOk X pins H1 b := fun b hb => by
    have le : s1.heap.objs.size ≤ b := by
      rcases List.mem_cons.mp hb with z | z
      · rw [z]; exact Nat.le_succ _
      · rw [List.mem_singleton.mp z]; exact Nat.le_refl _
    exact J.fpOk le (J.hok.fresh le)
  rcases had with ⟨⟨xs, hq⟩, q⟩ | ⟨⟨xs, hq⟩, q⟩
  · obtain ⟨its, _, isL, _⟩ := J.list hq
    exact call_enumerate_list isL.isList fun h' he hit _ hk => wpAny_pyIter_enum he ⟨_, _, _, _, H1, rfl, J.kept (t' := s1.toks) hk, turn_enum a _ _, ⟨⟨.none, he⟩, hit, Nat.succ_ne_self _⟩, apart, q⟩
  · obtain ⟨its, _, isT, _⟩ := J.tuple hq
    have lta : a < s1.heap.objs.size := let ⟨_, ho, _⟩ := id isT; Heap.lt_size ho
    exact call_enB (begins_tuple a its.toArray) isT fun h' he hit hk => wpAny_pyIter_enum he ⟨_, _, _, _, H1, rfl, J.kept (t' := s1.toks) hk, turn_enT a _ _ (Nat.succ_ne_self _) (Nat.ne_of_gt (Nat.lt_succ_of_lt lta)) (Nat.ne_of_lt lta), ⟨⟨.none, he⟩, ⟨_, hit, rfl, rfl⟩⟩, apart, q⟩
theorem walk_enT {K : PySem.W.Frag} {a : Addr} {xs : List V} : Walk (IteT K a) xs.length (fun H => SqT K H a xs) (YPair (fun i => some (.int (i : Nat))) (fun i => xs[i]?)) where
  goes := fun i _ hi q => ⟨xs, xs[i], q, List.getElem?_eq_getElem hi⟩
  stops := fun _ q => ⟨xs, q, rfl⟩
  yields := fun i H v H' _ q ⟨T, x, h1, h2, h3, h4⟩ => ⟨T, .int (i : Nat), x, h1, h2, h3, rfl, h4 xs q⟩
theorem for_enS {K : PySem.W.Frag} {a : Addr} {xs : List V} {g : TG} {tb : TS} {D : Ends} {σ : L2.St} {H0 H1 : Hp} (hq : Sq K H0 a xs) (s1 : Same H0 H1) (Pv : Nat → L2.St → Hp → Prop) (h0 : Pv 0 σ H1) (hl : ∀ i σ H', Pv i σ H' → Same H0 H')
    (turn : ∀ i x T σ H, xs[i]? = some x → Pv i σ H → H T = none → g (.ref T) σ (upd H T (.tup [.int (i : Nat), x])) fun σ2 H2 => tb { D with nx := Pv (i + 1), ct := Pv (i + 1), bk := D.nx } σ2 H2) (fin : ∀ σ H, Pv xs.length σ H → D.nx σ H) :
    ((∃ xs, SqL K H1 a xs) ∧ ForR (Ite K a) g tb D σ H1) ∨ ((∃ xs, SqT K H1 a xs) ∧ ForR (IteT K a) g tb D σ H1) := by
  have tn : ∀ i v σ H H', i < xs.length → Pv i σ H → YPair (fun i => some (.int (i : Nat))) (fun i => xs[i]?) i H v H' → g v σ H' fun σ2 H2 => tb { D with nx := Pv (i + 1), ct := Pv (i + 1), bk := D.nx } σ2 H2 := by
    rintro i v σ H H' _ hp ⟨T, x, y, rfl, nT, rfl, e1, e2⟩
    cases e1
    exact turn i y T σ H e2 hp nT
  rcases hq with h | h
  · exact .inl ⟨⟨xs, s1.seq h⟩, for_it walk_enum Pv h0 (fun i σ H' _ p => (hl i σ H' p).seq h) tn fin⟩
  · exact .inr ⟨⟨xs, same_t s1 h⟩, for_it walk_enT Pv h0 (fun i σ H' _ p => same_t (hl i σ H' p) h) tn fin⟩

/-! ### tins at a place: the mathematics -/
/-- a last minute, or none -/
def lastV : Option Int → V
  | none => .non
  | some l => .int l
def meetB (first : Int) (last : Option Int) (p : Int × Int) : Bool := decide (first ≤ p.2) && (match last with
  | none => true
  | some l => decide (p.1 ≤ l))
/-- the first not above the last -/
def Over (first : Int) (last : Option Int) : Prop := ∃ l, last = some l ∧ l < first
/-- the tins whose window meets the minutes -/
def TinP (pl : Str) (T : Int) (ps : List Pas) (first : Int) (last : Option Int) (n : Int) : Prop := (0 ≤ n ∧ n < T) ∧ ¬ Over first last ∧ ∃ p, winF pl n ps = some p ∧ meetB first last p = true
def cntF (T st lo b m : Int) : Int := if m ≤ st then 0 else if lo = 0 then T else if ((m - st) * b + lo - 1) / lo < T then ((m - st) * b + lo - 1) / lo else T
theorem cnt_lt {T st lo b m n : Int} (hl : 0 ≤ lo) (hb : 1 ≤ b) (h0 : 0 ≤ n) (h1 : n < T) : n < cntF T st lo b m ↔ st + n * lo / b < m := by
  unfold cntF
  have q1 : 0 ≤ n * lo / b := Int.ediv_nonneg (Int.mul_nonneg h0 hl) (by omega)
  by_cases c : m ≤ st
  · rw [if_pos c]
    omega
  · rw [if_neg c]
    by_cases e : lo = 0
    · rw [if_pos e, e, Int.mul_zero, Int.zero_ediv]
      omega
    · rw [if_neg e]
      have key1 : n < ((m - st) * b + lo - 1) / lo ↔ n * lo < (m - st) * b := by
        rw [Int.lt_iff_add_one_le, Int.le_ediv_iff_mul_le (by omega), Int.add_mul]
        omega
      have key2 : n * lo / b < m - st ↔ n * lo < (m - st) * b := Int.ediv_lt_iff_lt_mul (by omega)
      split <;> omega
theorem cnt_bd {T st lo b m : Int} (hT : 0 ≤ T) (hl : 0 ≤ lo) (hb : 1 ≤ b) : 0 ≤ cntF T st lo b m ∧ cntF T st lo b m ≤ T := by
  unfold cntF
  by_cases c : m ≤ st
  · rw [if_pos c]
    omega
  · rw [if_neg c]
    by_cases e : lo = 0
    · rw [if_pos e]
      omega
    · rw [if_neg e]
      have q1 : 0 ≤ ((m - st) * b + lo - 1) / lo := Int.ediv_nonneg (by have := Int.mul_nonneg (show 0 ≤ m - st by omega) (show 0 ≤ b by omega); omega) hl
      split <;> omega
def endF (T st lo b : Int) : Option Int → Int
  | none => T
  | some l => cntF T st lo b (l + 1)
theorem line_in {T st lo b first n : Int} {last : Option Int} (hT : 0 ≤ T) (hl : 0 ≤ lo) (hb : 1 ≤ b) : InS [(cntF T st lo b first, endF T st lo b last - 1)] n ↔ (0 ≤ n ∧ n < T) ∧ meetB first last (st + n * lo / b, st + n * lo / b) = true := by
  rw [inS_cons]
  have b1 := cnt_bd (T := T) (st := st) (lo := lo) (b := b) (m := first) hT hl hb
  have b2 : endF T st lo b last ≤ T := by
    cases last with
    | none => exact Int.le_refl _
    | some l => exact (cnt_bd hT hl hb).2
  show ((cntF T st lo b first ≤ n ∧ n ≤ endF T st lo b last - 1) ∨ InS [] n) ↔ _
  have main : 0 ≤ n → n < T → ((cntF T st lo b first ≤ n ∧ n ≤ endF T st lo b last - 1) ↔ meetB first last (st + n * lo / b, st + n * lo / b) = true) := fun h0 h1 => by
    have k1 := cnt_lt (T := T) (st := st) (m := first) hl hb h0 h1
    unfold meetB
    rw [Bool.and_eq_true, decide_eq_true_eq]
    cases last with
    | none =>
      show (cntF T st lo b first ≤ n ∧ n ≤ T - 1) ↔ (first ≤ st + n * lo / b ∧ true = true)
      constructor
      · exact fun z => ⟨by omega, rfl⟩
      · exact fun z => ⟨by omega, by omega⟩
    | some l =>
      have k2 := cnt_lt (T := T) (st := st) (m := l + 1) hl hb h0 h1
      show (cntF T st lo b first ≤ n ∧ n ≤ cntF T st lo b (l + 1) - 1) ↔ (first ≤ st + n * lo / b ∧ decide (st + n * lo / b ≤ l) = true)
      rw [decide_eq_true_eq]
      omega
  constructor
  · rintro (z | z)
    · have h0 : 0 ≤ n := by omega
      have h1 : n < T := by omega
      exact ⟨⟨h0, h1⟩, (main h0 h1).mp z⟩
    · exact absurd z inS_nil
  · rintro ⟨⟨h0, h1⟩, z⟩
    exact .inl ((main h0 h1).mpr z)
def rackP (T per r : Int) : Int × Int := (r * per, (if T < r * per + per then T else r * per + per) - 1)
def metF (T per first : Int) (last : Option Int) : Nat → List (Int × Int) → List (Int × Int)
  | _, [] => []
  | j, s :: r => (if meetB first last s = true then [rackP T per (j : Int)] else []) ++ metF T per first last (j + 1) r
theorem metF_snoc {T per first : Int} {last : Option Int} {s : Int × Int} : ∀ (ss : List (Int × Int)) (j : Nat), metF T per first last j (ss ++ [s]) = metF T per first last j ss ++ (if meetB first last s = true then [rackP T per ((j + ss.length : Nat) : Int)] else [])
  | [], j => by
    rw [List.nil_append, metF, metF, metF, List.append_nil, List.nil_append]
    rfl
  | r :: ss, j => by
    rw [List.cons_append, metF, metF, metF_snoc ss (j + 1), List.append_assoc, List.length_cons, show j + 1 + ss.length = j + (ss.length + 1) by omega]
theorem metF_len {T per first : Int} {last : Option Int} : ∀ (ss : List (Int × Int)) (j : Nat), (metF T per first last j ss).length ≤ ss.length
  | [], _ => Nat.le_refl _
  | s :: r, j => by
    rw [metF, List.length_append, List.length_cons]
    have := metF_len (T := T) (per := per) (first := first) (last := last) r (j + 1)
    split
    · show 1 + _ ≤ _
      omega
    · show 0 + _ ≤ _
      omega
theorem metF_in {T per first n : Int} {last : Option Int} : ∀ (ss : List (Int × Int)) (j : Nat), InS (metF T per first last j ss) n ↔ ∃ (k : Nat) (s : Int × Int), ss[k]? = some s ∧ meetB first last s = true ∧ (rackP T per ((j + k : Nat) : Int)).1 ≤ n ∧ n ≤ (rackP T per ((j + k : Nat) : Int)).2
  | [], j => ⟨fun z => absurd z inS_nil, fun ⟨_, _, e, _⟩ => nomatch e⟩
  | s :: r, j => by
    rw [metF, inS_append, metF_in r (j + 1)]
    constructor
    · rintro (z | ⟨k, s', e, z⟩)
      · split at z
        · rename_i c
          rcases inS_cons.mp z with y | y
          · exact ⟨0, s, rfl, c, y⟩
          · exact absurd y inS_nil
        · exact absurd z inS_nil
      · exact ⟨k + 1, s', e, by rw [show j + (k + 1) = j + 1 + k by omega]; exact z⟩
    · rintro ⟨k, s', e, c, z⟩
      cases k with
      | zero =>
        cases e
        rw [if_pos c]
        exact .inl (inS_cons.mpr (.inl z))
      | succ k => exact .inr ⟨k, s', e, c, by rw [show j + 1 + k = j + (k + 1) by omega]; exact z⟩
theorem rack_in {T per r n : Int} (hp : 1 ≤ per) : ((rackP T per r).1 ≤ n ∧ n ≤ (rackP T per r).2) ↔ n < T ∧ n / per = r := by
  unfold rackP
  show (r * per ≤ n ∧ n ≤ (if T < r * per + per then T else r * per + per) - 1) ↔ _
  have e1 : r ≤ n / per ↔ r * per ≤ n := Int.le_ediv_iff_mul_le (by omega)
  have e2 : n / per < r + 1 ↔ n < (r + 1) * per := Int.ediv_lt_iff_lt_mul (by omega)
  rw [Int.add_mul] at e2
  constructor
  · rintro ⟨z1, z2⟩
    split at z2 <;> omega
  · rintro ⟨z1, z2⟩
    refine ⟨by omega, ?_⟩
    split <;> omega
theorem stays_in {T per first n : Int} {last : Option Int} {ss : List (Int × Int)} (hp : 1 ≤ per) : InS (metF T per first last 0 ss) n ↔ (0 ≤ n ∧ n < T) ∧ ∃ p, ss[(n / per).toNat]? = some p ∧ meetB first last p = true := by
  rw [metF_in]
  constructor
  · rintro ⟨k, s, e, c, z⟩
    obtain ⟨z1, z2⟩ := (rack_in hp).mp z
    have z0 : 0 ≤ n := by
      rcases Int.lt_or_le n 0 with y | y
      · have := Int.ediv_neg_of_neg_of_pos y (show 0 < per by omega)
        omega
      · exact y
    refine ⟨⟨z0, z1⟩, s, ?_, c⟩
    rw [z2, Nat.zero_add, Int.toNat_natCast]
    exact e
  · rintro ⟨⟨z0, z1⟩, p, e, c⟩
    refine ⟨(n / per).toNat, p, e, c, (rack_in hp).mpr ⟨z1, ?_⟩⟩
    rw [Nat.zero_add, Int.toNat_of_nonneg (Int.ediv_nonneg z0 (by omega))]
/-- a new list of a set of just these numbers -/
def RetS (H : Hp) (pr : Int → Prop) (m : Nat) (Q : V → Hp → Prop) : Prop := ∀ (l : Addr) (ws : List V) (rs : List (Int × Int)) H', H l = none → H' l = some (.lst ws) → Prs H' ws rs → Told pr rs → rs.length ≤ m → Same H H' → Q (.ref l) H'
/-! ### the program's -/
abbrev sCnt : Stmt := topS 6
theorem scCnt : FnScope ["tins", "line", "minute", "start", "long", "by", "span"] ["tins", "line", "minute"] (defScope sCnt) := ⟨rfl, rfl, rfl, by decide +kernel, rfl, by decide +kernel, by decide +kernel⟩
def spCnt : Sp := fun vs H Q _ => ∃ (g : Addr) (p : Str) (T st lo b m : Int), vs = [.int T, .ref g, .int m] ∧ H g = some (.tup [.str "line", .str p, .int st, .int lo, .int b]) ∧ (Pas.line p st lo b).Good T ∧ m.natAbs ≤ 2 ^ 250 ∧ Q (.int (cntF T st lo b m)) H
abbrev sOnLine : Stmt := topS 7
theorem scOnLine : FnScope ["tins", "line", "first", "last", "begin", "end"] ["tins", "line", "first", "last"] (defScope sOnLine) := ⟨rfl, rfl, rfl, by decide +kernel, rfl, by decide +kernel, by decide +kernel⟩
/-- minutes that aren't too far -/
def Near (first : Int) (last : Option Int) : Prop := first.natAbs < 2 ^ 250 ∧ ∀ l, last = some l → l.natAbs < 2 ^ 250
def spOnLine : Sp := fun vs H Q _ => ∃ (g : Addr) (p : Str) (T st lo b first : Int) (last : Option Int), vs = [.int T, .ref g, .int first, lastV last] ∧ H g = some (.tup [.str "line", .str p, .int st, .int lo, .int b]) ∧ (Pas.line p st lo b).Good T ∧ 0 ≤ T ∧ Near first last ∧
  RetS H (fun n => (0 ≤ n ∧ n < T) ∧ meetB first last (st + n * lo / b, st + n * lo / b) = true) 1 Q
abbrev sRack : Stmt := topS 8
theorem scRack : FnScope ["tins", "per", "rack"] ["tins", "per", "rack"] (defScope sRack) := ⟨rfl, rfl, rfl, by decide +kernel, rfl, by decide +kernel, by decide +kernel⟩
def spRack : Sp := fun vs H Q _ => ∃ (T per r : Int), vs = [.int T, .int per, .int r] ∧ per.natAbs < 2 ^ 400 ∧ r.natAbs < 2 ^ 400 ∧ ∀ p, H p = none → Q (.ref p) (upd H p (.tup [.int (rackP T per r).1, .int (rackP T per r).2]))
abbrev sStays : Stmt := topS 9
theorem scStays : FnScope ["tins", "racked", "first", "last", "per", "stays", "met", "rack", "begin", "end"] ["tins", "racked", "first", "last"] (defScope sStays) := ⟨rfl, rfl, rfl, by decide +kernel, rfl, by decide +kernel, by decide +kernel⟩
def spStays : Sp := fun vs H Q _ => ∃ (g s : Addr) (us : List V) (p : Str) (T per first : Int) (ss : List (Int × Int)) (last : Option Int), vs = [.int T, .ref g, .int first, lastV last] ∧ H g = some (.tup [.str "racks", .str p, .int per, .ref s]) ∧ SqH H s us ∧ Prs H us ss ∧ (Pas.racks p per ss).Good T ∧ T ≤ 10 ^ 30 ∧
  RetS H (fun n => (0 ≤ n ∧ n < T) ∧ ∃ w, ss[(n / per).toNat]? = some w ∧ meetB first last w = true) 12 Q
abbrev sTinsAt : Stmt := topS 10
theorem scTinsAt : FnScope ["batch", "place", "first", "last", "passed"] ["batch", "place", "first", "last"] (defScope sTinsAt) := ⟨rfl, rfl, rfl, by decide +kernel, rfl, by decide +kernel, by decide +kernel⟩
def spTinsAt : Sp := fun vs H Q _ => ∃ (b : Addr) (mark pl : Str) (T first : Int) (ps : List Pas) (last : Option Int), vs = [.ref b, .str pl, .int first, lastV last] ∧ BatA H b mark T ps ∧ 1 ≤ T ∧ T ≤ 10 ^ 30 ∧ (∀ p ∈ ps, p.Good T) ∧ Near first last ∧
  RetS H (TinP pl T ps first last) 12 Q
section
variable {K : PySem.W.Frag} {mg : Str → Option Value} {P : Program} {w : World} {base : Heap}
theorem ok_cnt {f : Addr} {fd : FuncData} {k : Nat} (F : Fun K "count_ahead" "count_ahead" sCnt f fd) (mn : mg "min" = none) : FnOk P w K mg base CX0 (k + 1) f fd ["tins", "line", "minute"] spCnt := by
  refine F.ok scCnt (fun vs H Q E h => ?_) (fun cdv A outer s H vs Q E hr h => ?_)
  · obtain ⟨g, p, T, st, lo, b, m, rfl, _⟩ := h
    rfl
  · obtain ⟨g, p, T, st, lo, b, m, rfl, eg, ⟨_, st0, st1, lo0, lo1, b0, b1⟩, hm, q⟩ := h
    refine ⟨_, pss_cons (ps_par3 rfl scCnt.nd (i := 3) (j := 4) (l := 5) rfl rfl rfl (by decide) (by decide) (by decide) rfl rfl rfl (pa_cons (pe_ix ix_tup (pv 1) pe_int (fun _ _ => rfl)) (pa_cons (pe_ix ix_tup (pv 1) pe_int (fun _ _ => rfl)) (pa_cons (pe_ix ix_tup (pv 1) pe_int (fun _ _ => rfl)) pa_nil))) (by rfl))
      (pss_cons (ps_if (pt_cmpR op_le (pv 2) (pv 3) (nomark _)) (pss_one (ps_ret pe_int)) pss_nil)
      (pss_cons (ps_if (pt_cmpR op_eq (pv 4) pe_int (nomark _)) (pss_one (ps_ret (pv 0))) pss_nil)
      (pss_cons (ps_set (i := 6) scCnt.nd rfl (.inl rfl) (pe_op op_mulW (pe_op op_sub (pv 2) (pv 3)) (pv 5)))
      (pss_one (ps_ret (pe_callB (call_min2 rfl) (by rfl) mn (by decide +kernel) (pa_cons (pv 0) (pa_cons (pe_op op_fdivW (pe_op op_sub (pe_op op_add (pv 6) (pv 4)) pe_int) (pv 4)) pa_nil)))))))), ?_⟩
    refine ⟨_, rfl, g, _, 2, .int st, rfl, rfl, .inl (.inl eg), atI_nat (j := 2) rfl, _, rfl, g, _, 3, .int lo, rfl, rfl, .inl (.inl eg), atI_nat (j := 3) rfl, _, rfl, g, _, 4, .int b, rfl, rfl, .inl (.inl eg), atI_nat (j := 4) rfl, _, _, _, rfl, ?_⟩
    unfold cntF at q
    refine ⟨_, rfl, _, rfl, m, st, rfl, rfl, _, rfl, ite2 (fun c => ?_) (fun c => ?_)⟩
    · rw [if_pos (of_decide_eq_true c)] at q
      exact q
    · rw [if_neg (fun z => c (decide_eq_true z))] at q
      refine ⟨_, rfl, rfl, _, rfl, ite2 (fun c2 => ?_) (fun c2 => ?_)⟩
      · rw [if_pos (V.int.inj (of_decide_eq_true c2))] at q
        exact ⟨_, rfl, q⟩
      · have hlo : ¬ lo = 0 := fun z => c2 (decide_eq_true (congrArg V.int z))
        rw [if_neg hlo] at q
        have z1 := log_lt (i := m - st) (by omega)
        have z2 := log_lt (i := b) (by omega)
        refine ⟨_, rfl, _, rfl, m, st, rfl, rfl, _, rfl, m - st, b, rfl, rfl, (by show (m - st).natAbs.log2 + b.natAbs.log2 < 1000000; omega), ?_⟩
        refine ⟨_, rfl, _, rfl, _, rfl, _, lo, rfl, rfl, _, 1, rfl, rfl, _, rfl, _, lo, rfl, rfl, ⟨by omega, Nat.lt_trans (log_lt (by omega)) (by decide)⟩, T, _, rfl, ?_⟩
        exact q
theorem ok_onLine {f : Addr} {fd : FuncData} (F : Fun K "tins_on_line" "tins_on_line" sOnLine f fd) (CC : Cal P w K mg base 1 "count_ahead" ["tins", "line", "minute"] spCnt) (CS : Cal P w K mg base 1 "set_of" ["pairs"] (spSetOf K)) : FnOk P w K mg base CX0 2 f fd ["tins", "line", "first", "last"] spOnLine := by
  refine F.ok scOnLine (fun vs H Q E h => ?_) (fun cdv A outer s H vs Q E hr h => ?_)
  · obtain ⟨g, p, T, st, lo, b, first, last, rfl, _⟩ := h
    rfl
  · obtain ⟨g, p, T, st, lo, b, first, last, rfl, eg, hg, hT, ⟨n1, n2⟩, q⟩ := h
    refine ⟨_, pss_cons (ps_set (i := 4) scOnLine.nd rfl (.inl rfl) (pe_own CC hr (by rfl) (pa_cons (pv 0) (pa_cons (pv 1) (pa_cons (pv 2) pa_nil)))))
      (pss_cons (ps_set (i := 5) scOnLine.nd rfl (.inl rfl) (pe_mid (pe_ifExp (pt_cmpR op_isN (pv 3) pe_non (nomark _)) (pv 0) (pe_own CC hr (by rfl) (pa_cons (pv 0) (pa_cons (pv 1) (pa_cons (pe_op op_add (pv 3) pe_int) pa_nil)))))))
      (pss_one (ps_ret (pe_own CS hr (by rfl) (pa_cons (pe_lst (pa_cons (pe_tup (pa_cons (pv 4) (pa_cons (pe_op op_sub (pv 5) pe_int) pa_nil))) pa_nil)) pa_nil))))), ?_⟩
    refine ⟨_, rfl, _, rfl, _, rfl, g, p, T, st, lo, b, first, rfl, eg, hg, by omega, ?_⟩
    refine ⟨fun v H' => v = .int (endF T st lo b last) ∧ H' = H, ?_, ?_⟩
    · cases last with
      | none => exact ⟨_, rfl, rfl, true, congrArg V.bl (decide_eq_true rfl), iteT ⟨_, rfl, rfl, rfl⟩⟩
      | some l =>
        have := n2 l rfl
        refine ⟨_, rfl, rfl, false, congrArg V.bl (decide_eq_false (fun z => nomatch z)), iteF ?_⟩
        exact ⟨_, rfl, _, rfl, _, rfl, l, 1, rfl, rfl, g, p, T, st, lo, b, l + 1, rfl, eg, hg, by omega, rfl, rfl⟩
    · rintro v H' ⟨rfl, rfl⟩
      refine ⟨_, rfl, _, rfl, _, _, rfl, rfl, (by show 2 ≤ sizeLine; decide), fun t nt => ⟨(by show 1 ≤ sizeLine; decide), fun l nl => ?_⟩⟩
      have s1 := same_upd (o := .tup [.int (cntF T st lo b first), .int (endF T st lo b last - 1)]) nt
      have s2 := same_upd (o := .lst [.ref t]) nl
      have et := s2 _ _ (upd_same (H := H') (a := t) (o := .tup [.int (cntF T st lo b first), .int (endF T st lo b last - 1)]))
      refine ⟨l, [.ref t], [(cntF T st lo b first, endF T st lo b last - 1)], rfl, Sq.list upd_same, GP.Prs.snoc GP.Prs.nil et, (by show 1 ≤ 900; decide), fun l2 ws rs H2 n2 e2 hws hset s3 => ?_⟩
      exact q l2 ws rs H2 ((s1.trans s2).free n2) e2 hws (hset.told.cong fun n => line_in hT hg.2.2.2.1 hg.2.2.2.2.2.1) hset.len ((s1.trans s2).trans s3)
theorem ok_rack {f : Addr} {fd : FuncData} {k : Nat} (F : Fun K "tins_of_rack" "tins_of_rack" sRack f fd) (mn : mg "min" = none) : FnOk P w K mg base CX0 (k + 1) f fd ["tins", "per", "rack"] spRack := by
  refine F.ok scRack (fun vs H Q E h => ?_) (fun cdv A outer s H vs Q E hr h => ?_)
  · obtain ⟨T, per, r, rfl, _⟩ := h
    rfl
  · obtain ⟨T, per, r, rfl, hp, hr', q⟩ := h
    refine ⟨_, pss_one (ps_ret (pe_tup (pa_cons (pe_op op_mulW (pv 2) (pv 1)) (pa_cons (pe_op op_sub (pe_callB (call_min2 rfl) (by rfl) mn (by decide +kernel) (pa_cons (pe_op op_add (pe_op op_mulW (pv 2) (pv 1)) (pv 1)) (pa_cons (pv 0) pa_nil))) pe_int) pa_nil)))), ?_⟩
    have z1 := log_lt hp
    have z2 := log_lt hr'
    have hc : CMulW r per := by show r.natAbs.log2 + per.natAbs.log2 < 1000000; omega
    refine ⟨_, rfl, _, rfl, r, per, rfl, rfl, hc, _, rfl, _, rfl, r, per, rfl, rfl, hc, _, rfl, _, per, rfl, rfl, _, rfl, _, T, rfl, _, 1, rfl, rfl, (by show 2 ≤ sizeLine; decide), fun p np => ?_⟩
    exact q p np
theorem ok_stays {f : Addr} {fd : FuncData} (F : Fun K "tins_in_stays" "tins_in_stays" sStays f fd) (CR : Cal P w K mg base 1 "tins_of_rack" ["tins", "per", "rack"] spRack) (CS : Cal P w K mg base 1 "set_of" ["pairs"] (spSetOf K)) (me : mg "enumerate" = none) : FnOk P w K mg base CX0 2 f fd ["tins", "racked", "first", "last"] spStays := by
  refine F.ok scStays (fun vs H Q E h => ?_) (fun cdv A outer s H vs Q E hr h => ?_)
  · obtain ⟨g, s, us, p, T, per, first, ss, last, rfl, _⟩ := h
    rfl
  · obtain ⟨g, s, us, p, T, per, first, ss, last, rfl, eg, hs, hus, ⟨_, p0, p1, p2, p3, _⟩, hT, q⟩ := h
    refine ⟨_, pss_cons (ps_par rfl scStays.nd (i := 4) (j := 5) rfl rfl (by decide) rfl rfl (pa_cons (pe_ix ix_tup (pv 1) pe_int (fun _ _ => rfl)) (pa_cons (pe_ix ix_tup (pv 1) pe_int (fun _ _ => rfl)) pa_nil)) (by rfl))
      (pss_cons (ps_set (i := 6) scStays.nd rfl (.inl rfl) (pe_lst pa_nil))
      (pss_cons (ps_for PassesOwn.never rfl (pi_enS (by rfl) me (pa_cons (pv 5) pa_nil)) (pg_tup rfl (pgs_cons (pg_name (i := 7) scStays.nd rfl (.inl rfl)) (pgs_cons (pg_tup rfl (pgs_cons (pg_name (i := 8) scStays.nd rfl (.inl rfl)) (pgs_cons (pg_name (i := 9) scStays.nd rfl (.inl rfl)) pgs_nil))) pgs_nil)))
        (pss_one (ps_if (PW.pt (pw_and (pt_cmpR op_le (pv 2) (pv 9) (nomark _)) (pw_and1 (PW.pt (pw_or (pt_cmpR op_isN (pv 3) pe_non (nomark _)) (pw_or1 (pt_cmpR op_le (pv 8) (pv 3) (nomark _))))))))
          (pss_one (ps_expr (pe_bm PySem.F.plainAttrs_list PySem.F.slot_list_append PySem.F.type_list_append mt_append (pv 6) (pa_cons (pe_own CR hr (by rfl) (pa_cons (pv 0) (pa_cons (pv 4) (pa_cons (pv 7) pa_nil)))) pa_nil)))) pss_nil)))
      (pss_one (ps_ret (pe_own CS hr (by rfl) (pa_cons (pv 6) pa_nil)))))), ?_⟩
    refine ⟨_, rfl, g, _, 2, .int per, rfl, rfl, .inl (.inl eg), atI_nat (j := 2) rfl, _, rfl, g, _, 3, .ref s, rfl, rfl, .inl (.inl eg), atI_nat (j := 3) rfl, _, _, rfl, ?_⟩
    refine ⟨Nat.zero_le _, fun mt nmt => ?_⟩
    have s1 := same_upd (o := .lst []) nmt
    refine ⟨_, rfl, s, rfl, for_enS (xs := us) hs.sq s1 (fun i σ Hx => ∃ (ms : List V) (y7 y8 y9 : Option V), σ = [some (.int T), some (.ref g), some (.int first), some (lastV last), some (.int per), some (.ref s), some (.ref mt), y7, y8, y9] ∧ Same H Hx ∧ Hx mt = some (.lst ms) ∧ Prs Hx ms (metF T per first last 0 (ss.take i)))
      ⟨[], _, _, _, rfl, s1, upd_same, Prs.nil⟩ (fun i σ Hx hP => ?_) (fun i x t σ Hx hx hP nt => ?_) (fun σ Hx hP => ?_)⟩
    · obtain ⟨_, _, _, _, rfl, sx, _⟩ := hP
      exact sx
    · obtain ⟨ms, y7, y8, y9, rfl, sx, emt, hms⟩ := hP
      obtain ⟨w, tw, ew, rfl, etw⟩ := prs_at (hus.same sx) hx
      have hi : i < ss.length := (List.getElem?_eq_some_iff.mp ew).1
      have st := same_upd (o := .tup [.int (i : Nat), .ref tw]) nt
      have S := sx.trans st
      have emt' := st _ _ emt
      have hms' := hms.same st
      have etake : ss.take (i + 1) = ss.take i ++ [w] := by rw [List.take_add_one, ew]; rfl
      have etl : (ss.take i).length = i := by rw [List.length_take]; omega
      refine ⟨t, _, rfl, .inl (.inl upd_same), rfl, _, _, rfl, _, _, rfl, tw, _, rfl, .inl (.inl (st _ _ etw)), rfl, _, _, rfl, _, _, rfl, rfl, rfl, ?_⟩
      -- what follows where it meets, where it doesn't
      have yes : meetB first last w = true → (tDrop (tBM K "list" rAppend (tVar 6) (tCons (tCall spRack [] E0 (tCons (tVar 0) (tCons (tVar 4) (tCons (tVar 7) tNil)))) tNil))) { nx := fun σ Hx => ∃ (ms : List V) (y7 y8 y9 : Option V), σ = [some (.int T), some (.ref g), some (.int first), some (lastV last), some (.int per), some (.ref s), some (.ref mt), y7, y8, y9] ∧ Same H Hx ∧ Hx mt = some (.lst ms) ∧ Prs Hx ms (metF T per first last 0 (ss.take (i + 1))), rt := fun _ _ => False } [some (.int T), some (.ref g), some (.int first), some (lastV last), some (.int per), some (.ref s), some (.ref mt), some (.int (i : Nat)), some (.int w.1), some (.int w.2)] (upd Hx t (.tup [.int (i : Nat), .ref tw])) := by
        intro c
        refine ⟨_, rfl, .inl ⟨rfl, _, SqL.of emt'⟩, _, rfl, _, rfl, _, rfl, T, per, (i : Int), rfl, by omega, by omega, fun a na => ?_⟩
        have sa := same_upd (o := .tup [.int (rackP T per (i : Int)).1, .int (rackP T per (i : Int)).2]) na
        have ema := sa _ _ emt'
        refine ⟨mt, _, _, rfl, rfl, ema, small1000 (by rw [hms.1]; have := metF_len (T := T) (per := per) (first := first) (last := last) (ss.take i) 0; omega), ?_⟩
        refine ⟨ms ++ [.ref a], _, _, _, rfl, fun b o e => ?_, upd_same, ?_⟩
        · rw [upd_ne (ne_of_none e nmt)]
          exact sa _ _ (S b o e)
        · rw [etake, metF_snoc, if_pos c, Nat.zero_add, etl]
          exact ((hms'.same sa).snoc upd_same).upd_lst ema
      have no : ¬ meetB first last w = true → ∃ (ms : List V) (z7 z8 z9 : Option V), [some (V.int T), some (.ref g), some (.int first), some (lastV last), some (.int per), some (.ref s), some (.ref mt), some (.int (i : Nat)), some (.int w.1), some (.int w.2)] = [some (.int T), some (.ref g), some (.int first), some (lastV last), some (.int per), some (.ref s), some (.ref mt), z7, z8, z9] ∧ Same H (upd Hx t (.tup [.int (i : Nat), .ref tw])) ∧ upd Hx t (.tup [.int (i : Nat), .ref tw]) mt = some (.lst ms) ∧ Prs (upd Hx t (.tup [.int (i : Nat), .ref tw])) ms (metF T per first last 0 (ss.take (i + 1))) := fun c => ⟨ms, _, _, _, rfl, S, emt', by rw [etake, metF_snoc, if_neg c, List.append_nil]; exact hms'⟩
      refine ⟨_, rfl, _, rfl, first, w.2, rfl, rfl, _, rfl, ite2 (fun c => ?_) (fun c => ?_)⟩
      · have c' := of_decide_eq_true c
        cases last with
        | none => exact ⟨_, rfl, rfl, true, congrArg V.bl (decide_eq_true rfl), iteT (iteT (yes (by unfold meetB; rw [decide_eq_true c']; rfl)))⟩
        | some l =>
          refine ⟨_, rfl, rfl, false, congrArg V.bl (decide_eq_false (fun z => nomatch z)), iteF ?_⟩
          refine ⟨_, rfl, _, rfl, w.1, l, rfl, rfl, _, rfl, ite2 (fun c2 => ?_) (fun c2 => ?_)⟩
          · exact yes (by unfold meetB; rw [decide_eq_true c', Bool.true_and]; exact c2)
          · exact no (by unfold meetB; rw [decide_eq_true c', Bool.true_and]; exact c2)
      · exact iteF (no fun z => c (Bool.and_eq_true_iff.mp z).1)
    · obtain ⟨ms, y7, y8, y9, rfl, sx, emt, hms⟩ := hP
      rw [hus.1, List.take_length] at hms
      have hl := metF_len (T := T) (per := per) (first := first) (last := last) ss 0
      refine ⟨_, rfl, mt, ms, _, rfl, Sq.list emt, hms, by omega, fun l ws rs H' nl el hws hset s' => ?_⟩
      exact q l ws rs H' (sx.free nl) el hws (hset.told.cong fun n => stays_in p0) (by have := hset.len; omega) (sx.trans s')
theorem ok_tinsAt {f : Addr} {fd : FuncData} (F : Fun K "tins_at" "tins_at" sTinsAt f fd) (CA : Cal P w K mg base 1 "pass_at" ["batch", "place"] spPassAt) (CL : Cal P w K mg base 2 "tins_on_line" ["tins", "line", "first", "last"] spOnLine) (CT : Cal P w K mg base 2 "tins_in_stays" ["tins", "racked", "first", "last"] spStays) (mL : ∃ u, mg "LINE" = some u ∧ RelV (.str "line") u) : FnOk P w K mg base CX0 3 f fd ["batch", "place", "first", "last"] spTinsAt := by
  refine F.ok scTinsAt (fun vs H Q E h => ?_) (fun cdv A outer s H vs Q E hr h => ?_)
  · obtain ⟨b, mark, pl, T, first, ps, last, rfl, _⟩ := h
    rfl
  · obtain ⟨b, mark, pl, T, first, ps, last, rfl, hB, hT1, hT2, hgd, hn, q⟩ := h
    obtain ⟨uL, hL1, hL2⟩ := mL
    have hr1 := hr.mono (show 1 ≤ 2 by decide)
    refine ⟨_, pss_cons (ps_set (i := 4) scTinsAt.nd rfl (.inl rfl) (pe_own CA hr1 (by rfl) (pa_cons (pv 0) (pa_cons (pv 1) pa_nil))))
      (Evl.pss_cut (ps_if (PW.pt (pw_or (pt_cmpR op_isN (pv 4) pe_non (nomark _)) (pw_or1 (PW.pt (pw_and (pt_cmpR op_notN (pv 3) pe_non (nomark _)) (pw_and1 (pt_cmpR op_gt (pv 2) (pv 3) (nomark _)))))))) (pss_one (ps_ret (pe_lst pa_nil))) pss_nil)
      (pss_cons (ps_if (pt_cmpR op_eq (pe_ix ix_tup (pv 4) pe_int (fun _ _ => rfl)) (pe_glob (v := .str "line") (by rfl) hL1 hL2) (nomark _))
        (pss_one (ps_ret (pe_own CL hr (by rfl) (pa_cons (pe_ix ix_tup (pv 0) pe_int (fun _ _ => rfl)) (pa_cons (pv 4) (pa_cons (pv 2) (pa_cons (pv 3) pa_nil))))))) pss_nil)
      (pss_one (ps_ret (pe_own CT hr (by rfl) (pa_cons (pe_ix ix_tup (pv 0) pe_int (fun _ _ => rfl)) (pa_cons (pv 4) (pa_cons (pv 2) (pa_cons (pv 3) pa_nil))))))))), ?_⟩
    refine ⟨_, rfl, _, rfl, b, mark, pl, T, ps, rfl, hB, fun v hv => ?_⟩
    have none_ : (∀ n, ¬ TinP pl T ps first last n) → (tRet (tLst tNil)) { nx := fun _ H' => Q .non H', rt := Q } [some (.ref b), some (.str pl), some (.int first), some (lastV last), some v] H := fun no => by
      refine ⟨Nat.zero_le _, fun l nl => ?_⟩
      exact q l [] [] _ nl upd_same Prs.nil ⟨⟨0, True.intro⟩, fun n => ⟨fun z => absurd z inS_nil, fun z => absurd z (no n)⟩⟩ (Nat.zero_le _) (same_upd nl)
    refine ⟨fun σ' H' => σ' = [some (.ref b), some (.str pl), some (.int first), some (lastV last), some v] ∧ H' = H ∧ ¬ Over first last ∧ ∃ p, passF pl ps = some p, ?_, ?_⟩
    · cases hp : passF pl ps with
      | none =>
        rw [hp] at hv
        cases (show v = .non from hv)
        refine ⟨_, rfl, rfl, true, congrArg V.bl (decide_eq_true rfl), iteT (iteT ?_)⟩
        refine none_ fun n => ?_
        rintro ⟨_, _, p, e, _⟩
        rw [win_eq, hp] at e
        cases e
      | some p =>
        rw [hp] at hv
        obtain ⟨gv, rfl⟩ := PasV.ref (show PasV H v p from hv)
        refine ⟨_, rfl, rfl, false, congrArg V.bl (decide_eq_false (fun z => nomatch z)), iteF ?_⟩
        cases last with
        | none => exact ⟨_, rfl, rfl, false, congrArg V.bl (congrArg (!·) (decide_eq_true (show lastV none = V.non from rfl))), iteF (iteF ⟨rfl, rfl, (fun ⟨_, z, _⟩ => nomatch z), p, rfl⟩)⟩
        | some l =>
          refine ⟨_, rfl, rfl, true, congrArg V.bl (congrArg (!·) (decide_eq_false (show ¬ lastV (some l) = V.non from fun z => nomatch z))), iteT ?_⟩
          refine ⟨_, rfl, _, rfl, first, l, rfl, rfl, _, rfl, ite2 (fun c => ?_) (fun c => ?_)⟩
          · have c' := of_decide_eq_true c
            exact none_ fun n z => z.2.1 ⟨l, rfl, c'⟩
          · exact ⟨rfl, rfl, (fun ⟨l', z, z2⟩ => c (decide_eq_true (by cases z; exact z2))), p, rfl⟩
    · rintro σ' H' ⟨rfl, rfl, ov, p, hp⟩
      rw [hp] at hv
      have hg := hgd p (passF_mem hp)
      have hv' : PasV H' v p := hv
      obtain ⟨ab, vb, eb, hab, hvb⟩ := hB
      cases p with
      | line p st lo by_ =>
        obtain ⟨g, rfl, eg⟩ := hv'
        refine ⟨_, rfl, g, _, 0, .str "line", rfl, rfl, .inl (.inl eg), atI_nat (j := 0) rfl, rfl, true, congrArg V.bl (decide_eq_true rfl), iteT ?_⟩
        refine ⟨_, rfl, b, _, 1, .int T, rfl, rfl, .inl (.inl eb), atI_nat (j := 1) rfl, _, rfl, _, rfl, _, rfl, g, p, T, st, lo, by_, first, last, rfl, eg, hg, by omega, hn, fun l ws rs H2 nl el hws ht hl s2 => ?_⟩
        refine q l ws rs H2 nl el hws (ht.cong fun n => ?_) (by omega) s2
        unfold TinP
        rw [win_eq, hp]
        exact ⟨fun z => ⟨z.1, ov, _, rfl, z.2⟩, fun ⟨z1, _, w, e, z2⟩ => ⟨z1, by cases e; exact z2⟩⟩
      | racks p per ss =>
        obtain ⟨g, sy, us, rfl, eg, hsy, hus⟩ := hv'
        have hline : decide (V.str "racks" = V.str "line") = false := by decide +kernel
        refine ⟨_, rfl, g, _, 0, .str "racks", rfl, rfl, .inl (.inl eg), atI_nat (j := 0) rfl, rfl, false, congrArg V.bl hline, iteF ?_⟩
        refine ⟨_, rfl, b, _, 1, .int T, rfl, rfl, .inl (.inl eb), atI_nat (j := 1) rfl, _, rfl, _, rfl, _, rfl, g, sy, us, p, T, per, first, ss, last, rfl, eg, hsy, hus, hg, hT2, fun l ws rs H2 nl el hws ht hl s2 => ?_⟩
        refine q l ws rs H2 nl el hws (ht.cong fun n => ?_) hl s2
        unfold TinP
        rw [win_eq, hp]
        exact ⟨fun ⟨z1, w, e, z2⟩ => ⟨z1, ov, w, e, z2⟩, fun ⟨z1, _, w, e, z2⟩ => ⟨z1, w, e, z2⟩⟩
end

/-! ### the law's own sets -/
theorem pairs_sorted {H : Hp} {ys zs : List V} {ps : List (Int × Int)} (hys : Prs H ys ps) (perm : zs.Perm ys) (srt : SrtO.Srtd (fun x y => SrtO.lexB (pairOf H x) (pairOf H y)) zs) : ∃ qs, Prs H zs qs ∧ qs.Perm ps ∧ qs.Pairwise fun x y => x.1 ≤ y.1 := by
  have hmap : ys.map (pairOf H) = ps := by
    refine List.ext_getElem? fun i => ?_
    rw [List.getElem?_map]
    cases h : ys[i]? with
    | none =>
      have : ps[i]? = none := by
        rw [List.getElem?_eq_none_iff] at h ⊢
        rw [← hys.1]
        exact h
      rw [this]
      rfl
    | some x =>
      obtain ⟨p, T, ep, rfl, eT⟩ := prs_at hys h
      rw [ep]
      exact congrArg some (pairOf_at eT)
  refine ⟨zs.map (pairOf H), ⟨by rw [List.length_map], fun i p e => ?_⟩, hmap ▸ perm.map _, ?_⟩
  · rw [List.getElem?_map] at e
    cases h : zs[i]? with
    | none => rw [h] at e; cases e
    | some x =>
      rw [h] at e
      cases e
      obtain ⟨j, hj, ej⟩ := List.getElem_of_mem (perm.mem_iff.mp (List.mem_of_getElem? h))
      obtain ⟨p, T, _, rfl, eT⟩ := prs_at hys (by rw [List.getElem?_eq_getElem hj, ej])
      exact ⟨T, rfl, by rw [pairOf_at eT]; exact eT⟩
  · rw [List.pairwise_map]
    refine srt.imp fun {x y} h => ?_
    have := SrtO.lexB_no.mp h
    omega
abbrev sLSet : Stmt := topS 25
theorem scLSet : FnScope ["_law_pairs", "_law_made", "_law_first", "_law_last"] ["_law_pairs"] (defScope sLSet) := ⟨rfl, rfl, rfl, by decide +kernel, rfl, by decide +kernel, by decide +kernel⟩
def spLSet : Sp := fun vs H Q _ => ∃ (a : Addr) (us : List V) (ps : List (Int × Int)), vs = [.ref a] ∧ H a = some (.lst us) ∧ Prs H us ps ∧ ps.length ≤ 900 ∧ RetS H (InS ps) ps.length Q
def upP (ps : List (Int × Int)) : List (Int × Int) := ps.filter fun p => decide (p.1 ≤ p.2)
def LSetW (H : Hp) (a mg' g : Addr) (zs : List V) (qs : List (Int × Int)) (i : Nat) (σ : L2.St) (H4 : Hp) : Prop := ∃ (ms : List V) (rs : List (Int × Int)) (y2 y3 : Option V), σ = [some (.ref a), some (.ref mg'), y2, y3] ∧ Same H H4 ∧ H4 g = some (.lst zs) ∧ Prs H4 zs qs ∧ H4 mg' = some (.lst ms) ∧ Prs H4 ms rs ∧ Mrg (upP (qs.take i)) rs
section
variable {K : PySem.W.Frag} {mg : Str → Option Value} {P : Program} {w : World} {base : Heap}
theorem ok_lset {f : Addr} {fd : FuncData} {k : Nat} (F : Fun K "_law_set_of" "_law_set_of" sLSet f fd) (mso : mg "sorted" = none) (mx : mg "max" = none) : FnOk P w K mg base CX0 (k + 1) f fd ["_law_pairs"] spLSet := by
  refine F.ok scLSet (fun vs H Q E h => ?_) (fun cdv A outer s H vs Q E hr h => ?_)
  · obtain ⟨a, us, ps, rfl, _⟩ := h
    rfl
  · obtain ⟨a, us, ps, rfl, ea, hp, hz, q⟩ := h
    refine ⟨_, pss_cons (ps_set (i := 1) scLSet.nd rfl (.inl rfl) (pe_lst pa_nil))
      (pss_cons (ps_for PassesOwn.never rfl (pi_list (pe_callB cr_sortedPO (by rfl) mso (by decide +kernel) (pa_cons (pv 0) pa_nil))) (pg_tup rfl (pgs_cons (pg_name (i := 2) scLSet.nd rfl (.inl rfl)) (pgs_cons (pg_name (i := 3) scLSet.nd rfl (.inl rfl)) pgs_nil)))
        (pss_cons (ps_if (pt_cmpR op_gt (pv 2) (pv 3) (nomark _)) (pss_one ps_continue) pss_nil)
        (pss_one (ps_if (PW.pt (pw_and (pt_cmpR (op_neD hr.units) (pv 1) (pe_lst pa_nil) (nomark _)) (pw_and1 (pt_cmpR op_le (pv 2) (pe_op op_add (pe_ix ix_tup (pe_ix ix_list (pv 1) (pe_un un_neg pe_int) (fun _ _ => rfl)) pe_int (fun _ _ => rfl)) pe_int) (nomark _)))))
          (pss_one (ps_asg (pe_tup (pa_cons (pe_ix ix_tup (pe_ix ix_list (pv 1) (pe_un un_neg pe_int) (fun _ _ => rfl)) pe_int (fun _ _ => rfl)) (pa_cons (pe_callB (call_max2 rfl) (by rfl) mx (by decide +kernel) (pa_cons (pv 3) (pa_cons (pe_ix ix_tup (pe_ix ix_list (pv 1) (pe_un un_neg pe_int) (fun _ _ => rfl)) pe_int (fun _ _ => rfl)) pa_nil))) pa_nil))) (pg_sub (pv 1) (pe_un un_neg pe_int) set_list)))
          (pss_one (ps_expr (pe_bm PySem.F.plainAttrs_list PySem.F.slot_list_append PySem.F.type_list_append mt_append (pv 1) (pa_cons (pe_tup (pa_cons (pv 2) (pa_cons (pv 3) pa_nil))) pa_nil))))))))
      (pss_one (ps_ret (pv 1)))), ?_⟩
    refine ⟨Nat.zero_le _, fun mg' nm => ?_⟩
    have s1 := same_upd (o := .lst []) nm
    have em1 : upd H mg' (.lst []) mg' = some (.lst []) := upd_same
    revert s1 em1
    generalize upd H mg' (.lst []) = H1
    intro s1 em1
    have hp1 := hp.same s1
    refine ⟨_, rfl, a, us, pairOf H1, rfl, SqL.of (s1 _ _ ea), fun x hx => ?_, fun zs g srt stb ng => ?_⟩
    · obtain ⟨i, hi, e⟩ := List.getElem_of_mem hx
      obtain ⟨p, T, _, rfl, eT⟩ := prs_at hp1 (by rw [List.getElem?_eq_getElem hi, e])
      exact ⟨T, rfl, by rw [pairOf_at eT]; exact eT⟩
    obtain ⟨qs, hqs, hperm, hord⟩ := pairs_sorted hp1 stb.perm srt
    have sg := same_upd (o := .lst zs) ng
    have eg : upd H1 g (.lst zs) g = some (.lst zs) := upd_same
    have s3 := s1.trans sg
    have em3 := sg _ _ em1
    have hzs3 := hqs.same sg
    have nmg : mg' ≠ g := ne_of_none em1 ng
    have hzl : zs.length ≤ 900 := by rw [hqs.1, hperm.length_eq]; exact hz
    revert eg s3 em3 hzs3
    generalize upd H1 g (.lst zs) = H3
    intro eg s3 em3 hzs3
    refine ⟨g, rfl, ⟨_, SqL.of eg⟩, for_list (xs := zs) (LSetW H a mg' g zs qs) ⟨[], [], _, _, rfl, s3, eg, hzs3, em3, Prs.nil, Mrg.nil⟩ (fun i σ H4 _ hP => ?_) (fun i x σ H4 hx hP => ?_) (fun σ H4 hP => ?_)⟩
    · obtain ⟨_, _, _, _, rfl, _, e, _⟩ := hP
      exact SqL.of e
    · obtain ⟨ms, rs, y2, y3, rfl, sm4, eg4, hz4, em4, hms, m⟩ := hP
      obtain ⟨p, T, ep, rfl, eT⟩ := prs_at hz4 hx
      have hi : i < qs.length := (List.getElem?_eq_some_iff.mp ep).1
      have etake : qs.take (i + 1) = qs.take i ++ [p] := by rw [List.take_add_one, ep]; rfl
      have eup : upP (qs.take (i + 1)) = upP (qs.take i) ++ (if p.1 ≤ p.2 then [p] else []) := by
        unfold upP
        rw [etake, List.filter_append]
        by_cases c : p.1 ≤ p.2
        · rw [if_pos c]; simp [c]
        · rw [if_neg c]; simp [c]
      have ord : ∀ q ∈ upP (qs.take i), q.1 ≤ p.1 := fun q hq' => by
        obtain ⟨j, hj, e⟩ := List.getElem_of_mem (List.mem_filter.mp hq').1
        rw [List.length_take] at hj
        rw [List.getElem_take] at e
        obtain ⟨_, e2⟩ := List.getElem?_eq_some_iff.mp ep
        rw [← e, ← e2]
        exact List.pairwise_iff_getElem.mp hord j i (by omega) hi (by omega)
      have hmsl : ms.length ≤ 900 := by
        have := m.len
        have h2 := List.length_filter_le (fun p : Int × Int => decide (p.1 ≤ p.2)) (qs.take i)
        rw [List.length_take] at h2
        have := hqs.1
        rw [hms.1]
        unfold upP at *
        omega
      refine ⟨T, _, rfl, .inl (.inl eT), rfl, _, _, rfl, _, _, rfl, rfl, ?_⟩
      refine ⟨_, rfl, _, rfl, p.1, p.2, rfl, rfl, _, rfl, ite2 (fun c0 => ?_) (fun c0 => ?_)⟩
      · have c0' := of_decide_eq_true c0
        refine ⟨ms, rs, _, _, rfl, sm4, eg4, hz4, em4, hms, ?_⟩
        rw [eup, if_neg (by omega), List.append_nil]
        exact m
      have hp12 : p.1 ≤ p.2 := by
        have : ¬ p.1 > p.2 := fun z => c0 (decide_eq_true z)
        omega
      rw [if_pos hp12] at eup
      -- the test's own list
      refine ⟨_, rfl, Nat.zero_le _, fun z nz => ?_⟩
      have sz := same_upd (o := .lst []) nz
      refine ⟨_, _, .lst (SqL.of (sz _ _ em4)) (dp_prs (hms.same sz)), .lst (SqL.of upd_same) .nil, shaped_prs rs, shaped_ints [], ?_⟩
      rw [eqv_pr_nil]
      have sm5 := sm4.trans sz
      have eg5 := sz _ _ eg4
      have hz5 := hz4.same sz
      have em5 := sz _ _ em4
      have hms5 := hms.same sz
      revert sm5 eg5 hz5 em5 hms5
      generalize upd H4 z (.lst []) = H5
      intro sm5 eg5 hz5 em5 hms5
      -- what a new tuple and a change of the list leave
      have grow : ∀ (T2 : Addr) (p2 : Int × Int) (ms2 : List V) (rs2 : List (Int × Int)), H5 T2 = none → Prs (upd H5 T2 (.tup [.int p2.1, .int p2.2])) ms2 rs2 → Mrg (upP (qs.take (i + 1))) rs2 → LSetW H a mg' g zs qs (i + 1) [some (.ref a), some (.ref mg'), some (.int p.1), some (.int p.2)] (upd (upd H5 T2 (.tup [.int p2.1, .int p2.2])) mg' (.lst ms2)) := by
        intro T2 p2 ms2 rs2 n2 h2 m2
        have st := same_upd (o := .tup [.int p2.1, .int p2.2]) n2
        have em6 := st _ _ em5
        refine ⟨ms2, rs2, _, _, rfl, fun b o e => ?_, ?_, (hz5.same st).upd_lst em6, upd_same, h2.upd_lst em6, m2⟩
        · rw [upd_ne (ne_of_none e nm)]
          exact st _ _ (sm5 _ _ e)
        · rw [upd_ne nmg.symm]
          exact st _ _ eg5
      have app : (∀ r ∈ rs, r.2 + 2 ≤ p.1) → (tDrop (tBM K "list" rAppend (tVar 1) (tCons (tTup (tCons (tVar 2) (tCons (tVar 3) tNil))) tNil))) { nx := LSetW H a mg' g zs qs (i + 1), rt := fun _ _ => False } [some (.ref a), some (.ref mg'), some (.int p.1), some (.int p.2)] H5 := by
        intro far
        refine ⟨.ref mg', rfl, .inl ⟨rfl, _, SqL.of em5⟩, _, rfl, _, rfl, (by show 2 ≤ sizeLine; decide), fun T2 n2 => ?_⟩
        have st := same_upd (o := .tup [.int p.1, .int p.2]) n2
        exact ⟨mg', _, _, rfl, rfl, st _ _ em5, small1000 (by omega), grow T2 p (ms ++ [.ref T2]) (rs ++ [p]) n2 ((hms5.same st).snoc upd_same) (by rw [eup]; exact m.new hp12 ord far)⟩
      rcases snoc_cases rs with e0 | ⟨rs', ⟨lo, hi'⟩, e0⟩
      · refine ⟨false, (by rw [e0]; rfl), iteF (iteF ?_)⟩
        exact app (by rw [e0]; exact fun _ z => nomatch z)
      · subst e0
        obtain ⟨ms', T0, rfl, eT0, hms'⟩ := hms5.last
        refine ⟨true, (by simp), iteT ?_⟩
        refine ⟨_, rfl, .ref mg', rfl, 1, rfl, mg', _, -1, .ref T0, rfl, rfl, SqL.of em5, atI_last _ _, T0, _, 1, .int hi', rfl, rfl, .inl (.inl eT0), atI_nat (j := 1) rfl, hi', 1, rfl, rfl, p.1, _, rfl, rfl, _, rfl, ite2 (fun c => ?_) (fun c => ?_)⟩
        · have c' := of_decide_eq_true c
          refine ⟨_, rfl, 1, rfl, mg', _, -1, .ref T0, rfl, rfl, SqL.of em5, atI_last _ _, T0, _, 0, .int lo, rfl, rfl, .inl (.inl eT0), atI_nat (j := 0) rfl, ?_⟩
          refine ⟨_, rfl, _, rfl, 1, rfl, mg', _, -1, .ref T0, rfl, rfl, SqL.of em5, atI_last _ _, T0, _, 1, .int hi', rfl, rfl, .inl (.inl eT0), atI_nat (j := 1) rfl, p.2, hi', rfl, (by show 2 ≤ sizeLine; decide), fun T2 n2 => ?_⟩
          have emax : (if hi' > p.2 then hi' else p.2) = (if p.2 > hi' then p.2 else hi') := by split <;> split <;> omega
          rw [emax]
          have st := same_upd (o := .tup [.int lo, .int (if p.2 > hi' then p.2 else hi')]) n2
          have ei : ixN (ms' ++ [V.ref T0]).length (-1) = some ms'.length := by
            unfold ixN
            rw [if_neg (by decide), List.length_append, if_pos (by show -((ms'.length + 1 : Nat) : Int) ≤ -1; omega)]
            show some ((-1 : Int) + ((ms'.length + 1 : Nat) : Int)).toNat = _
            congr 1
            omega
          refine ⟨.ref mg', rfl, 1, rfl, mg', _, -1, ms'.length, rfl, rfl, st _ _ em5, ei, ?_⟩
          have es : (ms' ++ [V.ref T0]).set ms'.length (.ref T2) = ms' ++ [.ref T2] := by simp
          rw [es]
          exact grow T2 (lo, if p.2 > hi' then p.2 else hi') (ms' ++ [.ref T2]) (rs' ++ [(lo, if p.2 > hi' then p.2 else hi')]) n2 ((hms'.same st).snoc upd_same) (by rw [eup]; exact m.join hp12 ord c')
        · have c' : ¬ p.1 ≤ hi' + 1 := fun z => c (decide_eq_true z)
          refine app fun r hr' => ?_
          obtain ⟨lo', hR⟩ := m.ris
          obtain ⟨_, h2, _, h4⟩ := Ris.front hR
          have h4' : lo ≤ hi' := h4
          rcases List.mem_append.mp hr' with y | y
          · have : r.2 + 2 ≤ lo := h2 r y
            omega
          · rw [List.mem_singleton.mp y]
            show hi' + 2 ≤ p.1
            omega
    · obtain ⟨ms, rs, y2, y3, rfl, sm4, eg4, hz4, em4, hms, m⟩ := hP
      rw [hqs.1, List.take_length] at m
      refine ⟨_, rfl, q mg' ms rs H4 nm em4 hms (m.told.cong fun n => ?_) (Nat.le_trans m.len (Nat.le_trans (List.length_filter_le _ _) (Nat.le_of_eq hperm.length_eq))) sm4⟩
      constructor
      · rintro ⟨r, hr', e⟩
        exact ⟨r, hperm.mem_iff.mp (List.mem_filter.mp hr').1, e⟩
      · rintro ⟨r, hr', e⟩
        exact ⟨r, List.mem_filter.mpr ⟨hperm.mem_iff.mpr hr', decide_eq_true (by omega)⟩, e⟩
end

/-! ### minutes near windows -/
abbrev MB : Int := 3 * 10 ^ 60
theorem win_bd {pl : Str} {n T : Int} {ps : List Pas} {p : Int × Int} (h0 : 0 ≤ n) (h1 : n < T) (hT : T ≤ 10 ^ 30) (hgd : ∀ p ∈ ps, p.Good T) (e : winF pl n ps = some p) : 0 ≤ p.1 ∧ p.1 ≤ p.2 ∧ p.2 ≤ 2 * 10 ^ 60 := by
  rw [win_eq] at e
  cases hp : passF pl ps with
  | none => rw [hp] at e; cases e
  | some q =>
    rw [hp] at e
    have hg := hgd q (passF_mem hp)
    cases q with
    | line pp st lo b =>
      obtain ⟨_, st0, st1, lo0, lo1, b0, b1⟩ := hg
      have ep : p = (st + n * lo / b, st + n * lo / b) := (Option.some.inj e).symm
      subst ep
      have z0 : 0 ≤ n * lo := Int.mul_nonneg h0 lo0
      have z1 : n * lo ≤ 10 ^ 30 * 10 ^ 30 := Int.mul_le_mul (by omega) (by omega) lo0 (by decide)
      have z2 : 0 ≤ n * lo / b := Int.ediv_nonneg z0 (by omega)
      have z3 : n * lo / b ≤ n * lo := Int.ediv_le_self _ z0
      show 0 ≤ st + n * lo / b ∧ st + n * lo / b ≤ st + n * lo / b ∧ st + n * lo / b ≤ 2 * 10 ^ 60
      omega
    | racks pp per ss =>
      have hb := hg.2.2.2.2.2 p (List.mem_of_getElem? (show ss[(n / per).toNat]? = some p from e))
      omega
abbrev sMin : Stmt := topS 28
theorem scMin : FnScope ["_law_state", "_law_batch", "_law_place", "_law_pairs", "_law_turn", "_law_tins", "_law_own", "_law_near", "_law_first", "_law_last"] ["_law_state", "_law_batch", "_law_place"] (defScope sMin) := ⟨rfl, rfl, rfl, by decide +kernel, rfl, by decide +kernel, by decide +kernel⟩
def In0 (first : Int) (last : Option Int) : Prop := (0 ≤ first ∧ first ≤ MB) ∧ ∀ l, last = some l → 0 ≤ l ∧ l ≤ MB
theorem In0.near {first : Int} {last : Option Int} (h : In0 first last) : Near first last := by
  unfold In0 MB at h
  refine ⟨by omega, fun l e => ?_⟩
  have := h.2 l e
  omega
def spMin : Sp := fun vs H Q _ => ∃ (d c b : Addr) (t T : Int) (mark pl : Str) (ps : List Pas), vs = [.ref d, .ref b, .str pl] ∧ StAt H d c t ∧ t + 100 < 2 ^ 60 ∧ BatA H b mark T ps ∧ 1 ≤ T ∧ T ≤ 10 ^ 30 ∧ (∀ p ∈ ps, p.Good T) ∧
  ∀ (a : Addr) (first t' : Int) (last : Option Int) H', H' a = some (.tup [.int first, lastV last]) → In0 first last → t ≤ t' → t' ≤ t + 40 → StAt H' d c t' → Kp d c H H' → Q (.ref a) H'
def MinW (H : Hp) (d c b pa : Addr) (pl : Str) (t : Int) (i : Nat) (σ : L2.St) (Hx : Hp) : Prop := ∃ (t' : Int) (ns : List Int) (y4 yt y5 y6 : Option V), σ = [some (.ref d), some (.ref b), some (.str pl), some (.ref pa), y4, yt, y5, y6, none, none] ∧ Hx pa = some (.lst (ns.map V.int)) ∧ ns.length = i ∧ (∀ n ∈ ns, 0 ≤ n ∧ n ≤ 2 * 10 ^ 60 + 5) ∧ t ≤ t' ∧ t' ≤ t + 12 * i ∧ StAt Hx d c t' ∧ Kp d c H Hx
section
variable {K : PySem.W.Frag} {mg : Str → Option Value} {P : Program} {w : World} {base : Heap}
theorem ok_min {f : Addr} {fd : FuncData} (F : Fun K "_law_minutes" "_law_minutes" sMin f fd) (CT : Cal P w K mg base 1 "_law_take" ["_law_state", "_law_many"] spTake) (CU : Cal P w K mg base 2 "_law_number" ["_law_state", "_law_sort"] spNumber) (CW : Cal P w K mg base 1 "_law_window" ["_law_batch", "_law_place", "_law_tin"] spWin) (mr : mg "range" = none) (mx : mg "max" = none) : FnOk P w K mg base CX0 3 f fd ["_law_state", "_law_batch", "_law_place"] spMin := by
  refine F.ok scMin (fun vs H Q E h => ?_) (fun cdv A outer s H vs Q E hr h => ?_)
  · obtain ⟨d, c, b, t, T, mark, pl, ps, rfl, _⟩ := h
    rfl
  · obtain ⟨d, c, b, t, T, mark, pl, ps, rfl, hS, ht, hB, hT1, hT2, hgd, q⟩ := h
    have hr1 := hr.mono (show 1 ≤ 2 by decide)
    refine ⟨_, pss_cons (ps_set (i := 3) scMin.nd rfl (.inl rfl) (pe_lst pa_nil))
      (pss_cons (ps_for PassesOwn.never rfl (pi_range1 rfl mr (pa_cons pe_int pa_nil)) (pg_name (i := 4) scMin.nd rfl (.inl rfl))
        (pss_cons (ps_set (i := 5) scMin.nd rfl (.inl rfl) (pe_lst (pa_cons (pe_own CT hr1 (by rfl) (pa_cons (pv 0) (pa_cons (pe_ix ix_tup (pv 1) pe_int (fun _ _ => rfl)) pa_nil))) (pa_cons (pe_op op_sub (pe_ix ix_tup (pv 1) pe_int (fun _ _ => rfl)) pe_int) (pa_cons (pe_op op_mod (pe_own CU hr (by rfl) (pa_cons (pv 0) (pa_cons pe_int pa_nil))) (pe_ix ix_tup (pv 1) pe_int (fun _ _ => rfl))) (pa_cons pe_int pa_nil))))))
        (pss_cons (ps_set (i := 6) scMin.nd rfl (.inl rfl) (pe_own CW hr1 (by rfl) (pa_cons (pv 1) (pa_cons (pv 2) (pa_cons (pe_ix ix_list (pv 5) (pe_own CT hr1 (by rfl) (pa_cons (pv 0) (pa_cons pe_int pa_nil))) (fun _ _ => rfl)) pa_nil)))))
        (pss_cons (ps_set (i := 7) scMin.nd rfl (.inl rfl) (pe_mid (pe_ifExp (pt_cmpR op_notN (pv 6) pe_non (nomark _)) (pv 6) (pe_tup (pa_cons (pe_own CT hr1 (by rfl) (pa_cons (pv 0) (pa_cons pe_int pa_nil))) (pa_cons (pe_own CT hr1 (by rfl) (pa_cons (pv 0) (pa_cons pe_int pa_nil))) pa_nil))))))
        (pss_one (ps_expr (pe_bm PySem.F.plainAttrs_list PySem.F.slot_list_append PySem.F.type_list_append mt_append (pv 3) (pa_cons (pe_callB (call_max2 rfl) (by rfl) mx (by decide +kernel) (pa_cons pe_int (pa_cons (pe_op op_sub (pe_op op_add (pe_ix ix_tup (pv 7) (pe_own CT hr1 (by rfl) (pa_cons (pv 0) (pa_cons pe_int pa_nil))) (fun _ _ => rfl)) (pe_own CT hr1 (by rfl) (pa_cons (pv 0) (pa_cons pe_int pa_nil)))) pe_int) pa_nil))) pa_nil))))))))
      (pss_cons (ps_par rfl scMin.nd (i := 8) (j := 9) rfl rfl (by decide) rfl rfl (pa_cons (pe_ix ix_list (pv 3) pe_int (fun _ _ => rfl)) (pa_cons (pe_ix ix_list (pe_lst (pa_cons (pe_ix ix_list (pv 3) pe_int (fun _ _ => rfl)) (pa_cons (pe_ix ix_list (pv 3) pe_int (fun _ _ => rfl)) (pa_cons pe_non (pa_cons (pe_op op_add (pe_ix ix_list (pv 3) pe_int (fun _ _ => rfl)) (pe_own CT hr1 (by rfl) (pa_cons (pv 0) (pa_cons pe_int pa_nil)))) (pa_cons (pe_ix ix_list (pv 3) pe_int (fun _ _ => rfl)) pa_nil)))))) (pe_own CT hr1 (by rfl) (pa_cons (pv 0) (pa_cons pe_int pa_nil))) (fun _ _ => rfl)) pa_nil)) (by rfl))
      (Evl.pss_cut (ps_if (PW.pt (pw_and (pt_cmpR op_notN (pv 9) pe_non (nomark _)) (pw_and (pt_cmpR op_gt (pv 8) (pv 9) (nomark _)) (pw_and1 (pt_cmpR op_gt (pe_own CT hr1 (by rfl) (pa_cons (pv 0) (pa_cons pe_int pa_nil))) pe_int (nomark _))))))
        (pss_one (ps_par rfl scMin.nd (i := 8) (j := 9) rfl rfl (by decide) rfl rfl (pa_cons (pv 9) (pa_cons (pv 8) pa_nil)) (by rfl))) pss_nil)
      (pss_one (ps_ret (pe_tup (pa_cons (pe_ix ix_list (pe_lst (pa_cons (pv 8) (pa_cons (pv 8) (pa_cons pe_int (pa_cons (pv 8) pa_nil))))) (pe_own CT hr1 (by rfl) (pa_cons (pv 0) (pa_cons pe_int pa_nil))) (fun _ _ => rfl)) (pa_cons (pv 9) pa_nil)))))))), ?_⟩
    refine ⟨Nat.zero_le _, fun pa npa => ?_⟩
    have spa := same_upd (o := .lst []) npa
    have offp := hS.off npa
    refine ⟨2, rfl, by decide, by decide, for_range (n := 2) (MinW H d c b pa pl t) ⟨t, [], _, _, _, _, rfl, upd_same, rfl, (fun _ z => nomatch z), by omega, by omega, hS.same spa, Kp.same d c spa⟩ (fun i σ Hx hi hP => ?_) (fun σ Hx hP => ?_)⟩
    · obtain ⟨t', ns, y4, yt, y5, y6, rfl, epa, hnl, hns, u0, u1, hSx, kx⟩ := hP
      have hBx := hB.kp hS kx
      obtain ⟨ab, vb, eb, hab, hvb⟩ := id hBx
      refine ⟨_, rfl, _, rfl, b, _, 1, .int T, rfl, rfl, .inl (.inl eb), atI_nat (j := 1) rfl, d, c, t', T, rfl, hSx, by omega, by omega, by omega, fun n1 Ha n10 n11 hSa ka => ?_⟩
      have eba := ka.tup hSx eb
      refine ⟨_, rfl, b, _, 1, .int T, rfl, rfl, .inl (.inl eba), atI_nat (j := 1) rfl, T, 1, rfl, rfl, ?_⟩
      refine ⟨_, rfl, d, c, t' + 1, 3, rfl, hSa, by omega, by decide, fun n2 tb Hb n20 n21 tb0 tb1 hSb kb => ?_⟩
      have ebb := kb.tup hSa eba
      have hTp : (0 : Int) < T := by omega
      refine ⟨_, rfl, b, _, 1, .int T, rfl, rfl, .inl (.inl ebb), atI_nat (j := 1) rfl, n2, T, rfl, rfl, hTp, (by show 4 ≤ sizeLine; decide), fun tl ntl => ?_⟩
      have stl := same_upd (o := .lst [.int n1, .int (T - 1), .int (n2 % T), .int 0]) ntl
      refine ⟨_, rfl, _, rfl, _, rfl, _, rfl, d, c, tb, 4, rfl, hSb.same stl, by omega, by decide, by decide, fun r0 H1 r00 r01 hS1 k1' => ?_⟩
      obtain ⟨n, ⟨n0, n1⟩, hatn⟩ := pick4 (x := n1) (y := T - 1) (z := n2 % T) (u := 0) (fun v => 0 ≤ v ∧ v < T) r00 r01 ⟨n10, n11⟩ (by omega) ⟨Int.emod_nonneg _ (by omega), Int.emod_lt_of_pos _ hTp⟩ (by omega)
      have k1 : Kp d c Hx H1 := ((ka.trans kb).trans (Kp.same d c stl)).trans k1'
      refine ⟨tl, _, r0, .int n, rfl, rfl, SqL.of (k1'.new hSb ntl), hatn, ?_⟩
      refine ⟨b, mark, pl, T, n, ps, rfl, hBx.kp hSx k1, n0, n1, hT2, hgd, fun v H2 hv s2 => ?_⟩
      have hS2 := hS1.same s2
      have k2 : Kp d c Hx H2 := k1.trans (Kp.same d c s2)
      refine ⟨fun v' H' => ∃ (a : Addr) (x y t3 : Int), v' = .ref a ∧ H' a = some (.tup [.int x, .int y]) ∧ (0 ≤ x ∧ x ≤ 2 * 10 ^ 60) ∧ (0 ≤ y ∧ y ≤ 2 * 10 ^ 60) ∧ t' + 1 ≤ t3 ∧ t3 ≤ t' + 9 ∧ StAt H' d c t3 ∧ Kp d c Hx H', ?_, ?_⟩
      · cases hp : winF pl n ps with
        | none =>
          rw [hp] at hv
          cases (show v = .non from hv)
          refine ⟨_, rfl, rfl, false, congrArg V.bl (congrArg (!·) (decide_eq_true rfl)), iteF ?_⟩
          refine ⟨_, rfl, d, c, tb + 1, 40, rfl, hS2, by omega, by decide, by decide, fun x H3 x0 x1 hS3 k3 => ?_⟩
          refine ⟨_, rfl, d, c, tb + 1 + 1, 40, rfl, hS3, by omega, by decide, by decide, fun y H4 y0 y1 hS4 k4 => ⟨(by show 2 ≤ sizeLine; decide), fun a na => ?_⟩⟩
          have sa := same_upd (o := .tup [.int x, .int y]) na
          exact ⟨a, x, y, tb + 1 + 1 + 1, rfl, upd_same, ⟨x0, by omega⟩, ⟨y0, by omega⟩, by omega, by omega, hS4.same sa, ((k2.trans k3).trans k4).trans (Kp.same d c sa)⟩
        | some p =>
          rw [hp] at hv
          obtain ⟨a, rfl, ea⟩ := hv
          have hb := win_bd n0 n1 hT2 hgd hp
          exact ⟨_, rfl, rfl, true, congrArg V.bl (congrArg (!·) (decide_eq_false (fun z => nomatch z))), iteT ⟨_, rfl, a, p.1, p.2, tb + 1, rfl, ea, ⟨hb.1, by omega⟩, ⟨by omega, hb.2.2⟩, by omega, by omega, hS2, k2⟩⟩
      · rintro v' H3 ⟨a, x, y, t3, rfl, ea, hx, hy, w0, w1, hS3, k3⟩
        have epa3 := k3 _ _ offp.1 offp.2 epa
        refine ⟨_, rfl, .inl ⟨rfl, _, SqL.of epa3⟩, _, rfl, _, rfl, d, c, t3, 2, rfl, hS3, by omega, by decide, by decide, fun r H4 r0 r1 hS4 k4 => ?_⟩
        obtain ⟨e, he, hat⟩ := pick2 (x := x) (y := y) (fun v => 0 ≤ v ∧ v ≤ 2 * 10 ^ 60) r0 r1 hx hy
        refine ⟨a, _, r, .int e, rfl, rfl, .inl (.inl (k4.tup hS3 ea)), hat, _, rfl, d, c, t3 + 1, 3, rfl, hS4, by omega, by decide, by decide, fun r2 H5 r20 r21 hS5 k5 => ?_⟩
        have epa5 := (k4.trans k5) _ _ offp.1 offp.2 epa3
        refine ⟨e, r2, rfl, rfl, e + r2, 1, rfl, rfl, 0, _, rfl, pa, _, _, rfl, rfl, epa5, small1000 (by rw [List.length_map]; omega), t3 + 1 + 1, ns ++ [if e + r2 - 1 > 0 then e + r2 - 1 else 0], _, _, _, _, rfl, by rw [upd_same, List.map_append]; rfl, by rw [List.length_append, hnl]; rfl, fun m hm => ?_, by omega, by omega, hS5.upd offp.1 offp.2, fun b o b1 b2 e' => ?_⟩
        · rcases List.mem_append.mp hm with z | z
          · exact hns m z
          · rw [List.mem_singleton.mp z]
            split <;> omega
        · rw [upd_ne (ne_of_none e' npa)]
          exact ((k3.trans k4).trans k5) b o b1 b2 (kx b o b1 b2 e')
    · obtain ⟨t', ns, y4, yt, y5, y6, rfl, epa, hnl, hns, u0, u1, hSx, kx⟩ := hP
      match ns, hnl with
      | [e0, e1], _ =>
        have h0 := hns e0 (List.mem_cons_self ..)
        have h1 := hns e1 (List.mem_cons_of_mem _ (List.mem_cons_self ..))
        have at0 : atI ([e0, e1].map V.int) 0 = some (.int e0) := atI_nat (j := 0) rfl
        have at1 : atI ([e0, e1].map V.int) 1 = some (.int e1) := atI_nat (j := 1) rfl
        refine ⟨_, rfl, pa, _, 0, .int e0, rfl, rfl, SqL.of epa, at0, ?_⟩
        refine ⟨_, rfl, pa, _, 1, .int e1, rfl, rfl, SqL.of epa, at1, _, rfl, pa, _, 0, .int e0, rfl, rfl, SqL.of epa, at0, _, rfl, pa, _, 0, .int e0, rfl, rfl, SqL.of epa, at0, ?_⟩
        refine ⟨_, rfl, d, c, t', 9, rfl, hSx, by omega, by decide, by decide, fun r1 H1 r10 r11 hS1 k1 => ⟨e0, r1, rfl, rfl, ?_⟩⟩
        have epa1 := k1 _ _ offp.1 offp.2 epa
        refine ⟨_, rfl, pa, _, 1, .int e1, rfl, rfl, SqL.of epa1, at1, (by show 5 ≤ sizeLine; decide), fun z nz => ?_⟩
        have sz := same_upd (o := .lst [.int e1, .int e0, .non, .int (e0 + r1), .int e1]) nz
        refine ⟨_, rfl, d, c, t' + 1, 5, rfl, hS1.same sz, by omega, by decide, by decide, fun r2 H2 r20 r21 hS2 k2 => ?_⟩
        obtain ⟨last, hat, hlast⟩ : ∃ last : Option Int, atI [V.int e1, V.int e0, V.non, V.int (e0 + r1), V.int e1] r2 = some (lastV last) ∧ ∀ l, last = some l → 0 ≤ l ∧ l ≤ 2 * 10 ^ 60 + 20 := by
          have : r2 = 0 ∨ r2 = 1 ∨ r2 = 2 ∨ r2 = 3 ∨ r2 = 4 := by omega
          rcases this with rfl | rfl | rfl | rfl | rfl
          · exact ⟨some e1, rfl, fun l e => by cases e; omega⟩
          · exact ⟨some e0, rfl, fun l e => by cases e; omega⟩
          · exact ⟨none, rfl, fun l e => nomatch e⟩
          · exact ⟨some (e0 + r1), rfl, fun l e => by cases e; omega⟩
          · exact ⟨some e1, rfl, fun l e => by cases e; omega⟩
        refine ⟨z, _, r2, lastV last, rfl, rfl, SqL.of (k2.new hS1 nz), hat, _, _, rfl, ?_⟩
        have kx2 : Kp d c H H2 := ((kx.trans k1).trans (Kp.same d c sz)).trans k2
        refine ⟨fun σ' H' => ∃ (first t3 : Int) (last : Option Int) (z4 zt z5 z6 : Option V), σ' = [some (.ref d), some (.ref b), some (.str pl), some (.ref pa), z4, zt, z5, z6, some (.int first), some (lastV last)] ∧ (0 ≤ first ∧ first ≤ 2 * 10 ^ 60 + 20) ∧ (∀ l, last = some l → 0 ≤ l ∧ l ≤ 2 * 10 ^ 60 + 20) ∧ t ≤ t3 ∧ t3 ≤ t + 30 ∧ StAt H' d c t3 ∧ Kp d c H H', ?_, ?_⟩
        · cases last with
          | none => exact ⟨_, rfl, rfl, false, congrArg V.bl (congrArg (!·) (decide_eq_true (show lastV none = V.non from rfl))), iteF (iteF ⟨e0, t' + 1 + 1, none, _, _, _, _, rfl, ⟨h0.1, by omega⟩, hlast, by omega, by omega, hS2, kx2⟩)⟩
          | some l =>
            have hl := hlast l rfl
            refine ⟨_, rfl, rfl, true, congrArg V.bl (congrArg (!·) (decide_eq_false (show ¬ lastV (some l) = V.non from fun z => nomatch z))), iteT ?_⟩
            refine ⟨_, rfl, _, rfl, e0, l, rfl, rfl, _, rfl, ite2 (fun c1 => ?_) (fun c1 => ?_)⟩
            · refine ⟨_, rfl, d, c, t' + 1 + 1, 4, rfl, hS2, by omega, by decide, by decide, fun r3 H3 r30 r31 hS3 k3 => ⟨r3, 0, rfl, rfl, _, rfl, ite2 (fun c2 => ?_) (fun c2 => ?_)⟩⟩
              · refine ⟨_, rfl, _, rfl, _, _, rfl, ?_⟩
                exact ⟨l, t' + 1 + 1 + 1, some e0, _, _, _, _, rfl, hl, fun l e => by cases e; omega, by omega, by omega, hS3, kx2.trans k3⟩
              · exact ⟨e0, t' + 1 + 1 + 1, some l, _, _, _, _, rfl, ⟨h0.1, by omega⟩, hlast, by omega, by omega, hS3, kx2.trans k3⟩
            · exact iteF ⟨e0, t' + 1 + 1, some l, _, _, _, _, rfl, ⟨h0.1, by omega⟩, hlast, by omega, by omega, hS2, kx2⟩
        · rintro σ' H3 ⟨first, t3, last, z4, zt, z5, z6, rfl, hf, hl, w0, w1, hS3, k3⟩
          refine ⟨_, rfl, _, rfl, _, rfl, (by show 4 ≤ sizeLine; decide), fun z2 nz2 => ?_⟩
          have sz2 := same_upd (o := .lst [.int first, .int first, .int 0, .int first]) nz2
          refine ⟨_, rfl, d, c, t3, 4, rfl, hS3.same sz2, by omega, by decide, by decide, fun r4 H4 r40 r41 hS4 k4 => ?_⟩
          obtain ⟨fi, hfi, hat4⟩ := pick4 (x := first) (y := first) (z := 0) (u := first) (fun v => 0 ≤ v ∧ v ≤ 2 * 10 ^ 60 + 20) r40 r41 hf hf (by decide) hf
          refine ⟨z2, _, r4, .int fi, rfl, rfl, SqL.of (k4.new hS3 nz2), hat4, _, rfl, (by show 2 ≤ sizeLine; decide), fun a na => ?_⟩
          have sa := same_upd (o := .tup [.int fi, lastV last]) na
          refine q a fi (t3 + 1) last _ upd_same ⟨by unfold MB; omega, fun l e => by have := hl l e; unfold MB; omega⟩ (by omega) (by omega) (hS4.same sa) ((k3.trans ((Kp.same d c sz2).trans k4)).trans (Kp.same d c sa))
end

/-- a test, then a word of what it gives -/
def tMidT (tt : TT) : TT := fun σ H Q => ∃ M : Bool → Hp → Prop, tt σ H M ∧ ∀ b H', M b H' → Q b H'
theorem pt_mid {X : Cx} {e : Expr} {tt : TT} (h : PT X e tt) : PT X e (tMidT tt) := ⟨fun pins s σ H Q I ⟨M, h1, h2⟩ => thn (h.run pins s σ H M I h1) fun _ _ ⟨H1, I1, q⟩ => ⟨H1, I1, h2 _ _ q⟩⟩

/-! ### comprehensions by walks -/
abbrev WR (J : It) (B : V → Hp → (Hp → Prop) → Prop) (H0 : Hp) (Qd : Hp → Prop) : Prop := ∃ W : Nat → Nat → Hp → Prop, (∃ m, W 0 m H0) ∧ ∀ i m H, W i m H → (J.stop i H ∧ Qd H) ∨ (J.go i H ∧ ∃ Nx : Hp → Prop, (∀ H', Nx H' → ∃ m', m' < m ∧ W (i + 1) m' H') ∧ ∀ x H', J.yld i H x H' → B x H' Nx)
theorem walk_W {J : It} {n : Nat} {G : Hp → Prop} {Y : Nat → Hp → V → Hp → Prop} (w : Walk J n G Y) {B : V → Hp → (Hp → Prop) → Prop} {H0 : Hp} {Qd : Hp → Prop} (Pv : Nat → Hp → Prop) (h0 : Pv 0 H0) (hG : ∀ i H, Pv i H → G H) (hs : ∀ i x H H', i < n → Pv i H → Y i H x H' → B x H' (Pv (i + 1))) (hd : ∀ H, Pv n H → Qd H) : WR J B H0 Qd := by
  refine ⟨fun i m H => m = n - i ∧ i ≤ n ∧ Pv i H, ⟨n, by omega, Nat.zero_le _, h0⟩, ?_⟩
  rintro i m H ⟨rfl, hi, p⟩
  by_cases lt : i < n
  · exact .inr ⟨w.goes i H lt (hG i H p), Pv (i + 1), fun H' p' => ⟨n - (i + 1), by omega, rfl, lt, p'⟩, fun x H' y => hs i x H H' lt p (w.yields i H x H' lt (hG i H p) y)⟩
  · have e : i = n := by omega
    subst e
    exact .inl ⟨w.stops H (hG i H p), hd H p⟩
theorem list_W {K : PySem.W.Frag} {a : Addr} {xs : List V} {B : V → Hp → (Hp → Prop) → Prop} {H0 : Hp} {Qd : Hp → Prop} (Pv : Nat → Hp → Prop) (h0 : Pv 0 H0) (still : ∀ i H', Pv i H' → SqL K H' a xs) (turn : ∀ i x H', xs[i]? = some x → Pv i H' → B x H' (Pv (i + 1))) (fin : ∀ H', Pv xs.length H' → Qd H') : WR (Itl K a) B H0 Qd :=
  walk_W walk_list Pv h0 still (fun i x H H' _ p y => by rw [y.1]; exact turn i x H y.2 p) fin
theorem tup_W {K : PySem.W.Frag} {a : Addr} {xs : List V} {B : V → Hp → (Hp → Prop) → Prop} {H0 : Hp} {Qd : Hp → Prop} (Pv : Nat → Hp → Prop) (h0 : Pv 0 H0) (still : ∀ i H', Pv i H' → SqT K H' a xs) (turn : ∀ i x H', xs[i]? = some x → Pv i H' → B x H' (Pv (i + 1))) (fin : ∀ H', Pv xs.length H' → Qd H') : WR (Itt K a) B H0 Qd :=
  walk_W walk_tup Pv h0 still (fun i x H H' _ p y => by rw [y.1]; exact turn i x H y.2 p) fin
theorem seq_W {K : PySem.W.Frag} {a : Addr} {xs : List V} {H1 : Hp} (hq : Sq K H1 a xs) {B : Addr → V → Hp → (Hp → Prop) → Prop} {Qd : Addr → Hp → Prop} (Pv : Addr → Nat → Hp → Prop) (h0 : ∀ D, H1 D = none → Pv D 0 (upd H1 D (.lst []))) (still : ∀ D i H', H1 D = none → Pv D i H' → Same H1 H')
    (turn : ∀ D i x H', H1 D = none → xs[i]? = some x → Pv D i H' → B D x H' (Pv D (i + 1))) (fin : ∀ D H', H1 D = none → Pv D xs.length H' → Qd D H') :
    ((∃ xs, SqL K H1 a xs) ∧ ∀ D, H1 D = none → WR (Itl K a) (B D) (upd H1 D (.lst [])) (Qd D)) ∨ ((∃ xs, SqT K H1 a xs) ∧ ∀ D, H1 D = none → WR (Itt K a) (B D) (upd H1 D (.lst [])) (Qd D)) := by
  rcases hq with h | h
  · exact .inl ⟨⟨xs, h⟩, fun D nD => list_W (Pv D) (h0 D nD) (fun i H' p => (still D i H' nD p).seq h) (fun i x H' e p => turn D i x H' nD e p) fun H' p => fin D H' nD p⟩
  · exact .inr ⟨⟨xs, h⟩, fun D nD => tup_W (Pv D) (h0 D nD) (fun i H' p => same_t (still D i H' nD p) h) (fun i x H' e p => turn D i x H' nD e p) fun H' p => fin D H' nD p⟩
/-! ### faults and batches -/
structure Flt where
  pl : Str
  first : Int
  last : Int
  ks : List Int
structure Bat where
  mark : Str
  T : Int
  ps : List Pas
def Flt.Ok (f : Flt) : Prop := Near f.first (some f.last) ∧ f.first ≤ f.last ∧ (∀ k ∈ f.ks, 0 ≤ k ∧ k < 10 ^ 30) ∧ f.ks.length ≤ 13
def Bat.Ok (b : Bat) : Prop := 1 ≤ b.T ∧ b.T ≤ 10 ^ 30 ∧ (∀ p ∈ b.ps, p.Good b.T) ∧ b.ps.length ≤ 6
def FltV (H : Hp) (v : V) (f : Flt) : Prop := ∃ a rk, v = .ref a ∧ H a = some (.tup [.str f.pl, .int f.first, .int f.last, .ref rk]) ∧ SqH H rk (f.ks.map V.int)
theorem FltV.same {H H' : Hp} {v : V} {f : Flt} (h : FltV H v f) (s : Same H H') : FltV H' v f := let ⟨a, rk, e, h1, h2⟩ := h; ⟨a, rk, e, s _ _ h1, h2.same s⟩
def BatV (H : Hp) (v : V) (b : Bat) : Prop := ∃ a, v = .ref a ∧ BatA H a b.mark b.T b.ps
theorem BatV.same {H H' : Hp} {v : V} {b : Bat} (h : BatV H v b) (s : Same H H') : BatV H' v b := let ⟨a, e, h⟩ := h; ⟨a, e, h.same s⟩
/-- things, one by one -/
def Each {α : Type} (R : Hp → V → α → Prop) (H : Hp) (vs : List V) (xs : List α) : Prop := vs.length = xs.length ∧ ∀ (i : Nat) v x, vs[i]? = some v → xs[i]? = some x → R H v x
theorem Each.at {α : Type} {R : Hp → V → α → Prop} {H : Hp} {vs : List V} {xs : List α} {i : Nat} {v : V} (h : Each R H vs xs) (e : vs[i]? = some v) : ∃ x, xs[i]? = some x ∧ R H v x := by
  have hi : i < xs.length := by rw [← h.1]; exact (List.getElem?_eq_some_iff.mp e).1
  exact ⟨_, List.getElem?_eq_getElem hi, h.2 i v _ e (List.getElem?_eq_getElem hi)⟩
theorem Each.mono {α : Type} {R : Hp → V → α → Prop} {H H' : Hp} {vs : List V} {xs : List α} (h : Each R H vs xs) (m : ∀ v x, x ∈ xs → R H v x → R H' v x) : Each R H' vs xs := ⟨h.1, fun i v x e1 e2 => m v x (List.mem_of_getElem? e2) (h.2 i v x e1 e2)⟩
theorem Each.imp {α : Type} {R R' : Hp → V → α → Prop} {H H' : Hp} {vs : List V} {xs : List α} (h : Each R H vs xs) (m : ∀ v x, x ∈ xs → R H v x → R' H' v x) : Each R' H' vs xs := ⟨h.1, fun i v x e1 e2 => m v x (List.mem_of_getElem? e2) (h.2 i v x e1 e2)⟩
theorem Each.nil {α : Type} {R : Hp → V → α → Prop} {H : Hp} : Each R H [] [] := ⟨rfl, fun _ _ _ e => nomatch e⟩
theorem Each.app {α : Type} {R : Hp → V → α → Prop} {H : Hp} {vs ws : List V} {xs ys : List α} (h : Each R H vs xs) (h' : Each R H ws ys) : Each R H (vs ++ ws) (xs ++ ys) :=
  ⟨by rw [List.length_append, List.length_append, h.1, h'.1], fun i v p e1 e2 => (getElem?_app h.1 e1 e2).elim (fun z => h.2 i v p z.1 z.2) (fun z => h'.2 _ v p z.1 z.2)⟩
theorem Each.one {α : Type} {R : Hp → V → α → Prop} {H : Hp} {v : V} {x : α} (h : R H v x) : Each R H [v] [x] := ⟨rfl, fun i u q e1 e2 => by
  have hi : i < 1 := (List.getElem?_eq_some_iff.mp e1).1
  have : i = 0 := by omega
  subst this
  cases e1
  cases e2
  exact h⟩
/-- the tins in some racks -/
def RackP (pl : Str) (T : Int) (ps : List Pas) (ks : List Int) (n : Int) : Prop := (0 ≤ n ∧ n < T) ∧ ∃ p per ss, passF pl ps = some (.racks p per ss) ∧ n / per ∈ ks
def ReachP (b : Bat) (f : Flt) (n : Int) : Prop := TinP f.pl b.T b.ps f.first (some f.last) n ∧ (f.ks = [] ∨ RackP f.pl b.T b.ps f.ks n)
def ReachAny (b : Bat) (fs : List Flt) (n : Int) : Prop := ∃ f ∈ fs, ReachP b f n
open Classical in
/-- the one list of a set -/
noncomputable def canon (pr : Int → Prop) : List (Int × Int) := if h : ∃ rs, Told pr rs then Classical.choose h else []
theorem Told.canon {pr : Int → Prop} {rs : List (Int × Int)} (h : Told pr rs) : rs = canon pr := by
  unfold TK.canon
  rw [dif_pos ⟨rs, h⟩]
  exact h.one (Classical.choose_spec (p := fun rs => Told pr rs) ⟨rs, h⟩) fun _ => Iff.rfl
/-- the rows that are told -/
noncomputable def rowsF (fs : List Flt) : List Bat → List (Str × List (Int × Int))
  | [] => []
  | b :: r => (if canon (ReachAny b fs) = [] then [] else [(b.mark, canon (ReachAny b fs))]) ++ rowsF fs r
theorem rowsF_snoc {fs : List Flt} {b : Bat} : ∀ bs : List Bat, rowsF fs (bs ++ [b]) = rowsF fs bs ++ (if canon (ReachAny b fs) = [] then [] else [(b.mark, canon (ReachAny b fs))])
  | [] => by
    rw [List.nil_append, rowsF]
    exact (List.append_nil _).trans (List.nil_append _).symm
  | c :: r => by rw [List.cons_append, rowsF, rowsF, rowsF_snoc r, List.append_assoc]
theorem rowsF_len {fs : List Flt} : ∀ bs : List Bat, (rowsF fs bs).length ≤ bs.length
  | [] => Nat.le_refl _
  | b :: r => by
    have := rowsF_len (fs := fs) r
    rw [rowsF, List.length_append, List.length_cons]
    split
    · show 0 + _ ≤ _
      omega
    · show 1 + _ ≤ _
      omega
/-- a told row: all of it new since N -/
def RowV (N : Addr → Prop) (m : Nat) (H : Hp) (v : V) (r : Str × List (Int × Int)) : Prop := ∃ t s ws, v = .ref t ∧ N s ∧ H t = some (.tup [.str r.1, .ref s]) ∧ H s = some (.lst ws) ∧ Prs H ws r.2 ∧ r.2.length ≤ m
theorem RowV.same {N : Addr → Prop} {m : Nat} {H H' : Hp} {v : V} {r : Str × List (Int × Int)} (h : RowV N m H v r) (s : Same H H') : RowV N m H' v r := let ⟨t, z, ws, e, n, h1, h2, h3, h4⟩ := h; ⟨t, z, ws, e, n, s _ _ h1, s _ _ h2, h3.same s, h4⟩
/-! ### the program's -/
abbrev sInRacks : Stmt := topS 11
theorem scInRacks : FnScope ["batch", "place", "racks", "passed", "rack"] ["batch", "place", "racks"] (defScope sInRacks) := ⟨rfl, rfl, rfl, by decide +kernel, rfl, by decide +kernel, by decide +kernel⟩
def spInRacks : Sp := fun vs H Q _ => ∃ (b rk : Addr) (mark pl : Str) (T : Int) (ps : List Pas) (ks : List Int), vs = [.ref b, .str pl, .ref rk] ∧ BatA H b mark T ps ∧ T ≤ 10 ^ 30 ∧ (∀ p ∈ ps, p.Good T) ∧ SqH H rk (ks.map V.int) ∧ (∀ k ∈ ks, 0 ≤ k ∧ k < 10 ^ 30) ∧ ks.length ≤ 100 ∧ RetS H (RackP pl T ps ks) ks.length Q
abbrev sReach1 : Stmt := topS 13
theorem scReach1 : FnScope ["batch", "fault", "place", "first", "last", "racks", "met"] ["batch", "fault"] (defScope sReach1) := ⟨rfl, rfl, rfl, by decide +kernel, rfl, by decide +kernel, by decide +kernel⟩
def spReach1 : Sp := fun vs H Q _ => ∃ (v u : V) (b : Bat) (f : Flt), vs = [v, u] ∧ BatV H v b ∧ b.Ok ∧ FltV H u f ∧ f.Ok ∧ RetS H (ReachP b f) 30 Q
abbrev sReached : Stmt := topS 14
theorem scReached : FnScope ["batches", "faults", "told", "batch", "some", "fault", "stretch"] ["batches", "faults"] (defScope sReached) := ⟨rfl, rfl, rfl, by decide +kernel, rfl, by decide +kernel, by decide +kernel⟩
def spReached : Sp := fun vs H Q _ => ∃ (a c : Addr) (us ws : List V) (bs : List Bat) (fs : List Flt), vs = [.ref a, .ref c] ∧ SqH H a us ∧ Each BatV H us bs ∧ (∀ b ∈ bs, b.Ok) ∧ SqH H c ws ∧ Each FltV H ws fs ∧ (∀ f ∈ fs, f.Ok) ∧ bs.length ≤ 20 ∧ fs.length ≤ 20 ∧
  ∀ (l : Addr) (ys : List V) H', H l = none → H' l = some (.lst ys) → Each (RowV (fun s => H s = none ∧ s ≠ l) 600) H' ys (rowsF fs bs) → Same H H' → Q (.ref l) H'
theorem racks_in {T per n : Int} {ks : List Int} (hp : 1 ≤ per) (hk : ∀ k ∈ ks, 0 ≤ k) : InS (ks.map (rackP T per)) n ↔ (0 ≤ n ∧ n < T) ∧ n / per ∈ ks := by
  constructor
  · rintro ⟨p, hp', e⟩
    obtain ⟨k, hk', rfl⟩ := List.mem_map.mp hp'
    obtain ⟨z1, z2⟩ := (rack_in hp).mp e
    have z0 : 0 ≤ n := by
      rcases Int.lt_or_le n 0 with y | y
      · have := Int.ediv_neg_of_neg_of_pos y (show 0 < per by omega)
        have := hk k hk'
        omega
      · exact y
    exact ⟨⟨z0, z1⟩, z2 ▸ hk'⟩
  · rintro ⟨⟨z0, z1⟩, z2⟩
    exact ⟨_, List.mem_map.mpr ⟨_, z2, rfl⟩, (rack_in hp).mpr ⟨z1, rfl⟩⟩
section
variable {K : PySem.W.Frag} {mg : Str → Option Value} {P : Program} {w : World} {base : Heap}
theorem ok_inRacks {f : Addr} {fd : FuncData} (F : Fun K "tins_in_racks" "tins_in_racks" sInRacks f fd) (CA : Cal P w K mg base 1 "pass_at" ["batch", "place"] spPassAt) (CR : Cal P w K mg base 1 "tins_of_rack" ["tins", "per", "rack"] spRack) (CS : Cal P w K mg base 1 "set_of" ["pairs"] (spSetOf K)) (mL : ∃ u, mg "LINE" = some u ∧ RelV (.str "line") u) : FnOk P w K mg base CX0 2 f fd ["batch", "place", "racks"] spInRacks := by
  refine F.ok scInRacks (fun vs H Q E h => ?_) (fun cdv A outer s H vs Q E hr h => ?_)
  · obtain ⟨b, rk, mark, pl, T, ps, ks, rfl, _⟩ := h
    rfl
  · obtain ⟨b, rk, mark, pl, T, ps, ks, rfl, hB, hT, hgd, hrk, hks, hkl, q⟩ := h
    obtain ⟨uL, hL1, hL2⟩ := mL
    refine ⟨_, pss_cons (ps_set (i := 3) scInRacks.nd rfl (.inr rfl) (pe_own CA hr (by rfl) (pa_cons (pv 0) (pa_cons (pv 1) pa_nil))))
      (pss_cons (ps_if (PW.pt (pw_or (pt_cmpR op_isN (pv 3) pe_non (nomark _)) (pw_or1 (pt_cmpR op_eq (pe_ix ix_tup (pv 3) pe_int (fun _ _ => rfl)) (pe_glob (v := .str "line") (by rfl) hL1 hL2) (nomark _))))) (pss_one (ps_ret (pe_lst pa_nil))) pss_nil)
      (pss_one (ps_ret (pe_own CS hr (by rfl) (pa_cons (pe_lc (own := [("rack", 4)]) (g := gName 4) (tt := tYes) (te := tCall spRack [] E0 (tCons (tOp (rIxT K) (tVar 0) (tC (.int 1))) (tCons (tOp (rIxT K) (tVar 3) (tC (.int 2))) (tCons (tVar 4) tNil)))) rfl scInRacks.nd (pi_seq (pv 2)) (blkOk_by (own := [("rack", 4)]) (N := ["batch", "place", "racks", "passed", "rack"]) (sc := defScope sInRacks) (by decide +kernel)) (fun _ _ _ _ _ => pg_name (i := 4) scInRacks.nd rfl (.inl rfl)) (fun _ _ _ _ _ => pts_nil)
        (fun _ _ _ _ _ => pe_own CR hr (by rfl) (pa_cons (pe_ix ix_tup (pv 0) pe_int (fun _ _ => rfl)) (pa_cons (pe_ix ix_tup (pv 3) pe_int (fun _ _ => rfl)) (pa_cons (pv 4) pa_nil))))) pa_nil))))), ?_⟩
    refine ⟨_, rfl, _, rfl, b, mark, pl, T, ps, rfl, hB, fun v hv => ?_⟩
    have none_ : (∀ n, ¬ RackP pl T ps ks n) → (tRet (tLst tNil)) { nx := fun _ H' => Q .non H', rt := Q } [some (.ref b), some (.str pl), some (.ref rk), some v, none] H := fun no => by
      refine ⟨Nat.zero_le _, fun l nl => ?_⟩
      exact q l [] [] _ nl upd_same Prs.nil ⟨⟨0, True.intro⟩, fun n => ⟨fun z => absurd z inS_nil, fun z => absurd z (no n)⟩⟩ (Nat.zero_le _) (same_upd nl)
    cases hp : passF pl ps with
    | none =>
      rw [hp] at hv
      cases (show v = .non from hv)
      refine ⟨_, rfl, rfl, true, congrArg V.bl (decide_eq_true rfl), iteT (iteT (none_ fun n => ?_))⟩
      rintro ⟨_, _, _, _, e, _⟩
      rw [hp] at e
      cases e
    | some p =>
      rw [hp] at hv
      have hg := hgd p (passF_mem hp)
      have hv' : PasV H v p := hv
      obtain ⟨ab, vb, eb, hab, hvb⟩ := id hB
      cases p with
      | line p st lo by_ =>
        obtain ⟨g, rfl, eg⟩ := hv'
        refine ⟨_, rfl, rfl, false, congrArg V.bl (decide_eq_false (fun z => nomatch z)), iteF ?_⟩
        refine ⟨_, rfl, g, _, 0, .str "line", rfl, rfl, .inl (.inl eg), atI_nat (j := 0) rfl, rfl, true, congrArg V.bl (decide_eq_true rfl), iteT (none_ fun n => ?_)⟩
        rintro ⟨_, _, _, _, e, _⟩
        rw [hp] at e
        cases e
      | racks p per ss =>
        obtain ⟨g, sy, us, rfl, eg, hsy, hus⟩ := hv'
        obtain ⟨_, p0, p1, p2, p3, _⟩ := hg
        have hline : decide (V.str "racks" = V.str "line") = false := by decide +kernel
        refine ⟨_, rfl, rfl, false, congrArg V.bl (decide_eq_false (fun z => nomatch z)), iteF ?_⟩
        refine ⟨_, rfl, g, _, 0, .str "racks", rfl, rfl, .inl (.inl eg), atI_nat (j := 0) rfl, rfl, false, congrArg V.bl hline, iteF ?_⟩
        refine ⟨_, rfl, rk, rfl, seq_W (xs := ks.map V.int) hrk.sq (fun D i H' => Same H H' ∧ ∃ ys, H' D = some (.lst ys) ∧ Prs H' ys ((ks.take i).map (rackP T per))) (fun D nD => ⟨same_upd nD, [], upd_same, Prs.nil⟩) (fun D i H' nD hP => hP.1) (fun D i x H' nD hx hP => ?_) (fun D H2 nD hP => ?_)⟩
        · obtain ⟨sm, ys, eD, hys⟩ := hP
          obtain ⟨k, ek, rfl⟩ : ∃ k, ks[i]? = some k ∧ x = .int k := by
            rw [List.getElem?_map] at hx
            cases h : ks[i]? with
            | none => rw [h] at hx; cases hx
            | some n => rw [h] at hx; exact ⟨n, rfl, (Option.some.inj hx).symm⟩
          have hk := hks k (List.mem_of_getElem? ek)
          refine ⟨rfl, _, rfl, b, _, 1, .int T, rfl, rfl, .inl (.inl (sm _ _ eb)), atI_nat (j := 1) rfl, _, rfl, g, _, 2, .int per, rfl, rfl, .inl (.inl (sm _ _ eg)), atI_nat (j := 2) rfl, _, rfl, T, per, k, rfl, by omega, by omega, fun t nt => ?_⟩
          have st := same_upd (o := .tup [.int (rackP T per k).1, .int (rackP T per k).2]) nt
          have eD' := st _ _ eD
          refine ⟨ys, eD', small1000 (by rw [hys.1, List.length_map, List.length_take]; omega), fun x o e => ?_, _, upd_same, ?_⟩
          · rw [upd_ne (ne_of_none e nD)]
            exact st _ _ (sm x o e)
          · rw [List.take_add_one, ek, List.map_append]
            exact ((hys.same st).snoc upd_same).upd_lst eD'
        · obtain ⟨sm, ys, eD, hys⟩ := hP
          rw [List.length_map, List.take_length] at hys
          refine ⟨D, ys, _, rfl, Sq.list eD, hys, by rw [List.length_map]; omega, fun l ws rs H' nl el hws hset s' => ?_⟩
          refine q l ws rs H' (sm.free nl) el hws (hset.told.cong fun n => ?_) (by have := hset.len; rwa [List.length_map] at this) (sm.trans s')
          rw [racks_in p0 fun k hk => (hks k hk).1]
          unfold RackP
          rw [hp]
          exact ⟨fun ⟨z1, z2⟩ => ⟨z1, p, per, ss, rfl, z2⟩, fun ⟨z1, _, _, _, e, z2⟩ => ⟨z1, by cases e; exact z2⟩⟩
theorem ok_reach1 {f : Addr} {fd : FuncData} (F : Fun K "tins_reached" "tins_reached" sReach1 f fd) (CT : Cal P w K mg base 3 "tins_at" ["batch", "place", "first", "last"] spTinsAt) (CI : Cal P w K mg base 2 "tins_in_racks" ["batch", "place", "racks"] spInRacks) (CB : Cal P w K mg base 1 "both_of" ["one", "other"] (spBoth K)) : FnOk P w K mg base CX0 4 f fd ["batch", "fault"] spReach1 := by
  refine F.ok scReach1 (fun vs H Q E h => ?_) (fun cdv A outer s H vs Q E hr h => ?_)
  · obtain ⟨v, u, b, f, rfl, _⟩ := h
    rfl
  · obtain ⟨v, u, b, fl, rfl, ⟨ba, rfl, hB⟩, ⟨hT1, hT2, hgd, hpl⟩, ⟨fa, rk, rfl, efa, hrk⟩, ⟨hn, hfl, hks, hkl⟩, q⟩ := h
    have hr1 := hr.mono (show 1 ≤ 3 by decide)
    have hr2 := hr.mono (show 2 ≤ 3 by decide)
    refine ⟨_, pss_cons (ps_asg (pv 1) (pg_tup rfl (pgs_cons (pg_name (i := 2) scReach1.nd rfl (.inl rfl)) (pgs_cons (pg_name (i := 3) scReach1.nd rfl (.inl rfl)) (pgs_cons (pg_name (i := 4) scReach1.nd rfl (.inl rfl)) (pgs_cons (pg_name (i := 5) scReach1.nd rfl (.inl rfl)) pgs_nil))))))
      (pss_cons (ps_set (i := 6) scReach1.nd rfl (.inl rfl) (pe_own CT hr (by rfl) (pa_cons (pv 0) (pa_cons (pv 2) (pa_cons (pv 3) (pa_cons (pv 4) pa_nil))))))
      (pss_cons (ps_if (pt_not (pt_truth (pv 5) (by intro _; rfl))) (pss_one (ps_ret (pv 6))) pss_nil)
      (pss_one (ps_ret (pe_own CB hr1 (by rfl) (pa_cons (pv 6) (pa_cons (pe_own CI hr2 (by rfl) (pa_cons (pv 0) (pa_cons (pv 2) (pa_cons (pv 5) pa_nil)))) pa_nil))))))), ?_⟩
    refine ⟨_, rfl, fa, _, rfl, .inl (.inl efa), rfl, _, _, rfl, _, _, rfl, _, _, rfl, _, _, rfl, rfl, ?_⟩
    refine ⟨_, rfl, _, rfl, _, rfl, _, rfl, ba, b.mark, fl.pl, b.T, fl.first, b.ps, some fl.last, rfl, hB, hT1, hT2, hgd, hn, fun l1 ws1 rs1 H1 nl1 el1 hws1 ht1 hl1 s1 => ?_⟩
    have hrk1 := hrk.same s1
    have tru : TruV K (.ref rk) H1 (!fl.ks.isEmpty) := by
      have em : (fl.ks.map V.int).isEmpty = fl.ks.isEmpty := by cases fl.ks <;> rfl
      rcases hrk1 with h | h
      · exact .inl ⟨_, SqL.of h, by rw [em]⟩
      · exact .inr (.inl ⟨_, .inl (.inl h), by rw [em]⟩)
    refine ⟨_, rfl, _, tru, ?_⟩
    cases hk : fl.ks with
    | nil =>
      refine iteT ⟨_, rfl, ?_⟩
      exact q l1 ws1 rs1 H1 nl1 el1 hws1 (ht1.cong fun n => ⟨fun z => ⟨z, .inl hk⟩, fun z => z.1⟩) (by omega) s1
    | cons k0 kr =>
      refine iteF ?_
      refine ⟨_, rfl, _, rfl, _, rfl, _, rfl, ba, rk, b.mark, fl.pl, b.T, b.ps, fl.ks, rfl, hB.same s1, hT2, hgd, hrk1, hks, by omega, fun l2 ws2 rs2 H2 nl2 el2 hws2 ht2 hl2 s2 => ?_⟩
      refine ⟨l1, l2, rs1, rs2, rfl, ⟨_, Sq.list (s2 _ _ el1), hws1.same s2⟩, ⟨_, Sq.list el2, hws2⟩, ht1.ris, ht2.ris, by omega, fun l3 rs3 H3 nl3 ⟨ws3, el3, hws3⟩ ht3 hl3 s3 => ?_⟩
      refine q l3 ws3 rs3 H3 ((s1.trans s2).free nl3) el3 hws3 (ht3.cong fun n => ?_) (by omega) ((s1.trans s2).trans s3)
      rw [ht1.same n, ht2.same n]
      unfold ReachP
      rw [hk]
      exact ⟨fun z => ⟨z.1, .inr z.2⟩, fun z => ⟨z.1, z.2.elim (fun y => nomatch y) id⟩⟩
end

theorem RowV.upd {N : Addr → Prop} {m : Nat} {H : Hp} {v : V} {r : Str × List (Int × Int)} {l : Addr} {xs : List V} {o : HO} (h : RowV N m H v r) (e : H l = some (.lst xs)) (n : ∀ s, N s → s ≠ l) : RowV N m (L2.upd H l o) v r := by
  obtain ⟨t, s, ws, ev, ns, h1, h2, h3, h4⟩ := h
  exact ⟨t, s, ws, ev, ns, by rw [upd_ne (ne_of h1 e (fun z => nomatch z))]; exact h1, by rw [upd_ne (n s ns)]; exact h2, h3.upd_lst e, h4⟩
theorem RowV.weak {N N' : Addr → Prop} {m : Nat} {H : Hp} {v : V} {r : Str × List (Int × Int)} (h : RowV N m H v r) (n : ∀ s, N s → N' s) : RowV N' m H v r := let ⟨t, s, ws, ev, ns, h1, h2, h3, h4⟩ := h; ⟨t, s, ws, ev, n s ns, h1, h2, h3, h4⟩
theorem reachAny_take {b : Bat} {fs : List Flt} {f : Flt} {i : Nat} {n : Int} (e : fs[i]? = some f) : ReachAny b (fs.take (i + 1)) n ↔ ReachAny b (fs.take i) n ∨ ReachP b f n := by
  have et : fs.take (i + 1) = fs.take i ++ [f] := by rw [List.take_add_one, e]; rfl
  unfold ReachAny
  rw [et]
  constructor
  · rintro ⟨g, hg, z⟩
    rcases List.mem_append.mp hg with y | y
    · exact .inl ⟨g, y, z⟩
    · rw [List.mem_singleton.mp y] at z
      exact .inr z
  · rintro (⟨g, hg, z⟩ | z)
    · exact ⟨g, List.mem_append_left _ hg, z⟩
    · exact ⟨f, List.mem_append_right _ (List.mem_singleton.mpr rfl), z⟩
section
variable {K : PySem.W.Frag} {mg : Str → Option Value} {P : Program} {w : World} {base : Heap}
theorem ok_reached {f : Addr} {fd : FuncData} (F : Fun K "reached" "reached" sReached f fd) (CR : Cal P w K mg base 4 "tins_reached" ["batch", "fault"] spReach1) (CS : Cal P w K mg base 1 "set_of" ["pairs"] (spSetOf K)) : FnOk P w K mg base CX0 5 f fd ["batches", "faults"] spReached := by
  refine F.ok scReached (fun vs H Q E h => ?_) (fun cdv A outer s H vs Q E hr h => ?_)
  · obtain ⟨a, c, us, ws, bs, fs, rfl, _⟩ := h
    rfl
  · obtain ⟨a, c, us, ws, bs, fs, rfl, ha, hus, hbo, hc, hws, hfo, hbl, hfl, q⟩ := h
    have hr1 := hr.mono (show 1 ≤ 4 by decide)
    refine ⟨_, pss_cons (ps_set (i := 2) scReached.nd rfl (.inl rfl) (pe_lst pa_nil))
      (pss_cons (ps_for PassesOwn.never rfl (pi_seq (pv 0)) (pg_name (i := 3) scReached.nd rfl (.inr rfl))
        (pss_cons (ps_set (i := 4) scReached.nd rfl (.inl rfl) (pe_own CS hr1 (by rfl) (pa_cons (pe_lc2 (own := [("fault", 5), ("stretch", 6)]) (vs1 := [6]) (g := gName 5) (tt := tYes) (wi1 := iList K (tCall spReach1 [] E0 (tCons (tVar 3) (tCons (tVar 5) tNil)))) (g1 := gName 6) (tt1 := tYes) (te := tVar 6) rfl scReached.nd (pi_seq (pv 1)) (blkOk_by (own := [("fault", 5), ("stretch", 6)]) (N := ["batches", "faults", "told", "batch", "some", "fault", "stretch"]) (sc := defScope sReached) (by decide +kernel)) (by decide)
          (fun _ _ _ _ _ => pg_name (i := 5) scReached.nd rfl (.inl rfl)) (fun _ _ _ _ _ => pts_nil) (fun _ _ _ _ _ => pi_list (pe_own CR hr (by rfl) (pa_cons (pv 3) (pa_cons (pv 5) pa_nil)))) (fun _ _ _ _ _ => pg_name (i := 6) scReached.nd rfl (.inl rfl)) (fun _ _ _ _ _ => pts_nil) (fun _ _ _ _ _ => pv 6)) pa_nil)))
        (pss_one (ps_if (pt_truth (pv 4) (by intro _; rfl)) (pss_one (ps_expr (pe_bm PySem.F.plainAttrs_list PySem.F.slot_list_append PySem.F.type_list_append mt_append (pv 2) (pa_cons (pe_tup (pa_cons (pe_ix ix_tup (pv 3) pe_int (fun _ _ => rfl)) (pa_cons (pv 4) pa_nil))) pa_nil)))) pss_nil))))
      (pss_one (ps_ret (pv 2)))), ?_⟩
    refine ⟨Nat.zero_le _, fun tl ntl => ?_⟩
    have stl := same_upd (o := .lst []) ntl
    refine ⟨_, rfl, a, rfl, for_seqS (xs := us) ha.sq stl (fun i σ Hx => ∃ (ys : List V) (y3 y4 : Option V), σ = [some (.ref a), some (.ref c), some (.ref tl), y3, y4, none, none] ∧ Same H Hx ∧ Hx tl = some (.lst ys) ∧ Each (RowV (fun s => H s = none ∧ s ≠ tl) 600) Hx ys (rowsF fs (bs.take i)))
      ⟨[], _, _, rfl, stl, upd_same, Each.nil⟩ (fun i σ Hx hP => ?_) (fun i v σ Hx hx hP => ?_) (fun σ Hx hP => ?_)⟩
    · obtain ⟨_, _, _, rfl, sx, _⟩ := hP
      exact sx
    · obtain ⟨ys, y3, y4, rfl, sx, etl, hys⟩ := hP
      obtain ⟨b, eb, hbv⟩ := hus.at hx
      have hb := hbo b (List.mem_of_getElem? eb)
      have hi : i < bs.length := (List.getElem?_eq_some_iff.mp eb).1
      have etake : rowsF fs (bs.take (i + 1)) = rowsF fs (bs.take i) ++ (if canon (ReachAny b fs) = [] then [] else [(b.mark, canon (ReachAny b fs))]) := by
        rw [List.take_add_one, eb]
        exact rowsF_snoc _
      refine ⟨_, rfl, c, rfl, seq_W (xs := ws) (hc.same sx).sq (fun D j H' => Same Hx H' ∧ ∃ zs qs, H' D = some (.lst zs) ∧ Prs H' zs qs ∧ (∀ n, InS qs n ↔ ReachAny b (fs.take j) n) ∧ qs.length ≤ 30 * j)
        (fun D nD => ⟨same_upd nD, [], [], upd_same, Prs.nil, (fun n => ⟨fun z => absurd z inS_nil, fun ⟨_, z, _⟩ => nomatch z⟩), Nat.le_refl _⟩) (fun D j H' nD hP => hP.1) (fun D j x H' nD hx' hP => ?_) (fun D H2 nD hP => ?_)⟩
      · obtain ⟨sm, zs, qs, eD, hzs, hin, hql⟩ := hP
        obtain ⟨fl, ef, hfv⟩ := hws.at hx'
        have hf := hfo fl (List.mem_of_getElem? ef)
        have hj : j < fs.length := (List.getElem?_eq_some_iff.mp ef).1
        have S := sx.trans sm
        refine ⟨rfl, _, rfl, _, rfl, v, x, b, fl, rfl, hbv.same S, hb, hfv.same S, hf, fun l1 ws1 rs1 H1 nl1 el1 hws1 ht1 hl1 s1 => ?_⟩
        have nDl : D ≠ l1 := ne_of_none eD nl1
        refine ⟨l1, rfl, ⟨_, SqL.of el1⟩, list_W (xs := ws1) (fun k H' => Same Hx H' ∧ H' l1 = some (.lst ws1) ∧ Prs H' ws1 rs1 ∧ H' D = some (.lst (zs ++ ws1.take k)) ∧ Prs H' zs qs) ⟨sm.trans s1, el1, hws1, by rw [List.take_zero, List.append_nil]; exact s1 _ _ eD, hzs.same s1⟩ (fun k H' hP => SqL.of hP.2.1) (fun k x H' hx2 hP => ?_) (fun H' hP => ?_)⟩
        · obtain ⟨g1, g2, g3, g4, g5⟩ := hP
          have hk : k < ws1.length := (List.getElem?_eq_some_iff.mp hx2).1
          refine ⟨rfl, _, rfl, _, g4, small1000 (by have := hzs.1; have := hws1.1; rw [List.length_append, List.length_take]; omega), fun y o e => ?_, ?_, g3.upd_lst g4, ?_, g5.upd_lst g4⟩
          · rw [upd_ne (ne_of_none e nD)]
            exact g1 y o e
          · rw [upd_ne nDl.symm]
            exact g2
          · rw [upd_same, List.take_add_one, hx2, List.append_assoc]
            rfl
        · obtain ⟨g1, g2, g3, g4, g5⟩ := hP
          rw [List.take_length] at g4
          refine ⟨g1, zs ++ ws1, qs ++ rs1, g4, g5.append g3, fun n => ?_, by rw [List.length_append]; omega⟩
          rw [inS_append, hin n, ht1.same n]
          exact (reachAny_take ef).symm
      · obtain ⟨sm, zs, qs, eD, hzs, hin, hql⟩ := hP
        rw [hws.1, List.take_length] at hin
        rw [hws.1] at hql
        refine ⟨D, zs, qs, rfl, Sq.list eD, hzs, by omega, fun l2 ws2 rs2 H3 nl2 el2 hws2 hset s3 => ?_⟩
        have ht : Told (ReachAny b fs) rs2 := hset.told.cong hin
        have ec := ht.canon
        have S := sm.trans s3
        have etl3 := S _ _ etl
        have hys3 : Each (RowV (fun s => H s = none ∧ s ≠ tl) 600) H3 ys (rowsF fs (bs.take i)) := hys.mono fun v x _ z => z.same S
        have hyl := hys.1
        have hrl := rowsF_len (fs := fs) (bs.take i)
        rw [List.length_take] at hrl
        refine ⟨_, rfl, !ws2.isEmpty, .inl ⟨_, SqL.of el2, rfl⟩, ?_⟩
        cases hw : ws2 with
        | nil =>
          have er : rs2 = [] := List.eq_nil_of_length_eq_zero (by rw [← hws2.1, hw]; rfl)
          refine iteF ⟨ys, _, _, rfl, sx.trans S, etl3, ?_⟩
          rw [etake, if_pos (by rw [← ec]; exact er), List.append_nil]
          exact hys3
        | cons w0 wr =>
          have er : ¬ rs2 = [] := fun z => by
            have := hws2.1
            rw [hw, z] at this
            cases this
          refine iteT ?_
          obtain ⟨ba, rfl, hBA⟩ := hbv
          obtain ⟨ab, vb, eba, _⟩ := hBA.same (sx.trans S)
          refine ⟨_, rfl, .inl ⟨rfl, _, SqL.of etl3⟩, _, rfl, ba, _, 0, .str b.mark, rfl, rfl, .inl (.inl eba), atI_nat (j := 0) rfl, _, rfl, (by show 2 ≤ sizeLine; decide), fun t nt => ?_⟩
          have st := same_upd (o := .tup [.str b.mark, .ref l2]) nt
          have etl4 := st _ _ etl3
          have nl2' : H l2 = none ∧ l2 ≠ tl := ⟨(sx.trans sm).free nl2, fun z => by rw [z, sm _ _ etl] at nl2; cases nl2⟩
          have hrow : RowV (fun s => H s = none ∧ s ≠ tl) 600 (upd H3 t (.tup [.str b.mark, .ref l2])) (.ref t) (b.mark, canon (ReachAny b fs)) := ⟨t, l2, ws2, rfl, nl2', upd_same, st _ _ el2, by rw [← ec]; exact hws2.same st, by rw [← ec]; have := hset.len; show rs2.length ≤ 600; omega⟩
          refine ⟨tl, _, _, rfl, rfl, etl4, small1000 (by omega), ys ++ [.ref t], _, _, rfl, fun y o e => ?_, upd_same, ?_⟩
          · rw [upd_ne (ne_of_none e ntl)]
            exact st _ _ ((sx.trans S) y o e)
          · rw [etake, if_neg (by rw [← ec]; exact er)]
            exact ((hys3.mono fun v x _ z => z.same st).app (Each.one hrow)).mono fun v x _ z => z.upd etl4 fun s hs => hs.2
    · obtain ⟨ys, y3, y4, rfl, sx, etl, hys⟩ := hP
      rw [hus.1, List.take_length] at hys
      exact ⟨_, rfl, q tl ys Hx ntl etl hys sx⟩
end

/-! ### faults drawn -/
def FltN (N : Addr → Prop) (H : Hp) (v : V) (f : Flt) : Prop := ∃ a rk, v = .ref a ∧ H a = some (.tup [.str f.pl, .int f.first, .int f.last, .ref rk]) ∧ H rk = some (.lst (f.ks.map V.int)) ∧ N rk
theorem FltN.flt {N : Addr → Prop} {H : Hp} {v : V} {f : Flt} (h : FltN N H v f) : FltV H v f := let ⟨a, rk, e, h1, h2, _⟩ := h; ⟨a, rk, e, h1, .inl h2⟩
theorem FltN.same {N : Addr → Prop} {H H' : Hp} {v : V} {f : Flt} (h : FltN N H v f) (s : Same H H') : FltN N H' v f := let ⟨a, rk, e, h1, h2, h3⟩ := h; ⟨a, rk, e, s _ _ h1, s _ _ h2, h3⟩
theorem FltN.weak {N N' : Addr → Prop} {H : Hp} {v : V} {f : Flt} (h : FltN N H v f) (n : ∀ x, N x → N' x) : FltN N' H v f := let ⟨a, rk, e, h1, h2, h3⟩ := h; ⟨a, rk, e, h1, h2, n _ h3⟩
theorem FltN.kp {N : Addr → Prop} {H H' : Hp} {d c : Addr} {t : Int} {v : V} {f : Flt} (h : FltN N H v f) (n : ∀ x, N x → x ≠ c) (S : StAt H d c t) (k : Kp d c H H') : FltN N H' v f := by
  obtain ⟨a, rk, e, h1, h2, h3⟩ := h
  refine ⟨a, rk, e, k.tup S h1, k _ _ (fun z => ?_) (n _ h3) h2, h3⟩
  rw [z, S.dict] at h2
  cases h2
theorem FltN.upd {N : Addr → Prop} {H : Hp} {v : V} {f : Flt} {l : Addr} {xs : List V} {o : HO} (h : FltN N H v f) (n : ∀ x, N x → x ≠ l) (e : H l = some (.lst xs)) : FltN N (L2.upd H l o) v f := by
  obtain ⟨a, rk, ev, h1, h2, h3⟩ := h
  exact ⟨a, rk, ev, by rw [upd_ne (ne_of h1 e (fun z => nomatch z))]; exact h1, by rw [upd_ne (n _ h3)]; exact h2, h3⟩
theorem BatV.kp {H H' : Hp} {d c : Addr} {t : Int} {v : V} {b : Bat} (h : BatV H v b) (S : StAt H d c t) (k : Kp d c H H') : BatV H' v b := let ⟨a, e, h⟩ := h; ⟨a, e, h.kp S k⟩
theorem noInt_bats {H : Hp} {us : List V} {bs : List Bat} (h : Each BatV H us bs) : NoInt us := fun x hx i e => by
  obtain ⟨j, hj, e1⟩ := List.getElem_of_mem hx
  obtain ⟨_, _, a, rfl, _⟩ := h.at (by rw [List.getElem?_eq_getElem hj, e1])
  cases e
theorem noInt_flts {N : Addr → Prop} {H : Hp} {us : List V} {fs : List Flt} (h : Each (FltN N) H us fs) : NoInt us := fun x hx i e => by
  obtain ⟨j, hj, e1⟩ := List.getElem_of_mem hx
  obtain ⟨_, _, a, _, rfl, _⟩ := h.at (by rw [List.getElem?_eq_getElem hj, e1])
  cases e
abbrev sFaultsBy : Stmt := topS 29
theorem scFaultsBy : FnScope ["_law_state", "_law_batches", "_law_places", "_law_many", "_law_made", "_law_turn", "_law_place", "_law_first", "_law_last", "_law_racks", "_law_far", "_law_k"] ["_law_state", "_law_batches", "_law_places", "_law_many"] (defScope sFaultsBy) := ⟨rfl, rfl, rfl, by decide +kernel, rfl, by decide +kernel, by decide +kernel⟩
def Flt.Low (f : Flt) : Prop := (0 ≤ f.first ∧ f.first ≤ MB) ∧ f.last ≤ MB + 100 ∧ f.first ≤ f.last ∧ (∀ k ∈ f.ks, 0 ≤ k ∧ k < 10 ^ 30) ∧ f.ks.length ≤ 13
theorem Flt.Low.ok {f : Flt} (h : f.Low) : f.Ok := by
  obtain ⟨h1, h2, h3, h4, h5⟩ := h
  unfold MB at h1 h2
  exact ⟨⟨by omega, fun l e => by cases e; omega⟩, h3, h4, h5⟩
def spFaultsBy : Sp := fun vs H Q _ => ∃ (d c lb lp : Addr) (us : List V) (bs : List Bat) (xs : List Str) (t m : Int), vs = [.ref d, .ref lb, .ref lp, .int m] ∧ StAt H d c t ∧ t + 3000 < 2 ^ 60 ∧ H lb = some (.lst us) ∧ Each BatV H us bs ∧ (∀ b ∈ bs, b.Ok) ∧ bs ≠ [] ∧ bs.length ≤ 20 ∧ H lp = some (.lst (xs.map V.str)) ∧ xs ≠ [] ∧ xs.length ≤ 20 ∧ (∀ x ∈ xs, PyData.strOk x = true) ∧ 0 ≤ m ∧ m ≤ 12 ∧
  ∀ (l : Addr) (ws : List V) (fs : List Flt) (t' : Int) H', H l = none → H' l = some (.lst ws) → Each (FltN (fun x => x ≠ c ∧ H x = none)) H' ws fs → (∀ f ∈ fs, f.Low) → (∀ f ∈ fs, PyData.strOk f.pl = true) → (fs.length : Int) = m → t ≤ t' → t' ≤ t + 100 * m → StAt H' d c t' → Kp d c H H' → Q (.ref l) H'
def FbW (H : Hp) (d c lb lp pa : Addr) (m t : Int) (i : Nat) (σ : L2.St) (Hx : Hp) : Prop := ∃ (t' : Int) (ws : List V) (fs : List Flt) (y5 y6 y7 y8 y9 y10 : Option V), σ = [some (.ref d), some (.ref lb), some (.ref lp), some (.int m), some (.ref pa), y5, y6, y7, y8, y9, y10, none] ∧ Hx pa = some (.lst ws) ∧ Each (FltN (fun x => (x ≠ c ∧ H x = none) ∧ x ≠ pa)) Hx ws fs ∧ (∀ f ∈ fs, f.Low) ∧ (∀ f ∈ fs, PyData.strOk f.pl = true) ∧ fs.length = i ∧ t ≤ t' ∧ t' ≤ t + 100 * i ∧ StAt Hx d c t' ∧ Kp d c H Hx
section
variable {K : PySem.W.Frag} {mg : Str → Option Value} {P : Program} {w : World} {base : Heap}
theorem ok_faultsBy {f : Addr} {fd : FuncData} {km : Nat} (F : Fun K "_law_faults_by" "_law_faults_by" sFaultsBy f fd) (hkm : 2 ≤ km) (CT : Cal P w K mg base 1 "_law_take" ["_law_state", "_law_many"] spTake) (CN : Cal P w K mg base 2 "_law_number" ["_law_state", "_law_sort"] spNumber) (CI : Cal P w K mg base km "_law_minutes" ["_law_state", "_law_batch", "_law_place"] spMin) (mr : mg "range" = none) (me : mg "len" = none) : FnOk P w K mg base CX0 (km + 1) f fd ["_law_state", "_law_batches", "_law_places", "_law_many"] spFaultsBy := by
  refine F.ok scFaultsBy (fun vs H Q E h => ?_) (fun cdv A outer s H vs Q E hr h => ?_)
  · obtain ⟨d, c, lb, lp, us, bs, xs, t, m, rfl, _⟩ := h
    rfl
  · obtain ⟨d, c, lb, lp, us, bs, xs, t, m, rfl, hS, ht, elb, hus, hbo, hbn, hbl, elp, hxn, hxl, hxo, hm0, hm1, q⟩ := h
    have hr1 := hr.mono (show 1 ≤ km by omega)
    have hr2 := hr.mono hkm
    refine ⟨_, pss_cons (ps_set (i := 4) scFaultsBy.nd rfl (.inl rfl) (pe_lst pa_nil))
      (pss_cons (ps_for PassesOwn.never rfl (pi_range1 rfl mr (pa_cons (pv 3) pa_nil)) (pg_name (i := 5) scFaultsBy.nd rfl (.inl rfl))
        (pss_cons (ps_set (i := 6) scFaultsBy.nd rfl (.inl rfl) (pe_ix ix_list (pv 2) (pe_own CT hr1 (by rfl) (pa_cons (pv 0) (pa_cons (pe_callB call_len_seq (by rfl) me PySem.boot_len (pa_cons (pv 2) pa_nil)) pa_nil))) (fun _ _ => rfl)))
        (pss_cons (ps_asg (pe_own CI hr (by rfl) (pa_cons (pv 0) (pa_cons (pe_ix ix_list (pv 1) (pe_own CT hr1 (by rfl) (pa_cons (pv 0) (pa_cons (pe_callB call_len_seq (by rfl) me PySem.boot_len (pa_cons (pv 1) pa_nil)) pa_nil))) (fun _ _ => rfl)) (pa_cons (pv 6) pa_nil)))) (pg_tup rfl (pgs_cons (pg_name (i := 7) scFaultsBy.nd rfl (.inl rfl)) (pgs_cons (pg_name (i := 8) scFaultsBy.nd rfl (.inl rfl)) pgs_nil))))
        (pss_cons (ps_set (i := 8) scFaultsBy.nd rfl (.inl rfl) (pe_mid (pe_ifExp (PW.pt (pw_or (pt_cmpR op_isN (pv 8) pe_non (nomark _)) (pw_or1 (pt_cmpR op_gt (pv 7) (pv 8) (nomark _))))) (pe_op op_add (pv 7) (pe_own CT hr1 (by rfl) (pa_cons (pv 0) (pa_cons pe_int pa_nil)))) (pv 8))))
        (pss_cons (ps_setLc (i := 9) (own := [("_law_k", 11)]) (g := gName 11) (tt := tYes) (te := tCall spTake [] E0 (tCons (tVar 0) (tCons (tC (.int 13)) tNil))) rfl scFaultsBy.nd rfl rfl (sw_true rfl rfl rfl (by decide +kernel)) (pi_range1 rfl mr (pa_cons (pe_own CT hr1 (by rfl) (pa_cons (pv 0) (pa_cons pe_int pa_nil))) pa_nil))
            (blkOk_by (own := [("_law_k", 11)]) (N := ["_law_state", "_law_batches", "_law_places", "_law_many", "_law_made", "_law_turn", "_law_place", "_law_first", "_law_last", "_law_racks", "_law_far", "_law_k"]) (sc := defScope sFaultsBy) (by decide +kernel)) (fun _ _ _ _ _ => pg_name (i := 11) scFaultsBy.nd rfl (.inl rfl)) (fun _ _ _ _ _ => pts_nil) (fun _ _ _ _ _ => pe_own CT hr1 (by rfl) (pa_cons (pv 0) (pa_cons pe_int pa_nil))))
        (pss_cons (ps_set (i := 10) scFaultsBy.nd rfl (.inl rfl) (pe_op op_rep (pe_lst (pa_cons (pe_own CN hr2 (by rfl) (pa_cons (pv 0) (pa_cons pe_int pa_nil))) pa_nil)) (pe_own CT hr1 (by rfl) (pa_cons (pv 0) (pa_cons pe_int pa_nil)))))
        (pss_cons (ps_set (i := 9) scFaultsBy.nd rfl (.inl rfl) (pe_ix ix_list (pe_lst (pa_cons (pe_lst pa_nil) (pa_cons (pe_lst pa_nil) (pa_cons (pe_op op_cat (pe_lst (pa_cons (pe_own CT hr1 (by rfl) (pa_cons (pv 0) (pa_cons pe_int pa_nil))) pa_nil)) (pv 10)) (pa_cons (pv 9) pa_nil))))) (pe_own CT hr1 (by rfl) (pa_cons (pv 0) (pa_cons pe_int pa_nil))) (fun _ _ => rfl)))
        (pss_one (ps_expr (pe_bm PySem.F.plainAttrs_list PySem.F.slot_list_append PySem.F.type_list_append mt_append (pv 4) (pa_cons (pe_tup (pa_cons (pv 6) (pa_cons (pv 7) (pa_cons (pv 8) (pa_cons (pv 9) pa_nil))))) pa_nil)))))))))))
      (pss_one (ps_ret (pv 4)))), ?_⟩
    refine ⟨Nat.zero_le _, fun pa npa => ?_⟩
    have spa := same_upd (o := .lst []) npa
    have offp := hS.off npa
    have hul := hus.1
    have hbp : 0 < bs.length := List.length_pos_iff.mpr hbn
    have hxp : 0 < xs.length := List.length_pos_iff.mpr hxn
    refine ⟨_, rfl, m, rfl, by omega, by omega, for_range (n := m.toNat) (FbW H d c lb lp pa m t) ⟨t, [], [], _, _, _, _, _, _, rfl, upd_same, Each.nil, (fun _ z => nomatch z), (fun _ z => nomatch z), rfl, by omega, by omega, hS.same spa, Kp.same d c spa⟩ (fun i σ Hx hi hP => ?_) (fun σ Hx hP => ?_)⟩
    · obtain ⟨t', ws, fs, y5, y6, y7, y8, y9, y10, rfl, epa, hws, hfl, hfo, hfsl, u0, u1, hSx, kx⟩ := hP
      have elpx := kx.lst hS elp (noInt_strs xs)
      -- place
      have exl : (xs.map V.str).length = xs.length := List.length_map ..
      refine ⟨_, rfl, _, rfl, _, rfl, lp, _, rfl, Sq.list elpx, d, c, t', (xs.length : Int), by rw [exl]; rfl, hSx, by omega, by omega, by omega, fun r1 H1 r10 r11 hS1 k1 => ?_⟩
      obtain ⟨n1, rfl⟩ := Int.eq_ofNat_of_zero_le r10
      have hn1 : n1 < xs.length := by omega
      obtain ⟨pl, epl⟩ : ∃ pl, xs[n1]? = some pl := ⟨_, List.getElem?_eq_getElem hn1⟩
      have elp1 := k1.lst hSx elpx (noInt_strs xs)
      refine ⟨lp, _, (n1 : Int), .str pl, rfl, rfl, SqL.of elp1, atI_nat (by rw [List.getElem?_map, epl]; rfl), ?_⟩
      have kx1 := kx.trans k1
      have elb1 := kx1.lst hS elb (noInt_bats hus)
      -- minutes
      refine ⟨_, rfl, _, rfl, _, rfl, _, rfl, lb, _, rfl, Sq.list elb1, d, c, t' + 1, (us.length : Int), rfl, hS1, by omega, by omega, by omega, fun r2 H2 r20 r21 hS2 k2 => ?_⟩
      obtain ⟨n2, rfl⟩ := Int.eq_ofNat_of_zero_le r20
      have hn2 : n2 < us.length := by omega
      have eu2 : us[n2]? = some us[n2] := List.getElem?_eq_getElem hn2
      have kx2 := kx1.trans k2
      have elb2 := kx2.lst hS elb (noInt_bats hus)
      obtain ⟨b, eb, hbv⟩ := hus.at eu2
      obtain ⟨ba, eba, hBA⟩ := hbv.kp hS kx2
      have hb := hbo b (List.mem_of_getElem? eb)
      refine ⟨lb, us, (n2 : Int), us[n2], rfl, rfl, SqL.of elb2, atI_nat eu2, ?_⟩
      rw [eba]
      refine ⟨_, rfl, d, c, ba, t' + 1 + 1, b.T, b.mark, pl, b.ps, rfl, hS2, by omega, hBA, hb.1, hb.2.1, hb.2.2.1, fun am first t3 last H3 eam hin w0 w1 hS3 k3 => ?_⟩
      refine ⟨am, _, rfl, .inl (.inl eam), rfl, _, _, rfl, _, _, rfl, rfl, ?_⟩
      have kx3 := kx2.trans k3
      -- last
      refine ⟨fun v H' => ∃ la t4, v = .int la ∧ (first ≤ la ∧ la ≤ MB + 100) ∧ t3 ≤ t4 ∧ t4 ≤ t3 + 1 ∧ StAt H' d c t4 ∧ Kp d c H3 H', ?_, ?_⟩
      · have hin' := hin
        unfold In0 at hin'
        cases last with
        | none =>
          refine ⟨_, rfl, rfl, true, congrArg V.bl (decide_eq_true rfl), iteT (iteT ?_)⟩
          exact ⟨_, rfl, _, rfl, d, c, t3, 99, rfl, hS3, by omega, by decide, by decide, fun r H4 r0 r1 hS4 k4 => ⟨first, r, rfl, rfl, first + r, t3 + 1, rfl, ⟨by omega, by omega⟩, by omega, by omega, hS4, k4⟩⟩
        | some la =>
          have := hin'.2 la rfl
          refine ⟨_, rfl, rfl, false, congrArg V.bl (decide_eq_false (fun z => nomatch z)), iteF ?_⟩
          refine ⟨_, rfl, _, rfl, first, la, rfl, rfl, _, rfl, ite2 (fun c1 => ?_) (fun c1 => ?_)⟩
          · exact ⟨_, rfl, _, rfl, d, c, t3, 99, rfl, hS3, by omega, by decide, by decide, fun r H4 r0 r1 hS4 k4 => ⟨first, r, rfl, rfl, first + r, t3 + 1, rfl, ⟨by omega, by omega⟩, by omega, by omega, hS4, k4⟩⟩
          · have c1' : ¬ first > la := fun z => c1 (decide_eq_true z)
            exact ⟨_, rfl, la, t3, rfl, ⟨by omega, by omega⟩, by omega, by omega, hS3, Kp.refl d c _⟩
      rintro v H4 ⟨la, t4, rfl, ⟨hla0, hla1⟩, v0, v1, hS4, k4⟩
      have kx4 := kx3.trans k4
      -- racks
      refine ⟨_, rfl, d, c, t4, 13, rfl, hS4, by omega, by decide, by decide, fun rr H5 rr0 rr1 hS5 k5 => ⟨rr, rfl, by omega, by omega, fun D nD => ?_⟩⟩
      have offD := hS5.off nD
      have kx5 := kx4.trans k5
      have nDH : H D = none := Kp.free kx5 hS5 nD
      refine lc_range (n := rr.toNat) (fun m H' => ∃ (t' : Int) (ks : List Int), H' D = some (.lst (ks.map V.int)) ∧ ks.length = m ∧ (∀ k ∈ ks, 0 ≤ k ∧ k < 13) ∧ t4 + 1 ≤ t' ∧ t' ≤ t4 + 1 + m ∧ StAt H' d c t' ∧ Kp d c H5 H') ⟨t4 + 1, [], upd_same, rfl, (fun _ z => nomatch z), by omega, by omega, hS5.same (same_upd nD), Kp.same d c (same_upd nD)⟩ (fun m H' hm hP => ?_) (fun H6 hP => ?_)
      · obtain ⟨t', ks, eD, hkl, hks, x0, x1, hS', k'⟩ := hP
        refine ⟨rfl, _, rfl, d, c, t', 13, rfl, hS', by omega, by decide, by decide, fun r2 H3 r20 r21 hS3 k3 => ?_⟩
        have eD3 := k3 _ _ offD.1 offD.2 eD
        refine ⟨_, eD3, small1000 (by rw [List.length_map]; omega), t' + 1, ks ++ [r2], by rw [upd_same, List.map_append]; rfl, by rw [List.length_append, hkl]; rfl, fun x hx => ?_, by omega, by omega, hS3.upd offD.1 offD.2, fun b o b1 b2 e => ?_⟩
        · rcases List.mem_append.mp hx with z | z
          · exact hks x z
          · rw [List.mem_singleton.mp z]; exact ⟨r20, r21⟩
        · rw [upd_ne (ne_of_none e nD)]
          exact k3 b o b1 b2 (k' b o b1 b2 e)
      obtain ⟨t6, ks, eD, hkl, hks, x0, x1, hS6, k6'⟩ := hP
      have kx6 := kx5.trans k6'
      -- far
      refine ⟨_, rfl, d, c, t6, 3, rfl, hS6, by omega, by decide, fun fr t7 H7 fr0 fr1 t70 t71 hS7 k7 => ⟨(by show 1 ≤ sizeLine; decide), fun z1 nz1 => ?_⟩⟩
      have sz1 := same_upd (o := .lst [.int fr]) nz1
      have offz1 := hS7.off nz1
      refine ⟨_, rfl, d, c, t7, 2, rfl, hS7.same sz1, by omega, by decide, by decide, fun r8 H8 r80 r81 hS8 k8 => ?_⟩
      have kz := (Kp.same d c sz1).trans k8
      have ez1 := k8 _ _ offz1.1 offz1.2 (upd_same (H := H7) (a := z1) (o := .lst [.int fr]))
      have hrep : ([V.int fr].length) * r8.toNat ≤ sizeLine := Nat.le_trans (show 1 * r8.toNat ≤ 2 by omega) (by decide)
      refine ⟨z1, r8, _, rfl, rfl, ez1, by omega, by omega, hrep, fun z2 nz2 => ?_⟩
      obtain ⟨far, efar, hfar, hfarl⟩ : ∃ far : List Int, (List.replicate r8.toNat [V.int fr]).flatten = far.map V.int ∧ (∀ k ∈ far, 0 ≤ k ∧ k < 10 ^ 30) ∧ far.length ≤ 2 := by
        refine ⟨List.replicate r8.toNat fr, ?_, fun k hk => ?_, by rw [List.length_replicate]; omega⟩
        · have : r8 = 0 ∨ r8 = 1 := by omega
          rcases this with rfl | rfl <;> rfl
        · rw [(List.mem_replicate.mp hk).2]
          exact ⟨fr0, fr1⟩
      rw [efar]
      have sz2 := same_upd (o := .lst (far.map V.int)) nz2
      have kx8 := (kx6.trans k7).trans kz
      have fr : ∀ {Hn : Hp} {tn : Int} {z : Addr}, StAt Hn d c tn → Kp d c H Hn → Hn pa = some (.lst ws) → Hn z = none → (z ≠ c ∧ H z = none) ∧ z ≠ pa := fun S k e n => ⟨⟨(S.off n).2, Kp.free k S n⟩, fun h => by rw [h] at n; rw [n] at e; cases e⟩
      have k08 : Kp d c Hx H8 := (((((k1.trans k2).trans k3).trans k4).trans k5).trans k6').trans (k7.trans kz)
      have epa8 := k08 _ _ offp.1 offp.2 epa
      have frD := fr hS5 kx5 ((((((k1.trans k2).trans k3).trans k4).trans k5)) _ _ offp.1 offp.2 epa) nD
      have eD8 := (k7.trans kz) _ _ offD.1 offD.2 eD
      -- racks again
      refine ⟨Nat.zero_le _, fun z3 nz3 => ⟨Nat.zero_le _, fun z4 nz4 => ?_⟩⟩
      have sz3 := same_upd (o := .lst []) nz3
      have sz4 := same_upd (o := .lst []) nz4
      have S9 := (sz2.trans sz3).trans sz4
      have hS9 := hS8.same S9
      have kx9 := kx8.trans (Kp.same d c S9)
      have epa9 := S9 _ _ epa8
      have fr3 := fr (hS8.same sz2) (kx8.trans (Kp.same d c sz2)) (sz2 _ _ epa8) nz3
      have fr4 := fr ((hS8.same sz2).same sz3) ((kx8.trans (Kp.same d c sz2)).trans (Kp.same d c sz3)) ((sz2.trans sz3) _ _ epa8) nz4
      have off2 := hS8.off nz2
      have off3 := (hS8.same sz2).off nz3
      have off4 := ((hS8.same sz2).same sz3).off nz4
      have ez2 := (sz3.trans sz4) _ _ (upd_same (H := H8) (a := z2) (o := .lst (far.map V.int)))
      have ez3 := sz4 _ _ (upd_same (H := upd H8 z2 (.lst (far.map V.int))) (a := z3) (o := .lst []))
      have ez4 := upd_same (H := upd (upd H8 z2 (.lst (far.map V.int))) z3 (.lst [])) (a := z4) (o := .lst [])
      have eD9 := S9 _ _ eD8
      revert hS9 kx9 epa9 ez2 ez3 ez4 eD9 S9
      generalize upd (upd (upd H8 z2 (.lst (far.map V.int))) z3 (.lst [])) z4 (.lst []) = H9
      intro S9 hS9 kx9 epa9 ez2 ez3 ez4 eD9
      refine ⟨_, rfl, d, c, t7 + 1, 4, rfl, hS9, by omega, by decide, by decide, fun r10 H10 r100 r101 hS10 k10 => ⟨(by show 1 ≤ sizeLine; decide), fun z5 nz5 => ?_⟩⟩
      have sz5 := same_upd (o := .lst [.int r10]) nz5
      have ez2' := sz5 _ _ (k10 _ _ off2.1 off2.2 ez2)
      have hcl : [V.int r10].length + (far.map V.int).length ≤ sizeLine := by
        rw [List.length_map]
        exact Nat.le_trans (show 1 + far.length ≤ 3 by omega) (by decide)
      refine ⟨_, rfl, z5, z2, _, _, rfl, rfl, upd_same, ez2', hcl, fun z6 nz6 => ?_⟩
      have sz6 := same_upd (o := .lst ([.int r10] ++ far.map V.int)) nz6
      refine ⟨_, rfl, (by show 4 ≤ sizeLine; decide), fun z7 nz7 => ?_⟩
      have sz7 := same_upd (o := .lst [.ref z3, .ref z4, .ref z6, .ref D]) nz7
      have S10 := (sz5.trans sz6).trans sz7
      have epa10 := k10 _ _ offp.1 offp.2 epa9
      have fr6 := fr (hS10.same sz5) ((kx9.trans k10).trans (Kp.same d c sz5)) (sz5 _ _ epa10) nz6
      have off6 := (hS10.same sz5).off nz6
      have off7 := ((hS10.same sz5).same sz6).off nz7
      have hS11' := hS10.same S10
      refine ⟨_, rfl, d, c, t7 + 1 + 1, 4, rfl, hS11', by omega, by decide, by decide, fun r11 H11 r110 r111 hS11 k11 => ?_⟩
      have kk := (Kp.same d c S10).trans k11
      have k1011 := k10.trans kk
      have ez6 := k11 _ _ off6.1 off6.2 (sz7 _ _ (upd_same (H := upd H10 z5 (.lst [.int r10])) (a := z6) (o := .lst ([.int r10] ++ far.map V.int))))
      have ez7 := k11 _ _ off7.1 off7.2 (upd_same (H := upd (upd H10 z5 (.lst [.int r10])) z6 (.lst ([.int r10] ++ far.map V.int))) (a := z7) (o := .lst [.ref z3, .ref z4, .ref z6, .ref D]))
      obtain ⟨rk, ks', hat, erk, hk', hkl', frk⟩ : ∃ (rk : Addr) (ks' : List Int), atI [V.ref z3, V.ref z4, V.ref z6, V.ref D] r11 = some (.ref rk) ∧ H11 rk = some (.lst (ks'.map V.int)) ∧ (∀ k ∈ ks', 0 ≤ k ∧ k < 10 ^ 30) ∧ ks'.length ≤ 13 ∧ ((rk ≠ c ∧ H rk = none) ∧ rk ≠ pa) := by
        have : r11 = 0 ∨ r11 = 1 ∨ r11 = 2 ∨ r11 = 3 := by omega
        rcases this with rfl | rfl | rfl | rfl
        · exact ⟨z3, [], rfl, k1011 _ _ off3.1 off3.2 ez3, (fun _ z => nomatch z), by decide, fr3⟩
        · exact ⟨z4, [], rfl, k1011 _ _ off4.1 off4.2 ez4, (fun _ z => nomatch z), by decide, fr4⟩
        · refine ⟨z6, r10 :: far, rfl, ez6, fun k hk => ?_, by rw [List.length_cons]; omega, fr6⟩
          rcases List.mem_cons.mp hk with z | z
          · rw [z]; exact ⟨r100, by omega⟩
          · exact hfar k z
        · exact ⟨D, ks, rfl, k1011 _ _ offD.1 offD.2 eD9, fun k hk => by have := hks k hk; omega, by omega, frD⟩
      refine ⟨z7, _, r11, .ref rk, rfl, rfl, SqL.of ez7, hat, ?_⟩
      have k0 : Kp d c Hx H11 := (k08.trans (Kp.same d c S9)).trans k1011
      have epa11 := k0 _ _ offp.1 offp.2 epa
      have hws11 : Each (FltN (fun x => (x ≠ c ∧ H x = none) ∧ x ≠ pa)) H11 ws fs := hws.mono fun v x _ z => z.kp (fun _ h => h.1.1) hSx k0
      refine ⟨_, rfl, .inl ⟨rfl, _, SqL.of epa11⟩, _, rfl, _, rfl, _, rfl, _, rfl, (by show 4 ≤ sizeLine; decide), fun tf ntf => ?_⟩
      have stf := same_upd (o := .tup [.str pl, .int first, .int la, .ref rk]) ntf
      have epa12 := stf _ _ epa11
      have hwl := hws.1
      refine ⟨pa, _, _, rfl, rfl, epa12, small1000 (by omega), t7 + 1 + 1 + 1, ws ++ [.ref tf], fs ++ [⟨pl, first, la, ks'⟩], _, _, _, _, _, _, rfl, upd_same, ?_, fun f hf => ?_, fun f hf => ?_, by rw [List.length_append, hfsl]; rfl, by omega, by omega, (hS11.same stf).upd offp.1 offp.2, fun b o b1 b2 e => ?_⟩
      · have hone : FltN (fun x => (x ≠ c ∧ H x = none) ∧ x ≠ pa) (upd H11 tf (.tup [.str pl, .int first, .int la, .ref rk])) (.ref tf) ⟨pl, first, la, ks'⟩ := ⟨tf, rk, rfl, upd_same, stf _ _ erk, frk⟩
        exact ((hws11.mono fun v x _ z => z.same stf).app (Each.one hone)).mono fun v x _ z => z.upd (fun _ h => h.2) epa12
      · rcases List.mem_append.mp hf with z | z
        · exact hfl f z
        · rw [List.mem_singleton.mp z]
          exact ⟨hin.1, hla1, hla0, hk', hkl'⟩
      · rcases List.mem_append.mp hf with z | z
        · exact hfo f z
        · rw [List.mem_singleton.mp z]
          exact hxo pl (List.mem_of_getElem? epl)
      · rw [upd_ne (ne_of_none e npa)]
        exact stf _ _ (k0 b o b1 b2 (kx b o b1 b2 e))
    · obtain ⟨t', ws, fs, y5, y6, y7, y8, y9, y10, rfl, epa, hws, hfl, hfo, hfsl, u0, u1, hSx, kx⟩ := hP
      exact ⟨_, rfl, q pa ws fs t' Hx npa epa (hws.imp fun v x _ z => z.weak fun _ h => h.1) hfl hfo (by omega) u0 (by omega) hSx kx⟩
end

/-! ### by halving -/
theorem half_le {x y T : Int} {i : Nat} (h : 2 * x ≤ y) (hy : y * 2 ^ i ≤ T) : x * 2 ^ (i + 1) ≤ T := by
  have e : x * 2 ^ (i + 1) = 2 * x * 2 ^ i := by
    rw [Int.pow_succ, Int.mul_comm (2 ^ i) 2, ← Int.mul_assoc, Int.mul_comm x 2]
  rw [e]
  have := Int.mul_le_mul_of_nonneg_right h (show (0 : Int) ≤ 2 ^ i from Int.le_of_lt (Int.pow_pos (by decide)))
  omega
abbrev sLeast : Stmt := topS 26
theorem scLeast : FnScope ["_law_tins", "_law_line", "_law_minute", "_law_low", "_law_high", "_law_turn", "_law_middle"] ["_law_tins", "_law_line", "_law_minute"] (defScope sLeast) := ⟨rfl, rfl, rfl, by decide +kernel, rfl, by decide +kernel, by decide +kernel⟩
def spLeast : Sp := fun vs H Q _ => ∃ (g : Addr) (p : Str) (T st lo b m : Int), vs = [.int T, .ref g, .int m] ∧ H g = some (.tup [.str "line", .str p, .int st, .int lo, .int b]) ∧ (Pas.line p st lo b).Good T ∧ 0 ≤ T ∧ T ≤ 10 ^ 30 ∧ Q (.int (cntF T st lo b m)) H
section
variable {K : PySem.W.Frag} {mg : Str → Option Value} {P : Program} {w : World} {base : Heap}
theorem ok_least {f : Addr} {fd : FuncData} {k : Nat} (F : Fun K "_law_least" "_law_least" sLeast f fd) (mr : mg "range" = none) : FnOk P w K mg base CX0 (k + 1) f fd ["_law_tins", "_law_line", "_law_minute"] spLeast := by
  refine F.ok scLeast (fun vs H Q E h => ?_) (fun cdv A outer s H vs Q E hr h => ?_)
  · obtain ⟨g, p, T, st, lo, b, m, rfl, _⟩ := h
    rfl
  · obtain ⟨g, p, T, st, lo, b, m, rfl, eg, ⟨_, st0, st1, lo0, lo1, b0, b1⟩, hT0, hT1, q⟩ := h
    refine ⟨_, pss_cons (ps_par rfl scLeast.nd (i := 3) (j := 4) rfl rfl (by decide) rfl rfl (pa_cons pe_int (pa_cons (pv 0) pa_nil)) (by rfl))
      (pss_cons (ps_for PassesOwn.never rfl (pi_range1 rfl mr (pa_cons pe_int pa_nil)) (pg_name (i := 5) scLeast.nd rfl (.inl rfl))
        (pss_cons (ps_set (i := 6) scLeast.nd rfl (.inl rfl) (pe_op op_fdiv (pe_op op_add (pv 3) (pv 4)) pe_int))
        (pss_one (ps_if (PW.pt (pw_and (pt_cmpR op_lt (pv 6) (pv 4) (nomark _)) (pw_and1 (pt_cmpR op_ge (pe_op op_add (pe_ix ix_tup (pv 1) pe_int (fun _ _ => rfl)) (pe_op op_fdivW (pe_op op_mulW (pv 6) (pe_ix ix_tup (pv 1) pe_int (fun _ _ => rfl))) (pe_ix ix_tup (pv 1) pe_int (fun _ _ => rfl)))) (pv 2) (nomark _)))))
          (pss_one (ps_set (i := 4) scLeast.nd rfl (.inl rfl) (pv 6)))
          (pss_one (ps_if (pt_cmpR op_lt (pv 6) (pv 4) (nomark _)) (pss_one (ps_set (i := 3) scLeast.nd rfl (.inl rfl) (pe_op op_add (pv 6) pe_int))) pss_nil))))))
      (pss_one (ps_ret (pv 4)))), ?_⟩
    obtain ⟨C, hC⟩ : ∃ C, cntF T st lo b m = C := ⟨_, rfl⟩
    have hCb := cnt_bd (T := T) (st := st) (lo := lo) (b := b) (m := m) hT0 lo0 b0
    have hCl : ∀ n, 0 ≤ n → n < T → (n < C ↔ st + n * lo / b < m) := fun n h0 h1 => by
      rw [← hC]
      exact cnt_lt lo0 b0 h0 h1
    rw [hC] at hCb q
    refine ⟨_, rfl, _, _, rfl, ?_⟩
    refine ⟨110, rfl, by decide, by decide, for_range (n := 110) (fun i σ Hx => ∃ (low high : Int) (y5 y6 : Option V), σ = [some (.int T), some (.ref g), some (.int m), some (.int low), some (.int high), y5, y6] ∧ (0 ≤ low ∧ low ≤ C ∧ C ≤ high ∧ high ≤ T) ∧ (high - low) * 2 ^ i ≤ T ∧ Hx = H)
      ⟨0, T, none, none, rfl, ⟨by omega, hCb.1, hCb.2, by omega⟩, by simp, rfl⟩ (fun i σ Hx hi hP => ?_) (fun σ Hx hP => ?_)⟩
    · obtain ⟨low, high, y5, y6, rfl, ⟨h1, h2, h3, h4⟩, hs, rfl⟩ := hP
      refine ⟨_, rfl, _, rfl, low, high, rfl, rfl, low + high, 2, rfl, rfl, ⟨by decide, by decide⟩, ?_⟩
      obtain ⟨mid, hmid⟩ : ∃ mid, (low + high) / 2 = mid := ⟨_, rfl⟩
      dsimp only
      rw [hmid]
      refine ⟨_, rfl, _, rfl, mid, high, rfl, rfl, _, rfl, ite2 (fun c => ?_) (fun c => ?_)⟩
      · have c' := of_decide_eq_true c
        have hcl := hCl mid (by omega) (by omega)
        have z1 := log_lt (i := mid) (by omega)
        have z2 := log_lt (i := lo) (by omega)
        refine ⟨_, rfl, g, _, 2, .int st, rfl, rfl, .inl (.inl eg), atI_nat (j := 2) rfl, _, rfl, _, rfl, g, _, 3, .int lo, rfl, rfl, .inl (.inl eg), atI_nat (j := 3) rfl, mid, lo, rfl, rfl, (by show mid.natAbs.log2 + lo.natAbs.log2 < 1000000; omega), _, rfl, g, _, 4, .int b, rfl, rfl, .inl (.inl eg), atI_nat (j := 4) rfl, mid * lo, b, rfl, rfl, ⟨by omega, Nat.lt_trans (log_lt (by omega)) (by decide)⟩, st, _, rfl, rfl, _, rfl, st + mid * lo / b, m, rfl, rfl, _, rfl, ite2 (fun c2 => ?_) (fun c2 => ?_)⟩
        · have c2' := of_decide_eq_true c2
          exact ⟨_, rfl, low, mid, _, _, rfl, ⟨h1, h2, by omega, by omega⟩, half_le (y := high - low) (by omega) hs, rfl⟩
        · have c2' : ¬ st + mid * lo / b ≥ m := fun z => c2 (decide_eq_true z)
          refine ⟨_, rfl, _, rfl, mid, high, rfl, rfl, _, rfl, ite2 (fun c3 => ?_) (fun c3 => absurd c c3)⟩
          exact ⟨_, rfl, mid, 1, rfl, rfl, mid + 1, high, _, _, rfl, ⟨by omega, by omega, h3, h4⟩, half_le (y := high - low) (by omega) hs, rfl⟩
      · have c' : ¬ mid < high := fun z => c (decide_eq_true z)
        refine iteF ?_
        refine ⟨_, rfl, _, rfl, mid, high, rfl, rfl, _, rfl, ite2 (fun c3 => absurd c3 c) (fun _ => ?_)⟩
        exact ⟨low, high, _, _, rfl, ⟨h1, h2, h3, h4⟩, half_le (y := high - low) (by omega) hs, rfl⟩
    · obtain ⟨low, high, y5, y6, rfl, ⟨h1, h2, h3, h4⟩, hs, rfl⟩ := hP
      have e : high = C := by omega
      rw [← e] at q
      exact ⟨_, rfl, q⟩
end

/-! ### the tins due, by halving and rack by rack -/
def dueP (pl : Str) (T first : Int) (last : Option Int) : Pas → List (Int × Int)
  | .line p st lo b => if p = pl then [(cntF T st lo b first, endF T st lo b last - 1)] else []
  | .racks p per ss => if p = pl then metF T per first last 0 ss else []
def dueF (pl : Str) (T first : Int) (last : Option Int) : List Pas → List (Int × Int)
  | [] => []
  | p :: r => dueP pl T first last p ++ dueF pl T first last r
theorem dueF_snoc {pl : Str} {T first : Int} {last : Option Int} {p : Pas} : ∀ ps : List Pas, dueF pl T first last (ps ++ [p]) = dueF pl T first last ps ++ dueP pl T first last p
  | [] => by
    rw [List.nil_append, dueF]
    exact (List.append_nil _).trans (List.nil_append _).symm
  | q :: r => by rw [List.cons_append, dueF, dueF, dueF_snoc r, List.append_assoc]
theorem dueP_other {pl : Str} {T first : Int} {last : Option Int} {p : Pas} (h : p.place ≠ pl) : dueP pl T first last p = [] := by
  cases p with
  | line p st lo b => exact if_neg h
  | racks p per ss => exact if_neg h
theorem dueP_line {pl p : Str} {T first st lo b : Int} {last : Option Int} (e : p = pl) : dueP pl T first last (.line p st lo b) = [(cntF T st lo b first, endF T st lo b last - 1)] := if_pos e
theorem dueP_racks {pl p : Str} {T first per : Int} {ss : List (Int × Int)} {last : Option Int} (e : p = pl) : dueP pl T first last (.racks p per ss) = metF T per first last 0 ss := if_pos e
theorem dueP_len {pl : Str} {T first : Int} {last : Option Int} {p : Pas} (g : p.Good T) : (dueP pl T first last p).length ≤ 12 := by
  by_cases e : p.place = pl
  · cases p with
    | line p st lo b =>
      rw [dueP_line (show p = pl from e)]
      show 1 ≤ 12
      decide
    | racks p per ss =>
      rw [dueP_racks (show p = pl from e)]
      have := metF_len (T := T) (per := per) (first := first) (last := last) ss 0
      have := g.2.2.2.2.1
      omega
  · rw [dueP_other e]
    exact Nat.zero_le _
theorem dueF_len {pl : Str} {T first : Int} {last : Option Int} : ∀ {ps : List Pas}, (∀ p ∈ ps, p.Good T) → (dueF pl T first last ps).length ≤ 12 * ps.length
  | [], _ => Nat.le_refl _
  | p :: r, g => by
    rw [dueF, List.length_append, List.length_cons]
    have := dueP_len (pl := pl) (first := first) (last := last) (g p (List.mem_cons_self ..))
    have := dueF_len (pl := pl) (first := first) (last := last) fun q hq => g q (List.mem_cons_of_mem _ hq)
    omega
theorem dueF_none {pl : Str} {T first : Int} {last : Option Int} : ∀ {ps : List Pas}, (∀ p ∈ ps, p.place ≠ pl) → dueF pl T first last ps = []
  | [], _ => rfl
  | p :: r, h => by rw [dueF, dueP_other (h p (List.mem_cons_self ..)), dueF_none fun q hq => h q (List.mem_cons_of_mem _ hq)]; rfl
theorem dueF_in {pl : Str} {T first n : Int} {last : Option Int} (hT : 0 ≤ T) : ∀ {ps : List Pas}, (∀ p ∈ ps, p.Good T) → (ps.map Pas.place).Nodup → (InS (dueF pl T first last ps) n ↔ (0 ≤ n ∧ n < T) ∧ ∃ w, winF pl n ps = some w ∧ meetB first last w = true)
  | [], _, _ => ⟨fun z => absurd z inS_nil, fun ⟨_, _, e, _⟩ => nomatch e⟩
  | p :: r, g, nd => by
    rw [List.map_cons, List.nodup_cons] at nd
    by_cases e : p.place = pl
    · have hr : dueF pl T first last r = [] := dueF_none fun q hq eq => nd.1 (List.mem_map.mpr ⟨q, hq, eq.trans e.symm⟩)
      rw [dueF, hr, List.append_nil, win_eq]
      unfold passF
      rw [if_pos e]
      have gp := g p (List.mem_cons_self ..)
      cases p with
      | line p st lo b =>
        have e' : p = pl := e
        rw [dueP_line e', line_in hT gp.2.2.2.1 gp.2.2.2.2.2.1]
        exact ⟨fun z => ⟨z.1, _, rfl, z.2⟩, fun ⟨z, w, ew, y⟩ => ⟨z, by cases ew; exact y⟩⟩
      | racks p per ss =>
        have e' : p = pl := e
        rw [dueP_racks e', stays_in gp.2.1]
        exact Iff.rfl
    · rw [dueF, dueP_other e, List.nil_append, dueF_in hT (fun q hq => g q (List.mem_cons_of_mem _ hq)) nd.2, win_eq, win_eq]
      conv => rhs; unfold passF
      rw [if_neg e]
theorem dueF_one {pl : Str} {T first : Int} {last : Option Int} : ∀ {ps : List Pas}, (∀ p ∈ ps, p.Good T) → (ps.map Pas.place).Nodup → (dueF pl T first last ps).length ≤ 12
  | [], _, _ => Nat.zero_le _
  | p :: r, g, nd => by
    rw [List.map_cons, List.nodup_cons] at nd
    rw [dueF, List.length_append]
    by_cases e : p.place = pl
    · rw [dueF_none fun q hq eq => nd.1 (List.mem_map.mpr ⟨q, hq, eq.trans e.symm⟩)]
      exact dueP_len (g p (List.mem_cons_self ..))
    · rw [dueP_other e]
      have := dueF_one (pl := pl) (first := first) (last := last) (fun q hq => g q (List.mem_cons_of_mem _ hq)) nd.2
      show 0 + _ ≤ _
      omega
abbrev sDue : Stmt := topS 27
theorem scDue : FnScope ["_law_batch", "_law_place", "_law_first", "_law_last", "_law_pairs", "_law_one", "_law_behind", "_law_rack", "_law_stay"] ["_law_batch", "_law_place", "_law_first", "_law_last"] (defScope sDue) := ⟨rfl, rfl, rfl, by decide +kernel, rfl, by decide +kernel, by decide +kernel⟩
def spDue : Sp := fun vs H Q _ => ∃ (b : Addr) (mark pl : Str) (T first : Int) (ps : List Pas) (last : Option Int), vs = [.ref b, .str pl, .int first, lastV last] ∧ BatA H b mark T ps ∧ 1 ≤ T ∧ T ≤ 10 ^ 30 ∧ (∀ p ∈ ps, p.Good T) ∧ (ps.map Pas.place).Nodup ∧ ps.length ≤ 6 ∧
  RetS H (TinP pl T ps first last) 12 Q
/-- the pairs so far -/
def DueV (H : Hp) (b pa : Addr) (pl : Str) (first : Int) (last : Option Int) (qs : List (Int × Int)) (y5 : Option V) (σ : L2.St) (Hx : Hp) : Prop := ∃ (vs : List V) (y6 y7 y8 : Option V), σ = [some (.ref b), some (.str pl), some (.int first), some (lastV last), some (.ref pa), y5, y6, y7, y8] ∧ Same H Hx ∧ Hx pa = some (.lst vs) ∧ Prs Hx vs qs
def DueW (H : Hp) (b pa : Addr) (pl : Str) (first : Int) (last : Option Int) (qs : List (Int × Int)) (σ : L2.St) (Hx : Hp) : Prop := ∃ y5, DueV H b pa pl first last qs y5 σ Hx
section
variable {K : PySem.W.Frag} {mg : Str → Option Value} {P : Program} {w : World} {base : Heap}
theorem ok_due {f : Addr} {fd : FuncData} (F : Fun K "_law_tins_due" "_law_tins_due" sDue f fd) (CL : Cal P w K mg base 1 "_law_least" ["_law_tins", "_law_line", "_law_minute"] spLeast) (CS : Cal P w K mg base 1 "_law_set_of" ["_law_pairs"] spLSet) (me : mg "enumerate" = none) (mn : mg "min" = none) : FnOk P w K mg base CX0 2 f fd ["_law_batch", "_law_place", "_law_first", "_law_last"] spDue := by
  refine F.ok scDue (fun vs H Q E h => ?_) (fun cdv A outer s H vs Q E hr h => ?_)
  · obtain ⟨b, mark, pl, T, first, ps, last, rfl, _⟩ := h
    rfl
  · obtain ⟨b, mark, pl, T, first, ps, last, rfl, ⟨a, us, eb, ha, hus⟩, hT1, hT2, hgd, hnd, hpl, q⟩ := h
    refine ⟨_, pss_cons (ps_set (i := 4) scDue.nd rfl (.inl rfl) (pe_lst pa_nil))
      (pss_cons (ps_for PassesOwn.never rfl (pi_seq (pe_ix ix_tup (pv 0) pe_int (fun _ _ => rfl))) (pg_name (i := 5) scDue.nd rfl (.inl rfl))
        (pss_one (ps_if (PW.pt (pw_and (pt_cmpR op_eq (pe_ix ix_tup (pv 5) pe_int (fun _ _ => rfl)) (pv 1) (nomark _)) (pw_and1 (pt_cmpR op_eq (pe_ix ix_tup (pv 5) pe_int (fun _ _ => rfl)) pe_str (nomark _)))))
          (pss_cons (ps_set (i := 6) scDue.nd rfl (.inl rfl) (pe_mid (pe_ifExp (pt_cmpR op_isN (pv 3) pe_non (nomark _)) (pe_ix ix_tup (pv 0) pe_int (fun _ _ => rfl)) (pe_own CL hr (by rfl) (pa_cons (pe_ix ix_tup (pv 0) pe_int (fun _ _ => rfl)) (pa_cons (pv 5) (pa_cons (pe_op op_add (pv 3) pe_int) pa_nil)))))))
          (pss_one (ps_expr (pe_bm PySem.F.plainAttrs_list PySem.F.slot_list_append PySem.F.type_list_append mt_append (pv 4) (pa_cons (pe_tup (pa_cons (pe_own CL hr (by rfl) (pa_cons (pe_ix ix_tup (pv 0) pe_int (fun _ _ => rfl)) (pa_cons (pv 5) (pa_cons (pv 2) pa_nil)))) (pa_cons (pe_op op_sub (pv 6) pe_int) pa_nil))) pa_nil)))))
          (pss_one (ps_if (pt_cmpR op_eq (pe_ix ix_tup (pv 5) pe_int (fun _ _ => rfl)) (pv 1) (nomark _))
            (pss_one (ps_for PassesOwn.never rfl (pi_enS (by rfl) me (pa_cons (pe_ix ix_tup (pv 5) pe_int (fun _ _ => rfl)) pa_nil)) (pg_tup rfl (pgs_cons (pg_name (i := 7) scDue.nd rfl (.inl rfl)) (pgs_cons (pg_name (i := 8) scDue.nd rfl (.inl rfl)) pgs_nil)))
              (pss_one (ps_if (pt_mid (PW.pt (pw_and (pt_cmpR op_ge (pe_ix ix_tup (pv 8) pe_int (fun _ _ => rfl)) (pv 2) (nomark _)) (pw_and1 (PW.pt (pw_or (pt_cmpR op_isN (pv 3) pe_non (nomark _)) (pw_or1 (pt_cmpR op_le (pe_ix ix_tup (pv 8) pe_int (fun _ _ => rfl)) (pv 3) (nomark _)))))))))
                (pss_one (ps_expr (pe_bm PySem.F.plainAttrs_list PySem.F.slot_list_append PySem.F.type_list_append mt_append (pv 4) (pa_cons (pe_tup (pa_cons (pe_op op_mul (pv 7) (pe_ix ix_tup (pv 5) pe_int (fun _ _ => rfl))) (pa_cons (pe_op op_sub (pe_callB (call_min2 rfl) (by rfl) mn (by decide +kernel) (pa_cons (pe_ix ix_tup (pv 0) pe_int (fun _ _ => rfl)) (pa_cons (pe_op op_mul (pe_op op_add (pv 7) pe_int) (pe_ix ix_tup (pv 5) pe_int (fun _ _ => rfl))) pa_nil))) pe_int) pa_nil))) pa_nil)))) pss_nil)))) pss_nil)))))
      (pss_one (ps_ret (pe_ifExp (PW.pt (pw_or (pt_cmpR op_isN (pv 3) pe_non (nomark _)) (pw_or1 (pt_cmpR op_le (pv 2) (pv 3) (nomark _))))) (pe_own CS hr (by rfl) (pa_cons (pv 4) pa_nil)) (pe_lst pa_nil))))), ?_⟩
    refine ⟨Nat.zero_le _, fun pa npa => ?_⟩
    have spa := same_upd (o := .lst []) npa
    -- one pair more
    have more : ∀ (Hx H3 : Hp) (vs : List V) (qs : List (Int × Int)) (t : Addr) (p : Int × Int), Same H Hx → Hx pa = some (.lst vs) → Prs Hx vs qs → Same Hx H3 → H3 t = some (.tup [.int p.1, .int p.2]) → ∀ y5 y6 y7 y8, DueV H b pa pl first last (qs ++ [p]) y5 [some (.ref b), some (.str pl), some (.int first), some (lastV last), some (.ref pa), y5, y6, y7, y8] (upd H3 pa (.lst (vs ++ [.ref t]))) := by
      intro Hx H3 vs qs t p sx epa hvs s3 et y5 y6 y7 y8
      have e3 := s3 _ _ epa
      refine ⟨vs ++ [.ref t], _, _, _, rfl, fun x o e => ?_, upd_same, ((hvs.same s3).snoc et).upd_lst e3⟩
      rw [upd_ne (ne_of_none e npa)]
      exact s3 _ _ (sx x o e)
    refine ⟨_, rfl, b, _, 2, .ref a, rfl, rfl, .inl (.inl (spa _ _ eb)), atI_nat (j := 2) rfl, a, rfl, for_seqS (xs := us) ha.sq spa (fun i σ Hx => DueW H b pa pl first last (dueF pl T first last (ps.take i)) σ Hx)
      ⟨_, [], _, _, _, rfl, spa, upd_same, Prs.nil⟩ (fun i σ Hx hP => ?_) (fun i x σ Hx hx hP => ?_) (fun σ Hx hP => ?_)⟩
    · obtain ⟨_, _, _, _, _, rfl, sx, _⟩ := hP
      exact sx
    · obtain ⟨y5, vs, y6, y7, y8, rfl, sx, epa, hvs⟩ := hP
      obtain ⟨p, ep, hv0⟩ := hus.at hx
      have hv := hv0.same sx
      have hg := hgd p (List.mem_of_getElem? ep)
      have ebx := sx _ _ eb
      have hi : i < 6 := Nat.lt_of_lt_of_le (List.getElem?_eq_some_iff.mp ep).1 hpl
      have etake : dueF pl T first last (ps.take (i + 1)) = dueF pl T first last (ps.take i) ++ dueP pl T first last p := by rw [List.take_add_one, ep]; exact dueF_snoc _
      have hvl : vs.length ≤ 72 := by
        rw [hvs.1]
        have := dueF_len (pl := pl) (first := first) (last := last) (ps := ps.take i) fun q hq => hgd q (List.mem_of_mem_take hq)
        rw [List.length_take] at this
        omega
      have other : p.place ≠ pl → ∀ y5 : Option V, DueW H b pa pl first last (dueF pl T first last (ps.take (i + 1))) [some (.ref b), some (.str pl), some (.int first), some (lastV last), some (.ref pa), y5, y6, y7, y8] Hx := fun h y5 => ⟨_, vs, _, _, _, rfl, sx, epa, by rw [etake, dueP_other h, List.append_nil]; exact hvs⟩
      cases p with
      | line p st lo by_ =>
        obtain ⟨g, rfl, eg⟩ := hv
        refine ⟨_, rfl, g, _, 1, .str p, rfl, rfl, .inl (.inl eg), atI_nat (j := 1) rfl, _, rfl, rfl, _, rfl, ite2 (fun c => ?_) (fun c => ?_)⟩
        · have c' : p = pl := V.str.inj (of_decide_eq_true c)
          refine ⟨_, rfl, g, _, 0, .str "line", rfl, rfl, .inl (.inl eg), atI_nat (j := 0) rfl, rfl, true, congrArg V.bl (decide_eq_true rfl), iteT ?_⟩
          refine ⟨fun v H' => v = .int (endF T st lo by_ last) ∧ H' = Hx, ?_, ?_⟩
          · cases last with
            | none => exact ⟨_, rfl, rfl, true, congrArg V.bl (decide_eq_true rfl), iteT ⟨_, rfl, b, _, 1, .int T, rfl, rfl, .inl (.inl ebx), atI_nat (j := 1) rfl, rfl, rfl⟩⟩
            | some l => exact ⟨_, rfl, rfl, false, congrArg V.bl (decide_eq_false (fun z => nomatch z)), iteF ⟨_, rfl, b, _, 1, .int T, rfl, rfl, .inl (.inl ebx), atI_nat (j := 1) rfl, _, rfl, _, rfl, l, 1, rfl, rfl, g, p, T, st, lo, by_, l + 1, rfl, eg, hg, by omega, hT2, rfl, rfl⟩⟩
          rintro v H' ⟨rfl, rfl⟩
          refine ⟨_, rfl, .inl ⟨rfl, _, SqL.of epa⟩, _, rfl, b, _, 1, .int T, rfl, rfl, .inl (.inl ebx), atI_nat (j := 1) rfl, _, rfl, _, rfl, g, p, T, st, lo, by_, first, rfl, eg, hg, by omega, hT2, ?_⟩
          refine ⟨_, rfl, _, 1, rfl, rfl, (by show 2 ≤ sizeLine; decide), fun t nt => ?_⟩
          have st' := same_upd (o := .tup [.int (cntF T st lo by_ first), .int (endF T st lo by_ last - 1)]) nt
          refine ⟨pa, _, _, rfl, rfl, st' _ _ epa, small1000 (by omega), ?_⟩
          rw [etake, dueP_line c']
          exact ⟨_, more _ _ vs _ t (cntF T st lo by_ first, endF T st lo by_ last - 1) sx epa hvs st' upd_same _ _ _ _⟩
        · have c' : ¬ p = pl := fun z => c (decide_eq_true (congrArg V.str z))
          refine iteF ?_
          refine ⟨_, rfl, g, _, 1, .str p, rfl, rfl, .inl (.inl eg), atI_nat (j := 1) rfl, _, rfl, rfl, false, congrArg V.bl (Bool.eq_false_iff.mpr c), iteF ?_⟩
          exact other c' _
      | racks p per ss =>
        obtain ⟨g, sy, ws, rfl, eg, hsy, hws⟩ := hv
        obtain ⟨_, p0, p1, p2, p3, _⟩ := id hg
        have hline : decide (V.str "racks" = V.str "line") = false := by decide +kernel
        refine ⟨_, rfl, g, _, 1, .str p, rfl, rfl, .inl (.inl eg), atI_nat (j := 1) rfl, _, rfl, rfl, _, rfl, ite2 (fun c => ?_) (fun c => ?_)⟩
        · have c' : p = pl := V.str.inj (of_decide_eq_true c)
          refine ⟨_, rfl, g, _, 0, .str "racks", rfl, rfl, .inl (.inl eg), atI_nat (j := 0) rfl, rfl, false, congrArg V.bl hline, iteF ?_⟩
          refine ⟨_, rfl, g, _, 1, .str p, rfl, rfl, .inl (.inl eg), atI_nat (j := 1) rfl, _, rfl, rfl, true, congrArg V.bl c, iteT ?_⟩
          obtain ⟨g', sy', ws', eg1, eg2, hsy0, hws0⟩ := hv0
          cases eg1
          have e2 := sx _ _ eg2
          rw [eg] at e2
          cases e2
          refine ⟨_, rfl, g, _, 3, .ref sy, rfl, rfl, .inl (.inl eg), atI_nat (j := 3) rfl, sy, rfl, for_enS (xs := ws') hsy0.sq sx (fun j σ Hy => DueV H b pa pl first last (dueF pl T first last (ps.take i) ++ metF T per first last 0 (ss.take j)) (some (.ref g)) σ Hy) ⟨vs, _, _, _, rfl, sx, epa, by rw [List.take_zero, metF, List.append_nil]; exact hvs⟩ (fun j σ Hy hP => ?_) (fun j x t σ Hy hx hP nt => ?_) (fun σ Hy hP => ?_)⟩
          · obtain ⟨_, _, _, _, rfl, sy', _⟩ := hP
            exact sy'
          · obtain ⟨vs2, z6, z7, z8, rfl, sy2, epa2, hvs2⟩ := hP
            obtain ⟨wp, tw, ew, rfl, etw⟩ := prs_at (hws0.same sy2) hx
            have hj : j < ss.length := (List.getElem?_eq_some_iff.mp ew).1
            have st := same_upd (o := .tup [.int (j : Nat), .ref tw]) nt
            have S := sy2.trans st
            have epa3 := st _ _ epa2
            have hvs3 := hvs2.same st
            have eg3 := S _ _ eg2
            have eb3 := S _ _ eb
            have etw3 := st _ _ etw
            have etk : metF T per first last 0 (ss.take (j + 1)) = metF T per first last 0 (ss.take j) ++ (if meetB first last wp = true then [rackP T per (j : Int)] else []) := by
              rw [List.take_add_one, ew]
              refine (metF_snoc (ss.take j) 0).trans ?_
              rw [List.length_take, Nat.zero_add, Nat.min_eq_left (Nat.le_of_lt hj)]
            have hvl2 : vs2.length ≤ 100 := by
              rw [hvs2.1, List.length_append]
              have := metF_len (T := T) (per := per) (first := first) (last := last) (ss.take j) 0
              rw [List.length_take] at this
              have := hvs.1
              omega
            refine ⟨t, _, rfl, .inl (.inl upd_same), rfl, _, _, rfl, _, _, rfl, rfl, ?_⟩
            refine ⟨fun b' H' => b' = meetB first last wp ∧ H' = upd Hy t (.tup [.int (j : Nat), .ref tw]), ?_, ?_⟩
            · refine ⟨_, rfl, tw, _, 1, .int wp.2, rfl, rfl, .inl (.inl etw3), atI_nat (j := 1) rfl, _, rfl, wp.2, first, rfl, rfl, _, rfl, ite2 (fun c2 => ?_) (fun c2 => ?_)⟩
              · have c2' : first ≤ wp.2 := of_decide_eq_true c2
                unfold meetB
                cases last with
                | none => exact ⟨_, rfl, rfl, true, congrArg V.bl (decide_eq_true rfl), iteT ⟨by rw [decide_eq_true c2']; rfl, rfl⟩⟩
                | some l =>
                  refine ⟨_, rfl, rfl, false, congrArg V.bl (decide_eq_false (fun z => nomatch z)), iteF ?_⟩
                  exact ⟨_, rfl, tw, _, 0, .int wp.1, rfl, rfl, .inl (.inl etw3), atI_nat (j := 0) rfl, _, rfl, wp.1, l, rfl, rfl, _, rfl, by rw [decide_eq_true c2', Bool.true_and], rfl⟩
              · have c2' : ¬ first ≤ wp.2 := fun z => c2 (decide_eq_true z)
                exact ⟨by unfold meetB; rw [decide_eq_false c2', Bool.false_and], rfl⟩
            rintro b' H' ⟨rfl, rfl⟩
            refine ite2 (fun c3 => ?_) (fun c3 => ?_)
            · refine ⟨_, rfl, .inl ⟨rfl, _, SqL.of epa3⟩, _, rfl, _, rfl, g, _, 2, .int per, rfl, rfl, .inl (.inl eg3), atI_nat (j := 2) rfl, (j : Int), per, rfl, rfl, .inl ⟨by omega, by omega⟩, ?_⟩
              refine ⟨_, rfl, b, _, 1, .int T, rfl, rfl, .inl (.inl eb3), atI_nat (j := 1) rfl, _, rfl, (j : Int), 1, rfl, rfl, _, rfl, g, _, 2, .int per, rfl, rfl, .inl (.inl eg3), atI_nat (j := 2) rfl, (j : Int) + 1, per, rfl, rfl, .inl ⟨by omega, by omega⟩, T, _, rfl, _, 1, rfl, rfl, (by show 2 ≤ sizeLine; decide), fun t2 nt2 => ?_⟩
              have er : (if ((j : Int) + 1) * per < T then ((j : Int) + 1) * per else T) - 1 = (rackP T per (j : Int)).2 := by
                show _ = (if T < (j : Int) * per + per then T else (j : Int) * per + per) - 1
                rw [Int.add_mul, Int.one_mul]
                split <;> split <;> omega
              have st2 := same_upd (o := .tup [.int ((j : Int) * per), .int ((if ((j : Int) + 1) * per < T then ((j : Int) + 1) * per else T) - 1)]) nt2
              refine ⟨pa, _, _, rfl, rfl, st2 _ _ epa3, small1000 (by omega), ?_⟩
              rw [etk, if_pos c3, ← List.append_assoc]
              exact more _ _ vs2 _ t2 (rackP T per (j : Int)) S epa3 hvs3 st2 (by rw [← er]; exact upd_same) _ _ _ _
            · refine ⟨vs2, _, _, _, rfl, S, epa3, ?_⟩
              rw [etk, if_neg c3, List.append_nil]
              exact hvs3
          · obtain ⟨vs2, z6, z7, z8, rfl, sy2, epa2, hvs2⟩ := hP
            rw [hws0.1, List.take_length] at hvs2
            refine ⟨_, vs2, _, _, _, rfl, sy2, epa2, ?_⟩
            rw [etake, dueP_racks c']
            exact hvs2
        · have c' : ¬ p = pl := fun z => c (decide_eq_true (congrArg V.str z))
          refine iteF ?_
          refine ⟨_, rfl, g, _, 1, .str p, rfl, rfl, .inl (.inl eg), atI_nat (j := 1) rfl, _, rfl, rfl, false, congrArg V.bl (Bool.eq_false_iff.mpr c), iteF ?_⟩
          exact other c' _
    · obtain ⟨y5, vs, y6, y7, y8, rfl, sx, epa, hvs⟩ := hP
      rw [hus.1, List.take_length] at hvs
      have hl := dueF_one (pl := pl) (first := first) (last := last) hgd hnd
      have told : ¬ Over first last → (tCall spLSet [] E0 (tCons (tVar 4) tNil)) [some (.ref b), some (.str pl), some (.int first), some (lastV last), some (.ref pa), y5, y6, y7, y8] Hx Q := fun ov => by
        refine ⟨_, rfl, pa, vs, _, rfl, epa, hvs, by omega, fun l ws rs H' nl el hws ht hrl s' => ?_⟩
        refine q l ws rs H' (sx.free nl) el hws (ht.cong fun n => ?_) (by omega) (sx.trans s')
        rw [dueF_in (by omega) hgd hnd]
        exact ⟨fun ⟨z1, z2⟩ => ⟨z1, ov, z2⟩, fun ⟨z1, _, z2⟩ => ⟨z1, z2⟩⟩
      cases last with
      | none => exact ⟨_, rfl, rfl, true, congrArg V.bl (decide_eq_true rfl), iteT (iteT (told (fun ⟨_, z, _⟩ => nomatch z)))⟩
      | some l =>
        refine ⟨_, rfl, rfl, false, congrArg V.bl (decide_eq_false (fun z => nomatch z)), iteF ?_⟩
        refine ⟨_, rfl, _, rfl, first, l, rfl, rfl, _, rfl, ite2 (fun c => ?_) (fun c => ?_)⟩
        · have c' := of_decide_eq_true c
          exact told fun ⟨l', e, lt⟩ => by cases e; omega
        · have c' : ¬ first ≤ l := fun z => c (decide_eq_true z)
          refine ⟨Nat.zero_le _, fun z nz => ?_⟩
          exact q z [] [] _ (sx.free nz) upd_same Prs.nil ⟨⟨0, True.intro⟩, fun n => ⟨fun z => absurd z inS_nil, fun z => absurd ⟨l, rfl, by omega⟩ z.2.1⟩⟩ (Nat.zero_le _) (sx.trans (same_upd nz))
end

/-! ### the law's own: both, and tins in racks -/
theorem bothF_len : ∀ (ps qs : List (Int × Int)), (bothF ps qs).length ≤ ps.length + qs.length
  | [], _ => by rw [bothF]; exact Nat.zero_le _
  | _ :: _, [] => by rw [bothF]; exact Nat.zero_le _
  | p :: r, q :: s => by
    rw [bothF, List.length_append]
    have h1 : (if mxI p.1 q.1 ≤ mnI p.2 q.2 then [(mxI p.1 q.1, mnI p.2 q.2)] else []).length ≤ 1 := by split <;> simp
    have h2 : (if p.2 < q.2 then bothF r (q :: s) else bothF (p :: r) s).length ≤ r.length + s.length + 1 := by
      split
      · have := bothF_len r (q :: s)
        rw [List.length_cons] at this
        omega
      · have := bothF_len (p :: r) s
        rw [List.length_cons] at this
        omega
    rw [List.length_cons, List.length_cons]
    omega
termination_by ps qs => ps.length + qs.length
theorem both_told {ps qs rs : List (Int × Int)} (h : Told (fun n => InS ps n ∧ InS qs n) rs) (hp : ∃ lo, Ris lo ps) (hq : ∃ lo, Ris lo qs) : rs.length ≤ ps.length + qs.length := by
  obtain ⟨lo, h1⟩ := hp
  obtain ⟨lo', h2⟩ := hq
  have e : rs = bothF ps qs := h.one (pr' := fun n => InS ps n ∧ InS qs n) ⟨⟨lo, bothF_ris h1 h2 (.inl (Int.le_refl _))⟩, fun n => bothF_in h1 h2⟩ fun _ => Iff.rfl
  rw [e]
  exact bothF_len ps qs
def crossP (p q : Int × Int) : Int × Int := (mxI p.1 q.1, mnI p.2 q.2)
def crossF (qs : List (Int × Int)) : List (Int × Int) → List (Int × Int)
  | [] => []
  | p :: r => qs.map (crossP p) ++ crossF qs r
theorem crossF_snoc {qs : List (Int × Int)} {p : Int × Int} : ∀ ps : List (Int × Int), crossF qs (ps ++ [p]) = crossF qs ps ++ qs.map (crossP p)
  | [] => by
    rw [List.nil_append, crossF]
    exact (List.append_nil _).trans (List.nil_append _).symm
  | q :: r => by rw [List.cons_append, crossF, crossF, crossF_snoc r, List.append_assoc]
theorem crossF_len {qs : List (Int × Int)} : ∀ ps : List (Int × Int), (crossF qs ps).length = ps.length * qs.length
  | [] => by rw [crossF, List.length_nil, Nat.zero_mul]
  | p :: r => by rw [crossF, List.length_append, List.length_map, crossF_len r, List.length_cons, Nat.succ_mul, Nat.add_comm]
theorem crossF_in {qs : List (Int × Int)} {n : Int} : ∀ ps : List (Int × Int), InS (crossF qs ps) n ↔ InS ps n ∧ InS qs n
  | [] => ⟨fun z => absurd z inS_nil, fun z => absurd z.1 inS_nil⟩
  | p :: r => by
    rw [crossF, inS_append, crossF_in r, inS_cons]
    have e : InS (qs.map (crossP p)) n ↔ (p.1 ≤ n ∧ n ≤ p.2) ∧ InS qs n := by
      constructor
      · rintro ⟨x, hx, z⟩
        obtain ⟨q, hq, rfl⟩ := List.mem_map.mp hx
        have z1 : mxI p.1 q.1 ≤ n := z.1
        have z2 : n ≤ mnI p.2 q.2 := z.2
        rw [mxI_le] at z1
        rw [le_mnI] at z2
        exact ⟨⟨z1.1, z2.1⟩, q, hq, z1.2, z2.2⟩
      · rintro ⟨⟨z1, z2⟩, q, hq, y1, y2⟩
        exact ⟨_, List.mem_map.mpr ⟨q, hq, rfl⟩, mxI_le.mpr ⟨z1, y1⟩, le_mnI.mpr ⟨z2, y2⟩⟩
    rw [e]
    constructor
    · rintro (z | z)
      · exact ⟨.inl z.1, z.2⟩
      · exact ⟨.inr z.1, z.2⟩
    · rintro ⟨z | z, y⟩
      · exact .inl ⟨z, y⟩
      · exact .inr ⟨z, y⟩
abbrev sLBoth : Stmt := topS 30
theorem scLBoth : FnScope ["_law_one", "_law_other", "_law_made", "_law_first", "_law_last", "_law_low", "_law_high"] ["_law_one", "_law_other"] (defScope sLBoth) := ⟨rfl, rfl, rfl, by decide +kernel, rfl, by decide +kernel, by decide +kernel⟩
def spLBoth : Sp := fun vs H Q _ => ∃ (a b : Addr) (us ws : List V) (ps qs : List (Int × Int)), vs = [.ref a, .ref b] ∧ H a = some (.lst us) ∧ Prs H us ps ∧ H b = some (.lst ws) ∧ Prs H ws qs ∧ (∃ lo, Ris lo ps) ∧ (∃ lo, Ris lo qs) ∧ ps.length ≤ 12 ∧ qs.length ≤ 13 ∧ RetS H (fun n => InS ps n ∧ InS qs n) (ps.length + qs.length) Q
/-- the pairs of the racks -/
def ofP (pl : Str) (T : Int) (ks : List Int) : Pas → List (Int × Int)
  | .line _ _ _ _ => []
  | .racks p per ss => if p = pl then (ks.filter fun k : Int => decide (k < (ss.length : Int))).map (rackP T per) else []
def ofF (pl : Str) (T : Int) (ks : List Int) : List Pas → List (Int × Int)
  | [] => []
  | p :: r => ofP pl T ks p ++ ofF pl T ks r
theorem ofF_snoc {pl : Str} {T : Int} {ks : List Int} {p : Pas} : ∀ ps : List Pas, ofF pl T ks (ps ++ [p]) = ofF pl T ks ps ++ ofP pl T ks p
  | [] => by
    rw [List.nil_append, ofF]
    exact (List.append_nil _).trans (List.nil_append _).symm
  | q :: r => by rw [List.cons_append, ofF, ofF, ofF_snoc r, List.append_assoc]
theorem ofP_other {pl : Str} {T : Int} {ks : List Int} {p : Pas} (h : p.place ≠ pl) : ofP pl T ks p = [] := by
  cases p with
  | line p st lo b => rfl
  | racks p per ss => exact if_neg h
theorem ofP_len {pl : Str} {T : Int} {ks : List Int} {p : Pas} : (ofP pl T ks p).length ≤ ks.length := by
  cases p with
  | line p st lo b => exact Nat.zero_le _
  | racks p per ss =>
    by_cases e : p = pl
    · have e1 : ofP pl T ks (.racks p per ss) = (ks.filter fun k : Int => decide (k < (ss.length : Int))).map (rackP T per) := if_pos e
      rw [e1, List.length_map]
      exact List.length_filter_le _ _
    · rw [ofP_other (show (Pas.racks p per ss).place ≠ pl from e)]
      exact Nat.zero_le _
theorem ofF_none {pl : Str} {T : Int} {ks : List Int} : ∀ {ps : List Pas}, (∀ p ∈ ps, p.place ≠ pl) → ofF pl T ks ps = []
  | [], _ => rfl
  | p :: r, h => by rw [ofF, ofP_other (h p (List.mem_cons_self ..)), ofF_none fun q hq => h q (List.mem_cons_of_mem _ hq)]; rfl
theorem ofF_one {pl : Str} {T : Int} {ks : List Int} : ∀ {ps : List Pas}, (ps.map Pas.place).Nodup → ofF pl T ks ps = (match passF pl ps with | none => [] | some p => ofP pl T ks p)
  | [], _ => rfl
  | p :: r, nd => by
    rw [List.map_cons, List.nodup_cons] at nd
    rw [ofF]
    by_cases e : p.place = pl
    · have ep : passF pl (p :: r) = some p := if_pos e
      rw [ep, ofF_none fun q hq eq => nd.1 (List.mem_map.mpr ⟨q, hq, eq.trans e.symm⟩), List.append_nil]
    · have ep : passF pl (p :: r) = passF pl r := if_neg e
      rw [ep, ofP_other e, ofF_one nd.2]
      rfl
theorem ofF_in {pl : Str} {T n : Int} {ks : List Int} {ps : List Pas} (hgd : ∀ p ∈ ps, p.Good T) (nd : (ps.map Pas.place).Nodup) (hk : ∀ k ∈ ks, 0 ≤ k) : InS (ofF pl T ks ps) n ↔ RackP pl T ps ks n := by
  rw [ofF_one nd]
  unfold RackP
  cases hp : passF pl ps with
  | none => exact ⟨fun z => absurd z inS_nil, (fun ⟨_, _, _, _, e, _⟩ => nomatch e)⟩
  | some p =>
    have g := hgd p (passF_mem hp)
    cases p with
    | line p st lo b => exact ⟨fun z => absurd z inS_nil, (fun ⟨_, _, _, _, e, _⟩ => nomatch e)⟩
    | racks p per ss =>
      have epl : p = pl := by
        have hh : ∀ {qs : List Pas} {x : Pas}, passF pl qs = some x → x.place = pl := by
          intro qs
          induction qs with
          | nil => intro x e; cases e
          | cons y r ih =>
            intro x e
            unfold passF at e
            split at e
            · cases e; assumption
            · exact ih e
        exact hh hp
      have e1 : ofP pl T ks (.racks p per ss) = (ks.filter fun k : Int => decide (k < (ss.length : Int))).map (rackP T per) := if_pos epl
      show InS (ofP pl T ks (.racks p per ss)) n ↔ _
      rw [e1, racks_in g.2.1 fun k hk' => hk k (List.mem_filter.mp hk').1]
      constructor
      · rintro ⟨z1, z2⟩
        exact ⟨z1, p, per, ss, rfl, (List.mem_filter.mp z2).1⟩
      · rintro ⟨z1, _, _, _, e, z2⟩
        cases e
        refine ⟨z1, List.mem_filter.mpr ⟨z2, decide_eq_true ?_⟩⟩
        have := g.2.2.2.1
        exact Int.ediv_lt_of_lt_mul (by have := g.2.1; omega) (by rw [Int.mul_comm]; omega)
theorem ofF_len {pl : Str} {T : Int} {ks : List Int} {ps : List Pas} (nd : (ps.map Pas.place).Nodup) : (ofF pl T ks ps).length ≤ ks.length := by
  rw [ofF_one nd]
  cases passF pl ps with
  | none => exact Nat.zero_le _
  | some p => exact ofP_len
abbrev sOfRacks : Stmt := topS 31
theorem scOfRacks : FnScope ["_law_batch", "_law_place", "_law_racks", "_law_pairs", "_law_one", "_law_rack"] ["_law_batch", "_law_place", "_law_racks"] (defScope sOfRacks) := ⟨rfl, rfl, rfl, by decide +kernel, rfl, by decide +kernel, by decide +kernel⟩
def spOfRacks : Sp := fun vs H Q _ => ∃ (b rk : Addr) (mark pl : Str) (T : Int) (ps : List Pas) (ks : List Int), vs = [.ref b, .str pl, .ref rk] ∧ BatA H b mark T ps ∧ (∀ p ∈ ps, p.Good T) ∧ ps.length ≤ 6 ∧ (ps.map Pas.place).Nodup ∧ H rk = some (.lst (ks.map V.int)) ∧ (∀ k ∈ ks, 0 ≤ k) ∧ ks.length ≤ 13 ∧ RetS H (RackP pl T ps ks) 13 Q
def OfW (H : Hp) (b rk pa : Addr) (pl : Str) (qs : List (Int × Int)) (y4 : Option V) (σ : L2.St) (Hx : Hp) : Prop := ∃ (vs : List V) (y5 : Option V), σ = [some (.ref b), some (.str pl), some (.ref rk), some (.ref pa), y4, y5] ∧ Same H Hx ∧ Hx pa = some (.lst vs) ∧ Prs Hx vs qs
section
variable {K : PySem.W.Frag} {mg : Str → Option Value} {P : Program} {w : World} {base : Heap}
theorem ok_lboth {f : Addr} {fd : FuncData} (F : Fun K "_law_both" "_law_both" sLBoth f fd) (CS : Cal P w K mg base 1 "_law_set_of" ["_law_pairs"] spLSet) (mx : mg "max" = none) (mn : mg "min" = none) : FnOk P w K mg base CX0 2 f fd ["_law_one", "_law_other"] spLBoth := by
  refine F.ok scLBoth (fun vs H Q E h => ?_) (fun cdv A outer s H vs Q E hr h => ?_)
  · obtain ⟨a, b, us, ws, ps, qs, rfl, _⟩ := h
    rfl
  · obtain ⟨a, b, us, ws, ps, qs, rfl, ea, hus, eb, hws, hp, hq, hpl, hql, q⟩ := h
    refine ⟨_, pss_cons (ps_set (i := 2) scLBoth.nd rfl (.inl rfl) (pe_lst pa_nil))
      (pss_cons (ps_for PassesOwn.never rfl (pi_list (pv 0)) (pg_tup rfl (pgs_cons (pg_name (i := 3) scLBoth.nd rfl (.inr rfl)) (pgs_cons (pg_name (i := 4) scLBoth.nd rfl (.inr rfl)) pgs_nil)))
        (pss_one (ps_expr (pe_bm PySem.F.plainAttrs_list PySem.F.slot_list_extend PySem.F.type_list_extend mt_extend (pv 2) (pa_cons (pe_lc (own := [("_law_low", 5), ("_law_high", 6)]) (g := gTup K 2 (gCons (gName 5) (gCons (gName 6) gNil))) (tt := tYes) (te := tTup (tCons (tCB (fun xs H Q => ∃ i j, xs = [V.int i, V.int j] ∧ Q (.int (if j > i then j else i)) H) (tCons (tVar 3) (tCons (tVar 5) tNil))) (tCons (tCB (fun xs H Q => ∃ i j, xs = [V.int i, V.int j] ∧ Q (.int (if j < i then j else i)) H) (tCons (tVar 4) (tCons (tVar 6) tNil))) tNil))) rfl scLBoth.nd (pi_list (pv 1))
          (blkOk_by (own := [("_law_low", 5), ("_law_high", 6)]) (N := ["_law_one", "_law_other", "_law_made", "_law_first", "_law_last", "_law_low", "_law_high"]) (sc := defScope sLBoth) (by decide +kernel)) (fun _ _ _ _ _ => pg_tup rfl (pgs_cons (pg_name (i := 5) scLBoth.nd rfl (.inl rfl)) (pgs_cons (pg_name (i := 6) scLBoth.nd rfl (.inl rfl)) pgs_nil))) (fun _ _ _ _ _ => pts_nil)
          (fun _ _ _ _ _ => pe_tup (pa_cons (pe_callB (call_max2 rfl) (by rfl) mx (by decide +kernel) (pa_cons (pv 3) (pa_cons (pv 5) pa_nil))) (pa_cons (pe_callB (call_min2 rfl) (by rfl) mn (by decide +kernel) (pa_cons (pv 4) (pa_cons (pv 6) pa_nil))) pa_nil)))) pa_nil)))))
      (pss_one (ps_ret (pe_own CS hr (by rfl) (pa_cons (pv 2) pa_nil))))), ?_⟩
    refine ⟨Nat.zero_le _, fun pa npa => ?_⟩
    have spa := same_upd (o := .lst []) npa
    refine ⟨_, rfl, a, rfl, ⟨_, SqL.of (spa _ _ ea)⟩, for_list (xs := us) (fun i σ Hx => ∃ (vs : List V) (y3 y4 : Option V), σ = [some (.ref a), some (.ref b), some (.ref pa), y3, y4, none, none] ∧ Same H Hx ∧ Hx pa = some (.lst vs) ∧ Prs Hx vs (crossF qs (ps.take i)))
      ⟨[], _, _, rfl, spa, upd_same, Prs.nil⟩ (fun i σ Hx _ hP => ?_) (fun i x σ Hx hx hP => ?_) (fun σ Hx hP => ?_)⟩
    · obtain ⟨_, _, _, rfl, sx, _⟩ := hP
      exact SqL.of (sx _ _ ea)
    · obtain ⟨vs, y3, y4, rfl, sx, epa, hvs⟩ := hP
      obtain ⟨p, T, ep, rfl, eT⟩ := prs_at (hus.same sx) hx
      have hi : i < ps.length := (List.getElem?_eq_some_iff.mp ep).1
      have etake : crossF qs (ps.take (i + 1)) = crossF qs (ps.take i) ++ qs.map (crossP p) := by
        rw [List.take_add_one, ep]
        exact crossF_snoc _
      have hvl : vs.length ≤ 156 := by
        rw [hvs.1, crossF_len, List.length_take]
        exact Nat.le_trans (Nat.mul_le_mul (show min i ps.length ≤ 12 by omega) hql) (by decide)
      refine ⟨T, _, rfl, .inl (.inl eT), rfl, _, _, rfl, _, _, rfl, rfl, ?_⟩
      refine ⟨_, rfl, .inl ⟨rfl, _, SqL.of epa⟩, _, rfl, b, rfl, ⟨_, SqL.of (sx _ _ eb)⟩, fun D nD => lc_list (xs := ws) (fun j H' => Same Hx H' ∧ ∃ zs, H' D = some (.lst zs) ∧ Prs H' zs ((qs.take j).map (crossP p))) ⟨same_upd nD, [], upd_same, Prs.nil⟩ (fun j H' _ hP => SqL.of (hP.1 _ _ (sx _ _ eb))) (fun j x H' hx2 hP => ?_) (fun H2 hP => ?_)⟩
      · obtain ⟨sm, zs, eD, hzs⟩ := hP
        obtain ⟨r, T2, er, rfl, eT2⟩ := prs_at ((hws.same sx).same sm) hx2
        have hj : j < qs.length := (List.getElem?_eq_some_iff.mp er).1
        refine ⟨T2, _, rfl, .inl (.inl eT2), rfl, _, _, rfl, _, _, rfl, rfl, rfl, ?_⟩
        refine ⟨_, rfl, _, rfl, p.1, r.1, rfl, _, rfl, _, rfl, p.2, r.2, rfl, (by show 2 ≤ sizeLine; decide), fun t nt => ?_⟩
        have st := same_upd (o := .tup [.int (crossP p r).1, .int (crossP p r).2]) nt
        have eD' := st _ _ eD
        refine ⟨zs, eD', small1000 (by rw [hzs.1, List.length_map, List.length_take]; omega), fun y o e => ?_, _, upd_same, ?_⟩
        · rw [upd_ne (ne_of_none e nD)]
          exact st _ _ (sm y o e)
        · rw [List.take_add_one, er, List.map_append]
          exact ((hzs.same st).snoc (x := (crossP p r).1) (y := (crossP p r).2) upd_same).upd_lst eD'
      · obtain ⟨sm, zs, eD, hzs⟩ := hP
        rw [hws.1, List.take_length] at hzs
        have epa2 := sm _ _ epa
        have hzl : zs.length = qs.length := by rw [hzs.1, List.length_map]
        have hsz : vs.length + zs.length ≤ sizeLine := Nat.le_trans (show vs.length + zs.length ≤ 169 by omega) (by decide)
        refine ⟨pa, D, _, _, rfl, rfl, epa2, eD, hsz, vs ++ zs, _, _, rfl, fun y o e => ?_, upd_same, ?_⟩
        · rw [upd_ne (ne_of_none e npa)]
          exact sm _ _ (sx y o e)
        · rw [etake]
          exact ((hvs.same sm).append hzs).upd_lst epa2
    · obtain ⟨vs, y3, y4, rfl, sx, epa, hvs⟩ := hP
      rw [hus.1, List.take_length] at hvs
      have hl : (crossF qs ps).length ≤ 900 := by
        rw [crossF_len]
        exact Nat.le_trans (Nat.mul_le_mul hpl hql) (by decide)
      refine ⟨_, rfl, pa, vs, _, rfl, epa, hvs, hl, fun l wsr rs H' nl el hwsr ht hrl s' => ?_⟩
      have ht' : Told (fun n => InS ps n ∧ InS qs n) rs := ht.cong fun n => crossF_in ps
      exact q l wsr rs H' (sx.free nl) el hwsr ht' (both_told ht' hp hq) (sx.trans s')
theorem ok_ofRacks {f : Addr} {fd : FuncData} (F : Fun K "_law_of_racks" "_law_of_racks" sOfRacks f fd) (CS : Cal P w K mg base 1 "_law_set_of" ["_law_pairs"] spLSet) (me : mg "len" = none) (mn : mg "min" = none) : FnOk P w K mg base CX0 2 f fd ["_law_batch", "_law_place", "_law_racks"] spOfRacks := by
  refine F.ok scOfRacks (fun vs H Q E h => ?_) (fun cdv A outer s H vs Q E hr h => ?_)
  · obtain ⟨b, rk, mark, pl, T, ps, ks, rfl, _⟩ := h
    rfl
  · obtain ⟨b, rk, mark, pl, T, ps, ks, rfl, ⟨a, us, eb, ha, hus⟩, hgd, hpl, hnd, erk, hks, hkl, q⟩ := h
    refine ⟨_, pss_cons (ps_set (i := 3) scOfRacks.nd rfl (.inl rfl) (pe_lst pa_nil))
      (pss_cons (ps_for PassesOwn.never rfl (pi_seq (pe_ix ix_tup (pv 0) pe_int (fun _ _ => rfl))) (pg_name (i := 4) scOfRacks.nd rfl (.inl rfl))
        (pss_one (ps_if (PW.pt (pw_and (pt_cmpR op_eq (pe_ix ix_tup (pv 4) pe_int (fun _ _ => rfl)) (pv 1) (nomark _)) (pw_and1 (pt_cmpR op_eq (pe_ix ix_tup (pv 4) pe_int (fun _ _ => rfl)) pe_str (nomark _)))))
          (pss_one (ps_for PassesOwn.never rfl (pi_list (pv 2)) (pg_name (i := 5) scOfRacks.nd rfl (.inl rfl))
            (pss_one (ps_if (pt_cmpR op_lt (pv 5) (pe_callB call_len_seq (by rfl) me PySem.boot_len (pa_cons (pe_ix ix_tup (pv 4) pe_int (fun _ _ => rfl)) pa_nil)) (nomark _))
              (pss_one (ps_expr (pe_bm PySem.F.plainAttrs_list PySem.F.slot_list_append PySem.F.type_list_append mt_append (pv 3) (pa_cons (pe_tup (pa_cons (pe_op op_mul (pv 5) (pe_ix ix_tup (pv 4) pe_int (fun _ _ => rfl))) (pa_cons (pe_op op_sub (pe_callB (call_min2 rfl) (by rfl) mn (by decide +kernel) (pa_cons (pe_ix ix_tup (pv 0) pe_int (fun _ _ => rfl)) (pa_cons (pe_op op_mul (pe_op op_add (pv 5) pe_int) (pe_ix ix_tup (pv 4) pe_int (fun _ _ => rfl))) pa_nil))) pe_int) pa_nil))) pa_nil)))) pss_nil)))) pss_nil)))
      (pss_one (ps_ret (pe_own CS hr (by rfl) (pa_cons (pv 3) pa_nil))))), ?_⟩
    refine ⟨Nat.zero_le _, fun pa npa => ?_⟩
    have spa := same_upd (o := .lst []) npa
    refine ⟨_, rfl, b, _, 2, .ref a, rfl, rfl, .inl (.inl (spa _ _ eb)), atI_nat (j := 2) rfl, a, rfl, for_seqS (xs := us) ha.sq spa (fun i σ Hx => ∃ y4, OfW H b rk pa pl (ofF pl T ks (ps.take i)) y4 σ Hx)
      ⟨_, [], _, rfl, spa, upd_same, Prs.nil⟩ (fun i σ Hx hP => ?_) (fun i x σ Hx hx hP => ?_) (fun σ Hx hP => ?_)⟩
    · obtain ⟨_, _, _, rfl, sx, _⟩ := hP
      exact sx
    · obtain ⟨y4, vs, y5, rfl, sx, epa, hvs⟩ := hP
      obtain ⟨p, ep, hv0⟩ := hus.at hx
      have hv := hv0.same sx
      have hg := hgd p (List.mem_of_getElem? ep)
      have hi : i < 6 := Nat.lt_of_lt_of_le (List.getElem?_eq_some_iff.mp ep).1 hpl
      have etake : ofF pl T ks (ps.take (i + 1)) = ofF pl T ks (ps.take i) ++ ofP pl T ks p := by rw [List.take_add_one, ep]; exact ofF_snoc _
      have hvl : vs.length ≤ 13 := by
        rw [hvs.1]
        exact Nat.le_trans (ofF_len (List.Nodup.sublist (List.Sublist.map _ (List.take_sublist i ps)) hnd)) hkl
      have other : ofP pl T ks p = [] → ∀ y4 : Option V, ∃ y4', OfW H b rk pa pl (ofF pl T ks (ps.take (i + 1))) y4' [some (.ref b), some (.str pl), some (.ref rk), some (.ref pa), y4, y5] Hx := fun h y4 => ⟨_, vs, _, rfl, sx, epa, by rw [etake, h, List.append_nil]; exact hvs⟩
      cases p with
      | line p st lo by_ =>
        obtain ⟨g, rfl, eg⟩ := hv
        have hline : decide (V.str "line" = V.str "racks") = false := by decide +kernel
        refine ⟨_, rfl, g, _, 1, .str p, rfl, rfl, .inl (.inl eg), atI_nat (j := 1) rfl, _, rfl, rfl, _, rfl, ite2 (fun c => ?_) (fun c => iteF (other rfl _))⟩
        exact ⟨_, rfl, g, _, 0, .str "line", rfl, rfl, .inl (.inl eg), atI_nat (j := 0) rfl, rfl, false, congrArg V.bl hline, iteF (other rfl _)⟩
      | racks p per ss =>
        obtain ⟨g, sy, ws, rfl, eg0, _⟩ := id hv0
        obtain ⟨g', sy', ws', eg', eg, hsy, hws⟩ := hv
        cases eg'
        obtain ⟨_, p0, p1, p2, p3, _⟩ := id hg
        refine ⟨_, rfl, g, _, 1, .str p, rfl, rfl, .inl (.inl eg), atI_nat (j := 1) rfl, _, rfl, rfl, _, rfl, ite2 (fun c => ?_) (fun c => iteF (other (ofP_other (show (Pas.racks p per ss).place ≠ pl from fun z => c (decide_eq_true (congrArg V.str z)))) _))⟩
        have c' : p = pl := V.str.inj (of_decide_eq_true c)
        have eof : ofP pl T ks (.racks p per ss) = (ks.filter fun k : Int => decide (k < (ss.length : Int))).map (rackP T per) := if_pos c'
        refine ⟨_, rfl, g, _, 0, .str "racks", rfl, rfl, .inl (.inl eg), atI_nat (j := 0) rfl, rfl, true, congrArg V.bl (decide_eq_true rfl), iteT ?_⟩
        refine ⟨_, rfl, rk, rfl, ⟨_, SqL.of (sx _ _ erk)⟩, for_list (xs := ks.map V.int) (fun j σ Hy => OfW H b rk pa pl (ofF pl T ks (ps.take i) ++ ((ks.take j).filter fun k : Int => decide (k < (ss.length : Int))).map (rackP T per)) (some (.ref g)) σ Hy) ⟨vs, _, rfl, sx, epa, by rw [List.take_zero]; exact (List.append_nil (ofF pl T ks (ps.take i))).symm ▸ hvs⟩ (fun j σ Hy _ hP => ?_) (fun j x σ Hy hx hP => ?_) (fun σ Hy hP => ?_)⟩
        · obtain ⟨_, _, rfl, sy2, _⟩ := hP
          exact SqL.of (sy2 _ _ erk)
        · obtain ⟨vs2, z5, rfl, sy2, epa2, hvs2⟩ := hP
          obtain ⟨k, ek, rfl⟩ : ∃ k, ks[j]? = some k ∧ x = .int k := by
            rw [List.getElem?_map] at hx
            cases h : ks[j]? with
            | none => rw [h] at hx; cases hx
            | some n => rw [h] at hx; exact ⟨n, rfl, (Option.some.inj hx).symm⟩
          have hk := hks k (List.mem_of_getElem? ek)
          have hj : j < ks.length := (List.getElem?_eq_some_iff.mp ek).1
          obtain ⟨g2, sy3, ws3, eg2, egy, hsy3, hws3⟩ := hv0.same sy2
          cases eg2
          have eby := sy2 _ _ eb
          have etk : ((ks.take (j + 1)).filter fun k : Int => decide (k < (ss.length : Int))).map (rackP T per) = ((ks.take j).filter fun k : Int => decide (k < (ss.length : Int))).map (rackP T per) ++ (if k < (ss.length : Int) then [rackP T per k] else []) := by
            rw [List.take_add_one, ek, List.filter_append, List.map_append]
            by_cases h : k < (ss.length : Int)
            · rw [if_pos h]; simp [h]
            · rw [if_neg h]; simp [h]
          have hvl2 : vs2.length ≤ 26 := by
            rw [hvs2.1, List.length_append, List.length_map]
            have h1 := List.length_filter_le (fun k : Int => decide (k < (ss.length : Int))) (ks.take j)
            rw [List.length_take] at h1
            have := hvs.1
            omega
          refine ⟨_, rfl, _, rfl, g, _, 3, .ref sy3, rfl, rfl, .inl (.inl egy), atI_nat (j := 3) rfl, sy3, ws3, rfl, hsy3.sq, k, (ws3.length : Int), rfl, rfl, _, rfl, ?_⟩
          rw [hws3.1]
          refine ite2 (fun c2 => ?_) (fun c2 => ?_)
          · have c2' : k < (ss.length : Int) := of_decide_eq_true c2
            refine ⟨_, rfl, .inl ⟨rfl, _, SqL.of epa2⟩, _, rfl, _, rfl, g, _, 2, .int per, rfl, rfl, .inl (.inl egy), atI_nat (j := 2) rfl, k, per, rfl, rfl, .inl ⟨by omega, by omega⟩, ?_⟩
            refine ⟨_, rfl, b, _, 1, .int T, rfl, rfl, .inl (.inl eby), atI_nat (j := 1) rfl, _, rfl, k, 1, rfl, rfl, _, rfl, g, _, 2, .int per, rfl, rfl, .inl (.inl egy), atI_nat (j := 2) rfl, k + 1, per, rfl, rfl, .inl ⟨by omega, by omega⟩, T, _, rfl, _, 1, rfl, rfl, (by show 2 ≤ sizeLine; decide), fun t2 nt2 => ?_⟩
            have er : (if (k + 1) * per < T then (k + 1) * per else T) - 1 = (rackP T per k).2 := by
              show _ = (if T < k * per + per then T else k * per + per) - 1
              rw [Int.add_mul, Int.one_mul]
              split <;> split <;> omega
            have st2 := same_upd (o := .tup [.int (k * per), .int ((if (k + 1) * per < T then (k + 1) * per else T) - 1)]) nt2
            have epa3 := st2 _ _ epa2
            refine ⟨pa, _, _, rfl, rfl, epa3, small1000 (by omega), vs2 ++ [.ref t2], _, rfl, fun y o e => ?_, upd_same, ?_⟩
            · rw [upd_ne (ne_of_none e npa)]
              exact st2 _ _ (sy2 y o e)
            · rw [etk, if_pos c2', ← List.append_assoc]
              exact ((hvs2.same st2).snoc (x := (rackP T per k).1) (y := (rackP T per k).2) (by rw [← er]; exact upd_same)).upd_lst epa3
          · have c2' : ¬ k < (ss.length : Int) := fun z => c2 (decide_eq_true z)
            refine ⟨vs2, _, rfl, sy2, epa2, ?_⟩
            rw [etk, if_neg c2', List.append_nil]
            exact hvs2
        · obtain ⟨vs2, z5, rfl, sy2, epa2, hvs2⟩ := hP
          rw [List.length_map, List.take_length] at hvs2
          refine ⟨_, vs2, _, rfl, sy2, epa2, ?_⟩
          rw [etake, eof]
          exact hvs2
    · obtain ⟨y4, vs, y5, rfl, sx, epa, hvs⟩ := hP
      rw [hus.1, List.take_length] at hvs
      have hl := ofF_len (pl := pl) (T := T) (ks := ks) hnd
      refine ⟨_, rfl, pa, vs, _, rfl, epa, hvs, by omega, fun l wsr rs H' nl el hwsr ht hrl s' => ?_⟩
      exact q l wsr rs H' (sx.free nl) el hwsr (ht.cong fun n => ofF_in hgd hnd hks) (by omega) (sx.trans s')
end

/-! ### what is due, fault by fault -/
abbrev sDue2 : Stmt := topS 32
theorem scDue2 : FnScope ["_law_batches", "_law_faults", "_law_rows", "_law_batch", "_law_pairs", "_law_place", "_law_first", "_law_last", "_law_racks", "_law_tins"] ["_law_batches", "_law_faults"] (defScope sDue2) := ⟨rfl, rfl, rfl, by decide +kernel, rfl, by decide +kernel, by decide +kernel⟩
def Bat.Apart (b : Bat) : Prop := b.Ok ∧ (b.ps.map Pas.place).Nodup
def spDue2 : Sp := fun vs H Q _ => ∃ (N : Addr → Prop) (a c : Addr) (us ws : List V) (bs : List Bat) (fs : List Flt), vs = [.ref a, .ref c] ∧ H a = some (.lst us) ∧ Each BatV H us bs ∧ (∀ b ∈ bs, b.Apart) ∧ H c = some (.lst ws) ∧ Each (FltN N) H ws fs ∧ (∀ f ∈ fs, f.Ok) ∧ bs.length ≤ 20 ∧ fs.length ≤ 20 ∧
  ∀ (l : Addr) (ys : List V) H', H l = none → H' l = some (.lst ys) → Each (RowV (fun s => H s = none ∧ s ≠ l) 600) H' ys (rowsF fs bs) → Same H H' → Q (.ref l) H'
theorem told_up {pr : Int → Prop} {rs : List (Int × Int)} (h : Told pr rs) : ∀ p ∈ rs, p.1 ≤ p.2 := fun p hp => by
  obtain ⟨lo, r⟩ := h.ris
  exact (r.le p hp).2
section
variable {K : PySem.W.Frag} {mg : Str → Option Value} {P : Program} {w : World} {base : Heap}
theorem ok_due2 {f : Addr} {fd : FuncData} (F : Fun K "_law_due" "_law_due" sDue2 f fd) (CD : Cal P w K mg base 2 "_law_tins_due" ["_law_batch", "_law_place", "_law_first", "_law_last"] spDue) (CB : Cal P w K mg base 2 "_law_both" ["_law_one", "_law_other"] spLBoth) (CO : Cal P w K mg base 2 "_law_of_racks" ["_law_batch", "_law_place", "_law_racks"] spOfRacks) (CS : Cal P w K mg base 1 "_law_set_of" ["_law_pairs"] spLSet) : FnOk P w K mg base CX0 3 f fd ["_law_batches", "_law_faults"] spDue2 := by
  refine F.ok scDue2 (fun vs H Q E h => ?_) (fun cdv A outer s H vs Q E hr h => ?_)
  · obtain ⟨N, a, c, us, ws, bs, fs, rfl, _⟩ := h
    rfl
  · obtain ⟨N, a, c, us, ws, bs, fs, rfl, ha, hus, hbo, hc, hws, hfo, hbl, hfl, q⟩ := h
    have hr1 := hr.mono (show 1 ≤ 2 by decide)
    refine ⟨_, pss_cons (ps_set (i := 2) scDue2.nd rfl (.inl rfl) (pe_lst pa_nil))
      (pss_cons (ps_for PassesOwn.never rfl (pi_list (pv 0)) (pg_name (i := 3) scDue2.nd rfl (.inl rfl))
        (pss_cons (ps_set (i := 4) scDue2.nd rfl (.inl rfl) (pe_lst pa_nil))
        (pss_cons (ps_for PassesOwn.never rfl (pi_list (pv 1)) (pg_tup rfl (pgs_cons (pg_name (i := 5) scDue2.nd rfl (.inl rfl)) (pgs_cons (pg_name (i := 6) scDue2.nd rfl (.inl rfl)) (pgs_cons (pg_name (i := 7) scDue2.nd rfl (.inl rfl)) (pgs_cons (pg_name (i := 8) scDue2.nd rfl (.inl rfl)) pgs_nil)))))
          (pss_cons (ps_set (i := 9) scDue2.nd rfl (.inl rfl) (pe_own CD hr (by rfl) (pa_cons (pv 3) (pa_cons (pv 5) (pa_cons (pv 6) (pa_cons (pv 7) pa_nil))))))
          (pss_one (ps_expr (pe_bm PySem.F.plainAttrs_list PySem.F.slot_list_extend PySem.F.type_list_extend mt_extend (pv 4) (pa_cons (pe_mid (pe_ifExp (pt_cmpR (op_eqD hr.units) (pv 8) (pe_lst pa_nil) (nomark _)) (pv 9) (pe_own CB hr (by rfl) (pa_cons (pv 9) (pa_cons (pe_own CO hr (by rfl) (pa_cons (pv 3) (pa_cons (pv 5) (pa_cons (pv 8) pa_nil)))) pa_nil))))) pa_nil))))))
        (pss_one (ps_if (pt_cmpR (op_neD hr.units) (pv 4) (pe_lst pa_nil) (nomark _)) (pss_one (ps_expr (pe_bm PySem.F.plainAttrs_list PySem.F.slot_list_append PySem.F.type_list_append mt_append (pv 2) (pa_cons (pe_tup (pa_cons (pe_ix ix_tup (pv 3) pe_int (fun _ _ => rfl)) (pa_cons (pe_own CS hr1 (by rfl) (pa_cons (pv 4) pa_nil)) pa_nil))) pa_nil)))) pss_nil)))))
      (pss_one (ps_ret (pv 2)))), ?_⟩
    refine ⟨Nat.zero_le _, fun tl ntl => ?_⟩
    have stl := same_upd (o := .lst []) ntl
    refine ⟨_, rfl, a, rfl, ⟨_, SqL.of (stl _ _ ha)⟩, for_list (xs := us) (fun i σ Hx => ∃ (ys : List V) (y3 y4 y5 y6 y7 y8 y9 : Option V), σ = [some (.ref a), some (.ref c), some (.ref tl), y3, y4, y5, y6, y7, y8, y9] ∧ Same H Hx ∧ Hx tl = some (.lst ys) ∧ Each (RowV (fun s => H s = none ∧ s ≠ tl) 600) Hx ys (rowsF fs (bs.take i)))
      ⟨[], _, _, _, _, _, _, _, rfl, stl, upd_same, Each.nil⟩ (fun i σ Hx _ hP => ?_) (fun i v σ Hx hx hP => ?_) (fun σ Hx hP => ?_)⟩
    · obtain ⟨_, _, _, _, _, _, _, _, rfl, sx, _⟩ := hP
      exact SqL.of (sx _ _ ha)
    · obtain ⟨ys, y3, y4, y5, y6, y7, y8, y9, rfl, sx, etl, hys⟩ := hP
      obtain ⟨b, eb, hbv⟩ := hus.at hx
      obtain ⟨hb, hbn⟩ := hbo b (List.mem_of_getElem? eb)
      have hi : i < bs.length := (List.getElem?_eq_some_iff.mp eb).1
      have etake : rowsF fs (bs.take (i + 1)) = rowsF fs (bs.take i) ++ (if canon (ReachAny b fs) = [] then [] else [(b.mark, canon (ReachAny b fs))]) := by
        rw [List.take_add_one, eb]
        exact rowsF_snoc _
      obtain ⟨ba, rfl, hBA⟩ := id hbv
      refine ⟨Nat.zero_le _, fun pa npa => ?_⟩
      have spa := same_upd (o := .lst []) npa
      refine ⟨_, rfl, c, rfl, ⟨_, SqL.of ((sx.trans spa) _ _ hc)⟩, for_list (xs := ws) (fun j σ Hy => ∃ (vs : List V) (qs : List (Int × Int)) (z5 z6 z7 z8 z9 : Option V), σ = [some (.ref a), some (.ref c), some (.ref tl), some (.ref ba), some (.ref pa), z5, z6, z7, z8, z9] ∧ Same Hx Hy ∧ Hy pa = some (.lst vs) ∧ Prs Hy vs qs ∧ (∀ n, InS qs n ↔ ReachAny b (fs.take j) n) ∧ (∀ p ∈ qs, p.1 ≤ p.2) ∧ qs.length ≤ 25 * j)
        ⟨[], [], _, _, _, _, _, rfl, spa, upd_same, Prs.nil, (fun n => ⟨fun z => absurd z inS_nil, fun ⟨_, z, _⟩ => nomatch z⟩), (fun _ z => nomatch z), Nat.le_refl _⟩ (fun j σ Hy _ hP => ?_) (fun j x σ Hy hx' hP => ?_) (fun σ Hy hP => ?_)⟩
      · obtain ⟨_, _, _, _, _, _, _, rfl, sy, _⟩ := hP
        exact SqL.of ((sx.trans sy) _ _ hc)
      · obtain ⟨vs, qs, z5, z6, z7, z8, z9, rfl, sy, epa, hvs, hin, hup, hql⟩ := hP
        obtain ⟨fl, ef, hfv⟩ := hws.at hx'
        have hf := hfo fl (List.mem_of_getElem? ef)
        have hj : j < fs.length := (List.getElem?_eq_some_iff.mp ef).1
        have S := sx.trans sy
        obtain ⟨fa, rk, rfl, efa, erk, _⟩ := hfv.same S
        have hBy := hBA.same S
        refine ⟨fa, _, rfl, .inl (.inl efa), rfl, _, _, rfl, _, _, rfl, _, _, rfl, _, _, rfl, rfl, ?_⟩
        refine ⟨_, rfl, _, rfl, _, rfl, _, rfl, ba, b.mark, fl.pl, b.T, fl.first, b.ps, some fl.last, rfl, hBy, hb.1, hb.2.1, hb.2.2.1, hbn, hb.2.2.2, fun l1 ws1 rs1 H1 nl1 el1 hws1 ht1 hl1 s1 => ?_⟩
        have epa1 := s1 _ _ epa
        refine ⟨_, rfl, .inl ⟨rfl, _, SqL.of epa1⟩, fun v H' => ∃ (l : Addr) (wsr : List V) (rs : List (Int × Int)), v = .ref l ∧ H' l = some (.lst wsr) ∧ Prs H' wsr rs ∧ Told (ReachP b fl) rs ∧ rs.length ≤ 25 ∧ Same H1 H', ?_, ?_⟩
        · refine ⟨_, rfl, Nat.zero_le _, fun z nz => ?_⟩
          have sz := same_upd (o := .lst []) nz
          have erk1 := (s1.trans sz) _ _ erk
          refine ⟨_, _, .lst (SqL.of erk1) (dp_ints fl.ks), .lst (SqL.of upd_same) .nil, shaped_ints _, shaped_ints [], _, rfl, ?_⟩
          cases hk : fl.ks with
          | nil =>
            rw [eqv_nil0]
            refine iteT ⟨_, rfl, l1, ws1, rs1, rfl, sz _ _ el1, hws1.same sz, ht1.cong fun n => ⟨fun y => ⟨y, .inl hk⟩, fun y => y.1⟩, by omega, sz⟩
          | cons k0 kr =>
            rw [eqv_nil]
            refine iteF ?_
            refine ⟨_, rfl, _, rfl, _, rfl, _, rfl, ba, rk, b.mark, fl.pl, b.T, b.ps, fl.ks, rfl, hBy.same (s1.trans sz), hb.2.2.1, hb.2.2.2, hbn, erk1, fun k hk' => (hf.2.2.1 k hk').1, hf.2.2.2, fun l2 ws2 rs2 H2 nl2 el2 hws2 ht2 hl2 s2 => ?_⟩
            refine ⟨l1, l2, ws1, ws2, rs1, rs2, rfl, (sz.trans s2) _ _ el1, hws1.same (sz.trans s2), el2, hws2, ht1.ris, ht2.ris, by omega, by omega, fun l3 ws3 rs3 H3 nl3 el3 hws3 ht3 hl3 s3 => ?_⟩
            refine ⟨l3, ws3, rs3, rfl, el3, hws3, ht3.cong fun n => ?_, by omega, (sz.trans s2).trans s3⟩
            rw [ht1.same n, ht2.same n]
            unfold ReachP
            rw [hk]
            exact ⟨fun y => ⟨y.1, .inr y.2⟩, fun y => ⟨y.1, y.2.elim (fun z => nomatch z) id⟩⟩
        rintro v H4 ⟨l, wsr, rs, rfl, el, hwsr, ht, hrl, s4⟩
        have epa4 := s4 _ _ epa1
        have S4 := (sy.trans s1).trans s4
        have hl1 := hvs.1
        have hl2 := hwsr.1
        have hsz : vs.length + wsr.length ≤ sizeLine := Nat.le_trans (show vs.length + wsr.length ≤ 600 by omega) (by decide)
        refine ⟨pa, l, _, _, rfl, rfl, epa4, el, hsz, vs ++ wsr, qs ++ rs, _, _, _, _, _, rfl, fun y o e => ?_, upd_same, (((hvs.same s1).same s4).append hwsr).upd_lst epa4, fun n => ?_, fun p hp => ?_, by rw [List.length_append]; omega⟩
        · rw [upd_ne (ne_of_none e npa)]
          exact S4 y o e
        · rw [inS_append, hin n, ht.same n]
          exact (reachAny_take ef).symm
        · rcases List.mem_append.mp hp with y | y
          · exact hup p y
          · exact told_up ht p y
      · obtain ⟨vs, qs, z5, z6, z7, z8, z9, rfl, sy, epa, hvs, hin, hup, hql⟩ := hP
        rw [hws.1, List.take_length] at hin
        rw [hws.1] at hql
        refine ⟨_, rfl, Nat.zero_le _, fun z nz => ?_⟩
        have sz := same_upd (o := .lst []) nz
        refine ⟨_, _, .lst (SqL.of (sz _ _ epa)) (dp_prs (hvs.same sz)), .lst (SqL.of upd_same) .nil, shaped_prs _, shaped_ints [], _, rfl, ?_⟩
        rw [eqv_pr_nil]
        have S := sy.trans sz
        have etl3 := S _ _ etl
        have hys3 : Each (RowV (fun s => H s = none ∧ s ≠ tl) 600) (upd Hy z (.lst [])) ys (rowsF fs (bs.take i)) := hys.mono fun v x _ y => y.same S
        have hyl := hys.1
        have hrl := rowsF_len (fs := fs) (bs.take i)
        rw [List.length_take] at hrl
        have epa3 := sz _ _ epa
        have hvs3 := hvs.same sz
        revert S etl3 hys3 epa3 hvs3
        generalize upd Hy z (.lst []) = H3
        intro S etl3 hys3 epa3 hvs3
        refine ite2 (fun c1 => ?_) (fun c1 => ?_)
        · have hne : qs ≠ [] := fun y => by rw [y] at c1; exact absurd c1 (by decide)
          obtain ⟨ab, vb, eba, _⟩ := hBA.same (sx.trans S)
          refine ⟨_, rfl, .inl ⟨rfl, _, SqL.of etl3⟩, _, rfl, ba, _, 0, .str b.mark, rfl, rfl, .inl (.inl eba), atI_nat (j := 0) rfl, ?_⟩
          refine ⟨_, rfl, pa, vs, qs, rfl, epa3, hvs3, by omega, fun l5 ws5 rs5 H5 nl5 el5 hws5 ht5 hl5 s5 => ⟨(by show 2 ≤ sizeLine; decide), fun t nt => ?_⟩⟩
          have ec := (ht5.cong hin).canon
          have er : ¬ rs5 = [] := fun y => by
            obtain ⟨p0, hp0⟩ := List.exists_mem_of_ne_nil qs hne
            have := (ht5.same p0.1).mpr ⟨p0, hp0, Int.le_refl _, hup p0 hp0⟩
            rw [y] at this
            exact inS_nil this
          have st := same_upd (o := .tup [.str b.mark, .ref l5]) nt
          have etl4 := st _ _ (s5 _ _ etl3)
          have nl5' : H l5 = none ∧ l5 ≠ tl := ⟨(sx.trans S).free nl5, fun y => by rw [y, etl3] at nl5; cases nl5⟩
          have hrow : RowV (fun s => H s = none ∧ s ≠ tl) 600 (upd H5 t (.tup [.str b.mark, .ref l5])) (.ref t) (b.mark, canon (ReachAny b fs)) := ⟨t, l5, ws5, rfl, nl5', upd_same, st _ _ el5, by rw [← ec]; exact hws5.same st, by rw [← ec]; show rs5.length ≤ 600; omega⟩
          refine ⟨tl, _, _, rfl, rfl, etl4, small1000 (by omega), ys ++ [.ref t], _, _, _, _, _, _, _, rfl, fun y o e => ?_, upd_same, ?_⟩
          · rw [upd_ne (ne_of_none e ntl)]
            exact st _ _ (s5 _ _ ((sx.trans S) y o e))
          · rw [etake, if_neg (by rw [← ec]; exact er)]
            exact ((hys3.mono fun v x _ y => (y.same s5).same st).app (Each.one hrow)).mono fun v x _ y => y.upd etl4 fun s hs => hs.2
        · have hnil : qs = [] := by
            cases qs with
            | nil => rfl
            | cons n0 r0 => exact absurd rfl c1
          subst hnil
          refine ⟨ys, _, _, _, _, _, _, _, rfl, sx.trans S, etl3, ?_⟩
          have ec : canon (ReachAny b fs) = [] := (Told.canon (rs := []) ⟨⟨0, True.intro⟩, fun n => hin n⟩).symm
          rw [etake, if_pos ec, List.append_nil]
          exact hys3
    · obtain ⟨ys, y3, y4, y5, y6, y7, y8, y9, rfl, sx, etl, hys⟩ := hP
      rw [hus.1, List.take_length] at hys
      exact ⟨_, rfl, q tl ys Hx ntl etl hys sx⟩
end

/-! ### lists of batches as they grow -/
def BatW (N : Addr → Prop) (H : Hp) (v : V) (b : Bat) : Prop := ∃ a, v = .ref a ∧ BatF N H a b.mark b.T b.ps
theorem BatW.bat {N : Addr → Prop} {H : Hp} {v : V} {b : Bat} (h : BatW N H v b) : BatV H v b := let ⟨a, e, h⟩ := h; ⟨a, e, h.bat⟩
theorem BatW.same {N : Addr → Prop} {H H' : Hp} {v : V} {b : Bat} (h : BatW N H v b) (s : Same H H') : BatW N H' v b := let ⟨a, e, h⟩ := h; ⟨a, e, h.same s⟩
theorem BatW.kp {N : Addr → Prop} {H H' : Hp} {d c : Addr} {t : Int} {v : V} {b : Bat} (h : BatW N H v b) (S : StAt H d c t) (k : Kp d c H H') : BatW N H' v b := let ⟨a, e, h⟩ := h; ⟨a, e, h.kp S k⟩
theorem BatW.weak {N N' : Addr → Prop} {H : Hp} {v : V} {b : Bat} (h : BatW N H v b) (n : ∀ x, N x → N' x) : BatW N' H v b := let ⟨a, e, h⟩ := h; ⟨a, e, h.weak n⟩
/-- stays are no batches -/
theorem stays_no {H : Hp} {us zs : List V} {bs : List Bat} {ss : List (Int × Int)} {D s : Addr} (e : H D = some (.lst us)) (hu : Each BatV H us bs) (hs : SqH H s zs) (hp : Prs H zs ss) (hne : ss ≠ []) : s ≠ D := fun z => by
  subst z
  rcases hs with h | h
  · rw [h] at e
    have eu : zs = us := HO.lst.inj (Option.some.inj e)
    subst eu
    cases ss with
    | nil => exact hne rfl
    | cons q r =>
      obtain ⟨b, f1, f2⟩ := hp.2 0 q rfl
      obtain ⟨x, _, a, ea, v2, vs, h1, _⟩ := hu.at f1
      cases ea
      rw [f2] at h1
      cases h1
  · rw [h] at e
    cases e
theorem BatW.upd {N : Addr → Prop} {H : Hp} {v : V} {b : Bat} {us : List V} {bs : List Bat} {D : Addr} {o : HO} (h : BatW N H v b) (hb : b.Ok) (n : ∀ x, N x → x ≠ D) (e : H D = some (.lst us)) (hu : Each BatV H us bs) : BatW N (L2.upd H D o) v b := by
  obtain ⟨a, ev, p, vs, h1, h2, h3, h4⟩ := h
  refine ⟨a, ev, p, vs, by rw [upd_ne (ne_of h1 e (fun z => nomatch z))]; exact h1, h2.imp (fun h => by rw [upd_ne (n _ h4)]; exact h) (fun h => by rw [upd_ne (n _ h4)]; exact h), ⟨h3.1, fun i u q e1 e2 => ?_⟩, h4⟩
  have z := h3.2 i u q e1 e2
  have g := hb.2.2.1 q (List.mem_of_getElem? e2)
  cases q with
  | line => obtain ⟨a', e', h'⟩ := z; exact ⟨a', e', by rw [upd_ne (ne_of h' e (fun z => nomatch z))]; exact h'⟩
  | racks pp per ss =>
    obtain ⟨a', s', us', e', g1, g2, g3⟩ := z
    have ns := stays_no e hu g2 g3 (g.stays hb.1)
    exact ⟨a', s', us', e', by rw [upd_ne (ne_of g1 e (fun z => nomatch z))]; exact g1, g2.imp (fun h => by rw [upd_ne ns]; exact h) (fun h => by rw [upd_ne ns]; exact h), g3.upd_lst e⟩

theorem nb_prs (ps : List (Int × Int)) : NoBl (.list (ps.map pairD)) := by
  rw [NoBl]
  refine noBls_of fun d hd => ?_
  obtain ⟨p, _, rfl⟩ := List.mem_map.mp hd
  simp only [pairD, NoBl, NoBls, and_self]
theorem set_dat {H : Hp} {l : Addr} {ws : List V} {rs : List (Int × Int)} (e : H l = some (.lst ws)) (h : Prs H ws rs) : Dat H (.ref l) (.list (rs.map pairD)) := .lst e (by rw [List.length_map]; exact h.1) (prs_dat h)
theorem Told.nil {pr : Int → Prop} {rs : List (Int × Int)} (h : Told pr rs) (no : ∀ n, ¬ pr n) : rs = [] := h.one (pr' := fun _ => False) ⟨⟨0, True.intro⟩, fun _ => ⟨fun z => inS_nil z, False.elim⟩⟩ fun n => ⟨fun z => no n z, False.elim⟩

/-! ### told rows as data -/
theorem dat_cons {H : Hp} {x : V} {d : PyData} {xs : List V} {ds : List PyData} (h : Dat H x d) (hr : ∀ (i : Nat) y e, xs[i]? = some y → ds[i]? = some e → Dat H y e) : ∀ (i : Nat) y e, (x :: xs)[i]? = some y → (d :: ds)[i]? = some e → Dat H y e
  | 0, y, e, e1, e2 => by cases e1; cases e2; exact h
  | i + 1, y, e, e1, e2 => hr i y e e1 e2
theorem dat_nil {H : Hp} : ∀ (i : Nat) y e, ([] : List V)[i]? = some y → ([] : List PyData)[i]? = some e → Dat H y e := fun _ _ _ e => nomatch e
theorem sm_cons {n : Nat} {d : PyData} {ds : List PyData} (h : Sm n d) (hr : ∀ e ∈ ds, Sm n e) : ∀ e ∈ d :: ds, Sm n e := fun e he => by
  rcases List.mem_cons.mp he with z | z
  · rw [z]; exact h
  · exact hr e z
theorem sm_nil {n : Nat} : ∀ e ∈ ([] : List PyData), Sm n e := fun _ h => nomatch h
theorem sm_int {n : Nat} {i : Int} : Sm n (.int i) := by cases n <;> trivial
theorem sm_str {n : Nat} {x : Str} : Sm n (.str x) := by cases n <;> trivial

def rowD (r : Str × List (Int × Int)) : PyData := .tuple [.str r.1, .list (r.2.map pairD)]
def rowsD (rs : List (Str × List (Int × Int))) : PyData := .list (rs.map rowD)
theorem RowV.dat {N : Addr → Prop} {m : Nat} {H : Hp} {v : V} {r : Str × List (Int × Int)} (h : RowV N m H v r) : Dat H v (rowD r) := by
  obtain ⟨t, s, ws, rfl, _, h1, h2, h3, _⟩ := h
  exact .tup h1 rfl (dat_cons (.str _) (dat_cons (set_dat h2 h3) dat_nil))
theorem rows_dat {N : Addr → Prop} {m : Nat} {H : Hp} {l : Addr} {ys : List V} {rs : List (Str × List (Int × Int))} (e : H l = some (.lst ys)) (h : Each (RowV N m) H ys rs) : Dat H (.ref l) (rowsD rs) := .lst e (by rw [List.length_map]; exact h.1) fun i x d e1 e2 => by
  obtain ⟨r, er, hr⟩ := h.at e1
  rw [List.getElem?_map, er] at e2
  cases e2
  exact hr.dat
theorem rows_small {N : Addr → Prop} {m : Nat} {H : Hp} {ys : List V} {rs : List (Str × List (Int × Int))} (h : Each (RowV N m) H ys rs) (hm : m ≤ 900) (hl : rs.length ≤ 900) : Sm 4 (rowsD rs) := by
  refine ⟨by rw [List.length_map]; exact hl, fun d hd => ?_⟩
  obtain ⟨r, hr, rfl⟩ := List.mem_map.mp hd
  obtain ⟨i, hi, ei⟩ := List.getElem_of_mem hr
  have hi' : i < ys.length := by rw [h.1]; exact hi
  obtain ⟨_, _, _, _, _, _, _, _, h4⟩ := h.2 i _ r (List.getElem?_eq_getElem hi') (by rw [List.getElem?_eq_getElem hi, ei])
  exact ⟨by show 2 ≤ 900; decide, sm_cons sm_str (sm_cons (sm_prs (Nat.le_trans h4 hm)) sm_nil)⟩
theorem nb_rows (rs : List (Str × List (Int × Int))) : NoBl (rowsD rs) := by
  unfold rowsD
  rw [NoBl]
  refine noBls_of fun d hd => ?_
  obtain ⟨r, _, rfl⟩ := List.mem_map.mp hd
  have h := nb_prs r.2
  simp only [rowD, NoBl, NoBls, true_and, and_true]
  simpa only [NoBl] using h

/-! ### rows by marks -/
theorem rowsF_mem {fs : List Flt} {r : Str × List (Int × Int)} : ∀ {bs : List Bat}, r ∈ rowsF fs bs ↔ ∃ b ∈ bs, ¬ canon (ReachAny b fs) = [] ∧ r = (b.mark, canon (ReachAny b fs))
  | [] => ⟨(fun z => nomatch z), (fun ⟨_, z, _⟩ => nomatch z)⟩
  | b :: bs => by
    rw [rowsF, List.mem_append, rowsF_mem (bs := bs)]
    constructor
    · rintro (z | ⟨b', hb', z⟩)
      · split at z
        · exact nomatch z
        · rename_i h
          exact ⟨b, List.mem_cons_self .., h, List.mem_singleton.mp z⟩
      · exact ⟨b', List.mem_cons_of_mem _ hb', z⟩
    · rintro ⟨b', hb', h, z⟩
      rcases List.mem_cons.mp hb' with e | e
      · subst e
        rw [if_neg h]
        exact .inl (List.mem_singleton.mpr z)
      · exact .inr ⟨b', e, h, z⟩
theorem rowsF_congr {fs fs' : List Flt} (h : ∀ f, f ∈ fs ↔ f ∈ fs') : ∀ bs : List Bat, rowsF fs bs = rowsF fs' bs
  | [] => rfl
  | b :: bs => by
    have e : ReachAny b fs = ReachAny b fs' := funext fun n => propext ⟨fun ⟨f, hf, z⟩ => ⟨f, (h f).mp hf, z⟩, fun ⟨f, hf, z⟩ => ⟨f, (h f).mpr hf, z⟩⟩
    rw [rowsF, rowsF, e, rowsF_congr h bs]
theorem rowsF_marks {fs : List Flt} : ∀ {bs : List Bat}, (bs.map Bat.mark).Nodup → ((rowsF fs bs).map Prod.fst).Nodup
  | [], _ => List.nodup_nil
  | b :: bs, h => by
    rw [List.map_cons, List.nodup_cons] at h
    rw [rowsF, List.map_append]
    split
    · exact rowsF_marks h.2
    · show (b.mark :: (rowsF fs bs).map Prod.fst).Nodup
      refine List.nodup_cons.mpr ⟨fun z => ?_, rowsF_marks h.2⟩
      obtain ⟨r, hr, er⟩ := List.mem_map.mp z
      obtain ⟨b', hb', _, e⟩ := rowsF_mem.mp hr
      rw [e] at er
      exact h.1 (List.mem_map.mpr ⟨b', hb', er⟩)
theorem mark_one {bs : List Bat} (h : (bs.map Bat.mark).Nodup) {b b' : Bat} (hb : b ∈ bs) (hb' : b' ∈ bs) (e : b.mark = b'.mark) : b = b' := by
  obtain ⟨i, hi, ei⟩ := List.getElem_of_mem hb
  obtain ⟨j, hj, ej⟩ := List.getElem_of_mem hb'
  have hl : (bs.map Bat.mark).length = bs.length := List.length_map ..
  have e2 : (bs.map Bat.mark)[i]? = (bs.map Bat.mark)[j]? := by
    rw [List.getElem?_map, List.getElem?_map, List.getElem?_eq_getElem hi, List.getElem?_eq_getElem hj, ei, ej]
    exact congrArg some e
  have := (List.getElem?_inj (by omega) h).mp e2
  subst this
  exact ei.symm.trans ej
theorem merge_new : ∀ (kvs acc : List (Key × V)), ((acc ++ kvs).map Prod.fst).Nodup → mergeK acc kvs = acc ++ kvs
  | [], acc, _ => (List.append_nil acc).symm
  | kv :: r, acc, h => by
    have hno : (acc.any fun x => decide (x.1 = kv.1)) = false := by
      rw [List.any_eq_false]
      intro x hx z
      have e := of_decide_eq_true z
      rw [List.map_append, List.map_cons] at h
      exact (List.nodup_append.mp h).2.2 x.1 (List.mem_map.mpr ⟨x, hx, rfl⟩) kv.1 (List.mem_cons_self ..) e
    have ep : putK acc kv.1 kv.2 = acc ++ [kv] := by
      unfold putK
      rw [hno]
      rfl
    show mergeK (putK acc kv.1 kv.2) r = _
    rw [ep, merge_new r (acc ++ [kv]) (by rw [List.append_assoc]; exact h), List.append_assoc]
    rfl
/-- a told row's set -/
def SetV (m : Nat) (H : Hp) (v : V) (rs : List (Int × Int)) : Prop := ∃ s ws, v = .ref s ∧ H s = some (.lst ws) ∧ Prs H ws rs ∧ rs.length ≤ m
theorem SetV.same {m : Nat} {H H' : Hp} {v : V} {rs : List (Int × Int)} (h : SetV m H v rs) (s : Same H H') : SetV m H' v rs := let ⟨a, ws, e, h1, h2, h3⟩ := h; ⟨a, ws, e, s _ _ h1, h2.same s, h3⟩
theorem rows_pairs {K : PySem.W.Frag} {N : Addr → Prop} {m : Nat} {H : Hp} : ∀ {ys : List V} {rows : List (Str × List (Int × Int))}, Each (RowV N m) H ys rows → ∃ (ts : List Addr) (kvs : List (Key × V)), ys = ts.map V.ref ∧ Paired (fun p kv => SqT K H p [kV kv.1, kv.2]) ts kvs ∧ kvs.map Prod.fst = rows.map (fun r => (.inr r.1 : Key)) ∧ ∀ kv ∈ kvs, ∃ r ∈ rows, kv.1 = .inr r.1 ∧ SetV m H kv.2 r.2
  | [], [], _ => ⟨[], [], rfl, .nil, rfl, fun _ z => nomatch z⟩
  | [], _ :: _, h => nomatch h.1
  | _ :: _, [], h => nomatch h.1
  | y :: ys, r :: rows, h => by
    obtain ⟨t, s, ws, e, _, h1, h2, h3, h4⟩ := h.2 0 y r rfl rfl
    obtain ⟨ts, kvs, e1, e2, e3, e4⟩ := rows_pairs (K := K) (ys := ys) (rows := rows) ⟨Nat.succ.inj h.1, fun i u q f1 f2 => h.2 (i + 1) u q f1 f2⟩
    refine ⟨t :: ts, (.inr r.1, .ref s) :: kvs, by rw [e, e1]; rfl, .cons (.inl (.inl h1)) e2, by rw [List.map_cons, List.map_cons, e3], fun kv hkv => ?_⟩
    rcases List.mem_cons.mp hkv with z | z
    · rw [z]
      exact ⟨r, List.mem_cons_self .., rfl, s, ws, rfl, h2, h3, h4⟩
    · obtain ⟨r', hr', z'⟩ := e4 kv z
      exact ⟨r', List.mem_cons_of_mem _ hr', z'⟩
theorem key_of {bs : List Bat} {fs : List Flt} {kvs : List (Key × V)} {m : Nat} {H : Hp} {b : Bat} (nd : (bs.map Bat.mark).Nodup) (hb : b ∈ bs) (ek : kvs.map Prod.fst = (rowsF fs bs).map (fun r => (.inr r.1 : Key))) (hk : ∀ kv ∈ kvs, ∃ r ∈ rowsF fs bs, kv.1 = .inr r.1 ∧ SetV m H kv.2 r.2) :
    (valV kvs (.inr b.mark) = none ∧ canon (ReachAny b fs) = []) ∨ ∃ v, valV kvs (.inr b.mark) = some v ∧ ¬ canon (ReachAny b fs) = [] ∧ SetV m H v (canon (ReachAny b fs)) := by
  unfold valV
  cases hf : kvs.find? fun kv => decide (kv.1 = .inr b.mark) with
  | none =>
    refine .inl ⟨rfl, ?_⟩
    refine Classical.byContradiction fun hne => ?_
    have hr : (b.mark, canon (ReachAny b fs)) ∈ rowsF fs bs := rowsF_mem.mpr ⟨b, hb, hne, rfl⟩
    have hkm : (.inr b.mark : Key) ∈ kvs.map Prod.fst := by
      rw [ek]
      exact List.mem_map.mpr ⟨_, hr, rfl⟩
    obtain ⟨kv, hkv, e⟩ := List.mem_map.mp hkm
    have := List.find?_eq_none.mp hf kv hkv
    exact this (decide_eq_true e)
  | some kv =>
    obtain ⟨r, hr, e1, e2⟩ := hk kv (List.mem_of_find?_eq_some hf)
    have h3 := List.find?_some hf
    have e3 : kv.1 = .inr b.mark := of_decide_eq_true h3
    rw [e1] at e3
    have e4 : r.1 = b.mark := Sum.inr.inj e3
    obtain ⟨b', hb', hne, e5⟩ := rowsF_mem.mp hr
    rw [e5] at e4
    have e6 := mark_one nd hb' hb e4
    subst e6
    rw [e5] at e2
    exact .inr ⟨kv.2, rfl, hne, e2⟩
theorem Each.take {α : Type} {R : Hp → V → α → Prop} {H : Hp} {vs : List V} {xs : List α} (h : Each R H vs xs) (k : Nat) : Each R H (vs.take k) (xs.take k) := ⟨by rw [List.length_take, List.length_take, h.1], fun i v p e1 e2 => by
  rw [List.getElem?_take] at e1 e2
  split at e1
  · rename_i hi
    rw [if_pos hi] at e2
    exact h.2 i v p e1 e2
  · cases e1⟩
theorem Each.drop {α : Type} {R : Hp → V → α → Prop} {H : Hp} {vs : List V} {xs : List α} (h : Each R H vs xs) (k : Nat) : Each R H (vs.drop k) (xs.drop k) := ⟨by rw [List.length_drop, List.length_drop, h.1], fun i v p e1 e2 => by
  rw [List.getElem?_drop] at e1 e2
  exact h.2 _ v p e1 e2⟩
/-! ### the law -/
abbrev sLaw : Stmt := topS 33
theorem scLaw : FnScope ["_law_script", "_law_state", "_law_places", "_law_many", "_law_batches", "_law_faults", "_law_due_here", "_law_at", "_law_fewer", "_law_less", "_law_mark", "_law_batch"] ["_law_script"] (defScope sLaw) := ⟨rfl, rfl, rfl, by decide +kernel, rfl, by decide +kernel, by decide +kernel⟩
def spLaw (K : PySem.W.Frag) : Sp := fun vs H Q _ => ∃ (a : Addr) (ns : List Int), vs = [.ref a] ∧ SqL K H a (ns.map V.int) ∧ ns.length ≤ 63 ∧ ∀ H', Q (.bl true) H'
section
variable {K : PySem.W.Frag} {mg : Str → Option Value} {P : Program} {w : World} {base : Heap}
theorem ok_law {f : Addr} {fd : FuncData} (F : Fun K "law" "law" sLaw f fd) (CB : Cal P w K mg base 1 "_law_begin" ["_law_script"] (spBegin K)) (CT : Cal P w K mg base 1 "_law_take" ["_law_state", "_law_many"] spTake) (CN : Cal P w K mg base 2 "_law_names" ["_law_state", "_law_many"] spNames) (CM : Cal P w K mg base 2 "_law_marks_by" ["_law_state", "_law_many"] spNames)
    (CK : Cal P w K mg base 4 "_law_batch_by" ["_law_state", "_law_mark", "_law_places", "_law_great"] spBatch) (CF : Cal P w K mg base 4 "_law_faults_by" ["_law_state", "_law_batches", "_law_places", "_law_many"] spFaultsBy) (CD : Cal P w K mg base 3 "_law_due" ["_law_batches", "_law_faults"] spDue2) (CR : Cal P w K mg base 5 "reached" ["batches", "faults"] spReached) (CG : Cal P w K mg base 5 "_law_same" ["_law_found", "_law_due_here"] (spSame 4)) (me : mg "len" = none) (md : mg "dict" = none) :
    FnOk P w K mg base CX0 6 f fd ["_law_script"] (spLaw K) := by
  refine F.ok scLaw (fun vs H Q E h => ?_) (fun cdv A outer s H vs Q E hr h => ?_)
  · obtain ⟨a, ns, rfl, _⟩ := h
    rfl
  · obtain ⟨a, ns, rfl, hS, hlen, q⟩ := h
    have hr1 := hr.mono (show 1 ≤ 5 by decide)
    have hr2 := hr.mono (show 2 ≤ 5 by decide)
    have hr3 := hr.mono (show 3 ≤ 5 by decide)
    have hr4 := hr.mono (show 4 ≤ 5 by decide)
    refine ⟨_, pss_cons (ps_set (i := 1) scLaw.nd rfl (.inr rfl) (pe_own CB hr1 (by rfl) (pa_cons (pv 0) pa_nil)))
      (pss_cons (ps_set (i := 2) scLaw.nd rfl (.inr rfl) (pe_own CN hr2 (by rfl) (pa_cons (pv 1) (pa_cons pe_int pa_nil))))
      (pss_cons (ps_set (i := 3) scLaw.nd rfl (.inl rfl) (pe_ix ix_list (pe_lst (pa_cons pe_int (pa_cons pe_int (pa_cons pe_int pa_nil)))) (pe_own CT hr1 (by rfl) (pa_cons (pv 1) (pa_cons pe_int pa_nil))) (fun _ _ => rfl)))
      (pss_cons (ps_setLc (i := 4) (own := [("_law_mark", 10)]) (g := gName 10) (tt := tYes) (te := tCall spBatch [] E0 (tCons (tVar 1) (tCons (tVar 10) (tCons (tVar 2) (tCons (tC (.int 1)) tNil))))) rfl scLaw.nd rfl rfl (sw_true rfl rfl rfl (by decide +kernel)) (pi_list (pe_own CM hr2 (by rfl) (pa_cons (pv 1) (pa_cons (pv 3) pa_nil))))
          (blkOk_by (own := [("_law_mark", 10)]) (N := ["_law_script", "_law_state", "_law_places", "_law_many", "_law_batches", "_law_faults", "_law_due_here", "_law_at", "_law_fewer", "_law_less", "_law_mark", "_law_batch"]) (sc := defScope sLaw) (by decide +kernel)) (fun _ _ _ _ _ => pg_name (i := 10) scLaw.nd rfl (.inl rfl)) (fun _ _ _ _ _ => pts_nil)
          (fun _ _ _ _ _ => pe_own CK hr4 (by rfl) (pa_cons (pv 1) (pa_cons (pv 10) (pa_cons (pv 2) (pa_cons pe_int pa_nil))))))
      (pss_cons (ps_set (i := 5) scLaw.nd rfl (.inl rfl) (pe_own CF hr4 (by rfl) (pa_cons (pv 1) (pa_cons (pv 4) (pa_cons (pv 2) (pa_cons (pe_ix ix_list (pe_lst (pa_cons pe_int (pa_cons pe_int (pa_cons pe_int pa_nil)))) (pe_own CT hr1 (by rfl) (pa_cons (pv 1) (pa_cons pe_int pa_nil))) (fun _ _ => rfl)) pa_nil))))))
      (pss_cons (ps_set (i := 6) scLaw.nd rfl (.inl rfl) (pe_own CD hr3 (by rfl) (pa_cons (pv 4) (pa_cons (pv 5) pa_nil))))
      (pss_cons (ps_if (pt_not (pt_val (pe_own CG hr (by rfl) (pa_cons (pe_own CR hr (by rfl) (pa_cons (pv 4) (pa_cons (pv 5) pa_nil))) (pa_cons (pv 6) pa_nil))))) (pss_one (ps_ret pe_bl)) pss_nil)
      (pss_cons (ps_set (i := 7) scLaw.nd rfl (.inl rfl) (pe_own CT hr1 (by rfl) (pa_cons (pv 1) (pa_cons (pe_callB call_len_seq (by rfl) me PySem.boot_len (pa_cons (pv 5) pa_nil)) pa_nil))))
      (pss_cons (ps_if (pt_not (pt_val (pe_own CG hr (by rfl) (pa_cons (pe_own CR hr (by rfl) (pa_cons (pv 4) (pa_cons (pe_op op_cat (pe_slice sl_list (pv 5) (po_some (pv 7)) po_none) (pe_slice sl_list (pv 5) po_none (po_some (pv 7)))) pa_nil))) (pa_cons (pv 6) pa_nil))))) (pss_one (ps_ret pe_bl)) pss_nil)
      (pss_cons (ps_set (i := 8) scLaw.nd rfl (.inr rfl) (pe_callTy (call_dictP rfl) (by rfl) md (by decide +kernel) (pa_cons (pe_own CD hr3 (by rfl) (pa_cons (pv 4) (pa_cons (pe_slice sl_list (pv 5) (po_some pe_int) po_none) pa_nil))) pa_nil)))
      (pss_cons (ps_setLc (i := 9) (own := [("_law_batch", 11)]) (g := gName 11) (tt := tB (tDIn (tOp (rIxT K) (tVar 11) (tC (.int 0))) (tVar 8))) (te := tTup (tCons (tOp (rIxT K) (tVar 11) (tC (.int 0))) (tCons (tDGet (tVar 8) (tOp (rIxT K) (tVar 11) (tC (.int 0)))) tNil))) rfl scLaw.nd rfl rfl (sw_true rfl rfl rfl (by decide +kernel)) (pi_list (pv 4))
          (blkOk_by (own := [("_law_batch", 11)]) (N := ["_law_script", "_law_state", "_law_places", "_law_many", "_law_batches", "_law_faults", "_law_due_here", "_law_at", "_law_fewer", "_law_less", "_law_mark", "_law_batch"]) (sc := defScope sLaw) (by decide +kernel)) (fun _ _ _ _ _ => pg_name (i := 11) scLaw.nd rfl (.inl rfl)) (fun _ _ _ _ _ => pts_one (pt_cmp (pc_din (hu_of hr) (pe_ix ix_tup (pv 11) pe_int (fun _ _ => rfl)) (pv 8))))
          (fun _ _ _ _ _ => pe_tup (pa_cons (pe_ix ix_tup (pv 11) pe_int (fun _ _ => rfl)) (pa_cons (pe_dget (hu_of hr) (pv 8) (pe_ix ix_tup (pv 11) pe_int (fun _ _ => rfl)) (fun _ _ => rfl)) pa_nil))))
      (pss_cons (ps_if (pt_not (pt_val (pe_own CG hr (by rfl) (pa_cons (pe_own CR hr (by rfl) (pa_cons (pv 4) (pa_cons (pe_slice sl_list (pv 5) (po_some pe_int) po_none) pa_nil))) (pa_cons (pv 9) pa_nil))))) (pss_one (ps_ret pe_bl)) pss_nil)
      (pss_one (ps_ret (pe_or (pe_cmpR op_eq (pe_callB call_len_seq (by rfl) me PySem.boot_len (pa_cons (pv 5) pa_nil)) pe_int (nomark _)) (pe_one (pe_own CG hr (by rfl) (pa_cons (pe_own CR hr (by rfl) (pa_cons (pv 4) (pa_cons (pe_op op_cat (pv 5) (pe_slice sl_list (pv 5) po_none (po_some pe_int))) pa_nil))) (pa_cons (pv 6) pa_nil)))))))))))))))))), ?_⟩
    refine ⟨.ref a, rfl, a, ns, rfl, hS, hlen, fun d c H1 s1 nd nc hS1 => ?_⟩
    refine ⟨_, rfl, d, c, 0, 6, rfl, hS1, by decide, by decide, by decide, fun l xs t2 H2 nl el hxs hxl hxn t20 t21 hS2 k2 => ?_⟩
    -- many
    refine ⟨(by show 3 ≤ sizeLine; decide), fun z nz => ?_⟩
    have sz := same_upd (o := .lst [.int 1, .int 2, .int 12]) nz
    refine ⟨_, rfl, d, c, t2, 3, rfl, hS2.same sz, by omega, by decide, by decide, fun r3 H3 r30 r31 hS3 k3 => ?_⟩
    obtain ⟨many, hmany, hat⟩ := pick3 (x := 1) (y := 2) (z := 12) (fun v => 1 ≤ v ∧ v ≤ 12) r30 r31 (by decide) (by decide) (by decide)
    refine ⟨z, _, r3, .int many, rfl, rfl, SqL.of (k3.new hS2 nz), hat, ?_⟩
    have el3 := ((Kp.same d c sz).trans k3).lst hS2 el (noInt_strs xs)
    -- batches
    refine ⟨_, rfl, _, rfl, d, c, t2 + 1, many, rfl, hS3, by omega, by omega, by omega, fun lm ms t4 H4 nlm elm hms hml hmn t40 t41 hS4 k4 => ?_⟩
    have el4 := k4.lst hS3 el3 (noInt_strs xs)
    refine ⟨lm, rfl, ⟨_, SqL.of elm⟩, fun D nD => lc_list (xs := ms.map V.str) (fun j H' => ∃ (t' : Int) (us : List V) (bs : List Bat), H' D = some (.lst us) ∧ Each (BatW (fun x => x ≠ D)) H' us bs ∧ (∀ b ∈ bs, b.Apart) ∧ bs.map Bat.mark = ms.take j ∧ t4 ≤ t' ∧ t' ≤ t4 + 1300 * j ∧ StAt H' d c t' ∧ Kp d c H4 H')
      ⟨t4, [], [], upd_same, Each.nil, (fun _ z => nomatch z), rfl, by omega, by omega, hS4.same (same_upd nD), Kp.same d c (same_upd nD)⟩ (fun j H' _ hP => ?_) (fun j x H' hx hP => ?_) (fun H5 hP => ?_)⟩
    · obtain ⟨_, _, _, _, _, _, _, _, _, _, k'⟩ := hP
      exact SqL.of (k'.lst hS4 elm (noInt_strs ms))
    · obtain ⟨t', us, bs, eD, hus, hbs, hbl, u0, u1, hS', k'⟩ := hP
      obtain ⟨mark, emk, rfl⟩ : ∃ mark, ms[j]? = some mark ∧ x = .str mark := by
        rw [List.getElem?_map] at hx
        cases h : ms[j]? with
        | none => rw [h] at hx; cases hx
        | some n => rw [h] at hx; exact ⟨n, rfl, (Option.some.inj hx).symm⟩
      have hj : j < 12 := by
        have := (List.getElem?_eq_some_iff.mp emk).1
        omega
      have hbl' : bs.length ≤ 12 := by
        have := congrArg List.length hbl
        rw [List.length_map, List.length_take] at this
        omega
      have elx := k'.lst hS4 el4 (noInt_strs xs)
      refine ⟨rfl, _, rfl, _, rfl, _, rfl, d, c, l, t', 1, mark, xs, rfl, hS', by omega, elx, hxs, by omega, by decide, by decide, fun b T ps t5 H5 hB hT1 hT2 hT40 hgd hlow hpn hpl t50 t51 hS5 k5 => ?_⟩
      have offD := hS4.off nD
      have eD5 := k5 _ _ offD.1 offD.2 eD
      have hus5 : Each (BatW (fun x => x ≠ D)) H5 us bs := hus.mono fun v x _ z => z.kp hS' k5
      have hbat : BatW (fun x => x ≠ D) H5 (.ref b) ⟨mark, T, ps⟩ := ⟨b, rfl, hB.weak fun x hx hz => by rw [hz, eD] at hx; cases hx⟩
      have hnew := hus5.app (Each.one hbat)
      have hap : (⟨mark, T, ps⟩ : Bat).Apart := ⟨⟨hT1, hT2, hgd, hpl⟩, hpn hxn⟩
      have hall : ∀ b' ∈ bs ++ [⟨mark, T, ps⟩], b'.Apart := fun b' hb' => by
        rcases List.mem_append.mp hb' with z | z
        · exact hbs b' z
        · rw [List.mem_singleton.mp z]; exact hap
      refine ⟨us, eD5, small1000 (by rw [hus.1]; omega), t5, us ++ [.ref b], bs ++ [⟨mark, T, ps⟩], upd_same, hnew.mono fun v x hx z => z.upd (hall x hx).1 (fun _ h => h) eD5 (hus5.imp fun _ _ _ z => z.bat), hall, by rw [List.map_append, hbl, List.take_add_one, emk]; rfl, by omega, by omega, hS5.upd offD.1 offD.2, fun b' o b1 b2 e => ?_⟩
      rw [upd_ne (ne_of_none e nD)]
      exact k5 b' o b1 b2 (k' b' o b1 b2 e)
    obtain ⟨t5, us, bs, eD, hus, hbs, hbm, u0, u1, hS5, k5⟩ := hP
    rw [List.length_map] at hbm u1
    rw [List.take_length] at hbm
    have hbl : bs.length = ms.length := by rw [← hbm, List.length_map]
    have hmk : (bs.map Bat.mark).Nodup := by rw [hbm]; exact hmn
    have hbn : bs ≠ [] := fun z => by
      rw [z] at hbl
      have : (0 : Nat) = ms.length := hbl
      omega
    have hbok : ∀ b ∈ bs, b.Ok := fun b hb => (hbs b hb).1
    have hbV : Each BatV H5 us bs := hus.imp fun _ _ _ z => z.bat
    have el5 := k5.lst hS4 el4 (noInt_strs xs)
    -- faults
    refine ⟨_, rfl, _, rfl, _, rfl, (by show 3 ≤ sizeLine; decide), fun z6 nz6 => ?_⟩
    have sz6 := same_upd (o := .lst [.int 1, .int 2, .int 12]) nz6
    refine ⟨_, rfl, d, c, t5, 3, rfl, hS5.same sz6, by omega, by decide, by decide, fun r6 H6 r60 r61 hS6 k6' => ?_⟩
    obtain ⟨m, hm, hat6⟩ := pick3 (x := 1) (y := 2) (z := 12) (fun v => 1 ≤ v ∧ v ≤ 12) r60 r61 (by decide) (by decide) (by decide)
    have k6 := (Kp.same d c sz6).trans k6'
    have eD6 := k6.lst hS5 eD (noInt_bats hbV)
    have hbV6 : Each BatV H6 us bs := hbV.mono fun _ _ _ z => z.kp hS5 k6
    refine ⟨z6, _, r6, .int m, rfl, rfl, SqL.of (k6'.new hS5 nz6), hat6, ?_⟩
    refine ⟨d, c, D, l, us, bs, xs, t5 + 1, m, rfl, hS6, by omega, eD6, hbV6, hbok, hbn, by omega, k6.lst hS5 el5 (noInt_strs xs), (fun z => by rw [z] at hxl; exact absurd hxl (by decide)), by omega, hxs, by omega, by omega, fun lf ws fs t7 H7 nlf elf hws hfl hfo hfsl t70 t71 hS7 k7 => ?_⟩
    have eD7 := k7.lst hS6 eD6 (noInt_bats hbV6)
    have hbV7 : Each BatV H7 us bs := hbV6.mono fun _ _ _ z => z.kp hS6 k7
    have hfok : ∀ f ∈ fs, f.Ok := fun f hf' => (hfl f hf').ok
    have hfl12 : fs.length ≤ 12 := by omega
    have hwl := hws.1
    have hrl : (rowsF fs bs).length ≤ 20 := Nat.le_trans (rowsF_len bs) (by omega)
    -- due
    refine ⟨_, rfl, _, rfl, _, D, lf, us, ws, bs, fs, rfl, eD7, hbV7, hbs, elf, hws, hfok, by omega, by omega, fun l1 ys1 H8 nl1 el1 hys1 s8 => ?_⟩
    have dueD := rows_dat el1 hys1
    have hfV : Each FltV H7 ws fs := hws.imp fun _ _ _ z => z.flt
    -- reached
    refine ⟨_, rfl, _, rfl, D, lf, us, ws, bs, fs, rfl, .inl (s8 _ _ eD7), hbV7.mono fun _ _ _ z => z.same s8, hbok, .inl (s8 _ _ elf), hfV.mono fun _ _ _ z => z.same s8, hfok, by omega, by omega, fun l2 ys2 H9 nl2 el2 hys2 s9 => ?_⟩
    refine ⟨_, rfl, .ref l2, .ref l1, _, rfl, rows_dat el2 hys2, dueD.same s9, rows_small hys2 (by decide) (by omega), nb_rows _, fun H10 s10 => ⟨_, rfl, iteF ?_⟩⟩
    have S10 := (s8.trans s9).trans s10
    have hsm := rows_small hys2 (by decide) (Nat.le_trans hrl (by decide))
    -- at
    have hS10 := hS7.same S10
    refine ⟨_, rfl, _, rfl, lf, _, rfl, Sq.list (S10 _ _ elf), d, c, t7, (ws.length : Int), rfl, hS10, by omega, by omega, by omega, fun at_ H11 at0 at1 hS11 k11 => ?_⟩
    obtain ⟨n, rfl⟩ := Int.eq_ofNat_of_zero_le at0
    have hn : n < fs.length := by omega
    have K11 : Kp d c H7 H11 := (Kp.same d c S10).trans k11
    have eD11 := K11.lst hS7 eD7 (noInt_bats hbV7)
    have hbV11 : Each BatV H11 us bs := hbV7.mono fun _ _ _ z => z.kp hS7 K11
    have elf11 := K11.lst hS7 elf (noInt_flts hws)
    have hws11 : Each (FltN (fun x => x ≠ c ∧ H6 x = none)) H11 ws fs := hws.mono fun _ _ _ z => z.kp (fun _ h => h.1) hS7 K11
    have hfV11 : Each FltV H11 ws fs := hws11.imp fun _ _ _ z => z.flt
    have due11 : Dat H11 (.ref l1) (rowsD (rowsF fs bs)) := by
      have h10 : H10 l1 = some (.lst ys1) := (s9.trans s10) _ _ el1
      have hy10 : Each (RowV (fun s => H7 s = none ∧ s ≠ l1) 600) H10 ys1 (rowsF fs bs) := hys1.mono fun _ _ _ z => z.same (s9.trans s10)
      have noI : NoInt ys1 := fun x hx i e => by
        obtain ⟨j, hj, e1⟩ := List.getElem_of_mem hx
        obtain ⟨_, _, t, _, _, rfl, _⟩ := hys1.at (by rw [List.getElem?_eq_getElem hj, e1])
        cases e
      refine rows_dat (N := fun s => H7 s = none ∧ s ≠ l1) (m := 600) (k11.lst hS10 h10 noI) (hy10.mono fun v x _ z => ?_)
      obtain ⟨t, s', ws', e, n', h1, h2, h3, h4⟩ := z
      exact ⟨t, s', ws', e, n', k11.tup hS10 h1, k11.lst hS10 h2 (noInt_prs h3), h3.kp hS10 k11, h4⟩
    -- in another order
    refine ⟨_, rfl, _, rfl, _, rfl, (n : Int), rfl, lf, _, rfl, SqL.of elf11, fun ca nca => ?_⟩
    have sca := same_upd (o := .lst (cutV ws (some (n : Int)) none)) nca
    refine ⟨_, rfl, _, rfl, (n : Int), rfl, lf, _, rfl, SqL.of (sca _ _ elf11), fun cb ncb => ?_⟩
    have scb := same_upd (o := .lst (cutV ws none (some (n : Int)))) ncb
    have eca := (scb _ _ (upd_same (H := H11) (a := ca) (o := .lst (cutV ws (some (n : Int)) none)))).trans (congrArg (fun z => some (HO.lst z)) (cut_back ws n))
    have ecb := (upd_same (H := upd H11 ca (.lst (cutV ws (some (n : Int)) none))) (a := cb) (o := .lst (cutV ws none (some (n : Int))))).trans (congrArg (fun z => some (HO.lst z)) (cut_front ws n))
    have hcl : (ws.drop n).length + (ws.take n).length ≤ sizeLine := by
      rw [List.length_drop, List.length_take]
      exact Nat.le_trans (show ws.length - n + min n ws.length ≤ 12 by omega) (by decide)
    refine ⟨ca, cb, _, _, rfl, rfl, eca, ecb, hcl, fun cc ncc => ?_⟩
    have scc := same_upd (o := .lst (ws.drop n ++ ws.take n)) ncc
    have S12 := (sca.trans scb).trans scc
    have hmem : ∀ f, f ∈ fs.drop n ++ fs.take n ↔ f ∈ fs := fun f => by
      rw [List.mem_append]
      conv => rhs; rw [← List.take_append_drop n fs, List.mem_append]
      exact Or.comm
    have hfV12 : Each FltV _ (ws.drop n ++ ws.take n) (fs.drop n ++ fs.take n) := ((hfV11.drop n).app (hfV11.take n)).mono fun _ _ _ z => z.same S12
    refine ⟨D, cc, us, _, bs, fs.drop n ++ fs.take n, rfl, .inl (S12 _ _ eD11), hbV11.mono fun _ _ _ z => z.same S12, hbok, .inl upd_same, hfV12, fun f hf' => hfok f ((hmem f).mp hf'), by omega, by rw [List.length_append, List.length_drop, List.length_take]; omega, fun l3 ys3 H13 nl3 el3 hys3 s13 => ?_⟩
    rw [rowsF_congr hmem bs] at hys3
    refine ⟨_, rfl, .ref l3, .ref l1, _, rfl, rows_dat el3 hys3, (due11.same S12).same s13, hsm, nb_rows _, fun H14 s14 => ⟨_, rfl, iteF ?_⟩⟩
    have S14 := (S12.trans s13).trans s14
    -- fewer
    refine ⟨_, rfl, _, rfl, 1, rfl, lf, _, rfl, SqL.of (S14 _ _ elf11), fun cd ncd => ?_⟩
    have scd := same_upd (o := .lst (cutV ws (some 1) none)) ncd
    have ecd : upd H14 cd (.lst (cutV ws (some 1) none)) cd = some (.lst (ws.drop 1)) := by
      rw [upd_same]
      exact congrArg (fun z => some (HO.lst z)) (cut_back ws 1)
    have S15 := S14.trans scd
    refine ⟨_, D, cd, us, _, bs, fs.drop 1, rfl, S15 _ _ eD11, hbV11.mono fun _ _ _ z => z.same S15, hbs, ecd, (hws11.drop 1).mono fun _ _ _ z => z.same S15, fun f hf' => hfok f (List.mem_of_mem_drop hf'), by omega, by rw [List.length_drop]; omega, fun l4 ys4 H16 nl4 el4 hys4 s16 => ?_⟩
    obtain ⟨ts, kvs, ey, hpd, hkk, hkv⟩ := rows_pairs (K := K) hys4
    have hkn : (kvs.map Prod.fst).Nodup := by
      rw [hkk]
      have h := rowsF_marks (fs := fs.drop 1) hmk
      have e : (rowsF (fs.drop 1) bs).map (fun r => (.inr r.1 : Key)) = ((rowsF (fs.drop 1) bs).map Prod.fst).map (fun x => (.inr x : Key)) := by rw [List.map_map]; rfl
      rw [e]
      exact List.Pairwise.map _ (fun a b hab z => hab (Sum.inr.inj z)) h
    refine ⟨l4, ts, kvs, rfl, by rw [← ey]; exact SqL.of el4, hpd, fun dd ndd => ?_⟩
    rw [merge_new kvs [] hkn, List.nil_append]
    have sdd := same_upd (o := .dK kvs) ndd
    have S17 := (S15.trans s16).trans sdd
    have edd := upd_same (H := H16) (a := dd) (o := .dK kvs)
    have hkv' : ∀ kv ∈ kvs, ∃ r ∈ rowsF (fs.drop 1) bs, kv.1 = .inr r.1 ∧ SetV 600 (upd H16 dd (.dK kvs)) kv.2 r.2 := fun kv h => let ⟨r, hr', e1, e2⟩ := hkv kv h; ⟨r, hr', e1, e2.same sdd⟩
    revert S17 edd hkv'
    generalize upd H16 dd (.dK kvs) = H17
    intro S17 edd hkv'
    -- less
    refine ⟨_, rfl, D, rfl, ⟨_, SqL.of (S17 _ _ eD11)⟩, fun D2 nD2 => lc_list (xs := us) (fun j H' => Same H17 H' ∧ ∃ zs, H' D2 = some (.lst zs) ∧ Each (RowV (fun s => s ≠ D2) 600) H' zs (rowsF (fs.drop 1) (bs.take j))) ⟨same_upd nD2, [], upd_same, Each.nil⟩ (fun j H' _ hP => SqL.of (hP.1 _ _ (S17 _ _ eD11))) (fun j x H' hx hP => ?_) (fun H18 hP => ?_)⟩
    · obtain ⟨sm, zs, eD2, hzs⟩ := hP
      obtain ⟨b, eb, hbv⟩ := hbV11.at hx
      have hbm' := List.mem_of_getElem? eb
      have hj : j < bs.length := (List.getElem?_eq_some_iff.mp eb).1
      obtain ⟨ba, rfl, hBA⟩ := hbv.same (S17.trans sm)
      obtain ⟨ab, vb, eba, _⟩ := hBA
      have etake : rowsF (fs.drop 1) (bs.take (j + 1)) = rowsF (fs.drop 1) (bs.take j) ++ (if canon (ReachAny b (fs.drop 1)) = [] then [] else [(b.mark, canon (ReachAny b (fs.drop 1)))]) := by
        rw [List.take_add_one, eb]
        exact rowsF_snoc _
      have eddm := sm _ _ edd
      refine ⟨rfl, _, rfl, ba, _, 0, .str b.mark, rfl, rfl, .inl (.inl eba), atI_nat (j := 0) rfl, _, rfl, dd, _, rfl, DGet.k (k := Sum.inr b.mark) eddm, _, rfl, ?_⟩
      rcases key_of hmk hbm' hkk hkv' with ⟨ev, ec⟩ | ⟨v, ev, ec, hv⟩
      · rw [ev]
        refine iteF ⟨sm, zs, eD2, ?_⟩
        rw [etake, if_pos ec, List.append_nil]
        exact hzs
      · rw [ev]
        refine iteT ?_
        obtain ⟨s', ws', rfl, es', hp', hl'⟩ := hv.same sm
        refine ⟨_, rfl, ba, _, 0, .str b.mark, rfl, rfl, .inl (.inl eba), atI_nat (j := 0) rfl, _, rfl, _, rfl, ba, _, 0, .str b.mark, rfl, rfl, .inl (.inl eba), atI_nat (j := 0) rfl, dd, .ref s', rfl, ev ▸ DGet.k (k := Sum.inr b.mark) eddm, (by show 2 ≤ sizeLine; decide), fun t nt => ?_⟩
        have st := same_upd (o := .tup [.str b.mark, .ref s']) nt
        have eD3 := st _ _ eD2
        have hzl := hzs.1
        have hrl2 := rowsF_len (fs := fs.drop 1) (bs.take j)
        rw [List.length_take] at hrl2
        have ns' : s' ≠ D2 := fun z => by
          obtain ⟨_, _, e, e2, _⟩ := hv
          cases e
          rw [z, nD2] at e2
          cases e2
        have hrow : RowV (fun s => s ≠ D2) 600 (upd H' t (.tup [.str b.mark, .ref s'])) (.ref t) (b.mark, canon (ReachAny b (fs.drop 1))) := ⟨t, s', ws', rfl, ns', upd_same, st _ _ es', hp'.same st, hl'⟩
        refine ⟨zs, eD3, small1000 (by omega), fun y o e => ?_, zs ++ [.ref t], upd_same, ?_⟩
        · rw [upd_ne (ne_of_none e nD2)]
          exact st _ _ (sm y o e)
        · rw [etake, if_neg ec]
          exact ((hzs.mono fun v x _ y => y.same st).app (Each.one hrow)).mono fun v x _ y => y.upd eD3 fun s hs => hs
    obtain ⟨sm, zs, eD2, hzs⟩ := hP
    rw [hbV11.1, List.take_length] at hzs
    have S18 := S17.trans sm
    have lessD := rows_dat eD2 hzs
    -- reached of fewer
    refine ⟨_, rfl, _, rfl, 1, rfl, lf, _, rfl, SqL.of (S18 _ _ elf11), fun ce nce => ?_⟩
    have sce := same_upd (o := .lst (cutV ws (some 1) none)) nce
    have ece : upd H18 ce (.lst (cutV ws (some 1) none)) ce = some (.lst (ws.drop 1)) := by
      rw [upd_same]
      exact congrArg (fun z => some (HO.lst z)) (cut_back ws 1)
    have S19 := S18.trans sce
    refine ⟨D, ce, us, _, bs, fs.drop 1, rfl, .inl (S19 _ _ eD11), hbV11.mono fun _ _ _ z => z.same S19, hbok, .inl ece, (hfV11.drop 1).mono fun _ _ _ z => z.same S19, fun f hf' => hfok f (List.mem_of_mem_drop hf'), by omega, by rw [List.length_drop]; omega, fun l5 ys5 H20 nl5 el5 hys5 s20 => ?_⟩
    refine ⟨_, rfl, .ref l5, .ref D2, _, rfl, rows_dat el5 hys5, (lessD.same sce).same s20, rows_small hys5 (by decide) (Nat.le_trans (rowsF_len bs) (by omega)), nb_rows _, fun H21 s21 => ⟨_, rfl, iteF ?_⟩⟩
    have S21 := (S19.trans s20).trans s21
    -- one twice
    refine ⟨_, rfl, lf, _, rfl, Sq.list (S21 _ _ elf11), rfl, _, rfl, ite2 (fun _ => q _) (fun _ => ?_)⟩
    refine ⟨_, rfl, _, rfl, _, rfl, 1, rfl, lf, _, rfl, SqL.of (S21 _ _ elf11), fun cf ncf => ?_⟩
    have scf := same_upd (o := .lst (cutV ws none (some 1))) ncf
    have ecf : upd H21 cf (.lst (cutV ws none (some 1))) cf = some (.lst (ws.take 1)) := by
      rw [upd_same]
      exact congrArg (fun z => some (HO.lst z)) (cut_front ws 1)
    have S22 := S21.trans scf
    have hcl2 : ws.length + (ws.take 1).length ≤ sizeLine := by
      rw [List.length_take]
      exact Nat.le_trans (show ws.length + min 1 ws.length ≤ 13 by omega) (by decide)
    refine ⟨lf, cf, _, _, rfl, rfl, S22 _ _ elf11, ecf, hcl2, fun cg ncg => ?_⟩
    have scg := same_upd (o := .lst (ws ++ ws.take 1)) ncg
    have S23 := S22.trans scg
    have hmem2 : ∀ f, f ∈ fs ++ fs.take 1 ↔ f ∈ fs := fun f => by
      rw [List.mem_append]
      exact ⟨fun z => z.elim id List.mem_of_mem_take, .inl⟩
    have hfV23 : Each FltV _ (ws ++ ws.take 1) (fs ++ fs.take 1) := (hfV11.app (hfV11.take 1)).mono fun _ _ _ z => z.same S23
    refine ⟨D, cg, us, _, bs, fs ++ fs.take 1, rfl, .inl (S23 _ _ eD11), hbV11.mono fun _ _ _ z => z.same S23, hbok, .inl upd_same, hfV23, fun f hf' => hfok f ((hmem2 f).mp hf'), by omega, by rw [List.length_append, List.length_take]; omega, fun l6 ys6 H24 nl6 el6 hys6 s24 => ?_⟩
    rw [rowsF_congr hmem2 bs] at hys6
    exact ⟨_, rfl, .ref l6, .ref l1, _, rfl, rows_dat el6 hys6, (due11.same S23).same s24, hsm, nb_rows _, fun H25 s25 => q _⟩
end

/-! ### the end: what the top has left, the tables of code objects among it -/
/-- each def of the text has a code object with an empty table -/
def Tabs (q : Program) (mg : Str → Option Value) (h : Heap) : Prop := ∀ dr ∈ recsOf q, ∃ (f : Addr) (o : Obj) (fd : FuncData) (c P : Addr), mg dr.name = some (.ref f) ∧ h.get? f = some o ∧ o.data = .func fd ∧ fd.code = .ref c ∧ PySem.W.CodeHd h c P ∧ h.get? P = some (PySem.W.tabObj #[])
theorem tab_in {q : Program} {mg : Str → Option Value} {h : Heap} {K : PySem.W.Frag} {y : Str} {f c P : Addr} {oc e : Value} {od dd : Option Addr} {fd : FuncData} {osl sl : Array (Option Value)} {vs : Array Value} (TT : Tabs q mg h) (X : K.In h) (rec : ((recsOf q).any fun r => r.name == y) = true)
    (g : mg y = some (.ref f)) (lf : K.lookup f = some ⟨oc, od, .func fd, osl⟩) (hc : fd.code = .ref c) (lc : K.lookup c = some ⟨e, dd, .fields vs, sl⟩) (v : vs[11]? = some (.ref P)) : PySem.W.CodeHd h c P ∧ h.get? P = some (PySem.W.tabObj #[]) := by
  obtain ⟨dr, mem, nm⟩ := List.any_eq_true.mp rec
  obtain ⟨f', o', fd', c', P', t1, t2, t3, t4, t5, t6⟩ := TT dr mem
  have ef : f' = f := by
    rw [beq_iff_eq.mp nm, g] at t1
    exact (Value.ref.inj (Option.some.inj t1)).symm
  rw [ef, X _ _ lf] at t2
  rw [← Option.some.inj t2] at t3
  have efd : fd = fd' := Data.func.inj t3
  rw [← efd, hc] at t4
  have ec : c = c' := Value.ref.inj t4
  rw [← ec] at t5
  have t5' := t5
  obtain ⟨oc', us, _, _, _, _, _, _, _, u1, _, u3, u4, _⟩ := t5'
  rw [X _ _ lc] at u1
  rw [← Option.some.inj u1] at u3
  have eu : vs = us := Data.fields.inj u3
  rw [← eu, v] at u4
  have eP : P = P' := Value.ref.inj (Option.some.inj u4)
  rw [eP]
  exact ⟨t5, t6⟩
theorem law_end {l : PySem.W.OpenLaw} {k : Nat} {q : Program} {loose : List Str} {XP : (Str → Option Value) → Heap → Prop} {YP : World → Heap → Prop} {d : DefRec} {K : Params → PySem.W.Frag} (most : l.most = some 63) (plain : d.params.defaults = []) (room : Room k callerA)
    (part : ∀ w h, YP w h → (K w.params).In h) (made : ∀ (w : World) (mg : Str → Option Value) (f : Addr) (h : Heap), (K w.params).In h → h.Ns mainGlobals mg → mg d.name = some (.ref f) → Tabs q mg h → LamX.LawAtS l w (K w.params) CX0 k 63 "_law_script" mg f h) : PySem.W.WalkO q loose XP YP l.row.toRowW d [] (fun f vs => PySem.call f vs) := by
  refine Att.attach_callB most plain ?_
  intro w _ s₁ mg _ f _ _ _ _ a vs ns ground said _ _ _ name script nums len size still
  have X := part w _ said
  have tabs : Tabs q mg s₁.heap := fun dr mem => by
    obtain ⟨f', o', fd', c', P', t1, t2, t3, t4, t5, t6⟩ := ground.T.tab dr mem
    exact ⟨f', o', fd', c', P', t1, t2, t3, t4, PySem.W.CodeHd.of t5 t6, t6.2⟩
  obtain ⟨fd, cs, sp, e1, e2, e3, e4, e5, e6⟩ := made w mg f _ X ground.T.g name tabs
  exact LamX.law_callTs X ground.T.g ground.T.b ground.T.builtins ground.T.nolimit still e1 e2 e3 ground.T.bmain script nums (Nat.le_trans len (by decide)) room e6 e4 (fun H z1 z2 => e5 H a ns len size z1 z2) fun _ _ _ z => z

theorem all_mk {l : PySem.W.OpenLaw} {q : Program} {w : World} {K : PySem.W.Frag} {h : Heap} {mg : Str → Option Value} {fa f0 f1 f2 f3 f4 f5 f6 f7 f8 f9 f10 f11 f12 f13 f14 f15 f16 f17 f18 f19 f20 f21 f22 f23 f24 f25 f26 f27 f28 : Addr} (X : K.In h) (G : h.Ns mainGlobals mg) (hfa : mg "law" = some (.ref fa)) (TT : Tabs q mg h)
    {od0 an0 od1 an1 od2 an2 od3 an3 od4 an4 od5 an5 od6 an6 od7 an7 od8 an8 od9 an9 od10 an10 od11 an11 od12 an12 od13 an13 od14 an14 od15 an15 od16 an16 od17 an17 od18 an18 od19 an19 od20 an20 od21 an21 od22 an22 od23 an23 od24 an24 od25 an25 od26 an26 od27 an27 od28 an28 : Option Addr} {sl0 sl1 sl2 sl3 sl4 sl5 sl6 sl7 sl8 sl9 sl10 sl11 sl12 sl13 sl14 sl15 sl16 sl17 sl18 sl19 sl20 sl21 sl22 sl23 sl24 sl25 sl26 sl27 sl28 : Array (Option Value)} {oc0 kV0 dc0 pm0 ct0 cd0 oc1 kV1 dc1 pm1 ct1 cd1 oc2 kV2 dc2 pm2 ct2 cd2 oc3 kV3 dc3 pm3 ct3 cd3 oc4 kV4 dc4 pm4 ct4 cd4 oc5 kV5 dc5 pm5 ct5 cd5 oc6 kV6 dc6 pm6 ct6 cd6 oc7 kV7 dc7 pm7 ct7 cd7 oc8 kV8 dc8 pm8 ct8 cd8 oc9 kV9 dc9 pm9 ct9 cd9 oc10 kV10 dc10 pm10 ct10 cd10 oc11 kV11 dc11 pm11 ct11 cd11 oc12 kV12 dc12 pm12 ct12 cd12 oc13 kV13 dc13 pm13 ct13 cd13 oc14 kV14 dc14 pm14 ct14 cd14 oc15 kV15 dc15 pm15 ct15 cd15 oc16 kV16 dc16 pm16 ct16 cd16 oc17 kV17 dc17 pm17 ct17 cd17 oc18 kV18 dc18 pm18 ct18 cd18 oc19 kV19 dc19 pm19 ct19 cd19 oc20 kV20 dc20 pm20 ct20 cd20 oc21 kV21 dc21 pm21 ct21 cd21 oc22 kV22 dc22 pm22 ct22 cd22 oc23 kV23 dc23 pm23 ct23 cd23 oc24 kV24 dc24 pm24 ct24 cd24 oc25 kV25 dc25 pm25 ct25 cd25 oc26 kV26 dc26 pm26 ct26 cd26 oc27 kV27 dc27 pm27 ct27 cd27 oc28 kV28 dc28 pm28 ct28 cd28 : Value}
    (a0 : PySem.W.nsIn K mainGlobals "set_of" = some (some (.ref f0))) (l0 : K.lookup f0 = some ⟨oc0, od0, .func (PySem.W.fnOf "set_of" "set_of" (defArgs sSetOf) (defBody sSetOf) (defScope sSetOf) .none kV0 dc0 pm0 an0 cd0 ct0), sl0⟩) (c0' : PySem.W.codeIn K cd0 "set_of" = true) (k0 : PySem.W.keepIn K (.ref f0) = true)
    (a1 : PySem.W.nsIn K mainGlobals "both_of" = some (some (.ref f1))) (l1 : K.lookup f1 = some ⟨oc1, od1, .func (PySem.W.fnOf "both_of" "both_of" (defArgs sBoth) (defBody sBoth) (defScope sBoth) .none kV1 dc1 pm1 an1 cd1 ct1), sl1⟩) (c1' : PySem.W.codeIn K cd1 "both_of" = true) (k1 : PySem.W.keepIn K (.ref f1) = true)
    (a2 : PySem.W.nsIn K mainGlobals "pass_at" = some (some (.ref f2))) (l2 : K.lookup f2 = some ⟨oc2, od2, .func (PySem.W.fnOf "pass_at" "pass_at" (defArgs sPassAt) (defBody sPassAt) (defScope sPassAt) .none kV2 dc2 pm2 an2 cd2 ct2), sl2⟩) (c2' : PySem.W.codeIn K cd2 "pass_at" = true) (k2 : PySem.W.keepIn K (.ref f2) = true)
    (a3 : PySem.W.nsIn K mainGlobals "count_ahead" = some (some (.ref f3))) (l3 : K.lookup f3 = some ⟨oc3, od3, .func (PySem.W.fnOf "count_ahead" "count_ahead" (defArgs sCnt) (defBody sCnt) (defScope sCnt) .none kV3 dc3 pm3 an3 cd3 ct3), sl3⟩) (c3' : PySem.W.codeIn K cd3 "count_ahead" = true) (k3 : PySem.W.keepIn K (.ref f3) = true)
    (a4 : PySem.W.nsIn K mainGlobals "tins_on_line" = some (some (.ref f4))) (l4 : K.lookup f4 = some ⟨oc4, od4, .func (PySem.W.fnOf "tins_on_line" "tins_on_line" (defArgs sOnLine) (defBody sOnLine) (defScope sOnLine) .none kV4 dc4 pm4 an4 cd4 ct4), sl4⟩) (c4' : PySem.W.codeIn K cd4 "tins_on_line" = true) (k4 : PySem.W.keepIn K (.ref f4) = true)
    (a5 : PySem.W.nsIn K mainGlobals "tins_of_rack" = some (some (.ref f5))) (l5 : K.lookup f5 = some ⟨oc5, od5, .func (PySem.W.fnOf "tins_of_rack" "tins_of_rack" (defArgs sRack) (defBody sRack) (defScope sRack) .none kV5 dc5 pm5 an5 cd5 ct5), sl5⟩) (c5' : PySem.W.codeIn K cd5 "tins_of_rack" = true) (k5 : PySem.W.keepIn K (.ref f5) = true)
    (a6 : PySem.W.nsIn K mainGlobals "tins_in_stays" = some (some (.ref f6))) (l6 : K.lookup f6 = some ⟨oc6, od6, .func (PySem.W.fnOf "tins_in_stays" "tins_in_stays" (defArgs sStays) (defBody sStays) (defScope sStays) .none kV6 dc6 pm6 an6 cd6 ct6), sl6⟩) (c6' : PySem.W.codeIn K cd6 "tins_in_stays" = true) (k6 : PySem.W.keepIn K (.ref f6) = true)
    (a7 : PySem.W.nsIn K mainGlobals "tins_at" = some (some (.ref f7))) (l7 : K.lookup f7 = some ⟨oc7, od7, .func (PySem.W.fnOf "tins_at" "tins_at" (defArgs sTinsAt) (defBody sTinsAt) (defScope sTinsAt) .none kV7 dc7 pm7 an7 cd7 ct7), sl7⟩) (c7' : PySem.W.codeIn K cd7 "tins_at" = true) (k7 : PySem.W.keepIn K (.ref f7) = true)
    (a8 : PySem.W.nsIn K mainGlobals "tins_in_racks" = some (some (.ref f8))) (l8 : K.lookup f8 = some ⟨oc8, od8, .func (PySem.W.fnOf "tins_in_racks" "tins_in_racks" (defArgs sInRacks) (defBody sInRacks) (defScope sInRacks) .none kV8 dc8 pm8 an8 cd8 ct8), sl8⟩) (c8' : PySem.W.codeIn K cd8 "tins_in_racks" = true) (k8 : PySem.W.keepIn K (.ref f8) = true)
    (a9 : PySem.W.nsIn K mainGlobals "tins_reached" = some (some (.ref f9))) (l9 : K.lookup f9 = some ⟨oc9, od9, .func (PySem.W.fnOf "tins_reached" "tins_reached" (defArgs sReach1) (defBody sReach1) (defScope sReach1) .none kV9 dc9 pm9 an9 cd9 ct9), sl9⟩) (c9' : PySem.W.codeIn K cd9 "tins_reached" = true) (k9 : PySem.W.keepIn K (.ref f9) = true)
    (a10 : PySem.W.nsIn K mainGlobals "reached" = some (some (.ref f10))) (l10 : K.lookup f10 = some ⟨oc10, od10, .func (PySem.W.fnOf "reached" "reached" (defArgs sReached) (defBody sReached) (defScope sReached) .none kV10 dc10 pm10 an10 cd10 ct10), sl10⟩) (c10' : PySem.W.codeIn K cd10 "reached" = true) (k10 : PySem.W.keepIn K (.ref f10) = true)
    (a11 : PySem.W.nsIn K mainGlobals "_law_begin" = some (some (.ref f11))) (l11 : K.lookup f11 = some ⟨oc11, od11, .func (PySem.W.fnOf "_law_begin" "_law_begin" (defArgs sBegin) (defBody sBegin) (defScope sBegin) .none kV11 dc11 pm11 an11 cd11 ct11), sl11⟩) (c11' : PySem.W.codeIn K cd11 "_law_begin" = true) (k11 : PySem.W.keepIn K (.ref f11) = true)
    (a12 : PySem.W.nsIn K mainGlobals "_law_take" = some (some (.ref f12))) (l12 : K.lookup f12 = some ⟨oc12, od12, .func (PySem.W.fnOf "_law_take" "_law_take" (defArgs sTake) (defBody sTake) (defScope sTake) .none kV12 dc12 pm12 an12 cd12 ct12), sl12⟩) (c12' : PySem.W.codeIn K cd12 "_law_take" = true) (k12 : PySem.W.keepIn K (.ref f12) = true)
    (a13 : PySem.W.nsIn K mainGlobals "_law_same" = some (some (.ref f13))) (l13 : K.lookup f13 = some ⟨oc13, od13, .func (PySem.W.fnOf "_law_same" "_law_same" (defArgs sSame) (defBody sSame) (defScope sSame) .none kV13 dc13 pm13 an13 cd13 ct13), sl13⟩) (c13' : PySem.W.codeIn K cd13 "_law_same" = true) (k13 : PySem.W.keepIn K (.ref f13) = true)
    (a14 : PySem.W.nsIn K mainGlobals "_law_number" = some (some (.ref f14))) (l14 : K.lookup f14 = some ⟨oc14, od14, .func (PySem.W.fnOf "_law_number" "_law_number" (defArgs sNumber) (defBody sNumber) (defScope sNumber) .none kV14 dc14 pm14 an14 cd14 ct14), sl14⟩) (c14' : PySem.W.codeIn K cd14 "_law_number" = true) (k14 : PySem.W.keepIn K (.ref f14) = true)
    (a15 : PySem.W.nsIn K mainGlobals "_law_names" = some (some (.ref f15))) (l15 : K.lookup f15 = some ⟨oc15, od15, .func (PySem.W.fnOf "_law_names" "_law_names" (defArgs sNames) (defBody sNames) (defScope sNames) .none kV15 dc15 pm15 an15 cd15 ct15), sl15⟩) (c15' : PySem.W.codeIn K cd15 "_law_names" = true) (k15 : PySem.W.keepIn K (.ref f15) = true)
    (a16 : PySem.W.nsIn K mainGlobals "_law_marks_by" = some (some (.ref f16))) (l16 : K.lookup f16 = some ⟨oc16, od16, .func (PySem.W.fnOf "_law_marks_by" "_law_marks_by" (defArgs sMarks) (defBody sMarks) (defScope sMarks) .none kV16 dc16 pm16 an16 cd16 ct16), sl16⟩) (c16' : PySem.W.codeIn K cd16 "_law_marks_by" = true) (k16 : PySem.W.keepIn K (.ref f16) = true)
    (a17 : PySem.W.nsIn K mainGlobals "_law_pass" = some (some (.ref f17))) (l17 : K.lookup f17 = some ⟨oc17, od17, .func (PySem.W.fnOf "_law_pass" "_law_pass" (defArgs sPass) (defBody sPass) (defScope sPass) .none kV17 dc17 pm17 an17 cd17 ct17), sl17⟩) (c17' : PySem.W.codeIn K cd17 "_law_pass" = true) (k17 : PySem.W.keepIn K (.ref f17) = true)
    (a18 : PySem.W.nsIn K mainGlobals "_law_batch_by" = some (some (.ref f18))) (l18 : K.lookup f18 = some ⟨oc18, od18, .func (PySem.W.fnOf "_law_batch_by" "_law_batch_by" (defArgs sBatch) (defBody sBatch) (defScope sBatch) .none kV18 dc18 pm18 an18 cd18 ct18), sl18⟩) (c18' : PySem.W.codeIn K cd18 "_law_batch_by" = true) (k18 : PySem.W.keepIn K (.ref f18) = true)
    (a19 : PySem.W.nsIn K mainGlobals "_law_window" = some (some (.ref f19))) (l19 : K.lookup f19 = some ⟨oc19, od19, .func (PySem.W.fnOf "_law_window" "_law_window" (defArgs sLWin) (defBody sLWin) (defScope sLWin) .none kV19 dc19 pm19 an19 cd19 ct19), sl19⟩) (c19' : PySem.W.codeIn K cd19 "_law_window" = true) (k19 : PySem.W.keepIn K (.ref f19) = true)
    (a20 : PySem.W.nsIn K mainGlobals "_law_set_of" = some (some (.ref f20))) (l20 : K.lookup f20 = some ⟨oc20, od20, .func (PySem.W.fnOf "_law_set_of" "_law_set_of" (defArgs sLSet) (defBody sLSet) (defScope sLSet) .none kV20 dc20 pm20 an20 cd20 ct20), sl20⟩) (c20' : PySem.W.codeIn K cd20 "_law_set_of" = true) (k20 : PySem.W.keepIn K (.ref f20) = true)
    (a21 : PySem.W.nsIn K mainGlobals "_law_least" = some (some (.ref f21))) (l21 : K.lookup f21 = some ⟨oc21, od21, .func (PySem.W.fnOf "_law_least" "_law_least" (defArgs sLeast) (defBody sLeast) (defScope sLeast) .none kV21 dc21 pm21 an21 cd21 ct21), sl21⟩) (c21' : PySem.W.codeIn K cd21 "_law_least" = true) (k21 : PySem.W.keepIn K (.ref f21) = true)
    (a22 : PySem.W.nsIn K mainGlobals "_law_tins_due" = some (some (.ref f22))) (l22 : K.lookup f22 = some ⟨oc22, od22, .func (PySem.W.fnOf "_law_tins_due" "_law_tins_due" (defArgs sDue) (defBody sDue) (defScope sDue) .none kV22 dc22 pm22 an22 cd22 ct22), sl22⟩) (c22' : PySem.W.codeIn K cd22 "_law_tins_due" = true) (k22 : PySem.W.keepIn K (.ref f22) = true)
    (a23 : PySem.W.nsIn K mainGlobals "_law_minutes" = some (some (.ref f23))) (l23 : K.lookup f23 = some ⟨oc23, od23, .func (PySem.W.fnOf "_law_minutes" "_law_minutes" (defArgs sMin) (defBody sMin) (defScope sMin) .none kV23 dc23 pm23 an23 cd23 ct23), sl23⟩) (c23' : PySem.W.codeIn K cd23 "_law_minutes" = true) (k23 : PySem.W.keepIn K (.ref f23) = true)
    (a24 : PySem.W.nsIn K mainGlobals "_law_faults_by" = some (some (.ref f24))) (l24 : K.lookup f24 = some ⟨oc24, od24, .func (PySem.W.fnOf "_law_faults_by" "_law_faults_by" (defArgs sFaultsBy) (defBody sFaultsBy) (defScope sFaultsBy) .none kV24 dc24 pm24 an24 cd24 ct24), sl24⟩) (c24' : PySem.W.codeIn K cd24 "_law_faults_by" = true) (k24 : PySem.W.keepIn K (.ref f24) = true)
    (a25 : PySem.W.nsIn K mainGlobals "_law_both" = some (some (.ref f25))) (l25 : K.lookup f25 = some ⟨oc25, od25, .func (PySem.W.fnOf "_law_both" "_law_both" (defArgs sLBoth) (defBody sLBoth) (defScope sLBoth) .none kV25 dc25 pm25 an25 cd25 ct25), sl25⟩) (c25' : PySem.W.codeIn K cd25 "_law_both" = true) (k25 : PySem.W.keepIn K (.ref f25) = true)
    (a26 : PySem.W.nsIn K mainGlobals "_law_of_racks" = some (some (.ref f26))) (l26 : K.lookup f26 = some ⟨oc26, od26, .func (PySem.W.fnOf "_law_of_racks" "_law_of_racks" (defArgs sOfRacks) (defBody sOfRacks) (defScope sOfRacks) .none kV26 dc26 pm26 an26 cd26 ct26), sl26⟩) (c26' : PySem.W.codeIn K cd26 "_law_of_racks" = true) (k26 : PySem.W.keepIn K (.ref f26) = true)
    (a27 : PySem.W.nsIn K mainGlobals "_law_due" = some (some (.ref f27))) (l27 : K.lookup f27 = some ⟨oc27, od27, .func (PySem.W.fnOf "_law_due" "_law_due" (defArgs sDue2) (defBody sDue2) (defScope sDue2) .none kV27 dc27 pm27 an27 cd27 ct27), sl27⟩) (c27' : PySem.W.codeIn K cd27 "_law_due" = true) (k27 : PySem.W.keepIn K (.ref f27) = true)
    (a28 : PySem.W.nsIn K mainGlobals "law" = some (some (.ref f28))) (l28 : K.lookup f28 = some ⟨oc28, od28, .func (PySem.W.fnOf "law" "law" (defArgs sLaw) (defBody sLaw) (defScope sLaw) .none kV28 dc28 pm28 an28 cd28 ct28), sl28⟩) (c28' : PySem.W.codeIn K cd28 "law" = true) (k28 : PySem.W.keepIn K (.ref f28) = true)
    {tk_LINE : Tok} (zc_LINE : PySem.W.nsIn K mainGlobals "LINE" = some (some (.str "line" tk_LINE)))
    (z_all : PySem.W.nsIn K mainGlobals "all" = some none) (z_bool : PySem.W.nsIn K mainGlobals "bool" = some none) (z_dict : PySem.W.nsIn K mainGlobals "dict" = some none) (z_divmod : PySem.W.nsIn K mainGlobals "divmod" = some none) (z_enumerate : PySem.W.nsIn K mainGlobals "enumerate" = some none) (z_int : PySem.W.nsIn K mainGlobals "int" = some none) (z_isinstance : PySem.W.nsIn K mainGlobals "isinstance" = some none) (z_len : PySem.W.nsIn K mainGlobals "len" = some none) (z_list : PySem.W.nsIn K mainGlobals "list" = some none) (z_max : PySem.W.nsIn K mainGlobals "max" = some none) (z_min : PySem.W.nsIn K mainGlobals "min" = some none) (z_range : PySem.W.nsIn K mainGlobals "range" = some none) (z_sorted : PySem.W.nsIn K mainGlobals "sorted" = some none) (z_str : PySem.W.nsIn K mainGlobals "str" = some none) (z_tuple : PySem.W.nsIn K mainGlobals "tuple" = some none) (z_zip : PySem.W.nsIn K mainGlobals "zip" = some none) :
    LamX.LawAtS l w K CX0 6 63 "_law_script" mg fa h := by
  cases hfa.symm.trans (PySem.W.mg_of X G a28)
  have F0 := fun_mk (st := sSetOf) l0 c0' k0
  have b0 := F0.binds (ps := ["pairs"]) fun _ _ _ _ _ _ us hl => match us, hl with | [_], _ => rfl
  have F1 := fun_mk (st := sBoth) l1 c1' k1
  have b1 := F1.binds (ps := ["one", "other"]) fun _ _ _ _ _ _ us hl => match us, hl with | [_, _], _ => rfl
  have F2 := fun_mk (st := sPassAt) l2 c2' k2
  have b2 := F2.binds (ps := ["batch", "place"]) fun _ _ _ _ _ _ us hl => match us, hl with | [_, _], _ => rfl
  have F3 := fun_mk (st := sCnt) l3 c3' k3
  have b3 := F3.binds (ps := ["tins", "line", "minute"]) fun _ _ _ _ _ _ us hl => match us, hl with | [_, _, _], _ => rfl
  have F4 := fun_mk (st := sOnLine) l4 c4' k4
  have b4 := F4.binds (ps := ["tins", "line", "first", "last"]) fun _ _ _ _ _ _ us hl => match us, hl with | [_, _, _, _], _ => rfl
  have F5 := fun_mk (st := sRack) l5 c5' k5
  have b5 := F5.binds (ps := ["tins", "per", "rack"]) fun _ _ _ _ _ _ us hl => match us, hl with | [_, _, _], _ => rfl
  have F6 := fun_mk (st := sStays) l6 c6' k6
  have b6 := F6.binds (ps := ["tins", "racked", "first", "last"]) fun _ _ _ _ _ _ us hl => match us, hl with | [_, _, _, _], _ => rfl
  have F7 := fun_mk (st := sTinsAt) l7 c7' k7
  have b7 := F7.binds (ps := ["batch", "place", "first", "last"]) fun _ _ _ _ _ _ us hl => match us, hl with | [_, _, _, _], _ => rfl
  have F8 := fun_mk (st := sInRacks) l8 c8' k8
  have b8 := F8.binds (ps := ["batch", "place", "racks"]) fun _ _ _ _ _ _ us hl => match us, hl with | [_, _, _], _ => rfl
  have F9 := fun_mk (st := sReach1) l9 c9' k9
  have b9 := F9.binds (ps := ["batch", "fault"]) fun _ _ _ _ _ _ us hl => match us, hl with | [_, _], _ => rfl
  have F10 := fun_mk (st := sReached) l10 c10' k10
  have b10 := F10.binds (ps := ["batches", "faults"]) fun _ _ _ _ _ _ us hl => match us, hl with | [_, _], _ => rfl
  have F11 := fun_mk (st := sBegin) l11 c11' k11
  have b11 := F11.binds (ps := ["_law_script"]) fun _ _ _ _ _ _ us hl => match us, hl with | [_], _ => rfl
  have F12 := fun_mk (st := sTake) l12 c12' k12
  have b12 := F12.binds (ps := ["_law_state", "_law_many"]) fun _ _ _ _ _ _ us hl => match us, hl with | [_, _], _ => rfl
  have F13 := fun_mk (st := sSame) l13 c13' k13
  have b13 := F13.binds (ps := ["_law_found", "_law_due_here"]) fun _ _ _ _ _ _ us hl => match us, hl with | [_, _], _ => rfl
  have F14 := fun_mk (st := sNumber) l14 c14' k14
  have b14 := F14.binds (ps := ["_law_state", "_law_sort"]) fun _ _ _ _ _ _ us hl => match us, hl with | [_, _], _ => rfl
  have F15 := fun_mk (st := sNames) l15 c15' k15
  have b15 := F15.binds (ps := ["_law_state", "_law_many"]) fun _ _ _ _ _ _ us hl => match us, hl with | [_, _], _ => rfl
  have F16 := fun_mk (st := sMarks) l16 c16' k16
  have b16 := F16.binds (ps := ["_law_state", "_law_many"]) fun _ _ _ _ _ _ us hl => match us, hl with | [_, _], _ => rfl
  have F17 := fun_mk (st := sPass) l17 c17' k17
  have b17 := F17.binds (ps := ["_law_state", "_law_place", "_law_tins", "_law_great"]) fun _ _ _ _ _ _ us hl => match us, hl with | [_, _, _, _], _ => rfl
  have F18 := fun_mk (st := sBatch) l18 c18' k18
  have b18 := F18.binds (ps := ["_law_state", "_law_mark", "_law_places", "_law_great"]) fun _ _ _ _ _ _ us hl => match us, hl with | [_, _, _, _], _ => rfl
  have F19 := fun_mk (st := sLWin) l19 c19' k19
  have b19 := F19.binds (ps := ["_law_batch", "_law_place", "_law_tin"]) fun _ _ _ _ _ _ us hl => match us, hl with | [_, _, _], _ => rfl
  have F20 := fun_mk (st := sLSet) l20 c20' k20
  have b20 := F20.binds (ps := ["_law_pairs"]) fun _ _ _ _ _ _ us hl => match us, hl with | [_], _ => rfl
  have F21 := fun_mk (st := sLeast) l21 c21' k21
  have b21 := F21.binds (ps := ["_law_tins", "_law_line", "_law_minute"]) fun _ _ _ _ _ _ us hl => match us, hl with | [_, _, _], _ => rfl
  have F22 := fun_mk (st := sDue) l22 c22' k22
  have b22 := F22.binds (ps := ["_law_batch", "_law_place", "_law_first", "_law_last"]) fun _ _ _ _ _ _ us hl => match us, hl with | [_, _, _, _], _ => rfl
  have F23 := fun_mk (st := sMin) l23 c23' k23
  have b23 := F23.binds (ps := ["_law_state", "_law_batch", "_law_place"]) fun _ _ _ _ _ _ us hl => match us, hl with | [_, _, _], _ => rfl
  have F24 := fun_mk (st := sFaultsBy) l24 c24' k24
  have b24 := F24.binds (ps := ["_law_state", "_law_batches", "_law_places", "_law_many"]) fun _ _ _ _ _ _ us hl => match us, hl with | [_, _, _, _], _ => rfl
  have F25 := fun_mk (st := sLBoth) l25 c25' k25
  have b25 := F25.binds (ps := ["_law_one", "_law_other"]) fun _ _ _ _ _ _ us hl => match us, hl with | [_, _], _ => rfl
  have F26 := fun_mk (st := sOfRacks) l26 c26' k26
  have b26 := F26.binds (ps := ["_law_batch", "_law_place", "_law_racks"]) fun _ _ _ _ _ _ us hl => match us, hl with | [_, _, _], _ => rfl
  have F27 := fun_mk (st := sDue2) l27 c27' k27
  have b27 := F27.binds (ps := ["_law_batches", "_law_faults"]) fun _ _ _ _ _ _ us hl => match us, hl with | [_, _], _ => rfl
  have F28 := fun_mk (st := sLaw) l28 c28' k28
  have m_LINE : ∃ u, mg "LINE" = some u ∧ RelV (.str "line") u := ⟨_, PySem.W.mg_of X G zc_LINE, ⟨_, rfl⟩⟩
  have m_all := PySem.W.mg_none_of X G z_all
  have m_bool := PySem.W.mg_none_of X G z_bool
  have m_dict := PySem.W.mg_none_of X G z_dict
  have m_divmod := PySem.W.mg_none_of X G z_divmod
  have m_enumerate := PySem.W.mg_none_of X G z_enumerate
  have m_int := PySem.W.mg_none_of X G z_int
  have m_isinstance := PySem.W.mg_none_of X G z_isinstance
  have m_len := PySem.W.mg_none_of X G z_len
  have m_list := PySem.W.mg_none_of X G z_list
  have m_max := PySem.W.mg_none_of X G z_max
  have m_min := PySem.W.mg_none_of X G z_min
  have m_range := PySem.W.mg_none_of X G z_range
  have m_sorted := PySem.W.mg_none_of X G z_sorted
  have m_str := PySem.W.mg_none_of X G z_str
  have m_tuple := PySem.W.mg_none_of X G z_tuple
  have m_zip := PySem.W.mg_none_of X G z_zip
  refine ⟨PySem.W.fnOf "law" "law" (defArgs sLaw) (defBody sLaw) (defScope sLaw) .none kV28 dc28 pm28 an28 cd28 ct28, [], spLaw K, (fun p hp => nomatch hp), (fun p hp => nomatch hp), (fun p hp => nomatch hp), fun s v => .of_eq rfl, fun H a ns hl _ hH hS => ?_, fun base _ _ TB => ?_⟩
  ·  exact ⟨a, ns, rfl, hS, hl, fun _ => rfl⟩
  · have g := fun {x : Str} {f : Addr} (a : PySem.W.nsIn K mainGlobals x = some (some (.ref f))) => PySem.W.mg_of X G a
    have CT : Cal l.prog w K mg base 1 "_law_take" ["_law_state", "_law_many"] spTake := ⟨_, _, ok_take F12 m_len m_divmod, g a12, k12, b12⟩
    have CB : Cal l.prog w K mg base 1 "_law_begin" ["_law_script"] (spBegin K) := ⟨_, _, ok_begin F11 m_list, g a11, k11, b11⟩
    have CU : Cal l.prog w K mg base 2 "_law_number" ["_law_state", "_law_sort"] spNumber := ⟨_, _, ok_number F14 CT m_range, g a14, k14, b14⟩
    have CN : Cal l.prog w K mg base 2 "_law_names" ["_law_state", "_law_many"] spNames := ⟨_, _, ok_Names F15 CT m_range m_len, g a15, k15, b15⟩
    have CM : Cal l.prog w K mg base 2 "_law_marks_by" ["_law_state", "_law_many"] spNames := ⟨_, _, ok_Marks F16 CT m_range m_len, g a16, k16, b16⟩
    have CP : Cal l.prog w K mg base 3 "_law_pass" ["_law_state", "_law_place", "_law_tins", "_law_great"] spPass := ⟨_, _, ok_pass F17 CT CU m_range, g a17, k17, b17⟩
    have CK : Cal l.prog w K mg base 4 "_law_batch_by" ["_law_state", "_law_mark", "_law_places", "_law_great"] spBatch := ⟨_, _, ok_batch F18 CT CU CP m_len, g a18, k18, b18⟩
    have CW0 : Cal l.prog w K mg base 1 "_law_window" ["_law_batch", "_law_place", "_law_tin"] spWin := ⟨_, _, ok_lwin F19, g a19, k19, b19⟩
    have CA : Cal l.prog w K mg base 1 "pass_at" ["batch", "place"] spPassAt := ⟨_, _, ok_passat F2, g a2, k2, b2⟩
    have E0_ : Cal l.prog w K mg base 1 "_law_same" ["_law_found", "_law_due_here"] (spSame 0) := ⟨_, _, ok_same0 F13 m_isinstance m_list m_tuple m_bool m_str m_int, g a13, k13, b13⟩
    have E1_ : Cal l.prog w K mg base 2 "_law_same" ["_law_found", "_law_due_here"] (spSame 1) := ⟨_, _, ok_sameS F13 E0_ m_isinstance m_list m_tuple m_bool m_str m_int m_len m_all m_zip, g a13, k13, b13⟩
    have E2_ : Cal l.prog w K mg base 3 "_law_same" ["_law_found", "_law_due_here"] (spSame 2) := ⟨_, _, ok_sameS F13 E1_ m_isinstance m_list m_tuple m_bool m_str m_int m_len m_all m_zip, g a13, k13, b13⟩
    have E3_ : Cal l.prog w K mg base 4 "_law_same" ["_law_found", "_law_due_here"] (spSame 3) := ⟨_, _, ok_sameS F13 E2_ m_isinstance m_list m_tuple m_bool m_str m_int m_len m_all m_zip, g a13, k13, b13⟩
    have E4_ : Cal l.prog w K mg base 5 "_law_same" ["_law_found", "_law_due_here"] (spSame 4) := ⟨_, _, ok_sameS F13 E3_ m_isinstance m_list m_tuple m_bool m_str m_int m_len m_all m_zip, g a13, k13, b13⟩
    have SO : Cal l.prog w K mg base 1 "set_of" ["pairs"] (spSetOf K) := ⟨_, _, ok_setof F0 m_sorted m_max, g a0, k0, b0⟩
    have CC : Cal l.prog w K mg base 1 "count_ahead" ["tins", "line", "minute"] spCnt := ⟨_, _, ok_cnt F3 m_min, g a3, k3, b3⟩
    have OL : Cal l.prog w K mg base 2 "tins_on_line" ["tins", "line", "first", "last"] spOnLine := ⟨_, _, ok_onLine F4 CC SO, g a4, k4, b4⟩
    have CR : Cal l.prog w K mg base 1 "tins_of_rack" ["tins", "per", "rack"] spRack := ⟨_, _, ok_rack F5 m_min, g a5, k5, b5⟩
    have TS : Cal l.prog w K mg base 2 "tins_in_stays" ["tins", "racked", "first", "last"] spStays := ⟨_, _, ok_stays F6 CR SO m_enumerate, g a6, k6, b6⟩
    have TA : Cal l.prog w K mg base 3 "tins_at" ["batch", "place", "first", "last"] spTinsAt := ⟨_, _, ok_tinsAt F7 CA OL TS m_LINE, g a7, k7, b7⟩
    have LS : Cal l.prog w K mg base 1 "_law_set_of" ["_law_pairs"] spLSet := ⟨_, _, ok_lset F20 m_sorted m_max, g a20, k20, b20⟩
    have MI : Cal l.prog w K mg base 3 "_law_minutes" ["_law_state", "_law_batch", "_law_place"] spMin := ⟨_, _, ok_min F23 CT CU CW0 m_range m_max, g a23, k23, b23⟩
    have LE : Cal l.prog w K mg base 1 "_law_least" ["_law_tins", "_law_line", "_law_minute"] spLeast := ⟨_, _, ok_least F21 m_range, g a21, k21, b21⟩
    have DU : Cal l.prog w K mg base 2 "_law_tins_due" ["_law_batch", "_law_place", "_law_first", "_law_last"] spDue := ⟨_, _, ok_due F22 LE LS m_enumerate m_min, g a22, k22, b22⟩
    have BO : Cal l.prog w K mg base 1 "both_of" ["one", "other"] (spBoth K) := ⟨_, _, ok_both F1 m_len m_max m_min, g a1, k1, b1⟩
    have IR : Cal l.prog w K mg base 2 "tins_in_racks" ["batch", "place", "racks"] spInRacks := ⟨_, _, ok_inRacks F8 CA CR SO m_LINE, g a8, k8, b8⟩
    have R1 : Cal l.prog w K mg base 4 "tins_reached" ["batch", "fault"] spReach1 := ⟨_, _, ok_reach1 F9 TA IR BO, g a9, k9, b9⟩
    have RE : Cal l.prog w K mg base 5 "reached" ["batches", "faults"] spReached := ⟨_, _, ok_reached F10 R1 SO, g a10, k10, b10⟩
    have FB : Cal l.prog w K mg base 4 "_law_faults_by" ["_law_state", "_law_batches", "_law_places", "_law_many"] spFaultsBy := ⟨_, _, ok_faultsBy F24 (by decide) CT CU MI m_range m_len, g a24, k24, b24⟩
    have LB : Cal l.prog w K mg base 2 "_law_both" ["_law_one", "_law_other"] spLBoth := ⟨_, _, ok_lboth F25 LS m_max m_min, g a25, k25, b25⟩
    have OF : Cal l.prog w K mg base 2 "_law_of_racks" ["_law_batch", "_law_place", "_law_racks"] spOfRacks := ⟨_, _, ok_ofRacks F26 LS m_len m_min, g a26, k26, b26⟩
    have D2 : Cal l.prog w K mg base 3 "_law_due" ["_law_batches", "_law_faults"] spDue2 := ⟨_, _, ok_due2 F27 DU LB OF LS, g a27, k27, b27⟩
    exact ok_law F28 CB CT CN CM CK FB D2 RE E4_ m_len m_dict
end TK
open PySem PySem.W PyProof.Rows
set_option maxHeartbeats 0 in
theorem PySem.Challenge.cw_tinrecall_k22_reached_beyond_counting_holds : PySem.Challenge.rw_tinrecall_k22_reached_beyond_counting.Holds := by
  w_on; o_law; k_head; (case hw => w_witness2)
  k_fill
  refine TK.law_end (l := PySem.Challenge.rw_tinrecall_k22_reached_beyond_counting) (k := 6) rfl rfl ⟨rfl, by decide, by decide⟩ (fun w h Y => PySem.W.kIn_of Y) ?made
  case made =>
    intro w mg f h KX G hmg TT
    refine' TK.all_mk KX G hmg TT ?a0 ?l0 ?c0 ?k0 ?a1 ?l1 ?c1 ?k1 ?a2 ?l2 ?c2 ?k2 ?a3 ?l3 ?c3 ?k3 ?a4 ?l4 ?c4 ?k4 ?a5 ?l5 ?c5 ?k5 ?a6 ?l6 ?c6 ?k6 ?a7 ?l7 ?c7 ?k7 ?a8 ?l8 ?c8 ?k8 ?a9 ?l9 ?c9 ?k9 ?a10 ?l10 ?c10 ?k10 ?a11 ?l11 ?c11 ?k11 ?a12 ?l12 ?c12 ?k12 ?a13 ?l13 ?c13 ?k13 ?a14 ?l14 ?c14 ?k14 ?a15 ?l15 ?c15 ?k15 ?a16 ?l16 ?c16 ?k16 ?a17 ?l17 ?c17 ?k17 ?a18 ?l18 ?c18 ?k18 ?a19 ?l19 ?c19 ?k19 ?a20 ?l20 ?c20 ?k20 ?a21 ?l21 ?c21 ?k21 ?a22 ?l22 ?c22 ?k22 ?a23 ?l23 ?c23 ?k23 ?a24 ?l24 ?c24 ?k24 ?a25 ?l25 ?c25 ?k25 ?a26 ?l26 ?c26 ?k26 ?a27 ?l27 ?c27 ?k27 ?a28 ?l28 ?c28 ?k28 ?zc_LINE ?z_all ?z_bool ?z_dict ?z_divmod ?z_enumerate ?z_int ?z_isinstance ?z_len ?z_list ?z_max ?z_min ?z_range ?z_sorted ?z_str ?z_tuple ?z_zip
    (case a0 => k_is); (case l0 => k_is); (case c0 => k_is); (case k0 => k_is)
    (case a1 => k_is); (case l1 => k_is); (case c1 => k_is); (case k1 => k_is)
    (case a2 => k_is); (case l2 => k_is); (case c2 => k_is); (case k2 => k_is)
    (case a3 => k_is); (case l3 => k_is); (case c3 => k_is); (case k3 => k_is)
    (case a4 => k_is); (case l4 => k_is); (case c4 => k_is); (case k4 => k_is)
    (case a5 => k_is); (case l5 => k_is); (case c5 => k_is); (case k5 => k_is)
    (case a6 => k_is); (case l6 => k_is); (case c6 => k_is); (case k6 => k_is)
    (case a7 => k_is); (case l7 => k_is); (case c7 => k_is); (case k7 => k_is)
    (case a8 => k_is); (case l8 => k_is); (case c8 => k_is); (case k8 => k_is)
    (case a9 => k_is); (case l9 => k_is); (case c9 => k_is); (case k9 => k_is)
    (case a10 => k_is); (case l10 => k_is); (case c10 => k_is); (case k10 => k_is)
    (case a11 => k_is); (case l11 => k_is); (case c11 => k_is); (case k11 => k_is)
    (case a12 => k_is); (case l12 => k_is); (case c12 => k_is); (case k12 => k_is)
    (case a13 => k_is); (case l13 => k_is); (case c13 => k_is); (case k13 => k_is)
    (case a14 => k_is); (case l14 => k_is); (case c14 => k_is); (case k14 => k_is)
    (case a15 => k_is); (case l15 => k_is); (case c15 => k_is); (case k15 => k_is)
    (case a16 => k_is); (case l16 => k_is); (case c16 => k_is); (case k16 => k_is)
    (case a17 => k_is); (case l17 => k_is); (case c17 => k_is); (case k17 => k_is)
    (case a18 => k_is); (case l18 => k_is); (case c18 => k_is); (case k18 => k_is)
    (case a19 => k_is); (case l19 => k_is); (case c19 => k_is); (case k19 => k_is)
    (case a20 => k_is); (case l20 => k_is); (case c20 => k_is); (case k20 => k_is)
    (case a21 => k_is); (case l21 => k_is); (case c21 => k_is); (case k21 => k_is)
    (case a22 => k_is); (case l22 => k_is); (case c22 => k_is); (case k22 => k_is)
    (case a23 => k_is); (case l23 => k_is); (case c23 => k_is); (case k23 => k_is)
    (case a24 => k_is); (case l24 => k_is); (case c24 => k_is); (case k24 => k_is)
    (case a25 => k_is); (case l25 => k_is); (case c25 => k_is); (case k25 => k_is)
    (case a26 => k_is); (case l26 => k_is); (case c26 => k_is); (case k26 => k_is)
    (case a27 => k_is); (case l27 => k_is); (case c27 => k_is); (case k27 => k_is)
    (case a28 => k_is); (case l28 => k_is); (case c28 => k_is); (case k28 => k_is)
    (case zc_LINE => k_is)
    (case z_all => k_is); (case z_bool => k_is); (case z_dict => k_is); (case z_divmod => k_is); (case z_enumerate => k_is); (case z_int => k_is); (case z_isinstance => k_is); (case z_len => k_is); (case z_list => k_is); (case z_max => k_is); (case z_min => k_is); (case z_range => k_is); (case z_sorted => k_is); (case z_str => k_is); (case z_tuple => k_is); (case z_zip => k_is)

