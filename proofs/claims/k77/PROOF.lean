import PyProof.Rows.All
import Wide.All
import OpenK.AllK
import Wide.FinOn
import HandS.ForMost
import HandS.ForExc
import HandS.Walk
import HandS.Evl
import HandS.Steps
import HandS.Flow
import HandS.IsInst
import HandS.Strs
import HandS.Conv
import HandS.More
import HandS.ExcInit
import HandS.ExcField
import HandS.ExcIs
import HandS.ExcValue
import HandS.Wide
import HandS.WideMore
import HandS.MakeKw
import HandS.CallLocal
import HandS.RaiseMore
import HandS.ListItems
import HandS.DictTup
import HandS.SetKeys
import HandS.TupAny
import HandS.Zip
import HandS.Small
import HandS.EndBits
import KE.SortData
import PySem.Challenge.RW_hungfacts_k77_facts_written_and_read
import KE.KDictWalk
import KE.KDictCopyH
import KE.KExcIs
import KE.DataFind
import HandS.MakeKwOnly
import HandS.OwnEq
import HandS.TupSets
import HandS.Lambda
import KE.GoesEnum
import KE.GoesMore
import KE.IntTextText
import KE.KIntText
import HandS.Style
import KE.KxText
import HandS.EndTab
set_option Elab.async false
set_option linter.all false
set_option maxRecDepth 100000
namespace HF
open PySem L2
def top (i : Nat) : Stmt := PySem.Challenge.pw_hungfacts_k77_facts_written_and_read.main.body.getD i (.Pass ⟨0, 0, 0, 0⟩)
abbrev s_BadFact_init : Stmt := inClass (top 2) 0
abbrev s_BadText_init : Stmt := inClass (top 3) 0
abbrev s_consists_of : Stmt := top 9
abbrev s_is_name : Stmt := top 10
abbrev s_is_number : Stmt := top 11
abbrev s_is_capital : Stmt := top 12
abbrev s_is_integer : Stmt := top 13
abbrev s_is_part : Stmt := top 18
abbrev s_is_shown : Stmt := top 19
abbrev s_show_fact : Stmt := top 20
abbrev s_is_written : Stmt := top 21
abbrev s_parts_read : Stmt := top 22
abbrev s_read_fact : Stmt := top 23
abbrev s_law_box : Stmt := top 25
abbrev s_law_take : Stmt := top 26
abbrev s_law_of : Stmt := top 27
abbrev s_law_forms : Stmt := top 28
abbrev s_law_menu : Stmt := top 29
abbrev s_law_is_part : Stmt := top 30
abbrev s_law_is_fact : Stmt := top 31
abbrev s_law_fact_in : Stmt := top 32
abbrev s_law_heard : Stmt := top 33
abbrev s_law_bent : Stmt := top 34
abbrev s_law_bent_text : Stmt := top 35
abbrev s_law_right : Stmt := top 36
abbrev s_law : Stmt := top 37
end HF
set_option maxRecDepth 100000
set_option maxHeartbeats 2000000
namespace HF
section
open PySem PySem.Spec PyProof.Rows PySem.W
/-- sorted of texts, any number of them -/
def strLe (b c : Str) : Bool := dataLe false PyData.str b c
def rSortStr (K : PySem.W.Frag) : List L2.V → L2.Hp → L2.VK → Prop := fun vs H Q => ∃ (a : Addr) (l : List Str), vs = [.ref a] ∧ L2.SqL K H a (l.map L2.V.str) ∧
  ∀ p, H p = none → Q (.ref p) (L2.upd H p (.lst ((l.mergeSort strLe).map L2.V.str)))
theorem strs_each : ∀ {l : List Str} {us : List Value}, L2.Vals (l.map L2.V.str) us → EachIs (fun v b => ∃ t, v = Value.str b t) us l
  | [], _, r => by
    have r' : L2.Vals [] _ := r
    cases r'
    exact .nil
  | x :: l, _, r => by
    have r' : L2.Vals (.str x :: l.map L2.V.str) _ := r
    cases r' with
    | cons r1 r2 => exact .cons (show ∃ t, _ = Value.str x t from r1) (strs_each r2)
theorem each_strs : ∀ {us : List Value} {l : List Str}, EachIs (fun v b => ∃ t, v = Value.str b t) us l → L2.Vals (l.map L2.V.str) us
  | _, _, .nil => .nil
  | _, _, .cons a t => .cons a (each_strs t)
theorem each_len0 {α β : Type} {R : α → β → Prop} : ∀ {as : List α} {bs : List β}, EachIs R as bs → as.length = bs.length
  | _, _, .nil => rfl
  | _, _, .cons _ t => by rw [List.length_cons, List.length_cons, each_len0 t]
theorem each_reads0 {h : Heap} : ∀ {us : List Value} {l : List Str}, EachIs (fun v b => ∃ t, v = Value.str b t) us l → EachIs (fun v b => ∃ as, Reads h v (PyData.str b) as) us l
  | _, _, .nil => .nil
  | _, _, .cons ⟨t, e⟩ q => .cons (by subst e; exact ⟨_, .str _ t⟩) (each_reads0 q)
section
variable {X : L2.Cx}
theorem cr_sortStr (hu : X.A.units + 64 < cLine) : L2.CallR X (.builtin "sorted") (rSortStr X.K) := by
  intro pins s σ H vs us Q I r h
  obtain ⟨a, l, rfl, hs, q⟩ := h
  obtain ⟨its, rv, hl, hz⟩ := I.list hs
  obtain ⟨u, rfl, ru⟩ := L2.vals1 r
  obtain rfl : u = Value.ref a := ru
  have he := strs_each rv
  have hsz : l.length ≤ sizeLine := by rw [List.length_map] at hz; exact hz
  refine sorted_data (enc := PyData.str) (R := fun v b => ∃ t, v = Value.str b t) hl.isList he (each_reads0 he) ?_ ?_ hsz ?_ fun out ho eo => ?_
  · intro d hd d' hd'
    obtain ⟨b, hb, rfl⟩ := List.mem_map.mp hd
    obtain ⟨c, hc, rfl⟩ := List.mem_map.mp hd'
    simp [alike]
  · exact Sortable.others fun b => ⟨(fun z => by cases z), fun xs z => by cases z⟩
  · intro b hb
    have : (PyData.str b).depth = 0 := by rw [PyData.depth]
    omega
  · obtain ⟨c, hc⟩ := sortedAll_at s.heap its out.toArray
    have hl2 : ((l.mergeSort strLe).map L2.V.str).length ≤ sizeLine := by
      rw [List.length_map, List.length_mergeSort]
      exact hsz
    refine ⟨.ref (s.heap.objs.size + 1), L2.upd H (s.heap.objs.size + 1) (.lst ((l.mergeSort strLe).map L2.V.str)), I.laid (t' := s.toks) (fun b o => sortedAll_old) (Nat.le_succ _) ⟨hl2, out, c, each_strs eo, hc⟩, rfl, q _ (I.hok.fresh (Nat.le_succ _))⟩
end
theorem boot_sorted : PySem.bootBuiltins "sorted" = some (.builtin "sorted") := by decide +kernel
end
section
open PySem L2 Evl
def rTupOf (K : PySem.W.Frag) : List V → Hp → VK → Prop := fun xs H Q => ∃ p ys, xs = [.ref p] ∧ ((SqL K H p ys ∧ ∀ l, H l = none → Q (.ref l) (upd H l (.tup ys))) ∨ (SqT K H p ys ∧ Q (.ref p) H))
theorem call_tupR {X : Cx} : CallR X (.type "tuple") (rTupOf X.K) := call_tuple_of
end
end HF
set_option maxRecDepth 100000
set_option maxHeartbeats 2000000
namespace HF
open PySem L2 Evl
/-! ### own words over Evl -/
section
variable {K : PySem.W.Frag} {σ : L2.St} {H : Hp} {t : TT} {te : TE}
theorem el_lcS {z : Str} {tl : TE} {j : Nat} {vs : List Nat} (f : Nat → Bool) (v : Nat → V) (h : Ev tl σ H (.str z)) (hz : z.cps.size ≤ 40000) (hw : ∀ x, wipe ((wipe σ vs).set j (some x)) vs = wipe σ vs)
    (ht : ∀ (i c : Nat) H1, Ex H H1 → z.cps[i]? = some c → EvT t ((wipe σ vs).set j (some (.str ⟨#[c]⟩))) H1 (f i)) (he : ∀ (i c : Nat) H1, Ex H H1 → z.cps[i]? = some c → f i = true → Ev te ((wipe σ vs).set j (some (.str ⟨#[c]⟩))) H1 (v i)) :
    EvL (tLc (iStr tl) (gName j) t te vs) σ H (given z.cps.size f v) := fun H0 e Q q => h H0 e _ fun H1 e1 => ⟨z, rfl, fun Dl hD =>
  lc_it walk_str (Cw H1 f v Dl) ⟨hD, Ex.new hD, upd_same⟩ (fun i H' _ p => trivial) (fun i x H2 H' hi p y => by
    obtain ⟨rfl, c, hc, rfl⟩ := y
    exact ⟨hw _, cw_turn p (by omega) (ht i c H1 (e.trans e1) hc) (fun hf => he i c H1 (e.trans e1) hc hf)⟩)
    (fun H' p => q Dl H' (fresh_back e1 p.1) (e1.trans p.2.1) p.2.2)⟩
theorem ev_all {tl : TE} {bs : List Bool} (h : EvL tl σ H (bs.map V.bl)) : Ev (tCB (rAll K) (tCons tl tNil)) σ H (.bl (bs.all id)) := fun H1 e Q q =>
  h H1 e _ fun p H2 _ e2 hp => ⟨p, bs, rfl, sq_of hp, q H2 e2⟩
theorem ev_any {tl : TE} {bs : List Bool} (h : EvL tl σ H (bs.map V.bl)) : Ev (tCB (rAny K) (tCons tl tNil)) σ H (.bl (bs.any id)) := fun H1 e Q q =>
  h H1 e _ fun p H2 _ e2 hp => ⟨p, bs, rfl, sq_of hp, q H2 e2⟩
theorem et_nil : EvT tYes σ H true := fun H1 _ _ q => q H1 (Ex.refl H1)
theorem given_all {n : Nat} (v : Nat → V) : given n (fun _ => true) v = (List.range n).map v := by
  unfold given
  rw [List.filter_eq_self.mpr (fun _ _ => rfl)]
theorem given_bl {n : Nat} (b : Nat → Bool) : given n (fun _ => true) (fun i => .bl (b i)) = ((List.range n).map b).map V.bl := by
  rw [given_all, List.map_map]
  rfl
theorem all_range {α : Type} (l : List α) (p : α → Bool) (d : α) : ((List.range l.length).map fun i => p (l.getD i d)).all id = l.all p := by
  induction l with
  | nil => rfl
  | cons a l ih =>
    rw [List.length_cons, List.range_succ_eq_map, List.map_cons, List.map_map, List.all_cons, List.all_cons, ← ih]
    rfl
theorem any_range {α : Type} (l : List α) (p : α → Bool) (d : α) : ((List.range l.length).map fun i => p (l.getD i d)).any id = l.any p := by
  induction l with
  | nil => rfl
  | cons a l ih =>
    rw [List.length_cons, List.range_succ_eq_map, List.map_cons, List.map_map, List.any_cons, List.any_cons, ← ih]
    rfl
end
/-! ### consists_of -/
def consists (t s : Str) : Bool := t.cps.toList.all fun c => decide (c ∈ s.cps.toList)
/-- a def that changes nothing and answers v -/
def spV (f : List V → Hp → V → Prop) : Sp := fun vs H Q _ => ∃ v, f vs H v ∧ ∀ H', Ex H H' → Q v H'
def spConsists : Sp := fun vs H Q _ => ∃ t s : Str, vs = [.str t, .str s] ∧ t.cps.size ≤ 40000 ∧ RetV (.bl (consists t s)) H Q
section
variable {P : Program} {w : World} {K : PySem.W.Frag} {mg : Str → Option Value} {base : Heap}
theorem sc_consists : FnScope ["text", "signs", "sign"] ["text", "signs"] (defScope s_consists_of) := ⟨rfl, rfl, rfl, by decide +kernel, rfl, by decide +kernel, by decide +kernel⟩
theorem ok_consists {f : Addr} {fd : FuncData} (F : Fun K "consists_of" "consists_of" s_consists_of f fd) (gall : mg "all" = none) : FnOk P w K mg base CX0 1 f fd ["text", "signs"] spConsists := by
  refine F.ok sc_consists (fun vs H Q E h => ?_) (fun cdv A outer s H vs Q E hr h => ?_)
  · obtain ⟨t, s, rfl, _⟩ := h
    rfl
  · obtain ⟨t, s, rfl, hz, k⟩ := h
    refine ⟨_, pss_one (ps_ret (pe_callB (cr_all rfl) (by rfl) gall (by decide +kernel) (pa_cons (pe_lc (own := [("sign", 2)]) (g := gName 2) (by rfl) sc_consists.nd (pi_str (pv 0))
      (blkOk_by (own := [("sign", 2)]) (N := ["text", "signs", "sign"]) (sc := defScope s_consists_of) (by decide +kernel)) (fun _ _ _ _ _ => pg_name (i := 2) sc_consists.nd rfl (Or.inl rfl)) (fun _ _ _ _ _ => pts_nil)
      (fun _ _ _ _ _ => pe_cmpR op_inS (pv 2) (pv 1) rfl)) pa_nil))), ?_⟩
    refine s_ret (v := .bl (consists t s)) ?_ k
    have e : consists t s = ((List.range t.cps.size).map fun i => decide (t.cps.toList.getD i 0 ∈ s.cps.toList)).all id := by
      have := all_range t.cps.toList (fun c => decide (c ∈ s.cps.toList)) 0
      rw [Array.length_toList] at this
      exact this.symm
    rw [e]
    refine ev_all ?_
    rw [← given_bl]
    refine el_lcS (fun _ => true) _ (ev_var rfl) hz (fun _ => rfl) (fun _ _ _ _ _ => et_nil) fun i c H1 e1 hc _ => ?_
    have e2 : t.cps.toList.getD i 0 = c := by
      rw [List.getD_eq_getElem?_getD, Array.getElem?_toList, hc]
      rfl
    rw [e2]
    exact ev_op (ev_var rfl) (ev_var rfl) fun H2 _ Q q => ⟨c, s, rfl, rfl, q H2 (Ex.refl H2)⟩
end
end HF
set_option maxRecDepth 100000
set_option maxHeartbeats 2000000
namespace HF
open PySem L2 Evl
/-- a def of the top that keeps sp -/
structure Has (P : Program) (w : World) (K : PySem.W.Frag) (mg : Str → Option Value) (base : Heap) (CX : CXT) (k : Nat) (x : Str) (ps : List Str) (sp : Sp) : Prop where
  ex : ∃ (f : Addr) (fd : FuncData), mg x = some (.ref f) ∧ PySem.W.keepIn K (.ref f) = true ∧ Binds K fd ps [] ∧ FnOk P w K mg base CX k f fd ps sp
/-- a def of the top, as it stands -/
structure Dfn (K : PySem.W.Frag) (mg : Str → Option Value) (x : Str) (st : Stmt) : Prop where
  ex : ∃ (f : Addr) (fd : FuncData), mg x = some (.ref f) ∧ Fun K x x st f fd
theorem Has.mono {P : Program} {w : World} {K : PySem.W.Frag} {mg : Str → Option Value} {base : Heap} {CX : CXT} {j k : Nat} {x : Str} {ps : List Str} {sp : Sp} (h : Has P w K mg base CX j x ps sp) (e : j ≤ k) : Has P w K mg base CX k x ps sp := by
  obtain ⟨f, fd, a, b, c, d⟩ := h.ex
  exact ⟨f, fd, a, b, c, d.mono e⟩
theorem pe_h {X : Cx} {k : Nat} {x : Str} {ps : List Str} {sp : Sp} {e : Expr} {es : List Expr} {t : TA} {p pos : Pos} (h : Has X.prog X.w X.K X.mg X.base CX0 k x ps sp) (hr : Room k X.A) (ha : PA X (e :: es) t) (hg : Gl X x := by rfl)
    (hdb : (x == ("__debug__" : Str)) = false := by decide) (he : starEach (e :: es) X.env = (false, eval e X.env) :: starEach es X.env := by rfl) (hpl : (backTo pos (starEach es X.env)).any (·.1) = false := by rfl) :
    PE X (.Call (.Name x p) (e :: es) [] pos) (tCall sp [] E0 t) := by
  obtain ⟨f, fd, a, b, c, d⟩ := h.ex
  exact pe_call d hr hg a b c .nil pass0 ha hdb he hpl
theorem pe_gs {X : Cx} {x S : Str} {pos : Pos} (hm : ∃ t, X.mg x = some (.str S t)) (hg : Gl X x := by rfl) (hdb : (x == ("__debug__" : Str)) = false := by decide) : PE X (.Name x pos) (tC (.str S)) := by
  obtain ⟨t, hm⟩ := hm
  exact pe_glob hg hm (v := .str S) ⟨t, rfl⟩ hdb
section
variable {K : PySem.W.Frag} {σ : L2.St} {H : Hp} {t : TT} {te ta tb tc : TE} {x y z v : V}
theorem ev_chain {r r' : R2} {k k' : Bool} (ha : Ev ta σ H x) (hb : Ev tb σ H y) (hr : RV r x y H (.bl k)) (hc : k = true → Ev tc σ H z) (hr' : k = true → RV r' y z H (.bl k')) : Ev (tChain r r' ta tb tc) σ H (.bl (k && k')) := fun H1 e Q q =>
  ha H1 e _ fun H2 e2 => hb H2 (e.trans e2) _ fun H3 e3 => hr H3 ((e.trans e2).trans e3) _ fun H4 e4 => ⟨k, rfl, by
    cases k with
    | false => exact q H4 ((e2.trans e3).trans e4)
    | true =>
      show tc σ H4 fun w' H5 => r' y w' H5 Q
      exact hc rfl H4 (((e.trans e2).trans e3).trans e4) _ fun H5 e5 => hr' rfl H5 ((((e.trans e2).trans e3).trans e4).trans e5) Q fun H6 e6 => q H6 ((((e2.trans e3).trans e4).trans e5).trans e6)⟩
def rLenStr : List V → Hp → VK → Prop := fun xs H Q => ∃ z, xs = [.str z] ∧ z.length ≤ sizeLine ∧ Q (.int z.length) H
theorem call_lenStr {X : Cx} : CallR X (.builtin "len") rLenStr := call_len_str
theorem ev_lenS {z : Str} (h : Ev te σ H (.str z)) (hz : z.length ≤ 100000) : Ev (tCB rLenStr (tCons te tNil)) σ H (.int (z.length : Int)) := fun H1 e Q q =>
  h H1 e _ fun H2 e2 => ⟨z, rfl, sz_of hz, q H2 e2⟩
def rAddS : R2 := fun x y H Q => ∃ i j, x = .str i ∧ y = .str j ∧ i.length + j.length ≤ sizeLine ∧ Q (.str (i ++ j)) H
theorem op_addS1 {X : Cx} : OpR X (binaryOp .Add) rAddS := op_add_str
theorem rv_addS {a b : Str} (h : a.length + b.length ≤ 100000) : RV rAddS (.str a) (.str b) H (.str (a ++ b)) := fun H1 _ Q q => ⟨a, b, rfl, rfl, sz_of h, q H1 (Ex.refl H1)⟩
theorem rv_inS {c : Nat} {z : Str} : RV rInS (.str ⟨#[c]⟩) (.str z) H (.bl (decide (c ∈ z.cps.toList))) := fun H1 _ Q q => ⟨c, z, rfl, rfl, q H1 (Ex.refl H1)⟩
/-- a call whose promise is an answer alone -/
theorem ev_h {sp : Sp} {vs : List V} {ta : TA} (h : EvA ta σ H vs) (hs : SpV sp vs H z) : Ev (tCall sp [] E0 ta) σ H z := ev_call h (by rw [List.append_nil]; exact hs)
end
/-! ### what the program's texts are -/
def LOW : Str := "abcdefghijklmnopqrstuvwxyz"
def UPP : Str := "ABCDEFGHIJKLMNOPQRSTUVWXYZ"
def DIG : Str := "0123456789"
def isName (t : Str) : Bool := (decide (1 ≤ t.length) && decide (t.length ≤ 6)) && (decide (t.cps.toList.getD 0 0 ∈ LOW.cps.toList) && consists t (LOW ++ DIG))
def isCapital (t : Str) : Bool := (decide (1 ≤ t.length) && decide (t.length ≤ 6)) && consists t UPP
def spB1 (g : Str → Bool) : Sp := fun vs H Q _ => ∃ t : Str, vs = [.str t] ∧ t.length ≤ 60000 ∧ RetV (.bl (g t)) H Q
theorem spB1_v {g : Str → Bool} {t : Str} {H : Hp} (h : t.length ≤ 60000) : SpV (spB1 g) [.str t] H (.bl (g t)) := fun H1 _ Q q E => ⟨t, rfl, h, q⟩
structure TxForms (K : PySem.W.Frag) (mg : Str → Option Value) : Prop where
  all : mg "all" = none
  len : mg "len" = none
  low : ∃ t, mg "LOWER" = some (.str LOW t)
  upp : ∃ t, mg "UPPER" = some (.str UPP t)
  dig : ∃ t, mg "DIGITS" = some (.str DIG t)
  consists : Dfn K mg "consists_of" s_consists_of
  name : Dfn K mg "is_name" s_is_name
  number : Dfn K mg "is_number" s_is_number
  capital : Dfn K mg "is_capital" s_is_capital
theorem decide2 {a b : Prop} [Decidable a] [Decidable b] (h : a ↔ b) : decide a = decide b := by
  by_cases q : a
  · rw [decide_eq_true q, decide_eq_true (h.mp q)]
  · rw [decide_eq_false q, decide_eq_false (fun z => q (h.mpr z))]
section
variable {P : Program} {w : World} {K : PySem.W.Frag} {mg : Str → Option Value} {base : Heap}
theorem h_consists (T : TxForms K mg) : Has P w K mg base CX0 1 "consists_of" ["text", "signs"] spConsists := by
  obtain ⟨f, fd, a, F⟩ := T.consists.ex
  exact ⟨f, fd, a, F.kp, F.binds fun _ _ _ _ _ _ us hl => match us, hl with | [_, _], _ => rfl, ok_consists F T.all⟩
theorem consists_v {t s : Str} {H : Hp} (h : t.cps.size ≤ 40000) : SpV spConsists [.str t, .str s] H (.bl (consists t s)) := fun H1 _ Q q E => ⟨t, s, rfl, h, q⟩
theorem at0 {l : List Nat} (h : 0 < l.length) : atI l (0 : Int) = some (l.getD 0 0) :=
  atI_nat (j := 0) (by rw [List.getD_eq_getElem?_getD, List.getElem?_eq_getElem h]; rfl)
theorem sc_name : FnScope ["text"] ["text"] (defScope s_is_name) := ⟨rfl, rfl, rfl, by decide +kernel, rfl, by decide +kernel, by decide +kernel⟩
theorem ev16 {t : Str} {σ : L2.St} {H : Hp} (h : σ[0]? = some (some (.str t))) (hz : t.length ≤ 60000) : Ev (tChain (rI0 fun i j => .bl (decide (i ≤ j))) (rI0 fun i j => .bl (decide (i ≤ j))) (tC (.int 1)) (tCB rLenStr (tCons (tVar 0) tNil)) (tC (.int 6))) σ H (.bl (decide (1 ≤ t.length) && decide (t.length ≤ 6))) := by
  have e1 : decide (1 ≤ t.length) = decide ((1 : Int) ≤ (t.length : Int)) := decide2 (by omega)
  have e2 : decide (t.length ≤ 6) = decide ((t.length : Int) ≤ (6 : Int)) := decide2 (by omega)
  rw [e1, e2]
  exact ev_chain ev_c (ev_lenS (ev_var h) (by omega)) rv_I0 (fun _ => ev_c) (fun _ => rv_I0)
theorem h_name (T : TxForms K mg) : Has P w K mg base CX0 2 "is_name" ["text"] (spB1 isName) := by
  obtain ⟨f, fd, a, F⟩ := T.name.ex
  have C : Has P w K mg base CX0 1 "consists_of" ["text", "signs"] spConsists := h_consists T
  refine ⟨f, fd, a, F.kp, F.binds fun _ _ _ _ _ _ us hl => match us, hl with | [_], _ => rfl, ?_⟩
  refine F.ok sc_name (fun vs H Q E h => ?_) (fun cdv A outer s H vs Q E hr h => ?_)
  · obtain ⟨t, rfl, _⟩ := h
    rfl
  · obtain ⟨t, rfl, hz, k⟩ := h
    refine ⟨_, pss_one (ps_ret (pe_and (pe_chain op_le op_le pe_int (pe_callB call_lenStr (by rfl) T.len PySem.boot_len (pa_cons (pv 0) pa_nil)) pe_int)
      (pe_and (pe_cmpR op_inS (pe_ix ix_str (pv 0) pe_int (fun _ _ => rfl)) (pe_gs T.low) rfl)
      (pe_one (pe_h C (hr.mono (by decide)) (pa_cons (pv 0) (pa_cons (pe_op op_addS1 (pe_gs T.low) (pe_gs T.dig)) pa_nil))))))), ?_⟩
    refine s_ret (v := .bl (isName t)) ?_ k
    refine ev_andV (ev16 rfl hz) fun h1 => ev_andV ?_ fun _ => ev_h (ea_cons (ev_var rfl) (ea_cons (ev_op ev_c ev_c (rv_addS (by decide +kernel))) ea_nil)) (consists_v (by simp only [Bool.and_eq_true, decide_eq_true_eq] at h1; show t.length ≤ _; omega))
    simp only [Bool.and_eq_true, decide_eq_true_eq] at h1
    have hl : 0 < t.cps.toList.length := by rw [Array.length_toList]; exact h1.1
    refine ev_op (ev_op (ev_var rfl) ev_c (rv_ixS (c := t.cps.toList.getD 0 0) (by omega) ?_)) ev_c rv_inS
    exact at0 hl

/-! ### is_capital -/
theorem sc_capital : FnScope ["text"] ["text"] (defScope s_is_capital) := ⟨rfl, rfl, rfl, by decide +kernel, rfl, by decide +kernel, by decide +kernel⟩
theorem h_capital (T : TxForms K mg) : Has P w K mg base CX0 2 "is_capital" ["text"] (spB1 isCapital) := by
  obtain ⟨f, fd, a, F⟩ := T.capital.ex
  have C : Has P w K mg base CX0 1 "consists_of" ["text", "signs"] spConsists := h_consists T
  refine ⟨f, fd, a, F.kp, F.binds fun _ _ _ _ _ _ us hl => match us, hl with | [_], _ => rfl, ?_⟩
  refine F.ok sc_capital (fun vs H Q E h => ?_) (fun cdv A outer s H vs Q E hr h => ?_)
  · obtain ⟨t, rfl, _⟩ := h
    rfl
  · obtain ⟨t, rfl, hz, k⟩ := h
    refine ⟨_, pss_one (ps_ret (pe_and (pe_chain op_le op_le pe_int (pe_callB call_lenStr (by rfl) T.len PySem.boot_len (pa_cons (pv 0) pa_nil)) pe_int)
      (pe_one (pe_h C (hr.mono (by decide)) (pa_cons (pv 0) (pa_cons (pe_gs T.upp) pa_nil)))))), ?_⟩
    refine s_ret (v := .bl (isCapital t)) ?_ k
    refine ev_andV (ev16 rfl hz) fun h1 => ev_h (ea_cons (ev_var rfl) (ea_cons ev_c ea_nil)) (consists_v ?_)
    simp only [Bool.and_eq_true, decide_eq_true_eq] at h1
    show t.length ≤ _
    omega
end
end HF
set_option maxRecDepth 100000
set_option maxHeartbeats 2000000
namespace L2
open PySem PySem.Spec PyProof.Rows PySem.Builtin.Str
section
variable {X : Cx}
/-- x.rpartition(sep) -/
theorem mt_rpartition : MtR X "str.rpartition" (fun x xs H Q => ∃ a b, x = .str a ∧ xs = [.str b] ∧ (b.length == 0) = false ∧ a.length ≤ sizeLine ∧
    ∀ p, H p = none → Q (.ref p) (upd H p (.tup [.str (Txt.rpartition a b).1, .str (Txt.rpartition a b).2.1, .str (Txt.rpartition a b).2.2]))) := by
  intro pins s σ H x xs v us Q I rx rs h
  obtain ⟨a, b, rfl, rfl, hb, hz, h⟩ := h
  obtain ⟨t, rfl⟩ := rx
  cases rs with
  | cons r1 rs =>
    cases rs
    obtain ⟨u, rfl⟩ := r1
    refine call_meets F.slot_str_rpartition (typeIs_str _ _ _) F.entry_str_rpartition (F.args_str_rpartition_2 _ _) (meets_str_rpartition a b t u hb hz) ?_
    unfold Txt.rpartition at h
    revert h
    cases lastOccurrence a b 0 a.length with
    | none => intro h; exact laid_parts I h
    | some i => intro h; exact laid_parts I h
end
end L2
namespace HF
open PySem L2 Evl
section
variable {K : PySem.W.Frag} {σ : L2.St} {H : Hp} {t : TT} {te ta tb tc : TE} {x y z v : V}
def rStarts : V → List V → Hp → VK → Prop := fun x xs H Q => ∃ a b, x = .str a ∧ xs = [.str b] ∧ Q (.bl (Txt.startswith a b)) H
theorem ev_starts {a b : Str} (h : Ev ta σ H (.str a)) (h' : Ev tb σ H (.str b)) : Ev (tM1 rStarts ta tb) σ H (.bl (Txt.startswith a b)) := fun H1 e Q q =>
  h H1 e _ fun H2 e2 => ⟨⟨a, rfl⟩, h' H2 (e.trans e2) _ fun H3 e3 => ⟨a, b, rfl, rfl, q H3 (e2.trans e3)⟩⟩
theorem ev_slS {tl th : TO} {z : Str} {lo hi : Option Int} (h : Ev te σ H (.str z)) (h1 : EvO tl σ H lo) (h2 : EvO th σ H hi) (hz : z.length ≤ 100000) : Ev (tSl rSlS te tl th) σ H (.str (cutS z lo hi)) := fun H1 e Q q =>
  h H1 e _ fun H2 e2 => h1 H2 (e.trans e2) _ fun H3 e3 => h2 H3 ((e.trans e2).trans e3) _ fun H4 e4 => ⟨z, rfl, sz_of hz, q H4 ((e2.trans e3).trans e4)⟩
end
def isNumber (t : Str) (m : Int) : Bool :=
  (decide ((1 : Int) ≤ (t.length : Int)) && decide ((t.length : Int) ≤ m)) && (consists t DIG && ((!decide ((V.str ⟨#[t.cps.toList.getD 0 0]⟩) = V.str "0")) || decide (V.str t = V.str "0")))
def isNumeral (t : Str) : Bool := if Txt.startswith t "-" = true then (!decide (V.str t = V.str "-0")) && isNumber (cutS t (some 1) none) 9 else isNumber t 9
theorem cutS_len (t : Str) : (cutS t (some 1) none).length ≤ t.length := by
  unfold cutS Str.length
  rw [List.size_toArray, List.length_take, List.length_drop, Array.length_toList]
  omega
def spNumber : Sp := fun vs H Q _ => ∃ (t : Str) (m : Int), vs = [.str t, .int m] ∧ t.length ≤ 60000 ∧ m ≤ 40000 ∧ RetV (.bl (isNumber t m)) H Q
theorem spNumber_v {t : Str} {m : Int} {H : Hp} (h : t.length ≤ 60000) (hm : m ≤ 40000) : SpV spNumber [.str t, .int m] H (.bl (isNumber t m)) := fun H1 _ Q q E => ⟨t, m, rfl, h, hm, q⟩
section
variable {P : Program} {w : World} {K : PySem.W.Frag} {mg : Str → Option Value} {base : Heap}
theorem sc_number : FnScope ["text", "most"] ["text", "most"] (defScope s_is_number) := ⟨rfl, rfl, rfl, by decide +kernel, rfl, by decide +kernel, by decide +kernel⟩
theorem h_number (T : TxForms K mg) : Has P w K mg base CX0 2 "is_number" ["text", "most"] spNumber := by
  obtain ⟨f, fd, a, F⟩ := T.number.ex
  have C : Has P w K mg base CX0 1 "consists_of" ["text", "signs"] spConsists := h_consists T
  refine ⟨f, fd, a, F.kp, F.binds fun _ _ _ _ _ _ us hl => match us, hl with | [_, _], _ => rfl, ?_⟩
  refine F.ok sc_number (fun vs H Q E h => ?_) (fun cdv A outer s H vs Q E hr h => ?_)
  · obtain ⟨t, m, rfl, _⟩ := h
    rfl
  · obtain ⟨t, m, rfl, hz, hm, k⟩ := h
    refine ⟨_, pss_one (ps_ret (pe_and (pe_chain op_le op_le pe_int (pe_callB call_lenStr (by rfl) T.len PySem.boot_len (pa_cons (pv 0) pa_nil)) (pv 1))
      (pe_and (pe_h C (hr.mono (by decide)) (pa_cons (pv 0) (pa_cons (pe_gs T.dig) pa_nil)))
      (pe_one (pe_or (pe_cmpR op_ne (pe_ix ix_str (pv 0) pe_int (fun _ _ => rfl)) pe_str (nomark _)) (pe_one (pe_cmpR op_eq (pv 0) pe_str (nomark _)))))))), ?_⟩
    refine s_ret (v := .bl (isNumber t m)) (ev_andV (ev_chain ev_c (ev_lenS (ev_var rfl) (by omega)) rv_I0 (fun _ => ev_var rfl) (fun _ => rv_I0)) fun h1 => ev_andV (ev_h (ea_cons (ev_var rfl) (ea_cons ev_c ea_nil)) (consists_v ?_)) fun _ => ev_orV (ev_op (ev_op (ev_var rfl) ev_c (rv_ixS (c := t.cps.toList.getD 0 0) (by omega) (at0 ?_))) ev_c (rv_ne rfl)) fun _ => ev_op (ev_var rfl) ev_c (rv_eq rfl)) k
    · simp only [Bool.and_eq_true, decide_eq_true_eq] at h1
      show t.length ≤ _
      omega
    · simp only [Bool.and_eq_true, decide_eq_true_eq] at h1
      rw [Array.length_toList]
      have := h1.1
      show 0 < t.length
      omega
end
end HF
set_option maxRecDepth 100000
set_option maxHeartbeats 2000000
namespace HF
open PySem L2 Evl
/-! ### called_function -/
def calledUnit (home t : Str) : Str := if ((Txt.rpartition t ".").1.length : Int) != 0 then (Txt.rpartition t ".").1 else home
def calledName (t : Str) : Str := (Txt.rpartition t ".").2.2
/-- a new tuple is handed back -/
def RetU (xs : List V) (H : Hp) (Q : VK) : Prop := ∀ p H2, H p = none → Ex H H2 → H2 p = some (.tup xs) → Q (.ref p) H2
def SpU (sp : Sp) (vs : List V) (H : Hp) (xs : List V) : Prop := ∀ H1, Ex H H1 → ∀ Q : VK, (∀ p H2, H1 p = none → Ex H1 H2 → H2 p = some (.tup xs) → Q (.ref p) H2) → ∀ E : XK, sp vs H1 Q E
section
variable {K : PySem.W.Frag} {σ : L2.St} {H : Hp} {t : TT} {te ta tb tc : TE} {x y z v : V}
theorem eu_call {sp : Sp} {vs xs : List V} {ta : TA} (h : EvA ta σ H vs) (hs : SpU sp vs H xs) : EvU (tCall sp [] E0 ta) σ H xs := fun H1 e Q q =>
  h H1 e _ fun H2 e2 => by rw [List.append_nil]; exact hs H2 (e.trans e2) _ (fun p H3 hp e3 h3 => q p H3 (fresh_back e2 hp) (e2.trans e3) h3) _
theorem rpart_len (t : Str) : (Txt.rpartition t ".").1.length ≤ t.length ∧ (Txt.rpartition t ".").2.2.length ≤ t.length := by
  unfold Txt.rpartition
  cases Builtin.Str.lastOccurrence t "." 0 t.length with
  | none => exact ⟨Nat.zero_le _, Nat.le_refl _⟩
  | some i =>
    have q : ∀ i j : Nat, (Builtin.Str.strSub t i j).length ≤ t.length := fun i j => by
      unfold Builtin.Str.strSub Str.length
      simp only [Array.size_extract]
      omega
    exact ⟨q _ _, q _ _⟩
end
theorem ev_orS {K : PySem.W.Frag} {σ : L2.St} {H : Hp} {ta tb : TE} {a b : Str} (ha : Ev ta σ H (.str a)) (hz : a.length ≤ 100000) (hb : ((a.length : Int) != 0) = false → Ev tb σ H (.str b)) : Ev (tOrT K ta tb) σ H (.str (if ((a.length : Int) != 0) = true then a else b)) := fun H1 e Q q =>
  ha H1 e _ fun H2 e2 => ⟨(a.length : Int) != 0, ⟨sz_of hz, rfl⟩, by
    cases h : ((a.length : Int) != 0) with
    | true =>
      rw [h] at q
      exact q H2 e2
    | false =>
      rw [h] at q
      exact hb h H2 (e.trans e2) Q fun H3 e3 => q H3 (e2.trans e3)⟩
def spCalled : Sp := fun vs H Q _ => ∃ home t : Str, vs = [.str home, .str t] ∧ t.length ≤ 60000 ∧ RetU [.str (calledUnit home t), .str (calledName t)] H Q
theorem called_u {home t : Str} {H : Hp} (h : t.length ≤ 60000) : SpU spCalled [.str home, .str t] H [.str (calledUnit home t), .str (calledName t)] := fun H1 _ Q q E => ⟨home, t, rfl, h, q⟩
section
variable {P : Program} {w : World} {K : PySem.W.Frag} {mg : Str → Option Value} {base : Heap}
def rRpart : V → List V → Hp → VK → Prop := fun x xs H Q => ∃ a b, x = .str a ∧ xs = [.str b] ∧ (b.length == 0) = false ∧ a.length ≤ sizeLine ∧
    ∀ p, H p = none → Q (.ref p) (upd H p (.tup [.str (Txt.rpartition a b).1, .str (Txt.rpartition a b).2.1, .str (Txt.rpartition a b).2.2]))
end
end HF
set_option maxRecDepth 100000
set_option maxHeartbeats 2000000
namespace HF
open PySem L2 Evl
/-! ### methods -/
structure HasM (P : Program) (w : World) (K : PySem.W.Frag) (mg : Str → Option Value) (base : Heap) (CX : CXT) (k : Nat) (C : Addr) (m : Str) (ps : List Str) (sp : Sp) : Prop where
  ex : ∃ (f : Addr) (fd : FuncData), Meth K C m f ∧ Binds K fd ps [] ∧ FnOk P w K mg base CX k f fd ps sp
structure DfnM (K : PySem.W.Frag) (C : Addr) (m qual : Str) (st : Stmt) : Prop where
  ex : ∃ (f : Addr) (fd : FuncData), Meth K C m f ∧ Fun K m qual st f fd
theorem pe_hm {X : Cx} {k : Nat} {C : Addr} {m : Str} {ps : List Str} {sp : Sp} {o e : Expr} {es : List Expr} {ta : TE} {t : TA} {apos pos : Pos} {pl : Sem Bool} (he : PE X o ta) (c : Cls X.K C) (h : HasM X.prog X.w X.K X.mg X.base CX0 k C m ps sp) (hr : Room k X.A) (ha : PA X (e :: es) t)
    (hst : starEach (e :: es) X.env = (false, eval e X.env) :: starEach es X.env := by rfl) (hpl : (backTo pos (starEach es X.env)).any (·.1) = false := by rfl)
    (ht : eval (.Call (.Attribute o m apos) (e :: es) [] pos) X.env = (do
      let ov ← eval o X.env
      standAt apos.atName
      let (f, first) ← holding [ov] (getMethod ov m pl)
      callWith pos f first (backTo pos (starEach (e :: es) X.env)) (backToKw pos (keywordEach [] X.env))) := by rfl) :
    PE X (.Call (.Attribute o m apos) (e :: es) [] pos) (tMeth C m sp [] E0 ta t) := by
  obtain ⟨f, fd, hm, hb, hF⟩ := h.ex
  exact pe_meth he c hm hF hr hb .nil pass0 ha hst hpl ht
section
variable {K : PySem.W.Frag} {σ : L2.St} {H : Hp} {t : TT} {te ta tb tc : TE} {x y z v : V}
theorem ev_fld {a C dx : Addr} {fs : List (Str × V)} {f : Str} (h : Ev te σ H (.ref a)) (ho : H a = some (.ins C dx fs)) (hc : Cls K C) (hn : NoAttr K C f) (hl : fs.lookup f = some v) : Ev (tFld K te f) σ H v := fun H1 e Q q =>
  h H1 e _ fun H2 e2 => ⟨a, C, dx, fs, v, rfl, e2 _ _ (e _ _ ho), hc, hn, hl, q H2 e2⟩
theorem ev_hm {a C dx : Addr} {fs : List (Str × V)} {m : Str} {sp : Sp} {vs : List V} {tz : TA} (h : Ev ta σ H (.ref a)) (ho : H a = some (.ins C dx fs)) (hl : fs.lookup m = none) (hv : EvA tz σ H vs) (hs : SpV sp (.ref a :: vs) H z) : Ev (tMeth C m sp [] E0 ta tz) σ H z := fun H1 e Q q =>
  h H1 e _ fun H2 e2 => ⟨a, dx, fs, rfl, e2 _ _ (e _ _ ho), hl, hv H2 (e.trans e2) _ fun H3 e3 => by
    rw [List.append_nil]
    exact hs H3 ((e.trans e2).trans e3) Q (fun H4 e4 => q H4 ((e2.trans e3).trans e4)) _⟩
theorem ev_notinD {d : Addr} {kvs : List (Key × V)} {k : Key} (ha : Ev ta σ H (kV k)) (hb : Ev tb σ H (.ref d)) (hd : H d = some (.dK kvs)) : Ev (tDNotIn ta tb) σ H (.bl (!(valV kvs k).isSome)) := fun H1 e Q q =>
  ha H1 e _ fun H2 e2 => hb H2 (e.trans e2) _ fun H3 e3 => ⟨d, _, rfl, DGet.k (k := k) (e3 _ _ (e2 _ _ (e _ _ hd))), q H3 (e2.trans e3)⟩
theorem ev_inD {d : Addr} {kvs : List (Key × V)} {k : Key} (ha : Ev ta σ H (kV k)) (hb : Ev tb σ H (.ref d)) (hd : H d = some (.dK kvs)) : Ev (tDIn ta tb) σ H (.bl ((valV kvs k).isSome)) := fun H1 e Q q =>
  ha H1 e _ fun H2 e2 => hb H2 (e.trans e2) _ fun H3 e3 => ⟨d, _, rfl, DGet.k (k := k) (e3 _ _ (e2 _ _ (e _ _ hd))), q H3 (e2.trans e3)⟩
theorem ev_notT {b : Bool} (h : Ev ta σ H v) (hb : ∀ H1, Ex H H1 → TruV K v H1 b) : Ev (tNotT K ta) σ H (.bl (!b)) := fun H1 e Q q =>
  h H1 e _ fun H2 e2 => ⟨b, hb H2 (e.trans e2), q H2 e2⟩
end
/-! ### data -/
def strsV (l : List Str) : List V := l.map V.str
theorem strsV_flat (l : List Str) : (strsV l).all flatV = true := by
  unfold strsV
  rw [List.all_map]
  exact List.all_eq_true.mpr fun _ _ => rfl
def inS (n : Str) (l : List Str) : Bool := l.any fun y => y == n
theorem inV_str (n : Str) (l : List Str) : inV (.str n) (strsV l) = inS n l := by
  unfold inV strsV inS
  rw [List.any_map]
  rfl
theorem inS_iff (n : Str) (l : List Str) : inS n l = true ↔ n ∈ l := by
  unfold inS
  rw [List.any_eq_true]
  constructor
  · rintro ⟨y, h, e⟩
    rw [beq_iff_eq] at e
    exact e ▸ h
  · intro h
    exact ⟨n, h, by rw [beq_iff_eq]⟩
def cellsV (l : List (Str × Str)) : List (Key × V) := l.map fun c => (Sum.inr c.1, V.str c.2)
def hasCell (l : List (Str × Str)) (n : Str) : Bool := inS n (l.map (·.1))
theorem valV_cells (n : Str) : ∀ l : List (Str × Str), (valV (cellsV l) (Sum.inr n)).isSome = hasCell l n
  | [] => rfl
  | c :: l => by
    have ih := valV_cells n l
    show (valV ((Sum.inr c.1, V.str c.2) :: cellsV l) (Sum.inr n)).isSome = ((c.1 == n) || hasCell l n)
    by_cases h : c.1 = n
    · rw [valV_pos (by rw [h])]
      simp [h]
    · rw [valV_neg (fun z => h (Sum.inr.inj z)), ih]
      have : (c.1 == n) = false := by simpa using h
      rw [this]
      rfl
/-- the lists of a list of lists of texts -/
structure ScAt (H : Hp) (as : List Addr) (scs : List (List Str)) : Prop where
  len : as.length = scs.length
  at_ : ∀ (i : Nat) (a : Addr) (s : List Str), as[i]? = some a → scs[i]? = some s → H a = some (.lst (strsV s))
theorem ScAt.mono {H H' : Hp} {as : List Addr} {scs : List (List Str)} (e : Ex H H') (h : ScAt H as scs) : ScAt H' as scs := ⟨h.len, fun i a s p q => e _ _ (h.at_ i a s p q)⟩
theorem ScAt.nil {H : Hp} : ScAt H [] [] := ⟨rfl, fun i a s p q => by simp at p⟩
def refsV (l : List Addr) : List V := l.map V.ref
/-! ### Ahead -/
abbrev fsA (tw : Addr) (name : V) (dc df : Addr) (fn : V) (lb : Addr) (ls : V) (da : Addr) : List (Str × V) :=
  [("words", .ref tw), ("name", name), ("cells", .ref dc), ("functions", .ref df), ("function", fn), ("blocks", .ref lb), ("scopes", ls), ("asked", .ref da)]
abbrev fsR (line : Int) (tw : Addr) (middle : Int) (last : V × V) (block guard : V) : List (Str × V) :=
  [("line", .int line), ("words", .ref tw), ("scope", last.2), ("middle", .int middle), ("last", last.1), ("block", block), ("guard", guard)]
structure ClA (K : PySem.W.Frag) (C : Addr) : Prop where
  cls : Cls K C
  words : NoAttr K C "words"
  name : NoAttr K C "name"
  cells : NoAttr K C "cells"
  functions : NoAttr K C "functions"
  function : NoAttr K C "function"
  blocks : NoAttr K C "blocks"
  scopes : NoAttr K C "scopes"
  asked : NoAttr K C "asked"
structure ClR (K : PySem.W.Frag) (C : Addr) : Prop where
  cls : Cls K C
  line : NoAttr K C "line"
  words : NoAttr K C "words"
  scope : NoAttr K C "scope"
  middle : NoAttr K C "middle"
  last : NoAttr K C "last"
  block : NoAttr K C "block"
  guard : NoAttr K C "guard"
structure TxAhead (K : PySem.W.Frag) (mg : Str → Option Value) (C : Addr) : Prop extends ClA K C where
  any : mg "any" = none
  bool : mg "bool" = none
def inScopes (n : Str) (scs : List (List Str)) : Bool := scs.any fun s => inS n s
def isFree (cells : List (Str × Str)) (n : Str) (scs : List (List Str)) : Bool := isName n && (!hasCell cells n && !inScopes n scs)
/-- what free and in-scope questions need -/
structure AhC (C : Addr) (H : Hp) (p : Addr) (cells : List (Str × Str)) : Prop where
  ex : ∃ dx tw name dc df fn lb ls da, H p = some (.ins C dx (fsA tw name dc df fn lb ls da)) ∧ H dc = some (.dK (cellsV cells))
theorem AhC.mono {C : Addr} {H H' : Hp} {p : Addr} {cells : List (Str × Str)} (e : Ex H H') (h : AhC C H p cells) : AhC C H' p cells := by
  obtain ⟨dx, tw, name, dc, df, fn, lb, ls, da, h1, h2⟩ := h.ex
  exact ⟨dx, tw, name, dc, df, fn, lb, ls, da, e _ _ h1, e _ _ h2⟩
def spFree (C : Addr) : Sp := fun vs H Q _ => ∃ (p l : Addr) (n : Str) (cells : List (Str × Str)) (as : List Addr) (scs : List (List Str)), vs = [.ref p, .str n, .ref l] ∧ AhC C H p cells ∧ H l = some (.lst (refsV as)) ∧ ScAt H as scs ∧ n.length ≤ 60000 ∧ as.length ≤ 30000 ∧
  RetV (.bl (isFree cells n scs)) H Q
theorem free_v {C p l : Addr} {n : Str} {cells : List (Str × Str)} {as : List Addr} {scs : List (List Str)} {H : Hp} (h1 : AhC C H p cells) (h2 : H l = some (.lst (refsV as))) (h3 : ScAt H as scs) (h4 : n.length ≤ 60000) (h5 : as.length ≤ 30000) :
    SpV (spFree C) [.ref p, .str n, .ref l] H (.bl (isFree cells n scs)) := fun H1 e Q q E => ⟨p, l, n, cells, as, scs, rfl, h1.mono e, e _ _ h2, h3.mono e, h4, h5, q⟩
/-- any(n in scope for scope in scopes), as a list -/
theorem ev_inScopes {K : PySem.W.Frag} {σ : L2.St} {H : Hp} {tl tn ts : TE} {j : Nat} {vs : List Nat} {l : Addr} {n : Str} {as : List Addr} {scs : List (List Str)} (h : Ev tl σ H (.ref l)) (hl : H l = some (.lst (refsV as))) (hs : ScAt H as scs) (hz : as.length ≤ 30000)
    (hw : ∀ x, wipe ((wipe σ vs).set j (some x)) vs = wipe σ vs) (hn : ∀ (x : V) H1, Ex H H1 → Ev tn ((wipe σ vs).set j (some x)) H1 (.str n)) (hx : ∀ (x : V) H1, Ex H H1 → Ev ts ((wipe σ vs).set j (some x)) H1 x) :
    Ev (tCB (rAny K) (tCons (tLc (iList K tl) (gName j) tYes (tOp (rIn K false) tn ts) vs) tNil)) σ H (.bl (inScopes n scs)) := by
  have e : inScopes n scs = ((List.range scs.length).map fun i => inS n (scs.getD i [])).any id := (any_range scs (fun s => inS n s) []).symm
  rw [e]
  refine ev_any ?_
  rw [← given_bl]
  have q := el_lcL (K := K) (t := tYes) (te := tOp (rIn K false) tn ts) (j := j) (vs := vs) (fun _ => true) (fun i => .bl (inS n (scs.getD i []))) h (sq_of hl) (by unfold refsV; rw [List.length_map]; omega) hw (fun _ _ _ _ _ => et_nil) (fun i x H1 e1 hi _ => ?_)
  · unfold refsV at q
    rw [List.length_map, hs.len] at q
    exact q
  · unfold refsV at hi
    rw [List.getElem?_map] at hi
    cases ha : as[i]? with
    | none =>
      rw [ha] at hi
      cases hi
    | some a =>
      rw [ha] at hi
      cases hi
      have hi2 : i < scs.length := by
        rw [← hs.len]
        exact (List.getElem?_eq_some_iff.mp ha).1
      have hsc : scs[i]? = some (scs.getD i []) := by
        rw [List.getD_eq_getElem?_getD, List.getElem?_eq_getElem hi2]
        rfl
      have hH := e1 _ _ (hs.at_ i a _ ha hsc)
      rw [← inV_str]
      exact ev_op (hn _ H1 e1) (hx _ H1 e1) (rv_isL (sq_of hH) rfl (strsV_flat _))
section
variable {P : Program} {w : World} {K : PySem.W.Frag} {mg : Str → Option Value} {base : Heap} {C : Addr}
end
end HF
set_option maxRecDepth 100000
set_option maxHeartbeats 2000000
namespace HF
open PySem L2 Evl
structure RowD where
  line : Int
  words : List Str
  middle : Int
/-- a row's object -/
structure RowAt (CR : Addr) (H : Hp) (r : Addr) (d : RowD) : Prop where
  ex : ∃ dx tw last block guard, H r = some (.ins CR dx (fsR d.line tw d.middle last block guard)) ∧ H tw = some (.tup (strsV d.words))
theorem RowAt.mono {CR : Addr} {H H' : Hp} {r : Addr} {d : RowD} (e : Ex H H') (h : RowAt CR H r d) : RowAt CR H' r d := by
  obtain ⟨dx, tw, l, b, g, h1, h2⟩ := h.ex
  exact ⟨dx, tw, l, b, g, e _ _ h1, e _ _ h2⟩
structure RowsAt (CR : Addr) (H : Hp) (rs : List Addr) (ds : List RowD) : Prop where
  len : rs.length = ds.length
  at_ : ∀ (i : Nat) (r : Addr) (d : RowD), rs[i]? = some r → ds[i]? = some d → RowAt CR H r d
theorem RowsAt.mono {CR : Addr} {H H' : Hp} {rs : List Addr} {ds : List RowD} (e : Ex H H') (h : RowsAt CR H rs ds) : RowsAt CR H' rs ds := ⟨h.len, fun i r d p q => (h.at_ i r d p q).mono e⟩
abbrev fsF (line last : V) (shared : Bool) (name : Str) (tp lr : Addr) : List (Str × V) :=
  [("line", line), ("last", last), ("shared", .bl shared), ("name", .str name), ("params", .ref tp), ("rows", .ref lr)]
def askedV (l : List ((Str × Str) × Int)) : List (List Key × V) := l.map fun e => ([Sum.inr e.1.1, Sum.inr e.1.2], V.int e.2)
/-- what a line within a function asks of what was read -/
structure Vw where
  words : List Str
  name : Str
  cells : List (Str × Str)
  params : List Str
  blocks : List RowD
  scopes : List (List Str)
  asked : List ((Str × Str) × Int)
structure VwOk (v : Vw) : Prop where
  sc : v.scopes.length ≤ 30000
  bl : v.blocks.length ≤ 30000
  bw : ∀ d ∈ v.blocks, d.words ≠ []
structure AhV (C CR CF : Addr) (H : Hp) (p : Addr) (v : Vw) : Prop where
  ok : VwOk v
  ex : ∃ dx tw dc df fa lb ls da as rs, H p = some (.ins C dx (fsA tw (.str v.name) dc df (.ref fa) lb (.ref ls) da)) ∧ H tw = some (.tup (strsV v.words)) ∧ H dc = some (.dK (cellsV v.cells)) ∧
    H ls = some (.lst (refsV as)) ∧ ScAt H as v.scopes ∧ H lb = some (.lst (refsV rs)) ∧ RowsAt CR H rs v.blocks ∧ H da = some (.dT (askedV v.asked)) ∧
    ∃ dxf line last shared name tp lr, H fa = some (.ins CF dxf (fsF line last shared name tp lr)) ∧ H tp = some (.tup (strsV v.params))
theorem AhV.mono {C CR CF : Addr} {H H' : Hp} {p : Addr} {v : Vw} (e : Ex H H') (h : AhV C CR CF H p v) : AhV C CR CF H' p v := by
  obtain ⟨dx, tw, dc, df, fa, lb, ls, da, as, rs, h1, h2, h3, h4, h5, h6, h7, h8, dxf, line, last, shared, name, tp, lr, h9, h10⟩ := h.ex
  exact ⟨h.ok, dx, tw, dc, df, fa, lb, ls, da, as, rs, e _ _ h1, e _ _ h2, e _ _ h3, e _ _ h4, h5.mono e, e _ _ h6, h7.mono e, e _ _ h8, dxf, line, last, shared, name, tp, lr, e _ _ h9, e _ _ h10⟩
theorem AhV.c {C CR CF : Addr} {H : Hp} {p : Addr} {v : Vw} (h : AhV C CR CF H p v) : AhC C H p v.cells := by
  obtain ⟨dx, tw, dc, df, fa, lb, ls, da, as, rs, h1, h2, h3, _⟩ := h.ex
  exact ⟨dx, tw, _, dc, df, _, lb, _, da, h1, h3⟩
/-- a method of one text over the view -/
def spV1 (C CR CF : Addr) (g : Vw → Str → Bool) : Sp := fun vs H Q _ => ∃ (p : Addr) (n : Str) (v : Vw), vs = [.ref p, .str n] ∧ AhV C CR CF H p v ∧ n.length ≤ 20000 ∧ RetV (.bl (g v n)) H Q
theorem spV1_v {C CR CF : Addr} {g : Vw → Str → Bool} {p : Addr} {n : Str} {v : Vw} {H : Hp} (h : AhV C CR CF H p v) (hz : n.length ≤ 20000) : SpV (spV1 C CR CF g) [.ref p, .str n] H (.bl (g v n)) := fun H1 e Q q E => ⟨p, n, v, rfl, h.mono e, hz, q⟩
def gScope (v : Vw) (n : Str) : Bool := inScopes n v.scopes
def gOperand (v : Vw) (n : Str) : Bool := inS n v.words || (isNumeral n || inScopes n v.scopes)
def gWithout (v : Vw) (w : Str) : Bool := match v.blocks.getLast? with
  | none => false
  | some d => decide (V.str (d.words.getD 0 "") = V.str w) && !(d.middle != 0)
def rBoolL (K : PySem.W.Frag) : List V → Hp → VK → Prop := fun xs H Q => ∃ (a : Addr) (zs : List V), xs = [.ref a] ∧ SqL K H a zs ∧ Q (.bl (!zs.isEmpty)) H
theorem call_boolL1 {X : Cx} : CallR X (.type "bool") (rBoolL X.K) := call_boolL
theorem ev_boolL {K : PySem.W.Frag} {σ : L2.St} {H : Hp} {te : TE} {a : Addr} {zs : List V} (h : Ev te σ H (.ref a)) (hz : SqL K H a zs) : Ev (tCB (rBoolL K) (tCons te tNil)) σ H (.bl (!zs.isEmpty)) := fun H1 e Q q =>
  h H1 e _ fun H2 e2 => ⟨a, zs, rfl, ex_l (e.trans e2) hz, q H2 e2⟩
theorem at0V {l : List Str} (h : l ≠ []) : atI (strsV l) (0 : Int) = some (.str (l.getD 0 "")) := by
  cases l with
  | nil => exact absurd rfl h
  | cons a l => exact atI_nat (j := 0) (v := V.str a) rfl
theorem atLast {α : Type} {l : List α} {x : α} (h : l.getLast? = some x) : atI l (-1 : Int) = some x := by
  have hl : 0 < l.length := by
    cases l with
    | nil => cases h
    | cons a l => exact Nat.zero_lt_succ _
  have e : l[l.length - 1]? = some x := by rw [← List.getLast?_eq_getElem?]; exact h
  unfold atI
  have e2 : ixN l.length (-1 : Int) = some (l.length - 1) := by
    unfold ixN
    have e3 : (if (-1 : Int) < 0 then (-1 : Int) + (l.length : Int) else (-1 : Int)) = (l.length : Int) - 1 := by
      rw [if_pos (by decide)]
      omega
    first
    | (simp only [e3]; rw [if_pos (by omega)]; congr 1; omega)
    | (simp; omega)
  rw [e2]
  exact e
section
variable {P : Program} {w : World} {K : PySem.W.Frag} {mg : Str → Option Value} {base : Heap} {C CR CF : Addr}
end
end HF
set_option maxRecDepth 100000
set_option maxHeartbeats 2000000
namespace HF
open PySem L2 Evl
/-! ### statements.py -/
def wd (ws : List Str) (i : Nat) : Str := ws.getD i ""
structure WsOk (ws : List Str) : Prop where
  n : ws.length ≤ 30000
  w : ∀ x ∈ ws, x.length ≤ 20000
theorem wd_mem {ws : List Str} {i : Nat} (h : i < ws.length) : wd ws i ∈ ws := by
  unfold wd
  rw [List.getD_eq_getElem?_getD, List.getElem?_eq_getElem h]
  exact List.getElem_mem h
theorem WsOk.wd {ws : List Str} (h : WsOk ws) (i : Nat) : (wd ws i).length ≤ 20000 := by
  by_cases q : i < ws.length
  · exact h.w _ (wd_mem q)
  · unfold HF.wd
    rw [List.getD_eq_getElem?_getD, List.getElem?_eq_none (by omega)]
    exact Nat.zero_le _
theorem WsOk.drop {ws : List Str} (h : WsOk ws) (n : Nat) : WsOk (ws.drop n) := ⟨by rw [List.length_drop]; have := h.n; omega, fun x hx => h.w x (List.mem_of_mem_drop hx)⟩
theorem atV {ws : List Str} {i : Nat} (h : i < ws.length) : atI (strsV ws) (i : Int) = some (.str (wd ws i)) := by
  refine atI_nat (j := i) ?_
  unfold strsV HF.wd
  rw [List.getElem?_map, List.getD_eq_getElem?_getD, List.getElem?_eq_getElem h]
  rfl
theorem atV0 {ws : List Str} (h : 0 < ws.length) : atI (strsV ws) (0 : Int) = some (.str (wd ws 0)) := atV h
theorem atV1 {ws : List Str} (h : 1 < ws.length) : atI (strsV ws) (1 : Int) = some (.str (wd ws 1)) := atV h
theorem atV2 {ws : List Str} (h : 2 < ws.length) : atI (strsV ws) (2 : Int) = some (.str (wd ws 2)) := atV h
theorem strsV_len (ws : List Str) : (strsV ws).length = ws.length := by unfold strsV; rw [List.length_map]
/-- a def of what was read and a line's words -/
def spW (C CR CF : Addr) (g : Vw → List Str → Bool) (pre : Vw → List Str → Prop) : Sp := fun vs H Q _ => ∃ (p q : Addr) (v : Vw) (ws : List Str), vs = [.ref p, .ref q] ∧ AhV C CR CF H p v ∧ H q = some (.tup (strsV ws)) ∧ WsOk ws ∧ pre v ws ∧ RetV (.bl (g v ws)) H Q
theorem spW_v {C CR CF : Addr} {g : Vw → List Str → Bool} {pre : Vw → List Str → Prop} {p q : Addr} {v : Vw} {ws : List Str} {H : Hp} (h : AhV C CR CF H p v) (hq : H q = some (.tup (strsV ws))) (hw : WsOk ws) (hp : pre v ws) : SpV (spW C CR CF g pre) [.ref p, .ref q] H (.bl (g v ws)) :=
  fun H1 e Q k E => ⟨p, q, v, ws, rfl, h.mono e, e _ _ hq, hw, hp, k⟩
abbrev noPre : Vw → List Str → Prop := fun _ _ => True
abbrev nePre : Vw → List Str → Prop := fun _ ws => ws ≠ []
section
variable {K : PySem.W.Frag} {σ : L2.St} {H : Hp} {t : TT} {te ta tb tc : TE} {x y z v : V}
def rLenT (K : PySem.W.Frag) : List V → Hp → VK → Prop := fun xs H Q => ∃ p ys, xs = [.ref p] ∧ (SqL K H p ys ∨ SqT K H p ys) ∧ Q (.int ys.length) H
theorem call_lenT {X : Cx} : CallR X (.builtin "len") (rLenT X.K) := call_len_seq
theorem ev_lenT {p : Addr} {ws : List Str} (ha : Ev ta σ H (.ref p)) (h : H p = some (.tup (strsV ws))) : Ev (tCB (rLenT K) (tCons ta tNil)) σ H (.int (ws.length : Int)) := fun H1 e Q q =>
  ha H1 e _ fun H2 e2 => ⟨p, strsV ws, rfl, Or.inr (ex_t (e.trans e2) (st_of h)), by rw [strsV_len]; exact q H2 e2⟩
theorem ev_ixT {p : Addr} {ws : List Str} {i : Int} {n : Nat} (ha : Ev ta σ H (.ref p)) (h : H p = some (.tup (strsV ws))) (hi : atI (strsV ws) i = some (.str (wd ws n))) : Ev (tOp (rIxT K) ta (tC (.int i))) σ H (.str (wd ws n)) :=
  ev_op ha ev_c (rv_ixT (st_of h) hi)
theorem ev_eqI {a b : Int} (ha : Ev ta σ H (.int a)) (hb : Ev tb σ H (.int b)) : Ev (tOp rEq ta tb) σ H (.bl (decide (a = b))) := by
  have := ev_op ha hb (rv_eq (x := .int a) (y := .int b) (H := H) rfl)
  have e : decide ((V.int a) = V.int b) = decide (a = b) := decide2 ⟨fun h => V.int.inj h, fun h => by rw [h]⟩
  rw [e] at this
  exact this
theorem ev_neI {a b : Int} (ha : Ev ta σ H (.int a)) (hb : Ev tb σ H (.int b)) : Ev (tOp rNe ta tb) σ H (.bl (!decide (a = b))) := by
  have := ev_op ha hb (rv_ne (x := .int a) (y := .int b) (H := H) rfl)
  have e : decide ((V.int a) = V.int b) = decide (a = b) := decide2 ⟨fun h => V.int.inj h, fun h => by rw [h]⟩
  rw [e] at this
  exact this
theorem ev_eqS {a b : Str} (ha : Ev ta σ H (.str a)) (hb : Ev tb σ H (.str b)) : Ev (tOp rEq ta tb) σ H (.bl (decide (a = b))) := by
  have := ev_op ha hb (rv_eq (x := .str a) (y := .str b) (H := H) rfl)
  have e : decide ((V.str a) = V.str b) = decide (a = b) := decide2 ⟨fun h => V.str.inj h, fun h => by rw [h]⟩
  rw [e] at this
  exact this
theorem ev_neS {a b : Str} (ha : Ev ta σ H (.str a)) (hb : Ev tb σ H (.str b)) : Ev (tOp rNe ta tb) σ H (.bl (!decide (a = b))) := by
  have := ev_op ha hb (rv_ne (x := .str a) (y := .str b) (H := H) rfl)
  have e : decide ((V.str a) = V.str b) = decide (a = b) := decide2 ⟨fun h => V.str.inj h, fun h => by rw [h]⟩
  rw [e] at this
  exact this
theorem len_dec (n k : Nat) : decide ((n : Int) = (k : Int)) = decide (n = k) := decide2 (by omega)
end
/-- ahead.is_operand(e) -/
theorem ev_operand {σ : L2.St} {H : Hp} {C CR CF : Addr} {ta te : TE} {p : Addr} {v : Vw} {n : Str} (ha : Ev ta σ H (.ref p)) (hA : AhV C CR CF H p v) (hn : Ev te σ H (.str n)) (hz : n.length ≤ 20000) :
    Ev (tMeth C "is_operand" (spV1 C CR CF gOperand) [] E0 ta (tCons te tNil)) σ H (.bl (gOperand v n)) := by
  obtain ⟨dx, tw, dc, df, fa, lb, ls, da, as, rs, h1, _⟩ := hA.ex
  exact ev_hm ha h1 (by kernel_rfl) (ea_cons hn ea_nil) (spV1_v hA hz)
theorem ev_without {σ : L2.St} {H : Hp} {C CR CF : Addr} {ta te : TE} {p : Addr} {v : Vw} {n : Str} (ha : Ev ta σ H (.ref p)) (hA : AhV C CR CF H p v) (hn : Ev te σ H (.str n)) (hz : n.length ≤ 20000) :
    Ev (tMeth C "block_without_second" (spV1 C CR CF gWithout) [] E0 ta (tCons te tNil)) σ H (.bl (gWithout v n)) := by
  obtain ⟨dx, tw, dc, df, fa, lb, ls, da, as, rs, h1, _⟩ := hA.ex
  exact ev_hm ha h1 (by kernel_rfl) (ea_cons hn ea_nil) (spV1_v hA hz)
theorem ev_in_scope {σ : L2.St} {H : Hp} {C CR CF : Addr} {ta te : TE} {p : Addr} {v : Vw} {n : Str} (ha : Ev ta σ H (.ref p)) (hA : AhV C CR CF H p v) (hn : Ev te σ H (.str n)) (hz : n.length ≤ 20000) :
    Ev (tMeth C "is_in_scope" (spV1 C CR CF gScope) [] E0 ta (tCons te tNil)) σ H (.bl (gScope v n)) := by
  obtain ⟨dx, tw, dc, df, fa, lb, ls, da, as, rs, h1, _⟩ := hA.ex
  exact ev_hm ha h1 (by kernel_rfl) (ea_cons hn ea_nil) (spV1_v hA hz)
/-- ahead.is_free(e, ahead.scopes) -/
theorem ev_freeS {K : PySem.W.Frag} {mg : Str → Option Value} {σ : L2.St} {H : Hp} {C CR CF : Addr} {ta te tz : TE} {p : Addr} {v : Vw} {n : Str} (T : TxAhead K mg C) (ha : Ev ta σ H (.ref p)) (hA : AhV C CR CF H p v) (hn : Ev te σ H (.str n)) (hz : n.length ≤ 20000) (hq : Ev tz σ H (.ref p)) :
    Ev (tMeth C "is_free" (spFree C) [] E0 ta (tCons te (tCons (tFld K tz "scopes") tNil))) σ H (.bl (isFree v.cells n v.scopes)) := by
  obtain ⟨dx, tw, dc, df, fa, lb, ls, da, as, rs, h1, h2, h3, h4, h5, _⟩ := hA.ex
  exact ev_hm ha h1 (by kernel_rfl) (ea_cons hn (ea_cons (ev_fld hq h1 T.cls T.scopes (by kernel_rfl)) ea_nil)) (free_v hA.c h4 h5 (by omega) (by rw [h5.len]; exact hA.ok.sc))
def gTerm (v : Vw) (ws : List Str) : Bool :=
  if ws.length = 3 then inS (wd ws 1) ["+", "-", "*"] && (gOperand v (wd ws 0) && gOperand v (wd ws 2)) else decide (ws.length = 1) && gOperand v (wd ws 0)
def gTest (v : Vw) (ws : List Str) : Bool :=
  if ws.length = 3 ∧ gOperand v (wd ws 0) = true then (if wd ws 1 = "is" then inS (wd ws 2) v.words else decide (wd ws 1 = "<") && gOperand v (wd ws 2)) else false
structure TxStat (K : PySem.W.Frag) (mg : Str → Option Value) : Prop where
section
variable {P : Program} {w : World} {K : PySem.W.Frag} {mg : Str → Option Value} {base : Heap} {C CR CF : Addr}
end
end HF
set_option maxRecDepth 100000
set_option maxHeartbeats 2000000
namespace HF
open PySem L2 Evl
section
variable {K : PySem.W.Frag} {σ : L2.St} {H : Hp} {t : TT} {te ta tb tc tu : TE} {x y z v : V}
theorem cutV_drop {xs : List V} {k : Nat} (h : k ≤ xs.length) : cutV xs (some (k : Int)) none = xs.drop k := by
  unfold cutV
  rw [HT.sIx_nat, HT.sIx_none, Nat.min_eq_left h]
  exact List.take_of_length_le (by rw [List.length_drop]; exact Nat.le_refl _)
theorem strsV_drop (ws : List Str) (k : Nat) : (strsV ws).drop k = strsV (ws.drop k) := by unfold strsV; rw [List.map_drop]
theorem eu_slT {a : Addr} {ws : List Str} {k : Nat} (h : Ev te σ H (.ref a)) (ha : H a = some (.tup (strsV ws))) (h0 : 0 < k) (hk : k ≤ ws.length) : EvU (tSl (rSlT K) te (tPart (tC (.int (k : Int)))) tNoPart) σ H (strsV (ws.drop k)) := fun H1 e Q q =>
  h H1 e _ fun H2 e2 => ⟨(k : Int), rfl, a, strsV ws, rfl, st_of (e2 _ _ (e _ _ ha)), by
    rw [HT.sIx_nat, strsV_len]
    omega, fun p hp => by
    refine q p _ (fresh_back e2 hp) (e2.trans (Ex.new hp)) ?_
    rw [upd_same, cutV_drop (by rw [strsV_len]; exact hk), strsV_drop]⟩
theorem ev_hU {sp : Sp} {xs : List V} (ha : Ev ta σ H v) (hu : EvU tu σ H xs) (hs : ∀ p H1, Ex H H1 → H1 p = some (.tup xs) → SpV sp [v, .ref p] H1 z) : Ev (tCall sp [] E0 (tCons ta (tCons tu tNil))) σ H z := fun H1 e Q q =>
  ha H1 e _ fun H2 e2 => hu H2 (e.trans e2) _ fun p H3 hp e3 h3 => by
    show sp [v, .ref p] H3 Q _
    exact hs p H3 ((e.trans e2).trans e3) h3 H3 (Ex.refl H3) Q (fun H4 e4 => q H4 ((e2.trans e3).trans e4)) _
theorem rv_notInS {c : Nat} {z : Str} : RV rNotInS (.str ⟨#[c]⟩) (.str z) H (.bl (!decide (c ∈ z.cps.toList))) := fun H1 _ Q q => ⟨c, z, rfl, rfl, q H1 (Ex.refl H1)⟩
/-- d.get(k, x), the key a tuple that stands -/
theorem ev_get2T {d b : Addr} {kvs : List (List Key × V)} {k : List Key} (ha : Ev ta σ H (.ref d)) (hd : H d = some (.dT kvs)) (hb : Ev tb σ H (.ref b)) (hk : H b = some (.tup (k.map kV))) (hc : Ev tc σ H z) : Ev (tDGet2 ta tb tc) σ H ((valV kvs k).getD z) := fun H1 e Q q =>
  ha H1 e _ fun H2 e2 => ⟨d, rfl, Or.inr ⟨kvs, Rd.of (e2 _ _ (e _ _ hd))⟩, hb H2 (e.trans e2) _ fun H3 e3 => hc H3 ((e.trans e2).trans e3) _ fun H4 e4 =>
    ⟨_, DGet.t (e4 _ _ (e3 _ _ (e2 _ _ (e _ _ hd)))) (e4 _ _ (e3 _ _ (e2 _ _ (e _ _ hk)))), q H4 ((e2.trans e3).trans e4)⟩⟩
end
def askedGet (l : List ((Str × Str) × Int)) (u n : Str) (d : Int) : Int := ((l.find? fun e => decide (e.1 = (u, n))).map (·.2)).getD d
theorem valV_asked (u n : Str) (d : Int) : ∀ l : List ((Str × Str) × Int), (valV (askedV l) [Sum.inr u, Sum.inr n]).getD (.int d) = .int (askedGet l u n d)
  | [] => rfl
  | e :: l => by
    have ih := valV_asked u n d l
    show (valV (([Sum.inr e.1.1, Sum.inr e.1.2], V.int e.2) :: askedV l) [Sum.inr u, Sum.inr n]).getD (.int d) = .int (askedGet (e :: l) u n d)
    by_cases h : e.1 = (u, n)
    · rw [valV_pos (by rw [h])]
      unfold askedGet
      rw [List.find?_cons, decide_eq_true h]
      rfl
    · rw [valV_neg (fun z => h (by
        have z1 := List.cons.inj z
        have z2 := List.cons.inj z1.2
        exact Prod.ext (Sum.inr.inj z1.1) (Sum.inr.inj z2.1))), ih]
      unfold askedGet
      rw [List.find?_cons, decide_eq_false h]
def hasDot (t : Str) : Bool := decide (46 ∈ t.cps.toList)
def gCalled (v : Vw) (t : Str) (many : Int) : Bool :=
  if hasDot t = true then
    (if (isName (calledUnit v.name t) && (isName (calledName t) && !decide (calledUnit v.name t = v.name))) = true then decide (askedGet v.asked (calledUnit v.name t) (calledName t) many = many) else false)
  else isName t
def spCalledQ (C CR CF : Addr) : Sp := fun vs H Q _ => ∃ (p : Addr) (t : Str) (m : Int) (v : Vw), vs = [.ref p, .str t, .int m] ∧ AhV C CR CF H p v ∧ t.length ≤ 20000 ∧ v.name.length ≤ 20000 ∧ RetV (.bl (gCalled v t m)) H Q
theorem calledQ_v {C CR CF : Addr} {p : Addr} {t : Str} {m : Int} {v : Vw} {H : Hp} (h : AhV C CR CF H p v) (hz : t.length ≤ 20000) (hn : v.name.length ≤ 20000) : SpV (spCalledQ C CR CF) [.ref p, .str t, .int m] H (.bl (gCalled v t m)) := fun H1 e Q q E => ⟨p, t, m, v, rfl, h.mono e, hz, hn, q⟩
theorem calledUnit_len {home t : Str} (h1 : home.length ≤ 20000) (h2 : t.length ≤ 20000) : (calledUnit home t).length ≤ 20000 := by
  unfold calledUnit
  have := (rpart_len t).1
  split
  · omega
  · exact h1
theorem calledName_len {t : Str} (h2 : t.length ≤ 20000) : (calledName t).length ≤ 20000 := by
  unfold calledName
  have := (rpart_len t).2
  omega
section
variable {P : Program} {w : World} {K : PySem.W.Frag} {mg : Str → Option Value} {base : Heap} {C CR CF : Addr}
end
end HF
set_option maxRecDepth 100000
set_option maxHeartbeats 2000000
namespace HF
open PySem L2 Evl
section
variable {K : PySem.W.Frag} {σ : L2.St} {H : Hp} {t : TT} {te ta tb tc tu : TE} {x y z v : V}
/-- a comprehension over a new tuple of texts -/
theorem el_lcTU {xs : List V} {tl : TE} {j : Nat} {vs : List Nat} (f : Nat → Bool) (v : Nat → V) (h : EvU tl σ H xs) (hz : xs.length ≤ 40000) (hw : ∀ x, wipe ((wipe σ vs).set j (some x)) vs = wipe σ vs)
    (ht : ∀ (i : Nat) (x : V) H1, Ex H H1 → xs[i]? = some x → EvT t ((wipe σ vs).set j (some x)) H1 (f i)) (he : ∀ (i : Nat) (x : V) H1, Ex H H1 → xs[i]? = some x → f i = true → Ev te ((wipe σ vs).set j (some x)) H1 (v i)) :
    EvL (tLc (iTup K tl) (gName j) t te vs) σ H (given xs.length f v) := fun H0 e Q q => h H0 e _ fun a H1 ha e1 hx => ⟨a, rfl, ⟨xs, st_of hx⟩, fun Dl hD =>
  lc_it walk_tup (Cw H1 f v Dl) ⟨hD, Ex.new hD, upd_same⟩ (fun i H' _ p => st_of (p.2.1 a _ hx)) (fun i x H2 H' hi p y => by
    obtain ⟨rfl, hc⟩ := y
    exact ⟨hw _, cw_turn p (by omega) (ht i x H1 (e.trans e1) hc) (fun hf => he i x H1 (e.trans e1) hc hf)⟩)
    (fun H' p => q Dl H' (fresh_back e1 p.1) (e1.trans p.2.1) p.2.2)⟩
theorem el_lcT {a : Addr} {xs : List V} {tl : TE} {j : Nat} {vs : List Nat} (f : Nat → Bool) (v : Nat → V) (h : Ev tl σ H (.ref a)) (hx : SqT K H a xs) (hz : xs.length ≤ 40000) (hw : ∀ x, wipe ((wipe σ vs).set j (some x)) vs = wipe σ vs)
    (ht : ∀ (i : Nat) (x : V) H1, Ex H H1 → xs[i]? = some x → EvT t ((wipe σ vs).set j (some x)) H1 (f i)) (he : ∀ (i : Nat) (x : V) H1, Ex H H1 → xs[i]? = some x → f i = true → Ev te ((wipe σ vs).set j (some x)) H1 (v i)) :
    EvL (tLc (iTup K tl) (gName j) t te vs) σ H (given xs.length f v) := fun H0 e Q q => h H0 e _ fun H1 e1 => ⟨a, rfl, ⟨xs, ex_t (e.trans e1) hx⟩, fun Dl hD =>
  lc_it walk_tup (Cw H1 f v Dl) ⟨hD, Ex.new hD, upd_same⟩ (fun i H' _ p => ex_t ((e.trans e1).trans p.2.1) hx) (fun i x H2 H' hi p y => by
    obtain ⟨rfl, hc⟩ := y
    exact ⟨hw _, cw_turn p (by omega) (ht i x H1 (e.trans e1) hc) (fun hf => he i x H1 (e.trans e1) hc hf)⟩)
    (fun H' p => q Dl H' (fresh_back e1 p.1) (e1.trans p.2.1) p.2.2)⟩
end
structure ClF (K : PySem.W.Frag) (C : Addr) : Prop where
  cls : Cls K C
  line : NoAttr K C "line"
  last : NoAttr K C "last"
  shared : NoAttr K C "shared"
  name : NoAttr K C "name"
  params : NoAttr K C "params"
  rows : NoAttr K C "rows"
def gLet (v : Vw) (ws : List Str) : Bool := decide (2 < ws.length) && (isFree v.cells (wd ws 1) v.scopes && gTerm v (ws.drop 2))
def gSet (v : Vw) (ws : List Str) : Bool := if (decide (ws.length < 3) || inS (wd ws 1) v.params) = true then false else gScope v (wd ws 1) && gTerm v (ws.drop 2)
def gCall (v : Vw) (ws : List Str) : Bool :=
  if ((!(decide ((0 : Int) ≤ (ws.length : Int) - 3) && decide ((ws.length : Int) - 3 ≤ 3))) || !isFree v.cells (wd ws 1) v.scopes) = true then false
  else gCalled v (wd ws 2) ((ws.length : Int) - 3) && (ws.drop 3).all (gOperand v)
def gGet (v : Vw) (ws : List Str) : Bool := decide (ws.length = 3) && (isFree v.cells (wd ws 1) v.scopes && hasCell v.cells (wd ws 2))
def gKeep (v : Vw) (ws : List Str) : Bool := decide (ws.length = 3) && (hasCell v.cells (wd ws 1) && gOperand v (wd ws 2))
def gOp1 (v : Vw) (ws : List Str) : Bool := decide (ws.length = 2) && gOperand v (wd ws 1)
def gTest1 (v : Vw) (ws : List Str) : Bool := gTest v (ws.drop 1)
def gAlone (v : Vw) (ws : List Str) : Bool := decide (ws.length = 1)
def gElse (v : Vw) (ws : List Str) : Bool := decide (ws.length = 1) && gWithout v "if"
def gCatch (v : Vw) (ws : List Str) : Bool := if ((!decide (ws.length = 2)) || !gWithout v "try") = true then false else isFree v.cells (wd ws 1) v.scopes.dropLast
def gEnd (v : Vw) (ws : List Str) : Bool := decide (ws.length = 1) && !gWithout v "try"
def nmPre : Vw → List Str → Prop := fun v ws => ws ≠ [] ∧ v.name.length ≤ 20000
section
variable {P : Program} {w : World} {K : PySem.W.Frag} {mg : Str → Option Value} {base : Heap} {C CR CF : Addr}
theorem len_lt (n k : Nat) : decide ((k : Int) < (n : Int)) = decide (k < n) := decide2 (by omega)
end
end HF
set_option maxRecDepth 100000
set_option maxHeartbeats 2000000
namespace HF
open PySem L2 Evl
section
variable {P : Program} {w : World} {K : PySem.W.Frag} {mg : Str → Option Value} {base : Heap} {C CR CF : Addr}
theorem ev_lenEq {K : PySem.W.Frag} {σ : L2.St} {H : Hp} {ta : TE} {p : Addr} {ws : List Str} (n : Nat) (ha : Ev ta σ H (.ref p)) (h : H p = some (.tup (strsV ws))) : Ev (tOp rEq (tCB (rLenT K) (tCons ta tNil)) (tC (.int (n : Int)))) σ H (.bl (decide (ws.length = n))) := by
  rw [← len_dec]
  exact ev_eqI (ev_lenT ha h) ev_c
theorem ev_lenNe {K : PySem.W.Frag} {σ : L2.St} {H : Hp} {ta : TE} {p : Addr} {ws : List Str} (n : Nat) (ha : Ev ta σ H (.ref p)) (h : H p = some (.tup (strsV ws))) : Ev (tOp rNe (tCB (rLenT K) (tCons ta tNil)) (tC (.int (n : Int)))) σ H (.bl (!decide (ws.length = n))) := by
  rw [← len_dec]
  exact ev_neI (ev_lenT ha h) ev_c
theorem cutV_init (xs : List V) : cutV xs none (some (-1)) = xs.dropLast := by
  unfold cutV
  have e : HT.sIx xs.length xs.length (some (-1)) = xs.length - 1 := by
    show (if (-1 : Int) < 0 then ((-1 : Int) + (xs.length : Int)).toNat else min (-1 : Int).toNat xs.length) = xs.length - 1
    rw [if_pos (by decide)]
    omega
  rw [e, HT.sIx_none, List.drop_zero, Nat.sub_zero, List.dropLast_eq_take]
theorem el_slL {K : PySem.W.Frag} {σ : L2.St} {H : Hp} {te : TE} {a : Addr} {xs : List V} (h : Ev te σ H (.ref a)) (ha : H a = some (.lst xs)) : EvL (tSl (rSlL K) te tNoPart (tPart (tUn (rU fun i => .int (-i)) (tC (.int 1))))) σ H xs.dropLast := by
  have := el_sl (K := K) (lo := none) (hi := some (-1)) h eo_none (eo_some (ev_un (r := rU fun i => .int (-i)) ev_c ru_neg)) (sq_of ha)
  rw [cutV_init] at this
  exact this
theorem ScAt.dropLast {H : Hp} {as : List Addr} {scs : List (List Str)} (h : ScAt H as scs) : ScAt H as.dropLast scs.dropLast := by
  refine ⟨by rw [List.length_dropLast, List.length_dropLast, h.len], fun i a s p q => ?_⟩
  rw [List.getElem?_dropLast] at p q
  split at p
  · split at q
    · exact h.at_ i a s p q
    · cases q
  · cases p
end
end HF
set_option maxRecDepth 100000
set_option maxHeartbeats 2000000
namespace HF
open PySem L2 Evl
/-! ### what is read so far, as it stands in the heap -/
structure FnD where
  shared : Bool
  name : Str
  params : List Str
  rows : List (Int × List Str)
structure Ah where
  words : List Str
  name : Str
  cells : List (Str × Str)
  funs : List FnD
  opn : Bool
  blocks : List RowD
  scopes : List (List Str)
  asked : List ((Str × Str) × Int)
structure FG where
  fa : Addr
  lr : Addr
  rws : List Addr
  d : FnD
structure RowL (CR : Addr) (H : Hp) (r : Addr) (d : Int × List Str) : Prop where
  ex : ∃ (dx tw : Addr) (m : Int) (last : V × V) (block guard : V), H r = some (.ins CR dx (fsR d.1 tw m last block guard)) ∧ H tw = some (.tup (strsV d.2))
theorem RowAt.l {CR : Addr} {H : Hp} {r : Addr} {d : RowD} (h : RowAt CR H r d) : RowL CR H r (d.line, d.words) := by
  obtain ⟨dx, tw, l, b, g, h1, h2⟩ := h.ex
  exact ⟨dx, tw, d.middle, l, b, g, h1, h2⟩
structure FnAt (CF CR : Addr) (H : Hp) (g : FG) : Prop where
  ex : ∃ (dx : Addr) (line last : V) (tp : Addr), H g.fa = some (.ins CF dx (fsF line last g.d.shared g.d.name tp g.lr)) ∧ H tp = some (.tup (strsV g.d.params))
  lr : H g.lr = some (.lst (refsV g.rws))
  len : g.rws.length = g.d.rows.length
  row : ∀ (i : Nat) (r : Addr) (d : Int × List Str), g.rws[i]? = some r → g.d.rows[i]? = some d → RowL CR H r d
/-- tuples stand, rows keep line and words -/
structure Soft (CR : Addr) (H H' : Hp) : Prop where
  tup : ∀ t xs, H t = some (.tup xs) → H' t = some (.tup xs)
  row : ∀ r d, RowL CR H r d → RowL CR H' r d
theorem Soft.refl {CR : Addr} {H : Hp} : Soft CR H H := ⟨fun _ _ h => h, fun _ _ h => h⟩
theorem Soft.trans {CR : Addr} {H H1 H2 : Hp} (a : Soft CR H H1) (b : Soft CR H1 H2) : Soft CR H H2 := ⟨fun t xs h => b.tup t xs (a.tup t xs h), fun r d h => b.row r d (a.row r d h)⟩
theorem Soft.ex {CR : Addr} {H H' : Hp} (e : Ex H H') : Soft CR H H' := ⟨fun t xs h => e _ _ h, fun r d h => by
  obtain ⟨dx, tw, m, l, b, g, h1, h2⟩ := h.ex
  exact ⟨dx, tw, m, l, b, g, e _ _ h1, e _ _ h2⟩⟩
theorem Soft.upd {CR : Addr} {H : Hp} {x : Addr} {o0 o : HO} (hx : H x = some o0) (h1 : ∀ xs, o0 ≠ .tup xs) (h2 : ∀ dx fs, o0 ≠ .ins CR dx fs) : Soft CR H (upd H x o) := by
  have ht : ∀ t xs, H t = some (HO.tup xs) → L2.upd H x o t = some (HO.tup xs) := fun t xs h => by
    rw [upd_ne (ne_of h hx (fun z => h1 xs z.symm))]
    exact h
  refine ⟨ht, fun r d h => ?_⟩
  obtain ⟨dx, tw, m, l, b, g, g1, g2⟩ := h.ex
  exact ⟨dx, tw, m, l, b, g, by rw [upd_ne (ne_of g1 hx (fun z => h2 _ _ z.symm))]; exact g1, ht _ _ g2⟩
theorem fsR_inj {l1 l2 : Int} {t1 t2 : Addr} {m1 m2 : Int} {a1 a2 : V × V} {b1 b2 c1 c2 : V} (h : fsR l1 t1 m1 a1 b1 c1 = fsR l2 t2 m2 a2 b2 c2) : l1 = l2 ∧ t1 = t2 ∧ m1 = m2 := by
  unfold fsR at h
  simp only [List.cons.injEq, Prod.mk.injEq, V.int.injEq, V.ref.injEq, and_true, true_and] at h
  exact ⟨h.1, h.2.1, h.2.2.2.1⟩
theorem Soft.row_upd {CR : Addr} {H : Hp} {x dx tw : Addr} {line m m' : Int} {a a' : V × V} {b b' c c' : V} (hx : H x = some (.ins CR dx (fsR line tw m a b c))) : Soft CR H (L2.upd H x (.ins CR dx (fsR line tw m' a' b' c'))) := by
  have ht : ∀ t xs, H t = some (.tup xs) → L2.upd H x (.ins CR dx (fsR line tw m' a' b' c')) t = some (.tup xs) := fun t xs h => by
    rw [upd_ne (ne_of h hx (fun z => by cases z))]
    exact h
  refine ⟨ht, fun r d h => ?_⟩
  obtain ⟨dx2, tw2, m2, l2, b2, g2, g1, g3⟩ := h.ex
  by_cases e : r = x
  · subst e
    rw [hx] at g1
    have e1 := HO.ins.inj (Option.some.inj g1)
    obtain ⟨_, e2, e3⟩ := e1
    obtain ⟨q1, q2, _⟩ := fsR_inj e3
    subst q2
    exact ⟨dx, tw, m', a', b', c', by rw [upd_same, q1], ht _ _ g3⟩
  · exact ⟨dx2, tw2, m2, l2, b2, g2, by rw [upd_ne e]; exact g1, ht _ _ g3⟩
theorem FnAt.soft {CF CR : Addr} {H H' : Hp} {g : FG} (h : FnAt CF CR H g) (S : Soft CR H H') (h1 : H' g.fa = H g.fa) (h2 : H' g.lr = H g.lr) : FnAt CF CR H' g := by
  obtain ⟨dx, line, last, tp, g1, g2⟩ := h.ex
  exact ⟨⟨dx, line, last, tp, by rw [h1]; exact g1, S.tup _ _ g2⟩, by rw [h2]; exact h.lr, h.len, fun i r d p q => S.row _ _ (h.row i r d p q)⟩
structure SepL (lb ls : Addr) (as lrs : List Addr) : Prop where
  bs : lb ≠ ls
  ba : ∀ a ∈ as, a ≠ lb ∧ a ≠ ls
  br : ∀ r ∈ lrs, r ≠ lb ∧ r ≠ ls
  ar : ∀ a ∈ as, ∀ r ∈ lrs, a ≠ r
  na : as.Nodup
  nr : lrs.Nodup
def funsV (gs : List FG) : List (Key × V) := gs.map fun g => (Sum.inr g.d.name, V.ref g.fa)
def curV (opn : Bool) (gs : List FG) : V := if opn = true then (match gs.getLast? with | some g => .ref g.fa | none => .non) else .non
/-- the addresses of what is read -/
structure Ad where
  dx : Addr
  tw : Addr
  dc : Addr
  df : Addr
  lb : Addr
  ls : Addr
  da : Addr
  as : List Addr
  rs : List Addr
  gs : List FG
structure NoF (F : Addr → Prop) (p : Addr) (A : Ad) : Prop where
  p : ¬F p
  dc : ¬F A.dc
  df : ¬F A.df
  lb : ¬F A.lb
  ls : ¬F A.ls
  da : ¬F A.da
  as : ∀ a ∈ A.as, ¬F a
  rs : ∀ a ∈ A.rs, ¬F a
  gs : ∀ g ∈ A.gs, ¬F g.fa ∧ ¬F g.lr ∧ ∀ r ∈ g.rws, ¬F r
structure AhA (C CR CF : Addr) (F : Addr → Prop) (H : Hp) (p : Addr) (s : Ah) (A : Ad) : Prop where
  o : H p = some (.ins C A.dx (fsA A.tw (.str s.name) A.dc A.df (curV s.opn A.gs) A.lb (.ref A.ls) A.da))
  w : H A.tw = some (.tup (strsV s.words))
  c : H A.dc = some (.dK (cellsV s.cells))
  f : H A.df = some (.dK (funsV A.gs))
  b : H A.lb = some (.lst (refsV A.rs))
  br : RowsAt CR H A.rs s.blocks
  bn : A.rs.Nodup
  sc : H A.ls = some (.lst (refsV A.as))
  sa : ScAt H A.as s.scopes
  k : H A.da = some (.dT (askedV s.asked))
  gd : A.gs.map (·.d) = s.funs
  gf : ∀ g ∈ A.gs, FnAt CF CR H g
  ne : A.dc ≠ A.df
  sep : SepL A.lb A.ls A.as (A.gs.map (·.lr))
  opn : s.opn = true → A.gs ≠ []
  fr : ∀ b, F b → (H b).isSome = true
  nf : NoF F p A
theorem AhA.mono {C CR CF : Addr} {F : Addr → Prop} {H H' : Hp} {p : Addr} {s : Ah} {A : Ad} (e : Ex H H') (h : AhA C CR CF F H p s A) : AhA C CR CF F H' p s A :=
  { o := e _ _ h.o, w := e _ _ h.w, c := e _ _ h.c, f := e _ _ h.f, b := e _ _ h.b, br := h.br.mono e, bn := h.bn, sc := e _ _ h.sc, sa := h.sa.mono e, k := e _ _ h.k, gd := h.gd,
    gf := fun g hg => by
      have q := h.gf g hg
      obtain ⟨dx, line, last, tp, g1, g2⟩ := q.ex
      exact ⟨⟨dx, line, last, tp, e _ _ g1, e _ _ g2⟩, e _ _ q.lr, q.len, fun i r d a b => (Soft.ex e).row _ _ (q.row i r d a b)⟩,
    ne := h.ne, sep := h.sep, opn := h.opn, fr := fun b hb => by
      have := h.fr b hb
      cases q : H b with
      | none => rw [q] at this; cases this
      | some o => rw [e _ _ q]; rfl,
    nf := h.nf }
theorem AhA.sub {C CR CF : Addr} {F F' : Addr → Prop} {H : Hp} {p : Addr} {s : Ah} {A : Ad} (e : ∀ b, F' b → F b) (h : AhA C CR CF F H p s A) : AhA C CR CF F' H p s A :=
  { h with fr := fun b hb => h.fr b (e b hb), nf := ⟨fun z => h.nf.p (e _ z), fun z => h.nf.dc (e _ z), fun z => h.nf.df (e _ z), fun z => h.nf.lb (e _ z), fun z => h.nf.ls (e _ z), fun z => h.nf.da (e _ z), fun a ha z => h.nf.as a ha (e _ z), fun a ha z => h.nf.rs a ha (e _ z),
      fun g hg => ⟨fun z => (h.nf.gs g hg).1 (e _ z), fun z => (h.nf.gs g hg).2.1 (e _ z), fun r hr z => (h.nf.gs g hg).2.2 r hr (e _ z)⟩⟩ }
/-- an object that is read over, a change of it seen by no other part -/
theorem updK {H : Hp} {x y : Addr} {o o0 o1 : HO} (hx : H x = some o0) (hy : H y = some o1) (d : o1 ≠ o0) : upd H x o y = some o1 := by
  rw [upd_ne (ne_of hy hx d)]
  exact hy
theorem fr_upd {F : Addr → Prop} {H : Hp} {x : Addr} {o : HO} (fr : ∀ b, F b → (H b).isSome = true) : ∀ b, F b → (upd H x o b).isSome = true := fun b hb => by
  by_cases e : b = x
  · rw [e, upd_same]
    rfl
  · rw [upd_ne e]
    exact fr b hb
theorem RowsAt.upd {CR : Addr} {H : Hp} {rs : List Addr} {ds : List RowD} {x : Addr} {o0 o : HO} (h : RowsAt CR H rs ds) (hx : H x = some o0) (h1 : ∀ xs, o0 ≠ .tup xs) (h2 : ∀ dx fs, o0 ≠ .ins CR dx fs) : RowsAt CR (L2.upd H x o) rs ds :=
  ⟨h.len, fun i r d p q => by
    obtain ⟨dx, tw, l, b, g, g1, g2⟩ := (h.at_ i r d p q).ex
    exact ⟨dx, tw, l, b, g, updK hx g1 (fun z => h2 _ _ z.symm), updK hx g2 (fun z => h1 _ z.symm)⟩⟩
theorem ScAt.upd {H : Hp} {as : List Addr} {scs : List (List Str)} {x : Addr} {o : HO} (h : ScAt H as scs) (hx : ∀ a ∈ as, a ≠ x) : ScAt (L2.upd H x o) as scs :=
  ⟨h.len, fun i a s p q => by
    rw [upd_ne (hx a (List.mem_of_getElem? p))]
    exact h.at_ i a s p q⟩
/-- every list of it is another thing than what is no list -/
theorem ScAt.updK {H : Hp} {as : List Addr} {scs : List (List Str)} {x : Addr} {o0 o : HO} (h : ScAt H as scs) (hx : H x = some o0) (h1 : ∀ xs, o0 ≠ .lst xs) : ScAt (L2.upd H x o) as scs :=
  ⟨h.len, fun i a s p q => HF.updK hx (h.at_ i a s p q) (fun z => h1 _ z.symm)⟩
section
variable {C CR CF : Addr} {F : Addr → Prop} {H : Hp} {p : Addr} {s : Ah} {A : Ad}
theorem FnAt.updK {x : Addr} {o0 o : HO} {g : FG} (h : FnAt CF CR H g) (hx : H x = some o0) (h1 : ∀ xs, o0 ≠ .tup xs) (h2 : ∀ dx fs, o0 ≠ .ins CR dx fs) (h3 : ∀ dx fs, o0 ≠ .ins CF dx fs) (h4 : g.lr ≠ x) : FnAt CF CR (L2.upd H x o) g := by
  obtain ⟨dx, line, last, tp, g1, g2⟩ := h.ex
  exact h.soft (Soft.upd hx h1 h2) (by rw [upd_ne (ne_of g1 hx (fun z => h3 _ _ z.symm))]) (by rw [upd_ne h4])
/-- no list is changed: x is of a kind of its own -/
theorem FnAt.updN {x : Addr} {o0 o : HO} {g : FG} (h : FnAt CF CR H g) (hx : H x = some o0) (h1 : ∀ xs, o0 ≠ .tup xs) (h2 : ∀ dx fs, o0 ≠ .ins CR dx fs) (h3 : ∀ dx fs, o0 ≠ .ins CF dx fs) (h4 : ∀ xs, o0 ≠ .lst xs) : FnAt CF CR (L2.upd H x o) g :=
  h.updK hx h1 h2 h3 (ne_of h.lr hx (fun z => h4 _ z.symm))
/-- A1: the name -/
theorem AhA.setName (h : AhA C CR CF F H p s A) (hR : C ≠ CR) (hF : C ≠ CF) (n : Str) : AhA C CR CF F (upd H p (.ins C A.dx (fsA A.tw (.str n) A.dc A.df (curV s.opn A.gs) A.lb (.ref A.ls) A.da))) p { s with name := n } A := by
  have hx := h.o
  have n1 : ∀ xs, (HO.ins C A.dx (fsA A.tw (.str s.name) A.dc A.df (curV s.opn A.gs) A.lb (.ref A.ls) A.da)) ≠ .tup xs := fun _ z => by cases z
  have n2 : ∀ dx fs, (HO.ins C A.dx (fsA A.tw (.str s.name) A.dc A.df (curV s.opn A.gs) A.lb (.ref A.ls) A.da)) ≠ .ins CR dx fs := fun _ _ z => hR (HO.ins.inj z).1
  have n3 : ∀ dx fs, (HO.ins C A.dx (fsA A.tw (.str s.name) A.dc A.df (curV s.opn A.gs) A.lb (.ref A.ls) A.da)) ≠ .ins CF dx fs := fun _ _ z => hF (HO.ins.inj z).1
  have n4 : ∀ xs, (HO.ins C A.dx (fsA A.tw (.str s.name) A.dc A.df (curV s.opn A.gs) A.lb (.ref A.ls) A.da)) ≠ .lst xs := fun _ z => by cases z
  exact { h with
    o := upd_same, w := updK hx h.w (fun z => by cases z), c := updK hx h.c (fun z => by cases z), f := updK hx h.f (fun z => by cases z), b := updK hx h.b (fun z => by cases z), br := h.br.upd hx n1 n2, sc := updK hx h.sc (fun z => by cases z)
    sa := h.sa.updK hx n4, k := updK hx h.k (fun z => by cases z), gf := fun g hg => (h.gf g hg).updN hx n1 n2 n3 n4, fr := fr_upd h.fr }
end
end HF
set_option maxRecDepth 100000
set_option maxHeartbeats 2000000
namespace HF
open PySem L2 Evl
theorem valV_none_cells {l : List (Str × Str)} {n : Str} (h : hasCell l n = false) : valV (cellsV l) (Sum.inr n) = none := by
  have := valV_cells n l
  rw [h] at this
  cases q : valV (cellsV l) (Sum.inr n) with
  | none => rfl
  | some v => rw [q] at this; cases this
def askedPut (l : List ((Str × Str) × Int)) (k : Str × Str) (m : Int) : List ((Str × Str) × Int) :=
  if (l.any fun e => decide (e.1 = k)) = true then l.map (fun e => if e.1 = k then (e.1, m) else e) else l ++ [(k, m)]
theorem askedKey (k k' : Str × Str) : ([Sum.inr k.1, Sum.inr k.2] : List Key) = [Sum.inr k'.1, Sum.inr k'.2] ↔ k = k' := by
  constructor
  · intro z
    have z1 := List.cons.inj z
    have z2 := List.cons.inj z1.2
    exact Prod.ext (Sum.inr.inj z1.1) (Sum.inr.inj z2.1)
  · intro z
    rw [z]
theorem askedV_put (l : List ((Str × Str) × Int)) (k : Str × Str) (m : Int) : putK (askedV l) [Sum.inr k.1, Sum.inr k.2] (.int m) = askedV (askedPut l k m) := by
  unfold putK askedPut
  have e : ((askedV l).any fun kv => decide (kv.1 = [Sum.inr k.1, Sum.inr k.2])) = l.any fun e => decide (e.1 = k) := by
    unfold askedV
    rw [List.any_map]
    congr 1
    funext e
    exact decide2 (askedKey e.1 k)
  rw [e]
  split
  · unfold askedV
    rw [List.map_map, List.map_map]
    refine List.map_congr_left fun e _ => ?_
    show (if ([Sum.inr e.1.1, Sum.inr e.1.2] : List Key) = [Sum.inr k.1, Sum.inr k.2] then _ else _) = _
    by_cases h : e.1 = k
    · rw [if_pos ((askedKey e.1 k).mpr h)]
      show _ = ([Sum.inr (if e.1 = k then (e.1, m) else e).1.1, Sum.inr (if e.1 = k then (e.1, m) else e).1.2], V.int (if e.1 = k then (e.1, m) else e).2)
      rw [if_pos h]
    · rw [if_neg (fun z => h ((askedKey e.1 k).mp z))]
      show _ = ([Sum.inr (if e.1 = k then (e.1, m) else e).1.1, Sum.inr (if e.1 = k then (e.1, m) else e).1.2], V.int (if e.1 = k then (e.1, m) else e).2)
      rw [if_neg h]
  · unfold askedV
    rw [List.map_append]
    rfl
section
variable {C CR CF : Addr} {F : Addr → Prop} {H : Hp} {p : Addr} {s : Ah} {A : Ad}
/-- A2: a cell -/
theorem AhA.addCell (h : AhA C CR CF F H p s A) {n v : Str} (hn : hasCell s.cells n = false) : AhA C CR CF F (upd H A.dc (.dK (putK (cellsV s.cells) (Sum.inr n) (.str v)))) p { s with cells := s.cells ++ [(n, v)] } A := by
  have hx := h.c
  exact { h with
    o := updK hx h.o (by (intros; intro z; cases z)), w := updK hx h.w (by (intros; intro z; cases z)), c := by
      rw [upd_same, putK_new _ (valV_none_cells hn)]
      show some (HO.dK (cellsV s.cells ++ [(Sum.inr n, V.str v)])) = some (HO.dK (cellsV (s.cells ++ [(n, v)])))
      unfold cellsV
      rw [List.map_append]
      rfl
    f := by rw [upd_ne (Ne.symm h.ne)]; exact h.f
    b := updK hx h.b (by (intros; intro z; cases z)), br := h.br.upd hx (by (intros; intro z; cases z)) (by (intros; intro z; cases z)), sc := updK hx h.sc (by (intros; intro z; cases z))
    sa := h.sa.updK hx (by (intros; intro z; cases z)), k := updK hx h.k (by (intros; intro z; cases z)), gf := fun g hg => (h.gf g hg).updN hx (by (intros; intro z; cases z)) (by (intros; intro z; cases z)) (by (intros; intro z; cases z)) (by (intros; intro z; cases z)), fr := fr_upd h.fr }
/-- A11: a call of another unit -/
theorem AhA.putAsked (h : AhA C CR CF F H p s A) (k : Str × Str) (m : Int) : AhA C CR CF F (upd H A.da (.dT (putK (askedV s.asked) [Sum.inr k.1, Sum.inr k.2] (.int m)))) p { s with asked := askedPut s.asked k m } A := by
  have hx := h.k
  exact { h with
    o := updK hx h.o (by (intros; intro z; cases z)), w := updK hx h.w (by (intros; intro z; cases z)), c := updK hx h.c (by (intros; intro z; cases z)), f := updK hx h.f (by (intros; intro z; cases z))
    b := updK hx h.b (by (intros; intro z; cases z)), br := h.br.upd hx (by (intros; intro z; cases z)) (by (intros; intro z; cases z)), sc := updK hx h.sc (by (intros; intro z; cases z))
    sa := h.sa.updK hx (by (intros; intro z; cases z)), k := by rw [upd_same, askedV_put], gf := fun g hg => (h.gf g hg).updN hx (by (intros; intro z; cases z)) (by (intros; intro z; cases z)) (by (intros; intro z; cases z)) (by (intros; intro z; cases z)), fr := fr_upd h.fr }
theorem lr_mem {A : Ad} {g : FG} (hg : g ∈ A.gs) : g.lr ∈ A.gs.map (·.lr) := List.mem_map_of_mem hg
/-- A3: a name in the innermost scope -/
theorem AhA.declare (h : AhA C CR CF F H p s A) {as0 : List Addr} {a : Addr} {sc0 : List (List Str)} {sc : List Str} (ha : A.as = as0 ++ [a]) (hs : s.scopes = sc0 ++ [sc]) (n : Str) :
    AhA C CR CF F (upd H a (.lst (strsV sc ++ [.str n]))) p { s with scopes := sc0 ++ [sc ++ [n]] } A := by
  have hl : as0.length = sc0.length := by
    have := h.sa.len
    rw [ha, hs, List.length_append, List.length_append] at this
    simpa using this
  have hx : H a = some (.lst (strsV sc)) := h.sa.at_ as0.length a sc (by rw [ha]; simp) (by rw [hs, hl]; simp)
  have am : a ∈ A.as := by rw [ha]; simp
  have nd : (as0 ++ [a]).Nodup := by rw [← ha]; exact h.sep.na
  have n0 : ∀ b ∈ as0, b ≠ a := fun b hb => by
    have := (List.nodup_append.mp nd).2.2 b hb a (by simp)
    exact this
  exact { h with
    o := updK hx h.o (by (intros; intro z; cases z)), w := updK hx h.w (by (intros; intro z; cases z)), c := updK hx h.c (by (intros; intro z; cases z)), f := updK hx h.f (by (intros; intro z; cases z))
    b := by rw [upd_ne (Ne.symm (h.sep.ba a am).1)]; exact h.b
    br := h.br.upd hx (by (intros; intro z; cases z)) (by (intros; intro z; cases z)), sc := by rw [upd_ne (Ne.symm (h.sep.ba a am).2)]; exact h.sc
    sa := ⟨by rw [ha]; simp [hl], fun i b s' q1 q2 => by
      rw [ha] at q1
      by_cases hi : i < as0.length
      · rw [List.getElem?_append_left hi] at q1
        have hb := List.mem_of_getElem? q1
        rw [upd_ne (n0 b hb)]
        refine h.sa.at_ i b s' (by rw [ha, List.getElem?_append_left hi]; exact q1) ?_
        rw [hs, List.getElem?_append_left (by omega)]
        rw [List.getElem?_append_left (by omega)] at q2
        exact q2
      · have hil : i < (as0 ++ [a]).length := (List.getElem?_eq_some_iff.mp q1).1
        rw [List.length_append] at hil
        simp at hil
        have ei : i = as0.length := by omega
        subst ei
        rw [List.getElem?_append_right (Nat.le_refl _)] at q1
        simp at q1
        subst q1
        rw [hl, List.getElem?_append_right (Nat.le_refl _)] at q2
        simp at q2
        subst q2
        rw [upd_same]
        unfold strsV
        rw [List.map_append]
        rfl⟩
    k := updK hx h.k (by (intros; intro z; cases z)), gf := fun g hg => (h.gf g hg).updK hx (by (intros; intro z; cases z)) (by (intros; intro z; cases z)) (by (intros; intro z; cases z)) (Ne.symm (h.sep.ar a am _ (lr_mem hg))), fr := fr_upd h.fr }
theorem not_F {F : Addr → Prop} {H : Hp} (fr : ∀ b, F b → (H b).isSome = true) {l : Addr} (hl : H l = none) : ¬F l := fun z => by
  have := fr l z
  rw [hl] at this
  cases this
/-- A4: a new scope -/
theorem AhA.pushScope (h : AhA C CR CF F H p s A) {l : Addr} (hl : H l = none) : AhA C CR CF F (upd (upd H l (.lst [])) A.ls (.lst (refsV (A.as ++ [l])))) p { s with scopes := s.scopes ++ [[]] } { A with as := A.as ++ [l] } := by
  have h1 := h.mono (Ex.new (o := .lst []) hl)
  have hx := h1.sc
  have nl : ∀ {y : Addr} {o : HO}, H y = some o → y ≠ l := fun q => ne_of_none q hl
  have e1 : ∀ a ∈ A.as, a ≠ A.ls := fun a ha => (h.sep.ba a ha).2
  exact { h1 with
    o := updK hx h1.o (by (intros; intro z; cases z)), w := updK hx h1.w (by (intros; intro z; cases z)), c := updK hx h1.c (by (intros; intro z; cases z)), f := updK hx h1.f (by (intros; intro z; cases z))
    b := by rw [upd_ne h.sep.bs]; exact h1.b
    br := h1.br.upd hx (by (intros; intro z; cases z)) (by (intros; intro z; cases z)), sc := upd_same
    sa := ⟨by simp [h.sa.len], fun i b s' q1 q2 => by
      by_cases hi : i < A.as.length
      · rw [List.getElem?_append_left hi] at q1
        rw [List.getElem?_append_left (by rw [← h.sa.len]; exact hi)] at q2
        rw [upd_ne (e1 b (List.mem_of_getElem? q1))]
        exact h1.sa.at_ i b s' q1 q2
      · have hil := (List.getElem?_eq_some_iff.mp q1).1
        simp at hil
        have ei : i = A.as.length := by omega
        subst ei
        simp at q1
        subst q1
        rw [h.sa.len] at q2
        simp at q2
        subst q2
        rw [upd_ne (Ne.symm (nl h.sc)), upd_same]
        rfl⟩
    k := updK hx h1.k (by (intros; intro z; cases z)), gf := fun g hg => (h1.gf g hg).updK hx (by (intros; intro z; cases z)) (by (intros; intro z; cases z)) (by (intros; intro z; cases z)) (h.sep.br _ (lr_mem hg)).2
    sep := ⟨h.sep.bs, fun a ha => by
        rcases List.mem_append.mp ha with q | q
        · exact h.sep.ba a q
        · simp at q
          subst q
          exact ⟨Ne.symm (nl h.b), Ne.symm (nl h.sc)⟩, h.sep.br, fun a ha r hr => by
        rcases List.mem_append.mp ha with q | q
        · exact h.sep.ar a q r hr
        · simp at q
          subst q
          obtain ⟨g, hg, rfl⟩ := List.mem_map.mp hr
          exact Ne.symm (nl (h.gf g hg).lr), by
        refine List.nodup_append.mpr ⟨h.sep.na, by simp, fun a ha b hb => ?_⟩
        simp at hb
        subst hb
        obtain ⟨i, hi⟩ := List.getElem?_of_mem ha
        obtain ⟨s', hs'⟩ : ∃ s', s.scopes[i]? = some s' := ⟨_, List.getElem?_eq_getElem (by rw [← h.sa.len]; exact (List.getElem?_eq_some_iff.mp hi).1)⟩
        exact nl (h.sa.at_ i a s' hi hs'), h.sep.nr⟩
    fr := fr_upd h1.fr
    nf := ⟨h.nf.p, h.nf.dc, h.nf.df, h.nf.lb, h.nf.ls, h.nf.da, fun a ha => by
        rcases List.mem_append.mp ha with q | q
        · exact h.nf.as a q
        · simp at q
          subst q
          exact not_F h.fr hl, h.nf.rs, h.nf.gs⟩ }
theorem refsV_dropLast (l : List Addr) : (refsV l).dropLast = refsV l.dropLast := by unfold refsV; rw [List.map_dropLast]
theorem mem_dropLast {α : Type} {l : List α} {a : α} (h : a ∈ l.dropLast) : a ∈ l := List.dropLast_subset l h
/-- A5: a scope ends -/
theorem AhA.popScope (h : AhA C CR CF F H p s A) : AhA C CR CF F (upd H A.ls (.lst (refsV A.as).dropLast)) p { s with scopes := s.scopes.dropLast } { A with as := A.as.dropLast } := by
  have hx := h.sc
  exact { h with
    o := updK hx h.o (by (intros; intro z; cases z)), w := updK hx h.w (by (intros; intro z; cases z)), c := updK hx h.c (by (intros; intro z; cases z)), f := updK hx h.f (by (intros; intro z; cases z))
    b := by rw [upd_ne h.sep.bs]; exact h.b
    br := h.br.upd hx (by (intros; intro z; cases z)) (by (intros; intro z; cases z)), sc := by rw [upd_same, refsV_dropLast]
    sa := h.sa.dropLast.upd fun a ha => (h.sep.ba a (mem_dropLast ha)).2
    k := updK hx h.k (by (intros; intro z; cases z)), gf := fun g hg => (h.gf g hg).updK hx (by (intros; intro z; cases z)) (by (intros; intro z; cases z)) (by (intros; intro z; cases z)) (h.sep.br _ (lr_mem hg)).2
    sep := ⟨h.sep.bs, fun a ha => h.sep.ba a (mem_dropLast ha), h.sep.br, fun a ha => h.sep.ar a (mem_dropLast ha), List.Sublist.nodup (List.dropLast_sublist _) h.sep.na, h.sep.nr⟩
    fr := fr_upd h.fr
    nf := { h.nf with as := fun a ha => h.nf.as a (mem_dropLast ha) } }
/-- A6: a block begins -/
theorem AhA.pushBlock (h : AhA C CR CF F H p s A) {r : Addr} {d : RowD} (hr : RowAt CR H r d) (hn : r ∉ A.rs) (hF : ¬F r) : AhA C CR CF F (upd H A.lb (.lst (refsV A.rs ++ [.ref r]))) p { s with blocks := s.blocks ++ [d] } { A with rs := A.rs ++ [r] } := by
  have hx := h.b
  have e1 : ∀ a ∈ A.as, a ≠ A.lb := fun a ha => (h.sep.ba a ha).1
  exact { h with
    o := updK hx h.o (by (intros; intro z; cases z)), w := updK hx h.w (by (intros; intro z; cases z)), c := updK hx h.c (by (intros; intro z; cases z)), f := updK hx h.f (by (intros; intro z; cases z))
    b := by rw [upd_same]; unfold refsV; rw [List.map_append]; rfl
    br := ⟨by simp [h.br.len], fun i x d' q1 q2 => by
      have h' : RowsAt CR (L2.upd H A.lb (.lst (refsV A.rs ++ [.ref r]))) A.rs s.blocks := h.br.upd hx (by (intros; intro z; cases z)) (by (intros; intro z; cases z))
      by_cases hi : i < A.rs.length
      · rw [List.getElem?_append_left hi] at q1
        rw [List.getElem?_append_left (by rw [← h.br.len]; exact hi)] at q2
        exact h'.at_ i x d' q1 q2
      · have hil := (List.getElem?_eq_some_iff.mp q1).1
        simp at hil
        have ei : i = A.rs.length := by omega
        subst ei
        simp at q1
        subst q1
        rw [h.br.len] at q2
        simp at q2
        subst q2
        obtain ⟨dx, tw, l, b, g, g1, g2⟩ := hr.ex
        exact ⟨dx, tw, l, b, g, updK hx g1 (by (intros; intro z; cases z)), updK hx g2 (by (intros; intro z; cases z))⟩⟩
    bn := List.nodup_append.mpr ⟨h.bn, by simp, fun a ha b hb => by
      simp at hb
      subst hb
      intro e
      subst e
      exact hn ha⟩
    sc := by rw [upd_ne (Ne.symm h.sep.bs)]; exact h.sc
    sa := h.sa.upd e1
    k := updK hx h.k (by (intros; intro z; cases z)), gf := fun g hg => (h.gf g hg).updK hx (by (intros; intro z; cases z)) (by (intros; intro z; cases z)) (by (intros; intro z; cases z)) (h.sep.br _ (lr_mem hg)).1
    fr := fr_upd h.fr
    nf := ⟨h.nf.p, h.nf.dc, h.nf.df, h.nf.lb, h.nf.ls, h.nf.da, h.nf.as, fun a ha => by
        rcases List.mem_append.mp ha with q | q
        · exact h.nf.rs a q
        · simp at q
          subst q
          exact hF, h.nf.gs⟩ }
theorem RowsAt.dropLast {CR : Addr} {H : Hp} {rs : List Addr} {ds : List RowD} (h : RowsAt CR H rs ds) : RowsAt CR H rs.dropLast ds.dropLast := by
  refine ⟨by rw [List.length_dropLast, List.length_dropLast, h.len], fun i a s p q => ?_⟩
  rw [List.getElem?_dropLast] at p q
  split at p
  · split at q
    · exact h.at_ i a s p q
    · cases q
  · cases p
/-- A7: a block ends -/
theorem AhA.popBlock (h : AhA C CR CF F H p s A) : AhA C CR CF F (upd H A.lb (.lst (refsV A.rs).dropLast)) p { s with blocks := s.blocks.dropLast } { A with rs := A.rs.dropLast } := by
  have hx := h.b
  have e1 : ∀ a ∈ A.as, a ≠ A.lb := fun a ha => (h.sep.ba a ha).1
  exact { h with
    o := updK hx h.o (by (intros; intro z; cases z)), w := updK hx h.w (by (intros; intro z; cases z)), c := updK hx h.c (by (intros; intro z; cases z)), f := updK hx h.f (by (intros; intro z; cases z))
    b := by rw [upd_same, refsV_dropLast]
    br := (h.br.dropLast).upd hx (by (intros; intro z; cases z)) (by (intros; intro z; cases z)), bn := List.Sublist.nodup (List.dropLast_sublist _) h.bn
    sc := by rw [upd_ne (Ne.symm h.sep.bs)]; exact h.sc
    sa := h.sa.upd e1
    k := updK hx h.k (by (intros; intro z; cases z)), gf := fun g hg => (h.gf g hg).updK hx (by (intros; intro z; cases z)) (by (intros; intro z; cases z)) (by (intros; intro z; cases z)) (h.sep.br _ (lr_mem hg)).1
    fr := fr_upd h.fr
    nf := { h.nf with rs := fun a ha => h.nf.rs a (mem_dropLast ha) } }
/-- the whole of it behind a change of a row; the blocks are told apart -/
theorem AhA.rowCore (h : AhA C CR CF F H p s A) (hR : C ≠ CR) (hFR : CF ≠ CR) {x dx tw : Addr} {line m m' : Int} {a a' : V × V} {b b' c c' : V} (hx : H x = some (.ins CR dx (fsR line tw m a b c))) {bl : List RowD}
    (hb : RowsAt CR (L2.upd H x (.ins CR dx (fsR line tw m' a' b' c'))) A.rs bl) : AhA C CR CF F (L2.upd H x (.ins CR dx (fsR line tw m' a' b' c'))) p { s with blocks := bl } A := by
  have S : Soft CR H (L2.upd H x (.ins CR dx (fsR line tw m' a' b' c'))) := Soft.row_upd hx
  exact { h with
    o := updK hx h.o (fun z => hR (HO.ins.inj z).1), w := updK hx h.w (by (intros; intro z; cases z)), c := updK hx h.c (by (intros; intro z; cases z)), f := updK hx h.f (by (intros; intro z; cases z))
    b := updK hx h.b (by (intros; intro z; cases z)), br := hb, sc := updK hx h.sc (by (intros; intro z; cases z))
    sa := h.sa.updK hx (by (intros; intro z; cases z))
    k := updK hx h.k (by (intros; intro z; cases z)), gf := fun g hg => by
      have q := h.gf g hg
      obtain ⟨dx1, l1, l2, tp, g1, g2⟩ := q.ex
      exact q.soft S (by rw [upd_ne (ne_of g1 hx (fun z => hFR (HO.ins.inj z).1))]) (by rw [upd_ne (ne_of q.lr hx (by (intros; intro z; cases z)))])
    fr := fr_upd h.fr }
theorem RowAt.row_upd {CR : Addr} {H : Hp} {r x dx tw : Addr} {line m : Int} {a a' : V × V} {b b' c c' : V} {d : RowD} (h : RowAt CR H r d) (hx : H x = some (.ins CR dx (fsR line tw m a b c))) : RowAt CR (L2.upd H x (.ins CR dx (fsR line tw m a' b' c'))) r d := by
  obtain ⟨dx2, tw2, l2, b2, g2, g1, g3⟩ := h.ex
  by_cases e : r = x
  · subst e
    rw [hx] at g1
    obtain ⟨_, e2, e3⟩ := HO.ins.inj (Option.some.inj g1)
    obtain ⟨q1, q2, q3⟩ := fsR_inj e3
    subst q2
    exact ⟨dx, tw, a', b', c', by rw [upd_same, q1, q3], updK hx g3 (by (intros; intro z; cases z))⟩
  · exact ⟨dx2, tw2, l2, b2, g2, by rw [upd_ne e]; exact g1, updK hx g3 (by (intros; intro z; cases z))⟩
/-- A8: last, block or guard of a row -/
theorem AhA.rowUpd (h : AhA C CR CF F H p s A) (hR : C ≠ CR) (hFR : CF ≠ CR) {x dx tw : Addr} {line m : Int} {a a' : V × V} {b b' c c' : V} (hx : H x = some (.ins CR dx (fsR line tw m a b c))) : AhA C CR CF F (L2.upd H x (.ins CR dx (fsR line tw m a' b' c'))) p s A :=
  h.rowCore hR hFR hx ⟨h.br.len, fun i r d q1 q2 => (h.br.at_ i r d q1 q2).row_upd hx⟩
/-- A9: the second part of the innermost block begins -/
theorem AhA.rowMid (h : AhA C CR CF F H p s A) (hR : C ≠ CR) (hFR : CF ≠ CR) {rs0 : List Addr} {x dx tw : Addr} {line m m' : Int} {a : V × V} {b c : V} {bl0 : List RowD} {d : RowD} (hr : A.rs = rs0 ++ [x]) (hb : s.blocks = bl0 ++ [d]) (hx : H x = some (.ins CR dx (fsR line tw m a b c))) :
    AhA C CR CF F (L2.upd H x (.ins CR dx (fsR line tw m' a b c))) p { s with blocks := bl0 ++ [{ d with middle := m' }] } A := by
  have hl : rs0.length = bl0.length := by
    have := h.br.len
    rw [hr, hb, List.length_append, List.length_append] at this
    simpa using this
  have nd : (rs0 ++ [x]).Nodup := by rw [← hr]; exact h.bn
  have n0 : ∀ y ∈ rs0, y ≠ x := fun y hy => (List.nodup_append.mp nd).2.2 y hy x (by simp)
  refine h.rowCore hR hFR hx ⟨by rw [hr]; simp [hl], fun i r d' q1 q2 => ?_⟩
  rw [hr] at q1
  by_cases hi : i < rs0.length
  · rw [List.getElem?_append_left hi] at q1
    rw [List.getElem?_append_left (by omega)] at q2
    obtain ⟨dx2, tw2, l2, b2, g2, g1, g3⟩ := (h.br.at_ i r d' (by rw [hr, List.getElem?_append_left hi]; exact q1) (by rw [hb, List.getElem?_append_left (by omega)]; exact q2)).ex
    exact ⟨dx2, tw2, l2, b2, g2, by rw [upd_ne (n0 r (List.mem_of_getElem? q1))]; exact g1, updK hx g3 (by (intros; intro z; cases z))⟩
  · have hil := (List.getElem?_eq_some_iff.mp q1).1
    simp at hil
    have ei : i = rs0.length := by omega
    subst ei
    simp at q1
    subst q1
    rw [hl] at q2
    simp at q2
    subst q2
    obtain ⟨dx2, tw2, l2, b2, g2, g1, g3⟩ := (h.br.at_ rs0.length x d (by rw [hr]; simp) (by rw [hb, hl]; simp)).ex
    rw [hx] at g1
    obtain ⟨_, e2, e3⟩ := HO.ins.inj (Option.some.inj g1)
    obtain ⟨q1, q2, q3⟩ := fsR_inj e3
    subst q2
    exact ⟨dx, tw, a, b, c, by rw [upd_same, q1], updK hx g3 (by (intros; intro z; cases z))⟩
end
end HF
set_option maxRecDepth 100000
set_option maxHeartbeats 2000000
namespace HF
open PySem L2 Evl
section
variable {C CR CF : Addr} {F : Addr → Prop} {H : Hp} {p : Addr} {s : Ah} {A : Ad}
theorem curV_last (b : Bool) (gs : List FG) (g : FG) : curV b (gs ++ [g]) = if b = true then .ref g.fa else .non := by
  unfold curV
  rw [List.getLast?_append]
  rfl
theorem FnAt.mono {H' : Hp} {g : FG} (e : Ex H H') (q : FnAt CF CR H g) : FnAt CF CR H' g := by
  obtain ⟨dx, line, last, tp, g1, g2⟩ := q.ex
  exact ⟨⟨dx, line, last, tp, e _ _ g1, e _ _ g2⟩, e _ _ q.lr, q.len, fun i r d a b => (Soft.ex e).row _ _ (q.row i r d a b)⟩
/-- A10: a row of the function that is open -/
theorem AhA.addRow (h : AhA C CR CF F H p s A) {gs0 : List FG} {g : FG} {fs0 : List FnD} {r : Addr} {d : Int × List Str} (hg : A.gs = gs0 ++ [g]) (hf : s.funs = fs0 ++ [g.d]) (hr : RowL CR H r d) (hF : ¬F r) :
    AhA C CR CF F (upd H g.lr (.lst (refsV g.rws ++ [.ref r]))) p { s with funs := fs0 ++ [{ g.d with rows := g.d.rows ++ [d] }] } { A with gs := gs0 ++ [{ g with rws := g.rws ++ [r], d := { g.d with rows := g.d.rows ++ [d] } }] } := by
  have gm : g ∈ A.gs := by rw [hg]; simp
  have q := h.gf g gm
  have hx := q.lr
  have lm := lr_mem gm
  have S : Soft CR H (L2.upd H g.lr (.lst (refsV g.rws ++ [.ref r]))) := Soft.upd hx (by (intros; intro z; cases z)) (by (intros; intro z; cases z))
  have nr : (gs0.map (·.lr) ++ [g.lr]).Nodup := by
    have := h.sep.nr
    rw [hg, List.map_append] at this
    exact this
  have n0 : ∀ g' ∈ gs0, g'.lr ≠ g.lr := fun g' hg' => (List.nodup_append.mp nr).2.2 _ (List.mem_map_of_mem hg') _ (by simp)
  have em : (gs0 ++ [({ g with rws := g.rws ++ [r], d := { g.d with rows := g.d.rows ++ [d] } } : FG)]).map (·.lr) = A.gs.map (·.lr) := by rw [hg]; simp
  have ev : funsV (gs0 ++ [({ g with rws := g.rws ++ [r], d := { g.d with rows := g.d.rows ++ [d] } } : FG)]) = funsV A.gs := by rw [hg]; unfold funsV; simp
  have ec : curV s.opn (gs0 ++ [({ g with rws := g.rws ++ [r], d := { g.d with rows := g.d.rows ++ [d] } } : FG)]) = curV s.opn A.gs := by rw [hg, curV_last, curV_last]
  have egd : gs0.map (·.d) = fs0 := by
    have := h.gd
    rw [hg, hf, List.map_append] at this
    exact List.append_cancel_right this
  exact { h with
    o := by rw [ec]; exact updK hx h.o (by (intros; intro z; cases z))
    w := updK hx h.w (by (intros; intro z; cases z)), c := updK hx h.c (by (intros; intro z; cases z)), f := by rw [ev]; exact updK hx h.f (by (intros; intro z; cases z))
    b := by rw [upd_ne (Ne.symm (h.sep.br _ lm).1)]; exact h.b
    br := h.br.upd hx (by (intros; intro z; cases z)) (by (intros; intro z; cases z))
    sc := by rw [upd_ne (Ne.symm (h.sep.br _ lm).2)]; exact h.sc
    sa := h.sa.upd fun a ha => h.sep.ar a ha _ lm
    k := updK hx h.k (by (intros; intro z; cases z))
    gd := by rw [List.map_append, egd]; rfl
    gf := fun g' hg' => by
      rcases List.mem_append.mp hg' with z | z
      · exact (h.gf g' (by rw [hg]; exact List.mem_append_left _ z)).updK hx (by (intros; intro z; cases z)) (by (intros; intro z; cases z)) (by (intros; intro z; cases z)) (n0 g' z)
      · simp at z
        subst z
        obtain ⟨dx1, l1, l2, tp, g1, g2⟩ := q.ex
        refine ⟨⟨dx1, l1, l2, tp, updK hx g1 (by (intros; intro z; cases z)), updK hx g2 (by (intros; intro z; cases z))⟩, ?_, by simp [q.len], fun i x d' q1 q2 => ?_⟩
        · show L2.upd H g.lr _ g.lr = _
          rw [upd_same]
          unfold refsV
          rw [List.map_append]
          rfl
        · show RowL CR _ x d'
          have q1' : (g.rws ++ [r])[i]? = some x := q1
          have q2' : (g.d.rows ++ [d])[i]? = some d' := q2
          by_cases hi : i < g.rws.length
          · rw [List.getElem?_append_left hi] at q1'
            rw [List.getElem?_append_left (by rw [← q.len]; exact hi)] at q2'
            exact S.row _ _ (q.row i x d' q1' q2')
          · have hil := (List.getElem?_eq_some_iff.mp q1').1
            simp at hil
            have ei : i = g.rws.length := by omega
            subst ei
            simp at q1'
            subst q1'
            rw [q.len] at q2'
            simp at q2'
            subst q2'
            exact S.row _ _ hr
    sep := by rw [em]; exact h.sep
    opn := fun _ => by simp
    fr := fr_upd h.fr
    nf := ⟨h.nf.p, h.nf.dc, h.nf.df, h.nf.lb, h.nf.ls, h.nf.da, h.nf.as, h.nf.rs, fun g' hg' => by
      rcases List.mem_append.mp hg' with z | z
      · exact h.nf.gs g' (by rw [hg]; exact List.mem_append_left _ z)
      · simp at z
        subst z
        obtain ⟨a1, a2, a3⟩ := h.nf.gs g gm
        refine ⟨a1, a2, fun x hx => ?_⟩
        rcases List.mem_append.mp hx with z | z
        · exact a3 x z
        · simp at z
          subst z
          exact hF⟩ }
/-- the last line of a function -/
theorem AhA.setLast (h : AhA C CR CF F H p s A) (hCF : C ≠ CF) (hFR : CF ≠ CR) {g : FG} (gm : g ∈ A.gs) {dx : Addr} {line last last' : V} {tp : Addr} (hx : H g.fa = some (.ins CF dx (fsF line last g.d.shared g.d.name tp g.lr))) :
    AhA C CR CF F (upd H g.fa (.ins CF dx (fsF line last' g.d.shared g.d.name tp g.lr))) p s A := by
  have n2 : ∀ dx' fs, (HO.ins CF dx (fsF line last g.d.shared g.d.name tp g.lr)) ≠ .ins CR dx' fs := fun _ _ z => hFR (HO.ins.inj z).1
  have S : Soft CR H (L2.upd H g.fa (.ins CF dx (fsF line last' g.d.shared g.d.name tp g.lr))) := Soft.upd hx (by (intros; intro z; cases z)) n2
  exact { h with
    o := updK hx h.o (fun z => hCF (HO.ins.inj z).1), w := updK hx h.w (by (intros; intro z; cases z)), c := updK hx h.c (by (intros; intro z; cases z)), f := updK hx h.f (by (intros; intro z; cases z))
    b := updK hx h.b (by (intros; intro z; cases z)), br := h.br.upd hx (by (intros; intro z; cases z)) n2, sc := updK hx h.sc (by (intros; intro z; cases z)), sa := h.sa.updK hx (by (intros; intro z; cases z)), k := updK hx h.k (by (intros; intro z; cases z))
    gf := fun g' hg' => by
      have q := h.gf g' hg'
      obtain ⟨dx1, l1, l2, tp1, g1, g2⟩ := q.ex
      refine ⟨?_, updK hx q.lr (by (intros; intro z; cases z)), q.len, fun i r d a b => S.row _ _ (q.row i r d a b)⟩
      by_cases e : g'.fa = g.fa
      · rw [e, hx] at g1
        obtain ⟨_, e2, e3⟩ := HO.ins.inj (Option.some.inj g1)
        simp only [List.cons.injEq, Prod.mk.injEq, V.bl.injEq, V.str.injEq, V.ref.injEq, and_true, true_and] at e3
        obtain ⟨_, _, e6, e7, e8, e9⟩ := e3
        exact ⟨dx, line, last', tp, by rw [e, upd_same, e6, e7, e9], by rw [e8]; exact updK hx g2 (by (intros; intro z; cases z))⟩
      · exact ⟨dx1, l1, l2, tp1, by rw [upd_ne e]; exact g1, updK hx g2 (by (intros; intro z; cases z))⟩
    fr := fr_upd h.fr }
/-- all but p stands, p has other scopes and another function that is open -/
theorem AhA.reshape (h : AhA C CR CF F H p s A) {H' : Hp} {l : Addr} {as' : List Addr} {scs' : List (List Str)} {opn' : Bool} (hk : ∀ b o, b ≠ p → H b = some o → H' b = some o)
    (ho : H' p = some (.ins C A.dx (fsA A.tw (.str s.name) A.dc A.df (curV opn' A.gs) A.lb (.ref l) A.da))) (hl : H' l = some (.lst (refsV as'))) (hs : ScAt H' as' scs') (fl : H l = none) (fa : ∀ a ∈ as', H a = none) (na : as'.Nodup) (nl : ∀ a ∈ as', a ≠ l) (hop : opn' = true → A.gs ≠ []) (hCR : C ≠ CR) (hCF : C ≠ CF) :
    AhA C CR CF F H' p { s with opn := opn', scopes := scs' } { A with ls := l, as := as' } := by
  have hp := h.o
  have kk : ∀ {y : Addr} {o : HO}, H y = some o → (∀ dx fs, o ≠ .ins C dx fs) → H' y = some o := fun q n => hk _ _ (ne_of q hp (n _ _)) q
  have S : Soft CR H H' := by
    refine ⟨fun t xs q => kk q (by (intros; intro z; cases z)), fun r d q => ?_⟩
    obtain ⟨dx, tw, m, l1, b1, g1, q1, q2⟩ := q.ex
    exact ⟨dx, tw, m, l1, b1, g1, kk q1 (fun _ _ z => hCR (HO.ins.inj z).1.symm), kk q2 (by (intros; intro z; cases z))⟩
  have nn : ∀ {y : Addr} {o : HO}, H y = some o → ∀ {z : Addr}, H z = none → y ≠ z := fun q _ qz => ne_of_none q qz
  exact { h with
    o := ho, w := kk h.w (by (intros; intro z; cases z)), c := kk h.c (by (intros; intro z; cases z)), f := kk h.f (by (intros; intro z; cases z)), b := kk h.b (by (intros; intro z; cases z))
    br := ⟨h.br.len, fun i r d q1 q2 => by
      obtain ⟨dx, tw, l1, b1, g1, g2, g3⟩ := (h.br.at_ i r d q1 q2).ex
      exact ⟨dx, tw, l1, b1, g1, kk g2 (fun _ _ z => hCR (HO.ins.inj z).1.symm), kk g3 (by (intros; intro z; cases z))⟩⟩
    sc := hl, sa := hs, k := kk h.k (by (intros; intro z; cases z))
    gf := fun g hg => by
      have q := h.gf g hg
      obtain ⟨dx1, l1, l2, tp, g1, g2⟩ := q.ex
      exact ⟨⟨dx1, l1, l2, tp, kk g1 (fun _ _ z => hCF (HO.ins.inj z).1.symm), kk g2 (by (intros; intro z; cases z))⟩, kk q.lr (by (intros; intro z; cases z)), q.len, fun i r d a b => S.row _ _ (q.row i r d a b)⟩
    sep := ⟨nn h.b fl, fun a ha => ⟨Ne.symm (nn h.b (fa a ha)), nl a ha⟩, fun r hr => ⟨(h.sep.br r hr).1, by
        obtain ⟨g, hg, rfl⟩ := List.mem_map.mp hr
        exact nn (h.gf g hg).lr fl⟩, fun a ha r hr => by
        obtain ⟨g, hg, rfl⟩ := List.mem_map.mp hr
        exact Ne.symm (nn (h.gf g hg).lr (fa a ha)), na, h.sep.nr⟩
    opn := hop
    fr := fun b hb => by
      have q := h.fr b hb
      cases e : H b with
      | none => rw [e] at q; cases q
      | some o => rw [hk b o (fun z => h.nf.p (z ▸ hb)) e]; rfl
    nf := ⟨h.nf.p, h.nf.dc, h.nf.df, h.nf.lb, not_F h.fr fl, h.nf.da, fun a ha => not_F h.fr (fa a ha), h.nf.rs, h.nf.gs⟩ }
theorem valV_funs (n : Str) : ∀ gs : List FG, (valV (funsV gs) (Sum.inr n)).isSome = inS n (gs.map (·.d.name))
  | [] => rfl
  | g :: gs => by
    have ih := valV_funs n gs
    show (valV ((Sum.inr g.d.name, V.ref g.fa) :: funsV gs) (Sum.inr n)).isSome = ((g.d.name == n) || inS n (gs.map (·.d.name)))
    by_cases h : g.d.name = n
    · rw [valV_pos (by rw [h])]
      simp [h]
    · rw [valV_neg (fun z => h (Sum.inr.inj z)), ih]
      have : (g.d.name == n) = false := by simpa using h
      rw [this]
      rfl
/-- A12: a function begins: it is the one that is open, and stands in the dict -/
theorem AhA.addFn (h : AhA C CR CF F H p s A) (hCR : C ≠ CR) (hCF : C ≠ CF) {g : FG} (hg : FnAt CF CR H g) (hn : inS g.d.name (s.funs.map (·.name)) = false) (hl : g.lr ∉ A.gs.map (·.lr)) (h1 : g.lr ≠ A.lb) (h2 : g.lr ≠ A.ls) (h3 : ∀ a ∈ A.as, a ≠ g.lr)
    (hF : ¬F g.fa ∧ ¬F g.lr ∧ ∀ r ∈ g.rws, ¬F r) :
    AhA C CR CF F (upd (upd H p (.ins C A.dx (fsA A.tw (.str s.name) A.dc A.df (.ref g.fa) A.lb (.ref A.ls) A.da))) A.df (.dK (putK (funsV A.gs) (Sum.inr g.d.name) (.ref g.fa)))) p { s with funs := s.funs ++ [g.d], opn := true } { A with gs := A.gs ++ [g] } := by
  have hp := h.o
  have hpd : p ≠ A.df := ne_of hp h.f (by (intros; intro z; cases z))
  have m2 : ∀ dx fs, (HO.ins C A.dx (fsA A.tw (.str s.name) A.dc A.df (curV s.opn A.gs) A.lb (.ref A.ls) A.da)) ≠ .ins CR dx fs := fun _ _ z => hCR (HO.ins.inj z).1
  have m3 : ∀ dx fs, (HO.ins C A.dx (fsA A.tw (.str s.name) A.dc A.df (curV s.opn A.gs) A.lb (.ref A.ls) A.da)) ≠ .ins CF dx fs := fun _ _ z => hCF (HO.ins.inj z).1
  have hx : (upd H p (.ins C A.dx (fsA A.tw (.str s.name) A.dc A.df (.ref g.fa) A.lb (.ref A.ls) A.da))) A.df = some (.dK (funsV A.gs)) := updK hp h.f (by (intros; intro z; cases z))
  have gf1 : ∀ g', FnAt CF CR H g' → FnAt CF CR (upd (upd H p (.ins C A.dx (fsA A.tw (.str s.name) A.dc A.df (.ref g.fa) A.lb (.ref A.ls) A.da))) A.df (.dK (putK (funsV A.gs) (Sum.inr g.d.name) (.ref g.fa)))) g' :=
    fun g' q => (q.updN hp (by (intros; intro z; cases z)) m2 m3 (by (intros; intro z; cases z))).updN hx (by (intros; intro z; cases z)) (by (intros; intro z; cases z)) (by (intros; intro z; cases z)) (by (intros; intro z; cases z))
  have ev : putK (funsV A.gs) (Sum.inr g.d.name) (.ref g.fa) = funsV (A.gs ++ [g]) := by
    rw [putK_new]
    · unfold funsV
      rw [List.map_append]
      rfl
    · have := valV_funs g.d.name A.gs
      have e : A.gs.map (·.d.name) = s.funs.map (·.name) := by rw [← h.gd, List.map_map]; rfl
      rw [e, hn] at this
      cases q : valV (funsV A.gs) (Sum.inr g.d.name) with
      | none => rfl
      | some v => rw [q] at this; cases this
  exact { h with
    o := by
      rw [upd_ne hpd, upd_same, curV_last]
      rfl
    w := updK hx (updK hp h.w (by (intros; intro z; cases z))) (by (intros; intro z; cases z)), c := by rw [upd_ne h.ne]; exact updK hp h.c (by (intros; intro z; cases z))
    f := by rw [upd_same, ev]
    b := updK hx (updK hp h.b (by (intros; intro z; cases z))) (by (intros; intro z; cases z)), br := (h.br.upd hp (by (intros; intro z; cases z)) m2).upd hx (by (intros; intro z; cases z)) (by (intros; intro z; cases z)), sc := updK hx (updK hp h.sc (by (intros; intro z; cases z))) (by (intros; intro z; cases z))
    sa := (h.sa.updK hp (by (intros; intro z; cases z))).updK hx (by (intros; intro z; cases z)), k := updK hx (updK hp h.k (by (intros; intro z; cases z))) (by (intros; intro z; cases z))
    gd := by rw [List.map_append, h.gd]; rfl
    gf := fun g' hg' => by
      rcases List.mem_append.mp hg' with z | z
      · exact gf1 g' (h.gf g' z)
      · simp at z
        subst z
        exact gf1 _ hg
    sep := by
      refine ⟨h.sep.bs, h.sep.ba, fun r hr => ?_, fun a ha r hr => ?_, h.sep.na, ?_⟩
      · rw [List.map_append] at hr
        rcases List.mem_append.mp hr with z | z
        · exact h.sep.br r z
        · simp at z
          subst z
          exact ⟨h1, h2⟩
      · rw [List.map_append] at hr
        rcases List.mem_append.mp hr with z | z
        · exact h.sep.ar a ha r z
        · simp at z
          subst z
          exact h3 a ha
      · rw [List.map_append]
        refine List.nodup_append.mpr ⟨h.sep.nr, by simp, fun a ha b hb => ?_⟩
        simp at hb
        subst hb
        intro e
        subst e
        exact hl ha
    opn := fun _ => by simp
    fr := fr_upd (fr_upd h.fr)
    nf := ⟨h.nf.p, h.nf.dc, h.nf.df, h.nf.lb, h.nf.ls, h.nf.da, h.nf.as, h.nf.rs, fun g' hg' => by
      rcases List.mem_append.mp hg' with z | z
      · exact h.nf.gs g' z
      · simp at z
        subst z
        exact hF⟩ }
end
end HF
set_option maxRecDepth 100000
set_option maxHeartbeats 2000000
namespace HF
open PySem L2 Evl
/-- all but x stands -/
def KeepB (x : Addr) (H H' : Hp) : Prop := ∀ b o, b ≠ x → H b = some o → H' b = some o
theorem KeepB.ex {x : Addr} {H H' : Hp} (e : Ex H H') : KeepB x H H' := fun b o _ h => e b o h
theorem KeepB.trans {x : Addr} {H H1 H2 : Hp} (a : KeepB x H H1) (b : KeepB x H1 H2) : KeepB x H H2 := fun c o n h => b c o n (a c o n h)
theorem KeepB.upd {x : Addr} {H : Hp} {o : HO} : KeepB x H (L2.upd H x o) := fun b u n h => by rw [upd_ne n]; exact h
section
variable {K : PySem.W.Frag} {σ : L2.St} {H : Hp} {t : TT} {te ta tb tc tu tv : TE} {x y z v : V} {D : Ends} {tz : TS} {a C dx : Addr} {fs : List (Str × V)} {f : Str}
theorem q_fld (h : Ev tv σ H y) (ho : Ev ta σ H (.ref a)) (hi : H a = some (.ins C dx fs)) (hc : Cls K C) (hn : NoAttr K C f) (hl : fs.length < 1000) (k : ∀ H1, Ex H H1 → tz D σ (upd H1 a (.ins C dx (putF f y fs)))) : tSeq (sFld K ta tv f) tz D σ H :=
  h H (Ex.refl H) _ fun H1 e1 => ho H1 e1 _ fun H2 e2 => ⟨a, C, dx, fs, rfl, (e1.trans e2) _ _ hi, hc, hn, hl, k H2 (e1.trans e2)⟩
theorem s_fld (h : Ev tv σ H y) (ho : Ev ta σ H (.ref a)) (hi : H a = some (.ins C dx fs)) (hc : Cls K C) (hn : NoAttr K C f) (hl : fs.length < 1000) (k : ∀ H1, Ex H H1 → D.nx σ (upd H1 a (.ins C dx (putF f y fs)))) : sFld K ta tv f D σ H :=
  h H (Ex.refl H) _ fun H1 e1 => ho H1 e1 _ fun H2 e2 => ⟨a, C, dx, fs, rfl, (e1.trans e2) _ _ hi, hc, hn, hl, k H2 (e1.trans e2)⟩
theorem q_fldL {xs : List V} (h : EvL tv σ H xs) (ho : ∀ H1, Ex H H1 → Ev ta σ H1 (.ref a)) (hi : H a = some (.ins C dx fs)) (hc : Cls K C) (hn : NoAttr K C f) (hl : fs.length < 1000) (k : ∀ l H1, H l = none → Ex H H1 → H1 l = some (.lst xs) → tz D σ (upd H1 a (.ins C dx (putF f (.ref l) fs)))) : tSeq (sFld K ta tv f) tz D σ H :=
  h H (Ex.refl H) _ fun l H1 hl0 e1 h1 => ho H1 e1 H1 (Ex.refl H1) _ fun H2 e2 => ⟨a, C, dx, fs, rfl, (e1.trans e2) _ _ hi, hc, hn, hl, k l H2 hl0 (e1.trans e2) (e2 _ _ h1)⟩
theorem s_fldL {xs : List V} (h : EvL tv σ H xs) (ho : ∀ H1, Ex H H1 → Ev ta σ H1 (.ref a)) (hi : H a = some (.ins C dx fs)) (hc : Cls K C) (hn : NoAttr K C f) (hl : fs.length < 1000) (k : ∀ l H1, H l = none → Ex H H1 → H1 l = some (.lst xs) → D.nx σ (upd H1 a (.ins C dx (putF f (.ref l) fs)))) : sFld K ta tv f D σ H :=
  h H (Ex.refl H) _ fun l H1 hl0 e1 h1 => ho H1 e1 H1 (Ex.refl H1) _ fun H2 e2 => ⟨a, C, dx, fs, rfl, (e1.trans e2) _ _ hi, hc, hn, hl, k l H2 hl0 (e1.trans e2) (e2 _ _ h1)⟩
theorem q_fldU {xs : List V} (h : EvU tv σ H xs) (ho : ∀ H1, Ex H H1 → Ev ta σ H1 (.ref a)) (hi : H a = some (.ins C dx fs)) (hc : Cls K C) (hn : NoAttr K C f) (hl : fs.length < 1000) (k : ∀ l H1, H l = none → Ex H H1 → H1 l = some (.tup xs) → tz D σ (upd H1 a (.ins C dx (putF f (.ref l) fs)))) : tSeq (sFld K ta tv f) tz D σ H :=
  h H (Ex.refl H) _ fun l H1 hl0 e1 h1 => ho H1 e1 H1 (Ex.refl H1) _ fun H2 e2 => ⟨a, C, dx, fs, rfl, (e1.trans e2) _ _ hi, hc, hn, hl, k l H2 hl0 (e1.trans e2) (e2 _ _ h1)⟩
end
/-- a class of the program and its __init__ -/
structure DfnC (K : PySem.W.Frag) (mg : Str → Option Value) (x : Str) (C : Addr) (qual : Str) (st : Stmt) : Prop where
  mg_ : mg x = some (.ref C)
  ex : ∃ (f : Addr) (fd : FuncData), Mk K C f ∧ Fun K "__init__" qual st f fd
structure HasC (P : Program) (w : World) (K : PySem.W.Frag) (mg : Str → Option Value) (base : Heap) (CX : CXT) (k : Nat) (x : Str) (C : Addr) (ps : List Str) (sp : Sp) : Prop where
  mg_ : mg x = some (.ref C)
  ex : ∃ (f : Addr) (fd : FuncData), Mk K C f ∧ Binds K fd ps [] ∧ FnOk P w K mg base CX k f fd ps sp
theorem pe_hc {X : Cx} {k : Nat} {x : Str} {C : Addr} {ps : List Str} {sp : Sp} {e : Expr} {es : List Expr} {t : TA} {p pos : Pos} (h : HasC X.prog X.w X.K X.mg X.base CX0 k x C ps sp) (hr : Room (k + 1) X.A) (ha : PA X (e :: es) t) (hg : Gl X x := by rfl)
    (hdb : (x == ("__debug__" : Str)) = false := by decide) (he : starEach (e :: es) X.env = (false, eval e X.env) :: starEach es X.env := by rfl) (hpl : (backTo pos (starEach es X.env)).any (·.1) = false := by rfl) :
    PE X (.Call (.Name x p) (e :: es) [] pos) (tMake C sp [] E0 t) := by
  obtain ⟨f, fd, m, b, d⟩ := h.ex
  exact pe_make m d hr hg h.mg_ b .nil pass0 ha hdb he hpl
def spInitR (CR : Addr) : Sp := fun vs H Q _ => ∃ (x dx tw : Addr) (line : Int) (sv : V), vs = [.ref x, .int line, .ref tw, sv] ∧ H x = some (.ins CR dx []) ∧ ∀ H', KeepB x H H' → H' x = some (.ins CR dx (fsR line tw 0 (.int line, sv) .non .non)) → Q .non H'
def fInit (ws : List Str) : Bool := decide (wd ws 0 = "open")
def spInitF (CF : Addr) : Sp := fun vs H Q _ => ∃ (x dx q : Addr) (line : Int) (ws : List Str), vs = [.ref x, .int line, .ref q] ∧ H x = some (.ins CF dx []) ∧ H q = some (.tup (strsV ws)) ∧ 2 ≤ ws.length ∧
  ∀ H' tp lr, KeepB x H H' → H tp = none → H lr = none → H' x = some (.ins CF dx (fsF (.int line) (.int line) (fInit ws) (wd ws 1) tp lr)) → H' tp = some (.tup (strsV (ws.drop 2))) → H' lr = some (.lst []) → Q .non H'
def initAh (ws : List Str) : Ah := { words := ws ++ (["NONE", "BAD"] : List Str), name := "", cells := [], funs := [], opn := false, blocks := [], scopes := [], asked := [] }
def spInitA (K : PySem.W.Frag) (C CR CF : Addr) : Sp := fun vs H Q _ => ∃ (x dx q : Addr) (ws : List Str) (F : Addr → Prop), vs = [.ref x, .ref q] ∧ H x = some (.ins C dx []) ∧ SqT K H q (strsV ws) ∧ ws ≠ [] ∧ ws.length ≤ 1000 ∧ (∀ b, F b → (H b).isSome = true) ∧ ¬F x ∧
  ∀ H' A, AhA C CR CF F H' x (initAh ws) A → KeepB x H H' → Q .non H'
structure TxRow (K : PySem.W.Frag) (mg : Str → Option Value) (CR : Addr) : Prop extends ClR K CR where
structure TxFun (K : PySem.W.Frag) (mg : Str → Option Value) (CF : Addr) : Prop extends ClF K CF where
structure TxInit (K : PySem.W.Frag) (mg : Str → Option Value) (C : Addr) : Prop where
  fixed : ∃ a, mg "FIXED" = some (.ref a) ∧ ∀ H, SqT K H a (strsV ["NONE", "BAD"])
section
variable {P : Program} {w : World} {K : PySem.W.Frag} {mg : Str → Option Value} {base : Heap} {C CR CF : Addr}
theorem none_of_ex {H H' : Hp} {b : Addr} (e : Ex H H') (h : H' b = none) : H b = none := fresh_back e h
theorem none_of_keep {x : Addr} {H H' : Hp} {b : Addr} (k : KeepB x H H') (hx : (H' x).isSome = true) (h : H' b = none) : H b = none := by
  cases q : H b with
  | none => rfl
  | some o =>
    by_cases e : b = x
    · subst e
      rw [h] at hx
      cases hx
    · rw [k b o e q] at h
      cases h
end
end HF
set_option maxRecDepth 100000
set_option maxHeartbeats 2000000
namespace HF
open PySem L2 Evl
section
variable {K : PySem.W.Frag} {σ : L2.St} {H : Hp} {t : TT} {te ta tb tc tu tv : TE} {x y z v : V} {D : Ends} {tz : TS} {a C dx : Addr} {fs : List (Str × V)} {f : Str}
theorem q_fldK (ho : ∀ H1, Ex H H1 → Ev ta σ H1 (.ref a)) (hi : H a = some (.ins C dx fs)) (hc : Cls K C) (hn : NoAttr K C f) (hl : fs.length < 1000) (k : ∀ d H1, H d = none → Ex H H1 → H1 d = some (.dK []) → tz D σ (upd H1 a (.ins C dx (putF f (.ref d) fs)))) : tSeq (sFld K ta tDNewK f) tz D σ H :=
  fun d hd => ho _ (Ex.new hd) _ (Ex.refl _) _ fun H2 e2 => ⟨a, C, dx, fs, rfl, ((Ex.new hd).trans e2) _ _ hi, hc, hn, hl, k d H2 hd ((Ex.new hd).trans e2) (e2 _ _ upd_same)⟩
theorem s_fldT (ho : ∀ H1, Ex H H1 → Ev ta σ H1 (.ref a)) (hi : H a = some (.ins C dx fs)) (hc : Cls K C) (hn : NoAttr K C f) (hl : fs.length < 1000) (k : ∀ d H1, H d = none → Ex H H1 → H1 d = some (.dT []) → D.nx σ (upd H1 a (.ins C dx (putF f (.ref d) fs)))) : sFld K ta tDNewT f D σ H :=
  fun d hd => ho _ (Ex.new hd) _ (Ex.refl _) _ fun H2 e2 => ⟨a, C, dx, fs, rfl, ((Ex.new hd).trans e2) _ _ hi, hc, hn, hl, k d H2 hd ((Ex.new hd).trans e2) (e2 _ _ upd_same)⟩
end
/-- an object made on the way to x's last store, told at the end -/
theorem KeepB.at_ {x b : Addr} {H H' : Hp} {o o2 : HO} (k : KeepB x H H') (h : H b = some o) (n : b ≠ x) : H' b = some o := k b o n h
section
variable {P : Program} {w : World} {K : PySem.W.Frag} {mg : Str → Option Value} {base : Heap} {C CR CF : Addr}
/-- fresh ahead of x's store: not x, and not there before -/
theorem fresh2 {x l : Addr} {H H1 : Hp} {o : HO} (h : (L2.upd H1 x o) l = none) (k : KeepB x H H1) : l ≠ x ∧ (∀ b o, b ≠ x → H b = some o → b ≠ l) := by
  have e : l ≠ x := fun z => by rw [z, upd_same] at h; cases h
  refine ⟨e, fun b o n q => ?_⟩
  have := k b o n q
  rw [upd_ne e] at h
  exact ne_of_none this h
end
end HF
set_option maxRecDepth 100000
set_option maxHeartbeats 2000000
namespace HF
open PySem L2 Evl
def KeepF (F : Addr → Prop) (H H' : Hp) : Prop := ∀ b o, F b → H b = some o → H' b = some o
theorem KeepF.ex {F : Addr → Prop} {H H' : Hp} (e : Ex H H') : KeepF F H H' := fun b o _ h => e b o h
theorem KeepF.trans {F : Addr → Prop} {H H1 H2 : Hp} (a : KeepF F H H1) (b : KeepF F H1 H2) : KeepF F H H2 := fun c o n h => b c o n (a c o n h)
theorem KeepF.upd {F : Addr → Prop} {H : Hp} {x : Addr} {o : HO} (h : ¬F x) : KeepF F H (L2.upd H x o) := fun b u n q => by
  rw [upd_ne (fun z => by subst z; exact h n)]
  exact q
/-- something is read so far at p -/
def AhI (C CR CF : Addr) (F : Addr → Prop) (H : Hp) (p : Addr) (s : Ah) : Prop := ∃ A, AhA C CR CF F H p s A
/-- what the classes are: three of them, apart -/
structure Ap (C CR CF : Addr) : Prop where
  cr : C ≠ CR
  cf : C ≠ CF
  fr : CF ≠ CR
/-- behind a method: s' is read, F stands -/
def Then (C CR CF : Addr) (F : Addr → Prop) (H : Hp) (p : Addr) (s' : Ah) (Q : VK) : Prop := ∀ H', AhI C CR CF F H' p s' → KeepF F H H' → Q .non H'
/-- behind a method that may also change rows -/
def ThenS (C CR CF : Addr) (F : Addr → Prop) (H : Hp) (p : Addr) (s' : Ah) (Q : VK) : Prop := ∀ H', AhI C CR CF F H' p s' → KeepF F H H' → Soft CR H H' → Q .non H'
def spTakeCell (C CR CF : Addr) : Sp := fun vs H Q _ => ∃ (p : Addr) (n v : Str) (F : Addr → Prop) (s : Ah), vs = [.ref p, .str n, .str v] ∧ AhI C CR CF F H p s ∧ hasCell s.cells n = false ∧ s.cells.length ≤ 30000 ∧ Then C CR CF F H p { s with cells := s.cells ++ [(n, v)] } Q
def askAfter (s : Ah) (ws : List Str) : Ah :=
  if calledUnit s.name (wd ws 2) = s.name then s else { s with asked := askedPut s.asked (calledUnit s.name (wd ws 2), calledName (wd ws 2)) ((ws.length : Int) - 3) }
def spTakeCall (C CR CF : Addr) : Sp := fun vs H Q _ => ∃ (p q : Addr) (ws : List Str) (F : Addr → Prop) (s : Ah), vs = [.ref p, .ref q] ∧ AhI C CR CF F H p s ∧ H q = some (.tup (strsV ws)) ∧ 3 ≤ ws.length ∧ WsOk ws ∧ s.asked.length ≤ 30000 ∧ ThenS C CR CF F H p (askAfter s ws) Q
def newFn (ws : List Str) : FnD := { shared := fInit ws, name := wd ws 1, params := ws.drop 2, rows := [] }
def spTakeFn (C CR CF : Addr) : Sp := fun vs H Q _ => ∃ (p q : Addr) (line : Int) (ws : List Str) (F : Addr → Prop) (s : Ah), vs = [.ref p, .int line, .ref q] ∧ AhI C CR CF F H p s ∧ H q = some (.tup (strsV ws)) ∧ 2 ≤ ws.length ∧ WsOk ws ∧ s.funs.length ≤ 30000 ∧
  inS (wd ws 1) (s.funs.map (·.name)) = false ∧ Then C CR CF F H p { s with funs := s.funs ++ [newFn ws], opn := true, scopes := [ws.drop 2] } Q
def spTakeEnd (C CR CF : Addr) : Sp := fun vs H Q _ => ∃ (p : Addr) (line : Int) (F : Addr → Prop) (s : Ah), vs = [.ref p, .int line] ∧ AhI C CR CF F H p s ∧ s.opn = true ∧ Then C CR CF F H p { s with opn := false, scopes := [] } Q
structure TxMut (K : PySem.W.Frag) (mg : Str → Option Value) (C : Addr) : Prop where
  list : mg "list" = none
  tuple : mg "tuple" = none
  sorted : mg "sorted" = none
section
variable {K : PySem.W.Frag} {σ : L2.St} {H : Hp} {t : TT} {te ta tb tc tu tv : TE} {x y z v : V} {D : Ends} {tz : TS} {a C dx : Addr} {fs : List (Str × V)} {f : Str}
theorem s_dput {d : Addr} {kvs : List (Key × V)} {k : Key} (hv : Ev tv σ H v) (hd : Ev ta σ H (.ref d)) (hk : Ev tb σ H (kV k)) (h : H d = some (.dK kvs)) (hl : kvs.length ≤ 30000) (n : ∀ H1, Ex H H1 → D.nx σ (upd H1 d (.dK (putK kvs k v)))) : sDPut ta tb tv D σ H :=
  hv H (Ex.refl H) _ fun H1 e1 => hd H1 e1 _ fun H2 e2 => hk H2 (e1.trans e2) _ fun H3 e3 => ⟨d, _, rfl, DPut.k (k := k) ((e1.trans (e2.trans e3)) _ _ h) (Nat.lt_of_le_of_lt hl (by decide)), n H3 (e1.trans (e2.trans e3))⟩
theorem q_dput {d : Addr} {kvs : List (Key × V)} {k : Key} (hv : Ev tv σ H v) (hd : Ev ta σ H (.ref d)) (hk : Ev tb σ H (kV k)) (h : H d = some (.dK kvs)) (hl : kvs.length ≤ 30000) (n : ∀ H1, Ex H H1 → tz D σ (upd H1 d (.dK (putK kvs k v)))) : tSeq (sDPut ta tb tv) tz D σ H :=
  s_dput (D := { D with nx := tz D }) hv hd hk h hl n
theorem s_dputT {d b : Addr} {kvs : List (List Key × V)} {k : List Key} (hv : Ev tv σ H v) (hd : Ev ta σ H (.ref d)) (hk : Ev tb σ H (.ref b)) (hb : H b = some (.tup (k.map kV))) (h : H d = some (.dT kvs)) (hl : kvs.length ≤ 30000) (n : ∀ H1, Ex H H1 → D.nx σ (upd H1 d (.dT (putK kvs k v)))) : sDPut ta tb tv D σ H :=
  hv H (Ex.refl H) _ fun H1 e1 => hd H1 e1 _ fun H2 e2 => hk H2 (e1.trans e2) _ fun H3 e3 => ⟨d, _, rfl, DPut.t (k := k) ((e1.trans (e2.trans e3)) _ _ h) ((e1.trans (e2.trans e3)) _ _ hb) (Nat.lt_of_le_of_lt hl (by decide)), n H3 (e1.trans (e2.trans e3))⟩
theorem el_listT {p : Addr} {xs : List V} (ha : Ev ta σ H (.ref p)) (h : SqT K H p xs) : EvL (tCB (rListS K) (tCons ta tNil)) σ H xs := fun H1 e Q q =>
  ha H1 e _ fun H2 e2 => ⟨p, xs, rfl, Or.inr (ex_t (e.trans e2) h), fun l hl => q l _ (fresh_back e2 hl) (e2.trans (Ex.new hl)) upd_same⟩
theorem call_listS {X : Cx} : CallR X (.type "list") (rListS X.K) := call_list_of
end
section
variable {P : Program} {w : World} {K : PySem.W.Frag} {mg : Str → Option Value} {base : Heap} {C CR CF : Addr}
end
end HF
set_option maxRecDepth 100000
set_option maxHeartbeats 2000000
namespace HF
open PySem L2 Evl
def spGuard (C CR CF : Addr) : Sp := fun vs H Q _ => ∃ (p b c : Addr) (d : Int × List Str) (F : Addr → Prop) (s : Ah), vs = [.ref p, .ref b, .ref c] ∧ AhI C CR CF F H p s ∧ s.opn = true ∧ RowL CR H b d ∧ (∀ r ∈ [b, c], True) ∧
  ∀ H' A, AhA C CR CF F H p s A → AhA C CR CF F H' p s A → KeepF F H H' → Soft CR H H' → Q .non H'
section
variable {C CR CF : Addr} {F : Addr → Prop} {H : Hp} {p : Addr} {s : Ah} {A : Ad}
/-- the function that is open -/
theorem AhA.cur (h : AhA C CR CF F H p s A) (ho : s.opn = true) : ∃ gs0 g fs0, A.gs = gs0 ++ [g] ∧ s.funs = fs0 ++ [g.d] ∧ curV s.opn A.gs = .ref g.fa ∧ g ∈ A.gs := by
  have hne := h.opn ho
  obtain ⟨gs0, g, hg⟩ : ∃ gs0 g, A.gs = gs0 ++ [g] := ⟨_, _, (List.dropLast_concat_getLast hne).symm⟩
  refine ⟨gs0, g, gs0.map (·.d), hg, ?_, by rw [hg, curV_last, ho]; rfl, by rw [hg]; simp⟩
  rw [← h.gd, hg, List.map_append]
  rfl
theorem refsV_at {l : List Addr} {i : Nat} {x : V} (h : (refsV l)[i]? = some x) : ∃ a, l[i]? = some a ∧ x = .ref a := by
  unfold refsV at h
  rw [List.getElem?_map] at h
  cases q : l[i]? with
  | none => rw [q] at h; cases h
  | some a => rw [q] at h; exact ⟨a, rfl, (Option.some.inj h).symm⟩
end
def spGuard2 (C CR CF : Addr) : Sp := fun vs H Q _ => ∃ (p b c : Addr) (d : Int × List Str) (F : Addr → Prop) (s : Ah) (A : Ad), vs = [.ref p, .ref b, .ref c] ∧ AhA C CR CF F H p s A ∧ s.opn = true ∧ RowL CR H b d ∧
  ∀ H', AhA C CR CF F H' p s A → KeepF F H H' → Soft CR H H' → Q .non H'
section
variable {P : Program} {w : World} {K : PySem.W.Frag} {mg : Str → Option Value} {base : Heap} {C CR CF : Addr}
end
end HF
set_option maxRecDepth 100000
set_option maxHeartbeats 2000000
namespace HF
open PySem L2 Evl
section
variable {K : PySem.W.Frag} {σ : L2.St} {H : Hp} {te ta tb : TE} {D : Ends} {tz : TS}
theorem q_pop {l : Addr} {xs : List V} {y : V} (hl : H l = some (.lst xs)) (ha : Ev ta σ H (.ref l)) (hy : xs[xs.length - 1]? = some y) (k : ∀ H1, Ex H H1 → tz D σ (upd H1 l (.lst xs.dropLast))) : tSeq (tDrop (tBM0 K "list" rPop ta)) tz D σ H :=
  ha H (Ex.refl H) _ fun H1 e1 => ⟨Or.inl ⟨rfl, xs, sq_of (e1 l _ hl)⟩, l, xs, y, rfl, rfl, e1 l _ hl, hy, k H1 e1⟩
end
section
variable {C CR CF : Addr} {F : Addr → Prop} {H : Hp} {p : Addr} {s : Ah} {A : Ad}
theorem AhA.pushScope' (h : AhA C CR CF F H p s A) {l : Addr} {H1 : Hp} (hl : H l = none) (e : Ex H H1) (h1 : H1 l = some (.lst [])) : AhA C CR CF F (upd H1 A.ls (.lst (refsV A.as ++ [.ref l]))) p { s with scopes := s.scopes ++ [[]] } { A with as := A.as ++ [l] } := by
  have q := h.pushScope hl
  have er : refsV (A.as ++ [l]) = refsV A.as ++ [.ref l] := by unfold refsV; rw [List.map_append]; rfl
  rw [er] at q
  refine q.mono fun b o hb => ?_
  by_cases e1 : b = A.ls
  · subst e1
    rw [upd_same] at hb ⊢
    exact hb
  · rw [upd_ne e1] at hb ⊢
    by_cases e2 : b = l
    · subst e2
      rw [upd_same] at hb
      rw [h1]
      exact hb
    · rw [upd_ne e2] at hb
      exact e _ _ hb
theorem Soft.lst {CR : Addr} {H : Hp} {x : Addr} {xs : List V} {o : HO} (hx : H x = some (.lst xs)) : Soft CR H (L2.upd H x o) := Soft.upd hx (by (intros; intro z; cases z)) (by (intros; intro z; cases z))
end
def closeEnd (s : Ah) : Ah := { s with blocks := s.blocks.dropLast, scopes := s.scopes.dropLast }
def closeMid (s : Ah) (line : Int) : Ah := { s with blocks := s.blocks.dropLast ++ (match s.blocks.getLast? with | some d => [{ d with middle := line }] | none => []), scopes := s.scopes.dropLast ++ [[]] }
def closeAfter (s : Ah) (line : Int) (w0 : Str) : Ah := if w0 = "end" then closeEnd s else closeMid s line
def spClose (C CR CF : Addr) : Sp := fun vs H Q _ => ∃ (p r : Addr) (line : Int) (ws : List Str) (F : Addr → Prop) (s : Ah), vs = [.ref p, .ref r] ∧ AhI C CR CF F H p s ∧ s.opn = true ∧ RowL CR H r (line, ws) ∧ ws ≠ [] ∧ ¬F r ∧ s.blocks ≠ [] ∧ s.scopes ≠ [] ∧ s.scopes.length ≤ 30000 ∧
  ThenS C CR CF F H p (closeAfter s line (wd ws 0)) Q
section
variable {P : Program} {w : World} {K : PySem.W.Frag} {mg : Str → Option Value} {base : Heap} {C CR CF : Addr}
end
end HF
set_option maxRecDepth 100000
set_option maxHeartbeats 2000000
namespace HF
open PySem L2 Evl
section
variable {K : PySem.W.Frag}
theorem ex_over {H1 H : Hp} {D : Addr} {o : HO} (hn : H1 D = none) (e : Ex H1 H) : Ex H1 (L2.upd H D o) := fun b u h => by
  rw [upd_ne (ne_of_none h hn)]
  exact e _ _ h
theorem strsV_snoc (l : List Str) (n : Str) : strsV l ++ [V.str n] = strsV (l ++ [n]) := by
  unfold strsV
  rw [List.map_append]
  rfl
/-- the names of all scopes, one behind the other -/
theorem rn_names {a0 a1 a2 : Option V} {H : Hp} {tl : TE} {a : Addr} {as : List Addr} {scs : List (List Str)} {Q : VK} (h : Ev tl [a0, a1, a2, none, none, none] H (.ref a)) (ha : H a = some (.lst (refsV as))) (hs : ScAt H as scs) (hz : as.length ≤ 4001) (hB : ∀ sc ∈ scs, sc.length ≤ 4003)
    (q : ∀ D acc H', H D = none → Ex H H' → H' D = some (.lst (strsV acc)) → Q (.ref D) H') :
    tLc2 (iList K tl) (gName 4) tYes (iList K (tVar 4)) (gName 5) tYes (tVar 5) [4, 5] [5] [a0, a1, a2, none, none, none] H Q := by
  refine h H (Ex.refl H) _ fun H1 e1 => ⟨a, rfl, ⟨_, sq_of (e1 _ _ ha)⟩, fun D hD => ?_⟩
  have hDa : ∀ {b : Addr} {o : HO}, H b = some o → b ≠ D := fun hb => ne_of_none (e1 _ _ hb) hD
  have hlen : (refsV as).length = as.length := by unfold refsV; rw [List.length_map]
  refine ⟨fun i m H' => m = as.length - i ∧ i ≤ as.length ∧ ∃ acc : List Str, H' D = some (.lst (strsV acc)) ∧ acc.length ≤ i * 4003 ∧ Ex H1 H', ⟨as.length, by simp, Nat.zero_le _, [], upd_same, by simp, ex_over hD (Ex.refl _)⟩, ?_⟩
  rintro i m H2 ⟨rfl, hi, acc, hacc, hal, e2⟩
  have sq : SqL K H2 a (refsV as) := sq_of (e2 _ _ (e1 _ _ ha))
  by_cases hlt : i < as.length
  · refine .inr ⟨⟨refsV as, (refsV as)[i]'(by rw [hlen]; exact hlt), sq, by simp [hlen, hlt]⟩, fun H' => i + 1 ≤ as.length ∧ ∃ acc : List Str, H' D = some (.lst (strsV acc)) ∧ acc.length ≤ (i + 1) * 4003 ∧ Ex H1 H', fun H' p' => ⟨as.length - (i + 1), by omega, rfl, p'.1, p'.2⟩, fun x H' y => ?_⟩
    obtain ⟨e, y⟩ := y
    subst e
    have hx := y _ sq
    obtain ⟨b, hb⟩ : ∃ b, as[i]? = some b := ⟨_, List.getElem?_eq_getElem hlt⟩
    have hsl : i < scs.length := by rw [← hs.len]; exact hlt
    have hsc : scs[i]? = some scs[i] := List.getElem?_eq_getElem hsl
    have hxe : x = .ref b := by
      unfold refsV at hx
      rw [List.getElem?_map, hb] at hx
      exact (Option.some.inj hx).symm
    subst hxe
    have hbH := hs.at_ i b _ hb hsc
    have hbl := hB _ (List.getElem_mem hsl)
    generalize scs[i] = sc at *
    have hb1 : H1 b = some (.lst (strsV sc)) := e1 _ _ hbH
    have hbD : b ≠ D := hDa hbH
    refine ⟨rfl, ?_⟩
    dsimp only [tYes]
    rw [if_pos rfl]
    refine ⟨_, rfl, b, rfl, ⟨_, sq_of (e2 _ _ hb1)⟩, ?_⟩
    have hscl : (strsV sc).length = sc.length := strsV_len _
    refine ⟨fun j k H' => k = sc.length - j ∧ j ≤ sc.length ∧ ∃ acc : List Str, H' D = some (.lst (strsV acc)) ∧ acc.length ≤ i * 4003 + j ∧ Ex H1 H', ⟨sc.length, by simp, Nat.zero_le _, acc, hacc, by omega, e2⟩, ?_⟩
    rintro j k H3 ⟨rfl, hj, acc3, hacc3, hal3, e3⟩
    have sq3 : SqL K H3 b (strsV sc) := sq_of (e3 _ _ hb1)
    by_cases hlj : j < sc.length
    · refine .inr ⟨⟨strsV sc, (strsV sc)[j]'(by rw [hscl]; exact hlj), sq3, by simp [hscl, hlj]⟩, fun H' => j + 1 ≤ sc.length ∧ ∃ acc : List Str, H' D = some (.lst (strsV acc)) ∧ acc.length ≤ i * 4003 + (j + 1) ∧ Ex H1 H', fun H' p' => ⟨sc.length - (j + 1), by omega, rfl, p'.1, p'.2⟩, fun x H' y => ?_⟩
      obtain ⟨e, y⟩ := y
      subst e
      have hx := y _ sq3
      obtain ⟨n, hn⟩ : ∃ n, sc[j]? = some n := ⟨_, List.getElem?_eq_getElem hlj⟩
      have hxe : x = .str n := by
        unfold strsV at hx
        rw [List.getElem?_map, hn] at hx
        exact (Option.some.inj hx).symm
      subst hxe
      refine ⟨rfl, ?_⟩
      dsimp only [tYes]
      rw [if_pos rfl]
      refine ⟨_, rfl, strsV acc3, hacc3, ?_, by omega, acc3 ++ [n], ?_, ?_, ex_over hD e3⟩
      · rw [strsV_len]
        have : i * 4003 ≤ 4000 * 4003 := Nat.mul_le_mul_right _ (by omega)
        rw [PySem.sizeLine_eq]
        omega
      · rw [upd_same, strsV_snoc]
      · rw [List.length_append]
        simp
        omega
    · have ej : j = sc.length := by omega
      subst ej
      refine .inl ⟨⟨_, sq3, by rw [hscl]; exact Nat.le_refl _⟩, by omega, acc3, hacc3, ?_, e3⟩
      have : (i + 1) * 4003 = i * 4003 + 4003 := by omega
      omega
  · have ei : i = as.length := by omega
    subst ei
    exact .inl ⟨⟨_, sq, by rw [hlen]; exact Nat.le_refl _⟩, q D acc _ (fresh_back e1 hD) (e1.trans e2) hacc⟩
theorem rn_scope {a0 a1 a2 : Option V} {H : Hp} {tl : TE} {a : Addr} {as : List Addr} {scs : List (List Str)} {Q : VK} (h : Ev tl [a0, a1, a2, none, none, none] H (.ref a)) (ha : H a = some (.lst (refsV as))) (hs : ScAt H as scs) (hz : as.length ≤ 4001) (hB : ∀ sc ∈ scs, sc.length ≤ 4003)
    (q : ∀ v H', Ex H H' → Q v H') :
    tCB (rTupOf K) (tCons (tCB (rSortStr K) (tCons (tLc2 (iList K tl) (gName 4) tYes (iList K (tVar 4)) (gName 5) tYes (tVar 5) [4, 5] [5]) tNil)) tNil) [a0, a1, a2, none, none, none] H Q := by
  unfold tCB tCons tNil
  refine rn_names h ha hs hz hB fun D acc H1 hD e1 h1 => ?_
  refine ⟨D, acc, rfl, sq_of h1, fun p hp => ?_⟩
  refine ⟨p, _, rfl, Or.inl ⟨sq_of upd_same, fun l hl => ?_⟩⟩
  exact q _ _ (e1.trans ((Ex.new hp).trans (Ex.new hl)))
end
end HF
set_option maxRecDepth 100000
set_option maxHeartbeats 2000000
namespace HF
open PySem L2 Evl
def declare (s : Ah) (n : Str) : Ah := { s with scopes := s.scopes.dropLast ++ (match s.scopes.getLast? with | some sc => [sc ++ [n]] | none => []) }
def addRow (s : Ah) (d : Int × List Str) : Ah := { s with funs := s.funs.dropLast ++ (match s.funs.getLast? with | some f => [{ f with rows := f.rows ++ [d] }] | none => []) }
def open1 (s : Ah) (line : Int) (ws : List Str) : Ah := { s with blocks := s.blocks ++ [{ line := line, words := ws, middle := 0 }], scopes := s.scopes ++ [[]] }
def row1 (s : Ah) (line : Int) (ws : List Str) : Ah :=
  if inS (wd ws 0) ["else", "catch", "end"] = true then closeAfter s line (wd ws 0) else if inS (wd ws 0) ["if", "while", "try", "do"] = true then open1 s line ws else s
def row2 (s : Ah) (ws : List Str) : Ah := if inS (wd ws 0) ["let", "call", "get", "catch"] = true then declare s (wd ws 1) else s
def row3 (s : Ah) (ws : List Str) : Ah := if decide (wd ws 0 = "call") = true then askAfter s ws else s
def rowAfter (s : Ah) (line : Int) (ws : List Str) : Ah := addRow (row3 (row2 (row1 s line ws) ws) ws) (line, ws)
structure RowPre (s : Ah) (ws : List Str) : Prop where
  opn : s.opn = true
  ne : ws ≠ []
  wok : WsOk ws
  bl : inS (wd ws 0) ["else", "catch", "end"] = true → s.blocks ≠ []
  sc : s.scopes.length = s.blocks.length + 1
  two : inS (wd ws 0) ["let", "call", "get", "catch"] = true → 2 ≤ ws.length
  three : wd ws 0 = "call" → 3 ≤ ws.length
  z1 : s.scopes.length ≤ 4001
  z2 : s.asked.length ≤ 30000
  z3 : ∀ f ∈ s.funs, f.rows.length ≤ 30000
  z4 : ∀ sc ∈ s.scopes, sc.length ≤ 4003
def spTakeRow (C CR CF : Addr) : Sp := fun vs H Q _ => ∃ (p q : Addr) (line : Int) (ws : List Str) (F : Addr → Prop) (s : Ah), vs = [.ref p, .int line, .ref q] ∧ AhI C CR CF F H p s ∧ H q = some (.tup (strsV ws)) ∧ RowPre s ws ∧ Then C CR CF F H p (rowAfter s line ws) Q
section
variable {K : PySem.W.Frag} {σ : L2.St} {H : Hp} {te ta tb : TE} {D : Ends} {tz : TS}
theorem closeAfter_opn (s : Ah) (line : Int) (w : Str) : (closeAfter s line w).opn = s.opn := by unfold closeAfter closeEnd closeMid; split <;> rfl
theorem closeAfter_asked (s : Ah) (line : Int) (w : Str) : (closeAfter s line w).asked = s.asked := by unfold closeAfter closeEnd closeMid; split <;> rfl
theorem closeAfter_funs (s : Ah) (line : Int) (w : Str) : (closeAfter s line w).funs = s.funs := by unfold closeAfter closeEnd closeMid; split <;> rfl
theorem row1_opn (s : Ah) (line : Int) (ws : List Str) : (row1 s line ws).opn = s.opn := by
  unfold row1
  split
  · exact closeAfter_opn _ _ _
  · split <;> rfl
theorem row1_asked (s : Ah) (line : Int) (ws : List Str) : (row1 s line ws).asked = s.asked := by
  unfold row1
  split
  · exact closeAfter_asked _ _ _
  · split <;> rfl
theorem row1_funs (s : Ah) (line : Int) (ws : List Str) : (row1 s line ws).funs = s.funs := by
  unfold row1
  split
  · exact closeAfter_funs _ _ _
  · split <;> rfl
theorem row2_opn (s : Ah) (ws : List Str) : (row2 s ws).opn = s.opn := by unfold row2 declare; split <;> rfl
theorem row2_asked (s : Ah) (ws : List Str) : (row2 s ws).asked = s.asked := by unfold row2 declare; split <;> rfl
theorem row2_funs (s : Ah) (ws : List Str) : (row2 s ws).funs = s.funs := by unfold row2 declare; split <;> rfl
theorem row3_opn (s : Ah) (ws : List Str) : (row3 s ws).opn = s.opn := by unfold row3 askAfter; split <;> (try split) <;> rfl
theorem row3_funs (s : Ah) (ws : List Str) : (row3 s ws).funs = s.funs := by unfold row3 askAfter; split <;> (try split) <;> rfl
/-- the scopes behind the first step: there is one, and none is longer than before -/
theorem row1_sc {s : Ah} {line : Int} {ws : List Str} (h : RowPre s ws) : (row1 s line ws).scopes ≠ [] ∧ ∀ sc ∈ (row1 s line ws).scopes, sc.length ≤ 4003 := by
  unfold row1
  have hz := h.z4
  have hsc := h.sc
  split
  · rename_i hc
    have hb := h.bl hc
    have hbl : 0 < s.blocks.length := List.length_pos_iff.mpr hb
    unfold closeAfter
    split
    · refine ⟨fun z => ?_, fun sc hs => hz sc (mem_dropLast hs)⟩
      have : s.scopes.dropLast.length = 0 := by
        have z' : s.scopes.dropLast = [] := z
        rw [z']
        rfl
      rw [List.length_dropLast] at this
      omega
    · refine ⟨fun z => ?_, fun sc hs => ?_⟩
      · have z' : s.scopes.dropLast ++ [[]] = ([] : List (List Str)) := z
        simp at z'
      · have hs' : sc ∈ s.scopes.dropLast ++ [[]] := hs
        rcases List.mem_append.mp hs' with q | q
        · exact hz sc (mem_dropLast q)
        · simp at q
          subst q
          exact Nat.zero_le _
  · split
    · refine ⟨fun z => ?_, fun sc hs => ?_⟩
      · have z' : s.scopes ++ [[]] = ([] : List (List Str)) := z
        simp at z'
      · have hs' : sc ∈ s.scopes ++ [[]] := hs
        rcases List.mem_append.mp hs' with q | q
        · exact hz sc q
        · simp at q
          subst q
          exact Nat.zero_le _
    · refine ⟨fun z => ?_, hz⟩
      rw [z] at hsc
      simp at hsc
end
theorem ev_inW {K : PySem.W.Frag} {σ : L2.St} {H : Hp} {ta : TE} {tz : TA} {n : Str} {l : List Str} (h : Ev ta σ H (.str n)) (ha : EvA tz σ H (strsV l)) (hz : l.length ≤ 1000) : Ev (tOp (rIn K false) ta (tTup tz)) σ H (.bl (inS n l)) := by
  rw [← inV_str]
  exact ev_inU (xs := strsV l) h (eu_tup ha (by rw [strsV_len]; omega)) rfl (strsV_flat _)
section
variable {P : Program} {w : World} {K : PySem.W.Frag} {mg : Str → Option Value} {base : Heap} {C CR CF : Addr}
end
end HF
set_option maxRecDepth 100000
set_option maxHeartbeats 2000000
namespace L2
open PySem PySem.Spec PyProof.Rows
/-- d.get(k), d a dict of the module, k a text -/
def tKGet (K : PySem.W.Frag) (d : Addr) (td ty : TE) : TE := fun σ H Q => td σ H fun x H1 => x = .ref d ∧ ty σ H1 fun y H2 => ∃ (z : Str) (r : Option Value) (v : V), y = .str z ∧ PySem.W.nsIn K d z = some r ∧ RelV v (r.getD .none) ∧ Q v H2
section
variable {X : Cx} {o e : Expr} {apos cpos : Pos} {td ty : TE} {d : Addr} {es : Array DictEntry} {n : Nat}
theorem pe_kget (D : KDict X.K X.w d es n) (ho : PE X o td) (he : PE X e ty) (m : M1 X o "get" apos e cpos) : PE X (.Call (.Attribute o "get" apos) [e] [] cpos) (tKGet X.K d td ty) := by
  refine ⟨fun pins s σ H Q I h => ?_⟩
  refine wpAny_Call_method m.base m.few m.line PySem.F.plainAttrs_dict PySem.F.slot_dict_get PySem.F.type_dict_get (thn (ho.run pins s σ H _ I h) fun u s1 ⟨x, H1, I1, rx, ex, q1⟩ => ?_)
  subst ex
  obtain rfl : u = Value.ref d := rx
  refine ⟨kd_type D I1, fun b q => ?_, ?_⟩
  · cases q
    exact ⟨_, I1.kIn _ _ D.at_, rfl⟩
  rw [m.trees]
  refine Calls.callWith_builtin rfl (Calls.evalArgs_plain (Calls.spliced_cons (thn (he.run pins s1 σ H1 _ I1 q1) fun iv s2 ⟨y, H2, I2, ry, z, r, v, ey, en, rv, q2⟩ => Calls.spliced_nil ?_)))
  subst ey
  obtain ⟨t, rfl⟩ := ry
  have mo := PySem.W.mapOf_K (prog := X.prog) (w := X.w) I2.kIn D.at_ D.lit
  refine call_meetsIn PySem.F.slot_dict_get mo.typeIs PySem.F.entry_dict_get (PySem.F.args_dict_get_2 _ _) (meets_dict_get (strKind X.prog X.w) d (PySem.strKind_is X.prog X.w z t) D.low) ⟨_, mo, ?_⟩
  refine ⟨v, H2, I2.tok _, ?_, q2⟩
  rw [PySem.W.find_K D.at_ en]
  exact rv
def tCallB (P : Program) (w : World) (K : PySem.W.Frag) (mg : Str → Option Value) (base : Heap) (k : Nat) (i : Nat) (t : TA) : TE := fun σ H Q => ∃ f sp, σ[i]? = some (some (.ref f)) ∧ Held P w K mg base k f sp ∧ t σ H fun vs H1 => sp vs H1 Q (fun _ _ _ => False)
theorem pe_callB2 {k i : Nat} {x : Str} {p pos : Pos} {es : List Expr} {t : TA} (hr : Room k X.A) (hN : X.N[i]? = some x) (hv : Vis X.env.scope x) (ha : PA X (e :: es) t)
    (hdb : (x == ("__debug__" : Str)) = false := by decide) (hcd : (x == ("__classdict__" : Str)) = false := by decide)
    (he : starEach (e :: es) X.env = (false, eval e X.env) :: starEach es X.env := by rfl) (hpl : (backTo pos (starEach es X.env)).any (·.1) = false := by rfl) : PE X (.Call (.Name x p) (e :: es) [] pos) (tCallB X.prog X.w X.K X.mg X.base k i t) := by
  refine ⟨fun pins s σ H Q I h => ?_⟩
  obtain ⟨f, sp, hs, hS, ht⟩ := h
  obtain ⟨fd, ps, F, hk, hb⟩ := hS.ex
  refine (pe_callL (i := i) (f := f) (sp := sp) (dvs := []) (E := fun _ _ _ => False) F hr hN hv hk hb .nil (fun _ _ _ _ _ _ _ z => z.elim) ha hdb hcd he hpl).run pins s σ H Q I ⟨hs, ?_⟩
  have e0 : (fun (vs : List V) (H1 : Hp) => sp (vs ++ []) H1 Q (fun _ _ _ => False)) = fun vs H1 => sp vs H1 Q (fun _ _ _ => False) := by
    funext vs H1
    rw [List.append_nil]
  show t σ H (fun vs H1 => sp (vs ++ []) H1 Q (fun _ _ _ => False))
  rw [e0]
  exact ht
end
end L2
namespace HF
open PySem L2 Evl
def stTab : List (Str × Str × (Vw → List Str → Bool)) :=
  [("let", "let_stands", gLet), ("set", "set_stands", gSet), ("call", "call_stands", gCall), ("get", "get_stands", gGet), ("keep", "keep_stands", gKeep), ("show", "operand_stands", gOp1), ("give", "operand_stands", gOp1), ("raise", "operand_stands", gOp1),
   ("if", "test_stands", gTest1), ("while", "test_stands", gTest1), ("try", "alone_stands", gAlone), ("do", "alone_stands", gAlone), ("else", "else_stands", gElse), ("catch", "catch_stands", gCatch), ("end", "end_stands", gEnd)]
def gWithin (v : Vw) (ws : List Str) : Bool := match stTab.lookup (wd ws 0) with
  | some g => g.2 v ws
  | none => false
structure TxTab (K : PySem.W.Frag) (w : World) (mg : Str → Option Value) : Prop where
  ex : ∃ d es n, mg "STATEMENTS" = some (.ref d) ∧ KDict K w d es n ∧ (∀ x g, stTab.lookup x = some g → ∃ f, PySem.W.nsIn K d x = some (some (.ref f)) ∧ mg g.1 = some (.ref f)) ∧ ∀ x, stTab.lookup x = none → PySem.W.nsIn K d x = some none
section
variable {P : Program} {w : World} {K : PySem.W.Frag} {mg : Str → Option Value} {base : Heap} {C CR CF : Addr}
theorem held_of {k : Nat} {x : Str} {ps : List Str} {sp : Sp} {f : Addr} (h : Has P w K mg base CX0 k x ps sp) (hm : mg x = some (.ref f)) : Held P w K mg base k f sp := by
  obtain ⟨f', fd, a, b, c, d⟩ := h.ex
  rw [hm] at a
  cases a
  exact ⟨fd, ps, d, b, c⟩
end
end HF
set_option maxRecDepth 100000
set_option maxHeartbeats 2000000
namespace HF
open PySem PySem.Spec PyProof.Rows
/-! ### set(texts), any number below the scan's bound -/
/-- the texts of the first i, each once, in the order in which they come -/
def onceS (ts : List Str) (i : Nat) : List Str := (ts.take i).foldl step_dedup []
theorem step_anyS (u : List Str) (v k : Str) : (step_dedup u v).any (· == k) = (u.any (· == k) || decide (k = v)) := by
  unfold step_dedup
  by_cases c : u.any (· == v) = true
  · rw [if_pos c]
    by_cases e : k = v
    · subst e
      rw [c, decide_eq_true rfl]
      rfl
    · rw [decide_eq_false e, Bool.or_false]
  · rw [if_neg c, List.any_append]
    congr 1
    by_cases e : k = v
    · subst e
      simp
    · have : (v == k) = false := beq_eq_false_iff_ne.mpr (fun z => e z.symm)
      simp [this, e]
theorem step_lenS (u : List Str) (v : Str) : (step_dedup u v).length = if u.any (· == v) = true then u.length else u.length + 1 := by
  unfold step_dedup
  split <;> simp
theorem onceS_next {ts : List Str} {i : Nat} (h : i < ts.length) : onceS ts (i + 1) = step_dedup (onceS ts i) (ts.getD i Str.empty) := by
  unfold onceS
  rw [List.take_add_one, List.getElem?_eq_getElem h, List.foldl_append]
  have : ts.getD i Str.empty = ts[i] := by rw [List.getD_eq_getElem?_getD, List.getElem?_eq_getElem h]; rfl
  rw [this]
  rfl
theorem onceS_le (ts : List Str) : ∀ i, (onceS ts i).length ≤ i := fun i => by
  have q := length_foldl_step_dedup_le (ts.take i) ([] : List Str)
  have : (ts.take i).length ≤ i := by rw [List.length_take]; omega
  unfold onceS
  simp only [List.length_nil] at q
  omega
section
variable {prog : Program} {w : World} {A : Around} {R : Result → Shared → Prop} {I : Addr} {fp wr : List Addr} {G : Array GenState → Array GenState → Prop} {n : Nat} {P : Nat → Value → Prop} {St : Nat → Shared → Prop}
/-- the texts go in, one by one -/
theorem fillS (W : WalksS prog w A.in1 I fp wr G n P St) (D : Addr) (nD : D ∉ fp) (ts : List Str) (hn : ts.length = n) (room : n + 1 < scanBound) (isS : ∀ i v, P i v → ∃ t, v = .str (ts.getD i Str.empty) t) (left : Nat) :
    ∀ (i : Nat) (s0 : Shared), n - i = left → i ≤ n → St i s0 → s0.heap.SetOf (PySem.strKind prog w) D (fun k => (onceS ts i).any (· == k)) (onceS ts i).length →
      (∀ s1, Moved (D :: wr) G s0 s1 → s1.heap.SetOf (PySem.strKind prog w) D (fun k => (onceS ts n).any (· == k)) (onceS ts n).length → R (.ok (.ret .none)) s1) →
      codeAny (model prog w) A (.builtin "set.update.loop" ⟨[.ref D, .ref I], []⟩) R s0 := by
  have nw : D ∉ wr := fun z => nD (W.sub _ z)
  have more : ∀ b ∈ wr, b ∈ D :: wr := fun b z => List.mem_cons_of_mem _ z
  have still : ∀ {u v : Shared} {S : Str → Bool} {c : Nat}, Moved wr G u v → u.heap.SetOf (PySem.strKind prog w) D S c → v.heap.SetOf (PySem.strKind prog w) D S c := fun mv z => by
    obtain ⟨ob, ents, mark, tb, at0, r⟩ := z
    exact ⟨ob, ents, mark, tb, mv.heap D _ nw at0, r⟩
  induction left with
  | zero =>
    intro i s0 e0 le0 here set0 fin
    obtain rfl : i = n := by omega
    refine codeAny_builtin PyProof.Rows.F.entry_set_update_loop ?_
    rw [Around.under_plainId PyProof.Rows.F.plain_set_update_loop _]
    show wpAny _ A.in1 (pyNext (.ref I) >>= _) _ _ s0
    refine wpAny_bind (W.done s0 _ _ here fun s1 mv => ?_)
    show wpAny _ A.in1 (ret Value.none) _ _ s1
    exact wpAny_pure (fin s1 (mv.mono more) (still mv set0))
  | succ left again =>
    intro i s0 e0 le0 here set0 fin
    have lt0 : i < n := by omega
    refine codeAny_builtin PyProof.Rows.F.entry_set_update_loop ?_
    rw [Around.under_plainId PyProof.Rows.F.plain_set_update_loop _]
    show wpAny _ A.in1 (pyNext (.ref I) >>= _) _ _ s0
    refine wpAny_bind (W.item i s0 _ _ lt0 here fun v s1 pv here1 mv => ?_)
    obtain ⟨tk, rfl⟩ := isS i v pv
    have set1 := still mv set0
    show wpAny _ A.in1 (holding [Value.str (ts.getD i Str.empty) tk] (setAdd D (.str (ts.getD i Str.empty) tk)) >>= _) _ _ s1
    refine wpAny_bind (wpAny_holding ?_)
    unfold setAdd
    refine wpAny_holding ?_
    refine wpAny_bind ((PySem.strKind prog w).pyHash (k := ts.getD i Str.empty) (strKind_is _ _ _ _) ?_)
    have fits : (onceS ts i).length + 1 < scanBound := by have := onceS_le ts i; omega
    refine wpAny_setAddHashed_of (knd := PySem.strKind prog w) (s := { s1 with toks := s1.toks + 1 }) (strKind_is _ _ _ _) rfl set1 fits fun hp2 only set2 => ?_
    have set3 : hp2.SetOf (PySem.strKind prog w) D (fun k => (onceS ts (i + 1)).any (· == k)) (onceS ts (i + 1)).length :=
      SetOf_congr set2 (fun k => by rw [onceS_next (by omega), step_anyS]) (by rw [onceS_next (by omega), step_lenS])
    refine wpAny_pure ⟨plainId_quiet PyProof.Rows.F.plain_set_update_loop _, again (i + 1) _ (by omega) lt0 (W.frame _ s1 _ _ here1 (Nat.le_succ _) fun b z o e => ?_) set3 fun s2 mv2 set4 => ?_⟩
    · rw [only.2 b (fun q : b = D => nD (q ▸ z))]
      exact e
    · refine fin s2 (Moved.trans W.gtrans ((mv.mono more).then_heap (Nat.le_succ _) fun b o z e => ?_) mv2) set4
      rw [only.2 b (fun q : b = D => z (by rw [q]; exact List.mem_cons_self))]
      exact e
end
/-- an empty set, new -/
def freshSet (led : Bool) : Obj := { cls := .type "set", dict := none, data := .set #[] 0 (.fresh 0 0 led) }
section
variable {prog : Program} {w : World} {A : Around} {E : Value → Shared → Prop} {s : Shared}
set_option maxHeartbeats 3200000 in
theorem set_of_tup {l : Addr} {its : Array Value} {ts : List Str} {Q : Value → Shared → Prop} (calm : A.handled = none) (tl0 : s.heap.IsTuple l its) (sa : PyProof.Rows.StrsAre its.toList ts) (room : ts.length + 1 < scanBound)
    (fin : ∀ (hz : Heap) (tk : Nat), hz.SetOf (PySem.strKind prog w) s.heap.objs.size (fun k => (onceS ts ts.length).any (· == k)) (onceS ts ts.length).length →
      (∀ b o, b < s.heap.objs.size → s.heap.get? b = some o → hz.get? b = some o) → Q (.ref s.heap.objs.size) { s with heap := hz, toks := tk }) : wpAny (model prog w) A (call (.type "set") [.ref l]) Q E s := by
  obtain ⟨cc, rest0, mro0⟩ := PySem.F.called_set.mro
  have made0 := PySem.F.called_set.made
  have sub0 := PySem.F.called_set.sub
  refine wpAny_call (codeAny_of_tree ?_)
  show wpAny _ _ (callAny (.type "set") _) _ _ _
  refine wpAny_pure ⟨Code.quiet_builtin _ (by decide +kernel), codeAny_builtin PySem.F.entry_type_call ?_⟩
  rw [Around.under_plain (weight_type_call_type "set" [.ref l] []) rfl]
  have a1 := PySem.F.called_set.notType
  have a2 := PySem.F.called_set.canCreate
  have a3 := PySem.F.typeCall_set_1 (.ref l)
  repeat (any_goals (first | assumption | wp_step))
  refine codeAny_mono (code_set_new_1 (.ref l) (E := E) (Q₁ := fun x s9 => ∃ led : Bool, x = .ref s.heap.objs.size ∧ s9 = { s with heap := s.heap.push (freshSet led) }) fun led => ⟨led, rfl, rfl⟩) fun r s9 hr => ?_
  cases r with
  | error e => exact hr
  | ok fl =>
    cases fl with
    | ret x9 =>
      obtain ⟨led, rfl, rfl⟩ := hr
      have at0 : (s.heap.push (freshSet led)).get? s.heap.objs.size = some (freshSet led) := Heap.get?_push_size _ rfl
      have ty0 : Shared.TypeIs { s with heap := s.heap.push (freshSet led) } (.ref s.heap.objs.size) "set" := ⟨_, at0, rfl⟩
      have i1 := PySem.F.called_set.init.lookup
      have i2 := PySem.F.called_set.init.bind (.ref s.heap.objs.size)
      repeat (any_goals (first | assumption | wp_step))
      refine codeAny_mono (codeAny_call_builtin (R := wants (fun r z9 => r = .none ∧ ∃ hz tk, z9 = { s with heap := hz, toks := tk } ∧ hz.SetOf (PySem.strKind prog w) s.heap.objs.size (fun k => (onceS ts ts.length).any (· == k)) (onceS ts ts.length).length ∧
          (∀ b o, b < s.heap.objs.size → s.heap.get? b = some o → hz.get? b = some o)) E) PySem.F.called_set.init.plain PySem.F.entry_set_init (check_set_init_1 ty0 ?_)) fun r2 z9 hr2 => ?_
      · obtain ⟨⟨c9, d9, data9, sl9⟩, at1, cl1, n9, dt1⟩ := tl0
        simp only at cl1 dt1
        subst cl1
        subst dt1
        have at2 : (s.heap.push (freshSet led)).get? l = some { cls := .type "tuple", dict := d9, data := .seq its n9, slots := sl9 } := Heap.get?_push_of_some _ at1
        have b1 := PySem.F.sub_tuple_set
        have b2 := PySem.F.sub_tuple_frozenset
        have b3 : (Value.type "tuple" == Value.type "dict") = false := by decide
        have tup2 : (s.heap.push (freshSet led)).IsTuple l its := ⟨_, at2, rfl, n9, rfl⟩
        have at0' : (s.heap.push (freshSet led)).get? s.heap.objs.size = some { cls := .type "set", dict := none, data := .set #[] 0 (.fresh 0 0 led) } := at0
        unfold Builtin.«set.__init__» noKeywords Builtin.Frozenset.updateFrom
        generalize gen0 : pyIter = PI
        wp_walk
        subst gen0
        refine wpAny_pyIter_tuple tup2 (wpAny_bind (wpAny_runValue ?_))
        have lt1 : l < s.heap.objs.size := Heap.lt_size at1
        have calm3 : A.in1.in1.in1.handled = none := by simp [calm]
        have ne1 : l ≠ (s.heap.push (freshSet led)).objs.size := by rw [Heap.size_push]; exact Nat.ne_of_lt (Nat.lt_succ_of_lt lt1)
        have out1 : s.heap.objs.size ∉ [(s.heap.push (freshSet led)).objs.size, l] := by
          rw [Heap.size_push]
          simp only [List.mem_cons, List.not_mem_nil, or_false, not_or]
          exact ⟨Nat.ne_of_lt (Nat.lt_succ_self _), Nat.ne_of_gt lt1⟩
        have sz1 : ts.length = its.size := by rw [← StrsAre.len_eq sa, Array.length_toList]
        have isS : ∀ (i : Nat) (v : Value), its[i]? = some v → ∃ t, v = .str (ts.getD i Str.empty) t := fun i v hv => SS.strs_at sa i v (by rw [Array.getElem?_toList]; exact hv)
        have at3 : ((s.heap.push (freshSet led)).push { cls := .type "tuple_iterator", data := .fields #[.ref l, .int 0 0] }).get? s.heap.objs.size = some (freshSet led) := Heap.get?_push_of_some _ at0
        refine fillS ((Walks.tuple calm3 _ l ne1 its).toS) s.heap.objs.size out1 ts sz1 (by rw [← sz1]; exact room) isS (its.size - 0) 0 _ (by omega) (Nat.zero_le _) ⟨⟨_, Heap.get?_push_size _ rfl, rfl, rfl⟩, (tup2.push _)⟩
          (SetOf_congr ((setObjOf_fresh (knd := PySem.strKind prog w) led).setOf at3 (by unfold scanBound; omega)) (fun _ => rfl) rfl) fun s8 mv8 set8 => ?_
        obtain ⟨hz, g8, d8, tk8, os8⟩ := s8
        obtain rfl : g8 = s.gens := mv8.gens
        obtain rfl : d8 = s.drawn := mv8.drawn
        obtain rfl : os8 = s.os := mv8.os
        show wpAny _ _ _ _ _ _
        refine wpAny_pure ?_
        show wpAny _ _ (ret Value.none) _ _ _
        refine wpAny_pure ⟨rfl, hz, tk8, rfl, by rw [sz1]; exact set8, fun b o lt e => ?_⟩
        refine mv8.heap b o ?_ (Heap.get?_push_of_some _ (Heap.get?_push_of_some _ e))
        rw [Heap.size_push]
        simp only [List.mem_cons, List.not_mem_nil, or_false, not_or]
        exact ⟨Nat.ne_of_lt lt, Nat.ne_of_lt (Nat.lt_succ_of_lt lt)⟩
      · cases r2 with
        | error e => exact hr2
        | ok fl2 =>
          cases fl2 with
          | ret r =>
            obtain ⟨rfl, hz, tk, rfl, g1, g2⟩ := hr2
            repeat (any_goals (first | assumption | wp_step))
            exact fin _ _ g1 g2
          | _ => exact hr2.elim
    | _ => exact hr.elim
end
end HF
set_option maxRecDepth 100000
set_option maxHeartbeats 2000000
namespace L2
open PySem PySem.Spec PyProof.Rows
def tLenSetS (K : PySem.W.Frag) (ta : TE) : TE := fun σ H Q => ta σ H fun x H1 => ∃ (l : Addr) (ts : List Str), x = .ref l ∧ SqT K H1 l (ts.map V.str) ∧ ts.length ≤ 4000 ∧ Q (.int ((HF.onceS ts ts.length).length : Nat)) H1
theorem pe_lenSetS {X : Cx} {a : Expr} {ta : TE} {p p2 q pos : Pos} (hg : Gl X "len") (hm : X.mg "len" = none) (hg2 : Gl X "set") (hm2 : X.mg "set" = none) (ha : PE X a ta) (calm : X.calm = true := by rfl)
    (na : starEach [a] X.env = (false, eval a X.env) :: starEach [] X.env := by rfl) : PE X (.Call (.Name "len" p) [.Call (.Name "set" p2) [a] [] q] [] pos) (tLenSetS X.K ta) := by
  refine ⟨fun pins s σ H Q I h => Call_ (ld_blt I hg hm boot_len ?_)⟩
  refine PyProof.Rows.callWith_builtin1 (PyProof.Rows.args_cons (Call_ (ld_blt I hg2 hm2 boot_set ?_)) rfl) rfl rfl
  refine PyProof.Rows.callWith_type1 (PyProof.Rows.args_cons (thn (ha.run pins s σ H _ I h) fun v s9 ⟨x, H9, I9, r9, q9⟩ => PyProof.Rows.args_nil ?_) na) na rfl
  obtain ⟨l, ts, rfl, hq, hz, q9⟩ := q9
  cases r9
  obtain ⟨its, rv, tp, _⟩ := I9.tuple hq
  refine HF.set_of_tup (I9.ok.hd calm) tp (by simpa using strsAre_of rv) (by unfold scanBound; omega) fun hz9 tk9 set9 keep9 => PyProof.Rows.args_nil ?_
  obtain ⟨ob, ents, ep, tb, at9, ex9, dt9, _, _, _, ft9, nn9⟩ := set9
  have I8 : Inv X pins σ H9 { s9 with heap := hz9, toks := tk9 } := I9.kept fun b o e => keep9 b o (Heap.lt_size e) e
  have le9 := HF.onceS_le ts ts.length
  exact call_len_set at9 ex9 dt9 ft9 (by rw [nn9]; omega) ⟨.int ((HF.onceS ts ts.length).length : Nat), H9, I8.tok _, ⟨_, by rw [nn9]⟩, q9⟩
end L2
namespace HF
open PySem L2 Evl
def distinct (ts : List Str) : Bool := decide ((onceS ts ts.length).length = ts.length)
section
variable {K : PySem.W.Frag} {σ : L2.St} {H : Hp} {t : TT} {te ta tb tc tu tv : TE} {x y z v : V} {D : Ends} {tz : TS}
theorem ev_lenSetS {l : Addr} {ts : List Str} (h : Ev ta σ H (.ref l)) (hl : SqT K H l (strsV ts)) (hz : ts.length ≤ 4000) : Ev (tLenSetS K ta) σ H (.int ((onceS ts ts.length).length : Nat)) := fun H1 e Q q =>
  h H1 e _ fun H2 e2 => ⟨l, ts, rfl, ex_t (e.trans e2) hl, hz, q H2 e2⟩
/-- ahead.is_free(e, []) -/
theorem ev_freeN {C p : Addr} {cells : List (Str × Str)} {n : Str} {dx : Addr} {fs : List (Str × V)} (ha : Ev ta σ H (.ref p)) (ho : H p = some (.ins C dx fs)) (hl : fs.lookup ("is_free" : Str) = none) (hA : AhC C H p cells) (hn : Ev te σ H (.str n)) (hz : n.length ≤ 60000) :
    Ev (tMeth C "is_free" (spFree C) [] E0 ta (tCons te (tCons (tLst tNil) tNil))) σ H (.bl (isFree cells n [])) := fun H1 e Q q =>
  ha H1 e _ fun H2 e2 => ⟨p, dx, fs, rfl, (e.trans e2) _ _ ho, hl, hn H2 (e.trans e2) _ fun H3 e3 => ⟨by show 0 ≤ sizeLine; decide, fun l hl3 =>
    ⟨p, l, n, cells, [], [], rfl, hA.mono ((e.trans (e2.trans e3)).trans (Ex.new hl3)), upd_same, ScAt.nil, hz, by show 0 ≤ 30000; decide, fun H4 e4 => q H4 (e2.trans (e3.trans ((Ex.new hl3).trans e4)))⟩⟩⟩
theorem AhA.cc {C CR CF : Addr} {F : Addr → Prop} {p : Addr} {s : Ah} {A : Ad} (h : AhA C CR CF F H p s A) : AhC C H p s.cells := ⟨A.dx, A.tw, _, A.dc, A.df, _, A.lb, _, A.da, h.o, h.c⟩
end
structure TxRead (K : PySem.W.Frag) (mg : Str → Option Value) : Prop where
  set : mg "set" = none
  enumerate : mg "enumerate" = none
  tuple : mg "tuple" = none
/-- a truth is handed back, s' is read, F stands -/
def ThenB (C CR CF : Addr) (F : Addr → Prop) (H : Hp) (p : Addr) (b : Bool) (s' : Ah) (Q : VK) : Prop := ∀ H', AhI C CR CF F H' p s' → KeepF F H H' → Q (.bl b) H'
def gFirst (ws : List Str) : Bool := decide (ws.length = 2) && (decide (wd ws 0 = "unit") && isName (wd ws 1))
def gCell (s : Ah) (ws : List Str) : Bool :=
  if ((!decide (ws.length = 3)) || ((!decide (wd ws 0 = "cell")) || !s.funs.isEmpty)) = true then false else isName (wd ws 1) && ((!hasCell s.cells (wd ws 1)) && inS (wd ws 2) s.words)
def gFn (s : Ah) (ws : List Str) : Bool :=
  if ((!(decide ((2 : Int) ≤ (ws.length : Int)) && decide ((ws.length : Int) ≤ 5))) || !inS (wd ws 0) ["open", "local"]) = true then false
  else if ((!isName (wd ws 1)) || inS (wd ws 1) (s.funs.map (·.name))) = true then false
  else distinct (ws.drop 2) && (ws.drop 2).all fun n => isFree s.cells n []
structure LinePre (s : Ah) (ws : List Str) : Prop where
  ne : ws ≠ []
  wok : WsOk ws
  z1 : s.cells.length ≤ 30000
  z2 : s.funs.length ≤ 30000
def spStandA (C CR CF : Addr) (g : Ah → List Str → Bool) : Sp := fun vs H Q _ => ∃ (p q : Addr) (ws : List Str) (F : Addr → Prop) (s : Ah) (A : Ad), vs = [.ref p, .ref q] ∧ AhA C CR CF F H p s A ∧ H q = some (.tup (strsV ws)) ∧ LinePre s ws ∧ RetV (.bl (g s ws)) H Q
def spFirst : Sp := fun vs H Q _ => ∃ (q : Addr) (ws : List Str), vs = [.ref q] ∧ H q = some (.tup (strsV ws)) ∧ ws ≠ [] ∧ WsOk ws ∧ RetV (.bl (gFirst ws)) H Q
section
variable {P : Program} {w : World} {K : PySem.W.Frag} {mg : Str → Option Value} {base : Heap} {C CR CF : Addr}
theorem funsV_empty (gs : List FG) : (funsV gs).isEmpty = (gs.map (·.d)).isEmpty := by cases gs <;> rfl
end
end HF
set_option maxRecDepth 100000
set_option maxHeartbeats 2000000
namespace HF
open PySem L2 Evl
/-! ### a line, by what is read ahead of it -/
def vwOf (s : Ah) : Vw := { words := s.words, name := s.name, cells := s.cells, params := (match s.funs.getLast? with | some f => f.params | none => []), blocks := s.blocks, scopes := s.scopes, asked := s.asked }
def takeOut (s : Ah) (ws : List Str) : Bool × Ah :=
  if gCell s ws = true then (true, { s with cells := s.cells ++ [(wd ws 1, wd ws 2)] })
  else if gFn s ws = true then (true, { s with funs := s.funs ++ [newFn ws], opn := true, scopes := [ws.drop 2] }) else (false, s)
def takeIn (s : Ah) (line : Int) (ws : List Str) : Ah := if wd ws 0 = "end" ∧ s.blocks = [] then { s with opn := false, scopes := [] } else rowAfter s line ws
def takeLine (s : Ah) (line : Int) (ws : List Str) : Bool × Ah :=
  if line = 1 then (gFirst ws, if gFirst ws = true then { s with name := wd ws 1 } else s)
  else if s.opn = false then takeOut s ws
  else if gWithin (vwOf s) ws = true then (true, takeIn s line ws) else (false, s)
/-- sizes, behind n lines -/
structure LI (s : Ah) (n : Nat) : Prop where
  nm : s.name.length ≤ 20000
  c : s.cells.length ≤ n
  f : s.funs.length ≤ n
  a : s.asked.length ≤ n
  b : s.blocks.length ≤ n
  o : s.opn = true → s.scopes.length = s.blocks.length + 1
  cl : s.opn = false → s.blocks = [] ∧ s.scopes = []
  r : ∀ f ∈ s.funs, f.rows.length ≤ n
  sc : ∀ x ∈ s.scopes, x.length ≤ n + 3
  bw : ∀ d ∈ s.blocks, d.words ≠ []
  rw_ : ∀ f ∈ s.funs, ∀ d ∈ f.rows, d.2 ≠ [] ∧ WsOk d.2 ∧ (wd d.2 0 = "call" → 3 ≤ d.2.length)
theorem gWithin_at {v : Vw} {ws : List Str} {x : Str} {g : Str × (Vw → List Str → Bool)} (h : wd ws 0 = x) (hl : stTab.lookup x = some g) : gWithin v ws = g.2 v ws := by
  unfold gWithin
  rw [h, hl]
theorem in4 {n a b c d : Str} (h : inS n [a, b, c, d] = true) : n = a ∨ n = b ∨ n = c ∨ n = d := by
  have := (inS_iff n [a, b, c, d]).mp h
  simpa using this
theorem in3 {n a b c : Str} (h : inS n [a, b, c] = true) : n = a ∨ n = b ∨ n = c := by
  have := (inS_iff n [a, b, c]).mp h
  simpa using this
theorem gWithout_ne {v : Vw} {w : Str} (h : gWithout v w = true) : v.blocks ≠ [] := by
  intro z
  unfold gWithout at h
  rw [z] at h
  cases h
theorem gCatch_len {v : Vw} {ws : List Str} (h : gCatch v ws = true) : ws.length = 2 ∧ gWithout v "try" = true := by
  unfold gCatch at h
  split at h
  · cases h
  · rename_i q
    simp only [Bool.or_eq_true, Bool.not_eq_true', not_or, decide_eq_false_iff_not, Decidable.not_not, Bool.not_eq_false] at q
    exact q
theorem gCall_len {v : Vw} {ws : List Str} (h : gCall v ws = true) : 3 ≤ ws.length := by
  unfold gCall at h
  split at h
  · cases h
  · rename_i q
    simp only [Bool.or_eq_true, Bool.not_eq_true', Bool.and_eq_false_iff, decide_eq_false_iff_not, not_or] at q
    omega
theorem within_two {v : Vw} {ws : List Str} (h : gWithin v ws = true) (hw : inS (wd ws 0) ["let", "call", "get", "catch"] = true) : 2 ≤ ws.length := by
  rcases in4 hw with e | e | e | e
  · rw [gWithin_at (g := ("let_stands", gLet)) e (by kernel_rfl)] at h
    have h : gLet v ws = true := h
    unfold gLet at h
    simp only [Bool.and_eq_true, decide_eq_true_eq] at h
    omega
  · rw [gWithin_at (g := ("call_stands", gCall)) e (by kernel_rfl)] at h
    have := gCall_len h
    omega
  · rw [gWithin_at (g := ("get_stands", gGet)) e (by kernel_rfl)] at h
    have h : gGet v ws = true := h
    unfold gGet at h
    simp only [Bool.and_eq_true, decide_eq_true_eq] at h
    omega
  · rw [gWithin_at (g := ("catch_stands", gCatch)) e (by kernel_rfl)] at h
    have := (gCatch_len h).1
    omega
theorem within_three {v : Vw} {ws : List Str} (h : gWithin v ws = true) (hw : wd ws 0 = "call") : 3 ≤ ws.length := by
  rw [gWithin_at (g := ("call_stands", gCall)) hw (by kernel_rfl)] at h
  exact gCall_len h
theorem within_bl {v : Vw} {ws : List Str} (h : gWithin v ws = true) (hw : inS (wd ws 0) ["else", "catch", "end"] = true) (hb : ¬(wd ws 0 = "end" ∧ v.blocks = [])) : v.blocks ≠ [] := by
  rcases in3 hw with e | e | e
  · rw [gWithin_at (g := ("else_stands", gElse)) e (by kernel_rfl)] at h
    have h : gElse v ws = true := h
    unfold gElse at h
    simp only [Bool.and_eq_true, decide_eq_true_eq] at h
    exact gWithout_ne h.2
  · rw [gWithin_at (g := ("catch_stands", gCatch)) e (by kernel_rfl)] at h
    exact gWithout_ne (gCatch_len h).2
  · exact fun z => hb ⟨e, z⟩
theorem LI.pre {s : Ah} {n : Nat} {ws : List Str} (h : LI s n) (hn : n ≤ 4000) (ho : s.opn = true) (hw : WsOk ws) (ne : ws ≠ []) (hg : gWithin (vwOf s) ws = true) (hb : ¬(wd ws 0 = "end" ∧ s.blocks = [])) : RowPre s ws where
  opn := ho
  ne := ne
  wok := hw
  bl := fun z => within_bl hg z hb
  sc := h.o ho
  two := fun z => within_two hg z
  three := fun z => within_three hg z
  z1 := by have := h.o ho; have := h.b; omega
  z2 := by have := h.a; omega
  z3 := fun f hf => by have := h.r f hf; omega
  z4 := fun x hx => by have := h.sc x hx; omega
theorem LI.vw {s : Ah} {n : Nat} (h : LI s n) (hn : n ≤ 4000) (ho : s.opn = true) : VwOk (vwOf s) where
  sc := by
    show s.scopes.length ≤ 30000
    have := h.o ho; have := h.b; omega
  bl := by
    show s.blocks.length ≤ 30000
    have := h.b; omega
  bw := h.bw
def gStands (s : Ah) (line : Int) (ws : List Str) : Bool := if line = 1 then gFirst ws else if s.opn = false then gCell s ws || gFn s ws else gWithin (vwOf s) ws
theorem gCell_is {s : Ah} {ws : List Str} (h : gCell s ws = true) : ws.length = 3 ∧ hasCell s.cells (wd ws 1) = false := by
  unfold gCell at h
  split at h
  · cases h
  · rename_i z
    simp only [Bool.or_eq_true, Bool.not_eq_true', not_or, decide_eq_false_iff_not, Decidable.not_not] at z
    simp only [Bool.and_eq_true, Bool.not_eq_true'] at h
    exact ⟨z.1, h.2.1⟩
theorem gCell_w {s : Ah} {ws : List Str} (h : gCell s ws = true) : wd ws 0 = "cell" := by
  unfold gCell at h
  split at h
  · cases h
  · rename_i z
    simp only [Bool.or_eq_true, Bool.not_eq_true', not_or, decide_eq_false_iff_not, Decidable.not_not] at z
    exact z.2.1
theorem gFn_is {s : Ah} {ws : List Str} (h' : gFn s ws = true) : 2 ≤ ws.length ∧ inS (wd ws 1) (s.funs.map (·.name)) = false := by
  unfold gFn at h'
  split at h'
  · cases h'
  · rename_i z
    split at h'
    · cases h'
    · rename_i z'
      simp only [Bool.or_eq_true, Bool.not_eq_true', Bool.and_eq_false_iff, decide_eq_false_iff_not, not_or] at z
      simp only [Bool.or_eq_true, not_or, Bool.not_eq_true] at z'
      exact ⟨by omega, z'.2⟩
theorem gFn_w {s : Ah} {ws : List Str} (h' : gFn s ws = true) : inS (wd ws 0) ["open", "local"] = true := by
  unfold gFn at h'
  split at h'
  · cases h'
  · rename_i z
    simp only [Bool.or_eq_true, Bool.not_eq_true', not_or, Bool.not_eq_false] at z
    exact z.2
theorem within_no {v : Vw} {ws : List Str} {x : Str} (h : wd ws 0 = x) (hl : stTab.lookup x = none) : gWithin v ws = false := by
  unfold gWithin
  rw [h, hl]
theorem stands_cell {s : Ah} {ws : List Str} (h : (if s.opn = false then gCell s ws || gFn s ws else gWithin (vwOf s) ws) = true) (w : wd ws 0 = "cell") : s.opn = false ∧ gCell s ws = true := by
  cases ho : s.opn with
  | true =>
    rw [ho, if_neg Bool.noConfusion, within_no w (by kernel_rfl)] at h
    cases h
  | false =>
    rw [ho, if_pos rfl] at h
    refine ⟨rfl, ?_⟩
    cases hc : gCell s ws with
    | true => rfl
    | false =>
      rw [hc, Bool.false_or] at h
      have := gFn_w h
      rw [w] at this
      exact absurd this (by decide +kernel)
theorem stands_fn {s : Ah} {ws : List Str} (h : (if s.opn = false then gCell s ws || gFn s ws else gWithin (vwOf s) ws) = true) (w : inS (wd ws 0) ["open", "local"] = true) : s.opn = false ∧ gCell s ws = false ∧ gFn s ws = true := by
  have w2 : wd ws 0 = "open" ∨ wd ws 0 = "local" := by
    have := (inS_iff (wd ws 0) ["open", "local"]).mp w
    simpa using this
  cases ho : s.opn with
  | true =>
    rw [ho, if_neg Bool.noConfusion] at h
    rcases w2 with w | w
    · rw [within_no w (by kernel_rfl)] at h
      cases h
    · rw [within_no w (by kernel_rfl)] at h
      cases h
  | false =>
    rw [ho, if_pos rfl] at h
    refine ⟨rfl, ?_⟩
    cases hc : gCell s ws with
    | true =>
      have := gCell_w hc
      rcases w2 with w | w
      · rw [w] at this
        exact absurd this (by decide +kernel)
      · rw [w] at this
        exact absurd this (by decide +kernel)
    | false =>
      rw [hc, Bool.false_or] at h
      exact ⟨rfl, h⟩
theorem stands_in {s : Ah} {ws : List Str} (h : (if s.opn = false then gCell s ws || gFn s ws else gWithin (vwOf s) ws) = true) (w : ¬ wd ws 0 = "cell") (w2 : inS (wd ws 0) ["open", "local"] = false) : s.opn = true ∧ gWithin (vwOf s) ws = true := by
  cases ho : s.opn with
  | true =>
    rw [ho, if_neg Bool.noConfusion] at h
    exact ⟨rfl, h⟩
  | false =>
    rw [ho, if_pos rfl] at h
    rcases Bool.or_eq_true _ _ ▸ h with h | h
    · exact absurd (gCell_w h) w
    · rw [gFn_w h] at w2
      cases w2
theorem takeLine_not {s : Ah} {line : Int} {ws : List Str} (h : gStands s line ws = false) : takeLine s line ws = (false, s) := by
  unfold gStands at h
  unfold takeLine
  by_cases h1 : line = 1
  · rw [if_pos h1] at h ⊢
    rw [h, if_neg Bool.false_ne_true]
  · rw [if_neg h1] at h ⊢
    by_cases ho : s.opn = false
    · rw [if_pos ho] at h ⊢
      have h' := Bool.or_eq_false_iff.mp h
      unfold takeOut
      rw [h'.1, h'.2, if_neg Bool.false_ne_true, if_neg Bool.false_ne_true]
    · rw [if_neg ho] at h ⊢
      rw [h, if_neg Bool.false_ne_true]
theorem takeLine_yes {s : Ah} {line : Int} {ws : List Str} (h : gStands s line ws = true) : takeLine s line ws = (true, (takeLine s line ws).2) := by
  have : (takeLine s line ws).1 = true := by
    unfold gStands at h
    unfold takeLine
    by_cases h1 : line = 1
    · rw [if_pos h1] at h ⊢
      exact h
    · rw [if_neg h1] at h ⊢
      by_cases ho : s.opn = false
      · rw [if_pos ho] at h ⊢
        unfold takeOut
        cases hc : gCell s ws with
        | true => rw [if_pos rfl]
        | false =>
          rw [hc, Bool.false_or] at h
          rw [if_neg Bool.false_ne_true, if_pos h]
      · rw [if_neg ho] at h ⊢
        rw [if_pos h]
  rw [← this]
section
variable {K : PySem.W.Frag} {C CR CF : Addr} {F : Addr → Prop} {H : Hp} {p : Addr} {s : Ah} {A : Ad} {σ : L2.St} {ta : TE} {v : V}
theorem AhA.view (h : AhA C CR CF F H p s A) (ho : s.opn = true) (hv : VwOk (vwOf s)) : AhV C CR CF H p (vwOf s) := by
  obtain ⟨gs0, g, fs0, hg, hf, hc, gm⟩ := h.cur ho
  obtain ⟨dxf, l1, l2, tp, g1, g2⟩ := (h.gf g gm).ex
  have ho' := h.o
  rw [hc] at ho'
  refine ⟨hv, A.dx, A.tw, A.dc, A.df, g.fa, A.lb, A.ls, A.da, A.as, A.rs, ho', h.w, h.c, h.sc, h.sa, h.b, h.br, h.k, dxf, l1, l2, _, _, tp, _, g1, ?_⟩
  show H tp = some (.tup (strsV (match s.funs.getLast? with | some f => f.params | none => [])))
  rw [hf, List.getLast?_append]
  exact g2
theorem et_truth {b : Bool} (h : Ev ta σ H v) (ht : ∀ H1, Ex H H1 → TruV K v H1 b) : EvT (fun σ H Q => ta σ H fun x H' => ∃ k, TruV K x H' k ∧ Q k H') σ H b := fun H1 e Q q =>
  h H1 e _ fun H2 e2 => ⟨b, ht H2 (e.trans e2), q H2 e2⟩
end
def spStands (C CR CF : Addr) : Sp := fun vs H Q _ => ∃ (p q : Addr) (line : Int) (ws : List Str) (F : Addr → Prop) (s : Ah) (A : Ad) (n : Nat), vs = [.ref p, .int line, .ref q] ∧ AhA C CR CF F H p s A ∧ H q = some (.tup (strsV ws)) ∧ ws ≠ [] ∧ WsOk ws ∧ LI s n ∧ n ≤ 4000 ∧ RetV (.bl (gStands s line ws)) H Q
def spTakeL (C CR CF : Addr) : Sp := fun vs H Q _ => ∃ (p q : Addr) (line : Int) (ws : List Str) (F : Addr → Prop) (s : Ah) (n : Nat), vs = [.ref p, .int line, .ref q] ∧ AhI C CR CF F H p s ∧ H q = some (.tup (strsV ws)) ∧ ws ≠ [] ∧ WsOk ws ∧ LI s n ∧ n ≤ 4000 ∧ gStands s line ws = true ∧ Then C CR CF F H p (takeLine s line ws).2 Q
def spLine (C CR CF : Addr) (g : Ah → Int → List Str → Bool × Ah) : Sp := fun vs H Q _ => ∃ (p q : Addr) (line : Int) (ws : List Str) (F : Addr → Prop) (s : Ah) (n : Nat), vs = [.ref p, .int line, .ref q] ∧ AhI C CR CF F H p s ∧ H q = some (.tup (strsV ws)) ∧ ws ≠ [] ∧ WsOk ws ∧ LI s n ∧ n ≤ 4000 ∧
  ThenB C CR CF F H p (g s line ws).1 (g s line ws).2 Q
section
variable {P : Program} {w : World} {K : PySem.W.Frag} {mg : Str → Option Value} {base : Heap} {C CR CF : Addr}
theorem li_pre {s : Ah} {n : Nat} {ws : List Str} (hL : LI s n) (hn : n ≤ 4000) (ne : ws ≠ []) (hw : WsOk ws) : LinePre s ws := ⟨ne, hw, by have := hL.c; omega, by have := hL.f; omega⟩
end
end HF
set_option maxRecDepth 100000
set_option maxHeartbeats 2000000
namespace HF
open PySem L2 Evl
/-! ### sizes, line by line -/
theorem LI.le {s : Ah} {n m : Nat} (h : LI s n) (e : n ≤ m) : LI s m :=
  { nm := h.nm, c := Nat.le_trans h.c e, f := Nat.le_trans h.f e, a := Nat.le_trans h.a e, b := Nat.le_trans h.b e, o := h.o, cl := h.cl, r := fun f hf => Nat.le_trans (h.r f hf) e, sc := fun x hx => by have := h.sc x hx; omega, bw := h.bw, rw_ := h.rw_ }
theorem askedPut_len (l : List ((Str × Str) × Int)) (k : Str × Str) (m : Int) : (askedPut l k m).length ≤ l.length + 1 := by
  unfold askedPut
  split
  · rw [List.length_map]
    omega
  · rw [List.length_append]
    exact Nat.le_refl _
theorem li_first {s : Ah} {n : Nat} {ws : List Str} (h : LI s n) (hw : WsOk ws) : LI { s with name := wd ws 1 } n :=
  { nm := hw.wd 1, c := h.c, f := h.f, a := h.a, b := h.b, o := h.o, cl := h.cl, r := h.r, sc := h.sc, bw := h.bw, rw_ := h.rw_ }
theorem li_out {s : Ah} {n : Nat} {ws : List Str} (h : LI s n) (ho : s.opn = false) (hg : (takeOut s ws).1 = true) : LI (takeOut s ws).2 (n + 1) := by
  obtain ⟨hb, hs⟩ := h.cl ho
  unfold takeOut at hg ⊢
  by_cases c : gCell s ws = true
  · rw [if_pos c] at hg ⊢
    exact { nm := h.nm, c := by show (s.cells ++ _).length ≤ _; rw [List.length_append]; have := h.c; simp; exact this, f := Nat.le_trans h.f (Nat.le_succ _), a := Nat.le_trans h.a (Nat.le_succ _), b := Nat.le_trans h.b (Nat.le_succ _), o := h.o, cl := h.cl, r := fun f hf => by have := h.r f hf; omega,
            sc := fun x hx => by have := h.sc x hx; omega, bw := h.bw, rw_ := h.rw_ }
  · rw [if_neg c] at hg ⊢
    by_cases d : gFn s ws = true
    · rw [if_pos d] at hg ⊢
      have h5 : ws.length ≤ 5 := by
        unfold gFn at d
        split at d
        · cases d
        · rename_i z
          simp only [Bool.or_eq_true, Bool.not_eq_true', Bool.and_eq_false_iff, decide_eq_false_iff_not, not_or] at z
          omega
      exact { nm := h.nm, c := by have := h.c; show s.cells.length ≤ _; omega
              f := by show (s.funs ++ _).length ≤ _; rw [List.length_append]; have := h.f; simp; exact this
              a := by have := h.a; show s.asked.length ≤ _; omega
              b := by have := h.b; show s.blocks.length ≤ _; omega
              o := fun _ => by show 1 = s.blocks.length + 1; rw [hb]; rfl
              cl := fun z => by cases z
              r := fun f hf => by
                have hf' : f ∈ s.funs ++ [newFn ws] := hf
                rcases List.mem_append.mp hf' with q | q
                · have := h.r f q
                  omega
                · simp at q
                  subst q
                  exact Nat.zero_le _
              sc := fun x hx => by
                have hx' : x ∈ [ws.drop 2] := hx
                simp at hx'
                subst hx'
                rw [List.length_drop]
                omega
              bw := h.bw
              rw_ := fun f hf => by
                have hf' : f ∈ s.funs ++ [newFn ws] := hf
                rcases List.mem_append.mp hf' with q | q
                · exact h.rw_ f q
                · simp at q
                  subst q
                  intro d hd
                  have : d ∈ ([] : List (Int × List Str)) := hd
                  cases this }
    · rw [if_neg d] at hg
      cases hg
/-- what the steps of a row leave of the sizes -/
structure RI (s : Ah) (n : Nat) : Prop where
  b : s.blocks.length ≤ n
  o : s.scopes.length = s.blocks.length + 1
  sc : ∀ x ∈ s.scopes, x.length ≤ n + 3
  bw : ∀ d ∈ s.blocks, d.words ≠ []
theorem ri_row1 {s : Ah} {n : Nat} {line : Int} {ws : List Str} (h : LI s n) (hp : RowPre s ws) : RI (row1 s line ws) (n + 1) ∧ ∀ x ∈ (row1 s line ws).scopes, x.length ≤ n + 3 := by
  have ho := h.o hp.opn
  have hb := h.b
  unfold row1
  split
  · rename_i c
    have nb := hp.bl c
    have pb : 0 < s.blocks.length := List.length_pos_iff.mpr nb
    unfold closeAfter
    split
    · refine ⟨⟨?_, ?_, fun x hx => ?_, fun d hd => h.bw d (mem_dropLast hd)⟩, fun x hx => h.sc x (mem_dropLast hx)⟩
      · show s.blocks.dropLast.length ≤ _
        rw [List.length_dropLast]
        omega
      · show s.scopes.dropLast.length = s.blocks.dropLast.length + 1
        rw [List.length_dropLast, List.length_dropLast]
        omega
      · have := h.sc x (mem_dropLast hx)
        omega
    · obtain ⟨bl0, d, hbd⟩ : ∃ bl0 d, s.blocks = bl0 ++ [d] := ⟨_, _, (List.dropLast_concat_getLast nb).symm⟩
      have e : (closeMid s line).blocks = bl0 ++ [{ d with middle := line }] := by
        unfold closeMid
        rw [hbd, List.getLast?_append, List.dropLast_concat]
        rfl
      have lb : s.blocks.length = bl0.length + 1 := by rw [hbd, List.length_append]; rfl
      have scq : ∀ x ∈ s.scopes.dropLast ++ [[]], x.length ≤ n + 3 := fun x hx => by
        rcases List.mem_append.mp hx with q | q
        · exact h.sc x (mem_dropLast q)
        · simp at q
          subst q
          exact Nat.zero_le _
      refine ⟨⟨?_, ?_, fun x hx => Nat.le_trans (scq x hx) (by omega), fun d' hd' => ?_⟩, scq⟩
      · rw [e, List.length_append]
        simp
        omega
      · show (s.scopes.dropLast ++ [[]]).length = _
        rw [e, List.length_append, List.length_append, List.length_dropLast]
        simp
        omega
      · rw [e] at hd'
        rcases List.mem_append.mp hd' with q | q
        · exact h.bw d' (by rw [hbd]; exact List.mem_append_left _ q)
        · simp at q
          subst q
          exact h.bw d (by rw [hbd]; simp)
  · split
    · have scq : ∀ x ∈ s.scopes ++ [[]], x.length ≤ n + 3 := fun x hx => by
        rcases List.mem_append.mp hx with q | q
        · exact h.sc x q
        · simp at q
          subst q
          exact Nat.zero_le _
      refine ⟨⟨?_, ?_, fun x hx => Nat.le_trans (scq x hx) (by omega), fun d' hd' => ?_⟩, scq⟩
      · show (s.blocks ++ _).length ≤ _
        rw [List.length_append]
        simp
        omega
      · show (s.scopes ++ [[]]).length = (s.blocks ++ _).length + 1
        rw [List.length_append, List.length_append]
        simp
        omega
      · have hd : d' ∈ s.blocks ++ [({ line := line, words := ws, middle := 0 } : RowD)] := hd'
        rcases List.mem_append.mp hd with q | q
        · exact h.bw d' q
        · simp at q
          subst q
          exact hp.ne
    · exact ⟨⟨by omega, ho, fun x hx => by have := h.sc x hx; omega, h.bw⟩, h.sc⟩
theorem ri_row2 {s : Ah} {n : Nat} {ws : List Str} (h : RI s (n + 1)) (hs : ∀ x ∈ s.scopes, x.length ≤ n + 3) : RI (row2 s ws) (n + 1) := by
  unfold row2
  split
  · have ne : s.scopes ≠ [] := fun z => by
      have := h.o
      rw [z] at this
      simp at this
    obtain ⟨sc0, sc, hsc⟩ : ∃ sc0 sc, s.scopes = sc0 ++ [sc] := ⟨_, _, (List.dropLast_concat_getLast ne).symm⟩
    have e : (declare s (wd ws 1)).scopes = sc0 ++ [sc ++ [wd ws 1]] := by
      unfold declare
      rw [hsc, List.getLast?_append, List.dropLast_concat]
      rfl
    refine ⟨h.b, ?_, fun x hx => ?_, h.bw⟩
    · have := h.o
      rw [hsc, List.length_append] at this
      rw [e, List.length_append]
      exact this
    · rw [e] at hx
      rcases List.mem_append.mp hx with q | q
      · have := hs x (by rw [hsc]; exact List.mem_append_left _ q)
        omega
      · simp at q
        subst q
        have := hs sc (by rw [hsc]; simp)
        rw [List.length_append]
        simp
        omega
  · exact h
theorem row3_scopes (s : Ah) (ws : List Str) : (row3 s ws).scopes = s.scopes ∧ (row3 s ws).blocks = s.blocks ∧ (row3 s ws).asked.length ≤ s.asked.length + 1 := by
  unfold row3 askAfter
  split
  · split
    · exact ⟨rfl, rfl, Nat.le_succ _⟩
    · exact ⟨rfl, rfl, askedPut_len _ _ _⟩
  · exact ⟨rfl, rfl, Nat.le_succ _⟩
theorem closeAfter_nc (s : Ah) (line : Int) (w : Str) : (closeAfter s line w).name = s.name ∧ (closeAfter s line w).cells = s.cells := by unfold closeAfter closeEnd closeMid; split <;> exact ⟨rfl, rfl⟩
theorem row123_nc (s : Ah) (line : Int) (ws : List Str) : (row3 (row2 (row1 s line ws) ws) ws).name = s.name ∧ (row3 (row2 (row1 s line ws) ws) ws).cells = s.cells := by
  have h1 : (row1 s line ws).name = s.name ∧ (row1 s line ws).cells = s.cells := by
    unfold row1
    split
    · exact closeAfter_nc _ _ _
    · split <;> exact ⟨rfl, rfl⟩
  have h2 : (row2 (row1 s line ws) ws).name = (row1 s line ws).name ∧ (row2 (row1 s line ws) ws).cells = (row1 s line ws).cells := by unfold row2 declare; split <;> exact ⟨rfl, rfl⟩
  have h3 : (row3 (row2 (row1 s line ws) ws) ws).name = (row2 (row1 s line ws) ws).name ∧ (row3 (row2 (row1 s line ws) ws) ws).cells = (row2 (row1 s line ws) ws).cells := by unfold row3 askAfter; split <;> (try split) <;> exact ⟨rfl, rfl⟩
  exact ⟨by rw [h3.1, h2.1, h1.1], by rw [h3.2, h2.2, h1.2]⟩
theorem li_row {s : Ah} {n : Nat} {line : Int} {ws : List Str} (h : LI s n) (hp : RowPre s ws) (ne : s.funs ≠ []) : LI (rowAfter s line ws) (n + 1) := by
  obtain ⟨r1, r1s⟩ := ri_row1 (line := line) h hp
  have r2 := ri_row2 (ws := ws) r1 r1s
  obtain ⟨q1, q2, q3⟩ := row3_scopes (row2 (row1 s line ws) ws) ws
  have ha : (row2 (row1 s line ws) ws).asked = s.asked := by rw [row2_asked, row1_asked]
  have hf : (row3 (row2 (row1 s line ws) ws) ws).funs = s.funs := by rw [row3_funs, row2_funs, row1_funs]
  have hop : (row3 (row2 (row1 s line ws) ws) ws).opn = true := by rw [row3_opn, row2_opn, row1_opn]; exact hp.opn
  obtain ⟨n1, n2⟩ := row123_nc s line ws
  obtain ⟨fs0, f, hfs⟩ : ∃ fs0 f, s.funs = fs0 ++ [f] := ⟨_, _, (List.dropLast_concat_getLast ne).symm⟩
  have ef : (rowAfter s line ws).funs = fs0 ++ [{ f with rows := f.rows ++ [(line, ws)] }] := by
    show (addRow (row3 (row2 (row1 s line ws) ws) ws) (line, ws)).funs = _
    unfold addRow
    rw [hf, hfs, List.getLast?_append, List.dropLast_concat]
    rfl
  have hq := h.f
  rw [hfs, List.length_append] at hq
  exact { nm := by show (row3 (row2 (row1 s line ws) ws) ws).name.length ≤ _; rw [n1]; exact h.nm
          c := by show (row3 (row2 (row1 s line ws) ws) ws).cells.length ≤ _; rw [n2]; have := h.c; omega
          f := by rw [ef, List.length_append]; simp; simp at hq; omega
          a := by show (row3 (row2 (row1 s line ws) ws) ws).asked.length ≤ _; rw [ha] at q3; have := h.a; omega
          b := by show (row3 (row2 (row1 s line ws) ws) ws).blocks.length ≤ _; rw [q2]; exact r2.b
          o := fun _ => by show (row3 (row2 (row1 s line ws) ws) ws).scopes.length = (row3 (row2 (row1 s line ws) ws) ws).blocks.length + 1; rw [q1, q2]; exact r2.o
          cl := fun z => by
            have : (row3 (row2 (row1 s line ws) ws) ws).opn = false := z
            rw [hop] at this
            cases this
          r := fun g hg => by
            rw [ef] at hg
            rcases List.mem_append.mp hg with z | z
            · have := h.r g (by rw [hfs]; exact List.mem_append_left _ z)
              omega
            · simp at z
              subst z
              have := h.r f (by rw [hfs]; simp)
              show (f.rows ++ _).length ≤ _
              rw [List.length_append]
              simp
              exact this
          sc := fun x hx => by
            have hx' : x ∈ (row3 (row2 (row1 s line ws) ws) ws).scopes := hx
            rw [q1] at hx'
            exact r2.sc x hx'
          bw := fun d hd => by
            have hd' : d ∈ (row3 (row2 (row1 s line ws) ws) ws).blocks := hd
            rw [q2] at hd'
            exact r2.bw d hd'
          rw_ := fun g hg => by
            rw [ef] at hg
            rcases List.mem_append.mp hg with z | z
            · exact h.rw_ g (by rw [hfs]; exact List.mem_append_left _ z)
            · simp at z
              subst z
              intro d hd
              have hd' : d ∈ f.rows ++ [(line, ws)] := hd
              rcases List.mem_append.mp hd' with y | y
              · exact h.rw_ f (by rw [hfs]; simp) d y
              · simp at y
                subst y
                exact ⟨hp.ne, hp.wok, hp.three⟩ }
theorem li_line {s : Ah} {n : Nat} {line : Int} {ws : List Str} (h : LI s n) (hn : n ≤ 4000) (hw : WsOk ws) (ne : ws ≠ []) (hf : s.opn = true → s.funs ≠ []) (hg : (takeLine s line ws).1 = true) : LI (takeLine s line ws).2 (n + 1) := by
  unfold takeLine at hg ⊢
  by_cases h1 : line = 1
  · rw [if_pos h1] at hg ⊢
    have hg : gFirst ws = true := hg
    show LI (if gFirst ws = true then { s with name := wd ws 1 } else s) (n + 1)
    rw [if_pos hg]
    exact (li_first h hw).le (by omega)
  · rw [if_neg h1] at hg ⊢
    by_cases h2 : s.opn = false
    · rw [if_pos h2] at hg ⊢
      exact li_out h h2 hg
    · rw [if_neg h2] at hg ⊢
      have ho : s.opn = true := by simpa using h2
      by_cases h3 : gWithin (vwOf s) ws = true
      · rw [if_pos h3]
        show LI (takeIn s line ws) (n + 1)
        unfold takeIn
        by_cases h4 : wd ws 0 = "end" ∧ s.blocks = []
        · rw [if_pos h4]
          exact { nm := h.nm, c := by have := h.c; show s.cells.length ≤ _; omega, f := by have := h.f; show s.funs.length ≤ _; omega, a := by have := h.a; show s.asked.length ≤ _; omega, b := by have := h.b; show s.blocks.length ≤ _; omega
                  o := fun z => by cases z
                  cl := fun _ => ⟨h4.2, rfl⟩, r := fun f hf => by have := h.r f hf; omega, sc := fun x hx => by cases hx
                  bw := h.bw, rw_ := h.rw_ }
        · rw [if_neg h4]
          exact li_row h (h.pre hn ho hw ne h3 h4) (hf ho)
      · rw [if_neg h3] at hg
        cases hg
end HF
set_option maxRecDepth 100000
set_option maxHeartbeats 2000000
namespace HF
open PySem L2 Evl
/-! ### the first wrong call of a local function -/
def gWrong (funs : List FnD) (ws : List Str) : Bool :=
  if hasDot (wd ws 2) = true then false else match funs.find? (fun f => decide (f.name = wd ws 2)) with
    | none => true
    | some f => f.shared || !decide ((f.params.length : Int) = (ws.length : Int) - 3)
def isW (funs : List FnD) (d : Int × List Str) : Bool := decide (wd d.2 0 = "call") && gWrong funs d.2
def wrongLine (funs : List FnD) : Int := match (funs.flatMap (·.rows)).find? (isW funs) with
  | none => 0
  | some d => d.1
/-- what reading needs, the dict locked or not -/
structure RdA (C CR CF : Addr) (H : Hp) (p : Addr) (s : Ah) (A : Ad) : Prop where
  o : H p = some (.ins C A.dx (fsA A.tw (.str s.name) A.dc A.df (curV s.opn A.gs) A.lb (.ref A.ls) A.da))
  f : Rd H A.df (.dK (funsV A.gs))
  gd : A.gs.map (·.d) = s.funs
  gf : ∀ g ∈ A.gs, FnAt CF CR H g
theorem RdA.mono {C CR CF : Addr} {H H' : Hp} {p : Addr} {s : Ah} {A : Ad} (e : Ex H H') (h : RdA C CR CF H p s A) : RdA C CR CF H' p s A := ⟨e _ _ h.o, ex_rd e h.f, h.gd, fun g hg => (h.gf g hg).mono e⟩
theorem AhA.lock {C CR CF : Addr} {F : Addr → Prop} {H : Hp} {p : Addr} {s : Ah} {A : Ad} (h : AhA C CR CF F H p s A) (od : Obj) : RdA C CR CF (L2.upd H A.df (.frz od (.dK (funsV A.gs)))) p s A :=
  ⟨updK h.f h.o (by (intros; intro z; cases z)), Or.inr ⟨od, upd_same⟩, h.gd, fun g hg => (h.gf g hg).updN h.f (by (intros; intro z; cases z)) (by (intros; intro z; cases z)) (by (intros; intro z; cases z)) (by (intros; intro z; cases z))⟩
theorem valV_find (n : Str) : ∀ gs : List FG, valV (funsV gs) (Sum.inr n) = (gs.find? fun g => decide (g.d.name = n)).map fun g => V.ref g.fa
  | [] => rfl
  | g :: gs => by
    have ih := valV_find n gs
    show valV ((Sum.inr g.d.name, V.ref g.fa) :: funsV gs) (Sum.inr n) = _
    by_cases h : g.d.name = n
    · rw [valV_pos (by rw [h]), List.find?_cons, decide_eq_true h]
      rfl
    · rw [valV_neg (fun z => h (Sum.inr.inj z)), ih, List.find?_cons, decide_eq_false h]
theorem find_map (n : Str) : ∀ gs : List FG, (gs.map (·.d)).find? (fun f => decide (f.name = n)) = (gs.find? fun g => decide (g.d.name = n)).map (·.d)
  | [] => rfl
  | g :: gs => by
    have ih := find_map n gs
    rw [List.map_cons, List.find?_cons, List.find?_cons]
    by_cases h : g.d.name = n
    · rw [decide_eq_true h]
      rfl
    · rw [decide_eq_false h]
      exact ih
section
variable {K : PySem.W.Frag} {σ : L2.St} {H : Hp} {ta tb td ty : TE} {D : Ends}
theorem ev_get1 {d : Addr} {kvs : List (Key × V)} {k : Key} (hd : Ev td σ H (.ref d)) (h : Rd H d (.dK kvs)) (hk : Ev ty σ H (kV k)) : Ev (tDGet1 td ty) σ H ((valV kvs k).getD .non) := fun H1 e Q q =>
  hd H1 e _ fun H2 e2 => ⟨d, rfl, Or.inl ⟨kvs, ex_rd (e.trans e2) h⟩, hk H2 (e.trans e2) _ fun H3 e3 => ⟨valV kvs k, Or.inl ⟨kvs, k, ex_rd (e.trans (e2.trans e3)) h, rfl, rfl⟩, q H3 (e2.trans e3)⟩⟩
theorem s_forVals {d : Addr} {od : Obj} {kvs : List (Key × V)} {tu : TS} {j : Nat} (h : Ev td σ H (.ref d)) (hd : H d = some (.frz od (.dK kvs))) (Pv : Nat → L2.St → Hp → Prop) (h0 : ∀ H1, Ex H H1 → Pv 0 σ H1) (hG : ∀ i σ' H', i ≤ kvs.length → Pv i σ' H' → H' d = some (.frz od (.dK kvs)))
    (hs : ∀ i x σ' H', (∃ k, kvs[i]? = some (k, x)) → Pv i σ' H' → tu { D with nx := Pv (i + 1), ct := Pv (i + 1), bk := D.nx } (σ'.set j (some x)) H') (he : ∀ σ' H', Pv kvs.length σ' H' → D.nx σ' H') : tFor (iVals td) (gName j) tu D σ H :=
  h H (Ex.refl H) _ fun H1 e1 => ⟨d, od, kvs, rfl, e1 _ _ hd, for_it walk_values Pv (h0 H1 e1) hG (fun i x σ' H' H2 hi p y => by
    obtain ⟨rfl, k, hk⟩ := y
    exact hs i x σ' _ ⟨k, hk⟩ p) he⟩
end
def spIsWrong (C CR CF : Addr) : Sp := fun vs H Q _ => ∃ (p q : Addr) (ws : List Str) (s : Ah) (A : Ad), vs = [.ref p, .ref q] ∧ RdA C CR CF H p s A ∧ H q = some (.tup (strsV ws)) ∧ 3 ≤ ws.length ∧ WsOk ws ∧ RetV (.bl (gWrong s.funs ws)) H Q
def spWrong (C CR CF : Addr) : Sp := fun vs H Q _ => ∃ (p : Addr) (F : Addr → Prop) (s : Ah) (A : Ad), vs = [.ref p] ∧ AhA C CR CF F H p s A ∧ (∀ f ∈ s.funs, ∀ d ∈ f.rows, d.2 ≠ [] ∧ WsOk d.2 ∧ (wd d.2 0 = "call" → 3 ≤ d.2.length)) ∧ RetV (.int (wrongLine s.funs)) H Q
theorem find_first {α : Type} {l1 l2 : List α} {d : α} {q : α → Bool} (h : ∀ x ∈ l1, q x = false) (hd : q d = true) : (l1 ++ d :: l2).find? q = some d := by
  rw [List.find?_append, List.find?_eq_none.mpr (fun x hx => by rw [h x hx]; exact Bool.false_ne_true), List.find?_cons, hd]
  rfl
theorem split_at {α : Type} {l : List α} {i : Nat} {x : α} (h : l[i]? = some x) : l = l.take i ++ x :: l.drop (i + 1) := by
  have hi := (List.getElem?_eq_some_iff.mp h).1
  have e : l[i] = x := (List.getElem?_eq_some_iff.mp h).2
  rw [← e, List.getElem_cons_drop, List.take_append_drop]
theorem take_snoc {α : Type} {l : List α} {i : Nat} {x : α} (h : l[i]? = some x) : l.take (i + 1) = l.take i ++ [x] := by
  rw [List.take_add_one, h]
  rfl
section
variable {P : Program} {w : World} {K : PySem.W.Frag} {mg : Str → Option Value} {base : Heap} {C CR CF : Addr}
end
end HF
set_option maxRecDepth 100000
set_option maxHeartbeats 2000000
namespace HF
open PySem L2 Evl
/-! ### an error of the program's own, with one field -/
def spInitX (C : Addr) (f : Str) : Sp := fun vs H Q _ => ∃ (a : Addr) (v : V), vs = [.ref a, v] ∧ H a = some (exo a C none) ∧ ∀ dx, H dx = none → dx ≠ a → Q .non (L2.upd (L2.upd H dx (exd dx [(f, v)])) a (exo a C (some dx)))
structure ClX (K : PySem.W.Frag) (mg : Str → Option Value) (x : Str) (C : Addr) (f : Str) (qual : Str) (st : Stmt) : Prop where
  mg_ : mg x = some (.ref C)
  ox : OexC K C
  no : PySem.W.findIn K (.ref C) f = some none
  ex : ∃ (fI : Addr) (fd : FuncData), PySem.W.findIn K (.ref C) "__init__" = some (some (.ref fI)) ∧ PySem.W.typeIn K (.ref fI) = some (.type "function") ∧ Fun K "__init__" qual st fI fd
structure HasX (P : Program) (w : World) (K : PySem.W.Frag) (mg : Str → Option Value) (base : Heap) (x : Str) (C : Addr) (ps : List Str) (f : Str) : Prop where
  mg_ : mg x = some (.ref C)
  ox : OexC K C
  ex : ∃ (fI : Addr) (fd : FuncData), PySem.W.findIn K (.ref C) "__init__" = some (some (.ref fI)) ∧ PySem.W.typeIn K (.ref fI) = some (.type "function") ∧ Binds K fd ps [] ∧ FnOk P w K mg base CX0 1 fI fd ps (spInitX C f)
theorem pmk_x {X : Cx} {x : Str} {C : Addr} {ps : List Str} {f : Str} {e : Expr} {te : TE} {p pos : Pos} (h : HasX X.prog X.w X.K X.mg X.base x C ps f) (hr : Room 2 X.A) (he : PE X e te) (hg : Gl X x := by rfl) (hdb : (x == ("__debug__" : Str)) = false := by decide)
    (hst : starEach (e :: []) X.env = (false, eval e X.env) :: starEach [] X.env := by rfl) (hpl : (backTo pos (starEach [] X.env)).any (·.1) = false := by rfl) : PMk X (.Call (.Name x p) [e] [] pos) (tMkO C (spInitX C f) [] (tCons te tNil)) := by
  obtain ⟨fI, fd, i1, i2, b, F⟩ := h.ex
  exact pmk_oex (dvs := []) h.ox i1 i2 F hr b .nil (fun _ _ _ _ _ _ _ z => z.elim) hg h.mg_ (pa_cons he pa_nil hst) hdb hst hpl
/-- the error that is made of v: its own dict, new, has the field alone -/
theorem mk_x {C : Addr} {f : Str} {te : TE} {σ : L2.St} {H : Hp} {Q : XK} {v : V} (h : Ev te σ H v) (q : ∀ d H', H d = none → Ex H H' → H' d = some (.xd [(f, v)]) → Q (.ref C) (some d) H') : tMkO C (spInitX C f) [] (tCons te tNil) σ H Q := by
  refine h H (Ex.refl H) _ fun H1 e1 => ?_
  refine ⟨by show 1 ≤ 1000; decide, fun a ha => ⟨a, v, rfl, upd_same, fun dx hdx hne => ⟨rfl, dx, [(f, v)], upd_same, by rw [upd_ne hne, upd_same], ?_, ?_⟩⟩⟩
  · rw [upd_ne hne] at hdx
    exact hdx
  · have hdx1 : H1 dx = none := by rw [upd_ne hne] at hdx; exact hdx
    refine q dx _ (none_of_ex e1 hdx1) (fun b o hb => ?_) upd_same
    have hb1 := e1 _ _ hb
    have n1 : b ≠ dx := ne_of_none hb1 hdx1
    have n2 : b ≠ a := ne_of_none hb1 ha
    rw [upd_ne n1, del_ne n2, upd_ne n2, upd_ne n1, upd_ne n2]
    exact hb1
structure TxErr (K : PySem.W.Frag) (mg : Str → Option Value) (CW CB : Addr) : Prop where
section
variable {P : Program} {w : World} {K : PySem.W.Frag} {mg : Str → Option Value} {base : Heap} {CW CB : Addr}
end
end HF
set_option maxRecDepth 100000
set_option maxHeartbeats 2000000
namespace HF
open PySem L2 Evl
/-! ### reading a unit -/
def lineWs (t : Str) : List Str := Txt.split t " "
def linesOf (t : Str) : List Str := Txt.split t "\n"
/-- the first line that can't stand, or what is read -/
def readAll : Ah → Nat → List Str → Int ⊕ Ah
  | s, _, [] => .inr s
  | s, k, t :: rest => if (takeLine s ((k : Int) + 1) (lineWs t)).1 = true then readAll (takeLine s ((k : Int) + 1) (lineWs t)).2 (k + 1) rest else .inl ((k : Int) + 1)
def readUnit (ws : List Str) (text : Str) : Int ⊕ Ah := match readAll (initAh ws) 0 (linesOf text) with
  | .inl n => .inl n
  | .inr s => if (s.opn || s.funs.isEmpty) = true then .inl (((linesOf text).length : Int) + 1) else if (wrongLine s.funs != 0) = true then .inl (wrongLine s.funs) else .inr s
theorem sum_le {l : List Str} {x : Str} (h : x ∈ l) : x.length ≤ (l.map (·.length)).sum := by
  induction l with
  | nil => cases h
  | cons a l ih =>
    rw [List.map_cons, List.sum_cons]
    rcases List.mem_cons.mp h with e | e
    · subst e
      omega
    · have := ih e
      omega
theorem split_ok {t c : Str} (hc : 1 ≤ c.length) : (Txt.split t c) ≠ [] ∧ (Txt.split t c).length ≤ t.length + 1 ∧ ∀ x ∈ Txt.split t c, x.length ≤ t.length := by
  have h1 := PyProof.Rows.split_weight t c hc
  have h2 := PyProof.Rows.split_pos t c
  refine ⟨List.length_pos_iff.mp h2, by omega, fun x hx => ?_⟩
  have := sum_le hx
  omega
theorem lineWs_ok {t : Str} (h : t.length ≤ 20000) : lineWs t ≠ [] ∧ WsOk (lineWs t) := by
  obtain ⟨a, b, c⟩ := split_ok (t := t) (c := " ") (by decide +kernel)
  exact ⟨a, ⟨by show (Txt.split t " ").length ≤ _; omega, fun x hx => Nat.le_trans (c x hx) h⟩⟩
section
variable {K : PySem.W.Frag} {σ : L2.St} {H : Hp} {te ta tb tc tu : TE} {D : Ends} {tz : TS}
def rSplit : V → List V → Hp → VK → Prop := fun x xs H Q => ∃ a b, x = .str a ∧ xs = [.str b] ∧ (b.length == 0) = false ∧ a.length + 2 ≤ sizeLine ∧ rNewStrs (Txt.split a b) H Q
theorem pe_splitR {X : Cx} {o e : Expr} {to te : TE} {apos pos : Pos} (ho : PE X o to) (he : PE X e te) (hs : starEach [e] X.env = [(false, eval e X.env)] := by rfl) (hbase : attributeBase o "split" X.env (eval o X.env) = eval o X.env := by rfl) (hline : (apos.endLine == pos.line) = true := by rfl) :
    PE X (.Call (.Attribute o "split" apos) [e] [] pos) (tM1 rSplit to te) := pe_split ho he hs hbase hline
theorem el_split {a b : Str} (h : Ev ta σ H (.str a)) (h' : Ev tb σ H (.str b)) (hb : (b.length == 0) = false) (hz : a.length ≤ 60000) : EvL (tM1 rSplit ta tb) σ H (strsV (Txt.split a b)) := fun H1 e Q q =>
  h H1 e _ fun H2 e2 => ⟨⟨a, rfl⟩, h' H2 (e.trans e2) _ fun H3 e3 => ⟨a, b, rfl, rfl, hb, sz_of (by omega), fun p hp => q p _ (fresh_back (e2.trans e3) hp) ((e2.trans e3).trans (Ex.new hp)) upd_same⟩⟩
theorem eu_tupL {xs : List V} (h : EvL ta σ H xs) : EvU (tCB (rTupOf K) (tCons ta tNil)) σ H xs := fun H1 e Q q =>
  h H1 e _ fun p H2 hp e2 h2 => ⟨p, xs, rfl, Or.inl ⟨sq_of h2, fun l hl => q l _ (fresh_back e2 hl) (e2.trans (Ex.new hl)) upd_same⟩⟩
theorem ev_lenL {p : Addr} {xs : List V} (ha : Ev ta σ H (.ref p)) (h : H p = some (.lst xs)) : Ev (tCB (rLenT K) (tCons ta tNil)) σ H (.int (xs.length : Int)) := fun H1 e Q q =>
  ha H1 e _ fun H2 e2 => ⟨p, xs, rfl, Or.inl (ex_l (e.trans e2) (sq_of h)), q H2 e2⟩
/-- for i, x in enumerate(xs) -/
theorem s_forEnum {L : Addr} {xs : List V} {tl : TA} {tu : TS} {j1 j2 : Nat} (h : EvA tl σ H [.ref L]) (hL : SqL K H L xs) (Pv : Nat → L2.St → Hp → Prop) (h0 : ∀ H1, Ex H H1 → Pv 0 σ H1) (hG : ∀ i σ' H', i ≤ xs.length → Pv i σ' H' → SqL K H' L xs)
    (hs : ∀ i x T σ' H', xs[i]? = some x → Pv i σ' H' → H' T = none → tu { D with nx := Pv (i + 1), ct := Pv (i + 1), bk := D.nx } ((σ'.set j1 (some (.int (i : Nat)))).set j2 (some x)) (L2.upd H' T (.tup [.int (i : Nat), x]))) (he : ∀ σ' H', Pv xs.length σ' H' → D.nx σ' H') :
    tFor (iEnum K tl) (gTup K 2 (gCons (gName j1) (gCons (gName j2) gNil))) tu D σ H :=
  h H (Ex.refl H) _ fun H1 e1 => ⟨L, xs, rfl, ex_l e1 hL, for_it walk_enum Pv (h0 H1 e1) hG (fun i x σ' H' H2 hi p y => by
    obtain ⟨T, x1, x2, rfl, hT, rfl, q1, q2⟩ := y
    cases q1
    exact ⟨T, _, rfl, SqT.of upd_same, rfl, _, _, rfl, _, _, rfl, rfl, hs i x2 T σ' H' q2 p hT⟩) he⟩
end
section
variable {C CR CF : Addr} {F : Addr → Prop} {H : Hp} {p : Addr} {s : Ah} {A : Ad}
/-- every address of it is tracked -/
theorem AhA.addF (h : AhA C CR CF F H p s A) {H' : Hp} {L : Addr} (hl : H L = none) (e : Ex H H') (hs : (H' L).isSome = true) : AhA C CR CF (fun b => F b ∨ b = L) H' p s A := by
  have q := h.mono e
  have n : ∀ {x : Addr} {o : HO}, H x = some o → ∀ {G : Prop}, ¬F x → ¬(F x ∨ x = L) := fun hx _ nf z => z.elim nf (ne_of_none hx hl)
  exact { q with
    fr := fun b hb => by
      rcases hb with z | z
      · exact q.fr b z
      · rw [z]
        exact hs
    nf := ⟨n h.o (G := True) h.nf.p, n h.c (G := True) h.nf.dc, n h.f (G := True) h.nf.df, n h.b (G := True) h.nf.lb, n h.sc (G := True) h.nf.ls, n h.k (G := True) h.nf.da, fun a ha => by
        obtain ⟨i, hi⟩ := List.getElem?_of_mem ha
        obtain ⟨s', hs'⟩ : ∃ s', s.scopes[i]? = some s' := ⟨_, List.getElem?_eq_getElem (by rw [← h.sa.len]; exact (List.getElem?_eq_some_iff.mp hi).1)⟩
        exact n (h.sa.at_ i a s' hi hs') (G := True) (h.nf.as a ha), fun a ha => by
        obtain ⟨i, hi⟩ := List.getElem?_of_mem ha
        obtain ⟨d, hd⟩ : ∃ d, s.blocks[i]? = some d := ⟨_, List.getElem?_eq_getElem (by rw [← h.br.len]; exact (List.getElem?_eq_some_iff.mp hi).1)⟩
        obtain ⟨_, _, _, _, _, g1, _⟩ := (h.br.at_ i a d hi hd).ex
        exact n g1 (G := True) (h.nf.rs a ha), fun g hg => by
        have q' := h.gf g hg
        obtain ⟨dx1, l1, l2, tp, g1, g2⟩ := q'.ex
        obtain ⟨a1, a2, a3⟩ := h.nf.gs g hg
        refine ⟨n g1 (G := True) a1, n q'.lr (G := True) a2, fun r hr => ?_⟩
        obtain ⟨i, hi⟩ := List.getElem?_of_mem hr
        obtain ⟨d, hd⟩ : ∃ d, g.d.rows[i]? = some d := ⟨_, List.getElem?_eq_getElem (by rw [← q'.len]; exact (List.getElem?_eq_some_iff.mp hi).1)⟩
        obtain ⟨_, _, _, _, _, _, r1, _⟩ := (q'.row i r d hi hd).ex
        exact n r1 (G := True) (a3 r hr)⟩ }
theorem li_init (ws : List Str) : LI (initAh ws) 0 :=
  { nm := by show (Str.ofString "").length ≤ 20000; decide +kernel, c := Nat.le_refl _, f := Nat.le_refl _, a := Nat.le_refl _, b := Nat.le_refl _, o := fun z => (by cases z), cl := fun _ => ⟨rfl, rfl⟩, r := fun f hf => (by cases hf), sc := fun x hx => (by cases hx), bw := fun d hd => (by cases hd), rw_ := fun f hf => (by cases hf) }
end
def spRead (K : PySem.W.Frag) (C CR CF CB : Addr) : Sp := fun vs H Q E => ∃ (q : Addr) (ws : List Str) (text : Str), vs = [.ref q, .str text] ∧ SqT K H q (strsV ws) ∧ ws ≠ [] ∧ ws.length ≤ 1000 ∧ text.length ≤ 3900 ∧
  (∀ n, readUnit ws text = .inl n → ∀ d H', H d = none → Ex H H' → H' d = some (.xd [("line", .int n)]) → E (.ref CB) (some d) H') ∧
  ∀ s, readUnit ws text = .inr s → ∀ p H', Ex H H' → LI s (linesOf text).length → AhI C CR CF (fun b => (H b).isSome = true) H' p s → Q (.ref p) H'
section
variable {P : Program} {w : World} {K : PySem.W.Frag} {mg : Str → Option Value} {base : Heap} {C CR CF CW CB : Addr}
end
end HF
set_option maxRecDepth 100000
set_option maxHeartbeats 2000000
namespace HF
open PySem L2 Evl
theorem tyx_mono {K : PySem.W.Frag} {H H' : Hp} {x : V} {t : Value} (e : Ex H H') (h : TyX K H x t) : TyX K H' x t := by
  cases h with
  | base h =>
    refine .base ?_
    cases h with
    | non => exact .non
    | bl x => exact .bl x
    | int i => exact .int i
    | str x => exact .str x
    | flt x => exact .flt x
    | lst h => exact .lst (e _ _ h)
    | frz h => exact .frz (e _ _ h)
    | tup h => exact .tup (e _ _ h)
    | dK h => exact .dK (e _ _ h)
    | dT h => exact .dT (e _ _ h)
    | ins h a b c d f => exact .ins (e _ _ h) a b c d f
  | byt b => exact .byt b
  | set h => exact .set (e _ _ h)
  | kList a b => exact .kList a b
  | kTuple a b => exact .kTuple a b
  | kDict a b => exact .kDict a b
  | fTuple h => exact .fTuple (e _ _ h)
  | fDict h => exact .fDict (e _ _ h)
/-- the value is (b) or is not of the built-in type T -/
def IsTy (K : PySem.W.Frag) (H : Hp) (x : V) (T : String) (b : Bool) : Prop := ∃ t, TyX K H x t ∧ PySem.W.kitOne K t (.type T) = some b
theorem IsTy.mono {K : PySem.W.Frag} {H H' : Hp} {x : V} {T : String} {b : Bool} (e : Ex H H') (h : IsTy K H x T b) : IsTy K H' x T b := by
  obtain ⟨t, a, c⟩ := h
  exact ⟨t, tyx_mono e a, c⟩
theorem ev_isi {K : PySem.W.Frag} {σ : L2.St} {H : Hp} {te : TE} {x : V} {T : String} {b : Bool} (h : Ev te σ H x) (ht : IsTy K H x T b) : Ev (tCB (rIsi K) (tCons te (tCons (tC (.ty T)) tNil))) σ H (.bl b) := fun H1 e Q q =>
  h H1 e _ fun H2 e2 => by
    obtain ⟨t, a, c⟩ := ht
    exact ⟨x, .ty T, t, .type T, b, rfl, .ty T, tyx_mono (e.trans e2) a, c, q H2 e2⟩
def isStrV : V → Bool
  | .str _ => true
  | _ => false
def textOf : V → Str
  | .str s => s
  | _ => ""
theorem texts_of : ∀ {xs : List V}, xs.all isStrV = true → xs = strsV (xs.map textOf)
  | [], _ => rfl
  | x :: xs, h => by
    rw [List.all_cons, Bool.and_eq_true] at h
    have := texts_of h.2
    cases x with
    | str s =>
      show V.str s :: xs = V.str s :: strsV (xs.map textOf)
      rw [← this]
    | _ => cases h.1
def wordsS (ts : List Str) : Bool := distinct ts && ts.all fun w => isCapital w && !inS w ["NONE", "BAD"]
def wordsV (xs : List V) : Bool :=
  if ((!(decide ((1 : Int) ≤ (xs.length : Int)) && decide ((xs.length : Int) ≤ 3))) || !xs.all isStrV) = true then false else wordsS (xs.map textOf)
def spWords (K : PySem.W.Frag) : Sp := fun vs H Q _ => ∃ v, vs = [v] ∧ ((IsTy K H v "tuple" false ∧ RetV (.bl false) H Q) ∨
  (∃ q xs, v = .ref q ∧ H q = some (.tup xs) ∧ xs.length ≤ 1000 ∧ (∀ x ∈ xs, IsTy K H x "str" (isStrV x) ∧ (textOf x).length ≤ 60000) ∧ RetV (.bl (wordsV xs)) H Q))
structure TxWords (K : PySem.W.Frag) (mg : Str → Option Value) : Prop where
  isi : mg "isinstance" = none
  str : mg "str" = none
section
variable {P : Program} {w : World} {K : PySem.W.Frag} {mg : Str → Option Value} {base : Heap} {C : Addr}
theorem ev_lenV {K : PySem.W.Frag} {σ : L2.St} {H : Hp} {ta : TE} {p : Addr} {xs : List V} (ha : Ev ta σ H (.ref p)) (h : H p = some (.tup xs)) : Ev (tCB (rLenT K) (tCons ta tNil)) σ H (.int (xs.length : Int)) := fun H1 e Q q =>
  ha H1 e _ fun H2 e2 => ⟨p, xs, rfl, Or.inr (ex_t (e.trans e2) (st_of h)), q H2 e2⟩
theorem isty_tup {K : PySem.W.Frag} {H : Hp} {q : Addr} {xs : List V} (h : H q = some (.tup xs)) : IsTy K H (.ref q) "tuple" true := ⟨.type "tuple", .base (.tup h), kit_ty (by decide +kernel)⟩
theorem boot_isi : PySem.bootBuiltins "isinstance" = some (.builtin "isinstance") := by decide +kernel
theorem ev_allT {K : PySem.W.Frag} {σ : L2.St} {H : Hp} {ta te : TE} {j : Nat} {vs : List Nat} {q : Addr} {xs : List V} (p : V → Bool) (h : Ev ta σ H (.ref q)) (hq : SqT K H q xs) (hz : xs.length ≤ 40000) (hw : ∀ x, wipe ((wipe σ vs).set j (some x)) vs = wipe σ vs)
    (he : ∀ (x : V) H1, Ex H H1 → x ∈ xs → Ev te ((wipe σ vs).set j (some x)) H1 (.bl (p x))) : Ev (tCB (rAll K) (tCons (tLc (iTup K ta) (gName j) tYes te vs) tNil)) σ H (.bl (xs.all p)) := by
  rw [← all_range xs p .non]
  refine ev_all ?_
  rw [← given_bl]
  refine el_lcT (K := K) (fun _ => true) (fun i => .bl (p (xs.getD i .non))) h hq hz hw (fun _ _ _ _ _ => et_nil) (fun i x H1 e1 hi _ => ?_)
  have ey : xs.getD i .non = x := by
    rw [List.getD_eq_getElem?_getD, hi]
    rfl
  rw [ey]
  exact he x H1 e1 (List.mem_of_getElem? hi)
end
end HF
set_option maxRecDepth 100000
set_option maxHeartbeats 2000000
namespace HF
open PySem PySem.Spec PyProof.Rows PySem.W
/-- a tuple of ints and texts, as data -/
def encK : L2.Key → PyData
  | .inl i => .int i
  | .inr s => .str s
def encT (b : List L2.Key) : PyData := .tuple (b.map encK)
def sameK : L2.Key → L2.Key → Bool
  | .inl _, .inl _ => true
  | .inr _, .inr _ => true
  | _, _ => false
/-- tuples of one shape, none of them empty -/
structure OneShape (bs : List (List L2.Key)) : Prop where
  ne : ∀ b ∈ bs, b ≠ []
  al : ∀ b ∈ bs, ∀ c ∈ bs, EachIs (fun x y => sameK x y = true) b c
theorem alike_k : ∀ {b c : List L2.Key}, EachIs (fun x y => sameK x y = true) b c → alikeAll (b.map encK) (c.map encK) = true
  | _, _, .nil => by simp [alikeAll]
  | x :: _, y :: _, .cons h t => by
    show alikeAll (encK x :: _) (encK y :: _) = true
    rw [alikeAll, alike_k t]
    cases x <;> cases y <;> first | (cases h; done) | simp [encK, alike]
theorem depth_k : ∀ b : List L2.Key, PyData.depthAll (b.map encK) = 0
  | [] => by simp [PyData.depthAll]
  | x :: xs => by
    show PyData.depthAll (encK x :: xs.map encK) = 0
    rw [PyData.depthAll, depth_k xs]
    cases x <;> simp [encK, PyData.depth]
theorem reads_k {h : Heap} : ∀ {b : List L2.Key} {us : List Value}, L2.Vals (b.map L2.kV) us → ∃ as, ReadsAll h us (b.map encK) as
  | [], _, r => by
    have r' : L2.Vals [] _ := r
    cases r'
    exact ⟨[], .nil⟩
  | k :: b, _, r => by
    have r' : L2.Vals (L2.kV k :: b.map L2.kV) _ := r
    cases r' with
    | cons r1 r2 =>
      obtain ⟨as, h2⟩ := reads_k r2
      cases k with
      | inl i =>
        obtain ⟨t, rfl⟩ := (show ∃ t, _ = Value.int i t from r1)
        exact ⟨[] ++ as, .cons (.int i t) h2⟩
      | inr x =>
        obtain ⟨t, rfl⟩ := (show ∃ t, _ = Value.str x t from r1)
        exact ⟨[] ++ as, .cons (.str x t) h2⟩
/-- tuples of the heap, by the items -/
def TsAt (H : L2.Hp) (ts : List Addr) (bs : List (List L2.Key)) : Prop := EachIs (fun t b => H t = some (.tup (b.map L2.kV))) ts bs
def tupLe (b c : List L2.Key) : Bool := dataLe false encT b c
def rSortTup (K : PySem.W.Frag) : List L2.V → L2.Hp → L2.VK → Prop := fun vs H Q => ∃ (a : Addr) (ts : List Addr) (bs : List (List L2.Key)), vs = [.ref a] ∧ L2.SqL K H a (refsV ts) ∧ TsAt H ts bs ∧ OneShape bs ∧
  ∀ ts' p, TsAt H ts' (bs.mergeSort tupLe) → H p = none → Q (.ref p) (L2.upd H p (.lst (refsV ts')))
theorem each_len {α β : Type} {R : α → β → Prop} : ∀ {as : List α} {bs : List β}, EachIs R as bs → as.length = bs.length
  | _, _, .nil => rfl
  | _, _, .cons _ t => by rw [List.length_cons, List.length_cons, each_len t]
theorem refs_vals : ∀ {ts : List Addr} {us : List Value}, L2.Vals (refsV ts) us → us = ts.map Value.ref
  | [], _, r => by
    have r' : L2.Vals [] _ := r
    cases r'
    rfl
  | t :: ts, _, r => by
    have r' : L2.Vals (.ref t :: refsV ts) _ := r
    cases r' with
    | cons r1 r2 =>
      cases (show _ = Value.ref t from r1)
      rw [refs_vals r2]
      rfl
theorem vals_refs : ∀ ts : List Addr, L2.Vals (refsV ts) (ts.map Value.ref)
  | [] => .nil
  | t :: ts => .cons rfl (vals_refs ts)
theorem each_ref {β : Type} {R : Addr → β → Prop} {S : Value → β → Prop} (h : ∀ t b, R t b → S (.ref t) b) : ∀ {ts : List Addr} {bs : List β}, EachIs R ts bs → EachIs S (ts.map Value.ref) bs
  | _, _, .nil => .nil
  | _, _, .cons a t => .cons (h _ _ a) (each_ref h t)
theorem ref_each {β : Type} {R : Addr → β → Prop} : ∀ {us : List Value} {bs : List β}, EachIs (fun v b => ∃ t, v = .ref t ∧ R t b) us bs → ∃ ts : List Addr, us = ts.map Value.ref ∧ EachIs R ts bs
  | _, _, .nil => ⟨[], rfl, .nil⟩
  | _, _, .cons ⟨t, e, r⟩ q => by
    obtain ⟨ts, e2, r2⟩ := ref_each q
    exact ⟨t :: ts, by rw [e, e2]; rfl, .cons r r2⟩
section
variable {X : L2.Cx}
theorem cr_sortTup (hu : X.A.units + 64 < cLine) : L2.CallR X (.builtin "sorted") (rSortTup X.K) := by
  intro pins s σ H vs us Q I r h
  obtain ⟨a, ts, bs, rfl, hs, ht, al, q⟩ := h
  obtain ⟨its, rv, hl, hz⟩ := I.list hs
  obtain ⟨u, rfl, ru⟩ := L2.vals1 r
  obtain rfl : u = Value.ref a := ru
  obtain rfl := refs_vals rv
  have hlen : ts.length = bs.length := each_len ht
  have hsz : bs.length ≤ sizeLine := by rw [← hlen]; unfold refsV at hz; rw [List.length_map] at hz; exact hz
  refine sorted_data (enc := encT) (R := fun v b => ∃ t, v = .ref t ∧ H t = some (.tup (b.map L2.kV))) hl.isList (each_ref (fun t b h => ⟨t, rfl, h⟩) ht) (each_ref (fun t b h => ?_) ht) ?_ ?_ hsz ?_ fun out ho eo => ?_
  · obtain ⟨_, its2, r2, o, h1, h2, n, h3⟩ := I.hok _ _ h
    obtain ⟨as, h4⟩ := reads_k (h := s.heap) r2
    exact ⟨as, .tuple h1 h2 h3 (by simpa using h4)⟩
  · intro d hd d' hd'
    obtain ⟨b, hb, rfl⟩ := List.mem_map.mp hd
    obtain ⟨c, hc, rfl⟩ := List.mem_map.mp hd'
    show alike (.tuple _) (.tuple _) = true
    rw [alike]
    exact alike_k (al.al b hb c hc)
  · refine .inl fun d hd => ?_
    obtain ⟨b, hb, rfl⟩ := List.mem_map.mp hd
    cases b with
    | nil => exact absurd rfl (al.ne _ hb)
    | cons x r => exact ⟨encK x, r.map encK, rfl⟩
  · intro b hb
    have : (encT b).depth ≤ 1 := by
      show (PyData.tuple (b.map encK)).depth ≤ 1
      rw [PyData.depth, depth_k]; exact Nat.le_refl _
    omega
  · obtain ⟨ts', rfl, e2⟩ := ref_each eo
    obtain ⟨c, hc⟩ := sortedAll_at s.heap (ts.map Value.ref) (ts'.map Value.ref).toArray
    have hl2 : (refsV ts').length ≤ sizeLine := by
      unfold refsV
      rw [List.length_map, each_len e2, List.length_mergeSort]
      exact hsz
    refine ⟨.ref (s.heap.objs.size + 1), L2.upd H (s.heap.objs.size + 1) (.lst (refsV ts')), I.laid (t' := s.toks) (fun b o => sortedAll_old) (Nat.le_succ _) ⟨hl2, ts'.map Value.ref, c, vals_refs ts', hc⟩, rfl, q ts' _ e2 (I.hok.fresh (Nat.le_succ _))⟩
end
end HF
set_option maxRecDepth 100000
set_option maxHeartbeats 2000000
namespace L2
open PySem PySem.Spec PyProof.Rows
section
variable {P : Program} {w : World} {K : PySem.W.Frag} {X : Cx} {tg : Expr} {d : Addr} {o : Obj} {es : Array DictEntry} {ep : Nat} {pn : List (Addr × Obj)} {σ : St} {H : Hp} {s : Shared}
theorem Inv.frzT2 {prs : List (List Key × V)} (I : Inv X pn σ H s) (h : H d = some (.frz o (.dT prs))) :
    (d == sysModules) = false ∧ s.heap.get? d = some o ∧ o.ExactDict ∧ ∃ (es : Array DictEntry) (ep : Nat), o.data = .dict es ep ∧ es.size = prs.length ∧
      ∀ (i : Nat) (k : List Key) (v : V), prs[i]? = some (k, v) → ∃ (en : DictEntry) (q : Addr), es[i]? = some en ∧ en.key = .ref q ∧ H q = some (.tup (k.map kV)) ∧ RelV v en.val := by
  obtain ⟨hDd, z, hSt, xs, pr, o', es, ep, ho, dEx, dDat, hEv, _⟩ := I.hok d _ h
  rw [hDd] at ho
  cases ho
  refine ⟨hSt, hDd, dEx, es, ep, dDat, ?_, fun i k v e => ?_⟩
  · have n1 : es.size = xs.length := size_of_entries hEv
    have n2 : prs.length = xs.length := Paired.length pr
    omega
  · obtain ⟨b, hb, e1, e2, e3⟩ := LiI.paired_get pr e
    have q := entry_at hEv i
    rw [hb] at q
    exact ⟨_, b.2.1, q, rfl, e2, e3⟩
def ItiT (d : Addr) (o : Obj) (prs : List (List Key × V)) : It :=
  ⟨fun i H => H d = some (.frz o (.dT prs)) ∧ i < prs.length, fun i H x H' => ∃ T k v q, prs[i]? = some (k, v) ∧ x = .ref T ∧ H T = none ∧ H q = some (.tup (k.map kV)) ∧ H' = upd H T (.tup [.ref q, v]), fun i H => H d = some (.frz o (.dT prs)) ∧ prs.length ≤ i⟩
theorem turn_itemsT {prs : List (List Key × V)} {elts : List Expr} {kk : Nat} {tpos : Pos} (itr : Addr) (hod : o.data = .dict es ep) :
    Turn P w K (.Tuple elts kk tpos) (ItiT d o prs) [itr] itr (fun i h => ∃ ok ov, IsItemIter h itr d i prs.length ep ok ov) where
  mem := by simp
  obj := fun i h st b hb => by
    have e : b = itr := by simpa using hb
    subst e
    obtain ⟨ok, ov, e⟩ := st
    exact ⟨_, e, fun v z => nomatch z⟩
  keep := fun i h h' st k => let ⟨ok, ov, e⟩ := st; ⟨ok, ov, k itr (by simp) _ e⟩
  item := by
    intro X hP hw hK hc i pn s σ H E I hFp st hg
    subst hP hw hK
    obtain ⟨hDd, hi⟩ := hg
    obtain ⟨hSt, dAt, dEx, es', ep', dDat, dLen, ent⟩ := I.frzT2 hDd
    obtain ⟨rfl, rfl⟩ := dict_ep hod dDat
    obtain ⟨⟨k, v⟩, hPr⟩ : ∃ p, prs[i]? = some p := ⟨prs[i], List.getElem?_eq_getElem hi⟩
    obtain ⟨en, q, hen, hkey, hQd, rVal⟩ := ent i k v hPr
    obtain ⟨ok, ov, hEv⟩ := st
    rw [← dLen] at hEv
    have hLow : itr < s.heap.objs.size := Heap.lt_size hEv
    have hie : i < es'.size := by omega
    have hen2 : es'[i] = en := by
      rw [Array.getElem?_eq_getElem hie] at hen
      exact Option.some.inj hen
    refine wpAny_pyNext_items_item_raw hEv ⟨o, dAt, dEx, dDat⟩ hie fun h' ho hTup hz hKeep => ?_
    rw [hen2, hkey] at ho hTup
    refine ⟨_, rfl, wpAny_letOwnedTupleGo_items (s := { s with heap := h' }) ho fun h'' he' sBut => ?_⟩
    have hT2 : h''.get? s.heap.objs.size = some { cls := .type "tuple", data := .seq #[.ref q, en.val] } := (sBut.2 _ (Nat.ne_of_gt hLow)).trans hTup
    have tNew : ObjOk X.prog X.w (upd H s.heap.objs.size (.tup [.ref q, v])) h'' s.heap.objs.size (.tup [.ref q, v]) :=
      ⟨by show 2 ≤ sizeLine; decide, [.ref q, en.val], .cons rfl (.cons rVal .nil), ⟨_, hT2, rfl, _, rfl⟩⟩
    have J1 : Inv X pn σ (upd H s.heap.objs.size (.tup [.ref q, v])) { s with heap := h'' } :=
      I.turnedNew (t' := s.toks) (ch := [itr]) (fun b obj hb e => (sBut.2 b (by simpa using hb)).trans (hKeep b obj (by simpa using hb) e)) hFp (Nat.le_refl _) tNew
    refine ⟨.ref s.heap.objs.size, _, J1, rfl, ⟨_, k, v, q, hPr, rfl, I.hok.fresh (Nat.le_refl _), hQd, rfl⟩, ⟨.ref q, en.val, ?_⟩, fun b hb => ?_⟩
    · rw [← dLen]; exact he'
    · have e : b = itr := by simpa using hb
      rw [e, upd_ne (Nat.ne_of_lt hLow)]
      exact (hFp itr (by simp)).1
  done := by
    intro X hP hw hK hc i pn s σ H E I hFp st hg
    subst hP hw hK
    obtain ⟨hDd, hi⟩ := hg
    obtain ⟨f0, f1, f2, f3, f4, f5⟩ := hFp itr (by simp)
    obtain ⟨hSt, dAt, dEx, es', ep', dDat, dLen, ent⟩ := I.frzT2 hDd
    obtain ⟨rfl, rfl⟩ := dict_ep hod dDat
    obtain ⟨ok, ov, hEv⟩ := st
    rw [← dLen] at hEv
    exact wpAny_pyNext_items_end_raw (I.ok.hd hc) hEv ⟨o, dAt, dEx, dDat⟩ (by omega) fun h' eBut => ⟨rfl, I.turned (t' := s.toks) (fun b obj hb e => eBut b obj hb e) f0 f1 f3 f4 f5⟩
  self := fun A i s Q E st h => let ⟨_, _, e⟩ := st; PySem.W.kcp_self e h
def iItemsT (td : TE) : TI := fun σ H R => td σ H fun x H1 => ∃ d o prs, x = .ref d ∧ H1 d = some (.frz o (.dT prs)) ∧ R (ItiT d o prs) H1
theorem pi_itemsT {e : Expr} {td : TE} {atp callp : Pos} {elts : List Expr} {kk : Nat} {tpos : Pos} (hEv : PE X e td) (hBase : attributeBase e "items" X.env (eval e X.env) = eval e X.env := by rfl) (hLine : (atp.endLine == callp.line) = true := by rfl) :
    PI X (.Tuple elts kk tpos) (.Call (.Attribute e "items" atp) [] [] callp) (iItemsT td) := by
  refine ⟨fun pn s σ H R I h => ?_⟩
  refine wpAny_Call_method (T := "dict") (id := "dict.items") hBase rfl hLine F.plainAttrs_dict F.slot_dict_items F.type_dict_items (thn (hEv.run pn s σ H _ I h) fun uv s1 ⟨x, H1, J1, rX, d, o, prs, ex, hDd, q⟩ => ?_)
  subst ex
  obtain rfl : uv = Value.ref d := rX
  obtain ⟨hSt, dAt, dEx, es, ep, dDat, dLen, ent⟩ := J1.frzT2 hDd
  have hr : s1.heap.DictRaw d es ep := ⟨o, dAt, dEx, dDat⟩
  refine ⟨hr.typeIs, fun b e => (by cases e; exact ⟨o, dAt, dEx.2.1⟩), ?_⟩
  have J2 : Inv X pn σ H1 { s1 with heap := s1.heap.push { cls := .type "dict_items", data := .fields #[.ref d] } } := J1.kept (t' := s1.toks) fun b obj q => Heap.get?_push_of_some _ q
  have goOn : wpAny (model X.prog X.w) X.A (pyIter (.ref s1.heap.objs.size)) (PIE X pn σ (.Tuple elts kk tpos) R) X.xe { s1 with heap := s1.heap.push { cls := .type "dict_items", data := .fields #[.ref d] } } := by
    refine wpAny_pyIter_items_raw (d := d) (es := es) (ep := ep) ⟨_, Heap.get?_push_size _ rfl, rfl, rfl⟩ (hr.at fun obj q => Heap.get?_push_of_some _ q) (pi_one (tk := s1.toks) J2 _ (turn_itemsT _ dDat) ⟨.none, .none, ?_⟩ q)
    rw [← dLen]
    exact Heap.get?_push_size _ rfl
  show wpAny _ _ (callWith callp (.builtin "dict.items") [.ref d] [] []) _ X.xe s1
  exact method_meetsIn F.slot_dict_items F.entry_dict_items rfl (PySem.evalArgs_none ⟨rfl, hr.typeIs, F.args_dict_items_1 _, _, meets_dict_items_raw d hSt, ⟨es, ep, hr⟩, goOn⟩)
theorem walk_itemsT {prs : List (List Key × V)} : Walk (ItiT d o prs) prs.length (fun H => H d = some (.frz o (.dT prs)))
    (fun i H x H' => ∃ T k v q, prs[i]? = some (k, v) ∧ x = .ref T ∧ H T = none ∧ H q = some (.tup (k.map kV)) ∧ H' = upd H T (.tup [.ref q, v])) :=
  ⟨fun _ _ hi q => ⟨q, hi⟩, fun _ q => ⟨q, Nat.le_refl _⟩, fun _ _ _ _ _ _ y => y⟩
/-! ### list(e.values()) -/
def rValuesL : V → Hp → VK → Prop := fun x H Q => ∃ (d : Addr) (prs : List (Key × V)), x = .ref d ∧ H d = some (.dK prs) ∧ ∀ p, H p = none → Q (.ref p) (upd H p (.lst (prs.map Prod.snd)))
def tListValues (te : TE) : TE := fun σ H Q => te σ H fun x H1 => rValuesL x H1 Q
theorem vals_by : ∀ {xs : List V} {us : List Value}, xs.length = us.length → (∀ (i : Nat) (x : V) (uv : Value), xs[i]? = some x → us[i]? = some uv → RelV x uv) → Vals xs us
  | [], [], _, _ => .nil
  | [], _ :: _, h, _ => by cases h
  | _ :: _, [], h, _ => by cases h
  | x :: xs, uv :: us, h, q => .cons (q 0 x uv rfl rfl) (vals_by (Nat.succ.inj h) fun i a b e f => q (i + 1) a b e f)
theorem pe_listValues {e : Expr} {te : TE} {p atp callp pos : Pos} (hc : X.calm = true) (hEv : PE X e te) (hg : Gl X "list") (hm : X.mg "list" = none) (hv : bootBuiltins "list" = some (.type "list")) (hBase : attributeBase e "values" X.env (eval e X.env) = eval e X.env := by rfl) (hLine : (atp.endLine == callp.line) = true := by rfl)
    (hSt : starEach [.Call (.Attribute e "values" atp) [] [] callp] X.env = (false, eval (.Call (.Attribute e "values" atp) [] [] callp) X.env) :: starEach [] X.env := by rfl) :
    PE X (.Call (.Name "list" p) [.Call (.Attribute e "values" atp) [] [] callp] [] pos) (tListValues te) := by
  refine ⟨fun pn s σ H Q I hQd => ?_⟩
  refine wpAny_Call_Name_kw (ld_blt I hg hm hv ?_)
  refine PyProof.Rows.callWith_type1 ?_ hSt rfl
  rw [hSt]
  show wpAny _ _ (spliced ((false, eval (.Call (.Attribute e "values" atp) [] [] callp) X.env) :: backTo pos (starEach [] X.env))) _ _ s
  refine Calls.spliced_cons ?_
  refine wpAny_Call_method (T := "dict") (id := "dict.values") hBase rfl hLine F.plainAttrs_dict F.slot_dict_values F.type_dict_values (thn (hEv.run pn s σ H _ I hQd) fun uv s1 ⟨x, H1, J1, rX, d, prs, ex, hDd, q⟩ => ?_)
  subst ex
  obtain rfl : uv = Value.ref d := rX
  obtain ⟨hz, hs0, vs, kVs, dOf⟩ := J1.hok d _ hDd
  obtain ⟨es, ep, hr, dLen, hes⟩ := dOf.raw
  have lKv : prs.length = vs.length := Paired.length kVs
  have J2 : Inv X pn σ H1 { s1 with heap := s1.heap.push { cls := .type "dict_values", data := .fields #[.ref d] } } := J1.kept (t' := s1.toks) fun b obj q => Heap.get?_push_of_some _ q
  refine ⟨dOf.typeIs, dOf.mapOf.noDict, ?_⟩
  show wpAny _ _ (callWith callp (.builtin "dict.values") [.ref d] [] []) _ X.xe s1
  refine method_meetsIn F.slot_dict_values F.entry_dict_values rfl (PySem.evalArgs_none ⟨rfl, dOf.typeIs, F.args_dict_values_1 _, _, meets_dict_values_raw d hs0, ⟨es, ep, hr⟩, ?_⟩)
  refine Calls.spliced_nil ?_
  refine PySem.W.kdl_call (KdlSrc.rawValues (es := es) (ep := ep)) (J1.ok.hd hc) ⟨⟨_, Heap.get?_push_size _ rfl, rfl, rfl⟩, hr.at fun obj q => Heap.get?_push_of_some _ q⟩ (by omega) fun h' tk acc c hKeep hS hacc => ?_
  have hv2 : Vals (prs.map Prod.snd) acc.toList := vals_by (by have h1 : acc.size = es.size := hacc.1; have h2 : (prs.map Prod.snd).length = prs.length := List.length_map _; have h3 : acc.toList.length = acc.size := Array.length_toList; exact h2.trans (lKv.trans (dLen.symm.trans (h1.symm.trans h3.symm)))) fun i x uv e1 e2 => by
    rw [List.getElem?_map] at e1
    obtain ⟨⟨k, v⟩, g1, g2⟩ : ∃ p, prs[i]? = some p ∧ p.2 = x := by
      cases z : prs[i]? with
      | none => rw [z] at e1; cases e1
      | some p => rw [z] at e1; exact ⟨p, rfl, Option.some.inj e1⟩
    subst g2
    obtain ⟨b, hb, b1, b2⟩ := LiI.paired_get kVs g1
    rw [Array.getElem?_toList] at e2
    obtain ⟨hi, e3⟩ := hacc.2 i uv e2
    rw [e3, (hes i hi b.1 b.2 hb).2]
    exact b2
  refine ⟨.ref _, upd H1 _ (.lst (prs.map Prod.snd)), J2.laid (t' := tk) hKeep (Nat.le_refl _) ⟨by rw [List.length_map]; exact hz, acc.toList, c, hv2, ?_⟩, rfl, q _ (J2.hok.fresh (Nat.le_refl _))⟩
  rw [Array.toArray_toList]
  exact hS
end
end L2
set_option maxRecDepth 100000
set_option maxHeartbeats 2000000
namespace HF
open PySem L2 Evl
open PySem.W (EachIs)
/-- a new object, of which P is told -/
def EvX (te : TE) (σ : L2.St) (H : Hp) (P : Addr → Hp → Prop) : Prop := ∀ H1, Ex H H1 → ∀ Q : VK, (∀ p H2, H1 p = none → Ex H1 H2 → P p H2 → Q (.ref p) H2) → te σ H1 Q
theorem each_mono {α β : Type} {R S : α → β → Prop} (h : ∀ a b, R a b → S a b) : ∀ {as : List α} {bs : List β}, EachIs R as bs → EachIs S as bs
  | _, _, .nil => .nil
  | _, _, .cons a t => .cons (h _ _ a) (each_mono h t)
theorem TsAt.mono {H H' : Hp} {ts : List Addr} {bs : List (List L2.Key)} (e : Ex H H') (h : TsAt H ts bs) : TsAt H' ts bs := each_mono (fun _ _ q => e _ _ q) h
theorem TsAt.upd {H : Hp} {ts : List Addr} {bs : List (List L2.Key)} {x : Addr} {o : HO} (hx : ∀ xs, H x ≠ some (.tup xs)) (h : TsAt H ts bs) : TsAt (L2.upd H x o) ts bs :=
  each_mono (fun t b q => by
    rw [upd_ne (fun z => hx _ (by rw [← z]; exact q))]
    exact q) h
theorem each_snoc {α β : Type} {R : α → β → Prop} : ∀ {as : List α} {bs : List β} {a : α} {b : β}, EachIs R as bs → R a b → EachIs R (as ++ [a]) (bs ++ [b])
  | _, _, _, _, .nil, r => .cons r .nil
  | _, _, _, _, .cons q t, r => .cons q (each_snoc t r)
/-- a list, a tuple of tuples -/
def PL (bs : List (List L2.Key)) (p : Addr) (H : Hp) : Prop := ∃ ts, H p = some (.lst (refsV ts)) ∧ TsAt H ts bs
def PT (bs : List (List L2.Key)) (p : Addr) (H : Hp) : Prop := ∃ ts, H p = some (.tup (refsV ts)) ∧ TsAt H ts bs
theorem PT.mono {bs : List (List L2.Key)} {p : Addr} {H H' : Hp} (e : Ex H H') (h : PT bs p H) : PT bs p H' := by
  obtain ⟨ts, a, b⟩ := h
  exact ⟨ts, e _ _ a, b.mono e⟩
section
variable {K : PySem.W.Frag} {σ : L2.St} {H : Hp} {t : TT} {te ta tb tl : TE} {D : Ends} {tz : TS}
theorem ext_tuple {bs : List (List L2.Key)} (h : EvX ta σ H (PL bs)) : EvX (tCB (rTupOf K) (tCons ta tNil)) σ H (PT bs) := fun H1 e Q q =>
  h H1 e _ fun p H2 hp e2 ⟨ts, h2, h3⟩ => ⟨p, refsV ts, rfl, Or.inl ⟨sq_of h2, fun l hl => q l _ (fresh_back e2 hl) (e2.trans (Ex.new hl)) ⟨ts, upd_same, h3.mono (Ex.new hl)⟩⟩⟩
theorem ext_list {xs : List V} (h : EvX ta σ H (fun p H => H p = some (.lst xs))) : EvX (tCB (rTupOf K) (tCons ta tNil)) σ H (fun p H => H p = some (.tup xs)) := fun H1 e Q q =>
  h H1 e _ fun p H2 hp e2 h2 => ⟨p, xs, rfl, Or.inl ⟨sq_of h2, fun l hl => q l _ (fresh_back e2 hl) (e2.trans (Ex.new hl)) upd_same⟩⟩
theorem exl_values {d : Addr} {kvs : List (L2.Key × V)} (h : Ev ta σ H (.ref d)) (hd : H d = some (.dK kvs)) : EvX (tListValues ta) σ H (fun p H => H p = some (.lst (kvs.map Prod.snd))) := fun H1 e Q q =>
  h H1 e _ fun H2 e2 => ⟨d, kvs, rfl, e2 _ _ (e _ _ hd), fun p hp => q p _ (fresh_back e2 hp) (e2.trans (Ex.new hp)) upd_same⟩
theorem paired_each {α β : Type} {R : α → β → Prop} : ∀ {as : List α} {bs : List β}, Paired R as bs → EachIs R as bs
  | _, _, .nil => .nil
  | _, _, .cons a t => .cons a (paired_each t)
theorem each_mapR {α β γ : Type} {R : α → γ → Prop} (f : β → γ) : ∀ {as : List α} {bs : List β}, EachIs (fun a b => R a (f b)) as bs → EachIs R as (bs.map f)
  | _, _, .nil => .nil
  | _, _, .cons a t => .cons a (each_mapR f t)
theorem each_mapL {α β γ : Type} {R : α → γ → Prop} (f : β → γ) : ∀ {as : List α} {bs : List β}, EachIs R as (bs.map f) → EachIs (fun a b => R a (f b)) as bs
  | _, [], .nil => .nil
  | _, _ :: _, .cons a t => .cons a (each_mapL f t)
def cellB (c : Str × Str) : List L2.Key := [.inr c.1, .inr c.2]
theorem exl_items {d : Addr} {cs : List (Str × Str)} (h : Ev ta σ H (.ref d)) (hd : H d = some (.dK (cellsV cs))) : EvX (LiI.tListItems ta) σ H (PL (cs.map cellB)) := fun H1 e Q q =>
  h H1 e _ fun H2 e2 => ⟨d, cellsV cs, rfl, e2 _ _ (e _ _ hd), fun H' p ts e3 hp hts hn hl hpr => q p H' (fresh_back e2 hp) (e2.trans e3) ⟨ts, hl, each_mapR cellB (each_mapL (fun c : Str × Str => ((Sum.inr c.1 : L2.Key), V.str c.2)) (R := fun (t : Addr) (q : L2.Key × V) => H' t = some (.tup [kV q.1, q.2])) (paired_each hpr))⟩⟩
theorem exl_sorted {bs : List (List L2.Key)} (h : EvX ta σ H (PL bs)) (al : OneShape bs) : EvX (tCB (rSortTup K) (tCons ta tNil)) σ H (PL (bs.mergeSort tupLe)) := fun H1 e Q q =>
  h H1 e _ fun p H2 hp e2 ⟨ts, h2, h3⟩ => ⟨p, ts, bs, rfl, sq_of h2, h3, al, fun ts' l h4 hl => q l _ (fresh_back e2 hl) (e2.trans (Ex.new hl)) ⟨ts', upd_same, h4.mono (Ex.new hl)⟩⟩
/-- a comprehension of tuples, over a tuple -/
def Cx2 (H : Hp) (bs : List (List L2.Key)) (Dl : Addr) (H' : Hp) : Prop := H Dl = none ∧ Ex H H' ∧ PL bs Dl H'
theorem cx_turn {H H' : Hp} {bs : List (List L2.Key)} {Dl : Addr} {b : Bool} {v : List L2.Key} {σ2 : L2.St} (p : Cx2 H bs Dl H') (hi : bs.length < 50000) (ht : EvT t σ2 H b) (he : b = true → EvU te σ2 H (v.map kV)) :
    t σ2 H' fun b' H3 => if b' = true then te σ2 H3 fun y H4 => ∃ acc, H4 Dl = some (.lst acc) ∧ acc.length < sizeLine ∧ Cx2 H (if b = true then bs ++ [v] else bs) Dl (upd H4 Dl (.lst (acc ++ [y]))) else Cx2 H (if b = true then bs ++ [v] else bs) Dl H3 := by
  obtain ⟨p1, p2, ts, p3, p4⟩ := p
  refine ht H' p2 _ fun H3 e3 => ?_
  cases hf : b with
  | true =>
    show te σ2 H3 fun y H4 => ∃ acc, H4 Dl = some (.lst acc) ∧ acc.length < sizeLine ∧ Cx2 H (bs ++ [v]) Dl (upd H4 Dl (.lst (acc ++ [y])))
    have hl : (refsV ts).length < sizeLine := sz_lt (by have := each_len p4; unfold refsV; rw [List.length_map]; omega)
    refine he hf H3 (p2.trans e3) _ fun T H4 hT e4 h4 => ⟨refsV ts, e4 Dl _ (e3 Dl _ p3), hl, p1, Ex.mut ((p2.trans e3).trans e4) p1, ts ++ [T], ?_, ?_⟩
    · rw [upd_same]
      unfold refsV
      rw [List.map_append]
      rfl
    · have h5 : H4 Dl = some (.lst (refsV ts)) := e4 Dl _ (e3 Dl _ p3)
      exact TsAt.upd (fun xs z => by rw [h5] at z; cases z) (each_snoc (p4.mono (e3.trans e4)) h4)
  | false => exact ⟨p1, p2.trans e3, ts, e3 Dl _ p3, p4.mono e3⟩
/-- the items up to the i-th that are taken -/
def upTo {α : Type} (f : α → Bool) (v : α → List L2.Key) (xs : List α) : List (List L2.Key) := (xs.filter f).map v
theorem upTo_succ {α : Type} {f : α → Bool} {v : α → List L2.Key} {xs : List α} {i : Nat} {x : α} (h : xs[i]? = some x) : upTo f v (xs.take (i + 1)) = if f x = true then upTo f v (xs.take i) ++ [v x] else upTo f v (xs.take i) := by
  have e : xs.take (i + 1) = xs.take i ++ [x] := by
    rw [List.take_add_one, h]
    rfl
  unfold upTo
  rw [e, List.filter_append, List.map_append]
  cases hf : f x with
  | true => rw [List.filter_cons_of_pos hf]; rfl
  | false =>
    rw [List.filter_cons_of_neg (by rw [hf]; exact Bool.false_ne_true)]
    simp
theorem upTo_len {α : Type} {f : α → Bool} {v : α → List L2.Key} {xs : List α} : (upTo f v xs).length ≤ xs.length := by
  unfold upTo
  rw [List.length_map]
  exact List.length_filter_le _ _
theorem exl_lcT {α : Type} {q : Addr} {xs : List α} (rv : α → V) (f : α → Bool) (v : α → List L2.Key) {j : Nat} {vs : List Nat} (h : Ev tl σ H (.ref q)) (hq : SqT K H q (xs.map rv)) (hz : xs.length ≤ 40000) (hw : ∀ x, wipe ((wipe σ vs).set j (some x)) vs = wipe σ vs)
    (ht : ∀ (x : α) H1, Ex H H1 → x ∈ xs → EvT t ((wipe σ vs).set j (some (rv x))) H1 (f x)) (he : ∀ (x : α) H1, Ex H H1 → x ∈ xs → f x = true → EvU te ((wipe σ vs).set j (some (rv x))) H1 ((v x).map kV)) :
    EvX (tLc (iTup K tl) (gName j) t te vs) σ H (PL (upTo f v xs)) := fun H0 e Q q0 => h H0 e _ fun H1 e1 => ⟨q, rfl, ⟨xs.map rv, ex_t (e.trans e1) hq⟩, fun Dl hD =>
  lc_it (n := xs.length) (Eq.mp (by rw [List.length_map]) (walk_tup (K := K) (a := q) (xs := xs.map rv))) (fun i H' => Cx2 H1 (upTo f v (xs.take i)) Dl H') ⟨hD, Ex.new hD, [], upd_same, .nil⟩ (fun i H' _ p => ex_t ((e.trans e1).trans p.2.1) hq) (fun i x H2 H' hi p y => by
    obtain ⟨rfl, hc⟩ := y
    rw [List.getElem?_map] at hc
    obtain ⟨a, ha, rfl⟩ : ∃ a, xs[i]? = some a ∧ rv a = x := by
      cases z : xs[i]? with
      | none => rw [z] at hc; cases hc
      | some a => rw [z] at hc; exact ⟨a, rfl, Option.some.inj hc⟩
    have hm := List.mem_of_getElem? ha
    rw [upTo_succ ha]
    exact ⟨hw _, cx_turn p (by have := upTo_len (f := f) (v := v) (xs := xs.take i); rw [List.length_take] at this; omega) (ht a H1 (e.trans e1) hm) (fun hf => he a H1 (e.trans e1) hm hf)⟩)
    (fun H' p => q0 Dl H' (fresh_back e1 p.1) (e1.trans p.2.1) (by have := p.2.2; rw [List.take_length] at this; exact this))⟩
/-- .. over the items of a dict with tuple keys, locked -/
theorem exl_lcI {d : Addr} {od : Obj} {α : Type} {xs : List α} (kf : α → List L2.Key) (vf : α → V) (v : α → List L2.Key) {j1 j2 : Nat} {vs : List Nat} (h : Ev tl σ H (.ref d)) (hd : H d = some (.frz od (.dT (xs.map fun a => (kf a, vf a))))) (hz : xs.length ≤ 40000)
    (hw : ∀ x y, wipe (((wipe σ vs).set j1 (some x)).set j2 (some y)) vs = wipe σ vs)
    (he : ∀ (a : α) (q : Addr) H1, Ex H H1 → H1 q = some (.tup ((kf a).map kV)) → EvU te (((wipe σ vs).set j1 (some (.ref q))).set j2 (some (vf a))) H1 ((v a).map kV)) :
    EvX (tLc (iItemsT tl) (gTup K 2 (gCons (gName j1) (gCons (gName j2) gNil))) tYes te vs) σ H (PL (xs.map v)) := fun H0 e Q q0 => h H0 e _ fun H1 e1 => ⟨d, od, _, rfl, e1 _ _ (e _ _ hd), fun Dl hD =>
  lc_it (n := xs.length) (Eq.mp (by rw [List.length_map]) (walk_itemsT (d := d) (o := od) (prs := xs.map fun a => (kf a, vf a)))) (fun i H' => Cx2 H1 ((xs.take i).map v) Dl H') ⟨hD, Ex.new hD, [], upd_same, .nil⟩ (fun i H' _ p => p.2.1 _ _ (e1 _ _ (e _ _ hd))) (fun i x H2 H' hi p y => by
    obtain ⟨T, k, u, q, hc, rfl, hT, hq, rfl⟩ := y
    rw [List.getElem?_map] at hc
    obtain ⟨a, ha, e5⟩ : ∃ a, xs[i]? = some a ∧ (kf a, vf a) = (k, u) := by
      cases z : xs[i]? with
      | none => rw [z] at hc; cases hc
      | some a => rw [z] at hc; exact ⟨a, rfl, Option.some.inj hc⟩
    cases e5
    have e6 : (xs.take (i + 1)).map v = (xs.take i).map v ++ [v a] := by
      rw [List.take_add_one, ha, List.map_append]
      rfl
    rw [e6]
    obtain ⟨p1, p2, ts, p3, p4⟩ := p
    have eT : Ex H2 (L2.upd H2 T (.tup [.ref q, vf a])) := Ex.new hT
    refine ⟨T, [.ref q, vf a], rfl, SqT.of upd_same, rfl, _, _, rfl, _, _, rfl, rfl, hw _ _, ?_⟩
    have hl : (refsV ts).length < sizeLine := sz_lt (by have := each_len p4; unfold refsV; rw [List.length_map]; rw [List.length_map, List.length_take] at this; omega)
    show te _ _ _
    refine he a q (L2.upd H2 T (.tup [.ref q, vf a])) ((e.trans e1).trans (p2.trans eT)) (eT _ _ hq) (L2.upd H2 T (.tup [.ref q, vf a])) (Ex.refl _) _ fun T2 H4 hT2 e4 h4 => ⟨refsV ts, e4 Dl _ (eT Dl _ p3), hl, p1, Ex.mut ((p2.trans eT).trans e4) p1, ts ++ [T2], ?_, ?_⟩
    · rw [upd_same]
      unfold refsV
      rw [List.map_append]
      rfl
    · have h5 : H4 Dl = some (.lst (refsV ts)) := e4 Dl _ (eT Dl _ p3)
      exact TsAt.upd (fun xs z => by rw [h5] at z; cases z) (each_snoc (p4.mono (eT.trans e4)) h4))
    (fun H' p => q0 Dl H' (fresh_back e1 p.1) (e1.trans p.2.1) (by have := p.2.2; rw [List.take_length] at this; exact this))⟩
theorem ex_lock {d : Addr} {u : HO} {Pd : Addr → Hp → Prop} (hd : H d = some u) (mu : Mut (some u)) (h : ∀ od, EvX te σ (upd H d (.frz od u)) Pd) (hP : ∀ od p H2, H2 d = some (.frz od u) → Pd p H2 → Pd p (upd H2 d u)) : EvX (tLockE te) σ H Pd := fun H1 e Q q => by
  have hd1 : H1 d = some u := e _ _ hd
  refine ⟨d, u, hd1, mu, fun od => h od (upd H1 d (.frz od u)) ?_ _ fun p H2 hp e2 h2 => ?_⟩
  · intro b o hb
    by_cases z : b = d
    · subst z
      rw [upd_same] at hb ⊢
      exact hb
    · rw [upd_ne z] at hb ⊢
      exact e _ _ hb
  · have hfd : H2 d = some (.frz od u) := e2 _ _ upd_same
    have hpd : p ≠ d := fun z => by rw [z, upd_same] at hp; cases hp
    refine ⟨hfd, q p _ (by rw [upd_ne hpd] at hp; exact hp) ?_ (hP od p H2 hfd h2)⟩
    intro b o hb
    by_cases z : b = d
    · subst z
      rw [upd_same]
      rw [hd1] at hb
      exact hb
    · rw [upd_ne z]
      exact e2 _ _ (by rw [upd_ne z]; exact hb)
theorem pl_lock {bs : List (List L2.Key)} {d : Addr} {u : HO} (od : Obj) (p : Addr) (H2 : Hp) (hd : H2 d = some (.frz od u)) (h : PL bs p H2) : PL bs p (upd H2 d u) := by
  obtain ⟨ts, a, b⟩ := h
  exact ⟨ts, by rw [upd_ne (fun z => by rw [z, hd] at a; cases a)]; exact a, b.upd (fun xs z => by rw [hd] at z; cases z)⟩
theorem q_fldX {a C dx : Addr} {fs : List (Str × V)} {f : Str} {Pd : Addr → Hp → Prop} {tv : TE} (h : EvX tv σ H Pd) (ho : ∀ H1, Ex H H1 → Ev ta σ H1 (.ref a)) (hi : H a = some (.ins C dx fs)) (hc : Cls K C) (hn : NoAttr K C f) (hl : fs.length < 1000) (hP : ∀ l H1 H2, Ex H1 H2 → Pd l H1 → Pd l H2) (k : ∀ l H1, H l = none → Ex H H1 → Pd l H1 → tz D σ (upd H1 a (.ins C dx (putF f (.ref l) fs)))) : tSeq (sFld K ta tv f) tz D σ H :=
  h H (Ex.refl H) _ fun l H1 hl0 e1 h1 => ho H1 e1 H1 (Ex.refl H1) _ fun H2 e2 => ⟨a, C, dx, fs, rfl, (e1.trans e2) _ _ hi, hc, hn, hl, k l H2 hl0 (e1.trans e2) (hP _ _ _ e2 h1)⟩
theorem s_fldX {a C dx : Addr} {fs : List (Str × V)} {f : Str} {Pd : Addr → Hp → Prop} {tv : TE} (h : EvX tv σ H Pd) (ho : ∀ H1, Ex H H1 → Ev ta σ H1 (.ref a)) (hi : H a = some (.ins C dx fs)) (hc : Cls K C) (hn : NoAttr K C f) (hl : fs.length < 1000) (hP : ∀ l H1 H2, Ex H1 H2 → Pd l H1 → Pd l H2) (k : ∀ l H1, H l = none → Ex H H1 → Pd l H1 → D.nx σ (upd H1 a (.ins C dx (putF f (.ref l) fs)))) : sFld K ta tv f D σ H :=
  h H (Ex.refl H) _ fun l H1 hl0 e1 h1 => ho H1 e1 H1 (Ex.refl H1) _ fun H2 e2 => ⟨a, C, dx, fs, rfl, (e1.trans e2) _ _ hi, hc, hn, hl, k l H2 hl0 (e1.trans e2) (hP _ _ _ e2 h1)⟩
/-- xs + ys, two tuples, both with an item -/
theorem eu_catA {xs ys : List V} {p : Addr} (ha : Ev ta σ H (.ref p)) (hp : H p = some (.tup xs)) (hb : EvU tb σ H ys) (hx : xs ≠ []) (hy : ys ≠ []) (hz : xs.length + ys.length ≤ 1000) : EvU (tOp (rCatA K) ta tb) σ H (xs ++ ys) := fun H1 e Q q =>
  ha H1 e _ fun H2 e2 => hb H2 (e.trans e2) _ fun p3 H3 hp3 e3 h3 => ⟨p, p3, xs, ys, rfl, rfl, st_of (e3 _ _ (e2 _ _ (e _ _ hp))), st_of h3, sz_of (by omega), fun z => absurd z hx, fun _ z => absurd z hy, fun _ _ l hl =>
    q l _ (fresh_back (e2.trans e3) hl) ((e2.trans e3).trans (Ex.new hl)) upd_same⟩
end
end HF
set_option maxRecDepth 100000
set_option maxHeartbeats 2000000
namespace HF
open PySem L2 Evl
open PySem.W (EachIs)
/-! ### Unit -/
structure ClU (K : PySem.W.Frag) (CU : Addr) : Prop where
  cls : Cls K CU
  words : NoAttr K CU "words"
  text : NoAttr K CU "text"
  name : NoAttr K CU "name"
  lines : NoAttr K CU "lines"
  cells : NoAttr K CU "cells"
  functions : NoAttr K CU "functions"
  opens : NoAttr K CU "opens"
  asks : NoAttr K CU "asks"
  memory : NoAttr K CU "memory"
structure TxUnit (K : PySem.W.Frag) (mg : Str → Option Value) (CU : Addr) : Prop extends ClU K CU where
  list : mg "list" = none
  sorted : mg "sorted" = none
theorem s_fldK {K : PySem.W.Frag} {σ : L2.St} {H : Hp} {ta : TE} {D : Ends} {a C dx : Addr} {fs : List (Str × V)} {f : Str} (ho : ∀ H1, Ex H H1 → Ev ta σ H1 (.ref a)) (hi : H a = some (.ins C dx fs)) (hc : Cls K C) (hn : NoAttr K C f) (hl : fs.length < 1000) (k : ∀ d H1, H d = none → Ex H H1 → H1 d = some (.dK []) → D.nx σ (upd H1 a (.ins C dx (putF f (.ref d) fs)))) : sFld K ta tDNewK f D σ H :=
  fun d hd => ho _ (Ex.new hd) _ (Ex.refl _) _ fun H2 e2 => ⟨a, C, dx, fs, rfl, ((Ex.new hd).trans e2) _ _ hi, hc, hn, hl, k d H2 hd ((Ex.new hd).trans e2) (e2 _ _ upd_same)⟩
def fsU (q : V) (text name : Str) (l c f o a m : Addr) : List (Str × V) := [("words", q), ("text", .str text), ("name", .str name), ("lines", .ref l), ("cells", .ref c), ("functions", .ref f), ("opens", .ref o), ("asks", .ref a), ("memory", .ref m)]
def openB (d : FnD) : List L2.Key := [.inr d.name, .inl (d.params.length : Nat)]
def askB (e : (Str × Str) × Int) : List L2.Key := [.inr e.1.1, .inr e.1.2, .inl e.2]
def opensOf (s : Ah) : List (List L2.Key) := (upTo (fun d : FnD => d.shared) openB s.funs).mergeSort tupLe
def asksOf (s : Ah) : List (List L2.Key) := (s.asked.map askB).mergeSort tupLe
structure UnitA (CU CF CR : Addr) (H : Hp) (x : Addr) (q : V) (text : Str) (s : Ah) (gs : List FG) : Prop where
  ex : ∃ dx l c f o a m, H x = some (.ins CU dx (fsU q text s.name l c f o a m)) ∧ H l = some (.tup (strsV (linesOf text))) ∧ PT (s.cells.map cellB) c H ∧ H f = some (.tup (gs.map fun g => V.ref g.fa)) ∧ PT (opensOf s) o H ∧ PT (asksOf s) a H ∧ H m = some (.dK [])
  gd : gs.map (·.d) = s.funs
  gf : ∀ g ∈ gs, FnAt CF CR H g
def Badw (K : PySem.W.Frag) (H : Hp) (v : V) : Prop := IsTy K H v "tuple" false ∨ ∃ q xs, v = .ref q ∧ H q = some (.tup xs) ∧ xs.length ≤ 1000 ∧ (∀ x ∈ xs, IsTy K H x "str" (isStrV x) ∧ (textOf x).length ≤ 60000) ∧ wordsV xs = false
structure Goodw (H : Hp) (q : Addr) (ts : List Str) : Prop where
  q : H q = some (.tup (strsV ts))
  w : wordsV (strsV ts) = true
theorem Badw.mono {K : PySem.W.Frag} {H H' : Hp} {v : V} (e : Ex H H') (h : Badw K H v) : Badw K H' v := by
  rcases h with h | ⟨q, xs, a, b, c, d, f⟩
  · exact Or.inl (h.mono e)
  · exact Or.inr ⟨q, xs, a, e _ _ b, c, fun x hx => ⟨(d x hx).1.mono e, (d x hx).2⟩, f⟩
theorem Goodw.mono {H H' : Hp} {q : Addr} {ts : List Str} (e : Ex H H') (h : Goodw H q ts) : Goodw H' q ts := ⟨e _ _ h.q, h.w⟩
theorem strs_text (ts : List Str) : (strsV ts).map textOf = ts := by
  unfold strsV
  rw [List.map_map]
  exact List.map_id'' (fun _ => rfl) ts
theorem wordsV_strs (ts : List Str) : wordsV (strsV ts) = (decide (1 ≤ ts.length) && decide (ts.length ≤ 3) && wordsS ts) := by
  have e : (strsV ts).all isStrV = true := List.all_eq_true.mpr fun x hx => by
    obtain ⟨t, _, rfl⟩ := List.mem_map.mp hx
    rfl
  unfold wordsV
  rw [e, strs_text, strsV_len]
  have e1 : decide ((1 : Int) ≤ (ts.length : Int)) = decide (1 ≤ ts.length) := decide2 (by omega)
  have e2 : decide ((ts.length : Int) ≤ (3 : Int)) = decide (ts.length ≤ 3) := decide2 (by omega)
  rw [e1, e2]
  cases decide (1 ≤ ts.length) <;> cases decide (ts.length ≤ 3) <;> rfl
theorem Goodw.len {H : Hp} {q : Addr} {ts : List Str} (h : Goodw H q ts) : 1 ≤ ts.length ∧ ts.length ≤ 3 ∧ wordsS ts = true := by
  have := h.w
  rw [wordsV_strs] at this
  simp only [Bool.and_eq_true, decide_eq_true_eq] at this
  exact ⟨this.1.1, this.1.2, this.2⟩
theorem Goodw.each {H : Hp} {q : Addr} {ts : List Str} (h : Goodw H q ts) : ∀ t ∈ ts, t.length ≤ 6 := fun t ht => by
  have := h.len.2.2
  unfold wordsS at this
  rw [Bool.and_eq_true, List.all_eq_true] at this
  have := this.2 t ht
  rw [Bool.and_eq_true] at this
  have := this.1
  unfold isCapital at this
  simp only [Bool.and_eq_true, decide_eq_true_eq] at this
  exact this.1.2
theorem bad_sp {K : PySem.W.Frag} {H : Hp} {v : V} (h : Badw K H v) : SpV (spWords K) [v] H (.bl false) := fun H1 e Q k E => ⟨v, rfl, by
  rcases h.mono e with h | ⟨q, xs, a, b, c, d, f⟩
  · exact Or.inl ⟨h, k⟩
  · exact Or.inr ⟨q, xs, a, b, c, d, by rw [f]; exact k⟩⟩
theorem good_sp {K : PySem.W.Frag} {H : Hp} {q : Addr} {ts : List Str} (h : Goodw H q ts) : SpV (spWords K) [.ref q] H (.bl true) := fun H1 e Q k E => ⟨.ref q, rfl, Or.inr ⟨q, strsV ts, rfl, e _ _ h.q, by rw [strsV_len]; have := h.len; omega, fun x hx => by
  obtain ⟨t, ht, rfl⟩ := List.mem_map.mp hx
  exact ⟨⟨.type "str", .base (.str t), kit_ty (show kitB "str" "str" = some true by decide +kernel)⟩, by have := h.each t ht; show t.length ≤ 60000; omega⟩, by rw [h.w]; exact k⟩⟩
theorem pe_hx {X : Cx} {W : WX} {k : Nat} {x : Str} {ps : List Str} {sp : Sp} {e : Expr} {es : List Expr} {t : TA} {p pos : Pos} (h : Has X.prog X.w X.K X.mg X.base (L2.CX X.prog X.w) k x ps sp) (hr : Room k X.A) (tk : Takes X W) (ha : PA X (e :: es) t) (hg : Gl X x := by rfl)
    (hdb : (x == ("__debug__" : Str)) = false := by decide) (he : starEach (e :: es) X.env = (false, eval e X.env) :: starEach es X.env := by rfl) (hpl : (backTo pos (starEach es X.env)).any (·.1) = false := by rfl) :
    PE X (.Call (.Name x p) (e :: es) [] pos) (tCallS sp (WE W) t) := by
  obtain ⟨f, fd, a, b, c, d⟩ := h.ex
  exact pe_callS d hr hg a b c (fun σ => passAt tk σ) ha hdb he hpl
/-- what is read, for making the unit of it -/
structure RdU (C CR CF : Addr) (H : Hp) (p : Addr) (s : Ah) (A : Ad) : Prop where
  o : H p = some (.ins C A.dx (fsA A.tw (.str s.name) A.dc A.df (curV s.opn A.gs) A.lb (.ref A.ls) A.da))
  c : H A.dc = some (.dK (cellsV s.cells))
  f : H A.df = some (.dK (funsV A.gs))
  k : H A.da = some (.dT (askedV s.asked))
  gf : ∀ g ∈ A.gs, FnAt CF CR H g
theorem ins_ne {A B d e : Addr} {f g : List (Str × V)} (h : A ≠ B) : (HO.ins A d f) ≠ .ins B e g := fun z => h (HO.ins.inj z).1
section
variable {x dx CU : Addr} {fs : List (Str × V)} {H H' : Hp} (k : KeepB x H H') (hx : H x = some (.ins CU dx fs))
include k hx
theorem kb {b : Addr} {o : HO} (h : H b = some o) (n : o ≠ .ins CU dx fs) : H' b = some o := k b o (ne_of h hx n) h
theorem FnAt.kb {CF CR : Addr} {g : FG} (n1 : CU ≠ CR) (n2 : CU ≠ CF) (h : FnAt CF CR H g) : FnAt CF CR H' g := by
  obtain ⟨d2, line, last, tp, g1, g2⟩ := h.ex
  refine ⟨⟨d2, line, last, tp, HF.kb k hx g1 (ins_ne (Ne.symm n2)), HF.kb k hx g2 (by (intros; intro z; cases z))⟩, HF.kb k hx h.lr (by (intros; intro z; cases z)), h.len, fun i r d p q => ?_⟩
  obtain ⟨d3, tw, m, l, b, gd, r1, r2⟩ := (h.row i r d p q).ex
  exact ⟨d3, tw, m, l, b, gd, HF.kb k hx r1 (ins_ne (Ne.symm n1)), HF.kb k hx r2 (by (intros; intro z; cases z))⟩
theorem RdU.kb {C CF CR : Addr} {p : Addr} {s : Ah} {A : Ad} (n0 : CU ≠ C) (n1 : CU ≠ CR) (n2 : CU ≠ CF) (h : RdU C CR CF H p s A) : RdU C CR CF H' p s A :=
  ⟨HF.kb k hx h.o (ins_ne (Ne.symm n0)), HF.kb k hx h.c (by (intros; intro z; cases z)), HF.kb k hx h.f (by (intros; intro z; cases z)), HF.kb k hx h.k (by (intros; intro z; cases z)), fun g hg => (h.gf g hg).kb k hx n1 n2⟩
theorem PT.kb {bs : List (List L2.Key)} {c : Addr} (h : PT bs c H) : PT bs c H' := by
  obtain ⟨ts, a, b⟩ := h
  exact ⟨ts, HF.kb k hx a (by (intros; intro z; cases z)), each_mono (fun _ _ q => HF.kb k hx q (by (intros; intro z; cases z))) b⟩
end
theorem RdU.mono {C CR CF : Addr} {H H' : Hp} {p : Addr} {s : Ah} {A : Ad} (e : Ex H H') (h : RdU C CR CF H p s A) : RdU C CR CF H' p s A :=
  ⟨e _ _ h.o, e _ _ h.c, e _ _ h.f, e _ _ h.k, fun g hg => (h.gf g hg).mono e⟩
theorem upTo_map {α β : Type} {f : β → Bool} {v : β → List L2.Key} (h : α → β) (xs : List α) : upTo f v (xs.map h) = upTo (fun a => f (h a)) (fun a => v (h a)) xs := by
  unfold upTo
  rw [List.filter_map, List.map_map]
  rfl
theorem shape_open (l : List FnD) : OneShape (upTo (fun d : FnD => d.shared) openB l) :=
  ⟨fun b hb => by
    obtain ⟨d, _, rfl⟩ := List.mem_map.mp hb
    exact List.cons_ne_nil _ _, fun b hb c hc => by
    obtain ⟨d, _, rfl⟩ := List.mem_map.mp hb
    obtain ⟨d2, _, rfl⟩ := List.mem_map.mp hc
    exact .cons rfl (.cons rfl .nil)⟩
theorem shape_ask (l : List ((Str × Str) × Int)) : OneShape (l.map askB) :=
  ⟨fun b hb => by
    obtain ⟨d, _, rfl⟩ := List.mem_map.mp hb
    exact List.cons_ne_nil _ _, fun b hb c hc => by
    obtain ⟨d, _, rfl⟩ := List.mem_map.mp hb
    obtain ⟨d2, _, rfl⟩ := List.mem_map.mp hc
    exact .cons rfl (.cons rfl (.cons rfl .nil))⟩
theorem funsV_refs (gs : List FG) : (funsV gs).map Prod.snd = gs.map fun g => V.ref g.fa := by
  unfold funsV
  rw [List.map_map]
  rfl
def spUnit (K : PySem.W.Frag) (C CR CF CW CB CU : Addr) : Sp := fun vs H Q E => ∃ (x dx : Addr) (v tv : V), vs = [.ref x, v, tv] ∧ H x = some (.ins CU dx []) ∧
  ((Badw K H v ∧ ∀ d H', H d = none → Ex H H' → H' d = some (.xd [("value", v)]) → E (.ref CW) (some d) H') ∨
   ∃ q ts, v = .ref q ∧ Goodw H q ts ∧
    ((IsTy K H tv "str" false ∧ ∀ d H', H d = none → Ex H H' → H' d = some (.xd [("line", .int 0)]) → E (.ref CB) (some d) H') ∨
     ∃ text, tv = .str text ∧ text.length ≤ 3900 ∧ (∀ n, readUnit ts text = .inl n → ∀ d H', H d = none → Ex H H' → H' d = some (.xd [("line", .int n)]) → E (.ref CB) (some d) H') ∧
      ∀ s, readUnit ts text = .inr s → ∀ H' gs, KeepB x H H' → LI s (linesOf text).length → UnitA CU CF CR H' x v text s gs → Q .non H'))
section
variable {P : Program} {w : World} {K : PySem.W.Frag} {mg : Str → Option Value} {base : Heap} {C CR CF CW CB CU : Addr}
end
end HF
set_option maxRecDepth 100000
set_option maxHeartbeats 2000000
namespace L2
open PySem PySem.Spec PyProof.Rows
def CPowW (i j : Int) : Prop := 0 ≤ j ∧ (Builtin.Int.intBits i : Int) * j ≤ 2 ^ 27
theorem op_powW {X : Cx} : OpR X (binaryOp .Pow) (rI CPowW fun i j => .int (i ^ j.toNat)) := opI fun _ _ _ _ _ _ _ hc q => pow_int hc.1 hc.2 q
end L2
namespace HF
open PySem L2 Evl
open PySem.W (EachIs)
/-! ### the law's own: drawn numbers -/
def B300 : Int := ((10 : Int) ^ (60 : Int).toNat) ^ (5 : Int).toNat
theorem B300_pos : (0 : Int) < B300 := by decide +kernel
theorem B300_bits : B300.natAbs < 2 ^ 1000 := by decide +kernel
theorem pow_ok : CPowW ((10 : Int) ^ (60 : Int).toNat) 5 := by
  refine ⟨by decide, ?_⟩
  decide +kernel
theorem pow_ok1 : CPowW 10 60 := ⟨by decide, by decide +kernel⟩
theorem pow_ok2 : CPowW 10 18 := ⟨by decide, by decide +kernel⟩
structure TxLaw (K : PySem.W.Frag) (mg : Str → Option Value) : Prop where
  int : mg "int" = none
  abs : mg "abs" = none
  box : Dfn K mg "_law_box" s_law_box
  take : Dfn K mg "_law_take" s_law_take
  of_ : Dfn K mg "_law_of" s_law_of
def rInt1 : List V → Hp → VK → Prop := fun xs H Q => (∃ i, xs = [.int i] ∧ Q (.int i) H) ∨ ∃ k, xs = [.bl k] ∧ Q (.int (if k then 1 else 0)) H
theorem call_intR {X : Cx} : CallR X (.type "int") rInt1 := call_int1
def rAbs : List V → Hp → VK → Prop := fun xs H Q => ∃ i, xs = [.int i] ∧ Q (.int (if i < 0 then -i else i)) H
theorem call_absR {X : Cx} : CallR X (.builtin "abs") rAbs := call_abs
theorem boot_abs : PySem.bootBuiltins "abs" = some (.builtin "abs") := by decide +kernel
section
variable {K : PySem.W.Frag} {σ : L2.St} {H : Hp} {ta tb : TE}
theorem ev_lenSq {p : Addr} {xs : List V} (ha : Ev ta σ H (.ref p)) (h : SqL K H p xs) : Ev (tCB (rLenT K) (tCons ta tNil)) σ H (.int (xs.length : Int)) := fun H1 e Q q =>
  ha H1 e _ fun H2 e2 => ⟨p, xs, rfl, Or.inl (ex_l (e.trans e2) h), q H2 e2⟩
theorem ev_int {i : Int} (h : Ev ta σ H (.int i)) : Ev (tCB rInt1 (tCons ta tNil)) σ H (.int i) := fun H1 e Q q => h H1 e _ fun H2 e2 => Or.inl ⟨i, rfl, q H2 e2⟩
theorem ev_intB {b : Bool} (h : Ev ta σ H (.bl b)) : Ev (tCB rInt1 (tCons ta tNil)) σ H (.int (if b then 1 else 0)) := fun H1 e Q q => h H1 e _ fun H2 e2 => Or.inr ⟨b, rfl, q H2 e2⟩
theorem ev_abs {i : Int} (h : Ev ta σ H (.int i)) : Ev (tCB rAbs (tCons ta tNil)) σ H (.int (if i < 0 then -i else i)) := fun H1 e Q q => h H1 e _ fun H2 e2 => ⟨i, rfl, q H2 e2⟩
end
theorem b01 (b : Bool) : -(2 ^ 64) < (if b = true then (1 : Int) else 0) ∧ (if b = true then (1 : Int) else 0) < 2 ^ 64 := by cases b <;> decide
theorem own_ok (x : Int) (b : Bool) : 0 ≤ x % B300 * (if b = true then (1 : Int) else 0) ∧ x % B300 * (if b = true then (1 : Int) else 0) < B300 := by
  have h1 := Int.emod_nonneg x (Int.ne_of_gt B300_pos)
  have h2 := Int.emod_lt_of_pos x B300_pos
  have h3 := B300_pos
  generalize x % B300 = r at *
  generalize B300 = B at *
  cases b
  · rw [if_neg Bool.false_ne_true]; omega
  · rw [if_pos rfl]; omega
def spBox (K : PySem.W.Frag) : Sp := fun vs H Q _ => ∃ (sc : Addr) (ns : List Int) (k : Nat), vs = [.ref sc, .int (k : Int)] ∧ SqL K H sc (ns.map V.int) ∧ k ≤ 3 ∧
  ∀ b H' u v, H b = none → Ex H H' → H' b = some (.lst [.int u, .int v, .int 0]) → 0 ≤ u → u < B300 → 0 ≤ v → v < 2 ^ 61 → Q (.ref b) H'
def cellOf (ns : List Int) (k : Nat) : Int := if k < ns.length then ns.getD k 0 else 43 * k + 9
section
variable {P : Program} {w : World} {K : PySem.W.Frag} {mg : Str → Option Value} {base : Heap}
theorem sc_box : FnScope ["_law_script", "_law_k", "_law_cell", "_law_own"] ["_law_script", "_law_k"] (defScope s_law_box) := ⟨rfl, rfl, rfl, by decide +kernel, rfl, by decide +kernel, by decide +kernel⟩
theorem h_box (T : TxForms K mg) (TL : TxLaw K mg) : Has P w K mg base CX0 1 "_law_box" ["_law_script", "_law_k"] (spBox K) := by
  obtain ⟨f, fd, a, F⟩ := TL.box.ex
  refine ⟨f, fd, a, F.kp, F.binds fun _ _ _ _ _ _ us hl => match us, hl with | [_, _], _ => rfl, ?_⟩
  refine F.ok sc_box (fun vs H Q E h => ?_) (fun cdv A outer s H vs Q E hr h => ?_)
  · obtain ⟨sc, ns, k, rfl, _⟩ := h
    rfl
  · obtain ⟨sc, ns, k, rfl, hs, hk, kQ⟩ := h
    refine ⟨_, pss_cons (ps_set (i := 2) sc_box.nd rfl (Or.inl rfl) (pe_ifExp (pt_cmpR op_lt (pv 1) (pe_callB call_lenT (by rfl) T.len PySem.boot_len (pa_cons (pv 0) pa_nil)) (nomark _)) (pe_ix ix_list (pv 0) (pv 1) (fun _ _ => rfl)) (pe_op op_add (pe_op op_mul pe_int (pv 1)) pe_int)))
      (pss_cons (ps_set (i := 3) sc_box.nd rfl (Or.inl rfl) (pe_op op_mul (pe_op op_mod (pe_callTy call_intR (by rfl) TL.int (by decide +kernel) (pa_cons (pe_callB call_absR (by rfl) TL.abs boot_abs (pa_cons (pv 2) pa_nil)) pa_nil)) (pe_op op_powW (pe_op op_powW pe_int pe_int) pe_int))
          (pe_callTy call_intR (by rfl) TL.int (by decide +kernel) (pa_cons (pe_cmpR op_ge (pe_callB call_absR (by rfl) TL.abs boot_abs (pa_cons (pv 2) pa_nil)) (pe_op op_powW pe_int pe_int) (nomark _)) pa_nil))))
      (pss_one (ps_ret (pe_lst (pa_cons (pv 3) (pa_cons (pe_op op_mod (pe_callTy call_intR (by rfl) TL.int (by decide +kernel) (pa_cons (pe_op op_add (pe_op op_add (pe_op op_mul (pe_op op_mod (pe_callTy call_intR (by rfl) TL.int (by decide +kernel) (pa_cons (pv 2) pa_nil)) pe_int) pe_int) (pe_op op_mul (pe_op op_mul pe_int (pv 1)) (pv 1))) pe_int) pa_nil)) pe_int) (pa_cons pe_int pa_nil))))))), ?_⟩
    have hcell : Ev (tIf (tTest (tOp (rI0 fun i j => .bl (decide (i < j))) (tVar 1) (tCB (rLenT K) (tCons (tVar 0) tNil)))) (tOp (rIxL K) (tVar 0) (tVar 1)) (tOp (rI0 fun i j => .int (i + j)) (tOp (rI CMul fun i j => .int (i * j)) (tC (.int 43)) (tVar 1)) (tC (.int 9)))) (start ["_law_script", "_law_k", "_law_cell", "_law_own"] [V.ref sc, V.int (k : Int)]) H (.int (cellOf ns k)) := by
      refine ev_if (b := decide ((k : Int) < ((ns.map V.int).length : Int))) (et_test (ev_op (ev_var rfl) (ev_lenSq (ev_var rfl) hs) rv_I0)) (fun h => ?_) (fun h => ?_)
      · rw [decide_eq_true_eq, List.length_map] at h
        have hk2 : k < ns.length := by omega
        have e : cellOf ns k = ns.getD k 0 := if_pos hk2
        rw [e]
        refine ev_op (ev_var rfl) (ev_var rfl) (rv_ixL hs (atI_nat (j := k) ?_))
        rw [List.getElem?_map, List.getD_eq_getElem?_getD, List.getElem?_eq_getElem hk2]
        rfl
      · rw [decide_eq_false_iff_not, List.length_map] at h
        have e : cellOf ns k = 43 * k + 9 := if_neg (by omega)
        rw [e]
        exact ev_op (ev_op ev_c (ev_var rfl) (rv_I (Or.inl ⟨by decide, by decide⟩))) ev_c rv_I0
    refine q_asg hcell fun H1 e1 => ?_
    generalize cellOf ns k = c
    refine q_asg (v := .int ((if c < 0 then -c else c) % B300 * (if decide ((if c < 0 then -c else c) ≥ (10 : Int) ^ (18 : Int).toNat) = true then 1 else 0))) (ev_op (ev_op (ev_int (ev_abs (ev_var rfl))) (ev_op (ev_op ev_c ev_c (rv_I pow_ok1)) ev_c (rv_I pow_ok)) (rv_I B300_pos)) (ev_intB (ev_op (ev_abs (ev_var rfl)) (ev_op ev_c ev_c (rv_I pow_ok2)) rv_I0)) (rv_I (Or.inr ?_))) fun H2 e2 => ?_
    · exact b01 _
    have hb := own_ok (if c < 0 then -c else c) (decide ((if c < 0 then -c else c) ≥ (10 : Int) ^ (18 : Int).toNat))
    generalize (if c < 0 then -c else c) % B300 * (if decide ((if c < 0 then -c else c) ≥ (10 : Int) ^ (18 : Int).toNat) = true then (1 : Int) else 0) = own at hb ⊢
    refine s_retL (xs := [.int own, .int ((c % 2305843009213693951 * 68543 + 6761 * k * k + 79) % 2305843009213693921), .int 0]) (el_lst (ea_cons (ev_var rfl) (ea_cons (ev_op (ev_int (ev_op (ev_op (ev_op (ev_op (ev_int (ev_var rfl)) ev_c (rv_I (by show (0 : Int) < 2305843009213693951; decide))) ev_c (rv_I (Or.inr ⟨by decide, by decide⟩))) (ev_op (ev_op ev_c (ev_var rfl) (rv_I (Or.inl ⟨by decide, by decide⟩))) (ev_var rfl) (rv_I (Or.inr ⟨by omega, by omega⟩))) rv_I0) ev_c rv_I0)) ev_c (rv_I (by show (0 : Int) < 2305843009213693921; decide))) (ea_cons ev_c ea_nil))) (by show 3 ≤ 100000; decide)) fun p H3 hp e3 h3 => ?_
    have h4 := Int.emod_nonneg (c % 2305843009213693951 * 68543 + 6761 * k * k + 79) (b := 2305843009213693921) (by decide)
    have h5 := Int.emod_lt_of_pos (c % 2305843009213693951 * 68543 + 6761 * k * k + 79) (b := 2305843009213693921) (by decide)
    exact kQ p H3 _ _ (none_of_ex (e1.trans e2) hp) ((e1.trans e2).trans e3) h3 hb.1 hb.2 h4 (Int.lt_trans h5 (by decide))
end
end HF
set_option maxRecDepth 100000
set_option maxHeartbeats 2000000
namespace HF
open PySem L2 Evl
open PySem.W (EachIs)
/-- a box of drawn numbers, of which at most n were drawn -/
def BoxAt (H : Hp) (b : Addr) (n : Nat) : Prop := ∃ u v w : Int, H b = some (.lst [.int u, .int v, .int w]) ∧ 0 ≤ u ∧ u < B300 ∧ 0 ≤ v ∧ v < 2 ^ 61 ∧ 0 ≤ w ∧ w ≤ n
theorem BoxAt.mono {H H' : Hp} {b : Addr} {n : Nat} (e : Ex H H') (h : BoxAt H b n) : BoxAt H' b n := by
  obtain ⟨u, v, w, a, c⟩ := h
  exact ⟨u, v, w, e _ _ a, c⟩
theorem BoxAt.le {H : Hp} {b : Addr} {n m : Nat} (e : n ≤ m) (h : BoxAt H b n) : BoxAt H b m := by
  obtain ⟨u, v, w, a, c1, c2, c3, c4, c5, c6⟩ := h
  exact ⟨u, v, w, a, c1, c2, c3, c4, c5, by omega⟩
def spTake : Sp := fun vs H Q _ => ∃ (b : Addr) (many : Int) (n : Nat), vs = [.ref b, .int many] ∧ BoxAt H b n ∧ n ≤ 1000000 ∧ 0 < many ∧ many < 1073741824 ∧
  ∀ (d : Nat) H', (d : Int) < many → KeepB b H H' → BoxAt H' b (n + 1) → Q (.int (d : Int)) H'
section
variable {P : Program} {w : World} {K : PySem.W.Frag} {mg : Str → Option Value} {base : Heap}
theorem ev_bx {σ : L2.St} {H : Hp} {ta : TE} {b : Addr} {u v w x : Int} {i : Int} (ha : Ev ta σ H (.ref b)) (h : H b = some (.lst [.int u, .int v, .int w])) (hi : atI [V.int u, V.int v, V.int w] i = some (.int x)) : Ev (tOp (rIxL K) ta (tC (.int i))) σ H (.int x) :=
  ev_op ha ev_c (rv_ixL (sq_of h) hi)
theorem sc_take : FnScope ["_law_box_here", "_law_many", "_law_digit", "_law_big"] ["_law_box_here", "_law_many"] (defScope s_law_take) := ⟨rfl, rfl, rfl, by decide +kernel, rfl, by decide +kernel, by decide +kernel⟩
theorem h_take (TL : TxLaw K mg) : Has P w K mg base CX0 1 "_law_take" ["_law_box_here", "_law_many"] spTake := by
  obtain ⟨f, fd, a, F⟩ := TL.take.ex
  refine ⟨f, fd, a, F.kp, F.binds fun _ _ _ _ _ _ us hl => match us, hl with | [_, _], _ => rfl, ?_⟩
  refine F.ok sc_take (fun vs H Q E h => ?_) (fun cdv A outer s H vs Q E hr h => ?_)
  · obtain ⟨b, many, n, rfl, _⟩ := h
    rfl
  · obtain ⟨b, many, n, rfl, ⟨u, v, w, hb, u0, u1, v0, v1, w0, w1⟩, hn, m0, m1, kQ⟩ := h
    refine ⟨_, pss_cons (ps_if (pt_cmpR op_gt (pe_ix ix_list (pv 0) pe_int (fun _ _ => rfl)) pe_int (nomark _))
        (pss_cons (ps_set (i := 2) sc_take.nd rfl (Or.inl rfl) (pe_op op_mod (pe_callTy call_intR (by rfl) TL.int (by decide +kernel) (pa_cons (pe_ix ix_list (pv 0) pe_int (fun _ _ => rfl)) pa_nil)) (pv 1)))
        (pss_cons (ps_asg (pe_op op_fdiv (pe_ix ix_list (pv 0) pe_int (fun _ _ => rfl)) (pv 1)) (pg_sub (pv 0) pe_int set_list)) (pss_one (ps_ret (pv 2))))) pss_nil)
      (pss_cons (ps_asg (pe_op op_add (pe_ix ix_list (pv 0) pe_int (fun _ _ => rfl)) pe_int) (pg_sub (pv 0) pe_int set_list))
      (pss_cons (ps_set (i := 3) sc_take.nd rfl (Or.inl rfl) (pe_op op_mod (pe_callTy call_intR (by rfl) TL.int (by decide +kernel) (pa_cons (pe_op op_mul (pe_op op_add (pe_op op_add (pe_ix ix_list (pv 0) pe_int (fun _ _ => rfl)) (pe_op op_mul (pe_op op_mul pe_int (pe_ix ix_list (pv 0) pe_int (fun _ _ => rfl))) (pe_ix ix_list (pv 0) pe_int (fun _ _ => rfl)))) pe_int) pe_int) pa_nil)) pe_int))
      (pss_cons (ps_set (i := 3) sc_take.nd rfl (Or.inl rfl) (pe_op op_mod (pe_callTy call_intR (by rfl) TL.int (by decide +kernel) (pa_cons (pe_op op_mul (pv 3) (pe_op op_add (pe_op op_mod (pe_callTy call_intR (by rfl) TL.int (by decide +kernel) (pa_cons (pv 3) pa_nil)) pe_int) (pe_op op_mul pe_int (pe_ix ix_list (pv 0) pe_int (fun _ _ => rfl))))) pa_nil)) pe_int))
      (pss_one (ps_ret (pe_op op_mod (pe_callTy call_intR (by rfl) TL.int (by decide +kernel) (pa_cons (pe_op op_add (pe_op op_fdiv (pv 3) pe_int) (pe_op op_fdiv (pv 3) pe_int)) pa_nil)) (pv 1))))))), ?_⟩
    refine q_when (b := decide (u > 0)) (et_test (ev_op (ev_bx (x := u) (ev_var rfl) hb rfl) ev_c rv_I0)) (fun h H1 e1 => ?_) (fun h H1 e1 => ?_)
    · rw [decide_eq_true_eq] at h
      have hb1 := e1 _ _ hb
      refine q_asg (v := .int (u % many)) (ev_op (ev_int (ev_bx (x := u) (ev_var rfl) hb1 rfl)) (ev_var rfl) (rv_I m0)) fun H2 e2 => ?_
      have hb2 := e2 _ _ hb1
      refine q_setL (j := 0) hb2 (ev_op (ev_bx (x := u) (ev_var rfl) hb2 rfl) (ev_var rfl) (rv_I ⟨m0, m1⟩)) (ev_var rfl) ev_c (by show 0 < 3; decide) fun H3 e3 => ?_
      have d0 := Int.emod_nonneg u (Int.ne_of_gt m0)
      have d1 := Int.emod_lt_of_pos u m0
      have d2 := Int.ediv_nonneg u0 (Int.le_of_lt m0)
      have d3 := Int.ediv_le_self many u0
      obtain ⟨d, hd⟩ := Int.eq_ofNat_of_zero_le d0
      refine s_ret (v := .int (d : Int)) (ev_var (by rw [hd]; rfl)) fun H4 e4 => ?_
      rw [hd] at d1
      refine kQ d H4 d1 ((KeepB.ex (e1.trans (e2.trans e3))).trans (KeepB.upd.trans (KeepB.ex e4))) ⟨u / many, v, w, e4 _ _ ?_, d2, Int.lt_of_le_of_lt d3 u1, v0, v1, w0, by omega⟩
      rw [upd_same]
      rfl
    · have hb1 := e1 _ _ hb
      refine q_setL (j := 2) hb1 (ev_op (ev_bx (x := w) (ev_var rfl) hb1 rfl) ev_c rv_I0) (ev_var rfl) ev_c (by show 2 < 3; decide) fun H2 e2 => ?_
      have hb2 : (L2.upd H2 b (.lst ([V.int u, V.int v, V.int w].set 2 (.int (w + 1))))) b = some (.lst [V.int u, V.int v, V.int (w + 1)]) := by rw [upd_same]; rfl
      have k3 : KeepB b H (L2.upd H2 b (.lst ([V.int u, V.int v, V.int w].set 2 (.int (w + 1))))) := (KeepB.ex (e1.trans e2)).trans KeepB.upd
      generalize L2.upd H2 b (.lst ([V.int u, V.int v, V.int w].set 2 (.int (w + 1)))) = H3 at hb2 k3 ⊢
      have w2 : 0 ≤ w + 1 := by omega
      have w3 : w + 1 ≤ (n + 1 : Nat) := by omega
      have w4 : w + 1 ≤ 1000001 := by omega
      generalize w + 1 = W at *
      have c1 := Int.emod_nonneg (((v + 65543 * W * W) + 37) * 48271) (b := 2305843009213693921) (by decide)
      have c2 := Int.emod_lt_of_pos (((v + 65543 * W * W) + 37) * 48271) (b := 2305843009213693921) (by decide)
      refine q_asg (v := .int ((((v + 65543 * W * W) + 37) * 48271) % 2305843009213693921)) (ev_op (ev_int (ev_op (ev_op (ev_op (ev_bx (x := v) (ev_var rfl) hb2 rfl) (ev_op (ev_op ev_c (ev_bx (x := W) (ev_var rfl) hb2 rfl) (rv_I (Or.inl ⟨by decide, by decide⟩))) (ev_bx (x := W) (ev_var rfl) hb2 rfl) (rv_I (Or.inr ⟨by omega, by omega⟩))) rv_I0) ev_c rv_I0) ev_c (rv_I (Or.inr ⟨by decide, by decide⟩)))) ev_c (rv_I (by show (0 : Int) < 2305843009213693921; decide))) fun H4 e4 => ?_
      have hb4 := e4 _ _ hb2
      generalize (((v + 65543 * W * W) + 37) * 48271) % 2305843009213693921 = g at c1 c2 ⊢
      have c3 := Int.emod_nonneg (g * (g % 1000003 + 99989 * W)) (b := 2305843009213693907) (by decide)
      have c4 := Int.emod_lt_of_pos (g * (g % 1000003 + 99989 * W)) (b := 2305843009213693907) (by decide)
      refine q_asg (v := .int ((g * (g % 1000003 + 99989 * W)) % 2305843009213693907)) (ev_op (ev_int (ev_op (ev_var rfl) (ev_op (ev_op (ev_int (ev_var rfl)) ev_c (rv_I (by show (0 : Int) < 1000003; decide))) (ev_op ev_c (ev_bx (x := W) (ev_var rfl) hb4 rfl) (rv_I (Or.inl ⟨by decide, by decide⟩))) rv_I0) (rv_I (Or.inl ⟨by omega, by omega⟩)))) ev_c (rv_I (by show (0 : Int) < 2305843009213693907; decide))) fun H5 e5 => ?_
      generalize (g * (g % 1000003 + 99989 * W)) % 2305843009213693907 = g2 at c3 c4 ⊢
      have d0 := Int.emod_nonneg (g2 / 109 + g2 / 1000033) (Int.ne_of_gt m0)
      have d1 := Int.emod_lt_of_pos (g2 / 109 + g2 / 1000033) m0
      obtain ⟨d, hd⟩ := Int.eq_ofNat_of_zero_le d0
      refine s_ret (v := .int ((g2 / 109 + g2 / 1000033) % many)) (ev_op (ev_int (ev_op (ev_op (ev_var rfl) ev_c (rv_I ⟨by decide, by decide⟩)) (ev_op (ev_var rfl) ev_c (rv_I ⟨by decide, by decide⟩)) rv_I0)) (ev_var rfl) (rv_I m0)) fun H6 e6 => ?_
      rw [hd] at d1 ⊢
      exact kQ d H6 d1 (k3.trans (KeepB.ex (e4.trans (e5.trans e6)))) ⟨u, v, W, (e5.trans e6) _ _ hb4, u0, u1, v0, v1, w2, w3⟩
end
end HF
set_option maxRecDepth 100000
set_option maxHeartbeats 2000000
namespace HF
open PySem PySem.Spec PyProof.Rows L2
/-! ### a promise of a def for where no repr is under way -/
structure FnOkG (P : Program) (w : World) (K : PySem.W.Frag) (mg : Str → Option Value) (base : Heap) (CX : CXT) (k : Nat) (f : Addr) (fd : FuncData) (ps : List Str) (sp : Sp) : Prop where
  len : ∀ vs H Q E, sp vs H Q E → vs.length = ps.length
  run : ∀ (B : Around) (out : List Env) (t : Shared) (H : Hp) (args : Args) (us : List Value) (vs : List V) (Q : VK) (E : XK), B.guards = some [] → Room k B → Env0 P w K mg base B out t H → BindsTo t fd args (ps.zip us) → Vals vs us → sp vs H Q E →
    codeAny (model P w) B (.call (.ref f) args) (CR CX out P w H t Q E) t
theorem deeper_guards (B : Around) (env : Env) : (B.deeper env).guards = B.guards := rfl
theorem fn_ofG {CX : CXT} {P : Program} {w : World} {K : PySem.W.Frag} {mg : Str → Option Value} {base : Heap} {k : Nat} {f : Addr} {name qual : Str} {params : Arguments} {body : List Stmt} {scope : Scope} {kV doc pm cdv ct oc : Value} {an od : Option Addr}
    {osl : Array (Option Value)} {N ps : List Str} {sp : Sp} (at_ : K.lookup f = some ⟨oc, od, .func (PySem.W.fnOf name qual params body scope .none kV doc pm an cdv ct), osl⟩) (code : PySem.W.codeIn K cdv qual = true) (S : FnScope N ps scope)
    (len : ∀ vs H Q E, sp vs H Q E → vs.length = ps.length)
    (walk : ∀ (B : Around) (out : List Env) (t : Shared) (H : Hp) (vs : List V) (Q : VK) (E : XK), B.guards = some [] → Room k (B.deeper (envOfC qual scope t.heap.objs.size f cdv)) → sp vs H Q E →
      ∃ tm, PSs (cxOf CX P w K mg base N qual scope f cdv B out t H E) body tm ∧ tm { nx := fun _ H' => Q .non H', rt := Q } (start N vs) H) :
    FnOkG P w K mg base CX (k + 1) f (PySem.W.fnOf name qual params body scope .none kV doc pm an cdv ct) ps sp := by
  refine ⟨len, fun B out t H args us vs Q E hG room env0 binds vals prom => ?_⟩
  have nArgs := len _ _ _ _ prom
  have inK : K.In t.heap := env0.mod.kin.keeps fun b ob z => (env0.bs b ob z).1
  have noLim : t.heap.NoLimit := env0.mod.nolimit.keeps fun b ob z => (env0.bs b ob z).1
  have kinds : ∀ pr ∈ ps.zip us, scope.names.lookup pr.1 = some .local ∨ (scope.names.lookup pr.1 = some .cell ∧ ((cellsFrom (t.heap.objs.size + 1) scope.names []).lookup pr.1).isSome = true) := fun pr hpr => by
    rcases S.par pr.1 (List.of_mem_zip hpr).1 with z | z
    · exact Or.inl z
    · exact Or.inr ⟨z, PySem.W.cellsFrom_some _ _ _ (Or.inl z)⟩
  refine codeAny_call_function room.depth (inK _ _ at_) rfl S.co S.gen rfl (PySem.W.codeRec_of inK code) (binds _ _ _ _ ?_)
  refine wpAny_newFunctionEnv_cells S.kind kinds fun env hEnv t1 made => ?_
  subst hEnv
  refine ⟨noLim.keeps made.toInCall.keep, codeAny_func ?_⟩
  obtain ⟨tm, hWalk, hRead⟩ := walk B out t H vs Q E hG (room.deeper _) prom
  have inv0 : Inv (cxOf CX P w K mg base N qual scope f cdv B out t H E) [] (start N vs) H t1 := inv_start S room.hd env0 nArgs vals made
  refine wpAny_mono (hWalk.run [] t1 (start N vs) H _ inv0 hRead) (fun flow t2 ended => ?_) fun er t2 ended => ended
  cases flow with
  | ret u =>
    obtain ⟨v, slots, H', inv, rel, goal⟩ := ended
    exact ⟨v, H', inv.os, inv.bare, inv.base, inv.hok, rel, goal⟩
  | next =>
    obtain ⟨slots, H', inv, goal⟩ := ended
    exact ⟨V.non, H', inv.os, inv.bare, inv.base, inv.hok, rfl, goal⟩
  | brk =>
    obtain ⟨_, _, _, no⟩ := ended
    exact no.elim
  | cont =>
    obtain ⟨_, _, _, no⟩ := ended
    exact no.elim
/-- the def st stands at f: its body's walk, no repr under way -/
theorem okG {x qual : Str} {st : Stmt} {P : Program} {w : World} {K : PySem.W.Frag} {mg : Str → Option Value} {base : Heap} {f : Addr} {fd : FuncData} {N ps : List Str} {k : Nat} {sp : Sp} (F : Fun K x qual st f fd) (S : FnScope N ps (defScope st)) (len : ∀ vs H Q E, sp vs H Q E → vs.length = ps.length)
    (walk : ∀ (cdv : Value) (B : Around) (out : List Env) (t : Shared) (H : Hp) (vs : List V) (Q : VK) (E : XK), (B.deeper (envOfC qual (defScope st) t.heap.objs.size f cdv)).guards = some [] → Room k (B.deeper (envOfC qual (defScope st) t.heap.objs.size f cdv)) → sp vs H Q E →
      ∃ tm, PSs (cxOf CX0 P w K mg base N qual (defScope st) f cdv B out t H E).nox (defBody st) tm ∧ tm { nx := fun _ H' => Q .non H', rt := Q } (start N vs) H) : FnOkG P w K mg base CX0 (k + 1) f fd ps sp := by
  obtain ⟨oc, od, kV, doc, pm, an, cdv, ct, osl, rfl, at_, code⟩ := F.ex
  refine fn_ofG at_ code S len fun B out t H vs Q E hG room prom => ?_
  obtain ⟨tm, hw, hr⟩ := walk cdv B out t H vs Q E hG room prom
  exact ⟨tm, hw.nox, hr⟩
structure HasG (P : Program) (w : World) (K : PySem.W.Frag) (mg : Str → Option Value) (base : Heap) (k : Nat) (x : Str) (ps : List Str) (sp : Sp) : Prop where
  ex : ∃ (f : Addr) (fd : FuncData), mg x = some (.ref f) ∧ PySem.W.keepIn K (.ref f) = true ∧ Binds K fd ps [] ∧ FnOkG P w K mg base CX0 k f fd ps sp
/-- the call of such a def -/
theorem pe_hG {X : Cx} {k : Nat} {x : Str} {ps : List Str} {sp : Sp} {e : Expr} {es : List Expr} {ta : TA} {p pos : Pos} (h : HasG X.prog X.w X.K X.mg X.base k x ps sp) (room : Room k X.A) (free : X.A.guards = some []) (ha : PA X (e :: es) ta) (hg : Gl X x := by rfl)
    (hdb : (x == ("__debug__" : Str)) = false := by decide) (he : starEach (e :: es) X.env = (false, eval e X.env) :: starEach es X.env := by rfl) (hpl : (backTo pos (starEach es X.env)).any (·.1) = false := by rfl) :
    PE X (.Call (.Name x p) (e :: es) [] pos) (tCall sp [] E0 ta) := by
  obtain ⟨f, fd, at_, kept, binds, ok⟩ := h.ex
  refine ⟨fun pn t slots H Q I given => wpAny_Call_Name_kw (ld_glob I hg at_ (PySem.W.callWith_K (h₀ := X.base) I.ok.mod.kin kept (thn (ha.run pos pn t slots H _ I given) fun us t1 ⟨vs, H1, I1, vals, prom⟩ => ⟨I1.kIn, ?_⟩) he hpl) hdb)⟩
  have prom : sp (vs ++ []) H1 Q E0 := prom
  rw [List.append_nil] at prom
  have nArgs : us.length = ps.length := by rw [← vals.length]; exact ok.len _ _ _ _ prom
  have hb := binds t1 us I1.kIn (by rw [List.append_nil]; exact nArgs)
  rw [List.append_nil] at hb
  refine wpAny_call (codeAny_mono (ok.run X.A X.stack t1 H1 ⟨us, []⟩ us vs Q E0 free room I1.env0 hb vals prom) fun res t2 ended => ?_)
  cases res with
  | error er => exact pass0 pn slots H1 t1 er t2 I1 ended
  | ok flow =>
    cases flow with
    | ret u => exact I1.after ended
    | _ => exact False.elim ended
end HF
set_option maxRecDepth 100000
set_option maxHeartbeats 2000000
namespace HF
open PySem PySem.Spec PyProof.Rows L2
section
variable {P : Program} {w : World} {K : PySem.W.Frag} {mg mb : Str → Option Value} {k : Nat} {fa a : Addr} {fd : FuncData} {x : Str} {sp : Sp} {t : Shared} {vs : List Value} {ns : List Int}
/-- what the claim's caller asks of the law's call -/
def Told (t : Shared) (r : Result) (t' : Shared) : Prop := r = .ok (.ret (.bool true)) ∧ OldK t.heap t'.heap ∧ t'.os = t.os ∧ AllBare t'.gens
/-- the script alone may be tracked -/
structure Alone (K : PySem.W.Frag) (t : Shared) (a : Addr) (H : Hp) : Prop where
  only : Only H
  self : ∀ b, H b ≠ none → b = a
  not_ : H a ≠ none → K.lookup a = none
theorem call_alone (KX : K.In t.heap) (hns : t.heap.Ns mainGlobals mg) (hb : t.heap.Ns builtinsNs mb) (hbb : ∀ y : Str, y ≠ "__name__" → mb y = bootBuiltins y) (hlim : t.heap.NoLimit) (hsys : ∃ mm, t.heap.Ns sysModules mm) (hg : t.gens = #[])
    (ha : t.heap.get? a = some { cls := .type "list", data := .seq vs.toArray }) (room : Room k callerA) (F : ∀ base : Heap, K.In base → base.Ns mainGlobals mg → (∃ o, base.get? sysModules = some o) → FnOkG P w K mg base CX0 k fa fd [x] sp)
    (hbind : ∀ (t : Shared) (u : Value), BindsTo t fd ⟨[u], []⟩ [(x, u)]) {H : Hp} (al : Alone K t a H) (ok : HOk P w H t.heap) (prom : sp [.ref a] H (fun v _ => v = .bl true) fun _ _ _ => False) :
    codeAny (model P w) callerA (.call (.ref fa) ⟨[.ref a], []⟩) (Told t) t := by
  have free : ∀ {b : Addr} {ob : Obj}, t.heap.get? b = some ob → (b = a → H a = none) → H b = none := fun {b ob} e n => Classical.byContradiction fun z => z (by
    have := al.self b z
    rw [this]
    exact n this)
  have stay : ∀ {b : Addr} {ob : Obj}, t.heap.get? b = some ob → (b = a → H a = none) → (hidT t.heap H).get? b = some ob := fun e n => hidT_get e (free e n)
  have noDict : ∀ {b : Addr} {ob : Obj} {es : Array DictEntry} {ep : Nat}, t.heap.get? b = some ob → ob.data = .dict es ep → b = a → H a = none := fun {b ob es ep} e d z => by
    rw [z, ha] at e
    rw [← Option.some.inj e] at d
    exact absurd d (by intro y; cases y)
  have inNs : ∀ {b : Addr} {m : Str → Option Value}, t.heap.Ns b m → (hidT t.heap H).Ns b m := fun ⟨ob, es, ep, e, d, rest⟩ => ⟨ob, es, ep, stay e (noDict e d), d, rest⟩
  have inK : K.In (hidT t.heap H) := fun b ob e => stay (KX b ob e) fun z => Classical.byContradiction fun y => by
    rw [z, al.not_ y] at e
    cases e
  have md : Mod K mg (hidT t.heap H) := by
    obtain ⟨mc, c1, c2⟩ := hlim
    exact ⟨inK, inNs hns, ⟨mb, inNs hb, hbb⟩, ⟨mc, inNs c1, c2⟩⟩
  have env0 : Env0 P w K mg (hidT t.heap H) callerA [] t H :=
    { frames := rfl, mod := md, bs := fun b ob e => of_hidT e, bsz := Nat.le_of_eq (hidT_size _ _), funs := trivial, frf := fun b hb => (by cases (show b ∈ ([] : List Addr) from hb)), hok := ok, bare := .of_eq hg }
  refine codeAny_mono ((F _ inK (inNs hns) (by
    obtain ⟨mm, z⟩ := hsys
    obtain ⟨o, _, _, e, _⟩ := inNs z
    exact ⟨o, e⟩)).run callerA [] t H ⟨[.ref a], []⟩ [.ref a] [.ref a] _ _ rfl room env0 (hbind t (.ref a)) (.cons rfl .nil) prom) fun res t2 ended => ?_
  cases res with
  | error er => exact (show False from ended).elim
  | ok flow =>
    cases flow with
    | ret u =>
      obtain ⟨v, H', os, bare, un, ok', rel, goal⟩ := ended
      cases (show v = V.bl true from goal)
      cases (show u = Value.bool true from rel)
      refine ⟨rfl, OldK.of_keep fun b ob e => ?_, os, bare⟩
      cases track : H b with
      | none => exact un.keep b ob e track (fun z => by cases (show b ∈ ([] : List Addr) from z)) (by simp)
      | some o2 =>
        rcases al.only b with z | ⟨o3, xs, z⟩
        · rw [z] at track
          cases track
        · have before := (ok b _ z).1
          have after := (ok' b _ (un.frzs b o3 _ z)).1
          rw [before] at e
          rw [← Option.some.inj e]
          exact after
    | _ => exact (show False from ended).elim
theorem call_law (KX : K.In t.heap) (hns : t.heap.Ns mainGlobals mg) (hb : t.heap.Ns builtinsNs mb) (hbb : ∀ y : Str, y ≠ "__name__" → mb y = bootBuiltins y) (hlim : t.heap.NoLimit) (hsys : ∃ mm, t.heap.Ns sysModules mm) (hg : t.gens = #[])
    (ha : t.heap.get? a = some { cls := .type "list", data := .seq vs.toArray }) (hi : IntsAre vs ns) (hl : ns.length ≤ sizeLine) (room : Room k callerA) (F : ∀ base : Heap, K.In base → base.Ns mainGlobals mg → (∃ o, base.get? sysModules = some o) → FnOkG P w K mg base CX0 k fa fd [x] sp)
    (hbind : ∀ (t : Shared) (u : Value), BindsTo t fd ⟨[u], []⟩ [(x, u)]) (prom : ∀ H : Hp, Only H → SqL K H a (ns.map V.int) → sp [.ref a] H (fun v _ => v = .bl true) fun _ _ _ => False) :
    codeAny (model P w) callerA (.call (.ref fa) ⟨[.ref a], []⟩) (Told t) t := by
  have rel := vals_ints hi
  cases own : K.lookup a with
  | some ob =>
    have same := KX a ob own
    rw [ha] at same
    cases same
    have al : Alone K t a (fun _ => none) := ⟨fun _ => Or.inl rfl, fun b z => absurd rfl z, fun z => absurd rfl z⟩
    refine call_alone KX hns hb hbb hlim hsys hg ha room F hbind al (fun b o2 z => by cases (show (none : Option HO) = some o2 from z)) (prom _ al.only (Or.inr ⟨_, vs.toArray, _, own, rfl, rfl, rfl, ?_, by simpa using rel⟩))
    rw [List.size_toArray, hi.length]
    exact hl
  | none =>
    let H : Hp := L2.upd (fun _ => none) a (.frz { cls := .type "list", data := .seq vs.toArray } (.lst (ns.map V.int)))
    have at_ : H a = some (.frz { cls := .type "list", data := .seq vs.toArray } (.lst (ns.map V.int))) := upd_same
    have off : ∀ b, b ≠ a → H b = none := fun b z => upd_ne z
    have al : Alone K t a H := ⟨fun b => by
      by_cases z : b = a
      · rw [z]
        exact Or.inr ⟨_, _, at_⟩
      · exact Or.inl (off b z), fun b z => Classical.byContradiction fun y => z (off b y), fun _ => own⟩
    refine call_alone KX hns hb hbb hlim hsys hg ha room F hbind al (fun b o2 z => ?_) (prom _ al.only (Or.inl (Or.inr ⟨_, at_⟩)))
    by_cases y : b = a
    · subst y
      rw [at_] at z
      cases z
      exact ⟨ha, by rw [List.length_map]; exact hl, vs, _, rel, ha⟩
    · rw [off b y] at z
      cases z
end
end HF
set_option maxRecDepth 100000
set_option maxHeartbeats 2000000
namespace HF
open PySem PySem.Spec PyProof.Rows L2
/-- the end, for a law whose defs call repr of containers -/
theorem walk_ofG {l : PySem.W.OpenLaw} {n k : Nat} {q : Program} {loose : List Str} {XP : (Str → Option Value) → Heap → Prop} {YP : World → Heap → Prop} {d : DefRec} {K : Params → PySem.W.Frag} {sp : World → Sp} {x : Str}
    (most : l.most = some n) (small : n ≤ sizeLine) (plain : d.params.defaults = []) (imp : importsNone q = true) (room : Room k callerA) (known : ∀ (w : World) (h : Heap), YP w h → (K w.params).In h)
    (F : ∀ (w : World) (mg : Str → Option Value) (fa : Addr) (h : Heap), (K w.params).In h → h.Ns mainGlobals mg → mg d.name = some (.ref fa) →
      ∃ fd : FuncData, (∀ (t : Shared) (u : Value), BindsTo t fd ⟨[u], []⟩ [(x, u)]) ∧ ∀ base : Heap, (K w.params).In base → base.Ns mainGlobals mg → (∃ o, base.get? sysModules = some o) → FnOkG l.prog w (K w.params) mg base CX0 k fa fd [x] (sp w))
    (prom : ∀ (w : World) (H : Hp) (a : Addr) (ns : List Int), ns.length ≤ n → (∀ z ∈ ns, Builtin.Int.intBits z ≤ 1048576) → Only H → SqL (K w.params) H a (ns.map V.int) → sp w [.ref a] H (fun v _ => v = .bl true) fun _ _ _ => False) :
    PySem.W.WalkO q loose XP YP l.row.toRowW d [] (fun f vs => PySem.call f vs) := by
  refine Att.attach_callB most plain fun w t0 t mg mb fa ob pm cd doc a vs ns G Y at_ fdat hcd hmg script areInts len bits gens => ?_
  obtain ⟨fd, binds, ok⟩ := F w mg fa _ (known w _ Y) G.T.g hmg
  exact call_law (known w _ Y) G.T.g G.T.b G.T.builtins G.T.nolimit (by
    obtain ⟨mm, z, _⟩ := (G.T.seer imp).mods
    exact ⟨mm, z⟩) gens script areInts (Nat.le_trans len small) room ok binds fun H o s => prom w H a ns len bits o s
end HF
set_option maxRecDepth 100000
set_option maxHeartbeats 2000000
namespace HF
open PySem PySem.Spec PyProof.Rows L2 Evl
mutual
/-- the value is this data, all of it tracked -/
inductive RdD (H : Hp) : V → PyData → Prop
  | non : RdD H .non .none
  | bl (b : Bool) : RdD H (.bl b) (.bool b)
  | int (i : Int) : RdD H (.int i) (.int i)
  | str (s : Str) : RdD H (.str s) (.str s)
  | lst {a : Addr} {xs : List V} {ds : List PyData} (at_ : H a = some (.lst xs)) (r : RdDs H xs ds) : RdD H (.ref a) (.list ds)
  | tup {a : Addr} {xs : List V} {ds : List PyData} (at_ : H a = some (.tup xs)) (r : RdDs H xs ds) : RdD H (.ref a) (.tuple ds)
  | dct {a : Addr} {kvs : List (L2.Key × V)} {kds : List (PyData × PyData)} (at_ : H a = some (.dK kvs)) (r : RdDs H (kvs.map fun p => kV p.1) (kds.map Prod.fst)) (r2 : RdDs H (kvs.map Prod.snd) (kds.map Prod.snd)) : RdD H (.ref a) (.dict kds)
inductive RdDs (H : Hp) : List V → List PyData → Prop
  | nil : RdDs H [] []
  | cons {x : V} {xs : List V} {d : PyData} {ds : List PyData} (h : RdD H x d) (t : RdDs H xs ds) : RdDs H (x :: xs) (d :: ds)
end
mutual
theorem RdD.mono {H H' : Hp} (e : Ex H H') : ∀ {x : V} {d : PyData}, RdD H x d → RdD H' x d
  | _, _, .non => .non
  | _, _, .bl b => .bl b
  | _, _, .int i => .int i
  | _, _, .str s => .str s
  | _, _, .lst at_ r => .lst (e _ _ at_) (RdDs.mono e r)
  | _, _, .tup at_ r => .tup (e _ _ at_) (RdDs.mono e r)
  | _, _, .dct at_ r r2 => .dct (e _ _ at_) (RdDs.mono e r) (RdDs.mono e r2)
theorem RdDs.mono {H H' : Hp} (e : Ex H H') : ∀ {xs : List V} {ds : List PyData}, RdDs H xs ds → RdDs H' xs ds
  | _, _, .nil => .nil
  | _, _, .cons h t => .cons (RdD.mono e h) (RdDs.mono e t)
end
/-- the modules' own dict stands below the call: nothing that is tracked is it -/
def SysIn (base : Heap) : Prop := ∃ o, base.get? sysModules = some o
theorem sys_free {X : Cx} {pins : List (Addr × Obj)} {σ : L2.St} {H : Hp} {s : Shared} (I : Inv X pins σ H s) (sys : SysIn X.base) : H sysModules = none := by
  obtain ⟨o, e⟩ := sys
  exact (I.bs _ _ e).2
section
variable {X : Cx} {pins : List (Addr × Obj)} {σ : L2.St} {H : Hp} {s : Shared}
mutual
theorem rd_reads (I : Inv X pins σ H s) (sys : SysIn X.base) : ∀ {x : V} {d : PyData} {u : Value}, RdD H x d → RelV x u → ∃ as, Reads s.heap u d as ∧ sysModules ∉ as
  | _, _, u, .non, r => by
    cases (show u = Value.none from r)
    exact ⟨[], .none, by simp⟩
  | _, _, u, .bl b, r => by
    cases (show u = Value.bool b from r)
    exact ⟨[], .bool b, by simp⟩
  | _, _, u, .int i, r => by
    obtain ⟨t, rfl⟩ := (show ∃ t, u = Value.int i t from r)
    exact ⟨[], .int i t, by simp⟩
  | _, _, u, .str z, r => by
    obtain ⟨t, rfl⟩ := (show ∃ t, u = Value.str z t from r)
    exact ⟨[], .str z t, by simp⟩
  | _, _, u, .lst (a := a) at_ q, r => by
    cases (show u = Value.ref a from r)
    obtain ⟨z, its, n, rv, g⟩ := I.hok a _ at_
    obtain ⟨as, rs, ns⟩ := rds_reads I sys q rv
    refine ⟨a :: as, .list g rfl rfl (by simpa using rs), fun m => ?_⟩
    rcases List.mem_cons.mp m with e | m
    · have free := sys_free I sys
      rw [e, at_] at free
      cases free
    · exact ns m
  | _, _, u, .tup (a := a) at_ q, r => by
    cases (show u = Value.ref a from r)
    obtain ⟨z, its, rv, o, g1, g2, n, g3⟩ := I.hok a _ at_
    obtain ⟨as, rs, ns⟩ := rds_reads I sys q rv
    exact ⟨as, .tuple g1 g2 g3 (by simpa using rs), ns⟩
  | _, _, u, .dct (a := a) (kvs := prs) at_ q q2, r => by
    cases (show u = Value.ref a from r)
    obtain ⟨z, nosys, vs, kv, dOf⟩ := I.hok a _ at_
    obtain ⟨es, ep, ⟨o, g1, g2, g3⟩, hsz, hes⟩ := dOf.raw
    have len : prs.length = vs.length := Paired.length kv
    have keys : Vals (prs.map fun p => kV p.1) (es.toList.map (·.key)) := vals_by (by rw [List.length_map, List.length_map]; exact len.trans (hsz.symm.trans Array.length_toList.symm)) fun i x v e1 e2 => by
      rw [List.getElem?_map] at e1 e2
      obtain ⟨p, p1, p2⟩ := Option.map_eq_some_iff.mp e1
      obtain ⟨en, n1, n2⟩ := Option.map_eq_some_iff.mp e2
      obtain ⟨b, hb, b1, b2⟩ := LiI.paired_get kv p1
      rw [Array.getElem?_toList] at n1
      obtain ⟨hi, n3⟩ := Array.getElem?_eq_some_iff.mp n1
      have b3 := (hes i hi b.1 b.2 hb).1
      rw [← p2, ← n2, ← n3, b1]
      exact relV_key b3
    have vals : Vals (prs.map Prod.snd) (es.toList.map (·.val)) := vals_by (by rw [List.length_map, List.length_map]; exact len.trans (hsz.symm.trans Array.length_toList.symm)) fun i x v e1 e2 => by
      rw [List.getElem?_map] at e1 e2
      obtain ⟨p, p1, p2⟩ := Option.map_eq_some_iff.mp e1
      obtain ⟨en, n1, n2⟩ := Option.map_eq_some_iff.mp e2
      obtain ⟨b, hb, b1, b2⟩ := LiI.paired_get kv p1
      rw [Array.getElem?_toList] at n1
      obtain ⟨hi, n3⟩ := Array.getElem?_eq_some_iff.mp n1
      rw [← p2, ← n2, ← n3, (hes i hi b.1 b.2 hb).2]
      exact b2
    obtain ⟨as, rs, ns⟩ := rds_reads I sys q keys
    obtain ⟨bs, rs2, ns2⟩ := rds_reads I sys q2 vals
    refine ⟨a :: as ++ bs, .dict g1 g2.1 g3 rs rs2, fun m => ?_⟩
    rcases List.mem_append.mp m with m | m
    · rcases List.mem_cons.mp m with e | m
      · rw [← e] at nosys
        simp at nosys
      · exact ns m
    · exact ns2 m
theorem rds_reads (I : Inv X pins σ H s) (sys : SysIn X.base) : ∀ {xs : List V} {ds : List PyData} {us : List Value}, RdDs H xs ds → Vals xs us → ∃ as, ReadsAll s.heap us ds as ∧ sysModules ∉ as
  | _, _, _, .nil, r => by
    cases r
    exact ⟨[], .nil, by simp⟩
  | _, _, _, .cons h t, r => by
    cases r with
    | cons r1 r2 =>
      obtain ⟨as, q, n⟩ := rd_reads I sys h r1
      obtain ⟨bs, q2, n2⟩ := rds_reads I sys t r2
      exact ⟨as ++ bs, .cons q q2, fun m => (List.mem_append.mp m).elim n n2⟩
end
/-- repr of any such value -/
def rRepr : List V → Hp → VK → Prop := fun xs H Q => ∃ x d, xs = [x] ∧ RdD H x d ∧ d.showable = true ∧ d.depth ≤ 40 ∧ d.shown.length ≤ 60000 ∧ (∀ i, d = .int i → i.natAbs.log2 < 1920) ∧ Q (.str d.shown) H
theorem call_repr (sys : SysIn X.base) (units : X.A.units + 64 < cLine) (free : X.A.guards = some []) : CallR X (.builtin "repr") rRepr := by
  intro pn t slots H xs us Q I vals h
  obtain ⟨x, d, rfl, rd, sh, dp, sz, big, goal⟩ := h
  obtain ⟨u, rfl, rel⟩ := vals1 vals
  have size : d.shown.length ≤ sizeLine := sz_of (by omega)
  obtain ⟨as, rs, ns⟩ := rd_reads I sys rd rel
  have fin : ∀ h' tk, (∀ b o, t.heap.get? b = some o → h'.get? b = some o) → ∀ v, EP X pn slots Q (.str d.shown v) { t with heap := h', toks := tk } := fun h' tk keep v =>
    ⟨.str d.shown, H, I.kept (t' := tk) keep, ⟨v, rfl⟩, goal⟩
  cases rd with
  | non =>
    cases (show u = Value.none from rel)
    exact PySem.P.repr_of_none (fin t.heap _ (fun _ _ e => e) _)
  | bl b =>
    cases (show u = Value.bool b from rel)
    refine PySem.P.repr_of_bool ?_
    have := fin t.heap (t.toks + 1) (fun _ _ e => e) t.toks
    simpa [PyData.shown] using this
  | int i =>
    obtain ⟨v, rfl⟩ := (show ∃ v, u = Value.int i v from rel)
    refine PySem.P.repr_of_int (big i rfl) ?_
    have := fin t.heap (t.toks + 1) (fun _ _ e => e) t.toks
    simpa [PyData.shown] using this
  | str z =>
    obtain ⟨v, rfl⟩ := (show ∃ v, u = Value.str z v from rel)
    refine PySem.P.repr_of_str ?_ (by simpa [PyData.shown] using size)
    have := fin t.heap (t.toks + 1) (fun _ _ e => e) t.toks
    simpa [PyData.shown] using this
  | lst _ _ =>
    cases (show u = Value.ref _ from rel)
    exact PySem.repr_of_reads' rs sh (fun _ => ns) free (by omega) (fun _ _ e => e) (fun h' v tk keep => fin h' tk keep v) size
  | tup _ _ =>
    cases (show u = Value.ref _ from rel)
    exact PySem.repr_of_reads' rs sh (fun _ => ns) free (by omega) (fun _ _ e => e) (fun h' v tk keep => fin h' tk keep v) size
  | dct _ _ _ =>
    cases (show u = Value.ref _ from rel)
    exact PySem.repr_of_reads' rs sh (fun _ => ns) free (by omega) (fun _ _ e => e) (fun h' v tk keep => fin h' tk keep v) size
end
end HF
set_option maxRecDepth 100000
set_option maxHeartbeats 2000000
namespace HF
open PySem L2 Evl
def spOf : Sp := fun vs H Q _ => ∃ (b l : Addr) (xs : List V) (n : Nat), vs = [.ref b, .ref l] ∧ BoxAt H b n ∧ n ≤ 1000000 ∧ H l = some (.lst xs) ∧ l ≠ b ∧ xs ≠ [] ∧ xs.length ≤ 1000 ∧
  ∀ (d : Nat) (x : V) H', xs[d]? = some x → KeepB b H H' → BoxAt H' b (n + 1) → Q x H'
section
variable {P : Program} {w : World} {K : PySem.W.Frag} {mg : Str → Option Value} {base : Heap}
theorem sc_of : FnScope ["_law_box_here", "_law_some"] ["_law_box_here", "_law_some"] (defScope s_law_of) := ⟨rfl, rfl, rfl, by decide +kernel, rfl, by decide +kernel, by decide +kernel⟩
theorem h_of (T : TxForms K mg) (TL : TxLaw K mg) : Has P w K mg base CX0 2 "_law_of" ["_law_box_here", "_law_some"] spOf := by
  obtain ⟨f, fd, a, F⟩ := TL.of_.ex
  have HT : Has P w K mg base CX0 1 "_law_take" ["_law_box_here", "_law_many"] spTake := h_take TL
  refine ⟨f, fd, a, F.kp, F.binds fun _ _ _ _ _ _ us hl => match us, hl with | [_, _], _ => rfl, ?_⟩
  refine F.ok sc_of (fun vs H Q E h => ?_) (fun cdv A outer s H vs Q E hr h => ?_)
  · obtain ⟨b, l, xs, n, rfl, _⟩ := h
    rfl
  · obtain ⟨b, l, xs, n, rfl, hb, hn, hl, hne, hx, hz, kQ⟩ := h
    refine ⟨_, pss_one (ps_ret (pe_ix ix_list (pv 1) (pe_h HT hr (pa_cons (pv 0) (pa_cons (pe_callB call_lenT (by rfl) T.len PySem.boot_len (pa_cons (pv 1) pa_nil)) pa_nil))) (fun _ _ => rfl))), ?_⟩
    have hpos : 0 < xs.length := List.length_pos_iff.mpr hx
    refine ⟨_, rfl, (ea_cons (ev_var rfl) (ea_cons (ev_lenSq (p := l) (xs := xs) (ev_var rfl) (sq_of hl)) ea_nil)) H (Ex.refl H) _ fun H1 e1 => ⟨b, (xs.length : Nat), n, rfl, hb.mono e1, hn, by omega, by omega, fun d H2 hd k2 hb2 => ?_⟩⟩
    have hd2 : d < xs.length := by omega
    have kk := (KeepB.ex e1).trans k2
    exact ⟨l, xs, (d : Int), xs[d], rfl, rfl, sq_of (kk l _ hne hl), atI_nat (List.getElem?_eq_getElem hd2), kQ d _ H2 (List.getElem?_eq_getElem hd2) kk hb2⟩
end
end HF
set_option maxRecDepth 100000
set_option maxHeartbeats 2000000
namespace HF
open PySem L2 Evl
/-- the heap but for some addresses -/
noncomputable def but (H : Hp) (S : Addr → Prop) : Hp := fun a => open Classical in if S a then none else H a
theorem but_ne {H : Hp} {a : Addr} {S : Addr → Prop} (h : ¬S a) : but H S a = H a := if_neg h
theorem but_in {H : Hp} {a : Addr} {S : Addr → Prop} (h : S a) : but H S a = none := if_pos h
theorem but_ex {H : Hp} {S : Addr → Prop} : Ex (but H S) H := fun a o h => by
  by_cases e : S a
  · rw [but_in e] at h
    cases h
  · rw [but_ne e] at h
    exact h
theorem but_keepS {H H' : Hp} {S : Addr → Prop} (k : ∀ a o, ¬S a → H a = some o → H' a = some o) : Ex (but H S) (but H' S) := fun a o h => by
  by_cases e : S a
  · rw [but_in e] at h
    cases h
  · rw [but_ne e] at h ⊢
    exact k a o e h
theorem but_keep {H H' : Hp} {b : Addr} {S : Addr → Prop} (hb : S b) (k : KeepB b H H') : Ex (but H S) (but H' S) := but_keepS fun a o e h => k a o (fun z => e (by rw [z]; exact hb)) h
/-- data that stands apart from S -/
def RdN (H : Hp) (S : Addr → Prop) (x : V) (d : PyData) : Prop := RdD (but H S) x d
def RdNs (H : Hp) (S : Addr → Prop) (xs : List V) (ds : List PyData) : Prop := RdDs (but H S) xs ds
theorem RdN.keep {H H' : Hp} {b : Addr} {S : Addr → Prop} {x : V} {d : PyData} (hb : S b) (k : KeepB b H H') (h : RdN H S x d) : RdN H' S x d := RdD.mono (but_keep hb k) h
theorem RdNs.keep {H H' : Hp} {b : Addr} {S : Addr → Prop} {xs : List V} {ds : List PyData} (hb : S b) (k : KeepB b H H') (h : RdNs H S xs ds) : RdNs H' S xs ds := RdDs.mono (but_keep hb k) h
theorem RdN.mono {H H' : Hp} {S : Addr → Prop} {x : V} {d : PyData} (e : Ex H H') (h : RdN H S x d) : RdN H' S x d := RdD.mono (but_keepS fun a o _ q => e a o q) h
theorem RdNs.mono {H H' : Hp} {S : Addr → Prop} {xs : List V} {ds : List PyData} (e : Ex H H') (h : RdNs H S xs ds) : RdNs H' S xs ds := RdDs.mono (but_keepS fun a o _ q => e a o q) h
theorem RdN.rd {H : Hp} {S : Addr → Prop} {x : V} {d : PyData} (h : RdN H S x d) : RdD H x d := RdD.mono but_ex h
theorem RdN.less {H : Hp} {S S' : Addr → Prop} {x : V} {d : PyData} (z : ∀ a, S' a → S a) (h : RdN H S x d) : RdN H S' x d := RdD.mono (fun a o q => by
  by_cases e : S a
  · rw [but_in e] at q
    cases q
  · rw [but_ne e] at q
    rw [but_ne fun y => e (z a y)]
    exact q) h
theorem RdN.store {H : Hp} {S : Addr → Prop} {x : V} {d : PyData} {a : Addr} {o : HO} (z : S a) (h : RdN H S x d) : RdN (L2.upd H a o) S x d := RdD.mono (but_keepS fun c u e q => by rw [upd_ne fun y => e (by rw [y]; exact z)]; exact q) h
theorem RdDs.at_ {H : Hp} : ∀ {xs : List V} {ds : List PyData} {i : Nat} {x : V}, RdDs H xs ds → xs[i]? = some x → ∃ d, ds[i]? = some d ∧ RdD H x d
  | _, _, _, _, .nil, h => by cases h
  | _, _, 0, _, .cons a t, h => by
    cases h
    exact ⟨_, rfl, a⟩
  | _, _, i + 1, _, .cons a t, h => RdDs.at_ (i := i) t h
theorem RdDs.len {H : Hp} : ∀ {xs : List V} {ds : List PyData}, RdDs H xs ds → xs.length = ds.length
  | _, _, .nil => rfl
  | _, _, .cons a t => by rw [List.length_cons, List.length_cons, RdDs.len t]
theorem out_of {H H' : Hp} {S : Addr → Prop} {p : Addr} (hb : ∀ a, S a → (H a).isSome = true) (e : Ex H H') (hp : H' p = none) : ¬S p := fun z => by
  obtain ⟨o, ho⟩ := Option.isSome_iff_exists.mp (hb p z)
  rw [e _ _ ho] at hp
  cases hp
/-- evaluates to data apart from S -/
def EvD (S : Addr → Prop) (te : TE) (σ : L2.St) (H : Hp) (d : PyData) : Prop := ∀ H1, Ex H H1 → ∀ Q : VK, (∀ x H2, Ex H1 H2 → RdN H2 S x d → Q x H2) → te σ H1 Q
def EaD (S : Addr → Prop) (ta : TA) (σ : L2.St) (H : Hp) (ds : List PyData) : Prop := ∀ H1, Ex H H1 → ∀ Q : List V → Hp → Prop, (∀ xs H2, Ex H1 H2 → RdNs H2 S xs ds → Q xs H2) → ta σ H1 Q
section
variable {K : PySem.W.Frag} {S : Addr → Prop} {σ : L2.St} {H : Hp} {ta : TA} {te : TE} {d : PyData} {ds : List PyData}
theorem ead_nil : EaD S tNil σ H [] := fun H1 _ _ q => q [] H1 (Ex.refl _) .nil
theorem ead_cons (h : EvD S te σ H d) (t : EaD S ta σ H ds) : EaD S (tCons te ta) σ H (d :: ds) := fun H1 e Q q =>
  h H1 e _ fun x H2 e2 r => t H2 (e.trans e2) _ fun xs H3 e3 r3 => q (x :: xs) H3 (e2.trans e3) (.cons (RdN.mono e3 r) r3)
theorem evd_of {x : V} (h : Ev te σ H x) (r : ∀ H1, Ex H H1 → RdN H1 S x d) : EvD S te σ H d := fun H1 e Q q => h H1 e _ fun H2 e2 => q x H2 e2 (r H2 (e.trans e2))
theorem evd_tup (hb : ∀ a, S a → (H a).isSome = true) (h : EaD S ta σ H ds) (hz : ds.length ≤ 1000) : EvD S (tTup ta) σ H (.tuple ds) := fun H1 e Q q =>
  h H1 e _ fun xs H2 e2 r => ⟨sz_of (by rw [RdDs.len r]; omega), fun p hp => by
    have n : ¬S p := out_of hb (e.trans e2) hp
    exact q (.ref p) _ (e2.trans (Ex.new hp)) (.tup (by rw [but_ne n, upd_same]) (RdNs.mono (Ex.new hp) r))⟩
theorem evd_lst (hb : ∀ a, S a → (H a).isSome = true) (h : EaD S ta σ H ds) (hz : ds.length ≤ 1000) : EvD S (tLst ta) σ H (.list ds) := fun H1 e Q q =>
  h H1 e _ fun xs H2 e2 r => ⟨sz_of (by rw [RdDs.len r]; omega), fun p hp => by
    have n : ¬S p := out_of hb (e.trans e2) hp
    exact q (.ref p) _ (e2.trans (Ex.new hp)) (.lst (by rw [but_ne n, upd_same]) (RdNs.mono (Ex.new hp) r))⟩
theorem evd_dict (hb : ∀ a, S a → (H a).isSome = true) : EvD S tDNewK σ H (.dict []) := fun H1 e Q q p hp => by
  have n : ¬S p := out_of hb e hp
  exact q (.ref p) _ (Ex.new hp) (.dct (kvs := []) (by rw [but_ne n, upd_same]) .nil .nil)
end
end HF
set_option maxRecDepth 100000
set_option maxHeartbeats 2000000
namespace HF
open PySem L2 Evl
def oddD : List PyData := [.none, .bool true, .bool false, .int 0, .int (-1), .int ((10 : Int) ^ (17 : Int).toNat), .str "", .str "ON", .tuple [], .list [], .dict [], .dict [(.str "ON", .str "OFF")], .tuple [.str "ON", .int 1], .tuple [.tuple [.str "ON"]]]
def spOdd : Sp := fun vs H Q _ => ∃ (b : Addr) (n : Nat) (S : Addr → Prop), vs = [.ref b] ∧ BoxAt H b n ∧ n ≤ 1000000 ∧ S b ∧ (∀ a, S a → (H a).isSome = true) ∧ ∀ (x : V) (d : PyData) H', d ∈ oddD → KeepB b H H' → BoxAt H' b (n + 1) → RdN H' S x d → Q x H'
theorem pow_ok17 : CPowW 10 17 := ⟨by decide, by decide +kernel⟩
theorem evd_dict1 {S : Addr → Prop} {σ : L2.St} {H : Hp} {k v : Str} (hb : ∀ a, S a → (H a).isSome = true) : EvD S (tDisp [(tC (.str k), tC (.str v))]) σ H (.dict [(.str k, .str v)]) := fun H1 e Q q p hp => by
  have n : ¬S p := out_of hb e hp
  refine ⟨upd_same, [(.inr k, .str v)], rfl, by show 1 ≤ 15; decide, q (.ref p) _ ?_ (.dct (kvs := [(.inr k, .str v)]) ?_ (.cons (.str k) .nil) (.cons (.str v) .nil))⟩
  · intro a o h
    have z : a ≠ p := ne_of_none h hp
    rw [upd_ne z, upd_ne z]
    exact h
  · rw [but_ne n, upd_same]
    rfl
theorem q_asgLD {S : Addr → Prop} {σ : L2.St} {H : Hp} {ta : TA} {tz : TS} {D : Ends} {ds : List PyData} {i : Nat} (h : EaD S ta σ H ds) (hz : ds.length ≤ 1000) (k : ∀ p xs H1, H1 p = none → Ex H H1 → RdNs H1 S xs ds → tz D (σ.set i (some (.ref p))) (L2.upd H1 p (.lst xs))) : tSeq (tAsg (tLst ta) (gName i)) tz D σ H :=
  h H (Ex.refl H) _ fun xs H1 e1 r => ⟨sz_of (by rw [RdDs.len r]; omega), fun p hp => k p xs H1 hp e1 r⟩
structure TxDraw (K : PySem.W.Frag) (mg : Str → Option Value) : Prop where
section
variable {P : Program} {w : World} {K : PySem.W.Frag} {mg : Str → Option Value} {base : Heap}
end
end HF
set_option maxRecDepth 100000
set_option maxHeartbeats 1000000
namespace HF
open PySem L2 Evl
/-! ### two units: == -/
def tupD (ts : List Str) : PyData := .tuple (ts.map PyData.str)
theorem dpAll_strs {K : PySem.W.Frag} {H : Hp} : ∀ ts : List Str, DpAll K H (strsV ts) (ts.map PyData.str)
  | [] => .nil
  | t :: ts => .cons (.str t) (dpAll_strs ts)
def okS (ts : List Str) : Bool := ts.all PyData.strOk
theorem canLay_strs : ∀ {ts : List Str}, okS ts = true → PyData.canLayAll0 (ts.map PyData.str) = true
  | [], _ => by simp [PyData.canLayAll0]
  | t :: ts, h => by
    unfold okS at h
    rw [List.all_cons, Bool.and_eq_true] at h
    show PyData.canLayAll0 (PyData.str t :: ts.map PyData.str) = true
    rw [PyData.canLayAll0, canLay_strs h.2]
    simpa [PyData.canLay0] using h.1
theorem depth_strs : ∀ ts : List Str, PyData.depthAll (ts.map PyData.str) = 0
  | [] => by simp [PyData.depthAll]
  | t :: ts => by
    show PyData.depthAll (PyData.str t :: ts.map PyData.str) = 0
    rw [PyData.depthAll, depth_strs ts]
    simp [PyData.depth]
theorem shaped_tup {ts : List Str} (h : okS ts = true) : SeqAt.shaped (tupD ts) = true := by
  unfold SeqAt.shaped tupD
  rw [Bool.and_eq_true, decide_eq_true_eq]
  refine ⟨?_, ?_⟩
  · rw [PyData.canLay0]
    exact canLay_strs h
  · rw [PyData.depth, depth_strs]
    decide
theorem eqv_tup {ts : List Str} (h : okS ts = true) : PyData.eqv (tupD ts) (tupD ts) = true := SeqAt.eqv_refl _ (SeqAt.canLay_of_shaped (shaped_tup h))
structure TxUEq (K : PySem.W.Frag) (mg : Str → Option Value) (CU : Addr) : Prop where
  mg_ : mg "Unit" = some (.ref CU)
  ha : PySem.W.findIn K (.ref CU) "__class__" = some (some (.builtin "object.__class__"))
  hn : PySem.W.specialIn K (.builtin "object.__class__") "__get__" = some (some (.builtin "getset_descriptor.__get__"))
  htk : PySem.W.takesIn K (.builtin "object.__class__") = some true
  hm : PySem.W.mroIn K CU (.type "object") = some true
  one : PySem.W.kitOne K (.ref CU) (.ref CU) = some true
def spUEq (CU : Addr) : Sp := fun vs H Q _ => ∃ (x y dx dy : Addr) (fs gs : List (Str × V)) (q q2 : Addr) (ts ts2 : List Str) (t t2 : Str), vs = [.ref x, .ref y] ∧ H x = some (.ins CU dx fs) ∧ H y = some (.ins CU dy gs) ∧
  fs.lookup ("words" : Str) = some (.ref q) ∧ gs.lookup ("words" : Str) = some (.ref q2) ∧ fs.lookup ("text" : Str) = some (.str t) ∧ gs.lookup ("text" : Str) = some (.str t2) ∧ H q = some (.tup (strsV ts)) ∧ H q2 = some (.tup (strsV ts2)) ∧ okS ts = true ∧ okS ts2 = true ∧
  RetV (.bl (PyData.eqv (tupD ts) (tupD ts2) && decide (t = t2))) H Q
section
variable {P : Program} {w : World} {K : PySem.W.Frag} {mg : Str → Option Value} {base : Heap} {CU : Addr}
theorem rv_eqD {H : Hp} {q q2 : Addr} {ts ts2 : List Str} (h : H q = some (.tup (strsV ts))) (h2 : H q2 = some (.tup (strsV ts2))) (k1 : okS ts = true) (k2 : okS ts2 = true) : RV (rEqD K) (.ref q) (.ref q2) H (.bl (PyData.eqv (tupD ts) (tupD ts2))) := fun H1 e Q k =>
  ⟨tupD ts, tupD ts2, .tup (st_of (e _ _ h)) (dpAll_strs ts), .tup (st_of (e _ _ h2)) (dpAll_strs ts2), shaped_tup k1, shaped_tup k2, k H1 (Ex.refl H1)⟩
end
end HF
set_option maxRecDepth 100000
set_option maxHeartbeats 1000000
namespace HF
open PySem L2 Evl
def goodV (x : V) : Bool := isStrV x && (isCapital (textOf x) && !inS (textOf x) ["NONE", "BAD"])
theorem all_good : ∀ xs : List V, xs.all goodV = (xs.all isStrV && (xs.map textOf).all fun w => isCapital w && !inS w ["NONE", "BAD"])
  | [] => rfl
  | x :: xs => by
    rw [List.all_cons, List.map_cons, List.all_cons, List.all_cons, all_good xs]
    unfold goodV
    cases isStrV x <;> cases isCapital (textOf x) <;> cases inS (textOf x) ["NONE", "BAD"] <;> simp
def six : List V := [.int 1, .int 2, .int 3, .int 4, .int 5, .int 6]
def three : List V := [.int 1, .int 2, .int 3]
theorem in_six (n : Nat) : inV (.int (n : Int)) six = (decide (1 ≤ n) && decide (n ≤ 6)) := by
  by_cases h : 1 ≤ n ∧ n ≤ 6
  · have : n = 1 ∨ n = 2 ∨ n = 3 ∨ n = 4 ∨ n = 5 ∨ n = 6 := by omega
    rcases this with rfl | rfl | rfl | rfl | rfl | rfl <;> decide
  · have e : (decide (1 ≤ n) && decide (n ≤ 6)) = false := by
      rw [Bool.and_eq_false_iff, decide_eq_false_iff_not, decide_eq_false_iff_not]
      omega
    rw [e, Bool.eq_false_iff]
    intro z
    obtain ⟨y, hy, hz⟩ := List.any_eq_true.mp z
    unfold six at hy
    simp only [List.mem_cons, List.not_mem_nil, or_false] at hy
    rcases hy with rfl | rfl | rfl | rfl | rfl | rfl <;> (have hz2 := of_decide_eq_true hz; omega)
theorem in_three (n : Nat) : inV (.int (n : Int)) three = (decide (1 ≤ n) && decide (n ≤ 3)) := by
  by_cases h : 1 ≤ n ∧ n ≤ 3
  · have : n = 1 ∨ n = 2 ∨ n = 3 := by omega
    rcases this with rfl | rfl | rfl <;> decide
  · have e : (decide (1 ≤ n) && decide (n ≤ 3)) = false := by
      rw [Bool.and_eq_false_iff, decide_eq_false_iff_not, decide_eq_false_iff_not]
      omega
    rw [e, Bool.eq_false_iff]
    intro z
    obtain ⟨y, hy, hz⟩ := List.any_eq_true.mp z
    unfold three at hy
    simp only [List.mem_cons, List.not_mem_nil, or_false] at hy
    rcases hy with rfl | rfl | rfl <;> (have hz2 := of_decide_eq_true hz; omega)
theorem words_as (xs : List V) : wordsV xs = ((decide (1 ≤ xs.length) && decide (xs.length ≤ 3)) && (xs.all goodV && distinct (xs.map textOf))) := by
  have e1 : decide ((1 : Int) ≤ (xs.length : Int)) = decide (1 ≤ xs.length) := decide2 (by omega)
  have e2 : decide ((xs.length : Int) ≤ (3 : Int)) = decide (xs.length ≤ 3) := decide2 (by omega)
  unfold wordsV wordsS
  rw [e1, e2, all_good]
  cases decide (1 ≤ xs.length) <;> cases decide (xs.length ≤ 3) <;> cases xs.all isStrV <;> cases distinct (xs.map textOf) <;> simp
section
variable {P : Program} {w : World} {K : PySem.W.Frag} {mg : Str → Option Value} {base : Heap}
end
end HF
set_option maxRecDepth 100000
set_option maxHeartbeats 1000000
namespace HF
open PySem L2 Evl
/-- [pool[_law_take(box, few)] for turn in range(..)]: the box changes at each turn -/
theorem lc_draw {K : PySem.W.Frag} {b l : Addr} {pool : List Str} {few : Int} {n M j : Nat} {ta : TA} {vs : List Nat} {σ : L2.St} {H0 : Hp} {Q : VK} (hp : H0 l = some (.lst (strsV pool))) (hl : l ≠ b) (hn : n ≤ 900000) (hm : M ≤ 50000) (f0 : 0 < few) (f1 : few ≤ pool.length) (f2 : few < 1073741824)
    (hw : ∀ x, wipe ((wipe σ vs).set j (some x)) vs = wipe σ vs) (h0 : ∀ x, ((wipe σ vs).set j (some x))[0]? = some (some (.ref b))) (h1 : ∀ x, ((wipe σ vs).set j (some x))[1]? = some (some (.ref l))) (h2 : ∀ x, ((wipe σ vs).set j (some x))[2]? = some (some (.int few)))
    (hta : ∀ R : List V → Hp → Prop, (∀ (m : Nat) H1, m ≤ M → KeepB b H0 H1 → BoxAt H1 b n → R [.int (m : Int)] H1) → ta σ H0 R)
    (q : ∀ D ws H', H0 D = none → KeepB b H0 H' → BoxAt H' b (n + M) → H' D = some (.lst (strsV ws)) → ws.length ≤ M → (∀ w ∈ ws, w ∈ pool) → Q (.ref D) H') :
    tLc (iRng1 ta) (gName j) tYes (tOp (rIxL K) (tVar 1) (tCall spTake [] E0 (tCons (tVar 0) (tCons (tVar 2) tNil)))) vs σ H0 Q := by
  refine hta _ fun m H1 mM k1 b1 => ⟨(m : Int), rfl, by omega, by omega, fun D hD => ?_⟩
  obtain ⟨u0, v0, w0, ob, _⟩ := id b1
  have nDb : D ≠ b := Ne.symm (ne_of_none ob hD)
  have nD0 : D ≠ b → H0 D = none := fun z => by
    cases e : H0 D with
    | none => rfl
    | some o => rw [k1 D o z e] at hD; cases hD
  have fin := lc_range (lo := 0) (n := m) (g := gName j) (tt := tYes) (te := tOp (rIxL K) (tVar 1) (tCall spTake [] E0 (tCons (tVar 0) (tCons (tVar 2) tNil)))) (vs := vs) (σ := σ) (H1 := H1) (D := D) (Qd := fun H' => Q (.ref D) H')
    (fun i H' => ∃ ws : List Str, ws.length = i ∧ (∀ w ∈ ws, w ∈ pool) ∧ KeepB b H1 H' ∧ BoxAt H' b (n + i) ∧ H' D = some (.lst (strsV ws)))
    ⟨[], rfl, fun _ z => (by cases z), KeepB.ex (Ex.new hD), b1.mono (Ex.new hD), upd_same⟩ (fun i H' hi p => ?_) (fun H' p => ?_)
  · exact fin
  · obtain ⟨ws, wl, wp, kp, bp, dp⟩ := p
    refine ⟨hw _, ?_⟩
    show (tOp (rIxL K) (tVar 1) (tCall spTake [] E0 (tCons (tVar 0) (tCons (tVar 2) tNil)))) _ H' _
    refine ⟨_, h1 _, _, h0 _, _, h2 _, b, few, n + i, rfl, bp, by omega, f0, f2, fun d H3 hd k3 b3 => ?_⟩
    have hd2 : d < pool.length := by omega
    refine ⟨l, strsV pool, (d : Int), .str pool[d], rfl, rfl, sq_of (k3 l _ hl (kp l _ hl (k1 l _ hl hp))), atI_nat (by unfold strsV; rw [List.getElem?_map, List.getElem?_eq_getElem hd2]; rfl), strsV ws, k3 D _ nDb dp, sz_lt (by rw [strsV_len]; omega), ws ++ [pool[d]], by rw [List.length_append, wl]; rfl, fun w hw2 => ?_, ?_, ?_, ?_⟩
    · rcases List.mem_append.mp hw2 with z | z
      · exact wp w z
      · rw [List.mem_singleton.mp z]
        exact List.getElem_mem hd2
    · intro a o na ha
      have nz : a ≠ D := ne_of_none ha hD
      rw [upd_ne nz]
      exact k3 a o na (kp a o na ha)
    · obtain ⟨u, v, w, a1, a2⟩ := b3
      exact ⟨u, v, w, by rw [upd_ne (Ne.symm nDb)]; exact a1, a2⟩
    · rw [upd_same]
      unfold strsV
      rw [List.map_append]
      rfl
  · obtain ⟨ws, wl, wp, kp, bp, dp⟩ := p
    exact q D ws H' (nD0 nDb) (k1.trans kp) (bp.le (by omega)) dp (by omega) wp
end HF
set_option maxRecDepth 100000
set_option maxHeartbeats 1000000
namespace HF
open PySem L2 Evl
section
variable {K : PySem.W.Frag} {b l : Addr} {n i : Nat} {σ : L2.St} {H : Hp} {tz : TS} {D : Ends}
/-- x = _law_take(box, m) -/
theorem q_take {m : Int} {i0 : Nat} (h0 : σ[i0]? = some (some (.ref b))) (hb : BoxAt H b n) (hn : n ≤ 1000000) (m0 : 0 < m) (m1 : m < 1073741824) (k : ∀ (d : Nat) H2, (d : Int) < m → KeepB b H H2 → BoxAt H2 b (n + 1) → tz D (σ.set i (some (.int (d : Int)))) H2) :
    tSeq (tAsg (tCall spTake [] E0 (tCons (tVar i0) (tCons (tC (.int m)) tNil))) (gName i)) tz D σ H :=
  ⟨_, h0, b, m, n, rfl, hb, hn, m0, m1, fun d H2 hd k2 b2 => k d H2 hd k2 b2⟩
/-- few = 6 if _law_take(box, 3) > 0 else len(pool) -/
theorem q_few {pool : List V} (h0 : σ[0]? = some (some (.ref b))) (h1 : σ[1]? = some (some (.ref l))) (hb : BoxAt H b n) (hn : n ≤ 1000000) (hp : H l = some (.lst pool)) (hl : l ≠ b) (hz : 6 ≤ pool.length)
    (k : ∀ (few : Int) H2, 0 < few → few ≤ pool.length → KeepB b H H2 → BoxAt H2 b (n + 1) → tz D (σ.set i (some (.int few))) H2) :
    tSeq (tAsg (tIf (tTest (tOp (rI0 fun i j => .bl (decide (i > j))) (tCall spTake [] E0 (tCons (tVar 0) (tCons (tC (.int 3)) tNil))) (tC (.int 0)))) (tC (.int 6)) (tCB (rLenT K) (tCons (tVar 1) tNil))) (gName i)) tz D σ H := by
  refine ⟨_, h0, b, 3, n, rfl, hb, hn, by decide, by decide, fun d H2 hd k2 b2 => ⟨(d : Int), 0, rfl, rfl, _, rfl, ?_⟩⟩
  by_cases z : (d : Int) > 0
  · rw [decide_eq_true z]
    exact k 6 H2 (by decide) (by omega) k2 b2
  · rw [decide_eq_false z]
    exact ⟨_, h1, l, pool, rfl, Or.inl (sq_of (k2 l _ hl hp)), k _ H2 (by omega) (Int.le_refl _) k2 b2⟩
theorem q_draw {pool : List Str} {few : Int} {M j : Nat} {ta : TA} {vs : List Nat} (hp : H l = some (.lst (strsV pool))) (hl : l ≠ b) (hn : n ≤ 900000) (hm : M ≤ 50000) (f0 : 0 < few) (f1 : few ≤ pool.length) (f2 : few < 1073741824)
    (hw : ∀ x, wipe ((wipe σ vs).set j (some x)) vs = wipe σ vs) (h0 : ∀ x, ((wipe σ vs).set j (some x))[0]? = some (some (.ref b))) (h1 : ∀ x, ((wipe σ vs).set j (some x))[1]? = some (some (.ref l))) (h2 : ∀ x, ((wipe σ vs).set j (some x))[2]? = some (some (.int few)))
    (hta : ∀ R : List V → Hp → Prop, (∀ (m : Nat) H1, m ≤ M → KeepB b H H1 → BoxAt H1 b n → R [.int (m : Int)] H1) → ta σ H R)
    (q : ∀ Dl ws H', H Dl = none → KeepB b H H' → BoxAt H' b (n + M) → H' Dl = some (.lst (strsV ws)) → ws.length ≤ M → (∀ w ∈ ws, w ∈ pool) → tz D (σ.set i (some (.ref Dl))) H') :
    tSeq (tAsg (tLc (iRng1 ta) (gName j) tYes (tOp (rIxL K) (tVar 1) (tCall spTake [] E0 (tCons (tVar 0) (tCons (tVar 2) tNil)))) vs) (gName i)) tz D σ H :=
  lc_draw (Q := fun x H1 => tz D (σ.set i (some x)) H1) hp hl hn hm f0 f1 f2 hw h0 h1 h2 hta q
/-- the box goes on: at most m more -/
theorem BoxAt.up {H' : Hp} {m : Nat} (h : BoxAt H' b n) (e : n ≤ m) : BoxAt H' b m := h.le e
end
end HF
set_option maxRecDepth 100000
set_option maxHeartbeats 1000000
namespace HF
open PySem L2 Evl
def poolS : List Str := ["ON", "OFF", "A", "AB", "ABCDEF", "Z", "NONE", "BAD", "NON", "BADD", "ABCDEFG", "on", "On", "", "O N", "A1"]
def DrawnD (d : PyData) : Prop := ∃ ws : List Str, ws.length ≤ 4 ∧ (∀ w ∈ ws, w ∈ poolS) ∧
  (d = .list (ws.map .str) ∨ d = .tuple (ws.map .str) ∨ (∃ j o, o ∈ oddD ∧ d = .tuple ((ws.map PyData.str).set j o)) ∨ d = .tuple [.tuple (ws.map .str)] ∨ d = .str (Txt.join "" ws))
def spDrawn : Sp := fun vs H Q _ => ∃ (b : Addr) (n : Nat), vs = [.ref b] ∧ BoxAt H b n ∧ n ≤ 800000 ∧ ∀ (x : V) (d : PyData) H', DrawnD d → KeepB b H H' → BoxAt H' b (n + 20) → RdN H' (fun a => a = b) x d → Q x H'
def eightV : List V := [.int 1, .int 1, .int 2, .int 2, .int 3, .int 3, .int 4, .int 0]
theorem eight_int {x : V} (h : x ∈ eightV) : ∃ m : Nat, x = .int (m : Int) ∧ m ≤ 4 := by
  unfold eightV at h
  simp only [List.mem_cons, List.not_mem_nil, or_false] at h
  rcases h with rfl | rfl | rfl | rfl | rfl | rfl | rfl | rfl
  · exact ⟨1, rfl, by decide⟩
  · exact ⟨1, rfl, by decide⟩
  · exact ⟨2, rfl, by decide⟩
  · exact ⟨2, rfl, by decide⟩
  · exact ⟨3, rfl, by decide⟩
  · exact ⟨3, rfl, by decide⟩
  · exact ⟨4, rfl, by decide⟩
  · exact ⟨0, rfl, by decide⟩
theorem rd_strs {H : Hp} : ∀ ws : List Str, RdDs H (strsV ws) (ws.map PyData.str)
  | [] => .nil
  | w :: ws => .cons (.str w) (rd_strs ws)
theorem none_of_keepB {x b : Addr} {H H' : Hp} (k : KeepB x H H') (n : b ≠ x) (h : H' b = none) : H b = none := by
  cases e : H b with
  | none => rfl
  | some o => rw [k b o n e] at h; cases h
theorem ixN_nat {n i : Nat} (h : i < n) : ixN n (i : Int) = some i := by
  unfold ixN
  rw [if_pos (by omega), if_pos (by omega)]
  rfl
theorem RdNs.less {H : Hp} {S S' : Addr → Prop} {xs : List V} {ds : List PyData} (z : ∀ a, S' a → S a) (h : RdNs H S xs ds) : RdNs H S' xs ds := RdDs.mono (fun a o q => by
  by_cases e : S a
  · rw [but_in e] at q
    cases q
  · rw [but_ne e] at q
    rw [but_ne fun y => e (z a y)]
    exact q) h
theorem RdNs.store {H : Hp} {S : Addr → Prop} {xs : List V} {ds : List PyData} {a : Addr} {o : HO} (z : S a) (h : RdNs H S xs ds) : RdNs (L2.upd H a o) S xs ds := RdDs.mono (but_keepS fun c u e q => by rw [upd_ne fun y => e (by rw [y]; exact z)]; exact q) h
theorem rd_set {H : Hp} {x : V} {d : PyData} : ∀ (i : Nat) {xs : List V} {ds : List PyData}, RdDs H xs ds → RdD H x d → RdDs H (xs.set i x) (ds.set i d)
  | _, _, _, .nil, _ => .nil
  | 0, _, _, .cons _ t, r => .cons r t
  | i + 1, _, _, .cons a t, r => .cons a (rd_set i t r)
theorem pool_len {w : Str} (h : w ∈ poolS) : w.length ≤ 7 := by
  have : ∀ w ∈ poolS, w.length ≤ 7 := by decide
  exact this w h
theorem sum_pool : ∀ {ws : List Str}, (∀ w ∈ ws, w ∈ poolS) → (ws.map (·.length)).sum ≤ 7 * ws.length
  | [], _ => Nat.zero_le _
  | w :: ws, h => by
    have h1 := pool_len (h w List.mem_cons_self)
    have h2 := sum_pool (ws := ws) fun x hx => h x (List.mem_cons_of_mem _ hx)
    simp only [List.map_cons, List.sum_cons, List.length_cons]
    omega
theorem dp_strs {K : PySem.W.Frag} {H : Hp} : ∀ ws : List Str, DpAll K H (strsV ws) (ws.map PyData.str)
  | [] => .nil
  | w :: ws => .cons (.str w) (dp_strs ws)
theorem lay_pool : ∀ {ws : List Str}, (∀ w ∈ ws, w ∈ poolS) → PyData.canLayAll0 (ws.map PyData.str) = true
  | [], _ => rfl
  | w :: ws, h => by
    have h1 : ∀ w ∈ poolS, (PyData.str w).canLay0 = true := by decide +kernel
    have h2 := lay_pool (ws := ws) fun x hx => h x (List.mem_cons_of_mem _ hx)
    have h3 := h1 w (h w List.mem_cons_self)
    show PyData.canLayAll0 (PyData.str w :: ws.map PyData.str) = true
    rw [PyData.canLayAll0, h3, h2]
    rfl
theorem depth_pool : ∀ ws : List Str, PyData.depthAll (ws.map PyData.str) = 0
  | [] => by simp [PyData.depthAll]
  | w :: ws => by
    show PyData.depthAll (PyData.str w :: ws.map PyData.str) = 0
    rw [PyData.depthAll, depth_pool ws]
    simp [PyData.depth]
theorem shaped_pool {ws : List Str} (h : ∀ w ∈ ws, w ∈ poolS) : SeqAt.shaped (.list (ws.map PyData.str)) = true := by
  unfold SeqAt.shaped
  rw [PyData.canLay0, lay_pool h, PyData.depth, depth_pool]
  rfl
/-- a list of texts is not [] -/
theorem ev_ne_nil {K : PySem.W.Frag} {σ : L2.St} {H : Hp} {ta : TE} {D : Addr} {ws : List Str} (h : Ev ta σ H (.ref D)) (hd : H D = some (.lst (strsV ws))) (hp : ∀ w ∈ ws, w ∈ poolS) : Ev (tOp (rNeD K) ta (tLst tNil)) σ H (.bl (!PyData.eqv (.list (ws.map PyData.str)) (.list []))) := fun H1 e Q q =>
  h H1 e _ fun H2 e2 => ⟨by decide, fun p hp2 => ⟨.list (ws.map PyData.str), .list [], .lst (sq_of ((Ex.new hp2) _ _ (e2 _ _ (e _ _ hd)))) (dp_strs ws), (.lst (sq_of upd_same) .nil), shaped_pool hp, rfl, q _ (e2.trans (Ex.new hp2))⟩⟩
section
variable {P : Program} {w : World} {K : PySem.W.Frag} {mg : Str → Option Value} {base : Heap}
end
end HF
set_option maxRecDepth 100000
set_option maxHeartbeats 2000000
namespace HF
open PySem PySem.Spec PyProof.Rows L2
/-- an error that was caught, of the class cls, its dict d, kept by some name -/
def ExK (cls : Value) (d : Option Addr) (a : Addr) : HO := .ext fun h => ∃ (oe : Obj) (vs : Array Value), h.get? a = some oe ∧ Zc cls d oe ∧ oe.data = .fields vs
theorem exK_ok {P : Program} {w : World} {H : Hp} {h : Heap} {a : Addr} {cls : Value} {d : Option Addr} {oe : Obj} {vs : Array Value} (e : h.get? a = some oe) (z : Zc cls d oe) (q : oe.data = .fields vs) : ObjOk P w H h a (ExK cls d a) :=
  ⟨⟨oe, vs, e, z, q⟩, ⟨oe, e⟩, fun _ _ ⟨o, v, p, r⟩ k => ⟨o, v, k o p, r⟩⟩
section
variable {X : Cx} {pins : List (Addr × Obj)} {σ : L2.St} {H : Hp} {s : Shared}
/-- an object that stands already is tracked from here on -/
theorem inv_hold {a : Addr} {o : HO} (I : Inv X pins σ H s) (hn : H a = none) (h0 : X.s_0.heap.get? a = none) (hL : X.env.locals ≠ a) (hC : ∀ y c, X.env.cells.lookup y = some c → c ≠ a) (hP : ∀ p ∈ X.pn ++ pins, p.1 ≠ a)
    (new : ObjOk X.prog X.w (L2.upd H a o) s.heap a o) : Inv X pins σ (L2.upd H a o) s where
  ok := I.ok
  os := I.os
  bare := I.bare
  base := { I.base with
    free := fun b u q n z => by
      have : b ≠ a := fun e => by rw [e, h0] at q; cases q
      rw [upd_ne this]
      exact I.base.free b u q n z
    tups := fun b xs q => by
      have q2 := I.base.tups b xs q
      rw [upd_ne (ne_of_none q2 hn)]
      exact q2
    frzs := fun b u v q => by
      have q2 := I.base.frzs b u v q
      rw [upd_ne (ne_of_none q2 hn)]
      exact q2
    tbls := fun b ps q => by
      obtain ⟨m, q2⟩ := I.base.tbls b ps q
      exact ⟨m, by rw [upd_ne (ne_of_none q2 hn)]; exact q2⟩ }
  loc := I.loc
  cell := I.cell
  free := by rw [upd_ne hL]; exact I.free
  freeC := fun y c e => by rw [upd_ne (hC y c e)]; exact I.freeC y c e
  pin := fun p hp => by
    obtain ⟨z1, z2, z3, z4, z5⟩ := I.pin p hp
    exact ⟨z1, by rw [upd_ne (hP p hp)]; exact z2, z3, z4, z5⟩
  hok := HOk.laidN I.hok (fun _ _ q => q) hn new
  len := I.len
/-- the same state without one of its pins -/
theorem inv_unpin {p : Addr × Obj} (I : Inv X (p :: pins) σ H s) : Inv X pins σ H s := ⟨I.ok, I.os, I.bare, I.base, I.loc, I.cell, I.free, I.freeC, fun q hq => I.pin q (by
  rcases List.mem_append.mp hq with z | z
  · exact List.mem_append_left _ z
  · exact List.mem_append_right _ (List.mem_cons_of_mem _ z)), I.hok, I.len⟩
/-- out of a suite, its exception still pinned -/
theorem inv_out {a : Addr} {p : Addr × Obj} (I : Inv (X.suite a (p :: (X.pn ++ pins))) [] σ H s) (ok : X.Ok) : Inv X (p :: pins) σ H s := ⟨ok, I.os, I.bare, I.base, I.loc, I.cell, I.free, I.freeC, fun q hq => I.pin q (by
  rw [List.append_nil]
  rcases List.mem_append.mp hq with z | z
  · exact List.mem_cons_of_mem _ (List.mem_append_left _ z)
  · rcases List.mem_cons.mp z with z | z
    · rw [z]; exact List.mem_cons_self
    · exact List.mem_cons_of_mem _ (List.mem_append_right _ z)), I.hok, I.len⟩
end
/-- what 'except x as n' asks of the body's errors, each of which it takes and keeps: slot i is n's -/
def wHold (K : PySem.W.Frag) (c : Value) (i : Nat) (ts : Addr → Value → Option Addr → TS) (D : Ends) : WX := fun cls d σ H => PySem.W.exmOne K cls c = some true ∧
  ∀ a, H a = none → ts a cls d { nx := fun σ' H' => D.nx (σ'.set i none) (L2.upd H' a (ExK cls d a)), rt := fun _ _ => False, bk := fun _ _ => False, ct := fun _ _ => False } (σ.set i (some (.ref a))) H
section
variable {X : Cx} {x n : Str} {c : Value} {i : Nat} {inner more : List Stmt} {st0 : Stmt} {np p1 p2 : Pos} {ti : WX → TS} {tsu : Addr → Value → Option Addr → TS}
/-- try: inner / except x as n: suite, where the error outlives the suite -/
theorem ps_try_hold (k0 : X.ex = []) (k1 : X.stack = X.env :: X.outer) (k2 : X.env.frame = some X.env.locals) (k3 : X.N.Nodup) (k4 : X.N[i]? = some n) (k5 : X.env.kindOf n = some .local) (k6 : Names X x c)
    (k7 : ∀ (W : WX) (pn : List (Addr × Obj)) (ye : Value → Shared → Prop), Takes (X.tr pn ye) W → PassesOwn (model X.prog X.w) X.A X.env ye → PSs (X.tr pn ye) inner (ti W))
    (k8 : ∀ (a : Addr) (u : Obj) (cls : Value) (d : Option Addr) (pn : List (Addr × Obj)), Zc cls d u → (∃ vs, u.data = .fields vs) → PSs (X.suite a ((a, u) :: pn)) (st0 :: more) (tsu a cls d)) :
    PS X (.Try inner [.ExceptHandler (some (.Name x np)) (some n) (st0 :: more) p1] [] [] p2) (fun D σ H => ti (wHold X.K c i tsu D) D σ H) := by
  refine ⟨fun pins s σ H D I h => wpAny_Try_except ?_⟩
  have good := I.ok
  have frs_ : X.A.frames = some (X.env :: X.outer) := by rw [good.frames, k1]
  let ye : Value → Shared → Prop := fun e s₁ => wpAny (model X.prog X.w) X.A (noteFrame e X.env) (fun _ s₂ => wpAny (model X.prog X.w) X.A (setFlight e none) (fun _ s₃ => wpAny (model X.prog X.w) X.A (handleBy e X.env [.ExceptHandler (some (.Name x np)) (some n) (st0 :: more) p1]) (SP X pins D) X.xe s₃) X.xe s₂) X.xe s₁
  have takes : Takes (X.tr (X.pn ++ pins) ye) (wHold X.K c i tsu D) := fun u s' xx => by
    obtain ⟨a, B, sI, pins', σ', H', cls, d, rfl, J', nb, up, sky, na, os, ag, b1, yes⟩ := xx
    have J : Inv X pins σ' H' sI := J'.ofTry good
    show wpAny (model X.prog X.w) X.A (noteFrame (.ref a) X.env) _ _ _
    refine Sky.land (B := B) (a := a) (outer := X.outer) Zc.steady frs_ k2 (by rw [← k1]; exact sky) fun h3 f3 up3 => ?_
    have J3 : Inv X pins σ' H' { s' with heap := h3 } := J.landed nb f3.1 (up.trans up3) os ag
    obtain ⟨u3, vs3, at3, z3, q3⟩ := f3.there
    have out : a ∉ frs (X.env :: X.outer) := fun m => by
      obtain ⟨_, o', e', no⟩ := f3.2.2.1.mem m
      rw [at3] at e'
      cases e'
      exact no _ q3
    have aL : a ≠ X.env.locals := fun z => out (List.mem_filterMap.mpr ⟨X.env, List.mem_cons_self, by rw [k2, z]⟩)
    have aF : a ∉ X.fs := fun m => by
      obtain ⟨e, he, q⟩ := List.mem_filterMap.mp m
      exact out (List.mem_filterMap.mpr ⟨e, List.mem_cons_of_mem _ he, q⟩)
    have aI : sI.heap.get? a = none := by
      cases z : sI.heap.get? a with
      | none => rfl
      | some o =>
        have := nb a o z (by rw [show (X.tr (X.pn ++ pins) ye).stack = X.env :: X.outer from k1]; exact out)
        rw [f3.2.1] at this
        cases this
    have a0 : X.s_0.heap.get? a = none := by
      cases z : X.s_0.heap.get? a with
      | none => rfl
      | some o =>
        obtain ⟨o', z2⟩ := J.base.there a o z (fun m => by rw [k0] at m; cases m)
        rw [aI] at z2
        cases z2
    have aP : ∀ p ∈ X.pn ++ pins, p.1 ≠ a := fun p hp z => by
      have := (J.pin p hp).1
      rw [z, aI] at this
      cases this
    have S3 := J3.suite at3 q3 na aL aF
    refine wpAny_handleBy_cons (codeAny_handlers_test ?_) (by intro q; cases q)
    have ty : PySem.W.Looks (model X.prog X.w) h3 (typeOf (.ref a)) cls := fun A Q E s k q => wpAny_typeOf_ref (k _ _ at3) (by rw [z3.1]; exact q)
    have mt := PySem.W.exm_one (M := model X.prog X.w) (J3.kIn) ty b1
    have named : ∀ {Q : Value → Shared → Prop} {E : Value → Shared → Prop}, Q c { s' with heap := h3 } → wpAny (model X.prog X.w) (X.A.mark (some (.ref a))) (eval (.Name x np) X.env) Q E { s' with heap := h3 } := fun {Q E} q => by
      obtain ⟨g1, g2, g3 | ⟨g3, g4, g5⟩⟩ := k6
      · exact ld_glob (X := X.suite a ((a, u3) :: (X.pn ++ pins))) S3 g1 g3 q g2
      · exact ld_blt (X := X.suite a ((a, u3) :: (X.pn ++ pins))) S3 g1 g3 g4 q g5 g2
    refine named (mt.here (codeAny_handlers_suite_as (HandSPX.lands_againZ f3 fun h4 f4 up4 => ?_)))
    have J4 : Inv X pins σ' H' { s' with heap := h4 } := J.landed nb f4.1 ((up.trans up3).trans up4) os ag
    obtain ⟨u4, vs4, at4, z4, q4⟩ := f4.there
    have S4 := J4.suite at4 q4 na aL aF
    refine store_ok (X := X.suite a ((a, u4) :: (X.pn ++ pins))) (v := .ref a) S4 k3 k4 (.inl k5) rfl (fun s5 S5 => ?_) (.inr k5)
    refine wpAny_mono ((k8 a u4 cls d (X.pn ++ pins) z4 ⟨_, q4⟩).run [] s5 _ H' _ S5 (yes a na)) (fun f s6 got => ?_) (fun _ _ z => False.elim z)
    cases f with
    | next =>
      obtain ⟨σ6, H6, S6, q6⟩ := got
      refine gone_ok (inv_out S6 good) k3 k4 k5 fun s7 J7 => ⟨_, _, ?_, q6⟩
      obtain ⟨at7, n7, _, _, c7⟩ := J7.pin (a, u4) (List.mem_append_right _ List.mem_cons_self)
      refine inv_hold (inv_unpin J7) n7 a0 (Ne.symm aL) (fun y c' e z => ?_) aP (exK_ok at7 z4 q4)
      obtain ⟨v, o, w1, w2⟩ := J7.cell y c' e
      rw [z, at7] at w1
      cases w1
      exact c7 v w2
    | brk =>
      obtain ⟨_, _, _, z⟩ := got
      exact z.elim
    | cont =>
      obtain ⟨_, _, _, z⟩ := got
      exact z.elim
    | ret u =>
      obtain ⟨_, _, _, _, _, z⟩ := got
      exact z.elim
  refine wpAny_mono ((k7 (wHold X.K c i tsu D) (X.pn ++ pins) ye takes PassesOwn.looking).run [] s σ H D (I.toTry _) h) (fun f s1 got => ?_) (fun e s1 he => he)
  cases f with
  | next =>
    obtain ⟨σ', H', J', q⟩ := got
    exact wpAny_execs_nil ⟨σ', H', J'.ofTry good, q⟩
  | brk =>
    obtain ⟨σ', H', J', q⟩ := got
    exact ⟨σ', H', J'.ofTry good, q⟩
  | cont =>
    obtain ⟨σ', H', J', q⟩ := got
    exact ⟨σ', H', J'.ofTry good, q⟩
  | ret u =>
    obtain ⟨v, σ', H', J', r, q⟩ := got
    exact ⟨v, σ', H', J'.ofTry good, r, q⟩
end
end HF
set_option maxRecDepth 100000
set_option maxHeartbeats 2000000
namespace HF
open PySem PySem.Spec PyProof.Rows L2
section
variable {X : Cx} {pins : List (Addr × Obj)} {σ : L2.St} {H : Hp} {s : Shared}
/-- the object of a kept error, and its dict -/
theorem kept_at {D a dd : Addr} {fs : List (Str × V)} (I : Inv X pins σ H s) (h1 : H a = some (ExK (.ref D) (some dd) a)) (h2 : H dd = some (.xd fs)) : ∃ (oe od : Obj) (mA : Str → Option Value), PySem.W.InstAt s.heap a oe D (some od) ∧ (∀ f, PySem.W.lookIn f od = some (mA f)) ∧ ∀ f, RelO (fs.lookup f) (mA f) := by
  obtain ⟨⟨oe, vs, e, z, q⟩, _, _⟩ := I.hok _ _ h1
  obtain ⟨mA, hns, hr⟩ := I.hok _ _ h2
  obtain ⟨od, ho, hl⟩ := lookIn_ns hns
  exact ⟨oe, od, mA, ⟨e, z.1, by unfold PySem.W.notCls; rw [q] <;> rfl, by rw [z.2]; exact ho⟩, hl, hr⟩
/-- isinstance(e, c), e an error that was kept -/
def rIsK2 (K : PySem.W.Frag) : List V → Hp → VK → Prop := fun xs H Q => ∃ (a D dd : Addr) (fs : List (Str × V)) (c : V) (cv : Value) (b : Bool), xs = [.ref a, c] ∧ H a = some (ExK (.ref D) (some dd) a) ∧ H dd = some (.xd fs) ∧ ExcC K D ∧ (∀ u, RelV c u → u = cv) ∧ PySem.W.kitOne K (.ref D) cv = some b ∧ Q (.bl b) H
theorem call_isK : CallR X (.builtin "isinstance") (rIsK2 X.K) := by
  intro pins s σ H xs us Q I r h
  obtain ⟨a, D, dd, fs, c, cv, b, rfl, h1, h2, C, hcv, e, q⟩ := h
  obtain ⟨oe, od, mA, J, _⟩ := kept_at I h1 h2
  cases r with
  | cons rx rr =>
    cases rr with
    | cons rt rr =>
      cases rr
      cases rx
      have ec := hcv _ rt
      subst ec
      obtain ⟨cd, hcl, _⟩ := PySem.W.any_some C.hd
      exact PySem.W.kia_one (PySem.W.kitx_exc (gt := none) (by rw [hcl]; rfl) C.hg C.hk C.hs C.ha C.hn C.ht C.hm) I.kIn J e (fun z => nomatch z) fun tk => ⟨.bl b, H, I.kept (t' := tk) fun _ _ z => z, rfl, q⟩
/-- a field of a kept error -/
def tXk (C : Addr) (f : Str) (te : TE) : TE := fun σ H Q => te σ H fun x H1 => ∃ (a dd : Addr) (fs : List (Str × V)) (v : V), x = .ref a ∧ H1 a = some (ExK (.ref C) (some dd) a) ∧ H1 dd = some (.xd fs) ∧ fs.lookup f = some v ∧ Q v H1
theorem pe_xk {C : Addr} {e : Expr} {te : TE} {pos : Pos} {n : Str} (T : XfC X.K C) (hno : PySem.W.findIn X.K (.ref C) n = some none) (he : PE X e te) (hb : attributeBase e n X.env (eval e X.env) = eval e X.env := by rfl) : PE X (.Attribute e n pos) (tXk C n te) := by
  refine ⟨fun pins s σ H Q I h => attr_of hb (thn (he.run pins s σ H _ I h) fun u s1 hh => ?_)⟩
  obtain ⟨x, H1, I1, rx, a, dd, fs, v, rfl, h1, h2, l, q⟩ := hh
  obtain rfl : u = Value.ref a := rx
  obtain ⟨oe, od, mA, J, hl, hr⟩ := kept_at I1 h1 h2
  obtain ⟨u, hu, ru⟩ := RelO.some_of (v := v) (o := mA n) (by rw [← l]; exact hr n)
  exact HandSPX.exc_get I1.kIn J T.ga T.gg T.exC (PySem.W.findObj_own T.hdC hno rfl (by rw [hl, hu])) (handed_of ru) ⟨v, H1, I1.tok _, ru, q⟩
/-- flags.count(b), the flags truth values -/
def rCountB : V → List V → Hp → VK → Prop := fun x vs H Q => ∃ (l : Addr) (bs : List Bool) (b : Bool), x = .ref l ∧ vs = [.bl b] ∧ H l = some (.lst (bs.map V.bl)) ∧ Q (.int ((bs.countP fun y => PyData.eqv (.bool y) (.bool b) : Nat) : Int)) H
theorem reads_bl {h : Heap} : ∀ {bs : List Bool} {us : List Value}, Vals (bs.map V.bl) us → ∃ as, ReadsAll h us (bs.map PyData.bool) as
  | [], _, r => by
    have r' : Vals [] _ := r
    cases r'
    exact ⟨_, .nil⟩
  | b :: bs, _, r => by
    have r' : Vals (V.bl b :: bs.map V.bl) _ := r
    cases r' with
    | cons r1 r2 =>
      cases (show _ = Value.bool b from r1)
      obtain ⟨as, q⟩ := reads_bl r2
      exact ⟨_, .cons (.bool b) q⟩
theorem plain_bl : ∀ bs : List Bool, PyData.plainAll (bs.map PyData.bool) = true
  | [] => rfl
  | b :: bs => by
    show (PyData.plainAll (PyData.bool b :: bs.map PyData.bool)) = true
    simp [PyData.plainAll, PyData.plain, plain_bl bs]
theorem mt_countB (hu : X.A.units + 64 < cLine) : MtR X "list.count" rCountB := by
  intro pins s σ H x vs v us Q I rx rv h
  obtain ⟨l, bs, b, rfl, rfl, hl, q⟩ := h
  cases rx
  obtain ⟨u, rfl, ru⟩ := rv.one
  cases (show u = Value.bool b from ru)
  obtain ⟨its, n, r, hg, hz⟩ := I.lst hl
  obtain ⟨as, rs⟩ := reads_bl (h := s.heap) r
  refine PySem.SeqAt.count_list_data (l := l) (vs := its.toArray) (xs := bs.map PyData.bool) (x := .bool b) (d := .bool b) ⟨_, hg, rfl, n, rfl⟩ (by simpa using rs) (.bool b) (plain_bl bs) rfl ?_ ⟨.int ((bs.countP fun y => PyData.eqv (.bool y) (.bool b) : Nat) : Int), H, I.tok _, ⟨s.toks, by rw [List.countP_map]; rfl⟩, q⟩
  have : (PyData.bool b).depth = 0 := by rw [PyData.depth]
  rw [this, Nat.min_zero]
  omega
end
end HF
set_option maxRecDepth 100000
set_option maxHeartbeats 2000000
namespace HF
open PySem PySem.Spec PyProof.Rows L2
/-- x(..), x a class whose __init__ may raise; what it asks of the errors goes by the names' values -/
def tMakeS (C : Addr) (sp : Sp) (E : L2.St → XK) (t : TA) : TE := fun σ H Q => t σ H fun vs H1 => ∀ x dx, H1 x = none → H1 dx = none → dx ≠ x → sp (.ref x :: vs) (L2.upd (L2.upd H1 dx (.own x)) x (.ins C dx [])) (fun v H2 => v = .non ∧ Q (.ref x) H2) (E σ)
section
variable {X : Cx} {CX : CXT} {k : Nat} {f C : Addr} {fd : FuncData} {ps : List Str} {sp : Sp} {x : Str} {p pos : Pos} {e : Expr} {es : List Expr} {t : TA}
theorem made_s {pins : List (Addr × Obj)} {σ : L2.St} {H : Hp} {s : Shared} {Q : VK} {E : XK} {us : List Value} {vs : List V} (M : Mk X.K C f) (F : FnOk X.prog X.w X.K X.mg X.base CX k f fd ps sp) (hr : Room (k + 1) X.A) (hb : Binds X.K fd ps []) (hx : PassesAt CX X σ E)
    (I : Inv X pins σ H s) (r : Vals vs us) (h : ∀ x dx, H x = none → H dx = none → dx ≠ x → sp (.ref x :: vs) (L2.upd (L2.upd H dx (.own x)) x (.ins C dx [])) (fun v H2 => v = .non ∧ Q (.ref x) H2) E) :
    wpAny (model X.prog X.w) X.A (call (.ref C) us) (EP X pins σ Q) X.xe s := by
  have n0 : s.heap.objs.size ≤ s.heap.objs.size + 1 := Nat.le_succ _
  have told := h (s.heap.objs.size + 1) s.heap.objs.size (I.hok.fresh n0) (I.hok.fresh (Nat.le_refl _)) (Nat.ne_of_lt (Nat.lt_succ_self _))
  have J := Inv.made (C := C) I
  have rr : Vals (V.ref (s.heap.objs.size + 1) :: vs) (Value.ref (s.heap.objs.size + 1) :: us) := .cons rfl r
  have ln : (Value.ref (s.heap.objs.size + 1) :: us).length = ps.length := by rw [← rr.length]; exact F.len _ _ _ _ told
  have hb2 := hb _ (Value.ref (s.heap.objs.size + 1) :: us) J.kIn (by simpa using ln)
  rw [List.append_nil] at hb2
  have go := F.run _ X.stack _ _ ⟨Value.ref (s.heap.objs.size + 1) :: us, []⟩ (Value.ref (s.heap.objs.size + 1) :: us) _ _ E (hr.make C us []) (J.env0.make C us []) hb2 rr told
  refine wpAny_call (make_map (f := f) I.kIn M.makes M.init (beq_iff_eq.mp M.fn) (codeAny_mono go fun r s' got => ?_))
  cases r with
  | error z => exact hx pins _ _ z s' J got
  | ok fl =>
    cases fl with
    | ret u =>
      obtain ⟨v, H', J3, rv, ev, q3⟩ := J.after got
      subst ev
      exact ⟨rv, V.ref (s.heap.objs.size + 1), H', J3, rfl, q3⟩
    | next => exact got.elim
    | brk => exact got.elim
    | cont => exact got.elim
theorem pe_makeS {E : L2.St → XK} (M : Mk X.K C f) (F : FnOk X.prog X.w X.K X.mg X.base CX k f fd ps sp) (hr : Room (k + 1) X.A) (hg : Gl X x) (hm : X.mg x = some (.ref C)) (hb : Binds X.K fd ps []) (hx : ∀ σ, PassesAt CX X σ (E σ)) (ha : PA X (e :: es) t)
    (h1 : (x == ("__debug__" : Str)) = false := by decide) (h2 : starEach (e :: es) X.env = (false, eval e X.env) :: starEach es X.env := by rfl) (h3 : (backTo pos (starEach es X.env)).any (·.1) = false := by rfl) : PE X (.Call (.Name x p) (e :: es) [] pos) (tMakeS C sp E t) := by
  refine ⟨fun pins s σ H Q I h => wpAny_Call_Name_kw (ld_glob I hg hm ?_ h1)⟩
  exact PySem.W.callWith_K (h₀ := X.base) I.ok.mod.kin M.kp (thn (ha.run pos pins s σ H _ I h) fun us s1 ⟨vs, H1, I1, r, q⟩ => ⟨I1.kIn, made_s M F hr hb (hx σ) I1 r q⟩) h2 h3
theorem pe_hcx {W : WX} (h : HasC X.prog X.w X.K X.mg X.base (L2.CX X.prog X.w) k x C ps sp) (hr : Room (k + 1) X.A) (tk : Takes X W) (ha : PA X (e :: es) t) (hg : Gl X x := by rfl)
    (h1 : (x == ("__debug__" : Str)) = false := by decide) (h2 : starEach (e :: es) X.env = (false, eval e X.env) :: starEach es X.env := by rfl) (h3 : (backTo pos (starEach es X.env)).any (·.1) = false := by rfl) : PE X (.Call (.Name x p) (e :: es) [] pos) (tMakeS C sp (WE W) t) := by
  obtain ⟨f, fd, m, b, d⟩ := h.ex
  exact pe_makeS m d hr hg h.mg_ b (fun σ => passAt tk σ) ha h1 h2 h3
end
end HF
set_option maxRecDepth 100000
set_option maxHeartbeats 1000000
namespace HF
open PySem L2 Evl
def spHeard (K : PySem.W.Frag) : Sp := fun vs H Q _ => ∃ (v tv : V), vs = [v, tv] ∧
  ((Badw K H v ∧ ∀ p H', Ex H H' → H' p = some (.tup [.str "words", v]) → Q (.ref p) H') ∨
   ∃ (q : Addr) (ts : List Str) (n : Int), v = .ref q ∧ Goodw H q ts ∧ ((IsTy K H tv "str" false ∧ n = 0) ∨ ∃ text, tv = .str text ∧ text.length ≤ 3900 ∧ readUnit ts text = .inl n) ∧ ∀ p H', Ex H H' → H' p = some (.tup [.str "unit", .int n]) → Q (.ref p) H')
structure TxHeard (K : PySem.W.Frag) (mg : Str → Option Value) (CH CS CW CB : Addr) : Prop where
  hung : mg "HungError" = some (.ref CH)
  units : mg "BadUnits" = some (.ref CS)
  verr : mg "ValueError" = none
  exW : PySem.W.exmOne K (.ref CW) (.ref CH) = some true
  exB : PySem.W.exmOne K (.ref CB) (.ref CH) = some true
  ecW : ExcC K CW
  ecB : ExcC K CB
  xfW : XfC K CW
  xfB : XfC K CB
  kWW : PySem.W.kitOne K (.ref CW) (.ref CW) = some true
  kWB : PySem.W.kitOne K (.ref CW) (.ref CB) = some false
  kWS : PySem.W.kitOne K (.ref CW) (.ref CS) = some false
  kWV : PySem.W.kitOne K (.ref CW) (.type "ValueError") = some true
  kBW : PySem.W.kitOne K (.ref CB) (.ref CW) = some false
  kBB : PySem.W.kitOne K (.ref CB) (.ref CB) = some true
  kBS : PySem.W.kitOne K (.ref CB) (.ref CS) = some false
  kBV : PySem.W.kitOne K (.ref CB) (.type "ValueError") = some true
section
variable {K : PySem.W.Frag} {σ : L2.St} {H : Hp} {te : TE}
theorem ev_isK {a D dd : Addr} {fs : List (Str × V)} {c : V} {cv : Value} {b : Bool} (h : Ev te σ H (.ref a)) (h1 : H a = some (ExK (.ref D) (some dd) a)) (h2 : H dd = some (.xd fs)) (C : ExcC K D) (hc : ∀ u, RelV c u → u = cv) (k : PySem.W.kitOne K (.ref D) cv = some b) :
    Ev (tCB (rIsK2 K) (tCons te (tCons (tC c) tNil))) σ H (.bl b) := fun H1 e Q q => h H1 e _ fun H2 e2 => ⟨a, D, dd, fs, c, cv, b, rfl, (e.trans e2) _ _ h1, (e.trans e2) _ _ h2, C, hc, k, q H2 e2⟩
theorem ev_xk {a C dd : Addr} {fs : List (Str × V)} {f : Str} {v : V} (h : Ev te σ H (.ref a)) (h1 : H a = some (ExK (.ref C) (some dd) a)) (h2 : H dd = some (.xd fs)) (l : fs.lookup f = some v) : Ev (tXk C f te) σ H v := fun H1 e Q q => h H1 e _ fun H2 e2 => ⟨a, dd, fs, v, rfl, (e.trans e2) _ _ h1, (e.trans e2) _ _ h2, l, q H2 e2⟩
theorem ev_ixB {l : Addr} {xs : List V} {v : V} {n : Nat} (h : Ev te σ H (.ref l)) (hl : H l = some (.lst xs)) (hn : xs[n]? = some v) : Ev (tOp (rIxL K) te (tC (.int (n : Int)))) σ H v := fun H1 e Q q => h H1 e _ fun H2 e2 => ⟨l, xs, (n : Int), v, rfl, rfl, sq_of ((e.trans e2) _ _ hl), atI_nat hn, q H2 e2⟩
theorem ev_countB {l : Addr} {bs : List Bool} {b : Bool} {n : Int} (h : Ev te σ H (.ref l)) (hl : H l = some (.lst (bs.map V.bl))) (hn : ((bs.countP fun y => PyData.eqv (.bool y) (.bool b) : Nat) : Int) = n) : Ev (tBM K "list" rCountB te (tCons (tC (.bl b)) tNil)) σ H (.int n) := fun H1 e Q q => h H1 e _ fun H2 e2 => by
  have h2 := (e.trans e2) _ _ hl
  exact ⟨Or.inl ⟨rfl, _, sq_of h2⟩, l, bs, b, rfl, rfl, h2, by rw [hn]; exact q H2 e2⟩
theorem ev_isNo {a : Addr} (h : Ev te σ H (.ref a)) : Ev (tOp (fun x y H Q => y = .non ∧ Q (.bl (decide (x = .non))) H) te (tC .non)) σ H (.bl false) := fun H1 e Q q => h H1 e _ fun H2 e2 => ⟨rfl, by rw [decide_eq_false (fun z => by cases z)]; exact q H2 e2⟩
theorem rel_ref {c : Addr} : ∀ u, RelV (.ref c) u → u = Value.ref c := fun _ h => h
theorem rel_ty {t : String} : ∀ u, RelV (.ty t) u → u = Value.type t := fun _ h => h
end
/-- what stands behind the try: the error that was caught -/
def HeardM (CW CB : Addr) (v tv : V) (Q : VK) : L2.St → Hp → Prop := fun σ' H' => ∃ (a d C0 : Addr) (f lab : Str) (x : V), σ' = [some v, some tv, some (.ref a), none, none] ∧ H' a = some (ExK (.ref C0) (some d) a) ∧ H' d = some (.xd [(f, x)]) ∧
  ((C0 = CW ∧ f = "value" ∧ lab = "words") ∨ (C0 = CB ∧ f = "line" ∧ lab = "unit")) ∧ ∀ p H'', Ex H' H'' → H'' p = some (.tup [.str lab, x]) → Q (.ref p) H''
section
variable {P : Program} {w : World} {K : PySem.W.Frag} {mg : Str → Option Value} {base : Heap} {C CR CF CW CB CU CH CS : Addr}
end
end HF
set_option maxRecDepth 100000
set_option maxHeartbeats 1000000
namespace HF
open PySem PySem.Spec PyProof.Rows L2 Evl
/-! ### calls by keywords alone -/
theorem kbn_of {K : PySem.W.Frag} {x qual : Str} {st : Stmt} {f : Addr} {fd : FuncData} {ps : List Str} {n : Nat} {ks : List Str} (g : {α : Type} → List α → List α → List α) (F : Fun K x qual st f fd)
    (rel : ∀ {vs zs : List V} {us ws : List Value}, Vals vs us → Vals zs ws → Vals (g vs zs) (g us ws))
    (h : ∀ (kV doc pm : Value) (an : Option Addr) (cdv ct : Value) (us ws : List Value), us.length = n → ws.length = ks.length → bindArgs (PySem.W.fnOf x qual (defArgs st) (defBody st) (defScope st) .none kV doc pm an cdv ct) ⟨us, ks.zip ws⟩ = pure (ps.zip (g us ws))) :
    KBn K fd ps n ks (fun us ws => g us ws) (fun vs zs => g vs zs) := by
  obtain ⟨oc, od, kV, doc, pm, an, cdv, ct, osl, rfl, lk, hcd⟩ := F.ex
  exact ⟨fun s us ws _ l1 l2 => BindsTo.of_eq (h kV doc pm an cdv ct us ws l1 l2), fun r1 r2 => rel r1 r2⟩
section
variable {X : Cx} {CX : CXT} {k : Nat} {f : Addr} {fd : FuncData} {ps ks : List Str} {sp : Sp} {E : XK} {x : Str} {p pos : Pos} {kws : List Keyword} {tk : TA} {g : List Value → List Value → List Value} {gV : List V → List V → List V}
/-- x(k = v, ..), x a def of the module -/
theorem pe_callK0 (F : FnOk X.prog X.w X.K X.mg X.base CX k f fd ps sp) (hr : Room k X.A) (hg : Gl X x) (hm : X.mg x = some (.ref f)) (hk : PySem.W.keepIn X.K (.ref f) = true) (hb : KBn X.K fd ps 0 ks g gV) (hx : Passes CX X E) (hw : PK X kws tk)
    (h1 : (backToKw pos (keywordEach kws X.env)).all (·.1.isSome) = true := by rfl) (h2 : (backToKw pos (keywordEach kws X.env)).filterMap (·.1) = ks := by rfl) (h3 : (x == ("__debug__" : Str)) = false := by decide)
    (h4 : ((backTo pos (starEach [] X.env)).any (·.1) || (backToKw pos (keywordEach kws X.env)).any (·.1.isNone)) = false := by rfl) :
    PE X (.Call (.Name x p) [] kws pos) (tCallN 0 ks.length sp gV E tNil tk) := by
  refine ⟨fun pins s σ H Q I h => wpAny_Call_Name_kw (ld_glob I hg hm (PySem.W.callWith_KW0 (h₀ := X.base) I.ok.mod.kin hk h1 (thn (hw.run pos pins s σ H _ I h) fun ws s2 got => ?_) h4) h3)⟩
  obtain ⟨zs, H2, I2, rz, _, l2, q2⟩ := got
  refine ⟨I2.kIn, ?_⟩
  rw [h2]
  exact run_fnN (us := []) (vs := []) F hr hb hx I2 .nil rz rfl l2 q2
/-- errors may leave, but none does -/
theorem pass_cx {X : Cx} : Passes (L2.CX X.prog X.w) X E0 := fun pins σ H s e s' I h => by
  have tk : Takes { X with xe := fun _ _ => False } (fun _ _ _ _ => False) := fun u s' z => by
    obtain ⟨_, _, _, _, _, _, _, _, _, _, _, _, _, _, _, _, w⟩ := z
    exact w
  exact (passAt (X := { X with xe := fun _ _ => False }) tk σ pins H s e s' (I.wish _) h).elim
end
/-! ### two units alike -/
def RUnit (CU : Addr) : Addr → Addr → Hp → Prop := fun x y H => ∃ (dx dy : Addr) (fs gs : List (Str × V)) (q q2 : Addr) (ts : List Str) (t : Str), H x = some (.ins CU dx fs) ∧ H y = some (.ins CU dy gs) ∧
  fs.lookup ("words" : Str) = some (.ref q) ∧ gs.lookup ("words" : Str) = some (.ref q2) ∧ fs.lookup ("text" : Str) = some (.str t) ∧ gs.lookup ("text" : Str) = some (.str t) ∧ H q = some (.tup (strsV ts)) ∧ H q2 = some (.tup (strsV ts)) ∧ okS ts = true
section
variable {X : Cx} {CU : Addr}
theorem op_unitEq (h : HasM X.prog X.w X.K X.mg X.base CX0 1 CU "__eq__" ["self", "other"] (spUEq CU)) (hr : Room 1 X.A) : OpR X (compareOp .Eq) (rEqG (DIns CU (RUnit CU))) := by
  obtain ⟨f, fd, G, b, F⟩ := h.ex
  have F2 := F.imp (sp' := spEq (RUnit CU)) fun vs H Q E z => by
    obtain ⟨a, c, rfl, ⟨dx, dy, fs, gs, q, q2, ts, t, h1, h2, w1, w2, t1, t2, h3, h4, ok⟩, k⟩ := z
    refine ⟨a, c, dx, dy, fs, gs, q, q2, ts, ts, t, t, rfl, h1, h2, w1, w2, t1, t2, h3, h4, ok, ok, fun H1 e => ?_⟩
    rw [eqv_tup ok, decide_eq_true rfl]
    exact k H1 e
  exact op_eqG (rcG_ins (E := E0) F2 G.at_ G.fn b pass0) hr
end
end HF
set_option maxRecDepth 100000
set_option maxHeartbeats 1000000
namespace HF
open PySem L2 Evl
/-! ### the texts of the law, read with the words that it draws -/
def goodW : List Str := ["ON", "OFF", "A", "AB", "ABCDEF", "Z", "NON", "BADD"]
def isLeft {α β : Type} : α ⊕ β → Bool
  | .inl _ => true
  | _ => false
def allTs : List (List Str) := (goodW.map fun a => [a]) ++ (goodW.flatMap fun a => goodW.map fun b => [a, b]) ++ (goodW.flatMap fun a => goodW.flatMap fun b => goodW.map fun c => [a, b, c])
def unitText (ts : List Str) : Str := ("unit k\ncell c " ++ ts.getD 0 "" ++ "\nopen f p\nif p is ") ++ ts.getD (ts.length - 1) "" ++ "\nraise BAD\nend\ngive NONE\nend"
def wrongS : List Str := ["", "unit", "unit k\nopen f\nshow p\nend", "unit k\nopen f\nshow UP\nend", "unit k\nopen f"]
/-- the reading, over the words of the lines -/
def readT : Ah → Nat → List (List Str) → Int ⊕ Ah
  | s, _, [] => .inr s
  | s, k, t :: rest => if (takeLine s ((k : Int) + 1) t).1 = true then readT (takeLine s ((k : Int) + 1) t).2 (k + 1) rest else .inl ((k : Int) + 1)
theorem readT_of : ∀ (s : Ah) (k : Nat) (ls : List Str), readAll s k ls = readT s k (ls.map lineWs)
  | _, _, [] => rfl
  | s, k, t :: rest => by
    show (if (takeLine s ((k : Int) + 1) (lineWs t)).1 = true then readAll (takeLine s ((k : Int) + 1) (lineWs t)).2 (k + 1) rest else .inl ((k : Int) + 1)) = if (takeLine s ((k : Int) + 1) (lineWs t)).1 = true then readT (takeLine s ((k : Int) + 1) (lineWs t)).2 (k + 1) (rest.map lineWs) else .inl ((k : Int) + 1)
    rw [readT_of _ (k + 1) rest]
def endT (n : Nat) (r : Int ⊕ Ah) : Int ⊕ Ah := match r with
  | .inl n => .inl n
  | .inr s => if (s.opn || s.funs.isEmpty) = true then .inl ((n : Int) + 1) else if (wrongLine s.funs != 0) = true then .inl (wrongLine s.funs) else .inr s
theorem readUnit_of {ws : List Str} {text : Str} {tk : List (List Str)} (h : (linesOf text).map lineWs = tk) : readUnit ws text = endT tk.length (readT (initAh ws) 0 tk) := by
  subst h
  unfold readUnit endT
  rw [readT_of, List.length_map]
  all_goals rfl
def toks (a b : Str) : List (List Str) := [["unit", "k"], ["cell", "c", a], ["open", "f", "p"], ["if", "p", "is", b], ["raise", "BAD"], ["end"], ["give", "NONE"], ["end"]]
def uLines (a b : Str) : List Str := ["unit k", "cell c " ++ a, "open f p", "if p is " ++ b, "raise BAD", "end", "give NONE", "end"]
theorem join_lines (a b : Str) : ("unit k\ncell c " ++ a ++ "\nopen f p\nif p is ") ++ b ++ "\nraise BAD\nend\ngive NONE\nend" = Txt.join "\n" (uLines a b) := by
  have l1 : TL.tl "unit k\ncell c " = TL.tl "unit k" ++ (TL.tl "\n" ++ TL.tl "cell c ") := by decide +kernel
  have l2 : TL.tl "\nopen f p\nif p is " = TL.tl "\n" ++ (TL.tl "open f p" ++ (TL.tl "\n" ++ TL.tl "if p is ")) := by decide +kernel
  have l3 : TL.tl "\nraise BAD\nend\ngive NONE\nend" = TL.tl "\n" ++ (TL.tl "raise BAD" ++ (TL.tl "\n" ++ (TL.tl "end" ++ (TL.tl "\n" ++ (TL.tl "give NONE" ++ (TL.tl "\n" ++ TL.tl "end")))))) := by decide +kernel
  refine TL.ext_tl ?_
  rw [TL.join_eq, TL.tl_join]
  show _ = TL.tl "unit k" ++ (TL.tl "\n" ++ (TL.tl ("cell c " ++ a) ++ (TL.tl "\n" ++ (TL.tl "open f p" ++ (TL.tl "\n" ++ (TL.tl ("if p is " ++ b) ++ (TL.tl "\n" ++ (TL.tl "raise BAD" ++ (TL.tl "\n" ++ (TL.tl "end" ++ (TL.tl "\n" ++ (TL.tl "give NONE" ++ (TL.tl "\n" ++ TL.tl "end")))))))))))))
  simp only [TL.tl_append, l1, l2, l3, List.append_assoc]
theorem lines_free : ∀ a ∈ goodW, ∀ b ∈ goodW, ∀ p ∈ uLines a b, 10 ∉ TL.tl p := by decide +kernel
theorem words_cell : ∀ a ∈ goodW, lineWs ("cell c " ++ a) = (["cell", "c", a] : List Str) := by decide +kernel
theorem words_if : ∀ a ∈ goodW, lineWs ("if p is " ++ a) = (["if", "p", "is", a] : List Str) := by decide +kernel
theorem words_rest : lineWs "unit k" = (["unit", "k"] : List Str) ∧ lineWs "open f p" = (["open", "f", "p"] : List Str) ∧ lineWs "raise BAD" = (["raise", "BAD"] : List Str) ∧ lineWs "end" = (["end"] : List Str) ∧ lineWs "give NONE" = (["give", "NONE"] : List Str) := by decide +kernel
theorem toks_of {a b : Str} (ha : a ∈ goodW) (hb : b ∈ goodW) : (linesOf (("unit k\ncell c " ++ a ++ "\nopen f p\nif p is ") ++ b ++ "\nraise BAD\nend\ngive NONE\nend")).map lineWs = toks a b := by
  rw [join_lines a b]
  unfold linesOf
  rw [TL.split_join (s := 10) (S := []) (by decide +kernel) (by decide +kernel) (by unfold uLines; simp) (lines_free a ha b hb)]
  obtain ⟨w1, w2, w3, w4, w5⟩ := words_rest
  show [lineWs "unit k", lineWs ("cell c " ++ a), lineWs "open f p", lineWs ("if p is " ++ b), lineWs "raise BAD", lineWs "end", lineWs "give NONE", lineWs "end"] = _
  rw [words_cell a ha, words_if b hb, w1, w2, w3, w4, w5]
  rfl
theorem all_ends : ∀ ts ∈ allTs, ts.getD 0 "" ∈ goodW ∧ ts.getD (ts.length - 1) "" ∈ goodW := by decide +kernel
theorem read_toks : ∀ ts ∈ allTs, isLeft (endT 8 (readT (initAh ts) 0 (toks (ts.getD 0 "") (ts.getD (ts.length - 1) "")))) = false := by decide +kernel
theorem read_right : ∀ ts ∈ allTs, isLeft (readUnit ts (unitText ts)) = false := fun ts h => by
  obtain ⟨h1, h2⟩ := all_ends ts h
  unfold unitText
  rw [readUnit_of (toks_of h1 h2)]
  exact read_toks ts h
def wrongT : List (List (List Str)) := [[[""]], [["unit"]], [["unit", "k"], ["open", "f"], ["show", "p"], ["end"]], [["unit", "k"], ["open", "f"], ["show", "UP"], ["end"]], [["unit", "k"], ["open", "f"]]]
theorem wrong_toks : wrongS.map (fun t => (linesOf t).map lineWs) = wrongT := by decide +kernel
theorem read_wrongT : ∀ ts ∈ allTs, ∀ tk ∈ wrongT, isLeft (endT tk.length (readT (initAh ts) 0 tk)) = true := by decide +kernel
theorem read_wrong : ∀ ts ∈ allTs, ∀ t ∈ wrongS, isLeft (readUnit ts t) = true := fun ts h t ht => by
  rw [readUnit_of rfl]
  exact read_wrongT ts h _ (by rw [← wrong_toks]; exact List.mem_map_of_mem ht)
theorem text_small : ∀ a ∈ goodW, ∀ b ∈ goodW, (("unit k\ncell c " ++ a ++ "\nopen f p\nif p is ") ++ b ++ "\nraise BAD\nend\ngive NONE\nend" : Str).length ≤ 200 := by decide +kernel
theorem ok_all : ∀ ts ∈ allTs, okS ts = true := by decide +kernel
theorem in_good {w : Str} (h : w ∈ poolS) (h2 : isCapital w = true) (h3 : inS w ["NONE", "BAD"] = false) : w ∈ goodW := by
  have : ∀ w ∈ poolS, isCapital w = true → inS w ["NONE", "BAD"] = false → w ∈ goodW := by decide +kernel
  exact this w h h2 h3
theorem in_all {ts : List Str} (h : ∀ w ∈ ts, w ∈ poolS) (hw : wordsV (strsV ts) = true) : ts ∈ allTs := by
  rw [wordsV_strs, Bool.and_eq_true, Bool.and_eq_true, decide_eq_true_eq, decide_eq_true_eq] at hw
  obtain ⟨⟨h1, h2⟩, h3⟩ := hw
  have hg : ∀ w ∈ ts, w ∈ goodW := fun w hw => by
    unfold wordsS at h3
    rw [Bool.and_eq_true] at h3
    have := List.all_eq_true.mp h3.2 w hw
    rw [Bool.and_eq_true] at this
    exact in_good (h w hw) this.1 (by simpa using this.2)
  unfold allTs
  match ts, h1, h2, hg with
  | [a], _, _, hg => exact List.mem_append_left _ (List.mem_append_left _ (List.mem_map.mpr ⟨a, hg a (by simp), rfl⟩))
  | [a, b], _, _, hg => exact List.mem_append_left _ (List.mem_append_right _ (List.mem_flatMap.mpr ⟨a, hg a (by simp), List.mem_map.mpr ⟨b, hg b (by simp), rfl⟩⟩))
  | [a, b, c], _, _, hg => exact List.mem_append_right _ (List.mem_flatMap.mpr ⟨a, hg a (by simp), List.mem_flatMap.mpr ⟨b, hg b (by simp), List.mem_map.mpr ⟨c, hg c (by simp), rfl⟩⟩⟩)
  | [], h1, _, _ => simp at h1
  | _ :: _ :: _ :: _ :: r, _, h2, _ => simp only [List.length_cons] at h2; omega
theorem vals_rev : ∀ {vs : List V} {us : List Value}, Vals vs us → Vals vs.reverse us.reverse
  | [], _, r => by
    have r' : Vals [] _ := r
    cases r'
    exact .nil
  | v :: vs, _, r => by
    have r' : Vals (v :: vs) _ := r
    cases r' with
    | cons r1 r2 =>
      rw [List.reverse_cons, List.reverse_cons]
      exact (vals_rev r2).append (.cons r1 .nil)
/-- the unit that is made of words and a text that are right -/
theorem unit_sp {K : PySem.W.Frag} {C CR CF CW CB CU : Addr} {H : Hp} {x dx q : Addr} {ts : List Str} {text : Str} {s0 : Ah} {R : Hp → Prop} (hx : H x = none) (hdx : H dx = none) (hne : dx ≠ x) (hg : Goodw H q ts) (hz : text.length ≤ 3900) (hs : readUnit ts text = .inr s0)
    (k : ∀ H' gs, Ex H H' → UnitA CU CF CR H' x (.ref q) text s0 gs → R H') : spUnit K C CR CF CW CB CU [.ref x, .ref q, .str text] (L2.upd (L2.upd H dx (.own x)) x (.ins CU dx [])) (fun v H2 => v = .non ∧ R H2) E0 := by
  have e1 : Ex H (L2.upd (L2.upd H dx (.own x)) x (.ins CU dx [])) := fun b o h => by
    rw [upd_ne (ne_of_none h hx), upd_ne (ne_of_none h hdx)]
    exact h
  refine ⟨x, dx, .ref q, .str text, rfl, upd_same, Or.inr ⟨q, ts, rfl, hg.mono e1, Or.inr ⟨text, rfl, hz, (fun n hn => by rw [hs] at hn; cases hn), fun s hs2 H' gs kp _ hU => ⟨rfl, ?_⟩⟩⟩⟩
  rw [hs] at hs2
  cases hs2
  exact k H' gs (fun b o h => kp b o (ne_of_none h hx) (e1 b o h)) hU
theorem ev_addS {σ : L2.St} {H : Hp} {ta tb : TE} {a b : Str} (ha : Ev ta σ H (.str a)) (hb : Ev tb σ H (.str b)) (hz : a.length + b.length ≤ 100000) : Ev (tOp (fun x y H Q => ∃ i j, x = .str i ∧ y = .str j ∧ i.length + j.length ≤ sizeLine ∧ Q (.str (i ++ j)) H) ta tb) σ H (.str (a ++ b)) := fun H1 e Q q =>
  ha H1 e _ fun H2 e2 => hb H2 (e.trans e2) _ fun H3 e3 => ⟨a, b, rfl, rfl, sz_of hz, q H3 (e2.trans e3)⟩
def spUnitOf : Sp := fun vs H Q _ => ∃ (q : Addr) (ts : List Str), vs = [.ref q] ∧ Goodw H q ts ∧ ts ∈ allTs ∧ RetV (.bl true) H Q
end HF
set_option maxRecDepth 100000
set_option maxHeartbeats 1000000
namespace HF
open PySem L2 Evl
theorem ev_ixTs {K : PySem.W.Frag} {σ : L2.St} {H : Hp} {ta tb : TE} {q : Addr} {ts : List Str} {n : Nat} (h : Ev ta σ H (.ref q)) (hq : H q = some (.tup (strsV ts))) (hb : Ev tb σ H (.int (n : Int))) (hn : n < ts.length) : Ev (tOp (rIxT K) ta tb) σ H (.str (ts.getD n "")) := fun H1 e Q k =>
  h H1 e _ fun H2 e2 => hb H2 (e.trans e2) _ fun H3 e3 => ⟨q, strsV ts, (n : Int), .str (ts.getD n ""), rfl, rfl, st_of ((e.trans (e2.trans e3)) _ _ hq), atI_nat (by unfold strsV; rw [List.getElem?_map, List.getElem?_eq_getElem hn, List.getD_eq_getElem?_getD, List.getElem?_eq_getElem hn]; rfl), k H3 (e2.trans e3)⟩
theorem ev_subN {σ : L2.St} {H : Hp} {ta tb : TE} {m n : Nat} (ha : Ev ta σ H (.int (m : Int))) (hb : Ev tb σ H (.int (n : Int))) (h : n ≤ m) : Ev (tOp (rI0 fun i j => .int (i - j)) ta tb) σ H (.int ((m - n : Nat) : Int)) := by
  have e : ((m - n : Nat) : Int) = (m : Int) - (n : Int) := by omega
  rw [e]
  exact ev_op ha hb rv_I0
/-- a unit that stands, as == needs it -/
structure USt (CU : Addr) (H : Hp) (x q : Addr) (text : Str) : Prop where
  ex : ∃ dx fs, H x = some (.ins CU dx fs) ∧ fs.lookup ("words" : Str) = some (.ref q) ∧ fs.lookup ("text" : Str) = some (.str text)
theorem USt.of {CU CF CR : Addr} {H : Hp} {x q : Addr} {text : Str} {s : Ah} {gs : List FG} (h : UnitA CU CF CR H x (.ref q) text s gs) : USt CU H x q text := by
  obtain ⟨dx, l, c, f, o, a, m, h1, _⟩ := h.ex
  exact ⟨dx, _, h1, by kernel_rfl, by kernel_rfl⟩
theorem USt.mono {CU : Addr} {H H' : Hp} {x q : Addr} {text : Str} (e : Ex H H') (h : USt CU H x q text) : USt CU H' x q text := by
  obtain ⟨dx, fs, h1, h2, h3⟩ := h.ex
  exact ⟨dx, fs, e _ _ h1, h2, h3⟩
section
variable {P : Program} {w : World} {K : PySem.W.Frag} {mg : Str → Option Value} {base : Heap} {C CR CF CW CB CU : Addr}
end
end HF
set_option maxRecDepth 100000
set_option maxHeartbeats 1000000
namespace HF
open PySem L2 Evl
/-! ### the drawn values are small -/
structure Tidy (n : Nat) (d : PyData) : Prop where
  sh : d.showable = true
  dp : d.depth ≤ 10
  wt : d.weight ≤ n
  lf : d.leavesShort 100 = true
def tidyB (n : Nat) (d : PyData) : Bool := d.showable && decide (d.depth ≤ 8) && decide (d.weight ≤ n) && d.leavesShort 100
theorem tidy_of {n : Nat} {d : PyData} (h : tidyB n d = true) : Tidy n d := by
  unfold tidyB at h
  rw [Bool.and_eq_true, Bool.and_eq_true, Bool.and_eq_true, decide_eq_true_eq, decide_eq_true_eq] at h
  exact ⟨h.1.1.1, by omega, h.1.2, h.2⟩
theorem tidy_depth {n : Nat} {d : PyData} (h : tidyB n d = true) : d.depth ≤ 8 := by
  unfold tidyB at h
  rw [Bool.and_eq_true, Bool.and_eq_true, Bool.and_eq_true, decide_eq_true_eq, decide_eq_true_eq] at h
  exact h.1.1.2
theorem tidy_odd : ∀ d ∈ oddD, tidyB 60 d = true := by
  intro d hd
  unfold oddD at hd
  simp only [List.mem_cons, List.not_mem_nil, or_false] at hd
  rcases hd with rfl | rfl | rfl | rfl | rfl | rfl | rfl | rfl | rfl | rfl | rfl | rfl | rfl | rfl <;> decide +kernel
theorem tidy_pool : ∀ w ∈ poolS, tidyB 60 (.str w) = true := by decide +kernel
theorem tidy_all : ∀ {ds : List PyData}, (∀ o ∈ ds, tidyB 60 o = true) → PyData.showableAll ds = true ∧ PyData.depthAll ds ≤ 8 ∧ PyData.weightAll ds ≤ 61 * ds.length ∧ PyData.leavesShortAll 100 ds = true
  | [], _ => ⟨rfl, by simp [PyData.depthAll], by simp [PyData.weightAll], rfl⟩
  | o :: ds, h => by
    obtain ⟨h1, h2, h3, h4⟩ := tidy_all (ds := ds) fun x hx => h x (List.mem_cons_of_mem _ hx)
    have ho := tidy_of (h o List.mem_cons_self)
    have hd := tidy_depth (h o List.mem_cons_self)
    refine ⟨?_, ?_, ?_, ?_⟩
    · rw [PyData.showableAll, ho.sh, h1]; rfl
    · rw [PyData.depthAll]; omega
    · rw [PyData.weightAll, List.length_cons]; have := ho.wt; omega
    · rw [PyData.leavesShortAll, ho.lf, h4]; rfl
theorem tidy_list {n : Nat} {ds : List PyData} (h : ∀ o ∈ ds, tidyB 60 o = true) (hl : ds.length ≤ 4) : Tidy 244 (.list ds) ∧ Tidy 244 (.tuple ds) ∧ Tidy 245 (.tuple [.tuple ds]) := by
  obtain ⟨h1, h2, h3, h4⟩ := tidy_all h
  have w : PyData.weightAll ds ≤ 244 := by omega
  refine ⟨⟨by rw [PyData.showable]; exact h1, by rw [PyData.depth]; omega, by rw [PyData.weight]; exact w, by rw [PyData.leavesShort]; exact h4⟩, ⟨by rw [PyData.showable]; exact h1, by rw [PyData.depth]; omega, by rw [PyData.weight]; exact w, by rw [PyData.leavesShort]; exact h4⟩, ⟨?_, ?_, ?_, ?_⟩⟩
  · rw [PyData.showable, PyData.showableAll, PyData.showable, h1]; rfl
  · rw [PyData.depth, PyData.depthAll, PyData.depth, PyData.depthAll]; omega
  · rw [PyData.weight, PyData.weightAll, PyData.weight, PyData.weightAll]; omega
  · rw [PyData.leavesShort, PyData.leavesShortAll, PyData.leavesShort, h4]; rfl
theorem join_in : ∀ {L : List (List Nat)} {c : Nat}, c ∈ TL.joinL [] L → ∃ l ∈ L, c ∈ l
  | [], _, h => by cases h
  | [p], _, h => ⟨p, List.mem_singleton.mpr rfl, h⟩
  | p :: q :: r, c, h => by
    have h' : c ∈ p ++ ([] ++ TL.joinL [] (q :: r)) := h
    rcases List.mem_append.mp h' with z | z
    · exact ⟨p, List.mem_cons_self, z⟩
    · obtain ⟨l, hl, hc⟩ := join_in (L := q :: r) (by simpa using z)
      exact ⟨l, List.mem_cons_of_mem _ hl, hc⟩
theorem join_len : ∀ {L : List (List Nat)}, (∀ l ∈ L, l.length ≤ 7) → (TL.joinL [] L).length ≤ 7 * L.length
  | [], _ => Nat.zero_le _
  | [p], h => h p (List.mem_singleton.mpr rfl)
  | p :: q :: r, h => by
    show (p ++ ([] ++ TL.joinL [] (q :: r))).length ≤ _
    have h1 := h p List.mem_cons_self
    have h2 := join_len (L := q :: r) fun x hx => h x (List.mem_cons_of_mem _ hx)
    rw [List.nil_append, List.length_append, List.length_cons]
    omega
theorem tidy_join {ws : List Str} (h : ∀ w ∈ ws, w ∈ poolS) (hl : ws.length ≤ 4) : Tidy 60 (.str (Txt.join "" ws)) := by
  have e : TL.tl (Txt.join "" ws) = TL.joinL [] (ws.map TL.tl) := by
    rw [TL.join_eq, TL.tl_join]
    rfl
  have sm : ∀ w ∈ poolS, (TL.tl w).length ≤ 7 ∧ ∀ c ∈ TL.tl w, c < 256 := by decide +kernel
  have hlen : (TL.joinL [] (ws.map TL.tl)).length ≤ 28 := by
    have := join_len (L := ws.map TL.tl) fun l hl2 => by
      obtain ⟨w, hw, rfl⟩ := List.mem_map.mp hl2
      exact (sm w (h w hw)).1
    rw [List.length_map] at this
    omega
  refine ⟨rfl, by rw [PyData.depth]; omega, ?_, ?_⟩
  · rw [PyData.weight]
    have e2 : (Txt.join "" ws).cps.size = (TL.tl (Txt.join "" ws)).length := by unfold TL.tl; rw [Array.length_toList]
    rw [e2, e]
    omega
  · rw [PyData.leavesShort, List.all_eq_true]
    intro c hc
    have hc2 : c ∈ TL.tl (Txt.join "" ws) := hc
    rw [e] at hc2
    obtain ⟨l, hl2, hcl⟩ := join_in hc2
    obtain ⟨w, hw, rfl⟩ := List.mem_map.mp hl2
    have := (sm w (h w hw)).2 c hcl
    rw [decide_eq_true_eq]
    have e16 : (16 : Nat) ^ 8 = 4294967296 := by decide
    omega
theorem Tidy.le {n m : Nat} {d : PyData} (h : Tidy n d) (e : n ≤ m) : Tidy m d := ⟨h.sh, h.dp, Nat.le_trans h.wt e, h.lf⟩
/-- what the law knows of a drawn value -/
structure Thing (d : PyData) : Prop where
  td : Tidy 300 d
  tp : ∀ ds, d = .tuple ds → ds.length ≤ 4 ∧ ∀ t, PyData.str t ∈ ds → t ∈ poolS
theorem thing_odd {d : PyData} (h : d ∈ oddD) : Thing d := by
  refine ⟨(tidy_of (tidy_odd d h)).le (by decide), fun ds e => ?_⟩
  subst e
  unfold oddD at h
  simp only [List.mem_cons, List.not_mem_nil, or_false, PyData.tuple.injEq, reduceCtorEq, false_or] at h
  rcases h with rfl | rfl | rfl
  · exact ⟨by decide, fun t ht => by cases ht⟩
  · refine ⟨by decide, fun t ht => ?_⟩
    simp only [List.mem_cons, List.not_mem_nil, or_false, PyData.str.injEq, reduceCtorEq] at ht
    subst ht
    decide +kernel
  · refine ⟨by decide, fun t ht => ?_⟩
    simp only [List.mem_cons, List.not_mem_nil, or_false, reduceCtorEq] at ht
theorem odd_str : ∀ d ∈ oddD, ∀ t, d = .str t → t ∈ poolS := by
  intro d hd t e
  subst e
  unfold oddD at hd
  simp only [List.mem_cons, List.not_mem_nil, or_false, PyData.str.injEq, reduceCtorEq, false_or] at hd
  rcases hd with rfl | rfl <;> decide +kernel
theorem pool_items {ws : List Str} (h : ∀ w ∈ ws, w ∈ poolS) : ∀ o ∈ ws.map PyData.str, tidyB 60 o = true := fun o ho => by
  obtain ⟨w, hw, rfl⟩ := List.mem_map.mp ho
  exact tidy_pool w (h w hw)
theorem pool_strs {ws : List Str} (h : ∀ w ∈ ws, w ∈ poolS) : ∀ t, PyData.str t ∈ ws.map PyData.str → t ∈ poolS := fun t ht => by
  obtain ⟨w, hw, e⟩ := List.mem_map.mp ht
  rw [← PyData.str.inj e]
  exact h w hw
theorem thing_drawn {d : PyData} (h : DrawnD d) : Thing d := by
  obtain ⟨ws, wl, wp, h⟩ := h
  have l0 : (ws.map PyData.str).length ≤ 4 := by rw [List.length_map]; exact wl
  rcases h with rfl | rfl | ⟨j, o, ho, rfl⟩ | rfl | rfl
  · exact ⟨(tidy_list (n := 0) (pool_items wp) l0).1.le (by decide), fun ds e => by cases e⟩
  · exact ⟨(tidy_list (n := 0) (pool_items wp) l0).2.1.le (by decide), fun ds e => by cases e; exact ⟨l0, pool_strs wp⟩⟩
  · have l1 : ((ws.map PyData.str).set j o).length ≤ 4 := by rw [List.length_set]; exact l0
    refine ⟨(tidy_list (n := 0) (fun x hx => ?_) l1).2.1.le (by decide), fun ds e => ?_⟩
    · rcases List.mem_or_eq_of_mem_set hx with z | z
      · exact pool_items wp x z
      · rw [z]; exact tidy_odd o ho
    · cases e
      refine ⟨l1, fun t ht => ?_⟩
      rcases List.mem_or_eq_of_mem_set ht with z | z
      · exact pool_strs wp t z
      · exact odd_str o ho t z.symm
  · exact ⟨(tidy_list (n := 0) (pool_items wp) l0).2.2.le (by decide), fun ds e => by
      cases e
      refine ⟨by show 1 ≤ 4; decide, fun t ht => ?_⟩
      simp only [List.mem_cons, List.not_mem_nil, or_false, reduceCtorEq] at ht⟩
  · exact ⟨(tidy_join wp wl).le (by decide), fun ds e => by cases e⟩
/-! ### what is_words and Unit say of them -/
section
variable {K : PySem.W.Frag} {H : Hp}
theorem rd_ty {v : V} {d : PyData} (h : RdD H v d) : IsTy K H v "str" (isStrV v) ∧ ((∃ q xs ds, v = .ref q ∧ d = .tuple ds ∧ H q = some (.tup xs) ∧ RdDs H xs ds) ∨ IsTy K H v "tuple" false) := by
  cases h with
  | non => exact ⟨⟨.type "NoneType", .base .non, kit_ty (show kitB "NoneType" "str" = some false by decide +kernel)⟩, Or.inr ⟨.type "NoneType", .base .non, kit_ty (by decide +kernel)⟩⟩
  | bl b => exact ⟨⟨.type "bool", .base (.bl b), kit_ty (show kitB "bool" "str" = some false by decide +kernel)⟩, Or.inr ⟨.type "bool", .base (.bl b), kit_ty (by decide +kernel)⟩⟩
  | int i => exact ⟨⟨.type "int", .base (.int i), kit_ty (show kitB "int" "str" = some false by decide +kernel)⟩, Or.inr ⟨.type "int", .base (.int i), kit_ty (by decide +kernel)⟩⟩
  | str s => exact ⟨⟨.type "str", .base (.str s), kit_ty (show kitB "str" "str" = some true by decide +kernel)⟩, Or.inr ⟨.type "str", .base (.str s), kit_ty (by decide +kernel)⟩⟩
  | lst a r => exact ⟨⟨.type "list", .base (.lst a), kit_ty (show kitB "list" "str" = some false by decide +kernel)⟩, Or.inr ⟨.type "list", .base (.lst a), kit_ty (by decide +kernel)⟩⟩
  | tup a r => exact ⟨⟨.type "tuple", .base (.tup a), kit_ty (show kitB "tuple" "str" = some false by decide +kernel)⟩, Or.inl ⟨_, _, _, rfl, rfl, a, r⟩⟩
  | dct a r r2 => exact ⟨⟨.type "dict", .base (.dK a), kit_ty (show kitB "dict" "str" = some false by decide +kernel)⟩, Or.inr ⟨.type "dict", .base (.dK a), kit_ty (by decide +kernel)⟩⟩
theorem rds_mem : ∀ {xs : List V} {ds : List PyData}, RdDs H xs ds → ∀ x ∈ xs, ∃ d ∈ ds, RdD H x d
  | _, _, .nil, x, h => by cases h
  | _, _, .cons a t, x, h => by
    rcases List.mem_cons.mp h with rfl | h
    · exact ⟨_, List.mem_cons_self, a⟩
    · obtain ⟨d, hd, r⟩ := rds_mem t x h
      exact ⟨d, List.mem_cons_of_mem _ hd, r⟩
theorem wt_mem : ∀ {ds : List PyData} {d : PyData}, d ∈ ds → d.weight ≤ PyData.weightAll ds
  | [], _, h => by cases h
  | o :: ds, d, h => by
    rw [PyData.weightAll]
    rcases List.mem_cons.mp h with rfl | h
    · omega
    · have := wt_mem h
      omega
theorem rd_text {x : V} {d : PyData} (h : RdD H x d) (hw : d.weight ≤ 300) : (textOf x).length ≤ 60000 := by
  cases h with
  | str s =>
    rw [PyData.weight] at hw
    show s.cps.size ≤ 60000
    omega
  | _ => exact (by decide : (("" : Str)).length ≤ 60000)
theorem rds_strs : ∀ {ts : List Str} {ds : List PyData}, RdDs H (strsV ts) ds → ds = ts.map PyData.str
  | [], _, h => by
    have h' : RdDs H [] _ := h
    cases h'
    rfl
  | t :: ts, _, h => by
    have h' : RdDs H (V.str t :: strsV ts) _ := h
    cases h' with
    | cons a r =>
      cases a
      rw [rds_strs r]
      rfl
def toV : PyData → V
  | .str s => .str s
  | _ => .non
def wordsD : PyData → Bool
  | .tuple ds => wordsV (ds.map toV)
  | _ => false
theorem rd_toV {x : V} {d : PyData} (h : RdD H x d) : isStrV x = isStrV (toV d) ∧ textOf x = textOf (toV d) := by
  cases h <;> exact ⟨rfl, rfl⟩
theorem rds_toV : ∀ {xs : List V} {ds : List PyData}, RdDs H xs ds → xs.all isStrV = (ds.map toV).all isStrV ∧ xs.map textOf = (ds.map toV).map textOf
  | _, _, .nil => ⟨rfl, rfl⟩
  | _, _, .cons a t => by
    obtain ⟨h1, h2⟩ := rds_toV t
    obtain ⟨h3, h4⟩ := rd_toV a
    simp only [List.all_cons, List.map_cons, h1, h2, h3, h4]
    exact ⟨trivial, trivial⟩
theorem words_toV {xs : List V} {ds : List PyData} (h : RdDs H xs ds) : wordsV xs = wordsV (ds.map toV) := by
  obtain ⟨h1, h2⟩ := rds_toV h
  unfold wordsV
  rw [h1, h2, List.length_map, RdDs.len h]
theorem thing_words {v : V} {d : PyData} (h : RdD H v d) (t : Thing d) : (wordsD d = false ∧ Badw K H v) ∨ (wordsD d = true ∧ ∃ q ts, v = .ref q ∧ Goodw H q ts ∧ ts ∈ allTs) := by
  have hh := (rd_ty (K := K) h).2
  cases h with
  | tup hq r =>
    rename_i q xs ds
    obtain ⟨l4, hp⟩ := t.tp ds rfl
    have hl : xs.length = ds.length := RdDs.len r
    have ew : wordsD (.tuple ds) = wordsV xs := (words_toV r).symm
    cases hw : wordsV xs with
    | true =>
      right
      refine ⟨by rw [ew, hw], ?_⟩
      have hs : xs.all isStrV = true := by
        unfold wordsV at hw
        split at hw
        · cases hw
        · rename_i z
          cases y : xs.all isStrV with
          | true => rfl
          | false => rw [y, Bool.not_false, Bool.or_true] at z; exact absurd rfl z
      have e := texts_of hs
      generalize xs.map textOf = ts at e
      subst e
      have ed := rds_strs r
      subst ed
      refine ⟨q, ts, rfl, ⟨hq, hw⟩, in_all (fun w hw2 => hp w (List.mem_map_of_mem hw2)) hw⟩
    | false =>
      left
      refine ⟨by rw [ew, hw], Or.inr ⟨q, xs, rfl, hq, by omega, fun x hx => ?_, hw⟩⟩
      obtain ⟨d', hd, rx⟩ := rds_mem r x hx
      refine ⟨(rd_ty (K := K) rx).1, rd_text rx ?_⟩
      have w1 := t.td.wt
      rw [PyData.weight] at w1
      exact Nat.le_trans (wt_mem hd) w1
  | _ =>
    rcases hh with ⟨q, xs, ds, e1, e2, _⟩ | z
    · cases e2
    · exact Or.inl ⟨rfl, Or.inl z⟩
end
structure Tidy0 (d : PyData) : Prop where
  sh : d.showable = true
  dp : d.depth ≤ 40
  wt : d.weight ≤ 500
  lf : d.leavesShort 100 = true
theorem Tidy.z {n : Nat} {d : PyData} (h : Tidy n d) (e : n ≤ 500) : Tidy0 d := ⟨h.sh, Nat.le_trans h.dp (by decide), Nat.le_trans h.wt e, h.lf⟩
/-- repr of small data -/
theorem repr_at {H : Hp} {v : V} {d : PyData} {Q : VK} (h : RdD H v d) (t : Tidy0 d) (q : Q (.str d.shown) H) : rRepr [v] H Q := by
  refine ⟨v, d, rfl, h, t.sh, t.dp, ?_, fun i e => ?_, q⟩
  · have := PyData.shown_le 100 (by decide) d t.lf
    have w := t.wt
    omega
  · have := t.sh
    rw [e, PyData.showable, decide_eq_true_eq] at this
    exact this
end HF
set_option maxRecDepth 100000
set_option maxHeartbeats 2000000
namespace HF
open PySem PySem.Spec PyProof.Rows L2
/-! ### sets of a few tuples of ints and texts -/
/-- the tuple of such things at an address -/
abbrev Mt (Pg : Program) (W : World) (hp : Heap) (k : List Key) (p : Addr) : Prop := IsTupleKey (mixKind Pg W) hp k p
abbrev mh (Pg : Program) (W : World) (k : List Key) : Int := tupleKeyHash (mixKind Pg W) k
def leaf (v : Value) : Prop := (∃ i t, v = Value.int i t) ∨ ∃ z t, v = Value.str z t
section
variable {Pg : Program} {W : World} {A : Around} {E : Value → Shared → Prop} {s : Shared}
theorem leaf_of {k : Key} {v : Value} (h : (mixKind Pg W).is k v = true) : leaf v := by
  cases k with
  | inl i => exact Or.inl ⟨i, Value.isInt_shape h⟩
  | inr z => exact Or.inr ⟨z, Value.isStrOf_shape h⟩
theorem leaves {ks : List Key} {vs : List Value} (h : ItemsAre (mixKind Pg W) ks vs) : ∀ v ∈ vs, leaf v := by
  induction h with
  | nil => exact fun v z => by cases z
  | cons h1 _ ih => exact fun v z => (List.mem_cons.mp z).elim (fun e => by rw [e]; exact leaf_of h1) (ih v)
theorem leaf_cls {v : Value} (n : Nat) (h : leaf v) : ofAClassStatement n v = pure false := by
  rcases h with ⟨i, t, rfl⟩ | ⟨z, t, rfl⟩ <;> cases n <;> rfl
theorem leaf_val {v : Value} (n : Nat) (h : leaf v) : ∃ b, hashByValue n v = pure b := by
  rcases h with ⟨i, t, rfl⟩ | ⟨z, t, rfl⟩ <;> cases n <;> exact ⟨_, rfl⟩
theorem mt_cls {k : List Key} {p : Addr} {Q : Bool → Shared → Prop} (h : Mt Pg W s.heap k p) (q : Q false s) : wpAny (model Pg W) A (ofAClassStatement 8 (.ref p)) Q E s := by
  have ty := h.typeIs
  obtain ⟨ob, its, m, h1, _, h3, h4⟩ := h
  unfold ofAClassStatement
  refine wpAny_bind (wpAny_typeOf ty ?_)
  dsimp only
  rw [if_pos (show (("tuple" : String) == "tuple") = true by decide)]
  try refine wpAny_bind (wpAny_pure ?_)
  simp only [Bool.not_true, Bool.false_eq_true, if_false]
  show wpAny _ _ (seqItems? (.ref p) >>= _) _ _ s
  refine wpAny_bind (wpAny_seqItems h1 h3 ?_)
  dsimp only
  refine wpAny_bind ?_
  show wpAny _ _ (forIn its _ _) _ _ s
  rw [← Array.forIn_toList]
  refine wpAny_forIn_list _ (fun l r u => r.1 = none ∧ u = s ∧ ∀ v ∈ l, leaf v) _ (fun v l r u z => ?_) (fun r u z => ?_) _ _ ⟨rfl, rfl, leaves h4⟩
  · obtain ⟨z1, rfl, z2⟩ := z
    rw [leaf_cls _ (z2 v List.mem_cons_self)]
    refine wpAny_bind (wpAny_pure ?_)
    rw [if_neg Bool.false_ne_true]
    exact wpAny_pure ⟨rfl, rfl, fun y hy => z2 y (List.mem_cons_of_mem _ hy)⟩
  · obtain ⟨r1, r2⟩ := r
    obtain ⟨z1, rfl, _⟩ := z
    dsimp only at z1
    subst z1
    exact wpAny_pure q
theorem mt_val {k : List Key} {p : Addr} {Q : Bool → Shared → Prop} (h : Mt Pg W s.heap k p) (q : ∀ b, Q b s) : wpAny (model Pg W) A (hashByValue 8 (.ref p)) Q E s := by
  have ty := h.typeIs
  obtain ⟨ob, its, m, h1, _, h3, h4⟩ := h
  unfold hashByValue
  refine wpAny_bind (wpAny_specialOf ty F.slot_tuple_hash.lookup ?_)
  show wpAny _ _ (seqItems? (.ref p) >>= _) _ _ s
  refine wpAny_bind (wpAny_seqItems h1 h3 ?_)
  refine wpAny_bind ?_
  show wpAny _ _ (forIn its _ _) _ _ s
  rw [← Array.forIn_toList]
  refine wpAny_forIn_list _ (fun l r u => r.1 = none ∧ u = s ∧ ∀ v ∈ l, leaf v) _ (fun v l r u z => ?_) (fun r u z => ?_) _ _ ⟨rfl, rfl, leaves h4⟩
  · obtain ⟨z1, rfl, z2⟩ := z
    obtain ⟨b, e⟩ := leaf_val 7 (z2 v List.mem_cons_self)
    rw [e]
    refine wpAny_bind (wpAny_pure ?_)
    cases b with
    | true =>
      rw [if_neg (by decide)]
      exact wpAny_pure ⟨rfl, rfl, fun y hy => z2 y (List.mem_cons_of_mem _ hy)⟩
    | false =>
      rw [if_pos (by decide)]
      refine wpAny_pure ?_
      exact wpAny_pure (q false)
  · obtain ⟨r1, r2⟩ := r
    obtain ⟨z1, rfl, _⟩ := z
    dsimp only at z1
    subst z1
    exact wpAny_pure (q true)
end
end HF
set_option maxRecDepth 100000
set_option maxHeartbeats 2000000
namespace HF
open PySem PySem.Spec PyProof.Rows L2
section
variable {Pg : Program} {W : World} {A : Around} {E : Value → Shared → Prop} {s : Shared}
/-- nothing is seen of a search among such tuples -/
theorem mt_seen {k : List Key} {p : Addr} {Q : Bool → Shared → Prop} (h : Mt Pg W s.heap k p) {ys : List Value} (hy : ∀ y ∈ ys, ∃ k2 c, y = Value.ref c ∧ Mt Pg W s.heap k2 c) (q : Q false s) : wpAny (model Pg W) A (searchCouldBeSeen (.ref p) ys) Q E s := by
  unfold searchCouldBeSeen
  refine wpAny_bind ?_
  refine wpAny_forIn_list _ (fun l r u => r.1 = none ∧ u = s ∧ ∀ y ∈ l, ∃ k2 c, y = Value.ref c ∧ Mt Pg W s.heap k2 c) _ (fun v l r u z => ?_) (fun r u z => ?_) _ _ ⟨rfl, rfl, hy⟩
  · obtain ⟨z1, rfl, z2⟩ := z
    obtain ⟨k2, c, rfl, hc⟩ := z2 v List.mem_cons_self
    have go : ∀ y ∈ l, ∃ k2 c, y = Value.ref c ∧ Mt Pg W u.heap k2 c := fun y hy => z2 y (List.mem_cons_of_mem _ hy)
    dsimp only
    by_cases e : (p == c || (carriedByValue (.ref p) && carriedByValue (.ref c))) = true
    · exact wp_if_pos e (wpAny_pure ⟨rfl, rfl, go⟩)
    · refine wp_if_neg e (wpAny_bind (wpAny_eqIsQuiet_tuple h ?_))
      simp only [Bool.not_true, Bool.false_eq_true, if_false]
      refine wpAny_bind (wpAny_eqIsQuiet_tuple hc ?_)
      simp only [Bool.not_true, Bool.false_eq_true, if_false]
      refine wpAny_bind (mt_cls h ?_)
      simp only [Bool.false_eq_true, if_false]
      refine wpAny_bind (mt_cls hc ?_)
      simp only [Bool.false_eq_true, if_false]
      exact wpAny_pure ⟨rfl, rfl, go⟩
  · obtain ⟨r1, r2⟩ := r
    obtain ⟨z1, rfl, _⟩ := z
    dsimp only at z1
    subst z1
    exact wpAny_pure q
/-- a set of at most four of them -/
structure Few (Pg : Program) (W : World) (hp : Heap) (S : Addr) (L : List (Addr × List Key)) (es : Array (Int × Value)) (ep : Nat) (t : SetTable) : Prop where
  ob : ∃ o, hp.get? S = some o ∧ o.ExactSet ∧ o.data = .set es ep t
  row : es.toList = L.map fun p => (mh Pg W p.2, Value.ref p.1)
  tab : TabOk t (L.map fun p => mh Pg W p.2)
  mask : t.mask = 7
  one : (L.map Prod.snd).Nodup
  all : ∀ p ∈ L, Mt Pg W hp p.2 p.1
  led : W.params.followText "set-order" = true ∨ t.led = true
  few : L.length ≤ 4
variable {S : Addr} {L : List (Addr × List Key)} {es : Array (Int × Value)} {ep : Nat} {t : SetTable}
theorem Few.size (R : Few Pg W s.heap S L es ep t) : es.size = L.length := by rw [← Array.length_toList, R.row, List.length_map]
theorem Few.places (R : Few Pg W s.heap S L es ep t) : t.place.size = L.length := by rw [R.tab.sz, List.length_map]
theorem Few.fits (R : Few Pg W s.heap S L es ep t) : t.fits es.size = true := by
  have a1 := R.places
  have a2 := R.size
  have a3 := R.few
  have a4 := R.mask
  unfold SetTable.fits SetTable.fill
  rw [R.tab.dm, a1, a2, a4]
  simp
  omega
theorem Few.at_ (R : Few Pg W s.heap S L es ep t) {i : Nat} {p : Addr × List Key} (h : L[i]? = some p) : es[i]? = some (mh Pg W p.2, Value.ref p.1) := by
  rw [← Array.getElem?_toList, R.row, List.getElem?_map, h]
  rfl
/-- the probe at a step of the way -/
abbrev step7 (t : SetTable) (h : Int) (c : Nat) : SetTable.Probe := nth t.mask (runAt t.mask (SetTable.bits h % (t.mask + 1)) (SetTable.bits h)) c
theorem step7_no (t : SetTable) (h : Int) (c : Nat) : (step7 t h c).dummy = none := by
  have go : ∀ (n : Nat) (p : SetTable.Probe), p.dummy = none → (nth t.mask p n).dummy = none := fun n => by
    induction n with
    | zero => exact fun p z => z
    | succ n ih => exact fun p z => ih _ (by unfold adv; split <;> exact z)
  exact go c _ rfl
theorem step7_on (t : SetTable) (h : Int) (c d : Nat) : nth t.mask (step7 t h c) d = step7 t h (c + d) := (nth_add t.mask c _ d).symm
end
end HF
set_option maxRecDepth 100000
set_option maxHeartbeats 2000000
namespace HF
open PySem PySem.Spec PyProof.Rows L2
section
variable {Pg : Program} {W : World} {A : Around} {E : Value → Shared → Prop} {s : Shared} {S : Addr} {L : List (Addr × List Key)} {es : Array (Int × Value)} {ep : Nat} {t : SetTable}
/-- the search for x, which is added where it is not there; the first free place of its way is the N-th -/
theorem few_look (R : Few Pg W s.heap S L es ep t) {x : Addr} {k : List Key} (hx : Mt Pg W s.heap k x) (hu : A.units < cLine) {N : Nat} (hf : N < 10 * SetTable.turns t.mask)
    (hN : way t.mask (mh Pg W k) N ∉ t.place.toList) (hb : ∀ d, d < N → way t.mask (mh Pg W k) d ∈ t.place.toList) {Q : SetFound → Shared → Prop} (q1 : k ∈ L.map Prod.snd → Q (.there none) s) (q2 : k ∉ L.map Prod.snd → Q (.free (way t.mask (mh Pg W k) N) false) s) :
    ∀ (n c : Nat) (from_ : Option SetTable.Probe), from_.getD (t.probeStart (mh Pg W k)) = step7 t (mh Pg W k) c → c ≤ N → N < c + n → (∀ (i : Nat) (p : Addr × List Key), L[i]? = some p → p.2 = k → ∃ d, c ≤ d ∧ d < N ∧ t.place.toList[i]? = some (way t.mask (mh Pg W k) d)) →
      wpAny (model Pg W) A (setSearchFrom S (.ref x) (mh Pg W k) true n from_) Q E s := by
  intro n
  induction n with
  | zero => intro c _ _ h1 h2; omega
  | succ n ih =>
    intro c from_ hs hc hn hr
    obtain ⟨ob, g1, g2, g3⟩ := R.ob
    have gave : ¬t.gaveWay = true := by
      unfold SetTable.gaveWay
      rw [mask_odd R.tab.mok]
      decide
    have hash : ∀ (i : Nat) (p : Addr × List Key), L[i]? = some p → (es[i]?.map (·.1)).getD 0 = mh Pg W p.2 := fun i p hp => by
      rw [R.at_ hp]
      rfl
    have on : ∀ d, (nth t.mask (step7 t (mh Pg W k) c) d).j = way t.mask (mh Pg W k) (c + d) := fun d => congrArg SetTable.Probe.j (step7_on t _ c d)
    have last : (nth t.mask (step7 t (mh Pg W k) c) (N - c)).j = way t.mask (mh Pg W k) N := by rw [on, Nat.add_sub_cancel' hc]
    have told := go_spec t R.tab.ris R.tab.dm (fun i => (es[i]?.map (·.1)).getD 0) (mh Pg W k) (10 * SetTable.turns t.mask) (N - c) _ (step7_no t (mh Pg W k) c) (by omega) (fun d hd => by rw [on]; exact hb _ (by omega)) (by rw [last]; exact hN)
    rw [setSearchFrom_succ]
    refine wpAny_bind (wpAny_setState_of g1 g3 R.fits ?_)
    dsimp only
    refine wp_if_neg gave ?_
    try refine wpAny_bind (wpAny_pure ?_)
    rw [hs]
    have probe : ∀ m, SetTable.probe.go t (fun i => (es[i]?.map (·.1)).getD 0) (mh Pg W k) (10 * SetTable.turns t.mask) (step7 t (mh Pg W k) c) = m → t.probe (fun i => (es[i]?.map (·.1)).getD 0) (mh Pg W k) (step7 t (mh Pg W k) c) = m := fun m z => z
    rcases told with ⟨d, i, d1, d2, d3, d4, d5⟩ | ⟨d4, d5⟩
    · rw [on] at d2 d5
      rw [step7_on] at d5
      rw [probe _ d5]
      dsimp only
      have il : i < L.length := by
        have z := (List.getElem?_eq_some_iff.mp d2).1
        rw [Array.length_toList, R.places] at z
        exact z
      obtain ⟨p, hp⟩ : ∃ p, L[i]? = some p := ⟨_, List.getElem?_eq_getElem il⟩
      have hpL := List.mem_of_getElem? hp
      have rest : wpAny (model Pg W) A (searchRest S (.ref x) (mh Pg W k) true n es t (way t.mask (mh Pg W k) (c + d)) i (step7 t (mh Pg W k) (c + (d + 1)))) Q E s := by
        unfold searchRest
        rw [R.at_ hp]
        dsimp only
        refine wpAny_bind (wpAny_holding (wpAny_eqBool_tuple hu (R.all p hpL) hx ?_))
        refine wpAny_bind (wpAny_setState_of g1 g3 R.fits ?_)
        dsimp only
        by_cases e : p.2 = k
        · exact wp_if_pos (by simp [e]) (wpAny_pure (q1 (List.mem_map.mpr ⟨p, hpL, e⟩)))
        · refine wp_if_neg (by simp [e]) ?_
          try refine wpAny_bind (wpAny_pure ?_)
          rw [sameMem]
          dsimp only
          have live : t.slot (way t.mask (mh Pg W k) (c + d)) = .live i := slot_live R.tab.ris d2
          simp only [if_true, live, R.at_ hp]
          refine wpAny_bind (wpAny_isSame_ref_self (wpAny_bind (wpAny_pure ?_)))
          simp only [if_true]
          refine wp_if_neg (by simp [e]) (ih (c + (d + 1)) _ rfl (by omega) (by omega) fun i2 p2 h2 e2 => ?_)
          obtain ⟨d', b1, b2, b3⟩ := hr i2 p2 h2 e2
          refine ⟨d', ?_, b2, b3⟩
          have hk2 : (es[i2]?.map (·.1)).getD 0 = mh Pg W k := (hash i2 p2 h2).trans (congrArg (mh Pg W) e2)
          rcases Nat.lt_trichotomy d' (c + d) with y | y | y
          · exact absurd hk2 (d4 (d' - c) i2 (by omega) (by rw [on, Nat.add_sub_cancel' b1]; exact b3))
          · rw [y] at b3
            have z := slot_live R.tab.ris b3
            rw [live] at z
            cases z
            rw [hp] at h2
            cases h2
            exact absurd e2 e
          · omega
      by_cases led : t.led = true
      · refine wp_if_neg (by simp [led]) ?_
        try refine wpAny_bind (wpAny_pure ?_)
        exact rest
      · refine wp_if_pos (by simp [led]) (wpAny_bind (mt_seen hx (fun y hy => ?_) ?_))
        · obtain ⟨z, hz, rfl⟩ := List.mem_map.mp hy
          have hz1 : z ∈ es ∧ z.1 = mh Pg W k := by simpa using hz
          have hz2 : z ∈ es.toList := by simpa using hz1.1
          rw [R.row] at hz2
          obtain ⟨p3, hp3, rfl⟩ := List.mem_map.mp hz2
          exact ⟨p3.2, p3.1, rfl, R.all p3 hp3⟩
        · refine wp_if_neg (by decide) ?_
          try refine wpAny_bind (wpAny_pure ?_)
          exact rest
    · rw [last] at d5
      rw [probe _ d5]
      dsimp only
      refine wpAny_pure (q2 fun hm => ?_)
      obtain ⟨p2, m2, e2⟩ := List.mem_map.mp hm
      obtain ⟨i2, l2, z2⟩ := List.getElem_of_mem m2
      have h2 : L[i2]? = some p2 := by rw [List.getElem?_eq_getElem l2, z2]
      obtain ⟨d', b1, b2, b3⟩ := hr i2 p2 h2 e2
      exact d4 (d' - c) i2 (by omega) (by rw [on, Nat.add_sub_cancel' b1]; exact b3) ((hash i2 p2 h2).trans (congrArg (mh Pg W) e2))
theorem few_search (R : Few Pg W s.heap S L es ep t) {x : Addr} {k : List Key} (hx : Mt Pg W s.heap k x) (hu : A.units < cLine) {Q : SetFound → Shared → Prop} (q1 : k ∈ L.map Prod.snd → Q (.there none) s)
    (q2 : ∀ N, k ∉ L.map Prod.snd → way t.mask (mh Pg W k) N ∉ t.place.toList → (∀ d, d < N → way t.mask (mh Pg W k) d ∈ t.place.toList) → Q (.free (way t.mask (mh Pg W k) N) false) s) : wpAny (model Pg W) A (setSearch S (.ref x) (mh Pg W k) true) Q E s := by
  have f := R.few
  have m := R.mask
  obtain ⟨N, n1, n2, n3⟩ := R.tab.first (by rw [List.length_map, m]; omega) (mh Pg W k)
  have big : N < 100000 := by
    unfold SetTable.turns at n1
    rw [m] at n1
    omega
  unfold setSearch
  refine few_look R hx hu n1 n2 n3 q1 (fun z => q2 N z n2 n3) 100000 0 none rfl (Nat.zero_le _) (by omega) fun i p hp e => ?_
  have hi : (L.map fun p => mh Pg W p.2)[i]? = some (mh Pg W k) := by rw [List.getElem?_map, hp, ← e]; rfl
  have il : i < t.place.toList.length := by
    rw [Array.length_toList, R.places]
    exact (List.getElem?_eq_some_iff.mp hp).1
  obtain ⟨d, d1, d2⟩ := R.tab.before n2 hi (List.getElem?_eq_getElem il)
  exact ⟨d, Nat.zero_le _, d1, by rw [List.getElem?_eq_getElem il, d2]⟩
end
end HF
set_option maxRecDepth 100000
set_option maxHeartbeats 2000000
namespace HF
open PySem PySem.Spec PyProof.Rows L2
section
variable {Pg : Program} {W : World} {A : Around} {E : Value → Shared → Prop} {s : Shared} {S : Addr} {L : List (Addr × List Key)} {es : Array (Int × Value)} {ep : Nat} {t : SetTable}
/-- such a tuple is not the set, so it stays -/
theorem mt_stay {hp hp2 : Heap} {k : List Key} {p : Addr} {ob : Obj} (h : Mt Pg W hp k p) (h1 : hp.get? S = some ob) (h2 : ob.data = .set es ep t) (sb : Heap.SameBut S hp hp2) : Mt Pg W hp2 k p := by
  obtain ⟨o2, its, m, a1, a2, a3, a4⟩ := h
  refine ⟨o2, its, m, (sb.2 p fun e => ?_).trans a1, a2, a3, a4⟩
  rw [e, h1] at a1
  cases a1
  rw [h2] at a3
  cases a3
theorem mt_keep {hp hp2 : Heap} {k : List Key} {p : Addr} (h : Mt Pg W hp k p) (e : ∀ c o, hp.get? c = some o → hp2.get? c = some o) : Mt Pg W hp2 k p := by
  obtain ⟨o2, its, m, a1, r⟩ := h
  exact ⟨o2, its, m, e _ _ a1, r⟩
theorem Few.keep {hp hp2 : Heap} (R : Few Pg W hp S L es ep t) (e : ∀ o, hp.get? S = some o → hp2.get? S = some o) (all : ∀ p ∈ L, Mt Pg W hp2 p.2 p.1) : Few Pg W hp2 S L es ep t := by
  obtain ⟨ob, h1, h2⟩ := R.ob
  exact ⟨⟨ob, e _ h1, h2⟩, R.row, R.tab, R.mask, R.one, all, R.led, R.few⟩
/-- s.add(x): there already, or put in -/
theorem few_add (R : Few Pg W s.heap S L es ep t) {x : Addr} {k : List Key} (hx : Mt Pg W s.heap k x) (hu : A.units < cLine) (hL : k ∉ L.map Prod.snd → L.length ≤ 3) {Q : Bool → Shared → Prop}
    (q : ∀ b hp L2 es2 ep2 t2, Heap.SameBut S s.heap hp → Few Pg W hp S L2 es2 ep2 t2 → (k ∈ L.map Prod.snd → L2 = L) → (k ∉ L.map Prod.snd → L2.Perm ((x, k) :: L)) → Q b { s with heap := hp }) :
    wpAny (model Pg W) A (setAddHashed S (.ref x) (mh Pg W k)) Q E s := by
  obtain ⟨ob, g1, g2, g3⟩ := R.ob
  unfold setAddHashed
  refine wpAny_holding ?_
  rw [show (100000 : Nat) = 99999 + 1 from rfl, setAddHashedIn_succ]
  refine wpAny_bind (wpAny_setState_of g1 g3 R.fits ?_)
  dsimp only
  refine wp_if_neg (by simp [byScan, Value.scannable]) ?_
  try refine wpAny_bind (wpAny_pure ?_)
  refine wpAny_bind (few_search R hx hu (fun there => ?_) fun N out n1 n2 => ?_)
  · dsimp only
    exact wpAny_pure (q false s.heap L es ep t (Heap.SameBut.refl S s.heap) R (fun _ => rfl) fun z => absurd there z)
  · dsimp only
    have l3 := hL out
    refine wpAny_bind (wpAny_setState_of g1 g3 R.fits ?_)
    dsimp only
    obtain ⟨c1, c2, c3, c4, c5, _, _, _, c9⟩ := R.tab.put n1 n2
    rw [List.length_map] at c2 c9
    generalize t.put (way t.mask (mh Pg W k) N) = pt at c1 c3 c4 c5 c9 ⊢
    generalize SetTable.below t.place (way t.mask (mh Pg W k) N) = j at c1 c2 c3
    obtain ⟨t1, j1⟩ := pt
    dsimp only at c1 c3 c4 c5 c9 ⊢
    subst c1
    have row2 : (SetTable.insertAt es j1 (mh Pg W k, Value.ref x)).toList = (L.take j1 ++ (x, k) :: L.drop j1).map fun p => (mh Pg W p.2, Value.ref p.1) := by
      rw [SetTable.toList_insertAt, R.row, List.map_append, List.map_cons, List.map_take, List.map_drop]
    have pm : (L.take j1 ++ (x, k) :: L.drop j1).Perm ((x, k) :: L) := by
      have z : (L.take j1 ++ (x, k) :: L.drop j1).Perm ((x, k) :: (L.take j1 ++ L.drop j1)) := List.perm_middle
      rwa [List.take_append_drop] at z
    have tab2 : TabOk t1 ((L.take j1 ++ (x, k) :: L.drop j1).map fun p => mh Pg W p.2) := by
      rw [List.map_append, List.map_cons, List.map_take, List.map_drop]
      exact c3
    have len2 : (L.take j1 ++ (x, k) :: L.drop j1).length = L.length + 1 := pm.length_eq
    generalize L.take j1 ++ (x, k) :: L.drop j1 = L2 at row2 pm tab2 len2
    generalize SetTable.insertAt es j1 (mh Pg W k, Value.ref x) = es2 at row2 ⊢
    have sz2 : es2.size = L.length + 1 := by rw [← Array.length_toList, row2, List.length_map, len2]
    have fin : ∀ t2 : SetTable, TabOk t2 (L2.map fun p => mh Pg W p.2) → t2.mask = 7 → (W.params.followText "set-order" = true ∨ t2.led = true) → t2.fill = L.length + 1 →
        wpAny (model Pg W) A (do
          storeSet S es2 t2
          if (!false && t2.tooFull) = true then setRelay S (SetTable.grown (es.size + 1))
          return true) Q E s := fun t2 w1 w2 w3 w4 => by
      refine wpAny_bind (wpAny_storeSet_of g1 g3 ?_ (by rw [sz2, sizeLine_eq]; omega))
      have nf : t2.tooFull = false := by
        unfold SetTable.tooFull
        rw [w4, w2]
        exact decide_eq_false (by omega)
      rw [nf]
      have sb : Heap.SameBut S s.heap (s.heap.update S (Obj.putSet es2 t2)) := Heap.SameBut.update ..
      have at2 := store_at (es' := es2) (t' := t2) g1 g3
      generalize s.heap.update S (Obj.putSet es2 t2) = hp at sb at2 ⊢
      have F2 : Few Pg W hp S L2 es2 (ep + 1) t2 := by
        refine ⟨⟨_, at2, ⟨g2.1, g2.2.1, g2.2.2⟩, rfl⟩, row2, w1, w2, ?_, fun p hpm => ?_, w3, by omega⟩
        · rw [(pm.map Prod.snd).nodup_iff, List.map_cons, List.nodup_cons]
          exact ⟨out, R.one⟩
        · rcases List.mem_cons.mp (pm.mem_iff.mp hpm) with rfl | z
          · exact mt_stay hx g1 g3 sb
          · exact mt_stay (R.all p z) g1 g3 sb
      exact wpAny_pure (q true hp L2 es2 (ep + 1) t2 sb F2 (fun z => absurd z out) fun _ => pm)
    have led1 : W.params.followText "set-order" = true ∨ t1.led = true := by rw [c5]; exact R.led
    have m1 : t1.mask = 7 := c4.trans R.mask
    by_cases pl : t1.plain = true
    · first
        | (refine wpAny_bind ?_; refine wp_if_pos pl ?_; refine mt_val hx fun b => ?_)
        | refine wp_if_pos pl (wpAny_bind (mt_val hx fun b => ?_))
      cases b with
      | true => exact fin t1 tab2 m1 led1 c9
      | false => exact fin { t1 with plain := false } ⟨tab2.ris, tab2.dm, tab2.sz, tab2.mok, tab2.bd, tab2.reach⟩ m1 led1 c9
    · first
        | (refine wpAny_bind ?_; refine wp_if_neg pl ?_; refine wpAny_pure ?_)
        | (refine wp_if_neg pl (wpAny_bind (wpAny_pure ?_)))
      exact fin t1 tab2 m1 led1 c9
end
end HF
set_option maxRecDepth 100000
set_option maxHeartbeats 2000000
namespace HF
open PySem PySem.Spec PyProof.Rows L2
/-- what the set has got of the first n items -/
structure Has4 (ks : List (Addr × List Key)) (n : Nat) (L : List (Addr × List Key)) : Prop where
  of : ∀ p ∈ L, p ∈ ks
  got : ∀ p ∈ ks.take n, p.2 ∈ L.map Prod.snd
theorem Has4.next {ks L L2 : List (Addr × List Key)} {n : Nat} {p : Addr × List Key} (h : Has4 ks n L) (e : ks[n]? = some p) (c1 : p.2 ∈ L.map Prod.snd → L2 = L) (c2 : p.2 ∉ L.map Prod.snd → L2.Perm (p :: L)) : Has4 ks (n + 1) L2 := by
  have up : ks.take (n + 1) = ks.take n ++ [p] := by
    rw [List.take_succ, e]
    rfl
  by_cases z : p.2 ∈ L.map Prod.snd
  · rw [c1 z]
    refine ⟨h.of, fun y hy => ?_⟩
    rw [up] at hy
    rcases List.mem_append.mp hy with y1 | y1
    · exact h.got y y1
    · rw [List.mem_singleton.mp y1]
      exact z
  · have pm := c2 z
    refine ⟨fun y hy => ?_, fun y hy => ?_⟩
    · rcases List.mem_cons.mp (pm.mem_iff.mp hy) with rfl | y1
      · exact List.mem_of_getElem? e
      · exact h.of y y1
    · rw [(pm.map Prod.snd).mem_iff, List.map_cons]
      rw [up] at hy
      rcases List.mem_append.mp hy with y1 | y1
      · exact List.mem_cons_of_mem _ (h.got y y1)
      · rw [List.mem_singleton.mp y1]
        exact List.mem_cons_self
/-- at most four different tuples -/
def Four (ks : List (Addr × List Key)) : Prop := ∀ L : List (Addr × List Key), (∀ p ∈ L, p ∈ ks) → (L.map Prod.snd).Nodup → L.length ≤ 4
section
variable {Pg : Program} {W : World} {A : Around} {E : Value → Shared → Prop} {s : Shared}
/-- the loop of set.update over such tuples -/
theorem few_loop {I : Addr} {fp wr : List Addr} {G : Array GenState → Array GenState → Prop} {n : Nat} {Pv : Nat → Value → Prop} {St : Nat → Shared → Prop} {R : Result → Shared → Prop} (T : WalksS Pg W A.in1 I fp wr G n Pv St) {S : Addr} (hS : S ∉ fp) {ks : List (Addr × List Key)} (hn : n = ks.length) (f4 : Four ks)
    (hv : ∀ i v, Pv i v → ∃ p, ks[i]? = some p ∧ v = Value.ref p.1) {h0 : Heap} (hk : ∀ p ∈ ks, Mt Pg W h0 p.2 p.1) (hS0 : h0.get? S = none) (hw : ∀ b ∈ wr, h0.get? b = none) (hu : A.in1.units < cLine) :
    ∀ (m i : Nat) (s : Shared), i + m = n → St i s → (∀ b o, h0.get? b = some o → s.heap.get? b = some o) → (∃ L es ep t, Few Pg W s.heap S L es ep t ∧ Has4 ks i L) →
      (∀ s2 L es ep t, Moved (S :: wr) G s s2 → Few Pg W s2.heap S L es ep t → Has4 ks n L → (∀ b o, h0.get? b = some o → s2.heap.get? b = some o) → R (.ok (.ret .none)) s2) →
      codeAny (model Pg W) A (.builtin "set.update.loop" ⟨[.ref S, .ref I], []⟩) R s := by
  have hSw : S ∉ wr := fun z => hS (T.sub _ z)
  have sub : ∀ b ∈ wr, b ∈ S :: wr := fun b hb => List.mem_cons_of_mem _ hb
  have old : ∀ {u u2 : Shared}, Moved wr G u u2 → (∀ b o, h0.get? b = some o → u.heap.get? b = some o) → ∀ b o, h0.get? b = some o → u2.heap.get? b = some o := fun mv kp b o e => mv.heap b o (fun hb => by rw [hw b hb] at e; cases e) (kp b o e)
  intro m
  induction m with
  | zero =>
    intro i s hi hst kp ⟨L, es, ep, t, F0, g⟩ hR
    obtain rfl : i = n := hi
    refine codeAny_builtin F.entry_set_update_loop ?_
    rw [Around.under_plainId F.plain_set_update_loop _]
    show wpAny _ A.in1 (pyNext (.ref I) >>= _) _ _ s
    refine wpAny_bind (T.done s _ _ hst fun s2 mv => ?_)
    show wpAny _ A.in1 (ret Value.none) _ _ s2
    have kp2 := old mv kp
    exact wpAny_pure (hR s2 L es ep t (mv.mono sub) (F0.keep (fun o e => mv.heap S o hSw e) fun p hp => mt_keep (hk p (g.of p hp)) kp2) g kp2)
  | succ m ih =>
    intro i s hi hst kp ⟨L, es, ep, t, F0, g⟩ hR
    have lt : i < n := by omega
    refine codeAny_builtin F.entry_set_update_loop ?_
    rw [Around.under_plainId F.plain_set_update_loop _]
    show wpAny _ A.in1 (pyNext (.ref I) >>= _) _ _ s
    refine wpAny_bind (T.item i s _ _ lt hst fun v s2 hP hst2 mv => ?_)
    obtain ⟨p, hp, rfl⟩ := hv i v hP
    have kp2 := old mv kp
    have F2 : Few Pg W s2.heap S L es ep t := F0.keep (fun o e => mv.heap S o hSw e) fun y hy => mt_keep (hk y (g.of y hy)) kp2
    have hx : Mt Pg W s2.heap p.2 p.1 := mt_keep (hk p (List.mem_of_getElem? hp)) kp2
    show wpAny _ A.in1 (holding [Value.ref p.1] (setAdd S (.ref p.1)) >>= _) _ _ s2
    refine wpAny_bind (wpAny_holding ?_)
    unfold setAdd
    refine wpAny_holding (wpAny_bind (wpAny_pyHash_tuple hu hx ?_))
    refine few_add (s := { s2 with toks := s2.toks + (p.2.length + 1) }) F2 hx hu (fun out => ?_) fun b hp2 L2 es2 ep2 t2 sb F3 c1 c2 => ?_
    · have := f4 (p :: L) (fun y hy => (List.mem_cons.mp hy).elim (fun z => by rw [z]; exact List.mem_of_getElem? hp) (g.of y)) (by rw [List.map_cons, List.nodup_cons]; exact ⟨out, F2.one⟩)
      rw [List.length_cons] at this
      omega
    · have kp3 : ∀ b o, h0.get? b = some o → hp2.get? b = some o := fun b o e => (sb.2 b fun z => by rw [z, hS0] at e; cases e).trans (kp2 b o e)
      refine wpAny_pure ⟨plainId_quiet F.plain_set_update_loop _, ih (i + 1) _ (by omega) (T.frame _ s2 _ _ hst2 (Nat.le_add_right _ _) fun b hb o e => ?_) kp3 ⟨L2, es2, ep2, t2, F3, g.next hp c1 c2⟩ fun s3 L3 es3 ep3 t3 mv3 F4 g4 kp4 => ?_⟩
      · rw [sb.2 b fun z : b = S => hS (by rw [← z]; exact hb)]
        exact e
      · refine hR s3 L3 es3 ep3 t3 (Moved.trans T.gtrans ((mv.mono sub).then_heap (Nat.le_add_right _ _) fun b o hb e => ?_) mv3) F4 g4 kp4
        rw [sb.2 b fun z : b = S => hb (by rw [z]; exact List.mem_cons_self)]
        exact e
abbrev newSet (W : World) : Obj := { cls := .type "set", dict := none, data := .set #[] 0 (.fresh 0 0 (!W.params.followText "set-order")) }
theorem few_new {hp : Heap} {S : Addr} (h : hp.get? S = some (newSet W)) : Few Pg W hp S [] #[] 0 (.fresh 0 0 (!W.params.followText "set-order")) := by
  refine ⟨⟨_, h, ⟨rfl, rfl, rfl⟩, rfl⟩, rfl, ⟨List.Pairwise.nil, rfl, rfl, Or.inl rfl, fun x z => (by cases z), fun i h j z => (by simp at z)⟩, rfl, List.nodup_nil, fun p z => (by cases z), ?_, Nat.zero_le _⟩
  show _ ∨ (!W.params.followText "set-order") = true
  cases W.params.followText "set-order"
  · exact Or.inr rfl
  · exact Or.inl rfl
end
end HF
set_option maxRecDepth 100000
set_option maxHeartbeats 4000000
namespace HF
open PySem PySem.Spec PyProof.Rows L2
section
variable {Pg : Program} {W : World} {A : Around} {E : Value → Shared → Prop} {s : Shared}
/-- what set.__init__ does to the new set -/
def InitR (Pg : Program) (W : World) (s : Shared) (ks : List (Addr × List Key)) : Value → Shared → Prop := fun r u => r = .none ∧ ∃ hp tk L es ep t, u = { s with heap := hp, toks := tk } ∧ Few Pg W hp s.heap.objs.size L es ep t ∧ Has4 ks ks.length L ∧ ∀ b o, s.heap.get? b = some o → hp.get? b = some o
/-- set(xs), xs a list of such tuples -/
theorem few_call {l : Addr} {its : Array Value} {ks : List (Addr × List Key)} {Q : Value → Shared → Prop} (hh : A.handled = none) (hl : s.heap.IsList l its) (hi : its.toList = ks.map fun p => Value.ref p.1) (hk : ∀ p ∈ ks, Mt Pg W s.heap p.2 p.1) (f4 : Four ks) (hu : A.units + 3 < cLine)
    (q : ∀ hp tk L es ep t, Few Pg W hp s.heap.objs.size L es ep t → Has4 ks ks.length L → (∀ b o, s.heap.get? b = some o → hp.get? b = some o) → Q (.ref s.heap.objs.size) { s with heap := hp, toks := tk }) : wpAny (model Pg W) A (call (.type "set") [.ref l]) Q E s := by
  have sz : its.size = ks.length := by rw [← Array.length_toList, hi, List.length_map]
  obtain ⟨_, _, mro_⟩ := F.called_set.mro
  have made_ := F.called_set.made
  have sub_ := F.called_set.sub
  have nt_ := F.called_set.notType
  have cc_ := F.called_set.canCreate
  have tc_ := F.typeCall_set_1 (.ref l)
  refine wpAny_call (codeAny_of_tree ?_)
  show wpAny _ _ (callAny (.type "set") _) _ _ _
  refine wpAny_pure ⟨Code.quiet_builtin _ (by decide +kernel), codeAny_builtin F.entry_type_call ?_⟩
  rw [Around.under_plain (weight_type_call_type "set" [.ref l] []) rfl]
  repeat (any_goals (first | assumption | wp_step))
  refine codeAny_mono (code_set_led1 (w := W) (.ref l) (E := E) (Q₁ := fun v u => v = .ref s.heap.objs.size ∧ u = { s with heap := s.heap.push (newSet W) }) ⟨rfl, rfl⟩) fun r u hr => ?_
  cases r with
  | error e => exact hr
  | ok fl =>
    cases fl with
    | ret v =>
      obtain ⟨rfl, rfl⟩ := hr
      have here : (s.heap.push (newSet W)).get? s.heap.objs.size = some (newSet W) := Heap.get?_push_size _ rfl
      have ty : Shared.TypeIs { s with heap := s.heap.push (newSet W) } (.ref s.heap.objs.size) "set" := ⟨_, here, rfl⟩
      have li_ := F.called_set.init.lookup
      have bi_ := F.called_set.init.bind (.ref s.heap.objs.size)
      repeat (any_goals (first | assumption | wp_step))
      refine codeAny_mono (codeAny_call_builtin (R := wants (InitR Pg W s ks) E) F.called_set.init.plain F.entry_set_init (check_set_init_1 ty ?_)) fun r2 u2 hr2 => ?_
      · obtain ⟨ol, hol, hcl, nl, hdl⟩ := hl
        obtain ⟨oc, od, odt, osl⟩ := ol
        simp only at hcl hdl
        subst hcl
        subst hdl
        have hol2 : (s.heap.push (newSet W)).get? l = some { cls := .type "list", dict := od, data := .seq its nl, slots := osl } := Heap.get?_push_of_some _ hol
        have a1_ := F.sub_list_set
        have a2_ := F.sub_list_frozenset
        have a3_ : (Value.type "list" == Value.type "dict") = false := by decide
        have hl1 : (s.heap.push (newSet W)).IsList l its := ⟨_, hol2, rfl, nl, rfl⟩
        have lt := Heap.lt_size hol
        have nx : (s.heap.push (newSet W)).objs.size = s.heap.objs.size + 1 := Heap.size_push ..
        unfold Builtin.«set.__init__» noKeywords Builtin.Frozenset.updateFrom
        generalize hI : pyIter = It
        wp_walk
        subst hI
        refine wpAny_pyIter_list hl1 (wpAny_bind (wpAny_runValue ?_))
        have free : ∀ b, s.heap.objs.size ≤ b → s.heap.get? b = none := fun b hb => by
          cases z : s.heap.get? b with
          | none => rfl
          | some o => exact absurd (Heap.lt_size z) (Nat.not_lt.mpr hb)
        have nI : l ≠ (s.heap.push (newSet W)).objs.size := by rw [nx]; exact Nat.ne_of_lt (Nat.lt_succ_of_lt lt)
        have nS : s.heap.objs.size ∉ [(s.heap.push (newSet W)).objs.size, l] := by
          rw [nx]
          simp only [List.mem_cons, List.not_mem_nil, or_false, not_or]
          exact ⟨Nat.ne_of_lt (Nat.lt_succ_self _), Nat.ne_of_gt lt⟩
        refine few_loop ((Walks.list (by simp [hh]) _ l nI its).toS) nS (ks := ks) sz f4 (fun i v hv => ?_) (h0 := s.heap) hk (free _ (Nat.le_refl _)) (fun b hb => free b (by rw [List.mem_singleton.mp hb, nx]; exact Nat.le_succ _)) hu its.size 0 _ (Nat.zero_add _)
          ⟨⟨_, Heap.get?_push_size _ rfl, rfl, rfl⟩, hl1.push _⟩ (fun b o e => Heap.get?_push_of_some _ (Heap.get?_push_of_some _ e)) ⟨[], #[], 0, _, few_new (Heap.get?_push_of_some _ here), ⟨fun p z => (by cases z), fun p z => (by cases z)⟩⟩ fun s2 L es ep t mv F2 g2 kp => ?_
        · have z : its.toList[i]? = some v := by rw [Array.getElem?_toList]; exact hv
          rw [hi, List.getElem?_map] at z
          cases y : ks[i]? with
          | none => rw [y] at z; cases z
          | some p =>
            rw [y] at z
            exact ⟨p, rfl, (Option.some.inj z).symm⟩
        · obtain ⟨hp, gn, dr, tk, os⟩ := s2
          have e1 : gn = s.gens := mv.gens
          have e2 : dr = s.drawn := mv.drawn
          have e3 : os = s.os := mv.os
          subst e1
          subst e2
          subst e3
          rw [sz] at g2
          show wpAny _ _ _ _ _ _
          refine wpAny_pure ?_
          show wpAny _ _ (ret Value.none) _ _ _
          exact wpAny_pure ⟨rfl, hp, tk, L, es, ep, t, rfl, F2, g2, kp⟩
      · cases r2 with
        | error e => exact hr2
        | ok fl2 =>
          cases fl2 with
          | ret v2 =>
            obtain ⟨rfl, hp, tk, L, es, ep, t, rfl, F2, g2, kp⟩ := hr2
            repeat (any_goals (first | assumption | wp_step))
            exact q _ _ _ _ _ _ F2 g2 kp
          | _ => exact hr2.elim
    | _ => exact hr.elim
end
end HF
set_option maxRecDepth 100000
set_option maxHeartbeats 2000000
namespace HF
open PySem PySem.Spec PyProof.Rows PySem.W
section
variable {Pg : Program} {W : World}
theorem reads_mt {hp : Heap} {k : List L2.Key} {p : Addr} (h : Mt Pg W hp k p) : Reads hp (.ref p) (encT k) [] := by
  obtain ⟨o, its, n, h1, h2, h3, h4⟩ := h
  have rd : ∀ {k : List L2.Key} {vs : List Value}, ItemsAre (L2.mixKind Pg W) k vs → ReadsAll hp vs (k.map encK) [] := fun z => by
    induction z with
    | nil => exact .nil
    | @cons x v xs vs a _ ih =>
      cases x with
      | inl i =>
        obtain ⟨t, rfl⟩ := Value.isInt_shape a
        exact ReadsAll.cons (as := []) (bs := []) (.int i t) ih
      | inr y =>
        obtain ⟨t, rfl⟩ := Value.isStrOf_shape a
        exact ReadsAll.cons (as := []) (bs := []) (.str y t) ih
  exact .tuple h1 h2 h3 (rd h4)
end
section
variable {Pg : Program} {W : World} {A : Around} {E : Value → Shared → Prop} {s : Shared} {S : Addr} {L : List (Addr × List L2.Key)} {es : Array (Int × Value)} {ep : Nat} {t : SetTable}
/-- values that are members -/
theorem members : ∀ {vs : List Value}, (∀ v ∈ vs, ∃ p ∈ L, v = Value.ref p.1) → ∃ M : List (Addr × List L2.Key), vs = M.map (fun p => Value.ref p.1) ∧ ∀ p ∈ M, p ∈ L
  | [], _ => ⟨[], rfl, fun p z => by cases z⟩
  | v :: vs, h => by
    obtain ⟨p, hp, rfl⟩ := h _ List.mem_cons_self
    obtain ⟨M, e, hM⟩ := members (vs := vs) fun y hy => h y (List.mem_cons_of_mem _ hy)
    exact ⟨p :: M, by rw [List.map_cons, e], fun y hy => (List.mem_cons.mp hy).elim (fun z => by rw [z]; exact hp) (hM y)⟩
/-- a member's tuple is told by its address: the members in another order -/
theorem members_perm (R : Few Pg W s.heap S L es ep t) {M : List (Addr × List L2.Key)} (hM : ∀ p ∈ M, p ∈ L) (pm : (M.map fun p => Value.ref p.1).Perm (L.map fun p => Value.ref p.1)) : (M.map Prod.snd).Perm (L.map Prod.snd) := by
  have key : ∀ (f : Addr → List L2.Key), (∀ p ∈ L, f p.1 = p.2) → ∀ N : List (Addr × List L2.Key), (∀ p ∈ N, p ∈ L) → N.map Prod.snd = (N.map fun p => Value.ref p.1).map fun v => match v with | .ref a => f a | _ => [] := fun f hf N hN => by
    rw [List.map_map]
    exact List.map_congr_left fun p hp => (hf p (hN p hp)).symm
  obtain ⟨f, hf⟩ : ∃ f : Addr → List L2.Key, ∀ p ∈ L, f p.1 = p.2 := by
    refine ⟨fun a => ((L.find? fun p => decide (p.1 = a)).map Prod.snd).getD [], fun p hp => ?_⟩
    dsimp only
    cases z : L.find? (fun y => decide (y.1 = p.1)) with
    | none => exact absurd (decide_eq_true rfl) (List.find?_eq_none.mp z p hp)
    | some y =>
      have e1 := List.find?_some z
      have e2 := List.mem_of_find?_eq_some z
      have a1 := R.all y e2
      rw [of_decide_eq_true e1] at a1
      exact a1.inj (R.all p hp)
  rw [key f hf M hM, key f hf L fun p hp => hp]
  exact pm.map _
/-- sorted(set) -/
theorem few_sorted (R : Few Pg W s.heap S L es ep t) (hh : A.handled = none) (hu : A.units + 64 < cLine) (sh : OneShape (L.map Prod.snd)) {Q : Value → Shared → Prop}
    (q : ∀ s2 p (ts : List Addr) (bs : List (List L2.Key)) c, (∀ b o, s.heap.get? b = some o → s2.heap.get? b = some o) → s2.gens = s.gens → s2.os = s.os → s.heap.objs.size ≤ p → s2.heap.get? p = some (seqObj "list" (ts.map Value.ref).toArray c) → bs.Perm (L.map Prod.snd) →
      EachIs (fun a b => (a, b) ∈ L) ts (bs.mergeSort tupLe) → Q (.ref p) s2) : wpAny (model Pg W) A (call (.builtin "sorted") [.ref S]) Q E s := by
  obtain ⟨o, g1, g2, g3⟩ := R.ob
  have f4 := R.few
  refine Calls.call_function_entry kind_sorted plain_sorted entry_sorted (args_sorted1 _) ?_
  unfold Builtin.«sorted»
  refine wpAny_bind (m := checkCount "sorted" 1 1 _) (wpAny_pure ?_)
  refine wpAny_bind (L2.collect_set (A := A.in1) hh ⟨o, g1, g2.1, g3⟩ R.fits (by rw [R.size]; unfold scanBound; omega) R.tab.ris R.led fun s1 vs k1 z1 e1 e2 pm => ?_)
  have row : es.toList.map (·.2) = L.map fun p => Value.ref p.1 := by rw [R.row, List.map_map]; rfl
  rw [row] at pm
  obtain ⟨M, rfl, hM⟩ := members (L := L) (vs := vs) fun v hv => by
    obtain ⟨p, hp, e⟩ := List.mem_map.mp (pm.mem_iff.mp hv)
    exact ⟨p, hp, e.symm⟩
  have pm2 := members_perm R hM pm
  have ml : M.length ≤ 4 := by
    have := pm.length_eq
    rw [List.length_map, List.length_map] at this
    omega
  refine wpAny_bind (wpAny_newList ?_ (by rw [List.length_map, sizeLine_eq]; omega))
  have hoL : (s1.heap.push (seqObj "list" (M.map fun p => Value.ref p.1).toArray 0)).get? s1.heap.objs.size = some (seqObj "list" (M.map fun p => Value.ref p.1).toArray 0) := Heap.get?_push_size _ rfl
  have old : ∀ b u, s.heap.get? b = some u → (s1.heap.push (seqObj "list" (M.map fun p => Value.ref p.1).toArray 0)).get? b = some u := fun b u e => Heap.get?_push_of_some _ (k1 b u e)
  have each : ∀ N : List (Addr × List L2.Key), (∀ p ∈ N, p ∈ L) → EachIs (fun v b => ∃ a, v = Value.ref a ∧ (a, b) ∈ L) (N.map fun p => Value.ref p.1) (N.map Prod.snd) := fun N => by
    induction N with
    | nil => exact fun _ => .nil
    | cons p N ih => exact fun h => .cons ⟨p.1, rfl, h p List.mem_cons_self⟩ (ih fun y hy => h y (List.mem_cons_of_mem _ hy))
  have shM : OneShape (M.map Prod.snd) := ⟨fun b hb => sh.ne b (pm2.mem_iff.mp hb), fun b hb c hc => sh.al b (pm2.mem_iff.mp hb) c (pm2.mem_iff.mp hc)⟩
  have er : EachIs (fun v b => ∃ as, Reads (s1.heap.push (seqObj "list" (M.map fun p => Value.ref p.1).toArray 0)) v (encT b) as ∧ s1.heap.objs.size ∉ as) (M.map fun p => Value.ref p.1) (M.map Prod.snd) := (each M hM).mono fun v b z => by
    obtain ⟨a, e, hab⟩ := z
    rw [e]
    exact ⟨[], reads_mt (Pg := Pg) (W := W) (mt_keep (R.all _ hab) old), List.not_mem_nil⟩
  refine wpAny_bind (wpAny_holding (list_sort_data (s := { s1 with heap := s1.heap.push (seqObj "list" (M.map fun p => Value.ref p.1).toArray 0) }) (enc := encT) hoL (each M hM) er ?_ ?_ (by rw [List.length_map, sizeLine_eq]; omega) ?_ fun out ol eo => ?_))
  · intro d hd d' hd'
    obtain ⟨b, hb, rfl⟩ := List.mem_map.mp hd
    obtain ⟨c, hc, rfl⟩ := List.mem_map.mp hd'
    show alike (.tuple _) (.tuple _) = true
    rw [alike]
    exact alike_k (shM.al b hb c hc)
  · refine .inl fun d hd => ?_
    obtain ⟨b, hb, rfl⟩ := List.mem_map.mp hd
    cases b with
    | nil => exact absurd rfl (shM.ne _ hb)
    | cons x r => exact ⟨encK x, r.map encK, rfl⟩
  · intro b _
    have : (encT b).depth ≤ 1 := by
      show (PyData.tuple (b.map encK)).depth ≤ 1
      rw [PyData.depth, depth_k]
      exact Nat.le_refl _
    show A.in1.units + 1 + (encT b).depth < cLine
    have : A.in1.units = A.units + 1 := rfl
    omega
  · obtain ⟨ts, rfl, e5⟩ := ref_each eo
    obtain ⟨c, hc⟩ := sortedHeap_at (vs := M.map fun p => Value.ref p.1) (out := (ts.map Value.ref).toArray) hoL
    refine wpAny_pure ⟨_, rfl, q _ s1.heap.objs.size ts (M.map Prod.snd) c (fun b u e => ?_) e1 e2 z1 hc pm2 e5⟩
    have lt := Heap.lt_size (k1 b u e)
    show (sortedHeap (s1.heap.push (seqObj "list" (M.map fun p => Value.ref p.1).toArray 0)) s1.heap.objs.size _ _).get? b = some u
    rw [sortedHeap_old (Nat.ne_of_lt lt) (by rw [size_push']; exact Nat.lt_succ_of_lt lt)]
    exact old b u e
end
end HF
set_option maxRecDepth 100000
set_option maxHeartbeats 2000000
namespace HF
open PySem PySem.Spec PyProof.Rows L2 Evl
/-- such a set, among our objects -/
structure FewT (Pg : Program) (W : World) (hp : Heap) (S : Addr) (L : List (Addr × List Key)) : Prop where
  ex : ∃ es ep t, (∃ o, hp.get? S = some o ∧ o.ExactSet ∧ o.data = .set es ep t) ∧ es.toList = (L.map fun p => (mh Pg W p.2, Value.ref p.1)) ∧ TabOk t (L.map fun p => mh Pg W p.2) ∧ t.mask = 7 ∧ (L.map Prod.snd).Nodup ∧ (W.params.followText "set-order" = true ∨ t.led = true) ∧ L.length ≤ 4
def FewO (Pg : Program) (W : World) (S : Addr) (L : List (Addr × List Key)) : HO := .ext fun hp => FewT Pg W hp S L
theorem fewO_ok {Pg : Program} {W : World} {H : Hp} {hp : Heap} {S : Addr} {L : List (Addr × List Key)} (R : FewT Pg W hp S L) : ObjOk Pg W H hp S (FewO Pg W S L) := by
  have ⟨es, ep, t, ⟨o, ho, r⟩, q⟩ := R.ex
  refine ⟨R, ⟨o, ho⟩, fun h1 h2 p k => ?_⟩
  have ⟨es', ep', t', ⟨o', ho', r'⟩, q'⟩ := FewT.ex p
  exact ⟨es', ep', t', ⟨o', k o' ho', r'⟩, q'⟩
theorem Few.told {Pg : Program} {W : World} {hp : Heap} {S : Addr} {L : List (Addr × List Key)} {es : Array (Int × Value)} {ep : Nat} {t : SetTable} (R : Few Pg W hp S L es ep t) : FewT Pg W hp S L := ⟨es, ep, t, R.ob, R.row, R.tab, R.mask, R.one, R.led, R.few⟩
def rSet4 (K : PySem.W.Frag) (Pg : Program) (W : World) : List V → Hp → VK → Prop := fun xs H Q => ∃ (l : Addr) (ks : List (Addr × List Key)), xs = [V.ref l] ∧ SqL K H l (ks.map fun p => V.ref p.1) ∧ (∀ p ∈ ks, H p.1 = some (.tup (p.2.map kV))) ∧ Four ks ∧
  ∀ S L, H S = none → (∀ p ∈ L, p ∈ ks) → (∀ p ∈ ks, p.2 ∈ L.map Prod.snd) → (L.map Prod.snd).Nodup → Q (.ref S) (upd H S (FewO Pg W S L))
def rSorted4 (Pg : Program) (W : World) : List V → Hp → VK → Prop := fun xs H Q => ∃ (S : Addr) (L : List (Addr × List Key)), xs = [V.ref S] ∧ H S = some (FewO Pg W S L) ∧ (∀ p ∈ L, H p.1 = some (.tup (p.2.map kV))) ∧ OneShape (L.map Prod.snd) ∧
  ∀ (ts : List Addr) (bs : List (List Key)) (p : Addr), bs.Perm (L.map Prod.snd) → TsAt H ts (bs.mergeSort tupLe) → H p = none → Q (.ref p) (upd H p (.lst (refsV ts)))
theorem refs_of4 : ∀ {ks : List (Addr × List Key)} {us : List Value}, Vals (ks.map fun p => V.ref p.1) us → us = ks.map fun p => Value.ref p.1
  | [], _, r => by
    have r' : Vals [] _ := r
    cases r'
    rfl
  | p :: ks, _, r => by
    have r' : Vals (V.ref p.1 :: ks.map fun p => V.ref p.1) _ := r
    cases r' with
    | cons r1 r2 =>
      cases (show _ = Value.ref p.1 from r1)
      rw [refs_of4 r2]
      rfl
section
variable {X : Cx}
theorem inv_mt {pins : List (Addr × Obj)} {σ : L2.St} {H : Hp} {s : Shared} {b : Addr} {k : List Key} (I : Inv X pins σ H s) (h : H b = some (.tup (k.map kV))) : Mt X.prog X.w s.heap k b := by
  obtain ⟨_, its, r, o, h1, h2, n, h3⟩ := I.hok _ _ h
  exact ⟨o, its.toArray, n, h1, h2, h3, by simpa using items_are r⟩
theorem cr_set4 (hc : X.calm = true) (hu : X.A.units + 64 < cLine) : CallR X (.type "set") (rSet4 X.K X.prog X.w) := by
  intro pins s σ H xs us Q I r h
  obtain ⟨l, ks, rfl, hl, hk, f4, q⟩ := h
  rw [Vals.ref1 r]
  obtain ⟨its, rv, pl, hz⟩ := I.list hl
  refine few_call (Pg := X.prog) (W := X.w) (ks := ks) (I.ok.hd hc) pl.isList (by simpa using refs_of4 rv) (fun p hp => inv_mt I (hk p hp)) f4 (by omega) fun hp tk L es ep t R g k => ?_
  refine ⟨.ref s.heap.objs.size, upd H s.heap.objs.size (FewO X.prog X.w s.heap.objs.size L), I.laid (t' := tk) k (Nat.le_refl _) (fewO_ok R.told), rfl, q _ L (I.hok.fresh (Nat.le_refl _)) g.of (fun p hp => g.got p ?_) R.one⟩
  rw [List.take_length]
  exact hp
theorem cr_sorted4 (hc : X.calm = true) (hu : X.A.units + 64 < cLine) : CallR X (.builtin "sorted") (rSorted4 X.prog X.w) := by
  intro pins s σ H xs us Q I r h
  obtain ⟨S, L, rfl, hS, hk, sh, q⟩ := h
  have T : FewT X.prog X.w s.heap S L := (I.hok S _ hS).1
  obtain ⟨es, ep, t, a1, a2, a3, a4, a5, a6, a7⟩ := T.ex
  have R : Few X.prog X.w s.heap S L es ep t := ⟨a1, a2, a3, a4, a5, fun p hp => inv_mt I (hk p hp), a6, a7⟩
  rw [Vals.ref1 r]
  refine few_sorted R (I.ok.hd hc) hu sh fun s2 p ts bs c k g o hp hg pm eo => ?_
  have ln : (refsV ts).length ≤ sizeLine := by
    unfold refsV
    rw [List.length_map, each_len eo, List.length_mergeSort, pm.length_eq, List.length_map, sizeLine_eq]
    omega
  have hn : H p = none := I.hok.fresh hp
  have J : Inv X pins σ (upd H p (.lst (refsV ts))) { s with heap := s2.heap, gens := s2.gens, drawn := s2.drawn, toks := s2.toks } :=
    I.call (ch := []) (Un.laid k hp hn) (I.hok.laid k hp ⟨ln, ts.map Value.ref, c, vals_refs ts, hg⟩) (by rw [g]; exact I.bare) (fun _ z => nomatch z)
  have e : s2 = { s with heap := s2.heap, gens := s2.gens, drawn := s2.drawn, toks := s2.toks } := by
    cases s2
    cases s
    cases o
    rfl
  rw [e]
  exact ⟨.ref p, _, J, rfl, q ts bs p pm (each_mono (fun a b hab => hk (a, b) hab) eo) hn⟩
end
end HF
set_option maxRecDepth 100000
set_option maxHeartbeats 1000000
namespace HF
open PySem L2 Evl
/-! ### k06: the law's own defs -/
structure TxSix (K : PySem.W.Frag) (mg : Str → Option Value) : Prop where
/-- the box changes, and what else is named -/
def Kp (S : Addr → Prop) (H H' : Hp) : Prop := ∀ a o, ¬S a → H a = some o → H' a = some o
theorem Kp.trans {S : Addr → Prop} {H H1 H2 : Hp} (a : Kp S H H1) (b : Kp S H1 H2) : Kp S H H2 := fun c o n h => b c o n (a c o n h)
theorem Kp.ex {S : Addr → Prop} {H H' : Hp} (e : Ex H H') : Kp S H H' := fun a o _ h => e a o h
theorem Kp.box {S : Addr → Prop} {b : Addr} {H H' : Hp} (hb : S b) (k : KeepB b H H') : Kp S H H' := fun a o n h => k a o (fun z => n (by rw [z]; exact hb)) h
theorem Kp.new {S : Addr → Prop} {H H' : Hp} {p : Addr} {o : HO} (k : Kp S H H') (h : H p = none) : Kp S H (upd H' p o) := fun a u n q => by rw [upd_ne (ne_of_none q h)]; exact k a u n q
theorem TsAt.kp {S : Addr → Prop} {H H' : Hp} {ts : List Addr} {bs : List (List Key)} (k : Kp S H H') (hS : ∀ a, S a → ∀ xs, H a ≠ some (.tup xs)) (h : TsAt H ts bs) : TsAt H' ts bs := each_mono (fun a b q => k a _ (fun z => hS a z _ q) q) h
theorem PL.kp {S : Addr → Prop} {H H' : Hp} {D : Addr} {bs : List (List Key)} (k : Kp S H H') (hS : ∀ a, S a → ∀ xs, H a ≠ some (.tup xs)) (hD : ¬S D) (h : PL bs D H) : PL bs D H' := by
  obtain ⟨ts, h1, h2⟩ := h
  exact ⟨ts, k D _ hD h1, h2.kp k hS⟩
theorem box_tup {H : Hp} {b : Addr} {n : Nat} (h : BoxAt H b n) : ∀ a, a = b → ∀ xs, H a ≠ some (.tup xs) := fun a e xs z => by
  obtain ⟨u, v, w, hb, _⟩ := h
  rw [e, hb] at z
  cases z
theorem box_ne {H : Hp} {b : Addr} {n : Nat} (h : BoxAt H b n) {p : Addr} (hp : H p = none) : p ≠ b := fun z => by
  obtain ⟨u, v, w, hb, _⟩ := h
  rw [z, hb] at hp
  cases hp
theorem BoxAt.upd {H : Hp} {b : Addr} {n : Nat} (h : BoxAt H b n) {p : Addr} {o : HO} (hp : p ≠ b) : BoxAt (L2.upd H p o) b n := by
  obtain ⟨u, v, w, hb, r⟩ := h
  exact ⟨u, v, w, by rw [upd_ne (Ne.symm hp)]; exact hb, r⟩
section
variable {K : PySem.W.Frag} {σ : L2.St} {H : Hp} {te : TE} {b : Addr} {n i : Nat} {Q : VK}
theorem t_take {m : Int} (h0 : σ[i]? = some (some (.ref b))) (hb : BoxAt H b n) (hn : n ≤ 1000000) (m0 : 0 < m) (m1 : m < 1073741824) (k : ∀ (d : Nat) H2, (d : Int) < m → KeepB b H H2 → BoxAt H2 b (n + 1) → Q (.int (d : Int)) H2) :
    tCall spTake [] E0 (tCons (tVar i) (tCons (tC (.int m)) tNil)) σ H Q := ⟨_, h0, b, m, n, rfl, hb, hn, m0, m1, fun d H2 hd k2 b2 => k d H2 hd k2 b2⟩
theorem t_of {xs : List V} (h0 : σ[i]? = some (some (.ref b))) (hl : EvL te σ H xs) (hb : BoxAt H b n) (hn : n ≤ 1000000) (ne : xs ≠ []) (hz : xs.length ≤ 1000) (k : ∀ x H2, x ∈ xs → KeepB b H H2 → BoxAt H2 b (n + 1) → Q x H2) :
    tCall spOf [] E0 (tCons (tVar i) (tCons te tNil)) σ H Q :=
  ⟨_, h0, hl H (Ex.refl H) _ fun p H1 hp e1 h1 => ⟨b, p, xs, n, rfl, hb.mono e1, hn, h1, box_ne hb hp, ne, hz, fun d x H2 hx k2 b2 => k x H2 (List.mem_of_getElem? hx) ((KeepB.ex e1).trans k2) b2⟩⟩
theorem t_ofR {xs : List V} {p : Addr} {j : Nat} (h0 : σ[i]? = some (some (.ref b))) (h1 : σ[j]? = some (some (.ref p))) (hp : H p = some (.lst xs)) (hb : BoxAt H b n) (hn : n ≤ 1000000) (ne : xs ≠ []) (hz : xs.length ≤ 1000) (hpb : p ≠ b) (k : ∀ x H2, x ∈ xs → KeepB b H H2 → BoxAt H2 b (n + 1) → Q x H2) :
    tCall spOf [] E0 (tCons (tVar i) (tCons (tVar j) tNil)) σ H Q :=
  ⟨_, h0, _, h1, b, p, xs, n, rfl, hb, hn, hp, hpb, ne, hz, fun d x H2 hx k2 b2 => k x H2 (List.mem_of_getElem? hx) k2 b2⟩
end
/-- a function as the law has it: its word, its name, how many parameters -/
abbrev Fl := Str × Str × Nat
def flK (x : Fl) : List Key := [.inr x.1, .inr x.2.1, .inl (x.2.2 : Int)]
def titleS : List Str := ["f", "g", "end"]
structure FlsOk (fs : List Fl) : Prop where
  ne : fs ≠ []
  tt : fs.map (fun x => x.2.1) = titleS.take fs.length
  le : fs.length ≤ 3
  ww : ∀ x ∈ fs, x.1 = "open" ∨ x.1 = "local"
  mm : ∀ x ∈ fs, x.2.2 ≤ 3
def spFunctions : Sp := fun vs H Q _ => ∃ (b : Addr) (n : Nat), vs = [.ref b] ∧ BoxAt H b n ∧ n ≤ 800000 ∧ ∀ D fs H', FlsOk fs → KeepB b H H' → BoxAt H' b (n + 7) → H D = none → PL (fs.map flK) D H' → Q (.ref D) H'
def manyV : List V := [.int 0, .int 1, .int 1, .int 2, .int 3]
theorem many_int {x : V} (h : x ∈ manyV) : ∃ m : Nat, x = .int (m : Int) ∧ m ≤ 3 := by
  unfold manyV at h
  simp only [List.mem_cons, List.not_mem_nil, or_false] at h
  rcases h with rfl | rfl | rfl | rfl | rfl
  · exact ⟨0, rfl, by decide⟩
  · exact ⟨1, rfl, by decide⟩
  · exact ⟨1, rfl, by decide⟩
  · exact ⟨2, rfl, by decide⟩
  · exact ⟨3, rfl, by decide⟩
theorem word_str {x : V} (h : x ∈ ([.str "open", .str "local"] : List V)) : ∃ w : Str, x = .str w ∧ (w = "open" ∨ w = "local") := by
  simp only [List.mem_cons, List.not_mem_nil, or_false] at h
  rcases h with rfl | rfl
  · exact ⟨"open", rfl, Or.inl rfl⟩
  · exact ⟨"local", rfl, Or.inr rfl⟩
theorem cut_titles {d : Nat} (h : d < 3) : cutV (strsV titleS) none (some (1 + (d : Int))) = strsV (titleS.take (d + 1)) := by
  match d, h with
  | 0, _ => rfl
  | 1, _ => rfl
  | 2, _ => rfl
section
variable {P : Program} {w : World} {K : PySem.W.Frag} {mg : Str → Option Value} {base : Heap}
end
end HF
set_option maxRecDepth 100000
set_option maxHeartbeats 1000000
namespace HF
open PySem L2 Evl
open PySem.W (EachIs)
theorem each_at {α β : Type} {R : α → β → Prop} : ∀ {as : List α} {bs : List β} {i : Nat} {a : α}, EachIs R as bs → as[i]? = some a → ∃ b, bs[i]? = some b ∧ R a b
  | _, _, _, _, .nil, h => by simp at h
  | _, _, 0, _, .cons r _, h => by
    simp only [List.getElem?_cons_zero, Option.some.injEq] at h
    exact ⟨_, rfl, by rw [← h]; exact r⟩
  | _, _, i + 1, _, .cons _ t, h => by
    simp only [List.getElem?_cons_succ] at h
    obtain ⟨b, h1, h2⟩ := each_at t h
    exact ⟨b, by simpa using h1, h2⟩
abbrev K3 := Key × Key × Key
def k3 (x : K3) : List Key := [x.1, x.2.1, x.2.2]
section
variable {K : PySem.W.Frag} {σ : L2.St} {H : Hp} {te tl : TE} {t : TT}
/-- [.. for a, b, c in q if ..], q a list of threes -/
theorem exl_lc3 {q : Addr} {xs : List K3} (f : K3 → Bool) (v : K3 → List Key) {j1 j2 j3 : Nat} {vs : List Nat} (h : Ev tl σ H (.ref q)) (hq : PL (xs.map k3) q H) (hz : xs.length ≤ 40000)
    (hw : ∀ x y z, wipe ((((wipe σ vs).set j1 (some x)).set j2 (some y)).set j3 (some z)) vs = wipe σ vs)
    (ht : ∀ (x : K3) H1, Ex H H1 → x ∈ xs → EvT t ((((wipe σ vs).set j1 (some (kV x.1))).set j2 (some (kV x.2.1))).set j3 (some (kV x.2.2))) H1 (f x))
    (he : ∀ (x : K3) H1, Ex H H1 → x ∈ xs → f x = true → EvU te ((((wipe σ vs).set j1 (some (kV x.1))).set j2 (some (kV x.2.1))).set j3 (some (kV x.2.2))) H1 ((v x).map kV)) :
    EvX (tLc (iList K tl) (gTup K 3 (gCons (gName j1) (gCons (gName j2) (gCons (gName j3) gNil)))) t te vs) σ H (PL (upTo f v xs)) := fun H0 e Q q0 => by
  obtain ⟨ts, hl, hts⟩ := hq
  have tl_ : ts.length = xs.length := by rw [each_len hts, List.length_map]
  have rl : (refsV ts).length = xs.length := by unfold refsV; rw [List.length_map, tl_]
  refine h H0 e _ fun H1 e1 => ⟨q, rfl, ⟨_, sq_of ((e.trans e1) _ _ hl)⟩, fun Dl hD => ?_⟩
  have e01 := e.trans e1
  refine lc_it (n := xs.length) (Eq.mp (by rw [rl]) (walk_list (K := K) (a := q) (xs := refsV ts))) (fun i H' => Cx2 H1 (upTo f v (xs.take i)) Dl H') ⟨hD, Ex.new hD, [], upd_same, .nil⟩ (fun i H' _ p => sq_of (p.2.1 _ _ (e01 _ _ hl))) (fun i x H2 H' hi p y => ?_)
    (fun H' p => q0 Dl H' (fresh_back e1 p.1) (e1.trans p.2.1) (by have := p.2.2; rw [List.take_length] at this; exact this))
  obtain ⟨rfl, hc⟩ := y
  unfold refsV at hc
  rw [List.getElem?_map] at hc
  obtain ⟨a, ha, rfl⟩ : ∃ a, ts[i]? = some a ∧ V.ref a = x := by
    cases z : ts[i]? with
    | none => rw [z] at hc; cases hc
    | some a => rw [z] at hc; exact ⟨a, rfl, Option.some.inj hc⟩
  obtain ⟨b, hb, hab⟩ := each_at hts ha
  rw [List.getElem?_map] at hb
  obtain ⟨x, hx, rfl⟩ : ∃ x, xs[i]? = some x ∧ k3 x = b := by
    cases z : xs[i]? with
    | none => rw [z] at hb; cases hb
    | some a => rw [z] at hb; exact ⟨a, rfl, Option.some.inj hb⟩
  have hm := List.mem_of_getElem? hx
  rw [upTo_succ hx]
  have e2 : Ex H H' := e01.trans p.2.1
  refine ⟨a, [kV x.1, kV x.2.1, kV x.2.2], rfl, st_of (e2 _ _ hab), rfl, _, _, rfl, _, _, rfl, _, _, rfl, rfl, hw _ _ _, ?_⟩
  exact cx_turn p (by have := upTo_len (f := f) (v := v) (xs := xs.take i); rw [List.length_take] at this; omega) (ht x H1 e01 hm) (fun hf => he x H1 e01 hm hf)
/-- what the law has of its functions, as threes -/
def fl3 (x : Fl) : K3 := (.inr x.1, .inr x.2.1, .inl (x.2.2 : Int))
theorem fl3_list (fs : List Fl) : (fs.map fl3).map k3 = fs.map flK := by
  rw [List.map_map]
  rfl
/-- the functions of a word, with their names and parameters -/
def ofWord (w : Str) (fs : List Fl) : List (Str × Nat) := (fs.filter fun x => decide (x.1 = w)).map fun x => (x.2.1, x.2.2)
def nmK (x : Str × Nat) : List Key := [.inr x.1, .inl (x.2 : Int)]
def isWord (w : Str) (x : K3) : Bool := match x.1 with
  | .inr z => decide (z = w)
  | .inl _ => false
theorem ofWord_up (w : Str) (fs : List Fl) : upTo (isWord w) (fun x => [x.2.1, x.2.2]) (fs.map fl3) = (ofWord w fs).map nmK := by
  unfold upTo ofWord
  rw [List.filter_map, List.map_map, List.map_map]
  rfl
/-- [(title, many) for word, title, many in functions if word == w] -/
theorem exl_own {w : Str} {q : Addr} {fs : List Fl} {i j1 j2 j3 : Nat} {vs : List Nat} (h : σ[i]? = some (some (.ref q))) (hq : PL (fs.map flK) q H) (hz : fs.length ≤ 3)
    (hw : ∀ x y z, wipe ((((wipe σ vs).set j1 (some x)).set j2 (some y)).set j3 (some z)) vs = wipe σ vs)
    (g1 : ∀ x y z, ((((wipe σ vs).set j1 (some x)).set j2 (some y)).set j3 (some z))[j1]? = some (some x)) (g2 : ∀ x y z, ((((wipe σ vs).set j1 (some x)).set j2 (some y)).set j3 (some z))[j2]? = some (some y)) (g3 : ∀ x y z, ((((wipe σ vs).set j1 (some x)).set j2 (some y)).set j3 (some z))[j3]? = some (some z)) :
    EvX (tLc (iList K (tVar i)) (gTup K 3 (gCons (gName j1) (gCons (gName j2) (gCons (gName j3) gNil)))) (tTest (tOp rEq (tVar j1) (tC (.str w)))) (tTup (tCons (tVar j2) (tCons (tVar j3) tNil))) vs) σ H (PL ((ofWord w fs).map nmK)) := by
  rw [← ofWord_up]
  refine exl_lc3 (isWord w) (fun x => [x.2.1, x.2.2]) (ev_var h) (by rw [fl3_list]; exact hq) (by rw [List.length_map]; omega) hw (fun x H1 e hx => ?_) (fun x H1 e hx _ => eu_tup (ea_cons (ev_var (g2 _ _ _)) (ea_cons (ev_var (g3 _ _ _)) ea_nil)) (by show 2 ≤ 100000; decide))
  obtain ⟨y, _, rfl⟩ := List.mem_map.mp hx
  exact et_test (ev_eqS (ev_var (g1 _ _ _)) ev_c)
end
end HF
set_option maxRecDepth 100000
set_option maxHeartbeats 2000000
namespace HF
open PySem PySem.Spec PyProof.Rows L2
open LamX (CodeO TabS Tabs ExtN TabB inv_table among_app codeO_ne)
/-! ### a lambda of one parameter, that uses no name of the def around it -/
structure Lam where
  params : Arguments
  body : Expr
  scope : Scope
  par : Str
structure LamFine (L : Lam) : Prop where
  sc : FnScope [L.par] [L.par] L.scope
  bind : ∀ (q : Str) (pm cv ctv u : Value), bindArgs (PySem.W.kla_fn "<lambda>" q L.params L.body L.scope [] pm cv ctv) ⟨[u], []⟩ = pure [(L.par, u)]
  df : ∀ env : Env, defaultsOf L.params env = ([], [])
theorem clo_none {cells : List (Str × Addr)} : ∀ {names : List (Str × NameKind)} {acc : List (Str × Addr)}, (∀ y ∈ names, y.2 ≠ .free) → cloFrom cells names acc = acc
  | [], _, _ => rfl
  | (n, k) :: r, acc, h => by
    have hk : (k == NameKind.free) = false := by
      have := h (n, k) List.mem_cons_self
      cases k <;> first | rfl | exact absurd rfl this
    unfold cloFrom
    rw [hk]
    exact clo_none fun y hy => h y (List.mem_cons_of_mem _ hy)
/-- the object of the lambda, its code object at c -/
def lamO (q : Str) (L : Lam) (c f : Addr) : HO := .ext fun h => ∃ pm ctv : Value, h.get? f = some (PySem.W.kla_obj "<lambda>" q L.params L.body L.scope [] pm c ctv)
section
variable {P : Program} {w : World} {K : PySem.W.Frag} {mg : Str → Option Value} {base : Heap}
/-- what the lambda promises of its argument -/
structure LamOk (P : Program) (w : World) (K : PySem.W.Frag) (mg : Str → Option Value) (base : Heap) (k : Nat) (L : Lam) (q : Str) (sp : Sp) : Prop where
  fine : LamFine L
  len : ∀ vs H Q E, sp vs H Q E → vs.length = 1
  walk : ∀ (A : Around) (outer : List Env) (s : Shared) (H : Hp) (v : V) (Q : VK) (E : XK) (f c : Addr), Room k (A.deeper (envOfC q L.scope s.heap.objs.size f (.ref c))) → sp [v] H Q E →
    ∃ te, PE (cxOf (L2.CX P w) P w K mg base [L.par] q L.scope f (.ref c) A outer s H E) L.body te ∧ te (L2.start [L.par] [v]) H Q
theorem lam_run {k : Nat} {L : Lam} {q : Str} {sp : Sp} (LO : LamOk P w K mg base k L q sp) {A : Around} {outer : List Env} {s : Shared} {H : Hp} {u : Value} {v : V} {Q : VK} {E : XK} {f c : Addr} (hr : Room (k + 1) A) (e0 : Env0 P w K mg base A outer s H)
    (hf : H f = some (lamO q L c f)) (hc : H c = some (CodeO c q)) (rv : RelV v u) (h : sp [v] H Q E) : codeAny (model P w) A (.call (.ref f) ⟨[u], []⟩) (CR (L2.CX P w) outer P w H s Q E) s := by
  obtain ⟨⟨pm, ctv, hget⟩, _, _⟩ := e0.hok f _ hf
  obtain ⟨⟨oc, vs, t, hoc, hdc, hvc⟩, _, _⟩ := e0.hok c _ hc
  have lim : s.heap.NoLimit := e0.mod.nolimit.keeps fun b o e => (e0.bs b o e).1
  have S := LO.fine.sc
  have hkind : ∀ y ∈ [(L.par, u)], L.scope.names.lookup y.1 = some .local ∨ (L.scope.names.lookup y.1 = some .cell ∧ ((cellsFrom (s.heap.objs.size + 1) L.scope.names []).lookup y.1).isSome = true) := fun y hy => by
    obtain rfl := List.mem_singleton.mp hy
    rcases S.par L.par (List.mem_singleton.mpr rfl) with z | z
    · exact .inl z
    · exact .inr ⟨z, PySem.W.cellsFrom_some _ _ _ (.inl z)⟩
  refine PySem.W.kla_callFunE hr.depth hget rfl S.co S.gen rfl ⟨c, oc, vs, t, rfl, hoc, hdc, hvc⟩ ?_
  rw [LO.fine.bind]
  refine wpAny_pure (wpAny_newFunctionEnv_cells S.kind hkind fun env he s1 x => ?_)
  subst he
  refine ⟨lim.keeps x.toInCall.keep, PySem.W.kla_codeExpr ?_⟩
  obtain ⟨te, ht, hq⟩ := LO.walk A outer s H v Q E f c (hr.deeper _) h
  have I : Inv (cxOf (L2.CX P w) P w K mg base [L.par] q L.scope f (.ref c) A outer s H E) [] (L2.start [L.par] [v]) H s1 := inv_start (ps := [L.par]) (us := [u]) S hr.hd e0 rfl (.cons rv .nil) x
  refine wpAny_mono (ht.run [] s1 _ H _ I hq) (fun u' s' got => ?_) fun e s' he => he
  obtain ⟨v', H', J, rv', q'⟩ := got
  exact ⟨v', H', J.os, J.bare, J.base, J.hok, rv', q'⟩
end
section
variable {X : Cx} {pins : List (Addr × Obj)} {σ : L2.St} {H : Hp} {s : Shared}
theorem lamO_ok {q : Str} {L : Lam} {c f : Addr} {h : Heap} {pm ctv : Value} (e : h.get? f = some (PySem.W.kla_obj "<lambda>" q L.params L.body L.scope [] pm c ctv)) : ObjOk X.prog X.w H h f (lamO q L c f) :=
  ⟨⟨pm, ctv, e⟩, ⟨_, e⟩, fun _ _ ⟨a, b, z⟩ k => ⟨a, b, k _ z⟩⟩
/-- the making of it: a new object; its code object is new, or the table has it -/
theorem lam_made {q : Str} {c P : Addr} {L : Lam} {pos : Pos} {E : Value → Shared → Prop} {Q : Value → Shared → Prop} (I : Inv X pins σ H s) (fine : LamFine L) (TB : TabB X.base X.mg c P) (hcode : X.env.code = .ref c) (hq : X.env.qual ++ "<lambda>" = q)
    (hT : TabS H P q) (h : ∀ (f c' : Addr) (H1 : Hp) (s' : Shared), Inv X pins σ H1 s' → ExtN H H1 → TabS H1 P q → H f = none → H1 f = some (lamO q L c' f) → H1 c' = some (CodeO c' q) → Q (.ref f) s') :
    wpAny (model X.prog X.w) X.A (eval (.Lambda L.params L.body L.scope pos) X.env) Q E s := by
  obtain ⟨ps, hP, ht, ha⟩ := hT
  refine PySem.W.kla_eval (fine.df _) ?_
  rw [hq]
  have bP : s.heap.BuiltinsAt X.mg P := TB.bm.keeps I.bk
  have hP' : s.heap.get? P = some { cls := .none, data := .fields ps } := I.hok P _ hP
  have hcl : closureFor L.scope X.env = pure [] := by
    have := closure_ok (scope := L.scope) (env := X.env) (fun y hy e => absurd e (fine.sc.nofree y hy))
    rw [clo_none fine.sc.nofree] at this
    exact this
  cases hc : codeAmong pos ps.toList with
  | none =>
    refine PySem.W.kla_makeFunction (mg := X.mg) (c := c) (P := P) (ps := ps) hcl I.ok.glob (I.mod.glob.keeps I.bk) hcode (TB.code.keeps I.bk) hP' ht hc TB.gP bP fun c' ctv h' tk hx hge hlt hrec htb => ?_
    obtain ⟨c2, oc, vs, t, e2, hoc, hd, hv⟩ := hrec
    cases e2
    have hsz : s.heap.objs.size ≤ h'.objs.size := Nat.le_trans hge (Nat.le_of_lt hlt)
    have nC : H c' = none := I.hok.fresh hge
    have I1 := inv_table (t' := tk) (q := q) (more := #[rawInt pos.line, rawInt pos.col, .ref c']) (h' := h') I hP hx htb hge ⟨oc, vs, t, hoc, hd, hv⟩
    have hE : ExtN H (upd (upd H P (.tbl (ps ++ #[rawInt pos.line, rawInt pos.col, .ref c']))) c' (CodeO c' q)) := fun b o e n => by
      rw [upd_ne (ne_of_none e nC), upd_ne (fun z => n ps (Option.some.inj (e.symm.trans (by rw [z]; exact hP))))]
      exact e
    have nF : H h'.objs.size = none := I.hok.fresh hsz
    have n1 : h'.objs.size ≠ c' := Nat.ne_of_gt hlt
    have n2 : h'.objs.size ≠ P := Nat.ne_of_gt (Nat.lt_of_lt_of_le (Heap.lt_size hP') hsz)
    have nF1 : upd (upd H P (.tbl (ps ++ #[rawInt pos.line, rawInt pos.col, .ref c']))) c' (CodeO c' q) h'.objs.size = none := by rw [upd_ne n1, upd_ne n2]; exact nF
    have I2 := I1.laid (a := h'.objs.size) (o := lamO q L c' h'.objs.size) (t' := tk) (h' := h'.push (PySem.W.kla_obj "<lambda>" q L.params L.body L.scope [] ((X.mg "__name__").getD .none) c' ctv)) (fun b o e => Heap.get?_push_of_some _ e) (Nat.le_refl _) (lamO_ok (Heap.get?_push_size _ rfl))
    have up : ∀ b o, upd (upd H P (.tbl (ps ++ #[rawInt pos.line, rawInt pos.col, .ref c']))) c' (CodeO c' q) b = some o → upd (upd (upd H P (.tbl (ps ++ #[rawInt pos.line, rawInt pos.col, .ref c']))) c' (CodeO c' q)) h'.objs.size (lamO q L c' h'.objs.size) b = some o := fun b o e => by
      rw [upd_ne (ne_of_none e nF1)]
      exact e
    have eL : (ps ++ #[rawInt pos.line, rawInt pos.col, .ref c']).toList = ps.toList ++ [rawInt pos.line, rawInt pos.col, .ref c'] := by simp
    refine h h'.objs.size c' _ _ I2 (hE.trans (ExtN.of up)) ?_ nF upd_same (up _ _ upd_same)
    refine (show TabS (upd (upd H P (.tbl (ps ++ #[rawInt pos.line, rawInt pos.col, .ref c']))) c' (CodeO c' q)) P q from ?_).ext up
    refine ⟨_, by rw [upd_ne (ne_of_none hP nC), upd_same], by rw [eL]; exact PySem.TriplesOk_snoc _ _ _ _ ht, fun p' cv hcv => ?_⟩
    rw [eL] at hcv
    rcases among_app _ ht hcv with z | z
    · obtain ⟨c0, e1, e2⟩ := ha p' cv z
      exact ⟨c0, e1, hE _ _ e2 codeO_ne⟩
    · exact ⟨c', z, upd_same⟩
  | some cv =>
    obtain ⟨c', e, hco⟩ := ha pos cv hc
    subst e
    refine PySem.W.kla_makeFunctionHit (mg := X.mg) (c := c) (P := P) (ps := ps) hcl I.ok.glob (I.mod.glob.keeps I.bk) hcode (TB.code.keeps I.bk) hP' ht hc bP fun ctv h' tk hx hsz => ?_
    have nF : H h'.objs.size = none := I.hok.fresh hsz
    have up : ∀ b o, H b = some o → upd H h'.objs.size (lamO q L c' h'.objs.size) b = some o := fun b o e => by
      rw [upd_ne (ne_of_none e nF)]
      exact e
    have I2 := I.laid (a := h'.objs.size) (o := lamO q L c' h'.objs.size) (t' := tk) (h' := h'.push (PySem.W.kla_obj "<lambda>" q L.params L.body L.scope [] ((X.mg "__name__").getD .none) c' ctv)) (fun b o e => Heap.get?_push_of_some _ (hx b o e)) hsz (lamO_ok (Heap.get?_push_size _ rfl))
    exact h h'.objs.size c' _ _ I2 (ExtN.of up) ((show TabS H P q from ⟨ps, hP, ht, ha⟩).ext up) nF upd_same (up _ _ hco)
def tLamE (P : Addr) (q : Str) (L : Lam) : TE := fun _ H Q => TabS H P q ∧ ∀ (f c : Addr) (H1 : Hp), ExtN H H1 → TabS H1 P q → H f = none → H1 f = some (lamO q L c f) → H1 c = some (CodeO c q) → Q (.ref f) H1
theorem pe_lam {q : Str} {c P : Addr} {L : Lam} {pos : Pos} (fine : LamFine L) (TB : TabB X.base X.mg c P) (hcode : X.env.code = .ref c) (hq : X.env.qual ++ "<lambda>" = q) : PE X (.Lambda L.params L.body L.scope pos) (tLamE P q L) :=
  ⟨fun pins s σ H Q I h => lam_made I fine TB hcode hq h.1 fun f c' H1 s' I1 e t n hf hc => ⟨.ref f, H1, I1, rfl, h.2 f c' H1 e t n hf hc⟩⟩
/-- the call of a name that holds one -/
def tLamC (i : Nat) (L : Lam) (q : Str) (sp : Sp) (E : L2.St → XK) (ta : TE) : TE := fun σ H Q => ∃ f c : Addr, σ[i]? = some (some (.ref f)) ∧ H f = some (lamO q L c f) ∧ ta σ H fun v H1 => H1 f = some (lamO q L c f) ∧ H1 c = some (CodeO c q) ∧ sp [v] H1 Q (E σ)
theorem pe_lamC {k i : Nat} {L : Lam} {q x : Str} {sp : Sp} {E : L2.St → XK} {e : Expr} {ta : TE} {p pos : Pos} (LO : LamOk X.prog X.w X.K X.mg X.base k L q sp) (hr : Room (k + 1) X.A) (hN : X.N[i]? = some x) (hv : Vis X.env.scope x) (hx : ∀ σ, PassesAt (L2.CX X.prog X.w) X σ (E σ)) (ha : PE X e ta)
    (hdb : (x == ("__debug__" : Str)) = false := by decide) (hcd : (x == ("__classdict__" : Str)) = false := by decide)
    (he : starEach (e :: []) X.env = (false, eval e X.env) :: starEach [] X.env := by rfl) (hpl : (backTo pos (starEach [] X.env)).any (·.1) = false := by rfl) : PE X (.Call (.Name x p) [e] [] pos) (tLamC i L q sp E ta) := by
  refine ⟨fun pins s σ H Q I h => ?_⟩
  obtain ⟨f, c, hs, hf, ht⟩ := h
  refine wpAny_Call_Name_kw (thn ((pe_var (pos := p) (i := i) hN hv hdb hcd).run pins s σ H (fun v H1 => v = .ref f ∧ H1 = H) I ⟨.ref f, hs, rfl, rfl⟩) fun u s1 ⟨v, H1, I1, r1, q1⟩ => ?_)
  obtain ⟨rfl, rfl⟩ := q1
  cases r1
  obtain ⟨⟨pm, ctv, hget⟩, _, _⟩ := I1.hok f _ hf
  refine PySem.W.callWith_F ⟨_, _, _, _, hget⟩ (thn ((pa_cons ha pa_nil he).run pos pins s1 σ _ (fun vs H2 => H2 f = some (lamO q L c f) ∧ H2 c = some (CodeO c q) ∧ sp vs H2 Q (E σ)) I1 ?_) fun us s2 ⟨vs, H2, I2, r, h1, h2, h3⟩ => ?_) he hpl
  · have ht2 : ta σ H1 fun v H1 => H1 f = some (lamO q L c f) ∧ H1 c = some (CodeO c q) ∧ sp [v] H1 Q (E σ) := ht
    exact ht2
  · obtain ⟨v, rfl⟩ := List.length_eq_one_iff.mp (LO.len _ _ _ _ h3)
    obtain ⟨⟨pm2, ctv2, hget2⟩, _, _⟩ := I2.hok f _ h1
    obtain ⟨u, rfl, ru⟩ := r.one
    refine ⟨⟨_, _, _, _, hget2⟩, wpAny_call (codeAny_mono (lam_run LO hr I2.env0 h1 h2 ru h3) fun res s' hq => ?_)⟩
    cases res with
    | error e => exact hx σ pins H2 s2 e s' I2 hq
    | ok fl =>
      cases fl with
      | ret u => exact I2.after hq
      | next => exact False.elim hq
      | brk => exact False.elim hq
      | cont => exact False.elim hq
end
end HF
set_option maxRecDepth 100000
set_option maxHeartbeats 2000000
namespace HF
open PySem PySem.Spec PyProof.Rows L2 Evl
/-! ### zip of two sources of any kind: a list, a tuple, a text -/
inductive SV where
  | l (p : Addr)
  | t (p : Addr)
  | s (x : Str)
def SV.v : SV → V
  | .l p => .ref p
  | .t p => .ref p
  | .s x => .str x
def signsV (x : Str) : List V := x.cps.toList.map fun c => V.str ⟨#[c]⟩
def SV.has (K : PySem.W.Frag) (H : Hp) : SV → List V → Prop
  | .l p, xs => SqL K H p xs
  | .t p, xs => SqT K H p xs
  | .s x, xs => xs = signsV x
def SV.st (tk : Tok) (it : Addr) (i : Nat) (h : Heap) : SV → Prop
  | .l p => h.IsListIter it p i
  | .t p => h.IsTupleIter it p i
  | .s x => h.IsStrIter it (strIterType x) x tk i
def SV.fp (it : Addr) : SV → List Addr
  | .l p => [it, p]
  | .t p => [it, p]
  | .s _ => [it]
theorem SV.obj {tk : Tok} {it : Addr} {i : Nat} {h : Heap} : ∀ {k : SV}, k.st tk it i h → ∃ o, h.get? it = some o ∧ ∀ v, o.data ≠ .cell v
  | .l p, ⟨o, e, _, d⟩ => ⟨o, e, fun v q => by rw [d] at q; cases q⟩
  | .t p, ⟨o, e, _, d⟩ => ⟨o, e, fun v q => by rw [d] at q; cases q⟩
  | .s x, ⟨o, e, _, d⟩ => ⟨o, e, fun v q => by rw [d] at q; cases q⟩
theorem SV.keep {tk : Tok} {it : Addr} {i : Nat} {h h' : Heap} (e : ∀ o, h.get? it = some o → h'.get? it = some o) : ∀ {k : SV}, k.st tk it i h → k.st tk it i h'
  | .l p, ⟨o, a, b⟩ => ⟨o, e o a, b⟩
  | .t p, ⟨o, a, b⟩ => ⟨o, e o a, b⟩
  | .s x, ⟨o, a, b⟩ => ⟨o, e o a, b⟩
theorem iter_ne {hp : Heap} {p it : Addr} {c1 c2 : String} (h1 : ∃ o, hp.get? p = some o ∧ o.cls = .type c1) (h2 : ∃ o, hp.get? it = some o ∧ o.cls = .type c2) (ne : c1 ≠ c2) : p ≠ it := fun e => by
  subst e
  obtain ⟨o, a, b⟩ := h1
  obtain ⟨o2, a2, b2⟩ := h2
  rw [a] at a2
  cases a2
  rw [b] at b2
  injection b2 with b2
  exact ne b2
section
variable {X : Cx} {pins : List (Addr × Obj)} {σ : L2.St} {H : Hp} {s : Shared}
theorem SV.inj (I : Inv X pins σ H s) : ∀ {k : SV} {xs ys : List V}, k.has X.K H xs → k.has X.K H ys → xs = ys
  | .l p, _, _, a, b => I.list_inj a b
  | .t p, _, _, a, b => I.tuple_inj a b
  | .s x, _, _, a, b => by rw [show _ = _ from a, show _ = _ from b]
theorem SV.draws (I : Inv X pins σ H s) {A : Around} (hh : A.handled = none) {tk : Tok} {it : Addr} {i : Nat} : ∀ {k : SV} {xs : List V}, k.has X.K H xs → k.st tk it i s.heap →
    ∃ (Pr : Nat → Value → Prop) (St : Nat → Heap → Prop), Draws X.prog X.w A it (k.fp it) xs.length Pr St ∧ St i s.heap ∧ (∀ j v, Pr j v → ∃ y, xs[j]? = some y ∧ RelV y v) ∧ ∀ j h', St j h' → k.st tk it j h'
  | .l p, xs, h, st => by
    obtain ⟨its, rv, pl, _⟩ := I.list h
    have ne : p ≠ it := by
      obtain ⟨o, o1, o2, _⟩ := pl.isList
      obtain ⟨o3, q1, q2, _⟩ := (show s.heap.IsListIter it p i from st)
      exact iter_ne ⟨o, o1, o2⟩ ⟨o3, q1, q2⟩ (by decide)
    have ln : xs.length = its.toArray.size := by rw [rv.length]; rfl
    refine ⟨_, _, ln ▸ Draws.list hh it p ne its.toArray, ⟨st, pl.isList⟩, fun j v hv => ?_, fun j h' z => z.1⟩
    have hv' : its[j]? = some v := by simpa using hv
    have hj : j < xs.length := by rw [rv.length]; exact (List.getElem?_eq_some_iff.mp hv').1
    obtain ⟨u, hu, ru⟩ := rv.get (List.getElem?_eq_getElem hj)
    rw [hv'] at hu
    cases hu
    exact ⟨_, List.getElem?_eq_getElem hj, ru⟩
  | .t p, xs, h, st => by
    obtain ⟨its, rv, pl, _⟩ := I.tuple h
    have pt : s.heap.IsTuple p its.toArray := pl
    have ne : p ≠ it := by
      obtain ⟨o, o1, o2, _⟩ := pt
      obtain ⟨o3, q1, q2, _⟩ := (show s.heap.IsTupleIter it p i from st)
      exact iter_ne ⟨o, o1, o2⟩ ⟨o3, q1, q2⟩ (by decide)
    have ln : xs.length = its.toArray.size := by rw [rv.length]; rfl
    refine ⟨_, _, ln ▸ Draws.tuple hh it p ne its.toArray, ⟨st, pt⟩, fun j v hv => ?_, fun j h' z => z.1⟩
    have hv' : its[j]? = some v := by simpa using hv
    have hj : j < xs.length := by rw [rv.length]; exact (List.getElem?_eq_some_iff.mp hv').1
    obtain ⟨u, hu, ru⟩ := rv.get (List.getElem?_eq_getElem hj)
    rw [hv'] at hu
    cases hu
    exact ⟨_, List.getElem?_eq_getElem hj, ru⟩
  | .s x, xs, h, st => by
    obtain rfl : xs = signsV x := h
    have ln : (signsV x).length = x.cps.size := by unfold signsV; rw [List.length_map, Array.length_toList]
    refine ⟨_, _, ln ▸ Draws.text hh it x tk, st, fun j v hv => ?_, fun j h' z => z⟩
    obtain ⟨c, u, e1, rfl⟩ := hv
    refine ⟨.str ⟨#[c]⟩, ?_, u, rfl⟩
    unfold signsV
    rw [List.getElem?_map, Array.getElem?_toList, e1]
    rfl
end
/-- two sources as they stand at each turn, the items in new pairs -/
def ItzS (K : PySem.W.Frag) (a b : SV) : It :=
  ⟨fun i H => ∃ (xs ys : List V) (x y : V), a.has K H xs ∧ b.has K H ys ∧ xs[i]? = some x ∧ ys[i]? = some y,
    fun i H v H' => ∃ T x y, v = .ref T ∧ H T = none ∧ H' = upd H T (.tup [x, y]) ∧ (∀ xs, a.has K H xs → xs[i]? = some x) ∧ ∀ ys, b.has K H ys → ys[i]? = some y,
    fun i H => ∃ xs ys : List V, a.has K H xs ∧ b.has K H ys ∧ i ≤ xs.length ∧ i ≤ ys.length ∧ (i = xs.length ∨ i = ys.length)⟩
theorem turn_zipS {P : Program} {w : World} {K : PySem.W.Frag} {elts : List Expr} {kk : Nat} {tpos : Pos} {a b : SV} {t1 t2 : Tok} {z TI TO i1 i2 : Addr} (D : ZipSep2 z TI TO i1 i2 (a.fp i1) (b.fp i2)) :
    Turn P w K (.Tuple elts kk tpos) (ItzS K a b) [z, TI, TO, i1, i2] z (fun i h => IsZip h z TI TO .none ∧ IsTupOf2 h TI (.ref i1) (.ref i2) ∧ (∃ x y, IsTupOf2 h TO x y) ∧ a.st t1 i1 i h ∧ b.st t2 i2 i h) where
  mem := by simp
  obj := fun i h st c hc => by
    obtain ⟨hz, hTI, ⟨x, y, hTO⟩, s1, s2⟩ := st
    have e' : c = z ∨ c = TI ∨ c = TO ∨ c = i1 ∨ c = i2 := by simpa using hc
    rcases e' with q | q | q | q | q
    · rw [q]; exact ⟨_, hz, fun v q => nomatch q⟩
    · rw [q]; exact ⟨_, hTI, fun v q => nomatch q⟩
    · rw [q]; exact ⟨_, hTO, fun v q => nomatch q⟩
    · rw [q]; exact SV.obj s1
    · rw [q]; exact SV.obj s2
  keep := fun i h h' st k => by
    obtain ⟨hz, hTI, ⟨x, y, hTO⟩, s1, s2⟩ := st
    exact ⟨k z (by simp) _ hz, k TI (by simp) _ hTI, ⟨x, y, k TO (by simp) _ hTO⟩, SV.keep (fun o q => k i1 (by simp) o q) s1, SV.keep (fun o q => k i2 (by simp) o q) s2⟩
  item := by
    intro X hP hw hK hc i pins s σ H E I hf st hg
    subst hP hw hK
    obtain ⟨hz, hTI, ⟨x0, y0, hTO⟩, s1, s2⟩ := st
    obtain ⟨xs, ys, x, y, hqx, hqy, hx, hy⟩ := hg
    obtain ⟨P1, S1, d1, c1, r1, k1⟩ := SV.draws I (A := X.A.in1) (by simp [I.ok.hd hc]) hqx s1
    obtain ⟨P2, S2, d2, c2, r2, k2⟩ := SV.draws I (A := X.A.in1) (by simp [I.ok.hd hc]) hqy s2
    have hzl : z < s.heap.objs.size := Heap.lt_size hz
    refine wpAny_pyNext_zipD2_item D d1 d2 hz hTI hTO c1 c2 (List.getElem?_eq_some_iff.mp hx).1 (List.getElem?_eq_some_iff.mp hy).1 fun u u2 h' tk y1 y2 z' TO' g1 g2 hT hsz hk => ?_
    obtain ⟨x', ex, ru⟩ := r1 _ _ y1
    obtain ⟨y', ey, ru2⟩ := r2 _ _ y2
    rw [hx] at ex
    rw [hy] at ey
    cases ex
    cases ey
    refine ⟨_, rfl, wpAny_letOwnedTupleGo_zip (s := { s with heap := h', toks := tk }) z' fun h'' z'' sb => ?_⟩
    have hT2 : h''.get? s.heap.objs.size = some { cls := .type "tuple", data := .seq #[u, u2] } := (sb.2 _ (Nat.ne_of_gt hzl)).trans hT
    have new : ObjOk X.prog X.w (upd H s.heap.objs.size (.tup [x, y])) h'' s.heap.objs.size (.tup [x, y]) :=
      ⟨by show 2 ≤ sizeLine; decide, [u, u2], .cons ru (.cons ru2 .nil), ⟨_, hT2, rfl, _, rfl⟩⟩
    have I1 : Inv X pins σ (upd H s.heap.objs.size (.tup [x, y])) { s with heap := h'', toks := tk } :=
      I.turnedNew (t' := tk) (ch := [z, TI, TO, i1, i2]) (fun c o hb q => (sb.2 c (fun q' => hb (by simp [q']))).trans (hk c o (fun q' => hb (by simp [q'])) (fun q' => hb (by simp [q'])) (fun q' => hb (by simp [q'])) (fun q' => hb (by simp [q'])) q)) hf (Nat.le_refl _) new
    refine ⟨.ref s.heap.objs.size, _, I1, rfl, ⟨_, x, y, rfl, I.hok.fresh (Nat.le_refl _), rfl, fun l hl => by rw [SV.inj I hl hqx]; exact hx, fun l hl => by rw [SV.inj I hl hqy]; exact hy⟩, ⟨z'', ?_, ⟨u, u2, ?_⟩, ?_, ?_⟩, fun c hcm => ?_⟩
    · exact (sb.2 _ D.TIz).trans (hk _ _ D.TIz D.TITO D.TIi1 D.TIi2 hTI)
    · exact (sb.2 _ D.TOz).trans TO'
    · exact SV.keep (fun o q => (sb.2 _ (Ne.symm D.zi1)).trans q) (k1 _ _ g1)
    · exact SV.keep (fun o q => (sb.2 _ (Ne.symm D.zi2)).trans q) (k2 _ _ g2)
    · have hlt : c < s.heap.objs.size := by
        have e' : c = z ∨ c = TI ∨ c = TO ∨ c = i1 ∨ c = i2 := by simpa using hcm
        rcases e' with q | q | q | q | q
        · rw [q]; exact hzl
        · rw [q]; exact Heap.lt_size hTI
        · rw [q]; exact Heap.lt_size hTO
        · rw [q]; obtain ⟨_, e1, _⟩ := SV.obj s1; exact Heap.lt_size e1
        · rw [q]; obtain ⟨_, e2, _⟩ := SV.obj s2; exact Heap.lt_size e2
      rw [upd_ne (Nat.ne_of_lt hlt)]
      exact (hf c hcm).1
  done := by
    intro X hP hw hK hc i pins s σ H E I hf st hg
    subst hP hw hK
    obtain ⟨hz, hTI, ⟨x0, y0, hTO⟩, s1, s2⟩ := st
    obtain ⟨xs, ys, hqx, hqy, l1, l2, he⟩ := hg
    obtain ⟨P1, S1, d1, c1, r1, k1⟩ := SV.draws I (A := X.A.in1) (by simp [I.ok.hd hc]) hqx s1
    obtain ⟨P2, S2, d2, c2, r2, k2⟩ := SV.draws I (A := X.A.in1) (by simp [I.ok.hd hc]) hqy s2
    exact wpAny_pyNext_zipD2_end D d1 d2 hz hTI hTO c1 c2 l1 l2 he fun h' tk hk => ⟨rfl, I.turnedL (t' := tk) (ch := [z, TI, TO, i1, i2]) (fun c o hb q =>
      hk c o (fun q' => hb (by simp [q'])) (fun q' => hb (by simp [q'])) (fun q' => hb (by simp [q'])) (fun q' => hb (by simp [q'])) q) hf⟩
  self := fun A i s Q E st h => wpAny_pyIter_zip st.1 h
/-- a source begins -/
theorem SV.begins {X : Cx} {pins : List (Addr × Obj)} {σ : L2.St} {H : Hp} {s : Shared} (I : Inv X pins σ H s) : ∀ {k : SV} {xs : List V} {u : Value}, k.has X.K H xs → RelV k.v u →
    ∃ (tk : Tok) (o : Obj) (Hs : Heap → Prop), Begins u o Hs ∧ Hs s.heap ∧ (∀ (h : Heap) (it : Addr), h.get? it = some o → k.st tk it 0 h) ∧ ∃ rest, (∀ it, k.fp it = it :: rest) ∧ ∀ b ∈ rest, b < s.heap.objs.size
  | .l p, xs, u, h, r => by
    obtain ⟨its, rv, pl, _⟩ := I.list h
    cases (show u = Value.ref p from r)
    refine ⟨0, _, _, begins_list p its.toArray, pl.isList, fun h it e => ⟨_, e, rfl, rfl⟩, [p], fun _ => rfl, fun b hb => ?_⟩
    cases List.mem_singleton.mp hb
    exact pl.lt
  | .t p, xs, u, h, r => by
    obtain ⟨its, rv, pl, _⟩ := I.tuple h
    cases (show u = Value.ref p from r)
    refine ⟨0, _, _, begins_tuple p its.toArray, pl, fun h it e => ⟨_, e, rfl, rfl⟩, [p], fun _ => rfl, fun b hb => ?_⟩
    cases List.mem_singleton.mp hb
    obtain ⟨o, ho, _⟩ := pl
    exact Heap.lt_size ho
  | .s x, xs, u, h, r => by
    obtain ⟨t, rfl⟩ := (show ∃ t, u = Value.str x t from r)
    exact ⟨t, _, _, begins_text x t, trivial, fun h it e => ⟨_, e, rfl, rfl⟩, [], fun _ => rfl, fun b hb => by cases hb⟩
def iZipS (K : PySem.W.Frag) (ta : TA) : TI := fun σ H R => ta σ H fun vs H1 => ∃ (a b : SV) (xs ys : List V), vs = [a.v, b.v] ∧ a.has K H1 xs ∧ b.has K H1 ys ∧ R (ItzS K a b) H1
theorem pi_zipS {X : Cx} {e e2 : Expr} {ta : TA} {p pos tpos : Pos} {elts : List Expr} {kk : Nat} (hg : Gl X "zip") (hm : X.mg "zip" = none) (ha : PA X [e, e2] ta)
    (hs : starEach [e, e2] X.env = (false, eval e X.env) :: starEach [e2] X.env := by rfl) (hpl : (backTo pos (starEach [e2] X.env)).any (·.1) = false := by rfl) :
    PI X (.Tuple elts kk tpos) (.Call (.Name "zip" p) [e, e2] [] pos) (iZipS X.K ta) := by
  refine ⟨fun pins s σ H R I h => ?_⟩
  refine Call_ (ld_blt I hg hm PyProof.Rows.boot_zip (PyProof.Rows.callWith_type1 (thn (ha.run pos pins s σ H _ I h) fun us s1 ⟨vs, H1, I1, r1, q1⟩ => ?_) hs hpl))
  obtain ⟨a, b, xs, ys, ex, hqx, hqy, q⟩ := q1
  subst ex
  cases r1 with
  | cons r rr =>
    cases rr with
    | cons r' rr =>
      cases rr
      have fresh5 : ∀ c, c ∈ [s1.heap.objs.size + 4, s1.heap.objs.size + 2, s1.heap.objs.size + 3, s1.heap.objs.size, s1.heap.objs.size + 1] → FpOk X pins H1 c := fun c hcm => by
        have e' : c = s1.heap.objs.size + 4 ∨ c = s1.heap.objs.size + 2 ∨ c = s1.heap.objs.size + 3 ∨ c = s1.heap.objs.size ∨ c = s1.heap.objs.size + 1 := by simpa using hcm
        have hle : s1.heap.objs.size ≤ c := by
          rcases e' with z | z | z | z | z
          · rw [z]; exact Nat.le_add_right _ _
          · rw [z]; exact Nat.le_add_right _ _
          · rw [z]; exact Nat.le_add_right _ _
          · rw [z]; exact Nat.le_refl _
          · rw [z]; exact Nat.le_add_right _ _
        exact I1.fpOk hle (I1.hok.fresh hle)
      obtain ⟨t1, o1, Hs1, B1, g1, st1, rest1, f1, lt1⟩ := SV.begins I1 hqx r
      obtain ⟨t2, o2, Hs2, B2, g2, st2, rest2, f2, lt2⟩ := SV.begins I1 hqy r'
      refine zip_begins2 B1 B2 g1 g2 fun h' hz hTI hTO h1 h2 hsz hk => wpAny_pyIter_zip hz ?_
      have I2 : Inv X pins σ H1 { s1 with heap := h' } := I1.kept (t' := s1.toks) hk
      have D := zip_sep2 (N := s1.heap.objs.size) lt1 lt2
      rw [← f1, ← f2] at D
      exact ⟨s1.heap.objs.size + 4, [s1.heap.objs.size + 4, s1.heap.objs.size + 2, s1.heap.objs.size + 3, s1.heap.objs.size, s1.heap.objs.size + 1], _, _, H1, rfl, I2, turn_zipS (t1 := t1) (t2 := t2) D, ⟨hz, hTI, ⟨_, _, hTO⟩, st1 _ _ h1, st2 _ _ h2⟩, fresh5, q⟩
theorem walk_zipS {K : PySem.W.Frag} {a b : SV} {xs ys : List V} {n : Nat} (hn : n = min xs.length ys.length) : Walk (ItzS K a b) n (fun H => a.has K H xs ∧ b.has K H ys) (YPair (fun i => xs[i]?) (fun i => ys[i]?)) := by
  subst hn
  refine ⟨fun i _ hi q => ?_, fun _ q => ⟨xs, ys, q.1, q.2, by omega, by omega, by omega⟩, fun i H v H' _ q y => ?_⟩
  · have h1 : i < xs.length := by omega
    have h2 : i < ys.length := by omega
    exact ⟨xs, ys, xs[i], ys[i], q.1, q.2, by simp [h1], by simp [h2]⟩
  · obtain ⟨T, x, z, h1, h2, h3, h4, h5⟩ := y
    exact ⟨T, x, z, h1, h2, h3, h4 xs q.1, h5 ys q.2⟩
theorem SV.mono {K : PySem.W.Frag} {H H' : Hp} (e : Ex H H') : ∀ {k : SV} {xs : List V}, k.has K H xs → k.has K H' xs
  | .l p, xs, h => ex_l e h
  | .t p, xs, h => ex_t e h
  | .s x, xs, h => h
end HF
set_option maxRecDepth 100000
set_option maxHeartbeats 1000000
namespace HF
open PySem L2 Evl
open PySem.W (EachIs)
theorem q_takeN {σ : L2.St} {H : Hp} {D : Ends} {tz : TS} {b : Addr} {n i i0 : Nat} {m : Int} (h0 : σ[i0]? = some (some (.ref b))) (hb : BoxAt H b n) (hn : n ≤ 1000000) (m0 : 0 < m) (m1 : m < 1073741824) (k : ∀ (d : Nat) H2, (d : Int) < m → KeepB b H H2 → BoxAt H2 b (n + 1) → tz D (σ.set i (some (.int (d : Int)))) H2) :
    tSeq (tAsg (tCall spTake [] E0 (tCons (tVar i0) (tCons (tC (.int m)) tNil))) (gName i)) tz D σ H := ⟨_, h0, b, m, n, rfl, hb, hn, m0, m1, fun d H2 hd k2 b2 => k d H2 hd k2 b2⟩
theorem ev_ixB6 {K : PySem.W.Frag} {te : TE} {σ : L2.St} {H : Hp} {l : Addr} {xs : List V} {v : V} {n : Nat} (h : Ev te σ H (.ref l)) (hl : H l = some (.lst xs)) (hn : xs[n]? = some v) : Ev (tOp (rIxL K) te (tC (.int (n : Int)))) σ H v := fun H1 e Q q => h H1 e _ fun H2 e2 => ⟨l, xs, (n : Int), v, rfl, rfl, sq_of ((e.trans e2) _ _ hl), atI_nat hn, q H2 e2⟩
def EvUs (ta : TA) (σ : L2.St) (H : Hp) (xss : List (List V)) : Prop := ∀ H1, Ex H H1 → ∀ Q : List V → Hp → Prop, (∀ ps H2, Ex H1 H2 → EachIs (fun p xs => H2 p = some (.tup xs)) ps xss → Q (refsV ps) H2) → ta σ H1 Q
theorem eus_nil {σ : L2.St} {H : Hp} : EvUs tNil σ H [] := fun H1 _ Q q => q [] H1 (Ex.refl _) .nil
theorem eus_cons {te : TE} {ta : TA} {σ : L2.St} {H : Hp} {xs : List V} {xss : List (List V)} (h : EvU te σ H xs) (t : EvUs ta σ H xss) : EvUs (tCons te ta) σ H (xs :: xss) := fun H1 e Q q =>
  h H1 e _ fun p H2 hp e2 h2 => t H2 (e.trans e2) _ fun ps H3 e3 h3 => q (p :: ps) H3 (e2.trans e3) (.cons (e3 _ _ h2) h3)
theorem t_ofU {σ : L2.St} {H : Hp} {ta : TA} {b : Addr} {n i : Nat} {Q : VK} {xss : List (List V)} (h0 : σ[i]? = some (some (.ref b))) (hl : EvUs ta σ H xss) (hb : BoxAt H b n) (hn : n ≤ 1000000) (ne : xss ≠ []) (hz : xss.length ≤ 1000)
    (k : ∀ p xs H2, xs ∈ xss → H2 p = some (.tup xs) → KeepB b H H2 → BoxAt H2 b (n + 1) → Q (.ref p) H2) : tCall spOf [] E0 (tCons (tVar i) (tCons (tLst ta) tNil)) σ H Q := by
  refine ⟨_, h0, hl H (Ex.refl H) _ fun ps H1 e1 hp => ?_⟩
  have pl : ps.length = xss.length := each_len hp
  have rl : (refsV ps).length = xss.length := by unfold refsV; rw [List.length_map, pl]
  refine ⟨sz_of (by rw [rl]; omega), fun l hl0 => ?_⟩
  have b1 := hb.mono e1
  have nl : l ≠ b := box_ne b1 hl0
  refine ⟨b, l, refsV ps, n, rfl, b1.upd nl, hn, upd_same, nl, fun z => ?_, by rw [rl]; exact hz, fun d x H2 hx k2 b2 => ?_⟩
  · rw [z] at rl
    exact ne (List.eq_nil_of_length_eq_zero rl.symm)
  · unfold refsV at hx
    rw [List.getElem?_map] at hx
    obtain ⟨p, hpd, rfl⟩ : ∃ p, ps[d]? = some p ∧ V.ref p = x := by
      cases z : ps[d]? with
      | none => rw [z] at hx; cases hx
      | some a => rw [z] at hx; exact ⟨a, rfl, Option.some.inj hx⟩
    obtain ⟨xs, hxs, ht⟩ := each_at hp hpd
    have np : p ≠ b := fun z => by
      obtain ⟨u, v, x, hb1, _⟩ := b1
      rw [z, hb1] at ht
      cases ht
    exact k p xs H2 (List.mem_of_getElem? hxs) (k2 p _ np (Ex.new hl0 _ _ ht)) ((KeepB.ex (e1.trans (Ex.new hl0))).trans k2) b2
section
variable {K : PySem.W.Frag} {σ : L2.St} {H : Hp} {te ta tb : TE}
/-- a list, new or not -/
def EvR (te : TE) (σ : L2.St) (H : Hp) (xs : List V) : Prop := ∀ H1, Ex H H1 → ∀ Q : VK, (∀ p H2, Ex H1 H2 → H2 p = some (.lst xs) → Q (.ref p) H2) → te σ H1 Q
theorem er_l {xs : List V} (h : EvL te σ H xs) : EvR te σ H xs := fun H1 e Q q => h H1 e _ fun p H2 _ e2 h2 => q p H2 e2 h2
theorem er_v {xs : List V} {i : Nat} {p : Addr} (h : σ[i]? = some (some (.ref p))) (hp : H p = some (.lst xs)) : EvR (tVar i) σ H xs := fun H1 e Q q => ⟨_, h, q p H1 (Ex.refl _) (e _ _ hp)⟩
theorem el_cat {xs ys : List V} (ha : EvR ta σ H xs) (hb : EvR tb σ H ys) (hz : xs.length + ys.length ≤ 100000) : EvL (tOp rCat ta tb) σ H (xs ++ ys) := fun H1 e Q q =>
  ha H1 e _ fun p H2 e2 h2 => hb H2 (e.trans e2) _ fun r H3 e3 h3 => ⟨p, r, xs, ys, rfl, rfl, e3 _ _ h2, h3, sz_of hz, fun d hd => q d _ (fresh_back (e2.trans e3) hd) ((e2.trans e3).trans (Ex.new hd)) upd_same⟩
theorem el_repN {x : V} {m : Nat} (ha : EvR ta σ H [x]) (hb : Ev tb σ H (.int (m : Int))) (hm : m ≤ 1000) : EvL (tOp rRep ta tb) σ H (List.replicate m x) := fun H1 e Q q =>
  ha H1 e _ fun p H2 e2 h2 => hb H2 (e.trans e2) _ fun H3 e3 => ⟨p, (m : Int), [x], rfl, rfl, e3 _ _ h2, by omega, by omega, sz_of (by
    show 1 * ((m : Int)).toNat ≤ 100000
    rw [Int.toNat_natCast]
    omega), fun d hd => q d _ (fresh_back (e2.trans e3) hd) ((e2.trans e3).trans (Ex.new hd)) (by
    rw [upd_same, Int.toNat_natCast]
    have : ∀ k : Nat, (List.replicate k [x]).flatten = List.replicate k x := fun k => by
      induction k with
      | zero => rfl
      | succ k ih => rw [List.replicate_succ, List.flatten_cons, ih]; rfl
    rw [this])⟩
theorem el_slR {xs : List V} {hi : Int} (ha : EvR te σ H xs) (hb : Ev tb σ H (.int hi)) : EvL (tSl (rSlL K) te tNoPart (tPart tb)) σ H (cutV xs none (some hi)) := fun H1 e Q q =>
  ha H1 e _ fun p H2 e2 h2 => hb H2 (e.trans e2) _ fun H3 e3 => ⟨hi, rfl, p, xs, rfl, sq_of (e3 _ _ h2), fun d hd => q d _ (fresh_back (e2.trans e3) hd) ((e2.trans e3).trans (Ex.new hd)) upd_same⟩
def rJoinL (K : PySem.W.Frag) : V → List V → Hp → VK → Prop := fun x xs H Q => ∃ a p, ∃ ys : List Str, x = .str a ∧ xs = [.ref p] ∧ (SqL K H p (ys.map V.str) ∨ SqT K H p (ys.map V.str)) ∧ (ys.map (·.length)).sum + ys.length * a.length ≤ 16777216 ∧ Q (.str (Txt.join a ys)) H
theorem ev_joinR {a : Str} {ys : List Str} (h : EvR te σ H (strsV ys)) (hz : (ys.map (·.length)).sum + ys.length * a.length ≤ 16777216) : Ev (tM1 (rJoinL K) (tC (.str a)) te) σ H (.str (Txt.join a ys)) := fun H1 e Q q =>
  ⟨⟨_, rfl⟩, h H1 e _ fun p H2 e2 h2 => ⟨a, p, ys, rfl, rfl, Or.inl (sq_of h2), hz, q H2 e2⟩⟩
def EvLs (ta : TA) (σ : L2.St) (H : Hp) (xss : List (List V)) : Prop := ∀ H1, Ex H H1 → ∀ Q : List V → Hp → Prop, (∀ ps H2, Ex H1 H2 → EachIs (fun p xs => H2 p = some (.lst xs) ∧ H1 p = none) ps xss → Q (refsV ps) H2) → ta σ H1 Q
theorem els_nil : EvLs tNil σ H [] := fun H1 _ Q q => q [] H1 (Ex.refl _) .nil
theorem els_cons {ta : TA} {xs : List V} {xss : List (List V)} (h : EvL te σ H xs) (t : EvLs ta σ H xss) : EvLs (tCons te ta) σ H (xs :: xss) := fun H1 e Q q =>
  h H1 e _ fun p H2 hp e2 h2 => t H2 (e.trans e2) _ fun ps H3 e3 h3 => q (p :: ps) H3 (e2.trans e3) (.cons ⟨e3 _ _ h2, hp⟩ (each_mono (fun a b ⟨c, d⟩ => ⟨c, fresh_back e2 d⟩) h3))
theorem t_ofLs {ta : TA} {b : Addr} {n i : Nat} {Q : VK} {xss : List (List V)} (h0 : σ[i]? = some (some (.ref b))) (hl : EvLs ta σ H xss) (hb : BoxAt H b n) (hn : n ≤ 1000000) (ne : xss ≠ []) (hz : xss.length ≤ 1000)
    (k : ∀ p xs H2, xs ∈ xss → H2 p = some (.lst xs) → KeepB b H H2 → BoxAt H2 b (n + 1) → Q (.ref p) H2) : tCall spOf [] E0 (tCons (tVar i) (tCons (tLst ta) tNil)) σ H Q := by
  refine ⟨_, h0, hl H (Ex.refl H) _ fun ps H1 e1 hp => ?_⟩
  have pl : ps.length = xss.length := each_len hp
  have rl : (refsV ps).length = xss.length := by unfold refsV; rw [List.length_map, pl]
  refine ⟨sz_of (by rw [rl]; omega), fun l hl0 => ?_⟩
  have b1 := hb.mono e1
  have nl : l ≠ b := box_ne b1 hl0
  refine ⟨b, l, refsV ps, n, rfl, b1.upd nl, hn, upd_same, nl, fun z => ?_, by rw [rl]; exact hz, fun d x H2 hx k2 b2 => ?_⟩
  · rw [z] at rl
    exact ne (List.eq_nil_of_length_eq_zero rl.symm)
  · unfold refsV at hx
    rw [List.getElem?_map] at hx
    obtain ⟨p, hpd, rfl⟩ : ∃ p, ps[d]? = some p ∧ V.ref p = x := by
      cases z : ps[d]? with
      | none => rw [z] at hx; cases hx
      | some a => rw [z] at hx; exact ⟨a, rfl, Option.some.inj hx⟩
    obtain ⟨xs, hxs, ht, hf⟩ := each_at hp hpd
    exact k p xs H2 (List.mem_of_getElem? hxs) (k2 p _ (box_ne hb hf) (Ex.new hl0 _ _ ht)) ((KeepB.ex (e1.trans (Ex.new hl0))).trans k2) b2
theorem ev_isN6 {v : V} (h : Ev te σ H v) : Ev (tOp (fun x y H Q => y = .non ∧ Q (.bl (decide (x = .non))) H) te (tC .non)) σ H (.bl (decide (v = .non))) := fun H1 e Q q => h H1 e _ fun H2 e2 => ⟨rfl, q H2 e2⟩
end
end HF
set_option maxRecDepth 100000
set_option maxHeartbeats 2000000
namespace HF
open PySem L2 Evl
/-! ### the forms of facts -/
def factsL : List (Str × Str) := [("at", "nl"), ("yes", "nl"), ("no", "nl"), ("holds", "nnxv"), ("keeps", "nnv"), ("called", "nn"), ("back", "nn"), ("gives", "nnv"), ("raises", "nnw"), ("needs", "nnx"), ("wants", "nn"), ("reads", "nn")]
def formOf (f : Str) : Option Str := factsL.lookup f
def placesS : List Str := ["0", "1", "2"]
def isPart (t g : Str) : Bool := if g = "n" then isName t else if g = "p" then inS t placesS else if g = "x" then isName t || inS t placesS else isCapital t || (decide (g = "v") && decide (t = "num"))
def isShown (d : PyData) (g : Str) : Bool := if g = "l" then (match d with
  | .int i => decide ((1 : Int) ≤ i) && decide (i ≤ (999999999 : Int))
  | _ => false) else match d with
  | .str t => isPart t g
  | _ => false
def signsS (x : Str) : List Str := x.cps.toList.map fun c => ⟨#[c]⟩
theorem signsV_eq (x : Str) : signsV x = (signsS x).map V.str := by
  unfold signsV signsS
  rw [List.map_map]
  rfl
theorem signsS_len (x : Str) : (signsS x).length = x.length := by
  unfold signsS
  rw [List.length_map, Array.length_toList]
  rfl
def shownAll (ds : List PyData) (g : Str) : Bool := (ds.zip (signsS g)).all fun p => isShown p.1 p.2
def isFact : PyData → Bool
  | .tuple (.str f :: ds) => match formOf f with
    | some g => decide (ds.length = g.length) && shownAll ds g
    | none => false
  | _ => false
/-- the text of a part -/
def partD : PyData → Str
  | .int i => toString i
  | .str s => s
  | _ => ""
def textOfD (ds : List PyData) : Str := Txt.join " " (ds.map partD)
/-! ### kinds of data -/
def intLikeD : PyData → Bool
  | .int _ => true
  | .bool _ => true
  | _ => false
def isIntD : PyData → Bool
  | .int _ => true
  | _ => false
def isBoolD : PyData → Bool
  | .bool _ => true
  | _ => false
def isStrD : PyData → Bool
  | .str _ => true
  | _ => false
def isTupD : PyData → Bool
  | .tuple _ => true
  | _ => false
def txD : PyData → Nat
  | .str s => s.length
  | _ => 0
section
variable {K : PySem.W.Frag} {H : Hp} {v : V} {d : PyData}
theorem rd_isInt (h : RdD H v d) : IsTy K H v "int" (intLikeD d) := by
  cases h with
  | non => exact ⟨.type "NoneType", .base .non, kit_ty (show kitB "NoneType" "int" = some false by decide +kernel)⟩
  | bl b => exact ⟨.type "bool", .base (.bl b), kit_ty (show kitB "bool" "int" = some true by decide +kernel)⟩
  | int i => exact ⟨.type "int", .base (.int i), kit_ty (show kitB "int" "int" = some true by decide +kernel)⟩
  | str s => exact ⟨.type "str", .base (.str s), kit_ty (show kitB "str" "int" = some false by decide +kernel)⟩
  | lst a r => exact ⟨.type "list", .base (.lst a), kit_ty (show kitB "list" "int" = some false by decide +kernel)⟩
  | tup a r => exact ⟨.type "tuple", .base (.tup a), kit_ty (show kitB "tuple" "int" = some false by decide +kernel)⟩
  | dct a r r2 => exact ⟨.type "dict", .base (.dK a), kit_ty (show kitB "dict" "int" = some false by decide +kernel)⟩
theorem rd_isBool (h : RdD H v d) : IsTy K H v "bool" (isBoolD d) := by
  cases h with
  | non => exact ⟨.type "NoneType", .base .non, kit_ty (show kitB "NoneType" "bool" = some false by decide +kernel)⟩
  | bl b => exact ⟨.type "bool", .base (.bl b), kit_ty (show kitB "bool" "bool" = some true by decide +kernel)⟩
  | int i => exact ⟨.type "int", .base (.int i), kit_ty (show kitB "int" "bool" = some false by decide +kernel)⟩
  | str s => exact ⟨.type "str", .base (.str s), kit_ty (show kitB "str" "bool" = some false by decide +kernel)⟩
  | lst a r => exact ⟨.type "list", .base (.lst a), kit_ty (show kitB "list" "bool" = some false by decide +kernel)⟩
  | tup a r => exact ⟨.type "tuple", .base (.tup a), kit_ty (show kitB "tuple" "bool" = some false by decide +kernel)⟩
  | dct a r r2 => exact ⟨.type "dict", .base (.dK a), kit_ty (show kitB "dict" "bool" = some false by decide +kernel)⟩
theorem rd_isStr (h : RdD H v d) : IsTy K H v "str" (isStrD d) := by
  cases h with
  | non => exact ⟨.type "NoneType", .base .non, kit_ty (show kitB "NoneType" "str" = some false by decide +kernel)⟩
  | bl b => exact ⟨.type "bool", .base (.bl b), kit_ty (show kitB "bool" "str" = some false by decide +kernel)⟩
  | int i => exact ⟨.type "int", .base (.int i), kit_ty (show kitB "int" "str" = some false by decide +kernel)⟩
  | str s => exact ⟨.type "str", .base (.str s), kit_ty (show kitB "str" "str" = some true by decide +kernel)⟩
  | lst a r => exact ⟨.type "list", .base (.lst a), kit_ty (show kitB "list" "str" = some false by decide +kernel)⟩
  | tup a r => exact ⟨.type "tuple", .base (.tup a), kit_ty (show kitB "tuple" "str" = some false by decide +kernel)⟩
  | dct a r r2 => exact ⟨.type "dict", .base (.dK a), kit_ty (show kitB "dict" "str" = some false by decide +kernel)⟩
theorem rd_isTup (h : RdD H v d) : IsTy K H v "tuple" (isTupD d) := by
  cases h with
  | non => exact ⟨.type "NoneType", .base .non, kit_ty (show kitB "NoneType" "tuple" = some false by decide +kernel)⟩
  | bl b => exact ⟨.type "bool", .base (.bl b), kit_ty (show kitB "bool" "tuple" = some false by decide +kernel)⟩
  | int i => exact ⟨.type "int", .base (.int i), kit_ty (show kitB "int" "tuple" = some false by decide +kernel)⟩
  | str s => exact ⟨.type "str", .base (.str s), kit_ty (show kitB "str" "tuple" = some false by decide +kernel)⟩
  | lst a r => exact ⟨.type "list", .base (.lst a), kit_ty (show kitB "list" "tuple" = some false by decide +kernel)⟩
  | tup a r => exact ⟨.type "tuple", .base (.tup a), kit_ty (show kitB "tuple" "tuple" = some true by decide +kernel)⟩
  | dct a r r2 => exact ⟨.type "dict", .base (.dK a), kit_ty (show kitB "dict" "tuple" = some false by decide +kernel)⟩
end
/-! ### rules -/
/-- a tuple, new or not -/
def EvRT (te : TE) (σ : L2.St) (H : Hp) (xs : List V) : Prop := ∀ H1, Ex H H1 → ∀ Q : VK, (∀ p H2, Ex H1 H2 → H2 p = some (.tup xs) → Q (.ref p) H2) → te σ H1 Q
/-- the two sources of a zip -/
def EvZ (K : PySem.W.Frag) (ta : TA) (σ : L2.St) (H : Hp) (xs ys : List V) : Prop := ∀ H1, Ex H H1 → ∀ Q : List V → Hp → Prop, (∀ (a b : SV) H2, Ex H1 H2 → a.has K H2 xs → b.has K H2 ys → Q [a.v, b.v] H2) → ta σ H1 Q
theorem cw_new {H H' : Hp} {f : Nat → Bool} {v : Nat → V} {Dl : Addr} {i : Nat} {T : Addr} {o : HO} (p : Cw H f v Dl i H') (hT : H' T = none) : Cw H f v Dl i (upd H' T o) :=
  ⟨p.1, p.2.1.trans (Ex.new hT), by rw [upd_ne (ne_of_none p.2.2 hT)]; exact p.2.2⟩
section
variable {K : PySem.W.Frag} {σ : L2.St} {H : Hp} {te tb : TE} {ta : TA} {xs ys : List V}
theorem ert_v {i : Nat} {p : Addr} (h : σ[i]? = some (some (.ref p))) (hp : H p = some (.tup xs)) : EvRT (tVar i) σ H xs := fun H1 e Q q => ⟨_, h, q p H1 (Ex.refl _) (e _ _ hp)⟩
theorem ert_u (h : EvU te σ H xs) : EvRT te σ H xs := fun H1 e Q q => h H1 e Q fun p H2 _ e2 h2 => q p H2 e2 h2
theorem cut_whole {lo hi : Option Int} (h : HT.sIx xs.length 0 lo = 0 ∧ HT.sIx xs.length xs.length hi = xs.length) : cutV xs lo hi = xs := by
  unfold cutV
  rw [h.1, h.2, List.drop_zero, Nat.sub_zero, List.take_length]
theorem ert_sl {tl th : TO} {lo hi : Option Int} (h : EvRT te σ H xs) (h1 : EvO tl σ H lo) (h2 : EvO th σ H hi) : EvRT (tSl (rSlA K) te tl th) σ H (cutV xs lo hi) := fun H1 e Q q =>
  h H1 e _ fun p H2 e2 hp => h1 H2 (e.trans e2) _ fun H3 e3 => h2 H3 ((e.trans e2).trans e3) _ fun H4 e4 => ⟨p, xs, rfl, st_of (e4 _ _ (e3 _ _ hp)),
    fun z => q p H4 ((e2.trans e3).trans e4) (by rw [cut_whole z]; exact e4 _ _ (e3 _ _ hp)), fun _ r hr => q r _ (((e2.trans e3).trans e4).trans (Ex.new hr)) upd_same⟩
theorem ert_cat (h : EvRT te σ H xs) (h' : EvRT tb σ H ys) (hz : xs.length + ys.length ≤ 100000) : EvRT (tOp (rCatA K) te tb) σ H (xs ++ ys) := fun H1 e Q q =>
  h H1 e _ fun p H2 e2 hp => h' H2 (e.trans e2) _ fun r H3 e3 hr => ⟨p, r, xs, ys, rfl, rfl, st_of (e3 _ _ hp), st_of hr, sz_of hz,
    fun z => q r H3 (e2.trans e3) (by rw [z]; exact hr), fun _ z => q p H3 (e2.trans e3) (by rw [z, List.append_nil]; exact e3 _ _ hp), fun _ _ s hs => q s _ ((e2.trans e3).trans (Ex.new hs)) upd_same⟩
theorem evz_ts {g : Str} {t1 t2 : TE} (h : EvRT t1 σ H xs) (h' : Ev t2 σ H (.str g)) : EvZ K (tCons t1 (tCons t2 tNil)) σ H xs (signsV g) := fun H1 e Q q =>
  h H1 e _ fun p H2 e2 hp => h' H2 (e.trans e2) _ fun H3 e3 => q (.t p) (.s g) H3 (e2.trans e3) (st_of (e3 _ _ hp)) rfl
theorem evz_st {g : Str} {t1 t2 : TE} (h : Ev t1 σ H (.str g)) (h' : EvRT t2 σ H xs) : EvZ K (tCons t1 (tCons t2 tNil)) σ H (signsV g) xs := fun H1 e Q q =>
  h H1 e _ fun H2 e2 => h' H2 (e.trans e2) _ fun p H3 e3 hp => q (.s g) (.t p) H3 (e2.trans e3) rfl (st_of hp)
theorem evz_ls {g : Str} {t1 t2 : TE} (h : EvL t1 σ H xs) (h' : Ev t2 σ H (.str g)) : EvZ K (tCons t1 (tCons t2 tNil)) σ H xs (signsV g) := fun H1 e Q q =>
  h H1 e _ fun p H2 _ e2 hp => h' H2 (e.trans e2) _ fun H3 e3 => q (.l p) (.s g) H3 (e2.trans e3) (sq_of (e3 _ _ hp)) rfl
/-- [.. for x, y in zip(a, b)] of one length -/
theorem el_lcZ {j1 j2 : Nat} {vs : List Nat} (v : Nat → V) (h : EvZ K ta σ H xs ys) (hl : xs.length = ys.length) (hz : xs.length ≤ 40000)
    (hw : ∀ x y, wipe (((wipe σ vs).set j1 (some x)).set j2 (some y)) vs = wipe σ vs)
    (he : ∀ (i : Nat) (x y : V) H1, Ex H H1 → xs[i]? = some x → ys[i]? = some y → Ev te (((wipe σ vs).set j1 (some x)).set j2 (some y)) H1 (v i)) :
    EvL (tLc (iZipS K ta) (gTup K 2 (gCons (gName j1) (gCons (gName j2) gNil))) tYes te vs) σ H (given xs.length (fun _ => true) v) := fun H0 e Q q =>
  h H0 e _ fun a b H1 e1 ha hb => ⟨a, b, xs, ys, rfl, ha, hb, fun Dl hD =>
    lc_it (walk_zipS (n := xs.length) (by omega)) (Cw H1 (fun _ => true) v Dl) ⟨hD, Ex.new hD, upd_same⟩ (fun i H' _ p => ⟨SV.mono p.2.1 ha, SV.mono p.2.1 hb⟩) (fun i x H2 H' hi p y => by
      obtain ⟨T, x1, y1, rfl, hT, rfl, hx, hy⟩ := y
      exact ⟨T, [x1, y1], rfl, st_of upd_same, rfl, _, _, rfl, _, _, rfl, rfl, hw _ _, cw_turn (cw_new p hT) (by omega) et_nil fun _ => he i x1 y1 H1 (e.trans e1) hx hy⟩)
    (fun H' p => q Dl H' (fresh_back e1 p.1) (e1.trans p.2.1) p.2.2)⟩
end
/-- all over two lists of one length -/
theorem all_zip {α β : Type} (p : α → β → Bool) (d : α) (e : β) : ∀ (l : List α) (m : List β), l.length = m.length → ((List.range l.length).map fun i => p (l.getD i d) (m.getD i e)).all id = (l.zip m).all fun x => p x.1 x.2
  | [], m, _ => rfl
  | a :: l, [], h => by cases h
  | a :: l, b :: m, h => by
    have ih := all_zip p d e l m (Nat.succ.inj h)
    rw [List.length_cons, List.range_succ_eq_map, List.map_cons, List.map_map, List.all_cons, List.zip_cons_cons, List.all_cons, ← ih]
    rfl
end HF
set_option maxRecDepth 100000
set_option maxHeartbeats 2000000
namespace HF
open PySem L2 Evl
structure TxFact (K : PySem.W.Frag) (w : World) (mg : Str → Option Value) : Prop where
  isint : Dfn K mg "is_integer" s_is_integer
  part : Dfn K mg "is_part" s_is_part
  shown : Dfn K mg "is_shown" s_is_shown
  show_ : Dfn K mg "show_fact" s_show_fact
  written : Dfn K mg "is_written" s_is_written
  parts : Dfn K mg "parts_read" s_parts_read
  read_ : Dfn K mg "read_fact" s_read_fact
  most : ∃ t, mg "MOST_LINE" = some (.int 999999999 t)
  num : ∃ t, mg "NUM" = some (.str "num" t)
  places : ∃ a, mg "PLACES" = some (.ref a) ∧ ∀ H, SqT K H a (strsV placesS)
  facts : ∃ d es n, mg "FACTS" = some (.ref d) ∧ KDict K w d es n ∧ (∀ x g, formOf x = some g → ∃ t, PySem.W.nsIn K d x = some (some (.str g t))) ∧ ∀ x, formOf x = none → PySem.W.nsIn K d x = some none
  isi : mg "isinstance" = none
  str : mg "str" = none
  int : mg "int" = none
  bool : mg "bool" = none
  tuple : mg "tuple" = none
  list : mg "list" = none
  zip : mg "zip" = none
  len : mg "len" = none
  all : mg "all" = none
theorem pe_gi {X : Cx} {x : Str} {i : Int} {pos : Pos} (hm : ∃ t, X.mg x = some (.int i t)) (hg : Gl X x := by rfl) (hdb : (x == ("__debug__" : Str)) = false := by decide) : PE X (.Name x pos) (tC (.int i)) := by
  obtain ⟨t, hm⟩ := hm
  exact pe_glob hg hm (v := .int i) ⟨t, rfl⟩ hdb
section
variable {K : PySem.W.Frag} {σ : L2.St} {H : Hp} {te ta : TE}
theorem ev_notV {b : Bool} (h : Ev te σ H (.bl b)) : Ev (tNotV te) σ H (.bl (!b)) := fun H1 e Q q => h H1 e _ fun H2 e2 => ⟨b, rfl, q H2 e2⟩
theorem ev_inT {n : Str} {l : List Str} {a : Addr} (h : Ev te σ H (.str n)) (hq : ∀ H, SqT K H a (strsV l)) : Ev (tOp (rIn K false) te (tC (.ref a))) σ H (.bl (inS n l)) := fun H1 e Q q =>
  h H1 e _ fun H2 e2 => ⟨a, strsV l, rfl, Or.inr (hq _), rfl, by
    rw [List.all_eq_true]
    intro x hx
    obtain ⟨t, _, rfl⟩ := List.mem_map.mp hx
    rfl, by rw [inV_str]; exact q H2 e2⟩
end
def spIntD (K : PySem.W.Frag) : Sp := fun vs H Q _ => ∃ (v : V) (d : PyData), vs = [v] ∧ RdD H v d ∧ RetV (.bl (isIntD d)) H Q
def spPart : Sp := fun vs H Q _ => ∃ t g : Str, vs = [.str t, .str g] ∧ t.length ≤ 60000 ∧ RetV (.bl (isPart t g)) H Q
def spShown : Sp := fun vs H Q _ => ∃ (v : V) (d : PyData) (g : Str), vs = [v, .str g] ∧ RdD H v d ∧ txD d ≤ 60000 ∧ RetV (.bl (isShown d g)) H Q
theorem spIntD_v {K : PySem.W.Frag} {H : Hp} {v : V} {d : PyData} (h : RdD H v d) : SpV (spIntD K) [v] H (.bl (isIntD d)) := fun H1 e Q q E => ⟨v, d, rfl, h.mono e, q⟩
theorem spPart_v {H : Hp} {t g : Str} (h : t.length ≤ 60000) : SpV spPart [.str t, .str g] H (.bl (isPart t g)) := fun H1 e Q q E => ⟨t, g, rfl, h, q⟩
theorem spShown_v {H : Hp} {v : V} {d : PyData} {g : Str} (h : RdD H v d) (hz : txD d ≤ 60000) : SpV spShown [v, .str g] H (.bl (isShown d g)) := fun H1 e Q q E => ⟨v, d, g, rfl, h.mono e, hz, q⟩
theorem isInt_as (d : PyData) : isIntD d = (intLikeD d && !isBoolD d) := by cases d <;> rfl
section
variable {P : Program} {w : World} {K : PySem.W.Frag} {mg : Str → Option Value} {base : Heap}
theorem sc_isint : FnScope ["value"] ["value"] (defScope s_is_integer) := ⟨rfl, rfl, rfl, by decide +kernel, rfl, by decide +kernel, by decide +kernel⟩
theorem h_isint (TF : TxFact K w mg) : Has P w K mg base CX0 1 "is_integer" ["value"] (spIntD K) := by
  obtain ⟨f, fd, a, F⟩ := TF.isint.ex
  refine ⟨f, fd, a, F.kp, F.binds fun _ _ _ _ _ _ us hl => match us, hl with | [_], _ => rfl, ?_⟩
  refine F.ok sc_isint (fun vs H Q E h => ?_) (fun cdv A outer s H vs Q E hr h => ?_)
  · obtain ⟨v, d, rfl, _⟩ := h
    rfl
  · obtain ⟨v, d, rfl, hd, k⟩ := h
    refine ⟨_, pss_one (ps_ret (pe_and (pe_callB (r := rIsi K) call_isi (by rfl) TF.isi boot_isi (pa_cons (pv 0) (pa_cons (pe_bltn (v := .ty "int") (by rfl) TF.int (by decide +kernel) rfl) pa_nil)))
      (pe_one (pe_not (pe_callB (r := rIsi K) call_isi (by rfl) TF.isi boot_isi (pa_cons (pv 0) (pa_cons (pe_bltn (v := .ty "bool") (by rfl) TF.bool (by decide +kernel) rfl) pa_nil))))))), ?_⟩
    rw [isInt_as] at k
    exact s_ret (ev_andV (ev_isi (ev_var rfl) (rd_isInt hd)) fun _ => ev_notV (ev_isi (ev_var rfl) (rd_isBool hd))) k
theorem sc_part : FnScope ["text", "sign"] ["text", "sign"] (defScope s_is_part) := ⟨rfl, rfl, rfl, by decide +kernel, rfl, by decide +kernel, by decide +kernel⟩
theorem h_part (T : TxForms K mg) (TF : TxFact K w mg) : Has P w K mg base CX0 3 "is_part" ["text", "sign"] spPart := by
  obtain ⟨f, fd, a, F⟩ := TF.part.ex
  have N : Has P w K mg base CX0 2 "is_name" ["text"] (spB1 isName) := h_name T
  have C : Has P w K mg base CX0 2 "is_capital" ["text"] (spB1 isCapital) := h_capital T
  obtain ⟨pl, hpl, hpl2⟩ := TF.places
  refine ⟨f, fd, a, F.kp, F.binds fun _ _ _ _ _ _ us hl => match us, hl with | [_, _], _ => rfl, ?_⟩
  refine F.ok sc_part (fun vs H Q E h => ?_) (fun cdv A outer s H vs Q E hr h => ?_)
  · obtain ⟨t, g, rfl, _⟩ := h
    rfl
  · obtain ⟨t, g, rfl, hz, k⟩ := h
    refine ⟨_, pss_cons (ps_if (pt_cmpR op_eq (pv 1) pe_str (nomark _)) (pss_one (ps_ret (pe_h N hr (pa_cons (pv 0) pa_nil)))) pss_nil)
      (pss_cons (ps_if (pt_cmpR op_eq (pv 1) pe_str (nomark _)) (pss_one (ps_ret (pe_cmpR (r := rIn K false) op_in_seq (pv 0) (pe_glob (v := .ref pl) (by rfl) hpl rfl) rfl))) pss_nil)
      (pss_cons (ps_if (pt_cmpR op_eq (pv 1) pe_str (nomark _)) (pss_one (ps_ret (pe_or (pe_h N hr (pa_cons (pv 0) pa_nil)) (pe_one (pe_cmpR (r := rIn K false) op_in_seq (pv 0) (pe_glob (v := .ref pl) (by rfl) hpl rfl) rfl))))) pss_nil)
      (pss_one (ps_ret (pe_or (pe_h C hr (pa_cons (pv 0) pa_nil)) (pe_one (pe_and (pe_cmpR op_eq (pv 1) pe_str (nomark _)) (pe_one (pe_cmpR op_eq (pv 0) (pe_gs TF.num) (nomark _)))))))))), ?_⟩
    unfold isPart at k
    refine q_when (b := decide (g = "n")) (et_test (ev_eqS (ev_var rfl) ev_c)) (fun h H1 e1 => ?_) (fun h H1 e1 => ?_)
    · rw [if_pos (of_decide_eq_true h)] at k
      exact s_ret (ev_h (ea_cons (ev_var rfl) ea_nil) (spB1_v hz)) fun H2 e2 => k _ (e1.trans e2)
    rw [if_neg (of_decide_eq_false h)] at k
    refine q_when (b := decide (g = "p")) (et_test (ev_eqS (ev_var rfl) ev_c)) (fun h H2 e2 => ?_) (fun h H2 e2 => ?_)
    · rw [if_pos (of_decide_eq_true h)] at k
      exact s_ret (ev_inT (ev_var rfl) hpl2) fun H3 e3 => k _ ((e1.trans e2).trans e3)
    rw [if_neg (of_decide_eq_false h)] at k
    refine q_when (b := decide (g = "x")) (et_test (ev_eqS (ev_var rfl) ev_c)) (fun h H3 e3 => ?_) (fun h H3 e3 => ?_)
    · rw [if_pos (of_decide_eq_true h)] at k
      exact s_ret (ev_orV (ev_h (ea_cons (ev_var rfl) ea_nil) (spB1_v hz)) fun _ => ev_inT (ev_var rfl) hpl2) fun H4 e4 => k _ (((e1.trans e2).trans e3).trans e4)
    rw [if_neg (of_decide_eq_false h)] at k
    exact s_ret (ev_orV (ev_h (ea_cons (ev_var rfl) ea_nil) (spB1_v hz)) fun _ => ev_andV (ev_eqS (ev_var rfl) ev_c) fun _ => ev_eqS (ev_var rfl) ev_c) fun H4 e4 => k _ (((e1.trans e2).trans e3).trans e4)
theorem sc_shown : FnScope ["part", "sign"] ["part", "sign"] (defScope s_is_shown) := ⟨rfl, rfl, rfl, by decide +kernel, rfl, by decide +kernel, by decide +kernel⟩
theorem h_shown (T : TxForms K mg) (TF : TxFact K w mg) : Has P w K mg base CX0 4 "is_shown" ["part", "sign"] spShown := by
  obtain ⟨f, fd, a, F⟩ := TF.shown.ex
  have I : Has P w K mg base CX0 1 "is_integer" ["value"] (spIntD K) := h_isint TF
  have R : Has P w K mg base CX0 3 "is_part" ["text", "sign"] spPart := h_part T TF
  refine ⟨f, fd, a, F.kp, F.binds fun _ _ _ _ _ _ us hl => match us, hl with | [_, _], _ => rfl, ?_⟩
  refine F.ok sc_shown (fun vs H Q E h => ?_) (fun cdv A outer s H vs Q E hr h => ?_)
  · obtain ⟨v, d, g, rfl, _⟩ := h
    rfl
  · obtain ⟨v, d, g, rfl, hd, hz, k⟩ := h
    refine ⟨_, pss_cons (ps_if (pt_cmpR op_eq (pv 1) pe_str (nomark _)) (pss_one (ps_ret (pe_and (pe_h I (hr.mono (by decide)) (pa_cons (pv 0) pa_nil)) (pe_one (pe_chain op_le op_le pe_int (pv 0) (pe_gi TF.most)))))) pss_nil)
      (pss_one (ps_ret (pe_and (pe_callB (r := rIsi K) call_isi (by rfl) TF.isi boot_isi (pa_cons (pv 0) (pa_cons (pe_bltn (v := .ty "str") (by rfl) TF.str (by decide +kernel) rfl) pa_nil)))
        (pe_one (pe_h R hr (pa_cons (pv 0) (pa_cons (pv 1) pa_nil))))))), ?_⟩
    unfold isShown at k
    refine q_when (b := decide (g = "l")) (et_test (ev_eqS (ev_var rfl) ev_c)) (fun h H1 e1 => ?_) (fun h H1 e1 => ?_)
    · rw [if_pos (of_decide_eq_true h)] at k
      have hd1 := hd.mono e1
      cases hd with
      | int i => exact s_ret (v := .bl (true && (decide ((1 : Int) ≤ i) && decide (i ≤ (999999999 : Int))))) (ev_andV (ev_h (ea_cons (ev_var rfl) ea_nil) (spIntD_v hd1)) fun _ => ev_chain ev_c (ev_var rfl) rv_I0 (fun _ => ev_c) (fun _ => rv_I0)) fun H2 e2 => k _ (e1.trans e2)
      | _ => exact s_ret (v := .bl (false && false)) (ev_andV (ev_h (ea_cons (ev_var rfl) ea_nil) (spIntD_v hd1)) fun z => by cases z) fun H2 e2 => k _ (e1.trans e2)
    · rw [if_neg (of_decide_eq_false h)] at k
      have hd1 := hd.mono e1
      cases hd with
      | str t => exact s_ret (v := .bl (true && isPart t g)) (ev_andV (ev_isi (ev_var rfl) (rd_isStr hd1)) fun _ => ev_h (ea_cons (ev_var rfl) (ea_cons (ev_var rfl) ea_nil)) (spPart_v hz)) fun H2 e2 => k _ (e1.trans e2)
      | _ => exact s_ret (v := .bl (false && false)) (ev_andV (ev_isi (ev_var rfl) (rd_isStr hd1)) fun z => by cases z) fun H2 e2 => k _ (e1.trans e2)
end
end HF
set_option maxRecDepth 100000
set_option maxHeartbeats 2000000
namespace HF
open PySem L2 Evl
/-! ### show_fact -/
def rStrA : List V → Hp → VK → Prop := fun xs H Q => (∃ i, xs = [.int i] ∧ i.natAbs.log2 < 1920 ∧ Q (.str (toString i)) H) ∨ ∃ a, xs = [.str a] ∧ Q (.str a) H
theorem call_strA {X : Cx} : CallR X (.type "str") rStrA := by
  intro pins s σ H xs us Q I r h
  rcases h with h | h
  · exact call_str_int pins s σ H xs us Q I r h
  · exact SkE.call_str_str pins s σ H xs us Q I r h
theorem wt_len : ∀ ds : List PyData, ds.length ≤ PyData.weightAll ds
  | [] => Nat.zero_le _
  | d :: ds => by
    have := wt_len ds
    rw [PyData.weightAll, List.length_cons]
    omega
theorem part_len {d : PyData} (h : d.leavesShort 100 = true) : (partD d).length ≤ 102 * d.weight + 100 := by
  have q := PyData.shown_le 100 (by decide) d h
  cases d with
  | int i => exact q
  | str s =>
    show s.cps.size ≤ _
    rw [PyData.weight]
    omega
  | _ => exact Nat.zero_le _
theorem parts_sum : ∀ {ds : List PyData}, PyData.leavesShortAll 100 ds = true → ((ds.map partD).map (·.length)).sum ≤ 102 * PyData.weightAll ds + 100 * ds.length
  | [], _ => Nat.zero_le _
  | d :: ds, h => by
    rw [PyData.leavesShortAll, Bool.and_eq_true] at h
    have h1 := part_len h.1
    have h2 := parts_sum h.2
    rw [List.map_cons, List.map_cons, List.sum_cons, PyData.weightAll, List.length_cons]
    omega
theorem tidy_join77 {ds : List PyData} (t : Tidy0 (.tuple ds)) : ((ds.map partD).map (·.length)).sum + (ds.map partD).length * (" " : Str).length ≤ 16777216 := by
  have h := t.lf
  rw [PyData.leavesShort] at h
  have w := t.wt
  rw [PyData.weight] at w
  have q := parts_sum h
  have l := wt_len ds
  have e : (" " : Str).length = 1 := by decide +kernel
  rw [e, List.length_map]
  omega
theorem tx_wt (d : PyData) : txD d ≤ d.weight := by
  cases d with
  | str s => rw [PyData.weight]; exact Nat.le_refl _
  | _ => exact Nat.zero_le _
/-- a part that stands in a fact: an int, or a text -/
def isFlatD : PyData → Bool
  | .int _ => true
  | .str _ => true
  | _ => false
theorem shown_flat {d : PyData} {g : Str} (h : isShown d g = true) : isFlatD d = true := by
  unfold isShown at h
  split at h
  · cases d <;> first | rfl | cases h
  · cases d <;> first | rfl | cases h
theorem zip_flat : ∀ {ds : List PyData} {gs : List Str}, ds.length = gs.length → (ds.zip gs).all (fun p => isShown p.1 p.2) = true → ∀ d ∈ ds, isFlatD d = true
  | [], _, _, _, d, h => by cases h
  | a :: ds, [], e, _, _, _ => by cases e
  | a :: ds, g :: gs, e, h, d, hd => by
    rw [List.zip_cons_cons, List.all_cons, Bool.and_eq_true] at h
    rcases List.mem_cons.mp hd with rfl | hd
    · exact shown_flat h.1
    · exact zip_flat (Nat.succ.inj e) h.2 d hd
theorem fact_flat {ds : List PyData} (h : isFact (.tuple ds) = true) : ∀ d ∈ ds, isFlatD d = true := by
  match ds, h with
  | .str f :: r, h =>
    have h' : (match formOf f with | some g => decide (r.length = g.length) && shownAll r g | none => false) = true := h
    cases e : formOf f with
    | none => rw [e] at h'; cases h'
    | some g =>
      rw [e] at h'
      have h2 : (decide (r.length = g.length) && shownAll r g) = true := h'
      rw [Bool.and_eq_true] at h2
      intro d hd
      rcases List.mem_cons.mp hd with rfl | hd
      · rfl
      · exact zip_flat (by rw [signsS_len]; exact of_decide_eq_true h2.1) h2.2 d hd
section
variable {K : PySem.W.Frag} {σ : L2.St} {H : Hp} {te tb : TE} {ta : TA}
theorem ev_strA {v : V} {d : PyData} (h : Ev te σ H v) (hd : RdD H v d) (f : isFlatD d = true) (sh : d.showable = true) : Ev (tCB rStrA (tCons te tNil)) σ H (.str (partD d)) := by
  cases hd with
  | int i => exact fun H1 e Q q => h H1 e _ fun H2 e2 => Or.inl ⟨i, rfl, by rw [PyData.showable, decide_eq_true_eq] at sh; exact sh, q H2 e2⟩
  | str s => exact fun H1 e Q q => h H1 e _ fun H2 e2 => Or.inr ⟨s, rfl, q H2 e2⟩
  | _ => cases f
theorem el_lcRT {xs : List V} {j : Nat} {vs : List Nat} (v : Nat → V) (h : EvRT tb σ H xs) (hz : xs.length ≤ 40000) (hw : ∀ x, wipe ((wipe σ vs).set j (some x)) vs = wipe σ vs)
    (he : ∀ (i : Nat) (x : V) H1, Ex H H1 → xs[i]? = some x → Ev te ((wipe σ vs).set j (some x)) H1 (v i)) : EvL (tLc (iTup K tb) (gName j) tYes te vs) σ H (given xs.length (fun _ => true) v) := fun H0 e Q q => h H0 e _ fun a H1 e1 hx => ⟨a, rfl, ⟨xs, st_of hx⟩, fun Dl hD =>
  lc_it walk_tup (Cw H1 (fun _ => true) v Dl) ⟨hD, Ex.new hD, upd_same⟩ (fun i H' _ p => st_of (p.2.1 a _ hx)) (fun i x H2 H' hi p y => by
    obtain ⟨rfl, hc⟩ := y
    exact ⟨hw _, cw_turn p (by omega) et_nil fun _ => he i x H1 (e.trans e1) hc⟩)
    (fun H' p => q Dl H' (fresh_back e1 p.1) (e1.trans p.2.1) p.2.2)⟩
theorem showableAll_mem : ∀ {ds : List PyData} {d : PyData}, PyData.showableAll ds = true → d ∈ ds → d.showable = true
  | [], _, _, h => by cases h
  | a :: ds, d, h, hd => by
    rw [PyData.showableAll, Bool.and_eq_true] at h
    rcases List.mem_cons.mp hd with rfl | hd
    · exact h.1
    · exact showableAll_mem h.2 hd
/-- [str(part) for part in fact] -/
theorem el_parts {xs : List V} {ds : List PyData} {j : Nat} {vs : List Nat} (h : EvRT tb σ H xs) (r : RdDs H xs ds) (f : ∀ d ∈ ds, isFlatD d = true) (t : Tidy0 (.tuple ds)) (hw : ∀ x, wipe ((wipe σ vs).set j (some x)) vs = wipe σ vs)
    (he : ∀ x H1, Ev te ((wipe σ vs).set j (some x)) H1 x) : EvL (tLc (iTup K tb) (gName j) tYes (tCB rStrA (tCons te tNil)) vs) σ H (strsV (ds.map partD)) := by
  have w := t.wt
  rw [PyData.weight] at w
  have sh := t.sh
  rw [PyData.showable] at sh
  have l := wt_len ds
  have lx : xs.length = ds.length := RdDs.len r
  have e : strsV (ds.map partD) = given xs.length (fun _ => true) (fun i => .str (partD (ds.getD i .none))) := by
    rw [given_all, lx]
    unfold strsV
    rw [List.map_map]
    refine List.ext_getElem (by simp) fun i h1 h2 => ?_
    have hi : i < ds.length := by simpa using h1
    simp only [List.getElem_map, List.getElem_range, Function.comp]
    rw [List.getD_eq_getElem?_getD, List.getElem?_eq_getElem hi]
    rfl
  rw [e]
  refine el_lcRT _ h (by omega) hw fun i x H1 e1 hi => ?_
  obtain ⟨d, hd, rd⟩ := RdDs.at_ r hi
  have e2 : ds.getD i .none = d := by rw [List.getD_eq_getElem?_getD, hd]; rfl
  rw [e2]
  have hm := List.mem_of_getElem? hd
  exact ev_strA (he x H1) (rd.mono e1) (f d hm) (showableAll_mem sh hm)
theorem cut1 {x : V} {xs : List V} : cutV (x :: xs) (some 1) none = xs := by
  unfold cutV
  have e : HT.sIx (x :: xs).length 0 (some 1) = 1 := by
    have := HT.sIx_nat (x :: xs).length 0 1
    rw [show ((1 : Nat) : Int) = 1 from rfl] at this
    rw [this, List.length_cons]
    omega
  rw [e, HT.sIx_none, List.length_cons]
  show xs.take (xs.length + 1 - 1) = xs
  exact List.take_length
/-- all([shown(part, sign) for part, sign in zip(parts, form)]) -/
theorem ev_allZ {xs : List V} {ds : List PyData} {g : Str} {j1 j2 : Nat} {vs : List Nat} (p : PyData → Str → Bool) (h : EvZ K ta σ H xs (signsV g)) (r : RdDs H xs ds) (hl : ds.length = g.length) (hz : ds.length ≤ 40000)
    (hw : ∀ x y, wipe (((wipe σ vs).set j1 (some x)).set j2 (some y)) vs = wipe σ vs)
    (he : ∀ (x : V) (d : PyData) (c : Str) H1, Ex H H1 → d ∈ ds → RdD H1 x d → Ev te (((wipe σ vs).set j1 (some x)).set j2 (some (.str c))) H1 (.bl (p d c))) :
    Ev (tCB (rAll K) (tCons (tLc (iZipS K ta) (gTup K 2 (gCons (gName j1) (gCons (gName j2) gNil))) tYes te vs) tNil)) σ H (.bl ((ds.zip (signsS g)).all fun x => p x.1 x.2)) := by
  have lx : xs.length = ds.length := RdDs.len r
  rw [← all_zip p .none "" ds (signsS g) (by rw [signsS_len, hl])]
  refine ev_all ?_
  rw [← given_bl, ← lx]
  refine el_lcZ (ys := signsV g) _ h (by rw [signsV_eq, List.length_map, signsS_len, lx, hl]) (by omega) hw fun i x y H1 e1 hx hy => ?_
  obtain ⟨d, hd, rd⟩ := RdDs.at_ r hx
  rw [signsV_eq, List.getElem?_map] at hy
  obtain ⟨c, hc, rfl⟩ := Option.map_eq_some_iff.mp hy
  have e2 : ds.getD i .none = d := by rw [List.getD_eq_getElem?_getD, hd]; rfl
  have e3 : (signsS g).getD i "" = c := by rw [List.getD_eq_getElem?_getD, hc]; rfl
  rw [e2, e3]
  exact he x d c H1 e1 (List.mem_of_getElem? hd) (rd.mono e1)
end
def ogV : Option Str → V
  | some g => .str g
  | none => .non
/-- FACTS.get -/
theorem t_fget {K : PySem.W.Frag} {σ : L2.St} {H : Hp} {Q : VK} {d : Addr} {te : TE} {f : Str} (t1 : ∀ x g, formOf x = some g → ∃ t, PySem.W.nsIn K d x = some (some (.str g t))) (t2 : ∀ x, formOf x = none → PySem.W.nsIn K d x = some none) (h : Ev te σ H (.str f))
    (k : ∀ H1, Ex H H1 → Q (ogV (formOf f)) H1) : tKGet K d (tC (.ref d)) te σ H Q := ⟨rfl, h H (Ex.refl _) _ fun H1 e1 => by
  have k1 := k H1 e1
  cases e : formOf f with
  | none => rw [e] at k1; exact ⟨f, none, .non, rfl, t2 f e, rfl, k1⟩
  | some g =>
    rw [e] at k1
    obtain ⟨t, ht⟩ := t1 f g e
    exact ⟨f, _, .str g, rfl, ht, ⟨t, rfl⟩, k1⟩⟩
theorem q_fget {K : PySem.W.Frag} {σ : L2.St} {H : Hp} {D : Ends} {tz : TS} {i : Nat} {d : Addr} {te : TE} {f : Str} (t1 : ∀ x g, formOf x = some g → ∃ t, PySem.W.nsIn K d x = some (some (.str g t))) (t2 : ∀ x, formOf x = none → PySem.W.nsIn K d x = some none) (h : Ev te σ H (.str f))
    (k1 : formOf f = none → ∀ H1, Ex H H1 → tz D (σ.set i (some .non)) H1) (k2 : ∀ g, formOf f = some g → ∀ H1, Ex H H1 → tz D (σ.set i (some (.str g))) H1) : tSeq (tAsg (tKGet K d (tC (.ref d)) te) (gName i)) tz D σ H := by
  refine t_fget t1 t2 h fun H1 e1 => ?_
  cases e : formOf f with
  | none => exact k1 e H1 e1
  | some g => exact k2 g e H1 e1
theorem form_len : ∀ x g, formOf x = some g → g.length ≤ 4 := by
  intro x g h
  have : ∀ p ∈ factsL, p.2.length ≤ 4 := by decide +kernel
  unfold formOf at h
  generalize factsL = l at h this
  induction l with
  | nil => cases h
  | cons a l ih =>
    obtain ⟨a1, a2⟩ := a
    rw [List.lookup_cons] at h
    split at h
    · cases h
      exact this _ List.mem_cons_self
    · exact ih h fun p hp => this p (List.mem_cons_of_mem _ hp)
structure TxErF (K : PySem.W.Frag) (mg : Str → Option Value) (CF CT : Addr) : Prop where
  f : ClX K mg "BadFact" CF "value" "BadFact.__init__" s_BadFact_init
  t : ClX K mg "BadText" CT "line" "BadText.__init__" s_BadText_init
def spShow (CF : Addr) : Sp := fun vs H Q E => ∃ (v : V) (d : PyData), vs = [v] ∧ RdD H v d ∧ Tidy0 d ∧
  (isFact d = false → ∀ dd H', H dd = none → Ex H H' → H' dd = some (.xd [("value", v)]) → E (.ref CF) (some dd) H') ∧ ∀ ds, d = .tuple ds → isFact d = true → RetV (.str (textOfD ds)) H Q
section
variable {P : Program} {w : World} {K : PySem.W.Frag} {mg : Str → Option Value} {base : Heap} {CF CT : Addr}
theorem sc_badfact : FnScope ["self", "value"] ["self", "value"] (defScope s_BadFact_init) := ⟨rfl, rfl, rfl, by decide +kernel, rfl, by decide +kernel, by decide +kernel⟩
theorem h_badfact (T : TxErF K mg CF CT) : HasX P w K mg base "BadFact" CF ["self", "value"] "value" := by
  obtain ⟨fI, fd, i1, i2, F⟩ := T.f.ex
  refine ⟨T.f.mg_, T.f.ox, fI, fd, i1, i2, F.binds fun _ _ _ _ _ _ us hl => match us, hl with | [_, _], _ => rfl, ?_⟩
  refine F.ok sc_badfact (fun vs H Q E h => ?_) (fun cdv A outer s H vs Q E hr h => ?_)
  · obtain ⟨a, v, rfl, _⟩ := h
    rfl
  · obtain ⟨a, v, rfl, ha, k⟩ := h
    refine ⟨_, pss_one (ps_ost (pv 0) (pv 1)), ?_⟩
    exact ⟨_, rfl, _, rfl, a, CF, rfl, T.f.ox, T.f.no, Or.inl ⟨ha, fun dx hdx hne => k dx hdx hne⟩⟩
theorem sc_badtext : FnScope ["self", "line"] ["self", "line"] (defScope s_BadText_init) := ⟨rfl, rfl, rfl, by decide +kernel, rfl, by decide +kernel, by decide +kernel⟩
theorem h_badtext (T : TxErF K mg CF CT) : HasX P w K mg base "BadText" CT ["self", "line"] "line" := by
  obtain ⟨fI, fd, i1, i2, F⟩ := T.t.ex
  refine ⟨T.t.mg_, T.t.ox, fI, fd, i1, i2, F.binds fun _ _ _ _ _ _ us hl => match us, hl with | [_, _], _ => rfl, ?_⟩
  refine F.ok sc_badtext (fun vs H Q E h => ?_) (fun cdv A outer s H vs Q E hr h => ?_)
  · obtain ⟨a, v, rfl, _⟩ := h
    rfl
  · obtain ⟨a, v, rfl, ha, k⟩ := h
    refine ⟨_, pss_one (ps_ost (pv 0) (pv 1)), ?_⟩
    exact ⟨_, rfl, _, rfl, a, CT, rfl, T.t.ox, T.t.no, Or.inl ⟨ha, fun dx hdx hne => k dx hdx hne⟩⟩
end
end HF
set_option maxRecDepth 100000
set_option maxHeartbeats 2000000
namespace HF
open PySem L2 Evl
theorem ev_ix0 {K : PySem.W.Frag} {σ : L2.St} {H : Hp} {te : TE} {p : Addr} {x : V} {xs : List V} (h : Ev te σ H (.ref p)) (hp : H p = some (.tup (x :: xs))) : Ev (tOp (rIxT K) te (tC (.int 0))) σ H x := fun H1 e Q q =>
  h H1 e _ fun H2 e2 => ⟨p, x :: xs, 0, x, rfl, rfl, st_of ((e.trans e2) _ _ hp), atI_nat (j := 0) rfl, q H2 e2⟩
theorem fact_nonstr {d : PyData} {r : List PyData} (h : isStrD d = false) : isFact (.tuple (d :: r)) = false := by
  cases d <;> first | rfl | cases h
section
variable {P : Program} {w : World} {K : PySem.W.Frag} {mg : Str → Option Value} {base : Heap} {CF CT : Addr}
theorem sc_show : FnScope ["fact", "form", "part", "sign"] ["fact"] (defScope s_show_fact) := ⟨rfl, rfl, rfl, by decide +kernel, rfl, by decide +kernel, by decide +kernel⟩
theorem f_show (T : TxForms K mg) (TF : TxFact K w mg) (TE : TxErF K mg CF CT) : ∃ (f : Addr) (fd : FuncData), mg "show_fact" = some (.ref f) ∧ Fun K "show_fact" "show_fact" s_show_fact f fd ∧ FnOk P w K mg base (L2.CX P w) 5 f fd ["fact"] (spShow CF) := by
  obtain ⟨f, fd, a, F⟩ := TF.show_.ex
  have SH : Has P w K mg base CX0 4 "is_shown" ["part", "sign"] spShown := h_shown T TF
  have XB : HasX P w K mg base "BadFact" CF ["self", "value"] "value" := h_badfact TE
  obtain ⟨dF, es, n, hmd, D, t1, t2⟩ := TF.facts
  refine ⟨f, fd, a, F, ?_⟩
  refine F.okX sc_show (fun vs H Q E h => ?_) (fun cdv A outer s H vs Q E hr h => ?_)
  · obtain ⟨v, d, rfl, _⟩ := h
    rfl
  · obtain ⟨v, d, rfl, hd, ht, kE, kQ⟩ := h
    have hr2 : Room 2 _ := hr.mono (by decide)
    refine ⟨_, pss_cons (ps_if (PW.pt (pw_or (pt_not (pt_val (pe_callB (r := rIsi K) call_isi (by rfl) TF.isi boot_isi (pa_cons (pv 0) (pa_cons (pe_bltn (v := .ty "tuple") (by rfl) TF.tuple (by decide +kernel) rfl) pa_nil)))))
          (pw_or (pt_not (pt_truth (pv 0) (fun _ => rfl))) (pw_or1 (pt_not (pt_val (pe_callB (r := rIsi K) call_isi (by rfl) TF.isi boot_isi (pa_cons (pe_ix ix_tup (pv 0) pe_int (fun _ _ => rfl)) (pa_cons (pe_bltn (v := .ty "str") (by rfl) TF.str (by decide +kernel) rfl) pa_nil)))))))))
        (pss_one (ps_raise rfl (takes_of rfl rfl rfl rfl) (pmk_x XB hr2 (pv 0)))) pss_nil)
      (pss_cons (ps_set (i := 1) sc_show.nd rfl (Or.inl rfl) (pe_kget D (pe_glob (v := .ref dF) rfl hmd rfl) (pe_ix ix_tup (pv 0) pe_int (fun _ _ => rfl)) ⟨rfl, rfl, rfl, rfl⟩))
      (pss_cons (ps_if (PW.pt (pw_or (pt_cmpR op_isN (pv 1) pe_non (nomark _)) (pw_or1 (pt_cmpR op_ne (pe_callB call_lenT (by rfl) TF.len PySem.boot_len (pa_cons (pv 0) pa_nil)) (pe_op op_add (pe_callB call_lenStr (by rfl) TF.len PySem.boot_len (pa_cons (pv 1) pa_nil)) pe_int) (nomark _)))))
        (pss_one (ps_raise rfl (takes_of rfl rfl rfl rfl) (pmk_x XB hr2 (pv 0)))) pss_nil)
      (pss_cons (ps_if (pt_not (pt_val (pe_callB (cr_all rfl) (by rfl) TF.all (by decide +kernel) (pa_cons (pe_lc (own := [("part", 2), ("sign", 3)]) (g := gTup K 2 (gCons (gName 2) (gCons (gName 3) gNil))) (by rfl) sc_show.nd
          (pi_zipS (by rfl) TF.zip (pa_cons (pe_slice sl_tupA (pv 0) (po_some pe_int) po_none) (pa_cons (pv 1) pa_nil)))
          (blkOk_by (own := [("part", 2), ("sign", 3)]) (N := ["fact", "form", "part", "sign"]) (sc := defScope s_show_fact) (by decide +kernel))
          (fun _ _ _ _ _ => pg_tup rfl (pgs_cons (pg_name (i := 2) sc_show.nd rfl (Or.inl rfl)) (pgs_cons (pg_name (i := 3) sc_show.nd rfl (Or.inl rfl)) pgs_nil))) (fun _ _ _ _ _ => pts_nil)
          (fun _ _ _ _ _ => pe_h SH hr (pa_cons (pv 2) (pa_cons (pv 3) pa_nil)))) pa_nil))))
        (pss_one (ps_raise rfl (takes_of rfl rfl rfl rfl) (pmk_x XB hr2 (pv 0)))) pss_nil)
      (pss_one (ps_ret (pe_join pe_str (pe_lc (own := [("part", 2)]) (g := gName 2) (by rfl) sc_show.nd (pi_tup (pv 0)) (blkOk_by (own := [("part", 2)]) (N := ["fact", "form", "part", "sign"]) (sc := defScope s_show_fact) (by decide +kernel))
          (fun _ _ _ _ _ => pg_name (i := 2) sc_show.nd rfl (Or.inl rfl)) (fun _ _ _ _ _ => pts_nil) (fun _ _ _ _ _ => pe_callTy (r := rStrA) call_strA (by rfl) TF.str (by decide +kernel) (pa_cons (pv 2) pa_nil))))))))), ?_⟩
    have bad : ∀ {σ : L2.St} {H1 : Hp}, σ[0]? = some (some v) → Ex H H1 → isFact d = false → tMkO CF (spInitX CF "value") [] (tCons (tVar 0) tNil) σ H1 E := fun h0 e1 hf =>
      mk_x (v := v) (ev_var h0) fun dd H7 hd7 e7 h7 => kE hf dd H7 (none_of_ex e1 hd7) (e1.trans e7) h7
    have hty := rd_isTup (K := K) hd
    cases hd with
    | tup hq r =>
      rename_i q xs ds
      have wt := ht.wt
      rw [PyData.weight] at wt
      have ln := wt_len ds
      have lx : xs.length = ds.length := RdDs.len r
      cases r with
      | nil =>
        refine q_when (b := true) (et_or (a := false) (b := true) (et_not (a := true) (et_B (ev_isi (σ := start ["fact", "form", "part", "sign"] [V.ref q]) (ev_var rfl) (isty_tup hq)))) fun _ => et_or (a := true) (b := false) (et_not (a := false) (et_truth (K := K) (v := .ref q) (ev_var rfl) fun H1 e1 => Or.inr (Or.inl ⟨[], st_of (e1 _ _ hq), rfl⟩))) fun z => by cases z) (fun h H1 e1 => ?_) (fun h H1 e1 => by cases h)
        exact bad rfl e1 rfl
      | cons r0 r1 =>
        rename_i x xs d0 ds
        refine q_when (b := !(isStrD d0)) (et_or (a := false) (et_not (a := true) (et_B (ev_isi (σ := start ["fact", "form", "part", "sign"] [V.ref q]) (ev_var rfl) (isty_tup hq)))) fun _ => et_or (a := false) (et_not (a := true) (et_truth (K := K) (v := .ref q) (ev_var rfl) fun H1 e1 => Or.inr (Or.inl ⟨_, st_of (e1 _ _ hq), rfl⟩))) fun _ => et_not (et_B (ev_isi (ev_ix0 (ev_var rfl) hq) (rd_isStr r0)))) (fun h H1 e1 => ?_) (fun h H1 e1 => ?_)
        · exact bad rfl e1 (fact_nonstr (by simpa using h))
        · cases r0 with
          | str f =>
            refine q_fget t1 t2 (ev_ix0 (ev_var rfl) (e1 _ _ hq)) (fun ef H2 e2 => ?_) (fun g ef H2 e2 => ?_)
            · have hq2 := e2 _ _ (e1 _ _ hq)
              have e12 := e1.trans e2
              have hf : isFact (.tuple (.str f :: ds)) = false := by
                show (match formOf f with | some g => decide (ds.length = g.length) && shownAll ds g | none => false) = false
                rw [ef]
              refine q_when (b := true) (et_or (a := true) (b := false) (et_test (ev_isN6 (σ := [some (V.ref q), some V.non, none, none]) (te := tVar 1) (v := .non) (ev_var rfl))) fun z => by cases z) (fun h H3 e3 => ?_) (fun h H3 e3 => by cases h)
              exact bad rfl (e12.trans e3) hf
            · have hq2 := e2 _ _ (e1 _ _ hq)
              have e12 := e1.trans e2
              have hf : isFact (.tuple (.str f :: ds)) = (decide (ds.length = g.length) && shownAll ds g) := by
                show (match formOf f with | some g => decide (ds.length = g.length) && shownAll ds g | none => false) = _
                rw [ef]
              have gl := form_len f g ef
              have lx1 : xs.length = ds.length := RdDs.len r1
              have e9 : (!decide (ds.length = g.length)) = (!decide ((((V.str f :: xs).length : Nat) : Int) = (g.length : Int) + 1)) := by
                rw [List.length_cons]
                congr 1
                exact decide2 (by omega)
              refine q_when (b := !decide (ds.length = g.length)) (et_or (a := false) (et_test (by
                  have := ev_isN6 (σ := [some (V.ref q), some (V.str g), none, none]) (H := H2) (te := tVar 1) (v := .str g) (ev_var rfl)
                  rw [decide_eq_false (by intro z; cases z)] at this
                  exact this)) fun _ => et_test (by
                  have e8 := e9
                  refine Eq.mpr (congrArg (fun z => Ev _ _ _ (V.bl z)) e8) ?_
                  exact ev_neI (ev_lenV (ev_var rfl) hq2) (ev_op (ev_lenS (ev_var rfl) (by omega)) ev_c rv_I0))) (fun h H3 e3 => ?_) (fun h H3 e3 => ?_)
              · refine bad rfl (e12.trans e3) ?_
                rw [hf]
                rw [Bool.not_eq_true'] at h
                rw [h, Bool.false_and]
              · rw [Bool.not_eq_false'] at h
                have hlen := of_decide_eq_true h
                have hq3 := e3 _ _ hq2
                have e13 := e12.trans e3
                rw [PyData.weightAll] at wt
                refine q_when (b := !shownAll ds g) (et_not (et_B (ev_allZ (K := K) (xs := xs) (fun d c => isShown d c) (evz_ts (by
                    have := ert_sl (K := K) (lo := some 1) (hi := none) (ert_v (i := 0) (σ := [some (V.ref q), some (V.str g), none, none]) rfl hq3) (eo_some ev_c) eo_none
                    rw [cut1] at this
                    exact this) (ev_var rfl)) (r1.mono e13) hlen (by rw [List.length_cons] at ln; omega) (fun _ _ => rfl) fun x1 d1 c H4 e4 hm rd => ev_h (ea_cons (ev_var rfl) (ea_cons (ev_var rfl) ea_nil)) (spShown_v rd (by
                      have := tx_wt d1
                      have := wt_mem hm
                      omega))))) (fun h2 H4 e4 => ?_) (fun h2 H4 e4 => ?_)
                · refine bad rfl (e13.trans e4) ?_
                  rw [hf]
                  rw [Bool.not_eq_true'] at h2
                  rw [h2, Bool.and_false]
                · rw [Bool.not_eq_false'] at h2
                  have hf2 : isFact (.tuple (.str f :: ds)) = true := by rw [hf, h, h2]; rfl
                  refine s_ret (v := .str (textOfD (.str f :: ds))) (ev_joinR (K := K) (er_l (el_parts (ds := .str f :: ds) (ert_v (i := 0) rfl (e4 _ _ hq3)) (.cons (.str f) (r1.mono (e13.trans e4))) (fact_flat hf2) ht (fun _ => rfl) fun _ _ => ev_var rfl)) (tidy_join77 ht)) fun H5 e5 => kQ _ rfl hf2 _ ((e13.trans e4).trans e5)
          | _ => cases h
    | _ =>
      refine q_when (b := true) (et_or (a := true) (b := false) (et_not (a := false) (et_B (ev_isi (ev_var rfl) hty))) fun z => by cases z) (fun h H1 e1 => ?_) (fun h H1 e1 => by cases h)
      exact bad rfl e1 rfl
theorem h_show (T : TxForms K mg) (TF : TxFact K w mg) (TE : TxErF K mg CF CT) : Has P w K mg base (L2.CX P w) 5 "show_fact" ["fact"] (spShow CF) := by
  obtain ⟨f, fd, a, F, O⟩ := f_show (P := P) (base := base) T TF TE
  exact ⟨f, fd, a, F.kp, F.binds fun _ _ _ _ _ _ us hl => match us, hl with | [_], _ => rfl, O⟩
end
end HF
set_option maxRecDepth 100000
set_option maxHeartbeats 2000000
namespace HF
open PySem L2 Evl
/-! ### reading -/
def isWritten (t g : Str) : Bool := if g = "l" then isNumber t 9 && !decide (t = "0") else isPart t g
def isWrittenD (d : PyData) (g : Str) : Bool := match d with
  | .str t => isWritten t g
  | _ => false
def intOf (t : Str) : Int := (PySem.intText? t).getD 0
def readPart (t g : Str) : PyData := if g = "l" then .int (intOf t) else .str t
def writtenAll (ts : List Str) (g : Str) : Bool := ((ts.map PyData.str).zip (signsS g)).all fun p => isWrittenD p.1 p.2
def readTs (ts : List Str) (g : Str) : List PyData := (ts.zip (signsS g)).map fun p => readPart p.1 p.2
def partsR (og : Option Str) (ws : List Str) : Option (List PyData) := match og with
  | none => none
  | some g => if (decide (ws.length = g.length + 1) && writtenAll ws.tail g) = true then some (.str (wd ws 0) :: readTs ws.tail g) else none
def readFact (t : Str) : Option (List PyData) := partsR (formOf (wd (Txt.split t " ") 0)) (Txt.split t " ")
def readD : PyData → Option (List PyData)
  | .str t => readFact t
  | _ => none
theorem digits_lt : ∀ (cs : List Nat) (a : Nat), (∀ c ∈ cs, 48 ≤ c ∧ c ≤ 57) → cs.foldl (fun acc c => acc * 10 + (c - 48)) a < (a + 1) * 10 ^ cs.length
  | [], a, _ => by simp
  | c :: cs, a, h => by
    have h1 := h c List.mem_cons_self
    have ih := digits_lt cs (a * 10 + (c - 48)) fun x hx => h x (List.mem_cons_of_mem _ hx)
    rw [List.foldl_cons, List.length_cons, Nat.pow_succ]
    refine Nat.lt_of_lt_of_le ih ?_
    have : a * 10 + (c - 48) + 1 ≤ (a + 1) * 10 := by omega
    calc (a * 10 + (c - 48) + 1) * 10 ^ cs.length ≤ ((a + 1) * 10) * 10 ^ cs.length := Nat.mul_le_mul_right _ this
      _ = (a + 1) * (10 ^ cs.length * 10) := by rw [Nat.mul_assoc, Nat.mul_comm 10]
theorem dig_mem {c : Nat} (h : c ∈ DIG.cps.toList) : 48 ≤ c ∧ c ≤ 57 := by
  have : ∀ c ∈ DIG.cps.toList, 48 ≤ c ∧ c ≤ 57 := by decide +kernel
  exact this c h
theorem consists_mem {t s : Str} (h : consists t s = true) : ∀ c ∈ t.cps.toList, c ∈ s.cps.toList := fun c hc => of_decide_eq_true (List.all_eq_true.mp h c hc)
theorem str_cps {t s : Str} (h : t.cps.toList = s.cps.toList) : t = s := by
  cases t with | mk a => cases s with | mk b =>
    have : a = b := Array.toList_inj.mp h
    rw [this]
theorem str_inj {t s : Str} : (V.str t = V.str s) ↔ t = s := ⟨fun h => by cases h; rfl, fun h => by rw [h]⟩
/-- a line's number: what it is, and where it lies -/
theorem number_val {t : Str} (h : (isNumber t 9 && !decide (t = "0")) = true) : ∃ n : Nat, PySem.intText? t = some (n : Int) ∧ 1 ≤ n ∧ n ≤ 999999999 ∧ t.length ≤ 9 ∧ 1 ≤ t.length := by
  rw [Bool.and_eq_true] at h
  obtain ⟨h1, h2⟩ := h
  unfold isNumber at h1
  simp only [Bool.and_eq_true, decide_eq_true_eq, Bool.or_eq_true, Bool.not_eq_true', decide_eq_false_iff_not] at h1 h2
  obtain ⟨⟨l1, l2⟩, hc, h0⟩ := h1
  have ll : t.cps.toList.length = t.length := Array.length_toList
  have hd : ∀ c ∈ t.cps.toList, 48 ≤ c ∧ c ≤ 57 := fun c hcm => dig_mem (consists_mem hc c hcm)
  have ne : t.cps.toList ≠ [] := fun z => by rw [z] at ll; simp at ll; omega
  have hv := PySem.intText_digits (x := t) hd ne (by omega)
  have lt := digits_lt t.cps.toList 0 hd
  have lt2 : PySem.NumText.digitsVal t.cps.toList < 1000000000 := by
    have : (0 + 1) * 10 ^ t.cps.toList.length ≤ 10 ^ 9 := by
      rw [Nat.zero_add, Nat.one_mul]
      exact Nat.pow_le_pow_right (by decide) (by omega)
    have e9 : (10 : Nat) ^ 9 = 1000000000 := by decide
    rw [e9] at this
    exact Nat.lt_of_lt_of_le lt this
  refine ⟨_, hv, ?_, by omega, by omega, by omega⟩
  cases hl : t.cps.toList with
  | nil => exact absurd hl ne
  | cons c cs =>
    refine PySem.NumText.digitsVal_pos ?_
    have hc1 := hd c (by rw [hl]; exact List.mem_cons_self)
    rcases h0 with h0 | h0
    · rw [hl] at h0
      have : c ≠ 48 := fun z => h0 (by rw [List.getD_cons_zero, z]; exact str_inj.mpr (str_cps rfl))
      omega
    · exact absurd (str_inj.mp h0) h2
section
variable {K : PySem.W.Frag} {σ : L2.St} {H : Hp} {te tb : TE} {ta : TA}
theorem cut1L {x : V} {xs : List V} : cutV (x :: xs) none (some 1) = [x] := by
  unfold cutV
  have e : HT.sIx (x :: xs).length (x :: xs).length (some 1) = 1 := by
    have := HT.sIx_nat (x :: xs).length (x :: xs).length 1
    rw [show ((1 : Nat) : Int) = 1 from rfl] at this
    rw [this, List.length_cons]
    omega
  rw [e, HT.sIx_none]
  rfl
theorem el_slF {xs : List V} {lo : Int} (ha : EvR te σ H xs) (hb : Ev tb σ H (.int lo)) : EvL (tSl (rSlL K) te (tPart tb) tNoPart) σ H (cutV xs (some lo) none) := fun H1 e Q q =>
  ha H1 e _ fun p H2 e2 h2 => hb H2 (e.trans e2) _ fun H3 e3 => ⟨lo, rfl, p, xs, rfl, sq_of (e3 _ _ h2), fun d hd => q d _ (fresh_back (e2.trans e3) hd) ((e2.trans e3).trans (Ex.new hd)) upd_same⟩
def rIntS : List V → Hp → VK → Prop := fun xs H Q => ∃ a n, xs = [.str a] ∧ PySem.intText? a = some n ∧ a.length ≤ 640 ∧ Q (.int n) H
theorem call_intS {X : Cx} : CallR X (.type "int") rIntS := call_int_str
theorem ev_intS {t : Str} {n : Int} (h : Ev te σ H (.str t)) (hn : PySem.intText? t = some n) (hz : t.length ≤ 640) : Ev (tCB rIntS (tCons te tNil)) σ H (.int n) := fun H1 e Q q => h H1 e _ fun H2 e2 => ⟨t, n, rfl, hn, hz, q H2 e2⟩
theorem ev_ifV {t : TT} {b : Bool} {x : V} (h : EvT t σ H b) (h1 : b = true → Ev te σ H x) (h2 : b = false → Ev tb σ H x) : Ev (tIf t te tb) σ H x := fun H1 e Q q => h H1 e _ fun H2 e2 => by
  cases b with
  | true => exact h1 rfl H2 (e.trans e2) Q fun H3 e3 => q H3 (e2.trans e3)
  | false => exact h2 rfl H2 (e.trans e2) Q fun H3 e3 => q H3 (e2.trans e3)
end
def spWritten : Sp := fun vs H Q _ => ∃ t g : Str, vs = [.str t, .str g] ∧ t.length ≤ 40000 ∧ RetV (.bl (isWritten t g)) H Q
theorem spWritten_v {H : Hp} {t g : Str} (h : t.length ≤ 40000) : SpV spWritten [.str t, .str g] H (.bl (isWritten t g)) := fun H1 e Q q E => ⟨t, g, rfl, h, q⟩
def spParts : Sp := fun vs H Q _ => ∃ (L : Addr) (ws : List Str) (og : Option Str), vs = [.ref L, ogV og] ∧ H L = some (.lst (strsV ws)) ∧ ws ≠ [] ∧ ws.length ≤ 30000 ∧ (∀ x ∈ ws, x.length ≤ 30000) ∧ (∀ g, og = some g → g.length ≤ 4) ∧
  (partsR og ws = none → RetV .non H Q) ∧ ∀ ds, partsR og ws = some ds → ∀ p xs H', Ex H H' → H' p = some (.tup xs) → RdDs H' xs ds → Q (.ref p) H'
theorem strs_rd {H : Hp} : ∀ ts : List Str, RdDs H (strsV ts) (ts.map PyData.str)
  | [] => .nil
  | t :: ts => .cons (.str t) (strs_rd ts)
/-- what is read of the parts, as values -/
def readV (t g : Str) : V := if g = "l" then .int (intOf t) else .str t
theorem read_rd {H : Hp} : ∀ (ts gs : List Str), RdDs H ((ts.zip gs).map fun p => readV p.1 p.2) ((ts.zip gs).map fun p => readPart p.1 p.2)
  | [], _ => .nil
  | _ :: _, [] => .nil
  | t :: ts, g :: gs => by
    refine .cons ?_ (read_rd ts gs)
    show RdD H (readV t g) (readPart t g)
    unfold readV readPart
    split
    · exact .int _
    · exact .str _
theorem zip_given {α β : Type} (p : α → β → V) (d : α) (e : β) : ∀ (l : List α) (m : List β), l.length = m.length → given l.length (fun _ => true) (fun i => p (l.getD i d) (m.getD i e)) = (l.zip m).map fun x => p x.1 x.2 := by
  intro l m h
  rw [given_all]
  refine List.ext_getElem (by simp [h]) fun i h1 h2 => ?_
  have hi : i < l.length := by simpa using h1
  have hj : i < m.length := by omega
  simp only [List.getElem_map, List.getElem_range, List.getElem_zip]
  rw [List.getD_eq_getElem?_getD, List.getD_eq_getElem?_getD, List.getElem?_eq_getElem hi, List.getElem?_eq_getElem hj]
  rfl
theorem written_at {ts : List Str} {g : Str} (h : writtenAll ts g = true) {i : Nat} {t c : Str} (ht : ts[i]? = some t) (hc : (signsS g)[i]? = some c) : isWritten t c = true := by
  unfold writtenAll at h
  have := List.all_eq_true.mp h (.str t, c) (List.mem_iff_getElem?.mpr ⟨i, by rw [List.getElem?_zip_eq_some]; exact ⟨by rw [List.getElem?_map, ht]; rfl, hc⟩⟩)
  exact this
section
variable {P : Program} {w : World} {K : PySem.W.Frag} {mg : Str → Option Value} {base : Heap} {CF CT : Addr}
theorem sc_written : FnScope ["text", "sign"] ["text", "sign"] (defScope s_is_written) := ⟨rfl, rfl, rfl, by decide +kernel, rfl, by decide +kernel, by decide +kernel⟩
theorem h_written (T : TxForms K mg) (TF : TxFact K w mg) : Has P w K mg base CX0 4 "is_written" ["text", "sign"] spWritten := by
  obtain ⟨f, fd, a, F⟩ := TF.written.ex
  have N : Has P w K mg base CX0 2 "is_number" ["text", "most"] spNumber := h_number T
  have R : Has P w K mg base CX0 3 "is_part" ["text", "sign"] spPart := h_part T TF
  refine ⟨f, fd, a, F.kp, F.binds fun _ _ _ _ _ _ us hl => match us, hl with | [_, _], _ => rfl, ?_⟩
  refine F.ok sc_written (fun vs H Q E h => ?_) (fun cdv A outer s H vs Q E hr h => ?_)
  · obtain ⟨t, g, rfl, _⟩ := h
    rfl
  · obtain ⟨t, g, rfl, hz, k⟩ := h
    refine ⟨_, pss_cons (ps_if (pt_cmpR op_eq (pv 1) pe_str (nomark _)) (pss_one (ps_ret (pe_and (pe_h N (hr.mono (by decide)) (pa_cons (pv 0) (pa_cons pe_int pa_nil))) (pe_one (pe_cmpR op_ne (pv 0) pe_str (nomark _)))))) pss_nil)
      (pss_one (ps_ret (pe_h R hr (pa_cons (pv 0) (pa_cons (pv 1) pa_nil))))), ?_⟩
    unfold isWritten at k
    refine q_when (b := decide (g = "l")) (et_test (ev_eqS (ev_var rfl) ev_c)) (fun h H1 e1 => ?_) (fun h H1 e1 => ?_)
    · rw [if_pos (of_decide_eq_true h)] at k
      refine s_ret (v := .bl (isNumber t 9 && !decide (t = "0"))) (ev_andV (ev_h (ea_cons (ev_var rfl) (ea_cons ev_c ea_nil)) (spNumber_v (by omega) (by decide))) fun _ => ?_) fun H2 e2 => k _ (e1.trans e2)
      have e0 : decide (t = "0") = decide (V.str t = V.str "0") := decide2 str_inj.symm
      rw [e0]
      exact ev_op (ev_var rfl) ev_c (rv_ne rfl)
    · rw [if_neg (of_decide_eq_false h)] at k
      exact s_ret (ev_h (ea_cons (ev_var rfl) (ea_cons (ev_var rfl) ea_nil)) (spPart_v (by omega))) fun H2 e2 => k _ (e1.trans e2)
theorem sc_parts : FnScope ["words", "form", "word", "sign"] ["words", "form"] (defScope s_parts_read) := ⟨rfl, rfl, rfl, by decide +kernel, rfl, by decide +kernel, by decide +kernel⟩
theorem h_parts (T : TxForms K mg) (TF : TxFact K w mg) : Has P w K mg base CX0 5 "parts_read" ["words", "form"] spParts := by
  obtain ⟨f, fd, a, F⟩ := TF.parts.ex
  have WR : Has P w K mg base CX0 4 "is_written" ["text", "sign"] spWritten := h_written T TF
  refine ⟨f, fd, a, F.kp, F.binds fun _ _ _ _ _ _ us hl => match us, hl with | [_, _], _ => rfl, ?_⟩
  refine F.ok sc_parts (fun vs H Q E h => ?_) (fun cdv A outer s H vs Q E hr h => ?_)
  · obtain ⟨L, ws, og, rfl, _⟩ := h
    rfl
  · obtain ⟨L, ws, og, rfl, hL, ne, wl, wz, gl, k1, k2⟩ := h
    refine ⟨_, pss_cons (ps_if (PW.pt (pw_or (pt_cmpR op_isN (pv 1) pe_non (nomark _)) (pw_or1 (pt_cmpR op_ne (pe_callB call_lenT (by rfl) TF.len PySem.boot_len (pa_cons (pv 0) pa_nil)) (pe_op op_add (pe_callB call_lenStr (by rfl) TF.len PySem.boot_len (pa_cons (pv 1) pa_nil)) pe_int) (nomark _)))))
        (pss_one (ps_ret pe_non)) pss_nil)
      (pss_cons (ps_if (pt_not (pt_val (pe_callB (cr_all rfl) (by rfl) TF.all (by decide +kernel) (pa_cons (pe_lc (own := [("word", 2), ("sign", 3)]) (g := gTup K 2 (gCons (gName 2) (gCons (gName 3) gNil))) (by rfl) sc_parts.nd
          (pi_zipS (by rfl) TF.zip (pa_cons (pe_slice sl_list (pv 0) (po_some pe_int) po_none) (pa_cons (pv 1) pa_nil)))
          (blkOk_by (own := [("word", 2), ("sign", 3)]) (N := ["words", "form", "word", "sign"]) (sc := defScope s_parts_read) (by decide +kernel))
          (fun _ _ _ _ _ => pg_tup rfl (pgs_cons (pg_name (i := 2) sc_parts.nd rfl (Or.inl rfl)) (pgs_cons (pg_name (i := 3) sc_parts.nd rfl (Or.inl rfl)) pgs_nil))) (fun _ _ _ _ _ => pts_nil)
          (fun _ _ _ _ _ => pe_h WR hr (pa_cons (pv 2) (pa_cons (pv 3) pa_nil)))) pa_nil))))
        (pss_one (ps_ret pe_non)) pss_nil)
      (pss_one (ps_ret (pe_callTy call_tupR (by rfl) TF.tuple (by decide +kernel) (pa_cons (pe_op op_cat (pe_slice sl_list (pv 0) po_none (po_some pe_int)) (pe_lc (own := [("word", 2), ("sign", 3)]) (g := gTup K 2 (gCons (gName 2) (gCons (gName 3) gNil))) (by rfl) sc_parts.nd
          (pi_zipS (by rfl) TF.zip (pa_cons (pe_slice sl_list (pv 0) (po_some pe_int) po_none) (pa_cons (pv 1) pa_nil)))
          (blkOk_by (own := [("word", 2), ("sign", 3)]) (N := ["words", "form", "word", "sign"]) (sc := defScope s_parts_read) (by decide +kernel))
          (fun _ _ _ _ _ => pg_tup rfl (pgs_cons (pg_name (i := 2) sc_parts.nd rfl (Or.inl rfl)) (pgs_cons (pg_name (i := 3) sc_parts.nd rfl (Or.inl rfl)) pgs_nil))) (fun _ _ _ _ _ => pts_nil)
          (fun _ _ _ _ _ => pe_ifExp (pt_cmpR op_eq (pv 3) pe_str (nomark _)) (pe_callTy (r := rIntS) call_intS (by rfl) TF.int (by decide +kernel) (pa_cons (pv 2) pa_nil)) (pv 2)))) pa_nil))))), ?_⟩
    match ws, ne with
    | w0 :: ts, _ =>
    cases og with
    | none =>
      refine q_when (b := true) (et_or (a := true) (b := false) (et_test (ev_isN6 (σ := [some (V.ref L), some V.non, none, none]) (te := tVar 1) (v := .non) (ev_var rfl))) fun z => by cases z) (fun h H3 e3 => ?_) (fun h H3 e3 => by cases h)
      exact s_ret ev_c fun H4 e4 => k1 rfl _ (e3.trans e4)
    | some g =>
      have hR : partsR (some g) (w0 :: ts) = if (decide (ts.length + 1 = g.length + 1) && writtenAll ts g) = true then some (.str w0 :: readTs ts g) else none := rfl
      have gl4 := gl g rfl
      have e9 : (!decide (ts.length + 1 = g.length + 1)) = (!decide ((((strsV (w0 :: ts)).length : Nat) : Int) = (g.length : Int) + 1)) := by
        rw [strsV_len, List.length_cons]
        congr 1
        exact decide2 (by omega)
      refine q_when (b := !decide (ts.length + 1 = g.length + 1)) (et_or (a := false) (et_test (by
          have := ev_isN6 (σ := [some (V.ref L), some (V.str g), none, none]) (H := H) (te := tVar 1) (v := .str g) (ev_var rfl)
          rw [decide_eq_false (by intro z; cases z)] at this
          exact this)) fun _ => et_test (by
          refine Eq.mpr (congrArg (fun z => Ev _ _ _ (V.bl z)) e9) ?_
          exact ev_neI (ev_lenL (ev_var rfl) hL) (ev_op (ev_lenS (ev_var rfl) (by omega)) ev_c rv_I0))) (fun h H1 e1 => ?_) (fun h H1 e1 => ?_)
      · rw [Bool.not_eq_true'] at h
        exact s_ret ev_c fun H2 e2 => k1 (by rw [hR, h]; rfl) _ (e1.trans e2)
      · rw [Bool.not_eq_false'] at h
        have hlen : ts.length = g.length := by have := of_decide_eq_true h; omega
        have hL1 := e1 _ _ hL
        have hs : ∀ {H' : Hp}, H' L = some (.lst (strsV (w0 :: ts))) → EvL (tSl (rSlL K) (tVar 0) (tPart (tC (.int 1))) tNoPart) [some (V.ref L), some (V.str g), none, none] H' (strsV ts) := fun hL' => by
          have := el_slF (K := K) (lo := 1) (er_v (i := 0) (σ := [some (V.ref L), some (V.str g), none, none]) rfl hL') ev_c
          rw [show strsV (w0 :: ts) = V.str w0 :: strsV ts from rfl, cut1] at this
          exact this
        refine q_when (b := !writtenAll ts g) (et_not (et_B (ev_allZ (K := K) (xs := strsV ts) (ds := ts.map PyData.str) (fun d c => isWrittenD d c) (evz_ls (hs hL1) (ev_var rfl)) (strs_rd ts) (by rw [List.length_map]; exact hlen) (by rw [List.length_map]; omega) (fun _ _ => rfl) fun x1 d1 c H4 e4 hm rd => by
            obtain ⟨t, ht, rfl⟩ := List.mem_map.mp hm
            cases rd
            exact ev_h (ea_cons (ev_var rfl) (ea_cons (ev_var rfl) ea_nil)) (spWritten_v (by have := wz t (List.mem_cons_of_mem _ ht); omega))))) (fun h2 H2 e2 => ?_) (fun h2 H2 e2 => ?_)
        · rw [Bool.not_eq_true'] at h2
          exact s_ret ev_c fun H3 e3 => k1 (by rw [hR, h2, Bool.and_false]; rfl) _ ((e1.trans e2).trans e3)
        · rw [Bool.not_eq_false'] at h2
          have hL2 := e2 _ _ hL1
          refine s_retU (xs := V.str w0 :: (ts.zip (signsS g)).map fun p => readV p.1 p.2) (eu_tupL (K := K) ?_) fun p H3 hp e3 h3 => k2 (.str w0 :: readTs ts g) (by rw [hR, h, h2]; rfl) p _ H3 ((e1.trans e2).trans e3) h3 (.cons (.str w0) (read_rd ts (signsS g)))
          have sl : (signsS g).length = g.length := signsS_len g
          have c1 := el_slR (K := K) (hi := 1) (er_v (i := 0) (σ := [some (V.ref L), some (V.str g), none, none]) rfl hL2) ev_c
          rw [show strsV (w0 :: ts) = V.str w0 :: strsV ts from rfl, cut1L] at c1
          refine el_cat (xs := [V.str w0]) (er_l c1) (er_l ?_) (by rw [List.length_map, List.length_zip]; show 1 + _ ≤ _; omega)
          rw [← zip_given (fun t c => readV t c) "" "" ts (signsS g) (by omega)]
          have lt : (strsV ts).length = ts.length := strsV_len _
          rw [← lt]
          refine el_lcZ (ys := signsV g) _ (evz_ls (hs hL2) (ev_var rfl)) (by rw [lt, signsV_eq, List.length_map]; omega) (by omega) (fun _ _ => rfl) fun i x y H3 e3 hx hy => ?_
          unfold strsV at hx
          rw [List.getElem?_map] at hx
          obtain ⟨t, ht, rfl⟩ := Option.map_eq_some_iff.mp hx
          rw [signsV_eq, List.getElem?_map] at hy
          obtain ⟨c, hc, rfl⟩ := Option.map_eq_some_iff.mp hy
          have e2' : ts.getD i "" = t := by rw [List.getD_eq_getElem?_getD, ht]; rfl
          have e3' : (signsS g).getD i "" = c := by rw [List.getD_eq_getElem?_getD, hc]; rfl
          rw [e2', e3']
          have wr := written_at h2 ht hc
          unfold readV
          by_cases hcl : c = "l"
          · rw [if_pos hcl]
            refine ev_ifV (b := true) (et_test (by
              have := ev_eqS (σ := [some (V.ref L), some (V.str g), some (V.str t), some (V.str c)]) (H := H3) (ta := tVar 3) (tb := tC (.str "l")) (ev_var rfl) ev_c
              rw [decide_eq_true hcl] at this
              exact this)) (fun _ => ?_) (fun z => by cases z)
            unfold isWritten at wr
            rw [if_pos hcl] at wr
            obtain ⟨n, hn, _, _, hl9, _⟩ := number_val wr
            have : intOf t = (n : Int) := by unfold intOf; rw [hn]; rfl
            rw [this]
            exact ev_intS (ev_var rfl) hn (by omega)
          · rw [if_neg hcl]
            exact ev_ifV (b := false) (et_test (by
              have := ev_eqS (σ := [some (V.ref L), some (V.str g), some (V.str t), some (V.str c)]) (H := H3) (ta := tVar 3) (tb := tC (.str "l")) (ev_var rfl) ev_c
              rw [decide_eq_false hcl] at this
              exact this)) (fun z => by cases z) (fun _ => ev_var rfl)
end
end HF
set_option maxRecDepth 100000
set_option maxHeartbeats 2000000
namespace HF
open PySem L2 Evl
def spRd (CT : Addr) : Sp := fun vs H Q E => ∃ (v : V) (d : PyData), vs = [v] ∧ RdD H v d ∧ Tidy0 d ∧
  (readD d = none → ∀ dd H', H dd = none → Ex H H' → H' dd = some (.xd [("line", .int 0)]) → E (.ref CT) (some dd) H') ∧ ∀ ds, readD d = some ds → ∀ p xs H', Ex H H' → H' p = some (.tup xs) → RdDs H' xs ds → Q (.ref p) H'
theorem parts_len {og : Option Str} {ws : List Str} {ds : List PyData} (h : partsR og ws = some ds) (hg : ∀ g, og = some g → g.length ≤ 4) : ws.length ≤ 5 ∧ ds.length = ws.length := by
  unfold partsR at h
  cases og with
  | none => cases h
  | some g =>
    have h' : (if (decide (ws.length = g.length + 1) && writtenAll ws.tail g) = true then some (PyData.str (wd ws 0) :: readTs ws.tail g) else none) = some ds := h
    split at h'
    · rename_i z
      cases h'
      rw [Bool.and_eq_true, decide_eq_true_eq] at z
      have := hg g rfl
      refine ⟨by omega, ?_⟩
      unfold readTs
      rw [List.length_cons, List.length_map, List.length_zip, signsS_len, List.length_tail]
      omega
    · cases h'
theorem q_parts {K : PySem.W.Frag} {σ : L2.St} {H : Hp} {D : Ends} {tz : TS} {i j : Nat} {d L : Addr} {te : TE} {ws : List Str} (t1 : ∀ x g, formOf x = some g → ∃ t, PySem.W.nsIn K d x = some (some (.str g t))) (t2 : ∀ x, formOf x = none → PySem.W.nsIn K d x = some none)
    (h0 : σ[j]? = some (some (.ref L))) (hL : H L = some (.lst (strsV ws))) (ne : ws ≠ []) (wl : ws.length ≤ 30000) (wz : ∀ x ∈ ws, x.length ≤ 30000) (h : Ev te σ H (.str (wd ws 0)))
    (k1 : partsR (formOf (wd ws 0)) ws = none → ∀ H1, Ex H H1 → tz D (σ.set i (some .non)) H1) (k2 : ∀ ds, partsR (formOf (wd ws 0)) ws = some ds → ∀ p xs H1, Ex H H1 → H1 p = some (.tup xs) → RdDs H1 xs ds → tz D (σ.set i (some (.ref p))) H1) :
    tSeq (tAsg (tCall spParts [] E0 (tCons (tVar j) (tCons (tKGet K d (tC (.ref d)) te) tNil))) (gName i)) tz D σ H := by
  refine ⟨_, h0, t_fget t1 t2 h fun H1 e1 => ?_⟩
  exact ⟨L, ws, formOf (wd ws 0), rfl, e1 _ _ hL, ne, wl, wz, fun g hg => form_len _ g hg, fun z H2 e2 => k1 z H2 (e1.trans e2), fun ds z p xs H2 e2 hp r => k2 ds z p xs H2 (e1.trans e2) hp r⟩
section
variable {P : Program} {w : World} {K : PySem.W.Frag} {mg : Str → Option Value} {base : Heap} {CF CT : Addr}
theorem sc_readf : FnScope ["text", "words", "fact"] ["text"] (defScope s_read_fact) := ⟨rfl, rfl, rfl, by decide +kernel, rfl, by decide +kernel, by decide +kernel⟩
theorem f_readf (T : TxForms K mg) (TF : TxFact K w mg) (TE : TxErF K mg CF CT) : ∃ (f : Addr) (fd : FuncData), mg "read_fact" = some (.ref f) ∧ Fun K "read_fact" "read_fact" s_read_fact f fd ∧ FnOk P w K mg base (L2.CX P w) 6 f fd ["text"] (spRd CT) := by
  obtain ⟨f, fd, a, F⟩ := TF.read_.ex
  have PR : Has P w K mg base CX0 5 "parts_read" ["words", "form"] spParts := h_parts T TF
  have XB : HasX P w K mg base "BadText" CT ["self", "line"] "line" := h_badtext TE
  obtain ⟨dF, es, n, hmd, D, t1, t2⟩ := TF.facts
  refine ⟨f, fd, a, F, ?_⟩
  refine F.okX sc_readf (fun vs H Q E h => ?_) (fun cdv A outer s H vs Q E hr h => ?_)
  · obtain ⟨v, d, rfl, _⟩ := h
    rfl
  · obtain ⟨v, d, rfl, hd, ht, kE, kQ⟩ := h
    have hr2 : Room 2 _ := hr.mono (by decide)
    refine ⟨_, pss_cons (ps_if (pt_not (pt_val (pe_callB (r := rIsi K) call_isi (by rfl) TF.isi boot_isi (pa_cons (pv 0) (pa_cons (pe_bltn (v := .ty "str") (by rfl) TF.str (by decide +kernel) rfl) pa_nil)))))
        (pss_one (ps_raise rfl (takes_of rfl rfl rfl rfl) (pmk_x XB hr2 pe_int))) pss_nil)
      (pss_cons (ps_set (i := 1) sc_readf.nd rfl (Or.inl rfl) (pe_splitR (pv 0) pe_str))
      (pss_cons (ps_set (i := 2) sc_readf.nd rfl (Or.inl rfl) (pe_h PR hr (pa_cons (pv 1) (pa_cons (pe_kget D (pe_glob (v := .ref dF) rfl hmd rfl) (pe_ix ix_list (pv 1) pe_int (fun _ _ => rfl)) ⟨rfl, rfl, rfl, rfl⟩) pa_nil))))
      (pss_cons (ps_if (pt_cmpR op_isN (pv 2) pe_non (nomark _)) (pss_one (ps_raise rfl (takes_of rfl rfl rfl rfl) (pmk_x XB hr2 pe_int))) pss_nil)
      (pss_one (ps_ret (pv 2)))))), ?_⟩
    have bad : ∀ {σ : L2.St} {H1 : Hp}, Ex H H1 → readD d = none → tMkO CT (spInitX CT "line") [] (tCons (tC (.int 0)) tNil) σ H1 E := fun e1 hf =>
      mk_x (v := .int 0) ev_c fun dd H7 hd7 e7 h7 => kE hf dd H7 (none_of_ex e1 hd7) (e1.trans e7) h7
    have hty := rd_isStr (K := K) hd
    cases hd with
    | str t =>
      have wt := ht.wt
      rw [PyData.weight] at wt
      have tz : t.length ≤ 500 := wt
      obtain ⟨wne, wl, wz⟩ := split_ok (t := t) (c := " ") (by decide +kernel)
      refine q_when (b := false) (et_not (a := true) (et_B (ev_isi (σ := start ["text", "words", "fact"] [V.str t]) (ev_var rfl) hty))) (fun h H1 e1 => by cases h) (fun h H1 e1 => ?_)
      refine q_asgL (el_split (ev_var rfl) ev_c (by decide +kernel) (by omega)) fun L H2 hL e2 hL2 => ?_
      have e12 := e1.trans e2
      have hix : Ev (tOp (rIxL K) (tVar 1) (tC (.int 0))) [some (V.str t), some (V.ref L), none] H2 (.str (wd (Txt.split t " ") 0)) := by
        cases hs : Txt.split t " " with
        | nil => exact absurd hs wne
        | cons w0 r =>
          rw [hs] at hL2
          exact ev_ixB6 (n := 0) (ev_var rfl) hL2 rfl
      refine q_parts t1 t2 rfl hL2 wne (by omega) (fun x hx => by have := wz x hx; omega) hix (fun z H4 e4 => ?_) (fun ds z p xs H4 e4 hp r => ?_)
      · refine q_when (b := true) (et_test (ev_isN6 (σ := [some (V.str t), some (V.ref L), some V.non]) (te := tVar 2) (v := .non) (ev_var rfl))) (fun h H5 e5 => ?_) (fun h H5 e5 => by cases h)
        exact bad ((e12.trans e4).trans e5) z
      · refine q_when (b := false) (et_test (by
          have := ev_isN6 (σ := [some (V.str t), some (V.ref L), some (V.ref p)]) (H := H4) (te := tVar 2) (v := .ref p) (ev_var rfl)
          rw [decide_eq_false (by intro z; cases z)] at this
          exact this)) (fun h H5 e5 => by cases h) (fun h H5 e5 => ?_)
        exact s_ret (ev_var rfl) fun H6 e6 => kQ ds z p xs H6 (((e12.trans e4).trans e5).trans e6) ((e5.trans e6) _ _ hp) (r.mono (e5.trans e6))
    | _ =>
      refine q_when (b := true) (et_not (a := false) (et_B (ev_isi (ev_var rfl) hty))) (fun h H1 e1 => ?_) (fun h H1 e1 => by cases h)
      exact bad e1 rfl
theorem h_readf (T : TxForms K mg) (TF : TxFact K w mg) (TE : TxErF K mg CF CT) : Has P w K mg base (L2.CX P w) 6 "read_fact" ["text"] (spRd CT) := by
  obtain ⟨f, fd, a, F, O⟩ := f_readf (P := P) (base := base) T TF TE
  exact ⟨f, fd, a, F.kp, F.binds fun _ _ _ _ _ _ us hl => match us, hl with | [_], _ => rfl, O⟩
end
end HF
set_option maxRecDepth 100000
set_option maxHeartbeats 2000000
namespace HF
open PySem PySem.Spec PyProof.Rows L2 Evl
open PySem.W (EachIs)
/-! ### d.update(e), dict(pairs) -/
def rUpd : V → List V → Hp → VK → Prop := fun x xs H Q => ∃ (a b : Addr) (kvs more : List (Key × V)), x = .ref a ∧ xs = [.ref b] ∧ H a = some (.dK kvs) ∧ H b = some (.dK more) ∧ a ≠ b ∧ kvs.length + more.length ≤ sizeLine ∧ Q .non (upd H a (.dK (mergeK kvs more)))
theorem mt_update {X : Cx} : MtR X "dict.update" rUpd := by
  intro pins s σ H x xs v us Q I rx rs h
  obtain ⟨a, b, kvs, more, rfl, rfl, ha, hb, hne, hz, q⟩ := h
  cases rx
  obtain ⟨u, rfl, ru⟩ := rs.one
  cases ru
  obtain ⟨z1, s1, vs, rel, dd⟩ := dk_of I.hok ha
  obtain ⟨z2, s2, ms, rel2, dd2⟩ := dk_of I.hok hb
  have l1 : kvs.length = vs.length := rel.length
  have l2 : more.length = ms.length := rel2.length
  have hl : (mergeK kvs more).length ≤ sizeLine := Nat.le_trans (length_mergeK more kvs) hz
  refine call_meetsIn PySem.F.slot_dict_update dd.typeIs PySem.F.entry_dict_update (PySem.F.args_dict_update_2 _ _) (meets_dict_update (mixKind X.prog X.w) a b hne s2) ⟨vs, ms, dd, dd2, by rw [← l1, ← l2]; exact hz, fun h' d1 d2 hs => ?_⟩
  exact ⟨.non, _, d_write (t' := s.toks) I (by rw [ha]; exact True.intro) hs (let ⟨q, _, _, hq, _⟩ := d1; ⟨q, hq⟩) (dk_new hl s1 (KV.merge rel2 rel) d1), rfl, q⟩
def rDictP (K : PySem.W.Frag) : List V → Hp → VK → Prop := fun xs H Q => ∃ (a : Addr) (ps : List Addr) (kvs : List (Key × V)), xs = [.ref a] ∧ SqL K H a (ps.map V.ref) ∧ Paired (fun p kv => SqT K H p [kV kv.1, kv.2]) ps kvs ∧ ∀ p, H p = none → Q (.ref p) (upd H p (.dK (mergeK [] kvs)))
theorem call_dictR {X : Cx} (hcalm : X.calm = true) : CallR X (.type "dict") (rDictP X.K) := call_dictP hcalm
def fkv (x : Str × Str) : Key × V := (.inr x.1, .str x.2)
def fk2 (x : Str × Str) : List Key := [.inr x.1, .inr x.2]
section
variable {K : PySem.W.Frag} {σ : L2.St} {H : Hp} {te tl : TE} {ta : TA} {t : TT}
theorem ts_paired {H : Hp} : ∀ {ts : List Addr} {l : List (Str × Str)}, TsAt H ts (l.map fk2) → Paired (fun p kv => SqT K H p [kV kv.1, kv.2]) ts (l.map fkv)
  | _, [], .nil => .nil
  | _, x :: l, .cons a r => .cons (st_of a) (ts_paired r)
theorem exl_us {bs : List (List Key)} (h : EvUs ta σ H (bs.map (·.map kV))) (hz : bs.length ≤ 1000) : EvX (tLst ta) σ H (PL bs) := fun H1 e Q q => h H1 e _ fun ps H2 e2 hp => by
  have pl : ps.length = bs.length := by rw [each_len hp, List.length_map]
  have rl : (refsV ps).length = bs.length := by unfold refsV; rw [List.length_map, pl]
  refine ⟨sz_of (by rw [rl]; omega), fun l hl => q l _ (fresh_back e2 hl) (e2.trans (Ex.new hl)) ⟨ps, upd_same, ?_⟩⟩
  have go : ∀ {ps : List Addr} {bs : List (List Key)}, EachIs (fun p xs => H2 p = some (.tup xs)) ps (bs.map (·.map kV)) → TsAt H2 ps bs := by
    intro ps bs h
    induction bs generalizing ps with
    | nil => cases h; exact .nil
    | cons b bs ih =>
      cases h with
      | cons a r => exact .cons a (ih r)
  exact (go hp).mono (Ex.new hl)
theorem exl_lcTU {α : Type} {xs : List α} (rv : α → V) (v : α → List Key) {j : Nat} {vs : List Nat} (h : EvU tl σ H (xs.map rv)) (hz : xs.length ≤ 40000) (hw : ∀ x, wipe ((wipe σ vs).set j (some x)) vs = wipe σ vs)
    (he : ∀ (x : α) H1, Ex H H1 → x ∈ xs → EvU te ((wipe σ vs).set j (some (rv x))) H1 ((v x).map kV)) : EvX (tLc (iTup K tl) (gName j) tYes te vs) σ H (PL (xs.map v)) := fun H0 e Q q0 => h H0 e _ fun q H1 _ e1 hq => ⟨q, rfl, ⟨xs.map rv, st_of hq⟩, fun Dl hD =>
  lc_it (n := xs.length) (Eq.mp (by rw [List.length_map]) (walk_tup (K := K) (a := q) (xs := xs.map rv))) (fun i H' => Cx2 H1 ((xs.take i).map v) Dl H') ⟨hD, Ex.new hD, [], upd_same, .nil⟩ (fun i H' _ p => ex_t p.2.1 (st_of hq)) (fun i x H2 H' hi p y => by
    obtain ⟨rfl, hc⟩ := y
    rw [List.getElem?_map] at hc
    obtain ⟨a, ha, rfl⟩ := Option.map_eq_some_iff.mp hc
    have e6 : (xs.take (i + 1)).map v = (xs.take i).map v ++ [v a] := by
      rw [List.take_add_one, ha, List.map_append]
      rfl
    rw [e6]
    exact ⟨hw _, cx_turn (b := true) p (by rw [List.length_map, List.length_take]; omega) et_nil fun _ => he a H1 (e.trans e1) (List.mem_of_getElem? ha)⟩)
    (fun H' p => q0 Dl H' (fresh_back e1 p.1) (e1.trans p.2.1) (by have := p.2.2; rw [List.take_length] at this; exact this))⟩
theorem ex_dict {l : List (Str × Str)} (h : EvX te σ H (PL (l.map fk2))) : EvX (tCB (rDictP K) (tCons te tNil)) σ H (fun p H => H p = some (.dK (mergeK [] (l.map fkv)))) := fun H1 e Q q =>
  h H1 e _ fun a H2 _ e2 hp => by
    obtain ⟨ts, hl, hts⟩ := hp
    exact ⟨a, ts, l.map fkv, rfl, sq_of hl, ts_paired hts, fun p hp => q p _ (fresh_back e2 hp) (e2.trans (Ex.new hp)) upd_same⟩
end
/-! ### the law's forms -/
def formsA : List (Str × Str) := [("at", "ul"), ("yes", "ul"), ("no", "ul")]
def formsB : List (Str × Str) := [("called", "uu"), ("back", "uu"), ("wants", "uu"), ("reads", "uu")]
def formsC : List (Str × Str) := [("holds", "uuxv"), ("keeps", "uuv"), ("gives", "uuv"), ("raises", "uuw"), ("needs", "uux")]
def lawForms : List (Str × Str) := formsA ++ formsB ++ formsC
def lawKv : List (Key × V) := lawForms.map fkv
theorem merge_all : mergeK (mergeK (mergeK [] (formsA.map fkv)) (mergeK [] (formsB.map fkv))) (mergeK [] (formsC.map fkv)) = lawKv := by rfl
def spForms : Sp := fun vs H Q _ => vs = [] ∧ ∀ p H', H p = none → Ex H H' → H' p = some (.dK lawKv) → Q (.ref p) H'
structure TxL77 (K : PySem.W.Frag) (mg : Str → Option Value) : Prop where
  forms : Dfn K mg "_law_forms" s_law_forms
  menu : Dfn K mg "_law_menu" s_law_menu
  part : Dfn K mg "_law_is_part" s_law_is_part
  fact : Dfn K mg "_law_is_fact" s_law_is_fact
  factIn : Dfn K mg "_law_fact_in" s_law_fact_in
  heard : Dfn K mg "_law_heard" s_law_heard
  bent : Dfn K mg "_law_bent" s_law_bent
  bentT : Dfn K mg "_law_bent_text" s_law_bent_text
  right_ : Dfn K mg "_law_right" s_law_right
  dict : mg "dict" = none
  enum : mg "enumerate" = none
  sorted : mg "sorted" = none
  repr : mg "repr" = none
section
variable {P : Program} {w : World} {K : PySem.W.Frag} {mg : Str → Option Value} {base : Heap} {CF CT : Addr}
theorem pe_h0 {X : Cx} {k : Nat} {x : Str} {sp : Sp} {p pos : Pos} (h : Has X.prog X.w X.K X.mg X.base CX0 k x [] sp) (hr : Room k X.A) (hg : Gl X x := by rfl) (hdb : (x == ("__debug__" : Str)) = false := by decide) : PE X (.Call (.Name x p) [] [] pos) (tCall sp [] E0 tNil) := by
  obtain ⟨f, fd, a, b, c, d⟩ := h.ex
  exact pe_call0 d hr hg a b c .nil pass0 hdb
theorem ex_forms {σ : L2.St} {H : Hp} : EvX (tCall spForms [] E0 tNil) σ H (fun p H => H p = some (.dK lawKv)) := fun H1 e Q q => ⟨rfl, fun p H2 hp e2 h2 => q p H2 hp e2 h2⟩
theorem sc_lforms : FnScope ["_law_forms_here", "_law_word"] [] (defScope s_law_forms) := ⟨rfl, rfl, rfl, by decide +kernel, rfl, by decide +kernel, by decide +kernel⟩
theorem h_lforms (TF : TxFact K w mg) (TL : TxL77 K mg) : Has P w K mg base CX0 1 "_law_forms" [] spForms := by
  obtain ⟨f, fd, a, F⟩ := TL.forms.ex
  refine ⟨f, fd, a, F.kp, F.binds fun _ _ _ _ _ _ us hl => match us, hl with | [], _ => rfl, ?_⟩
  refine F.ok sc_lforms (fun vs H Q E h => ?_) (fun cdv A outer s H vs Q E hr h => ?_)
  · obtain ⟨rfl, _⟩ := h
    rfl
  · obtain ⟨rfl, kQ⟩ := h
    refine ⟨_, pss_cons (ps_set (i := 0) sc_lforms.nd rfl (Or.inl rfl) (pe_callTy (call_dictR rfl) (by rfl) TL.dict (by decide +kernel) (pa_cons (pe_lc (own := [("_law_word", 1)]) (g := gName 1) (by rfl) sc_lforms.nd (pi_tup (pe_tup (pa_cons pe_str (pa_cons pe_str (pa_cons pe_str pa_nil)))))
          (blkOk_by (own := [("_law_word", 1)]) (N := ["_law_forms_here", "_law_word"]) (sc := defScope s_law_forms) (by decide +kernel)) (fun _ _ _ _ _ => pg_name (i := 1) sc_lforms.nd rfl (Or.inl rfl)) (fun _ _ _ _ _ => pts_nil)
          (fun _ _ _ _ _ => pe_tup (pa_cons (pv 1) (pa_cons pe_str pa_nil)))) pa_nil)))
      (pss_cons (ps_expr (pe_bm PySem.F.plainAttrs_dict PySem.F.slot_dict_update PySem.F.type_dict_update mt_update (pv 0) (pa_cons (pe_callTy (call_dictR rfl) (by rfl) TL.dict (by decide +kernel) (pa_cons (pe_lc (own := [("_law_word", 1)]) (g := gName 1) (by rfl) sc_lforms.nd (pi_tup (pe_tup (pa_cons pe_str (pa_cons pe_str (pa_cons pe_str (pa_cons pe_str pa_nil))))))
          (blkOk_by (own := [("_law_word", 1)]) (N := ["_law_forms_here", "_law_word"]) (sc := defScope s_law_forms) (by decide +kernel)) (fun _ _ _ _ _ => pg_name (i := 1) sc_lforms.nd rfl (Or.inl rfl)) (fun _ _ _ _ _ => pts_nil)
          (fun _ _ _ _ _ => pe_tup (pa_cons (pv 1) (pa_cons pe_str pa_nil)))) pa_nil)) pa_nil)))
      (pss_cons (ps_expr (pe_bm PySem.F.plainAttrs_dict PySem.F.slot_dict_update PySem.F.type_dict_update mt_update (pv 0) (pa_cons (pe_callTy (call_dictR rfl) (by rfl) TL.dict (by decide +kernel) (pa_cons (pe_lst (pa_cons (pe_tup (pa_cons pe_str (pa_cons pe_str pa_nil))) (pa_cons (pe_tup (pa_cons pe_str (pa_cons pe_str pa_nil))) (pa_cons (pe_tup (pa_cons pe_str (pa_cons pe_str pa_nil)))
          (pa_cons (pe_tup (pa_cons pe_str (pa_cons pe_str pa_nil))) (pa_cons (pe_tup (pa_cons pe_str (pa_cons pe_str pa_nil))) pa_nil)))))) pa_nil)) pa_nil)))
      (pss_one (ps_ret (pv 0))))), ?_⟩
    have d1 : EvX _ (L2.start ["_law_forms_here", "_law_word"] []) H _ := ex_dict (K := K) (l := formsA) (by
      have := exl_lcTU (K := K) (σ := L2.start ["_law_forms_here", "_law_word"] []) (H := H) (tl := tTup (tCons (tC (.str "at")) (tCons (tC (.str "yes")) (tCons (tC (.str "no")) tNil)))) (te := tTup (tCons (tVar 1) (tCons (tC (.str "ul")) tNil))) (j := 1) (vs := [1]) (xs := (["at", "yes", "no"] : List Str)) V.str (fun x => fk2 (x, "ul")) (eu_tup (ea_cons ev_c (ea_cons ev_c (ea_cons ev_c ea_nil))) (by show 3 ≤ 100000; decide)) (by show 3 ≤ 40000; decide) (fun _ => rfl) (fun x H1 e1 _ => eu_tup (ea_cons (ev_var rfl) (ea_cons ev_c ea_nil)) (by show 2 ≤ 100000; decide))
      exact this)
    refine d1 H (Ex.refl _) _ fun p H1 hp e1 h1 => ?_
    have d2 : EvX _ ((L2.start ["_law_forms_here", "_law_word"] []).set 0 (some (.ref p))) H1 _ := ex_dict (K := K) (l := formsB) (by
      have := exl_lcTU (K := K) (σ := (L2.start ["_law_forms_here", "_law_word"] []).set 0 (some (.ref p))) (H := H1) (tl := tTup (tCons (tC (.str "called")) (tCons (tC (.str "back")) (tCons (tC (.str "wants")) (tCons (tC (.str "reads")) tNil))))) (te := tTup (tCons (tVar 1) (tCons (tC (.str "uu")) tNil))) (j := 1) (vs := [1]) (xs := (["called", "back", "wants", "reads"] : List Str)) V.str (fun x => fk2 (x, "uu")) (eu_tup (ea_cons ev_c (ea_cons ev_c (ea_cons ev_c (ea_cons ev_c ea_nil)))) (by show 4 ≤ 100000; decide)) (by show 4 ≤ 40000; decide) (fun _ => rfl) (fun x H1 e1 _ => eu_tup (ea_cons (ev_var rfl) (ea_cons ev_c ea_nil)) (by show 2 ≤ 100000; decide))
      exact this)
    refine ⟨_, rfl, Or.inr (Or.inr (Or.inl ⟨rfl, Or.inl ⟨_, h1⟩⟩)), d2 H1 (Ex.refl _) _ fun r H2 hr2 e2 h2 => ⟨p, r, _, _, rfl, rfl, e2 _ _ h1, h2, ne_of_none h1 hr2, sz_of (by decide +kernel), ?_⟩⟩
    have e02 : Ex H (upd H2 p (.dK (mergeK (mergeK [] (formsA.map fkv)) (mergeK [] (formsB.map fkv))))) := Ex.mut (e1.trans e2) hp
    generalize hH3 : upd H2 p (.dK (mergeK (mergeK [] (formsA.map fkv)) (mergeK [] (formsB.map fkv)))) = H3 at e02 ⊢
    have h3 : H3 p = some (.dK (mergeK (mergeK [] (formsA.map fkv)) (mergeK [] (formsB.map fkv)))) := by rw [← hH3, upd_same]
    have d3 : EvX _ ((L2.start ["_law_forms_here", "_law_word"] []).set 0 (some (.ref p))) H3 _ := ex_dict (K := K) (l := formsC) (exl_us (bs := formsC.map fk2) (eus_cons (eu_tup (ea_cons ev_c (ea_cons ev_c ea_nil)) (by show 2 ≤ 100000; decide)) (eus_cons (eu_tup (ea_cons ev_c (ea_cons ev_c ea_nil)) (by show 2 ≤ 100000; decide)) (eus_cons (eu_tup (ea_cons ev_c (ea_cons ev_c ea_nil)) (by show 2 ≤ 100000; decide))
      (eus_cons (eu_tup (ea_cons ev_c (ea_cons ev_c ea_nil)) (by show 2 ≤ 100000; decide)) (eus_cons (eu_tup (ea_cons ev_c (ea_cons ev_c ea_nil)) (by show 2 ≤ 100000; decide)) eus_nil))))) (by show 5 ≤ 1000; decide))
    refine ⟨_, rfl, Or.inr (Or.inr (Or.inl ⟨rfl, Or.inl ⟨_, h3⟩⟩)), d3 H3 (Ex.refl _) _ fun r2 H4 hr4 e4 h4 => ⟨p, r2, _, _, rfl, rfl, e4 _ _ h3, h4, ne_of_none h3 hr4, sz_of (by decide +kernel), ?_⟩⟩
    refine s_ret (v := .ref p) (ev_var rfl) fun H5 e5 => kQ p H5 hp ((Ex.mut (e02.trans e4) hp).trans e5) (e5 _ _ ?_)
    rw [upd_same, merge_all]
end
end HF
set_option maxRecDepth 100000
set_option maxHeartbeats 2000000
namespace HF
open PySem PySem.Spec PyProof.Rows L2 Evl
/-! ### t == (), texts by their order -/
def rEqNil : R2 := fun x y H Q => ∃ (a b : Addr) (xs : List V), x = .ref a ∧ y = .ref b ∧ H a = some (.tup xs) ∧ H b = some (.tup []) ∧ Q (.bl xs.isEmpty) H
theorem op_eqNil {X : Cx} (hu : X.A.units + 64 < cLine) : OpR X (compareOp .Eq) rEqNil := by
  intro pins s σ H x y v u Q I rx ry h
  obtain ⟨a, b, xs, rfl, rfl, ha, hb, q⟩ := h
  cases rx
  cases ry
  obtain ⟨its, r1, p1, _⟩ := I.tuple (st_of ha)
  obtain ⟨its2, r2, p2, _⟩ := I.tuple (st_of hb)
  cases r2
  have pb : s.heap.IsTuple b (#[] : Array Value) := p2
  refine SeqAt.eq_tupleAt (e := fun _ => true) (show s.heap.IsTuple a its.toArray from p1) pb (by omega) (fun j h1 h2 => absurd h2 (Nat.not_lt_zero _)) ⟨.bl xs.isEmpty, H, I, ?_, q⟩
  show Value.bool _ = Value.bool xs.isEmpty
  have ln : xs.length = its.length := r1.length
  cases xs with
  | nil =>
    have : its = [] := List.eq_nil_of_length_eq_zero ln.symm
    rw [this]
    rfl
  | cons x xs =>
    cases its with
    | nil => cases ln
    | cons i its => simp
def rLeS : R2 := fun x y H Q => ∃ i j : Str, x = .str i ∧ y = .str j ∧ Q (.bl (!decide (j.cps.toList < i.cps.toList))) H
theorem op_leS {X : Cx} : OpR X (compareOp .LtE) rLeS := op_le_str
theorem one_lt (c k : Nat) : decide (([c] : List Nat) < [k]) = decide (c < k) := by
  refine decide2 ⟨fun h => ?_, fun h => ?_⟩
  · rcases List.cons_lt_cons_iff.mp h with z | ⟨_, z⟩
    · exact z
    · exact absurd z (List.not_lt_nil _)
  · exact List.cons_lt_cons_iff.mpr (Or.inl h)
section
variable {K : PySem.W.Frag} {σ : L2.St} {H : Hp} {te ta tb : TE}
theorem rv_leC {c k : Nat} {t : Str} (ht : t.cps.toList = [k]) : RV rLeS (.str t) (.str ⟨#[c]⟩) H (.bl (decide (k ≤ c))) := fun H1 _ Q q => ⟨t, ⟨#[c]⟩, rfl, rfl, by
  have e : (!decide ((⟨#[c]⟩ : Str).cps.toList < t.cps.toList)) = decide (k ≤ c) := by
    rw [ht]
    show (!decide (([c] : List Nat) < [k])) = _
    rw [one_lt]
    by_cases h : c < k
    · rw [decide_eq_true h, decide_eq_false (by omega)]; rfl
    · rw [decide_eq_false h, decide_eq_true (by omega)]; rfl
  rw [e]
  exact q H1 (Ex.refl _)⟩
theorem rv_geC {c k : Nat} {t : Str} (ht : t.cps.toList = [k]) : RV rLeS (.str ⟨#[c]⟩) (.str t) H (.bl (decide (c ≤ k))) := fun H1 _ Q q => ⟨⟨#[c]⟩, t, rfl, rfl, by
  have e : (!decide (t.cps.toList < (⟨#[c]⟩ : Str).cps.toList)) = decide (c ≤ k) := by
    rw [ht]
    show (!decide (([k] : List Nat) < [c])) = _
    rw [one_lt]
    by_cases h : k < c
    · rw [decide_eq_true h, decide_eq_false (by omega)]; rfl
    · rw [decide_eq_false h, decide_eq_true (by omega)]; rfl
  rw [e]
  exact q H1 (Ex.refl _)⟩
/-- lo <= sign <= hi -/
theorem ev_between {c k1 k2 : Nat} {lo hi : Str} (h1 : lo.cps.toList = [k1]) (h2 : hi.cps.toList = [k2]) (h : Ev te σ H (.str ⟨#[c]⟩)) : Ev (tChain rLeS rLeS (tC (.str lo)) te (tC (.str hi))) σ H (.bl (decide (k1 ≤ c) && decide (c ≤ k2))) :=
  ev_chain ev_c h (rv_leC h1) (fun _ => ev_c) (fun _ => rv_geC h2)
theorem ev_allS {t : Str} {j : Nat} {vs : List Nat} (p : Nat → Bool) (h : Ev ta σ H (.str t)) (hz : t.cps.size ≤ 40000) (hw : ∀ x, wipe ((wipe σ vs).set j (some x)) vs = wipe σ vs)
    (he : ∀ c H1, Ev te ((wipe σ vs).set j (some (.str ⟨#[c]⟩))) H1 (.bl (p c))) : Ev (tCB (rAll K) (tCons (tLc (iStr ta) (gName j) tYes te vs) tNil)) σ H (.bl (t.cps.toList.all p)) := by
  have e : t.cps.toList.all p = ((List.range t.cps.size).map fun i => p (t.cps.toList.getD i 0)).all id := by
    have := all_range t.cps.toList p 0
    rw [Array.length_toList] at this
    exact this.symm
  rw [e]
  refine ev_all ?_
  rw [← given_bl]
  refine el_lcS (fun _ => true) _ h hz hw (fun _ _ _ _ _ => et_nil) fun i c H1 e1 hc _ => ?_
  have e2 : t.cps.toList.getD i 0 = c := by
    rw [List.getD_eq_getElem?_getD, Array.getElem?_toList, hc]
    rfl
  rw [e2]
  exact he c H1
theorem ev_inU {n : Str} {l : List Str} {tz : TA} (h : Ev te σ H (.str n)) (ha : EvA tz σ H (strsV l)) (hz : l.length ≤ 1000) : Ev (tOp (rIn K false) te (tTup tz)) σ H (.bl (inS n l)) := ev_inW h ha hz
end
theorem upp_as (c : Nat) : (decide (65 ≤ c) && decide (c ≤ 90)) = decide (c ∈ UPP.cps.toList) := by
  by_cases h : c < 128
  · have : ∀ c : Fin 128, (decide (65 ≤ c.val) && decide (c.val ≤ 90)) = decide (c.val ∈ UPP.cps.toList) := by decide +kernel
    exact this ⟨c, h⟩
  · have : ∀ c ∈ UPP.cps.toList, c < 128 := by decide +kernel
    rw [decide_eq_false (fun z => h (this c z)), decide_eq_false (by omega : ¬c ≤ 90), Bool.and_false]
theorem low_as (c : Nat) : (decide (97 ≤ c) && decide (c ≤ 122)) = decide (c ∈ LOW.cps.toList) := by
  by_cases h : c < 128
  · have : ∀ c : Fin 128, (decide (97 ≤ c.val) && decide (c.val ≤ 122)) = decide (c.val ∈ LOW.cps.toList) := by decide +kernel
    exact this ⟨c, h⟩
  · have : ∀ c ∈ LOW.cps.toList, c < 128 := by decide +kernel
    rw [decide_eq_false (fun z => h (this c z)), decide_eq_false (by omega : ¬c ≤ 122), Bool.and_false]
theorem lowdig_as (c : Nat) : ((decide (97 ≤ c) && decide (c ≤ 122)) || (decide (48 ≤ c) && decide (c ≤ 57))) = decide (c ∈ (LOW ++ DIG).cps.toList) := by
  by_cases h : c < 128
  · have : ∀ c : Fin 128, ((decide (97 ≤ c.val) && decide (c.val ≤ 122)) || (decide (48 ≤ c.val) && decide (c.val ≤ 57))) = decide (c.val ∈ (LOW ++ DIG).cps.toList) := by decide +kernel
    exact this ⟨c, h⟩
  · have : ∀ c ∈ (LOW ++ DIG).cps.toList, c < 128 := by decide +kernel
    rw [decide_eq_false (fun z => h (this c z)), decide_eq_false (by omega : ¬c ≤ 122), decide_eq_false (by omega : ¬c ≤ 57), Bool.and_false, Bool.and_false]
    rfl
/-! ### the law's look at a part -/
def sorts5 : List Str := ["u", "x", "l", "w", "v"]
def toG (c : Str) : Str := if c = "u" then "n" else c
def spLPart : Sp := fun vs H Q _ => ∃ (c : Str) (v : V) (d : PyData), vs = [.str c, v] ∧ c ∈ sorts5 ∧ RdD H v d ∧ txD d ≤ 40000 ∧ RetV (.bl (isShown d (toG c))) H Q
theorem spLPart_v {H : Hp} {c : Str} {v : V} {d : PyData} (hc : c ∈ sorts5) (h : RdD H v d) (hz : txD d ≤ 40000) : SpV spLPart [.str c, v] H (.bl (isShown d (toG c))) := fun H1 e Q q E => ⟨c, v, d, rfl, hc, h.mono e, hz, q⟩
def len16 (t : Str) : Bool := decide (1 ≤ t.length) && decide (t.length ≤ 6)
theorem ev16' {t : Str} {σ : L2.St} {H : Hp} {te : TE} (h : Ev te σ H (.str t)) (hz : t.length ≤ 60000) : Ev (tChain (rI0 fun i j => .bl (decide (i ≤ j))) (rI0 fun i j => .bl (decide (i ≤ j))) (tC (.int 1)) (tCB rLenStr (tCons te tNil)) (tC (.int 6))) σ H (.bl (len16 t)) := by
  have e1 : decide (1 ≤ t.length) = decide ((1 : Int) ≤ (t.length : Int)) := decide2 (by omega)
  have e2 : decide (t.length ≤ 6) = decide ((t.length : Int) ≤ (6 : Int)) := decide2 (by omega)
  unfold len16
  rw [e1, e2]
  exact ev_chain ev_c (ev_lenS h (by omega)) rv_I0 (fun _ => ev_c) (fun _ => rv_I0)
section
variable {P : Program} {w : World} {K : PySem.W.Frag} {mg : Str → Option Value} {base : Heap} {CF CT : Addr}
theorem sc_lpart : FnScope ["_law_sort", "_law_thing", "_law_sign"] ["_law_sort", "_law_thing"] (defScope s_law_is_part) := ⟨rfl, rfl, rfl, by decide +kernel, rfl, by decide +kernel, by decide +kernel⟩
theorem h_lpart (TF : TxFact K w mg) (TL : TxL77 K mg) : Has P w K mg base CX0 1 "_law_is_part" ["_law_sort", "_law_thing"] spLPart := by
  obtain ⟨f, fd, a, F⟩ := TL.part.ex
  refine ⟨f, fd, a, F.kp, F.binds fun _ _ _ _ _ _ us hl => match us, hl with | [_, _], _ => rfl, ?_⟩
  refine F.ok sc_lpart (fun vs H Q E h => ?_) (fun cdv A outer s H vs Q E hr h => ?_)
  · obtain ⟨c, v, d, rfl, _⟩ := h
    rfl
  · obtain ⟨c, v, d, rfl, hc, hd, hz, k⟩ := h
    refine ⟨_, pss_cons (ps_if (pt_cmpR op_eq (pv 0) pe_str (nomark _)) (pss_one (ps_ret (pe_and (pe_callB (r := rIsi K) call_isi (by rfl) TF.isi boot_isi (pa_cons (pv 1) (pa_cons (pe_bltn (v := .ty "int") (by rfl) TF.int (by decide +kernel) rfl) pa_nil)))
          (pe_and (pe_not (pe_callB (r := rIsi K) call_isi (by rfl) TF.isi boot_isi (pa_cons (pv 1) (pa_cons (pe_bltn (v := .ty "bool") (by rfl) TF.bool (by decide +kernel) rfl) pa_nil)))) (pe_one (pe_chain op_le op_le pe_int (pv 1) pe_int)))))) pss_nil)
      (pss_cons (ps_if (pt_not (pt_val (pe_callB (r := rIsi K) call_isi (by rfl) TF.isi boot_isi (pa_cons (pv 1) (pa_cons (pe_bltn (v := .ty "str") (by rfl) TF.str (by decide +kernel) rfl) pa_nil))))) (pss_one (ps_ret pe_bl)) pss_nil)
      (pss_cons (ps_if (pt_cmpR (r := rIn K false) op_in_seq (pv 0) (pe_tup (pa_cons pe_str (pa_cons pe_str pa_nil))) rfl) (pss_one (ps_ret (pe_or (pe_and (pe_chain op_le op_le pe_int (pe_callB call_lenStr (by rfl) TF.len PySem.boot_len (pa_cons (pv 1) pa_nil)) pe_int)
          (pe_one (pe_callB (cr_all rfl) (by rfl) TF.all (by decide +kernel) (pa_cons (pe_lc (own := [("_law_sign", 2)]) (g := gName 2) (by rfl) sc_lpart.nd (pi_str (pv 1)) (blkOk_by (own := [("_law_sign", 2)]) (N := ["_law_sort", "_law_thing", "_law_sign"]) (sc := defScope s_law_is_part) (by decide +kernel))
            (fun _ _ _ _ _ => pg_name (i := 2) sc_lpart.nd rfl (Or.inl rfl)) (fun _ _ _ _ _ => pts_nil) (fun _ _ _ _ _ => pe_chain op_leS op_leS pe_str (pv 2) pe_str)) pa_nil))))
          (pe_one (pe_and (pe_cmpR op_eq (pv 0) pe_str (nomark _)) (pe_one (pe_cmpR op_eq (pv 1) pe_str (nomark _)))))))) pss_nil)
      (pss_cons (ps_if (PW.pt (pw_and (pt_cmpR op_eq (pv 0) pe_str (nomark _)) (pw_and1 (pt_cmpR (r := rIn K false) op_in_seq (pv 1) (pe_tup (pa_cons pe_str (pa_cons pe_str (pa_cons pe_str pa_nil)))) rfl)))) (pss_one (ps_ret pe_bl)) pss_nil)
      (pss_cons (ps_if (PW.pt (pw_or (pt_not (pt_chain op_le op_le pe_int (pe_callB call_lenStr (by rfl) TF.len PySem.boot_len (pa_cons (pv 1) pa_nil)) pe_int)) (pw_or1 (pt_not (pt_chain op_leS op_leS pe_str (pe_ix ix_str (pv 1) pe_int (fun _ _ => rfl)) pe_str))))) (pss_one (ps_ret pe_bl)) pss_nil)
      (pss_one (ps_ret (pe_callB (cr_all rfl) (by rfl) TF.all (by decide +kernel) (pa_cons (pe_lc (own := [("_law_sign", 2)]) (g := gName 2) (by rfl) sc_lpart.nd (pi_str (pv 1)) (blkOk_by (own := [("_law_sign", 2)]) (N := ["_law_sort", "_law_thing", "_law_sign"]) (sc := defScope s_law_is_part) (by decide +kernel))
            (fun _ _ _ _ _ => pg_name (i := 2) sc_lpart.nd rfl (Or.inl rfl)) (fun _ _ _ _ _ => pts_nil) (fun _ _ _ _ _ => pe_or (pe_chain op_leS op_leS pe_str (pv 2) pe_str) (pe_one (pe_chain op_leS op_leS pe_str (pv 2) pe_str)))) pa_nil)))))))), ?_⟩
    refine q_when (b := decide (c = "l")) (et_test (ev_eqS (ev_var rfl) ev_c)) (fun h H1 e1 => ?_) (fun h H1 e1 => ?_)
    · have ec := of_decide_eq_true h
      subst ec
      have hd1 := hd.mono e1
      have ty1 := rd_isInt (K := K) hd1
      have ty2 := rd_isBool (K := K) hd1
      have eS : ∀ d : PyData, isShown d (toG "l") = match d with | .int i => decide ((1 : Int) ≤ i) && decide (i ≤ (999999999 : Int)) | _ => false := fun d => by
        have : toG "l" = "l" := by decide +kernel
        rw [this]
        unfold isShown
        rw [if_pos rfl]
        all_goals rfl
      rw [eS] at k
      cases hd with
      | int i => exact s_ret (v := .bl (true && (!false && (decide ((1 : Int) ≤ i) && decide (i ≤ (999999999 : Int)))))) (ev_andV (ev_isi (ev_var rfl) ty1) fun _ => ev_andV (ev_notV (ev_isi (ev_var rfl) ty2)) fun _ => ev_chain ev_c (ev_var rfl) rv_I0 (fun _ => ev_c) (fun _ => rv_I0)) fun H2 e2 => k _ (e1.trans e2)
      | bl b => exact s_ret (v := .bl (true && (!true && false))) (ev_andV (ev_isi (ev_var rfl) ty1) fun _ => ev_andV (ev_notV (ev_isi (ev_var rfl) ty2)) fun z => by cases z) fun H2 e2 => k _ (e1.trans e2)
      | _ => exact s_ret (v := .bl (false && false)) (ev_andV (ev_isi (ev_var rfl) ty1) fun z => by cases z) fun H2 e2 => k _ (e1.trans e2)
    have cl := of_decide_eq_false h
    have tl : toG c ≠ "l" := by
      unfold toG
      split
      · decide +kernel
      · exact cl
    unfold isShown at k
    rw [if_neg tl] at k
    have hd1 := hd.mono e1
    have ty := rd_isStr (K := K) hd1
    cases hd with
    | str t =>
      have tz : t.length ≤ 40000 := hz
      have k' : RetV (.bl (isPart t (toG c))) H Q := k
      refine q_when (b := false) (et_not (a := true) (et_B (ev_isi (ev_var rfl) ty))) (fun z _ _ => by cases z) (fun _ H2 e2 => ?_)
      have e12 := e1.trans e2
      refine q_when (b := inS c ["w", "v"]) (et_test (ev_inU (ev_var rfl) (ea_cons ev_c (ea_cons ev_c ea_nil)) (by decide))) (fun h2 H3 e3 => ?_) (fun h2 H3 e3 => ?_)
      · have eG : isPart t (toG c) = ((len16 t && t.cps.toList.all fun x => decide (65 ≤ x) && decide (x ≤ 90)) || (decide (c = "v") && decide (t = "num"))) := by
          have hc2 : c = "w" ∨ c = "v" := by
            unfold inS at h2
            rw [List.any_cons, List.any_cons, List.any_nil, Bool.or_false, Bool.or_eq_true, beq_iff_eq, beq_iff_eq] at h2
            rcases h2 with z | z
            · exact Or.inl z.symm
            · exact Or.inr z.symm
          have e0 : toG c = c := by rcases hc2 with rfl | rfl <;> decide +kernel
          have e1 : (t.cps.toList.all fun x => decide (65 ≤ x) && decide (x ≤ 90)) = consists t UPP := by
            unfold consists
            congr 1
            funext x
            exact upp_as x
          rw [e0, e1]
          unfold isPart
          have n1 : c ≠ "n" := by rcases hc2 with rfl | rfl <;> decide +kernel
          have n2 : c ≠ "p" := by rcases hc2 with rfl | rfl <;> decide +kernel
          have n3 : c ≠ "x" := by rcases hc2 with rfl | rfl <;> decide +kernel
          rw [if_neg n1, if_neg n2, if_neg n3]
          rfl
        rw [eG] at k'
        exact s_ret (ev_orV (ev_andV (ev16' (ev_var rfl) (by omega)) fun _ => ev_allS _ (ev_var rfl) (by show t.length ≤ _; exact tz) (fun _ => rfl) fun x H4 => ev_between (k1 := 65) (k2 := 90) rfl rfl (ev_var rfl)) fun _ => ev_andV (ev_eqS (ev_var rfl) ev_c) fun _ => ev_eqS (ev_var rfl) ev_c) fun H4 e4 => k' _ ((e12.trans e3).trans e4)
      · have hc3 : c = "u" ∨ c = "x" := by
          unfold sorts5 at hc
          simp only [List.mem_cons, List.not_mem_nil, or_false] at hc
          rcases hc with rfl | rfl | rfl | rfl | rfl
          · exact Or.inl rfl
          · exact Or.inr rfl
          · exact absurd rfl cl
          · exact absurd h2 (by decide +kernel)
          · exact absurd h2 (by decide +kernel)
        have eG : isPart t (toG c) = ((decide (c = "x") && inS t ["0", "1", "2"]) || isName t) := by
          rcases hc3 with rfl | rfl
          · have e0 : toG "u" = "n" := by decide +kernel
            rw [e0]
            unfold isPart
            rw [if_pos rfl, decide_eq_false (by decide +kernel), Bool.false_and, Bool.false_or]
          · have e0 : toG "x" = "x" := by decide +kernel
            rw [e0]
            unfold isPart
            rw [if_neg (by decide +kernel), if_neg (by decide +kernel), if_pos rfl, decide_eq_true rfl, Bool.true_and, Bool.or_comm]
            rfl
        rw [eG] at k'
        refine q_when (b := decide (c = "x") && inS t ["0", "1", "2"]) (et_and (et_test (ev_eqS (ev_var rfl) ev_c)) fun _ => et_test (ev_inU (ev_var rfl) (ea_cons ev_c (ea_cons ev_c (ea_cons ev_c ea_nil))) (by decide))) (fun h3 H4 e4 => ?_) (fun h3 H4 e4 => ?_)
        · rw [h3, Bool.true_or] at k'
          exact s_ret ev_c fun H5 e5 => k' _ (((e12.trans e3).trans e4).trans e5)
        rw [h3, Bool.false_or] at k'
        have e14 := (e12.trans e3).trans e4
        have eN : isName t = (len16 t && ((decide (97 ≤ t.cps.toList.getD 0 0) && decide (t.cps.toList.getD 0 0 ≤ 122)) && t.cps.toList.all fun x => (decide (97 ≤ x) && decide (x ≤ 122)) || (decide (48 ≤ x) && decide (x ≤ 57)))) := by
          have e1 : (t.cps.toList.all fun x => (decide (97 ≤ x) && decide (x ≤ 122)) || (decide (48 ≤ x) && decide (x ≤ 57))) = consists t (LOW ++ DIG) := by
            unfold consists
            congr 1
            funext x
            exact lowdig_as x
          rw [e1, low_as]
          rfl
        rw [eN] at k'
        have ix : len16 t = true → Ev (tOp rIxS (tVar 1) (tC (.int 0))) [some (V.str c), some (V.str t), none] H4 (.str ⟨#[t.cps.toList.getD 0 0]⟩) := fun hl => by
          unfold len16 at hl
          rw [Bool.and_eq_true, decide_eq_true_eq] at hl
          exact ev_op (ev_var rfl) ev_c (rv_ixS (c := t.cps.toList.getD 0 0) (by omega) (at0 (by rw [Array.length_toList]; exact hl.1)))
        refine q_when (b := !len16 t || !(decide (97 ≤ t.cps.toList.getD 0 0) && decide (t.cps.toList.getD 0 0 ≤ 122))) (et_or (et_not (et_test (ev16' (ev_var rfl) (by omega)))) fun hl => et_not (et_test (ev_between rfl rfl (ix (by simpa using hl))))) (fun h4 H5 e5 => ?_) (fun h4 H5 e5 => ?_)
        · have eF : (len16 t && ((decide (97 ≤ t.cps.toList.getD 0 0) && decide (t.cps.toList.getD 0 0 ≤ 122)) && t.cps.toList.all fun x => (decide (97 ≤ x) && decide (x ≤ 122)) || (decide (48 ≤ x) && decide (x ≤ 57)))) = false := by
            revert h4
            cases len16 t <;> cases (decide (97 ≤ t.cps.toList.getD 0 0) && decide (t.cps.toList.getD 0 0 ≤ 122)) <;> simp
          rw [eF] at k'
          exact s_ret ev_c fun H6 e6 => k' _ ((e14.trans e5).trans e6)
        · have eT : len16 t = true ∧ (decide (97 ≤ t.cps.toList.getD 0 0) && decide (t.cps.toList.getD 0 0 ≤ 122)) = true := by
            revert h4
            cases len16 t <;> cases (decide (97 ≤ t.cps.toList.getD 0 0) && decide (t.cps.toList.getD 0 0 ≤ 122)) <;> simp
          rw [eT.1, eT.2, Bool.true_and, Bool.true_and] at k'
          exact s_ret (ev_allS _ (ev_var rfl) (by show t.length ≤ _; exact tz) (fun _ => rfl) fun x H4 => ev_orV (ev_between (k1 := 97) (k2 := 122) rfl rfl (ev_var rfl)) fun _ => ev_between (k1 := 48) (k2 := 57) rfl rfl (ev_var rfl)) fun H6 e6 => k' _ ((e14.trans e5).trans e6)
    | _ =>
      refine q_when (b := true) (et_not (a := false) (et_B (ev_isi (ev_var rfl) ty))) (fun _ H2 e2 => ?_) (fun z _ _ => by cases z)
      exact s_ret ev_c fun H3 e3 => k _ ((e1.trans e2).trans e3)
end
end HF
set_option maxRecDepth 100000
set_option maxHeartbeats 2000000
namespace HF
open PySem PySem.Spec PyProof.Rows L2 Evl
/-! ### the law's own look at a fact -/
def formL (f : Str) : Option Str := lawForms.lookup f
def okForm (f : Str) : Bool := match formOf f, formL f with
  | some g, some c => decide (signsS g = (signsS c).map toG) && (decide (g.length = c.length) && (decide (c.length ≤ 4) && (signsS c).all fun x => inS x sorts5))
  | _, _ => false
theorem okForm_all : ∀ f ∈ lawForms.map (·.1), okForm f = true := by decide +kernel
theorem keys_same : ∀ f ∈ factsL.map (·.1), f ∈ lawForms.map (·.1) := by decide +kernel
theorem look_none {α : Type} {f : Str} : ∀ {l : List (Str × α)}, f ∉ l.map (·.1) → l.lookup f = none
  | [], _ => rfl
  | (a, b) :: l, h => by
    rw [List.lookup_cons]
    have h1 : (f == a) = false := beq_eq_false_iff_ne.mpr fun z => h (by rw [z]; exact List.mem_cons_self)
    rw [h1]
    exact look_none fun z => h (List.mem_cons_of_mem _ z)
theorem forms_rel (f : Str) : (formOf f = none ∧ formL f = none) ∨ ∃ g c, formOf f = some g ∧ formL f = some c ∧ signsS g = (signsS c).map toG ∧ g.length = c.length ∧ c.length ≤ 4 ∧ ∀ x ∈ signsS c, x ∈ sorts5 := by
  by_cases h : f ∈ lawForms.map (·.1)
  · right
    have := okForm_all f h
    unfold okForm at this
    cases e1 : formOf f with
    | none => rw [e1] at this; cases this
    | some g =>
      cases e2 : formL f with
      | none => rw [e1, e2] at this; cases this
      | some c =>
        rw [e1, e2] at this
        have h' : (decide (signsS g = (signsS c).map toG) && (decide (g.length = c.length) && (decide (c.length ≤ 4) && (signsS c).all fun x => inS x sorts5))) = true := this
        simp only [Bool.and_eq_true, decide_eq_true_eq, List.all_eq_true] at h'
        exact ⟨g, c, rfl, rfl, h'.1, h'.2.1, h'.2.2.1, fun x hx => (inS_iff x sorts5).mp (h'.2.2.2 x hx)⟩
  · left
    exact ⟨look_none fun z => h (keys_same f z), look_none h⟩
theorem valV_fkv (f : Str) : ∀ l : List (Str × Str), valV (l.map fkv) (Sum.inr f) = (l.lookup f).map V.str
  | [] => rfl
  | (a, b) :: l => by
    rw [List.map_cons, List.lookup_cons]
    by_cases h : f = a
    · subst h
      rw [show (f == f) = true from beq_self_eq_true f]
      exact valV_pos rfl
    · rw [beq_eq_false_iff_ne.mpr h]
      rw [show valV (fkv (a, b) :: l.map fkv) (Sum.inr f) = valV (l.map fkv) (Sum.inr f) from valV_neg fun z => h (Sum.inr.inj z).symm]
      exact valV_fkv f l
theorem valV_law (f : Str) : valV lawKv (Sum.inr f) = (formL f).map V.str := valV_fkv f lawForms
/-- the law's reading of the form -/
def isFactL (ds : List PyData) : Bool := match ds with
  | .str f :: r => match formL f with
    | some c => decide (r.length = c.length) && (r.zip (signsS c)).all fun p => isShown p.1 (toG p.2)
    | none => false
  | _ => false
theorem zip_mapR {α β γ : Type} (f : β → γ) (p : α → γ → Bool) : ∀ (l : List α) (m : List β), (l.zip (m.map f)).all (fun x => p x.1 x.2) = (l.zip m).all fun x => p x.1 (f x.2)
  | [], _ => rfl
  | _ :: _, [] => rfl
  | a :: l, b :: m => by
    have := zip_mapR f p l m
    rw [List.map_cons, List.zip_cons_cons, List.zip_cons_cons, List.all_cons, List.all_cons, this]
theorem fact_law (ds : List PyData) : isFact (.tuple ds) = isFactL ds := by
  match ds with
  | [] => rfl
  | d :: r =>
    cases d with
    | str f =>
      show (match formOf f with | some g => decide (r.length = g.length) && shownAll r g | none => false) = (match formL f with | some c => decide (r.length = c.length) && (r.zip (signsS c)).all fun p => isShown p.1 (toG p.2) | none => false)
      rcases forms_rel f with ⟨e1, e2⟩ | ⟨g, c, e1, e2, e3, e4, _⟩
      · rw [e1, e2]
      · rw [e1, e2]
        show (decide (r.length = g.length) && shownAll r g) = _
        unfold shownAll
        rw [e3, e4, zip_mapR toG isShown]
    | _ => rfl
section
variable {K : PySem.W.Frag} {σ : L2.St} {H : Hp} {te tb tc td ty tx ta' : TE} {ta : TA} {x y z : V}
theorem ev_din {d : Addr} {kvs : List (Key × V)} {f : Str} (ha : Ev ta' σ H (.str f)) (hb : Ev tb σ H (.ref d)) (hd : H d = some (.dK kvs)) : Ev (tDIn ta' tb) σ H (.bl ((valV kvs (Sum.inr f)).isSome)) := ev_inD (k := Sum.inr f) ha hb hd
theorem ev_dget {d : Addr} {kvs : List (Key × V)} {f : Str} {v : V} (hd : Ev td σ H (.ref d)) (h : H d = some (.dK kvs)) (hk : Ev ty σ H (.str f)) (hv : valV kvs (Sum.inr f) = some v) : Ev (tDGet td ty) σ H v := fun H1 e Q q =>
  hd H1 e _ fun H2 e2 => hk H2 (e.trans e2) _ fun H3 e3 => ⟨d, v, rfl, by rw [← hv]; exact DGet.k (k := Sum.inr f) ((e.trans (e2.trans e3)) _ _ h), q H3 (e2.trans e3)⟩
theorem ev_dget2 {d : Addr} {kvs : List (Key × V)} {f : Str} (hd : Ev td σ H (.ref d)) (h : H d = some (.dK kvs)) (hk : Ev ty σ H (.str f)) (hx : Ev tx σ H z) : Ev (tDGet2 td ty tx) σ H ((valV kvs (Sum.inr f)).getD z) := fun H1 e Q q =>
  hd H1 e _ fun H2 e2 => ⟨d, rfl, Or.inl ⟨kvs, Rd.of ((e.trans e2) _ _ h)⟩, hk H2 (e.trans e2) _ fun H3 e3 => hx H3 (e.trans (e2.trans e3)) _ fun H4 e4 =>
    ⟨_, DGet.k (k := Sum.inr f) ((e.trans (e2.trans (e3.trans e4))) _ _ h), q H4 (e2.trans (e3.trans e4))⟩⟩
theorem ev_eqNil {xs : List V} (h : EvRT te σ H xs) : Ev (tOp rEqNil te (tTup tNil)) σ H (.bl xs.isEmpty) := fun H1 e Q q =>
  h H1 e _ fun p H2 e2 hp => ⟨sz_of (by show 0 ≤ 100000; decide), fun r hr => ⟨p, r, xs, rfl, rfl, (Ex.new hr) _ _ hp, upd_same, q _ (e2.trans (Ex.new hr))⟩⟩
/-- all([shown(sign, part) for sign, part in zip(form, parts)]) -/
theorem ev_allZ2 {xs : List V} {ds : List PyData} {g : Str} {j1 j2 : Nat} {vs : List Nat} (p : PyData → Str → Bool) (h : EvZ K ta σ H (signsV g) xs) (r : RdDs H xs ds) (hl : ds.length = g.length) (hz : ds.length ≤ 40000)
    (hw : ∀ x y, wipe (((wipe σ vs).set j1 (some x)).set j2 (some y)) vs = wipe σ vs)
    (he : ∀ (x : V) (d : PyData) (c : Str) H1, Ex H H1 → d ∈ ds → c ∈ signsS g → RdD H1 x d → Ev te (((wipe σ vs).set j1 (some (.str c))).set j2 (some x)) H1 (.bl (p d c))) :
    Ev (tCB (rAll K) (tCons (tLc (iZipS K ta) (gTup K 2 (gCons (gName j1) (gCons (gName j2) gNil))) tYes te vs) tNil)) σ H (.bl ((ds.zip (signsS g)).all fun x => p x.1 x.2)) := by
  have lx : xs.length = ds.length := RdDs.len r
  rw [← all_zip p .none "" ds (signsS g) (by rw [signsS_len, hl])]
  refine ev_all ?_
  have ls : (signsV g).length = ds.length := by rw [signsV_eq, List.length_map, signsS_len, hl]
  rw [← given_bl, ← ls]
  refine el_lcZ (xs := signsV g) (ys := xs) _ h (by rw [ls, lx]) (by omega) hw fun i x y H1 e1 hx hy => ?_
  obtain ⟨d, hd, rd⟩ := RdDs.at_ r hy
  rw [signsV_eq, List.getElem?_map] at hx
  obtain ⟨c, hc, rfl⟩ := Option.map_eq_some_iff.mp hx
  have e2 : ds.getD i .none = d := by rw [List.getD_eq_getElem?_getD, hd]; rfl
  have e3 : (signsS g).getD i "" = c := by rw [List.getD_eq_getElem?_getD, hc]; rfl
  rw [e2, e3]
  exact he y d c H1 e1 (List.mem_of_getElem? hd) (List.mem_of_getElem? hc) (rd.mono e1)
end
theorem _root_.L2.Room.u64 {k : Nat} {A : Around} (r : Room k A) : A.units + 64 < cLine := by have := r.un; omega
theorem _root_.L2.Room.u1 {k : Nat} {A : Around} (r : Room k A) : A.units + 1 < cLine := by have := r.un; omega
def spLFact : Sp := fun vs H Q _ => ∃ (v : V) (d : PyData), vs = [v] ∧ RdD H v d ∧ (∀ ds, d = .tuple ds → ds.length ≤ 30000 ∧ ∀ x ∈ ds, txD x ≤ 40000) ∧ RetV (.bl (isFact d)) H Q
theorem spLFact_v {H : Hp} {v : V} {d : PyData} (h : RdD H v d) (hz : ∀ ds, d = .tuple ds → ds.length ≤ 30000 ∧ ∀ x ∈ ds, txD x ≤ 40000) : SpV spLFact [v] H (.bl (isFact d)) := fun H1 e Q q E => ⟨v, d, rfl, h.mono e, hz, q⟩
section
variable {P : Program} {w : World} {K : PySem.W.Frag} {mg : Str → Option Value} {base : Heap} {CF CT : Addr}
theorem q_forms {σ : L2.St} {H : Hp} {D : Ends} {tz : TS} {i : Nat} (k : ∀ p H1, Ex H H1 → H1 p = some (.dK lawKv) → tz D (σ.set i (some (.ref p))) H1) : tSeq (tAsg (tCall spForms [] E0 tNil) (gName i)) tz D σ H :=
  (ex_forms (σ := σ) (H := H)) H (Ex.refl _) (fun v H1 => tz D (σ.set i (some v)) H1) fun p H1 _ e1 h1 => k p H1 e1 h1
theorem sc_lfact : FnScope ["_law_thing", "_law_forms_here", "_law_sorts", "_law_sort", "_law_one"] ["_law_thing"] (defScope s_law_is_fact) := ⟨rfl, rfl, rfl, by decide +kernel, rfl, by decide +kernel, by decide +kernel⟩
theorem h_lfact (TF : TxFact K w mg) (TL : TxL77 K mg) : Has P w K mg base CX0 2 "_law_is_fact" ["_law_thing"] spLFact := by
  obtain ⟨f, fd, a, F⟩ := TL.fact.ex
  have FO : Has P w K mg base CX0 1 "_law_forms" [] spForms := h_lforms TF TL
  have LP : Has P w K mg base CX0 1 "_law_is_part" ["_law_sort", "_law_thing"] spLPart := h_lpart TF TL
  refine ⟨f, fd, a, F.kp, F.binds fun _ _ _ _ _ _ us hl => match us, hl with | [_], _ => rfl, ?_⟩
  refine F.ok sc_lfact (fun vs H Q E h => ?_) (fun cdv A outer s H vs Q E hr h => ?_)
  · obtain ⟨v, d, rfl, _⟩ := h
    rfl
  · obtain ⟨v, d, rfl, hd, hz, k⟩ := h
    refine ⟨_, pss_cons (ps_set (i := 1) sc_lfact.nd rfl (Or.inl rfl) (pe_h0 FO hr))
      (pss_cons (ps_if (PW.pt (pw_or (pt_not (pt_val (pe_callB (r := rIsi K) call_isi (by rfl) TF.isi boot_isi (pa_cons (pv 0) (pa_cons (pe_bltn (v := .ty "tuple") (by rfl) TF.tuple (by decide +kernel) rfl) pa_nil)))))
          (pw_or (pt_cmpR (r := rEqNil) (op_eqNil hr.u64) (pv 0) (pe_tup pa_nil) (nomark _))
          (pw_or (pt_not (pt_val (pe_callB (r := rIsi K) call_isi (by rfl) TF.isi boot_isi (pa_cons (pe_ix ix_tup (pv 0) pe_int (fun _ _ => rfl)) (pa_cons (pe_bltn (v := .ty "str") (by rfl) TF.str (by decide +kernel) rfl) pa_nil)))))
          (pw_or1 (pt_cmp (pc_dnotin hr.u1 (pe_ix ix_tup (pv 0) pe_int (fun _ _ => rfl)) (pv 1))))))))
        (pss_one (ps_ret pe_bl)) pss_nil)
      (pss_cons (ps_set (i := 2) sc_lfact.nd rfl (Or.inl rfl) (pe_dget hr.u1 (pv 1) (pe_ix ix_tup (pv 0) pe_int (fun _ _ => rfl)) (fun _ _ => rfl)))
      (pss_one (ps_ret (pe_and (pe_cmpR op_eq (pe_callB call_lenT (by rfl) TF.len PySem.boot_len (pa_cons (pv 0) pa_nil)) (pe_op op_add (pe_callB call_lenStr (by rfl) TF.len PySem.boot_len (pa_cons (pv 2) pa_nil)) pe_int) (nomark _))
        (pe_one (pe_callB (cr_all rfl) (by rfl) TF.all (by decide +kernel) (pa_cons (pe_lc (own := [("_law_sort", 3), ("_law_one", 4)]) (g := gTup K 2 (gCons (gName 3) (gCons (gName 4) gNil))) (by rfl) sc_lfact.nd
          (pi_zipS (by rfl) TF.zip (pa_cons (pv 2) (pa_cons (pe_slice sl_tupA (pv 0) (po_some pe_int) po_none) pa_nil)))
          (blkOk_by (own := [("_law_sort", 3), ("_law_one", 4)]) (N := ["_law_thing", "_law_forms_here", "_law_sorts", "_law_sort", "_law_one"]) (sc := defScope s_law_is_fact) (by decide +kernel))
          (fun _ _ _ _ _ => pg_tup rfl (pgs_cons (pg_name (i := 3) sc_lfact.nd rfl (Or.inl rfl)) (pgs_cons (pg_name (i := 4) sc_lfact.nd rfl (Or.inl rfl)) pgs_nil))) (fun _ _ _ _ _ => pts_nil)
          (fun _ _ _ _ _ => pe_h LP hr (pa_cons (pv 3) (pa_cons (pv 4) pa_nil)))) pa_nil)))))))), ?_⟩
    refine q_forms fun pF H0 e0 hF => ?_
    have hd0 := hd.mono e0
    have hty := rd_isTup (K := K) hd0
    cases hd with
    | tup hq r =>
      rename_i q xs ds
      obtain ⟨ln, tz⟩ := hz ds rfl
      have lx : xs.length = ds.length := RdDs.len r
      have hq0 := e0 _ _ hq
      rw [fact_law] at k
      cases r with
      | nil =>
        refine q_when (b := true) (et_or (a := false) (b := true) (et_not (a := true) (et_B (ev_isi (ev_var rfl) (isty_tup hq0)))) fun _ => et_or (a := true) (b := false) (et_test (ev_eqNil (ert_v (i := 0) rfl hq0))) fun z => by cases z) (fun h H1 e1 => ?_) (fun h H1 e1 => by cases h)
        exact s_ret ev_c fun H2 e2 => k _ ((e0.trans e1).trans e2)
      | cons r0 r1 =>
        rename_i x xs d0 ds
        have r00 := r0.mono e0
        have ix : ∀ {H' : Hp}, Ex H0 H' → Ev (tOp (rIxT K) (tVar 0) (tC (.int 0))) [some (V.ref q), some (V.ref pF), none, none, none] H' x := fun e' => ev_ix0 (ev_var rfl) (e' _ _ hq0)
        by_cases hs : isStrD d0 = true
        · cases r0 with
          | str f =>
            refine q_when (b := !(valV lawKv (Sum.inr f)).isSome) (et_or (a := false) (et_not (a := true) (et_B (ev_isi (ev_var rfl) (isty_tup hq0)))) fun _ => et_or (a := false) (et_test (ev_eqNil (ert_v (i := 0) rfl hq0))) fun _ => et_or (a := false) (et_not (a := true) (et_B (ev_isi (ix (Ex.refl _)) (rd_isStr r00)))) fun _ => et_test (ev_notinD (k := Sum.inr f) (ix (Ex.refl _)) (ev_var rfl) hF)) (fun h H1 e1 => ?_) (fun h H1 e1 => ?_)
            · have en : formL f = none := by
                rw [valV_law] at h
                cases e : formL f with
                | none => rfl
                | some c => rw [e] at h; cases h
              have ef : isFactL (.str f :: ds) = false := by
                show (match formL f with | some c => decide (ds.length = c.length) && (ds.zip (signsS c)).all fun p => isShown p.1 (toG p.2) | none => false) = false
                rw [en]
              rw [ef] at k
              exact s_ret ev_c fun H2 e2 => k _ ((e0.trans e1).trans e2)
            · obtain ⟨c, ec⟩ : ∃ c, formL f = some c := by
                rw [valV_law] at h
                cases e : formL f with
                | none => rw [e] at h; cases h
                | some c => exact ⟨c, rfl⟩
              rcases forms_rel f with ⟨_, e2⟩ | ⟨g, c', _, e2, _, _, c4, cs⟩
              · rw [e2] at ec; cases ec
              rw [e2] at ec
              cases ec
              have ef : isFactL (.str f :: ds) = (decide (ds.length = c.length) && (ds.zip (signsS c)).all fun p => isShown p.1 (toG p.2)) := by
                show (match formL f with | some c => decide (ds.length = c.length) && (ds.zip (signsS c)).all fun p => isShown p.1 (toG p.2) | none => false) = _
                rw [e2]
              rw [ef] at k
              have lx1 : xs.length = ds.length := RdDs.len r1
              have hv : valV lawKv (Sum.inr f) = some (.str c) := by rw [valV_law, e2]; rfl
              refine q_asg (v := .str c) (ev_dget (ev_var rfl) (e1 _ _ hF) (ix e1) hv) fun H2 e2' => ?_
              have e02 := (e0.trans e1).trans e2'
              have hq2 := e2' _ _ (e1 _ _ hq0)
              refine s_ret (v := .bl (decide (ds.length = c.length) && (ds.zip (signsS c)).all fun p => isShown p.1 (toG p.2))) (ev_andV ?_ fun hl => ?_) fun H3 e3 => k _ (e02.trans e3)
              · have e9 : decide (ds.length = c.length) = decide ((((V.str f :: xs).length : Nat) : Int) = (c.length : Int) + 1) := by
                  rw [List.length_cons]
                  exact decide2 (by omega)
                rw [e9]
                exact ev_eqI (ev_lenV (ev_var rfl) hq2) (ev_op (ev_lenS (ev_var rfl) (by omega)) ev_c rv_I0)
              · have hlen := of_decide_eq_true hl
                refine ev_allZ2 (K := K) (xs := xs) (fun d c => isShown d (toG c)) (evz_st (ev_var rfl) (by
                    have := ert_sl (K := K) (lo := some 1) (hi := none) (ert_v (i := 0) (σ := [some (V.ref q), some (V.ref pF), some (V.str c), none, none]) rfl hq2) (eo_some ev_c) eo_none
                    rw [cut1] at this
                    exact this)) (r1.mono e02) hlen (by rw [List.length_cons] at ln; omega) (fun _ _ => rfl) fun x1 d1 c1 H4 e4 hm hc rd => ?_
                exact ev_h (ea_cons (ev_var rfl) (ea_cons (ev_var rfl) ea_nil)) (spLPart_v (cs c1 hc) rd (tz d1 (List.mem_cons_of_mem _ hm)))
          | _ => cases hs
        · have hs' : isStrD d0 = false := by simpa using hs
          refine q_when (b := true) (et_or (a := false) (b := true) (et_not (a := true) (et_B (ev_isi (ev_var rfl) (isty_tup hq0)))) fun _ => et_or (a := false) (b := true) (et_test (ev_eqNil (ert_v (i := 0) rfl hq0))) fun _ => et_or (a := true) (b := false) (et_not (a := false) (et_B (ev_isi (ix (Ex.refl _)) (by have := rd_isStr (K := K) r00; rw [hs'] at this; exact this)))) fun z => by cases z) (fun h H1 e1 => ?_) (fun h H1 e1 => by cases h)
          have ef : isFactL (d0 :: ds) = false := by
            cases d0 <;> first | rfl | cases hs'
          rw [ef] at k
          exact s_ret ev_c fun H2 e2 => k _ ((e0.trans e1).trans e2)
    | _ =>
      refine q_when (b := true) (et_or (a := true) (b := false) (et_not (a := false) (et_B (ev_isi (ev_var rfl) hty))) fun z => by cases z) (fun h H1 e1 => ?_) (fun h H1 e1 => by cases h)
      exact s_ret ev_c fun H2 e2 => k _ ((e0.trans e1).trans e2)
end
end HF
set_option maxRecDepth 100000
set_option maxHeartbeats 2000000
namespace HF
open PySem PySem.Spec PyProof.Rows L2 Evl
/-! ### the fact that a text writes, by the law -/
def isLineAt (c : Str) (i : Nat) : Bool := decide ((i : Int) < (c.length : Int)) && decide ((signsS c).getD i "" = "l")
def isCount (t : Str) : Bool := (!decide (t = "")) && (decide ((t.length : Int) < 10) && ((!decide ((⟨#[t.cps.toList.getD 0 0]⟩ : Str) = "0")) && t.cps.toList.all fun x => decide (x ∈ DIG.cps.toList)))
def foundV (b : Bool) (t : Str) : V := if (b && isCount t) = true then .int (intOf t) else if b = true then .non else .str t
def foundD (b : Bool) (t : Str) : PyData := if (b && isCount t) = true then .int (intOf t) else if b = true then .none else .str t
def foundsV (c : Str) (ts : List Str) (n : Nat) : List V := (List.range n).map fun i => foundV (isLineAt c i) (ts.getD i "")
def foundsD (c : Str) (ts : List Str) (n : Nat) : List PyData := (List.range n).map fun i => foundD (isLineAt c i) (ts.getD i "")
theorem empty_len {t : Str} (h : t.length = 0) : t = "" := str_cps (by
  have : t.cps.toList.length = 0 := by rw [Array.length_toList]; exact h
  rw [List.eq_nil_of_length_eq_zero this]
  rfl)
theorem count_number (t : Str) : isCount t = (isNumber t 9 && !decide (t = "0")) := by
  have hz : decide (V.str t = V.str "0") = decide (t = "0") := decide2 str_inj
  have hc : decide (V.str ⟨#[t.cps.toList.getD 0 0]⟩ = V.str "0") = decide ((⟨#[t.cps.toList.getD 0 0]⟩ : Str) = "0") := decide2 str_inj
  unfold isCount isNumber consists
  rw [hz, hc]
  by_cases h0 : t = ""
  · subst h0
    decide +kernel
  · have l1 : 1 ≤ t.length := by
      rcases Nat.eq_zero_or_pos t.length with z | z
      · exact absurd (empty_len z) h0
      · exact z
    have a1 : decide ((1 : Int) ≤ (t.length : Int)) = true := decide_eq_true (by omega)
    have a2 : decide ((t.length : Int) ≤ 9) = decide ((t.length : Int) < 10) := decide2 (by omega)
    rw [decide_eq_false h0, a1, a2]
    by_cases hb : t = "0"
    · subst hb
      decide +kernel
    · rw [decide_eq_false hb]
      simp only [Bool.not_false, Bool.true_and, Bool.or_false, Bool.and_true]
      generalize decide ((t.length : Int) < 10) = x1
      generalize (!decide ((⟨#[t.cps.toList.getD 0 0]⟩ : Str) = "0")) = x2
      generalize (t.cps.toList.all fun x => decide (x ∈ DIG.cps.toList)) = x3
      cases x1 <;> cases x2 <;> cases x3 <;> rfl
theorem shown_found {t g : Str} (hg : g = "l") : isShown (foundD true t) g = isWritten t g := by
  subst hg
  unfold isWritten isShown foundD
  rw [if_pos rfl, if_pos rfl, Bool.true_and, ← count_number]
  cases h : isCount t with
  | false => rfl
  | true =>
    rw [if_pos rfl]
    rw [count_number] at h
    obtain ⟨n, hn, h1, h2, _⟩ := number_val h
    have : intOf t = (n : Int) := by unfold intOf; rw [hn]; rfl
    rw [this]
    show (decide ((1 : Int) ≤ (n : Int)) && decide ((n : Int) ≤ 999999999)) = true
    rw [decide_eq_true (by omega), decide_eq_true (by omega)]
    rfl
theorem shown_other {t g : Str} (hg : g ≠ "l") : isShown (foundD false t) g = isWritten t g := by
  unfold isWritten isShown foundD
  rw [if_neg hg, if_neg hg, Bool.false_and, if_neg Bool.false_ne_true, if_neg Bool.false_ne_true]
theorem toG_l (c : Str) : toG c = "l" ↔ c = "l" := by
  unfold toG
  by_cases h : c = "u"
  · subst h
    rw [if_pos rfl]
    exact ⟨fun z => absurd z (by decide +kernel), fun z => absurd z (by decide +kernel)⟩
  · rw [if_neg h]
theorem founds_zip (ts : List Str) (c : Str) (h : ts.length = c.length) : foundsD c ts ts.length = (ts.zip (signsS c)).map fun p => foundD (decide (p.2 = ("l" : Str))) p.1 := by
  have sl : (signsS c).length = c.length := signsS_len c
  unfold foundsD
  refine List.ext_getElem (by simp [h, sl]) fun i h1 h2 => ?_
  have hi : i < ts.length := by simpa using h1
  have hj : i < (signsS c).length := by omega
  simp only [List.getElem_map, List.getElem_range, List.getElem_zip]
  rw [List.getD_eq_getElem?_getD, List.getElem?_eq_getElem hi]
  unfold isLineAt
  rw [decide_eq_true (by omega : (i : Int) < (c.length : Int)), Bool.true_and, List.getD_eq_getElem?_getD, List.getElem?_eq_getElem hj]
  rfl
theorem all_found : ∀ (ts gs : List Str), (((ts.zip gs).map fun p => foundD (decide (p.2 = ("l" : Str))) p.1).zip (gs.map toG)).all (fun p => isShown p.1 p.2) = ((ts.map PyData.str).zip (gs.map toG)).all fun p => isWrittenD p.1 p.2
  | [], _ => by simp
  | _ :: _, [] => by simp
  | t :: ts, g :: gs => by
    have ih := all_found ts gs
    rw [List.zip_cons_cons, List.map_cons, List.map_cons, List.zip_cons_cons, List.all_cons, ih, List.map_cons, List.zip_cons_cons, List.all_cons]
    congr 1
    show isShown (foundD (decide (g = "l")) t) (toG g) = isWritten t (toG g)
    by_cases h : g = "l"
    · rw [decide_eq_true h]
      exact shown_found ((toG_l g).mpr h)
    · rw [decide_eq_false h]
      exact shown_other fun z => h ((toG_l g).mp z)
theorem read_found : ∀ (ts gs : List Str), (((ts.map PyData.str).zip (gs.map toG)).all fun p => isWrittenD p.1 p.2) = true → ((ts.zip gs).map fun p => foundD (decide (p.2 = ("l" : Str))) p.1) = (ts.zip (gs.map toG)).map fun p => readPart p.1 p.2
  | [], _, _ => by simp
  | _ :: _, [], _ => by simp
  | t :: ts, g :: gs, h => by
    rw [List.map_cons, List.map_cons, List.zip_cons_cons, List.all_cons, Bool.and_eq_true] at h
    have ih := read_found ts gs h.2
    rw [List.zip_cons_cons, List.map_cons, ih, List.map_cons, List.zip_cons_cons, List.map_cons]
    congr 1
    have h1 : isWritten t (toG g) = true := h.1
    show foundD (decide (g = "l")) t = readPart t (toG g)
    unfold readPart foundD
    by_cases e : g = "l"
    · have e2 := (toG_l g).mpr e
      rw [if_pos e2, decide_eq_true e]
      unfold isWritten at h1
      rw [if_pos e2] at h1
      rw [count_number, h1]
      rfl
    · rw [if_neg fun z => e ((toG_l g).mp z), decide_eq_false e, Bool.false_and, if_neg Bool.false_ne_true, if_neg Bool.false_ne_true]
theorem read_law (w0 : Str) (ts : List Str) : partsR (formOf w0) (w0 :: ts) = if isFact (.tuple (.str w0 :: foundsD ((formL w0).getD "") ts ts.length)) = true then some (.str w0 :: foundsD ((formL w0).getD "") ts ts.length) else none := by
  have fl : (foundsD ((formL w0).getD "") ts ts.length).length = ts.length := by unfold foundsD; simp
  rcases forms_rel w0 with ⟨e1, e2⟩ | ⟨g, c, e1, e2, e3, e4, _⟩
  · have : isFact (.tuple (.str w0 :: foundsD ((formL w0).getD "") ts ts.length)) = false := by
      show (match formOf w0 with | some g => _ | none => false) = false
      rw [e1]
    rw [this, e1]
    rfl
  · rw [e1, e2]
    have hF : isFact (.tuple (.str w0 :: foundsD ((some c).getD "") ts ts.length)) = (decide (ts.length = g.length) && shownAll (foundsD c ts ts.length) g) := by
      rw [e2] at fl
      show (match formOf w0 with | some g => decide ((foundsD c ts ts.length).length = g.length) && shownAll (foundsD c ts ts.length) g | none => false) = _
      rw [e1]
      show (decide ((foundsD c ts ts.length).length = g.length) && _) = _
      have fl' : (foundsD c ts ts.length).length = ts.length := fl
      rw [fl']
    rw [hF]
    show (if (decide (ts.length + 1 = g.length + 1) && writtenAll ts g) = true then some (.str w0 :: readTs ts g) else none) = _
    by_cases hl : ts.length = g.length
    · have hlc : ts.length = c.length := by omega
      have hS : shownAll (foundsD c ts ts.length) g = writtenAll ts g := by
        unfold shownAll writtenAll
        rw [founds_zip ts c hlc, e3, all_found]
      rw [hS, decide_eq_true hl, decide_eq_true (by omega : ts.length + 1 = g.length + 1)]
      by_cases hw : writtenAll ts g = true
      · rw [hw]
        show some (.str w0 :: readTs ts g) = some (.str w0 :: foundsD c ts ts.length)
        rw [founds_zip ts c hlc]
        unfold readTs
        unfold writtenAll at hw
        rw [e3] at hw ⊢
        rw [read_found ts (signsS c) hw]
      · rw [Bool.not_eq_true] at hw
        rw [hw]
        rfl
    · rw [decide_eq_false hl, decide_eq_false (by omega : ¬ts.length + 1 = g.length + 1)]
      rfl
section
variable {K : PySem.W.Frag} {σ : L2.St} {H : Hp} {te tb : TE} {ta : TA}
theorem found_rd (b : Bool) (t : Str) : RdD H (foundV b t) (foundD b t) := by
  unfold foundV foundD
  split
  · exact .int _
  · split
    · exact .non
    · exact .str _
theorem founds_rd {c : Str} {ts : List Str} : ∀ l : List Nat, RdDs H (l.map fun i => foundV (isLineAt c i) (ts.getD i "")) (l.map fun i => foundD (isLineAt c i) (ts.getD i ""))
  | [] => .nil
  | i :: l => .cons (found_rd _ _) (founds_rd l)
theorem eu_tupR {xs : List V} (h : EvR te σ H xs) : EvU (tCB (rTupOf K) (tCons te tNil)) σ H xs := fun H1 e Q q =>
  h H1 e _ fun p H2 e2 h2 => ⟨p, xs, rfl, Or.inl ⟨sq_of h2, fun l hl => q l _ (fresh_back e2 hl) (e2.trans (Ex.new hl)) upd_same⟩⟩
theorem s_forEnumN {xs : List V} {tu : TS} {D : Ends} {j1 j2 : Nat} (h : EvL te σ H xs) (Pv : Addr → Nat → L2.St → Hp → Prop) (h0 : ∀ p H1, H p = none → Ex H H1 → H1 p = some (.lst xs) → Pv p 0 σ H1) (hG : ∀ p i σ' H', i ≤ xs.length → Pv p i σ' H' → SqL K H' p xs)
    (hs : ∀ p i x T σ' H', xs[i]? = some x → Pv p i σ' H' → H' T = none → tu { D with nx := Pv p (i + 1), ct := Pv p (i + 1), bk := D.nx } ((σ'.set j1 (some (.int (i : Nat)))).set j2 (some x)) (L2.upd H' T (.tup [.int (i : Nat), x]))) (he : ∀ p σ' H', Pv p xs.length σ' H' → D.nx σ' H') :
    tFor (iEnum K (tCons te tNil)) (gTup K 2 (gCons (gName j1) (gCons (gName j2) gNil))) tu D σ H :=
  h H (Ex.refl H) _ fun p H1 hp e1 h1 => ⟨p, xs, rfl, sq_of h1, for_it walk_enum (Pv p) (h0 p H1 hp e1 h1) (hG p) (fun i x σ' H' H2 hi q y => by
    obtain ⟨T, x1, x2, rfl, hT, rfl, q1, q2⟩ := y
    cases q1
    exact ⟨T, _, rfl, SqT.of upd_same, rfl, _, _, rfl, _, _, rfl, rfl, hs p i x2 T σ' H' q2 q hT⟩) (he p)⟩
theorem q_getF {D : Ends} {tz : TS} {i : Nat} {ty : TE} {f : Str} (hk : ∀ H', Ex H H' → Ev ty σ H' (.str f)) (k : ∀ H1, Ex H H1 → tz D (σ.set i (some (.str ((formL f).getD "")))) H1) : tSeq (tAsg (tDGet2 (tCall spForms [] E0 tNil) ty (tC (.str ""))) (gName i)) tz D σ H := by
  have h := (ex_forms (σ := σ) (H := H)) H (Ex.refl H) (fun x H1 => ∃ a, x = .ref a ∧ IsD H1 a ∧ ty σ H1 fun y H2 => tC (.str "") σ H2 fun z H3 => ∃ o, DGet H3 a y o ∧ tz D (σ.set i (some (o.getD z))) H3) fun pF H3 _ e3 hF => ⟨pF, rfl, Or.inl ⟨_, Rd.of hF⟩, (hk H3 e3) H3 (Ex.refl _) _ fun H4 e4 => ⟨_, DGet.k (k := Sum.inr f) (e4 _ _ hF), by
    have ec : ((valV lawKv (Sum.inr f)).getD (.str "")) = .str ((formL f).getD "") := by
      rw [valV_law]
      cases formL f <;> rfl
    rw [ec]
    exact k H4 (e3.trans e4)⟩⟩
  exact h
end
def spLIn : Sp := fun vs H Q _ => ∃ (v : V) (d : PyData), vs = [v] ∧ RdD H v d ∧ txD d ≤ 10000 ∧ (readD d = none → RetV .non H Q) ∧ ∀ ds, readD d = some ds → ∀ p xs H', Ex H H' → H' p = some (.tup xs) → RdDs H' xs ds → Q (.ref p) H'
section
variable {P : Program} {w : World} {K : PySem.W.Frag} {mg : Str → Option Value} {base : Heap} {CF CT : Addr}
theorem sc_lin : FnScope ["_law_page", "_law_parts", "_law_sorts", "_law_found", "_law_at", "_law_part", "_law_is_line", "_law_is_count", "_law_sign"] ["_law_page"] (defScope s_law_fact_in) := ⟨rfl, rfl, rfl, by decide +kernel, rfl, by decide +kernel, by decide +kernel⟩
theorem h_lin (TF : TxFact K w mg) (TL : TxL77 K mg) : Has P w K mg base CX0 3 "_law_fact_in" ["_law_page"] spLIn := by
  obtain ⟨f, fd, a, F⟩ := TL.factIn.ex
  have FO : Has P w K mg base CX0 1 "_law_forms" [] spForms := h_lforms TF TL
  have LF : Has P w K mg base CX0 2 "_law_is_fact" ["_law_thing"] spLFact := h_lfact TF TL
  refine ⟨f, fd, a, F.kp, F.binds fun _ _ _ _ _ _ us hl => match us, hl with | [_], _ => rfl, ?_⟩
  refine F.ok sc_lin (fun vs H Q E h => ?_) (fun cdv A outer s H vs Q E hr h => ?_)
  · obtain ⟨v, d, rfl, _⟩ := h
    rfl
  · obtain ⟨v, d, rfl, hd, hz, k1, k2⟩ := h
    refine ⟨_, pss_cons (ps_if (pt_not (pt_val (pe_callB (r := rIsi K) call_isi (by rfl) TF.isi boot_isi (pa_cons (pv 0) (pa_cons (pe_bltn (v := .ty "str") (by rfl) TF.str (by decide +kernel) rfl) pa_nil)))))
        (pss_one (ps_ret pe_non)) pss_nil)
      (pss_cons (ps_set (i := 1) sc_lin.nd rfl (Or.inl rfl) (pe_splitR (pv 0) pe_str))
      (pss_cons (ps_set (i := 2) sc_lin.nd rfl (Or.inl rfl) (pe_dget2 hr.u1 (pe_h0 FO (hr.mono (by decide))) (pe_ix ix_list (pv 1) pe_int (fun _ _ => rfl)) pe_str ⟨rfl, rfl, rfl, rfl⟩))
      (pss_cons (ps_set (i := 3) sc_lin.nd rfl (Or.inl rfl) (pe_lst (pa_cons (pe_ix ix_list (pv 1) pe_int (fun _ _ => rfl)) pa_nil)))
      (pss_cons (ps_for PassesOwn.never rfl (pi_enum (by rfl) TL.enum (pa_cons (pe_slice sl_list (pv 1) (po_some pe_int) po_none) pa_nil)) (pg_tup rfl (pgs_cons (pg_name (i := 4) sc_lin.nd rfl (Or.inl rfl)) (pgs_cons (pg_name (i := 5) sc_lin.nd rfl (Or.inl rfl)) pgs_nil)))
        (pss_cons (ps_set (i := 6) sc_lin.nd rfl (Or.inl rfl) (pe_and (pe_cmpR op_lt (pv 4) (pe_callB call_lenStr (by rfl) TF.len PySem.boot_len (pa_cons (pv 2) pa_nil)) (nomark _)) (pe_one (pe_cmpR op_eq (pe_ix ix_str (pv 2) (pv 4) (fun _ _ => rfl)) pe_str (nomark _)))))
        (pss_cons (ps_set (i := 7) sc_lin.nd rfl (Or.inl rfl) (pe_and (pe_cmpR op_ne (pv 5) pe_str (nomark _)) (pe_and (pe_cmpR op_lt (pe_callB call_lenStr (by rfl) TF.len PySem.boot_len (pa_cons (pv 5) pa_nil)) pe_int (nomark _))
          (pe_and (pe_cmpR op_ne (pe_ix ix_str (pv 5) pe_int (fun _ _ => rfl)) pe_str (nomark _)) (pe_one (pe_callB (cr_all rfl) (by rfl) TF.all (by decide +kernel) (pa_cons (pe_lc (own := [("_law_sign", 8)]) (g := gName 8) (by rfl) sc_lin.nd (pi_str (pv 5))
            (blkOk_by (own := [("_law_sign", 8)]) (N := ["_law_page", "_law_parts", "_law_sorts", "_law_found", "_law_at", "_law_part", "_law_is_line", "_law_is_count", "_law_sign"]) (sc := defScope s_law_fact_in) (by decide +kernel)) (fun _ _ _ _ _ => pg_name (i := 8) sc_lin.nd rfl (Or.inl rfl)) (fun _ _ _ _ _ => pts_nil)
            (fun _ _ _ _ _ => pe_cmpR op_inS (pv 8) pe_str rfl)) pa_nil)))))))
        (pss_one (ps_expr (pe_bm PySem.F.plainAttrs_list PySem.F.slot_list_append PySem.F.type_list_append mt_append (pv 3) (pa_cons (pe_ifExp (PW.pt (pw_and (pt_val (pv 6)) (pw_and1 (pt_val (pv 7))))) (pe_callTy (r := rIntS) call_intS (by rfl) TF.int (by decide +kernel) (pa_cons (pv 5) pa_nil)) (pe_ifExp (pt_val (pv 6)) pe_non (pv 5))) pa_nil)))))))
      (pss_one (ps_ret (pe_ifExp (pt_val (pe_h LF hr (pa_cons (pe_callTy call_tupR (by rfl) TF.tuple (by decide +kernel) (pa_cons (pv 3) pa_nil)) pa_nil))) (pe_callTy call_tupR (by rfl) TF.tuple (by decide +kernel) (pa_cons (pv 3) pa_nil)) pe_non))))))), ?_⟩
    have hty := rd_isStr (K := K) hd
    cases hd with
    | str t =>
      have tz : t.length ≤ 10000 := hz
      obtain ⟨wne, wl, wz⟩ := split_ok (t := t) (c := " ") (by decide +kernel)
      refine q_when (b := false) (et_not (a := true) (et_B (ev_isi (ev_var rfl) hty))) (fun z _ _ => by cases z) (fun _ H1 e1 => ?_)
      refine q_asgL (el_split (ev_var rfl) ev_c (by decide +kernel) (by omega)) fun L H2 hL e2 hL2 => ?_
      have hrd : readD (.str t) = partsR (formOf (wd (Txt.split t " ") 0)) (Txt.split t " ") := rfl
      rw [hrd] at k1 k2
      generalize Txt.split t " " = ws at wne wl wz hL2 k1 k2
      match ws, wne with
      | w0 :: ts, _ =>
      have e0 : wd (w0 :: ts) 0 = w0 := rfl
      rw [e0, read_law] at k1 k2
      rw [List.length_cons] at wl
      have e12 := e1.trans e2
      have hix : ∀ {σ : L2.St} {H' : Hp}, σ[1]? = some (some (.ref L)) → H' L = some (.lst (strsV (w0 :: ts))) → Ev (tOp (rIxL K) (tVar 1) (tC (.int 0))) σ H' (.str w0) := fun hs hl => ev_ixB6 (n := 0) (ev_var hs) hl rfl
      refine q_getF (fun H' e' => hix rfl (e' _ _ hL2)) fun H4 e34 => ?_
      have c4 : ((formL w0).getD "").length ≤ 4 := by
        rcases forms_rel w0 with ⟨_, z⟩ | ⟨g, c, _, z, _, _, z4, _⟩
        · rw [z]; decide +kernel
        · rw [z]; exact z4
      generalize (formL w0).getD "" = c at k1 k2 c4
      have hL4 := e34 _ _ hL2
      refine q_asgL (el_lst (ea_cons (hix rfl hL4) ea_nil) (by show 1 ≤ 100000; decide)) fun Fp H5 hFp e5 hF5 => ?_
      have e15 := e12.trans (e34.trans e5)
      have hL5 := e5 _ _ hL4
      have hFn : H Fp = none := fresh_back (e12.trans e34) hFp
      have sl : EvL (tSl (rSlL K) (tVar 1) (tPart (tC (.int 1))) tNoPart) [some (V.str t), some (V.ref L), some (V.str c), some (V.ref Fp), none, none, none, none, none] H5 (strsV ts) := by
        have := el_slF (K := K) (lo := 1) (er_v (i := 1) (σ := [some (V.str t), some (V.ref L), some (V.str c), some (V.ref Fp), none, none, none, none, none]) rfl hL5) ev_c
        rw [show strsV (w0 :: ts) = V.str w0 :: strsV ts from rfl, cut1] at this
        exact this
      refine s_forEnumN (K := K) (D := { nx := _, rt := _, bk := _, ct := _ }) (xs := strsV ts) sl
        (fun p i σ' H' => ∃ y4 y5 y6 y7, σ' = [some (V.str t), some (V.ref L), some (V.str c), some (V.ref Fp), y4, y5, y6, y7, none] ∧ KeepB Fp H5 H' ∧ p ≠ Fp ∧ H' p = some (.lst (strsV ts)) ∧ H' Fp = some (.lst (V.str w0 :: foundsV c ts i)))
        (fun p H6 hp e6 h6 => ⟨none, none, none, none, rfl, KeepB.ex e6, ne_of_none hF5 hp |>.symm, h6, e6 _ _ hF5⟩) (fun p i σ' H' _ q => ?_) (fun p i x T σ' H' hx q hT => ?_) (fun p σ' H' q => ?_)
      · obtain ⟨_, _, _, _, _, _, _, h6, _⟩ := q
        exact sq_of h6
      · obtain ⟨y4, y5, y6, y7, rfl, kp, np, hp, hf⟩ := q
        obtain ⟨u, hu, rfl⟩ : ∃ u, ts[i]? = some u ∧ x = .str u := by
          unfold strsV at hx
          rw [List.getElem?_map] at hx
          cases z : ts[i]? with
          | none => rw [z] at hx; cases hx
          | some u => rw [z] at hx; cases hx; exact ⟨u, rfl, rfl⟩
        have ui : ts.getD i "" = u := by rw [List.getD_eq_getElem?_getD, hu]; rfl
        have il : i < ts.length := (List.getElem?_eq_some_iff.mp hu).1
        have uz : u.length ≤ 10000 := Nat.le_trans (wz u (List.mem_cons_of_mem _ (List.mem_of_getElem? hu))) tz
        have e6 : Ex H' (L2.upd H' T (.tup [.int (i : Nat), .str u])) := Ex.new hT
        have hf6 := e6 _ _ hf
        have hp6 := e6 _ _ hp
        have k6 := kp.trans (KeepB.ex e6)
        generalize L2.upd H' T (.tup [.int (i : Nat), .str u]) = H6 at hf6 hp6 k6
        have lineE : Ev (tAndV (tOp (rI0 fun i j => .bl (decide (i < j))) (tVar 4) (tCB rLenStr (tCons (tVar 2) tNil))) (tOp rEq (tOp rIxS (tVar 2) (tVar 4)) (tC (.str "l")))) [some (V.str t), some (V.ref L), some (V.str c), some (V.ref Fp), some (.int (i : Nat)), some (.str u), y6, y7, none] H6 (.bl (isLineAt c i)) := by
          refine ev_andV (ev_op (ev_var rfl) (ev_lenS (ev_var rfl) (by omega)) rv_I0) fun hl => ?_
          have hl' : (i : Int) < (c.length : Int) := of_decide_eq_true hl
          have hi : i < c.cps.size := by
            have : c.length = c.cps.size := rfl
            omega
          have sg : (signsS c).getD i "" = ⟨#[c.cps.toList.getD i 0]⟩ := by
            unfold signsS
            rw [List.getD_eq_getElem?_getD, List.getElem?_map, Array.getElem?_toList, Array.getElem?_eq_getElem hi, List.getD_eq_getElem?_getD, Array.getElem?_toList, Array.getElem?_eq_getElem hi]
            rfl
          rw [sg]
          exact ev_eqS (ev_op (ev_var rfl) (ev_var rfl) (rv_ixS (by omega) (atI_nat (j := i) (by rw [List.getD_eq_getElem?_getD, Array.getElem?_toList, Array.getElem?_eq_getElem hi]; rfl)))) ev_c
        refine q_asg (v := .bl (isLineAt c i)) lineE fun H7 e7 => ?_
        have countE : Ev (tAndV (tOp rNe (tVar 5) (tC (.str ""))) (tAndV (tOp (rI0 fun i j => .bl (decide (i < j))) (tCB rLenStr (tCons (tVar 5) tNil)) (tC (.int 10))) (tAndV (tOp rNe (tOp rIxS (tVar 5) (tC (.int 0))) (tC (.str "0"))) (tCB (rAll K) (tCons (tLc (iStr (tVar 5)) (gName 8) tYes (tOp rInS (tVar 8) (tC (.str "0123456789"))) [8]) tNil)))))
            [some (V.str t), some (V.ref L), some (V.str c), some (V.ref Fp), some (.int (i : Nat)), some (.str u), some (.bl (isLineAt c i)), y7, none] H7 (.bl (isCount u)) := by
          refine ev_andV (ev_neS (ev_var rfl) ev_c) fun hu => ev_andV (ev_op (ev_lenS (ev_var rfl) (by omega)) ev_c rv_I0) fun _ => ev_andV ?_ fun _ => ev_allS _ (ev_var rfl) (by show u.length ≤ _; omega) (fun _ => rfl) fun x H4 => ev_op (ev_var rfl) ev_c rv_inS
          have hpos : 0 < u.cps.toList.length := by
            rw [Array.length_toList]
            rcases Nat.eq_zero_or_pos u.cps.size with z | z
            · rw [empty_len z] at hu
              exact absurd hu (by decide +kernel)
            · exact z
          exact ev_neS (ev_op (ev_var rfl) ev_c (rv_ixS (by omega) (at0 hpos))) ev_c
        refine q_asg (v := .bl (isCount u)) countE fun H8 e8 => ?_
        have e68 := e7.trans e8
        have valE : Ev (tIf (tAnd (tB (tVar 6)) (tB (tVar 7))) (tCB rIntS (tCons (tVar 5) tNil)) (tIf (tB (tVar 6)) (tC .non) (tVar 5))) [some (V.str t), some (V.ref L), some (V.str c), some (V.ref Fp), some (.int (i : Nat)), some (.str u), some (.bl (isLineAt c i)), some (.bl (isCount u)), none] H8 (foundV (isLineAt c i) u) := by
          refine ev_ifV (b := isLineAt c i && isCount u) (et_and (et_B (ev_var rfl)) fun _ => et_B (ev_var rfl)) (fun h => ?_) (fun h => ?_)
          · rw [Bool.and_eq_true] at h
            have hc := h.2
            rw [count_number] at hc
            obtain ⟨n, hn, _, _, hl9, _⟩ := number_val hc
            have : intOf u = (n : Int) := by unfold intOf; rw [hn]; rfl
            unfold foundV
            rw [h.1, h.2, if_pos rfl, this]
            exact ev_intS (ev_var rfl) hn (by omega)
          · unfold foundV
            rw [h, if_neg Bool.false_ne_true]
            refine ev_ifV (b := isLineAt c i) (et_B (ev_var rfl)) (fun z => ?_) (fun z => ?_)
            · rw [z, if_pos rfl]
              exact ev_c
            · rw [z, if_neg Bool.false_ne_true]
              exact ev_var rfl
        have fl : (V.str w0 :: foundsV c ts i).length = i + 1 := by unfold foundsV; simp
        refine s_app (K := K) (e68 _ _ hf6) (ev_var rfl) valE (by omega) fun H9 e9 => ?_
        refine ⟨_, _, _, _, rfl, fun a o na ha => ?_, np, ?_, ?_⟩
        · rw [upd_ne na]
          exact (e68.trans e9) _ _ (k6 a o na ha)
        · rw [upd_ne np]
          exact (e68.trans e9) _ _ hp6
        · rw [upd_same, List.cons_append]
          unfold foundsV
          rw [List.range_succ, List.map_append, List.map_singleton, ui]
      · obtain ⟨y4, y5, y6, y7, rfl, kp, np, hp, hf⟩ := q
        rw [strsV_len] at hf
        have eH : Ex H H' := fun a o ha => kp a o (ne_of_none ha hFn) (e15 a o ha)
        have rd : ∀ {Hx : Hp}, RdDs Hx (V.str w0 :: foundsV c ts ts.length) (PyData.str w0 :: foundsD c ts ts.length) := .cons (.str w0) (founds_rd _)
        have fl : (PyData.str w0 :: foundsD c ts ts.length).length = ts.length + 1 := by unfold foundsD; simp
        have tupE : ∀ {Hx : Hp} {σx : L2.St}, Ex H' Hx → σx[3]? = some (some (V.ref Fp)) → EvU (tCB (rTupOf K) (tCons (tVar 3) tNil)) σx Hx (V.str w0 :: foundsV c ts ts.length) := fun ex hs => eu_tupR (er_v hs (ex _ _ hf))
        have testE : EvT (tB (tCall spLFact [] E0 (tCons (tCB (rTupOf K) (tCons (tVar 3) tNil)) tNil))) [some (V.str t), some (V.ref L), some (V.str c), some (V.ref Fp), y4, y5, y6, y7, none] H' (isFact (.tuple (PyData.str w0 :: foundsD c ts ts.length))) := et_B fun H9 e9 Q9 q9 => by
          refine tupE e9 rfl H9 (Ex.refl _) _ fun p9 H10 hp9 e10 h10 => ?_
          refine ⟨.ref p9, _, rfl, .tup h10 rd, fun ds hds => ?_, fun H11 e11 => q9 H11 (e10.trans e11)⟩
          cases hds
          refine ⟨by rw [fl]; omega, fun x hx => ?_⟩
          rcases List.mem_cons.mp hx with rfl | hx
          · exact Nat.le_trans (wz w0 List.mem_cons_self) (by omega)
          · unfold foundsD at hx
            obtain ⟨j, hj, rfl⟩ := List.mem_map.mp hx
            have hj' : j < ts.length := List.mem_range.mp hj
            have : (ts.getD j "").length ≤ 10000 := by
              rw [List.getD_eq_getElem?_getD, List.getElem?_eq_getElem hj']
              exact Nat.le_trans (wz _ (List.mem_cons_of_mem _ (List.getElem_mem hj'))) tz
            unfold foundD
            split
            · exact Nat.zero_le _
            · split
              · exact Nat.zero_le _
              · show (ts.getD j "").length ≤ 40000
                omega
        refine testE H' (Ex.refl _) _ fun H9 e9 => ?_
        cases hF : isFact (.tuple (PyData.str w0 :: foundsD c ts ts.length)) with
        | true =>
          refine Eq.mpr (if_pos rfl) ?_
          refine tupE e9 rfl H9 (Ex.refl _) _ fun p9 H10 hp9 e10 h10 => ?_
          exact k2 _ (by rw [hF]; rfl) p9 _ H10 (eH.trans (e9.trans e10)) h10 rd
        | false =>
          refine Eq.mpr (if_neg Bool.false_ne_true) ?_
          exact k1 (by rw [hF]; rfl) H9 (eH.trans e9)
    | _ =>
      refine q_when (b := true) (et_not (a := false) (et_B (ev_isi (ev_var rfl) hty))) (fun h H1 e1 => ?_) (fun h H1 e1 => by cases h)
      exact s_ret ev_c fun H2 e2 => k1 rfl _ (e1.trans e2)
end
end HF
set_option maxRecDepth 100000
set_option maxHeartbeats 2000000
namespace HF
section
open PySem PySem.Spec PyProof.Rows L2
/-! ### t[::-1] of a tuple -/
theorem rev_places (n : Nat) : Builtin.Slice.slicePlaces ((n : Int) - 1) (-1) (-1) = n := by
  unfold Builtin.Slice.slicePlaces
  have h0 : ¬((-1 : Int) > 0) := by decide
  rw [if_neg h0]
  by_cases h : (n : Int) - 1 > -1
  · rw [if_pos h]
    have e : ((n : Int) - 1 - -1 - 1) / (- -1) + 1 = (n : Int) := by
      rw [show (- -1 : Int) = 1 by decide, Int.ediv_one]
      omega
    rw [e, Int.toNat_natCast]
  · rw [if_neg h]
    show 0 = n
    omega
theorem rev_adjust (n : Nat) : Builtin.Slice.sliceAdjust none none (-1) (n : Int) = ((n : Int) - 1, -1) := rfl
theorem fm_congr {α β : Type} {f g : α → Option β} : ∀ {l : List α}, (∀ x ∈ l, f x = g x) → l.filterMap f = l.filterMap g
  | [], _ => rfl
  | a :: l, h => by rw [List.filterMap_cons, List.filterMap_cons, h a List.mem_cons_self, fm_congr fun x hx => h x (List.mem_cons_of_mem _ hx)]
theorem rev_pick (xs : Array Value) : ((List.range xs.size).filterMap fun (k : Nat) => xs[(((xs.size : Int) - 1) + (k : Int) * (-1)).toNat]?).toArray = xs.toList.reverse.toArray := by
  have e1 : ((List.range xs.size).filterMap fun (k : Nat) => xs[(((xs.size : Int) - 1) + (k : Int) * (-1)).toNat]?) = ((List.range xs.size).map fun k => xs.size - 1 - k).filterMap fun i => xs[i]? := by
    rw [List.filterMap_map]
    refine fm_congr fun k hk => ?_
    have : (((xs.size : Int) - 1) + (k : Int) * (-1)).toNat = xs.size - 1 - k := by
      have := List.mem_range.mp hk
      omega
    rw [this]
    rfl
  rw [e1, PySem.W.krv_range, List.filterMap_reverse, PySem.W.krv_all]
section
open HT
variable {prog : Program} {w : World} {A : Around} {E : Value → Shared → Prop} {s : Shared}
theorem sliceApplied_rev {sl : Addr} {vl vu vs : Value} {n : Nat} {Q : Int × Int × Nat → Shared → Prop} (hs : s.heap.IsSliceOf sl vl vu vs) (pl : IsPart vl none) (pu : IsPart vu none) (ps : IsPart vs (some (-1)))
    (h : Q ((n : Int) - 1, -1, n) s) : wpAny (model prog w) A (Builtin.Slice.sliceApplied (.ref sl) (pure (n : Int))) Q E s := by
  obtain ⟨o, ho, hc, hd⟩ := id hs
  unfold Builtin.Slice.sliceApplied Builtin.Slice.sliceFields
  refine wpAny_bind (wpAny_bind (wpAny_field ho hd (x := vl) rfl (wpAny_bind (wpAny_field ho hd (x := vu) rfl (wpAny_bind (wpAny_field ho hd (x := vs) rfl (wpAny_pure ?_)))))))
  refine wpAny_bind (slicePart_ ps ?_)
  show wpAny _ _ (if ((-1 : Int) == 0) = true then _ else _) _ _ s
  refine Eq.mpr (congrArg (fun z => wpAny _ _ z _ _ s) (if_neg (by decide))) ?_
  refine wpAny_bind (slicePart_ pl (wpAny_bind (slicePart_ pu (wpAny_bind (wpAny_pure ?_)))))
  show wpAny _ _ (pure ((n : Int) - 1, (-1 : Int), Builtin.Slice.slicePlaces ((n : Int) - 1) (-1) (-1))) _ _ s
  rw [rev_places]
  exact wpAny_pure h
theorem getItem_rev {t sl : Addr} {items : Array Value} {vl vu vs : Value} {Q : Value → Shared → Prop} (ht : IsTup s.heap t items) (hs : s.heap.IsSliceOf sl vl vu vs) (pl : IsPart vl none) (pu : IsPart vu none) (ps : IsPart vs (some (-1)))
    (h : Q (.ref s.heap.objs.size) { s with heap := s.heap.push { cls := .type "tuple", data := .seq items.toList.reverse.toArray } }) (hz : items.size ≤ sizeLine) : wpAny (model prog w) A (getItem (.ref t) (.ref sl)) Q E s := by
  obtain ⟨o, ho, hc, hd⟩ := id hs
  have isS : s.TypeIs (.ref sl) "slice" := ⟨o, ho, hc⟩
  unfold getItem; try with_reducible refine wpAny_holding ?_
  first | refine wpAny_bind (wpAny_pure ?_) | skip
  refine wpAny_bind (wpAny_sequenceKey ht.typeIs (by decide) (wpAny_bind (wpAny_callSpecial?_slot (name := Str.ofString "__getitem__") ht.typeIs PyProof.Rows.slot_tuple_getitem (wpAny_call_entry PyProof.Rows.slot_tuple_getitem ht.typeIs entry_tuple_getitem ?_ (args_tuple_getitem _ _)))))
  show wpAny _ _ (Builtin.Tuple.tupleItemsOf (.ref t) >>= _) _ _ s
  refine wpAny_bind (tupleItemsOf_ ht (wpAny_bind (wpAny_typeOf isS ?_)))
  refine Eq.mpr (congrArg (fun z => wpAny _ _ z _ _ s) (if_pos (by decide))) ?_
  refine wpAny_bind (sliceApplied_rev hs pl pu ps ?_)
  show wpAny _ _ (if (((items.size : Int) - 1) == 0 && (-1 : Int) == 1 && items.size == items.size) = true then _ else _) _ _ s
  have no : ¬((((items.size : Int) - 1) == 0 && (-1 : Int) == 1 && items.size == items.size) = true) := by
    intro q
    rw [Bool.and_eq_true, Bool.and_eq_true] at q
    exact absurd q.1.2 (by decide)
  rw [if_neg no, rev_pick]
  have sz : sizeOk (.seq items.toList.reverse.toArray) := by
    show items.toList.reverse.toArray.size ≤ sizeLine
    rw [List.size_toArray, List.length_reverse, Array.length_toList]
    exact hz
  first
    | exact wpAny_bind (m := Builtin.Tuple.tupleExact _) (wpAny_newObj_type (wpAny_pure ⟨_, rfl, wpAny_pure h⟩) sz)
    | exact wpAny_bind (m := Builtin.Tuple.tupleExact _) (wpAny_newObj_type (wpAny_bind (wpAny_pure (wpAny_pure ⟨_, rfl, wpAny_pure h⟩))) sz)
end
def tRevT (K : PySem.W.Frag) (te : TE) : TE := fun σ H Q => te σ H fun x H1 => ∃ a xs, x = .ref a ∧ SqT K H1 a xs ∧ ∀ p, H1 p = none → Q (.ref p) (upd H1 p (.tup xs.reverse))
theorem pe_revT {X : Cx} {e : Expr} {te : TE} {k : Nat} {p1 p2 p3 pos : Pos} (he : PE X e te) : PE X (.Subscript e (.Slice none none (some (.UnaryOp .USub (.Constant (.int 1) k p1) p2)) p3) pos) (tRevT X.K te) := by
  refine ⟨fun pn t slots H Q I h => Subscript_ (thn (he.run pn t slots H _ I h) fun v t1 ⟨x, H1, I1, rel, a, xs, ex, hx, q⟩ => ?_)⟩
  subst ex; cases rel
  have neg1 : PO X (some (.UnaryOp .USub (.Constant (.int 1) k p1) p2)) (tPart (tUn (rU fun i => .int (-i)) (tC (.int 1)))) := po_some (pe_un un_neg pe_int)
  refine wpAny_Slice (thn (po_none.run pn t1 slots H1 (fun o H2 => o = none ∧ H2 = H1) I1 ⟨rfl, rfl⟩) fun vl t2 ⟨lo, H2, I2, pl, el, e2⟩ => ?_)
  subst el; subst e2
  refine thn (po_none.run pn t2 slots H2 (fun o H3 => o = none ∧ H3 = H2) I2 ⟨rfl, rfl⟩) fun vu t3 ⟨hi, H3, I3, pu, eu, e3⟩ => ?_
  subst eu; subst e3
  refine thn (neg1.run pn t3 slots H3 (fun o H4 => o = some (-1) ∧ H4 = H3) I3 ⟨1, rfl, -1, rfl, rfl, rfl⟩) fun vs t4 ⟨st, H4, I4, ps, eo, e4⟩ => ?_
  subst eo; subst e4
  have I5 : Inv X pn slots H4 { t4 with heap := t4.heap.push { cls := .type "slice", data := .fields #[vl, vu, vs] } } := I4.kept (t' := t4.toks) fun b ob q => Heap.get?_push_of_some _ q
  obtain ⟨its, r, ht, hz⟩ := I5.tuple hx
  have ln := r.length
  show wpAny (model X.prog X.w) X.A (subscriptTail e _ (.ref a) (.ref t4.heap.objs.size)) (EP X pn slots Q) X.xe _
  refine tail_any (ops := [.ref a, .ref t4.heap.objs.size]) ht.typeIs PyProof.Rows.slot_tuple_getitem.lookup ?_ (by with_unfolding_all rfl)
  refine getItem_rev ht (Heap.IsSliceOf.new _ vl vu vs) pl pu ps ?_ (by rw [List.size_toArray]; omega)
  refine ⟨.ref _, _, I5.laid (t' := t4.toks) (o := .tup xs.reverse) (fun b ob q => Heap.get?_push_of_some _ q) (Nat.le_refl _) ?_, rfl, q _ (I5.hok.fresh (Nat.le_refl _))⟩
  exact ⟨by rw [List.length_reverse]; exact hz, _, r.reverse, IsTup.new _ _⟩
end
end HF
set_option maxRecDepth 100000
set_option maxHeartbeats 2000000
namespace HF
open PySem L2 Evl
/-! ### data apart from the box -/
abbrev SB (b : Addr) : Addr → Prop := fun a => a = b
theorem cutV_to {xs : List V} {k : Nat} : cutV xs none (some (k : Int)) = xs.take k := by
  unfold cutV
  rw [HT.sIx_none, HT.sIx_nat, List.drop_zero, Nat.sub_zero]
  by_cases h : k ≤ xs.length
  · rw [Nat.min_eq_left h]
  · rw [Nat.min_eq_right (by omega), List.take_length, List.take_of_length_le (by omega)]
section
variable {H : Hp} {S : Addr → Prop}
theorem rds_take : ∀ {xs : List V} {ds : List PyData} (k : Nat), RdDs H xs ds → RdDs H (xs.take k) (ds.take k)
  | _, _, 0, _ => by rw [List.take_zero, List.take_zero]; exact .nil
  | _, _, k + 1, .nil => .nil
  | _, _, k + 1, .cons a r => .cons a (rds_take k r)
theorem rds_drop : ∀ {xs : List V} {ds : List PyData} (k : Nat), RdDs H xs ds → RdDs H (xs.drop k) (ds.drop k)
  | _, _, 0, r => r
  | _, _, k + 1, .nil => .nil
  | _, _, k + 1, .cons a r => rds_drop k r
theorem rds_app : ∀ {xs ys : List V} {ds es : List PyData}, RdDs H xs ds → RdDs H ys es → RdDs H (xs ++ ys) (ds ++ es)
  | _, _, _, _, .nil, r => r
  | _, _, _, _, .cons a r, t => .cons a (rds_app r t)
theorem rds_rev : ∀ {xs : List V} {ds : List PyData}, RdDs H xs ds → RdDs H xs.reverse ds.reverse
  | _, _, .nil => .nil
  | _, _, .cons a r => by
    rw [List.reverse_cons, List.reverse_cons]
    exact rds_app (rds_rev r) (.cons a .nil)
end
section
variable {K : PySem.W.Frag} {σ : L2.St} {H : Hp} {te tb : TE} {ta : TA} {b : Addr} {n : Nat} {xs ys : List V} {ds : List PyData} {d : PyData} {v : V}
theorem box_lst {p : Addr} (hb : BoxAt H b n) (hp : H p = some (.tup xs)) : ¬SB b p := fun z => by
  obtain ⟨u, v, w, h, _⟩ := hb
  rw [show p = b from z, h] at hp
  cases hp
theorem rdn_tup {p : Addr} (hb : BoxAt H b n) (hp : H p = some (.tup xs)) (r : RdNs H (SB b) xs ds) : RdN H (SB b) (.ref p) (.tuple ds) := .tup (by rw [but_ne (box_lst hb hp)]; exact hp) r
theorem box_some (hb : BoxAt H b n) : ∀ a, SB b a → (H a).isSome = true := fun a ha => by
  obtain ⟨u, v, w, h, _⟩ := hb
  rw [show a = b from ha, h]
  rfl
theorem evd_rt (hb : BoxAt H b n) (h : EvRT te σ H xs) (r : RdNs H (SB b) xs ds) : EvD (SB b) te σ H (.tuple ds) := fun H1 e Q q => h H1 e _ fun p H2 e2 hp => q (.ref p) H2 e2 (rdn_tup (hb.mono (e.trans e2)) hp (r.mono (e.trans e2)))
theorem ert_rev (h : EvRT te σ H xs) : EvRT (tRevT K te) σ H xs.reverse := fun H1 e Q q => h H1 e _ fun p H2 e2 hp => ⟨p, xs, rfl, st_of hp, fun r hr => q r _ (e2.trans (Ex.new hr)) upd_same⟩
theorem evd_list (hb : BoxAt H b n) (h : EvRT te σ H xs) (r : RdNs H (SB b) xs ds) : EvD (SB b) (tCB (rListS K) (tCons te tNil)) σ H (.list ds) := fun H1 e Q q => h H1 e _ fun p H2 e2 hp => ⟨p, xs, rfl, Or.inr (st_of hp), fun l hl => by
  have e3 := e2.trans (Ex.new (o := .lst xs) hl)
  have nl : ¬SB b l := fun z => box_ne (hb.mono (e.trans e2)) hl z
  exact q (.ref l) _ e3 (.lst (by rw [but_ne nl, upd_same]) (r.mono (e.trans e3)))⟩
theorem ert_one (h : Ev te σ H v) : EvRT (tTup (tCons te tNil)) σ H [v] := ert_u (eu_tup (ea_cons h ea_nil) (by show 1 ≤ 100000; decide))
theorem t_ofD {i : Nat} {Q : VK} (h0 : σ[i]? = some (some (.ref b))) (hl : EaD (SB b) ta σ H ds) (hb : BoxAt H b n) (hn : n ≤ 1000000) (ne : ds ≠ []) (hz : ds.length ≤ 1000)
    (k : ∀ x d H2, d ∈ ds → KeepB b H H2 → BoxAt H2 b (n + 1) → RdN H2 (SB b) x d → Q x H2) : tCall spOf [] E0 (tCons (tVar i) (tCons (tLst ta) tNil)) σ H Q := by
  refine ⟨_, h0, hl H (Ex.refl H) _ fun xs H1 e1 r => ⟨sz_of (by rw [RdDs.len r]; omega), fun p hp => ?_⟩⟩
  have lx : xs.length = ds.length := RdDs.len r
  have e2 : Ex H (L2.upd H1 p (.lst xs)) := e1.trans (Ex.new hp)
  refine ⟨b, p, xs, n, rfl, hb.mono e2, hn, upd_same, box_ne (hb.mono e1) hp, fun z => ?_, by omega, fun j x H2 hx k2 b2 => ?_⟩
  · rw [z] at lx
    exact ne (List.eq_nil_of_length_eq_zero lx.symm)
  · obtain ⟨d, hd, rd⟩ := RdDs.at_ r hx
    exact k x d H2 (List.mem_of_getElem? hd) ((KeepB.ex e2).trans k2) b2 (RdN.keep (b := b) (S := SB b) rfl k2 (RdN.mono (Ex.new hp) rd))
theorem evd_rep2 (h : EvD (SB b) te σ H d) : ∀ H1, Ex H H1 → ∀ Q : VK, (∀ p x H2, Ex H1 H2 → H2 p = some (.lst [x, x]) → RdN H2 (SB b) x d → Q (.ref p) H2) → tOp rRep (tLst (tCons te tNil)) (tC (.int 2)) σ H1 Q := fun H1 e Q q =>
  h H1 e _ fun x H2 e2 r => ⟨sz_of (by show 1 ≤ 100000; decide), fun l hl => ⟨l, 2, [x], rfl, rfl, upd_same, by decide, by decide, sz_of (by show 2 ≤ 100000; decide), fun p hp => q p x _ ((e2.trans (Ex.new hl)).trans (Ex.new hp)) upd_same (RdN.mono (Ex.new hp) (RdN.mono (Ex.new hl) r))⟩⟩
end
/-! ### small data -/
theorem tidy6 {ds : List PyData} (h : ∀ o ∈ ds, tidyB 60 o = true) (hl : ds.length ≤ 7) : Tidy 440 (.list ds) ∧ Tidy 440 (.tuple ds) ∧ Tidy 440 (.tuple [.tuple ds]) := by
  obtain ⟨h1, h2, h3, h4⟩ := tidy_all h
  have w : PyData.weightAll ds ≤ 427 := by omega
  refine ⟨⟨by rw [PyData.showable]; exact h1, by rw [PyData.depth]; omega, by rw [PyData.weight]; omega, by rw [PyData.leavesShort]; exact h4⟩, ⟨by rw [PyData.showable]; exact h1, by rw [PyData.depth]; omega, by rw [PyData.weight]; omega, by rw [PyData.leavesShort]; exact h4⟩, ⟨?_, ?_, ?_, ?_⟩⟩
  · rw [PyData.showable, PyData.showableAll, PyData.showable, h1]; rfl
  · rw [PyData.depth, PyData.depthAll, PyData.depth, PyData.depthAll]; omega
  · rw [PyData.weight, PyData.weightAll, PyData.weight, PyData.weightAll]; omega
  · rw [PyData.leavesShort, PyData.leavesShortAll, PyData.leavesShort, h4]; rfl
structure OkT (n : Nat) (t : Str) : Prop where
  len : t.length ≤ n
  low : ∀ c ∈ t.cps.toList, c < 256
def okTB (n : Nat) (t : Str) : Bool := decide (t.length ≤ n) && t.cps.toList.all fun c => decide (c < 256)
theorem okTB_of {n : Nat} {t : Str} (h : okTB n t = true) : OkT n t := by
  unfold okTB at h
  rw [Bool.and_eq_true, decide_eq_true_eq, List.all_eq_true] at h
  exact ⟨h.1, fun c hc => of_decide_eq_true (h.2 c hc)⟩
def odd16 : List PyData := [.none, .bool true, .bool false, .int 0, .int 1, .int (-1), .int ((10 : Int) ^ (9 : Int).toNat), .str "", .str "a", .str "A", .str "num", .str "3", .str "a b", .str "abcdefg", .str "ABCDEFG", .str "9a"]
def odd5 : List PyData := [.str "A9", .str " ", .str "1", .dict [], .tuple []]
theorem tidy16 : ∀ d ∈ odd16, tidyB 60 d = true := by
  intro d hd
  unfold odd16 at hd
  simp only [List.mem_cons, List.not_mem_nil, or_false] at hd
  rcases hd with rfl | rfl | rfl | rfl | rfl | rfl | rfl | rfl | rfl | rfl | rfl | rfl | rfl | rfl | rfl | rfl <;> decide +kernel
theorem tidy5 : ∀ d ∈ odd5, tidyB 60 d = true := by
  intro d hd
  unfold odd5 at hd
  simp only [List.mem_cons, List.not_mem_nil, or_false] at hd
  rcases hd with rfl | rfl | rfl | rfl | rfl <;> decide +kernel
theorem okt16 : ∀ d ∈ odd16, okTB 12 (partD d) = true := by
  intro d hd
  unfold odd16 at hd
  simp only [List.mem_cons, List.not_mem_nil, or_false] at hd
  rcases hd with rfl | rfl | rfl | rfl | rfl | rfl | rfl | rfl | rfl | rfl | rfl | rfl | rfl | rfl | rfl | rfl <;> decide +kernel
theorem okt5 : ∀ d ∈ odd5, okTB 12 (partD d) = true := by
  intro d hd
  unfold odd5 at hd
  simp only [List.mem_cons, List.not_mem_nil, or_false] at hd
  rcases hd with rfl | rfl | rfl | rfl | rfl <;> decide +kernel
/-- a bent fact: a tuple of few short parts, or a list -/
def BentOk (d : PyData) : Prop := (∃ es, d = .tuple es ∧ es.length ≤ 7 ∧ ∀ o ∈ es, okTB 12 (partD o) = true) ∨ ∃ es, d = .list es
/-- what may come of a fact with something otherwise -/
def bents (ds : List PyData) (k : Nat) (o1 o2 : PyData) : List PyData :=
  [.tuple (ds.take k ++ ds.drop (k + 1)), .tuple (ds.take (k + 1) ++ ds.drop k), .tuple ds.reverse, .list ds, .tuple [.tuple ds], .tuple ((ds.take k ++ [o1]) ++ ds.drop (k + 1)), .tuple ((ds.take k ++ [o1]) ++ ds.drop (k + 1)), .tuple (ds.take k ++ [o2])]
theorem tidy_bents {ds : List PyData} {k : Nat} {o1 o2 : PyData} (h : ∀ o ∈ ds, tidyB 60 o = true) (hl : ds.length ≤ 5) (hk : k < ds.length) (h1 : tidyB 60 o1 = true) (h2 : tidyB 60 o2 = true) : ∀ d ∈ bents ds k o1 o2, Tidy 440 d := by
  have mt : ∀ o ∈ ds.take k, tidyB 60 o = true := fun o ho => h o (List.mem_of_mem_take ho)
  have md : ∀ o ∈ ds.drop (k + 1), tidyB 60 o = true := fun o ho => h o (List.mem_of_mem_drop ho)
  have c1 : ∀ o ∈ [o1], tidyB 60 o = true := fun o ho => by rw [List.mem_singleton.mp ho]; exact h1
  have c2 : ∀ o ∈ [o2], tidyB 60 o = true := fun o ho => by rw [List.mem_singleton.mp ho]; exact h2
  have ap : ∀ {l m : List PyData}, (∀ o ∈ l, tidyB 60 o = true) → (∀ o ∈ m, tidyB 60 o = true) → ∀ o ∈ l ++ m, tidyB 60 o = true := fun a b o ho => (List.mem_append.mp ho).elim (a o) (b o)
  intro d hd
  unfold bents at hd
  simp only [List.mem_cons, List.not_mem_nil, or_false] at hd
  rcases hd with rfl | rfl | rfl | rfl | rfl | rfl | rfl | rfl
  · exact (tidy6 (ap mt md) (by rw [List.length_append, List.length_take, List.length_drop]; omega)).2.1
  · exact (tidy6 (ap (fun o ho => h o (List.mem_of_mem_take ho)) (fun o ho => h o (List.mem_of_mem_drop ho))) (by rw [List.length_append, List.length_take, List.length_drop]; omega)).2.1
  · exact (tidy6 (fun o ho => h o (List.mem_reverse.mp ho)) (by rw [List.length_reverse]; omega)).2.1
  · exact (tidy6 h (by omega)).1
  · exact (tidy6 h (by omega)).2.2
  · exact (tidy6 (ap (ap mt c1) md) (by simp only [List.length_append, List.length_take, List.length_drop, List.length_singleton]; omega)).2.1
  · exact (tidy6 (ap (ap mt c1) md) (by simp only [List.length_append, List.length_take, List.length_drop, List.length_singleton]; omega)).2.1
  · exact (tidy6 (ap mt c2) (by simp only [List.length_append, List.length_take, List.length_singleton]; omega)).2.1
theorem bent_ok {ds : List PyData} {k : Nat} {o1 o2 : PyData} (h : ∀ o ∈ ds, okTB 12 (partD o) = true) (hl : ds.length ≤ 5) (hk : k < ds.length) (h1 : okTB 12 (partD o1) = true) (h2 : okTB 12 (partD o2) = true) : ∀ d ∈ bents ds k o1 o2, BentOk d := by
  have mt : ∀ {j}, ∀ o ∈ ds.take j, okTB 12 (partD o) = true := fun o ho => h o (List.mem_of_mem_take ho)
  have md : ∀ {j}, ∀ o ∈ ds.drop j, okTB 12 (partD o) = true := fun o ho => h o (List.mem_of_mem_drop ho)
  have c1 : ∀ o ∈ [o1], okTB 12 (partD o) = true := fun o ho => by rw [List.mem_singleton.mp ho]; exact h1
  have c2 : ∀ o ∈ [o2], okTB 12 (partD o) = true := fun o ho => by rw [List.mem_singleton.mp ho]; exact h2
  have ap : ∀ {l m : List PyData}, (∀ o ∈ l, okTB 12 (partD o) = true) → (∀ o ∈ m, okTB 12 (partD o) = true) → ∀ o ∈ l ++ m, okTB 12 (partD o) = true := fun a b o ho => (List.mem_append.mp ho).elim (a o) (b o)
  intro d hd
  unfold bents at hd
  simp only [List.mem_cons, List.not_mem_nil, or_false] at hd
  rcases hd with rfl | rfl | rfl | rfl | rfl | rfl | rfl | rfl
  · exact Or.inl ⟨_, rfl, by rw [List.length_append, List.length_take, List.length_drop]; omega, ap mt md⟩
  · exact Or.inl ⟨_, rfl, by rw [List.length_append, List.length_take, List.length_drop]; omega, ap mt md⟩
  · exact Or.inl ⟨_, rfl, by rw [List.length_reverse]; omega, fun o ho => h o (List.mem_reverse.mp ho)⟩
  · exact Or.inr ⟨_, rfl⟩
  · exact Or.inl ⟨_, rfl, by show 1 ≤ 7; decide, fun o ho => by rw [List.mem_singleton.mp ho]; exact (by decide +kernel : okTB 12 ("" : Str) = true)⟩
  · exact Or.inl ⟨_, rfl, by simp only [List.length_append, List.length_take, List.length_drop, List.length_singleton]; omega, ap (ap mt c1) md⟩
  · exact Or.inl ⟨_, rfl, by simp only [List.length_append, List.length_take, List.length_drop, List.length_singleton]; omega, ap (ap mt c1) md⟩
  · exact Or.inl ⟨_, rfl, by simp only [List.length_append, List.length_take, List.length_singleton]; omega, ap mt c2⟩
theorem pow_ok9 : CPowW 10 9 := ⟨by decide, by decide +kernel⟩
def spBent : Sp := fun vs H Q _ => ∃ (b p : Addr) (n : Nat) (xs : List V) (ds : List PyData), vs = [.ref b, .ref p] ∧ BoxAt H b n ∧ n ≤ 900000 ∧ H p = some (.tup xs) ∧ RdNs H (SB b) xs ds ∧ (∀ o ∈ ds, tidyB 60 o = true) ∧ (∀ o ∈ ds, okTB 12 (partD o) = true) ∧ 1 ≤ ds.length ∧ ds.length ≤ 5 ∧
  ∀ x d H', Tidy 440 d → BentOk d → KeepB b H H' → BoxAt H' b (n + 4) → RdN H' (SB b) x d → Q x H'
section
variable {P : Program} {w : World} {K : PySem.W.Frag} {mg : Str → Option Value} {base : Heap}
theorem sc_bent : FnScope ["_law_box_here", "_law_thing", "_law_at", "_law_turn", "_law_odd", "_law_some"] ["_law_box_here", "_law_thing"] (defScope s_law_bent) := ⟨rfl, rfl, rfl, by decide +kernel, rfl, by decide +kernel, by decide +kernel⟩
theorem h_bent (T : TxForms K mg) (TF : TxFact K w mg) (TW : TxLaw K mg) (TL : TxL77 K mg) : Has P w K mg base CX0 3 "_law_bent" ["_law_box_here", "_law_thing"] spBent := by
  obtain ⟨f, fd, a, F⟩ := TL.bent.ex
  have HT : Has P w K mg base CX0 1 "_law_take" ["_law_box_here", "_law_many"] spTake := h_take TW
  have HO : Has P w K mg base CX0 2 "_law_of" ["_law_box_here", "_law_some"] spOf := h_of T TW
  refine ⟨f, fd, a, F.kp, F.binds fun _ _ _ _ _ _ us hl => match us, hl with | [_, _], _ => rfl, ?_⟩
  refine F.ok sc_bent (fun vs H Q E h => ?_) (fun cdv A outer s H vs Q E hr h => ?_)
  · obtain ⟨b, p, n, xs, ds, rfl, _⟩ := h
    rfl
  · obtain ⟨b, p, n, xs, ds, rfl, hb, hn, hp, r, ht, ho', l1, l5, kQ⟩ := h
    have hr1 := hr.mono (show 1 ≤ _ by decide)
    refine ⟨_, pss_cons (ps_par (by rfl) sc_bent.nd (i := 2) (j := 3) rfl rfl (by decide) rfl rfl (pa_cons (pe_h HT hr1 (pa_cons (pv 0) (pa_cons (pe_callB call_lenT (by rfl) T.len PySem.boot_len (pa_cons (pv 1) pa_nil)) pa_nil))) (pa_cons (pe_h HT hr1 (pa_cons (pv 0) (pa_cons pe_int pa_nil))) pa_nil)) (by rfl))
      (pss_cons (ps_set (i := 4) sc_bent.nd rfl (Or.inl rfl) (pe_lst (pa_cons pe_non (pa_cons pe_bl (pa_cons pe_bl (pa_cons pe_int (pa_cons pe_int (pa_cons (pe_un un_neg pe_int) (pa_cons (pe_op op_powW pe_int pe_int) (pa_cons pe_str (pa_cons pe_str (pa_cons pe_str (pa_cons pe_str (pa_cons pe_str (pa_cons pe_str (pa_cons pe_str (pa_cons pe_str (pa_cons pe_str pa_nil))))))))))))))))))
      (pss_cons (ps_set (i := 4) sc_bent.nd rfl (Or.inl rfl) (pe_h HO hr (pa_cons (pv 0) (pa_cons (pv 4) pa_nil))))
      (pss_cons (ps_set (i := 5) sc_bent.nd rfl (Or.inl rfl) (pe_lst (pa_cons (pe_op op_catA (pe_slice sl_tupA (pv 1) po_none (po_some (pv 2))) (pe_slice sl_tupA (pv 1) (po_some (pe_op op_add (pv 2) pe_int)) po_none))
          (pa_cons (pe_op op_catA (pe_slice sl_tupA (pv 1) po_none (po_some (pe_op op_add (pv 2) pe_int))) (pe_slice sl_tupA (pv 1) (po_some (pv 2)) po_none))
          (pa_cons (pe_revT (pv 1)) (pa_cons (pe_callTy call_list_of (by rfl) TF.list (by decide +kernel) (pa_cons (pv 1) pa_nil)) (pa_cons (pe_tup (pa_cons (pv 1) pa_nil)) pa_nil)))))))
      (pss_cons (ps_set (i := 5) sc_bent.nd rfl (Or.inl rfl) (pe_op op_cat (pe_op op_cat (pv 5) (pe_op op_rep (pe_lst (pa_cons (pe_op op_catA (pe_op op_catA (pe_slice sl_tupA (pv 1) po_none (po_some (pv 2))) (pe_tup (pa_cons (pv 4) pa_nil))) (pe_slice sl_tupA (pv 1) (po_some (pe_op op_add (pv 2) pe_int)) po_none)) pa_nil)) pe_int))
          (pe_lst (pa_cons (pe_op op_catA (pe_slice sl_tupA (pv 1) po_none (po_some (pv 2))) (pe_tup (pa_cons (pe_h HO hr (pa_cons (pv 0) (pa_cons (pe_lst (pa_cons pe_str (pa_cons pe_str (pa_cons pe_str (pa_cons pe_dnewK (pa_cons (pe_tup pa_nil) pa_nil)))))) pa_nil))) pa_nil))) pa_nil))))
      (pss_one (ps_ret (pe_ix ix_list (pv 5) (pv 3) (fun _ _ => rfl)))))))), ?_⟩
    have lx : xs.length = ds.length := RdDs.len r
    -- at, turn
    refine ⟨_, rfl, (ev_lenV (ev_var rfl) hp) H (Ex.refl _) _ fun H1 e1 => ⟨b, (xs.length : Nat), n, rfl, hb.mono e1, by omega, by omega, by omega, fun k H2 hk k2 b2 => ⟨_, rfl, b, 8, n + 1, rfl, b2, by omega, by decide, by decide, fun t H3 ht8 k3 b3 => ⟨_, _, rfl, ?_⟩⟩⟩⟩
    have kk : k < ds.length := by omega
    have k13 : KeepB b H H3 := (KeepB.ex e1).trans (k2.trans k3)
    have npb : p ≠ b := fun z => box_lst hb hp z
    -- odd
    have hA : EaD (SB b) _ [some (V.ref b), some (V.ref p), some (V.int (k : Int)), some (V.int (t : Int)), none, none] H3 odd16 :=
      ead_cons (evd_of (x := .non) ev_c fun _ _ => .non) (ead_cons (evd_of (x := .bl true) ev_c fun _ _ => .bl true) (ead_cons (evd_of (x := .bl false) ev_c fun _ _ => .bl false) (ead_cons (evd_of (x := .int 0) ev_c fun _ _ => .int 0) (ead_cons (evd_of (x := .int 1) ev_c fun _ _ => .int 1)
        (ead_cons (evd_of (x := .int (-1)) (te := tUn (rU fun i => .int (-i)) (tC (.int 1))) (ev_un ev_c fun H1 _ Q q => ⟨1, rfl, q H1 (Ex.refl H1)⟩) fun _ _ => .int (-1)) (ead_cons (evd_of (x := .int ((10 : Int) ^ (9 : Int).toNat)) (te := tOp (rI CPowW fun i j => .int (i ^ j.toNat)) (tC (.int 10)) (tC (.int 9))) (ev_op ev_c ev_c (rv_I pow_ok9)) fun _ _ => .int _)
        (ead_cons (evd_of (x := .str "") ev_c fun _ _ => .str _) (ead_cons (evd_of (x := .str "a") ev_c fun _ _ => .str _) (ead_cons (evd_of (x := .str "A") ev_c fun _ _ => .str _) (ead_cons (evd_of (x := .str "num") ev_c fun _ _ => .str _) (ead_cons (evd_of (x := .str "3") ev_c fun _ _ => .str _)
        (ead_cons (evd_of (x := .str "a b") ev_c fun _ _ => .str _) (ead_cons (evd_of (x := .str "abcdefg") ev_c fun _ _ => .str _) (ead_cons (evd_of (x := .str "ABCDEFG") ev_c fun _ _ => .str _) (ead_cons (evd_of (x := .str "9a") ev_c fun _ _ => .str _) ead_nil)))))))))))))))
    refine q_asgLD hA (by show 16 ≤ 1000; decide) fun l os H4 hl e4 ro => ?_
    have e5 : Ex H3 (L2.upd H4 l (.lst os)) := e4.trans (Ex.new hl)
    have lo : os.length = odd16.length := RdDs.len ro
    have lo16 : odd16.length = 16 := rfl
    have b5 := b3.mono e5
    refine ⟨_, rfl, _, rfl, b, l, os, n + 2, rfl, b5, by omega, upd_same, box_ne (b3.mono e4) hl, List.ne_nil_of_length_pos (by omega), by omega, fun j o1 H6 ho k6 b6 => ?_⟩
    obtain ⟨d1, hd1, rd1⟩ := RdDs.at_ ro ho
    have r6 : RdN H6 (SB b) o1 d1 := RdN.keep (b := b) (S := SB b) rfl k6 (RdN.mono (Ex.new hl) rd1)
    have k36 : KeepB b H3 H6 := (KeepB.ex e5).trans k6
    have k16 := k13.trans k36
    have hp6 : H6 p = some (.tup xs) := k16 p _ npb hp
    have rs6 : RdNs H6 (SB b) xs ds := RdNs.keep (b := b) (S := SB b) rfl k16 r
    dsimp only [gName]
    -- the first five
    have sl1 : ∀ {H' : Hp} {σ : L2.St} {tk : TE} {m : Nat}, H' p = some (.tup xs) → σ[1]? = some (some (V.ref p)) → Ev tk σ H' (.int (m : Int)) → EvRT (tSl (rSlA K) (tVar 1) tNoPart (tPart tk)) σ H' (xs.take m) := fun hp' hs hk => by
      have := ert_sl (K := K) (ert_v hs hp') eo_none (eo_some hk)
      rw [cutV_to] at this
      exact this
    have sl2 : ∀ {H' : Hp} {σ : L2.St} {tk : TE} {m : Nat}, H' p = some (.tup xs) → σ[1]? = some (some (V.ref p)) → Ev tk σ H' (.int (m : Int)) → m ≤ xs.length → EvRT (tSl (rSlA K) (tVar 1) (tPart tk) tNoPart) σ H' (xs.drop m) := fun hp' hs hk hm => by
      have := ert_sl (K := K) (ert_v hs hp') (eo_some hk) eo_none
      rw [cutV_drop hm] at this
      exact this
    have k1E : ∀ {H' : Hp} {σ : L2.St}, σ[2]? = some (some (V.int (k : Int))) → Ev (tOp (rI0 fun i j => .int (i + j)) (tVar 2) (tC (.int 1))) σ H' (.int ((k + 1 : Nat) : Int)) := fun hs => by
      have : (((k + 1 : Nat)) : Int) = (k : Int) + 1 := by omega
      rw [this]
      exact ev_op (ev_var hs) ev_c rv_I0
    have hF : EaD (SB b) (tCons (tOp (rCatA K) (tSl (rSlA K) (tVar 1) tNoPart (tPart (tVar 2))) (tSl (rSlA K) (tVar 1) (tPart (tOp (rI0 fun i j => .int (i + j)) (tVar 2) (tC (.int 1)))) tNoPart)) (tCons (tOp (rCatA K) (tSl (rSlA K) (tVar 1) tNoPart (tPart (tOp (rI0 fun i j => .int (i + j)) (tVar 2) (tC (.int 1))))) (tSl (rSlA K) (tVar 1) (tPart (tVar 2)) tNoPart)) (tCons (tRevT K (tVar 1)) (tCons (tCB (rListS K) (tCons (tVar 1) tNil)) (tCons (tTup (tCons (tVar 1) tNil)) tNil)))))
        [some (V.ref b), some (V.ref p), some (V.int (k : Int)), some (V.int (t : Int)), some o1, none] H6 [.tuple (ds.take k ++ ds.drop (k + 1)), .tuple (ds.take (k + 1) ++ ds.drop k), .tuple ds.reverse, .list ds, .tuple [.tuple ds]] := by
      refine ead_cons (evd_rt b6 (ert_cat (sl1 hp6 rfl (ev_var rfl)) (sl2 hp6 rfl (k1E rfl) (by omega)) (by rw [List.length_take, List.length_drop]; omega)) (rds_app (rds_take k rs6) (rds_drop (k + 1) rs6))) ?_
      refine ead_cons (evd_rt b6 (ert_cat (sl1 hp6 rfl (k1E rfl)) (sl2 hp6 rfl (ev_var rfl) (by omega)) (by rw [List.length_take, List.length_drop]; omega)) (rds_app (rds_take (k + 1) rs6) (rds_drop k rs6))) ?_
      refine ead_cons (evd_rt b6 (ert_rev (ert_v rfl hp6)) (rds_rev rs6)) ?_
      refine ead_cons (evd_list b6 (ert_v rfl hp6) rs6) ?_
      exact ead_cons (evd_rt b6 (ert_one (ev_var rfl)) (.cons (rdn_tup b6 hp6 rs6) .nil)) ead_nil
    refine q_asgLD hF (by show 5 ≤ 1000; decide) fun l2 fs H7 hl2 e7 rf => ?_
    have e8 : Ex H6 (L2.upd H7 l2 (.lst fs)) := e7.trans (Ex.new hl2)
    have hl28 : (L2.upd H7 l2 (.lst fs)) l2 = some (.lst fs) := upd_same
    have rf8 := RdNs.mono (Ex.new (o := .lst fs) hl2) rf
    have lfs : fs.length = 5 := RdDs.len rf
    have b8 := b6.mono e8
    generalize L2.upd H7 l2 (.lst fs) = H8 at e8 hl28 rf8 b8
    have hp8 := e8 _ _ hp6
    have rs8 := rs6.mono e8
    have r8 := r6.mono e8
    -- some + [..] * 2 + [..]
    have h6E : EvD (SB b) (tOp (rCatA K) (tOp (rCatA K) (tSl (rSlA K) (tVar 1) tNoPart (tPart (tVar 2))) (tTup (tCons (tVar 4) tNil))) (tSl (rSlA K) (tVar 1) (tPart (tOp (rI0 fun i j => .int (i + j)) (tVar 2) (tC (.int 1)))) tNoPart))
        [some (V.ref b), some (V.ref p), some (V.int (k : Int)), some (V.int (t : Int)), some o1, some (V.ref l2)] H8 (.tuple ((ds.take k ++ [d1]) ++ ds.drop (k + 1))) :=
      evd_rt b8 (ert_cat (ert_cat (sl1 hp8 rfl (ev_var rfl)) (ert_one (ev_var rfl)) (by rw [List.length_take]; show _ + 1 ≤ _; omega)) (sl2 hp8 rfl (k1E rfl) (by omega)) (by rw [List.length_append, List.length_take, List.length_drop]; show _ + 1 + _ ≤ _; omega)) (rds_app (rds_app (rds_take k rs8) (.cons r8 .nil)) (rds_drop (k + 1) rs8))
    refine ⟨_, rfl, evd_rep2 h6E H8 (Ex.refl _) _ fun p6 x6 H9 e9 hp6' r9 => ⟨l2, p6, fs, [x6, x6], rfl, rfl, e9 _ _ hl28, hp6', sz_of (by show fs.length + 2 ≤ _; omega), fun q1 hq1 => ?_⟩⟩
    have e10 : Ex H8 (L2.upd H9 q1 (.lst (fs ++ [x6, x6]))) := e9.trans (Ex.new hq1)
    have hq10 : (L2.upd H9 q1 (.lst (fs ++ [x6, x6]))) q1 = some (.lst (fs ++ [x6, x6])) := upd_same
    have r10 := RdN.mono (Ex.new (o := .lst (fs ++ [x6, x6])) hq1) r9
    generalize L2.upd H9 q1 (.lst (fs ++ [x6, x6])) = H10 at e10 hq10 r10
    have nq1 : q1 ≠ b := box_ne (b8.mono e9) hq1
    refine (sl1 (σ := [some (V.ref b), some (V.ref p), some (V.int (k : Int)), some (V.int (t : Int)), some o1, some (V.ref l2)]) (e10 _ _ hp8) rfl (ev_var rfl)) H10 (Ex.refl _) _ fun p7 H11 e11 hp7 => ?_
    have b11 := b8.mono (e10.trans e11)
    have hS11 := box_some b11
    refine t_ofD (i := 0) (n := n + 3) (ds := odd5) rfl (ead_cons (evd_of (x := .str "A9") ev_c fun _ _ => .str _) (ead_cons (evd_of (x := .str " ") ev_c fun _ _ => .str _) (ead_cons (evd_of (x := .str "1") ev_c fun _ _ => .str _) (ead_cons (evd_dict hS11) (ead_cons (evd_tup hS11 ead_nil (by decide)) ead_nil))))) b11 (by omega) (by decide) (by decide) fun o2 d2 H12 hd2 k12 b12 r12 => ⟨sz_of (by show 1 ≤ 100000; decide), fun p8 hp8' => ?_⟩
    have k812 : KeepB b H8 H12 := (KeepB.ex (e10.trans e11)).trans k12
    have hq12 : H12 q1 = some (.lst (fs ++ [x6, x6])) := k12 q1 _ nq1 (e11 _ _ hq10)
    have hp7n : p7 ≠ b := fun z => box_lst b11 hp7 z
    have e13 : Ex H12 (L2.upd H12 p8 (.tup [o2])) := Ex.new hp8'
    have key : ∀ px Hx l q2, Ex H12 Hx → Hx px = some (.tup (xs.take k ++ [o2])) → Hx l = none → (L2.upd Hx l (.lst [V.ref px])) q2 = none → ∃ v, (((fs ++ [x6, x6]) ++ [V.ref px]) : List V)[t]? = some v ∧ Q v (L2.upd (L2.upd Hx l (.lst [V.ref px])) q2 (.lst ((fs ++ [x6, x6]) ++ [V.ref px]))) := by
      intro px Hx l3 q2 ex hpx hl3 hq2
      have e2 : Ex Hx (L2.upd (L2.upd Hx l3 (.lst [V.ref px])) q2 (.lst ((fs ++ [x6, x6]) ++ [V.ref px]))) := (Ex.new hl3).trans (Ex.new hq2)
      generalize L2.upd (L2.upd Hx l3 (.lst [V.ref px])) q2 (.lst ((fs ++ [x6, x6]) ++ [V.ref px])) = Hf at e2
      have ef := ex.trans e2
      have kf : KeepB b H8 Hf := k812.trans (KeepB.ex ef)
      have bf := b12.mono ef
      have rall : RdNs Hf (SB b) ((fs ++ [x6, x6]) ++ [V.ref px]) (bents ds k d1 d2) := by
        have a1 : RdNs Hf (SB b) fs _ := RdNs.keep (b := b) (S := SB b) rfl kf rf8
        have a2 : RdN Hf (SB b) x6 _ := RdN.keep (b := b) (S := SB b) rfl ((KeepB.ex e11).trans (k12.trans (KeepB.ex ef))) r10
        have a3 : RdNs Hf (SB b) xs ds := RdNs.keep (b := b) (S := SB b) rfl kf rs8
        exact rds_app (rds_app a1 (.cons a2 (.cons a2 .nil))) (.cons (rdn_tup bf (e2 _ _ hpx) (rds_app (rds_take k a3) (.cons (r12.mono ef) .nil))) .nil)
      have la : ((fs ++ [x6, x6]) ++ [V.ref px]).length = 8 := by
        rw [List.length_append, List.length_append, lfs]
        rfl
      have t8 : t < ((fs ++ [x6, x6]) ++ [V.ref px]).length := by omega
      refine ⟨_, List.getElem?_eq_getElem t8, ?_⟩
      obtain ⟨d, hd, rd⟩ := RdDs.at_ rall (List.getElem?_eq_getElem t8)
      refine kQ _ d Hf (tidy_bents ht l5 kk (tidy16 _ (List.mem_of_getElem? hd1)) (tidy5 _ hd2) d (List.mem_of_getElem? hd)) (bent_ok ho' l5 kk (okt16 _ (List.mem_of_getElem? hd1)) (okt5 _ hd2) d (List.mem_of_getElem? hd)) ?_ (bf.le (by omega)) rd
      exact k16.trans ((KeepB.ex e8).trans kf)
    have lt : (xs.take k).length ≤ 5 := by rw [List.length_take]; omega
    refine ⟨p7, p8, xs.take k, [o2], rfl, rfl, st_of (e13 _ _ (k12 p7 _ hp7n hp7)), st_of upd_same, sz_of (by show _ + 1 ≤ _; omega), fun z => ?_, fun _ z => absurd z (by simp), fun _ _ p9 hp9 => ?_⟩
    · refine ⟨sz_of (by show 1 ≤ 100000; decide), fun l3 hl3 => ⟨q1, l3, fs ++ [x6, x6], [V.ref p8], rfl, rfl, (e13.trans (Ex.new hl3)) _ _ hq12, upd_same, sz_of (by rw [List.length_append, lfs]; show 5 + 2 + 1 ≤ 100000; decide), fun q2 hq2 => ?_⟩⟩
      obtain ⟨v, hv, hQ⟩ := key p8 _ l3 q2 e13 (by rw [upd_same, z]; rfl) hl3 hq2
      exact ⟨_, rfl, _, rfl, q2, _, (t : Int), v, rfl, rfl, sq_of upd_same, atI_nat hv, hQ⟩
    · have e14 := e13.trans (Ex.new (o := .tup (xs.take k ++ [o2])) hp9)
      refine ⟨sz_of (by show 1 ≤ 100000; decide), fun l3 hl3 => ⟨q1, l3, fs ++ [x6, x6], [V.ref p9], rfl, rfl, (e14.trans (Ex.new hl3)) _ _ hq12, upd_same, sz_of (by rw [List.length_append, lfs]; show 5 + 2 + 1 ≤ 100000; decide), fun q2 hq2 => ?_⟩⟩
      obtain ⟨v, hv, hQ⟩ := key p9 _ l3 q2 e14 upd_same hl3 hq2
      exact ⟨_, rfl, _, rfl, q2, _, (t : Int), v, rfl, rfl, sq_of upd_same, atI_nat hv, hQ⟩
end
end HF
set_option maxRecDepth 100000
set_option maxHeartbeats 2000000
namespace HF
open PySem PySem.Spec PyProof.Rows L2 Evl
open PySem.W (EachIs)
/-! ### the menus -/
def namesM : List Str := ["a", "z9", "abcdef", "q00000", "at", "end"]
def wordsM : List Str := ["A", "ZZZZZZ", "NONE", "BAD", "ON"]
def numM : List Str := ["num"]
def menuD (c : Str) : List PyData := if c = "u" then namesM.map .str else if c = "x" then (namesM ++ placesS).map .str else if c = "l" then [.int 1, .int 2, .int 10, .int 999999999] else if c = "w" then wordsM.map .str else (wordsM ++ numM).map .str
def dV : PyData → V
  | .int i => .int i
  | .str s => .str s
  | _ => .non
def menuV (c : Str) : List V := (menuD c).map dV
theorem menu_u : menuV "u" = strsV namesM := rfl
theorem menu_x : menuV "x" = strsV (namesM ++ placesS) := rfl
theorem menu_l : menuV "l" = [.int 1, .int 2, .int 10, .int 999999999] := rfl
theorem menu_w : menuV "w" = strsV wordsM := rfl
theorem menu_v : menuV "v" = strsV (wordsM ++ numM) := rfl
def PairL (H : Hp) (p : Addr) (x : Str × List V) : Prop := ∃ r, H p = some (.tup [.str x.1, .ref r]) ∧ H r = some (.lst x.2)
def EvPLs (ta : TA) (σ : L2.St) (H : Hp) (xs : List (Str × List V)) : Prop := ∀ H1, Ex H H1 → ∀ Q : List V → Hp → Prop, (∀ ps H2, Ex H1 H2 → EachIs (PairL H2) ps xs → Q (refsV ps) H2) → ta σ H1 Q
section
variable {K : PySem.W.Frag} {σ : L2.St} {H : Hp} {te tv : TE} {ta : TA}
theorem PairL.mono {H H' : Hp} (e : Ex H H') {p : Addr} {x : Str × List V} (h : PairL H p x) : PairL H' p x := by
  obtain ⟨r, h1, h2⟩ := h
  exact ⟨r, e _ _ h1, e _ _ h2⟩
theorem epl_nil : EvPLs tNil σ H [] := fun H1 _ Q q => q [] H1 (Ex.refl _) .nil
theorem epl_cons {k : Str} {vs : List V} {xs : List (Str × List V)} (h : EvR tv σ H vs) (t : EvPLs ta σ H xs) : EvPLs (tCons (tTup (tCons (tC (.str k)) (tCons tv tNil))) ta) σ H ((k, vs) :: xs) := fun H1 e Q q =>
  h H1 e _ fun r H2 e2 hr => ⟨sz_of (by show 2 ≤ 100000; decide), fun p hp => by
    have e3 := e2.trans (Ex.new (o := .tup [.str k, .ref r]) hp)
    exact t _ (e.trans e3) _ fun ps H3 e4 h3 => q (p :: ps) H3 (e3.trans e4) (.cons ⟨r, e4 _ _ upd_same, e4 _ _ ((Ex.new hp) _ _ hr)⟩ h3)⟩
theorem q_dictP {D : Ends} {tz : TS} {i : Nat} {xs : List (Str × List V)} (h : EvPLs ta σ H xs) (hz : xs.length ≤ 1000) (k : ∀ ps H1, Ex H H1 → EachIs (PairL H1) ps xs → ∀ l, H1 l = none → rDictP K [.ref l] (L2.upd H1 l (.lst (refsV ps))) (fun v H2 => tz D (σ.set i (some v)) H2)) :
    tSeq (tAsg (tCB (rDictP K) (tCons (tLst ta) tNil)) (gName i)) tz D σ H := by
  have h' := h H (Ex.refl _) (fun vs H1 => vs.length ≤ sizeLine ∧ ∀ l, H1 l = none → rDictP K [.ref l] (L2.upd H1 l (.lst vs)) (fun v H2 => tz D (σ.set i (some v)) H2)) fun ps H1 e hp => ⟨sz_of (by unfold refsV; rw [List.length_map, each_len hp]; omega), fun l hl => k ps H1 e hp l hl⟩
  exact h'
end
def kvM (r1 r2 r3 r4 : Addr) : List (Key × V) := [(Sum.inr "u", .ref r1), (Sum.inr "x", .ref r2), (Sum.inr "l", .ref r3), (Sum.inr "w", .ref r4)]
def spMenu : Sp := fun vs H Q _ => ∃ c : Str, vs = [.str c] ∧ c ∈ sorts5 ∧ ∀ p H', Ex H H' → H' p = some (.lst (menuV c)) → Q (.ref p) H'
section
variable {P : Program} {w : World} {K : PySem.W.Frag} {mg : Str → Option Value} {base : Heap}
theorem sc_menu : FnScope ["_law_sort", "_law_names", "_law_words", "_law_menus"] ["_law_sort"] (defScope s_law_menu) := ⟨rfl, rfl, rfl, by decide +kernel, rfl, by decide +kernel, by decide +kernel⟩
theorem h_menu (TL : TxL77 K mg) : Has P w K mg base CX0 1 "_law_menu" ["_law_sort"] spMenu := by
  obtain ⟨f, fd, a, F⟩ := TL.menu.ex
  refine ⟨f, fd, a, F.kp, F.binds fun _ _ _ _ _ _ us hl => match us, hl with | [_], _ => rfl, ?_⟩
  refine F.ok sc_menu (fun vs H Q E h => ?_) (fun cdv A outer s H vs Q E hr h => ?_)
  · obtain ⟨c, rfl, _⟩ := h
    rfl
  · obtain ⟨c, rfl, hc, kQ⟩ := h
    refine ⟨_, pss_cons (ps_set (i := 1) sc_menu.nd rfl (Or.inl rfl) (pe_lst (pa_cons pe_str (pa_cons pe_str (pa_cons pe_str (pa_cons pe_str (pa_cons pe_str (pa_cons pe_str pa_nil))))))))
      (pss_cons (ps_set (i := 2) sc_menu.nd rfl (Or.inl rfl) (pe_lst (pa_cons pe_str (pa_cons pe_str (pa_cons pe_str (pa_cons pe_str (pa_cons pe_str pa_nil)))))))
      (pss_cons (ps_set (i := 3) sc_menu.nd rfl (Or.inl rfl) (pe_callTy (call_dictR rfl) (by rfl) TL.dict (by decide +kernel) (pa_cons (pe_lst (pa_cons (pe_tup (pa_cons pe_str (pa_cons (pv 1) pa_nil)))
          (pa_cons (pe_tup (pa_cons pe_str (pa_cons (pe_op op_cat (pv 1) (pe_lst (pa_cons pe_str (pa_cons pe_str (pa_cons pe_str pa_nil))))) pa_nil)))
          (pa_cons (pe_tup (pa_cons pe_str (pa_cons (pe_lst (pa_cons pe_int (pa_cons pe_int (pa_cons pe_int (pa_cons pe_int pa_nil))))) pa_nil)))
          (pa_cons (pe_tup (pa_cons pe_str (pa_cons (pv 2) pa_nil))) pa_nil))))) pa_nil)))
      (pss_one (ps_ret (pe_ifExp (pt_cmpR op_ne (pv 0) pe_str (nomark _)) (pe_dget hr.u1 (pv 3) (pv 0) (fun _ _ => rfl)) (pe_op op_cat (pv 2) (pe_lst (pa_cons pe_str pa_nil)))))))), ?_⟩
    refine q_asgL (xs := strsV namesM) (el_lst (ea_cons ev_c (ea_cons ev_c (ea_cons ev_c (ea_cons ev_c (ea_cons ev_c (ea_cons ev_c ea_nil)))))) (by show 6 ≤ 100000; decide)) fun p1 H1 hp1 e1 h1 => ?_
    refine q_asgL (xs := strsV wordsM) (el_lst (ea_cons ev_c (ea_cons ev_c (ea_cons ev_c (ea_cons ev_c (ea_cons ev_c ea_nil))))) (by show 5 ≤ 100000; decide)) fun p2 H2 hp2 e2 h2 => ?_
    have h12 := e2 _ _ h1
    have hPL : EvPLs (tCons (tTup (tCons (tC (.str "u")) (tCons (tVar 1) tNil))) (tCons (tTup (tCons (tC (.str "x")) (tCons (tOp rCat (tVar 1) (tLst (tCons (tC (.str "0")) (tCons (tC (.str "1")) (tCons (tC (.str "2")) tNil))))) tNil))) (tCons (tTup (tCons (tC (.str "l")) (tCons (tLst (tCons (tC (.int 1)) (tCons (tC (.int 2)) (tCons (tC (.int 10)) (tCons (tC (.int 999999999)) tNil))))) tNil))) (tCons (tTup (tCons (tC (.str "w")) (tCons (tVar 2) tNil))) tNil))))
        [some (V.str c), some (V.ref p1), some (V.ref p2), none] H2 [("u", menuV "u"), ("x", menuV "x"), ("l", menuV "l"), ("w", menuV "w")] := by
      rw [menu_u, menu_x, menu_l, menu_w]
      refine epl_cons (er_v rfl h12) (epl_cons (er_l ?_) (epl_cons (er_l (el_lst (ea_cons ev_c (ea_cons ev_c (ea_cons ev_c (ea_cons ev_c ea_nil)))) (by show 4 ≤ 100000; decide))) (epl_cons (er_v rfl h2) epl_nil)))
      have := el_cat (er_v (i := 1) (σ := [some (V.str c), some (V.ref p1), some (V.ref p2), none]) rfl h12) (er_l (el_lst (vs := [.str "0", .str "1", .str "2"]) (ea_cons ev_c (ea_cons ev_c (ea_cons ev_c ea_nil))) (by show 3 ≤ 100000; decide))) (by show 6 + 3 ≤ 100000; decide)
      exact this
    refine q_dictP hPL (by decide) fun ps H3 e3 h3 l hl => ?_
    cases h3 with
    | cons a3 t3 =>
    cases t3 with
    | cons b3 t3 =>
    cases t3 with
    | cons c3 t3 =>
    cases t3 with
    | cons d3 t3 =>
    cases t3
    rename_i q1 q2 q3 q4
    have e4 : Ex H3 (L2.upd H3 l (.lst (refsV [q1, q2, q3, q4]))) := Ex.new hl
    obtain ⟨r1, a1, a2⟩ := a3.mono e4
    obtain ⟨r2, b1, b2⟩ := b3.mono e4
    obtain ⟨r3, c1, c2⟩ := c3.mono e4
    obtain ⟨r4, d1, d2⟩ := d3.mono e4
    refine ⟨l, [q1, q2, q3, q4], (kvM r1 r2 r3 r4), rfl, sq_of upd_same, .cons (st_of a1) (.cons (st_of b1) (.cons (st_of c1) (.cons (st_of d1) .nil))), fun pd hpd => ?_⟩
    have hmk : mergeK [] (kvM r1 r2 r3 r4) = (kvM r1 r2 r3 r4) := by rfl
    rw [hmk]
    have e5 : Ex H3 (L2.upd (L2.upd H3 l (.lst (refsV [q1, q2, q3, q4]))) pd (.dK (kvM r1 r2 r3 r4))) := e4.trans (Ex.new hpd)
    have hD : (L2.upd (L2.upd H3 l (.lst (refsV [q1, q2, q3, q4]))) pd (.dK (kvM r1 r2 r3 r4))) pd = some (.dK (kvM r1 r2 r3 r4)) := upd_same
    have m1 := (Ex.new (o := .dK (kvM r1 r2 r3 r4)) hpd) _ _ a2
    have m2 := (Ex.new (o := .dK (kvM r1 r2 r3 r4)) hpd) _ _ b2
    have m3 := (Ex.new (o := .dK (kvM r1 r2 r3 r4)) hpd) _ _ c2
    have m4 := (Ex.new (o := .dK (kvM r1 r2 r3 r4)) hpd) _ _ d2
    generalize L2.upd (L2.upd H3 l (.lst (refsV [q1, q2, q3, q4]))) pd (.dK (kvM r1 r2 r3 r4)) = H6 at e5 hD m1 m2 m3 m4
    have h26 := e5 _ _ (e3 _ _ h2)
    have eH := e1.trans (e2.trans (e3.trans e5))
    have got : ∀ {r : Addr}, valV (kvM r1 r2 r3 r4) (Sum.inr c) = some (.ref r) → H6 r = some (.lst (menuV c)) → ¬c = "v" → tRet (tIf (tTest (tOp rNe (tVar 0) (tC (.str "v")))) (tDGet (tVar 3) (tVar 0)) (tOp rCat (tVar 2) (tLst (tCons (tC (.str "num")) tNil)))) { nx := fun _ H' => Q .non H', rt := Q } [some (V.str c), some (V.ref p1), some (V.ref p2), some (V.ref pd)] H6 := fun {r} hv hm ne => by
      refine (et_test (ev_neS (ev_var rfl) ev_c)) H6 (Ex.refl _) _ fun H7 e7 => ?_
      rw [decide_eq_false ne]
      refine Eq.mpr (if_pos rfl) ?_
      exact (ev_dget (ev_var rfl) (e7 _ _ hD) (ev_var rfl) hv) H7 (Ex.refl _) _ fun H8 e8 => kQ r H8 (eH.trans (e7.trans e8)) ((e7.trans e8) _ _ hm)
    unfold sorts5 at hc
    simp only [List.mem_cons, List.not_mem_nil, or_false] at hc
    rcases hc with rfl | rfl | rfl | rfl | rfl
    · exact got (by rfl) m1 (by decide +kernel)
    · exact got (by rfl) m2 (by decide +kernel)
    · exact got (by rfl) m3 (by decide +kernel)
    · exact got (by rfl) m4 (by decide +kernel)
    · refine (et_test (ev_neS (ev_var rfl) ev_c)) H6 (Ex.refl _) _ fun H7 e7 => ?_
      rw [decide_eq_true rfl]
      refine Eq.mpr (if_neg Bool.false_ne_true) ?_
      have := el_cat (er_v (i := 2) (σ := [some (V.str "v"), some (V.ref p1), some (V.ref p2), some (V.ref pd)]) rfl (e7 _ _ h26)) (er_l (el_lst (vs := [.str "num"]) (ea_cons ev_c ea_nil) (by show 1 ≤ 100000; decide))) (by show 5 + 1 ≤ 100000; decide)
      exact this H7 (Ex.refl _) _ fun r H8 _ e8 h8 => kQ r H8 (eH.trans (e7.trans e8)) h8
end
end HF
set_option maxRecDepth 100000
set_option maxHeartbeats 2000000
namespace HF
open PySem L2 Evl
/-! ### a text bent -/
theorem okT_cut {n : Nat} {t : Str} {lo hi : Option Int} (h : OkT n t) : OkT n (cutS t lo hi) := by
  have hl : (cutS t lo hi).cps.toList = (t.cps.toList.drop (HT.sIx t.cps.size 0 lo)).take (HT.sIx t.cps.size t.cps.size hi - HT.sIx t.cps.size 0 lo) := by
    unfold cutS
    rfl
  refine ⟨?_, fun c hc => ?_⟩
  · have h2 : (cutS t lo hi).length = (cutS t lo hi).cps.toList.length := by rw [Array.length_toList]; rfl
    have h3 : t.length = t.cps.toList.length := by rw [Array.length_toList]; rfl
    have := h.len
    rw [h2, hl, List.length_take, List.length_drop]
    omega
  · rw [hl] at hc
    exact h.low c (List.mem_of_mem_drop (List.mem_of_mem_take hc))
theorem okT_app {m n : Nat} {s t : Str} (h : OkT m s) (h' : OkT n t) : OkT (m + n) (s ++ t) := by
  refine ⟨?_, fun c hc => ?_⟩
  · have : (s ++ t).length = s.length + t.length := by
      show (s ++ t).cps.size = s.cps.size + t.cps.size
      rw [Str.cps_append, Array.size_append]
    have := h.len
    have := h'.len
    omega
  · rw [Str.cps_append, Array.toList_append] at hc
    exact (List.mem_append.mp hc).elim (h.low c) (h'.low c)
theorem OkT.le {m n : Nat} {t : Str} (h : OkT m t) (e : m ≤ n) : OkT n t := ⟨Nat.le_trans h.len e, h.low⟩
theorem okT_tidy {n : Nat} {t : Str} (h : OkT n t) (e : n ≤ 440) : Tidy 440 (.str t) := by
  refine ⟨rfl, by rw [PyData.depth]; omega, by rw [PyData.weight]; exact Nat.le_trans h.len e, ?_⟩
  rw [PyData.leavesShort, List.all_eq_true]
  intro c hc
  have := h.low c hc
  rw [decide_eq_true_eq]
  have e16 : (16 : Nat) ^ 8 = 4294967296 := by decide
  omega
def signsB : List Str := [" ", "0", "1", "a", "A", "\n", "-", "num", "", "holds "]
theorem signs_ok : ∀ t ∈ signsB, okTB 6 t = true := by decide +kernel
def spBT : Sp := fun vs H Q _ => ∃ (b : Addr) (n : Nat) (t : Str), vs = [.ref b, .str t] ∧ BoxAt H b n ∧ n ≤ 900000 ∧ OkT 100 t ∧ ∀ u H', OkT 300 u → KeepB b H H' → BoxAt H' b (n + 3) → Q (.str u) H'
section
variable {P : Program} {w : World} {K : PySem.W.Frag} {mg : Str → Option Value} {base : Heap}
theorem sc_bentT : FnScope ["_law_box_here", "_law_page", "_law_at", "_law_turn", "_law_sign", "_law_some"] ["_law_box_here", "_law_page"] (defScope s_law_bent_text) := ⟨rfl, rfl, rfl, by decide +kernel, rfl, by decide +kernel, by decide +kernel⟩
theorem h_bentT (T : TxForms K mg) (TW : TxLaw K mg) (TL : TxL77 K mg) : Has P w K mg base CX0 3 "_law_bent_text" ["_law_box_here", "_law_page"] spBT := by
  obtain ⟨f, fd, a, F⟩ := TL.bentT.ex
  have HT : Has P w K mg base CX0 1 "_law_take" ["_law_box_here", "_law_many"] spTake := h_take TW
  have HO : Has P w K mg base CX0 2 "_law_of" ["_law_box_here", "_law_some"] spOf := h_of T TW
  refine ⟨f, fd, a, F.kp, F.binds fun _ _ _ _ _ _ us hl => match us, hl with | [_, _], _ => rfl, ?_⟩
  refine F.ok sc_bentT (fun vs H Q E h => ?_) (fun cdv A outer s H vs Q E hr h => ?_)
  · obtain ⟨b, n, t, rfl, _⟩ := h
    rfl
  · obtain ⟨b, n, t, rfl, hb, hn, ht, kQ⟩ := h
    have hr1 := hr.mono (show 1 ≤ _ by decide)
    refine ⟨_, pss_cons (ps_par (by rfl) sc_bentT.nd (i := 2) (j := 3) rfl rfl (by decide) rfl rfl (pa_cons (pe_h HT hr1 (pa_cons (pv 0) (pa_cons (pe_op op_add (pe_callB call_lenStr (by rfl) T.len PySem.boot_len (pa_cons (pv 1) pa_nil)) pe_int) pa_nil))) (pa_cons (pe_h HT hr1 (pa_cons (pv 0) (pa_cons pe_int pa_nil))) pa_nil)) (by rfl))
      (pss_cons (ps_set (i := 4) sc_bentT.nd rfl (Or.inl rfl) (pe_h HO hr (pa_cons (pv 0) (pa_cons (pe_lst (pa_cons pe_str (pa_cons pe_str (pa_cons pe_str (pa_cons pe_str (pa_cons pe_str (pa_cons pe_str (pa_cons pe_str (pa_cons pe_str (pa_cons pe_str (pa_cons pe_str pa_nil))))))))))) pa_nil))))
      (pss_cons (ps_set (i := 5) sc_bentT.nd rfl (Or.inl rfl) (pe_lst (pa_cons (pe_op op_addS1 (pe_op op_addS1 (pe_slice sl_str (pv 1) po_none (po_some (pv 2))) (pv 4)) (pe_slice sl_str (pv 1) (po_some (pv 2)) po_none))
          (pa_cons (pe_op op_addS1 (pe_op op_addS1 (pe_slice sl_str (pv 1) po_none (po_some (pv 2))) (pv 4)) (pe_slice sl_str (pv 1) (po_some (pe_op op_add (pv 2) pe_int)) po_none))
          (pa_cons (pe_op op_addS1 (pe_slice sl_str (pv 1) po_none (po_some (pv 2))) (pe_slice sl_str (pv 1) (po_some (pe_op op_add (pv 2) pe_int)) po_none)) pa_nil)))))
      (pss_one (ps_ret (pe_ix ix_list (pe_op op_cat (pv 5) (pe_lst (pa_cons (pe_op op_addS1 (pe_op op_addS1 (pv 1) pe_str) (pv 4)) pa_nil))) (pv 3) (fun _ _ => rfl)))))), ?_⟩
    have tl := ht.len
    refine ⟨_, rfl, (ev_op (ev_lenS (z := t) (ev_var rfl) (by omega)) ev_c rv_I0) H (Ex.refl _) _ fun H1 e1 => ⟨b, (t.length : Int) + 1, n, rfl, hb.mono e1, by omega, by omega, by omega, fun k H2 hk k2 b2 => ⟨_, rfl, b, 4, n + 1, rfl, b2, by omega, by decide, by decide, fun u H3 hu k3 b3 => ⟨_, _, rfl, ?_⟩⟩⟩⟩
    have k13 : KeepB b H H3 := (KeepB.ex e1).trans (k2.trans k3)
    refine t_of (xs := strsV signsB) rfl (el_lst (ea_cons ev_c (ea_cons ev_c (ea_cons ev_c (ea_cons ev_c (ea_cons ev_c (ea_cons ev_c (ea_cons ev_c (ea_cons ev_c (ea_cons ev_c (ea_cons ev_c ea_nil)))))))))) (by show 10 ≤ 100000; decide)) b3 (by omega) (by decide) (by decide) fun x H4 hx k4 b4 => ?_
    obtain ⟨g, hg, rfl⟩ : ∃ g, g ∈ signsB ∧ x = .str g := by
      unfold strsV at hx
      obtain ⟨g, hg, e⟩ := List.mem_map.mp hx
      exact ⟨g, hg, e.symm⟩
    have og := okTB_of (signs_ok g hg)
    have gl := og.len
    have k14 := k13.trans k4
    dsimp only [gName]
    have s1 : ∀ {H' : Hp} {σ : L2.St}, σ[1]? = some (some (V.str t)) → σ[2]? = some (some (V.int (k : Int))) → Ev (tSl rSlS (tVar 1) tNoPart (tPart (tVar 2))) σ H' (.str (cutS t none (some (k : Int)))) := fun h1 h2 => ev_slS (ev_var h1) eo_none (eo_some (ev_var h2)) (by omega)
    have s2 : ∀ {H' : Hp} {σ : L2.St}, σ[1]? = some (some (V.str t)) → σ[2]? = some (some (V.int (k : Int))) → Ev (tSl rSlS (tVar 1) (tPart (tVar 2)) tNoPart) σ H' (.str (cutS t (some (k : Int)) none)) := fun h1 h2 => ev_slS (ev_var h1) (eo_some (ev_var h2)) eo_none (by omega)
    have s3 : ∀ {H' : Hp} {σ : L2.St}, σ[1]? = some (some (V.str t)) → σ[2]? = some (some (V.int (k : Int))) → Ev (tSl rSlS (tVar 1) (tPart (tOp (rI0 fun i j => .int (i + j)) (tVar 2) (tC (.int 1)))) tNoPart) σ H' (.str (cutS t (some ((k : Int) + 1)) none)) := fun h1 h2 => ev_slS (ev_var h1) (eo_some (ev_op (ev_var h2) ev_c rv_I0)) eo_none (by omega)
    have c1 : OkT 100 (cutS t none (some (k : Int))) := okT_cut ht
    have c2 : OkT 100 (cutS t (some (k : Int)) none) := okT_cut ht
    have c3 : OkT 100 (cutS t (some ((k : Int) + 1)) none) := okT_cut ht
    have a1 := c1.len
    have a2 := c2.len
    have a3 := c3.len
    have d1 := okT_app c1 og
    have d1l := d1.len
    have sl1 : (" " : Str).length = 1 := by decide +kernel
    refine q_asgL (xs := strsV [cutS t none (some (k : Int)) ++ g ++ cutS t (some (k : Int)) none, cutS t none (some (k : Int)) ++ g ++ cutS t (some ((k : Int) + 1)) none, cutS t none (some (k : Int)) ++ cutS t (some ((k : Int) + 1)) none]) (el_lst (ea_cons (ev_op (ev_op (s1 rfl rfl) (ev_var rfl) (rv_addS (by omega))) (s2 rfl rfl) (rv_addS (by omega))) (ea_cons (ev_op (ev_op (s1 rfl rfl) (ev_var rfl) (rv_addS (by omega))) (s3 rfl rfl) (rv_addS (by omega))) (ea_cons (ev_op (s1 rfl rfl) (s3 rfl rfl) (rv_addS (by omega))) ea_nil))) (by show 3 ≤ 100000; decide)) fun l H5 hl e5 h5 => ?_
    have d4 := okT_app ht (okTB_of (n := 1) (t := " ") (by decide +kernel))
    have d4l := d4.len
    have hcat := el_cat (er_v (i := 5) (σ := [some (V.ref b), some (V.str t), some (V.int (k : Int)), some (V.int (u : Int)), some (V.str g), some (V.ref l)]) rfl h5) (er_l (te := tLst (tCons (tOp rAddS (tOp rAddS (tVar 1) (tC (.str " "))) (tVar 4)) tNil)) (xs := strsV [t ++ " " ++ g]) (el_lst (ea_cons (ev_op (ev_op (ev_var rfl) ev_c (rv_addS (by omega))) (ev_var rfl) (rv_addS (by omega))) ea_nil) (by show 1 ≤ 100000; decide))) (by show 3 + 1 ≤ 100000; decide)
    refine hcat H5 (Ex.refl _) _ fun l2 H6 _ e6 h6 => ?_
    have hok : ∀ x ∈ [cutS t none (some (k : Int)) ++ g ++ cutS t (some (k : Int)) none, cutS t none (some (k : Int)) ++ g ++ cutS t (some ((k : Int) + 1)) none, cutS t none (some (k : Int)) ++ cutS t (some ((k : Int) + 1)) none, t ++ " " ++ g], OkT 300 x := fun x hx => by
      simp only [List.mem_cons, List.not_mem_nil, or_false] at hx
      rcases hx with rfl | rfl | rfl | rfl
      · exact (okT_app d1 c2).le (by decide)
      · exact (okT_app d1 c3).le (by decide)
      · exact (okT_app c1 c3).le (by decide)
      · exact (okT_app d4 og).le (by decide)
    have u4 : u < 4 := by omega
    have hcase : ∀ (u : Nat), u < 4 → ∃ x, (strsV [cutS t none (some (k : Int)) ++ g ++ cutS t (some (k : Int)) none, cutS t none (some (k : Int)) ++ g ++ cutS t (some ((k : Int) + 1)) none, cutS t none (some (k : Int)) ++ cutS t (some ((k : Int) + 1)) none] ++ strsV [t ++ " " ++ g])[u]? = some (.str x) ∧ OkT 300 x := fun u hu => by
      match u, hu with
      | 0, _ => exact ⟨_, rfl, hok _ (by simp)⟩
      | 1, _ => exact ⟨_, rfl, hok _ (by simp)⟩
      | 2, _ => exact ⟨_, rfl, hok _ (by simp)⟩
      | 3, _ => exact ⟨_, rfl, hok _ (by simp)⟩
    obtain ⟨x, hx, ox⟩ := hcase u u4
    exact ⟨_, rfl, l2, _, (u : Int), .str x, rfl, rfl, sq_of h6, atI_nat hx, kQ x H6 ox (k14.trans (KeepB.ex (e5.trans e6))) (b4.mono (e5.trans e6))⟩
end
end HF
set_option maxRecDepth 100000
set_option maxHeartbeats 2000000
namespace HF
open PySem PySem.Spec PyProof.Rows L2 Evl
open LamX (CodeO TabS ExtN TabB)
/-! ### what is heard of a call -/
structure TxH77 (K : PySem.W.Frag) (mg : Str → Option Value) (CH CF CT : Addr) : Prop where
  hung : mg "HungError" = some (.ref CH)
  verr : mg "ValueError" = none
  exF : PySem.W.exmOne K (.ref CF) (.ref CH) = some true
  exT : PySem.W.exmOne K (.ref CT) (.ref CH) = some true
  ecF : ExcC K CF
  ecT : ExcC K CT
  xfF : XfC K CF
  xfT : XfC K CT
  kFF : PySem.W.kitOne K (.ref CF) (.ref CF) = some true
  kFT : PySem.W.kitOne K (.ref CF) (.ref CT) = some false
  kTF : PySem.W.kitOne K (.ref CT) (.ref CF) = some false
  kTT : PySem.W.kitOne K (.ref CT) (.ref CT) = some true
  kTV : PySem.W.kitOne K (.ref CT) (.type "ValueError") = some true
def spHeard77 (CF CT : Addr) (L : Lam) (q : Str) (sp : Sp) : Sp := fun vs H Q _ => ∃ (f c : Addr) (v : V) (TQ : V → Hp → Prop) (TE : Value → Addr → Hp → Prop), vs = [.ref f, v] ∧ H f = some (lamO q L c f) ∧ H c = some (CodeO c q) ∧
  (∀ H1, Ex H H1 → ∀ (Q' : VK) (E' : XK), (∀ x H2, TQ x H2 → Q' x H2) → (∀ cls dd H2, TE cls dd H2 → E' cls (some dd) H2) → sp [v] H1 Q' E') ∧
  (∀ x H2, TQ x H2 → ∀ p H3, Ex H2 H3 → H3 p = some (.tup [.str "told", x]) → Q (.ref p) H3) ∧
  ∀ cls dd H2, TE cls dd H2 → (cls = .ref CF ∧ ∃ u, H2 dd = some (.xd [("value", u)]) ∧ ∀ p H3, Ex H2 H3 → H3 p = some (.tup [.str "fact", u]) → Q (.ref p) H3) ∨
    (cls = .ref CT ∧ ∃ m : Int, H2 dd = some (.xd [("line", .int m)]) ∧ ∀ p H3, Ex H2 H3 → H3 p = some (.tup [.str "text", .int m]) → Q (.ref p) H3)
section
variable {K : PySem.W.Frag} {σ : L2.St} {H : Hp} {te : TE}
theorem ev_isK7 {a D dd : Addr} {fs : List (Str × V)} {c : V} {cv : Value} {b : Bool} (h : Ev te σ H (.ref a)) (h1 : H a = some (ExK (.ref D) (some dd) a)) (h2 : H dd = some (.xd fs)) (C : ExcC K D) (hc : ∀ u, RelV c u → u = cv) (k : PySem.W.kitOne K (.ref D) cv = some b) :
    Ev (tCB (rIsK2 K) (tCons te (tCons (tC c) tNil))) σ H (.bl b) := fun H1 e Q q => h H1 e _ fun H2 e2 => ⟨a, D, dd, fs, c, cv, b, rfl, (e.trans e2) _ _ h1, (e.trans e2) _ _ h2, C, hc, k, q H2 e2⟩
theorem ev_xk7 {a C dd : Addr} {fs : List (Str × V)} {f : Str} {v : V} (h : Ev te σ H (.ref a)) (h1 : H a = some (ExK (.ref C) (some dd) a)) (h2 : H dd = some (.xd fs)) (l : fs.lookup f = some v) : Ev (tXk C f te) σ H v := fun H1 e Q q => h H1 e _ fun H2 e2 => ⟨a, dd, fs, v, rfl, (e.trans e2) _ _ h1, (e.trans e2) _ _ h2, l, q H2 e2⟩
theorem rel_ref7 {c : Addr} : ∀ u, RelV (.ref c) u → u = Value.ref c := fun _ h => h
theorem rel_ty7 {t : String} : ∀ u, RelV (.ty t) u → u = Value.type t := fun _ h => h
theorem q_pairN {D : Ends} {tz : TS} {i j n : Nat} {v w : V} (hn : n = 2) (h : EvU te σ H [v, w]) (k : ∀ H1, Ex H H1 → tz D ((σ.set i (some v)).set j (some w)) H1) : tSeq (tAsg te (gTup K n (gCons (gName i) (gCons (gName j) gNil)))) tz D σ H := by
  subst hn
  exact h H (Ex.refl H) _ fun p H1 _ e1 h1 => ⟨p, _, rfl, st_of h1, rfl, _, _, rfl, _, _, rfl, rfl, k H1 e1⟩
end
section
variable {P : Program} {w : World} {K : PySem.W.Frag} {mg : Str → Option Value} {base : Heap} {CH CF CT : Addr}
theorem sc_heard7 : FnScope ["_law_call", "_law_thing", "_law_caught", "_law_told", "error"] ["_law_call", "_law_thing"] (defScope s_law_heard) := ⟨rfl, rfl, rfl, by decide +kernel, rfl, by decide +kernel, by decide +kernel⟩
theorem h_heard7 (TF : TxFact K w mg) (TE : TxErF K mg CF CT) (TH : TxH77 K mg CH CF CT) (TL : TxL77 K mg) {L : Lam} {q : Str} {sp : Sp} (LO : LamOk P w K mg base 6 L q sp) : Has P w K mg base CX0 8 "_law_heard" ["_law_call", "_law_thing"] (spHeard77 CF CT L q sp) := by
  obtain ⟨f, fd, a, F⟩ := TL.heard.ex
  refine ⟨f, fd, a, F.kp, F.binds fun _ _ _ _ _ _ us hl => match us, hl with | [_, _], _ => rfl, ?_⟩
  refine F.ok sc_heard7 (fun vs H Q E h => ?_) (fun cdv A outer s H vs Q E hr h => ?_)
  · obtain ⟨f, c, v, TQ, TE', rfl, _⟩ := h
    rfl
  · obtain ⟨f, c, v, TQ, TE', rfl, hf, hc, hsp, hT, hE⟩ := h
    refine ⟨_, pss_cons (ps_asg (pe_tup (pa_cons pe_non (pa_cons pe_non pa_nil))) (pg_tup rfl (pgs_cons (pg_name (i := 2) sc_heard7.nd rfl (Or.inl rfl)) (pgs_cons (pg_name (i := 3) sc_heard7.nd rfl (Or.inl rfl)) pgs_nil))))
      (pss_cut (ps_try_hold (i := 4) (c := .ref CH) rfl rfl rfl sc_heard7.nd rfl rfl ⟨rfl, by decide, .inl TH.hung⟩ (fun W pn ye tk _ => pss_one (ps_set (i := 3) sc_heard7.nd rfl (Or.inl rfl) (pe_lamC (i := 0) (k := 6) LO hr rfl (Or.inl rfl) (fun σ => passAt tk σ) (pv 1)))) (fun a oe cls d pn hz hf => pss_one (ps_set (i := 2) sc_heard7.nd rfl (Or.inl rfl) (pv 4))))
      (pss_cons (ps_if (pt_cmpR op_isN (pv 2) pe_non (nomark _)) (pss_one (ps_ret (pe_tup (pa_cons pe_str (pa_cons (pv 3) pa_nil))))) pss_nil)
      (pss_cons (ps_if (PW.pt (pw_and (pt_val (pe_callB (r := rIsK2 K) call_isK (by rfl) TF.isi boot_isi (pa_cons (pv 2) (pa_cons (pe_glob (v := .ref CF) (by rfl) TE.f.mg_ rfl) pa_nil))))
          (pw_and1 (pt_not (pt_val (pe_callB (r := rIsK2 K) call_isK (by rfl) TF.isi boot_isi (pa_cons (pv 2) (pa_cons (pe_glob (v := .ref CT) (by rfl) TE.t.mg_ rfl) pa_nil))))))))
          (pss_one (ps_ret (pe_tup (pa_cons pe_str (pa_cons (pe_xk TH.xfF TE.f.no (pv 2)) pa_nil))))) pss_nil)
      (pss_one (ps_ret (pe_ifExp (PW.pt (pw_and (pt_val (pe_callB (r := rIsK2 K) call_isK (by rfl) TF.isi boot_isi (pa_cons (pv 2) (pa_cons (pe_glob (v := .ref CT) (by rfl) TE.t.mg_ rfl) pa_nil))))
          (pw_and1 (pt_val (pe_callB (r := rIsK2 K) call_isK (by rfl) TF.isi boot_isi (pa_cons (pv 2) (pa_cons (pe_bltn (v := .ty "ValueError") (by rfl) TH.verr (by decide +kernel) rfl) pa_nil)))))))
          (pe_tup (pa_cons pe_str (pa_cons (pe_xk TH.xfT TE.t.no (pv 2)) pa_nil))) (pe_tup (pa_cons pe_str (pa_cons pe_non pa_nil))))))))), ?_⟩
    refine q_pairN (v := .non) (w := .non) rfl (eu_tup (ea_cons ev_c (ea_cons ev_c ea_nil)) (by show 2 ≤ 100000; decide)) fun H0 e0 => ?_
    refine q_cut (M := fun σ' H' => (∃ x, σ' = [some (.ref f), some v, some .non, some x, none] ∧ TQ x H') ∨ ∃ a cls dd H2, σ' = [some (.ref f), some v, some (.ref a), some .non, none] ∧ H2 a = none ∧ H' = L2.upd H2 a (ExK cls (some dd) a) ∧ TE' cls dd H2) ?_ fun σ1 H1 h1 => ?_
    · refine ⟨f, c, rfl, e0 _ _ hf, _, rfl, e0 _ _ hf, e0 _ _ hc, hsp H0 e0 _ _ (fun x H2 t => Or.inl ⟨x, rfl, t⟩) fun cls dd H2 t => ⟨?_, fun a ha => ⟨_, rfl, Or.inr ⟨a, cls, dd, H2, rfl, ha, rfl, t⟩⟩⟩⟩
      rcases hE cls dd H2 t with ⟨rfl, _⟩ | ⟨rfl, _⟩
      · exact TH.exF
      · exact TH.exT
    · rcases h1 with ⟨x, rfl, t⟩ | ⟨a, cls, dd, H2, rfl, ha, rfl, t⟩
      · refine q_when (b := decide (V.non = V.non)) (et_test (ev_isN6 (ev_var rfl))) (fun _ H2 e2 => ?_) (fun z _ _ => by cases z)
        exact s_retU (xs := [.str "told", x]) (eu_tup (ea_cons ev_c (ea_cons (ev_var rfl) ea_nil)) (by show 2 ≤ 100000; decide)) fun p H3 _ e3 h3 => hT x H1 t p H3 (e2.trans e3) h3
      · have e2 : Ex H2 (L2.upd H2 a (ExK cls (some dd) a)) := Ex.new ha
        have ha2 : (L2.upd H2 a (ExK cls (some dd) a)) a = some (ExK cls (some dd) a) := upd_same
        generalize L2.upd H2 a (ExK cls (some dd) a) = H3 at e2 ha2
        refine q_when (b := decide (V.ref a = V.non)) (et_test (ev_isN6 (ev_var rfl))) (fun z _ _ => by cases z) (fun _ H4 e4 => ?_)
        rcases hE cls dd H2 t with ⟨rfl, u, hu, k⟩ | ⟨rfl, m, hm, k⟩
        · refine q_when (b := true) (et_and (a := true) (b := true) (et_B (ev_isK7 (ev_var rfl) (e4 _ _ ha2) ((e2.trans e4) _ _ hu) TH.ecF rel_ref7 TH.kFF)) fun _ => et_not (a := false) (et_B (ev_isK7 (ev_var rfl) (e4 _ _ ha2) ((e2.trans e4) _ _ hu) TH.ecF rel_ref7 TH.kFT))) (fun _ H5 e5 => ?_) (fun z _ _ => by cases z)
          exact s_retU (xs := [.str "fact", u]) (eu_tup (ea_cons ev_c (ea_cons (ev_xk7 (C := CF) (f := "value") (ev_var rfl) ((e4.trans e5) _ _ ha2) ((e2.trans (e4.trans e5)) _ _ hu) rfl) ea_nil)) (by show 2 ≤ 100000; decide)) fun p H6 _ e6 h6 => k p H6 (e2.trans (e4.trans (e5.trans e6))) h6
        · refine q_when (b := false) (et_and (a := false) (b := true) (et_B (ev_isK7 (ev_var rfl) (e4 _ _ ha2) ((e2.trans e4) _ _ hm) TH.ecT rel_ref7 TH.kTF)) fun z => by cases z) (fun z _ _ => by cases z) (fun _ H5 e5 => ?_)
          have ha5 := (e4.trans e5) _ _ ha2
          have hm5 := (e2.trans (e4.trans e5)) _ _ hm
          refine (et_and (a := true) (b := true) (et_B (ev_isK7 (ev_var rfl) ha5 hm5 TH.ecT rel_ref7 TH.kTT)) (fun _ => et_B (ev_isK7 (ev_var rfl) ha5 hm5 TH.ecT rel_ty7 TH.kTV))) H5 (Ex.refl _) _ fun H6 e6 => ?_
          refine Eq.mpr (if_pos rfl) ?_
          refine (eu_tup (vs := [.str "text", .int m]) (ea_cons ev_c (ea_cons (ev_xk7 (C := CT) (f := "line") (v := .int m) (ev_var rfl) (e6 _ _ ha5) (e6 _ _ hm5) rfl) ea_nil)) (by show 2 ≤ 100000; decide)) H6 (Ex.refl _) _ fun p H7 _ e7 h7 => k p H7 (e2.trans (e4.trans (e5.trans (e6.trans e7)))) h7
/-! ### the law's lambdas -/
def lamOf : Expr → Lam
  | .Lambda p b s _ => ⟨p, b, s, "_law_it"⟩
  | e => ⟨⟨[], [], none, [], [], none, []⟩, e, ⟨.function, [], false, false, []⟩, ""⟩
def callArg : Expr → Expr
  | .Call _ (a :: _) _ _ => a
  | e => e
def cmpLeft : Expr → Expr
  | .Compare l _ _ _ => l
  | e => e
def ifTest : Stmt → Expr
  | .If t _ _ _ => t
  | _ => .Constant .none 0 ⟨0, 0, 0, 0⟩
def forBody : Stmt → List Stmt
  | .For _ _ b _ _ => b
  | _ => []
def lamIn (s : Stmt) : Lam := lamOf (callArg (callArg (cmpLeft (ifTest s))))
def lamS : Lam := lamIn ((defBody s_law_right).getD 7 (.Pass ⟨0, 0, 0, 0⟩))
def lamR : Lam := lamIn ((forBody ((defBody s_law_right).getD 8 (.Pass ⟨0, 0, 0, 0⟩))).getD 2 (.Pass ⟨0, 0, 0, 0⟩))
theorem fineS : LamFine lamS := ⟨⟨rfl, rfl, rfl, by decide +kernel, rfl, by decide +kernel, by decide +kernel⟩, fun _ _ _ _ _ => rfl, fun _ => rfl⟩
theorem fineR : LamFine lamR := ⟨⟨rfl, rfl, rfl, by decide +kernel, rfl, by decide +kernel, by decide +kernel⟩, fun _ _ _ _ _ => rfl, fun _ => rfl⟩
theorem lamS_ok {q : Str} (h : Has P w K mg base (L2.CX P w) 6 "show_fact" ["fact"] (spShow CF)) : LamOk P w K mg base 6 lamS q (spShow CF) := by
  refine ⟨fineS, fun vs H Q E z => ?_, fun A outer s H v Q E f c hr z => ?_⟩
  · obtain ⟨v, d, rfl, _⟩ := z
    rfl
  · exact ⟨_, pe_hx h hr (takes_of rfl rfl rfl rfl) (pa_cons (pv 0) pa_nil), ⟨_, rfl, z⟩⟩
theorem lamR_ok {q : Str} (h : Has P w K mg base (L2.CX P w) 6 "read_fact" ["text"] (spRd CT)) : LamOk P w K mg base 6 lamR q (spRd CT) := by
  refine ⟨fineR, fun vs H Q E z => ?_, fun A outer s H v Q E f c hr z => ?_⟩
  · obtain ⟨v, d, rfl, _⟩ := z
    rfl
  · exact ⟨_, pe_hx h hr (takes_of rfl rfl rfl rfl) (pa_cons (pv 0) pa_nil), ⟨_, rfl, z⟩⟩
end
end HF
set_option maxRecDepth 100000
set_option maxHeartbeats 2000000
namespace HF
open PySem L2 Evl
/-! ### drawn facts -/
def okMenu (c : Str) (d : PyData) : Bool := isShown d (toG c) && (isWritten (partD d) (toG c) && ((match d with
  | .int i => decide (toG c = "l") && decide (intOf (partD d) = i)
  | .str _ => !decide (toG c = "l")
  | _ => false) && (okTB 10 (partD d) && ((partD d).cps.toList.all (fun x => !decide (x = 32)) && tidyB 30 d))))
theorem menu_ok : ∀ c ∈ sorts5, ∀ d ∈ menuD c, okMenu c d = true := by decide +kernel
structure MenuOk (c : Str) (d : PyData) : Prop where
  sh : isShown d (toG c) = true
  wr : isWritten (partD d) (toG c) = true
  rd : readPart (partD d) (toG c) = d
  tx : okTB 10 (partD d) = true
  sp : 32 ∉ (partD d).cps.toList
  td : tidyB 30 d = true
theorem menu_of {c : Str} {d : PyData} (h : okMenu c d = true) : MenuOk c d := by
  unfold okMenu at h
  simp only [Bool.and_eq_true] at h
  obtain ⟨h1, h2, h3, h4, h5, h6⟩ := h
  refine ⟨h1, h2, ?_, h4, fun z => ?_, h6⟩
  · cases d with
    | int i =>
      rw [Bool.and_eq_true, decide_eq_true_eq, decide_eq_true_eq] at h3
      unfold readPart
      rw [if_pos h3.1, h3.2]
    | str s =>
      rw [Bool.not_eq_true', decide_eq_false_iff_not] at h3
      unfold readPart
      rw [if_neg h3]
      rfl
    | _ => cases h3
  · have := List.all_eq_true.mp h5 32 z
    simp at this
theorem tidyB_le {m n : Nat} {d : PyData} (h : tidyB m d = true) (e : m ≤ n) : tidyB n d = true := by
  unfold tidyB at h ⊢
  rw [Bool.and_eq_true, Bool.and_eq_true, Bool.and_eq_true, decide_eq_true_eq, decide_eq_true_eq] at h ⊢
  exact ⟨⟨⟨h.1.1.1, h.1.1.2⟩, by omega⟩, h.2⟩
theorem okTB_le {m n : Nat} {t : Str} (h : okTB m t = true) (e : m ≤ n) : okTB n t = true := by
  unfold okTB at h ⊢
  rw [Bool.and_eq_true, decide_eq_true_eq] at h ⊢
  exact ⟨by omega, h.2⟩
/-- the parts of a drawn fact -/
inductive PartsOf : List PyData → List Str → Prop
  | nil : PartsOf [] []
  | cons {d : PyData} {c : Str} {ds : List PyData} {cs : List Str} (h : MenuOk c d) (t : PartsOf ds cs) : PartsOf (d :: ds) (c :: cs)
theorem PartsOf.len : ∀ {ds : List PyData} {cs : List Str}, PartsOf ds cs → ds.length = cs.length
  | _, _, .nil => rfl
  | _, _, .cons _ t => by rw [List.length_cons, List.length_cons, t.len]
theorem PartsOf.snoc : ∀ {ds : List PyData} {cs : List Str} {d : PyData} {c : Str}, PartsOf ds cs → MenuOk c d → PartsOf (ds ++ [d]) (cs ++ [c])
  | _, _, _, _, .nil, h => .cons h .nil
  | _, _, _, _, .cons a t, h => .cons a (t.snoc h)
theorem PartsOf.all : ∀ {ds : List PyData} {cs : List Str}, PartsOf ds cs → ∀ d ∈ ds, ∃ c, MenuOk c d
  | _, _, .nil, d, h => by cases h
  | _, _, .cons a t, d, h => by
    rcases List.mem_cons.mp h with rfl | h
    · exact ⟨_, a⟩
    · exact t.all d h
theorem PartsOf.shown : ∀ {ds : List PyData} {cs : List Str}, PartsOf ds cs → (ds.zip cs).all (fun p => isShown p.1 (toG p.2)) = true
  | _, _, .nil => rfl
  | _, _, .cons a t => by
    rw [List.zip_cons_cons, List.all_cons, t.shown, Bool.and_true]
    exact a.sh
theorem PartsOf.written : ∀ {ds : List PyData} {cs : List Str}, PartsOf ds cs → (((ds.map partD).map PyData.str).zip (cs.map toG)).all (fun p => isWrittenD p.1 p.2) = true
  | _, _, .nil => rfl
  | _, _, .cons a t => by
    rw [List.map_cons, List.map_cons, List.map_cons, List.zip_cons_cons, List.all_cons, t.written, Bool.and_true]
    exact a.wr
theorem PartsOf.read : ∀ {ds : List PyData} {cs : List Str}, PartsOf ds cs → (((ds.map partD).zip (cs.map toG)).map fun p => readPart p.1 p.2) = ds
  | _, _, .nil => rfl
  | _, _, .cons a t => by
    rw [List.map_cons, List.map_cons, List.zip_cons_cons, List.map_cons, t.read]
    congr 1
    exact a.rd
def wordOkB (f : Str) : Bool := okTB 6 f && (f.cps.toList.all (fun x => !decide (x = 32)) && tidyB 30 (.str f))
theorem words_ok : ∀ f ∈ lawForms.map (·.1), wordOkB f = true := by decide +kernel
structure Drawn (f c : Str) (ps : List PyData) : Prop where
  mem : f ∈ lawForms.map (·.1)
  form : formL f = some c
  ps : PartsOf ps (signsS c)
section
variable {f c : Str} {ps : List PyData}
theorem Drawn.wok (h : Drawn f c ps) : okTB 6 f = true ∧ 32 ∉ f.cps.toList ∧ tidyB 30 (.str f) = true := by
  have := words_ok f h.mem
  unfold wordOkB at this
  simp only [Bool.and_eq_true] at this
  refine ⟨this.1, fun z => ?_, this.2.2⟩
  have := List.all_eq_true.mp this.2.1 32 z
  simp at this
theorem Drawn.c4 (h : Drawn f c ps) : c.length ≤ 4 := by
  rcases forms_rel f with ⟨_, z⟩ | ⟨g, c', _, z, _, _, z4, _⟩
  · rw [h.form] at z; cases z
  · rw [h.form] at z
    cases z
    exact z4
theorem Drawn.len (h : Drawn f c ps) : ps.length = c.length := by rw [h.ps.len, signsS_len]
theorem Drawn.fact (h : Drawn f c ps) : isFact (.tuple (.str f :: ps)) = true := by
  rw [fact_law]
  show (match formL f with | some c => decide (ps.length = c.length) && (ps.zip (signsS c)).all fun p => isShown p.1 (toG p.2) | none => false) = true
  rw [h.form]
  show (decide (ps.length = c.length) && (ps.zip (signsS c)).all fun p => isShown p.1 (toG p.2)) = true
  rw [h.ps.shown, decide_eq_true h.len]
  rfl
theorem Drawn.tidy (h : Drawn f c ps) : ∀ o ∈ (PyData.str f :: ps), tidyB 30 o = true := fun o ho => by
  rcases List.mem_cons.mp ho with rfl | ho
  · exact h.wok.2.2
  · obtain ⟨c, m⟩ := h.ps.all o ho
    exact m.td
theorem Drawn.okt (h : Drawn f c ps) : ∀ o ∈ (PyData.str f :: ps), okTB 10 (partD o) = true := fun o ho => by
  rcases List.mem_cons.mp ho with rfl | ho
  · exact okTB_le h.wok.1 (by decide)
  · obtain ⟨c, m⟩ := h.ps.all o ho
    exact m.tx
theorem Drawn.read (h : Drawn f c ps) : readFact (textOfD (.str f :: ps)) = some (.str f :: ps) := by
  have fr : ∀ p ∈ (PyData.str f :: ps).map partD, 32 ∉ TL.tl p := fun p hp => by
    obtain ⟨o, ho, rfl⟩ := List.mem_map.mp hp
    rcases List.mem_cons.mp ho with rfl | ho
    · exact h.wok.2.1
    · obtain ⟨c, m⟩ := h.ps.all o ho
      exact m.sp
  unfold readFact textOfD
  rw [TL.split_join (s := 32) (S := []) (by decide +kernel) (by decide +kernel) (by simp) fr]
  show partsR (formOf f) (f :: ps.map partD) = _
  rcases forms_rel f with ⟨_, z⟩ | ⟨g, c', e1, z, e3, e4, _⟩
  · rw [h.form] at z; cases z
  · rw [h.form] at z
    cases z
    rw [e1]
    show (if (decide ((ps.map partD).length + 1 = g.length + 1) && writtenAll (ps.map partD) g) = true then some (.str f :: readTs (ps.map partD) g) else none) = _
    have hl : (ps.map partD).length + 1 = g.length + 1 := by rw [List.length_map, h.len, e4]
    have hw : writtenAll (ps.map partD) g = true := by
      unfold writtenAll
      rw [e3]
      exact h.ps.written
    have hr : readTs (ps.map partD) g = ps := by
      unfold readTs
      rw [e3]
      exact h.ps.read
    rw [decide_eq_true hl, hw, hr]
    rfl
end
/-! ### sizes -/
theorem joinL_in {S : List Nat} : ∀ {L : List (List Nat)} {c : Nat}, c ∈ TL.joinL S L → c ∈ S ∨ ∃ l ∈ L, c ∈ l
  | [], _, h => by cases h
  | [p], _, h => Or.inr ⟨p, List.mem_singleton.mpr rfl, h⟩
  | p :: q :: r, c, h => by
    have h' : c ∈ p ++ (S ++ TL.joinL S (q :: r)) := h
    rcases List.mem_append.mp h' with z | z
    · exact Or.inr ⟨p, List.mem_cons_self, z⟩
    · rcases List.mem_append.mp z with z | z
      · exact Or.inl z
      · rcases joinL_in (L := q :: r) z with y | ⟨l, hl, hc⟩
        · exact Or.inl y
        · exact Or.inr ⟨l, List.mem_cons_of_mem _ hl, hc⟩
theorem joinL_len {S : List Nat} {n : Nat} : ∀ {L : List (List Nat)}, (∀ l ∈ L, l.length ≤ n) → (TL.joinL S L).length ≤ (n + S.length) * L.length
  | [], _ => Nat.zero_le _
  | [p], h => by
    have := h p (List.mem_singleton.mpr rfl)
    show p.length ≤ (n + S.length) * 1
    omega
  | p :: q :: r, h => by
    show (p ++ (S ++ TL.joinL S (q :: r))).length ≤ _
    have h1 := h p List.mem_cons_self
    have h2 := joinL_len (S := S) (L := q :: r) fun x hx => h x (List.mem_cons_of_mem _ hx)
    rw [List.length_append, List.length_append, List.length_cons, Nat.mul_succ]
    omega
theorem okT_join {n : Nat} {ws : List Str} (h : ∀ w ∈ ws, okTB n w = true) : OkT ((n + 1) * ws.length) (Txt.join " " ws) := by
  have e : TL.tl (Txt.join " " ws) = TL.joinL (TL.tl " ") (ws.map TL.tl) := by rw [TL.join_eq, TL.tl_join]
  have l1 : (TL.tl (" " : Str)).length = 1 := by decide +kernel
  refine ⟨?_, fun c hc => ?_⟩
  · have e2 : (Txt.join " " ws).length = (TL.tl (Txt.join " " ws)).length := by unfold TL.tl; rw [Array.length_toList]; rfl
    have := joinL_len (S := TL.tl " ") (n := n) (L := ws.map TL.tl) fun l hl => by
      obtain ⟨w, hw, rfl⟩ := List.mem_map.mp hl
      have := (okTB_of (h w hw)).len
      unfold TL.tl
      rw [Array.length_toList]
      exact this
    rw [List.length_map, l1] at this
    rw [e2, e]
    exact this
  · have hc2 : c ∈ TL.tl (Txt.join " " ws) := hc
    rw [e] at hc2
    rcases joinL_in hc2 with z | ⟨l, hl, hcl⟩
    · have : ∀ c ∈ TL.tl (" " : Str), c < 256 := by decide +kernel
      exact this c z
    · obtain ⟨w, hw, rfl⟩ := List.mem_map.mp hl
      exact (okTB_of (h w hw)).low c hcl
theorem text_ok {es : List PyData} {n : Nat} (h : ∀ o ∈ es, okTB n (partD o) = true) : OkT ((n + 1) * es.length) (textOfD es) := by
  have := okT_join (ws := es.map partD) fun w hw => by
    obtain ⟨o, ho, rfl⟩ := List.mem_map.mp hw
    exact h o ho
  rw [List.length_map] at this
  exact this
theorem tidy_pair {w : Str} {d : PyData} (hw : okTB 10 w = true) (h : Tidy 440 d) : Tidy0 (.tuple [.str w, d]) := by
  have k := okTB_of hw
  have kl : w.cps.size ≤ 10 := k.len
  have hwt := h.wt
  have hdp := h.dp
  refine ⟨?_, ?_, ?_, ?_⟩
  · rw [PyData.showable, PyData.showableAll, PyData.showableAll, h.sh]; rfl
  · rw [PyData.depth, PyData.depthAll, PyData.depthAll, PyData.depthAll, PyData.depth]
    omega
  · rw [PyData.weight, PyData.weightAll, PyData.weightAll, PyData.weightAll, PyData.weight]
    omega
  · rw [PyData.leavesShort, PyData.leavesShortAll, PyData.leavesShortAll, h.lf]
    have : PyData.leavesShort 100 (.str w) = true := (okT_tidy (n := 10) k (by decide)).lf
    rw [this]
    rfl
/-- what is due of a bent fact -/
def dueS (d : PyData) : PyData := match d with
  | .tuple es => if isFact (.tuple es) = true then .tuple [.str "told", .str (textOfD es)] else .tuple [.str "fact", .tuple es]
  | d => .tuple [.str "fact", d]
theorem tidy_dueS {d : PyData} (h : Tidy 440 d) (b : BentOk d) : Tidy0 (dueS d) := by
  rcases b with ⟨es, rfl, l7, ho⟩ | ⟨es, rfl⟩
  · show Tidy0 (if isFact (.tuple es) = true then .tuple [.str "told", .str (textOfD es)] else .tuple [.str "fact", .tuple es])
    split
    · refine tidy_pair (by decide +kernel) (okT_tidy (n := 91) ?_ (by decide))
      exact (text_ok ho).le (by have := Nat.mul_le_mul_left 13 l7; omega)
    · exact tidy_pair (by decide +kernel) h
  · exact tidy_pair (by decide +kernel) h
/-- what is due of a text, or another value -/
def dueR (d : PyData) : PyData := match readD d with
  | none => .tuple [.str "text", .int 0]
  | some ds => .tuple [.str "told", .tuple ds]
theorem part_okT {t g : Str} (h : isPart t g = true) : OkT 6 t := by
  have low : ∀ {s : Str}, s = LOW ++ DIG ∨ s = UPP → consists t s = true → ∀ c ∈ t.cps.toList, c < 256 := fun {s} hs hc c hcm => by
    have := consists_mem hc c hcm
    rcases hs with rfl | rfl
    · have z : ∀ c ∈ (LOW ++ DIG).cps.toList, c < 256 := by decide +kernel
      exact z c this
    · have z : ∀ c ∈ UPP.cps.toList, c < 256 := by decide +kernel
      exact z c this
  have hn : isName t = true → OkT 6 t := fun h => by
    unfold isName at h
    simp only [Bool.and_eq_true, decide_eq_true_eq] at h
    exact ⟨h.1.2, low (Or.inl rfl) h.2.2⟩
  have hp : inS t placesS = true → OkT 6 t := fun h => by
    have := (inS_iff t placesS).mp h
    have z : ∀ t ∈ placesS, okTB 6 t = true := by decide +kernel
    exact okTB_of (z t this)
  unfold isPart at h
  split at h
  · exact hn h
  · split at h
    · exact hp h
    · split at h
      · rw [Bool.or_eq_true] at h
        exact h.elim hn hp
      · rw [Bool.or_eq_true] at h
        rcases h with h | h
        · unfold isCapital at h
          simp only [Bool.and_eq_true, decide_eq_true_eq] at h
          exact ⟨h.1.2, low (Or.inr rfl) h.2⟩
        · rw [Bool.and_eq_true, decide_eq_true_eq, decide_eq_true_eq] at h
          rw [h.2]
          exact okTB_of (by decide +kernel)
theorem tidyB_str {n : Nat} {t : Str} (h : OkT n t) : tidyB n (.str t) = true := by
  unfold tidyB
  have hl : t.cps.size ≤ n := h.len
  have lf : PyData.leavesShort 100 (.str t) = true := by
    rw [PyData.leavesShort, List.all_eq_true]
    intro c hc
    have := h.low c hc
    rw [decide_eq_true_eq]
    have e16 : (16 : Nat) ^ 8 = 4294967296 := by decide
    omega
  rw [lf, PyData.weight, decide_eq_true hl, PyData.depth]
  rfl
theorem tidyB_line {n : Nat} (h : n ≤ 999999999) : tidyB 30 (.int (n : Int)) = true := by
  have hna : ((n : Int)).natAbs = n := Int.natAbs_natCast n
  have l29 : n.log2 ≤ 29 := by
    rcases Nat.eq_zero_or_pos n with z | z
    · rw [z]; decide
    · have := (Nat.log2_lt (Nat.ne_of_gt z) (k := 30)).mpr (by omega)
      omega
  unfold tidyB
  have s1 : PyData.showable (.int (n : Int)) = true := by
    rw [PyData.showable, decide_eq_true_eq, hna]
    omega
  have s2 : PyData.depth (.int (n : Int)) ≤ 8 := by rw [PyData.depth]; omega
  have s3 : PyData.weight (.int (n : Int)) ≤ 30 := by
    rw [PyData.weight, hna]
    split <;> omega
  have s4 : PyData.leavesShort 100 (.int (n : Int)) = true := by
    rw [PyData.leavesShort, decide_eq_true_eq]
    have := PySem.W.KT.len_num (n := (n : Int)) (by omega) (by omega)
    exact Nat.le_trans this (by decide)
  rw [s1, s4, decide_eq_true s2, decide_eq_true s3]
  rfl
theorem read_tidyB {t g : Str} (h : isWritten t g = true) : tidyB 60 (readPart t g) = true := by
  unfold isWritten at h
  unfold readPart
  split
  · rename_i hg
    rw [if_pos hg] at h
    obtain ⟨n, hn, _, h9, _⟩ := number_val h
    have : intOf t = (n : Int) := by unfold intOf; rw [hn]; rfl
    rw [this]
    exact tidyB_le (tidyB_line h9) (by decide)
  · rename_i hg
    rw [if_neg hg] at h
    exact tidyB_le (tidyB_str (part_okT h)) (by decide)
theorem reads_tidyB : ∀ (ts gs : List Str), ((ts.map PyData.str).zip gs).all (fun p => isWrittenD p.1 p.2) = true → ∀ o ∈ (ts.zip gs).map (fun p => readPart p.1 p.2), tidyB 60 o = true
  | [], _, _, o, h => by cases h
  | _ :: _, [], _, o, h => by cases h
  | t :: ts, g :: gs, h, o, ho => by
    rw [List.map_cons, List.zip_cons_cons, List.all_cons, Bool.and_eq_true] at h
    rw [List.zip_cons_cons, List.map_cons] at ho
    rcases List.mem_cons.mp ho with rfl | ho
    · exact read_tidyB h.1
    · exact reads_tidyB ts gs h.2 o ho
theorem keys_tidy : ∀ f ∈ factsL.map (·.1), tidyB 60 (.str f) = true := by decide +kernel
theorem tidy_readD {d : PyData} {ds : List PyData} (h : readD d = some ds) : Tidy 440 (.tuple ds) := by
  cases d with
  | str t =>
    have h' : partsR (formOf (wd (Txt.split t " ") 0)) (Txt.split t " ") = some ds := h
    generalize Txt.split t " " = ws at h'
    have hl := parts_len h' (fun g hg => form_len _ g hg)
    unfold partsR at h'
    cases e : formOf (wd ws 0) with
    | none => rw [e] at h'; cases h'
    | some g =>
      rw [e] at h'
      have h2 : (if (decide (ws.length = g.length + 1) && writtenAll ws.tail g) = true then some (PyData.str (wd ws 0) :: readTs ws.tail g) else none) = some ds := h'
      split at h2
      · rename_i z
        cases h2
        rw [Bool.and_eq_true] at z
        have km : wd ws 0 ∈ factsL.map (·.1) := Classical.byContradiction fun n => by
          have : formOf (wd ws 0) = none := look_none n
          rw [e] at this
          cases this
        refine (tidy6 (fun o ho => ?_) (by omega)).2.1
        rcases List.mem_cons.mp ho with rfl | ho
        · exact keys_tidy _ km
        · exact reads_tidyB ws.tail (signsS g) z.2 o ho
      · cases h2
  | _ => cases h
theorem tidy_dueR (d : PyData) : Tidy0 (dueR d) := by
  unfold dueR
  cases h : readD d with
  | none => exact tidy_pair (by decide +kernel) ⟨by decide +kernel, by decide +kernel, by decide +kernel, by decide +kernel⟩
  | some ds => exact tidy_pair (by decide +kernel) (tidy_readD h)
/-- the odd values that are read -/
def odd8 (t : Str) : List PyData := [.none, .bool true, .int 0, .list [.str t], .tuple [.str t], .dict [], .str "", .str "at"]
theorem tidy8 {t : Str} (h : OkT 100 t) : ∀ d ∈ odd8 t, Tidy 440 d := by
  have ht : ∀ o ∈ [PyData.str t], tidyB 100 o = true := fun o ho => by rw [List.mem_singleton.mp ho]; exact tidyB_str h
  have hs := okT_tidy h (by decide)
  have hsz : t.cps.size ≤ 100 := h.len
  intro d hd
  unfold odd8 at hd
  simp only [List.mem_cons, List.not_mem_nil, or_false] at hd
  rcases hd with rfl | rfl | rfl | rfl | rfl | rfl | rfl | rfl
  · exact ⟨by decide +kernel, by decide +kernel, by decide +kernel, by decide +kernel⟩
  · exact ⟨by decide +kernel, by decide +kernel, by decide +kernel, by decide +kernel⟩
  · exact ⟨by decide +kernel, by decide +kernel, by decide +kernel, by decide +kernel⟩
  · refine ⟨?_, ?_, ?_, ?_⟩
    · rw [PyData.showable, PyData.showableAll, hs.sh]; rfl
    · have d0 : (PyData.str t).depth = 0 := by rw [PyData.depth]
      rw [PyData.depth, PyData.depthAll, PyData.depthAll]; omega
    · have w1 := (tidy_of (tidyB_str h)).wt; rw [PyData.weight, PyData.weightAll, PyData.weightAll]; omega
    · rw [PyData.leavesShort, PyData.leavesShortAll, hs.lf]; rfl
  · refine ⟨?_, ?_, ?_, ?_⟩
    · rw [PyData.showable, PyData.showableAll, hs.sh]; rfl
    · have d0 : (PyData.str t).depth = 0 := by rw [PyData.depth]
      rw [PyData.depth, PyData.depthAll, PyData.depthAll]; omega
    · have w1 := (tidy_of (tidyB_str h)).wt; rw [PyData.weight, PyData.weightAll, PyData.weightAll]; omega
    · rw [PyData.leavesShort, PyData.leavesShortAll, hs.lf]; rfl
  · exact ⟨by decide +kernel, by decide +kernel, by decide +kernel, by decide +kernel⟩
  · exact ⟨by decide +kernel, by decide +kernel, by decide +kernel, by decide +kernel⟩
  · exact ⟨by decide +kernel, by decide +kernel, by decide +kernel, by decide +kernel⟩
end HF
set_option maxRecDepth 100000
set_option maxHeartbeats 2000000
namespace HF
open PySem PySem.Spec PyProof.Rows L2 Evl
open LamX (CodeO TabS ExtN TabB codeO_ne)
/-! ### what stays where a lambda is made -/
mutual
theorem RdD.monoN {H H' : Hp} (e : ExtN H H') : ∀ {x : V} {d : PyData}, RdD H x d → RdD H' x d
  | _, _, .non => .non
  | _, _, .bl b => .bl b
  | _, _, .int i => .int i
  | _, _, .str s => .str s
  | _, _, .lst at_ r => .lst (e _ _ at_ (fun _ z => by cases z)) (RdDs.monoN e r)
  | _, _, .tup at_ r => .tup (e _ _ at_ (fun _ z => by cases z)) (RdDs.monoN e r)
  | _, _, .dct at_ r r2 => .dct (e _ _ at_ (fun _ z => by cases z)) (RdDs.monoN e r) (RdDs.monoN e r2)
theorem RdDs.monoN {H H' : Hp} (e : ExtN H H') : ∀ {xs : List V} {ds : List PyData}, RdDs H xs ds → RdDs H' xs ds
  | _, _, .nil => .nil
  | _, _, .cons h t => .cons (RdD.monoN e h) (RdDs.monoN e t)
end
/-- all but the box and the tables stay -/
def KeepT (b : Addr) (H H' : Hp) : Prop := ∀ a o, a ≠ b → H a = some o → (∀ ps, o ≠ .tbl ps) → H' a = some o
section
variable {b P : Addr} {q : Str} {n : Nat} {H H' H'' : Hp}
theorem KeepT.of (k : KeepB b H H') : KeepT b H H' := fun a o n h _ => k a o n h
theorem KeepT.ext (e : ExtN H H') : KeepT b H H' := fun a o _ h n => e a o h n
theorem KeepT.trans (k : KeepT b H H') (l : KeepT b H' H'') : KeepT b H H'' := fun a o n h m => l a o n (k a o n h m) m
theorem BoxAt.ext (h : BoxAt H b n) (e : ExtN H H') : BoxAt H' b n := by
  obtain ⟨u, v, w, h1, h2⟩ := h
  exact ⟨u, v, w, e _ _ h1 (fun _ z => by cases z), h2⟩
theorem TabS.box (t : TabS H P q) (hb : BoxAt H b n) (k : KeepB b H H') : TabS H' P q := by
  obtain ⟨ps, h1, h2, h3⟩ := t
  obtain ⟨u, v, w, hb1, _⟩ := hb
  refine ⟨ps, k P _ (fun z => by rw [z, hb1] at h1; cases h1) h1, h2, fun pos cv hc => ?_⟩
  obtain ⟨c, e1, e2⟩ := h3 pos cv hc
  refine ⟨c, e1, k c _ (fun z => ?_) e2⟩
  rw [z, hb1] at e2
  cases e2
end
/-! ### the drawing of a fact -/
def rSortD : List V → Hp → VK → Prop := fun xs H Q => ∃ (a : Addr) (kvs : List (Key × V)) (ks : List Str), xs = [.ref a] ∧ Rd H a (.dK kvs) ∧ kvs.map (·.1) = ks.map Sum.inr ∧ ks.length < 64 ∧ ∀ ys p, ys.Perm ks → sortedS ys = true → H p = none → Q (.ref p) (upd H p (.lst (ys.map V.str)))
theorem call_sortD {X : Cx} (hc : X.calm = true) : CallR X (.builtin "sorted") rSortD := call_sortedD hc
theorem keys_law : lawKv.map (·.1) = (lawForms.map (·.1)).map Sum.inr := by rfl
theorem flat_rd {H : Hp} : ∀ {ds : List PyData} {cs : List Str}, PartsOf ds cs → RdDs H (ds.map dV) ds
  | _, _, .nil => .nil
  | d :: _, _, .cons a t => by
    refine .cons ?_ (flat_rd t)
    have f := shown_flat a.sh
    cases d with
    | int i => exact .int i
    | str s => exact .str s
    | _ => cases f
section
variable {K : PySem.W.Frag} {σ : L2.St} {H : Hp} {b : Addr} {n : Nat} {Q : VK}
theorem t_word {i : Nat} (h0 : σ[i]? = some (some (.ref b))) (hb : BoxAt H b n) (hn : n ≤ 1000000) (k : ∀ f H2, f ∈ lawForms.map (·.1) → KeepB b H H2 → BoxAt H2 b (n + 1) → Q (.str f) H2) :
    tCall spOf [] E0 (tCons (tVar i) (tCons (tCB rSortD (tCons (tCall spForms [] E0 tNil) tNil)) tNil)) σ H Q := by
  refine ⟨_, h0, ?_⟩
  have h := (ex_forms (σ := σ) (H := H)) H (Ex.refl H) (fun x H1 => rSortD [x] H1 fun y H2 => spOf [.ref b, y] H2 Q E0) fun pF H1 hpF e1 hF => ⟨pF, lawKv, lawForms.map (·.1), rfl, Rd.of hF, keys_law, by decide, fun ys p perm _ hp => ?_⟩
  · exact h
  · have b1 := hb.mono e1
    have ly : ys.length = 12 := by rw [perm.length_eq]; rfl
    have e2 : Ex H (L2.upd H1 p (.lst (ys.map V.str))) := e1.trans (Ex.new hp)
    refine ⟨b, p, ys.map V.str, n, rfl, hb.mono e2, hn, upd_same, box_ne b1 hp, List.ne_nil_of_length_pos (by rw [List.length_map]; omega), by rw [List.length_map]; omega, fun d x H2 hx k2 b2 => ?_⟩
    obtain ⟨f, hf, rfl⟩ := List.mem_map.mp (List.mem_of_getElem? hx)
    exact k f H2 (perm.mem_iff.mp hf) ((KeepB.ex e2).trans k2) b2
theorem menu_len : ∀ c ∈ sorts5, (menuD c).length = 6 ∨ (menuD c).length = 9 ∨ (menuD c).length = 4 ∨ (menuD c).length = 5 := by decide +kernel
/-- [_law_of(box, _law_menu(sort)) for sort in forms()[word]] -/
theorem lc_parts {te : TE} {f c : Str} {i j : Nat} {vs : List Nat} (hf : formL f = some c) (h : ∀ R : VK, (∀ H1, Ex H H1 → R (.str c) H1) → te σ H R) (hb : BoxAt H b n) (hn : n ≤ 900000)
    (hw : ∀ x, wipe ((wipe σ vs).set j (some x)) vs = wipe σ vs) (h0 : ∀ x, ((wipe σ vs).set j (some x))[i]? = some (some (.ref b))) (hj : ∀ x, ((wipe σ vs).set j (some x))[j]? = some (some x))
    (k : ∀ D ps H', KeepB b H H' → BoxAt H' b (n + 4) → H D = none → H' D = some (.lst (ps.map dV)) → PartsOf ps (signsS c) → Q (.ref D) H') :
    tLc (iStr te) (gName j) tYes (tCall spOf [] E0 (tCons (tVar i) (tCons (tCall spMenu [] E0 (tCons (tVar j) tNil)) tNil))) vs σ H Q := by
  have c4 : c.length ≤ 4 ∧ ∀ x ∈ signsS c, x ∈ sorts5 := by
    rcases forms_rel f with ⟨_, z⟩ | ⟨g, c', _, z, _, _, z4, zs⟩
    · rw [hf] at z; cases z
    · rw [hf] at z
      cases z
      exact ⟨z4, zs⟩
  refine h _ fun H1 e1 => ⟨c, rfl, fun Dl hD => ?_⟩
  have b1 := hb.mono e1
  have nD : Dl ≠ b := box_ne b1 hD
  have sz : c.cps.size = c.length := rfl
  refine lc_it walk_str (fun i' H' => ∃ ps, ps.length = i' ∧ PartsOf ps ((signsS c).take i') ∧ KeepB b H1 H' ∧ BoxAt H' b (n + i') ∧ H' Dl = some (.lst (ps.map dV))) ⟨[], rfl, .nil, KeepB.ex (Ex.new hD), b1.mono (Ex.new hD), upd_same⟩ (fun _ _ _ _ => trivial) (fun i' x H2 H' hi p y => ?_) (fun H' p => ?_)
  · obtain ⟨rfl, c1, hc1, rfl⟩ := y
    obtain ⟨ps, lp, pp, kp, bp, hp⟩ := p
    have sg : (signsS c)[i']? = some ⟨#[c1]⟩ := by
      unfold signsS
      rw [List.getElem?_map, Array.getElem?_toList, hc1]
      rfl
    have sm : (⟨#[c1]⟩ : Str) ∈ sorts5 := c4.2 _ (List.mem_of_getElem? sg)
    refine ⟨hw _, ?_⟩
    show tCall spOf [] E0 (tCons (tVar i) (tCons (tCall spMenu [] E0 (tCons (tVar j) tNil)) tNil)) _ _ _
    refine ⟨_, h0 _, _, hj _, ⟨#[c1]⟩, rfl, sm, fun pm H3 e3 h3 => ?_⟩
    have ml : (menuV (⟨#[c1]⟩ : Str)).length = (menuD ⟨#[c1]⟩).length := by unfold menuV; rw [List.length_map]
    have mcase := menu_len _ sm
    have b3 := bp.mono e3
    have npm : pm ≠ b := fun z => by
      obtain ⟨u, v, w, hb3, _⟩ := b3
      rw [z, hb3] at h3
      have := congrArg List.length (HO.lst.inj (Option.some.inj h3))
      rw [ml] at this
      have l3 : [V.int u, V.int v, V.int w].length = 3 := rfl
      omega
    refine ⟨b, pm, menuV ⟨#[c1]⟩, n + i', rfl, b3, by omega, h3, npm, List.ne_nil_of_length_pos (by omega), by omega, fun d x H4 hx k4 b4 => ?_⟩
    unfold menuV at hx
    rw [List.getElem?_map] at hx
    obtain ⟨o, ho, rfl⟩ := Option.map_eq_some_iff.mp hx
    have mo := menu_of (menu_ok _ sm o (List.mem_of_getElem? ho))
    have hp4 := k4 Dl _ nD (e3 _ _ hp)
    refine ⟨ps.map dV, hp4, sz_lt (by rw [List.length_map]; omega), ps ++ [o], by rw [List.length_append, lp]; rfl, ?_, ?_, ?_, ?_⟩
    · rw [List.take_add_one, sg]
      exact pp.snoc mo
    · intro a u na ha
      rw [upd_ne (ne_of_none ha hD)]
      exact k4 a u na (e3 _ _ (kp a u na ha))
    · obtain ⟨u, v, w, a1, a2⟩ := b4
      exact ⟨u, v, w, by rw [upd_ne (Ne.symm nD)]; exact a1, a2⟩
    · rw [upd_same, List.map_append]
      rfl
  · obtain ⟨ps, lp, pp, kp, bp, hp⟩ := p
    rw [sz] at lp bp pp
    have tk : (signsS c).take c.length = signsS c := List.take_of_length_le (by rw [signsS_len]; exact Nat.le_refl _)
    rw [tk] at pp
    exact k Dl ps H' ((KeepB.ex e1).trans kp) (bp.le (by omega)) (fresh_back e1 hD) hp pp
/-- (word,) + tuple([..]) -/
theorem t_thing {f c : Str} {i iw j : Nat} {vs : List Nat} (hm : f ∈ lawForms.map (·.1)) (hf : formL f = some c) (hs0 : σ[iw]? = some (some (.str f))) (hb : BoxAt H b n) (hn : n ≤ 900000)
    (hw : ∀ x, wipe ((wipe σ vs).set j (some x)) vs = wipe σ vs) (h0 : ∀ x, ((wipe σ vs).set j (some x))[i]? = some (some (.ref b))) (hj : ∀ x, ((wipe σ vs).set j (some x))[j]? = some (some x))
    (k : ∀ p ps H', KeepB b H H' → BoxAt H' b (n + 4) → H' p = some (.tup (.str f :: ps.map dV)) → Drawn f c ps → Q (.ref p) H') :
    tOp (rCatA K) (tTup (tCons (tVar iw) tNil)) (tCB (rTupOf K) (tCons (tLc (iStr (tDGet (tCall spForms [] E0 tNil) (tVar iw))) (gName j) tYes (tCall spOf [] E0 (tCons (tVar i) (tCons (tCall spMenu [] E0 (tCons (tVar j) tNil)) tNil))) vs) tNil)) σ H Q := by
  refine ⟨_, hs0, sz_of (by show 1 ≤ 100000; decide), fun p1 hp1 => ?_⟩
  have e1 : Ex H (L2.upd H p1 (.tup [.str f])) := Ex.new hp1
  have h1 : (L2.upd H p1 (.tup [.str f])) p1 = some (.tup [.str f]) := upd_same
  generalize L2.upd H p1 (.tup [.str f]) = H1 at e1 h1
  have b1 := hb.mono e1
  have n1 : p1 ≠ b := fun z => box_lst b1 h1 z
  have src : ∀ R : VK, (∀ H3, Ex H1 H3 → R (.str c) H3) → tDGet (tCall spForms [] E0 tNil) (tVar iw) σ H1 R := fun R hR =>
    (ex_forms (σ := σ) (H := H1)) H1 (Ex.refl _) (fun x H3 => tVar iw σ H3 fun y H4 => ∃ d v, x = .ref d ∧ DGet H4 d y (some v) ∧ R v H4) fun pF H3 _ e3 hF => ⟨_, hs0, pF, .str c, rfl, by
      have hv : valV lawKv (Sum.inr f) = some (.str c) := by rw [valV_law, hf]; rfl
      rw [← hv]
      exact DGet.k (k := Sum.inr f) hF, hR H3 e3⟩
  have key : ∀ D ps H2, KeepB b H1 H2 → BoxAt H2 b (n + 4) → H1 D = none → H2 D = some (.lst (ps.map dV)) → PartsOf ps (signsS c) → rTupOf K [.ref D] H2 fun y H3 => rCatA K (.ref p1) y H3 Q := fun D ps H2 k2 b2 _ hD pp => by
    have dr : Drawn f c ps := ⟨hm, hf, pp⟩
    refine ⟨D, ps.map dV, rfl, Or.inl ⟨sq_of hD, fun p2 hp2 => ?_⟩⟩
    have e3 : Ex H2 (L2.upd H2 p2 (.tup (ps.map dV))) := Ex.new hp2
    have h2 : (L2.upd H2 p2 (.tup (ps.map dV))) p2 = some (.tup (ps.map dV)) := upd_same
    generalize L2.upd H2 p2 (.tup (ps.map dV)) = H3 at e3 h2
    have k3 : KeepB b H H3 := (KeepB.ex e1).trans (k2.trans (KeepB.ex e3))
    have h13 := e3 _ _ (k2 p1 _ n1 h1)
    have lp : ps.length ≤ 4 := by have := dr.len; have := dr.c4; omega
    refine ⟨p1, p2, [.str f], ps.map dV, rfl, rfl, st_of h13, st_of h2, sz_of (by rw [List.length_map]; show 1 + _ ≤ _; omega), fun z => (by cases z), fun _ z => ?_, fun _ _ p3 hp3 => ?_⟩
    · have : ps = [] := List.map_eq_nil_iff.mp z
      subst this
      exact k p1 [] H3 k3 (b2.mono e3) h13 dr
    · exact k p3 ps _ (k3.trans (KeepB.ex (Ex.new hp3))) ((b2.mono e3).mono (Ex.new hp3)) upd_same dr
  exact lc_parts (te := tDGet (tCall spForms [] E0 tNil) (tVar iw)) (σ := σ) (H := H1) (Q := fun x H2 => rTupOf K [x] H2 fun y H3 => rCatA K (.ref p1) y H3 Q) hf src b1 hn hw h0 hj key
end
end HF
set_option maxRecDepth 100000
set_option maxHeartbeats 2000000
namespace HF
open PySem PySem.Spec PyProof.Rows L2 Evl
open LamX (CodeO TabS ExtN TabB codeO_ne)
/-! ### a def whose code object is known -/
structure FunC (K : PySem.W.Frag) (x qual : Str) (st : Stmt) (f c : Addr) (fd : FuncData) : Prop where
  ex : ∃ (oc : Value) (od : Option Addr) (kV doc pm : Value) (an : Option Addr) (ct : Value) (osl : Array (Option Value)), fd = PySem.W.fnOf x qual (defArgs st) (defBody st) (defScope st) .none kV doc pm an (.ref c) ct ∧ K.lookup f = some ⟨oc, od, .func fd, osl⟩ ∧ PySem.W.codeIn K (.ref c) qual = true
  kp : PySem.W.keepIn K (.ref f) = true
theorem FunC.fn {K : PySem.W.Frag} {x qual : Str} {st : Stmt} {f c : Addr} {fd : FuncData} (h : FunC K x qual st f c fd) : Fun K x qual st f fd := by
  obtain ⟨oc, od, kV, doc, pm, an, ct, osl, e, l, k⟩ := h.ex
  exact ⟨⟨oc, od, kV, doc, pm, an, .ref c, ct, osl, e, l, k⟩, h.kp⟩
theorem okGc {x qual : Str} {st : Stmt} {P : Program} {w : World} {K : PySem.W.Frag} {mg : Str → Option Value} {base : Heap} {f c : Addr} {fd : FuncData} {N ps : List Str} {k : Nat} {sp : Sp} (F : FunC K x qual st f c fd) (S : FnScope N ps (defScope st)) (len : ∀ vs H Q E, sp vs H Q E → vs.length = ps.length)
    (walk : ∀ (B : Around) (out : List Env) (t : Shared) (H : Hp) (vs : List V) (Q : VK) (E : XK), (B.deeper (envOfC qual (defScope st) t.heap.objs.size f (.ref c))).guards = some [] → Room k (B.deeper (envOfC qual (defScope st) t.heap.objs.size f (.ref c))) → sp vs H Q E →
      ∃ tm, PSs (cxOf CX0 P w K mg base N qual (defScope st) f (.ref c) B out t H E).nox (defBody st) tm ∧ tm { nx := fun _ H' => Q .non H', rt := Q } (start N vs) H) : FnOkG P w K mg base CX0 (k + 1) f fd ps sp := by
  obtain ⟨oc, od, kV, doc, pm, an, ct, osl, rfl, at_, code⟩ := F.ex
  refine fn_ofG at_ code S len fun B out t H vs Q E hG room prom => ?_
  obtain ⟨tm, hw, hr⟩ := walk B out t H vs Q E hG room prom
  exact ⟨tm, hw.nox, hr⟩
/-- a call of a def that may raise, where nothing is raised -/
theorem pe_hN {X : Cx} {k : Nat} {x : Str} {ps : List Str} {sp : Sp} {e : Expr} {es : List Expr} {t : TA} {p pos : Pos} (h : Has X.prog X.w X.K X.mg X.base (L2.CX X.prog X.w) k x ps sp) (hr : Room k X.A) (ha : PA X (e :: es) t) (hg : Gl X x := by rfl)
    (hdb : (x == ("__debug__" : Str)) = false := by decide) (he : starEach (e :: es) X.env = (false, eval e X.env) :: starEach es X.env := by rfl) (hpl : (backTo pos (starEach es X.env)).any (·.1) = false := by rfl) :
    PE X (.Call (.Name x p) (e :: es) [] pos) (tCall sp [] E0 t) := by
  obtain ⟨f, fd, a, b, c, d⟩ := h.ex
  exact pe_call d hr hg a b c .nil pass_cx ha hdb he hpl
/-! ### what is heard of both lambdas -/
section
variable {K : PySem.W.Frag} {σ : L2.St} {H : Hp} {Q : VK} {P CF CT : Addr} {q : Str}
theorem dueS_yes {ds : List PyData} (h : isFact (.tuple ds) = true) : dueS (.tuple ds) = .tuple [.str "told", .str (textOfD ds)] := by
  show (if isFact (.tuple ds) = true then PyData.tuple [.str "told", .str (textOfD ds)] else .tuple [.str "fact", .tuple ds]) = _
  rw [if_pos h]
theorem dueS_no {d : PyData} (h : isFact d = false) : dueS d = .tuple [.str "fact", d] := by
  cases d with
  | tuple ds =>
    show (if isFact (.tuple ds) = true then PyData.tuple [.str "told", .str (textOfD ds)] else .tuple [.str "fact", .tuple ds]) = _
    rw [if_neg (by rw [h]; exact Bool.false_ne_true)]
  | _ => rfl
theorem t_heardS {i : Nat} {x : V} {d : PyData} (hT : TabS H P q) (hi : σ[i]? = some (some x)) (rd : RdD H x d) (td : Tidy0 d) (k : ∀ p H', ExtN H H' → TabS H' P q → RdD H' (.ref p) (dueS d) → Q (.ref p) H') :
    tCall (spHeard77 CF CT lamS q (spShow CF)) [] E0 (tCons (tLamE P q lamS) (tCons (tVar i) tNil)) σ H Q := by
  refine ⟨hT, fun f c H1 e1 t1 nf hf hc => ⟨x, hi, f, c, x, fun y H2 => ∃ ds, d = .tuple ds ∧ isFact d = true ∧ y = .str (textOfD ds) ∧ Ex H1 H2, fun cls dd H2 => cls = .ref CF ∧ isFact d = false ∧ Ex H1 H2 ∧ H2 dd = some (.xd [("value", x)]), rfl, hf, hc, fun H2 e2 Q' E' hq he => ⟨x, d, rfl, (rd.monoN e1).mono e2, td, fun hF dd H' _ eH hx => he _ dd H' ⟨rfl, hF, e2.trans eH, hx⟩, fun ds hds hF H' e => hq _ H' ⟨ds, hds, hF, rfl, e2.trans e⟩⟩, fun y H2 t p H3 e3 h3 => ?_, fun cls dd H2 t => ?_⟩⟩
  · obtain ⟨ds, rfl, hF, rfl, e2⟩ := t
    refine k p H3 (e1.trans (ExtN.of (e2.trans e3))) (t1.ext (e2.trans e3)) ?_
    rw [dueS_yes hF]
    exact .tup h3 (.cons (.str _) (.cons (.str _) .nil))
  · obtain ⟨rfl, hF, e2, hx⟩ := t
    refine Or.inl ⟨rfl, x, hx, fun p H3 e3 h3 => k p H3 (e1.trans (ExtN.of (e2.trans e3))) (t1.ext (e2.trans e3)) ?_⟩
    rw [dueS_no hF]
    exact .tup h3 (.cons (.str _) (.cons ((rd.monoN e1).mono (e2.trans e3)) .nil))
theorem t_heardR {i : Nat} {x : V} {d : PyData} (hT : TabS H P q) (hi : σ[i]? = some (some x)) (rd : RdD H x d) (td : Tidy0 d) (k : ∀ p H', ExtN H H' → TabS H' P q → RdD H' (.ref p) (dueR d) → Q (.ref p) H') :
    tCall (spHeard77 CF CT lamR q (spRd CT)) [] E0 (tCons (tLamE P q lamR) (tCons (tVar i) tNil)) σ H Q := by
  refine ⟨hT, fun f c H1 e1 t1 nf hf hc => ⟨x, hi, f, c, x, fun y H2 => ∃ ds p xs, readD d = some ds ∧ y = .ref p ∧ Ex H1 H2 ∧ H2 p = some (.tup xs) ∧ RdDs H2 xs ds, fun cls dd H2 => cls = .ref CT ∧ readD d = none ∧ Ex H1 H2 ∧ H2 dd = some (.xd [("line", .int 0)]), rfl, hf, hc, fun H2 e2 Q' E' hq he => ⟨x, d, rfl, (rd.monoN e1).mono e2, td, fun hF dd H' _ eH hx => he _ dd H' ⟨rfl, hF, e2.trans eH, hx⟩, fun ds hds p xs H' e hp r => hq _ H' ⟨ds, p, xs, hds, rfl, e2.trans e, hp, r⟩⟩, fun y H2 t p H3 e3 h3 => ?_, fun cls dd H2 t => ?_⟩⟩
  · obtain ⟨ds, p2, xs, hds, rfl, e2, hp, r⟩ := t
    refine k p H3 (e1.trans (ExtN.of (e2.trans e3))) (t1.ext (e2.trans e3)) ?_
    unfold dueR
    rw [hds]
    exact .tup h3 (.cons (.str _) (.cons (.tup (e3 _ _ hp) (r.mono e3)) .nil))
  · obtain ⟨rfl, hF, e2, hx⟩ := t
    refine Or.inr ⟨rfl, 0, hx, fun p H3 e3 h3 => k p H3 (e1.trans (ExtN.of (e2.trans e3))) (t1.ext (e2.trans e3)) ?_⟩
    unfold dueR
    rw [hF]
    exact .tup h3 (.cons (.str _) (.cons (.int 0) .nil))
/-- if repr(..) != repr(due), where both have the same data -/
theorem s_same {tA : TE} {tu : TS} {D : Ends} {j : Nat} {x8 : V} {d : PyData} (hA : ∀ Q : VK, (∀ p H', ExtN H H' → TabS H' P q → RdD H' (.ref p) d → Q (.ref p) H') → tA σ H Q) (hj : σ[j]? = some (some x8)) (r8 : RdD H x8 d) (td : Tidy0 d) (k : ∀ H', ExtN H H' → TabS H' P q → D.nx σ H') :
    tIfS (tTest (tOp rNe (tCB rRepr (tCons tA tNil)) (tCB rRepr (tCons (tVar j) tNil)))) tu tNext D σ H := by
  have h := hA (fun v H1 => rRepr [v] H1 fun x H2 => tVar j σ H2 fun y H3 => rRepr [y] H3 fun z H4 => rNe x z H4 fun w H5 => ∃ b, w = .bl b ∧ if b = true then tu D σ H5 else D.nx σ H5) fun p H1 e1 t1 r1 => repr_at r1 td ⟨_, hj, repr_at (r8.monoN e1) td ⟨rfl, _, rfl, by
    have : (!decide (V.str d.shown = V.str d.shown)) = false := by rw [decide_eq_true rfl]; rfl
    rw [if_neg (by rw [this]; exact Bool.false_ne_true)]
    exact k H1 e1 t1⟩⟩
  exact h
theorem rdn_none {x : V} {d : PyData} (h : RdD H x d) : RdN H (fun _ => False) x d := RdD.mono (fun a o q => by rw [but_ne (fun z => z)]; exact q) h
theorem ev_reprD {te : TE} {S : Addr → Prop} {d : PyData} (h : EvD S te σ H d) (t : Tidy0 d) : Ev (tCB rRepr (tCons te tNil)) σ H (.str d.shown) := fun H1 e Q q => h H1 e _ fun x H2 e2 r => repr_at r.rd t (q H2 e2)
end
end HF
set_option maxRecDepth 100000
set_option maxHeartbeats 4000000
namespace HF
open PySem PySem.Spec PyProof.Rows L2 Evl
open LamX (CodeO TabS ExtN TabB codeO_ne)
theorem boot_repr7 : PySem.bootBuiltins "repr" = some (.builtin "repr") := by decide +kernel
def qLam : Str := ("_law_right.<locals>." : Str) ++ ("<lambda>" : Str)
theorem key_form {f : Str} (h : f ∈ lawForms.map (·.1)) : ∃ c, formL f = some c := by
  have := okForm_all f h
  unfold okForm at this
  cases e1 : formOf f with
  | none => rw [e1] at this; cases this
  | some g =>
    cases e2 : formL f with
    | none => rw [e1, e2] at this; cases this
    | some c => exact ⟨c, rfl⟩
theorem page_ok {f c : Str} {ps : List PyData} (h : Drawn f c ps) : OkT 55 (textOfD (.str f :: ps)) := by
  have l : (PyData.str f :: ps).length ≤ 5 := by have := h.len; have := h.c4; rw [List.length_cons]; omega
  exact (text_ok h.okt).le (by have := Nat.mul_le_mul_left 11 l; omega)
theorem tup_tidy {f c : Str} {ps : List PyData} (h : Drawn f c ps) : Tidy 440 (.tuple (.str f :: ps)) :=
  (tidy6 (fun o ho => tidyB_le (h.tidy o ho) (by decide)) (by have := h.len; have := h.c4; rw [List.length_cons]; omega)).2.1
theorem sum30 : ∀ {ds : List PyData}, (∀ o ∈ ds, tidyB 30 o = true) → PyData.weightAll ds ≤ 31 * ds.length
  | [], _ => by simp [PyData.weightAll]
  | o :: ds, h => by
    have h1 := sum30 (ds := ds) fun x hx => h x (List.mem_cons_of_mem _ hx)
    have ho := (tidy_of (h o List.mem_cons_self)).wt
    rw [PyData.weightAll, List.length_cons]
    omega
theorem told_tidy {f c : Str} {ps : List PyData} (h : Drawn f c ps) : Tidy0 (.list [.str (textOfD (.str f :: ps)), .str (textOfD (.str f :: ps)), .tuple (.str f :: ps), .tuple (.str f :: ps)]) := by
  have l : (PyData.str f :: ps).length ≤ 5 := by have := h.len; have := h.c4; rw [List.length_cons]; omega
  have t1 := okT_tidy (page_ok h) (by decide)
  have t2 := tup_tidy h
  have w1 : (PyData.str (textOfD (.str f :: ps))).weight ≤ 55 := by rw [PyData.weight]; exact (page_ok h).len
  have w2 : (PyData.tuple (.str f :: ps)).weight ≤ 155 := by
    rw [PyData.weight]
    have := sum30 h.tidy
    omega
  have d1 := t1.dp
  have d2 := t2.dp
  refine ⟨?_, ?_, ?_, ?_⟩
  · rw [PyData.showable, PyData.showableAll, PyData.showableAll, PyData.showableAll, PyData.showableAll, t1.sh, t2.sh]; rfl
  · rw [PyData.depth, PyData.depthAll, PyData.depthAll, PyData.depthAll, PyData.depthAll, PyData.depthAll]
    omega
  · rw [PyData.weight, PyData.weightAll, PyData.weightAll, PyData.weightAll, PyData.weightAll, PyData.weightAll]
    omega
  · rw [PyData.leavesShort, PyData.leavesShortAll, PyData.leavesShortAll, PyData.leavesShortAll, PyData.leavesShortAll, t1.lf, t2.lf]; rfl
theorem fact_size {d : PyData} (h : Tidy 440 d) : ∀ ds, d = .tuple ds → ds.length ≤ 30000 ∧ ∀ x ∈ ds, txD x ≤ 40000 := by
  rintro ds rfl
  have w := h.wt
  rw [PyData.weight] at w
  have l := wt_len ds
  refine ⟨by omega, fun x hx => ?_⟩
  have := tx_wt x
  have := wt_mem hx
  omega
theorem evd_show {H : Hp} {CF p : Addr} {f c : Str} {ps : List PyData} (dr : Drawn f c ps) (hp : H p = some (.tup (.str f :: ps.map dV))) (H1 : Hp) (e : Ex H H1) (Q : VK) (q : ∀ x H2, Ex H1 H2 → RdN H2 (fun _ => False) x (.str (textOfD (.str f :: ps))) → Q x H2) : spShow CF [.ref p] H1 Q E0 := by
  refine ⟨.ref p, .tuple (.str f :: ps), rfl, .tup (e _ _ hp) (.cons (.str f) (flat_rd dr.ps)), (tup_tidy dr).z (by decide), fun z => ?_, fun ds hds _ H2 e2 => ?_⟩
  · rw [dr.fact] at z
    cases z
  · cases hds
    exact q _ H2 e2 (.str _)
theorem evd_read {CT : Addr} {f c : Str} {ps : List PyData} (dr : Drawn f c ps) (H1 : Hp) (Q : VK) (q : ∀ x H2, Ex H1 H2 → RdN H2 (fun _ => False) x (.tuple (.str f :: ps)) → Q x H2) : spRd CT [.str (textOfD (.str f :: ps))] H1 Q E0 := by
  refine ⟨.str _, .str (textOfD (.str f :: ps)), rfl, .str _, (okT_tidy (page_ok dr) (by decide)).z (by decide), fun z => ?_, fun ds hds p xs H2 e2 hp r => ?_⟩
  · have z' : readFact (textOfD (.str f :: ps)) = none := z
    rw [dr.read] at z'
    cases z'
  · have z' : readFact (textOfD (.str f :: ps)) = some ds := hds
    rw [dr.read] at z'
    cases z'
    exact q (.ref p) H2 e2 (rdn_none (.tup hp r))
theorem rdn_ext {H H' : Hp} {S : Addr → Prop} {x : V} {d : PyData} (e : ExtN H H') (h : RdN H S x d) : RdN H' S x d := RdD.monoN (fun a o q n => by
  by_cases z : S a
  · rw [but_in z] at q
    cases q
  · rw [but_ne z] at q ⊢
    exact e a o q n) h
def spLR77 (PT : Addr) : Sp := fun vs H Q _ => ∃ (b : Addr) (n : Nat), vs = [.ref b] ∧ BoxAt H b n ∧ n ≤ 800000 ∧ TabS H PT qLam ∧ ∀ H', KeepT b H H' → BoxAt H' b (n + 20) → TabS H' PT qLam → Q (.bl true) H'
section
variable {P : Program} {w : World} {K : PySem.W.Frag} {mg : Str → Option Value} {base : Heap} {CH CF CT : Addr}
theorem sc_right7 : FnScope ["_law_box_here", "_law_word", "_law_thing", "_law_sort", "_law_page", "_law_one", "_law_told", "_law_odd", "_law_due", "_law_other"] ["_law_box_here"] (defScope s_law_right) := ⟨rfl, rfl, rfl, by decide +kernel, rfl, by decide +kernel, by decide +kernel⟩
abbrev N7 : List Str := ["_law_box_here", "_law_word", "_law_thing", "_law_sort", "_law_page", "_law_one", "_law_told", "_law_odd", "_law_due", "_law_other"]
theorem h_right7 (T : TxForms K mg) (TF : TxFact K w mg) (TE : TxErF K mg CF CT) (TH : TxH77 K mg CH CF CT) (TL : TxL77 K mg) (TW : TxLaw K mg) (sysb : SysIn base) {f c PT : Addr} {fd : FuncData} (F : FunC K "_law_right" "_law_right" s_law_right f c fd) (TB : TabB base mg c PT) : FnOkG P w K mg base CX0 10 f fd ["_law_box_here"] (spLR77 PT) := by
  have FO : Has P w K mg base CX0 1 "_law_forms" [] spForms := h_lforms TF TL
  have HT : Has P w K mg base CX0 1 "_law_take" ["_law_box_here", "_law_many"] spTake := h_take TW
  have HO : Has P w K mg base CX0 2 "_law_of" ["_law_box_here", "_law_some"] spOf := h_of T TW
  have MN : Has P w K mg base CX0 1 "_law_menu" ["_law_sort"] spMenu := h_menu TL
  have SH : Has P w K mg base (L2.CX P w) 5 "show_fact" ["fact"] (spShow CF) := h_show T TF TE
  have RE : Has P w K mg base (L2.CX P w) 6 "read_fact" ["text"] (spRd CT) := h_readf T TF TE
  have LF : Has P w K mg base CX0 2 "_law_is_fact" ["_law_thing"] spLFact := h_lfact TF TL
  have LI : Has P w K mg base CX0 3 "_law_fact_in" ["_law_page"] spLIn := h_lin TF TL
  have BE : Has P w K mg base CX0 3 "_law_bent" ["_law_box_here", "_law_thing"] spBent := h_bent T TF TW TL
  have BT : Has P w K mg base CX0 3 "_law_bent_text" ["_law_box_here", "_law_page"] spBT := h_bentT T TW TL
  have HS : Has P w K mg base CX0 8 "_law_heard" ["_law_call", "_law_thing"] (spHeard77 CF CT lamS qLam (spShow CF)) := h_heard7 TF TE TH TL (lamS_ok (SH.mono (by decide)))
  have HR : Has P w K mg base CX0 8 "_law_heard" ["_law_call", "_law_thing"] (spHeard77 CF CT lamR qLam (spRd CT)) := h_heard7 TF TE TH TL (lamR_ok RE)
  obtain ⟨fS, fdS, aS, FS, OS⟩ := f_show (P := P) (base := base) T TF TE
  have kS : KBn K fdS ["fact"] 0 ["fact"] (fun us ws => us ++ ws) (fun us ws => us ++ ws) := kbn_of (fun us ws => us ++ ws) FS (fun r1 r2 => r1.append r2) fun _ _ _ _ _ _ us ws h1 h2 => match us, ws, h1, h2 with | [], [_], _, _ => rfl
  obtain ⟨fR, fdR, aR, FR, OR_⟩ := f_readf (P := P) (base := base) T TF TE
  have kR : KBn K fdR ["text"] 0 ["text"] (fun us ws => us ++ ws) (fun us ws => us ++ ws) := kbn_of (fun us ws => us ++ ws) FR (fun r1 r2 => r1.append r2) fun _ _ _ _ _ _ us ws h1 h2 => match us, ws, h1, h2 with | [], [_], _, _ => rfl
  refine okGc F sc_right7 (fun vs H Q E h => ?_) (fun A outer s H vs Q E hG hr h => ?_)
  · obtain ⟨b, n, rfl, _⟩ := h
    rfl
  · obtain ⟨b, n, rfl, hb, hn, hT, kQ⟩ := h
    have hu := hr.units
    have hr1 := hr.mono (show 1 ≤ _ by decide)
    have hr2 := hr.mono (show 2 ≤ _ by decide)
    have hr3 := hr.mono (show 3 ≤ _ by decide)
    have hr5 := hr.mono (show 5 ≤ _ by decide)
    have hr6 := hr.mono (show 6 ≤ _ by decide)
    have hr8 := hr.mono (show 8 ≤ _ by decide)
    refine ⟨_, pss_cut (ps_set (i := 1) sc_right7.nd rfl (Or.inl rfl) (pe_h HO hr2 (pa_cons (pv 0) (pa_cons (pe_callB (r := rSortD) (call_sortD rfl) (by rfl) TL.sorted (by decide +kernel) (pa_cons (pe_h0 FO hr1) pa_nil)) pa_nil))))
      (pss_cut (ps_set (i := 2) sc_right7.nd rfl (Or.inl rfl) (pe_op op_catA (pe_tup (pa_cons (pv 1) pa_nil)) (pe_callTy call_tupR (by rfl) TF.tuple (by decide +kernel) (pa_cons (pe_lc (own := [("_law_sort", 3)]) (g := gName 3) (by rfl) sc_right7.nd (pi_str (pe_dget hr.u1 (pe_h0 FO hr1) (pv 1) (fun _ _ => rfl)))
          (blkOk_by (own := [("_law_sort", 3)]) (N := N7) (sc := defScope s_law_right) (by decide +kernel)) (fun _ _ _ _ _ => pg_name (i := 3) sc_right7.nd rfl (Or.inl rfl)) (fun _ _ _ _ _ => pts_nil)
          (fun _ _ _ _ _ => pe_h HO hr2 (pa_cons (pv 0) (pa_cons (pe_h MN hr1 (pa_cons (pv 3) pa_nil)) pa_nil)))) pa_nil))))
      (pss_cons (ps_set (i := 4) sc_right7.nd rfl (Or.inl rfl) (pe_join pe_str (pe_lc (own := [("_law_one", 5)]) (g := gName 5) (by rfl) sc_right7.nd (pi_tup (pv 2)) (blkOk_by (own := [("_law_one", 5)]) (N := N7) (sc := defScope s_law_right) (by decide +kernel))
          (fun _ _ _ _ _ => pg_name (i := 5) sc_right7.nd rfl (Or.inl rfl)) (fun _ _ _ _ _ => pts_nil) (fun _ _ _ _ _ => pe_callTy (r := rStrA) call_strA (by rfl) TF.str (by decide +kernel) (pa_cons (pv 5) pa_nil)))))
      (pss_cons (ps_set (i := 6) sc_right7.nd rfl (Or.inl rfl) (pe_lst (pa_cons (pe_hN SH hr5 (pa_cons (pv 2) pa_nil)) (pa_cons (pe_callK0 OS hr5 (by rfl) aS FS.kp kS pass_cx (pk_cons (pv 2) pk_nil)) (pa_cons (pe_hN RE hr6 (pa_cons (pv 4) pa_nil)) (pa_cons (pe_callK0 OR_ hr6 (by rfl) aR FR.kp kR pass_cx (pk_cons (pv 4) pk_nil)) pa_nil))))))
      (pss_cons (ps_if (pt_cmpR op_ne (pe_callB (r := rRepr) (call_repr sysb hu hG) (by rfl) TL.repr boot_repr7 (pa_cons (pv 6) pa_nil)) (pe_callB (r := rRepr) (call_repr sysb hu hG) (by rfl) TL.repr boot_repr7 (pa_cons (pe_lst (pa_cons (pv 4) (pa_cons (pv 4) (pa_cons (pv 2) (pa_cons (pv 2) pa_nil))))) pa_nil)) (nomark _)) (pss_one (ps_ret pe_bl)) pss_nil)
      (pss_cut (ps_set (i := 7) sc_right7.nd rfl (Or.inl rfl) (pe_h BE hr3 (pa_cons (pv 0) (pa_cons (pv 2) pa_nil))))
      (pss_cut (ps_set (i := 8) sc_right7.nd rfl (Or.inl rfl) (pe_ifExp (pt_val (pe_h LF hr2 (pa_cons (pv 7) pa_nil))) (pe_tup (pa_cons pe_str (pa_cons (pe_join pe_str (pe_lc (own := [("_law_one", 5)]) (g := gName 5) (by rfl) sc_right7.nd (pi_tup (pv 7)) (blkOk_by (own := [("_law_one", 5)]) (N := N7) (sc := defScope s_law_right) (by decide +kernel))
          (fun _ _ _ _ _ => pg_name (i := 5) sc_right7.nd rfl (Or.inl rfl)) (fun _ _ _ _ _ => pts_nil) (fun _ _ _ _ _ => pe_callTy (r := rStrA) call_strA (by rfl) TF.str (by decide +kernel) (pa_cons (pv 5) pa_nil)))) pa_nil))) (pe_tup (pa_cons pe_str (pa_cons (pv 7) pa_nil)))))
      (pss_cut (ps_if (pt_cmpR op_ne (pe_callB (r := rRepr) (call_repr sysb hu hG) (by rfl) TL.repr boot_repr7 (pa_cons (pe_h HS hr8 (pa_cons (pe_lam fineS TB rfl rfl) (pa_cons (pv 7) pa_nil))) pa_nil)) (pe_callB (r := rRepr) (call_repr sysb hu hG) (by rfl) TL.repr boot_repr7 (pa_cons (pv 8) pa_nil)) (nomark _)) (pss_one (ps_ret pe_bl)) pss_nil)
      (pss_cons (ps_for PassesOwn.never rfl (pi_list (pe_lst (pa_cons (pe_h BT hr3 (pa_cons (pv 0) (pa_cons (pv 4) pa_nil))) (pa_cons (pv 7) (pa_cons (pe_h HO hr2 (pa_cons (pv 0) (pa_cons (pe_lst (pa_cons pe_non (pa_cons pe_bl (pa_cons pe_int (pa_cons (pe_lst (pa_cons (pv 4) pa_nil)) (pa_cons (pe_tup (pa_cons (pv 4) pa_nil)) (pa_cons pe_dnewK (pa_cons pe_str (pa_cons pe_str pa_nil))))))))) pa_nil))) pa_nil))))) (pg_name (i := 9) sc_right7.nd rfl (Or.inl rfl))
        (pss_cut (ps_set (i := 6) sc_right7.nd rfl (Or.inl rfl) (pe_h LI hr3 (pa_cons (pv 9) pa_nil)))
        (pss_cut (ps_set (i := 8) sc_right7.nd rfl (Or.inl rfl) (pe_ifExp (pt_cmpR op_isN (pv 6) pe_non (nomark _)) (pe_tup (pa_cons pe_str (pa_cons pe_int pa_nil))) (pe_tup (pa_cons pe_str (pa_cons (pv 6) pa_nil)))))
        (pss_one (ps_if (pt_cmpR op_ne (pe_callB (r := rRepr) (call_repr sysb hu hG) (by rfl) TL.repr boot_repr7 (pa_cons (pe_h HR hr8 (pa_cons (pe_lam fineR TB rfl rfl) (pa_cons (pv 9) pa_nil))) pa_nil)) (pe_callB (r := rRepr) (call_repr sysb hu hG) (by rfl) TL.repr boot_repr7 (pa_cons (pv 8) pa_nil)) (nomark _)) (pss_one (ps_ret pe_bl)) pss_nil)))))
      (pss_one (ps_ret pe_bl)))))))))), ?_⟩
    -- the word
    refine q_cut (M := fun σ' H' => ∃ f, σ' = [some (V.ref b), some (V.str f), none, none, none, none, none, none, none, none] ∧ f ∈ lawForms.map (·.1) ∧ KeepB b H H' ∧ BoxAt H' b (n + 1)) ?_ fun σ1 H1 h1 => ?_
    · have h := t_word (σ := start N7 [V.ref b]) (H := H) (i := 0) (Q := fun v H' => ∃ f, (start N7 [V.ref b]).set 1 (some v) = [some (V.ref b), some (V.str f), none, none, none, none, none, none, none, none] ∧ f ∈ lawForms.map (·.1) ∧ KeepB b H H' ∧ BoxAt H' b (n + 1)) rfl hb (by omega) fun f H2 hf k2 b2 => ⟨f, rfl, hf, k2, b2⟩
      exact h
    obtain ⟨f, rfl, hfm, k1, b1⟩ := h1
    obtain ⟨c, hfc⟩ := key_form hfm
    -- the fact
    refine q_cut (M := fun σ' H' => ∃ p ps, σ' = [some (V.ref b), some (V.str f), some (V.ref p), none, none, none, none, none, none, none] ∧ Drawn f c ps ∧ KeepB b H H' ∧ BoxAt H' b (n + 5) ∧ H' p = some (.tup (.str f :: ps.map dV))) ?_ fun σ2 H2 h2 => ?_
    · have h := t_thing (K := K) (σ := [some (V.ref b), some (V.str f), none, none, none, none, none, none, none, none]) (H := H1) (b := b) (n := n + 1) (i := 0) (iw := 1) (j := 3) (vs := [3]) (Q := fun v H' => ∃ p ps, ([some (V.ref b), some (V.str f), none, none, none, none, none, none, none, none] : L2.St).set 2 (some v) = [some (V.ref b), some (V.str f), some (V.ref p), none, none, none, none, none, none, none] ∧ Drawn f c ps ∧ KeepB b H H' ∧ BoxAt H' b (n + 5) ∧ H' p = some (.tup (.str f :: ps.map dV)))
        hfm hfc rfl b1 (by omega) (fun _ => rfl) (fun _ => rfl) (fun _ => rfl) fun p ps H2 k2 b2 hp dr => ⟨p, ps, rfl, dr, k1.trans k2, b2.le (by omega), hp⟩
      exact h
    obtain ⟨p, ps, rfl, dr, k2, b2, hp⟩ := h2
    have hds : ∀ {Hx : Hp}, RdDs Hx (.str f :: ps.map dV) (.str f :: ps) := .cons (.str f) (flat_rd dr.ps)
    -- its text
    refine q_asg (v := .str (textOfD (.str f :: ps))) (ev_joinR (K := K) (er_l (el_parts (ds := .str f :: ps) (ert_v (i := 2) rfl hp) hds (fact_flat dr.fact) ((tup_tidy dr).z (by decide)) (fun _ => rfl) fun _ _ => ev_var rfl)) (tidy_join77 ((tup_tidy dr).z (by decide)))) fun H3 e3 => ?_
    have hp3 := e3 _ _ hp
    -- what is told of both
    have hA : EaD (fun _ => False) (tCons (tCall (spShow CF) [] E0 (tCons (tVar 2) tNil)) (tCons (tCallN 0 1 (spShow CF) (fun us ws => us ++ ws) E0 tNil (tCons (tVar 2) tNil)) (tCons (tCall (spRd CT) [] E0 (tCons (tVar 4) tNil)) (tCons (tCallN 0 1 (spRd CT) (fun us ws => us ++ ws) E0 tNil (tCons (tVar 4) tNil)) tNil))))
        [some (V.ref b), some (V.str f), some (V.ref p), none, some (V.str (textOfD (.str f :: ps))), none, none, none, none, none] H3 [.str (textOfD (.str f :: ps)), .str (textOfD (.str f :: ps)), .tuple (.str f :: ps), .tuple (.str f :: ps)] :=
      ead_cons (fun Ha e Q' q' => ⟨_, rfl, evd_show dr hp3 Ha e Q' q'⟩) (ead_cons (fun Ha e Q' q' => ⟨_, rfl, rfl, rfl, evd_show dr hp3 Ha e Q' q'⟩) (ead_cons (fun Ha e Q' q' => ⟨_, rfl, evd_read dr Ha Q' q'⟩) (ead_cons (fun Ha e Q' q' => ⟨_, rfl, rfl, rfl, evd_read dr Ha Q' q'⟩) ead_nil)))
    refine q_asgLD hA (by show 4 ≤ 1000; decide) fun l ls H4 hl e4 r4 => ?_
    have e5 : Ex H3 (L2.upd H4 l (.lst ls)) := e4.trans (Ex.new hl)
    have hl5 : (L2.upd H4 l (.lst ls)) l = some (.lst ls) := upd_same
    have r5 : RdDs (L2.upd H4 l (.lst ls)) ls _ := RdDs.mono but_ex (RdNs.mono (Ex.new (o := .lst ls) hl) r4)
    generalize L2.upd H4 l (.lst ls) = H5 at e5 hl5 r5
    have hp5 := e5 _ _ hp3
    refine q_when (b := !decide ((PyData.list [.str (textOfD (.str f :: ps)), .str (textOfD (.str f :: ps)), .tuple (.str f :: ps), .tuple (.str f :: ps)]).shown = (PyData.list [.str (textOfD (.str f :: ps)), .str (textOfD (.str f :: ps)), .tuple (.str f :: ps), .tuple (.str f :: ps)]).shown)) (et_test (ev_neS (ev_reprD (S := fun _ => False) (evd_of (ev_var rfl) fun Ha e => rdn_none (.lst (e _ _ hl5) (r5.mono e))) (told_tidy dr))
        (ev_reprD (S := fun _ => False) (evd_lst (fun _ z => z.elim) (ead_cons (evd_of (ev_var rfl) fun _ _ => .str _) (ead_cons (evd_of (ev_var rfl) fun _ _ => .str _) (ead_cons (evd_of (ev_var rfl) fun Ha e => rdn_none (.tup (e _ _ hp5) hds)) (ead_cons (evd_of (ev_var rfl) fun Ha e => rdn_none (.tup (e _ _ hp5) hds)) ead_nil)))) (by show 4 ≤ 1000; decide)) (told_tidy dr)))) (fun z _ _ => by simp at z) (fun _ H6 e6 => ?_)
    have e26 := e3.trans (e5.trans e6)
    have b6 := b2.mono e26
    have k6 : KeepB b H H6 := k2.trans (KeepB.ex e26)
    have hp6 := e26 _ _ hp
    -- the fact bent
    refine q_cut (M := fun σ' H' => ∃ x7 d7, σ' = [some (V.ref b), some (V.str f), some (V.ref p), none, some (V.str (textOfD (.str f :: ps))), none, some (V.ref l), some x7, none, none] ∧ Tidy 440 d7 ∧ BentOk d7 ∧ KeepB b H H' ∧ BoxAt H' b (n + 9) ∧ RdN H' (SB b) x7 d7) ?_ fun σ7 H7 h7 => ?_
    · have lp : (PyData.str f :: ps).length ≤ 5 := by have := dr.len; have := dr.c4; rw [List.length_cons]; omega
      exact ⟨_, rfl, _, rfl, b, p, n + 5, _, _, rfl, b6, by omega, hp6, .cons (.str f) (flat_rd dr.ps), fun o ho => tidyB_le (dr.tidy o ho) (by decide), fun o ho => okTB_le (dr.okt o ho) (by decide), by rw [List.length_cons]; omega, lp, fun x d H' td bo k' b' r' => ⟨x, d, rfl, td, bo, k6.trans k', b'.le (by omega), r'⟩⟩
    obtain ⟨x7, d7, rfl, td7, bo7, k7, b7, r7⟩ := h7
    have rd7 := r7.rd
    -- what is due of it
    refine q_cut (M := fun σ' H' => ∃ x8, σ' = [some (V.ref b), some (V.str f), some (V.ref p), none, some (V.str (textOfD (.str f :: ps))), none, some (V.ref l), some x7, some x8, none] ∧ Ex H7 H' ∧ RdD H' x8 (dueS d7)) ?_ fun σ8 H8 h8 => ?_
    · have hfe : EvT (tB (tCall spLFact [] E0 (tCons (tVar 7) tNil))) [some (V.ref b), some (V.str f), some (V.ref p), none, some (V.str (textOfD (.str f :: ps))), none, some (V.ref l), some x7, none, none] H7 (isFact d7) := et_B (ev_h (ea_cons (ev_var rfl) ea_nil) (spLFact_v rd7 (fact_size td7)))
      refine hfe H7 (Ex.refl _) _ fun Ha ea => ?_
      cases hF : isFact d7 with
      | true =>
        refine Eq.mpr (if_pos rfl) ?_
        have rda := rd7.mono ea
        cases rd7 with
        | tup hq r =>
          have hqa := ea _ _ hq
          refine (eu_tup (ea_cons ev_c (ea_cons (ev_joinR (K := K) (er_l (el_parts (ert_v (i := 7) rfl hqa) (r.mono ea) (fact_flat hF) (td7.z (by decide)) (fun _ => rfl) fun _ _ => ev_var rfl)) (tidy_join77 (td7.z (by decide)))) ea_nil)) (by show 2 ≤ 100000; decide)) Ha (Ex.refl _) _ fun p8 Hb _ eb hb8 => ⟨_, rfl, ea.trans eb, ?_⟩
          rw [dueS_yes hF]
          exact .tup hb8 (.cons (.str _) (.cons (.str _) .nil))
        | _ => cases hF
      | false =>
        refine Eq.mpr (if_neg Bool.false_ne_true) ?_
        refine (eu_tup (ea_cons ev_c (ea_cons (ev_var (v := x7) rfl) ea_nil)) (by show 2 ≤ 100000; decide)) Ha (Ex.refl _) _ fun p8 Hb _ eb hb8 => ⟨_, rfl, ea.trans eb, ?_⟩
        rw [dueS_no hF]
        exact .tup hb8 (.cons (.str _) (.cons (rd7.mono (ea.trans eb)) .nil))
    obtain ⟨x8, rfl, e8, r8⟩ := h8
    have hT8 : TabS H8 PT qLam := (HF.TabS.box hT hb k7).ext e8
    have rd8 := rd7.mono e8
    -- it is heard
    refine q_cut (M := fun σ' H' => σ' = [some (V.ref b), some (V.str f), some (V.ref p), none, some (V.str (textOfD (.str f :: ps))), none, some (V.ref l), some x7, some x8, none] ∧ ExtN H8 H' ∧ TabS H' PT qLam) ?_ fun σ9 H9 h9 => ?_
    · exact s_same (d := dueS d7) (fun Q' hQ => t_heardS hT8 rfl rd8 (td7.z (by decide)) hQ) rfl r8 (tidy_dueS td7 bo7) fun H' e' t' => ⟨rfl, e', t'⟩
    obtain ⟨rfl, e9, t9⟩ := h9
    have b9 := BoxAt.ext (b7.mono e8) e9
    have r9 := rdn_ext e9 (r7.mono e8)
    have pk := page_ok dr
    have k9 : KeepT b H H9 := (KeepT.of k7).trans ((KeepT.of (KeepB.ex e8)).trans (KeepT.ext e9))
    -- three values are read
    refine ⟨_, rfl, _, rfl, b, n + 9, textOfD (.str f :: ps), rfl, b9, by omega, pk.le (by decide), fun u H10 ou k10 b10 => ⟨x7, rfl, ?_⟩⟩
    have hS10 := box_some b10
    refine t_ofD (i := 0) (n := n + 9 + 3) (ds := odd8 (textOfD (.str f :: ps))) rfl (ead_cons (evd_of (x := .non) ev_c fun _ _ => .non) (ead_cons (evd_of (x := .bl true) ev_c fun _ _ => .bl true) (ead_cons (evd_of (x := .int 0) ev_c fun _ _ => .int 0)
      (ead_cons (evd_lst hS10 (ead_cons (evd_of (ev_var rfl) fun _ _ => .str _) ead_nil) (by show 1 ≤ 1000; decide)) (ead_cons (evd_tup hS10 (ead_cons (evd_of (ev_var rfl) fun _ _ => .str _) ead_nil) (by show 1 ≤ 1000; decide)) (ead_cons (evd_dict hS10)
      (ead_cons (evd_of (x := .str "") ev_c fun _ _ => .str _) (ead_cons (evd_of (x := .str "at") ev_c fun _ _ => .str _) ead_nil)))))))) b10 (by omega) (by unfold odd8; exact fun z => by cases z) (by show 8 ≤ 1000; decide) fun o d8 H11 hd8 k11 b11 r11 => ?_
    have r7b : RdN H11 (SB b) x7 d7 := RdN.keep (b := b) (S := SB b) rfl (k10.trans k11) r9
    refine ⟨sz_of (by show 3 ≤ 100000; decide), fun l3 hl3 => ?_⟩
    have e12 : Ex H11 (L2.upd H11 l3 (.lst [.str u, x7, o])) := Ex.new hl3
    have hl12 : (L2.upd H11 l3 (.lst [.str u, x7, o])) l3 = some (.lst [.str u, x7, o]) := upd_same
    generalize L2.upd H11 l3 (.lst [.str u, x7, o]) = H12 at e12 hl12
    have rall : RdDs H12 [.str u, x7, o] [.str u, d7, d8] := .cons (.str u) (.cons (r7b.rd.mono e12) (.cons (r11.rd.mono e12) .nil))
    have tall : ∀ d ∈ [PyData.str u, d7, d8], Tidy 440 d := fun d hd => by
      simp only [List.mem_cons, List.not_mem_nil, or_false] at hd
      rcases hd with rfl | rfl | rfl
      · exact okT_tidy ou (by decide)
      · exact td7
      · exact tidy8 (pk.le (by decide)) _ hd8
    have t12 : TabS H12 PT qLam := (HF.TabS.box (HF.TabS.box t9 b9 k10) b10 k11).ext e12
    have b12 := b11.mono e12
    have k12 : KeepT b H H12 := k9.trans (KeepT.of (k10.trans (k11.trans (KeepB.ex e12))))
    refine ⟨l3, rfl, ⟨_, sq_of hl12⟩, for_list (xs := [.str u, x7, o]) (fun _ σ' H' => ∃ y6 y8 y9, σ' = [some (V.ref b), some (V.str f), some (V.ref p), none, some (V.str (textOfD (.str f :: ps))), none, y6, some x7, y8, y9] ∧ ExtN H12 H' ∧ TabS H' PT qLam)
      ⟨_, _, _, rfl, ExtN.refl _, t12⟩ (fun i σ' H' _ q => ?_) (fun i x σ' H' hx q => ?_) (fun σ' H' q => ?_)⟩
    · obtain ⟨_, _, _, _, e, _⟩ := q
      exact sq_of (e _ _ hl12 (fun _ z => by cases z))
    · obtain ⟨y6, y8, y9, rfl, e13, t13⟩ := q
      obtain ⟨d, hd, rd0⟩ := RdDs.at_ rall hx
      have td := tall d (List.mem_of_getElem? hd)
      have rd := rd0.monoN e13
      dsimp only [gName]
      refine q_cut (M := fun σ' H2 => ∃ z6, σ' = [some (V.ref b), some (V.str f), some (V.ref p), none, some (V.str (textOfD (.str f :: ps))), none, some z6, some x7, y8, some x] ∧ Ex H' H2 ∧ ((z6 = .non ∧ readD d = none) ∨ ∃ r xs ds, z6 = .ref r ∧ readD d = some ds ∧ H2 r = some (.tup xs) ∧ RdDs H2 xs ds)) ?_ fun σ2 H2 h2 => ?_
      · refine ⟨_, rfl, x, d, rfl, rd, ?_, fun z H2 e2 => ⟨_, rfl, e2, Or.inl ⟨rfl, z⟩⟩, fun ds z r xs H2 e2 hr' rr => ⟨_, rfl, e2, Or.inr ⟨r, xs, ds, rfl, z, hr', rr⟩⟩⟩
        have := tx_wt d
        have := td.wt
        omega
      obtain ⟨z6, rfl, e14, hz⟩ := h2
      refine q_cut (M := fun σ' H3 => ∃ z8, σ' = [some (V.ref b), some (V.str f), some (V.ref p), none, some (V.str (textOfD (.str f :: ps))), none, some z6, some x7, some z8, some x] ∧ Ex H2 H3 ∧ RdD H3 z8 (dueR d)) ?_ fun σ3 H3 h3 => ?_
      · refine (et_test (ev_isN6 (ev_var (v := z6) rfl))) H2 (Ex.refl _) _ fun Ha ea => ?_
        rcases hz with ⟨rfl, z⟩ | ⟨r, xs, ds, rfl, z, hr', rr⟩
        · refine Eq.mpr (if_pos (decide_eq_true rfl)) ?_
          refine (eu_tup (vs := [.str "text", .int 0]) (ea_cons ev_c (ea_cons ev_c ea_nil)) (by show 2 ≤ 100000; decide)) Ha (Ex.refl _) _ fun p8 Hb _ eb hb8 => ⟨_, rfl, ea.trans eb, ?_⟩
          unfold dueR
          rw [z]
          exact .tup hb8 (.cons (.str _) (.cons (.int 0) .nil))
        · refine Eq.mpr (if_neg (by rw [decide_eq_false (by intro z; cases z)]; exact Bool.false_ne_true)) ?_
          refine (eu_tup (vs := [.str "told", .ref r]) (ea_cons ev_c (ea_cons (ev_var rfl) ea_nil)) (by show 2 ≤ 100000; decide)) Ha (Ex.refl _) _ fun p8 Hb _ eb hb8 => ⟨_, rfl, ea.trans eb, ?_⟩
          unfold dueR
          rw [z]
          exact .tup hb8 (.cons (.str _) (.cons (.tup ((ea.trans eb) _ _ hr') (rr.mono (ea.trans eb))) .nil))
      obtain ⟨z8, rfl, e15, r15⟩ := h3
      have eN := e14.trans e15
      exact s_same (d := dueR d) (fun Q' hQ => t_heardR (t13.ext eN) rfl (rd.mono eN) (td.z (by decide)) hQ) rfl r15 (tidy_dueR d) fun H4 e4 t4 => ⟨_, _, _, rfl, e13.trans ((ExtN.of eN).trans e4), t4⟩
    · obtain ⟨y6, y8, y9, rfl, e13, t13⟩ := q
      exact kQ H' (k12.trans (KeepT.ext e13)) ((BoxAt.ext b12 e13).le (by omega)) t13
end
end HF
set_option maxRecDepth 100000
set_option maxHeartbeats 4000000
namespace HF
open PySem PySem.Spec PyProof.Rows L2 Evl
open LamX (CodeO TabS ExtN TabB codeO_ne)
theorem boot_max7 : PySem.bootBuiltins "max" = some (.builtin "max") := by decide +kernel
theorem boot_min7 : PySem.bootBuiltins "min" = some (.builtin "min") := by decide +kernel
structure TxTop7 (mg : Str → Option Value) : Prop where
  max : mg "max" = none
  min : mg "min" = none
  range : mg "range" = none
theorem sql_ext {K : PySem.W.Frag} {H H' : Hp} {a : Addr} {xs : List V} (e : ExtN H H') (h : SqL K H a xs) : SqL K H' a xs := by
  rcases h with (h | ⟨o, h⟩) | h
  · exact Or.inl (Or.inl (e _ _ h (fun _ z => by cases z)))
  · exact Or.inl (Or.inr ⟨o, e _ _ h (fun _ z => by cases z)⟩)
  · exact Or.inr h
theorem rep_snoc7 (n : Nat) : (List.replicate n true).map V.bl ++ [V.bl true] = (List.replicate (n + 1) true).map V.bl := by
  rw [List.replicate_succ', List.map_append]
  rfl
def spTop7 (K : PySem.W.Frag) (PT : Addr) : Sp := fun vs H Q _ => ∃ (sc : Addr) (ns : List Int), vs = [.ref sc] ∧ SqL K H sc (ns.map V.int) ∧ ns.length ≤ 63 ∧ TabS H PT qLam ∧ ∀ H', Q (.bl true) H'
section
variable {P : Program} {w : World} {K : PySem.W.Frag} {mg : Str → Option Value} {base : Heap}
theorem sc_top7 : FnScope ["_law_script", "_law_k", "_law_box_here", "_law_turn"] ["_law_script"] (defScope s_law) := ⟨rfl, rfl, rfl, by decide +kernel, rfl, by decide +kernel, by decide +kernel⟩
theorem h_top7 {f PT : Addr} {fd : FuncData} (F : Fun K "law" "law" s_law f fd) (T : TxForms K mg) (TL : TxLaw K mg) (TT : TxTop7 mg) (HL : HasG P w K mg base 10 "_law_right" ["_law_box_here"] (spLR77 PT)) : FnOkG P w K mg base CX0 11 f fd ["_law_script"] (spTop7 K PT) := by
  have HB : Has P w K mg base CX0 1 "_law_box" ["_law_script", "_law_k"] (spBox K) := h_box T TL
  refine okG F sc_top7 (fun vs H Q E h => ?_) (fun cdv A outer s H vs Q E hG hr h => ?_)
  · obtain ⟨sc, ns, rfl, _⟩ := h
    rfl
  · obtain ⟨sc, ns, rfl, hS, hl, hT, kQ⟩ := h
    refine ⟨_, pss_cons (ps_for PassesOwn.never rfl (pi_range1 (by rfl) TT.range (pa_cons (pe_callB (call_max2 rfl) (by rfl) TT.max boot_max7 (pa_cons pe_int (pa_cons (pe_callB (call_min2 rfl) (by rfl) TT.min boot_min7 (pa_cons pe_int (pa_cons (pe_callB call_lenT (by rfl) T.len PySem.boot_len (pa_cons (pv 0) pa_nil)) pa_nil))) pa_nil))) pa_nil)) (pg_name (i := 1) sc_top7.nd rfl (Or.inl rfl))
        (pss_cons (ps_set (i := 2) sc_top7.nd rfl (Or.inr rfl) (pe_h HB (hr.mono (by decide)) (pa_cons (pv 0) (pa_cons (pv 1) pa_nil))))
          (pss_one (ps_if (pt_not (pt_val (pe_callB (cr_all rfl) (by rfl) T.all (by decide +kernel) (pa_cons (pe_lc (own := [("_law_turn", 3)]) (g := gName 3) (te := tCall (spLR77 PT) [] E0 (tCons (tVar 2) tNil)) (by rfl) sc_top7.nd (pi_range1 (by rfl) TT.range (pa_cons pe_int pa_nil))
            (blkOk_by (own := [("_law_turn", 3)]) (N := ["_law_script", "_law_k", "_law_box_here", "_law_turn"]) (sc := defScope s_law) (by decide +kernel)) (fun _ _ _ _ _ => pg_name (i := 3) sc_top7.nd rfl (Or.inl rfl)) (fun _ _ _ _ _ => pts_nil)
            (fun _ _ _ _ _ => pe_hG HL hr hG (pa_cons (pv 2) pa_nil))) pa_nil)))) (pss_one (ps_ret pe_bl)) pss_nil))))
      (pss_one (ps_ret pe_bl)), ?_⟩
    have hmm : ∀ (Hx : Hp), Ex H Hx → EvA (tCons (tCB (fun xs H Q => ∃ i j, xs = [.int i, .int j] ∧ Q (.int (if j > i then j else i)) H) (tCons (tC (.int 1)) (tCons (tCB (fun xs H Q => ∃ i j, xs = [.int i, .int j] ∧ Q (.int (if j < i then j else i)) H) (tCons (tC (.int 3)) (tCons (tCB (rLenT K) (tCons (tVar 0) tNil)) tNil))) tNil))) tNil)
        (start ["_law_script", "_law_k", "_law_box_here", "_law_turn"] [V.ref sc]) Hx [.int (max 1 (min 3 (ns.length : Int)))] := fun Hx ex => ea_cons (fun H1 e Q q => ?_) ea_nil
    rotate_left
    · have hlen := ev_lenSq (K := K) (σ := start ["_law_script", "_law_k", "_law_box_here", "_law_turn"] [V.ref sc]) (ta := tVar 0) (H := H1) (ev_var rfl) (ex_l (ex.trans e) hS)
      rw [List.length_map] at hlen
      refine hlen H1 (Ex.refl _) _ fun H2 e2 => ?_
      refine ⟨3, (ns.length : Int), rfl, 1, _, rfl, ?_⟩
      have e3 : (if (if (ns.length : Int) < 3 then (ns.length : Int) else 3) > 1 then (if (ns.length : Int) < 3 then (ns.length : Int) else 3) else 1) = max 1 (min 3 (ns.length : Int)) := by
        simp only [Int.max_def, Int.min_def]
        split <;> split <;> split <;> split <;> omega
      rw [e3]
      exact q H2 e2
    have n0 : 0 ≤ max 1 (min 3 (ns.length : Int)) ∧ max 1 (min 3 (ns.length : Int)) ≤ 3 := by omega
    refine q_forR1 (hmm H (Ex.refl H)) ⟨n0.1, by omega⟩ (fun _ σ' H' => ExtN H H' ∧ TabS H' PT qLam ∧ ∃ y1 y2, σ' = [some (.ref sc), y1, y2, none]) (fun H1 e1 => ⟨ExtN.of e1, hT.ext e1, none, none, rfl⟩) (fun i σ' H' hi p => ?_) (fun σ' H' _ => s_ret ev_c fun H1 _ => kQ H1)
    obtain ⟨e1, t1, y1, y2, rfl⟩ := p
    refine ⟨_, rfl, _, rfl, sc, ns, i, rfl, sql_ext e1 hS, by omega, fun b H2 u v hb0 e2 hb2 u0 u1 v0 v1 => ?_⟩
    have b2 : BoxAt H2 b 0 := ⟨u, v, 0, hb2, u0, u1, v0, v1, Int.le_refl _, Int.le_refl _⟩
    have back : ∀ H3, KeepT b H2 H3 → ExtN H H3 := fun H3 k a o h n => by
      have h1 := e1 a o h n
      exact k a o (ne_of_none h1 hb0) (e2 a o h1) n
    have t2 := t1.ext e2
    refine ⟨40, rfl, by decide, by decide, fun D hD => ?_⟩
    have nDb : D ≠ b := Ne.symm (ne_of_none hb2 hD)
    refine lc_range (lo := 0) (n := 40) (fun j H3 => KeepT b H2 H3 ∧ BoxAt H3 b (20 * j) ∧ TabS H3 PT qLam ∧ H3 D = some (.lst ((List.replicate j true).map V.bl))) ⟨KeepT.of (KeepB.ex (Ex.new hD)), b2.mono (Ex.new hD), t2.ext (Ex.new hD), upd_same⟩ (fun j H3 hj p => ⟨rfl, ?_⟩) (fun H3 p => ?_)
    · obtain ⟨k3, b3, t3, d3⟩ := p
      dsimp only [tYes]
      rw [if_pos rfl]
      refine ⟨_, rfl, b, 20 * j, rfl, b3, by omega, t3, fun H4 k4 b4 t4 => ⟨_, k4 D _ nDb d3 (fun _ z => by cases z), sz_lt (by rw [List.length_map, List.length_replicate]; omega), ?_, ?_, ?_, ?_⟩⟩
      · intro a o na ha nt
        rw [upd_ne (ne_of_none ha hD)]
        exact k4 a o na (k3 a o na ha nt) nt
      · obtain ⟨u4, v4, w4, a1, a2⟩ := b4.le (m := 20 * (j + 1)) (by omega)
        exact ⟨u4, v4, w4, by rw [upd_ne (Ne.symm nDb)]; exact a1, a2⟩
      · obtain ⟨ps, g1, g2, g3⟩ := t4
        have d4 := k4 D _ nDb d3 (fun _ z => by cases z)
        refine ⟨ps, by rw [upd_ne (fun z => by rw [z, d4] at g1; cases g1)]; exact g1, g2, fun pos cv hc => ?_⟩
        obtain ⟨c, c1, c2⟩ := g3 pos cv hc
        exact ⟨c, c1, by rw [upd_ne (fun z => by rw [z, d4] at c2; cases c2)]; exact c2⟩
      · rw [upd_same, rep_snoc7]
    · obtain ⟨k3, b3, t3, d3⟩ := p
      refine ⟨D, List.replicate 40 true, rfl, sq_of d3, true, rfl, ?_⟩
      exact ⟨back H3 k3, t3, _, _, rfl⟩
end
end HF
set_option maxRecDepth 100000
set_option maxHeartbeats 2000000
namespace HF
open PySem PySem.Spec PyProof.Rows L2
open LamX (TabB)
section
variable {P : Program} {w : World} {K : PySem.W.Frag} {mg mb : Str → Option Value} {k : Nat} {fa a c T : Addr} {fd : FuncData} {x : Str} {sp : Sp} {t : Shared} {vs : List Value} {ns : List Int}
/-- the script and the table T of code objects alone may be tracked -/
structure AloneT (K : PySem.W.Frag) (a T : Addr) (H : Hp) : Prop where
  tab : H T = some (.tbl #[])
  only : ∀ b, b ≠ T → H b = none ∨ ∃ o xs, H b = some (.frz o (.lst xs))
  self : ∀ b, b ≠ T → H b ≠ none → b = a
  not_ : H a ≠ none → K.lookup a = none
theorem call_aloneT (KX : K.In t.heap) (hns : t.heap.Ns mainGlobals mg) (hb : t.heap.Ns builtinsNs mb) (hbb : ∀ y : Str, y ≠ "__name__" → mb y = bootBuiltins y) (hlim : t.heap.NoLimit) (hsys : ∃ mm, t.heap.Ns sysModules mm) (hg : t.gens = #[])
    (hT : t.heap.get? T = some { cls := .none, data := .fields #[] }) (nT : K.lookup T = none) (hc : PySem.W.CodeHd t.heap c T)
    (hbm : ∃ (bm : Addr) (ob : Obj), mg "__builtins__" = some (.ref bm) ∧ bm ≠ builtinsNs ∧ t.heap.get? bm = some ob ∧ ob.cls = .type "module" ∧ ob.dict = some builtinsNs ∧ ob.data = .plain)
    (ha : t.heap.get? a = some { cls := .type "list", data := .seq vs.toArray }) (room : Room k callerA) (F : ∀ base : Heap, K.In base → base.Ns mainGlobals mg → (∃ o, base.get? sysModules = some o) → TabB base mg c T → FnOkG P w K mg base CX0 k fa fd [x] sp)
    (hbind : ∀ (t : Shared) (u : Value), BindsTo t fd ⟨[u], []⟩ [(x, u)]) {H : Hp} (al : AloneT K a T H) (ok : HOk P w H t.heap) (prom : sp [.ref a] H (fun v _ => v = .bl true) fun _ _ _ => False) :
    codeAny (model P w) callerA (.call (.ref fa) ⟨[.ref a], []⟩) (Told t) t := by
  have aT : a ≠ T := fun z => by
    rw [z, hT] at ha
    cases ha
  -- what is neither a list nor that table is not tracked
  have free : ∀ {b : Addr} {ob : Obj}, t.heap.get? b = some ob → (∀ ys n, ob.data ≠ .seq ys n) → ob.data ≠ .fields #[] → H b = none := fun {b ob} e n1 n2 => Classical.byContradiction fun z => by
    by_cases y : b = T
    · rw [y, hT] at e
      cases e
      exact n2 rfl
    · have := al.self b y z
      rw [this, ha] at e
      cases e
      exact n1 _ _ rfl
  have stay : ∀ {b : Addr} {ob : Obj}, t.heap.get? b = some ob → (∀ ys n, ob.data ≠ .seq ys n) → ob.data ≠ .fields #[] → (hidT t.heap H).get? b = some ob := fun e n1 n2 => hidT_get e (free e n1 n2)
  have dict1 : ∀ {ob : Obj} {es : Array DictEntry} {ep : Nat}, ob.data = .dict es ep → ∀ ys n, ob.data ≠ .seq ys n := fun d ys n z => by rw [d] at z; cases z
  have dict2 : ∀ {ob : Obj} {es : Array DictEntry} {ep : Nat}, ob.data = .dict es ep → ob.data ≠ .fields #[] := fun d z => by rw [d] at z; cases z
  have inNs : ∀ {b : Addr} {m : Str → Option Value}, t.heap.Ns b m → (hidT t.heap H).Ns b m := fun ⟨ob, es, ep, e, d, rest⟩ => ⟨ob, es, ep, stay e (dict1 d) (dict2 d), d, rest⟩
  have inK : K.In (hidT t.heap H) := fun b ob e => hidT_get (KX b ob e) (Classical.byContradiction fun z => by
    by_cases y : b = T
    · rw [y, nT] at e
      cases e
    · have q := al.self b y z
      rw [q] at e z
      rw [al.not_ z] at e
      cases e)
  have md : Mod K mg (hidT t.heap H) := by
    obtain ⟨mc, c1, c2⟩ := hlim
    exact ⟨inK, inNs hns, ⟨mb, inNs hb, hbb⟩, ⟨mc, inNs c1, c2⟩⟩
  have tb : TabB (hidT t.heap H) mg c T := by
    obtain ⟨og, eg, epg, g1, g2, _⟩ := id hns
    refine ⟨?_, ?_, fun z => ?_⟩
    · obtain ⟨o, us, file, tf, flags, tg, inF, text, tt, e1, r1, r2, r3, r4⟩ := id hc
      refine ⟨o, us, file, tf, flags, tg, inF, text, tt, stay e1 (fun ys n z => ?_) (fun z => ?_), r1, r2, r3, r4⟩
      · rw [r2] at z; cases z
      · rw [r2] at z
        cases z
        simp at r3
    · obtain ⟨bm, ob, b1, b2, b3, b4, b5, b6⟩ := hbm
      refine ⟨bm, ob, b1, b2, fun q => ?_, fun q => ?_, stay b3 (fun ys n z => ?_) (fun z => ?_), b4, b5, b6⟩
      · rw [q, g1] at b3
        cases b3
        rw [g2] at b6; cases b6
      · rw [q, hT] at b3
        cases b3; cases b6
      · rw [b6] at z; cases z
      · rw [b6] at z; cases z
    · rw [z, hT] at g1
      cases g1; cases g2
  have env0 : Env0 P w K mg (hidT t.heap H) callerA [] t H :=
    { frames := rfl, mod := md, bs := fun b ob e => of_hidT e, bsz := Nat.le_of_eq (hidT_size _ _), funs := trivial, frf := fun b hb => (by cases (show b ∈ ([] : List Addr) from hb)), hok := ok, bare := .of_eq hg }
  have sysb : ∃ o, (hidT t.heap H).get? sysModules = some o := by
    obtain ⟨mm, z⟩ := hsys
    obtain ⟨o, _, _, e, _⟩ := inNs z
    exact ⟨o, e⟩
  refine codeAny_mono ((F _ inK (inNs hns) sysb tb).run callerA [] t H ⟨[.ref a], []⟩ [.ref a] [.ref a] _ _ rfl room env0 (hbind t (.ref a)) (.cons rfl .nil) prom) fun res t2 ended => ?_
  cases res with
  | error er => exact (show False from ended).elim
  | ok flow =>
    cases flow with
    | ret u =>
      obtain ⟨v, H', os, bare, un, ok', rel, goal⟩ := ended
      cases (show v = V.bl true from goal)
      cases (show u = Value.bool true from rel)
      have same : ∀ b ob, b ≠ T → t.heap.get? b = some ob → t2.heap.get? b = some ob := fun b ob nb e => by
        cases track : H b with
        | none => exact un.keep b ob e track (fun z => by cases (show b ∈ ([] : List Addr) from z)) (by simp)
        | some o2 =>
          rcases al.only b nb with z | ⟨o3, xs, z⟩
          · rw [z] at track
            cases track
          · have before := (ok b _ z).1
            have after := (ok' b _ (un.frzs b o3 _ z)).1
            rw [before] at e
            rw [← Option.some.inj e]
            exact after
      obtain ⟨more, hm⟩ : ∃ more : Array Value, t2.heap.get? T = some { cls := .none, data := .fields more } := by
        obtain ⟨m, z⟩ := un.tbls T #[] al.tab
        exact ⟨_, ok' T _ z⟩
      refine ⟨rfl, ⟨fun b ob e => ?_, fun b ob e => ?_⟩, os, bare⟩
      · by_cases nb : b = T
        · rw [nb] at e ⊢
          rw [hT] at e
          cases e
          exact Or.inr (Or.inl ⟨(hc.tab hT).isCodeTable, rfl, #[], more, rfl, by rw [Array.empty_append]; exact hm⟩)
        · exact Or.inl (same b ob nb e)
      · by_cases nb : b = T
        · exact ⟨_, by rw [nb]; exact hm⟩
        · exact ⟨ob, same b ob nb e⟩
    | _ => exact (show False from ended).elim
theorem call_lawT (KX : K.In t.heap) (hns : t.heap.Ns mainGlobals mg) (hb : t.heap.Ns builtinsNs mb) (hbb : ∀ y : Str, y ≠ "__name__" → mb y = bootBuiltins y) (hlim : t.heap.NoLimit) (hsys : ∃ mm, t.heap.Ns sysModules mm) (hg : t.gens = #[])
    (hT : t.heap.get? T = some { cls := .none, data := .fields #[] }) (nT : K.lookup T = none) (hc : PySem.W.CodeHd t.heap c T)
    (hbm : ∃ (bm : Addr) (ob : Obj), mg "__builtins__" = some (.ref bm) ∧ bm ≠ builtinsNs ∧ t.heap.get? bm = some ob ∧ ob.cls = .type "module" ∧ ob.dict = some builtinsNs ∧ ob.data = .plain)
    (ha : t.heap.get? a = some { cls := .type "list", data := .seq vs.toArray }) (hi : IntsAre vs ns) (hl : ns.length ≤ sizeLine) (room : Room k callerA) (F : ∀ base : Heap, K.In base → base.Ns mainGlobals mg → (∃ o, base.get? sysModules = some o) → TabB base mg c T → FnOkG P w K mg base CX0 k fa fd [x] sp)
    (hbind : ∀ (t : Shared) (u : Value), BindsTo t fd ⟨[u], []⟩ [(x, u)]) (prom : ∀ H : Hp, H T = some (.tbl #[]) → SqL K H a (ns.map V.int) → sp [.ref a] H (fun v _ => v = .bl true) fun _ _ _ => False) :
    codeAny (model P w) callerA (.call (.ref fa) ⟨[.ref a], []⟩) (Told t) t := by
  have rel := vals_ints hi
  have aT : a ≠ T := fun z => by
    rw [z, hT] at ha
    cases ha
  cases own : K.lookup a with
  | some ob =>
    have e1 := KX a ob own
    rw [ha] at e1
    cases e1
    let H : Hp := L2.upd (fun _ => none) T (.tbl #[])
    have at_ : H T = some (.tbl #[]) := upd_same
    have off : ∀ b, b ≠ T → H b = none := fun b z => upd_ne z
    have al : AloneT K a T H := ⟨at_, fun b n => Or.inl (off b n), fun b n z => absurd (off b n) z, fun z => absurd (off a aT) z⟩
    refine call_aloneT KX hns hb hbb hlim hsys hg hT nT hc hbm ha room F hbind al (fun b o2 z => ?_) (prom _ at_ (Or.inr ⟨_, vs.toArray, _, own, rfl, rfl, rfl, by rw [List.size_toArray, hi.length]; exact hl, by simpa using rel⟩))
    by_cases y : b = T
    · subst y
      rw [at_] at z
      cases z
      exact hT
    · rw [off b y] at z
      cases z
  | none =>
    let H : Hp := L2.upd (L2.upd (fun _ => none) T (.tbl #[])) a (.frz { cls := .type "list", data := .seq vs.toArray } (.lst (ns.map V.int)))
    have at_ : H a = some (.frz { cls := .type "list", data := .seq vs.toArray } (.lst (ns.map V.int))) := upd_same
    have atT : H T = some (.tbl #[]) := by
      show L2.upd _ a _ T = _
      rw [upd_ne (Ne.symm aT), upd_same]
    have off : ∀ b, b ≠ T → b ≠ a → H b = none := fun b z y => by
      show L2.upd _ a _ b = _
      rw [upd_ne y, upd_ne z]
    have al : AloneT K a T H := ⟨atT, fun b n => by
      by_cases y : b = a
      · rw [y]
        exact Or.inr ⟨_, _, at_⟩
      · exact Or.inl (off b n y), fun b n z => Classical.byContradiction fun y => z (off b n y), fun _ => own⟩
    refine call_aloneT KX hns hb hbb hlim hsys hg hT nT hc hbm ha room F hbind al (fun b o2 z => ?_) (prom _ atT (Or.inl (Or.inr ⟨_, at_⟩)))
    by_cases y : b = a
    · subst y
      rw [at_] at z
      cases z
      exact ⟨ha, by rw [List.length_map]; exact hl, vs, _, rel, ha⟩
    · by_cases y2 : b = T
      · subst y2
        rw [atT] at z
        cases z
        exact hT
      · rw [off b y2 y] at z
        cases z
end
/-- the end, for a law with lambdas in the def x0 whose defs call repr of containers -/
theorem walk_ofGT {l : PySem.W.OpenLaw} {n k : Nat} {q : Program} {loose : List Str} {XP : (Str → Option Value) → Heap → Prop} {YP : World → Heap → Prop} {d : DefRec} {K : Params → PySem.W.Frag} {sp : World → Addr → Sp} {x x0 : Str}
    (most : l.most = some n) (small : n ≤ sizeLine) (plain : d.params.defaults = []) (imp : importsNone q = true) (room : Room k callerA) (rec0 : ((recsOf q).find? fun e => e.name == x0).isSome = true) (known : ∀ (w : World) (h : Heap), YP w h → (K w.params).In h)
    (F : ∀ (w : World) (mg : Str → Option Value) (fa : Addr) (h : Heap), (K w.params).In h → h.Ns mainGlobals mg → mg d.name = some (.ref fa) →
      ∃ (fd : FuncData) (c T : Addr), PySem.W.tabIn (K w.params) x0 = some (c, T) ∧ (K w.params).lookup T = none ∧ (∀ (t : Shared) (u : Value), BindsTo t fd ⟨[u], []⟩ [(x, u)]) ∧ (∀ base : Heap, (K w.params).In base → base.Ns mainGlobals mg → (∃ o, base.get? sysModules = some o) → TabB base mg c T → FnOkG l.prog w (K w.params) mg base CX0 k fa fd [x] (sp w T)))
    (prom : ∀ (w : World) (H : Hp) (a T : Addr) (ns : List Int), ns.length ≤ n → (∀ z ∈ ns, Builtin.Int.intBits z ≤ 1048576) → H T = some (.tbl #[]) → SqL (K w.params) H a (ns.map V.int) → sp w T [.ref a] H (fun v _ => v = .bl true) fun _ _ _ => False) :
    PySem.W.WalkO q loose XP YP l.row.toRowW d [] (fun f vs => PySem.call f vs) := by
  refine Att.attach_callB most plain fun w t0 t mg mb fa ob pm cd doc a vs ns G Y at_ fdat hcd hmg script areInts len bits gens => ?_
  obtain ⟨fd, c, T, ht, nT, binds, ok⟩ := F w mg fa _ (known w _ Y) G.T.g hmg
  obtain ⟨d0, hd0⟩ := Option.isSome_iff_exists.mp rec0
  obtain ⟨ch, hT⟩ := PySem.W.tab_of G.T (known w _ Y) hd0 ht
  exact call_lawT (known w _ Y) G.T.g G.T.b G.T.builtins G.T.nolimit (by
    obtain ⟨mm, z, _⟩ := (G.T.seer imp).mods
    exact ⟨mm, z⟩) gens hT nT ch G.T.bmain script areInts (Nat.le_trans len small) room ok binds fun H o s => prom w H a T ns len bits o s
end HF
set_option maxRecDepth 100000
set_option maxHeartbeats 2000000
namespace HF
open PySem L2 Evl
open LamX (TabS TabB)
/-! ### what the top has left, each a fact of its own -/
structure DK (K : PySem.W.Frag) (x : Str) (st : Stmt) : Prop where
  ex : ∃ (f : Addr) (fd : FuncData), PySem.W.nsIn K mainGlobals x = some (some (.ref f)) ∧ Fun K x x st f fd
theorem dk_mk {K : PySem.W.Frag} {x : Str} {st : Stmt} {f : Addr} {od an : Option Addr} {sl : Array (Option Value)} {oc kV dc pm cd ct : Value} (a : PySem.W.nsIn K mainGlobals x = some (some (.ref f)))
    (l : K.lookup f = some ⟨oc, od, .func (PySem.W.fnOf x x (defArgs st) (defBody st) (defScope st) .none kV dc pm an cd ct), sl⟩) (c : PySem.W.codeIn K cd x = true) (k : PySem.W.keepIn K (.ref f) = true) : DK K x st := ⟨f, _, a, fun_mk (st := st) l c k⟩
structure DCK (K : PySem.W.Frag) (x : Str) (st : Stmt) (c : Addr) : Prop where
  ex : ∃ (f : Addr) (fd : FuncData), PySem.W.nsIn K mainGlobals x = some (some (.ref f)) ∧ FunC K x x st f c fd
theorem dck_mk {K : PySem.W.Frag} {x : Str} {st : Stmt} {f c : Addr} {od an : Option Addr} {sl : Array (Option Value)} {oc kV dc pm ct : Value} (a : PySem.W.nsIn K mainGlobals x = some (some (.ref f)))
    (l : K.lookup f = some ⟨oc, od, .func (PySem.W.fnOf x x (defArgs st) (defBody st) (defScope st) .none kV dc pm an (.ref c) ct), sl⟩) (d : PySem.W.codeIn K (.ref c) x = true) (k : PySem.W.keepIn K (.ref f) = true) : DCK K x st c := ⟨f, _, a, ⟨oc, od, kV, dc, pm, an, ct, sl, rfl, l, d⟩, k⟩
structure XK1 (K : PySem.W.Frag) (C : Addr) (q : Str) (st : Stmt) : Prop where
  ox : OexC K C
  ex : ∃ (fI : Addr) (fd : FuncData), PySem.W.findIn K (.ref C) "__init__" = some (some (.ref fI)) ∧ PySem.W.typeIn K (.ref fI) = some (.type "function") ∧ Fun K "__init__" q st fI fd
theorem xk_mk {K : PySem.W.Frag} {C : Addr} {q : Str} {st : Stmt} {f : Addr} {od an : Option Addr} {sl : Array (Option Value)} {oc kV dc pm cd ct : Value}
    {nm qn : Str} {N : Addr} {bs bm : List Value} {sn : List Str} {sub : List Value} {ab : Bool} {col : Option Bool} {dd : Option Addr} {m0 m1 m2 m3 m5 : Option Value}
    (xl : K.lookup C = some (excClassObj nm qn C N bs bm true sn sub ab col dd m0 m1 m2 m3 m5 "ValueError.__new__")) (xb : PySem.HandSPX.refsVE bm = true) (sa : PySem.W.findIn K (.ref C) "__setattr__" = some (some (.builtin "object.__setattr__")))
    (eC : PySem.W.subIn K (.ref C) (.type "BaseException") = some true) (tC : PySem.W.typeIn K (.ref C) = some (.type "type")) (kC : PySem.W.keepIn K (.ref C) = true)
    (a : PySem.W.findIn K (.ref C) "__init__" = some (some (.ref f))) (t : PySem.W.typeIn K (.ref f) = some (.type "function"))
    (l : K.lookup f = some ⟨oc, od, .func (PySem.W.fnOf "__init__" q (defArgs st) (defBody st) (defScope st) .none kV dc pm an cd ct), sl⟩) (c : PySem.W.codeIn K cd q = true) (k : PySem.W.keepIn K (.ref f) = true) : XK1 K C q st :=
  ⟨⟨⟨nm, qn, N, bs, bm, sn, sub, ab, col, dd, m0, m1, m2, m3, m5, xl, xb⟩, sa, eC, tC, kC⟩, f, _, a, t, fun_mk (st := st) l c k⟩
structure StrK (K : PySem.W.Frag) (x z : Str) : Prop where
  ex : ∃ t, PySem.W.nsIn K mainGlobals x = some (some (.str z t))
theorem str_k {K : PySem.W.Frag} {x z : Str} {t : Nat} (a : PySem.W.nsIn K mainGlobals x = some (some (.str z t))) : StrK K x z := ⟨t, a⟩
structure IntK (K : PySem.W.Frag) (x : Str) (z : Int) : Prop where
  ex : ∃ t, PySem.W.nsIn K mainGlobals x = some (some (.int z t))
theorem int_k {K : PySem.W.Frag} {x : Str} {z : Int} {t : Nat} (a : PySem.W.nsIn K mainGlobals x = some (some (.int z t))) : IntK K x z := ⟨t, a⟩
structure PlK (K : PySem.W.Frag) : Prop where
  ex : ∃ a, PySem.W.nsIn K mainGlobals "PLACES" = some (some (.ref a)) ∧ ∀ H, SqT K H a (strsV placesS)
theorem pl_k {K : PySem.W.Frag} {a : Addr} {t1 t2 t3 n : Nat} {sl : Array (Option Value)} (g : PySem.W.nsIn K mainGlobals "PLACES" = some (some (.ref a))) (l : K.lookup a = some ⟨.type "tuple", none, .seq #[.str "0" t1, .str "1" t2, .str "2" t3] n, sl⟩) : PlK K := ⟨a, g, fun H =>
  Or.inr ⟨_, _, _, l, rfl, rfl, sz_of (by show 3 ≤ 100000; decide), .cons ⟨t1, rfl⟩ (.cons ⟨t2, rfl⟩ (.cons ⟨t3, rfl⟩ .nil))⟩⟩
structure FOne (K : PySem.W.Frag) (d : Addr) (x g : Str) : Prop where
  ex : ∃ t, PySem.W.nsIn K d x = some (some (.str g t))
theorem fone {K : PySem.W.Frag} {d : Addr} {x g : Str} {t : Nat} (a : PySem.W.nsIn K d x = some (some (.str g t))) : FOne K d x g := ⟨t, a⟩
def keyThere7 (e : DictEntry) : Bool := match e.key with
  | .str z _ => (factsL.lookup z).isSome
  | _ => false
structure TabK7 (K : PySem.W.Frag) (w : World) (d : Addr) : Prop where
  ex : ∃ es n, KDict K w d es n ∧ es.toList.all keyThere7 = true
theorem tab_k7 {K : PySem.W.Frag} {w : World} {d : Addr} {es : Array DictEntry} {n : Nat} (l : K.lookup d = some ⟨.type "dict", none, .dict es n, #[]⟩) (k : PySem.W.KeysLit w.params es.toList) (s : (d == sysModules) = false) (t : es.toList.all keyThere7 = true) : TabK7 K w d := ⟨es, n, ⟨l, k, s⟩, t⟩
theorem find_no7 {x : Str} (hx : factsL.lookup x = none) : ∀ {l : List DictEntry}, l.all keyThere7 = true → l.find? (·.key.isStr x) = none ∧ l.any (·.refKey) = false
  | [], _ => ⟨rfl, rfl⟩
  | e :: l, h => by
    rw [List.all_cons, Bool.and_eq_true] at h
    obtain ⟨h1, h2⟩ := find_no7 hx h.2
    have h3 := h.1
    unfold keyThere7 at h3
    cases hk : e.key with
    | str z t =>
      rw [hk] at h3
      have n1 : e.key.isStr x = false := by
        rw [hk]
        by_cases q : z = x
        · subst q
          have h4 : (factsL.lookup z).isSome = true := h3
          rw [hx] at h4
          cases h4
        · show (z == x) = false
          exact beq_eq_false_iff_ne.mpr q
      have n2 : e.refKey = false := by
        unfold DictEntry.refKey
        rw [hk]
      refine ⟨by rw [List.find?_cons, n1]; exact h1, by rw [List.any_cons, n2, h2]; rfl⟩
    | _ => rw [hk] at h3; cases h3
theorem mem_lookup7 {α : Type} {x : Str} {g : α} : ∀ {l : List (Str × α)}, l.lookup x = some g → (x, g) ∈ l
  | [], h => by cases h
  | (y, a) :: l, h => by
    rw [List.lookup_cons] at h
    split at h
    · rename_i e
      cases h
      have e2 : x = y := by simpa using e
      rw [e2]
      exact List.mem_cons_self
    · exact List.mem_cons_of_mem _ (mem_lookup7 h)
theorem tab_no7 {K : PySem.W.Frag} {w : World} {d : Addr} {es : Array DictEntry} {n : Nat} (D : KDict K w d es n) (t : es.toList.all keyThere7 = true) {x : Str} (hx : factsL.lookup x = none) : PySem.W.nsIn K d x = some none := by
  obtain ⟨h1, h2⟩ := find_no7 hx t
  unfold PySem.W.nsIn
  rw [D.at_]
  dsimp only
  rw [h1]
  dsimp only
  rw [h2]
  rfl

theorem all_mk {P : Program} {w : World} {K : PySem.W.Frag} {h : Heap} {mg : Str → Option Value} {fa CH CF CT dS c PT : Addr} (X : K.In h) (G : h.Ns mainGlobals mg) (hfa : mg "law" = some (.ref fa))
    (gCH : PySem.W.nsIn K mainGlobals "HungError" = some (some (.ref CH))) (gCF : PySem.W.nsIn K mainGlobals "BadFact" = some (some (.ref CF))) (gCT : PySem.W.nsIn K mainGlobals "BadText" = some (some (.ref CT))) (z_all : PySem.W.nsIn K mainGlobals "all" = some none) (z_len : PySem.W.nsIn K mainGlobals "len" = some none) (z_bool : PySem.W.nsIn K mainGlobals "bool" = some none) (z_list : PySem.W.nsIn K mainGlobals "list" = some none) (z_tuple : PySem.W.nsIn K mainGlobals "tuple" = some none) (z_sorted : PySem.W.nsIn K mainGlobals "sorted" = some none) (z_enumerate : PySem.W.nsIn K mainGlobals "enumerate" = some none)
    (z_isinstance : PySem.W.nsIn K mainGlobals "isinstance" = some none) (z_str : PySem.W.nsIn K mainGlobals "str" = some none) (z_int : PySem.W.nsIn K mainGlobals "int" = some none) (z_abs : PySem.W.nsIn K mainGlobals "abs" = some none) (z_range : PySem.W.nsIn K mainGlobals "range" = some none) (z_repr : PySem.W.nsIn K mainGlobals "repr" = some none) (z_max : PySem.W.nsIn K mainGlobals "max" = some none) (z_min : PySem.W.nsIn K mainGlobals "min" = some none) (z_ValueError : PySem.W.nsIn K mainGlobals "ValueError" = some none) (z_zip : PySem.W.nsIn K mainGlobals "zip" = some none) (z_dict : PySem.W.nsIn K mainGlobals "dict" = some none)
    (d_consists_of : DK K "consists_of" s_consists_of) (d_is_name : DK K "is_name" s_is_name) (d_is_number : DK K "is_number" s_is_number) (d_is_capital : DK K "is_capital" s_is_capital) (d_is_integer : DK K "is_integer" s_is_integer) (d_is_part : DK K "is_part" s_is_part) (d_is_shown : DK K "is_shown" s_is_shown) (d_show_fact : DK K "show_fact" s_show_fact) (d_is_written : DK K "is_written" s_is_written) (d_parts_read : DK K "parts_read" s_parts_read) (d_read_fact : DK K "read_fact" s_read_fact) (d__law_box : DK K "_law_box" s_law_box) (d__law_take : DK K "_law_take" s_law_take) (d__law_of : DK K "_law_of" s_law_of)
    (d__law_forms : DK K "_law_forms" s_law_forms) (d__law_menu : DK K "_law_menu" s_law_menu) (d__law_is_part : DK K "_law_is_part" s_law_is_part) (d__law_is_fact : DK K "_law_is_fact" s_law_is_fact) (d__law_fact_in : DK K "_law_fact_in" s_law_fact_in) (d__law_heard : DK K "_law_heard" s_law_heard) (d__law_bent : DK K "_law_bent" s_law_bent) (d__law_bent_text : DK K "_law_bent_text" s_law_bent_text) (d_law : DK K "law" s_law) (d_right : DCK K "_law_right" s_law_right c) (tabR : PySem.W.tabIn K "_law_right" = some (c, PT)) (nT : K.lookup PT = none) (xF : XK1 K CF "BadFact.__init__" s_BadFact_init)
    (xT : XK1 K CT "BadText.__init__" s_BadText_init) (nF : PySem.W.findIn K (.ref CF) "value" = some none) (nTl : PySem.W.findIn K (.ref CT) "line" = some none) (low : StrK K "LOWER" LOW) (upp : StrK K "UPPER" UPP) (dig : StrK K "DIGITS" DIG) (num : StrK K "NUM" "num") (most : IntK K "MOST_LINE" 999999999) (pl : PlK K) (gD : PySem.W.nsIn K mainGlobals "FACTS" = some (some (.ref dS))) (tabk : TabK7 K w dS) (t0 : FOne K dS "at" "nl") (t1 : FOne K dS "yes" "nl") (t2 : FOne K dS "no" "nl") (t3 : FOne K dS "holds" "nnxv") (t4 : FOne K dS "keeps" "nnv") (t5 : FOne K dS "called" "nn") (t6 : FOne K dS "back" "nn")
    (t7 : FOne K dS "gives" "nnv") (t8 : FOne K dS "raises" "nnw") (t9 : FOne K dS "needs" "nnx") (t10 : FOne K dS "wants" "nn") (t11 : FOne K dS "reads" "nn") (uhn : PySem.W.specialIn K (.builtin "object.__class__") "__get__" = some (some (.builtin "getset_descriptor.__get__"))) (uht : PySem.W.takesIn K (.builtin "object.__class__") = some true) (exF : PySem.W.exmOne K (.ref CF) (.ref CH) = some true) (exT : PySem.W.exmOne K (.ref CT) (.ref CH) = some true) (eFg : PySem.W.findIn K (.ref CF) "__getattribute__" = some (some (.builtin "BaseException.__getattribute__"))) (eFk : PySem.W.findIn K (.ref CF) "__getattr__" = some none)
    (eFs : PySem.W.subIn K (.ref CF) (.type "BaseException") = some true) (eFd : PySem.W.hasDictIn K CF = true) (eFa : PySem.W.findIn K (.ref CF) "__class__" = some (some (.builtin "object.__class__"))) (eFm : PySem.W.mroIn K CF (.type "object") = some true) (eTg : PySem.W.findIn K (.ref CT) "__getattribute__" = some (some (.builtin "BaseException.__getattribute__"))) (eTk : PySem.W.findIn K (.ref CT) "__getattr__" = some none) (eTs : PySem.W.subIn K (.ref CT) (.type "BaseException") = some true) (eTd : PySem.W.hasDictIn K CT = true) (eTa : PySem.W.findIn K (.ref CT) "__class__" = some (some (.builtin "object.__class__")))
    (eTm : PySem.W.mroIn K CT (.type "object") = some true) (kFF : PySem.W.kitOne K (.ref CF) (.ref CF) = some true) (kFT : PySem.W.kitOne K (.ref CF) (.ref CT) = some false) (kTF : PySem.W.kitOne K (.ref CT) (.ref CF) = some false) (kTT : PySem.W.kitOne K (.ref CT) (.ref CT) = some true) (kTV : PySem.W.kitOne K (.ref CT) (.type "ValueError") = some true) :
    ∃ (fd : FuncData) (c T : Addr), PySem.W.tabIn K "_law_right" = some (c, T) ∧ K.lookup T = none ∧ (∀ (s : Shared) (v : Value), BindsTo s fd ⟨[v], []⟩ [("_law_script", v)]) ∧ ∀ base : Heap, K.In base → base.Ns mainGlobals mg → (∃ o, base.get? sysModules = some o) → TabB base mg c T → FnOkG P w K mg base CX0 11 fa fd ["_law_script"] (spTop7 K T) := by
  have D : ∀ {x : Str} {st : Stmt}, DK K x st → Dfn K mg x st := fun z => by
    obtain ⟨f, fd, a, F⟩ := z.ex
    exact ⟨f, fd, PySem.W.mg_of X G a, F⟩
  have O : ∀ {x : Str}, PySem.W.nsIn K mainGlobals x = some none → mg x = none := fun z => PySem.W.mg_none_of X G z
  have M : ∀ {x : Str} {v : Value}, PySem.W.nsIn K mainGlobals x = some (some v) → mg x = some v := fun z => PySem.W.mg_of X G z
  have S : ∀ {x z : Str}, StrK K x z → ∃ t, mg x = some (.str z t) := fun z => by
    obtain ⟨t, e⟩ := z.ex
    exact ⟨t, PySem.W.mg_of X G e⟩
  obtain ⟨f, fd, aL, FL⟩ := d_law.ex
  have e := hfa.symm.trans (PySem.W.mg_of X G aL)
  cases e
  obtain ⟨fR, fdR, aR, FR⟩ := d_right.ex
  have T : TxForms K mg := ⟨O z_all, O z_len, S low, S upp, S dig, D d_consists_of, D d_is_name, D d_is_number, D d_is_capital⟩
  have TFa : ∃ d es n, mg "FACTS" = some (.ref d) ∧ KDict K w d es n ∧ (∀ x g, formOf x = some g → ∃ t, PySem.W.nsIn K d x = some (some (.str g t))) ∧ ∀ x, formOf x = none → PySem.W.nsIn K d x = some none := by
    obtain ⟨es, n, KD, kt⟩ := tabk.ex
    refine ⟨dS, es, n, M gD, KD, fun x g hx => ?_, fun x hx => tab_no7 KD kt hx⟩
    have hm := mem_lookup7 hx
    unfold factsL at hm
    simp only [List.mem_cons, List.not_mem_nil, or_false, Prod.mk.injEq] at hm
    rcases hm with ⟨rfl, rfl⟩ | ⟨rfl, rfl⟩ | ⟨rfl, rfl⟩ | ⟨rfl, rfl⟩ | ⟨rfl, rfl⟩ | ⟨rfl, rfl⟩ | ⟨rfl, rfl⟩ | ⟨rfl, rfl⟩ | ⟨rfl, rfl⟩ | ⟨rfl, rfl⟩ | ⟨rfl, rfl⟩ | ⟨rfl, rfl⟩
    · exact t0.ex
    · exact t1.ex
    · exact t2.ex
    · exact t3.ex
    · exact t4.ex
    · exact t5.ex
    · exact t6.ex
    · exact t7.ex
    · exact t8.ex
    · exact t9.ex
    · exact t10.ex
    · exact t11.ex
  have TFm : ∃ t, mg "MOST_LINE" = some (.int 999999999 t) := by
    obtain ⟨t, e⟩ := most.ex
    exact ⟨t, M e⟩
  have TFp : ∃ a, mg "PLACES" = some (.ref a) ∧ ∀ H, SqT K H a (strsV placesS) := by
    obtain ⟨a, g, q⟩ := pl.ex
    exact ⟨a, M g, q⟩
  have TF : TxFact K w mg := ⟨D d_is_integer, D d_is_part, D d_is_shown, D d_show_fact, D d_is_written, D d_parts_read, D d_read_fact, TFm, S num, TFp, TFa, O z_isinstance, O z_str, O z_int, O z_bool, O z_tuple, O z_list, O z_zip, O z_len, O z_all⟩
  have TE : TxErF K mg CF CT := ⟨⟨M gCF, xF.ox, nF, xF.ex⟩, ⟨M gCT, xT.ox, nTl, xT.ex⟩⟩
  have TH : TxH77 K mg CH CF CT := ⟨M gCH, O z_ValueError, exF, exT, ⟨eFg, eFk, eFs, eFd, eFa, uhn, uht, eFm⟩, ⟨eTg, eTk, eTs, eTd, eTa, uhn, uht, eTm⟩, ⟨eFg, eFk, eFs, eFd⟩, ⟨eTg, eTk, eTs, eTd⟩, kFF, kFT, kTF, kTT, kTV⟩
  have dR : DK K "_law_right" s_law_right := ⟨fR, fdR, aR, FR.fn⟩
  have TL : TxL77 K mg := ⟨D d__law_forms, D d__law_menu, D d__law_is_part, D d__law_is_fact, D d__law_fact_in, D d__law_heard, D d__law_bent, D d__law_bent_text, D dR, O z_dict, O z_enumerate, O z_sorted, O z_repr⟩
  have TW : TxLaw K mg := ⟨O z_int, O z_abs, D d__law_box, D d__law_take, D d__law_of⟩
  have TZ : TxTop7 mg := ⟨O z_max, O z_min, O z_range⟩
  refine ⟨fd, c, PT, tabR, nT, fun s v => ?_, fun base _ _ sysb TB => ?_⟩
  · obtain ⟨oc, od, kV, doc, pm, an, cdv, ct, osl, rfl, _, _⟩ := FL.ex
    exact .of_eq rfl
  · have OR_ := h_right7 (P := P) (w := w) (base := base) T TF TE TH TL TW sysb FR TB
    exact h_top7 FL T TW TZ ⟨fR, fdR, M aR, FR.kp, FR.fn.binds fun _ _ _ _ _ _ us hl => match us, hl with | [_], _ => rfl, OR_⟩
theorem walk77 {l : PySem.W.OpenLaw} {q : Program} {loose : List Str} {XP : (Str → Option Value) → Heap → Prop} {YP : World → Heap → Prop} {d : DefRec} {K : Params → PySem.W.Frag} (hn : l.most = some 63) (hdf : d.params.defaults = []) (himp : PyProof.Rows.importsNone q = true) (rec0 : ((PyProof.Rows.recsOf q).find? fun e => e.name == ("_law_right" : Str)).isSome = true)
    (hY : ∀ (w : World) (h : Heap), YP w h → (K w.params).In h)
    (F : ∀ (w : World) (mg : Str → Option Value) (fa : Addr) (h : Heap), (K w.params).In h → h.Ns mainGlobals mg → mg d.name = some (.ref fa) →
      ∃ (fd : FuncData) (c T : Addr), PySem.W.tabIn (K w.params) "_law_right" = some (c, T) ∧ (K w.params).lookup T = none ∧ (∀ (s : Shared) (u : Value), BindsTo s fd ⟨[u], []⟩ [("_law_script", u)]) ∧ ∀ base : Heap, (K w.params).In base → base.Ns mainGlobals mg → (∃ o, base.get? sysModules = some o) → TabB base mg c T → FnOkG l.prog w (K w.params) mg base CX0 11 fa fd ["_law_script"] (spTop7 (K w.params) T)) :
    PySem.W.WalkO q loose XP YP l.row.toRowW d [] (fun f vs => PySem.call f vs) :=
  walk_ofGT (n := 63) (k := 11) (x := "_law_script") (x0 := "_law_right") (sp := fun w T => spTop7 (K w.params) T) hn (by decide) hdf himp ⟨rfl, by decide, by decide⟩ rec0 hY F fun w H a T ns hl _ hT hS => ⟨a, ns, rfl, hS, hl, TabS.nil hT, fun _ => rfl⟩
end HF
open PySem PySem.W PyProof.Rows
set_option maxRecDepth 100000 in
set_option maxHeartbeats 0 in
theorem PySem.Challenge.cw_hungfacts_k77_facts_written_and_read_holds : PySem.Challenge.rw_hungfacts_k77_facts_written_and_read.Holds := by
  w_on; o_law; k_head; (case hw => w_witness2)
  k_fill
  refine HF.walk77 (l := PySem.Challenge.rw_hungfacts_k77_facts_written_and_read) rfl rfl (by decide +kernel) (by decide +kernel) (fun w h Y => PySem.W.km_in_of Y) ?F
  case F =>
    intro w mg fa h KX G hmg
    refine' HF.all_mk KX G hmg ?gCH ?gCF ?gCT ?z_all ?z_len ?z_bool ?z_list ?z_tuple ?z_sorted ?z_enumerate ?z_isinstance ?z_str ?z_int ?z_abs ?z_range ?z_repr ?z_max ?z_min ?z_ValueError ?z_zip ?z_dict ?d_consists_of ?d_is_name ?d_is_number ?d_is_capital ?d_is_integer ?d_is_part ?d_is_shown ?d_show_fact ?d_is_written ?d_parts_read ?d_read_fact ?d__law_box ?d__law_take ?d__law_of ?d__law_forms ?d__law_menu ?d__law_is_part ?d__law_is_fact ?d__law_fact_in ?d__law_heard ?d__law_bent ?d__law_bent_text ?d_law ?d_right ?tabR ?nT ?xF ?xT ?nF ?nTl ?low ?upp ?dig ?num ?most ?pl ?gD ?tabk ?t0 ?t1 ?t2 ?t3 ?t4 ?t5 ?t6 ?t7 ?t8 ?t9 ?t10 ?t11 ?uhn ?uht ?exF ?exT ?eFg ?eFk ?eFs ?eFd ?eFa ?eFm ?eTg ?eTk ?eTs ?eTd ?eTa ?eTm ?kFF ?kFT ?kTF ?kTT ?kTV
    (case gCH => k_is)
    (case gCF => k_is)
    (case gCT => k_is)
    (case z_all => k_is)
    (case z_len => k_is)
    (case z_bool => k_is)
    (case z_list => k_is)
    (case z_tuple => k_is)
    (case z_sorted => k_is)
    (case z_enumerate => k_is)
    (case z_isinstance => k_is)
    (case z_str => k_is)
    (case z_int => k_is)
    (case z_abs => k_is)
    (case z_range => k_is)
    (case z_repr => k_is)
    (case z_max => k_is)
    (case z_min => k_is)
    (case z_ValueError => k_is)
    (case z_zip => k_is)
    (case z_dict => k_is)
    (case d_consists_of => refine' HF.dk_mk ?a ?l ?c ?k; (case a => k_is); (case l => k_is); (case c => k_is); (case k => k_is))
    (case d_is_name => refine' HF.dk_mk ?a ?l ?c ?k; (case a => k_is); (case l => k_is); (case c => k_is); (case k => k_is))
    (case d_is_number => refine' HF.dk_mk ?a ?l ?c ?k; (case a => k_is); (case l => k_is); (case c => k_is); (case k => k_is))
    (case d_is_capital => refine' HF.dk_mk ?a ?l ?c ?k; (case a => k_is); (case l => k_is); (case c => k_is); (case k => k_is))
    (case d_is_integer => refine' HF.dk_mk ?a ?l ?c ?k; (case a => k_is); (case l => k_is); (case c => k_is); (case k => k_is))
    (case d_is_part => refine' HF.dk_mk ?a ?l ?c ?k; (case a => k_is); (case l => k_is); (case c => k_is); (case k => k_is))
    (case d_is_shown => refine' HF.dk_mk ?a ?l ?c ?k; (case a => k_is); (case l => k_is); (case c => k_is); (case k => k_is))
    (case d_show_fact => refine' HF.dk_mk ?a ?l ?c ?k; (case a => k_is); (case l => k_is); (case c => k_is); (case k => k_is))
    (case d_is_written => refine' HF.dk_mk ?a ?l ?c ?k; (case a => k_is); (case l => k_is); (case c => k_is); (case k => k_is))
    (case d_parts_read => refine' HF.dk_mk ?a ?l ?c ?k; (case a => k_is); (case l => k_is); (case c => k_is); (case k => k_is))
    (case d_read_fact => refine' HF.dk_mk ?a ?l ?c ?k; (case a => k_is); (case l => k_is); (case c => k_is); (case k => k_is))
    (case d__law_box => refine' HF.dk_mk ?a ?l ?c ?k; (case a => k_is); (case l => k_is); (case c => k_is); (case k => k_is))
    (case d__law_take => refine' HF.dk_mk ?a ?l ?c ?k; (case a => k_is); (case l => k_is); (case c => k_is); (case k => k_is))
    (case d__law_of => refine' HF.dk_mk ?a ?l ?c ?k; (case a => k_is); (case l => k_is); (case c => k_is); (case k => k_is))
    (case d__law_forms => refine' HF.dk_mk ?a ?l ?c ?k; (case a => k_is); (case l => k_is); (case c => k_is); (case k => k_is))
    (case d__law_menu => refine' HF.dk_mk ?a ?l ?c ?k; (case a => k_is); (case l => k_is); (case c => k_is); (case k => k_is))
    (case d__law_is_part => refine' HF.dk_mk ?a ?l ?c ?k; (case a => k_is); (case l => k_is); (case c => k_is); (case k => k_is))
    (case d__law_is_fact => refine' HF.dk_mk ?a ?l ?c ?k; (case a => k_is); (case l => k_is); (case c => k_is); (case k => k_is))
    (case d__law_fact_in => refine' HF.dk_mk ?a ?l ?c ?k; (case a => k_is); (case l => k_is); (case c => k_is); (case k => k_is))
    (case d__law_heard => refine' HF.dk_mk ?a ?l ?c ?k; (case a => k_is); (case l => k_is); (case c => k_is); (case k => k_is))
    (case d__law_bent => refine' HF.dk_mk ?a ?l ?c ?k; (case a => k_is); (case l => k_is); (case c => k_is); (case k => k_is))
    (case d__law_bent_text => refine' HF.dk_mk ?a ?l ?c ?k; (case a => k_is); (case l => k_is); (case c => k_is); (case k => k_is))
    (case d_law => refine' HF.dk_mk ?a ?l ?c ?k; (case a => k_is); (case l => k_is); (case c => k_is); (case k => k_is))
    (case d_right => refine' HF.dck_mk ?a ?l ?d ?k; (case a => k_is); (case l => k_is); (case d => k_is); (case k => k_is))
    (case tabR => first | k_is | rfl | kernel_rfl)
    (case nT => first | kernel_rfl | rfl | k_is)
    (case xF => refine' HF.xk_mk ?xl ?xb ?sa ?eC ?tC ?kC ?a ?t ?l ?c ?k; (case xl => k_is); (case xb => first | rfl | decide +kernel); (case sa => k_is); (case eC => k_is); (case tC => k_is); (case kC => k_is); (case a => k_is); (case t => k_is); (case l => k_is); (case c => k_is); (case k => k_is))
    (case xT => refine' HF.xk_mk ?xl ?xb ?sa ?eC ?tC ?kC ?a ?t ?l ?c ?k; (case xl => k_is); (case xb => first | rfl | decide +kernel); (case sa => k_is); (case eC => k_is); (case tC => k_is); (case kC => k_is); (case a => k_is); (case t => k_is); (case l => k_is); (case c => k_is); (case k => k_is))
    (case nF => k_is)
    (case nTl => k_is)
    (case low => refine' HF.str_k ?a; (case a => k_is))
    (case upp => refine' HF.str_k ?a; (case a => k_is))
    (case dig => refine' HF.str_k ?a; (case a => k_is))
    (case num => refine' HF.str_k ?a; (case a => k_is))
    (case most => refine' HF.int_k ?a; (case a => k_is))
    (case pl => refine' HF.pl_k ?g ?l; (case g => k_is); (case l => k_is))
    (case gD => k_is)
    (case tabk => refine' HF.tab_k7 ?l ?k ?s ?t; (case l => k_is); (case k => exact ⟨⟨_, _, rfl, rfl⟩, ⟨⟨_, _, rfl, rfl⟩, ⟨⟨_, _, rfl, rfl⟩, ⟨⟨_, _, rfl, rfl⟩, ⟨⟨_, _, rfl, rfl⟩, ⟨⟨_, _, rfl, rfl⟩, ⟨⟨_, _, rfl, rfl⟩, ⟨⟨_, _, rfl, rfl⟩, ⟨⟨_, _, rfl, rfl⟩, ⟨⟨_, _, rfl, rfl⟩, ⟨⟨_, _, rfl, rfl⟩, ⟨⟨_, _, rfl, rfl⟩, trivial⟩⟩⟩⟩⟩⟩⟩⟩⟩⟩⟩⟩); (case s => rfl); (case t => kernel_rfl))
    (case t0 => refine' HF.fone ?a; (case a => k_is))
    (case t1 => refine' HF.fone ?a; (case a => k_is))
    (case t2 => refine' HF.fone ?a; (case a => k_is))
    (case t3 => refine' HF.fone ?a; (case a => k_is))
    (case t4 => refine' HF.fone ?a; (case a => k_is))
    (case t5 => refine' HF.fone ?a; (case a => k_is))
    (case t6 => refine' HF.fone ?a; (case a => k_is))
    (case t7 => refine' HF.fone ?a; (case a => k_is))
    (case t8 => refine' HF.fone ?a; (case a => k_is))
    (case t9 => refine' HF.fone ?a; (case a => k_is))
    (case t10 => refine' HF.fone ?a; (case a => k_is))
    (case t11 => refine' HF.fone ?a; (case a => k_is))
    (case uhn => k_is)
    (case uht => k_is)
    (case exF => first | k_is | rfl | kernel_rfl)
    (case exT => first | k_is | rfl | kernel_rfl)
    (case eFg => k_is)
    (case eFk => k_is)
    (case eFs => k_is)
    (case eFd => k_is)
    (case eFa => k_is)
    (case eFm => k_is)
    (case eTg => k_is)
    (case eTk => k_is)
    (case eTs => k_is)
    (case eTd => k_is)
    (case eTa => k_is)
    (case eTm => k_is)
    (case kFF => first | k_is | rfl | kernel_rfl)
    (case kFT => first | k_is | rfl | kernel_rfl)
    (case kTF => first | k_is | rfl | kernel_rfl)
    (case kTT => first | k_is | rfl | kernel_rfl)
    (case kTV => first | k_is | rfl | kernel_rfl)
