import PyProof.Rows.All
import Wide.All
import OpenK.AllK
import Wide.FinOn
import PyProof.EqAt
import PyProof.EqKinds
import PyProof.TupleCall
import HandS.ForMost
import HandS.Conv
import HandS.Style
import HandS.Deep
import KE.DataFind
import PyProof.ReprRoads
import KE.GoesEnum
import HandS.Star
import HandS.Iter
import HandS.IsInst
import HandS.Strs
import HandS.Zip
import HandS.Walk
import HandS.Comp
import HandS.DictComp
import HandS.RaiseMore
import PyProof.CallFns
import HandS.TupAny
import PySem.Challenge.RW_savelines_k53_vectors_of_states
set_option Elab.async false
set_option linter.all false
set_option maxRecDepth 100000
/-! repr where nothing of repr is under way: promises that know the guards; text of data; more of tuples. -/
namespace Sv
open PySem PySem.Spec PyProof.Rows L2

/-- a def's promise for calls made where no repr runs -/
structure FnG (P : Program) (w : World) (K : PySem.W.Frag) (mg : Str → Option Value) (base : Heap)
    (k : Nat) (f : Addr) (fd : FuncData) (ps : List Str) (sp : Sp) : Prop where
  len : ∀ vs H Q E, sp vs H Q E → vs.length = ps.length
  run : ∀ (A : Around), A.guards = some [] →
    ∀ (outer : List Env) (s : Shared) (H : Hp) (args : Args) (us : List Value) (vs : List V) (Q : VK) (E : XK),
    Room k A → Env0 P w K mg base A outer s H → BindsTo s fd args (ps.zip us) → Vals vs us → sp vs H Q E →
    codeAny (model P w) A (.call (.ref f) args) (CR CX0 outer P w H s Q E) s

section
variable {P : Program} {w : World} {K : PySem.W.Frag} {mg : Str → Option Value} {base : Heap}

theorem FnG.ofOk {k : Nat} {f : Addr} {fd : FuncData} {ps : List Str} {sp : Sp}
    (F : FnOk P w K mg base CX0 k f fd ps sp) : FnG P w K mg base k f fd ps sp :=
  ⟨F.len, fun A _ outer s H args us vs Q E => F.run A outer s H args us vs Q E⟩

/-- the def's body, where no repr runs -/
theorem okG {x qual : Str} {st : Stmt} {f : Addr} {fd : FuncData} {N ps : List Str} {k : Nat} {sp : Sp}
    (F : Fun K x qual st f fd) (S : FnScope N ps (defScope st)) (len : ∀ vs H Q E, sp vs H Q E → vs.length = ps.length)
    (hbody : ∀ (cdv : Value) (A : Around) (outer : List Env) (s : Shared) (H : Hp) (vs : List V) (Q : VK) (E : XK),
      A.guards = some [] → Room k (A.deeper (envOfC qual (defScope st) s.heap.objs.size f cdv)) → sp vs H Q E →
      ∃ t, PSs (cxOf CX0 P w K mg base N qual (defScope st) f cdv A outer s H E).nox (defBody st) t ∧
        t { nx := fun _ H' => Q .non H', rt := Q } (start N vs) H) :
    FnG P w K mg base (k + 1) f fd ps sp := by
  obtain ⟨oc, od, kV, doc, pm, an, cdv, ct, osl, rfl, lk, hcd⟩ := F.ex
  refine ⟨len, fun A hg outer s H args us vs Q E hr e0 hb r hsp => ?_⟩
  have hl := len vs H Q E hsp
  have KX : K.In s.heap := e0.mod.kin.keeps fun b o e => And.left (e0.bs b o e)
  have lim := e0.mod.nolimit.keeps fun b o e => And.left (e0.bs b o e)
  have hkind : ∀ y ∈ ps.zip us, (defScope st).names.lookup y.1 = some .local ∨
      ((defScope st).names.lookup y.1 = some .cell ∧
        ((cellsFrom (s.heap.objs.size + 1) (defScope st).names []).lookup y.1).isSome = true) := by
    rintro ⟨n, v⟩ hy
    cases S.par n (List.of_mem_zip hy).1 with
    | inl q => exact Or.inl q
    | inr q => exact Or.inr ⟨q, PySem.W.cellsFrom_some _ _ _ (Or.inl q)⟩
  refine codeAny_call_function hr.depth (KX _ _ lk) rfl S.co S.gen rfl (PySem.W.codeRec_of KX hcd) (hb _ _ _ _ ?_)
  refine wpAny_newFunctionEnv_cells S.kind hkind fun env he s1 X1 => ?_
  subst he
  refine ⟨lim.keeps X1.toInCall.keep, codeAny_func ?_⟩
  obtain ⟨t, ht0, hq⟩ := hbody cdv A outer s H vs Q E hg (hr.deeper _) hsp
  have ht := ht0.nox
  have I0 := inv_start (CX := CX0) (E := E) S hr.hd e0 hl r X1
  refine wpAny_mono (ht.run [] s1 (start N vs) H _ I0 hq) (fun fl s' hs => ?_) (fun e s' hs => hs)
  cases fl with
  | ret u =>
    obtain ⟨v, σ', H', J, rv, q⟩ := hs
    exact ⟨v, H', J.os, J.bare, J.base, J.hok, rv, q⟩
  | next =>
    obtain ⟨σ', H', J, q⟩ := hs
    exact ⟨V.non, H', J.os, J.bare, J.base, J.hok, rfl, q⟩
  | brk =>
    obtain ⟨σ', H', J, q⟩ := hs
    exact q.elim
  | cont =>
    obtain ⟨σ', H', J, q⟩ := hs
    exact q.elim
end

section
variable {X : Cx} {k : Nat} {f : Addr} {fd : FuncData} {ps : List Str} {sp : Sp} {dvs : List V} {ds : List Value}
  {E : XK} {x : Str} {p pos : Pos} {e : Expr} {es : List Expr} {t : TA}

/-- f(e, ..) of such a def -/
theorem pe_callG (F : FnG X.prog X.w X.K X.mg X.base k f fd ps sp) (hgd : X.A.guards = some []) (hr : Room k X.A) (hg : Gl X x)
    (hm : X.mg x = some (.ref f)) (hk : PySem.W.keepIn X.K (.ref f) = true) (hb : Binds X.K fd ps ds) (hd : Vals dvs ds)
    (hx : Passes CX0 X E) (ha : PA X (e :: es) t) (hdb : (x == ("__debug__" : Str)) = false := by decide)
    (he : starEach (e :: es) X.env = (false, eval e X.env) :: starEach es X.env := by rfl)
    (hpl : (backTo pos (starEach es X.env)).any (·.1) = false := by rfl) :
    PE X (.Call (.Name x p) (e :: es) [] pos) (tCall sp dvs E t) := by
  refine ⟨fun pins s σ H Q I h => wpAny_Call_Name_kw (ld_glob I hg hm ?_ hdb)⟩
  refine PySem.W.callWith_K (h₀ := X.base) I.ok.mod.kin hk
    (thn (ha.run pos pins s σ H _ I h) fun us s1 ⟨vs, H1, I1, r, q⟩ => ⟨I1.kIn, ?_⟩) he hpl
  have r2 : Vals (vs ++ dvs) (us ++ ds) := r.append hd
  have hl : (us ++ ds).length = ps.length := r2.length.symm.trans (F.len _ _ _ _ q)
  refine wpAny_call (codeAny_mono (F.run X.A hgd X.stack s1 H1 ⟨us, []⟩ (us ++ ds) (vs ++ dvs) Q E hr I1.env0
    (hb s1 us I1.kIn hl) r2 q) fun res s' hq => ?_)
  cases res with
  | error e => exact hx pins σ H1 s1 e s' I1 hq
  | ok fl =>
    cases fl with
    | ret u => exact I1.after hq
    | next => exact hq.elim
    | brk => exact hq.elim
    | cont => exact hq.elim
end

/-! ### the text of data -/
section
variable {X : Cx}
def Shown (K : PySem.W.Frag) (H : Hp) (v : V) (d : PyData) : Prop :=
  Dp K H v d ∧ isDisplay d = true ∧ d.showable = true ∧ d.hasDict = false ∧ d.depth ≤ 60 ∧ d.shown.length ≤ sizeLine
/-- repr(x) of lists and tuples -/
theorem call_repr (hgd : X.A.guards = some []) (hu : X.A.units + 64 < cLine) : CallR X (.builtin "repr")
    (fun xs H Q => ∃ v d, xs = [v] ∧ Shown X.K H v d ∧ Q (.str d.shown) H) := by
  intro pins s σ H xs us Q I r h
  obtain ⟨v, d, rfl, ⟨hd, h1, h2, h3, h4, h5⟩, q⟩ := h
  obtain ⟨u, rfl, ru⟩ := vals1 r
  obtain ⟨as, R⟩ := Dp.reads I d v u hd ru
  obtain ⟨a, rfl⟩ := isRef_of_reads R h1
  refine repr_of_reads' R h2 (PyData.noDict_hsm h3) hgd (by omega) (fun _ _ e => e) (fun h' tk1 tk2 hk => ?_) h5
  exact ⟨.str _, H, I.kept (t' := tk2) hk, ⟨tk1, rfl⟩, q⟩
end

/-! ### tuples -/
section
variable {X : Cx}
/-- t + u, the left one empty: the right one itself -/
theorem op_catE : OpR X (binaryOp .Add) (fun x y H Q => ∃ a b ys, x = .ref a ∧ y = .ref b ∧ SqT X.K H a [] ∧ SqT X.K H b ys ∧ ys ≠ [] ∧ Q (.ref b) H) := by
  intro pins s σ H x y v u Q I rx ry h
  obtain ⟨a, b, ys, rfl, rfl, ha, hb, hy, q⟩ := h
  cases rx
  cases ry
  obtain ⟨its, r1, p1, _⟩ := I.tuple ha
  obtain ⟨its2, r2, p2, _⟩ := I.tuple hb
  have e1 : its = [] := r1.nil_iff.mpr rfl
  subst e1
  obtain ⟨⟨c1, d1, t1, l1⟩, o1, h1, n1, g1⟩ := id p1
  obtain ⟨⟨c2, d2, t2, l2⟩, o2, h2, n2, g2⟩ := id p2
  simp only at h1 g1 h2 g2
  subst h1 g1 h2 g2
  exact concat_meets ⟨_, o1, rfl⟩ ⟨_, o2, rfl⟩ noFill_tuple_add seq_tuple_add PySem.F.slot_tuple_add PySem.F.entry_tuple_add
    (PySem.F.args_tuple_add_2 _ _) (tuple_addW0 a b _ _ n1 n2 d1 d2 l1 l2 (by rfl)) ⟨o1, o2, ⟨.ref b, H, I, rfl, q⟩⟩
end

/-! ### tuples that are known to bear no dict (their methods may be called) -/
def TupN (H : Hp) (a : Addr) (xs : List V) : Prop := ∃ o : Obj, H a = some (.frz o (.tup xs)) ∧ o.dict = none
theorem TupN.sqT {K : PySem.W.Frag} {H : Hp} {a : Addr} {xs : List V} (h : TupN H a xs) : SqT K H a xs := by
  obtain ⟨o, h, _⟩ := h
  exact .inl (.inr ⟨o, h⟩)
theorem TupN.same {H H' : Hp} {a : Addr} {xs : List V} (h : TupN H a xs) (e : ∀ b o, H b = some o → H' b = some o) : TupN H' a xs := by
  obtain ⟨o, h, d⟩ := h
  exact ⟨o, e _ _ h, d⟩
theorem TupN.new {H : Hp} {p : Addr} {o : Obj} {xs : List V} (d : o.dict = none) : TupN (upd H p (.frz o (.tup xs))) p xs := ⟨o, upd_same, d⟩
section
variable {X : Cx} {es : List Expr} {t : TA} {pos : Pos}
def tTupF (t : TA) : TE := fun σ H Q => t σ H fun xs H1 => xs.length ≤ sizeLine ∧ ∀ (p : Addr) (o : Obj), H1 p = none → o.dict = none → Q (.ref p) (upd H1 p (.frz o (.tup xs)))
theorem pe_tupF {x1} (h : PA X es t) : PE X (.Tuple es x1 pos) (tTupF t) := by
  refine ⟨fun pins s σ H Q I hq => ?_⟩
  refine wpAny_Tuple_spliced (thn (h.run pos pins s σ H _ I hq) fun us s1 ⟨xs, H1, I1, r, z, q⟩ => ⟨r.length ▸ z, ?_⟩)
  have hf : H1 s1.heap.objs.size = none := I1.hok.fresh (Nat.le_refl _)
  have hg := Heap.get?_push_size s1.heap (o := { cls := .type "tuple", data := .seq us.toArray }) rfl
  refine ⟨.ref s1.heap.objs.size, _, I1.laid (t' := s1.toks) (o := .frz { cls := .type "tuple", data := .seq us.toArray } (.tup xs)) (fun b u e => Heap.get?_push_of_some _ e) (Nat.le_refl _) ?_, rfl, q _ _ hf rfl⟩
  exact ⟨hg, z, us, r, ⟨_, hg, rfl, _, rfl⟩⟩
/-- t + u, none of both empty -/
theorem op_catF : OpR X (binaryOp .Add) (fun x y H Q => ∃ a b xs ys, x = .ref a ∧ y = .ref b ∧ SqT X.K H a xs ∧ SqT X.K H b ys ∧ xs ≠ [] ∧ ys ≠ [] ∧ xs.length + ys.length ≤ sizeLine ∧
    ∀ (p : Addr) (o : Obj), H p = none → o.dict = none → Q (.ref p) (upd H p (.frz o (.tup (xs ++ ys))))) := by
  intro pins s σ H x y v u Q I rx ry h
  obtain ⟨a, b, xs, ys, rfl, rfl, ha, hb, hx, hy, hz, q⟩ := h
  cases rx
  cases ry
  obtain ⟨its, r1, p1, _⟩ := I.tuple ha
  obtain ⟨its2, r2, p2, _⟩ := I.tuple hb
  have hl : its.length + its2.length ≤ sizeLine := by rw [← r1.length, ← r2.length]; exact hz
  refine HT.cat_tup p1 p2 (fun z => hx (r1.nil_iff.mp z)) (fun z => absurd (r2.nil_iff.mp z) hy) (fun _ => ?_) hl
  have hg := Heap.get?_push_size s.heap (o := { cls := .type "tuple", data := .seq (its ++ its2).toArray }) rfl
  refine ⟨.ref s.heap.objs.size, _, I.laid (t' := s.toks) (o := .frz { cls := .type "tuple", data := .seq (its ++ its2).toArray } (.tup (xs ++ ys))) (fun b ob q => Heap.get?_push_of_some _ q) (Nat.le_refl _) ?_, rfl, q _ _ (I.hok.fresh (Nat.le_refl _)) rfl⟩
  exact ⟨hg, by rw [List.length_append]; exact hz, _, r1.append r2, ⟨_, hg, rfl, _, rfl⟩⟩
/-- a method of such a tuple, called with arguments -/
def tTM (r : V → List V → Hp → VK → Prop) (to : TE) (t : TA) : TE := fun σ H Q => to σ H fun x H1 => (∃ p xs, x = .ref p ∧ TupN H1 p xs) ∧ t σ H1 fun vs H2 => r x vs H2 Q
theorem pe_tm {name : Str} {id : String} {o e : Expr} {to : TE} {r : V → List V → Hp → VK → Prop} {apos cpos : Pos} (slot : Slot "tuple" name id) (hty : typeOf (.builtin id) = pure (.type "method_descriptor")) (hm : MtR X id r) (ho : PE X o to) (ha : PA X (e :: es) t)
    (hbase : attributeBase o name X.env (eval o X.env) = eval o X.env := by rfl)
    (hfew : ((backTo cpos (starEach (e :: es) X.env)).all (fun x => !x.1) && (backToKw cpos (keywordEach [] X.env)).all (fun x => x.1.isSome)
      && decide ((e :: es).length + ([] : List Keyword).length + (if ([] : List Keyword).isEmpty then 0 else 1) < 30)) = true := by rfl)
    (hline : (apos.endLine == cpos.line) = true := by rfl) (hs : starEach (e :: es) X.env = (false, eval e X.env) :: starEach es X.env := by rfl) (hplain : (backTo cpos (starEach es X.env)).any (·.1) = false := by rfl) :
    PE X (.Call (.Attribute o name apos) (e :: es) [] cpos) (tTM r to t) := by
  refine ⟨fun pins s σ H Q I h => ?_⟩
  refine wpAny_Call_method_late hbase hfew hline rfl (thn (ho.run pins s σ H _ I h) fun v s1 ⟨x, H1, I1, r1, ty, q1⟩ => ?_)
  obtain ⟨p, xs, rfl, ob, hob, hdi⟩ := ty
  cases r1
  obtain ⟨g1, hz, its, rv, ot, g2, hc, _⟩ := I1.hok p _ hob
  obtain rfl : ot = ob := Option.some.inj (g2.symm.trans g1)
  refine ⟨"tuple", id, PySem.F.plainAttrs_tuple, slot, hty, ⟨ot, g1, hc⟩, fun a e => ?_, ?_⟩
  · cases e
    exact ⟨ot, g1, hdi⟩
  have hA := ha.run cpos pins s1 σ H1 _ I1 q1
  rw [hs] at hA ⊢
  refine Calls.callWith_builtin (by show (false || (backTo cpos (starEach es X.env)).any (·.1)) = false; rw [hplain] <;> rfl) (Calls.evalArgs_plain ?_)
  exact thn hA fun us s2 ⟨vs, H2, I2, r2, q2⟩ => hm pins s2 σ H2 (.ref p) vs (.ref p) us Q I2 rfl r2 q2
end

/-! ### list.remove of data -/
section
variable {X : Cx}
def rRemD (K : PySem.W.Frag) : V → List V → Hp → VK → Prop := fun x args H Q => ∃ (l : Addr) (y : V) (d : PyData) (xs : List V) (ds : List PyData) (j : Nat),
  x = .ref l ∧ args = [y] ∧ H l = some (.lst xs) ∧ DpAll K H xs ds ∧ Dp K H y d ∧ PyData.plainAll ds = true ∧ d.plain = true ∧ d.depth ≤ 60 ∧
  SeqAt.dataPlace ds d = some j ∧ Q .non (upd H l (.lst (xs.eraseIdx j)))
theorem mt_removeD (hu : X.A.units + 64 < cLine) : MtR X "list.remove" (rRemD X.K) := by
  intro pins s σ H x args v us Q I rx ra h
  obtain ⟨l, y, d, xs, ds, j, rfl, rfl, hH, hds, hd, p1, p2, p3, hj, q⟩ := h
  cases rx
  obtain ⟨u, rfl, ru⟩ := vals1 ra
  obtain ⟨z, its, n, r, hl, e⟩ := I.lstM hH
  obtain ⟨as, R1⟩ := Dp.readsAll I ds xs its hds r
  obtain ⟨bs, R2⟩ := Dp.reads I d y u hd ru
  refine SeqAt.remove_list_data (vs := its.toArray) ⟨_, e, rfl, n, rfl⟩ R1 R2 p1 p2 (by omega) hj (by rw [List.size_toArray, ← hl]; exact z) ?_
  refine ⟨.non, _, I.lset (its' := its.eraseIdx j) (t' := s.toks) hH e ?_ (r.eraseIdx j) ?_, rfl, q⟩
  · show its.toArray.eraseIdxIfInBounds j = (its.eraseIdx j).toArray
    rw [List.eraseIdxIfInBounds_toArray]
  · have := List.length_eraseIdx_le xs j
    omega
end

/-! ### data of ints -/
def iD (ns : List Int) : List PyData := ns.map PyData.int
section
variable {K : PySem.W.Frag} {H : Hp}
theorem dp_ints : ∀ ns : List Int, DpAll K H (ns.map V.int) (iD ns)
  | [] => .nil
  | n :: r => .cons (.int n) (dp_ints r)
theorem dp_lst {a : Addr} {ns : List Int} (h : SqL K H a (ns.map V.int)) : Dp K H (.ref a) (.list (iD ns)) := .lst h (dp_ints ns)
theorem dp_tup {a : Addr} {ns : List Int} (h : SqT K H a (ns.map V.int)) : Dp K H (.ref a) (.tuple (iD ns)) := .tup h (dp_ints ns)
theorem dp_nil {a : Addr} (h : SqL K H a []) : Dp K H (.ref a) (.list []) := .lst h .nil
end
theorem iD_lay : ∀ ns : List Int, PyData.canLayAll0 (iD ns) = true
  | [] => by simp [iD, PyData.canLayAll0]
  | n :: r => by
    have h := iD_lay r
    simp only [iD, List.map_cons, PyData.canLayAll0, PyData.canLay0] at h ⊢
    rw [h]
    rfl
theorem iD_depth : ∀ ns : List Int, PyData.depthAll (iD ns) = 0
  | [] => by simp [iD, PyData.depthAll]
  | n :: r => by
    have h := iD_depth r
    simp only [iD, List.map_cons, PyData.depthAll, PyData.depth] at h ⊢
    rw [h]
    rfl
theorem shaped_lst (ns : List Int) : SeqAt.shaped (.list (iD ns)) = true := by
  have h1 := iD_lay ns
  have h2 := iD_depth ns
  show (PyData.canLay0 (.list (iD ns)) && decide (PyData.depth (.list (iD ns)) ≤ 64)) = true
  simp only [PyData.canLay0, PyData.depth, h1, h2, Bool.true_and]
  decide
theorem shaped_tup (ns : List Int) : SeqAt.shaped (.tuple (iD ns)) = true := by
  have h1 := iD_lay ns
  have h2 := iD_depth ns
  show (PyData.canLay0 (.tuple (iD ns)) && decide (PyData.depth (.tuple (iD ns)) ≤ 64)) = true
  simp only [PyData.canLay0, PyData.depth, h1, h2, Bool.true_and]
  decide
theorem shaped_nil : SeqAt.shaped (.list []) = true := by decide +kernel
theorem eqv_nil (ds : List PyData) : PyData.eqv (.list ds) (.list []) = ds.isEmpty := by
  cases ds <;> simp [PyData.eqv, PyData.eqvAll]
/-! ### what a def leaves that only adds objects and turns two -/
def Kp (a b : Addr) (H H' : Hp) : Prop := ∀ c o, c ≠ a → c ≠ b → H c = some o → H' c = some o
theorem Kp.refl {a b : Addr} (H : Hp) : Kp a b H H := fun _ _ _ _ h => h
theorem Kp.trans {a b : Addr} {H H1 H2 : Hp} (x : Kp a b H H1) (y : Kp a b H1 H2) : Kp a b H H2 := fun c o h1 h2 h => y c o h1 h2 (x c o h1 h2 h)
theorem Kp.of {a b : Addr} {H H' : Hp} (h : Same H H') : Kp a b H H' := fun c o _ _ e => h c o e
theorem Kp.new {a b : Addr} {H : Hp} {p : Addr} {o : HO} (h : H p = none) : Kp a b H (upd H p o) := fun c u _ _ e => by
  rw [upd_ne (ne_of_none e h)]
  exact e
theorem Kp.put {a b : Addr} {H : Hp} {p : Addr} {o : HO} (h : p = a ∨ p = b) : Kp a b H (upd H p o) := fun c u h1 h2 e => by
  rw [upd_ne (by rcases h with rfl | rfl <;> assumption)]
  exact e
theorem Same.new {H : Hp} {p : Addr} {o : HO} (h : H p = none) : Same H (upd H p o) := fun c u e => by
  rw [upd_ne (ne_of_none e h)]
  exact e
end Sv

/-! enumerate over a tuple; count in a tuple of ints. -/
namespace PySem
open Sem (wp)
set_option maxHeartbeats 1000000 in
theorem sv_enum_new {v : Value} {o : Obj} {H : Heap → Prop} (B : Begins v o H) :
    Meets (Builtin.«enumerate.__new__» ⟨[.type "enumerate", v], []⟩)
      (fun _ R s => H s.heap ∧ R (.ok (.ret (.ref (s.heap.push o).objs.size)))
        { s with heap := Heap.push (Heap.push s.heap o) { cls := .type "enumerate", data := .fields #[.none, .bool false, .ref s.heap.objs.size, rawInt 0, .none, .none] } }) := by
  refine .of_wp fun prog w A R s h => ?_
  obtain ⟨hp, g, d, tk, os⟩ := s
  obtain ⟨h1, h⟩ := h
  have hsub := sub_enumerate
  have q1 : ∀ {A' : Around} {E' : Value → Shared → Prop} {Q' : Value → Shared → Prop},
      Q' (.ref hp.objs.size) ⟨hp.push o, g, d, tk, os⟩ → wpAny (model prog w) A' (pyIter v) Q' E' ⟨hp, g, d, tk, os⟩ :=
    fun q => B.iter prog w _ _ ⟨hp, g, d, tk, os⟩ _ h1 q
  wp_walk using q1
  refine wpAny_stack_any fun st => wpAny_pure ?_
  split
  · rename_i c _ _ _ _ _
    cases hcc : (c == Value.type "enumerate") <;> (wp_walk using q1; exact ⟨_, rfl, h⟩)
  · wp_walk using q1
    exact ⟨_, rfl, h⟩
section
variable {prog : Program} {w : World} {A : Around} {E : Value → Shared → Prop} {s : Shared}
theorem sv_enum_call {v : Value} {o : Obj} {H : Heap → Prop} {Q : Value → Shared → Prop} (B : Begins v o H) (h1 : H s.heap)
    (h : ∀ h', IsEnum h' (s.heap.objs.size + 1) s.heap.objs.size 0 .none → h'.get? s.heap.objs.size = some o →
      (∀ b u, s.heap.get? b = some u → h'.get? b = some u) → Q (.ref (s.heap.objs.size + 1)) { s with heap := h' }) :
    wpAny (model prog w) A (call (.type "enumerate") [v]) Q E s := by
  refine callType_new F.called_enumerate (by decide) (F.typeCall_enumerate_1 _) (F.newCall_enumerate_1 _)
    (fun obj => F.args_object_init_2 obj _) F.entry_enumerate_new (sv_enum_new B) ⟨h1, ?_⟩
  have hz : (s.heap.push o).objs.size = s.heap.objs.size + 1 := Heap.size_push ..
  show _ ∧ _
  rw [hz]
  have he := Heap.get?_push_size (s.heap.push o)
    (o := { cls := .type "enumerate", data := .fields #[.none, .bool false, .ref s.heap.objs.size, rawInt 0, .none, .none] }) rfl
  rw [hz] at he
  exact ⟨⟨_, he, rfl⟩, h _ he (Heap.get?_push_of_some _ (Heap.get?_push_size _ B.free))
    fun b u x => Heap.get?_push_of_some _ (Heap.get?_push_of_some _ x)⟩
end
end PySem
namespace Sv
open PySem PySem.Spec PyProof.Rows L2
/-- a tuple's items, each in a new pair with its number -/
def Itte (K : PySem.W.Frag) (a : Addr) (xs : List V) : It where
  go := fun i H => SqT K H a xs ∧ i < xs.length
  yld := fun i H v H' => ∃ T x, v = .ref T ∧ H T = none ∧ H' = upd H T (.tup [.int (i : Nat), x]) ∧ xs[i]? = some x
  stop := fun i H => SqT K H a xs ∧ i = xs.length
theorem turn_etup {P : Program} {w : World} {K : PySem.W.Frag} {elts : List Expr} {kk : Nat} {tpos : Pos} (a e it : Addr) (xs : List V) :
    Turn P w K (.Tuple elts kk tpos) (Itte K a xs) [e, it] e
      (fun i h => (∃ old, IsEnum h e it ((i : Nat) : Int) old) ∧ h.IsTupleIter it a i ∧ e ≠ it ∧ a ≠ it ∧ a ≠ e) where
  mem := by simp
  obj := fun i h st b hb => by
    obtain ⟨⟨old, he⟩, ⟨o, ho, hc, hd⟩, _⟩ := st
    rcases (show b = e ∨ b = it by simpa using hb) with rfl | rfl
    · exact ⟨_, he, fun v q => nomatch q⟩
    · exact ⟨o, ho, fun v q => by rw [hd] at q; cases q⟩
  keep := fun i h h' st k => by
    obtain ⟨⟨old, he⟩, hi, hr⟩ := st
    exact ⟨⟨old, k e (by simp) _ he⟩, hi.at fun o q => k it (by simp) o q, hr⟩
  item := by
    intro X hP hw hK hc i pins s σ H E I hf st hg
    subst hP hw hK
    obtain ⟨⟨old, he⟩, hit, hne, hai, hae⟩ := st
    obtain ⟨hq, hi⟩ := hg
    obtain ⟨its, rv, p, hz⟩ := I.tuple hq
    have hlen := rv.length
    have hel : e < s.heap.objs.size := Heap.lt_size he
    have hil : it < s.heap.objs.size := by
      obtain ⟨_, q, _⟩ := hit
      exact Heap.lt_size q
    have D : Draws X.prog X.w X.A.in1 it [it, a] its.toArray.size (fun i v => its.toArray[i]? = some v)
        (fun i h => h.IsTupleIter it a i ∧ h.IsTuple a its.toArray) := Draws.tuple (A := X.A.in1) (show X.A.in1.handled = none from I.ok.hd hc) it a hai its.toArray
    refine wpAny_pyNext_enum_itemD D he ⟨hit, p⟩ (by rw [List.size_toArray]; omega) hne (by simp [hne, Ne.symm hae]) fun u h' tk hPu ho hst hT hsz hk => ?_
    refine ⟨_, rfl, wpAny_letOwnedTupleGo_enum (s := { s with heap := h', toks := tk + 1 }) ho fun h'' he' sb => ?_⟩
    obtain ⟨x, hx⟩ : ∃ x, xs[i]? = some x := ⟨_, List.getElem?_eq_getElem hi⟩
    obtain ⟨u', hu', ru⟩ := rv.get hx
    have hPu' : its[i]? = some u := by simpa using hPu
    obtain rfl : u' = u := Option.some.inj (hu'.symm.trans hPu')
    have hT2 : h''.get? s.heap.objs.size = some { cls := .type "tuple", data := .seq #[.int i tk, u'] } := (sb.2 _ (Nat.ne_of_gt hel)).trans hT
    have new : ObjOk X.prog X.w (upd H s.heap.objs.size (.tup [.int (i : Nat), x])) h'' s.heap.objs.size (.tup [.int (i : Nat), x]) := by
      refine ⟨?_, [.int i tk, u'], .cons ⟨_, rfl⟩ (.cons ru .nil), ⟨_, hT2, rfl, _, rfl⟩⟩
      show 2 ≤ sizeLine
      decide
    have I1 : Inv X pins σ (upd H s.heap.objs.size (.tup [.int (i : Nat), x])) { s with heap := h'', toks := tk + 1 } := by
      refine I.turnedNew (ch := [e, it]) (fun b ob hb q => ?_) hf (Nat.le_refl _) new
      have nb : b ≠ e ∧ b ≠ it := by simpa using hb
      exact (sb.2 b nb.1).trans (hk b ob nb.1 nb.2 q)
    refine ⟨.ref s.heap.objs.size, _, I1, rfl, ⟨_, x, rfl, I.hok.fresh (Nat.le_refl _), rfl, hx⟩,
      ⟨⟨u', ?_⟩, hst.1.at fun o q => (sb.2 it (Ne.symm hne)).trans q, hne, hai, hae⟩, fun b hb => ?_⟩
    · have e1 : ((i + 1 : Nat) : Int) = (i : Int) + 1 := by omega
      rw [e1]
      exact he'
    · have hb' : b < s.heap.objs.size := by
        rcases (show b = e ∨ b = it by simpa using hb) with rfl | rfl <;> assumption
      rw [upd_ne (Nat.ne_of_lt hb')]
      exact (hf b hb).1
  done := by
    intro X hP hw hK hc i pins s σ H E I hf st hg
    subst hP hw hK
    obtain ⟨⟨old, he⟩, hit, hne, hai, hae⟩ := st
    obtain ⟨hq, hi⟩ := hg
    obtain ⟨its, rv, p, hz⟩ := I.tuple hq
    have hlen := rv.length
    obtain ⟨f0, f1, f2, f3, f4, f5⟩ := hf it (by simp)
    have D : Draws X.prog X.w X.A.in1 it [it, a] its.toArray.size (fun i v => its.toArray[i]? = some v)
        (fun i h => h.IsTupleIter it a i ∧ h.IsTuple a its.toArray) := Draws.tuple (A := X.A.in1) (show X.A.in1.handled = none from I.ok.hd hc) it a hai its.toArray
    have hi2 : i = its.toArray.size := by
      rw [List.size_toArray]
      omega
    have hit2 : s.heap.IsTupleIter it a its.toArray.size := hi2 ▸ hit
    exact wpAny_pyNext_enum_endD D he ⟨hit2, p⟩ fun h' eb => ⟨rfl, I.turned (t' := s.toks) (fun b o hb q => eb b o hb q) f0 f1 f3 f4 f5⟩
  self := fun A i s Q E st h => by
    obtain ⟨⟨_, he⟩, _⟩ := st
    exact wpAny_pyIter_enum he h
def iEnumT (K : PySem.W.Frag) (ta : TA) : TI := fun σ H R => ta σ H fun vs H1 => ∃ a xs, vs = [.ref a] ∧ SqT K H1 a xs ∧ R (Itte K a xs) H1
/-- for i, x in enumerate(t), t a tuple -/
theorem pi_enumT {X : Cx} {e : Expr} {ta : TA} {p pos tpos : Pos} {elts : List Expr} {kk : Nat} (hg : Gl X "enumerate") (hm : X.mg "enumerate" = none) (ha : PA X [e] ta)
    (hs : starEach [e] X.env = [(false, eval e X.env)] := by rfl) : PI X (.Tuple elts kk tpos) (.Call (.Name "enumerate" p) [e] [] pos) (iEnumT X.K ta) := by
  refine ⟨fun pins s σ H R I h => ?_⟩
  refine Call_ (ld_blt I hg hm boot_enumerate (PyProof.Rows.callWith_type1 (thn (ha.run pos pins s σ H _ I h) fun us s1 ⟨vs, H1, I1, r1, q1⟩ => ?_) hs rfl))
  obtain ⟨a, xs, rfl, hq, q⟩ := q1
  obtain ⟨u, rfl, ru⟩ := vals1 r1
  cases ru
  obtain ⟨its, rv, p', hz⟩ := I1.tuple hq
  have hal : a < s1.heap.objs.size := by
    obtain ⟨o, ho, _⟩ := id p'
    exact Heap.lt_size ho
  refine sv_enum_call (begins_tuple a its.toArray) p' fun h' he hit hk => wpAny_pyIter_enum he ?_
  have I2 : Inv X pins σ H1 { s1 with heap := h' } := I1.kept (t' := s1.toks) hk
  refine ⟨s1.heap.objs.size + 1, [s1.heap.objs.size + 1, s1.heap.objs.size], _, _, H1, rfl, I2, turn_etup a (s1.heap.objs.size + 1) s1.heap.objs.size xs,
    ⟨⟨.none, he⟩, ⟨_, hit, rfl, rfl⟩, Nat.succ_ne_self _, Nat.ne_of_lt hal, Nat.ne_of_lt (Nat.lt_succ_of_lt hal)⟩, fun b hb => ?_, q⟩
  have hle : s1.heap.objs.size ≤ b := by
    rcases (show b = s1.heap.objs.size + 1 ∨ b = s1.heap.objs.size by simpa using hb) with rfl | rfl
    · exact Nat.le_succ _
    · exact Nat.le_refl _
  exact I1.fpOk hle (I1.hok.fresh hle)
/-- the comprehension over it -/
theorem lc_etup {K : PySem.W.Frag} {a : Addr} {xs : List V} {g : TG} {tt : TT} {te : TE} {vs : List Nat} {σ : L2.St} {H1 : Hp} {D : Addr} {Qd : Hp → Prop} (Pv : Nat → Hp → Prop) (h0 : Pv 0 (upd H1 D (.lst [])))
    (hl : ∀ i H, i ≤ xs.length → Pv i H → SqT K H a xs)
    (hs : ∀ i x T H, xs[i]? = some x → Pv i H → H T = none → g (.ref T) (wipe σ vs) (upd H T (.tup [.int (i : Nat), x])) fun σ2 H2 => wipe σ2 vs = wipe σ vs ∧ tt σ2 H2 fun b H3 =>
      if b = true then te σ2 H3 fun y H4 => ∃ acc, H4 D = some (.lst acc) ∧ acc.length < sizeLine ∧ Pv (i + 1) (upd H4 D (.lst (acc ++ [y]))) else Pv (i + 1) H3) (hd : ∀ H, Pv xs.length H → Qd H) :
    ∃ W : Nat → Nat → Hp → Prop, (∃ m, W 0 m (upd H1 D (.lst []))) ∧ ∀ i m H, W i m H →
      ((Itte K a xs).stop i H ∧ Qd H) ∨ ((Itte K a xs).go i H ∧ ∃ Nx : Hp → Prop, (∀ H', Nx H' → ∃ m', m' < m ∧ W (i + 1) m' H') ∧ ∀ x H', (Itte K a xs).yld i H x H' → g x (wipe σ vs) H' fun σ2 H2 => wipe σ2 vs = wipe σ vs ∧ tt σ2 H2 fun b H3 =>
        if b = true then te σ2 H3 fun y H4 => ∃ acc, H4 D = some (.lst acc) ∧ acc.length < sizeLine ∧ Nx (upd H4 D (.lst (acc ++ [y]))) else Nx H3) := by
  refine ⟨fun i m H => m = xs.length - i ∧ i ≤ xs.length ∧ Pv i H, ⟨xs.length, by simp, Nat.zero_le _, h0⟩, ?_⟩
  rintro i m H ⟨rfl, hi, p⟩
  have q := hl i H hi p
  by_cases hlt : i < xs.length
  · refine .inr ⟨⟨q, hlt⟩, Pv (i + 1), fun H' p' => ⟨xs.length - (i + 1), by omega, rfl, hlt, p'⟩, fun x H' y => ?_⟩
    obtain ⟨T, z, rfl, nT, rfl, hz⟩ := y
    exact hs i z T H hz p nT
  · have e : i = xs.length := by omega
    subst e
    exact .inl ⟨⟨q, rfl⟩, hd H p⟩
theorem for_etup {K : PySem.W.Frag} {a : Addr} {xs : List V} {g : TG} {tb : TS} {D : Ends} {σ : L2.St} {H : Hp} (Pv : Nat → L2.St → Hp → Prop) (h0 : Pv 0 σ H) (hl : ∀ i σ H, i ≤ xs.length → Pv i σ H → SqT K H a xs)
    (hs : ∀ i x T σ H, xs[i]? = some x → Pv i σ H → H T = none → g (.ref T) σ (upd H T (.tup [.int (i : Nat), x])) fun σ2 H2 => tb { D with nx := Pv (i + 1), ct := Pv (i + 1), bk := D.nx } σ2 H2) (hd : ∀ σ H, Pv xs.length σ H → D.nx σ H) :
    ∃ W : Nat → Nat → L2.St → Hp → Prop, (∃ m, W 0 m σ H) ∧ ∀ i m σ H, W i m σ H →
      ((Itte K a xs).stop i H ∧ D.nx σ H) ∨ ((Itte K a xs).go i H ∧ ∃ N : L2.St → Hp → Prop, (∀ σ' H', N σ' H' → ∃ m', m' < m ∧ W (i + 1) m' σ' H') ∧ ∀ x H', (Itte K a xs).yld i H x H' → g x σ H' fun σ2 H2 => tb { D with nx := N, ct := N, bk := D.nx } σ2 H2) := by
  refine ⟨fun i m σ H => m = xs.length - i ∧ i ≤ xs.length ∧ Pv i σ H, ⟨xs.length, by simp, Nat.zero_le _, h0⟩, ?_⟩
  rintro i m σ H ⟨rfl, hi, p⟩
  have q := hl i σ H hi p
  by_cases hlt : i < xs.length
  · refine .inr ⟨⟨q, hlt⟩, Pv (i + 1), fun σ' H' p' => ⟨xs.length - (i + 1), by omega, rfl, hlt, p'⟩, fun x H' y => ?_⟩
    obtain ⟨T, z, rfl, nT, rfl, hz⟩ := y
    exact hs i z T σ H hz p nT
  · have e : i = xs.length := by omega
    subst e
    exact .inl ⟨⟨q, rfl⟩, hd σ H p⟩
def rLenS (K : PySem.W.Frag) : List V → Hp → VK → Prop := fun xs H Q => ∃ p ys, xs = [.ref p] ∧ (SqL K H p ys ∨ SqT K H p ys) ∧ Q (.int ys.length) H
theorem call_len_s {X : Cx} : CallR X (.builtin "len") (rLenS X.K) := call_len_seq
/-- a comprehension's block that reads no name from around it -/
theorem blkOk_nf {N : List Str} {sc scope : Scope} {own : List (Str × Nat)} (h : blkC N { kind := .function, names := [], isGenerator := false, isCoroutine := false } scope own = true) (hf : (scope.names.all fun y => decide (y.2 ≠ .free)) = true) : BlkOk N sc scope own := by
  have b := blkOk_by h
  exact ⟨b.kind, b.uniq, b.ix, fun y hy e => absurd e (of_decide_eq_true (List.all_eq_true.mp hf y hy)), b.own⟩
section
variable {X : Cx}
def rTcount (K : PySem.W.Frag) : V → List V → Hp → VK → Prop := fun x args H Q => ∃ (p : Addr) (ns : List Int) (k : Int), x = .ref p ∧ args = [.int k] ∧ SqT K H p (ns.map V.int) ∧ Q (.int (ns.count k : Nat)) H
/-- t.count(k), t a tuple of ints -/
theorem mt_tcount (hu : X.A.units + 64 < cLine) : MtR X "tuple.count" (rTcount X.K) := by
  intro pins s σ H x args v us Q I rx ra h
  obtain ⟨p, ns, k, rfl, rfl, hs, q⟩ := h
  cases rx
  obtain ⟨u, rfl, ru⟩ := vals1 ra
  obtain ⟨t, rfl⟩ := ru
  obtain ⟨its, rv, p1, hz⟩ := I.tuple hs
  obtain ⟨as, R1⟩ := Dp.readsAll I (iD ns) (ns.map V.int) its (dp_ints ns) rv
  have hpl : ∀ ns : List Int, PyData.plainAll (iD ns) = true := by
    intro ns
    induction ns with
    | nil => rfl
    | cons n r ih => exact ih
  have hcnt : ((iD ns).countP fun y => PyData.eqv y (.int k)) = ns.count k := by
    clear R1 rv hs hz q
    induction ns with
    | nil => rfl
    | cons n r ih =>
      have e : PyData.eqv (.int n) (.int k) = (n == k) := by simp only [PyData.eqv]
      simp only [iD, List.map_cons, List.countP_cons, List.count_cons] at ih ⊢
      rw [ih, e]
  refine SeqAt.count_tuple_data (vs := its.toArray) p1 R1 (Reads.int k t) (hpl ns) rfl ?_ ?_
  · have : min (PyData.depthAll (iD ns)) (PyData.int k).depth ≤ 0 := Nat.min_le_right _ _
    omega
  · rw [hcnt]
    exact ⟨.int (ns.count k : Nat), H, I.tok _, ⟨_, rfl⟩, q⟩
end
end Sv

/-! more of tuples of ints: index, slices; kinds of values. -/
namespace Sv
open PySem PySem.Spec PyProof.Rows L2
theorem idx_lt : ∀ {ns : List Int} {k : Int} {m : Nat}, m < ns.idxOf k → ns[m]? ≠ some k
  | [], k, m, h => by simp at h
  | n :: r, k, m, h => by
    rw [List.idxOf_cons] at h
    by_cases e : n = k
    · subst e
      simp at h
    · have e1 : (n == k) = false := beq_eq_false_iff_ne.mpr e
      rw [e1] at h
      cases m with
      | zero => exact fun z => e (Option.some.inj z)
      | succ m => exact fun z => idx_lt (ns := r) (m := m) (by simpa using h) z
theorem flat_ints (ns : List Int) : (ns.map V.int).all flatV = true := by
  rw [List.all_map]
  exact List.all_eq_true.mpr fun _ _ => rfl
theorem in_ints {ns : List Int} {k : Int} : inV (.int k) (ns.map V.int) = decide (k ∈ ns) := by
  unfold inV
  induction ns with
  | nil => rfl
  | cons n r ih =>
    rw [List.map_cons, List.any_cons, ih]
    show ((n == k) || decide (k ∈ r)) = decide (k ∈ n :: r)
    by_cases h : n = k
    · subst h
      simp
    · have h1 : (n == k) = false := beq_eq_false_iff_ne.mpr h
      rw [h1, Bool.false_or]
      simp [Ne.symm h]
section
variable {X : Cx}
def rTindex (K : PySem.W.Frag) : V → List V → Hp → VK → Prop := fun x args H Q => ∃ (p : Addr) (ns : List Int) (k : Int), x = .ref p ∧ args = [.int k] ∧ SqT K H p (ns.map V.int) ∧ k ∈ ns ∧ Q (.int (ns.idxOf k : Nat)) H
/-- t.index(k), k in t -/
theorem mt_tindex : MtR X "tuple.index" (rTindex X.K) := by
  intro pins s σ H x args v us Q I rx ra h
  obtain ⟨p, ns, k, rfl, rfl, hs, hk, q⟩ := h
  cases rx
  obtain ⟨u, rfl, ru⟩ := vals1 ra
  obtain ⟨t, rfl⟩ := ru
  obtain ⟨its, rv, ⟨⟨cls, dd, dt, sl⟩, ho, hc, n, hd⟩, hz⟩ := I.tuple hs
  simp only at hc hd
  subst hc hd
  have hlen : its.length = ns.length := by rw [← rv.length, List.length_map]
  have hj : ns.idxOf k < ns.length := List.idxOf_lt_length_iff.mpr hk
  have at' : ∀ (m : Nat) (hm : m < its.toArray.size), ∃ t' : Tok, ∃ hm2 : m < ns.length, its.toArray[m] = Value.int ns[m] t' := by
    intro m hm
    have hm2 : m < ns.length := by
      rw [List.size_toArray] at hm
      omega
    obtain ⟨w, hw, t', hw'⟩ := rv.get (i := m) (x := .int ns[m]) (at_map' (List.getElem?_eq_getElem hm2))
    refine ⟨t', hm2, ?_⟩
    have e := (List.getElem?_eq_some_iff.mp hw).2
    rw [← hw', ← e]
    simp
  refine call_meets PySem.F.slot_tuple_index ⟨_, ho, rfl⟩ PySem.F.entry_tuple_index (PySem.F.args_tuple_index_2 _ _)
    (TI.tuple_indexAt p its.toArray n dd sl (.int k t) (eqU (.int k)) (ns.idxOf k) (by rw [List.size_toArray]; omega) ?_ ?_)
    ⟨ho, fun w hw => mem_eqAt (x := .int k) ⟨t, rfl⟩ rfl rv (flat_ints ns) w (by simpa using hw), ⟨.int (ns.idxOf k : Nat), H, I.tok _, ⟨_, rfl⟩, q⟩⟩
  · obtain ⟨t', h2, h3⟩ := at' (ns.idxOf k) (by rw [List.size_toArray]; omega)
    rw [h3]
    show (ns[ns.idxOf k] == k) = true
    rw [beq_iff_eq]
    exact List.getElem_idxOf h2
  · intro m hm hmj
    obtain ⟨t', h2, h3⟩ := at' m hm
    rw [h3]
    show (ns[m] == k) = false
    refine beq_eq_false_iff_ne.mpr fun z => idx_lt hmj ?_
    rw [List.getElem?_eq_getElem h2, z]
where
  at_map' {ns : List Int} {m : Nat} {x : Int} (h : ns[m]? = some x) : (ns.map V.int)[m]? = some (.int x) := by
    rw [List.getElem?_map, h]
    rfl
/-- t[lo:hi], not the whole, known to bear no dict -/
def rSlTF (K : PySem.W.Frag) : V → Option Int → Option Int → Hp → VK → Prop := fun x lo hi H Q => ∃ a xs, x = .ref a ∧ SqT K H a xs ∧
  ¬ (HT.sIx xs.length 0 lo = 0 ∧ HT.sIx xs.length xs.length hi = xs.length) ∧ ∀ (p : Addr) (o : Obj), H p = none → o.dict = none → Q (.ref p) (upd H p (.frz o (.tup (cutV xs lo hi))))
theorem sl_tupF : SlR X (rSlTF X.K) := by
  intro pins s σ H x v vl vu lo hi sl Q I rx hs pl pu h
  obtain ⟨a, xs, rfl, hx, hw, q⟩ := h
  cases rx
  obtain ⟨its, r, ht, hz⟩ := I.tuple hx
  have hlen : its.toArray.size = xs.length := by
    rw [List.size_toArray]
    exact r.length.symm
  refine ⟨"tuple", _, PyProof.Rows.slot_tuple_getitem.lookup, ht.typeIs, ?_⟩
  have hnot : ¬ (HT.sIx its.toArray.size 0 lo = 0 ∧ HT.sIx its.toArray.size its.toArray.size hi = its.toArray.size) := by rwa [hlen]
  refine HT.getItem_tuple_cut ht hs pl pu hnot ?_ (hlen ▸ hz)
  rw [hlen]
  have hg := Heap.get?_push_size s.heap (o := { cls := .type "tuple", data := .seq ((its.toArray.toList.drop (HT.sIx xs.length 0 lo)).take (HT.sIx xs.length xs.length hi - HT.sIx xs.length 0 lo)).toArray }) rfl
  refine ⟨.ref s.heap.objs.size, _, I.laid (t' := s.toks) (o := .frz _ (.tup (cutV xs lo hi))) (fun b ob q => Heap.get?_push_of_some _ q) (Nat.le_refl _) ⟨hg, ?_⟩, rfl, q _ _ (I.hok.fresh (Nat.le_refl _)) rfl⟩
  exact ⟨Nat.le_trans (cutV_length xs lo hi) hz, _, (r.drop (HT.sIx xs.length 0 lo)).take (HT.sIx xs.length xs.length hi - HT.sIx xs.length 0 lo), ⟨_, hg, rfl, _, rfl⟩⟩
end
theorem cut_to {xs : List V} {i : Nat} (h : i ≤ xs.length) : cutV xs none (some (i : Int)) = xs.take i := by
  unfold cutV
  rw [HT.sIx_none, HT.sIx_nat, Nat.min_eq_left h]
  rfl
theorem cut_from {xs : List V} {i : Nat} (h : i ≤ xs.length) : cutV xs (some (i : Int)) none = xs.drop i := by
  unfold cutV
  rw [HT.sIx_none, HT.sIx_nat, Nat.min_eq_left h]
  exact List.take_of_length_le (by rw [List.length_drop]; omega)
/-! ### kinds of values -/
inductive Kn (K : PySem.W.Frag) (H : Hp) : V → Prop
  | non : Kn K H .non
  | bl (b : Bool) : Kn K H (.bl b)
  | int (i : Int) : Kn K H (.int i)
  | str (x : Str) : Kn K H (.str x)
  | lst {a : Addr} {xs : List V} (e : H a = some (.lst xs)) : Kn K H (.ref a)
  | tup {a : Addr} {xs : List V} (e : H a = some (.tup xs)) : Kn K H (.ref a)
  | ftup {a : Addr} {o : Obj} {xs : List V} (e : H a = some (.frz o (.tup xs))) : Kn K H (.ref a)
  | dK {a : Addr} {kvs : List (Key × V)} (e : H a = some (.dK kvs)) : Kn K H (.ref a)
theorem Kn.same {K : PySem.W.Frag} {H H' : Hp} {v : V} (h : Kn K H v) (e : ∀ b o, H b = some o → H' b = some o) : Kn K H' v := by
  cases h with
  | non => exact .non
  | bl b => exact .bl b
  | int i => exact .int i
  | str x => exact .str x
  | lst h => exact .lst (e _ _ h)
  | tup h => exact .tup (e _ _ h)
  | ftup h => exact .ftup (e _ _ h)
  | dK h => exact .dK (e _ _ h)
def isI : V → Bool
  | .int _ => true
  | .bl _ => true
  | _ => false
def isB : V → Bool
  | .bl _ => true
  | _ => false
theorem Kn.isInt {K : PySem.W.Frag} {H : Hp} {v : V} (h : Kn K H v) : ∃ t, TyX K H v t ∧ PySem.W.kitOne K t (.type "int") = some (isI v) := by
  cases h with
  | non => exact ⟨_, .base .non, kit_ty (by decide +kernel)⟩
  | bl b => exact ⟨_, .base (.bl b), kit_ty (by show kitB "bool" "int" = some true; decide +kernel)⟩
  | int i => exact ⟨_, .base (.int i), kit_ty (by show kitB "int" "int" = some true; decide +kernel)⟩
  | str x => exact ⟨_, .base (.str x), kit_ty (by show kitB "str" "int" = some false; decide +kernel)⟩
  | lst h => exact ⟨_, .base (.lst h), kit_ty (by show kitB "list" "int" = some false; decide +kernel)⟩
  | tup h => exact ⟨_, .base (.tup h), kit_ty (by show kitB "tuple" "int" = some false; decide +kernel)⟩
  | ftup h => exact ⟨_, .fTuple h, kit_ty (by show kitB "tuple" "int" = some false; decide +kernel)⟩
  | dK h => exact ⟨_, .base (.dK h), kit_ty (by show kitB "dict" "int" = some false; decide +kernel)⟩
theorem Kn.isBool {K : PySem.W.Frag} {H : Hp} {v : V} (h : Kn K H v) : ∃ t, TyX K H v t ∧ PySem.W.kitOne K t (.type "bool") = some (isB v) := by
  cases h with
  | non => exact ⟨_, .base .non, kit_ty (by decide +kernel)⟩
  | bl b => exact ⟨_, .base (.bl b), kit_ty (by show kitB "bool" "bool" = some true; decide +kernel)⟩
  | int i => exact ⟨_, .base (.int i), kit_ty (by show kitB "int" "bool" = some false; decide +kernel)⟩
  | str x => exact ⟨_, .base (.str x), kit_ty (by show kitB "str" "bool" = some false; decide +kernel)⟩
  | lst h => exact ⟨_, .base (.lst h), kit_ty (by show kitB "list" "bool" = some false; decide +kernel)⟩
  | tup h => exact ⟨_, .base (.tup h), kit_ty (by show kitB "tuple" "bool" = some false; decide +kernel)⟩
  | ftup h => exact ⟨_, .fTuple h, kit_ty (by show kitB "tuple" "bool" = some false; decide +kernel)⟩
  | dK h => exact ⟨_, .base (.dK h), kit_ty (by show kitB "dict" "bool" = some false; decide +kernel)⟩
/-- a number from lo to hi -/
def numIn (v : V) (lo hi : Int) : Bool := match v with
  | .int i => decide (lo ≤ i) && decide (i ≤ hi)
  | _ => false
def spNum (K : PySem.W.Frag) : Sp := fun vs H Q _ => ∃ (v : V) (lo hi : Int), vs = [v, .int lo, .int hi] ∧ Kn K H v ∧ Q (.bl (numIn v lo hi)) H
end Sv

/-! tuple(a list): a tuple that is known to bear no dict. -/
namespace Sv
open PySem PySem.Spec PyProof.Rows L2
section
variable {X : Cx}
def rTupF (K : PySem.W.Frag) : List V → Hp → VK → Prop := fun xs H Q => ∃ p ys, xs = [.ref p] ∧ SqL K H p ys ∧ ∀ (l : Addr) (o : Obj), H l = none → o.dict = none → Q (.ref l) (upd H l (.frz o (.tup ys)))
theorem call_tupleF : CallR X (.type "tuple") (rTupF X.K) := by
  intro pins s σ H xs us Q I r h
  obtain ⟨p, ys, rfl, hq, q⟩ := h
  obtain ⟨u, rfl, rx⟩ := vals1 r
  cases rx
  obtain ⟨its, r', pl, hz⟩ := I.list hq
  have hlen := r'.length
  refine call_tuple_list pl.isList (fun h' kp => ?_) (by simp only [List.size_toArray] <;> omega)
  have I1 : Inv X pins σ H { s with heap := h' } := I.kept (t' := s.toks) kp
  have hg := Heap.get?_push_size h' (o := { cls := .type "tuple", data := .seq its.toArray }) rfl
  refine ⟨.ref h'.objs.size, _, I1.laid (t' := s.toks) (o := .frz { cls := .type "tuple", data := .seq its.toArray } (.tup ys)) (fun b o e => Heap.get?_push_of_some _ e) (Nat.le_refl _) ?_, rfl, q _ _ (I1.hok.fresh (Nat.le_refl _)) rfl⟩
  exact ⟨hg, hz, its, r', ⟨_, hg, rfl, _, rfl⟩⟩
end
theorem nodup_at {α : Type} {x : α} : ∀ {l : List α} {i j : Nat}, l.Nodup → l[i]? = some x → l[j]? = some x → i = j
  | [], i, j, _, h, _ => by simp at h
  | a :: r, 0, 0, _, _, _ => rfl
  | a :: r, 0, j + 1, h, h1, h2 => by
    have e : a = x := Option.some.inj h1
    subst e
    exact absurd (List.mem_of_getElem? (show r[j]? = some a from h2)) (List.nodup_cons.mp h).1
  | a :: r, i + 1, 0, h, h1, h2 => by
    have e : a = x := Option.some.inj h2
    subst e
    exact absurd (List.mem_of_getElem? (show r[i]? = some a from h1)) (List.nodup_cons.mp h).1
  | a :: r, i + 1, j + 1, h, h1, h2 => by rw [nodup_at (List.nodup_cons.mp h).2 (show r[i]? = some x from h1) (show r[j]? = some x from h2)]
end Sv
namespace Sv
open PySem PySem.Spec PyProof.Rows L2
theorem walk_zipT {K : PySem.W.Frag} {a b : Addr} {xs ys : List V} {n : Nat} (hn : n = min xs.length ys.length) : Walk (RZ.ItzT K a b) n (fun H => SqT K H a xs ∧ SqT K H b ys) (YPair (fun i => xs[i]?) (fun i => ys[i]?)) := by
  subst hn
  refine ⟨fun i _ hi q => ?_, fun _ q => ⟨xs, ys, q.1, q.2, by omega⟩, fun i H v H' _ q y => ?_⟩
  · have h1 : i < xs.length := by omega
    have h2 : i < ys.length := by omega
    exact ⟨xs, ys, xs[i], ys[i], q.1, q.2, by simp [h1], by simp [h2]⟩
  · obtain ⟨T, x, z, h1, h2, h3, h4, h5⟩ := y
    exact ⟨T, x, z, h1, h2, h3, h4 xs q.1, h5 ys q.2⟩
end Sv

/-! a comprehension with two for: the walks of both. -/
namespace Sv
open PySem PySem.Spec PyProof.Rows L2
section
variable {J : It} {n : Nat} {G : Hp → Prop} {Y : Nat → Hp → V → Hp → Prop}
/-- the outer one -/
theorem lc2_out (w : Walk J n G Y) {g : TG} {tt : TT} {wi1 : TI} {g1 : TG} {tt1 : TT} {te : TE} {vs vs1 : List Nat} {σ : L2.St} {H1 : Hp} {D : Addr} {Qd : Hp → Prop} (Pv : Nat → Hp → Prop) (h0 : Pv 0 (upd H1 D (.lst []))) (hG : ∀ i H, i ≤ n → Pv i H → G H)
    (hs : ∀ i x H H', i < n → Pv i H → Y i H x H' → g x (wipe σ vs) H' fun σ2 H2 => wipe σ2 vs = wipe σ vs ∧ tt σ2 H2 fun b H3 =>
      if b = true then wi1 σ2 H3 fun J1 H4 => ∃ W1 : Nat → Nat → Hp → Prop, (∃ m, W1 0 m H4) ∧ ∀ j k H, W1 j k H →
        (J1.stop j H ∧ Pv (i + 1) H) ∨ (J1.go j H ∧ ∃ Nx1 : Hp → Prop, (∀ H', Nx1 H' → ∃ k', k' < k ∧ W1 (j + 1) k' H') ∧ ∀ x H', J1.yld j H x H' → g1 x (wipe σ2 vs1) H' fun σ3 H5 => wipe σ3 vs1 = wipe σ2 vs1 ∧ tt1 σ3 H5 fun b H6 =>
          if b = true then te σ3 H6 fun y H7 => ∃ acc, H7 D = some (.lst acc) ∧ acc.length < sizeLine ∧ Nx1 (upd H7 D (.lst (acc ++ [y]))) else Nx1 H6)
      else Pv (i + 1) H3) (hd : ∀ H, Pv n H → Qd H) :
    ∃ W : Nat → Nat → Hp → Prop, (∃ m, W 0 m (upd H1 D (.lst []))) ∧ ∀ i m H, W i m H →
      (J.stop i H ∧ Qd H) ∨ (J.go i H ∧ ∃ Nx : Hp → Prop, (∀ H', Nx H' → ∃ m', m' < m ∧ W (i + 1) m' H') ∧ ∀ x H', J.yld i H x H' → g x (wipe σ vs) H' fun σ2 H2 => wipe σ2 vs = wipe σ vs ∧ tt σ2 H2 fun b H3 =>
        if b = true then wi1 σ2 H3 fun J1 H4 => ∃ W1 : Nat → Nat → Hp → Prop, (∃ m, W1 0 m H4) ∧ ∀ j k H, W1 j k H →
          (J1.stop j H ∧ Nx H) ∨ (J1.go j H ∧ ∃ Nx1 : Hp → Prop, (∀ H', Nx1 H' → ∃ k', k' < k ∧ W1 (j + 1) k' H') ∧ ∀ x H', J1.yld j H x H' → g1 x (wipe σ2 vs1) H' fun σ3 H5 => wipe σ3 vs1 = wipe σ2 vs1 ∧ tt1 σ3 H5 fun b H6 =>
            if b = true then te σ3 H6 fun y H7 => ∃ acc, H7 D = some (.lst acc) ∧ acc.length < sizeLine ∧ Nx1 (upd H7 D (.lst (acc ++ [y]))) else Nx1 H6)
        else Nx H3) := by
  refine ⟨fun i m H => m = n - i ∧ i ≤ n ∧ Pv i H, ⟨n, by simp, Nat.zero_le _, h0⟩, ?_⟩
  rintro i m H ⟨rfl, hi, p⟩
  have q := hG i H hi p
  by_cases hlt : i < n
  · refine .inr ⟨w.goes i H hlt q, Pv (i + 1), fun H' p' => ⟨n - (i + 1), by omega, rfl, hlt, p'⟩, fun x H' y => hs i x H H' hlt p (w.yields i H x H' hlt q y)⟩
  · have e : i = n := by omega
    subst e
    exact .inl ⟨w.stops H q, hd H p⟩
/-- the inner one -/
theorem lc2_in (w : Walk J n G Y) {g1 : TG} {tt1 : TT} {te : TE} {vs1 : List Nat} {σ2 : L2.St} {H4 : Hp} {D : Addr} {R : Hp → Prop} (Pv : Nat → Hp → Prop) (h0 : Pv 0 H4) (hG : ∀ i H, i ≤ n → Pv i H → G H)
    (hs : ∀ i x H H', i < n → Pv i H → Y i H x H' → g1 x (wipe σ2 vs1) H' fun σ3 H5 => wipe σ3 vs1 = wipe σ2 vs1 ∧ tt1 σ3 H5 fun b H6 =>
      if b = true then te σ3 H6 fun y H7 => ∃ acc, H7 D = some (.lst acc) ∧ acc.length < sizeLine ∧ Pv (i + 1) (upd H7 D (.lst (acc ++ [y]))) else Pv (i + 1) H6) (hd : ∀ H, Pv n H → R H) :
    ∃ W1 : Nat → Nat → Hp → Prop, (∃ m, W1 0 m H4) ∧ ∀ j k H, W1 j k H →
      (J.stop j H ∧ R H) ∨ (J.go j H ∧ ∃ Nx1 : Hp → Prop, (∀ H', Nx1 H' → ∃ k', k' < k ∧ W1 (j + 1) k' H') ∧ ∀ x H', J.yld j H x H' → g1 x (wipe σ2 vs1) H' fun σ3 H5 => wipe σ3 vs1 = wipe σ2 vs1 ∧ tt1 σ3 H5 fun b H6 =>
        if b = true then te σ3 H6 fun y H7 => ∃ acc, H7 D = some (.lst acc) ∧ acc.length < sizeLine ∧ Nx1 (upd H7 D (.lst (acc ++ [y]))) else Nx1 H6) := by
  refine ⟨fun i m H => m = n - i ∧ i ≤ n ∧ Pv i H, ⟨n, by simp, Nat.zero_le _, h0⟩, ?_⟩
  rintro i m H ⟨rfl, hi, p⟩
  have q := hG i H hi p
  by_cases hlt : i < n
  · refine .inr ⟨w.goes i H hlt q, Pv (i + 1), fun H' p' => ⟨n - (i + 1), by omega, rfl, hlt, p'⟩, fun x H' y => hs i x H H' hlt p (w.yields i H x H' hlt q y)⟩
  · have e : i = n := by omega
    subst e
    exact .inl ⟨w.stops H q, hd H p⟩
end
end Sv

/-! repr of a bool; a dict comprehension over any walk. -/
namespace Sv
open PySem PySem.Spec PyProof.Rows L2
section
variable {X : Cx}
def bText (b : Bool) : Str := if b then "True" else "False"
theorem call_repr_bl : CallR X (.builtin "repr") (fun xs H Q => ∃ b, xs = [.bl b] ∧ Q (.str (bText b)) H) := by
  intro pins s σ H xs us Q I r h
  obtain ⟨b, rfl, q⟩ := h
  obtain ⟨u, rfl, ru⟩ := vals1 r
  cases ru
  exact PySem.P.repr_of_bool ⟨.str _, H, I.tok _, ⟨_, rfl⟩, q⟩
end
section
variable {J : It} {n : Nat} {G : Hp → Prop} {Y : Nat → Hp → V → Hp → Prop}
theorem dc_it (w : Walk J n G Y) {g : TG} {tt : TT} {tk tv : TE} {vs : List Nat} {σ : L2.St} {H1 : Hp} {D : Addr} {Qd : Hp → Prop} (Pv : Nat → Hp → Prop) (h0 : Pv 0 (upd H1 D (.dK []))) (hG : ∀ i H, i ≤ n → Pv i H → G H)
    (hs : ∀ i x H H', i < n → Pv i H → Y i H x H' → g x (wipe σ vs) H' fun σ2 H2 => wipe σ2 vs = wipe σ vs ∧ tt σ2 H2 fun b H3 =>
      if b = true then tk σ2 H3 fun y H4 => tv σ2 H4 fun z H5 => ∃ kvs k, y = kV k ∧ H5 D = some (.dK kvs) ∧ kvs.length < sizeLine ∧ Pv (i + 1) (upd H5 D (.dK (putK kvs k z))) else Pv (i + 1) H3) (hd : ∀ H, Pv n H → Qd H) :
    ∃ W : Nat → Nat → Hp → Prop, (∃ m, W 0 m (upd H1 D (.dK []))) ∧ ∀ i m H, W i m H →
      (J.stop i H ∧ Qd H) ∨ (J.go i H ∧ ∃ Nx : Hp → Prop, (∀ H', Nx H' → ∃ m', m' < m ∧ W (i + 1) m' H') ∧ ∀ x H', J.yld i H x H' → g x (wipe σ vs) H' fun σ2 H2 => wipe σ2 vs = wipe σ vs ∧ tt σ2 H2 fun b H3 =>
        if b = true then tk σ2 H3 fun y H4 => tv σ2 H4 fun z H5 => ∃ kvs k, y = kV k ∧ H5 D = some (.dK kvs) ∧ kvs.length < sizeLine ∧ Nx (upd H5 D (.dK (putK kvs k z))) else Nx H3) := by
  refine ⟨fun i m H => m = n - i ∧ i ≤ n ∧ Pv i H, ⟨n, by simp, Nat.zero_le _, h0⟩, ?_⟩
  rintro i m H ⟨rfl, hi, p⟩
  have q := hG i H hi p
  by_cases hlt : i < n
  · refine .inr ⟨w.goes i H hlt q, Pv (i + 1), fun H' p' => ⟨n - (i + 1), by omega, rfl, hlt, p'⟩, fun x H' y => hs i x H H' hlt p (w.yields i H x H' hlt q y)⟩
  · have e : i = n := by omega
    subst e
    exact .inl ⟨w.stops H q, hd H p⟩
end
theorem valV_none {κ : Type} [DecidableEq κ] : ∀ {kvs : List (κ × V)} {k : κ}, (∀ p ∈ kvs, p.1 ≠ k) → valV kvs k = none
  | [], _, _ => rfl
  | p :: r, k, h => by
    have h1 := h p List.mem_cons_self
    have h2 := valV_none (kvs := r) (k := k) fun q hq => h q (List.mem_cons_of_mem _ hq)
    unfold valV at h2 ⊢
    rw [List.find?_cons, decide_eq_false h1]
    exact h2
theorem valV_at {κ : Type} [DecidableEq κ] : ∀ {kvs : List (κ × V)} {i : Nat} {k : κ} {v : V}, (kvs.map (·.1)).Nodup → kvs[i]? = some (k, v) → valV kvs k = some v
  | [], i, _, _, _, h => by simp at h
  | p :: r, 0, k, v, _, h => by
    obtain rfl : p = (k, v) := Option.some.inj h
    unfold valV
    rw [List.find?_cons, decide_eq_true rfl]
    rfl
  | p :: r, i + 1, k, v, hn, h => by
    rw [List.map_cons] at hn
    obtain ⟨n1, n2⟩ := List.nodup_cons.mp hn
    have h2 : r[i]? = some (k, v) := h
    have hne : p.1 ≠ k := fun z => n1 (z ▸ List.mem_map.mpr ⟨(k, v), List.mem_of_getElem? h2, rfl⟩)
    have ih := valV_at (kvs := r) (i := i) n2 h2
    unfold valV at ih ⊢
    rw [List.find?_cons, decide_eq_false hne]
    exact ih
end Sv

/-! + and cuts of any tuples, told once for all. -/
namespace Sv
open PySem PySem.Spec PyProof.Rows L2
def TupT (H : Hp) (a : Addr) (xs : List V) : Prop := H a = some (.tup xs) ∨ ∃ o, H a = some (.frz o (.tup xs))
theorem TupT.sqT {K : PySem.W.Frag} {H : Hp} {a : Addr} {xs : List V} (h : TupT H a xs) : SqT K H a xs := .inl h
theorem TupT.same {H H' : Hp} {a : Addr} {xs : List V} (h : TupT H a xs) (e : Same H H') : TupT H' a xs := h.elim (fun q => .inl (e _ _ q)) fun ⟨o, q⟩ => .inr ⟨o, e _ _ q⟩
theorem slA {K : PySem.W.Frag} {H : Hp} {a : Addr} {xs : List V} {lo hi : Option Int} {Q : VK} (h : TupT H a xs) (q : ∀ (H' : Hp) (p : Addr), Same H H' → TupT H' p (cutV xs lo hi) → Q (.ref p) H') : rSlA K (.ref a) lo hi H Q := by
  refine ⟨a, xs, rfl, h.sqT, fun z => ?_, fun _ p np => q _ p (Same.new np) (.inl upd_same)⟩
  refine q H a (Same.refl H) ?_
  have e : cutV xs lo hi = xs := by
    unfold cutV
    rw [z.1, z.2, List.drop_zero, Nat.sub_zero, List.take_length]
  rw [e]
  exact h
theorem catA {K : PySem.W.Frag} {H : Hp} {a b : Addr} {xs ys : List V} {Q : VK} (ha : TupT H a xs) (hb : TupT H b ys) (hl : xs.length + ys.length ≤ 1000) (q : ∀ (H' : Hp) (p : Addr), Same H H' → TupT H' p (xs ++ ys) → Q (.ref p) H') : L2.rCatA K (.ref a) (.ref b) H Q := by
  refine ⟨a, b, xs, ys, rfl, rfl, ha.sqT, hb.sqT, Nat.le_of_lt (small1000 (by omega)), fun z => q H b (Same.refl H) (by rw [z]; exact hb), fun _ z => q H a (Same.refl H) (by rw [z, List.append_nil]; exact ha), fun _ _ p np => q _ p (Same.new np) (.inl upd_same)⟩
theorem cut_last (xs : List V) : cutV xs none (some (-1)) = xs.take (xs.length - 1) := by
  unfold cutV
  have e : HT.sIx xs.length xs.length (some (-1)) = xs.length - 1 := by
    show (if (-1 : Int) < 0 then (-1 + (xs.length : Int)).toNat else min (-1 : Int).toNat xs.length) = _
    rw [if_pos (by decide)]
    omega
  rw [HT.sIx_none, e, List.drop_zero, Nat.sub_zero]
end Sv

/-! a value that is changed no more, from here on -/
namespace Sv
open PySem PySem.Spec PyProof.Rows L2
def tFrz (t : TE) : TE := fun σ H Q => t σ H fun v H1 => ∃ d u, v = .ref d ∧ H1 d = some u ∧ Mut (some u) ∧ ∀ od, Q v (upd H1 d (.frz od u))
theorem pe_frz {X : Cx} {e : Expr} {t : TE} (h : PE X e t) : PE X e (tFrz t) := by
  refine ⟨fun pins s σ H Q I hw => ?_⟩
  refine thn (h.run pins s σ H _ I hw) fun v s1 ⟨x, H1, I1, r, d, u, ex, hd, mu, q⟩ => ?_
  obtain ⟨od, I2⟩ := I1.lock hd mu
  exact ⟨x, _, I2, r, q od⟩
end Sv

namespace Sv
open PySem PySem.Spec PyProof.Rows L2
/-! ### the law's draws: places in the text -/
def topS (i : Nat) : Stmt := PySem.Challenge.pw_savelines_k53_vectors_of_states.main.body.getD i (.Pass ⟨0, 0, 0, 0⟩)
abbrev sState : Stmt := topS 14
abbrev sDraw : Stmt := topS 15
theorem scState : FnScope ["_law_script", "_law_cell"] ["_law_script"] (defScope sState) := ⟨rfl, rfl, rfl, by decide +kernel, rfl, by decide +kernel, by decide +kernel⟩
abbrev nDraw : List Str := ["_law_deck_here", "_law_many", "_law_cell", "_law_digit", "_law_mixed"]
theorem scDraw : FnScope nDraw ["_law_deck_here", "_law_many"] (defScope sDraw) := ⟨rfl, rfl, rfl, by decide +kernel, rfl, by decide +kernel, by decide +kernel⟩
theorem ixn {n j : Nat} (hj : j < n) : ixN n (j : Int) = some j := by
  unfold ixN
  rw [if_pos (Int.natCast_nonneg j), if_pos (Int.ofNat_lt.mpr hj), Int.toNat_natCast]
/-- the draws' state: its list of four, the cells that are left; at most n mixed draws so far -/
def StAt (H : Hp) (st big cel : Addr) (n : Nat) : Prop := st ≠ big ∧ st ≠ cel ∧ cel = big ∧ n ≤ 1000000 ∧ ∃ (bs : List Int) (cb : Int × Int) (k : Int),
  H st = some (.lst [.ref big, .int cb.1, .int k, .int cb.2]) ∧ H big = some (.lst (bs.map V.int)) ∧ H cel = some (.lst (bs.map V.int)) ∧
  (∀ b ∈ bs, 0 ≤ b) ∧ 0 ≤ cb.1 ∧ 0 ≤ k ∧ k ≤ n ∧ 0 ≤ cb.2 ∧ cb.2 < 1099511627776 ∧ bs.length ≤ 63
theorem StAt.same {H H' : Hp} {st big cel : Addr} {n : Nat} (h : StAt H st big cel n) (e : Same H H') : StAt H' st big cel n := by
  obtain ⟨h1, h2, h3, hn, bs, cb, k, a, b, c, r⟩ := h
  exact ⟨h1, h2, h3, hn, bs, cb, k, e _ _ a, e _ _ b, e _ _ c, r⟩
theorem StAt.le {H : Hp} {st big cel : Addr} {n m : Nat} (h : StAt H st big cel n) (e : n ≤ m) (em : m ≤ 1000000) : StAt H st big cel m := by
  obtain ⟨h1, h2, h3, hn, bs, cb, k, a, b, c, q1, q2, q3, q4, r⟩ := h
  exact ⟨h1, h2, h3, em, bs, cb, k, a, b, c, q1, q2, q3, Int.le_trans q4 (Int.ofNat_le.mpr e), r⟩
theorem StAt.tup {K : PySem.W.Frag} {H H' : Hp} {st big cel : Addr} {n : Nat} (h : StAt H st big cel n) (e : Kp st big H H') {a : Addr} {xs : List V} (q : SqT K H a xs) : SqT K H' a xs := by
  obtain ⟨h1, h2, h3, hn, bs, cs, k, ha, hb, hc, r⟩ := h
  rcases q with (q | ⟨o, q⟩) | q
  · exact .inl (.inl (e _ _ (ne_of q ha (by intro z; cases z)) (ne_of q hb (by intro z; cases z)) q))
  · exact .inl (.inr ⟨o, e _ _ (ne_of q ha (by intro z; cases z)) (ne_of q hb (by intro z; cases z)) q⟩)
  · exact .inr q
theorem StAt.tupN {H H' : Hp} {st big cel : Addr} {n : Nat} (h : StAt H st big cel n) (e : Kp st big H H') {a : Addr} {xs : List V} (q : TupN H a xs) : TupN H' a xs := by
  obtain ⟨h1, h2, h3, hn, bs, cs, k, ha, hb, hc, r⟩ := h
  obtain ⟨o, q, d⟩ := q
  exact ⟨o, e _ _ (ne_of q ha (by intro z; cases z)) (ne_of q hb (by intro z; cases z)) q, d⟩
theorem StAt.ne {H : Hp} {st big cel : Addr} {n : Nat} (h : StAt H st big cel n) {p : Addr} (q : H p = none) : st ≠ p ∧ big ≠ p ∧ cel ≠ p := by
  obtain ⟨h1, h2, h3, hn, bs, cs, k, ha, hb, hc, r⟩ := h
  exact ⟨ne_of_none ha q, ne_of_none hb q, ne_of_none hc q⟩
def spDraw : Sp := fun vs H Q _ => ∃ (st big cel : Addr) (n : Nat) (m : Int), vs = [.ref st, .int m] ∧ 0 < m ∧ m < 1000000 ∧ StAt H st big cel n ∧ n < 1000000 ∧
  ∀ (H' : Hp) (v : Int), 0 ≤ v → v < m → StAt H' st big cel (n + 1) → Kp st big H H' → Q (.int v) H'
theorem sz {n : Nat} (h : n ≤ 1000) : n ≤ sizeLine := Nat.le_of_lt (small1000 h)
theorem iteB {b : Bool} {A B : Prop} (h1 : b = true → A) (h2 : b = false → B) : if b = true then A else B := by
  cases b with
  | true => exact iteT (h1 rfl)
  | false => exact iteF (h2 rfl)
theorem while_st {c : TT} {tb : TS} {D : Ends} {σ : L2.St} {H : Hp} (Pv : L2.St → Hp → Prop) (μ : L2.St → Hp → Nat) (h0 : Pv σ H) (hx : ∀ σ H, Pv σ H → D.nx σ H)
    (hs : ∀ σ H, Pv σ H → c σ H fun b H1 => Pv σ H1 ∧ (b = true → tb { D with nx := fun σ' H' => Pv σ' H' ∧ μ σ' H' < μ σ H, ct := fun σ' H' => Pv σ' H' ∧ μ σ' H' < μ σ H, bk := D.nx } σ H1))
    (mono : ∀ σ H Q Q', (∀ b H1, Q b H1 → Q' b H1) → c σ H Q → c σ H Q') : tWhile c tb D σ H :=
  while_by Pv μ h0 (fun σ H p => mono σ H _ _ (fun b H1 ⟨q, r⟩ => by
    cases b with
    | false => exact iteF (hx σ H1 q)
    | true => exact iteT (r rfl)) (hs σ H p)) mono
section
variable {P : Program} {w : World} {K : PySem.W.Frag} {mg : Str → Option Value} {base : Heap}
theorem ok_draw {f : Addr} {fd : FuncData} (F : Fun K "_law_next" "_law_next" sDraw f fd) (mi : mg "int" = none) : FnOk P w K mg base CX0 1 f fd ["_law_deck_here", "_law_many"] spDraw := by
  refine F.ok scDraw (fun vs H Q E h => ?_) (fun cdv A outer s H vs Q E hr h => ?_)
  · obtain ⟨st, big, cel, n, m, rfl, _⟩ := h
    rfl
  · obtain ⟨st, big, cel, n, m, rfl, m0, m1, hS, hn, q⟩ := h
    have nd := scDraw.nd
    refine ⟨_, pss_cons (ps_while PassesOwn.never
        (PW.pt (pw_and (pt_cmpR op_eq (pe_ix ix_list (pv 0) pe_int (fun _ _ => rfl)) pe_int (nomark _)) (pw_and1 (pt_cmpR (op_neD hr.units) (pe_ix ix_list (pv 0) pe_int (fun _ _ => rfl)) (pe_lst pa_nil) (nomark _)))))
        (pss_cons (ps_set (i := 2) nd rfl (.inl rfl) (pe_bm PySem.F.plainAttrs_list PySem.F.slot_list_pop PySem.F.type_list_pop mt_popAt (pe_ix ix_list (pv 0) pe_int (fun _ _ => rfl)) (pa_cons pe_int pa_nil)))
        (pss_cons (ps_asg (pe_op op_mod (pe_op op_add (pe_op op_add (pe_op op_mul (pe_ix ix_list (pv 0) pe_int (fun _ _ => rfl)) pe_int) (pe_op op_mod (pv 2) pe_int)) pe_int) pe_int) (pg_sub (pv 0) pe_int set_list))
        (pss_one (ps_asg (pe_op op_mul (pv 2) (pe_callTy call_int1 (by rfl) mi (by decide +kernel) (pa_cons (pe_cmpR op_ge (pv 2) (pe_op op_pow pe_int pe_int) (nomark _)) pa_nil))) (pg_sub (pv 0) pe_int set_list))))))
      (pss_cons (ps_if (pt_cmpR op_gt (pe_ix ix_list (pv 0) pe_int (fun _ _ => rfl)) pe_int (nomark _))
          (pss_cons (ps_set (i := 3) nd rfl (.inl rfl) (pe_op op_mod (pe_ix ix_list (pv 0) pe_int (fun _ _ => rfl)) (pv 1)))
          (pss_cons (ps_asg (pe_op op_fdiv (pe_ix ix_list (pv 0) pe_int (fun _ _ => rfl)) (pv 1)) (pg_sub (pv 0) pe_int set_list))
          (pss_one (ps_ret (pv 3))))) pss_nil)
      (pss_cons (ps_asg (pe_op op_add (pe_ix ix_list (pv 0) pe_int (fun _ _ => rfl)) pe_int) (pg_sub (pv 0) pe_int set_list))
      (pss_cons (ps_set (i := 4) nd rfl (.inl rfl) (pe_op op_mod (pe_op op_add (pe_op op_add (pe_op op_mul (pe_ix ix_list (pv 0) pe_int (fun _ _ => rfl)) pe_int)
          (pe_op op_mul (pe_op op_mul (pe_ix ix_list (pv 0) pe_int (fun _ _ => rfl)) (pe_ix ix_list (pv 0) pe_int (fun _ _ => rfl))) pe_int)) pe_int) pe_int))
      (pss_one (ps_ret (pe_op op_mod (pe_op op_fdiv (pe_op op_mod (pe_op op_mul (pv 4) (pv 4)) pe_int) pe_int) (pv 1))))))), ?_⟩
    obtain ⟨n1, n2, n3, hn', bs, cb, k, ha, hb, hc, q1, q2, q3, q4, q5, q6, q7⟩ := hS
    subst n3
    refine while_st (fun σ H1 => ∃ (bs : List Int) (cb : Int × Int) (x2 : Option V), σ = [some (.ref st), some (.int m), x2, none, none] ∧ H1 st = some (.lst [.ref cel, .int cb.1, .int k, .int cb.2]) ∧
        H1 cel = some (.lst (bs.map V.int)) ∧ (∀ b ∈ bs, 0 ≤ b) ∧ 0 ≤ cb.1 ∧ 0 ≤ cb.2 ∧ cb.2 < 1099511627776 ∧ bs.length ≤ 63 ∧ Kp st cel H H1)
      (fun σ H1 => match H1 cel with | some (.lst xs) => xs.length | _ => 0) ⟨bs, cb, none, rfl, ha, hb, q1, q2, q5, q6, q7, .refl H⟩ ?_ ?_ ?_
    · rintro σ H1 ⟨bs, cb, x2, rfl, a1, b1, p1, p2, p3, p4, p5, kp⟩
      have sA : SqL K H1 st [.ref cel, .int cb.1, .int k, .int cb.2] := SqL.of a1
      have cn : cel ≠ st := fun z => n2 z.symm
      refine ⟨.ref st, rfl, st, _, 1, _, rfl, rfl, sA, atI_nat (j := 1) rfl, _, _, rfl, rfl, _, rfl, ite2 (fun e => ?_) (fun e => ?_)⟩
      · have e0 : 0 < cb.1 := of_decide_eq_true e
        refine ⟨.ref st, rfl, st, _, 1, _, rfl, rfl, sA, atI_nat (j := 1) rfl, .int m, rfl, _, _, rfl, rfl, m0, ?_⟩
        refine ⟨.ref st, rfl, st, _, 1, _, rfl, rfl, sA, atI_nat (j := 1) rfl, .int m, rfl, _, _, rfl, rfl, ⟨m0, by omega⟩, .ref st, rfl, st, _, 1, 1, rfl, rfl, a1, rfl, ?_⟩
        refine ⟨.int (cb.1 % m), rfl, q _ _ (Int.emod_nonneg _ (by omega)) (Int.emod_lt_of_pos _ m0) ⟨n2, n2, rfl, by omega, bs, (cb.1 / m, cb.2), k, upd_same, by rw [upd_ne cn]; exact b1, by rw [upd_ne cn]; exact b1, p1, Int.ediv_nonneg (by omega) (by omega), q3, by omega, p3, p4, p5⟩ (kp.trans (.put (.inl rfl)))⟩
      · have kb : 0 ≤ k + 1 ∧ k + 1 ≤ 1000001 := by omega
        refine ⟨.ref st, rfl, st, _, 2, _, rfl, rfl, sA, atI_nat (j := 2) rfl, k, 1, rfl, rfl, .ref st, rfl, st, _, 2, 2, rfl, rfl, a1, rfl, ?_⟩
        generalize hH3 : upd H1 st (.lst ([V.ref cel, V.int cb.1, V.int k, V.int cb.2].set 2 (V.int (k + 1)))) = H3
        have a3 : H3 st = some (.lst [V.ref cel, V.int cb.1, V.int (k + 1), V.int cb.2]) := by
          rw [← hH3]
          exact upd_same
        have b3 : H3 cel = some (.lst (bs.map V.int)) := by
          rw [← hH3, upd_ne cn]
          exact b1
        have k3 : Kp st cel H H3 := by
          rw [← hH3]
          exact kp.trans (.put (.inl rfl))
        have S3 := SqL.of (K := K) a3
        refine ⟨.ref st, rfl, st, _, 3, _, rfl, rfl, S3, atI_nat (j := 3) rfl, _, _, rfl, rfl, .inr ⟨by decide, by decide⟩, .ref st, rfl, st, _, 2, _, rfl, rfl, S3, atI_nat (j := 2) rfl, .ref st, rfl, st, _, 2, _, rfl, rfl, S3, atI_nat (j := 2) rfl,
          _, _, rfl, rfl, .inl ⟨by omega, by omega⟩, _, _, rfl, rfl, .inr ⟨by decide, by decide⟩, _, _, rfl, rfl, _, _, rfl, rfl, _, _, rfl, rfl, (show (0 : Int) < 2147483587 by decide), ?_⟩
        dsimp only
        generalize hmx : cb.2 * 48271 + (k + 1) * (k + 1) * 40692 + 7 = mx
        have f0 : 0 ≤ mx % 2147483587 := Int.emod_nonneg _ (by decide)
        have f1 : mx % 2147483587 < 2147483587 := Int.emod_lt_of_pos _ (by decide)
        generalize mx % 2147483587 = my at f0 f1 ⊢
        refine ⟨.int my, rfl, .int my, rfl, _, _, rfl, rfl, .inl ⟨by omega, by omega⟩, _, _, rfl, rfl, (show (0 : Int) < 2147483563 by decide), _, _, rfl, rfl, ⟨by decide, by decide⟩, .int m, rfl, _, m, rfl, rfl, m0, ?_⟩
        refine q H3 _ (Int.emod_nonneg _ (by omega)) (Int.emod_lt_of_pos _ m0) ⟨n2, n2, rfl, by omega, bs, cb, k + 1, a3, b3, b3, p1, p2, by omega, by omega, p3, p4, p5⟩ k3
    · rintro σ H1 ⟨bs, cb, x2, rfl, a1, b1, p1, p2, p3, p4, p5, kp⟩
      have sA : SqL K H1 st [.ref cel, .int cb.1, .int k, .int cb.2] := SqL.of a1
      have sB : SqL K H1 cel (bs.map V.int) := SqL.of b1
      refine ⟨.ref st, rfl, st, _, 1, _, rfl, rfl, sA, atI_nat (j := 1) rfl, rfl, _, rfl, iteB (fun e => ?_) fun e => ⟨⟨bs, cb, x2, rfl, a1, b1, p1, p2, p3, p4, p5, kp⟩, fun z => nomatch z⟩⟩
      have e0 : cb.1 = 0 := V.int.inj (of_decide_eq_true e)
      refine ⟨.ref st, rfl, st, _, 0, _, rfl, rfl, sA, atI_nat (j := 0) rfl, sz (Nat.zero_le _), fun e ne => ?_⟩
      have sm : Same H1 (upd H1 e (.lst [])) := Same.new ne
      have a2 := sm _ _ a1
      have b2 := sm _ _ b1
      refine ⟨_, _, dp_lst (sm.seq sB), dp_nil (SqL.of upd_same), shaped_lst bs, shaped_nil, _, rfl, ⟨bs, cb, x2, rfl, a2, b2, p1, p2, p3, p4, p5, kp.trans (.new ne)⟩, ?_⟩
      generalize upd H1 e (.lst []) = H2 at sm a2 b2 ⊢
      intro hne
      cases bs with
      | nil => rw [eqv_nil] at hne; cases hne
      | cons b r =>
        have hb0 : 0 ≤ b := p1 b List.mem_cons_self
        refine ⟨.ref st, rfl, st, _, 0, .ref cel, rfl, rfl, SqL.of a2, atI_nat (j := 0) rfl, .inl ⟨rfl, _, SqL.of b2⟩, cel, _, 0, 0, .int b, rfl, rfl, b2, by decide, by decide, ?_, rfl, ?_⟩
        · exact seqIndex_of (by decide) (by simp)
        have a3 : (upd H2 cel (.lst (r.map V.int))) st = some (.lst [.ref cel, .int cb.1, .int k, .int cb.2]) := by
          rw [upd_ne n2]
          exact a2
        have b3 : (upd H2 cel (.lst (r.map V.int))) cel = some (.lst (r.map V.int)) := upd_same
        have k3 : Kp st cel H (upd H2 cel (.lst (r.map V.int))) := (kp.trans (.of sm)).trans (.put (.inr rfl))
        show gName 2 (V.int b) _ (upd H2 cel (.lst (r.map V.int))) _
        generalize upd H2 cel (.lst (r.map V.int)) = H3 at a3 b3 k3 ⊢
        have S3 := SqL.of (K := K) a3
        have cn : cel ≠ st := fun z => n2 z.symm
        refine ⟨.ref st, rfl, st, _, 3, _, rfl, rfl, S3, atI_nat (j := 3) rfl, _, _, rfl, rfl, .inr ⟨by decide, by decide⟩, .int b, rfl, _, _, rfl, rfl, (show (0 : Int) < 2147483629 by decide), _, _, rfl, rfl, _, _, rfl, rfl, _, _, rfl, rfl, (show (0 : Int) < 2147483629 by decide), .ref st, rfl, st, _, 3, 3, rfl, rfl, a3, rfl, ?_⟩
        dsimp only
        generalize hbl : (cb.2 * 69069 + b % 2147483629 + 1) % 2147483629 = bl
        have g0 : 0 ≤ bl := by rw [← hbl]; exact Int.emod_nonneg _ (by decide)
        have g1 : bl < 2147483629 := by rw [← hbl]; exact Int.emod_lt_of_pos _ (by decide)
        have a4 : (upd H3 st (.lst ([V.ref cel, V.int cb.1, V.int k, V.int cb.2].set 3 (V.int bl)))) st = some (.lst [.ref cel, .int cb.1, .int k, .int bl]) := upd_same
        have b4 : (upd H3 st (.lst ([V.ref cel, V.int cb.1, V.int k, V.int cb.2].set 3 (V.int bl)))) cel = some (.lst (r.map V.int)) := by
          rw [upd_ne cn]
          exact b3
        have k4 : Kp st cel H (upd H3 st (.lst ([V.ref cel, V.int cb.1, V.int k, V.int cb.2].set 3 (V.int bl)))) := k3.trans (.put (.inl rfl))
        generalize upd H3 st (.lst ([V.ref cel, V.int cb.1, V.int k, V.int cb.2].set 3 (V.int bl))) = H4 at a4 b4 k4 ⊢
        refine ⟨.int b, rfl, .int b, rfl, _, _, rfl, rfl, ⟨by decide, by decide, by decide⟩, _, _, rfl, rfl, .inr ⟨_, rfl, ?_⟩⟩
        generalize hf : (if decide (b ≥ 10 ^ (18 : Int).toNat) = true then (1 : Int) else 0) = f
        have hf1 : f = 0 ∨ f = 1 := by
          rw [← hf]
          split <;> simp
        refine ⟨b, f, rfl, rfl, .inr ⟨by omega, by omega⟩, .ref st, rfl, st, _, 1, 1, rfl, rfl, a4, rfl, ?_⟩
        refine ⟨⟨r, (b * f, bl), some (.int b), rfl, upd_same, by rw [upd_ne cn]; exact b4, fun z hz => p1 z (List.mem_cons_of_mem _ hz), ?_, g0, by omega, by rw [List.length_cons] at p5; omega, k4.trans (.put (.inl rfl))⟩, ?_⟩
        · rcases hf1 with h | h <;> rw [h] <;> omega
        · have e5 : (upd H4 st (.lst ([V.ref cel, V.int cb.1, V.int k, V.int bl].set 1 (V.int (b * f))))) cel = some (.lst (r.map V.int)) := by rw [upd_ne cn]; exact b4
          simp only [e5, b1]
          simp
    · rintro σ H1 Q1 Q2 hQ ⟨v1, e1, p, xs, i, v, h2, h3, h4, h5, h6, kk, hk, h7⟩
      refine ⟨v1, e1, p, xs, i, v, h2, h3, h4, h5, h6, kk, hk, ?_⟩
      cases kk with
      | false => exact iteF (hQ _ _ (by rw [if_neg Bool.false_ne_true] at h7; exact h7))
      | true =>
        rw [if_pos rfl] at h7
        obtain ⟨v1, e1, p, xs, i, v, h2, h3, h4, h5, h7⟩ := h7
        refine iteT ⟨v1, e1, p, xs, i, v, h2, h3, h4, h5, h7.1, fun e ne => ?_⟩
        obtain ⟨d1, d2, g1, g2, g3, g4, c, g5, g6⟩ := h7.2 e ne
        exact ⟨d1, d2, g1, g2, g3, g4, c, g5, hQ _ _ g6⟩
end

end Sv

namespace Sv
open PySem PySem.Spec PyProof.Rows L2
theorem yesT {σ : L2.St} {H : Hp} {A B : Hp → Prop} (h : A H) : tYes σ H (fun b H3 => if b = true then A H3 else B H3) := by
  show (if true = true then A H else B H)
  rw [if_pos rfl]
  exact h
theorem Same.put {H H' : Hp} {p : Addr} {o : HO} (h : H p = none) (e : Same H H') : Same H (upd H' p o) := fun c u q => by
  rw [upd_ne (ne_of_none q h)]
  exact e _ _ q
def absI (n : Int) : Int := if n < 0 then -n else n
theorem absI_nn (n : Int) : 0 ≤ absI n := by
  unfold absI
  split <;> omega
theorem cut_toM {xs : List V} (i : Nat) : cutV xs none (some (i : Int)) = xs.take i := by
  unfold cutV
  rw [HT.sIx_none, HT.sIx_nat]
  by_cases h : i ≤ xs.length
  · rw [Nat.min_eq_left h]
    rfl
  · rw [Nat.min_eq_right (by omega), List.take_of_length_le (i := i) (by omega)]
    show (xs.drop 0).take (xs.length - 0) = xs
    rw [List.drop_zero, Nat.sub_zero, List.take_length]
def spState (K : PySem.W.Frag) : Sp := fun vs H Q _ => ∃ (a : Addr) (ns : List Int), vs = [.ref a] ∧ SqL K H a (ns.map V.int) ∧ ns.length ≤ 63 ∧
  ∀ (H' : Hp) (st big cel : Addr), StAt H' st big cel 0 → Same H H' → H st = none → H big = none → H cel = none → Q (.ref st) H'
section
variable {P : Program} {w : World} {K : PySem.W.Frag} {mg : Str → Option Value} {base : Heap}
theorem ok_state {f : Addr} {fd : FuncData} (F : Fun K "_law_deck" "_law_deck" sState f fd) (ml : mg "len" = none) (ma : mg "abs" = none) : FnOk P w K mg base CX0 1 f fd ["_law_script"] (spState K) := by
  refine F.ok scState (fun vs H Q E h => ?_) (fun cdv A outer s H vs Q E hr h => ?_)
  · obtain ⟨a, ns, rfl, _⟩ := h
    rfl
  · obtain ⟨a, ns, rfl, hS, hlen, q⟩ := h
    refine ⟨_, pss_one (ps_ret (pe_lst (pa_cons (pe_lc (own := [("_law_cell", 1)]) (g := gName 1) (by rfl) scState.nd (pi_list (pe_slice sl_list (pv 0) po_none (po_some pe_int)))
          (blkOk_by (own := [("_law_cell", 1)]) (N := ["_law_script", "_law_cell"]) (sc := defScope sState) (by decide +kernel))
          (fun _ _ _ _ _ => pg_name (i := 1) scState.nd rfl (Or.inl rfl)) (fun _ _ _ _ _ => pts_nil)
          (fun _ _ _ _ _ => pe_callB call_abs (by rfl) ma (by decide +kernel) (pa_cons (pv 1) pa_nil)))
        (pa_cons pe_int (pa_cons pe_int (pa_cons (pe_op op_add pe_int (pe_op op_mul pe_int (pe_callB call_len_seq (by rfl) ml PySem.boot_len (pa_cons (pv 0) pa_nil)))) pa_nil)))))), ?_⟩
    refine ⟨.ref a, rfl, 63, rfl, a, _, rfl, hS, fun c nc => ?_⟩
    have hct : cutV (ns.map V.int) none (some 63) = ns.map V.int := by
      have := cut_toM (xs := ns.map V.int) 63
      rw [List.take_of_length_le (by rw [List.length_map]; exact hlen)] at this
      exact this
    rw [hct]
    have s1 : Same H (upd H c (.lst (ns.map V.int))) := Same.new nc
    have hc1 : (upd H c (.lst (ns.map V.int))) c = some (.lst (ns.map V.int)) := upd_same
    generalize upd H c (.lst (ns.map V.int)) = H1 at s1 hc1 ⊢
    refine ⟨c, rfl, ⟨_, SqL.of hc1⟩, fun D nD => ?_⟩
    refine lc_list (K := K) (a := c) (xs := ns.map V.int) (fun i H' => Same H1 H' ∧ H' D = some (.lst ((ns.take i).map fun n => V.int (absI n))))
      ⟨Same.new nD, upd_same⟩ (fun i H' _ p => p.1.seq (SqL.of hc1)) (fun i x H' hx p => ?_) (fun H2 p => ?_)
    · obtain ⟨n, hn, rfl⟩ : ∃ n, ns[i]? = some n ∧ V.int n = x := by
        rw [List.getElem?_map] at hx
        cases e : ns[i]? with
        | none => rw [e] at hx; cases hx
        | some n => rw [e] at hx; exact ⟨n, rfl, Option.some.inj hx⟩
      refine ⟨rfl, ?_⟩
      refine yesT ?_
      refine ⟨_, rfl, n, rfl, _, p.2, ?_, Same.put nD p.1, ?_⟩
      · rw [List.length_map, List.length_take]
        exact Nat.lt_of_le_of_lt (Nat.min_le_right _ _) (small1000 (by omega))
      · rw [upd_same, List.take_add_one, hn, List.map_append]
        rfl
    · obtain ⟨s2, hD⟩ := p
      rw [List.length_map, List.take_length] at hD
      have ecs : (ns.map fun n => V.int (absI n)) = (ns.map absI).map V.int := by rw [List.map_map]; rfl
      rw [ecs] at hD
      refine ⟨.ref a, rfl, a, _, rfl, .inl (s2.seq (s1.seq hS)), _, _, rfl, rfl, .inl ⟨by decide, by decide⟩, _, _, rfl, rfl, sz (by show 4 ≤ 1000; decide), fun st nst => ?_⟩
      have s3 := Same.new (o := .lst [V.ref D, V.int 0, V.int 0, V.int (5 + 31 * ((ns.map V.int).length : Int))]) nst
      have Dst : st ≠ D := fun z => by rw [z, hD] at nst; cases nst
      refine q _ st D D ⟨Dst, Dst, rfl, by decide, ns.map absI, (0, 5 + 31 * ((ns.map V.int).length : Int)), 0, upd_same, s3 _ _ hD, s3 _ _ hD, ?_, Int.le_refl _, Int.le_refl _, Int.le_refl _, ?_, ?_, ?_⟩ ((s1.trans s2).trans s3) ((s1.trans s2).free nst) (s1.free nD) (s1.free nD)
      · intro b hb
        obtain ⟨m, _, rfl⟩ := List.mem_map.mp hb
        exact absI_nn m
      · show (0 : Int) ≤ 5 + 31 * ((ns.map V.int).length : Int)
        omega
      · show 5 + 31 * ((ns.map V.int).length : Int) < 1099511627776
        rw [List.length_map]
        omega
      · rw [List.length_map]
        exact hlen
end

end Sv

namespace Sv
open PySem PySem.Spec PyProof.Rows L2
abbrev sMixed : Stmt := topS 17
abbrev nMixed : List Str := ["_law_deck_here", "_law_items", "_law_left", "_law_k"]
theorem scMixed : FnScope nMixed ["_law_deck_here", "_law_items"] (defScope sMixed) := ⟨rfl, rfl, rfl, by decide +kernel, rfl, by decide +kernel, by decide +kernel⟩
theorem Kp.put' {a b : Addr} {H H1 : Hp} {p : Addr} {o : HO} (h : H p = none) (e : Kp a b H H1) : Kp a b H (upd H1 p o) := fun c u h1 h2 q => by
  rw [upd_ne (ne_of_none q h)]
  exact e _ _ h1 h2 q
theorem erase_perm {α : Type} : ∀ (l : List α) (i : Nat) (x : α), l[i]? = some x → (x :: l.eraseIdx i).Perm l
  | [], i, x, h => by simp at h
  | a :: r, 0, x, h => by
    have e : a = x := Option.some.inj h
    subst e
    exact .refl _
  | a :: r, i + 1, x, h => (List.Perm.swap a x _).trans ((erase_perm r i x h).cons a)
theorem eraseIdx_map {α β : Type} (f : α → β) : ∀ (l : List α) (i : Nat), (l.map f).eraseIdx i = (l.eraseIdx i).map f
  | [], _ => rfl
  | _ :: _, 0 => rfl
  | a :: r, i + 1 => by
    show f a :: (r.map f).eraseIdx i = f a :: (r.eraseIdx i).map f
    rw [eraseIdx_map f r i]
theorem at_map {α β : Type} {f : α → β} {l : List α} {i : Nat} {x : α} (h : l[i]? = some x) : (l.map f)[i]? = some (f x) := by
  rw [List.getElem?_map, h]
  rfl
theorem of_at_map {α β : Type} {f : α → β} {l : List α} {i : Nat} {y : β} (h : (l.map f)[i]? = some y) : ∃ x, l[i]? = some x ∧ f x = y := by
  rw [List.getElem?_map] at h
  cases e : l[i]? with
  | none => rw [e] at h; cases h
  | some x => rw [e] at h; exact ⟨x, rfl, Option.some.inj h⟩
theorem pe_bmK {X : Cx} {K : PySem.W.Frag} {T : String} {name : Str} {id : String} {r : V → List V → Hp → VK → Prop} {o e : Expr} {es : List Expr} {apos cpos : Pos} {to : TE} {t : TA} (hK : X.K = K) (pa : PlainAttrs T) (slot : Slot T name id) (hty : typeOf (.builtin id) = pure (.type "method_descriptor")) (hm : MtR X id r) (ho : PE X o to) (ha : PA X (e :: es) t)
    (hbase : attributeBase o name X.env (eval o X.env) = eval o X.env := by rfl)
    (hfew : ((backTo cpos (starEach (e :: es) X.env)).all (fun x => !x.1) && (backToKw cpos (keywordEach [] X.env)).all (fun x => x.1.isSome)
      && decide ((e :: es).length + ([] : List Keyword).length + (if ([] : List Keyword).isEmpty then 0 else 1) < 30)) = true := by rfl)
    (hline : (apos.endLine == cpos.line) = true := by rfl) (hs : starEach (e :: es) X.env = (false, eval e X.env) :: starEach es X.env := by rfl) (hplain : (backTo cpos (starEach es X.env)).any (·.1) = false := by rfl) :
    PE X (.Call (.Attribute o name apos) (e :: es) [] cpos) (tBM K T r to t) := hK ▸ pe_bm pa slot hty hm ho ha hbase hfew hline hs hplain
def spMixed (K : PySem.W.Frag) : Sp := fun vs H Q _ => ∃ (st big cel a : Addr) (n : Nat) (ns : List Int), vs = [.ref st, .ref a] ∧ (SqL K H a (ns.map V.int) ∨ SqT K H a (ns.map V.int)) ∧ ns.length ≤ 1000 ∧
  StAt H st big cel n ∧ n + ns.length ≤ 1000000 ∧
  ∀ (H' : Hp) (t : Addr) (ms : List Int), H t = none → H' t = some (.lst (ms.map V.int)) → ms.Perm ns → StAt H' st big cel (n + ns.length) → Kp st big H H' → Q (.ref t) H'
section
variable {P : Program} {w : World} {K : PySem.W.Frag} {mg : Str → Option Value} {base : Heap}
theorem ok_mixed {f fD : Addr} {fd fdD : FuncData} (F : Fun K "_law_shuffled" "_law_shuffled" sMixed f fd) (FD : Fun K "_law_next" "_law_next" sDraw fD fdD) (bD : Binds K fdD ["_law_deck_here", "_law_many"] [])
    (gD : mg "_law_next" = some (.ref fD)) (ml : mg "len" = none) (mli : mg "list" = none) (mra : mg "range" = none) (mi : mg "int" = none) : FnOk P w K mg base CX0 2 f fd ["_law_deck_here", "_law_items"] (spMixed K) := by
  have GD : FnOk P w K mg base CX0 1 fD fdD ["_law_deck_here", "_law_many"] spDraw := ok_draw FD mi
  refine F.ok scMixed (fun vs H Q E h => ?_) (fun cdv A outer s H vs Q E hr h => ?_)
  · obtain ⟨st, big, cel, a, n, ns, rfl, _⟩ := h
    rfl
  · obtain ⟨st, big, cel, a, n, ns, rfl, hA, hlen, hS, hn, q⟩ := h
    have nd := scMixed.nd
    refine ⟨_, pss_cons (ps_set (i := 2) nd rfl (.inr rfl) (pe_callTy call_list_of (by rfl) mli (by decide +kernel) (pa_cons (pv 1) pa_nil)))
      (pss_one (ps_ret (pe_lc (own := [("_law_k", 3)]) (g := gName 3) (by rfl) nd (pi_range1 (by rfl) mra (pa_cons (pe_callB call_len_seq (by rfl) ml PySem.boot_len (pa_cons (pv 2) pa_nil)) pa_nil))
          (blkOk_by (own := [("_law_k", 3)]) (N := nMixed) (sc := defScope sMixed) (by decide +kernel))
          (fun _ _ _ _ _ => pg_name (i := 3) nd rfl (Or.inl rfl)) (fun _ _ _ _ _ => pts_nil)
          (fun _ _ _ _ _ => pe_bmK (K := K) (by rfl) PySem.F.plainAttrs_list PySem.F.slot_list_pop PySem.F.type_list_pop mt_popAt (pv 2)
            (pa_cons (pe_call GD hr (by rfl) gD FD.kp bD .nil pass0 (pa_cons (pv 0) (pa_cons (pe_callB (r := rLenS K) call_len_s (by rfl) ml PySem.boot_len (pa_cons (pv 2) pa_nil)) pa_nil))) pa_nil))))), ?_⟩
    refine ⟨.ref a, rfl, a, _, rfl, hA, fun l nl => ?_⟩
    have sl : Same H (upd H l (.lst (ns.map V.int))) := Same.new nl
    have snel := hS.ne nl
    refine ⟨.ref l, rfl, l, _, rfl, .inl (SqL.of upd_same), (ns.length : Int), by rw [List.length_map], by omega, by omega, fun D nD => ?_⟩
    have nD0 : H D = none := sl.free nD
    have sneD := hS.ne nD0
    have lD : l ≠ D := fun z => by
      rw [← z, upd_same] at nD
      cases nD
    refine lc_range (lo := 0) (n := ns.length) (fun j H' => ∃ (ls fs : List Int), H' l = some (.lst (ls.map V.int)) ∧ H' D = some (.lst (fs.map V.int)) ∧ (fs ++ ls).Perm ns ∧ fs.length = j ∧ StAt H' st big cel (n + j) ∧ Kp st big H H')
      ⟨ns, [], by rw [upd_ne lD, upd_same], upd_same, .refl _, rfl, (hS.same sl).same (Same.new nD), Kp.put' nD0 (Kp.put' nl (.refl H))⟩ (fun j H1 hj z => ?_) (fun H1 z => ?_)
    · obtain ⟨ls, fs, hl, hD, hp, hf, hS1, kp⟩ := z
      have hpl := hp.length_eq
      rw [List.length_append] at hpl
      refine ⟨rfl, yesT ⟨.ref l, rfl, .inl ⟨rfl, _, SqL.of hl⟩, .ref st, rfl, .ref l, rfl, l, _, rfl, .inl (SqL.of hl), st, big, cel, n + j, _, rfl, ?_, ?_, hS1, by omega, fun H3 v v0 v1 hS3 k3 => ?_⟩⟩
      · rw [List.length_map]
        omega
      · rw [List.length_map]
        omega
      rw [List.length_map] at v1
      obtain ⟨i, rfl⟩ : ∃ i : Nat, v = (i : Int) := ⟨v.toNat, (Int.toNat_of_nonneg v0).symm⟩
      have hi : i < ls.length := by omega
      have hl3 := k3 _ _ snel.1.symm snel.2.1.symm hl
      have hD3 := k3 _ _ sneD.1.symm sneD.2.1.symm hD
      have hat := List.getElem?_eq_getElem hi
      refine ⟨l, _, i, i, _, rfl, rfl, hl3, by omega, by omega, ?_, at_map hat, ?_⟩
      · have e := seqIndex_of (k := (i : Int)) (n := (List.map V.int ls).length) (by omega) (by rw [List.length_map]; omega)
        rw [e, Int.toNat_natCast]
      · rw [eraseIdx_map]
        refine ⟨_, by rw [upd_ne lD.symm]; exact hD3, ?_, ls.eraseIdx i, fs ++ [ls[i]], ?_, ?_, ?_, ?_, ?_, ?_⟩
        · rw [List.length_map]
          exact small1000 (by omega)
        · rw [upd_ne lD]
          exact upd_same
        · rw [upd_same, List.map_append]
          rfl
        · rw [List.append_assoc]
          exact ((erase_perm _ _ _ hat).append_left fs).trans hp
        · rw [List.length_append, List.length_singleton, hf]
        · obtain ⟨h1, h2, h3, h4, bs, cs, k, d1, d2, d3, d4⟩ := hS3
          refine ⟨h1, h2, h3, h4, bs, cs, k, ?_, ?_, ?_, d4⟩
          · rw [upd_ne sneD.1, upd_ne snel.1]
            exact d1
          · rw [upd_ne sneD.2.1, upd_ne snel.2.1]
            exact d2
          · rw [upd_ne sneD.2.2, upd_ne snel.2.2]
            exact d3
        · exact Kp.put' nD0 (Kp.put' nl (kp.trans k3))
    · obtain ⟨ls, fs, hl, hD, hp, hf, hS1, kp⟩ := z
      have hpl := hp.length_eq
      rw [List.length_append] at hpl
      have : ls = [] := List.length_eq_zero_iff.mp (by omega)
      subst this
      rw [List.append_nil] at hp
      exact q _ D fs nD0 hD hp hS1 kp
end

end Sv

namespace Sv
open PySem PySem.Spec PyProof.Rows L2
abbrev sPick : Stmt := topS 16
theorem scPick : FnScope ["_law_deck_here", "_law_some"] ["_law_deck_here", "_law_some"] (defScope sPick) := ⟨rfl, rfl, rfl, by decide +kernel, rfl, by decide +kernel, by decide +kernel⟩
/-- items[draw] of a list or a tuple -/
def spPick (K : PySem.W.Frag) : Sp := fun vs H Q _ => ∃ (st big cel a : Addr) (n : Nat) (xs : List V), vs = [.ref st, .ref a] ∧ a ≠ st ∧ a ≠ big ∧ SqL K H a xs ∧ xs ≠ [] ∧ xs.length < 1000000 ∧
  StAt H st big cel n ∧ n < 1000000 ∧ ∀ (H' : Hp) (i : Nat) (v : V), xs[i]? = some v → StAt H' st big cel (n + 1) → Kp st big H H' → Q v H'
section
variable {P : Program} {w : World} {K : PySem.W.Frag} {mg : Str → Option Value} {base : Heap}
theorem ok_pick {f fD : Addr} {fd fdD : FuncData} (F : Fun K "_law_one" "_law_one" sPick f fd) (FD : Fun K "_law_next" "_law_next" sDraw fD fdD) (bD : Binds K fdD ["_law_deck_here", "_law_many"] [])
    (gD : mg "_law_next" = some (.ref fD)) (ml : mg "len" = none) (mi : mg "int" = none) : FnOk P w K mg base CX0 2 f fd ["_law_deck_here", "_law_some"] (spPick K) := by
  have GD : FnOk P w K mg base CX0 1 fD fdD ["_law_deck_here", "_law_many"] spDraw := ok_draw FD mi
  refine F.ok scPick (fun vs H Q E h => ?_) (fun cdv A outer s H vs Q E hr h => ?_)
  · obtain ⟨st, big, cel, a, n, ns, rfl, _⟩ := h
    rfl
  · obtain ⟨st, big, cel, a, n, xs, rfl, a1, a2, hA, hne, hlen, hS, hn, q⟩ := h
    refine ⟨_, pss_one (ps_ret (pe_ix ix_list (pv 1) (pe_call GD hr (by rfl) gD FD.kp bD .nil pass0 (pa_cons (pv 0) (pa_cons (pe_callB call_len_seq (by rfl) ml PySem.boot_len (pa_cons (pv 1) pa_nil)) pa_nil))) (fun _ _ => rfl))), ?_⟩
    have hp : 0 < xs.length := List.length_pos_iff.mpr hne
    refine ⟨.ref a, rfl, .ref st, rfl, .ref a, rfl, a, _, rfl, .inl hA, st, big, cel, n, _, rfl, by omega, by omega, hS, hn, fun H3 v v0 v1 hS3 k3 => ?_⟩
    obtain ⟨i, rfl⟩ : ∃ i : Nat, v = (i : Int) := ⟨v.toNat, (Int.toNat_of_nonneg v0).symm⟩
    have hi : i < xs.length := by omega
    have hat := List.getElem?_eq_getElem hi
    have hA3 : SqL K H3 a xs := by
      rcases hA with (h | ⟨o, h⟩) | h
      · exact .inl (.inl (k3 _ _ a1 a2 h))
      · exact .inl (.inr ⟨o, k3 _ _ a1 a2 h⟩)
      · exact .inr h
    exact ⟨a, _, i, _, rfl, rfl, hA3, atI_nat hat, q H3 i _ hat hS3 k3⟩
end

end Sv

namespace Sv
open PySem PySem.Spec PyProof.Rows L2
/-! ### histories, grown event by event -/
inductive Grown (c : Nat) (nm : List Int) : List (List Int) → List (Int × Int) → Nat → Nat → Prop
  | start : Grown c nm (List.replicate c []) [] 0 0
  | skip {r o u k} : Grown c nm r o u k → Grown c nm r o u (k + 1)
  | save {r o u k p row} : Grown c nm r o u k → r[p]? = some row → Grown c nm (r.set p (row ++ [0])) o u (k + 1)
  | send {r o u k p row m} : Grown c nm r o u k → r[p]? = some row → nm[u]? = some m → Grown c nm (r.set p (row ++ [m])) (o ++ [(m, (p : Int))]) (u + 1) (k + 1)
  | recv {r o u k row j m q} {p : Nat} : Grown c nm r o u k → r[p]? = some row → o[j]? = some (m, q) → q ≠ (p : Int) → Grown c nm (r.set p (row ++ [0 - m])) (o.eraseIdx j) u (k + 1)
def names24 : List Int := (List.range 24).map fun (i : Nat) => (1 : Int) + (i : Nat)
/-- the rows of a history that the law may draw: at most `many` rows, `most` events -/
def Good (many most : Nat) (rows : List (List Int)) : Prop := ∃ (c : Nat) (nm : List Int) (o : List (Int × Int)) (u k : Nat), 1 ≤ c ∧ c ≤ many ∧ nm.Perm names24 ∧ Grown c nm rows o u k ∧ k ≤ most
theorem Grown.len {c : Nat} {nm : List Int} {r : List (List Int)} {o : List (Int × Int)} {u k : Nat} (h : Grown c nm r o u k) : r.length = c := by
  induction h with
  | start => exact List.length_replicate ..
  | skip _ ih => exact ih
  | save _ _ ih => rw [List.length_set]; exact ih
  | send _ _ _ ih => rw [List.length_set]; exact ih
  | recv _ _ _ _ ih => rw [List.length_set]; exact ih
theorem sum_len_set {r : List (List Int)} {p : Nat} {row : List Int} {v : Int} (h : r[p]? = some row) : ((r.set p (row ++ [v])).map List.length).sum = (r.map List.length).sum + 1 := by
  induction r generalizing p with
  | nil => simp at h
  | cons a r ih =>
    cases p with
    | zero =>
      have e : a = row := Option.some.inj h
      subst e
      simp only [List.set_cons_zero, List.map_cons, List.sum_cons, List.length_append, List.length_singleton]
      omega
    | succ p =>
      have := ih (p := p) h
      simp only [List.set_cons_succ, List.map_cons, List.sum_cons, this]
      omega
theorem Grown.events {c : Nat} {nm : List Int} {r : List (List Int)} {o : List (Int × Int)} {u k : Nat} (h : Grown c nm r o u k) : (r.map List.length).sum ≤ k := by
  induction h with
  | start => simp
  | skip _ ih => omega
  | save _ h ih => rw [sum_len_set h]; omega
  | send _ h _ ih => rw [sum_len_set h]; omega
  | recv _ h _ _ ih => rw [sum_len_set h]; omega
theorem Grown.opens_le {c : Nat} {nm : List Int} {r : List (List Int)} {o : List (Int × Int)} {u k : Nat} (h : Grown c nm r o u k) : o.length ≤ k := by
  induction h with
  | start => exact Nat.le_refl _
  | skip _ ih => omega
  | save _ _ ih => omega
  | send _ _ _ ih => rw [List.length_append, List.length_singleton]; omega
  | recv _ _ _ _ ih =>
    rw [List.length_eraseIdx]
    split <;> omega
theorem len_le_sum {r : List (List Int)} {p : Nat} {row : List Int} (h : r[p]? = some row) : row.length ≤ (r.map List.length).sum := by
  induction r generalizing p with
  | nil => simp at h
  | cons a r ih =>
    cases p with
    | zero =>
      have e : a = row := Option.some.inj h
      subst e
      simp only [List.map_cons, List.sum_cons]
      omega
    | succ p =>
      have := ih (p := p) h
      simp only [List.map_cons, List.sum_cons]
      omega
/-! ### rows and pairs in the heap -/
def Rows (K : PySem.W.Frag) (H : Hp) (refs : List Addr) (rows : List (List Int)) : Prop := refs.length = rows.length ∧ ∀ (i : Nat) (a : Addr) (row : List Int), refs[i]? = some a → rows[i]? = some row → TupN H a (row.map V.int)
def Opens (K : PySem.W.Frag) (H : Hp) (refs : List Addr) (o : List (Int × Int)) : Prop := refs.length = o.length ∧ ∀ (i : Nat) (a : Addr) (p : Int × Int), refs[i]? = some a → o[i]? = some p → SqT K H a [.int p.1, .int p.2]
def TupK (K : PySem.W.Frag) (H H' : Hp) : Prop := (∀ (a : Addr) (xs : List V), SqT K H a xs → SqT K H' a xs) ∧ ∀ (a : Addr) (xs : List V), TupN H a xs → TupN H' a xs
theorem TupK.of {K : PySem.W.Frag} {H H' : Hp} (h : Same H H') : TupK K H H' := ⟨fun a xs q => by
  rcases q with (q | ⟨o, q⟩) | q
  · exact .inl (.inl (h _ _ q))
  · exact .inl (.inr ⟨o, h _ _ q⟩)
  · exact .inr q, fun a xs q => q.same h⟩
theorem TupK.put {K : PySem.W.Frag} {H : Hp} {l : Addr} {xs : List V} {o : HO} (h : H l = some (.lst xs)) : TupK K H (upd H l o) := ⟨fun a ys q => by
  rcases q with (q | ⟨o, q⟩) | q
  · exact .inl (.inl (by rw [upd_ne (ne_of q h (by intro z; cases z))]; exact q))
  · exact .inl (.inr ⟨o, by rw [upd_ne (ne_of q h (by intro z; cases z))]; exact q⟩)
  · exact .inr q, fun a ys q => by
  obtain ⟨o, q, d⟩ := q
  exact ⟨o, by rw [upd_ne (ne_of q h (by intro z; cases z))]; exact q, d⟩⟩
theorem StAt.tupK {K : PySem.W.Frag} {H H' : Hp} {st big cel : Addr} {n : Nat} (h : StAt H st big cel n) (e : Kp st big H H') : TupK K H H' := ⟨fun _ _ q => h.tup e q, fun _ _ q => h.tupN e q⟩
theorem Rows.keep {K : PySem.W.Frag} {H H' : Hp} {refs : List Addr} {rows : List (List Int)} (h : Rows K H refs rows) (e : TupK K H H') : Rows K H' refs rows := ⟨h.1, fun i a row h1 h2 => e.2 _ _ (h.2 i a row h1 h2)⟩
theorem Opens.keep {K : PySem.W.Frag} {H H' : Hp} {refs : List Addr} {o : List (Int × Int)} (h : Opens K H refs o) (e : TupK K H H') : Opens K H' refs o := ⟨h.1, fun i a row h1 h2 => e.1 _ _ (h.2 i a row h1 h2)⟩
theorem Rows.set {K : PySem.W.Frag} {H : Hp} {refs : List Addr} {rows : List (List Int)} (h : Rows K H refs rows) (p : Nat) {a : Addr} {row : List Int} (q : TupN H a (row.map V.int)) : Rows K H (refs.set p a) (rows.set p row) := by
  refine ⟨by rw [List.length_set, List.length_set]; exact h.1, fun i b r h1 h2 => ?_⟩
  by_cases e : p = i
  · subst e
    rw [List.getElem?_set] at h1 h2
    rw [if_pos rfl] at h1 h2
    split at h1
    · split at h2
      · cases h1; cases h2; exact q
      · cases h2
    · cases h1
  · rw [List.getElem?_set_ne e] at h1 h2
    exact h.2 i b r h1 h2
theorem Opens.snoc {K : PySem.W.Frag} {H : Hp} {refs : List Addr} {o : List (Int × Int)} (h : Opens K H refs o) {a : Addr} {p : Int × Int} (q : SqT K H a [.int p.1, .int p.2]) : Opens K H (refs ++ [a]) (o ++ [p]) := by
  refine ⟨by rw [List.length_append, List.length_append, h.1]; rfl, fun i b r h1 h2 => ?_⟩
  by_cases e : i < refs.length
  · rw [List.getElem?_append_left e] at h1
    rw [List.getElem?_append_left (by rw [← h.1]; exact e)] at h2
    exact h.2 i b r h1 h2
  · rw [List.getElem?_append_right (by omega)] at h1
    rw [List.getElem?_append_right (by rw [← h.1]; omega), ← h.1] at h2
    generalize i - refs.length = j at h1 h2
    cases j with
    | zero => cases h1; cases h2; exact q
    | succ j => simp at h1
theorem at_erase {α : Type} : ∀ (l : List α) (j i : Nat), (l.eraseIdx j)[i]? = if i < j then l[i]? else l[i + 1]? := fun l j i => List.getElem?_eraseIdx ..
theorem Opens.erase {K : PySem.W.Frag} {H : Hp} {refs : List Addr} {o : List (Int × Int)} (h : Opens K H refs o) (j : Nat) : Opens K H (refs.eraseIdx j) (o.eraseIdx j) := by
  refine ⟨by rw [List.length_eraseIdx, List.length_eraseIdx, h.1], fun i b r h1 h2 => ?_⟩
  rw [at_erase] at h1 h2
  split at h1 <;> rename_i e
  · rw [if_pos e] at h2
    exact h.2 i b r h1 h2
  · rw [if_neg e] at h2
    exact h.2 (i + 1) b r h1 h2
/-! ### the pairs as data -/
def pD (p : Int × Int) : PyData := .tuple [.int p.1, .int p.2]
theorem pD_eqv (a b : Int × Int) : PyData.eqv (pD a) (pD b) = decide (a = b) := by
  obtain ⟨x, y⟩ := a
  obtain ⟨z, w⟩ := b
  have e : PyData.eqv (pD (x, y)) (pD (z, w)) = ((x == z) && ((y == w) && true)) := by simp only [pD, PyData.eqv, PyData.eqvAll]
  rw [e, Bool.and_true]
  by_cases h1 : x = z
  · by_cases h2 : y = w
    · subst h1 h2
      simp
    · have : (y == w) = false := beq_eq_false_iff_ne.mpr h2
      rw [this, Bool.and_false]
      exact (decide_eq_false fun q => h2 (Prod.mk.inj q).2).symm
  · have : (x == z) = false := beq_eq_false_iff_ne.mpr h1
    rw [this, Bool.false_and]
    exact (decide_eq_false fun q => h1 (Prod.mk.inj q).1).symm
theorem pD_plain : ∀ o : List (Int × Int), PyData.plainAll (o.map pD) = true
  | [] => rfl
  | p :: r => by
    have h := pD_plain r
    show (PyData.plain (pD p) && PyData.plainAll (r.map pD)) = true
    rw [h]
    rfl
theorem pD_lay : ∀ o : List (Int × Int), PyData.canLayAll0 (o.map pD) = true
  | [] => by simp [PyData.canLayAll0]
  | p :: r => by
    have h := pD_lay r
    simp only [List.map_cons, PyData.canLayAll0, h, pD, PyData.canLay0, Bool.and_self]
theorem pD_depth : ∀ o : List (Int × Int), PyData.depthAll (o.map pD) ≤ 1
  | [] => by simp [PyData.depthAll]
  | p :: r => by
    have h := pD_depth r
    have h2 : (pD p).depth = 1 := by simp [pD, PyData.depth, PyData.depthAll]
    simp only [List.map_cons, PyData.depthAll]
    omega
theorem shaped_pairs (o : List (Int × Int)) : SeqAt.shaped (.list (o.map pD)) = true := by
  have h1 := pD_lay o
  have h2 := pD_depth o
  show (PyData.canLay0 (.list (o.map pD)) && decide (PyData.depth (.list (o.map pD)) ≤ 64)) = true
  simp only [PyData.canLay0, PyData.depth, h1, Bool.true_and]
  exact decide_eq_true (by omega)
theorem Opens.dp {K : PySem.W.Frag} {H : Hp} : ∀ {refs : List Addr} {o : List (Int × Int)}, Opens K H refs o → DpAll K H (refs.map V.ref) (o.map pD)
  | [], [], _ => .nil
  | [], _ :: _, h => absurd h.1 (by simp)
  | _ :: _, [], h => absurd h.1 (by simp)
  | a :: r, p :: o, h => .cons (.tup (h.2 0 a p rfl rfl) (.cons (.int _) (.cons (.int _) .nil)))
      (Opens.dp ⟨by simpa using h.1, fun i b q h1 h2 => h.2 (i + 1) b q h1 h2⟩)
theorem place_of_mem {o : List (Int × Int)} {p : Int × Int} (h : p ∈ o) : ∃ j, SeqAt.dataPlace (o.map pD) (pD p) = some j ∧ o[j]? = some p := by
  induction o with
  | nil => cases h
  | cons a r ih =>
    unfold SeqAt.dataPlace at ih ⊢
    rw [List.map_cons, List.findIdx?_cons, pD_eqv]
    by_cases e : a = p
    · subst e
      exact ⟨0, by rw [decide_eq_true rfl]; rfl, rfl⟩
    · rw [decide_eq_false e]
      rcases List.mem_cons.mp h with z | z
      · exact absurd z.symm e
      · obtain ⟨j, h1, h2⟩ := ih z
        exact ⟨j + 1, by rw [h1]; rfl, h2⟩
/-! ### a tuple and one item more -/
def rCatA (K : PySem.W.Frag) : R2 := fun x y H Q => (∃ a b xs ys, x = .ref a ∧ y = .ref b ∧ SqT K H a xs ∧ SqT K H b ys ∧ xs ≠ [] ∧ ys ≠ [] ∧ xs.length + ys.length ≤ sizeLine ∧
    ∀ (p : Addr) (o : Obj), H p = none → o.dict = none → Q (.ref p) (upd H p (.frz o (.tup (xs ++ ys))))) ∨ (∃ a b ys, x = .ref a ∧ y = .ref b ∧ SqT K H a [] ∧ SqT K H b ys ∧ ys ≠ [] ∧ Q (.ref b) H)
section
variable {X : Cx}
theorem op_catA : OpR X (binaryOp .Add) (rCatA X.K) := OpR.or op_catF op_catE
end
theorem cat_one {K : PySem.W.Frag} {H : Hp} {a b : Addr} {row : List Int} {v : Int} {Q : VK} (ha : SqT K H a (row.map V.int)) (hb : TupN H b [.int v]) (hl : row.length ≤ 900)
    (q : ∀ (H' : Hp) (p : Addr), Same H H' → TupN H' p ((row ++ [v]).map V.int) → Q (.ref p) H') : rCatA K (.ref a) (.ref b) H Q := by
  by_cases h0 : row = []
  · subst h0
    exact .inr ⟨a, b, _, rfl, rfl, ha, hb.sqT, by simp, q H b (.refl H) hb⟩
  · refine .inl ⟨a, b, _, _, rfl, rfl, ha, hb.sqT, fun z => h0 (List.map_eq_nil_iff.mp z), by simp, ?_, fun p o np d => ?_⟩
    · rw [List.length_map, List.length_singleton]
      exact sz (by omega)
    · refine q _ p (Same.new np) ?_
      rw [List.map_append]
      exact TupN.new d

end Sv

namespace Sv
open PySem PySem.Spec PyProof.Rows L2
abbrev sHist : Stmt := topS 18
abbrev nHist : List Str := ["_law_deck_here", "_law_people", "_law_most", "_law_count", "_law_way", "_law_rows", "_law_labels", "_law_open_ones", "_law_k", "_law_process", "_law_pair", "_law_ready", "_law_turn", "_law_event"]
theorem scHist : FnScope nHist ["_law_deck_here", "_law_people", "_law_most"] (defScope sHist) := ⟨rfl, rfl, rfl, by decide +kernel, rfl, by decide +kernel, by decide +kernel⟩
def spHist (K : PySem.W.Frag) : Sp := fun vs H Q _ => ∃ (st big cel : Addr) (n many most : Nat), vs = [.ref st, .int many, .int most] ∧ 1 ≤ many ∧ many ≤ 6 ∧ most ≤ 60 ∧ StAt H st big cel n ∧ n + 300 ≤ 1000000 ∧
  ∀ (H' : Hp) (t : Addr) (refs : List Addr) (rows : List (List Int)), H t = none → H' t = some (.tup (refs.map V.ref)) → Rows K H' refs rows → Good many most rows → StAt H' st big cel (n + 300) → Kp st big H H' → Q (.ref t) H'
/-- between two turns -/
def HInv (K : PySem.W.Frag) (H0 H1 : Hp) (st big cel R O N : Addr) (ls : List Int) (refs orefs : List Addr) (rows : List (List Int)) (opens : List (Int × Int)) (n : Nat) : Prop :=
  StAt H1 st big cel n ∧ Kp st big H0 H1 ∧ H1 R = some (.lst (refs.map V.ref)) ∧ H1 O = some (.lst (orefs.map V.ref)) ∧ H1 N = some (.lst (ls.map V.int)) ∧ Rows K H1 refs rows ∧ Opens K H1 orefs opens
def HK (H0 : Hp) (st big cel R O N : Addr) : Prop := (R ≠ O ∧ R ≠ N ∧ O ≠ N) ∧ ∀ p ∈ [R, O, N], H0 p = none ∧ p ≠ st ∧ p ≠ big ∧ p ≠ cel
section
variable {K : PySem.W.Frag} {H0 H1 H2 : Hp} {st big cel R O N : Addr} {ls : List Int} {refs orefs : List Addr} {rows : List (List Int)} {opens : List (Int × Int)} {n m : Nat}
theorem HInv.same (h : HInv K H0 H1 st big cel R O N ls refs orefs rows opens n) (e : Same H1 H2) : HInv K H0 H2 st big cel R O N ls refs orefs rows opens n := by
  obtain ⟨a1, a2, a3, a4, a5, a6, a7⟩ := h
  exact ⟨a1.same e, a2.trans (.of e), e _ _ a3, e _ _ a4, e _ _ a5, a6.keep (.of e), a7.keep (.of e)⟩
theorem HInv.le (h : HInv K H0 H1 st big cel R O N ls refs orefs rows opens n) (e : n ≤ m) (em : m ≤ 1000000) : HInv K H0 H1 st big cel R O N ls refs orefs rows opens m := ⟨h.1.le e em, h.2⟩
theorem HInv.draw (C : HK H0 st big cel R O N) (h : HInv K H0 H1 st big cel R O N ls refs orefs rows opens n) (e : Kp st big H1 H2) (s : StAt H2 st big cel m) : HInv K H0 H2 st big cel R O N ls refs orefs rows opens m := by
  obtain ⟨a1, a2, a3, a4, a5, a6, a7⟩ := h
  have t : TupK K H1 H2 := a1.tupK e
  have k : ∀ p ∈ [R, O, N], ∀ o, H1 p = some o → H2 p = some o := fun p hp o q => e _ _ (C.2 p hp).2.1 (C.2 p hp).2.2.1 q
  exact ⟨s, a2.trans e, k _ (by simp) _ a3, k _ (by simp) _ a4, k _ (by simp) _ a5, a6.keep t, a7.keep t⟩
theorem HK.put (C : HK H0 st big cel R O N) {p : Addr} (hp : p ∈ [R, O, N]) {o : HO} (h : StAt H1 st big cel n) : StAt (upd H1 p o) st big cel n := by
  obtain ⟨h1, h2, h3, hn, bs, cs, kk, ha, hb, hc, r⟩ := h
  obtain ⟨c0, c1, c2, c3⟩ := C.2 p hp
  exact ⟨h1, h2, h3, hn, bs, cs, kk, by rw [upd_ne c1.symm]; exact ha, by rw [upd_ne c2.symm]; exact hb, by rw [upd_ne c3.symm]; exact hc, r⟩
/-- another list in R's place -/
theorem HInv.rowsP (C : HK H0 st big cel R O N) (h : HInv K H0 H1 st big cel R O N ls refs orefs rows opens n) (p : Nat) {a : Addr} {row : List Int} (q : TupN H1 a (row.map V.int)) :
    HInv K H0 (upd H1 R (.lst ((refs.map V.ref).set p (.ref a)))) st big cel R O N ls (refs.set p a) orefs (rows.set p row) opens n := by
  obtain ⟨a1, a2, a3, a4, a5, a6, a7⟩ := h
  have t : TupK K H1 (upd H1 R (.lst ((refs.map V.ref).set p (.ref a)))) := .put a3
  refine ⟨C.put (by simp) a1, Kp.put' (C.2 R (by simp)).1 a2, ?_, ?_, ?_, (a6.set p q).keep t, a7.keep t⟩
  · rw [upd_same, List.map_set]
  · rw [upd_ne C.1.1.symm]; exact a4
  · rw [upd_ne C.1.2.1.symm]; exact a5
/-- another list in O's place -/
theorem HInv.opensP (C : HK H0 st big cel R O N) (h : HInv K H0 H1 st big cel R O N ls refs orefs rows opens n) {orefs' : List Addr} {opens' : List (Int × Int)} (q : Opens K H1 orefs' opens') {xs : List V} (ex : xs = orefs'.map V.ref) :
    HInv K H0 (upd H1 O (.lst xs)) st big cel R O N ls refs orefs' rows opens' n := by
  subst ex
  obtain ⟨a1, a2, a3, a4, a5, a6, a7⟩ := h
  have t : TupK K H1 (upd H1 O (.lst (orefs'.map V.ref))) := .put a4
  refine ⟨C.put (by simp) a1, Kp.put' (C.2 O (by simp)).1 a2, ?_, upd_same, ?_, a6.keep t, q.keep t⟩
  · rw [upd_ne C.1.1]; exact a3
  · rw [upd_ne C.1.2.2.symm]; exact a5
/-- another list in N's place -/
theorem HInv.labsP (C : HK H0 st big cel R O N) (h : HInv K H0 H1 st big cel R O N ls refs orefs rows opens n) {ls' : List Int} {xs : List V} (ex : xs = ls'.map V.int) :
    HInv K H0 (upd H1 N (.lst xs)) st big cel R O N ls' refs orefs rows opens n := by
  subst ex
  obtain ⟨a1, a2, a3, a4, a5, a6, a7⟩ := h
  have t : TupK K H1 (upd H1 N (.lst (ls'.map V.int))) := .put a5
  refine ⟨C.put (by simp) a1, Kp.put' (C.2 N (by simp)).1 a2, ?_, ?_, upd_same, a6.keep t, a7.keep t⟩
  · rw [upd_ne C.1.2.1]; exact a3
  · rw [upd_ne C.1.2.2]; exact a4
end
theorem gN {i : Nat} {v : V} {σ : L2.St} {H : Hp} {Q : L2.St → Hp → Prop} (h : Q (σ.set i (some v)) H) : gName i v σ H Q := h
theorem ifS {c : TT} {t u : TS} {D : Ends} {σ : L2.St} {H : Hp} (h : c σ H fun b H1 => if b = true then t D σ H1 else u D σ H1) : tIfS c t u D σ H := h
theorem asgS {te : TE} {g : TG} {D : Ends} {σ : L2.St} {H : Hp} (h : te σ H fun x H1 => g x σ H1 D.nx) : tAsg te g D σ H := h
theorem seqS {t u : TS} {D : Ends} {σ : L2.St} {H : Hp} (h : t { D with nx := u D } σ H) : tSeq t u D σ H := h
/-! ### tests whose answer is left open -/
section
variable {σ : L2.St} {H : Hp}
def AnyT (t : TT) (σ : L2.St) (H : Hp) : Prop := ∀ Q : Bool → Hp → Prop, (∀ b, Q b H) → t σ H Q
theorem any_and {ta tb : TT} (ha : AnyT ta σ H) (hb : AnyT tb σ H) : AnyT (tAnd ta tb) σ H := fun Q q => ha _ fun b => by
  cases b with
  | true => exact iteT (hb Q q)
  | false => exact iteF (q false)
theorem any_or {ta tb : TT} (ha : AnyT ta σ H) (hb : AnyT tb σ H) : AnyT (tOr ta tb) σ H := fun Q q => ha _ fun b => by
  cases b with
  | true => exact iteT (q true)
  | false => exact iteF (hb Q q)
theorem or_open {ta tb : TT} {Q : Bool → Hp → Prop} (ha : AnyT ta σ H) (hb : AnyT tb σ H) (q : ∀ b, Q b H) : tOr ta tb σ H Q := any_or ha hb Q q
theorem or_then {ta tb : TT} {Q : Bool → Hp → Prop} (I : Bool → Hp → Prop) (ha : AnyT ta σ H) (h1 : I true H) (hb : ∀ Q' : Bool → Hp → Prop, (∀ b H', I b H' → Q' b H') → tb σ H Q') (q : ∀ b H', I b H' → Q b H') : tOr ta tb σ H Q := ha _ fun b => by
  cases b with
  | true => exact iteT (q true H h1)
  | false => exact iteF (hb Q q)
theorem if_open {tA : TT} {ta tb : TE} {Q : VK} (I : V → Hp → Prop) (hA : AnyT tA σ H) (ha : ∀ Q' : VK, (∀ v H', I v H' → Q' v H') → ta σ H Q') (hb : ∀ Q' : VK, (∀ v H', I v H' → Q' v H') → tb σ H Q') (q : ∀ v H', I v H' → Q v H') : tIf tA ta tb σ H Q := hA _ fun b => by
  cases b with
  | true => exact iteT (ha Q q)
  | false => exact iteF (hb Q q)
end
theorem if_dec {σ : L2.St} {H : Hp} {tA : TT} {ta tb : TE} {Q : VK} (c : Bool) (I : V → Hp → Prop) (hA : ∀ Q : Bool → Hp → Prop, Q c H → tA σ H Q) (ha : c = true → ∀ Q' : VK, (∀ v H', I v H' → Q' v H') → ta σ H Q') (hb : c = false → ∀ Q' : VK, (∀ v H', I v H' → Q' v H') → tb σ H Q') (q : ∀ v H', I v H' → Q v H') : tIf tA ta tb σ H Q := hA _ (by
  cases c with
  | true => exact iteT (ha rfl Q q)
  | false => exact iteF (hb rfl Q q))
theorem flat_rep {α : Type} (x : α) : ∀ n : Nat, (List.replicate n [x]).flatten = List.replicate n x
  | 0 => rfl
  | n + 1 => by rw [List.replicate_succ, List.flatten_cons, flat_rep x n]; rfl
theorem rg24 : rgV 1 25 = names24.map V.int := by
  unfold rgV names24
  rw [List.map_map]
  rfl
theorem names24_len : names24.length = 24 := by decide +kernel
theorem names24_at {u : Nat} (h : u < 24) : names24[u]? = some ((u : Int) + 1) := by
  unfold names24
  rw [List.getElem?_map, List.getElem?_range h]
  show some (1 + (u : Int)) = some ((u : Int) + 1)
  rw [Int.add_comm]
theorem TupK.trans {K : PySem.W.Frag} {H H1 H2 : Hp} (x : TupK K H H1) (y : TupK K H1 H2) : TupK K H H2 := ⟨fun a xs q => y.1 a xs (x.1 a xs q), fun a xs q => y.2 a xs (x.2 a xs q)⟩
theorem tst_use {t : TT} {σ : L2.St} {H : Hp} {Q : Bool → Hp → Prop} (I : Bool → Hp → Prop) (h : ∀ Q' : Bool → Hp → Prop, (∀ b H', I b H' → Q' b H') → t σ H Q') (q : ∀ b H', I b H' → Q b H') : t σ H Q := h Q q
theorem drop_rev {nm : List Int} {u : Nat} {m : Int} (h : nm[u]? = some m) : (nm.drop u).reverse = (nm.drop (u + 1)).reverse ++ [m] := by
  obtain ⟨hu, rfl⟩ := List.getElem?_eq_some_iff.mp h
  rw [List.drop_eq_getElem_cons hu, List.reverse_cons]
section
variable {P : Program} {w : World} {K : PySem.W.Frag} {mg : Str → Option Value} {base : Heap}
theorem ok_hist {f fD fM : Addr} {fd fdD fdM : FuncData} (F : Fun K "_law_history" "_law_history" sHist f fd) (FD : Fun K "_law_next" "_law_next" sDraw fD fdD) (bD : Binds K fdD ["_law_deck_here", "_law_many"] [])
    (gD : mg "_law_next" = some (.ref fD)) (FM : Fun K "_law_shuffled" "_law_shuffled" sMixed fM fdM) (bM : Binds K fdM ["_law_deck_here", "_law_items"] []) (gM : mg "_law_shuffled" = some (.ref fM))
    (ml : mg "len" = none) (mli : mg "list" = none) (mtu : mg "tuple" = none) (mra : mg "range" = none) (mi : mg "int" = none) : FnOk P w K mg base CX0 3 f fd ["_law_deck_here", "_law_people", "_law_most"] (spHist K) := by
  have GD : FnOk P w K mg base CX0 1 fD fdD ["_law_deck_here", "_law_many"] spDraw := ok_draw FD mi
  have GM : FnOk P w K mg base CX0 2 fM fdM ["_law_deck_here", "_law_items"] (spMixed K) := ok_mixed FM FD bD gD ml mli mra mi
  refine F.ok scHist (fun vs H Q E h => ?_) (fun cdv A outer s H vs Q E hr h => ?_)
  · obtain ⟨st, big, cel, n, many, most, rfl, _⟩ := h
    rfl
  · obtain ⟨st, big, cel, n, many, most, rfl, hm1, hm6, hmo, hS, hn, q⟩ := h
    have hr1 : Room 1 _ := hr.mono (by decide)
    have nd := scHist.nd
    refine ⟨_, pss_cons (ps_par (i := 3) (j := 4) (by rfl) nd rfl rfl (by decide) rfl rfl (pa_cons (pe_op op_add pe_int (pe_call GD hr1 (by rfl) gD FD.kp bD .nil pass0 (pa_cons (pv 0) (pa_cons (pv 1) pa_nil)))) (pa_cons (pe_call GD hr1 (by rfl) gD FD.kp bD .nil pass0 (pa_cons (pv 0) (pa_cons pe_int pa_nil))) pa_nil)) (by rfl))
      (pss_cons (ps_par3 (i := 5) (j := 6) (l := 7) (by rfl) nd rfl rfl rfl (by decide) (by decide) (by decide) rfl rfl rfl (pa_cons (pe_op op_rep (pe_lst (pa_cons (pe_tupF pa_nil) pa_nil)) (pv 3)) (pa_cons (pe_call GM hr (by rfl) gM FM.kp bM .nil pass0 (pa_cons (pv 0) (pa_cons (pe_listRg rfl (by rfl) mli (prg_2 (by rfl) mra pe_int pe_int)) pa_nil))) (pa_cons (pe_lst pa_nil) pa_nil))) (by rfl))
      (pss_cons (ps_for PassesOwn.never rfl (pi_range1 (by rfl) mra (pa_cons (pe_call GD hr1 (by rfl) gD FD.kp bD .nil pass0 (pa_cons (pv 0) (pa_cons (pe_op op_add (pv 2) pe_int) pa_nil))) pa_nil)) (pg_name (i := 8) nd rfl (.inl rfl))
        (pss_cons (ps_set (i := 9) nd rfl (.inr rfl) (pe_call GD hr1 (by rfl) gD FD.kp bD .nil pass0 (pa_cons (pv 0) (pa_cons (pv 3) pa_nil))))
        (pss_cons (ps_setLc (i := 11) (own := [("_law_pair", 10)]) (g := gName 10) (by rfl) nd rfl rfl (sw_true rfl rfl rfl (by decide +kernel)) (pi_list (pv 7))
            (blkOk_by (own := [("_law_pair", 10)]) (N := nHist) (sc := defScope sHist) (by decide +kernel))
            (fun _ _ _ _ _ => pg_name (i := 10) nd rfl (Or.inl rfl))
            (fun _ _ _ _ _ => pts_one (pt_cmpR op_ne (pe_ix (r := rIxT K) ix_tup (pv 10) pe_int (fun _ _ => rfl)) (pv 9) (nomark _)))
            (fun _ _ _ _ _ => pv 10))
        (pss_cons (ps_set (i := 12) nd rfl (.inl rfl) (pe_call GD hr1 (by rfl) gD FD.kp bD .nil pass0 (pa_cons (pv 0) (pa_cons (pe_ix ix_list (pe_lst (pa_cons pe_int (pa_cons pe_int (pa_cons pe_int (pa_cons pe_int pa_nil))))) (pv 4) (fun _ _ => rfl)) pa_nil))))
        (pss_cons (ps_set (i := 13) nd rfl (.inl rfl) pe_int)
        (pss_cons (ps_if (PW.pt (pw_and (pt_cmpR op_gt (pv 12) pe_int (nomark _)) (pw_and (pt_cmpR (op_neD hr.units) (pv 11) (pe_lst pa_nil) (nomark _))
              (pw_and1 (PW.pt (pw_or (pt_cmpR (op_eqD hr.units) (pv 6) (pe_lst pa_nil) (nomark _)) (pw_or1 (pt_cmpR op_eq (pe_call GD hr1 (by rfl) gD FD.kp bD .nil pass0 (pa_cons (pv 0) (pa_cons pe_int pa_nil))) pe_int (nomark _)))))))))
            (pss_cons (ps_set (i := 10) nd rfl (.inl rfl) (pe_ix ix_list (pv 11) (pe_call GD hr1 (by rfl) gD FD.kp bD .nil pass0 (pa_cons (pv 0) (pa_cons (pe_callB call_len_seq (by rfl) ml PySem.boot_len (pa_cons (pv 11) pa_nil)) pa_nil))) (fun _ _ => rfl)))
            (pss_cons (ps_expr (pe_bm PySem.F.plainAttrs_list PySem.F.slot_list_remove PySem.F.type_list_remove (mt_removeD hr.units) (pv 7) (pa_cons (pv 10) pa_nil)))
            (pss_one (ps_set (i := 13) nd rfl (.inl rfl) (pe_op op_sub pe_int (pe_ix ix_tup (pv 10) pe_int (fun _ _ => rfl)))))))
            (pss_one (ps_if (PW.pt (pw_and (pt_cmpR op_gt (pv 12) pe_int (nomark _)) (pw_and1 (pt_cmpR (op_neD hr.units) (pv 6) (pe_lst pa_nil) (nomark _)))))
              (pss_cons (ps_set (i := 13) nd rfl (.inl rfl) (pe_bm0 PySem.F.plainAttrs_list PySem.F.slot_list_pop PySem.F.type_list_pop mt_pop (pv 6)))
              (pss_one (ps_expr (pe_bm PySem.F.plainAttrs_list PySem.F.slot_list_append PySem.F.type_list_append mt_append (pv 7) (pa_cons (pe_tup (pa_cons (pv 13) (pa_cons (pv 9) pa_nil))) pa_nil)))))
              pss_nil)))
        (pss_one (ps_asg (pe_op op_catA (pe_ix ix_list (pv 5) (pv 9) (fun _ _ => rfl)) (pe_tupF (pa_cons (pv 13) pa_nil))) (pg_sub (pv 5) (pv 9) set_list)))))))))
      (pss_one (ps_ret (pe_callTy call_tuple_of (by rfl) mtu (by decide +kernel) (pa_cons (pv 5) pa_nil)))))), ?_⟩
    refine ⟨.ref st, rfl, .int many, rfl, st, big, cel, n, many, rfl, by omega, by omega, hS, by omega, fun H1 cv c0 c1 hS1 k1 => ⟨_, _, rfl, rfl, ?_⟩⟩
    obtain ⟨c', rfl⟩ : ∃ c' : Nat, cv = (c' : Int) := ⟨cv.toNat, (Int.toNat_of_nonneg c0).symm⟩
    obtain ⟨c, hc⟩ : ∃ c : Nat, c = c' + 1 := ⟨_, rfl⟩
    have ec : (1 : Int) + (c' : Int) = (c : Int) := by omega
    have hcm : c ≤ many := by omega
    -- way
    refine ⟨.ref st, rfl, st, big, cel, _, 4, rfl, by decide, by decide, hS1, by omega, fun H3 wy w0 w1 hS3 k3 => ⟨_, _, rfl, ?_⟩⟩
    have k13 := k1.trans k3
    -- rows
    refine ⟨sz (Nat.zero_le _), fun e0 ob0 ne0 de0 => ⟨sz (by show 1 ≤ 1000; decide), fun e1 ne1 => ?_⟩⟩
    have s1 : Same H3 (upd H3 e0 (.frz ob0 (.tup []))) := Same.new ne0
    have s2 := s1.trans (Same.new (o := .lst [V.ref e0]) ne1)
    refine ⟨_, rfl, e1, _, _, rfl, rfl, upd_same, by omega, by omega, ?_, fun R nR => ?_⟩
    · rw [List.length_singleton, ec, Int.toNat_natCast]
      exact sz (by omega)
    rw [ec, Int.toNat_natCast, flat_rep]
    have hE2 : TupN (upd (upd H3 e0 (.frz ob0 (.tup []))) e1 (.lst [V.ref e0])) e0 (([] : List Int).map V.int) := TupN.same (TupN.new de0) (Same.new (o := .lst [V.ref e0]) ne1)
    generalize upd (upd H3 e0 (.frz ob0 (.tup []))) e1 (.lst [V.ref e0]) = Hb at s2 nR hE2 ⊢
    have s3 := s2.trans (Same.new (o := .lst (List.replicate c (V.ref e0))) nR)
    have hR3 : (upd Hb R (.lst (List.replicate c (V.ref e0)))) R = some (.lst (List.replicate c (V.ref e0))) := upd_same
    have hE3 : TupN (upd Hb R (.lst (List.replicate c (V.ref e0)))) e0 (([] : List Int).map V.int) := hE2.same (Same.new nR)
    have nR3 : H3 R = none := s2.free nR
    generalize upd Hb R (.lst (List.replicate c (V.ref e0))) = Hc at s3 hR3 hE3 ⊢
    have hSc := hS3.same s3
    have neR := hS3.ne nR3
    -- labels
    refine ⟨.ref st, rfl, 1, 25, rfl, rfl, RgOk.of_le (by decide) (by decide) (by decide) (by decide), fun l nl => ?_⟩
    refine ⟨st, big, cel, l, n + 2, names24, rfl, .inl (SqL.of (by rw [upd_same, rg24])), by rw [names24_len]; omega, hSc.same (Same.new nl), by rw [names24_len]; omega, fun H5 N ms nN hN pm hS5 k5 => ?_⟩
    rw [names24_len] at hS5
    have kc5 : Kp st big Hc H5 := (Kp.new nl).trans k5
    have k35 : Kp st big H3 H5 := (Kp.of s3).trans kc5
    have hR5 := kc5 _ _ neR.1.symm neR.2.1.symm hR3
    have hE5 := hSc.tupN kc5 hE3
    have nNc : Hc N = none := (Same.new nl).free nN
    have nN3 : H3 N = none := s3.free nNc
    have neN := hS3.ne nN3
    have RN : R ≠ N := fun z => by rw [z, nNc] at hR3; cases hR3
    refine ⟨sz (Nat.zero_le _), fun O nO => ?_⟩
    have s6 : Same H5 (upd H5 O (.lst [])) := Same.new nO
    have fr : ∀ {p : Addr}, p ≠ st → p ≠ big → H3 p = none → H p = none := fun {p} h1 h2 h3 => by
      cases e : H p with
      | none => rfl
      | some o => rw [k13 _ _ h1 h2 e] at h3; cases h3
    have neO := hS5.ne nO
    have nO3 : H3 O = none := by
      cases e : H3 O with
      | none => rfl
      | some o => rw [k35 _ _ neO.1.symm neO.2.1.symm e] at nO; cases nO
    have C : HK H st big cel R O N := by
      refine ⟨⟨fun z => (by rw [z, nO] at hR5; cases hR5), RN, fun z => (by rw [z, hN] at nO; cases nO)⟩, fun p hp => ?_⟩
      simp only [List.mem_cons, List.not_mem_nil, or_false] at hp
      rcases hp with rfl | rfl | rfl
      · exact ⟨fr neR.1.symm neR.2.1.symm nR3, neR.1.symm, neR.2.1.symm, neR.2.2.symm⟩
      · exact ⟨fr neO.1.symm neO.2.1.symm nO3, neO.1.symm, neO.2.1.symm, neO.2.2.symm⟩
      · exact ⟨fr neN.1.symm neN.2.1.symm nN3, neN.1.symm, neN.2.1.symm, neN.2.2.symm⟩
    obtain ⟨nm, hnm⟩ : ∃ nm : List Int, nm = ms.reverse := ⟨_, rfl⟩
    have nmp : nm.Perm names24 := by
      rw [hnm]
      exact (List.reverse_perm ms).trans pm
    have emn : ms = (nm.drop 0).reverse := by rw [hnm, List.drop_zero, List.reverse_reverse]
    have I4 : HInv K H (upd H5 O (.lst [])) st big cel R O N (nm.drop 0).reverse (List.replicate c e0) [] (List.replicate c []) [] (n + 26) := by
      refine ⟨(hS5.same s6).le (by omega) (by omega), (k13.trans k35).trans (.of s6), ?_, ?_, ?_, ⟨by rw [List.length_replicate, List.length_replicate], fun i a row h1 h2 => ?_⟩, ⟨rfl, fun i a p h1 h2 => by simp at h1⟩⟩
      · rw [List.map_replicate]
        exact s6 _ _ hR5
      · exact upd_same
      · rw [← emn]
        exact s6 _ _ hN
      · rw [(List.mem_replicate.mp (List.mem_of_getElem? h1)).2, (List.mem_replicate.mp (List.mem_of_getElem? h2)).2]
        exact hE5.same s6
    refine ⟨_, _, _, rfl, ?_⟩
    generalize upd H5 O (.lst []) = H6 at I4 ⊢
    -- the turns
    refine ⟨.ref st, rfl, .int most, rfl, _, _, rfl, rfl, st, big, cel, _, _, rfl, by omega, by omega, I4.1, by omega, fun H7 tn tn0 tn1 hS7 k7 => ⟨_, rfl, by omega, by omega, ?_⟩⟩
    obtain ⟨t, rfl⟩ : ∃ t : Nat, tn = (t : Int) := ⟨tn.toNat, (Int.toNat_of_nonneg tn0).symm⟩
    have htm : t ≤ most := by omega
    have I5 := I4.draw C k7 hS7
    rw [Int.toNat_natCast]
    refine for_range (lo := 0) (n := t) (fun i σ H6 => ∃ (refs orefs : List Addr) (rows : List (List Int)) (opens : List (Int × Int)) (u k : Nat) (x8 x9 x10 x11 x12 x13 : Option V),
        σ = [some (.ref st), some (.int many), some (.int most), some (.int c), some (.int wy), some (.ref R), some (.ref N), some (.ref O), x8, x9, x10, x11, x12, x13] ∧
        HInv K H H6 st big cel R O N (nm.drop u).reverse refs orefs rows opens (n + 27 + 4 * i) ∧ Grown c nm rows opens u k ∧ k ≤ i)
      ⟨_, _, _, _, 0, 0, none, none, none, none, none, none, by rw [← ec]; rfl, I5, .start, Nat.le_refl _⟩ ?_ ?_
    · rintro i σ H6 hi ⟨refs, orefs, rows, opens, u, k, x8, x9, x10, x11, x12, x13, rfl, I6, g, hk⟩
      have hlc := g.len
      have hev := g.events
      have hgo := g.opens_le
      -- process
      refine ⟨.ref st, rfl, .int c, rfl, st, big, cel, _, (c : Int), rfl, by omega, by omega, I6.1, by omega, fun H7 pv p0 p1 hS7 k7 => ?_⟩
      have I8 := I6.draw C k7 hS7
      obtain ⟨p, rfl⟩ : ∃ p : Nat, pv = (p : Int) := ⟨pv.toNat, (Int.toNat_of_nonneg p0).symm⟩
      have hp : p < rows.length := by omega
      obtain ⟨row, hrow⟩ : ∃ row, rows[p]? = some row := ⟨_, List.getElem?_eq_getElem hp⟩
      have hpr : p < refs.length := by rw [I8.2.2.2.2.2.1.1]; exact hp
      obtain ⟨a, ha⟩ : ∃ a, refs[p]? = some a := ⟨_, List.getElem?_eq_getElem hpr⟩
      have hrl : row.length ≤ 900 := by
        have := len_le_sum hrow
        omega
      have hO9 := I8.2.2.2.1
      have hOl := I8.2.2.2.2.2.2.1
      -- ready
      refine ⟨.ref O, rfl, O, rfl, ⟨_, SqL.of hO9⟩, fun D nD => ?_⟩
      refine lc_list (K := K) (a := O) (xs := orefs.map V.ref) (fun j H' => Same H7 H' ∧ ∃ (rr : List Addr) (ps : List (Int × Int)), H' D = some (.lst (rr.map V.ref)) ∧ Opens K H7 rr ps ∧ rr.length ≤ j ∧ ∀ x ∈ ps, x ∈ opens ∧ x.2 ≠ (p : Int))
        ⟨Same.new nD, [], [], upd_same, ⟨rfl, fun _ _ _ z _ => by simp at z⟩, Nat.le_refl _, fun _ z => (nomatch z)⟩ (fun j H' _ z => z.1.seq (SqL.of hO9)) (fun j x H' hx z => ?_) (fun H' z => ?_)
      · obtain ⟨o', ho, rfl⟩ := of_at_map hx
        obtain ⟨sm, rr, ps, hD, hop, hl, hps⟩ := z
        have hj : j < orefs.length := (List.getElem?_eq_some_iff.mp ho).1
        obtain ⟨pr, hpr'⟩ : ∃ pr, opens[j]? = some pr := ⟨_, List.getElem?_eq_getElem (by rw [← hOl]; exact hj)⟩
        have hsq := I8.2.2.2.2.2.2.2 j o' pr ho hpr'
        refine ⟨rfl, .ref o', rfl, o', _, 1, _, rfl, rfl, (TupK.of sm).1 _ _ hsq, atI_nat (j := 1) rfl, _, rfl, rfl, _, rfl, ite2 (fun e => ?_) (fun _ => ?_)⟩
        · refine ⟨_, rfl, _, hD, ?_, Same.put nD sm, rr ++ [o'], ps ++ [pr], ?_, hop.snoc hsq, ?_, ?_⟩
          · rw [List.length_map]
            exact small1000 (by omega)
          · rw [upd_same, List.map_append]
            rfl
          · rw [List.length_append, List.length_singleton]
            omega
          · intro x hx
            rcases List.mem_append.mp hx with hx | hx
            · exact hps x hx
            · rw [List.mem_singleton.mp hx]
              refine ⟨List.mem_of_getElem? hpr', fun z => ?_⟩
              rw [z, decide_eq_true rfl] at e
              cases e
        · exact ⟨sm, rr, ps, hD, hop, Nat.le_succ_of_le hl, hps⟩
      obtain ⟨sm, rr, ps, hD, hop, hl, hps⟩ := z
      rw [List.length_map] at hl
      have I9 := I8.same sm
      have hop9 := hop.keep (.of sm)
      have hDst := I8.1.ne nD
      clear hO9
      refine gN ?_
      dsimp only
      obtain ⟨mw, hmw, hmw0, hmw1⟩ : ∃ m : Int, atI [V.int 4, V.int 3, V.int 8, V.int 2] wy = some (V.int m) ∧ 0 < m ∧ m ≤ 8 := by
        have : wy = 0 ∨ wy = 1 ∨ wy = 2 ∨ wy = 3 := by omega
        rcases this with rfl | rfl | rfl | rfl
        · exact ⟨4, rfl, by decide, by decide⟩
        · exact ⟨3, rfl, by decide, by decide⟩
        · exact ⟨8, rfl, by decide, by decide⟩
        · exact ⟨2, rfl, by decide, by decide⟩
      refine ⟨.ref st, rfl, sz (by show 4 ≤ 1000; decide), fun e ne => ?_⟩
      have se : Same H' (upd H' e (.lst [V.int 4, V.int 3, V.int 8, V.int 2])) := Same.new ne
      have I9e := I9.same se
      refine ⟨.int wy, rfl, e, _, wy, .int mw, rfl, rfl, SqL.of upd_same, hmw, st, big, cel, _, mw, rfl, hmw0, by omega, I9e.1, by omega, fun H8 tv t0 t1 hS8 k8 => ?_⟩
      have I10 := I9e.draw C k8 hS8
      have hD10 := k8 _ _ hDst.1.symm hDst.2.1.symm (se _ _ hD)
      have hop10 : Opens K H8 rr ps := hop9.keep ((TupK.of se).trans (I9e.1.tupK k8))
      have hlsl : ∀ v : Nat, ((nm.drop v).reverse).length ≤ 24 := fun v => by
        rw [List.length_reverse, List.length_drop, nmp.length_eq, names24_len]
        omega
      -- whether a message is received
      refine gN ?_
      dsimp only
      refine seqS (asgS (gN ?_))
      dsimp only
      refine seqS (ifS ?_)
      refine tst_use (fun b H'' => HInv K H H'' st big cel R O N (nm.drop u).reverse refs orefs rows opens (n + 27 + 4 * i + 3) ∧ H'' D = some (.lst (rr.map V.ref)) ∧ Opens K H'' rr ps ∧ (b = true → rr ≠ [])) (fun Q' qq => ?_) (fun b H11 hI => ?_)
      · refine ⟨_, rfl, _, _, rfl, rfl, _, rfl, iteB (fun _ => ?_) (fun _ => qq false _ ⟨I10.le (by omega) (by omega), hD10, hop10, fun z => nomatch z⟩)⟩
        refine ⟨.ref D, rfl, sz (Nat.zero_le _), fun e1 ne1 => ?_⟩
        have sa := Same.new (o := .lst []) ne1
        have I11 := I10.same sa
        refine ⟨_, _, .lst (SqL.of (sa _ _ hD10)) ((hop10.keep (.of sa)).dp), dp_nil (SqL.of upd_same), shaped_pairs ps, shaped_nil, _, rfl, iteB (fun z => ?_) (fun _ => qq false _ ⟨I11.le (by omega) (by omega), sa _ _ hD10, hop10.keep (.of sa), fun z => nomatch z⟩)⟩
        have hrr : rr ≠ [] := by
          rw [eqv_nil] at z
          rintro rfl
          have : ps = [] := List.length_eq_zero_iff.mp hop10.1.symm
          subst this
          cases z
        refine ⟨.ref N, rfl, sz (Nat.zero_le _), fun e2 ne2 => ?_⟩
        have sb := Same.new (o := .lst []) ne2
        have I12 := I11.same sb
        have sab := sa.trans sb
        refine ⟨_, _, dp_lst (SqL.of I12.2.2.2.2.1), dp_nil (SqL.of upd_same), shaped_lst _, shaped_nil, _, rfl, iteB (fun _ => qq true _ ⟨I12.le (by omega) (by omega), sab _ _ hD10, hop10.keep (.of sab), fun _ => hrr⟩) (fun _ => ?_)⟩
        refine ⟨.ref st, rfl, st, big, cel, _, 2, rfl, by decide, by decide, I12.1, by omega, fun H13 v v0 v1 hS13 k13' => ?_⟩
        exact ⟨rfl, _, rfl, qq _ _ ⟨(I12.draw C k13' hS13).le (by omega) (by omega), k13' _ _ hDst.1.symm hDst.2.1.symm (sab _ _ hD10), hop10.keep ((TupK.of sab).trans (I12.1.tupK k13')), fun _ => hrr⟩⟩
      obtain ⟨I11, hD11, hop11, hrr⟩ := hI
      clear I10 I9e I9 I8
      cases b with
      | true =>
        refine iteT ?_
        have hrr := hrr rfl
        have hrl0 : 0 < rr.length := List.length_pos_iff.mpr hrr
        refine ⟨.ref D, rfl, .ref st, rfl, .ref D, rfl, D, _, rfl, .inl (SqL.of hD11), st, big, cel, _, _, rfl, ?_, ?_, I11.1, by omega, fun H12 v v0 v1 hS12 k12 => ?_⟩
        · rw [List.length_map]
          omega
        · rw [List.length_map]
          omega
        rw [List.length_map] at v1
        obtain ⟨j, rfl⟩ : ∃ j : Nat, v = (j : Int) := ⟨v.toNat, (Int.toNat_of_nonneg v0).symm⟩
        have hj : j < rr.length := by omega
        obtain ⟨o', ho'⟩ : ∃ o', rr[j]? = some o' := ⟨_, List.getElem?_eq_getElem hj⟩
        have I12 := I11.draw C k12 hS12
        have hD12 := k12 _ _ hDst.1.symm hDst.2.1.symm hD11
        have hop12 := hop11.keep (I11.1.tupK k12)
        obtain ⟨pr, hpr'⟩ : ∃ pr, ps[j]? = some pr := ⟨_, List.getElem?_eq_getElem (by rw [← hop.1]; exact hj)⟩
        obtain ⟨hmem, hne⟩ := hps pr (List.mem_of_getElem? hpr')
        have hsq := hop12.2 j o' pr ho' hpr'
        obtain ⟨j', hj', hat⟩ := place_of_mem hmem
        refine ⟨D, _, j, .ref o', rfl, rfl, SqL.of hD12, atI_nat (at_map ho'), ?_⟩
        refine ⟨.ref O, rfl, .inl ⟨rfl, _, SqL.of I12.2.2.2.1⟩, .ref o', rfl, O, _, pD pr, _, opens.map pD, j', rfl, rfl, I12.2.2.2.1, I12.2.2.2.2.2.2.dp, .tup hsq (.cons (.int _) (.cons (.int _) .nil)), pD_plain opens, rfl, ?_, hj', ?_⟩
        · have : (pD pr).depth = 1 := by simp [pD, PyData.depth, PyData.depthAll]
          omega
        have I13 := I12.opensP C (I12.2.2.2.2.2.2.erase j') (xs := (orefs.map V.ref).eraseIdx j') (eraseIdx_map _ _ _)
        have hsq13 := (TupK.put (o := .lst ((orefs.map V.ref).eraseIdx j')) I12.2.2.2.1).1 _ _ hsq
        refine ⟨.ref o', rfl, o', _, 0, _, rfl, rfl, hsq13, atI_nat (j := 0) rfl, _, _, rfl, rfl, ?_⟩
        refine ⟨.ref R, rfl, .int p, rfl, R, _, p, .ref a, rfl, rfl, SqL.of I13.2.2.1, atI_nat (at_map ha), .int (0 - pr.1), rfl, sz (by show 1 ≤ 1000; decide), fun T2 ob2 nT2 dT2 => ?_⟩
        have I14 := I13.same (Same.new (o := .frz ob2 (.tup [V.int (0 - pr.1)])) nT2)
        refine cat_one (K := K) (I14.2.2.2.2.2.1.2 p a row ha hrow).sqT (TupN.new dT2) hrl fun H15 t2 sm2 ht => ?_
        have I15 := I14.same sm2
        refine ⟨.ref R, rfl, .int p, rfl, R, _, p, p, rfl, rfl, I15.2.2.1, ixn (by rw [List.length_map]; exact hpr), ?_⟩
        exact ⟨_, _, _, _, u, k + 1, _, _, _, _, _, _, rfl, (I15.rowsP C p ht).le (by omega) (by omega), .recv g hrow hat hne, by omega⟩
      | false =>
        refine iteF ?_
        refine ifS ?_
        refine tst_use (fun b H'' => HInv K H H'' st big cel R O N (nm.drop u).reverse refs orefs rows opens (n + 27 + 4 * i + 3) ∧ (b = true → u < nm.length)) (fun Q' qq => ?_) (fun b H12 hI => ?_)
        · refine ⟨_, rfl, _, _, rfl, rfl, _, rfl, iteB (fun _ => ?_) (fun _ => qq false _ ⟨I11, fun z => nomatch z⟩)⟩
          refine ⟨.ref N, rfl, sz (Nat.zero_le _), fun e2 ne2 => ?_⟩
          have sb := Same.new (o := .lst []) ne2
          have I12 := I11.same sb
          refine ⟨_, _, dp_lst (SqL.of I12.2.2.2.2.1), dp_nil (SqL.of upd_same), shaped_lst _, shaped_nil, _, rfl, qq _ _ ⟨I12, fun z => ?_⟩⟩
          rw [eqv_nil] at z
          rcases Nat.lt_or_ge u nm.length with h | h
          · exact h
          · rw [List.drop_eq_nil_of_le h] at z
            cases z
        obtain ⟨I12, hu⟩ := hI
        cases b with
        | true =>
          refine iteT ?_
          have hul := hu rfl
          obtain ⟨m, hm⟩ : ∃ m, nm[u]? = some m := ⟨_, List.getElem?_eq_getElem hul⟩
          have e1 := drop_rev hm
          have hN12 := I12.2.2.2.2.1
          have el : ((nm.drop u).reverse.map V.int)[((nm.drop u).reverse.map V.int).length - 1]? = some (V.int m) := by
            rw [e1, List.map_append, List.map_singleton, List.length_append, List.length_singleton, Nat.add_sub_cancel, List.getElem?_append_right (Nat.le_refl _), Nat.sub_self]
            rfl
          have ed : ((nm.drop u).reverse.map V.int).dropLast = (nm.drop (u + 1)).reverse.map V.int := by
            rw [e1, List.map_append, List.map_singleton, List.dropLast_concat]
          refine ⟨.ref N, rfl, .inl ⟨rfl, _, SqL.of hN12⟩, N, _, _, rfl, rfl, hN12, el, ?_⟩
          have I13 := I12.labsP C ed
          refine ⟨.ref O, rfl, .inl ⟨rfl, _, SqL.of I13.2.2.2.1⟩, .int m, rfl, .int p, rfl, sz (by show 2 ≤ 1000; decide), fun T3 nT3 => ?_⟩
          have I14 := I13.same (Same.new (o := .tup [V.int m, V.int p]) nT3)
          refine ⟨O, _, _, rfl, rfl, I14.2.2.2.1, ?_, ?_⟩
          · have := I14.2.2.2.2.2.2.1
            rw [List.length_map]
            exact small1000 (by omega)
          have I15 := I14.opensP C (I14.2.2.2.2.2.2.snoc (a := T3) (p := (m, (p : Int))) (.inl (.inl upd_same))) (xs := orefs.map V.ref ++ [V.ref T3]) (by rw [List.map_append]; rfl)
          refine ⟨.ref R, rfl, .int p, rfl, R, _, p, .ref a, rfl, rfl, SqL.of I15.2.2.1, atI_nat (at_map ha), .int m, rfl, sz (by show 1 ≤ 1000; decide), fun T2 ob2 nT2 dT2 => ?_⟩
          have I16 := I15.same (Same.new (o := .frz ob2 (.tup [V.int m])) nT2)
          refine cat_one (K := K) (I16.2.2.2.2.2.1.2 p a row ha hrow).sqT (TupN.new dT2) hrl fun H17 t2 sm2 ht => ?_
          have I17 := I16.same sm2
          refine ⟨.ref R, rfl, .int p, rfl, R, _, p, p, rfl, rfl, I17.2.2.1, ixn (by rw [List.length_map]; exact hpr), ?_⟩
          exact ⟨_, _, _, _, u + 1, k + 1, _, _, _, _, _, _, rfl, (I17.rowsP C p ht).le (by omega) (by omega), .send g hrow hm, by omega⟩
        | false =>
          refine iteF ?_
          refine ⟨.ref R, rfl, .int p, rfl, R, _, p, .ref a, rfl, rfl, SqL.of I12.2.2.1, atI_nat (at_map ha), .int 0, rfl, sz (by show 1 ≤ 1000; decide), fun T2 ob2 nT2 dT2 => ?_⟩
          have I16 := I12.same (Same.new (o := .frz ob2 (.tup [V.int 0])) nT2)
          refine cat_one (K := K) (I16.2.2.2.2.2.1.2 p a row ha hrow).sqT (TupN.new dT2) hrl fun H17 t2 sm2 ht => ?_
          have I17 := I16.same sm2
          refine ⟨.ref R, rfl, .int p, rfl, R, _, p, p, rfl, rfl, I17.2.2.1, ixn (by rw [List.length_map]; exact hpr), ?_⟩
          exact ⟨_, _, _, _, u, k + 1, _, _, _, _, _, _, rfl, (I17.rowsP C p ht).le (by omega) (by omega), .save g hrow, by omega⟩
    · rintro σ H6 ⟨refs, orefs, rows, opens, u, k, x8, x9, x10, x11, x12, x13, rfl, I6, g, hk⟩
      obtain ⟨a1, a2, a3, a4, a5, a6, a7⟩ := id I6
      refine ⟨.ref R, rfl, R, _, rfl, .inl ⟨SqL.of a3, fun z nz => ?_⟩⟩
      have s7 : Same H6 (upd H6 z (.tup (refs.map V.ref))) := Same.new nz
      have zst := a1.ne nz
      refine q _ z refs rows ?_ upd_same (a6.keep (.of s7)) ⟨c, nm, opens, u, k, by omega, hcm, nmp, g, by omega⟩ ((a1.same s7).le (by omega) (by omega)) (a2.trans (.of s7))
      cases e : H z with
      | none => rfl
      | some o => rw [a2 _ _ zst.1.symm zst.2.1.symm e] at nz; cases nz
end

end Sv

namespace Sv
open PySem PySem.Spec PyProof.Rows L2
/-! ### data whose text is short -/
structure Fine (n W : Nat) (d : PyData) : Prop where
  dep : d.depth ≤ n
  wei : d.weight ≤ W
  lay : d.canLay0 = true
  sho : d.showable = true
  ish : d.intsShort 40 = true
structure FineAll (n W : Nat) (ds : List PyData) : Prop where
  dep : PyData.depthAll ds ≤ n
  wei : PyData.weightAll ds ≤ W
  lay : PyData.canLayAll0 ds = true
  sho : PyData.showableAll ds = true
  ish : PyData.intsShortAll 40 ds = true
theorem fine_int {i : Int} (h : i.natAbs < 10 ^ 30) : Fine 0 101 (.int i) := by
  have hl : i.natAbs ≠ 0 → i.natAbs.log2 < 100 := fun h0 => (Nat.log2_lt h0).mpr (Nat.lt_trans h (by decide +kernel))
  have hl2 : i.natAbs.log2 < 1920 := by
    by_cases h0 : i.natAbs = 0
    · rw [h0]; decide
    · exact Nat.lt_trans (hl h0) (by decide)
  refine ⟨Nat.le_refl _, ?_, rfl, decide_eq_true hl2, decide_eq_true ?_⟩
  · simp only [PyData.weight]
    split
    · exact Nat.zero_le _
    · rename_i h0
      have : i.natAbs ≠ 0 := fun z => h0 (by rw [beq_iff_eq]; omega)
      have := hl this
      omega
  · have e := int_text_length_le10 (a := i) (k := 30) (by decide) h
    show (Str.ofString (toString i)).length ≤ 40
    rw [PySem.ofString_length]
    omega
theorem fine_none : Fine 0 101 .none := ⟨Nat.le_refl _, Nat.zero_le _, rfl, rfl, rfl⟩
theorem fine_bool (b : Bool) : Fine 0 101 (.bool b) := ⟨Nat.le_refl _, Nat.zero_le _, rfl, rfl, rfl⟩
theorem Fine.mono {n W m U : Nat} {d : PyData} (h : Fine n W d) (e : n ≤ m) (e2 : W ≤ U) : Fine m U d := ⟨Nat.le_trans h.dep e, Nat.le_trans h.wei e2, h.lay, h.sho, h.ish⟩
theorem FineAll.mono {n W m U : Nat} {d : List PyData} (h : FineAll n W d) (e : n ≤ m) (e2 : W ≤ U) : FineAll m U d := ⟨Nat.le_trans h.dep e, Nat.le_trans h.wei e2, h.lay, h.sho, h.ish⟩
theorem fine_nil : FineAll 0 0 [] := ⟨Nat.le_refl _, Nat.le_refl _, rfl, rfl, rfl⟩
theorem fine_cons {n W U : Nat} {d : PyData} {ds : List PyData} (h : Fine n W d) (hs : FineAll n U ds) : FineAll n (W + 1 + U) (d :: ds) := by
  refine ⟨?_, ?_, ?_, ?_, ?_⟩
  · simp only [PyData.depthAll]
    exact Nat.max_le.mpr ⟨h.dep, hs.dep⟩
  · have h1 := h.wei
    have h2 := hs.wei
    simp only [PyData.weightAll]
    omega
  · simp only [PyData.canLayAll0, h.lay, hs.lay, Bool.and_self]
  · simp only [PyData.showableAll, h.sho, hs.sho, Bool.and_self]
  · simp only [PyData.intsShortAll, h.ish, hs.ish, Bool.and_self]
theorem fine_list {n W : Nat} {ds : List PyData} (h : FineAll n W ds) : Fine (n + 1) W (.list ds) := by
  have h1 := h.dep
  refine ⟨by simp only [PyData.depth]; omega, h.wei, ?_, ?_, ?_⟩
  · simp only [PyData.canLay0, h.lay]
  · simp only [PyData.showable, h.sho]
  · simp only [PyData.intsShort, h.ish]
theorem fine_tuple {n W : Nat} {ds : List PyData} (h : FineAll n W ds) : Fine (n + 1) W (.tuple ds) := by
  have h1 := h.dep
  refine ⟨by simp only [PyData.depth]; omega, h.wei, ?_, ?_, ?_⟩
  · simp only [PyData.canLay0, h.lay]
  · simp only [PyData.showable, h.sho]
  · simp only [PyData.intsShort, h.ish]
theorem fine_all {n W : Nat} : ∀ {ds : List PyData}, (∀ d ∈ ds, Fine n W d) → FineAll n ((W + 1) * ds.length) ds
  | [], _ => fine_nil.mono (Nat.zero_le _) (Nat.zero_le _)
  | d :: ds, h => by
    have q := fine_cons (h d List.mem_cons_self) (fine_all fun x hx => h x (List.mem_cons_of_mem _ hx))
    refine q.mono (Nat.le_refl _) ?_
    rw [List.length_cons, Nat.mul_add, Nat.mul_one]
    omega
theorem fine_ints {ns : List Int} (h : ∀ n ∈ ns, n.natAbs < 10 ^ 30) : FineAll 0 (102 * ns.length) (iD ns) := by
  have q := fine_all (n := 0) (W := 101) (ds := iD ns) fun d hd => by
    obtain ⟨n, hn, rfl⟩ := List.mem_map.mp hd
    exact fine_int (h n hn)
  unfold iD at q ⊢
  rw [List.length_map] at q
  exact q
theorem Fine.len {n W : Nat} {d : PyData} (h : Fine n W d) (hW : W ≤ 300000) : d.shown.length ≤ sizeLine := by
  have q := PyData.shown_le 40 (by decide) d (PyData.leavesShort_of_canLay0 40 d h.lay h.ish)
  have := h.wei
  rw [sizeLine_eq]
  omega
theorem Fine.shown {K : PySem.W.Frag} {H : Hp} {v : V} {n W : Nat} {d : PyData} (h : Fine n W d) (hn : n ≤ 60) (hW : W ≤ 300000) (hd : Dp K H v d) (hi : isDisplay d = true) : Shown K H v d :=
  ⟨hd, hi, h.sho, PyData.hasDict_of_canLay d h.lay, Nat.le_trans h.dep hn, h.len hW⟩
theorem Fine.shaped {n W : Nat} {d : PyData} (h : Fine n W d) (hn : n ≤ 60) : SeqAt.shaped d = true := by
  have := h.dep
  show (d.canLay0 && decide (d.depth ≤ 64)) = true
  rw [h.lay, Bool.true_and]
  exact decide_eq_true (by omega)
/-! ### the rows as data -/
def rD (rows : List (List Int)) : PyData := .tuple (rows.map fun r => .tuple (iD r))
theorem Rows.dpAll {K : PySem.W.Frag} {H : Hp} : ∀ {refs : List Addr} {rows : List (List Int)}, Rows K H refs rows → DpAll K H (refs.map V.ref) (rows.map fun r => .tuple (iD r))
  | [], [], _ => .nil
  | [], _ :: _, h => absurd h.1 (by simp)
  | _ :: _, [], h => absurd h.1 (by simp)
  | a :: r, p :: o, h => .cons (dp_tup (h.2 0 a p rfl rfl).sqT) (Rows.dpAll ⟨by simpa using h.1, fun i b q h1 h2 => h.2 (i + 1) b q h1 h2⟩)
theorem Rows.dp {K : PySem.W.Frag} {H : Hp} {t : Addr} {refs : List Addr} {rows : List (List Int)} (h : Rows K H refs rows) (ht : SqT K H t (refs.map V.ref)) : Dp K H (.ref t) (rD rows) := .tup ht h.dpAll
theorem Grown.small {c : Nat} {nm : List Int} {r : List (List Int)} {o : List (Int × Int)} {u k : Nat} (h : Grown c nm r o u k) (hn : nm.Perm names24) :
    (∀ row ∈ r, ∀ e ∈ row, -24 ≤ e ∧ e ≤ 24) ∧ ∀ p ∈ o, 1 ≤ p.1 ∧ p.1 ≤ 24 := by
  have setl : ∀ {r : List (List Int)} {p : Nat} {row : List Int} {v : Int}, (∀ row ∈ r, ∀ e ∈ row, -24 ≤ e ∧ e ≤ 24) → r[p]? = some row → -24 ≤ v → v ≤ 24 → ∀ row' ∈ r.set p (row ++ [v]), ∀ e ∈ row', -24 ≤ e ∧ e ≤ 24 := by
    intro r p row v h1 h2 h3 h4 row' hr e he
    rcases List.mem_or_eq_of_mem_set hr with z | rfl
    · exact h1 _ z e he
    · rcases List.mem_append.mp he with z | z
      · exact h1 _ (List.mem_of_getElem? h2) e z
      · rw [List.mem_singleton.mp z]
        exact ⟨h3, h4⟩
  have hm : ∀ m ∈ nm, 1 ≤ m ∧ m ≤ 24 := by
    intro m h1
    have h2 := hn.mem_iff.mp h1
    obtain ⟨i, hi, rfl⟩ := List.mem_map.mp h2
    have := List.mem_range.mp hi
    omega
  induction h with
  | start =>
    refine ⟨fun row hr e he => ?_, fun p hp => (nomatch hp)⟩
    rw [(List.mem_replicate.mp hr).2] at he
    exact (nomatch he)
  | skip _ ih => exact ih
  | save _ h ih => exact ⟨setl ih.1 h (by decide) (by decide), ih.2⟩
  | send _ h hu ih =>
    have := hm _ (List.mem_of_getElem? hu)
    refine ⟨setl ih.1 h (by omega) (by omega), fun p hp => ?_⟩
    rcases List.mem_append.mp hp with z | z
    · exact ih.2 p z
    · rw [List.mem_singleton.mp z]
      exact this
  | recv _ h hj _ ih =>
    have := ih.2 _ (List.mem_of_getElem? hj)
    exact ⟨setl ih.1 h (by omega) (by omega), fun p hp => ih.2 p (List.mem_of_mem_eraseIdx hp)⟩
theorem Good.len {many most : Nat} {rows : List (List Int)} (h : Good many most rows) : 1 ≤ rows.length ∧ rows.length ≤ many := by
  obtain ⟨c, nm, o, u, k, h1, h2, h3, h4, h5⟩ := h
  rw [h4.len]
  exact ⟨h1, h2⟩
theorem Good.events {many most : Nat} {rows : List (List Int)} (h : Good many most rows) : (rows.map List.length).sum ≤ most := by
  obtain ⟨c, nm, o, u, k, h1, h2, h3, h4, h5⟩ := h
  exact Nat.le_trans h4.events h5
theorem Good.row {many most : Nat} {rows : List (List Int)} (h : Good many most rows) {i : Nat} {row : List Int} (e : rows[i]? = some row) : row.length ≤ most ∧ ∀ x ∈ row, -24 ≤ x ∧ x ≤ 24 := by
  obtain ⟨c, nm, o, u, k, h1, h2, h3, h4, h5⟩ := id h
  exact ⟨Nat.le_trans (len_le_sum e) h.events, (h4.small h3).1 row (List.mem_of_getElem? e)⟩
theorem Good.fine {many most : Nat} {rows : List (List Int)} (h : Good many most rows) (h1 : many ≤ 6) (h2 : most ≤ 60) : Fine 2 40000 (rD rows) := by
  have q := fine_all (n := 1) (W := 6120) (ds := rows.map fun r => PyData.tuple (iD r)) fun d hd => by
    obtain ⟨r, hr, rfl⟩ := List.mem_map.mp hd
    obtain ⟨i, hi⟩ := List.getElem?_of_mem hr
    obtain ⟨h3, h4⟩ := h.row hi
    refine (fine_tuple (fine_ints fun n hn => ?_)).mono (Nat.le_refl _) (by omega)
    have := h4 n hn
    have : n.natAbs ≤ 24 := by omega
    exact Nat.lt_of_le_of_lt this (by decide)
  rw [List.length_map] at q
  have := h.len
  exact (fine_tuple q).mono (Nat.le_refl _) (by omega)

end Sv

namespace Sv
open PySem PySem.Spec PyProof.Rows L2
/-! ### where messages are sent and received -/
theorem Rows.at {K : PySem.W.Frag} {H : Hp} {refs : List Addr} {rows : List (List Int)} (h : Rows K H refs rows) {p : Nat} {row : List Int} (e : rows[p]? = some row) : ∃ a, refs[p]? = some a ∧ TupN H a (row.map V.int) := by
  have hp : p < refs.length := by
    rw [h.1]
    exact (List.getElem?_eq_some_iff.mp e).1
  exact ⟨_, List.getElem?_eq_getElem hp, h.2 p _ row (List.getElem?_eq_getElem hp) e⟩
def hapFrom (e : Int) : Nat → List (List Int) → Option (Nat × Nat)
  | _, [] => none
  | p, r :: rs => if e ∈ r then some (p, (r.take (r.idxOf e)).count 0) else hapFrom e (p + 1) rs
def hap (rows : List (List Int)) (e : Int) : Option (Nat × Nat) := hapFrom e 0 rows
theorem hapFrom_none {e : Int} : ∀ {rs : List (List Int)} {p : Nat}, (∀ (j : Nat) (r : List Int), rs[j]? = some r → e ∉ r) → hapFrom e p rs = none
  | [], _, _ => rfl
  | r :: rs, p, h => by
    unfold hapFrom
    rw [if_neg (h 0 r rfl)]
    exact hapFrom_none fun j r' hr => h (j + 1) r' hr
theorem hapFrom_some {e : Int} : ∀ {rs : List (List Int)} {p i : Nat} {row : List Int}, (∀ (j : Nat) (r : List Int), j < i → rs[j]? = some r → e ∉ r) → rs[i]? = some row → e ∈ row → hapFrom e p rs = some (p + i, (row.take (row.idxOf e)).count 0)
  | [], _, i, _, _, h, _ => by simp at h
  | r :: rs, p, 0, row, _, h, he => by
    obtain rfl : r = row := Option.some.inj h
    unfold hapFrom
    rw [if_pos he]
    rfl
  | r :: rs, p, i + 1, row, hn, h, he => by
    unfold hapFrom
    rw [if_neg (hn 0 r (Nat.succ_pos _) rfl), hapFrom_some (i := i) (fun j r' hj hr => hn (j + 1) r' (Nat.succ_lt_succ hj) hr) h he]
    have : p + 1 + i = p + (i + 1) := by omega
    rw [this]
def HapV (H : Hp) (v : V) : Option (Nat × Nat) → Prop
  | none => v = .non
  | some (p, k) => ∃ t, v = .ref t ∧ H t = some (.tup [.int p, .int k])
theorem HapV.same {H H' : Hp} {v : V} {o : Option (Nat × Nat)} (h : HapV H v o) (e : Same H H') : HapV H' v o := by
  match o, h with
  | none, h => exact h
  | some (p, k), ⟨t, h1, h2⟩ => exact ⟨t, h1, e _ _ h2⟩
def hapD : Option (Nat × Nat) → PyData
  | none => .none
  | some (p, k) => .tuple [.int p, .int k]
theorem HapV.dp {K : PySem.W.Frag} {H : Hp} {v : V} {o : Option (Nat × Nat)} (h : HapV H v o) : Dp K H v (hapD o) := by
  match o, h with
  | none, h =>
    cases (show v = .non from h)
    exact .non
  | some (p, k), ⟨t, h1, h2⟩ =>
    subst h1
    exact .tup (.inl (.inl h2)) (.cons (.int _) (.cons (.int _) .nil))
/-- a process and an interval that are small -/
def HapS (o : Option (Nat × Nat)) : Prop := ∀ p k, o = some (p, k) → p ≤ 1000 ∧ k ≤ 1000
theorem hapD_fine {o : Option (Nat × Nat)} (h : HapS o) : Fine 1 300 (hapD o) := by
  match o, h with
  | none, _ => exact fine_none.mono (by decide) (by decide)
  | some (p, k), h =>
    obtain ⟨h1, h2⟩ := h p k rfl
    have f : ∀ n : Nat, n ≤ 1000 → Fine 0 101 (.int (n : Int)) := fun n hn => fine_int (by
      have : ((n : Int)).natAbs = n := Int.natAbs_natCast n
      rw [this]
      exact Nat.lt_of_le_of_lt hn (by decide))
    exact (fine_tuple (fine_cons (f p h1) (fine_cons (f k h2) (fine_nil.mono (Nat.le_refl _) (Nat.le_refl _))))).mono (Nat.le_refl _) (by decide)
theorem hapFrom_small {e : Int} : ∀ {rs : List (List Int)} {p : Nat}, (∀ r ∈ rs, r.length ≤ 1000) → p + rs.length ≤ 1000 → HapS (hapFrom e p rs)
  | [], _, _, _ => fun p k h => (nomatch h)
  | r :: rs, p, h, hl => by
    unfold hapFrom
    rw [List.length_cons] at hl
    split
    · intro p' k' h'
      cases h'
      refine ⟨by omega, Nat.le_trans (List.count_le_length ..) ?_⟩
      rw [List.length_take]
      exact Nat.le_trans (Nat.min_le_right _ _) (h r List.mem_cons_self)
    · exact hapFrom_small (fun r' hr => h r' (List.mem_cons_of_mem _ hr)) (by omega)
theorem Good.hapS {many most : Nat} {rows : List (List Int)} (h : Good many most rows) (h1 : many ≤ 6) (h2 : most ≤ 60) (e : Int) : HapS (hap rows e) := by
  refine hapFrom_small (fun r hr => ?_) (by have := h.len; omega)
  obtain ⟨i, hi⟩ := List.getElem?_of_mem hr
  have := (h.row hi).1
  omega

end Sv

namespace Sv
open PySem PySem.Spec PyProof.Rows L2
abbrev sHap : Stmt := topS 1
theorem scHap : FnScope ["history", "event", "process", "row", "interval", "other"] ["history", "event"] (defScope sHap) := ⟨rfl, rfl, rfl, by decide +kernel, rfl, by decide +kernel, by decide +kernel⟩
def spHap (K : PySem.W.Frag) : Sp := fun vs H Q _ => ∃ (a : Addr) (refs : List Addr) (rows : List (List Int)) (e : Int), vs = [.ref a, .int e] ∧ SqT K H a (refs.map V.ref) ∧ Rows K H refs rows ∧ (∀ r ∈ rows, r.length ≤ 1000) ∧
  ∀ (H' : Hp) (v : V), Same H H' → HapV H' v (hap rows e) → Q v H'
section
variable {P : Program} {w : World} {K : PySem.W.Frag} {mg : Str → Option Value} {base : Heap}
theorem ok_hap {f : Addr} {fd : FuncData} (F : Fun K "happened_at" "happened_at" sHap f fd) (men : mg "enumerate" = none) : FnOk P w K mg base CX0 1 f fd ["history", "event"] (spHap K) := by
  refine F.ok scHap (fun vs H Q E h => ?_) (fun cdv A outer s H vs Q E hr h => ?_)
  · obtain ⟨a, refs, rows, e, rfl, _⟩ := h
    rfl
  · obtain ⟨a, refs, rows, e, rfl, hA, hR, hl, q⟩ := h
    have nd := scHap.nd
    refine ⟨_, pss_cons (ps_for PassesOwn.never rfl (pi_enumT (by rfl) men (pa_cons (pv 0) pa_nil)) (pg_tup rfl (pgs_cons (pg_name (i := 2) nd rfl (.inl rfl)) (pgs_cons (pg_name (i := 3) nd rfl (.inl rfl)) pgs_nil)))
        (pss_cons (ps_set (i := 4) nd rfl (.inl rfl) pe_int)
        (pss_one (ps_for PassesOwn.never rfl (pi_tup (pv 3)) (pg_name (i := 5) nd rfl (.inl rfl))
          (pss_cons (ps_if (pt_cmpR op_eq (pv 5) (pv 1) (nomark _)) (pss_one (ps_ret (pe_tup (pa_cons (pv 2) (pa_cons (pv 4) pa_nil))))) pss_nil)
          (pss_one (ps_if (pt_cmpR op_eq (pv 5) pe_int (nomark _)) (pss_one (ps_aug (i := 4) nd rfl (.inl rfl) pe_int ip_add)) pss_nil)))))))
      (pss_one (ps_ret pe_non)), ?_⟩
    refine ⟨.ref a, rfl, a, _, rfl, hA, ?_⟩
    refine for_etup (K := K) (a := a) (xs := refs.map V.ref) (fun i σ H' => ∃ x2 x3 x4 x5 : Option V, σ = [some (.ref a), some (.int e), x2, x3, x4, x5] ∧ Same H H' ∧ ∀ (j : Nat) (r : List Int), j < i → rows[j]? = some r → e ∉ r)
      ⟨_, _, _, _, rfl, Same.refl H, fun j r z _ => absurd z (Nat.not_lt_zero _)⟩ (fun i σ H' _ ⟨_, _, _, _, _, sm, _⟩ => (TupK.of sm).1 _ _ hA) ?_ ?_
    · rintro i x T σ H' hx ⟨x2, x3, x4, x5, rfl, sm, hno⟩ nT
      obtain ⟨r, hr', rfl⟩ := of_at_map hx
      have hi : i < rows.length := by
        rw [← hR.1]
        exact (List.getElem?_eq_some_iff.mp hr').1
      have hrow := List.getElem?_eq_getElem hi
      have hln := hl _ (List.mem_of_getElem? hrow)
      have sT := sm.trans (Same.new (o := .tup [V.int (i : Nat), V.ref r]) nT)
      have hrT := (hR.2 i r _ hr' hrow).same sT
      generalize rows[i] = row at hrow hln hrT
      refine ⟨T, _, rfl, .inl (.inl upd_same), rfl, _, _, rfl, _, _, rfl, rfl, ?_⟩
      generalize upd H' T (.tup [V.int (i : Nat), V.ref r]) = H2 at sT hrT ⊢
      refine ⟨_, rfl, r, rfl, ⟨_, hrT.sqT⟩, ?_⟩
      refine for_tup (K := K) (a := r) (xs := row.map V.int) (fun j σ H' => ∃ x5 : Option V, σ = [some (.ref a), some (.int e), some (.int (i : Nat)), some (.ref r), some (.int ((row.take j).count 0 : Nat)), x5] ∧ H' = H2 ∧ e ∉ row.take j)
        ⟨_, rfl, rfl, List.not_mem_nil⟩ (fun j σ H' _ ⟨_, _, e2, _⟩ => e2 ▸ hrT.sqT) ?_ ?_
      · rintro j x σ H' hx ⟨x5, rfl, rfl, hn⟩
        obtain ⟨z, hz, rfl⟩ := of_at_map hx
        have hj : j < row.length := (List.getElem?_eq_some_iff.mp hz).1
        have htk : row.take (j + 1) = row.take j ++ [z] := by
          rw [List.take_add_one, hz]
          rfl
        refine ⟨_, rfl, _, rfl, rfl, _, rfl, ?_⟩
        rw [dec_int]
        refine ite2 (fun h1 => ?_) (fun h1 => ?_)
        · obtain rfl : z = e := by simpa using h1
          refine ⟨_, rfl, _, rfl, sz (by show 2 ≤ 1000; decide), fun t nt => ?_⟩
          refine q _ _ (sT.trans (Same.new nt)) ?_
          have hm : z ∈ row := List.mem_of_getElem? hz
          have hix : row.idxOf z = j := by
            have hk := List.idxOf_lt_length_iff.mpr hm
            have hg : row[row.idxOf z] = z := List.getElem_idxOf hk
            rcases Nat.lt_trichotomy (row.idxOf z) j with h | h | h
            · exact absurd (List.mem_take_iff_getElem.mpr ⟨row.idxOf z, by omega, hg⟩) hn
            · exact h
            · have := List.not_of_lt_findIdx (xs := row) (p := (· == z)) (i := j) h
              have hzz : row[j] = z := (List.getElem?_eq_some_iff.mp hz).2
              simp [hzz] at this
          have hh : hap rows z = some (0 + i, (row.take (row.idxOf z)).count 0) := hapFrom_some hno hrow hm
          rw [hh, Nat.zero_add, hix]
          exact ⟨t, rfl, upd_same⟩
        · have hze : z ≠ e := by simpa using h1
          refine ⟨_, rfl, rfl, _, rfl, ?_⟩
          rw [dec_int]
          have hn2 : e ∉ row.take (j + 1) := by
            rw [htk, List.mem_append, List.mem_singleton]
            rintro (h | h)
            · exact hn h
            · exact hze h.symm
          refine ite2 (fun h2 => ?_) (fun h2 => ?_)
          · obtain rfl : z = 0 := by simpa using h2
            refine ⟨_, rfl, _, _, rfl, rfl, some (.int 0), ?_, rfl, hn2⟩
            rw [htk, List.count_append, List.count_singleton_self]
            rfl
          · have hz0 : z ≠ 0 := by simpa using h2
            refine ⟨some (.int z), ?_, rfl, hn2⟩
            rw [htk, List.count_append, List.count_singleton, if_neg (by simpa using hz0), Nat.add_zero]
            rfl
      · rintro σ H' ⟨x5, rfl, rfl, hn⟩
        refine ⟨_, _, _, _, rfl, sT, fun j r' hj hr2 => ?_⟩
        by_cases hji : j = i
        · subst hji
          obtain rfl := Option.some.inj (hrow.symm.trans hr2)
          rw [List.length_map, List.take_length] at hn
          exact hn
        · exact hno j r' (by omega) hr2
    · rintro σ H' ⟨x2, x3, x4, x5, rfl, sm, hno⟩
      refine q H' _ sm ?_
      have hh : hap rows e = none := hapFrom_none fun j r' hr2 => hno j r' (by
        rw [List.length_map, hR.1]
        exact (List.getElem?_eq_some_iff.mp hr2).1) hr2
      rw [hh]
      rfl
end

end Sv

namespace Sv
open PySem PySem.Spec PyProof.Rows L2
theorem names_pos {nm : List Int} (hn : nm.Perm names24) : ∀ m ∈ nm, 1 ≤ m ∧ m ≤ 24 := by
  intro m h1
  have h2 := hn.mem_iff.mp h1
  obtain ⟨i, hi, rfl⟩ := List.mem_map.mp h2
  have := List.mem_range.mp hi
  omega
/-! ### every message once -/
theorem flat_set {r : List (List Int)} {p : Nat} {row : List Int} {v : Int} (h : r[p]? = some row) : (r.set p (row ++ [v])).flatten.Perm (v :: r.flatten) := by
  induction r generalizing p with
  | nil => simp at h
  | cons a r ih =>
    cases p with
    | zero =>
      obtain rfl : a = row := Option.some.inj h
      simp only [List.set_cons_zero, List.flatten_cons, List.append_assoc, List.singleton_append]
      exact List.perm_middle
    | succ p =>
      simp only [List.set_cons_succ, List.flatten_cons]
      exact ((ih (p := p) h).append_left a).trans List.perm_middle
theorem unerase_perm {α : Type} : ∀ {o : List α} {j : Nat} {x : α}, o[j]? = some x → (x :: o.eraseIdx j).Perm o
  | [], j, _, h => by simp at h
  | a :: o, 0, x, h => by
    obtain rfl : a = x := Option.some.inj h
    exact .refl _
  | a :: o, j + 1, x, h => by
    rw [List.eraseIdx_cons_succ]
    exact (List.Perm.swap a x _).trans ((unerase_perm (o := o) (j := j) h).cons a)
def poss (l : List Int) : List Int := l.filter fun e => decide (0 < e)
def negs (l : List Int) : List Int := (l.filter fun e => decide (e < 0)).map fun e => -e
theorem Grown.once {c : Nat} {nm : List Int} {r : List (List Int)} {o : List (Int × Int)} {u k : Nat} (h : Grown c nm r o u k) (hn : nm.Perm names24) :
    (poss r.flatten).Perm (nm.take u) ∧ (negs r.flatten ++ o.map (·.1)).Perm (nm.take u) := by
  induction h with
  | start =>
    have e : (List.replicate c ([] : List Int)).flatten = [] := by simp
    rw [e]
    exact ⟨.refl _, .refl _⟩
  | skip _ ih => exact ih
  | save _ h ih =>
    have p := flat_set (v := 0) h
    exact ⟨(p.filter _).trans ih.1, (((p.filter _).map _).append_right _).trans ih.2⟩
  | @send r o u k p row m g h hu ih =>
    have q := flat_set (v := m) h
    have hm := names_pos hn _ (List.mem_of_getElem? hu)
    have tk : nm.take (u + 1) = nm.take u ++ [m] := by
      rw [List.take_add_one, hu]
      rfl
    rw [tk]
    have h1 : poss (m :: r.flatten) = m :: poss r.flatten := List.filter_cons_of_pos (decide_eq_true (by omega))
    have h2 : negs (m :: r.flatten) = negs r.flatten := by
      unfold negs
      rw [List.filter_cons_of_neg (by rw [decide_eq_false (show ¬ m < 0 by omega)]; exact Bool.false_ne_true)]
    refine ⟨(q.filter _).trans ?_, (((q.filter _).map _).append_right _).trans ?_⟩
    · show (poss (m :: r.flatten)).Perm _
      rw [h1]
      exact (ih.1.cons m).trans (List.perm_append_singleton m _).symm
    · show (negs (m :: r.flatten) ++ _).Perm _
      rw [h2, List.map_append, ← List.append_assoc]
      exact ih.2.append_right _
  | @recv r o u k row j m q p g h hj _ ih =>
    have w := flat_set (v := 0 - m) h
    have hm := (g.small hn).2 _ (List.mem_of_getElem? hj)
    have h1 : poss ((0 - m) :: r.flatten) = poss r.flatten := List.filter_cons_of_neg (by rw [decide_eq_false (show ¬ 0 < 0 - m by simp only at hm; omega)]; exact Bool.false_ne_true)
    have h2 : negs ((0 - m) :: r.flatten) = m :: negs r.flatten := by
      have d : decide (0 - m < 0) = true := decide_eq_true (by simp only at hm; omega)
      have e1 : -(0 - m) = m := by omega
      unfold negs
      simp only [List.filter_cons, d, if_true, List.map_cons, e1]
    refine ⟨(w.filter _).trans ?_, (((w.filter _).map _).append_right _).trans ?_⟩
    · show (poss ((0 - m) :: r.flatten)).Perm _
      rw [h1]
      exact ih.1
    · show (negs ((0 - m) :: r.flatten) ++ _).Perm _
      rw [h2]
      have e := (unerase_perm hj).map Prod.fst
      refine List.Perm.trans ?_ ((e.append_left _).trans ih.2)
      exact List.perm_middle.symm
theorem names_nodup : names24.Nodup := by decide
theorem Grown.count {c : Nat} {nm : List Int} {r : List (List Int)} {o : List (Int × Int)} {u k : Nat} (h : Grown c nm r o u k) (hn : nm.Perm names24) {e : Int} (he : e ≠ 0) : r.flatten.count e ≤ 1 := by
  obtain ⟨h1, h2⟩ := h.once hn
  have nt : (nm.take u).Nodup := ((hn.nodup_iff).mpr names_nodup).sublist (List.take_sublist _ _)
  by_cases hp : 0 < e
  · have n1 : (poss r.flatten).Nodup := h1.nodup_iff.mpr nt
    have := List.nodup_iff_count.mp n1 e
    unfold poss at this
    rw [List.count_filter (p := fun e : Int => decide (0 < e)) (decide_eq_true hp)] at this
    exact this
  · have n2 : (negs r.flatten).Nodup := (h2.nodup_iff.mpr nt).sublist (List.sublist_append_left _ _)
    have hlt : e < 0 := by omega
    have n3 : (r.flatten.filter fun e => decide (e < 0)).Nodup := by
      unfold negs at n2
      exact (List.pairwise_map.mp n2).imp fun h z => h (by rw [z])
    have := List.nodup_iff_count.mp n3 e
    rw [List.count_filter (p := fun e : Int => decide (e < 0)) (decide_eq_true hlt)] at this
    exact this
theorem count_at : ∀ {r : List (List Int)} {i : Nat} {row : List Int} {e : Int}, r[i]? = some row → row.count e ≤ r.flatten.count e
  | [], i, _, _, h => by simp at h
  | a :: r, 0, row, e, h => by
    obtain rfl : a = row := Option.some.inj h
    rw [List.flatten_cons, List.count_append]
    omega
  | a :: r, i + 1, row, e, h => by
    have := count_at (r := r) (i := i) (e := e) h
    rw [List.flatten_cons, List.count_append]
    omega
theorem count_two : ∀ {r : List (List Int)} {i j : Nat} {a b : List Int} {e : Int}, i < j → r[i]? = some a → r[j]? = some b → e ∈ a → e ∈ b → 2 ≤ r.flatten.count e
  | [], i, _, _, _, _, _, h, _, _, _ => by simp at h
  | x :: r, 0, j + 1, a, b, e, _, h1, h2, h3, h4 => by
    obtain rfl : x = a := Option.some.inj h1
    have h5 := count_at (r := r) (i := j) (e := e) h2
    have h6 := List.count_pos_iff.mpr h3
    have h7 := List.count_pos_iff.mpr h4
    rw [List.flatten_cons, List.count_append]
    omega
  | x :: r, i + 1, j + 1, a, b, e, hij, h1, h2, h3, h4 => by
    have := count_two (r := r) (i := i) (j := j) (Nat.lt_of_succ_lt_succ hij) h1 h2 h3 h4
    rw [List.flatten_cons, List.count_append]
    omega
theorem idx_once : ∀ {row : List Int} {i : Nat} {e : Int}, row[i]? = some e → row.count e ≤ 1 → row.idxOf e = i
  | [], i, _, h, _ => by simp at h
  | a :: r, 0, e, h, _ => by
    obtain rfl : a = e := Option.some.inj h
    exact List.idxOf_cons_self
  | a :: r, i + 1, e, h, hc => by
    have h1 : e ∈ r := List.mem_of_getElem? (i := i) h
    have h2 := List.count_pos_iff.mpr h1
    have hne : a ≠ e := fun z => by
      subst z
      rw [List.count_cons_self] at hc
      omega
    rw [List.count_cons_of_ne hne] at hc
    rw [List.idxOf_cons, idx_once (row := r) (i := i) h hc, beq_false_of_ne hne]
    rfl
/-- where an event of a message happened -/
theorem Good.hap_at {many most : Nat} {rows : List (List Int)} (h : Good many most rows) {p i : Nat} {row : List Int} {e : Int} (h1 : rows[p]? = some row) (h2 : row[i]? = some e) (he : e ≠ 0) : hap rows e = some (p, (row.take i).count 0) := by
  obtain ⟨c, nm, o, u, k, _, _, hp, g, _⟩ := h
  have hc := g.count hp he
  have hm := List.mem_of_getElem? h2
  have h3 := hapFrom_some (e := e) (p := 0) (rs := rows) (i := p) (row := row) (fun j r hj hr hr2 => ?_) h1 hm
  · unfold hap
    rw [h3, Nat.zero_add, idx_once h2 (Nat.le_trans (count_at h1) hc)]
  · have := count_two hj hr h1 hr2 hm
    omega

end Sv

namespace Sv
open PySem PySem.Spec PyProof.Rows L2
/-- where an event stands first -/
def spotFrom (e : Int) : Nat → List (List Int) → Option (Nat × Nat)
  | _, [] => none
  | p, r :: rs => if e ∈ r then some (p, r.idxOf e) else spotFrom e (p + 1) rs
theorem spotFrom_none {e : Int} : ∀ {rs : List (List Int)} {p : Nat}, (∀ (j : Nat) (r : List Int), rs[j]? = some r → e ∉ r) → spotFrom e p rs = none
  | [], _, _ => rfl
  | r :: rs, p, h => by
    unfold spotFrom
    rw [if_neg (h 0 r rfl)]
    exact spotFrom_none fun j r' hr => h (j + 1) r' hr
theorem spotFrom_some {e : Int} : ∀ {rs : List (List Int)} {p i : Nat} {row : List Int}, (∀ (j : Nat) (r : List Int), j < i → rs[j]? = some r → e ∉ r) → rs[i]? = some row → e ∈ row → spotFrom e p rs = some (p + i, row.idxOf e)
  | [], _, i, _, _, h, _ => by simp at h
  | r :: rs, p, 0, row, _, h, he => by
    obtain rfl : r = row := Option.some.inj h
    unfold spotFrom
    rw [if_pos he]
    rfl
  | r :: rs, p, i + 1, row, hn, h, he => by
    unfold spotFrom
    rw [if_neg (hn 0 r (Nat.succ_pos _) rfl), spotFrom_some (i := i) (fun j r' hj hr => hn (j + 1) r' (Nat.succ_lt_succ hj) hr) h he]
    have : p + 1 + i = p + (i + 1) := by omega
    rw [this]
theorem spot_hap {e : Int} : ∀ {rs : List (List Int)} {p : Nat}, (spotFrom e p rs = none ∧ hapFrom e p rs = none) ∨ ∃ j row, rs[j]? = some row ∧ e ∈ row ∧ spotFrom e p rs = some (p + j, row.idxOf e) ∧ hapFrom e p rs = some (p + j, (row.take (row.idxOf e)).count 0)
  | [], _ => .inl ⟨rfl, rfl⟩
  | r :: rs, p => by
    unfold spotFrom hapFrom
    by_cases h : e ∈ r
    · rw [if_pos h, if_pos h]
      exact .inr ⟨0, r, rfl, h, rfl, rfl⟩
    · rw [if_neg h, if_neg h]
      rcases spot_hap (e := e) (rs := rs) (p := p + 1) with q | ⟨j, row, h1, h2, h3, h4⟩
      · exact .inl q
      · refine .inr ⟨j + 1, row, h1, h2, ?_, ?_⟩
        · rw [h3]; congr 2; omega
        · rw [h4]; congr 2; omega
theorem idx_first {e : Int} {r : List Int} {j : Nat} (h : ∀ m, m < j → r[m]? ≠ some e) (he : r[j]? = some e) : r.idxOf e = j := by
  have hm : e ∈ r := List.mem_of_getElem? he
  have hl := List.idxOf_lt_length_iff.mpr hm
  have h1 : r[r.idxOf e]? = some e := by rw [List.getElem?_eq_getElem hl, List.getElem_idxOf hl]
  rcases Nat.lt_trichotomy (r.idxOf e) j with h2 | h2 | h2
  · exact absurd h1 (h _ h2)
  · exact h2
  · exact absurd he (idx_lt h2)

end Sv

namespace Sv
open PySem PySem.Spec PyProof.Rows L2
def sentM (rows : List (List Int)) (m : Int) : Bool := (hap rows m).isSome
/-! ### the messages that are sent, in order -/
theorem perm_sorted_eq : ∀ {a b : List Int}, a.Perm b → a.Pairwise (· ≤ ·) → b.Pairwise (· ≤ ·) → a = b
  | [], b, h, _, _ => h.nil_eq
  | x :: a, [], h, _, _ => absurd h.length_eq (by simp)
  | x :: a, y :: b, h, h1, h2 => by
    obtain ⟨p1, q1⟩ := List.pairwise_cons.mp h1
    obtain ⟨p2, q2⟩ := List.pairwise_cons.mp h2
    have e : x = y := by
      have m1 : x ∈ y :: b := h.mem_iff.mp List.mem_cons_self
      have m2 : y ∈ x :: a := h.mem_iff.mpr List.mem_cons_self
      rcases List.mem_cons.mp m1 with z | z
      · exact z
      · rcases List.mem_cons.mp m2 with z2 | z2
        · exact z2.symm
        · have := p2 x z
          have := p1 y z2
          omega
    subst e
    rw [perm_sorted_eq h.cons_inv q1 q2]
theorem names_sorted : names24.Pairwise (· ≤ ·) := by decide +kernel
theorem names_mem {m : Int} : m ∈ names24 ↔ 1 ≤ m ∧ m ≤ 24 := by
  unfold names24
  rw [List.mem_map]
  constructor
  · rintro ⟨i, hi, rfl⟩
    have := List.mem_range.mp hi
    omega
  · intro h
    exact ⟨(m - 1).toNat, List.mem_range.mpr (by omega), by omega⟩
def sentL (rows : List (List Int)) : List Int := names24.filter (sentM rows)
theorem Good.sent {many most : Nat} {rows : List (List Int)} (h : Good many most rows) : (poss rows.flatten).Perm (sentL rows) := by
  obtain ⟨c, nm, o, u, k, h1, h2, hp, g, h5⟩ := id h
  have nt : (nm.take u).Nodup := ((hp.nodup_iff).mpr names_nodup).sublist (List.take_sublist _ _)
  have n1 : (poss rows.flatten).Nodup := (g.once hp).1.nodup_iff.mpr nt
  have n2 : (sentL rows).Nodup := names_nodup.sublist List.filter_sublist
  refine (List.perm_ext_iff_of_nodup n1 n2).mpr fun m => ?_
  unfold poss sentL
  rw [List.mem_filter, List.mem_filter, names_mem]
  constructor
  · rintro ⟨hm, hpos⟩
    obtain ⟨row, hr, hmr⟩ := List.mem_flatten.mp hm
    obtain ⟨p, hp1⟩ := List.getElem?_of_mem hr
    obtain ⟨i, hi⟩ := List.getElem?_of_mem hmr
    have hb := (h.row hp1).2 m hmr
    have h0 : 0 < m := of_decide_eq_true hpos
    refine ⟨by omega, ?_⟩
    unfold sentM
    rw [h.hap_at hp1 hi (by omega)]
    rfl
  · rintro ⟨hm, hs⟩
    refine ⟨?_, decide_eq_true (by omega)⟩
    rcases spot_hap (e := m) (rs := rows) (p := 0) with ⟨_, z⟩ | ⟨p, row, z1, z2, _⟩
    · unfold sentM hap at hs
      rw [z] at hs
      cases hs
    · exact List.mem_flatten.mpr ⟨row, List.mem_of_getElem? z1, z2⟩
theorem sentL_sorted (rows : List (List Int)) : (sentL rows).Pairwise (· ≤ ·) := names_sorted.sublist List.filter_sublist
/-! ### the messages that are received, in order -/
def recvM (rows : List (List Int)) (m : Int) : Bool := (hap rows (0 - m)).isSome
def recvL (rows : List (List Int)) : List Int := names24.filter (recvM rows)
theorem recvL_sorted (rows : List (List Int)) : (recvL rows).Pairwise (· ≤ ·) := names_sorted.sublist List.filter_sublist
theorem recvL_nodup (rows : List (List Int)) : (recvL rows).Nodup := names_nodup.sublist List.filter_sublist
theorem recvL_len (rows : List (List Int)) : (recvL rows).length ≤ 24 := by
  have := List.length_filter_le (recvM rows) names24
  have h24 : names24.length = 24 := by decide +kernel
  unfold recvL
  omega
theorem Good.recv {many most : Nat} {rows : List (List Int)} (h : Good many most rows) : (negs rows.flatten).Perm (recvL rows) := by
  obtain ⟨c, nm, o, u, k, h1, h2, hp, g, h5⟩ := id h
  have nt : (nm.take u).Nodup := ((hp.nodup_iff).mpr names_nodup).sublist (List.take_sublist _ _)
  have n1 : (negs rows.flatten).Nodup := ((g.once hp).2.nodup_iff.mpr nt).sublist (List.sublist_append_left _ _)
  refine (List.perm_ext_iff_of_nodup n1 (recvL_nodup rows)).mpr fun m => ?_
  unfold negs recvL
  rw [List.mem_map, List.mem_filter, names_mem]
  constructor
  · rintro ⟨e, he, rfl⟩
    obtain ⟨hm, hneg⟩ := List.mem_filter.mp he
    obtain ⟨row, hr, hmr⟩ := List.mem_flatten.mp hm
    obtain ⟨p, hp1⟩ := List.getElem?_of_mem hr
    obtain ⟨i, hi⟩ := List.getElem?_of_mem hmr
    have hb := (h.row hp1).2 e hmr
    have h0 : e < 0 := of_decide_eq_true hneg
    refine ⟨by omega, ?_⟩
    unfold recvM
    rw [show (0 : Int) - -e = e by omega, h.hap_at hp1 hi (by omega)]
    rfl
  · rintro ⟨hm, hs⟩
    refine ⟨0 - m, List.mem_filter.mpr ⟨?_, decide_eq_true (by omega)⟩, by omega⟩
    rcases spot_hap (e := 0 - m) (rs := rows) (p := 0) with ⟨_, z⟩ | ⟨p, row, z1, z2, _⟩
    · unfold recvM hap at hs
      rw [z] at hs
      cases hs
    · exact List.mem_flatten.mpr ⟨row, List.mem_of_getElem? z1, z2⟩
theorem Good.recv_sent {many most : Nat} {rows : List (List Int)} (h : Good many most rows) {m : Int} (hm : m ∈ recvL rows) : sentM rows m = true := by
  obtain ⟨c, nm, o, u, k, h1, h2, hp, g, h5⟩ := id h
  have h6 := h.recv.mem_iff.mpr hm
  have h7 := (g.once hp).2.mem_iff.mp (List.mem_append_left _ h6)
  have h8 := h.sent.mem_iff.mp ((g.once hp).1.mem_iff.mpr h7)
  exact (List.mem_filter.mp h8).2
/-- the dict of the trips -/
def Trips (H : Hp) (kvs : List (Key × V)) (ms : List Int) (rows : List (List Int)) : Prop := kvs.map (·.1) = ms.map Sum.inl ∧ ∀ (i : Nat) (m : Int), ms[i]? = some m → ∃ (t s r : Addr) (p k p' k' : Nat), kvs[i]? = some (Sum.inl m, .ref t) ∧
  H t = some (.tup [.ref s, .ref r]) ∧ H s = some (.tup [.int p, .int k]) ∧ H r = some (.tup [.int p', .int k']) ∧ hap rows m = some (p, k) ∧ hap rows (0 - m) = some (p', k')
theorem Trips.same {H H' : Hp} {kvs : List (Key × V)} {ms : List Int} {rows : List (List Int)} (h : Trips H kvs ms rows) (e : Same H H') : Trips H' kvs ms rows := ⟨h.1, fun i m hm => by
  obtain ⟨t, s, r, p, k, p', k', a1, a2, a3, a4, a5⟩ := h.2 i m hm
  exact ⟨t, s, r, p, k, p', k', a1, e _ _ a2, e _ _ a3, e _ _ a4, a5⟩⟩

end Sv

namespace Sv
open PySem PySem.Spec PyProof.Rows L2
abbrev sTrips : Stmt := topS 3
abbrev nTrips : List Str := ["history", "messages", "row", "event", "message"]
theorem scTrips : FnScope nTrips ["history"] (defScope sTrips) := ⟨rfl, rfl, rfl, by decide +kernel, rfl, by decide +kernel, by decide +kernel⟩
def spTrips (K : PySem.W.Frag) : Sp := fun vs H Q _ => ∃ (a : Addr) (refs : List Addr) (rows : List (List Int)) (many most : Nat), vs = [.ref a] ∧ SqT K H a (refs.map V.ref) ∧ Rows K H refs rows ∧ Good many most rows ∧ many ≤ 6 ∧ most ≤ 60 ∧
  ∀ (H' : Hp) (D : Addr) (kvs : List (Key × V)), Same H H' → H D = none → H' D = some (.dK kvs) → Trips H' kvs (recvL rows) rows → Q (.ref D) H'
section
variable {P : Program} {w : World} {K : PySem.W.Frag} {mg : Str → Option Value} {base : Heap}
theorem ok_trips {f fH : Addr} {fd fdH : FuncData} (F : Fun K "trips_of" "trips_of" sTrips f fd) (FH : Fun K "happened_at" "happened_at" sHap fH fdH) (bH : Binds K fdH ["history", "event"] []) (gH : mg "happened_at" = some (.ref fH))
    (men : mg "enumerate" = none) (mso : mg "sorted" = none) : FnOk P w K mg base CX0 2 f fd ["history"] (spTrips K) := by
  have GH : FnOk P w K mg base CX0 1 fH fdH ["history", "event"] (spHap K) := ok_hap FH men
  refine F.ok scTrips (fun vs H Q E h => ?_) (fun cdv A outer s H vs Q E hr h => ?_)
  · obtain ⟨a, refs, rows, many, most, rfl, _⟩ := h
    rfl
  · obtain ⟨a, refs, rows, many, most, rfl, hA, hR, hG, hm6, hm60, q⟩ := h
    have nd := scTrips.nd
    refine ⟨_, pss_cons (ps_set (i := 1) nd rfl (.inl rfl) (pe_callB cr_sorted (by rfl) mso (by decide +kernel) (pa_cons (pe_lc2 (own := [("row", 2), ("event", 3)]) (vs1 := [3]) (wi1 := iTup K (tVar 2)) (g := gName 2) (g1 := gName 3) (by rfl) nd (pi_tup (pv 0))
          (blkOk_by (own := [("row", 2), ("event", 3)]) (N := nTrips) (sc := defScope sTrips) (by decide +kernel)) (by decide)
          (fun _ _ _ _ _ => pg_name (i := 2) nd rfl (Or.inl rfl)) (fun _ _ _ _ _ => pts_nil) (fun _ _ _ _ _ => pi_tup (pv 2)) (fun _ _ _ _ _ => pg_name (i := 3) nd rfl (Or.inl rfl))
          (fun _ _ _ _ _ => pts_one (pt_cmpR op_lt (pv 3) pe_int (nomark _))) (fun _ _ _ _ _ => pe_un un_neg (pv 3))) pa_nil)))
      (pss_one (ps_ret (pe_dc (own := [("message", 4)]) (g := gName 4) (by rfl) nd (pi_list (pv 1))
          (blkOk_by (own := [("message", 4)]) (N := nTrips) (sc := defScope sTrips) (by decide +kernel)) (fun _ _ _ _ _ => pg_name (i := 4) nd rfl (Or.inl rfl)) (fun _ _ _ _ _ => pts_nil)
          (fun _ _ _ _ _ => pv 4)
          (fun _ _ _ _ _ => pe_tup (pa_cons (pe_call GH hr (by rfl) gH FH.kp bH .nil pass0 (pa_cons (pv 0) (pa_cons (pv 4) pa_nil))) (pa_cons (pe_call GH hr (by rfl) gH FH.kp bH .nil pass0 (pa_cons (pv 0) (pa_cons (pe_un un_neg (pv 4)) pa_nil))) pa_nil)))))), ?_⟩
    have h60 : ∀ r ∈ rows, r.length ≤ 60 := fun r hr => by
      obtain ⟨i, hi⟩ := List.getElem?_of_mem hr
      have := (hG.row hi).1
      omega
    have h1000 : ∀ r ∈ rows, r.length ≤ 1000 := fun r hr => by have := h60 r hr; omega
    have hlen : ∀ l : List Int, l.length ≤ 60 → (negs l).length ≤ 60 := fun l hl => by
      unfold negs
      rw [List.length_map]
      exact Nat.le_trans (List.length_filter_le ..) hl
    have htot : rows.flatten.length ≤ 60 := by
      rw [List.length_flatten]
      have := hG.events
      omega
    have htk : ∀ (i j : Nat) (row : List Int), rows[i]? = some row → ((rows.take i).flatten ++ row.take j).length ≤ 60 := fun i j row hr => by
      have e : rows.take (i + 1) = rows.take i ++ [row] := by
        rw [List.take_add_one, hr]
        rfl
      have h1 : ((rows.take (i + 1)).flatten).length ≤ rows.flatten.length := by
        conv => rhs; rw [← List.take_append_drop (i + 1) rows]
        rw [List.flatten_append, List.length_append]
        omega
      rw [e, List.flatten_append, List.length_append] at h1
      rw [List.length_append, List.length_take]
      simp only [List.flatten_cons, List.flatten_nil, List.append_nil] at h1
      omega
    refine ⟨.ref a, rfl, a, rfl, ⟨_, hA⟩, fun D nD => ?_⟩
    refine lc2_out (walk_tup (K := K) (a := a) (xs := refs.map V.ref)) (fun i H' => Same H H' ∧ H' D = some (.lst ((negs (rows.take i).flatten).map V.int))) ⟨Same.new nD, upd_same⟩ (fun i H' _ z => (TupK.of z.1).1 _ _ hA)
      (fun i x H' H'' hi z y => ?_) (fun H1 z => ?_)
    · obtain ⟨rfl, hx⟩ := y
      obtain ⟨r, hr', rfl⟩ := of_at_map hx
      have hir : i < rows.length := by
        rw [← hR.1]
        exact (List.getElem?_eq_some_iff.mp hr').1
      have hrow := List.getElem?_eq_getElem hir
      generalize rows[i] = row at hrow
      have hrT := (hR.2 i r row hr' hrow).same z.1
      have e1 : (rows.take (i + 1)).flatten = (rows.take i).flatten ++ row := by
        rw [List.take_add_one, hrow, List.flatten_append]
        simp
      refine ⟨rfl, yesT ⟨.ref r, rfl, r, rfl, ⟨_, hrT.sqT⟩, ?_⟩⟩
      refine lc2_in (walk_tup (K := K) (a := r) (xs := row.map V.int)) (fun j H3 => Same H H3 ∧ H3 D = some (.lst ((negs ((rows.take i).flatten ++ row.take j)).map V.int))) ⟨z.1, by rw [List.take_zero, List.append_nil]; exact z.2⟩
        (fun j H3 _ y => ((hR.2 i r row hr' hrow).same y.1).sqT) (fun j x H3 H4 hj y hY => ?_) (fun H3 y => ?_)
      · obtain ⟨rfl, hx⟩ := hY
        obtain ⟨v, hv, rfl⟩ := of_at_map hx
        have e2 : negs ((rows.take i).flatten ++ row.take (j + 1)) = negs ((rows.take i).flatten ++ row.take j) ++ (if v < 0 then [-v] else []) := by
          unfold negs
          rw [List.take_add_one, hv, ← List.append_assoc, List.filter_append, List.map_append]
          congr 1
          by_cases hp : v < 0
          · rw [if_pos hp]
            have : (List.filter (fun e => decide (e < 0)) (some v).toList) = [v] := List.filter_cons_of_pos (decide_eq_true hp)
            rw [this]
            rfl
          · rw [if_neg hp]
            have : (List.filter (fun e => decide (e < 0)) (some v).toList) = [] := List.filter_cons_of_neg (by rw [decide_eq_false hp]; exact Bool.false_ne_true)
            rw [this]
            rfl
        refine ⟨rfl, _, rfl, _, _, rfl, rfl, _, rfl, ite2 (fun e => ?_) (fun e => ?_)⟩
        · have e0 : v < 0 := of_decide_eq_true e
          refine ⟨_, rfl, _, rfl, _, y.2, ?_, Same.put nD y.1, ?_⟩
          · rw [List.length_map]
            have := hlen _ (htk i j row hrow)
            exact small1000 (by omega)
          · rw [upd_same, e2, if_pos e0, List.map_append]
            rfl
        · have e0 : ¬ v < 0 := fun w => e (decide_eq_true w)
          refine ⟨y.1, ?_⟩
          rw [e2, if_neg e0, List.append_nil]
          exact y.2
      · rw [List.length_map, List.take_length, ← e1] at y
        exact y
    obtain ⟨sm1, hD⟩ := z
    rw [List.length_map, hR.1, List.take_length] at hD
    refine ⟨D, _, rfl, SqL.of hD, ?_, fun ns' S0 hp hs nS => ?_⟩
    · have := hlen _ htot
      omega
    have hns : ns' = recvL rows := perm_sorted_eq (hp.trans hG.recv) hs (recvL_sorted rows)
    subst hns
    have s2 := sm1.trans (Same.new (o := .lst ((recvL rows).map V.int)) nS)
    have hS : (upd H1 S0 (.lst ((recvL rows).map V.int))) S0 = some (.lst ((recvL rows).map V.int)) := upd_same
    generalize upd H1 S0 (.lst ((recvL rows).map V.int)) = H2 at s2 hS ⊢
    refine ⟨.ref S0, rfl, S0, rfl, ⟨_, SqL.of hS⟩, fun E nE => ?_⟩
    have hsl := recvL_len rows
    refine dc_it (walk_list (K := K) (a := S0) (xs := (recvL rows).map V.int)) (fun j H' => Same H2 H' ∧ ∃ kvs, H' E = some (.dK kvs) ∧ Trips H' kvs ((recvL rows).take j) rows) ⟨Same.new nE, [], upd_same, rfl, fun i m z => by simp at z⟩ (fun j H' _ z => z.1.seq (SqL.of hS))
      (fun j x H' H'' hj z y => ?_) (fun H' z => ?_)
    · obtain ⟨rfl, hx⟩ := y
      obtain ⟨m, hm, rfl⟩ := of_at_map hx
      obtain ⟨sm, kvs, hE, hK⟩ := z
      have sA := s2.trans sm
      have hjl : j < (recvL rows).length := (List.getElem?_eq_some_iff.mp hm).1
      have hmem := List.mem_of_getElem? hm
      have em : -m = 0 - m := by omega
      refine ⟨rfl, yesT ⟨_, rfl, ?_⟩⟩
      refine ⟨.ref a, rfl, _, rfl, a, refs, rows, m, rfl, (TupK.of sA).1 _ _ hA, hR.keep (.of sA), h1000, fun H3 v s3 hv => ?_⟩
      have sA3 := sA.trans s3
      refine ⟨.ref a, rfl, _, rfl, _, rfl, a, refs, rows, -m, rfl, (TupK.of sA3).1 _ _ hA, hR.keep (.of sA3), h1000, fun H4 v2 s4 hv2 => ⟨sz (by show 2 ≤ 1000; decide), fun t nt => ?_⟩⟩
      rw [em] at hv2
      have hv := hv.same s4
      have s5 : Same H4 (upd H4 t (.tup [v, v2])) := Same.new nt
      have s35 := (s3.trans s4).trans s5
      have hs1 := hG.recv_sent hmem
      have hr1 := (List.mem_filter.mp hmem).2
      cases e1 : hap rows m with
      | none => unfold sentM at hs1; rw [e1] at hs1; cases hs1
      | some o1 =>
        cases e2 : hap rows (0 - m) with
        | none => unfold recvM at hr1; rw [e2] at hr1; cases hr1
        | some o2 =>
          obtain ⟨p, k⟩ := o1
          obtain ⟨p', k'⟩ := o2
          rw [e1] at hv
          rw [e2] at hv2
          obtain ⟨s, rfl, hs⟩ := hv
          obtain ⟨r, rfl, hr⟩ := hv2
          have hkl : kvs.length = j := by
            have := congrArg List.length hK.1
            rw [List.length_map, List.length_map, List.length_take] at this
            omega
          have hnew : valV kvs (Sum.inl m : Key) = none := valV_none fun p hp z => by
            have h1 : p.1 ∈ kvs.map (·.1) := List.mem_map.mpr ⟨p, hp, rfl⟩
            rw [hK.1, z] at h1
            obtain ⟨m', hm', h2⟩ := List.mem_map.mp h1
            obtain rfl : m' = m := Sum.inl.inj h2
            obtain ⟨i, hi⟩ := List.getElem?_of_mem hm'
            have hi2 : i < j := by
              have := (List.getElem?_eq_some_iff.mp hi).1
              rw [List.length_take] at this
              omega
            rw [List.getElem?_take_of_lt hi2] at hi
            have := nodup_at (recvL_nodup rows) hi hm
            omega
          refine ⟨kvs, Sum.inl m, rfl, s35 _ _ hE, small1000 (by omega), Same.put nE (sm.trans s35), _, upd_same, ?_⟩
          rw [putK_new _ hnew, List.take_add_one, hm]
          have nE2 : ∀ {b : Addr} {o : HO}, (upd H4 t (.tup [.ref s, .ref r])) b = some o → (∀ z, o ≠ .dK z) → (upd (upd H4 t (.tup [.ref s, .ref r])) E (.dK (kvs ++ [(Sum.inl m, V.ref t)]))) b = some o := fun {b o} h1 h2 => by
            rw [upd_ne (fun z => by
              have := s35 _ _ hE
              rw [← z, h1] at this
              exact h2 _ (Option.some.inj this))]
            exact h1
          refine ⟨by rw [List.map_append, List.map_append, hK.1]; rfl, fun i m' h1 => ?_⟩
          by_cases hi : i < j
          · have hl : i < ((recvL rows).take j).length := by rw [List.length_take]; omega
            rw [List.getElem?_append_left hl] at h1
            obtain ⟨t1, s1, r1, p1, k1, p2, k2, a1, a2, a3, a4, a5⟩ := hK.2 i m' h1
            exact ⟨t1, s1, r1, p1, k1, p2, k2, by rw [List.getElem?_append_left (by omega)]; exact a1, nE2 (s35 _ _ a2) (by intro z q; cases q), nE2 (s35 _ _ a3) (by intro z q; cases q), nE2 (s35 _ _ a4) (by intro z q; cases q), a5⟩
          · have hl : ((recvL rows).take j).length = j := by rw [List.length_take]; omega
            rw [List.getElem?_append_right (by omega), hl] at h1
            have hij : i = j := by
              have := (List.getElem?_eq_some_iff.mp h1).1
              simp at this
              omega
            subst hij
            rw [Nat.sub_self] at h1
            obtain rfl : m = m' := Option.some.inj h1
            refine ⟨t, s, r, p, k, p', k', ?_, nE2 upd_same (by intro z q; cases q), nE2 (s5 _ _ hs) (by intro z q; cases q), nE2 (s5 _ _ hr) (by intro z q; cases q), e1, e2⟩
            rw [List.getElem?_append_right (by omega), hkl, Nat.sub_self]
            rfl
    · obtain ⟨sm, kvs, hE, hK⟩ := z
      rw [List.length_map, List.take_length] at hK
      exact q H' E kvs (s2.trans sm) (s2.free nE) hE hK
end

end Sv

namespace Sv
open PySem PySem.Spec PyProof.Rows L2
/-! ### the received messages -/
structure Ms where
  m : Int
  p : Nat
  i : Nat
  q : Nat
  j : Nat
def msV (x : Ms) : List V := [.int x.m, .int x.p, .int x.i, .int x.q, .int x.j]
def At (rows : List (List Int)) (p i : Nat) (e : Int) : Prop := ∃ row, rows[p]? = some row ∧ row[i]? = some e
structure MsgAt (rows : List (List Int)) (x : Ms) : Prop where
  pos : 0 < x.m
  sent : At rows x.p x.i x.m
  got : At rows x.q x.j (0 - x.m)
theorem Good.sent_of {many most : Nat} {rows : List (List Int)} (h : Good many most rows) {q j : Nat} {m : Int} (hm : 0 < m) (h1 : At rows q j (0 - m)) : ∃ p i, At rows p i m := by
  obtain ⟨c, nm, o, u, k, _, _, hp, g, _⟩ := h
  obtain ⟨row, h2, h3⟩ := h1
  have h4 : (0 - m) ∈ rows.flatten := List.mem_flatten.mpr ⟨row, List.mem_of_getElem? h2, List.mem_of_getElem? h3⟩
  have h5 : m ∈ negs rows.flatten := List.mem_map.mpr ⟨0 - m, List.mem_filter.mpr ⟨h4, decide_eq_true (by omega)⟩, by omega⟩
  have h6 := (g.once hp).2.mem_iff.mp (List.mem_append_left _ h5)
  have h7 := (g.once hp).1.mem_iff.mpr h6
  obtain ⟨r, hr, hmr⟩ := List.mem_flatten.mp (List.mem_filter.mp h7).1
  obtain ⟨p, hp1⟩ := List.getElem?_of_mem hr
  obtain ⟨i, hi⟩ := List.getElem?_of_mem hmr
  exact ⟨p, i, r, hp1, hi⟩
theorem Good.at_once {many most : Nat} {rows : List (List Int)} (h : Good many most rows) {p i p' i' : Nat} {e : Int} (he : e ≠ 0) (h1 : At rows p i e) (h2 : At rows p' i' e) : p = p' ∧ i = i' := by
  obtain ⟨c, nm, o, u, k, _, _, hp, g, _⟩ := h
  have hc := g.count hp he
  obtain ⟨r, a1, a2⟩ := h1
  obtain ⟨r', b1, b2⟩ := h2
  have m1 := List.mem_of_getElem? a2
  have m2 := List.mem_of_getElem? b2
  have e1 : p = p' := by
    rcases Nat.lt_trichotomy p p' with z | z | z
    · have := count_two z a1 b1 m1 m2; omega
    · exact z
    · have := count_two z b1 a1 m2 m1; omega
  subst e1
  obtain rfl : r = r' := Option.some.inj (a1.symm.trans b1)
  have hle := Nat.le_trans (count_at a1) hc
  exact ⟨rfl, (idx_once a2 hle).symm.trans (idx_once b2 hle)⟩
abbrev sMsgs : Stmt := topS 21
abbrev nMsgs : List Str := ["_law_rows", "_law_spots", "_law_found", "_law_process", "_law_row", "_law_k", "_law_event"]
theorem scMsgs : FnScope nMsgs ["_law_rows"] (defScope sMsgs) := ⟨rfl, rfl, rfl, by decide +kernel, rfl, by decide +kernel, by decide +kernel⟩
abbrev Te := Addr × Ms
def tr (ts : List Te) : List V := ts.map fun t => V.ref t.1
structure Tbl (K : PySem.W.Frag) (H : Hp) (rows : List (List Int)) (ts : List Te) : Prop where
  sq : ∀ t ∈ ts, SqT K H t.1 (msV t.2)
  ok : ∀ t ∈ ts, MsgAt rows t.2
theorem Tbl.keep {K : PySem.W.Frag} {H H' : Hp} {rows : List (List Int)} {ts : List Te} (h : Tbl K H rows ts) (e : TupK K H H') : Tbl K H' rows ts := ⟨fun t ht => e.1 _ _ (h.sq t ht), h.ok⟩
theorem Tbl.sub {K : PySem.W.Frag} {H : Hp} {rows : List (List Int)} {ts us : List Te} (h : Tbl K H rows ts) (e : ∀ t ∈ us, t ∈ ts) : Tbl K H rows us := ⟨fun t ht => h.sq t (e t ht), fun t ht => h.ok t (e t ht)⟩
theorem Tbl.snoc {K : PySem.W.Frag} {H : Hp} {rows : List (List Int)} {ts : List Te} {t : Te} (h : Tbl K H rows ts) (h1 : SqT K H t.1 (msV t.2)) (h2 : MsgAt rows t.2) : Tbl K H rows (ts ++ [t]) := ⟨fun x hx => by
  rcases List.mem_append.mp hx with z | z
  · exact h.sq x z
  · rw [List.mem_singleton.mp z]; exact h1, fun x hx => by
  rcases List.mem_append.mp hx with z | z
  · exact h.ok x z
  · rw [List.mem_singleton.mp z]; exact h2⟩
/-- the dict of the places so far -/
structure Spd (H : Hp) (rows : List (List Int)) (kvs : List (Key × V)) : Prop where
  val : ∀ kv ∈ kvs, ∃ (e : Int) (t : Addr) (p i : Nat), kv = (Sum.inl e, V.ref t) ∧ H t = some (.tup [.int p, .int i]) ∧ At rows p i e
theorem mem_put {kvs : List (Key × V)} {k : Key} {v : V} {x : Key × V} (h : x ∈ putK kvs k v) : x ∈ kvs ∨ x = (k, v) := by
  unfold putK at h
  split at h
  · obtain ⟨y, hy, rfl⟩ := List.mem_map.mp h
    by_cases e : y.1 = k
    · rw [if_pos e]; exact .inr (by rw [e])
    · rw [if_neg e]; exact .inl hy
  · rcases List.mem_append.mp h with z | z
    · exact .inl z
    · exact .inr (List.mem_singleton.mp z)
theorem valV_mem {kvs : List (Key × V)} {k : Key} {v : V} (h : valV kvs k = some v) : (k, v) ∈ kvs := by
  unfold valV at h
  obtain ⟨x, hx, rfl⟩ := Option.map_eq_some_iff.mp h
  have h1 := List.mem_of_find?_eq_some hx
  have h2 := List.find?_some hx
  have h3 : x.1 = k := by simpa using h2
  rw [← h3]
  exact h1
theorem Spd.get {H : Hp} {rows : List (List Int)} {kvs : List (Key × V)} (h : Spd H rows kvs) {e : Int} {v : V} (g : valV kvs (Sum.inl e) = some v) : ∃ (t : Addr) (p i : Nat), v = .ref t ∧ H t = some (.tup [.int p, .int i]) ∧ At rows p i e := by
  obtain ⟨e', t, p, i, h1, h2, h3⟩ := h.val _ (valV_mem g)
  cases h1
  exact ⟨t, p, i, rfl, h2, h3⟩
theorem Spd.keep {H H' : Hp} {rows : List (List Int)} {kvs : List (Key × V)} (h : Spd H rows kvs) (e : ∀ (a : Addr) (xs : List V), H a = some (.tup xs) → H' a = some (.tup xs)) : Spd H' rows kvs := ⟨fun kv hk => by
  obtain ⟨e', t, p, i, h1, h2, h3⟩ := h.val kv hk
  exact ⟨e', t, p, i, h1, e _ _ h2, h3⟩⟩
theorem Spd.put {H : Hp} {rows : List (List Int)} {kvs : List (Key × V)} (h : Spd H rows kvs) {e : Int} {t : Addr} {p i : Nat} (h1 : H t = some (.tup [.int p, .int i])) (h2 : At rows p i e) : Spd H rows (putK kvs (Sum.inl e) (V.ref t)) := ⟨fun kv hk => by
  rcases mem_put hk with z | z
  · exact h.val kv z
  · exact ⟨e, t, p, i, z, h1, h2⟩⟩
def Seen (kvs : List (Key × V)) (e : Int) : Prop := ∃ v, valV kvs (Sum.inl e) = some v
theorem Seen.put {kvs : List (Key × V)} {e : Int} (h : Seen kvs e) (k : Int) (v : V) : Seen (putK kvs (Sum.inl k) v) e := by
  unfold Seen
  rw [valV_put]
  split
  · exact ⟨_, rfl⟩
  · exact h
theorem Seen.new (kvs : List (Key × V)) (e : Int) (v : V) : Seen (putK kvs (Sum.inl e) v) e := by
  unfold Seen
  rw [valV_put, if_pos rfl]
  exact ⟨_, rfl⟩
def spMsgs (K : PySem.W.Frag) : Sp := fun vs H Q _ => ∃ (a : Addr) (refs : List Addr) (rows : List (List Int)) (many most : Nat), vs = [.ref a] ∧ SqT K H a (refs.map V.ref) ∧ Rows K H refs rows ∧ Good many most rows ∧ many ≤ 6 ∧ most ≤ 60 ∧
  ∀ (H' : Hp) (l : Addr) (ts : List Te), Same H H' → H l = none → H' l = some (.lst (tr ts)) → Tbl K H' rows ts → ts.length ≤ 60 → (∀ (q j : Nat) (m : Int), 0 < m → At rows q j (0 - m) → ∃ t ∈ ts, t.2.m = m) → Q (.ref l) H'
section
variable {P : Program} {w : World} {K : PySem.W.Frag} {mg : Str → Option Value} {base : Heap}
theorem ok_msgs {f : Addr} {fd : FuncData} (F : Fun K "_law_messages" "_law_messages" sMsgs f fd) (men : mg "enumerate" = none) (mso : mg "sorted" = none) (mli : mg "list" = none) : FnOk P w K mg base CX0 1 f fd ["_law_rows"] (spMsgs K) := by
  refine F.ok scMsgs (fun vs H Q E h => ?_) (fun cdv A outer s H vs Q E hr h => ?_)
  · obtain ⟨a, refs, rows, many, most, rfl, _⟩ := h
    rfl
  · obtain ⟨a, refs, rows, many, most, rfl, hA, hR, hG, hm6, hm60, q⟩ := h
    have nd := scMsgs.nd
    have hu1 := hu_of hr
    refine ⟨_, pss_cons (ps_par (i := 1) (j := 2) (by rfl) nd rfl rfl (by decide) rfl rfl (pa_cons pe_dnewK (pa_cons (pe_lst pa_nil) pa_nil)) (by rfl))
      (pss_cons (ps_for PassesOwn.never rfl (pi_enumT (by rfl) men (pa_cons (pv 0) pa_nil)) (pg_tup rfl (pgs_cons (pg_name (i := 3) nd rfl (.inl rfl)) (pgs_cons (pg_name (i := 4) nd rfl (.inl rfl)) pgs_nil)))
        (pss_one (ps_for PassesOwn.never rfl (pi_enumT (by rfl) men (pa_cons (pv 4) pa_nil)) (pg_tup rfl (pgs_cons (pg_name (i := 5) nd rfl (.inl rfl)) (pgs_cons (pg_name (i := 6) nd rfl (.inl rfl)) pgs_nil)))
          (pss_one (ps_dput hu1 (pv 1) (pv 6) (pe_tup (pa_cons (pv 3) (pa_cons (pv 5) pa_nil))) rfl)))))
      (pss_cons (ps_for PassesOwn.never rfl (pi_list (pe_callB cr_sorted (by rfl) mso (by decide +kernel) (pa_cons (pe_callTy (call_list_dK (by rfl)) (by rfl) mli (by decide +kernel) (pa_cons (pv 1) pa_nil)) pa_nil))) (pg_name (i := 6) nd rfl (.inl rfl))
        (pss_one (ps_if (pt_cmpR op_lt (pv 6) pe_int (nomark _))
          (pss_one (ps_expr (pe_bm PySem.F.plainAttrs_list PySem.F.slot_list_append PySem.F.type_list_append mt_append (pv 2)
            (pa_cons (pe_op op_catA (pe_op op_catA (pe_tupF (pa_cons (pe_op op_sub pe_int (pv 6)) pa_nil)) (pe_dget hu1 (pv 1) (pe_op op_sub pe_int (pv 6)) (fun _ _ => rfl))) (pe_dget hu1 (pv 1) (pv 6) (fun _ _ => rfl))) pa_nil)))) pss_nil)))
      (pss_one (ps_ret (pv 2))))), ?_⟩
    have h60 : ∀ r ∈ rows, r.length ≤ 60 := fun r hr => by
      obtain ⟨i, hi⟩ := List.getElem?_of_mem hr
      have := (hG.row hi).1
      omega
    have htot : rows.flatten.length ≤ 60 := by
      rw [List.length_flatten]
      have := hG.events
      omega
    refine fun D nD => ⟨sz (Nat.zero_le _), fun F0 nF => ⟨_, _, rfl, ?_⟩⟩
    have s1 : Same H (upd H D (.dK [])) := Same.new nD
    have nF0 : H F0 = none := s1.free nF
    have DF : D ≠ F0 := fun z => by rw [← z, upd_same] at nF; cases nF
    have s2 : Same H (upd (upd H D (.dK [])) F0 (.lst [])) := s1.trans (Same.new nF)
    have hD2 : (upd (upd H D (.dK [])) F0 (.lst [])) D = some (.dK []) := by rw [upd_ne DF, upd_same]
    have hF2 : (upd (upd H D (.dK [])) F0 (.lst [])) F0 = some (.lst []) := upd_same
    generalize upd (upd H D (.dK [])) F0 (.lst []) = H2 at s2 hD2 hF2 ⊢
    refine ⟨.ref a, rfl, a, _, rfl, (TupK.of s2).1 _ _ hA, ?_⟩
    refine for_etup (K := K) (a := a) (xs := refs.map V.ref) (fun i σ H' => ∃ (x3 x4 x5 x6 : Option V) (kvs : List (Key × V)), σ = [some (.ref a), some (.ref D), some (.ref F0), x3, x4, x5, x6] ∧ Same H H' ∧ H' D = some (.dK kvs) ∧ H' F0 = some (.lst []) ∧
        Spd H' rows kvs ∧ kvs.length ≤ (rows.take i).flatten.length ∧ ∀ p j e, p < i → At rows p j e → Seen kvs e)
      ⟨_, _, _, _, [], rfl, s2, hD2, hF2, ⟨fun kv h => (nomatch h)⟩, Nat.zero_le _, fun p j e z => absurd z (Nat.not_lt_zero _)⟩ (fun i σ H' _ ⟨_, _, _, _, _, _, sm, _⟩ => (TupK.of sm).1 _ _ hA) ?_ ?_
    · rintro i x T σ H3 hx ⟨x3, x4, x5, x6, kvs, rfl, s3, hD3, hF3, hk3, hl3, hs3⟩ nT
      obtain ⟨r, hr', rfl⟩ := of_at_map hx
      have hi : i < rows.length := by
        rw [← hR.1]
        exact (List.getElem?_eq_some_iff.mp hr').1
      have hrow := List.getElem?_eq_getElem hi
      generalize hrw : rows[i] = row at hrow
      have sT : Same H3 (upd H3 T (.tup [V.int (i : Nat), V.ref r])) := Same.new nT
      have s4 := s3.trans sT
      refine ⟨T, _, rfl, .inl (.inl upd_same), rfl, _, _, rfl, _, _, rfl, rfl, ?_⟩
      have hD4 := sT _ _ hD3
      have hF4 := sT _ _ hF3
      have hk4 := hk3.keep fun a xs q => sT _ _ q
      generalize upd H3 T (.tup [V.int (i : Nat), V.ref r]) = H4 at s4 hD4 hF4 hk4 ⊢
      have hrT : ∀ {H' : Hp}, Same H H' → SqT K H' r (row.map V.int) := fun e => ((hR.2 i r row hr' hrow).same e).sqT
      refine ⟨.ref r, rfl, r, _, rfl, hrT s4, ?_⟩
      have e1 : (rows.take (i + 1)).flatten = (rows.take i).flatten ++ row := by
        rw [List.take_add_one, hrow, List.flatten_append]
        simp
      have hln := h60 _ (List.mem_of_getElem? hrow)
      have hle1 : ((rows.take (i + 1)).flatten).length ≤ 60 := by
        have h1 : ((rows.take (i + 1)).flatten).length ≤ rows.flatten.length := by
          conv => rhs; rw [← List.take_append_drop (i + 1) rows]
          rw [List.flatten_append, List.length_append]
          omega
        omega
      rw [e1, List.length_append] at hle1
      refine for_etup (K := K) (a := r) (xs := row.map V.int) (fun j σ H' => ∃ (x5 x6 : Option V) (kvs : List (Key × V)), σ = [some (.ref a), some (.ref D), some (.ref F0), some (.int (i : Nat)), some (.ref r), x5, x6] ∧ Same H H' ∧ H' D = some (.dK kvs) ∧ H' F0 = some (.lst []) ∧
          Spd H' rows kvs ∧ kvs.length ≤ (rows.take i).flatten.length + j ∧ (∀ p j e, p < i → At rows p j e → Seen kvs e) ∧ ∀ j' e, j' < j → row[j']? = some e → Seen kvs e)
        ⟨_, _, kvs, rfl, s4, hD4, hF4, hk4, by omega, hs3, fun j' e z => absurd z (Nat.not_lt_zero _)⟩ (fun j σ H' _ ⟨_, _, _, _, sm, _⟩ => hrT sm) ?_ ?_
      · rintro j x T2 σ H5 hx2 ⟨x5, x6, kvs, rfl, s5, hD5, hF5, hk5, hl5, hs5, ht5⟩ nT2
        obtain ⟨e, he, rfl⟩ := of_at_map hx2
        have hj : j < row.length := (List.getElem?_eq_some_iff.mp he).1
        have sT2 : Same H5 (upd H5 T2 (.tup [V.int (j : Nat), V.int e])) := Same.new nT2
        refine ⟨T2, _, rfl, .inl (.inl upd_same), rfl, _, _, rfl, _, _, rfl, rfl, ?_⟩
        have s6 := s5.trans sT2
        have hD6 := sT2 _ _ hD5
        have hF6 := sT2 _ _ hF5
        have hk6 := hk5.keep fun a xs q => sT2 _ _ q
        generalize upd H5 T2 (.tup [V.int (j : Nat), V.int e]) = H6 at s6 hD6 hF6 hk6 ⊢
        refine ⟨.int (i : Nat), rfl, .int (j : Nat), rfl, sz (by show 2 ≤ 1000; decide), fun t nt => ?_⟩
        have sT3 : Same H6 (upd H6 t (.tup [V.int (i : Nat), V.int (j : Nat)])) := Same.new nt
        have s7 := s6.trans sT3
        have hD7 := sT3 _ _ hD6
        have hF7 := sT3 _ _ hF6
        have hk7 := hk6.keep fun a xs q => sT3 _ _ q
        have ht7 : (upd H6 t (.tup [V.int (i : Nat), V.int (j : Nat)])) t = some (.tup [V.int (i : Nat), V.int (j : Nat)]) := upd_same
        generalize upd H6 t (.tup [V.int (i : Nat), V.int (j : Nat)]) = H7 at s7 hD7 hF7 hk7 ht7 ⊢
        refine ⟨.ref D, rfl, .int e, rfl, D, _, rfl, DPut.k (k := Sum.inl e) hD7 (small1000 (by omega)), ?_⟩
        have kk : ∀ (c : Addr) (xs : List V), H7 c = some (.tup xs) → (upd H7 D (.dK (putK kvs (Sum.inl e) (V.ref t)))) c = some (.tup xs) := fun c xs q => by rw [upd_ne (ne_of q hD7 (by intro z; cases z))]; exact q
        refine ⟨_, _, putK kvs (Sum.inl e) (V.ref t), rfl, Same.put nD s7, upd_same, by rw [upd_ne DF.symm]; exact hF7, (hk7.keep kk).put (kk _ _ ht7) ⟨row, hrow, he⟩, ?_, fun p' j' e' h1 h2 => (hs5 p' j' e' h1 h2).put _ _, fun j' e' h1 h2 => ?_⟩
        · have := length_putK kvs (Sum.inl e) (V.ref t)
          omega
        · by_cases z : j' = j
          · subst z
            rw [he] at h2
            cases h2
            exact Seen.new _ _ _
          · exact (ht5 j' e' (by omega) h2).put _ _
      · rintro σ H5 ⟨x5, x6, kvs, rfl, s5, hD5, hF5, hk5, hl5, hs5, ht5⟩
        rw [List.length_map] at hl5 ht5
        refine ⟨_, _, _, _, kvs, rfl, s5, hD5, hF5, hk5, by rw [e1, List.length_append]; exact hl5, fun p' j' e' h1 h2 => ?_⟩
        by_cases z : p' = i
        · subst z
          obtain ⟨row', a1, a2⟩ := h2
          obtain rfl : row = row' := Option.some.inj (hrow.symm.trans a1)
          exact ht5 j' e' (List.getElem?_eq_some_iff.mp a2).1 a2
        · exact hs5 p' j' e' (by omega) h2
    · rintro σ H3 ⟨x3, x4, x5, x6, kvs, rfl, s3, hD3, hF3, hk3, hl3, hs3⟩
      have hlr : refs.length = rows.length := hR.1
      rw [List.length_map, hlr, List.take_length] at hl3
      have hseen : ∀ p j e, At rows p j e → Seen kvs e := fun p j e h => by
        obtain ⟨row, h1, h2⟩ := id h
        exact hs3 p j e (by rw [List.length_map, hlr]; exact (List.getElem?_eq_some_iff.mp h1).1) h
      obtain ⟨es, hes⟩ : ∃ es : List Int, (kvs.map fun kv => kV kv.1) = es.map V.int := by
        refine ⟨kvs.map fun kv => match kv.1 with | .inl e => e | .inr _ => 0, ?_⟩
        rw [List.map_map]
        refine List.map_congr_left fun kv hkv => ?_
        obtain ⟨e, t, p, i, rfl, _⟩ := hk3.val kv hkv
        rfl
      have hel : es.length = kvs.length := by
        have := congrArg List.length hes
        rw [List.length_map, List.length_map] at this
        exact this.symm
      have hmem : ∀ e ∈ es, Seen kvs e ∧ ∃ p j, At rows p j e := fun e he => by
        have h1 : V.int e ∈ kvs.map fun kv => kV kv.1 := by rw [hes]; exact List.mem_map.mpr ⟨e, he, rfl⟩
        obtain ⟨kv, hkv, h2⟩ := List.mem_map.mp h1
        obtain ⟨e', t, p, j, rfl, _, h3⟩ := hk3.val kv hkv
        cases h2
        exact ⟨hseen p j e h3, p, j, h3⟩
      refine ⟨.ref D, rfl, D, kvs, rfl, hD3, fun L nL => ?_⟩
      rw [hes]
      have s4 : Same H3 (upd H3 L (.lst (es.map V.int))) := Same.new nL
      have hL4 : (upd H3 L (.lst (es.map V.int))) L = some (.lst (es.map V.int)) := upd_same
      generalize upd H3 L (.lst (es.map V.int)) = H4 at s4 hL4 ⊢
      refine ⟨L, es, rfl, SqL.of hL4, by omega, fun ns S0 hp _ nS => ?_⟩
      have s5 := s4.trans (Same.new (o := .lst (ns.map V.int)) nS)
      have hS5 : (upd H4 S0 (.lst (ns.map V.int))) S0 = some (.lst (ns.map V.int)) := upd_same
      generalize upd H4 S0 (.lst (ns.map V.int)) = H5 at s5 hS5 ⊢
      have nS3 : H3 S0 = none := s4.free nS
      have SF : S0 ≠ F0 := fun z => by rw [z, hF3] at nS3; cases nS3
      have SD : S0 ≠ D := fun z => by rw [z, hD3] at nS3; cases nS3
      refine ⟨S0, rfl, ⟨_, SqL.of hS5⟩, ?_⟩
      refine for_list (K := K) (a := S0) (xs := ns.map V.int) (fun k σ H' => ∃ (x3 x4 x5 x6 : Option V) (ts : List Te), σ = [some (.ref a), some (.ref D), some (.ref F0), x3, x4, x5, x6] ∧ Same H H' ∧ H' D = some (.dK kvs) ∧ H' S0 = some (.lst (ns.map V.int)) ∧
          H' F0 = some (.lst (tr ts)) ∧ Spd H' rows kvs ∧ Tbl K H' rows ts ∧ ts.length ≤ k ∧ ∀ (k' : Nat) (e : Int), k' < k → ns[k']? = some e → e < 0 → ∃ t ∈ ts, t.2.m = 0 - e)
        ⟨_, _, _, _, [], rfl, s3.trans s5, s5 _ _ hD3, hS5, s5 _ _ hF3, hk3.keep fun a xs q => s5 _ _ q, ⟨fun t h => (nomatch h), fun t h => (nomatch h)⟩, Nat.le_refl _, fun k' e z => absurd z (Nat.not_lt_zero _)⟩ (fun k σ H' _ ⟨_, _, _, _, _, _, _, _, hS, _⟩ => SqL.of hS) ?_ ?_
      · rintro k x σ H6 hx ⟨x3, x4, x5, x6, ts, rfl, s6, hD6, hS6, hF6, hk6, hT6, hl6, hc6⟩
        obtain ⟨e, he, rfl⟩ := of_at_map hx
        have hkn : k < ns.length := (List.getElem?_eq_some_iff.mp he).1
        have hpl := hp.length_eq
        obtain ⟨⟨v2, hv2⟩, q', j', hat⟩ := hmem e (hp.mem_iff.mp (List.mem_of_getElem? he))
        refine ⟨.int e, rfl, _, _, rfl, rfl, _, rfl, iteB (fun h => ?_) (fun h => ?_)⟩
        · have h0 : e < 0 := of_decide_eq_true h
          obtain ⟨t2, q2, j2, rfl, ht2, hat2⟩ := hk6.get hv2
          have em : (0 : Int) - (0 - e) = e := by omega
          obtain ⟨p1, i1, hat1⟩ := hG.sent_of (m := 0 - e) (by omega) (by rw [em]; exact hat)
          obtain ⟨v1, hv1⟩ := hseen p1 i1 _ hat1
          obtain ⟨t1, p2, i2, rfl, ht1, hat3⟩ := hk6.get hv1
          refine ⟨.ref F0, rfl, .inl ⟨rfl, _, SqL.of hF6⟩, .int e, rfl, _, _, rfl, rfl, sz (by show 1 ≤ 1000; decide), fun w1 ob1 nw1 dw1 => ?_⟩
          have s7 : Same H6 (upd H6 w1 (.frz ob1 (.tup [V.int (0 - e)]))) := Same.new nw1
          have hw7 : (upd H6 w1 (.frz ob1 (.tup [V.int (0 - e)]))) w1 = some (.frz ob1 (.tup [V.int (0 - e)])) := upd_same
          show (tDGet (tVar 1) (tOp (rI0 fun i j => V.int (i - j)) (tC (V.int 0)) (tVar 6))) _ (upd H6 w1 (.frz ob1 (.tup [V.int (0 - e)]))) _
          generalize upd H6 w1 (.frz ob1 (.tup [V.int (0 - e)])) = H7 at s7 hw7 ⊢
          refine ⟨.ref D, rfl, .int e, rfl, _, _, rfl, rfl, D, .ref t1, rfl, hv1 ▸ DGet.k (k := Sum.inl (0 - e)) (s7 _ _ hD6), ?_⟩
          refine .inl ⟨w1, t1, _, _, rfl, rfl, .inl (.inr ⟨ob1, hw7⟩), .inl (.inl (s7 _ _ ht1)), by simp, by simp, sz (by show 3 ≤ 1000; decide), fun w2 ob2 nw2 dw2 => ?_⟩
          have s8 := s7.trans (Same.new (o := .frz ob2 (.tup ([V.int (0 - e)] ++ [V.int p2, V.int i2]))) nw2)
          have hw8 : (upd H7 w2 (.frz ob2 (.tup ([V.int (0 - e)] ++ [V.int p2, V.int i2])))) w2 = some (.frz ob2 (.tup ([V.int (0 - e)] ++ [V.int p2, V.int i2]))) := upd_same
          generalize upd H7 w2 (.frz ob2 (.tup ([V.int (0 - e)] ++ [V.int p2, V.int i2]))) = H8 at s8 hw8 ⊢
          refine ⟨.ref D, rfl, .int e, rfl, D, .ref t2, rfl, hv2 ▸ DGet.k (k := Sum.inl e) (s8 _ _ hD6), ?_⟩
          refine .inl ⟨w2, t2, _, _, rfl, rfl, .inl (.inr ⟨ob2, hw8⟩), .inl (.inl (s8 _ _ ht2)), by simp, by simp, sz (by show 5 ≤ 1000; decide), fun w3 ob3 nw3 dw3 => ?_⟩
          have s9 := s8.trans (Same.new (o := .frz ob3 (.tup ([V.int (0 - e)] ++ [V.int p2, V.int i2] ++ [V.int q2, V.int j2]))) nw3)
          have hw9 : (upd H8 w3 (.frz ob3 (.tup ([V.int (0 - e)] ++ [V.int p2, V.int i2] ++ [V.int q2, V.int j2])))) w3 = some (.frz ob3 (.tup ([V.int (0 - e)] ++ [V.int p2, V.int i2] ++ [V.int q2, V.int j2]))) := upd_same
          generalize upd H8 w3 (.frz ob3 (.tup ([V.int (0 - e)] ++ [V.int p2, V.int i2] ++ [V.int q2, V.int j2]))) = H9 at s9 hw9 ⊢
          have hF9 := s9 _ _ hF6
          refine ⟨F0, _, _, rfl, rfl, hF9, ?_, ?_⟩
          · rw [tr, List.length_map]
            exact small1000 (by omega)
          have kk : ∀ (c : Addr) (xs : List V), H9 c = some (.tup xs) → (upd H9 F0 (.lst (tr ts ++ [V.ref w3]))) c = some (.tup xs) := fun c xs q => by rw [upd_ne (ne_of q hF9 (by intro z; cases z))]; exact q
          have hT9 : Tbl K H9 rows (ts ++ [(w3, ⟨0 - e, p2, i2, q2, j2⟩)]) := (hT6.keep (TupK.of s9)).snoc (.inl (.inr ⟨ob3, hw9⟩)) ⟨by show 0 < 0 - e; omega, hat3, by show At rows q2 j2 (0 - (0 - e)); rw [em]; exact hat2⟩
          refine ⟨_, _, _, _, ts ++ [(w3, ⟨0 - e, p2, i2, q2, j2⟩)], rfl, Same.put nF0 (s6.trans s9), ?_, ?_, ?_, (hk6.keep fun a xs q => kk _ _ (s9 _ _ q)), hT9.keep (TupK.put hF9), ?_⟩
          · rw [upd_ne DF]
            exact s9 _ _ hD6
          · rw [upd_ne SF]
            exact s9 _ _ hS6
          · rw [upd_same, tr, tr, List.map_append]
            rfl
          refine ⟨by rw [List.length_append, List.length_singleton]; omega, fun k' e' h1 h2 h3 => ?_⟩
          by_cases z : k' = k
          · subst z
            rw [he] at h2
            cases h2
            exact ⟨_, List.mem_append.mpr (.inr (List.mem_singleton.mpr rfl)), rfl⟩
          · obtain ⟨t, h4, h5⟩ := hc6 k' e' (by omega) h2 h3
            exact ⟨t, List.mem_append.mpr (.inl h4), h5⟩
        · rename_i h
          refine ⟨_, _, _, _, ts, rfl, s6, hD6, hS6, hF6, hk6, hT6, by omega, fun k' e' h1 h2 h3 => ?_⟩
          by_cases z : k' = k
          · subst z
            rw [he] at h2
            cases h2
            exact absurd h3 (of_decide_eq_false h)
          · exact hc6 k' e' (by omega) h2 h3
      · rintro σ H6 ⟨x3, x4, x5, x6, ts, rfl, s6, hD6, hS6, hF6, hk6, hT6, hl6, hc6⟩
        have hpl := hp.length_eq
        rw [List.length_map] at hl6
        refine ⟨.ref F0, rfl, q H6 F0 ts s6 nF0 hF6 hT6 (by omega) fun q' j' m hm hat => ?_⟩
        obtain ⟨v, hv⟩ := hseen q' j' _ hat
        have h1 : V.int (0 - m) ∈ es.map V.int := by
          rw [← hes]
          exact List.mem_map.mpr ⟨_, valV_mem hv, rfl⟩
        obtain ⟨e', he', h2⟩ := List.mem_map.mp h1
        cases h2
        obtain ⟨k', hk'⟩ := List.getElem?_of_mem (hp.mem_iff.mpr he')
        obtain ⟨t, h4, h5⟩ := hc6 k' _ (by rw [List.length_map]; exact (List.getElem?_eq_some_iff.mp hk').1) hk' (by omega)
        exact ⟨t, h4, by omega⟩
end

end Sv

namespace Sv
open PySem PySem.Spec PyProof.Rows L2
/-! ### causal -/
def firstB (rows : List (List Int)) (m t : Int) : Bool := rows.any fun r => decide (-m ∈ r) && decide (t ∈ r.drop (r.idxOf (-m)))
theorem first_eq {many most : Nat} {rows : List (List Int)} (hG : Good many most rows) {x y : Ms} (hx : MsgAt rows x) (hy : MsgAt rows y) (e : x.q = y.p) : firstB rows x.m y.m = decide (x.j ≤ y.i) := by
  have nm : -x.m = 0 - x.m := by omega
  obtain ⟨row, h1, h2⟩ := hx.got
  obtain ⟨row', h3, h4⟩ := hy.sent
  rw [← e] at h3
  obtain rfl : row = row' := Option.some.inj (h1.symm.trans h3)
  have hx0 := hx.pos
  have hy0 := hy.pos
  have hidx : ∀ {p : Nat} {r : List Int}, rows[p]? = some r → -x.m ∈ r → p = x.q ∧ r.idxOf (-x.m) = x.j := fun {p r} a1 a2 => by
    have hl := List.idxOf_lt_length_iff.mpr a2
    have a3 : r[r.idxOf (-x.m)]? = some (0 - x.m) := by
      rw [List.getElem?_eq_getElem hl, List.getElem_idxOf hl, nm]
    exact hG.at_once (by omega) ⟨r, a1, a3⟩ hx.got
  have hm : -x.m ∈ row := by rw [nm]; exact List.mem_of_getElem? h2
  obtain ⟨_, hj⟩ := hidx h1 hm
  by_cases hle : x.j ≤ y.i
  · rw [decide_eq_true hle]
    unfold firstB
    refine List.any_eq_true.mpr ⟨row, List.mem_of_getElem? h1, ?_⟩
    have : y.m ∈ row.drop (row.idxOf (-x.m)) := by
      rw [hj]
      refine List.mem_of_getElem? (i := y.i - x.j) ?_
      rw [List.getElem?_drop, show x.j + (y.i - x.j) = y.i by omega]
      exact h4
    rw [decide_eq_true hm, decide_eq_true this]
    rfl
  · rw [decide_eq_false hle]
    unfold firstB
    refine List.any_eq_false.mpr fun r hr hb => hle ?_
    obtain ⟨p, hp⟩ := List.getElem?_of_mem hr
    rw [Bool.and_eq_true] at hb
    obtain ⟨hpq, hij⟩ := hidx hp (of_decide_eq_true hb.1)
    subst hpq
    obtain rfl : row = r := Option.some.inj (h1.symm.trans hp)
    have h5 : y.m ∈ row.drop (row.idxOf (-x.m)) := of_decide_eq_true hb.2
    rw [hij] at h5
    obtain ⟨k, hk⟩ := List.getElem?_of_mem h5
    rw [List.getElem?_drop] at hk
    have := (hG.at_once (by omega) ⟨row, h1, hk⟩ ⟨row, h1, h4⟩).2
    omega
abbrev sFirst : Stmt := topS 8
abbrev nFirst : List Str := ["history", "message", "then", "row"]
theorem scFirst : FnScope nFirst ["history", "message", "then"] (defScope sFirst) := ⟨rfl, rfl, rfl, by decide +kernel, rfl, by decide +kernel, by decide +kernel⟩
def spFirst (K : PySem.W.Frag) : Sp := fun vs H Q _ => ∃ (a : Addr) (refs : List Addr) (rows : List (List Int)) (m t : Int), vs = [.ref a, .int m, .int t] ∧ SqT K H a (refs.map V.ref) ∧ Rows K H refs rows ∧ rows.length ≤ 6 ∧ (∀ r ∈ rows, r.length ≤ 1000) ∧
  ∀ H', Same H H' → Q (.bl (firstB rows m t)) H'
section
variable {P : Program} {w : World} {K : PySem.W.Frag} {mg : Str → Option Value} {base : Heap}
theorem ok_first {f : Addr} {fd : FuncData} (F : Fun K "is_received_first" "is_received_first" sFirst f fd) (man : mg "any" = none) : FnOk P w K mg base CX0 1 f fd ["history", "message", "then"] (spFirst K) := by
  refine F.ok scFirst (fun vs H Q E h => ?_) (fun cdv A outer s H vs Q E hr h => ?_)
  · obtain ⟨a, refs, rows, m, t, rfl, _⟩ := h
    rfl
  · obtain ⟨a, refs, rows, m, t, rfl, hA, hR, h6, hl, q⟩ := h
    have nd := scFirst.nd
    refine ⟨_, pss_one (ps_ret (pe_callB (cr_any rfl) (by rfl) man (by decide +kernel) (pa_cons (pe_lc (own := [("row", 3)]) (g := gName 3) (by rfl) nd (pi_tup (pv 0))
          (blkOk_by (own := [("row", 3)]) (N := nFirst) (sc := defScope sFirst) (by decide +kernel))
          (fun _ _ _ _ _ => pg_name (i := 3) nd rfl (Or.inl rfl)) (fun _ _ _ _ _ => pts_nil)
          (fun _ _ _ _ _ => pe_and (pe_cmpR (r := rIn K false) op_in_seq (pe_un un_neg (pv 1)) (pv 3) (by rfl))
            (pe_one (pe_cmpR (r := rIn K false) op_in_seq (pv 2) (pe_slice (r := rSlA K) sl_tupA (pv 3) (po_some (pe_tm (r := rTindex K) PySem.F.slot_tuple_index PySem.F.type_tuple_index mt_tindex (pv 3) (pa_cons (pe_un un_neg (pv 1)) pa_nil))) po_none) (by rfl))))) pa_nil))), ?_⟩
    obtain ⟨g, hg⟩ : ∃ g : List Int → Bool, g = fun r => decide (-m ∈ r) && decide (t ∈ r.drop (r.idxOf (-m))) := ⟨_, rfl⟩
    refine ⟨.ref a, rfl, a, rfl, ⟨_, hA⟩, fun D nD => ?_⟩
    refine lc_it (walk_tup (K := K) (a := a) (xs := refs.map V.ref)) (fun i H' => Same H H' ∧ H' D = some (.lst (((rows.map g).take i).map V.bl))) ⟨Same.new nD, upd_same⟩ (fun i H' _ z => (TupK.of z.1).1 _ _ hA) (fun i v H' H'' hi z y => ?_) (fun H1 z => ?_)
    · obtain ⟨rfl, hx⟩ := y
      obtain ⟨r, hr', rfl⟩ := of_at_map hx
      have hir : i < rows.length := by
        rw [← hR.1]
        exact (List.getElem?_eq_some_iff.mp hr').1
      have hrow := List.getElem?_eq_getElem hir
      generalize rows[i] = row at hrow
      have hln := hl _ (List.mem_of_getElem? hrow)
      have hrT := (hR.2 i r row hr' hrow).same z.1
      have hrTT : TupT H'' r (row.map V.int) := by
        obtain ⟨o, q1, q2⟩ := hrT
        exact .inr ⟨o, q1⟩
      have fin : ∀ {H3 : Hp} {b : Bool}, Same H'' H3 → b = g row → ∃ acc, H3 D = some (.lst acc) ∧ acc.length < sizeLine ∧ Same H (upd H3 D (.lst (acc ++ [V.bl b]))) ∧ (upd H3 D (.lst (acc ++ [V.bl b]))) D = some (.lst (((rows.map g).take (i + 1)).map V.bl)) := fun {H3 b} s3 e => by
        refine ⟨_, s3 _ _ z.2, ?_, Same.put nD (z.1.trans s3), ?_⟩
        · rw [List.length_map, List.length_take]
          exact small1000 (by omega)
        · have e2 : (rows.map g)[i]? = some (g row) := at_map hrow
          rw [upd_same, List.take_add_one, e2, List.map_append, e]
          rfl
      refine ⟨rfl, yesT ⟨.int m, rfl, m, rfl, .ref r, rfl, r, _, rfl, .inr hrT.sqT, rfl, flat_ints _, _, rfl, ?_⟩⟩
      rw [if_neg Bool.false_ne_true, in_ints]
      refine ite2 (fun g1 => ?_) (fun g1 => ?_)
      · have hmem : -m ∈ row := of_decide_eq_true g1
        refine ⟨.int t, rfl, .ref r, rfl, .ref r, rfl, ⟨r, _, rfl, hrT⟩, .int m, rfl, m, rfl, r, row, -m, rfl, rfl, hrT.sqT, hmem, _, rfl, ?_⟩
        dsimp only [tNoPart]
        refine slA (K := K) hrTT fun H3 p s3 hp => ?_
        have hil := List.idxOf_le_length (l := row) (a := -m)
        have ec : cutV (row.map V.int) (some ((row.idxOf (-m) : Nat) : Int)) none = (row.drop (row.idxOf (-m))).map V.int := by
          rw [cut_from (by rw [List.length_map]; exact hil), List.map_drop]
        rw [ec] at hp
        refine ⟨p, _, rfl, .inr hp.sqT, rfl, flat_ints _, ?_⟩
        rw [if_neg Bool.false_ne_true, in_ints]
        exact fin s3 (by rw [hg]; show _ = (decide (-m ∈ row) && _); rw [g1, Bool.true_and])
      · refine fin (Same.refl _) ?_
        rw [hg]
        show false = (decide (-m ∈ row) && _)
        rw [Bool.eq_false_iff.mpr g1, Bool.false_and]
    · obtain ⟨s1, hD⟩ := z
      rw [List.length_map, hR.1, List.take_of_length_le (by rw [List.length_map]; exact Nat.le_refl _)] at hD
      refine ⟨D, _, rfl, SqL.of hD, ?_⟩
      have e : (rows.map g).any id = firstB rows m t := by
        unfold firstB
        rw [List.any_map, hg]
        rfl
      rw [e]
      exact q H1 s1
end

end Sv

namespace Sv
open PySem PySem.Spec PyProof.Rows L2
/-! ### the trips, frozen; the steps -/
abbrev sRB : Stmt := topS 4
abbrev sSteps : Stmt := topS 9
abbrev nRB : List Str := ["trip", "state", "receiver", "interval", "process", "number"]
abbrev nSteps : List Str := ["history", "trips", "message", "then"]
theorem scRB : FnScope nRB ["trip", "state"] (defScope sRB) := ⟨rfl, rfl, rfl, by decide +kernel, rfl, by decide +kernel, by decide +kernel⟩
theorem scSteps : FnScope nSteps ["history", "trips"] (defScope sSteps) := ⟨rfl, rfl, rfl, by decide +kernel, rfl, by decide +kernel, by decide +kernel⟩
abbrev scStepsC : Scope := { kind := .function, names := [(".0", .local), ("message", .cell), ("history", .cell), ("trips", .cell)], isGenerator := false, isCoroutine := false }
def nextL (rows : List (List Int)) (m : Int) : List Int := (recvL rows).filter fun t => firstB rows m t
structure TripF (H : Hp) (D : Addr) (od : Obj) (kvs : List (Key × V)) (rows : List (List Int)) : Prop where
  fz : H D = some (.frz od (.dK kvs))
  tr : Trips H kvs (recvL rows) rows
structure StepD (H : Hp) (kvs : List (Key × V)) (ms : List Int) (rows : List (List Int)) : Prop where
  ks : kvs.map (·.1) = ms.map Sum.inl
  va : ∀ (i : Nat) (m : Int), ms[i]? = some m → ∃ l, kvs[i]? = some (Sum.inl m, V.ref l) ∧ H l = some (.lst ((nextL rows m).map V.int))
theorem TripF.same {H H' : Hp} {D : Addr} {od : Obj} {kvs : List (Key × V)} {rows : List (List Int)} (h : TripF H D od kvs rows) (e : Same H H') : TripF H' D od kvs rows := ⟨e _ _ h.fz, h.tr.same e⟩
theorem StepD.same {H H' : Hp} {kvs : List (Key × V)} {ms : List Int} {rows : List (List Int)} (h : StepD H kvs ms rows) (e : Same H H') : StepD H' kvs ms rows := ⟨h.ks, fun i m hm => by
  obtain ⟨l, h1, h2⟩ := h.va i m hm
  exact ⟨l, h1, e _ _ h2⟩⟩
theorem recv_nd {rows : List (List Int)} {kvs : List (Key × V)} (h : kvs.map (·.1) = (recvL rows).map Sum.inl) : (kvs.map (·.1)).Nodup := by
  rw [h]
  exact List.pairwise_map.mpr ((recvL_nodup rows).imp fun h z => h (Sum.inl.inj z))
theorem TripF.at {H : Hp} {D : Addr} {od : Obj} {kvs : List (Key × V)} {rows : List (List Int)} (h : TripF H D od kvs rows) {m : Int} (hm : m ∈ recvL rows) : ∃ (t s r : Addr) (p k p' k' : Nat), valV kvs (Sum.inl m) = some (.ref t) ∧
    H t = some (.tup [.ref s, .ref r]) ∧ H s = some (.tup [.int p, .int k]) ∧ H r = some (.tup [.int p', .int k']) ∧ hap rows m = some (p, k) ∧ hap rows (0 - m) = some (p', k') := by
  obtain ⟨i, hi⟩ := List.getElem?_of_mem hm
  obtain ⟨t, s, r, p, k, p', k', a1, a2⟩ := h.tr.2 i m hi
  exact ⟨t, s, r, p, k, p', k', valV_at (recv_nd h.tr.1) a1, a2⟩
theorem StepD.at {H : Hp} {kvs : List (Key × V)} {rows : List (List Int)} (h : StepD H kvs (recvL rows) rows) {m : Int} (hm : m ∈ recvL rows) : ∃ l, valV kvs (Sum.inl m) = some (.ref l) ∧ H l = some (.lst ((nextL rows m).map V.int)) := by
  obtain ⟨i, hi⟩ := List.getElem?_of_mem hm
  obtain ⟨l, a1, a2⟩ := h.va i m hi
  exact ⟨l, valV_at (recv_nd h.ks) a1, a2⟩
def spRB (K : PySem.W.Frag) : Sp := fun vs H Q _ => ∃ (t s r b : Addr) (p k p' k' q j : Nat), vs = [.ref t, .ref b] ∧ H t = some (.tup [.ref s, .ref r]) ∧ H s = some (.tup [.int p, .int k]) ∧ H r = some (.tup [.int p', .int k']) ∧ SqT K H b [.int q, .int j] ∧
  Q (.bl (decide (p' = q) && decide (k' < j))) H
def spSteps (K : PySem.W.Frag) : Sp := fun vs H Q _ => ∃ (a D : Addr) (od : Obj) (kvs : List (Key × V)) (refs : List Addr) (rows : List (List Int)) (many most : Nat), vs = [.ref a, .ref D] ∧ SqT K H a (refs.map V.ref) ∧ Rows K H refs rows ∧ Good many most rows ∧ many ≤ 6 ∧ most ≤ 60 ∧ TripF H D od kvs rows ∧
  ∀ (H' : Hp) (S : Addr) (svs : List (Key × V)), Same H H' → H S = none → H' S = some (.dK svs) → StepD H' svs (recvL rows) rows → Q (.ref S) H'
section
variable {P : Program} {w : World} {K : PySem.W.Frag} {mg : Str → Option Value} {base : Heap}
theorem ok_rb {f : Addr} {fd : FuncData} (F : Fun K "is_received_before" "is_received_before" sRB f fd) : FnOk P w K mg base CX0 1 f fd ["trip", "state"] (spRB K) := by
  refine F.ok scRB (fun vs H Q E h => ?_) (fun cdv A outer s H vs Q E hr h => ?_)
  · obtain ⟨t, s, r, b, p, k, p', k', q, j, rfl, _⟩ := h
    rfl
  · obtain ⟨t, s, r, b, p, k, p', k', q', j, rfl, ht, hs, hr', hB, q⟩ := h
    have nd := scRB.nd
    refine ⟨_, pss_cons (ps_asg (pe_ix ix_tup (pv 0) pe_int (fun _ _ => rfl)) (pg_tup rfl (pgs_cons (pg_name (i := 2) nd rfl (.inl rfl)) (pgs_cons (pg_name (i := 3) nd rfl (.inl rfl)) pgs_nil))))
      (pss_cons (ps_asg (pv 1) (pg_tup rfl (pgs_cons (pg_name (i := 4) nd rfl (.inl rfl)) (pgs_cons (pg_name (i := 5) nd rfl (.inl rfl)) pgs_nil))))
      (pss_one (ps_ret (pe_and (pe_cmpR op_eq (pv 2) (pv 4) (nomark _)) (pe_one (pe_cmpR op_lt (pv 3) (pv 5) (nomark _))))))), ?_⟩
    refine ⟨.ref t, rfl, t, _, 1, .ref r, rfl, rfl, .inl (.inl ht), rfl, r, _, rfl, .inl (.inl hr'), rfl, _, _, rfl, _, _, rfl, rfl, .ref b, rfl, b, _, rfl, hB, rfl, _, _, rfl, _, _, rfl, rfl, ?_⟩
    have e1 : decide (V.int (p' : Int) = V.int (q' : Int)) = decide (p' = q') := by
      by_cases z : p' = q'
      · rw [decide_eq_true z, decide_eq_true (by rw [z])]
      · rw [decide_eq_false z, decide_eq_false (fun e => z (by have := V.int.inj e; omega))]
    have e2 : decide ((k' : Int) < (j : Int)) = decide (k' < j) := by
      by_cases z : k' < j
      · rw [decide_eq_true z, decide_eq_true (by omega)]
      · rw [decide_eq_false z, decide_eq_false (by omega)]
    refine ⟨_, rfl, _, rfl, rfl, _, rfl, ?_⟩
    rw [e1]
    refine ite2 (fun g => ?_) (fun g => ?_)
    · refine ⟨_, rfl, _, rfl, _, _, rfl, rfl, ?_⟩
      rw [g, Bool.true_and] at q
      dsimp only
      rw [e2]
      exact q
    · rw [Bool.eq_false_iff.mpr g, Bool.false_and] at q
      exact q
theorem ok_steps {f fF : Addr} {fd fdF : FuncData} (F : Fun K "causal_steps" "causal_steps" sSteps f fd) (FF : Fun K "is_received_first" "is_received_first" sFirst fF fdF) (bF : Binds K fdF ["history", "message", "then"] []) (gF : mg "is_received_first" = some (.ref fF)) (man : mg "any" = none) :
    FnOk P w K mg base CX0 2 f fd ["history", "trips"] (spSteps K) := by
  have GF : FnOk P w K mg base CX0 1 fF fdF ["history", "message", "then"] (spFirst K) := ok_first FF man
  refine F.ok scSteps (fun vs H Q E h => ?_) (fun cdv A outer s H vs Q E hr h => ?_)
  · obtain ⟨a, D, od, kvs, refs, rows, many, most, rfl, _⟩ := h
    rfl
  · obtain ⟨a, D, od, kvs, refs, rows, many, most, rfl, hA, hR, hG, hm6, hm60, hT, q⟩ := h
    have nd := scSteps.nd
    refine ⟨_, pss_one (ps_ret (pe_dc (own := [("message", 2)]) (g := gName 2) (by rfl) nd (pi_keys (pv 1))
          (blkOk_by (own := [("message", 2)]) (N := nSteps) (sc := defScope sSteps) (by decide +kernel)) (fun _ _ _ _ _ => pg_name (i := 2) nd rfl (Or.inr rfl)) (fun _ _ _ _ _ => pts_nil)
          (fun _ _ _ _ _ => pv 2)
          (fun _ _ _ _ _ => pe_lc (own := [("then", 3)]) (g := gName 3) (by rfl) nd (pi_keys (pv 1))
            (blkOk_by (own := [("then", 3)]) (N := nSteps) (sc := scStepsC) (by decide +kernel)) (fun _ _ _ _ _ => pg_name (i := 3) nd rfl (Or.inl rfl))
            (fun _ _ _ _ _ => pts_one (pt_val (pe_call GF hr (by rfl) gF FF.kp bF .nil pass0 (pa_cons (pv 0) (pa_cons (pv 2) (pa_cons (pv 3) pa_nil)))))) (fun _ _ _ _ _ => pv 3)))), ?_⟩
    have h6 : rows.length ≤ 6 := by have := hG.len; omega
    have h1000 : ∀ r ∈ rows, r.length ≤ 1000 := fun r hr => by
      obtain ⟨i, hi⟩ := List.getElem?_of_mem hr
      have := (hG.row hi).1
      omega
    have hkl : kvs.length = (recvL rows).length := by
      have := congrArg List.length hT.tr.1
      rwa [List.length_map, List.length_map] at this
    have hsl := recvL_len rows
    refine ⟨.ref D, rfl, D, od, rfl, .inl ⟨kvs, hT.fz, fun S nS => ?_⟩⟩
    refine dc_it (walk_keys (d := D) (o := od) (kvs := kvs)) (fun j H' => Same H H' ∧ ∃ svs, H' S = some (.dK svs) ∧ StepD H' svs ((recvL rows).take j) rows) ⟨Same.new nS, [], upd_same, rfl, fun i m z => by simp at z⟩ (fun j H' _ z => z.1 _ _ hT.fz)
      (fun j x H' H'' hj z y => ?_) (fun H' z => ?_)
    · obtain ⟨rfl, k, v, hk, rfl⟩ := y
      obtain ⟨sm, svs, hS, hK⟩ := z
      have hjr : j < (recvL rows).length := by rw [← hkl]; exact hj
      have hm := List.getElem?_eq_getElem hjr
      generalize (recvL rows)[j] = m at hm
      obtain ⟨t, s', r, p, kk, p', kk', a1, _⟩ := hT.tr.2 j m hm
      rw [hk] at a1
      cases a1
      refine ⟨rfl, yesT ⟨_, rfl, .ref D, rfl, D, od, rfl, .inl ⟨kvs, sm _ _ hT.fz, fun E nE => ?_⟩⟩⟩
      refine lc_it (walk_keys (d := D) (o := od) (kvs := kvs)) (fun i H3 => Same H'' H3 ∧ H3 E = some (.lst ((((recvL rows).take i).filter fun t => firstB rows m t).map V.int))) ⟨Same.new nE, upd_same⟩ (fun i H3 _ z => z.1 _ _ (sm _ _ hT.fz))
        (fun i x H3 H4 hi z y => ?_) (fun H3 z => ?_)
      · obtain ⟨rfl, k2, v2, hk2, rfl⟩ := y
        have hir : i < (recvL rows).length := by rw [← hkl]; exact hi
        have ht2 := List.getElem?_eq_getElem hir
        generalize (recvL rows)[i] = t2 at ht2
        obtain ⟨_, _, _, _, _, _, _, b1, _⟩ := hT.tr.2 i t2 ht2
        rw [hk2] at b1
        cases b1
        have sA := sm.trans z.1
        have tW : ((recvL rows).take (i + 1)).filter (fun t => firstB rows m t) = ((recvL rows).take i).filter (fun t => firstB rows m t) ++ (if firstB rows m t2 = true then [t2] else []) := by
          rw [List.take_add_one, ht2, List.filter_append]
          congr 1
          by_cases hp : firstB rows m t2 = true
          · rw [if_pos hp]
            exact List.filter_cons_of_pos hp
          · rw [if_neg hp]
            exact List.filter_cons_of_neg hp
        refine ⟨rfl, .ref a, rfl, _, rfl, _, rfl, a, refs, rows, m, t2, rfl, (TupK.of sA).1 _ _ hA, hR.keep (.of sA), h6, h1000, fun H5 s5 => ⟨_, rfl, ite2 (fun g => ?_) (fun g => ?_)⟩⟩
        · refine ⟨_, rfl, _, s5 _ _ z.2, ?_, Same.put nE (z.1.trans s5), ?_⟩
          · rw [List.length_map]
            have := List.length_filter_le (fun t => firstB rows m t) ((recvL rows).take i)
            rw [List.length_take] at this
            exact small1000 (by omega)
          · rw [upd_same, tW, if_pos g, List.map_append]
            rfl
        · refine ⟨z.1.trans s5, ?_⟩
          rw [tW, if_neg g, List.append_nil]
          exact s5 _ _ z.2
      · obtain ⟨s3, hE⟩ := z
        rw [hkl, List.take_length] at hE
        have hkj : svs.length = j := by
          have := congrArg List.length hK.ks
          rw [List.length_map, List.length_map, List.length_take] at this
          omega
        have hnew : valV svs (Sum.inl m : Key) = none := valV_none fun p hp z => by
          have h1 : p.1 ∈ svs.map (·.1) := List.mem_map.mpr ⟨p, hp, rfl⟩
          rw [hK.ks, z] at h1
          obtain ⟨m', hm', h2⟩ := List.mem_map.mp h1
          obtain rfl : m' = m := Sum.inl.inj h2
          obtain ⟨i, hi⟩ := List.getElem?_of_mem hm'
          have hi2 : i < j := by
            have := (List.getElem?_eq_some_iff.mp hi).1
            rw [List.length_take] at this
            omega
          rw [List.getElem?_take_of_lt hi2] at hi
          have := nodup_at (recvL_nodup rows) hi hm
          omega
        have hS3 := s3 _ _ hS
        refine ⟨svs, Sum.inl m, rfl, hS3, small1000 (by omega), Same.put nS (sm.trans s3), _, upd_same, ?_⟩
        rw [putK_new _ hnew, List.take_add_one, hm]
        have up : ∀ {c : Addr} {xs : List V}, H3 c = some (.lst xs) → (upd H3 S (.dK (svs ++ [(Sum.inl m, V.ref E)]))) c = some (.lst xs) := fun {c xs} q => by rw [upd_ne (ne_of q hS3 (by intro z; cases z))]; exact q
        refine ⟨by rw [List.map_append, List.map_append, hK.ks]; rfl, fun i m' h1 => ?_⟩
        by_cases hi : i < j
        · have hl : i < ((recvL rows).take j).length := by rw [List.length_take]; omega
          rw [List.getElem?_append_left hl] at h1
          obtain ⟨l, h2, h3⟩ := hK.va i m' h1
          exact ⟨l, by rw [List.getElem?_append_left (by omega)]; exact h2, up (s3 _ _ h3)⟩
        · have hl : ((recvL rows).take j).length = j := by rw [List.length_take]; omega
          rw [List.getElem?_append_right (by omega), hl] at h1
          have hij : i = j := by
            have := (List.getElem?_eq_some_iff.mp h1).1
            simp at this
            omega
          subst hij
          rw [Nat.sub_self] at h1
          obtain rfl : m = m' := Option.some.inj h1
          refine ⟨E, ?_, up hE⟩
          rw [List.getElem?_append_right (by omega), hkj, Nat.sub_self]
          rfl
    · obtain ⟨sm, svs, hS, hK⟩ := z
      rw [hkl, List.take_length] at hK
      exact q H' S svs sm nS hS hK
end

end Sv

namespace Sv
open PySem PySem.Spec PyProof.Rows L2
/-! ### ways to a state -/
abbrev sDist : Stmt := topS 6
abbrev nDist : List Str := ["trips", "steps", "state", "distances", "count", "message", "found", "then"]
theorem scDist : FnScope nDist ["trips", "steps", "state"] (defScope sDist) := ⟨rfl, rfl, rfl, by decide +kernel, rfl, by decide +kernel, by decide +kernel⟩
abbrev scDistC : Scope := { kind := .function, names := [(".0", .local), ("message", .local), ("any", .globalImplicit), ("distances", .cell), ("steps", .cell)], isGenerator := false, isCoroutine := false }
def nxL (rows : List (List Int)) (nx : Int → Int → Bool) (m : Int) : List Int := (recvL rows).filter (nx m)
structure StepG (H : Hp) (kvs : List (Key × V)) (rows : List (List Int)) (nx : Int → Int → Bool) : Prop where
  ks : kvs.map (·.1) = (recvL rows).map Sum.inl
  va : ∀ (i : Nat) (m : Int), (recvL rows)[i]? = some m → ∃ l, kvs[i]? = some (Sum.inl m, V.ref l) ∧ H l = some (.lst ((nxL rows nx m).map V.int))
theorem StepG.same {H H' : Hp} {kvs : List (Key × V)} {rows : List (List Int)} {nx : Int → Int → Bool} (h : StepG H kvs rows nx) (e : Same H H') : StepG H' kvs rows nx := ⟨h.ks, fun i m hm => by
  obtain ⟨l, h1, h2⟩ := h.va i m hm
  exact ⟨l, h1, e _ _ h2⟩⟩
theorem StepG.at {H : Hp} {kvs : List (Key × V)} {rows : List (List Int)} {nx : Int → Int → Bool} (h : StepG H kvs rows nx) {m : Int} (hm : m ∈ recvL rows) : ∃ l, valV kvs (Sum.inl m) = some (.ref l) ∧ H l = some (.lst ((nxL rows nx m).map V.int)) := by
  obtain ⟨i, hi⟩ := List.getElem?_of_mem hm
  obtain ⟨l, a1, a2⟩ := h.va i m hi
  exact ⟨l, valV_at (recv_nd h.ks) a1, a2⟩
theorem StepD.g {H : Hp} {kvs : List (Key × V)} {rows : List (List Int)} (h : StepD H kvs (recvL rows) rows) : StepG H kvs rows (firstB rows) := ⟨h.ks, h.va⟩
def baseB (rows : List (List Int)) (q j : Nat) (m : Int) : Bool := match hap rows (0 - m) with
  | some (p, k) => decide (p = q) && decide (k < j)
  | none => false
inductive Way (rows : List (List Int)) (nx : Int → Int → Bool) (q j : Nat) : Int → Prop
  | base {m : Int} : m ∈ recvL rows → baseB rows q j m = true → Way rows nx q j m
  | step {m t : Int} : m ∈ recvL rows → t ∈ recvL rows → nx m t = true → Way rows nx q j t → Way rows nx q j m
theorem Way.mem {rows : List (List Int)} {nx : Int → Int → Bool} {q j : Nat} {m : Int} (h : Way rows nx q j m) : m ∈ recvL rows := by
  cases h with
  | base h _ => exact h
  | step h _ _ _ => exact h
def newL (rows : List (List Int)) (nx : Int → Int → Bool) (ks : List Int) : List Int := (recvL rows).filter fun m => !decide (m ∈ ks) && ((nxL rows nx m).map fun t => decide (t ∈ ks)).any id
structure Srch (rows : List (List Int)) (nx : Int → Int → Bool) (q j : Nat) (ks fs : List Int) : Prop where
  nd : (ks ++ fs).Nodup
  way : ∀ m ∈ ks ++ fs, Way rows nx q j m
  base : ∀ m ∈ recvL rows, baseB rows q j m = true → m ∈ ks ++ fs
  step : ∀ m ∈ recvL rows, ∀ t ∈ ks, nx m t = true → m ∈ ks ++ fs
theorem Srch.start (rows : List (List Int)) (nx : Int → Int → Bool) (q j : Nat) : Srch rows nx q j [] ((recvL rows).filter (baseB rows q j)) :=
  ⟨(recvL_nodup rows).sublist List.filter_sublist, fun m hm => .base (List.mem_filter.mp hm).1 (List.mem_filter.mp hm).2, fun m hm h => List.mem_filter.mpr ⟨hm, h⟩, fun m _ t ht => nomatch ht⟩
theorem Srch.next {rows : List (List Int)} {nx : Int → Int → Bool} {q j : Nat} {ks fs : List Int} (h : Srch rows nx q j ks fs) : Srch rows nx q j (ks ++ fs) (newL rows nx (ks ++ fs)) := by
  have mem : ∀ m, m ∈ newL rows nx (ks ++ fs) ↔ m ∈ recvL rows ∧ m ∉ ks ++ fs ∧ ∃ t ∈ recvL rows, nx m t = true ∧ t ∈ ks ++ fs := fun m => by
    unfold newL nxL
    rw [List.mem_filter, Bool.and_eq_true, List.any_map, List.any_eq_true]
    refine and_congr_right fun _ => and_congr ⟨fun z => by simpa using z, fun z => by simpa using z⟩ ⟨?_, ?_⟩
    · rintro ⟨t, h1, h2⟩
      exact ⟨t, (List.mem_filter.mp h1).1, (List.mem_filter.mp h1).2, of_decide_eq_true h2⟩
    · rintro ⟨t, h1, h2, h3⟩
      exact ⟨t, List.mem_filter.mpr ⟨h1, h2⟩, decide_eq_true h3⟩
  refine ⟨?_, fun m hm => ?_, fun m hm hb => List.mem_append_left _ (h.base m hm hb), fun m hm t ht hn => ?_⟩
  · refine List.nodup_append.mpr ⟨h.nd, (recvL_nodup rows).sublist List.filter_sublist, fun a ha b hb e => ?_⟩
    subst e
    exact ((mem a).mp hb).2.1 ha
  · rcases List.mem_append.mp hm with z | z
    · exact h.way m z
    · obtain ⟨h1, _, t, h2, h3, h4⟩ := (mem m).mp z
      exact .step h1 h2 h3 (h.way t h4)
  · by_cases z : m ∈ ks ++ fs
    · exact List.mem_append_left _ z
    · exact List.mem_append_right _ ((mem m).mpr ⟨hm, z, t, (h.way t ht).mem, hn, ht⟩)
theorem Srch.done {rows : List (List Int)} {nx : Int → Int → Bool} {q j : Nat} {ks : List Int} (h : Srch rows nx q j ks []) {m : Int} : m ∈ ks ↔ Way rows nx q j m := by
  refine ⟨fun z => h.way m (List.mem_append_left _ z), fun z => ?_⟩
  induction z with
  | base h1 h2 => exact (List.mem_append.mp (h.base _ h1 h2)).elim id fun z => nomatch z
  | step h1 h2 h3 _ ih => exact (List.mem_append.mp (h.step _ h1 _ ih h3)).elim id fun z => nomatch z
theorem nd_le : ∀ {a b : List Int}, a.Nodup → (∀ x ∈ a, x ∈ b) → a.length ≤ b.length
  | [], b, _, _ => Nat.zero_le _
  | x :: a, b, h, hs => by
    obtain ⟨h1, h2⟩ := List.nodup_cons.mp h
    have hx := hs x List.mem_cons_self
    have := nd_le (b := b.erase x) h2 fun y hy => (List.mem_erase_of_ne (fun (e : y = x) => h1 (by rw [← e]; exact hy))).mpr (hs y (List.mem_cons_of_mem _ hy))
    rw [List.length_erase_of_mem hx] at this
    have := List.length_pos_of_mem hx
    rw [List.length_cons]
    omega
theorem Srch.len {rows : List (List Int)} {nx : Int → Int → Bool} {q j : Nat} {ks fs : List Int} (h : Srch rows nx q j ks fs) : ks.length + fs.length ≤ 24 := by
  have := nd_le h.nd fun x hx => (h.way x hx).mem
  have := recvL_len rows
  rw [List.length_append] at *
  omega
theorem key_in {dvs : List (Key × V)} {ks : List Int} (h : dvs.map (·.1) = ks.map Sum.inl) (t : Int) : (valV dvs (Sum.inl t : Key)).isSome = decide (t ∈ ks) := by
  rw [← valV_any, Bool.eq_iff_iff, List.any_eq_true, decide_eq_true_iff]
  constructor
  · rintro ⟨p, hp, e⟩
    have h1 : p.1 ∈ dvs.map (·.1) := List.mem_map.mpr ⟨p, hp, rfl⟩
    rw [h, of_decide_eq_true e] at h1
    obtain ⟨m, hm, e2⟩ := List.mem_map.mp h1
    rw [← Sum.inl.inj e2]
    exact hm
  · intro hm
    have h1 : (Sum.inl t : Key) ∈ dvs.map (·.1) := by rw [h]; exact List.mem_map.mpr ⟨t, hm, rfl⟩
    obtain ⟨p, hp, e⟩ := List.mem_map.mp h1
    exact ⟨p, hp, decide_eq_true e⟩
def spDist (K : PySem.W.Frag) : Sp := fun vs H Q _ => ∃ (D S b : Addr) (od od2 : Obj) (kvs svs : List (Key × V)) (rows : List (List Int)) (nx : Int → Int → Bool) (q j : Nat), vs = [.ref D, .ref S, .ref b] ∧ TripF H D od kvs rows ∧ H S = some (.frz od2 (.dK svs)) ∧ StepG H svs rows nx ∧
  SqT K H b [.int q, .int j] ∧ ∀ (H' : Hp) (R : Addr) (dvs : List (Key × V)) (ks : List Int), Same H H' → H R = none → H' R = some (.dK dvs) → dvs.map (·.1) = ks.map Sum.inl → ks.length ≤ 24 → (∀ m, m ∈ ks ↔ Way rows nx q j m) → Q (.ref R) H'
section
variable {P : Program} {w : World} {K : PySem.W.Frag} {mg : Str → Option Value} {base : Heap}
theorem ok_dist {f fR : Addr} {fd fdR : FuncData} (F : Fun K "distances_to" "distances_to" sDist f fd) (FR : Fun K "is_received_before" "is_received_before" sRB fR fdR) (bR : Binds K fdR ["trip", "state"] []) (gR : mg "is_received_before" = some (.ref fR)) (man : mg "any" = none) :
    FnOk P w K mg base CX0 2 f fd ["trips", "steps", "state"] (spDist K) := by
  have GR : FnOk P w K mg base CX0 1 fR fdR ["trip", "state"] (spRB K) := ok_rb FR
  refine F.ok scDist (fun vs H Q E h => ?_) (fun cdv A outer s H vs Q E hr h => ?_)
  · obtain ⟨D, S, b, od, od2, kvs, svs, rows, nx, q, j, rfl, _⟩ := h
    rfl
  · obtain ⟨D, S, b, od, od2, kvs, svs, rows, nx, u, j, rfl, hT, hS, hG, hB, q⟩ := h
    have nd := scDist.nd
    have hu1 := hu_of hr
    refine ⟨_, pss_cons (ps_set (i := 3) nd rfl (.inr rfl) pe_dnewK)
      (pss_cons (ps_set (i := 4) nd rfl (.inl rfl) pe_int)
      (pss_cons (ps_setLc (i := 6) (own := [("message", 5)]) (g := gName 5) (by rfl) nd rfl rfl (sw_true rfl rfl rfl (by decide +kernel)) (pi_keys (pv 0))
        (blkOk_by (own := [("message", 5)]) (N := nDist) (sc := defScope sDist) (by decide +kernel)) (fun _ _ _ _ _ => pg_name (i := 5) nd rfl (Or.inl rfl))
        (fun _ _ _ _ _ => pts_one (pt_val (pe_call GR hr (by rfl) gR FR.kp bR .nil pass0 (pa_cons (pe_dget hu1 (pv 0) (pv 5) (fun _ _ => rfl)) (pa_cons (pv 2) pa_nil))))) (fun _ _ _ _ _ => pv 5))
      (pss_cons (ps_while PassesOwn.never (pt_truth (pv 6) (by intro _; rfl))
        (pss_cons (ps_for PassesOwn.never rfl (pi_list (pv 6)) (pg_name (i := 5) nd rfl (.inl rfl)) (pss_one (ps_dput hu1 (pv 3) (pv 5) (pv 4) rfl)))
        (pss_cons (ps_aug (i := 4) nd rfl (.inl rfl) pe_int ip_add)
        (pss_one (ps_setLc (i := 6) (own := [("message", 5)]) (g := gName 5) (by rfl) nd rfl rfl (sw_true rfl rfl rfl (by decide +kernel)) (pi_keys (pv 0))
          (blkOk_by (own := [("message", 5)]) (N := nDist) (sc := defScope sDist) (by decide +kernel)) (fun _ _ _ _ _ => pg_name (i := 5) nd rfl (Or.inl rfl))
          (fun _ _ _ _ _ => pts_one (PW.pt (pw_and (pt_cmp (pc_dnotin hu1 (pv 5) (pv 3))) (pw_and1 (pt_val (pe_callB (r := rAny K) (cr_any rfl) (by rfl) man (by decide +kernel) (pa_cons
            (pe_lc (wi := iList K (tDGet (tVar 1) (tVar 5))) (own := [("then", 7)]) (g := gName 7) (by rfl) nd (pi_list (pe_dget hu1 (pv 1) (pv 5) (fun _ _ => rfl)))
              (blkOk_by (own := [("then", 7)]) (N := nDist) (sc := scDistC) (by decide +kernel)) (fun _ _ _ _ _ => pg_name (i := 7) nd rfl (Or.inl rfl)) (fun _ _ _ _ _ => pts_nil)
              (fun _ _ _ _ _ => pe_cmp (pc_din hu1 (pv 7) (pv 3)))) pa_nil))))))) (fun _ _ _ _ _ => pv 5))))))
      (pss_one (ps_ret (pv 3)))))), ?_⟩
    intro D0 nD0
    have s1 : Same H (upd H D0 (.dK [])) := Same.new nD0
    have hD1 : (upd H D0 (.dK [])) D0 = some (.dK []) := upd_same
    generalize upd H D0 (.dK []) = H1 at s1 hD1 ⊢
    have hkl : kvs.length = (recvL rows).length := by
      have := congrArg List.length hT.tr.1
      rwa [List.length_map, List.length_map] at this
    have hrl := recvL_len rows
    have keyAt : ∀ {i : Nat} {k : Key} {v : V}, kvs[i]? = some (k, v) → ∃ m, (recvL rows)[i]? = some m ∧ k = Sum.inl m := fun {i k v} e => by
      have hir : i < (recvL rows).length := by rw [← hkl]; exact (List.getElem?_eq_some_iff.mp e).1
      have hm := List.getElem?_eq_getElem hir
      obtain ⟨t, s', r, p, kk, p', kk', a1, _⟩ := hT.tr.2 i _ hm
      rw [e] at a1
      cases a1
      exact ⟨_, hm, rfl⟩
    refine ⟨.ref D, rfl, D, od, rfl, .inl ⟨kvs, s1 _ _ hT.fz, fun E nE => ?_⟩⟩
    refine lc_it (walk_keys (d := D) (o := od) (kvs := kvs)) (fun i H' => Same H1 H' ∧ H' E = some (.lst ((((recvL rows).take i).filter (baseB rows u j)).map V.int))) ⟨Same.new nE, upd_same⟩ (fun i H' _ z => z.1 _ _ (s1 _ _ hT.fz))
      (fun i x H' H'' hi z y => ?_) (fun H2 z => ?_)
    · obtain ⟨rfl, k, v, hk, rfl⟩ := y
      obtain ⟨m, hm, rfl⟩ := keyAt hk
      have sm := s1.trans z.1
      have hT' := hT.same sm
      obtain ⟨t, s', r, p, kk, p', kk', a1, a2, a3, a4, a5, a6⟩ := hT'.at (List.mem_of_getElem? hm)
      have tW : ((recvL rows).take (i + 1)).filter (baseB rows u j) = ((recvL rows).take i).filter (baseB rows u j) ++ (if baseB rows u j m = true then [m] else []) := by
        rw [List.take_add_one, hm, List.filter_append]
        congr 1
        by_cases hp : baseB rows u j m = true
        · rw [if_pos hp]
          exact List.filter_cons_of_pos hp
        · rw [if_neg hp]
          exact List.filter_cons_of_neg hp
      have eb : baseB rows u j m = (decide (p' = u) && decide (kk' < j)) := by
        unfold baseB
        rw [a6]
      refine ⟨rfl, .ref D, rfl, .int m, rfl, D, _, rfl, .inl ⟨kvs, Sum.inl m, .inr ⟨od, hT'.fz⟩, rfl, a1.symm⟩, .ref b, rfl, t, s', r, b, p, kk, p', kk', u, j, rfl, a2, a3, a4, (TupK.of sm).1 _ _ hB, _, rfl, ?_⟩
      rw [← eb]
      refine ite2 (fun g => ?_) (fun g => ?_)
      · refine ⟨_, rfl, _, z.2, ?_, Same.put nE z.1, ?_⟩
        · rw [List.length_map]
          have := List.length_filter_le (baseB rows u j) ((recvL rows).take i)
          rw [List.length_take] at this
          exact small1000 (by omega)
        · rw [upd_same, tW, if_pos g, List.map_append]
          rfl
      · refine ⟨z.1, ?_⟩
        rw [tW, if_neg g, List.append_nil]
        exact z.2
    obtain ⟨s2, hE⟩ := z
    rw [hkl, List.take_length] at hE
    have hD2 := s2 _ _ hD1
    have s12 := s1.trans s2
    dsimp only [gName, tSeq]
    refine while_by (fun σ H' => ∃ (F0 : Addr) (cnt : Int) (dvs : List (Key × V)) (ks fs : List Int) (x5 x7 : Option V), σ = [some (.ref D), some (.ref S), some (.ref b), some (.ref D0), some (.int cnt), x5, some (.ref F0), x7] ∧ Same H H' ∧ H' D0 = some (.dK dvs) ∧ dvs.map (·.1) = ks.map Sum.inl ∧
        H' F0 = some (.lst (fs.map V.int)) ∧ Srch rows nx u j ks fs) (fun σ H' => match H' D0 with | some (.dK dvs) => 24 - dvs.length | _ => 0)
      ⟨E, _, [], [], _, _, _, rfl, s12, hD2, rfl, hE, Srch.start rows nx u j⟩ ?_ ?_
    · rintro σ H' ⟨F0, cnt, dvs, ks, fs, x5, x7, rfl, sm, hd, hks, hf, hsr⟩
      refine ⟨.ref F0, rfl, _, .inl ⟨_, SqL.of hf, rfl⟩, iteB (fun e => ?_) (fun e => ?_)⟩
      · have hlen := hsr.len
        have hkd : dvs.length = ks.length := by
          have := congrArg List.length hks
          rwa [List.length_map, List.length_map] at this
        have hf0 : 0 < fs.length := by
          cases fs with
          | nil => cases e
          | cons a r => exact Nat.succ_pos _
        have hmu : (match H' D0 with | some (.dK dvs) => 24 - dvs.length | _ => 0) = 24 - ks.length := by rw [hd]; show 24 - dvs.length = _; rw [hkd]
        rw [hmu]
        refine ⟨.ref F0, rfl, F0, rfl, ⟨_, SqL.of hf⟩, ?_⟩
        refine for_list (K := K) (a := F0) (xs := fs.map V.int) (fun i σ H2 => ∃ (dvs2 : List (Key × V)) (x5 : Option V), σ = [some (.ref D), some (.ref S), some (.ref b), some (.ref D0), some (.int cnt), x5, some (.ref F0), x7] ∧ Same H H2 ∧ H2 D0 = some (.dK dvs2) ∧ dvs2.map (·.1) = (ks ++ fs.take i).map Sum.inl ∧ H2 F0 = some (.lst (fs.map V.int)))
          ⟨dvs, x5, rfl, sm, hd, by rw [List.take_zero, List.append_nil]; exact hks, hf⟩ (fun i σ H2 _ ⟨_, _, _, _, _, _, z⟩ => SqL.of z) ?_ ?_
        · rintro i x σ H3 hx ⟨dvs2, y5, rfl, s3, hd3, hk3, hf3⟩
          obtain ⟨m, hm, rfl⟩ := of_at_map hx
          have hil := (List.getElem?_eq_some_iff.mp hm).1
          have hl3 : dvs2.length = ks.length + i := by
            have := congrArg List.length hk3
            rw [List.length_map, List.length_map, List.length_append, List.length_take] at this
            omega
          have hnew : valV dvs2 (Sum.inl m : Key) = none := by
            have h1 := key_in hk3 m
            have h2 : m ∉ ks ++ fs.take i := fun z => by
              have hnd := hsr.nd
              rcases List.mem_append.mp z with z | z
              · exact (List.nodup_append.mp hnd).2.2 m z m (List.mem_of_getElem? hm) rfl
              · obtain ⟨i2, hi2⟩ := List.getElem?_of_mem z
                have hi3 : i2 < i := by
                  have := (List.getElem?_eq_some_iff.mp hi2).1
                  rw [List.length_take] at this
                  omega
                rw [List.getElem?_take_of_lt hi3] at hi2
                have := nodup_at (List.nodup_append.mp hnd).2.1 hi2 hm
                omega
            rw [decide_eq_false h2] at h1
            cases q2 : valV dvs2 (Sum.inl m : Key) with
            | none => rfl
            | some y => rw [q2] at h1; cases h1
          refine ⟨.int cnt, rfl, .ref D0, rfl, .int m, rfl, D0, _, rfl, DPut.k (k := Sum.inl m) hd3 (small1000 (by omega)), ?_⟩
          refine ⟨_, _, rfl, Same.put nD0 s3, upd_same, ?_, ?_⟩
          · rw [putK_new _ hnew, List.map_append, hk3, List.take_add_one, hm, ← List.append_assoc, List.map_append (l₁ := ks ++ fs.take i)]
            rfl
          · rw [upd_ne (ne_of hf3 hd3 (by intro z; cases z))]
            exact hf3
        · rintro σ H3 ⟨dvs2, y5, rfl, s3, hd3, hk3, hf3⟩
          rw [List.length_map, List.take_length] at hk3
          refine ⟨_, rfl, _, _, rfl, rfl, ?_⟩
          have hT3 := hT.same s3
          have hG3 := hG.same s3
          refine ⟨.ref D, rfl, D, od, rfl, .inl ⟨kvs, hT3.fz, fun E2 nE2 => ?_⟩⟩
          have s3E : Same H (upd H3 E2 (.lst [])) := s3.trans (Same.new nE2)
          refine lc_it (walk_keys (d := D) (o := od) (kvs := kvs)) (fun i H' => Same H3 H' ∧ H' E2 = some (.lst ((((recvL rows).take i).filter fun m => !decide (m ∈ ks ++ fs) && ((nxL rows nx m).map fun t => decide (t ∈ ks ++ fs)).any id).map V.int))) ⟨Same.new nE2, upd_same⟩ (fun i H' _ z => z.1 _ _ hT3.fz)
            (fun i x H' H'' hi z y => ?_) (fun H4 z => ?_)
          · obtain ⟨rfl, k, v, hk, rfl⟩ := y
            obtain ⟨m, hm, rfl⟩ := keyAt hk
            have hdd := z.1 _ _ hd3
            have hmr := List.mem_of_getElem? hm
            have hSS := z.1 _ _ (s3 _ _ hS)
            obtain ⟨l, hl1, hl2⟩ := (hG3.same z.1).at hmr
            have tW : ((recvL rows).take (i + 1)).filter (fun m => !decide (m ∈ ks ++ fs) && ((nxL rows nx m).map fun t => decide (t ∈ ks ++ fs)).any id) = ((recvL rows).take i).filter (fun m => !decide (m ∈ ks ++ fs) && ((nxL rows nx m).map fun t => decide (t ∈ ks ++ fs)).any id) ++ (if (!decide (m ∈ ks ++ fs) && ((nxL rows nx m).map fun t => decide (t ∈ ks ++ fs)).any id) = true then [m] else []) := by
              rw [List.take_add_one, hm, List.filter_append]
              congr 1
              by_cases hp : (!decide (m ∈ ks ++ fs) && ((nxL rows nx m).map fun t => decide (t ∈ ks ++ fs)).any id) = true
              · rw [if_pos hp]
                exact List.filter_cons_of_pos hp
              · rw [if_neg hp]
                exact List.filter_cons_of_neg hp
            have stop : ∀ {b : Bool} {H5 : Hp}, b = false → b = (!decide (m ∈ ks ++ fs) && ((nxL rows nx m).map fun t => decide (t ∈ ks ++ fs)).any id) → Same H'' H5 → Same H3 H5 ∧ H5 E2 = some (.lst ((((recvL rows).take (i + 1)).filter fun m => !decide (m ∈ ks ++ fs) && ((nxL rows nx m).map fun t => decide (t ∈ ks ++ fs)).any id).map V.int)) := fun {b H5} e1 e2 s5 => by
              refine ⟨z.1.trans s5, ?_⟩
              rw [tW, ← e2, e1, if_neg Bool.false_ne_true, List.append_nil]
              exact s5 _ _ z.2
            refine ⟨rfl, .int m, rfl, .ref D0, rfl, D0, _, rfl, DGet.k (k := Sum.inl m) hdd, _, rfl, ?_⟩
            rw [key_in hk3 m]
            refine iteB (fun g1 => ?_) (fun g1 => ?_)
            · refine ⟨.ref S, rfl, .int m, rfl, S, _, rfl, .inl ⟨svs, Sum.inl m, .inr ⟨od2, hSS⟩, rfl, hl1.symm⟩, l, rfl, ⟨_, SqL.of hl2⟩, fun E3 nE3 => ?_⟩
              refine lc_list (K := K) (a := l) (xs := (nxL rows nx m).map V.int) (fun n H5 => Same H'' H5 ∧ H5 E3 = some (.lst ((((nxL rows nx m).map fun t => decide (t ∈ ks ++ fs)).take n).map V.bl))) ⟨Same.new nE3, upd_same⟩ (fun n H5 _ y => SqL.of (y.1 _ _ hl2)) (fun n x H5 hx y => ?_) (fun H5 y => ?_)
              · obtain ⟨t, ht, rfl⟩ := of_at_map hx
                refine ⟨rfl, yesT ⟨.int t, rfl, .ref D0, rfl, D0, _, rfl, DGet.k (k := Sum.inl t) (y.1 _ _ hdd), _, y.2, ?_, Same.put nE3 y.1, ?_⟩⟩
                · rw [List.length_map, List.length_take, List.length_map]
                  have := List.length_filter_le (nx m) (recvL rows)
                  unfold nxL
                  exact small1000 (by omega)
                · have e2 : ((nxL rows nx m).map fun t => decide (t ∈ ks ++ fs))[n]? = some (decide (t ∈ ks ++ fs)) := at_map ht
                  rw [upd_same, key_in hk3 t, List.take_add_one, e2, List.map_append]
                  rfl
              · obtain ⟨s5, hE5⟩ := y
                rw [List.length_map, List.take_of_length_le (by rw [List.length_map]; exact Nat.le_refl _)] at hE5
                refine ⟨E3, _, rfl, SqL.of hE5, _, rfl, ?_⟩
                have e5 : (((nxL rows nx m).map fun t => decide (t ∈ ks ++ fs)).any id) = (!decide (m ∈ ks ++ fs) && ((nxL rows nx m).map fun t => decide (t ∈ ks ++ fs)).any id) := by rw [g1, Bool.true_and]
                refine iteB (fun g2 => ?_) (fun g2 => stop g2 e5 s5)
                refine ⟨_, rfl, _, s5 _ _ z.2, ?_, Same.put nE2 (z.1.trans s5), ?_⟩
                · rw [List.length_map]
                  have := List.length_filter_le (fun m => !decide (m ∈ ks ++ fs) && ((nxL rows nx m).map fun t => decide (t ∈ ks ++ fs)).any id) ((recvL rows).take i)
                  rw [List.length_take] at this
                  exact small1000 (by omega)
                · rw [upd_same, tW, ← e5, g2, if_pos rfl, List.map_append]
                  rfl
            · exact stop g1 (by rw [g1, Bool.false_and]) (Same.refl _)
          · obtain ⟨s4, hE4⟩ := z
            rw [hkl, List.take_length] at hE4
            have hd4 := s4 _ _ hd3
            refine ⟨⟨E2, _, dvs2, ks ++ fs, newL rows nx (ks ++ fs), _, _, rfl, s3.trans s4, hd4, hk3, hE4, hsr.next⟩, ?_⟩
            have hl4 : dvs2.length = ks.length + fs.length := by
              have := congrArg List.length hk3
              rw [List.length_map, List.length_map, List.length_append] at this
              exact this
            rw [hd4]
            show 24 - dvs2.length < _
            omega
      · have hf0 : fs = [] := by
          cases fs with
          | nil => rfl
          | cons a r => cases e
        subst hf0
        refine ⟨.ref D0, rfl, q H' D0 dvs ks sm nD0 hd hks ?_ fun m => hsr.done⟩
        have := hsr.len
        omega
    · rintro σ H' Q1 Q2 hQ ⟨v, e, k, t, h⟩
      exact ⟨v, e, k, t, hQ _ _ h⟩
end

end Sv

namespace Sv
open PySem PySem.Spec PyProof.Rows L2
/-! ### the first states apart; the vector -/
abbrev sApart : Stmt := topS 10
abbrev nApart : List Str := ["history", "trips", "steps", "state", "numbers", "message", "sender", "interval", "row"]
theorem scApart : FnScope nApart ["history", "trips", "steps", "state"] (defScope sApart) := ⟨rfl, rfl, rfl, by decide +kernel, rfl, by decide +kernel, by decide +kernel⟩
abbrev sVecBy : Stmt := topS 11
abbrev nVecBy : List Str := ["history", "trips", "steps", "state", "process", "number", "numbers"]
theorem scVecBy : FnScope nVecBy ["history", "trips", "steps", "state"] (defScope sVecBy) := ⟨rfl, rfl, rfl, by decide +kernel, rfl, by decide +kernel, by decide +kernel⟩
def nV (ns : List Nat) : List V := ns.map fun n : Nat => V.int (n : Int)
def ApartK (rows : List (List Int)) (ks : List Int) (ns : List Nat) : Prop := ns.length = rows.length ∧ ∀ p n, ns[p]? = some n → ∀ i, i < n ↔ ∃ m k, m ∈ ks ∧ hap rows m = some (p, k) ∧ i ≤ k
def Apart (rows : List (List Int)) (nx : Int → Int → Bool) (q j : Nat) (ns : List Nat) : Prop := ns.length = rows.length ∧ ∀ p n, ns[p]? = some n → ∀ i, i < n ↔ ∃ m k, Way rows nx q j m ∧ hap rows m = some (p, k) ∧ i ≤ k
theorem ApartK.step {rows : List (List Int)} {ks : List Int} {ns : List Nat} (h : ApartK rows ks ns) {m : Int} {p k n : Nat} (hm : hap rows m = some (p, k)) (hn : ns[p]? = some n) : ApartK rows (ks ++ [m]) (ns.set p (max n (k + 1))) := by
  refine ⟨by rw [List.length_set]; exact h.1, fun p' n' hp' i => ?_⟩
  rw [List.getElem?_set] at hp'
  by_cases e : p = p'
  · subst e
    have hl := (List.getElem?_eq_some_iff.mp hn).1
    rw [if_pos rfl, if_pos hl] at hp'
    cases hp'
    have h1 := h.2 p n hn i
    constructor
    · intro hi
      by_cases hin : i < n
      · obtain ⟨m', k', a1, a2, a3⟩ := h1.mp hin
        exact ⟨m', k', List.mem_append_left _ a1, a2, a3⟩
      · exact ⟨m, k, List.mem_append_right _ List.mem_cons_self, hm, by omega⟩
    · rintro ⟨m', k', a1, a2, a3⟩
      rcases List.mem_append.mp a1 with a1 | a1
      · have := h1.mpr ⟨m', k', a1, a2, a3⟩
        omega
      · rw [List.mem_singleton] at a1
        subst a1
        rw [hm] at a2
        cases a2
        omega
  · rw [if_neg e] at hp'
    rw [h.2 p' n' hp' i]
    constructor
    · rintro ⟨m', k', a1, a2, a3⟩
      exact ⟨m', k', List.mem_append_left _ a1, a2, a3⟩
    · rintro ⟨m', k', a1, a2, a3⟩
      rcases List.mem_append.mp a1 with a1 | a1
      · exact ⟨m', k', a1, a2, a3⟩
      · rw [List.mem_singleton] at a1
        subst a1
        rw [hm] at a2
        cases a2
        exact absurd rfl e
theorem hap_row {rows : List (List Int)} {m : Int} {p k : Nat} (h : hap rows m = some (p, k)) : p < rows.length := by
  rcases spot_hap (e := m) (rs := rows) (p := 0) with ⟨_, z⟩ | ⟨j, row, z1, _, _, z4⟩
  · unfold hap at h
    rw [z] at h
    cases h
  · unfold hap at h
    rw [z4] at h
    cases h
    have := (List.getElem?_eq_some_iff.mp z1).1
    omega
def spApart (K : PySem.W.Frag) : Sp := fun vs H Q _ => ∃ (a D S b : Addr) (od od2 : Obj) (kvs svs : List (Key × V)) (refs : List Addr) (rows : List (List Int)) (nx : Int → Int → Bool) (q j : Nat), vs = [.ref a, .ref D, .ref S, .ref b] ∧ SqT K H a (refs.map V.ref) ∧ refs.length = rows.length ∧ rows.length ≤ 1000 ∧ TripF H D od kvs rows ∧ H S = some (.frz od2 (.dK svs)) ∧ StepG H svs rows nx ∧
  SqT K H b [.int q, .int j] ∧ ∀ (H' : Hp) (R : Addr) (ns : List Nat), Same H H' → H R = none → H' R = some (.lst (nV ns)) → Apart rows nx q j ns → Q (.ref R) H'
def spVecBy (K : PySem.W.Frag) : Sp := fun vs H Q _ => ∃ (a D S b : Addr) (od od2 : Obj) (kvs svs : List (Key × V)) (refs : List Addr) (rows : List (List Int)) (nx : Int → Int → Bool) (q j : Nat), vs = [.ref a, .ref D, .ref S, .ref b] ∧ SqT K H a (refs.map V.ref) ∧ refs.length = rows.length ∧ rows.length ≤ 1000 ∧ q < rows.length ∧ TripF H D od kvs rows ∧ H S = some (.frz od2 (.dK svs)) ∧ StepG H svs rows nx ∧
  SqT K H b [.int q, .int j] ∧ ∀ (H' : Hp) (R : Addr) (ns : List Nat), Same H H' → H' R = some (.tup (nV (ns.set q j))) → Apart rows nx q j ns → Q (.ref R) H'
section
variable {P : Program} {w : World} {K : PySem.W.Frag} {mg : Str → Option Value} {base : Heap}
theorem ok_apart {f fD fR : Addr} {fd fdD fdR : FuncData} (F : Fun K "first_apart" "first_apart" sApart f fd) (FD : Fun K "distances_to" "distances_to" sDist fD fdD) (bD : Binds K fdD ["trips", "steps", "state"] []) (gD : mg "distances_to" = some (.ref fD))
    (FR : Fun K "is_received_before" "is_received_before" sRB fR fdR) (bR : Binds K fdR ["trip", "state"] []) (gR : mg "is_received_before" = some (.ref fR)) (man : mg "any" = none) (mma : mg "max" = none) :
    FnOk P w K mg base CX0 3 f fd ["history", "trips", "steps", "state"] (spApart K) := by
  have GD : FnOk P w K mg base CX0 2 fD fdD ["trips", "steps", "state"] (spDist K) := ok_dist FD FR bR gR man
  refine F.ok scApart (fun vs H Q E h => ?_) (fun cdv A outer s H vs Q E hr h => ?_)
  · obtain ⟨a, D, S, b, od, od2, kvs, svs, refs, rows, nx, u, j, rfl, _⟩ := h
    rfl
  · obtain ⟨a, D, S, b, od, od2, kvs, svs, refs, rows, nx, u, j, rfl, hA, hrl, h6, hT, hS, hG, hB, q⟩ := h
    have nd := scApart.nd
    have hu1 := hu_of hr
    refine ⟨_, pss_cons (ps_setLc (i := 4) (own := [("row", 8)]) (g := gName 8) (by rfl) nd rfl rfl (sw_true rfl rfl rfl (by decide +kernel)) (pi_tup (pv 0))
        (blkOk_by (own := [("row", 8)]) (N := nApart) (sc := defScope sApart) (by decide +kernel)) (fun _ _ _ _ _ => pg_name (i := 8) nd rfl (Or.inl rfl)) (fun _ _ _ _ _ => pts_nil) (fun _ _ _ _ _ => pe_int))
      (pss_cons (ps_for PassesOwn.never rfl (pi_keys (pe_frz (pe_call GD hr (by rfl) gD FD.kp bD .nil pass0 (pa_cons (pv 1) (pa_cons (pv 2) (pa_cons (pv 3) pa_nil)))))) (pg_name (i := 5) nd rfl (.inl rfl))
        (pss_cons (ps_asg (pe_ix ix_tup (pe_dget hu1 (pv 1) (pv 5) (fun _ _ => rfl)) pe_int (fun _ _ => rfl)) (pg_tup rfl (pgs_cons (pg_name (i := 6) nd rfl (.inl rfl)) (pgs_cons (pg_name (i := 7) nd rfl (.inl rfl)) pgs_nil))))
        (pss_one (ps_asg (pe_callB (call_max2 rfl) (by rfl) mma (by decide +kernel) (pa_cons (pe_ix ix_list (pv 4) (pv 6) (fun _ _ => rfl)) (pa_cons (pe_op op_add (pv 7) pe_int) pa_nil))) (pg_sub (pv 4) (pv 6) set_list)))))
      (pss_one (ps_ret (pv 4)))), ?_⟩
    refine ⟨.ref a, rfl, a, rfl, ⟨_, hA⟩, fun E nE => ?_⟩
    refine lc_it (walk_tup (K := K) (a := a) (xs := refs.map V.ref)) (fun i H' => Same H H' ∧ H' E = some (.lst (nV (List.replicate i 0)))) ⟨Same.new nE, upd_same⟩ (fun i H' _ z => (TupK.of z.1).1 _ _ hA)
      (fun i x H' H'' hi z y => ?_) (fun H1 z => ?_)
    · obtain ⟨rfl, _⟩ := y
      rw [List.length_map] at hi
      refine ⟨rfl, yesT ⟨_, z.2, ?_, Same.put nE z.1, ?_⟩⟩
      · rw [nV, List.length_map, List.length_replicate]
        exact small1000 (by omega)
      · rw [upd_same, List.replicate_succ', nV, nV, List.map_append]
        rfl
    obtain ⟨s1, hE⟩ := z
    rw [List.length_map, hrl] at hE
    refine ⟨.ref D, rfl, .ref S, rfl, .ref b, rfl, D, S, b, od, od2, kvs, svs, rows, nx, u, j, rfl, hT.same s1, s1 _ _ hS, hG.same s1, (TupK.of s1).1 _ _ hB, fun H2 R dvs ks s2 nR hR hks hkl hway => ?_⟩
    refine ⟨R, _, rfl, hR, trivial, fun oR => ?_⟩
    have sR : Same H1 (upd H2 R (.frz oR (.dK dvs))) := Same.put nR s2
    have hRf : (upd H2 R (.frz oR (.dK dvs))) R = some (.frz oR (.dK dvs)) := upd_same
    generalize upd H2 R (.frz oR (.dK dvs)) = H3 at sR hRf ⊢
    have s3 := s1.trans sR
    have hE3 := sR _ _ hE
    have hdl : dvs.length = ks.length := by
      have := congrArg List.length hks
      rwa [List.length_map, List.length_map] at this
    refine ⟨R, oR, rfl, .inl ⟨dvs, hRf, ?_⟩⟩
    refine for_it (walk_keys (d := R) (o := oR) (kvs := dvs)) (fun i σ H' => ∃ (ns : List Nat) (x5 x6 x7 x8 : Option V), σ = [some (.ref a), some (.ref D), some (.ref S), some (.ref b), some (.ref E), x5, x6, x7, x8] ∧ Same H H' ∧ H' R = some (.frz oR (.dK dvs)) ∧ H' E = some (.lst (nV ns)) ∧ ApartK rows (ks.take i) ns)
      ⟨_, _, _, _, _, rfl, s3, hRf, hE3, List.length_replicate, fun p n hp i => ?_⟩ (fun i σ H' _ ⟨_, _, _, _, _, _, _, z, _⟩ => z) ?_ ?_
    · have e0 : n = 0 := (List.mem_replicate.mp (List.mem_of_getElem? hp)).2
      subst e0
      refine ⟨fun z => absurd z (Nat.not_lt_zero _), ?_⟩
      rintro ⟨m, k, z, _⟩
      rw [List.take_zero] at z
      cases z
    · rintro i x σ H4 H5 hi ⟨ns, x5, x6, x7, x8, rfl, s4, hR4, hE4, hap4⟩ ⟨rfl, k, v, hk, rfl⟩
      have hik : i < ks.length := by omega
      have hm := List.getElem?_eq_getElem hik
      generalize ks[i] = m at hm
      obtain rfl : k = Sum.inl m := by
        have h1 : (dvs.map (·.1))[i]? = some k := at_map hk
        rw [hks, at_map hm] at h1
        exact (Option.some.inj h1).symm
      have hmr := ((hway m).mp (List.mem_of_getElem? hm)).mem
      have hT4 := hT.same s4
      obtain ⟨t, s', r, p, kk, p', kk', a1, a2, a3, a4, a5, a6⟩ := hT4.at hmr
      have hp := hap_row a5
      have hpn : p < ns.length := by rw [hap4.1]; exact hp
      have hn := List.getElem?_eq_getElem hpn
      generalize ns[p] = n at hn
      refine ⟨.ref D, rfl, .int m, rfl, D, _, rfl, .inl ⟨kvs, Sum.inl m, .inr ⟨od, hT4.fz⟩, rfl, a1.symm⟩, t, _, 0, .ref s', rfl, rfl, .inl (.inl a2), rfl, s', _, rfl, .inl (.inl a3), rfl, _, _, rfl, _, _, rfl, rfl, ?_⟩
      refine ⟨.ref E, rfl, .int p, rfl, E, _, p, .int n, rfl, rfl, SqL.of hE4, atI_nat (by rw [nV, List.getElem?_map, hn]; rfl), .int kk, rfl, _, _, rfl, rfl, _, _, rfl, ?_⟩
      refine ⟨.ref E, rfl, .int p, rfl, E, _, p, p, rfl, rfl, hE4, ixn (by rw [nV, List.length_map]; exact hpn), ?_⟩
      have e1 : (if ((kk : Int) + 1) > (n : Int) then (kk : Int) + 1 else (n : Int)) = ((max n (kk + 1) : Nat) : Int) := by
        by_cases z : (kk : Int) + 1 > (n : Int)
        · rw [if_pos z]
          omega
        · rw [if_neg z]
          omega
      have hRE : E ≠ R := ne_of hE4 hR4 (by intro z; cases z)
      refine ⟨ns.set p (max n (kk + 1)), _, _, _, _, rfl, Same.put nE s4, by rw [upd_ne hRE.symm]; exact hR4, ?_, ?_⟩
      · rw [upd_same, e1]
        unfold nV
        rw [List.map_set]
      · rw [List.take_add_one, hm]
        exact hap4.step a5 hn
    · rintro σ H4 ⟨ns, x5, x6, x7, x8, rfl, s4, hR4, hE4, hap4⟩
      rw [hdl, List.take_length] at hap4
      refine ⟨.ref E, rfl, q H4 E ns s4 nE hE4 ⟨hap4.1, fun p n hp i => (hap4.2 p n hp i).trans ⟨?_, ?_⟩⟩⟩
      · rintro ⟨m, k, z, r⟩
        exact ⟨m, k, (hway m).mp z, r⟩
      · rintro ⟨m, k, z, r⟩
        exact ⟨m, k, (hway m).mpr z, r⟩
theorem ok_vecby {f fA fD fR : Addr} {fd fdA fdD fdR : FuncData} (F : Fun K "vector_by" "vector_by" sVecBy f fd) (FA : Fun K "first_apart" "first_apart" sApart fA fdA) (bA : Binds K fdA ["history", "trips", "steps", "state"] []) (gA : mg "first_apart" = some (.ref fA))
    (FD : Fun K "distances_to" "distances_to" sDist fD fdD) (bD : Binds K fdD ["trips", "steps", "state"] []) (gD : mg "distances_to" = some (.ref fD))
    (FR : Fun K "is_received_before" "is_received_before" sRB fR fdR) (bR : Binds K fdR ["trip", "state"] []) (gR : mg "is_received_before" = some (.ref fR)) (man : mg "any" = none) (mma : mg "max" = none) (mtu : mg "tuple" = none) :
    FnOk P w K mg base CX0 4 f fd ["history", "trips", "steps", "state"] (spVecBy K) := by
  have GA : FnOk P w K mg base CX0 3 fA fdA ["history", "trips", "steps", "state"] (spApart K) := ok_apart FA FD bD gD FR bR gR man mma
  refine F.ok scVecBy (fun vs H Q E h => ?_) (fun cdv A outer s H vs Q E hr h => ?_)
  · obtain ⟨a, D, S, b, od, od2, kvs, svs, refs, rows, nx, u, j, rfl, _⟩ := h
    rfl
  · obtain ⟨a, D, S, b, od, od2, kvs, svs, refs, rows, nx, u, j, rfl, hA, hrl, h6, hu, hT, hS, hG, hB, q⟩ := h
    have nd := scVecBy.nd
    refine ⟨_, pss_cons (ps_asg (pv 3) (pg_tup rfl (pgs_cons (pg_name (i := 4) nd rfl (.inl rfl)) (pgs_cons (pg_name (i := 5) nd rfl (.inl rfl)) pgs_nil))))
      (pss_cons (ps_set (i := 6) nd rfl (.inl rfl) (pe_call GA hr (by rfl) gA FA.kp bA .nil pass0 (pa_cons (pv 0) (pa_cons (pv 1) (pa_cons (pv 2) (pa_cons (pv 3) pa_nil))))))
      (pss_one (ps_ret (pe_callTy call_tuple_of (by rfl) mtu (by decide +kernel) (pa_cons (pe_op op_cat (pe_op op_cat (pe_slice sl_list (pv 6) po_none (po_some (pv 4))) (pe_lst (pa_cons (pv 5) pa_nil))) (pe_slice sl_list (pv 6) (po_some (pe_op op_add (pv 4) pe_int)) po_none)) pa_nil))))), ?_⟩
    refine ⟨.ref b, rfl, b, _, rfl, hB, rfl, _, _, rfl, _, _, rfl, rfl, ?_⟩
    refine ⟨.ref a, rfl, .ref D, rfl, .ref S, rfl, .ref b, rfl, a, D, S, b, od, od2, kvs, svs, refs, rows, nx, u, j, rfl, hA, hrl, h6, hT, hS, hG, hB, fun H1 R ns s1 nR hR hap => ?_⟩
    have hul : u < ns.length := by rw [hap.1]; exact hu
    have hn6 : ns.length ≤ 1000 := by rw [hap.1]; exact h6
    have hnl : (nV ns).length = ns.length := List.length_map _
    refine ⟨.ref R, rfl, .int u, rfl, u, rfl, ?_⟩
    dsimp only [tNoPart]
    refine ⟨R, _, rfl, SqL.of hR, fun p1 np1 => ?_⟩
    have e1 : cutV (nV ns) none (some (u : Int)) = nV (ns.take u) := by rw [cut_to (by rw [hnl]; omega), nV, nV, List.map_take]
    have e2 : cutV (nV ns) (some ((u : Int) + 1)) none = nV (ns.drop (u + 1)) := by
      rw [show ((u : Int) + 1) = ((u + 1 : Nat) : Int) by omega, cut_from (by rw [hnl]; omega), nV, nV, List.map_drop]
    rw [e1]
    have s2 := s1.trans (Same.new (o := .lst (nV (ns.take u))) np1)
    have hR2 := Same.new (o := .lst (nV (ns.take u))) np1 _ _ hR
    have h21 : (upd H1 p1 (.lst (nV (ns.take u)))) p1 = some (.lst (nV (ns.take u))) := upd_same
    generalize upd H1 p1 (.lst (nV (ns.take u))) = H2 at s2 hR2 h21 ⊢
    refine ⟨.int j, rfl, sz (by simp), fun p2 np2 => ?_⟩
    have s3 := s2.trans (Same.new (o := .lst [.int j]) np2)
    have hR3 := Same.new (o := .lst [.int j]) np2 _ _ hR2
    have h31 := Same.new (o := .lst [.int j]) np2 _ _ h21
    have h32 : (upd H2 p2 (.lst [.int j])) p2 = some (.lst [.int j]) := upd_same
    generalize upd H2 p2 (.lst [.int j]) = H3 at s3 hR3 h31 h32 ⊢
    refine ⟨p1, p2, _, _, rfl, rfl, h31, h32, ?_, fun p3 np3 => ?_⟩
    · rw [nV, List.length_map, List.length_take]
      exact sz (by simp; omega)
    have s4 := s3.trans (Same.new (o := .lst (nV (ns.take u) ++ [.int j])) np3)
    have hR4 := Same.new (o := .lst (nV (ns.take u) ++ [.int j])) np3 _ _ hR3
    have h43 : (upd H3 p3 (.lst (nV (ns.take u) ++ [.int j]))) p3 = some (.lst (nV (ns.take u) ++ [.int j])) := upd_same
    generalize upd H3 p3 (.lst (nV (ns.take u) ++ [.int j])) = H4 at s4 hR4 h43 ⊢
    refine ⟨.ref R, rfl, .int u, rfl, _, _, rfl, rfl, _, rfl, ?_⟩
    dsimp only [tNoPart]
    refine ⟨R, _, rfl, SqL.of hR4, fun p4 np4 => ?_⟩
    rw [e2]
    have s5 := s4.trans (Same.new (o := .lst (nV (ns.drop (u + 1)))) np4)
    have h53 := Same.new (o := .lst (nV (ns.drop (u + 1)))) np4 _ _ h43
    have h54 : (upd H4 p4 (.lst (nV (ns.drop (u + 1))))) p4 = some (.lst (nV (ns.drop (u + 1)))) := upd_same
    generalize upd H4 p4 (.lst (nV (ns.drop (u + 1)))) = H5 at s5 h53 h54 ⊢
    refine ⟨p3, p4, _, _, rfl, rfl, h53, h54, ?_, fun p5 np5 => ?_⟩
    · rw [nV, nV, List.length_append, List.length_map, List.length_take, List.length_map, List.length_drop]
      exact sz (by simp; omega)
    have e3 : nV (ns.take u) ++ [V.int j] ++ nV (ns.drop (u + 1)) = nV (ns.set u j) := by
      rw [List.set_eq_take_append_cons_drop, if_pos hul]
      unfold nV
      rw [List.map_append, List.append_assoc]
      rfl
    rw [e3]
    have s6 := s5.trans (Same.new (o := .lst (nV (ns.set u j))) np5)
    have h65 : (upd H5 p5 (.lst (nV (ns.set u j)))) p5 = some (.lst (nV (ns.set u j))) := upd_same
    generalize upd H5 p5 (.lst (nV (ns.set u j))) = H6 at s6 h65 ⊢
    exact ⟨p5, _, rfl, .inl ⟨SqL.of h65, fun T nT => q _ T ns (s6.trans (Same.new nT)) upd_same hap⟩⟩
end

end Sv

namespace Sv
open PySem PySem.Spec PyProof.Rows L2
/-! ### the vector of a state; which state comes before another -/
abbrev sVecOf : Stmt := topS 12
abbrev nVecOf : List Str := ["history", "state", "trips"]
theorem scVecOf : FnScope nVecOf ["history", "state"] (defScope sVecOf) := ⟨rfl, rfl, rfl, by decide +kernel, rfl, by decide +kernel, by decide +kernel⟩
theorem Trips.frz {H : Hp} {kvs kvs' : List (Key × V)} {ms : List Int} {rows : List (List Int)} {D : Addr} {u : HO} (h : Trips H kvs ms rows) (hD : H D = some (.dK kvs')) : Trips (upd H D u) kvs ms rows := ⟨h.1, fun i m hm => by
  obtain ⟨t, s, r, p, k, p', k', a1, a2, a3, a4, a5⟩ := h.2 i m hm
  have up : ∀ {c : Addr} {xs : List V}, H c = some (.tup xs) → (upd H D u) c = some (.tup xs) := fun {c xs} q => by rw [upd_ne (ne_of q hD (by intro z; cases z))]; exact q
  exact ⟨t, s, r, p, k, p', k', a1, up a2, up a3, up a4, a5⟩⟩
theorem StepG.frz {H : Hp} {kvs kvs' : List (Key × V)} {rows : List (List Int)} {nx : Int → Int → Bool} {D : Addr} {u : HO} (h : StepG H kvs rows nx) (hD : H D = some (.dK kvs')) : StepG (upd H D u) kvs rows nx := ⟨h.ks, fun i m hm => by
  obtain ⟨l, h1, h2⟩ := h.va i m hm
  exact ⟨l, h1, by rw [upd_ne (ne_of h2 hD (by intro z; cases z))]; exact h2⟩⟩
def spVecOf (K : PySem.W.Frag) : Sp := fun vs H Q _ => ∃ (a b : Addr) (refs : List Addr) (rows : List (List Int)) (many most q j : Nat), vs = [.ref a, .ref b] ∧ SqT K H a (refs.map V.ref) ∧ Rows K H refs rows ∧ Good many most rows ∧ many ≤ 6 ∧ most ≤ 60 ∧ q < rows.length ∧ SqT K H b [.int q, .int j] ∧
  ∀ (H' : Hp) (R : Addr) (ns : List Nat), Same H H' → H' R = some (.tup (nV (ns.set q j))) → Apart rows (firstB rows) q j ns → Q (.ref R) H'
/-- the state (p, i) comes before (q, j) -/
def Comes (rows : List (List Int)) (p i q j : Nat) : Prop := (p = q ∧ i < j) ∨ (p ≠ q ∧ ∃ m k, Way rows (firstB rows) q j m ∧ hap rows m = some (p, k) ∧ i ≤ k)
theorem Apart.at {rows : List (List Int)} {q j p i : Nat} {ns : List Nat} (h : Apart rows (firstB rows) q j ns) (hp : p < rows.length) (hq : q < rows.length) : ∃ n, (ns.set q j)[p]? = some n ∧ (i < n ↔ Comes rows p i q j) := by
  unfold Comes
  by_cases e : p = q
  · subst e
    refine ⟨j, by rw [List.getElem?_set_self (by rw [h.1]; exact hp)], ?_⟩
    constructor
    · exact fun z => .inl ⟨rfl, z⟩
    · rintro (⟨_, z⟩ | ⟨z, _⟩)
      · exact z
      · exact absurd rfl z
  · have hpn : p < ns.length := by rw [h.1]; exact hp
    refine ⟨ns[p], by rw [List.getElem?_set_ne (fun z => e z.symm)]; exact List.getElem?_eq_getElem hpn, ?_⟩
    rw [h.2 p _ (List.getElem?_eq_getElem hpn) i]
    constructor
    · exact fun z => .inr ⟨e, z⟩
    · rintro (⟨z, _⟩ | ⟨_, z⟩)
      · exact absurd z e
      · exact z
section
variable {P : Program} {w : World} {K : PySem.W.Frag} {mg : Str → Option Value} {base : Heap}
theorem ok_vecof {f fT fH fS fF fV fA fD fR : Addr} {fd fdT fdH fdS fdF fdV fdA fdD fdR : FuncData} (F : Fun K "vector_of" "vector_of" sVecOf f fd)
    (FT : Fun K "trips_of" "trips_of" sTrips fT fdT) (bT : Binds K fdT ["history"] []) (gT : mg "trips_of" = some (.ref fT)) (FH : Fun K "happened_at" "happened_at" sHap fH fdH) (bH : Binds K fdH ["history", "event"] []) (gH : mg "happened_at" = some (.ref fH))
    (FS : Fun K "causal_steps" "causal_steps" sSteps fS fdS) (bS : Binds K fdS ["history", "trips"] []) (gS : mg "causal_steps" = some (.ref fS)) (FF : Fun K "is_received_first" "is_received_first" sFirst fF fdF) (bF : Binds K fdF ["history", "message", "then"] []) (gF : mg "is_received_first" = some (.ref fF))
    (FV : Fun K "vector_by" "vector_by" sVecBy fV fdV) (bV : Binds K fdV ["history", "trips", "steps", "state"] []) (gV : mg "vector_by" = some (.ref fV))
    (FA : Fun K "first_apart" "first_apart" sApart fA fdA) (bA : Binds K fdA ["history", "trips", "steps", "state"] []) (gA : mg "first_apart" = some (.ref fA))
    (FD : Fun K "distances_to" "distances_to" sDist fD fdD) (bD : Binds K fdD ["trips", "steps", "state"] []) (gD : mg "distances_to" = some (.ref fD))
    (FR : Fun K "is_received_before" "is_received_before" sRB fR fdR) (bR : Binds K fdR ["trip", "state"] []) (gR : mg "is_received_before" = some (.ref fR)) (man : mg "any" = none) (mma : mg "max" = none) (mtu : mg "tuple" = none) (men : mg "enumerate" = none) (mso : mg "sorted" = none) :
    FnOk P w K mg base CX0 5 f fd ["history", "state"] (spVecOf K) := by
  have GT : FnOk P w K mg base CX0 2 fT fdT ["history"] (spTrips K) := ok_trips FT FH bH gH men mso
  have GS : FnOk P w K mg base CX0 2 fS fdS ["history", "trips"] (spSteps K) := ok_steps FS FF bF gF man
  have GV : FnOk P w K mg base CX0 4 fV fdV ["history", "trips", "steps", "state"] (spVecBy K) := ok_vecby FV FA bA gA FD bD gD FR bR gR man mma mtu
  refine F.ok scVecOf (fun vs H Q E h => ?_) (fun cdv A outer s H vs Q E hr h => ?_)
  · obtain ⟨a, b, refs, rows, many, most, u, j, rfl, _⟩ := h
    rfl
  · obtain ⟨a, b, refs, rows, many, most, u, j, rfl, hA, hR, hG, hm6, hm60, hu, hB, q⟩ := h
    have nd := scVecOf.nd
    have hr2 : Room 2 _ := hr.mono (by decide)
    refine ⟨_, pss_cons (ps_set (i := 2) nd rfl (.inl rfl) (pe_frz (pe_call GT hr2 (by rfl) gT FT.kp bT .nil pass0 (pa_cons (pv 0) pa_nil))))
      (pss_one (ps_ret (pe_call GV hr (by rfl) gV FV.kp bV .nil pass0 (pa_cons (pv 0) (pa_cons (pv 2) (pa_cons (pe_frz (pe_call GS hr2 (by rfl) gS FS.kp bS .nil pass0 (pa_cons (pv 0) (pa_cons (pv 2) pa_nil)))) (pa_cons (pv 1) pa_nil))))))), ?_⟩
    refine ⟨.ref a, rfl, a, refs, rows, many, most, rfl, hA, hR, hG, hm6, hm60, fun H1 D kvs s1 nD hD hT => ?_⟩
    refine ⟨D, _, rfl, hD, trivial, fun od => ?_⟩
    have s2 : Same H (upd H1 D (.frz od (.dK kvs))) := Same.put nD s1
    have hT2 : TripF (upd H1 D (.frz od (.dK kvs))) D od kvs rows := ⟨upd_same, hT.frz hD⟩
    show gName 2 (V.ref D) _ (upd H1 D (.frz od (.dK kvs))) _
    generalize upd H1 D (.frz od (.dK kvs)) = H2 at s2 hT2 ⊢
    have k2 : TupK K H H2 := .of s2
    refine ⟨.ref a, rfl, .ref D, rfl, .ref a, rfl, .ref D, rfl, a, D, od, kvs, refs, rows, many, most, rfl, k2.1 _ _ hA, hR.keep k2, hG, hm6, hm60, hT2, fun H3 S svs s3 nS hS hK => ?_⟩
    refine ⟨S, _, rfl, hS, trivial, fun od2 => ?_⟩
    have s4 : Same H2 (upd H3 S (.frz od2 (.dK svs))) := Same.put nS s3
    have hK4 : StepG (upd H3 S (.frz od2 (.dK svs))) svs rows (firstB rows) := hK.g.frz hS
    have hS4 : (upd H3 S (.frz od2 (.dK svs))) S = some (.frz od2 (.dK svs)) := upd_same
    generalize upd H3 S (.frz od2 (.dK svs)) = H4 at s4 hK4 hS4 ⊢
    have s24 := s2.trans s4
    have hl := hG.len
    exact ⟨.ref b, rfl, a, D, S, b, od, od2, kvs, svs, refs, rows, firstB rows, u, j, rfl, (TupK.of s24).1 _ _ hA, hR.1, by omega, hu, hT2.same s4, hS4, hK4, (TupK.of s24).1 _ _ hB, fun H5 R ns s5 hRR hap => q H5 R ns (s24.trans s5) hRR hap⟩
end

end Sv

namespace Sv
open PySem PySem.Spec PyProof.Rows L2
/-! ### states of a row -/
def zerU (n : Nat) (row : List Int) : List Int := ((List.range n).filter fun j => decide (row[j]? = some 0)).map fun (j : Nat) => (j : Int)
def places (row : List Int) : List Int := 0 :: (zerU row.length row ++ [(row.length : Int)])
theorem zerU_succ (n : Nat) (row : List Int) : zerU (n + 1) row = zerU n row ++ (if row[n]? = some 0 then [(n : Int)] else []) := by
  unfold zerU
  rw [List.range_succ, List.filter_append, List.map_append]
  congr 1
  by_cases h : row[n]? = some 0
  · rw [if_pos h, List.filter_cons_of_pos (by rw [h]; rfl)]
    rfl
  · rw [if_neg h, List.filter_cons_of_neg (by rw [decide_eq_false h]; exact Bool.false_ne_true)]
    rfl
theorem zerU_len (row : List Int) : ∀ n, n ≤ row.length → (zerU n row).length = (row.take n).count 0
  | 0, _ => by simp [zerU]
  | n + 1, h => by
    rw [zerU_succ, List.length_append, zerU_len row n (by omega), List.take_add_one, List.count_append]
    congr 1
    have e := List.getElem?_eq_getElem (show n < row.length by omega)
    rw [e]
    by_cases h0 : row[n] = 0
    · rw [if_pos (by rw [h0]), h0]
      rfl
    · rw [if_neg (fun z => h0 (Option.some.inj z))]
      simp [h0]
theorem zerU_mem {n : Nat} {row : List Int} {x : Int} (h : x ∈ zerU n row) : 0 ≤ x ∧ x < n := by
  unfold zerU at h
  obtain ⟨j, hj, rfl⟩ := List.mem_map.mp h
  have := List.mem_range.mp (List.mem_filter.mp hj).1
  omega
theorem zerU_sorted (n : Nat) (row : List Int) : (zerU n row).Pairwise (· ≤ ·) := by
  unfold zerU
  rw [List.pairwise_map]
  refine ((List.pairwise_lt_range (n := n)).filter _).imp ?_
  intro a b h
  omega
theorem places_len (row : List Int) : (places row).length = row.count 0 + 2 := by
  unfold places
  rw [List.length_cons, List.length_append, zerU_len row row.length (Nat.le_refl _), List.take_length, List.length_singleton]
theorem places_sorted (row : List Int) : (places row).Pairwise (· ≤ ·) := by
  unfold places
  refine List.pairwise_cons.mpr ⟨fun x hx => ?_, List.pairwise_append.mpr ⟨zerU_sorted _ _, List.pairwise_singleton _ _, fun x hx y hy => ?_⟩⟩
  · rcases List.mem_append.mp hx with h | h
    · exact (zerU_mem h).1
    · rw [List.mem_singleton.mp h]
      exact Int.natCast_nonneg _
  · rw [List.mem_singleton.mp hy]
    exact Int.le_of_lt (zerU_mem hx).2
theorem places_mem {row : List Int} {x : Int} (h : x ∈ places row) : 0 ≤ x ∧ x ≤ row.length := by
  rcases List.mem_cons.mp h with rfl | h
  · omega
  · rcases List.mem_append.mp h with h | h
    · have := zerU_mem h
      omega
    · rw [List.mem_singleton.mp h]
      omega
theorem count_le_len (row : List Int) : row.count 0 ≤ row.length := List.count_le_length ..
/-! ### an event between two places -/
theorem zerU_split (n : Nat) (row : List Int) : ∀ d, ∃ rest, zerU (n + d) row = zerU n row ++ rest ∧ ∀ x ∈ rest, ∃ j : Nat, x = (j : Int) ∧ n ≤ j ∧ row[j]? = some 0
  | 0 => ⟨[], by rw [List.append_nil]; rfl, fun _ z => (nomatch z)⟩
  | d + 1 => by
    obtain ⟨rest, h1, h2⟩ := zerU_split n row d
    refine ⟨rest ++ (if row[n + d]? = some 0 then [((n + d : Nat) : Int)] else []), by rw [← Nat.add_assoc, zerU_succ, h1, List.append_assoc], fun x hx => ?_⟩
    rcases List.mem_append.mp hx with z | z
    · exact h2 x z
    · split at z
      · rename_i h3
        rw [List.mem_singleton.mp z]
        exact ⟨n + d, rfl, by omega, h3⟩
      · cases z
theorem place_between {row : List Int} {i : Nat} {e : Int} (h : row[i]? = some e) (he : e ≠ 0) : ∃ x y : Int, (places row)[(row.take i).count 0]? = some x ∧ (places row)[(row.take i).count 0 + 1]? = some y ∧ x ≤ (i : Int) ∧ (i : Int) < y := by
  have hi : i < row.length := (List.getElem?_eq_some_iff.mp h).1
  obtain ⟨rest, h1, h2⟩ := zerU_split i row (row.length - i)
  have e1 : i + (row.length - i) = row.length := by omega
  rw [e1] at h1
  have hl := zerU_len row i (by omega)
  have ep : places row = (0 :: zerU i row) ++ (rest ++ [(row.length : Int)]) := by
    unfold places
    rw [h1, List.append_assoc]
    rfl
  have hk : (row.take i).count 0 < (0 :: zerU i row).length := by
    rw [List.length_cons, hl]
    exact Nat.lt_succ_self _
  obtain ⟨x, hx⟩ : ∃ x, (0 :: zerU i row)[(row.take i).count 0]? = some x := ⟨_, List.getElem?_eq_getElem hk⟩
  have hx1 : x ≤ (i : Int) := by
    rcases List.mem_cons.mp (List.mem_of_getElem? hx) with rfl | z
    · exact Int.natCast_nonneg _
    · exact Int.le_of_lt (zerU_mem z).2
  have hk2 : (0 :: zerU i row).length = (row.take i).count 0 + 1 := by rw [List.length_cons, hl]
  obtain ⟨y, hy⟩ : ∃ y, (rest ++ [(row.length : Int)])[0]? = some y := by
    cases rest with
    | nil => exact ⟨_, rfl⟩
    | cons a l => exact ⟨_, rfl⟩
  have hy1 : (i : Int) < y := by
    rcases List.mem_append.mp (List.mem_of_getElem? hy) with z | z
    · obtain ⟨j, rfl, h3, h4⟩ := h2 y z
      have : j ≠ i := fun w => by
        subst w
        rw [h] at h4
        exact he (Option.some.inj h4)
      omega
    · rw [List.mem_singleton.mp z]
      omega
  refine ⟨x, y, ?_, ?_, hx1, hy1⟩
  · rw [ep, List.getElem?_append_left hk]
    exact hx
  · rw [ep, List.getElem?_append_right (by omega), hk2, Nat.sub_self]
    exact hy
theorem place_last (row : List Int) : (places row)[row.count 0 + 1]? = some (row.length : Int) := by
  have hl := zerU_len row row.length (Nat.le_refl _)
  rw [List.take_length] at hl
  unfold places
  rw [List.getElem?_cons_succ, List.getElem?_append_right (by omega), hl, Nat.sub_self]
  rfl
theorem mono_at {l : List Int} (h : l.Pairwise (· ≤ ·)) {i j : Nat} {a b : Int} (hij : i ≤ j) (ha : l[i]? = some a) (hb : l[j]? = some b) : a ≤ b := by
  rcases Nat.lt_or_eq_of_le hij with h1 | rfl
  · obtain ⟨i1, rfl⟩ := List.getElem?_eq_some_iff.mp ha
    obtain ⟨j1, rfl⟩ := List.getElem?_eq_some_iff.mp hb
    exact List.pairwise_iff_getElem.mp h i j i1 j1 h1
  · rw [ha] at hb
    rw [Option.some.inj hb]
    exact Int.le_refl _
theorem bef_place {row : List Int} {i c : Nat} {e x : Int} (h : row[i]? = some e) (he : e ≠ 0) (hx : (places row)[c]? = some x) : decide ((i : Int) < x) = decide ((row.take i).count 0 < c) := by
  obtain ⟨a, b, h1, h2, h3, h4⟩ := place_between h he
  by_cases hc : (row.take i).count 0 < c
  · have := mono_at (places_sorted row) (show (row.take i).count 0 + 1 ≤ c from hc) h2 hx
    rw [decide_eq_true hc, decide_eq_true (by omega)]
  · have := mono_at (places_sorted row) (show c ≤ (row.take i).count 0 by omega) hx h1
    rw [decide_eq_false hc, decide_eq_false (by omega)]

end Sv

namespace Sv
open PySem PySem.Spec PyProof.Rows L2
/-! ### the law's states and places -/
abbrev sStates : Stmt := topS 19
abbrev nStates : List Str := ["_law_rows", "_law_found", "_law_process", "_law_row", "_law_number"]
theorem scStates : FnScope nStates ["_law_rows"] (defScope sStates) := ⟨rfl, rfl, rfl, by decide +kernel, rfl, by decide +kernel, by decide +kernel⟩
abbrev sPlace : Stmt := topS 20
abbrev nPlace : List Str := ["_law_rows", "_law_state", "_law_row", "_law_spots", "_law_k"]
theorem scPlace : FnScope nPlace ["_law_rows", "_law_state"] (defScope sPlace) := ⟨rfl, rfl, rfl, by decide +kernel, rfl, by decide +kernel, by decide +kernel⟩
abbrev Se := Addr × Nat × Nat
structure StsOk (H : Hp) (rows : List (List Int)) (ss : List Se) : Prop where
  tp : ∀ e ∈ ss, H e.1 = some (.tup [.int (e.2.1 : Int), .int (e.2.2 : Int)])
  ok : ∀ e ∈ ss, ∃ row, rows[e.2.1]? = some row ∧ e.2.2 < row.count 0 + 2
theorem StsOk.same {H H' : Hp} {rows : List (List Int)} {ss : List Se} (h : StsOk H rows ss) (e : Same H H') : StsOk H' rows ss := ⟨fun t ht => e _ _ (h.tp t ht), h.ok⟩
theorem StsOk.app {H : Hp} {rows : List (List Int)} {ss tt : List Se} (h1 : StsOk H rows ss) (h2 : StsOk H rows tt) : StsOk H rows (ss ++ tt) := ⟨fun t ht => (List.mem_append.mp ht).elim (h1.tp t) (h2.tp t), fun t ht => (List.mem_append.mp ht).elim (h1.ok t) (h2.ok t)⟩
def sr (ss : List Se) : List V := ss.map fun e => V.ref e.1
def spStates (K : PySem.W.Frag) : Sp := fun vs H Q _ => ∃ (a : Addr) (refs : List Addr) (rows : List (List Int)), vs = [.ref a] ∧ SqT K H a (refs.map V.ref) ∧ Rows K H refs rows ∧ rows.length ≤ 6 ∧ (∀ r ∈ rows, r.length ≤ 60) ∧
  ∀ (H' : Hp) (F0 : Addr) (ss : List Se), Same H H' → H F0 = none → H' F0 = some (.lst (sr ss)) → StsOk H' rows ss → rows.length ≤ ss.length → ss.length ≤ 372 → Q (.ref F0) H'
def spPlace (K : PySem.W.Frag) : Sp := fun vs H Q _ => ∃ (a b : Addr) (refs : List Addr) (rows : List (List Int)) (row : List Int) (p n : Nat) (x : Int), vs = [.ref a, .ref b] ∧ SqT K H a (refs.map V.ref) ∧ Rows K H refs rows ∧ SqT K H b [.int p, .int n] ∧ rows[p]? = some row ∧ row.length ≤ 60 ∧ (places row)[n]? = some x ∧
  ∀ H', Same H H' → Q (.int x) H'
section
variable {P : Program} {w : World} {K : PySem.W.Frag} {mg : Str → Option Value} {base : Heap}
theorem ok_states {f : Addr} {fd : FuncData} (F : Fun K "_law_states" "_law_states" sStates f fd) (men : mg "enumerate" = none) (mra : mg "range" = none) : FnOk P w K mg base CX0 1 f fd ["_law_rows"] (spStates K) := by
  refine F.ok scStates (fun vs H Q E h => ?_) (fun cdv A outer s H vs Q E hr h => ?_)
  · obtain ⟨a, refs, rows, rfl, _⟩ := h
    rfl
  · obtain ⟨a, refs, rows, rfl, hA, hR, h6, h60, q⟩ := h
    have nd := scStates.nd
    refine ⟨_, pss_cons (ps_set (i := 1) nd rfl (.inl rfl) (pe_lst pa_nil))
      (pss_cons (ps_for PassesOwn.never rfl (pi_enumT (by rfl) men (pa_cons (pv 0) pa_nil)) (pg_tup rfl (pgs_cons (pg_name (i := 2) nd rfl (.inr rfl)) (pgs_cons (pg_name (i := 3) nd rfl (.inl rfl)) pgs_nil)))
        (pss_one (ps_set (i := 1) nd rfl (.inl rfl) (pe_op op_cat (pv 1) (pe_lc (own := [("_law_number", 4)]) (g := gName 4) (by rfl) nd
          (pi_range1 (by rfl) mra (pa_cons (pe_op op_add (pe_tm (r := rTcount K) PySem.F.slot_tuple_count PySem.F.type_tuple_count (mt_tcount hr.units) (pv 3) (pa_cons pe_int pa_nil)) pe_int) pa_nil))
          (blkOk_by (own := [("_law_number", 4)]) (N := nStates) (sc := defScope sStates) (by decide +kernel)) (fun _ _ _ _ _ => pg_name (i := 4) nd rfl (Or.inl rfl)) (fun _ _ _ _ _ => pts_nil)
          (fun _ _ _ _ _ => pe_tup (pa_cons (pv 2) (pa_cons (pv 4) pa_nil))))))))
      (pss_one (ps_ret (pv 1)))), ?_⟩
    refine ⟨sz (Nat.zero_le _), fun F0 nF => ?_⟩
    have s1 : Same H (upd H F0 (.lst [])) := Same.new nF
    refine ⟨.ref a, rfl, a, _, rfl, (TupK.of s1).1 _ _ hA, ?_⟩
    refine for_etup (K := K) (a := a) (xs := refs.map V.ref) (fun i σ H' => ∃ (x2 x3 x4 : Option V) (F1 : Addr) (ss : List Se), σ = [some (.ref a), some (.ref F1), x2, x3, x4] ∧ Same H H' ∧ H F1 = none ∧ H' F1 = some (.lst (sr ss)) ∧ StsOk H' rows ss ∧ ss.length ≤ 62 * i ∧ i ≤ ss.length)
      ⟨_, _, _, F0, [], rfl, s1, nF, upd_same, ⟨fun e z => (nomatch z), fun e z => (nomatch z)⟩, Nat.zero_le _, Nat.zero_le _⟩ (fun i σ H' _ ⟨_, _, _, _, _, _, sm, _⟩ => (TupK.of sm).1 _ _ hA) ?_ ?_
    · rintro i x T σ H3 hx ⟨x2, x3, x4, F1, ss, rfl, s3, nF1, hF3, hs3, hl3, hi3⟩ nT
      obtain ⟨r, hr', rfl⟩ := of_at_map hx
      have hi : i < rows.length := by
        rw [← hR.1]
        exact (List.getElem?_eq_some_iff.mp hr').1
      have hrow := List.getElem?_eq_getElem hi
      have hrl := h60 _ (List.mem_of_getElem? hrow)
      generalize rows[i] = row at hrow hrl
      have sT : Same H3 (upd H3 T (.tup [V.int (i : Nat), V.ref r])) := Same.new nT
      have hTT : (upd H3 T (.tup [V.int (i : Nat), V.ref r])) T = some (.tup [V.int (i : Nat), V.ref r]) := upd_same
      have s4 := s3.trans sT
      have hF4 := sT _ _ hF3
      have hs4 := hs3.same sT
      generalize upd H3 T (.tup [V.int (i : Nat), V.ref r]) = H4 at hTT s4 hF4 hs4 ⊢
      have hrT := (hR.2 i r _ hr' hrow).same s4
      have hcl := List.count_le_length (a := (0 : Int)) (l := row)
      refine ⟨T, _, rfl, .inl (.inl hTT), rfl, _, _, rfl, _, _, rfl, rfl, ?_⟩
      refine ⟨.ref F1, rfl, .ref r, rfl, ⟨r, _, rfl, hrT⟩, r, row, 0, rfl, rfl, hrT.sqT, _, _, rfl, rfl, _, rfl, by omega, by omega, fun D nD => ?_⟩
      rw [show (((row.count 0 : Nat) : Int) + 2) = ((row.count 0 + 2 : Nat) : Int) by omega, Int.toNat_natCast]
      refine lc_range (lo := 0) (n := row.count 0 + 2) (fun k H' => Same H4 H' ∧ ∃ tt : List Se, H' D = some (.lst (sr tt)) ∧ StsOk H' rows tt ∧ tt.length = k) ⟨Same.new nD, [], upd_same, ⟨fun e z => (nomatch z), fun e z => (nomatch z)⟩, rfl⟩ (fun k H' hk z => ?_) (fun H' z => ?_)
      · obtain ⟨sm, tt, hD, ht, hlt⟩ := z
        have ek : (0 : Int) + (k : Int) = (k : Int) := Int.zero_add _
        refine ⟨rfl, yesT ⟨.int (i : Nat), rfl, .int (k : Nat), by rw [ek]; rfl, sz (by simp), fun p np => ⟨_, Same.new np _ _ hD, ?_, ?_, ?_⟩⟩⟩
        · rw [sr, List.length_map]
          exact small1000 (by omega)
        · exact Same.put nD (sm.trans (Same.new np))
        · have s5 : Same H' (upd H' p (.tup [V.int (i : Nat), V.int (k : Nat)])) := Same.new np
          have hp5 : (upd H' p (.tup [V.int (i : Nat), V.int (k : Nat)])) p = some (.tup [V.int (i : Nat), V.int (k : Nat)]) := upd_same
          have hD5 := s5 _ _ hD
          refine ⟨tt ++ [(p, i, k)], ?_, ?_, ?_⟩
          · rw [upd_same, sr, sr, List.map_append]
            rfl
          · have up : ∀ {c : Addr} {xs : List V}, (upd H' p (.tup [V.int (i : Nat), V.int (k : Nat)])) c = some (.tup xs) → (upd (upd H' p (.tup [V.int (i : Nat), V.int (k : Nat)])) D (.lst (sr tt ++ [V.ref p]))) c = some (.tup xs) := fun {c xs} q => by rw [upd_ne (ne_of q hD5 (by intro z; cases z))]; exact q
            refine ⟨fun e he => up ?_, fun e he => ?_⟩
            · rcases List.mem_append.mp he with z | z
              · exact s5 _ _ (ht.tp e z)
              · rw [List.mem_singleton.mp z]
                exact hp5
            · rcases List.mem_append.mp he with z | z
              · exact ht.ok e z
              · rw [List.mem_singleton.mp z]
                exact ⟨row, hrow, hk⟩
          · rw [List.length_append, hlt]
            rfl
      · obtain ⟨sm, tt, hD, ht, hlt⟩ := z
        have hF5 := sm _ _ hF4
        refine ⟨F1, D, _, _, rfl, rfl, hF5, hD, ?_, fun F2 nF2 => ?_⟩
        · rw [sr, sr, List.length_map, List.length_map]
          exact sz (by omega)
        have s5 := (s4.trans sm).trans (Same.new (o := .lst (sr ss ++ sr tt)) nF2)
        refine ⟨_, _, _, F2, ss ++ tt, rfl, s5, ?_, ?_, ((hs4.same sm).app ht).same (Same.new nF2), ?_, ?_⟩
        · cases e : H F2 with
          | none => rfl
          | some o => rw [(s4.trans sm) _ _ e] at nF2; cases nF2
        · rw [upd_same, sr, sr, sr, List.map_append]
        · rw [List.length_append]
          omega
        · rw [List.length_append]
          omega
    · rintro σ H3 ⟨x2, x3, x4, F1, ss, rfl, s3, nF1, hF3, hs3, hl3, hi3⟩
      rw [List.length_map, hR.1] at hl3 hi3
      exact ⟨.ref F1, rfl, q H3 F1 ss s3 nF1 hF3 hs3 hi3 (by omega)⟩
theorem ok_place {f : Addr} {fd : FuncData} (F : Fun K "_law_place" "_law_place" sPlace f fd) (ml : mg "len" = none) (mra : mg "range" = none) (mma : mg "max" = none) : FnOk P w K mg base CX0 1 f fd ["_law_rows", "_law_state"] (spPlace K) := by
  refine F.ok scPlace (fun vs H Q E h => ?_) (fun cdv A outer s H vs Q E hr h => ?_)
  · obtain ⟨a, b, refs, rows, row, p, n, x, rfl, _⟩ := h
    rfl
  · obtain ⟨a, b, refs, rows, row, p, n, x, rfl, hA, hR, hB, hrow, hl, hx, q⟩ := h
    have nd := scPlace.nd
    refine ⟨_, pss_cons (ps_set (i := 2) nd rfl (.inr rfl) (pe_ix ix_tup (pv 0) (pe_ix ix_tup (pv 1) pe_int (fun _ _ => rfl)) (fun _ _ => rfl)))
      (pss_cons (ps_set (i := 3) nd rfl (.inl rfl) (pe_op op_cat (pe_op op_cat (pe_lst (pa_cons pe_int pa_nil))
          (pe_lc (own := [("_law_k", 4)]) (g := gName 4) (by rfl) nd (pi_range1 (by rfl) mra (pa_cons (pe_callB call_len_seq (by rfl) ml PySem.boot_len (pa_cons (pv 2) pa_nil)) pa_nil))
            (blkOk_by (own := [("_law_k", 4)]) (N := nPlace) (sc := defScope sPlace) (by decide +kernel)) (fun _ _ _ _ _ => pg_name (i := 4) nd rfl (Or.inl rfl))
            (fun _ _ _ _ _ => pts_one (pt_cmpR op_eq (pe_ix (r := rIxT K) ix_tup (pv 2) (pv 4) (fun _ _ => rfl)) pe_int (nomark _))) (fun _ _ _ _ _ => pe_op op_add (pv 4) pe_int)))
          (pe_lst (pa_cons (pe_op op_add (pe_callB call_len_seq (by rfl) ml PySem.boot_len (pa_cons (pv 2) pa_nil)) pe_int) pa_nil))))
      (pss_one (ps_ret (pe_callB (call_max2 rfl) (by rfl) mma (by decide +kernel) (pa_cons pe_int (pa_cons (pe_op op_sub (pe_ix ix_list (pv 3) (pe_ix ix_tup (pv 1) pe_int (fun _ _ => rfl)) (fun _ _ => rfl)) pe_int) pa_nil)))))), ?_⟩
    have hpr : p < refs.length := by
      rw [hR.1]
      exact (List.getElem?_eq_some_iff.mp hrow).1
    have hr1 := List.getElem?_eq_getElem hpr
    generalize refs[p] = r at hr1
    have hrT := hR.2 p r row hr1 hrow
    refine ⟨.ref a, rfl, .ref b, rfl, b, _, 0, .int p, rfl, rfl, hB, rfl, a, _, p, .ref r, rfl, rfl, hA, atI_nat (at_map hr1), ?_⟩
    refine ⟨sz (by simp), fun p1 np1 => ?_⟩
    have s1 : Same H (upd H p1 (.lst [V.int 0])) := Same.new np1
    have h11 : (upd H p1 (.lst [V.int 0])) p1 = some (.lst [V.int 0]) := upd_same
    generalize upd H p1 (.lst [V.int 0]) = H1 at s1 h11 ⊢
    refine ⟨.ref r, rfl, r, _, rfl, .inr (hrT.same s1).sqT, _, rfl, ?_, ?_, fun D nD => ?_⟩
    · rw [List.length_map]; omega
    · rw [List.length_map]; omega
    rw [List.length_map, Int.toNat_natCast]
    refine lc_range (lo := 0) (n := row.length) (fun k H' => Same H1 H' ∧ H' D = some (.lst (((zerU k row).map (· + 1)).map V.int))) ⟨Same.new nD, upd_same⟩ (fun k H' hk z => ?_) (fun H2 z => ?_)
    · have hv := List.getElem?_eq_getElem hk
      have ek : (0 : Int) + (k : Int) = (k : Int) := Int.zero_add _
      have hat : atI (row.map V.int) ((0 : Int) + (k : Int)) = some (V.int row[k]) := by rw [ek]; exact atI_nat (at_map hv)
      have zl : (zerU k row).length ≤ k := by
        rw [zerU_len row k (by omega)]
        exact Nat.le_trans (List.count_le_length ..) (by rw [List.length_take]; exact Nat.min_le_left _ _)
      refine ⟨rfl, .ref r, rfl, _, rfl, r, _, _, _, rfl, rfl, ((hrT.same s1).same z.1).sqT, hat, rfl, _, rfl, ite2 (fun e => ?_) (fun e => ?_)⟩
      · have e0 : row[k] = 0 := V.int.inj (of_decide_eq_true e)
        refine ⟨_, rfl, _, _, rfl, rfl, _, z.2, ?_, Same.put nD z.1, ?_⟩
        · rw [List.length_map, List.length_map]
          exact small1000 (by omega)
        · rw [upd_same, zerU_succ, if_pos (by rw [hv, e0]), List.map_append, List.map_append, ek]
          rfl
      · have e0 : row[k] ≠ 0 := fun w => e (decide_eq_true (by rw [w]))
        refine ⟨z.1, ?_⟩
        rw [zerU_succ, if_neg (by rw [hv]; exact fun w => e0 (Option.some.inj w)), List.append_nil]
        exact z.2
    obtain ⟨s2, hD⟩ := z
    have h21 := s2 _ _ h11
    have hzl := zerU_len row row.length (Nat.le_refl _)
    rw [List.take_length] at hzl
    have hcl := List.count_le_length (a := (0 : Int)) (l := row)
    refine ⟨p1, D, _, _, rfl, rfl, h21, hD, ?_, fun p3 np3 => ?_⟩
    · rw [List.length_map, List.length_map]
      exact sz (by simp; omega)
    have s3 := (s1.trans s2).trans (Same.new (o := .lst ([V.int 0] ++ ((zerU row.length row).map (· + 1)).map V.int)) np3)
    have h33 : (upd H2 p3 (.lst ([V.int 0] ++ ((zerU row.length row).map (· + 1)).map V.int))) p3 = some (.lst ([V.int 0] ++ ((zerU row.length row).map (· + 1)).map V.int)) := upd_same
    generalize upd H2 p3 (.lst ([V.int 0] ++ ((zerU row.length row).map (· + 1)).map V.int)) = H3 at s3 h33 ⊢
    refine ⟨.ref r, rfl, r, _, rfl, .inr (hrT.same s3).sqT, ?_⟩
    rw [List.length_map]
    refine ⟨_, _, rfl, rfl, sz (by simp), fun p4 np4 => ?_⟩
    have s4 := s3.trans (Same.new (o := .lst [V.int ((row.length : Int) + 1)]) np4)
    have h43 := Same.new (o := .lst [V.int ((row.length : Int) + 1)]) np4 _ _ h33
    have h44 : (upd H3 p4 (.lst [V.int ((row.length : Int) + 1)])) p4 = some (.lst [V.int ((row.length : Int) + 1)]) := upd_same
    generalize upd H3 p4 (.lst [V.int ((row.length : Int) + 1)]) = H4 at s4 h43 h44 ⊢
    refine ⟨p3, p4, _, _, rfl, rfl, h43, h44, ?_, fun p5 np5 => ?_⟩
    · rw [List.length_append, List.length_map, List.length_map]
      exact sz (by simp; omega)
    have e5 : [V.int 0] ++ ((zerU row.length row).map (· + 1)).map V.int ++ [V.int ((row.length : Int) + 1)] = (0 :: ((zerU row.length row ++ [(row.length : Int)]).map (· + 1))).map V.int := by
      rw [List.map_append, List.map_cons, List.map_append]
      rfl
    rw [e5]
    have s5 := s4.trans (Same.new (o := .lst ((0 :: ((zerU row.length row ++ [(row.length : Int)]).map (· + 1))).map V.int)) np5)
    have h55 : (upd H4 p5 (.lst ((0 :: ((zerU row.length row ++ [(row.length : Int)]).map (· + 1))).map V.int))) p5 = some (.lst ((0 :: ((zerU row.length row ++ [(row.length : Int)]).map (· + 1))).map V.int)) := upd_same
    generalize upd H4 p5 (.lst ((0 :: ((zerU row.length row ++ [(row.length : Int)]).map (· + 1))).map V.int)) = H5 at s5 h55 ⊢
    obtain ⟨y, hy, hyx⟩ : ∃ y : Int, (0 :: ((zerU row.length row ++ [(row.length : Int)]).map (· + 1)))[n]? = some y ∧ (if y - 1 > 0 then y - 1 else 0) = x := by
      unfold places at hx
      cases n with
      | zero =>
        cases hx
        exact ⟨0, rfl, by decide⟩
      | succ m =>
        rw [List.getElem?_cons_succ] at hx ⊢
        refine ⟨x + 1, at_map hx, ?_⟩
        have hx0 : 0 ≤ x := by
          rcases List.mem_append.mp (List.mem_of_getElem? hx) with z | z
          · exact (zerU_mem z).1
          · rw [List.mem_singleton.mp z]
            exact Int.natCast_nonneg _
        split <;> omega
    refine ⟨.ref p5, rfl, .ref b, rfl, b, _, 1, .int n, rfl, rfl, (TupK.of s5).1 _ _ hB, rfl, p5, _, n, .int y, rfl, rfl, SqL.of h55, atI_nat (at_map hy), _, _, rfl, rfl, _, _, rfl, ?_⟩
    rw [hyx]
    exact q H5 s5
end

end Sv

namespace Sv
open PySem PySem.Spec PyProof.Rows L2
/-! ### what a state reaches -/
theorem eqvAll_iD : ∀ a b : List Int, PyData.eqvAll (iD a) (iD b) = decide (a = b)
  | [], [] => rfl
  | [], y :: b => rfl
  | x :: a, [] => rfl
  | x :: a, y :: b => by
    show PyData.eqvAll (PyData.int x :: iD a) (PyData.int y :: iD b) = _
    rw [show PyData.eqvAll (PyData.int x :: iD a) (PyData.int y :: iD b) = ((x == y) && PyData.eqvAll (iD a) (iD b)) by simp only [PyData.eqvAll, PyData.eqv], eqvAll_iD a b]
    by_cases h1 : x = y
    · subst h1
      by_cases h2 : a = b
      · subst h2; simp
      · simp [h2]
    · simp [h1]
theorem eqv_iD (a b : List Int) : PyData.eqv (.list (iD a)) (.list (iD b)) = decide (a = b) := by
  rw [← eqvAll_iD a b]
  simp only [PyData.eqv]
inductive Rch (rows : List (List Int)) (p i : Nat) : Int → Prop
  | base {m : Int} {k : Nat} : m ∈ recvL rows → hap rows m = some (p, k) → i ≤ k → Rch rows p i m
  | step {m t : Int} : Rch rows p i m → t ∈ recvL rows → firstB rows m t = true → Rch rows p i t
theorem Rch.mem {rows : List (List Int)} {p i : Nat} {m : Int} (h : Rch rows p i m) : m ∈ recvL rows := by
  cases h with
  | base h _ _ => exact h
  | step _ h _ => exact h
theorem way_rch {rows : List (List Int)} {p i q j : Nat} {m : Int} (h : Way rows (firstB rows) q j m) : Rch rows p i m → ∃ t, Rch rows p i t ∧ baseB rows q j t = true := by
  induction h with
  | base _ hb => exact fun r => ⟨_, r, hb⟩
  | step _ ht hn _ ih => exact fun r => ih (r.step ht hn)
theorem rch_way {rows : List (List Int)} {p i q j : Nat} {m : Int} (h : Rch rows p i m) : Way rows (firstB rows) q j m → ∃ m0 k, Way rows (firstB rows) q j m0 ∧ hap rows m0 = some (p, k) ∧ i ≤ k := by
  induction h with
  | base _ hh hi => exact fun w => ⟨_, _, w, hh, hi⟩
  | step r ht hn ih => exact fun w => ih (.step r.mem ht hn w)
theorem comes_iff {rows : List (List Int)} {p i q j : Nat} (h : p ≠ q) : Comes rows p i q j ↔ ∃ m, Rch rows p i m ∧ baseB rows q j m = true := by
  unfold Comes
  constructor
  · rintro (⟨z, _⟩ | ⟨_, m, k, hw, hh, hi⟩)
    · exact absurd z h
    · exact way_rch hw (.base hw.mem hh hi)
  · rintro ⟨m, hr, hb⟩
    exact .inr ⟨h, rch_way hr (.base hr.mem hb)⟩
section
variable {many most : Nat} {rows : List (List Int)}
theorem MsgAt.hap1 (hG : Good many most rows) {x : Ms} (hx : MsgAt rows x) : ∃ row, rows[x.p]? = some row ∧ row[x.i]? = some x.m ∧ hap rows x.m = some (x.p, (row.take x.i).count 0) := by
  obtain ⟨row, h1, h2⟩ := hx.sent
  have := hx.pos
  exact ⟨row, h1, h2, hG.hap_at h1 h2 (by omega)⟩
theorem MsgAt.hap2 (hG : Good many most rows) {x : Ms} (hx : MsgAt rows x) : ∃ row, rows[x.q]? = some row ∧ row[x.j]? = some (0 - x.m) ∧ hap rows (0 - x.m) = some (x.q, (row.take x.j).count 0) := by
  obtain ⟨row, h1, h2⟩ := hx.got
  have := hx.pos
  exact ⟨row, h1, h2, hG.hap_at h1 h2 (by omega)⟩
theorem MsgAt.recv (hG : Good many most rows) {x : Ms} (hx : MsgAt rows x) : x.m ∈ recvL rows := by
  obtain ⟨row, h1, h2, _⟩ := hx.hap1 hG
  obtain ⟨row', h3, h4, h5⟩ := hx.hap2 hG
  have hb := (hG.row h1).2 x.m (List.mem_of_getElem? h2)
  have := hx.pos
  refine List.mem_filter.mpr ⟨names_mem.mpr (by omega), ?_⟩
  unfold recvM
  rw [h5]
  rfl
theorem first_same (hG : Good many most rows) {x y : Ms} (hx : MsgAt rows x) (hy : MsgAt rows y) (h : firstB rows x.m y.m = true) : x.q = y.p ∧ x.j ≤ y.i := by
  have nm : -x.m = 0 - x.m := by omega
  have h0 := h
  unfold firstB at h
  obtain ⟨r, hr, hb⟩ := List.any_eq_true.mp h
  rw [Bool.and_eq_true] at hb
  obtain ⟨p, hp⟩ := List.getElem?_of_mem hr
  obtain ⟨i1, hi1⟩ := List.getElem?_of_mem (of_decide_eq_true hb.1)
  obtain ⟨i2, hi2⟩ := List.getElem?_of_mem (List.mem_of_mem_drop (of_decide_eq_true hb.2))
  have hx0 := hx.pos
  have hy0 := hy.pos
  rw [nm] at hi1
  have e1 := (hG.at_once (by omega) ⟨r, hp, hi1⟩ hx.got).1
  have e2 := (hG.at_once (by omega) ⟨r, hp, hi2⟩ hy.sent).1
  have e : x.q = y.p := e1.symm.trans e2
  refine ⟨e, ?_⟩
  rw [first_eq hG hx hy e] at h0
  exact of_decide_eq_true h0
/-- where a state stands -/
def PlAt (rows : List (List Int)) (p i : Nat) (x : Int) : Prop := ∃ row, rows[p]? = some row ∧ (places row)[i]? = some x
def Sound (rows : List (List Int)) (p i : Nat) (x : Int) (F : List Int) : Prop := ∀ (r : Nat) (v : Int), F[r]? = some v → v = 99 ∨ (r = p ∧ v = x) ∨ ∃ z : Ms, MsgAt rows z ∧ Rch rows p i z.m ∧ z.q = r ∧ v = (z.j : Int)
def Closed (F : List Int) (t : Ms) : Prop := ∀ (a b : Int), F[t.p]? = some a → F[t.q]? = some b → a ≤ (t.i : Int) → b ≤ (t.j : Int)
/-- a below b, entry by entry -/
def Below (a b : List Int) : Prop := a.length = b.length ∧ ∀ (r : Nat) (u v : Int), a[r]? = some u → b[r]? = some v → u ≤ v
theorem Below.refl (a : List Int) : Below a a := ⟨rfl, fun r u v h1 h2 => by rw [h1] at h2; rw [Option.some.inj h2]; exact Int.le_refl _⟩
theorem Below.trans {a b c : List Int} (h1 : Below a b) (h2 : Below b c) : Below a c := ⟨h1.1.trans h2.1, fun r u v a1 a3 => by
  have hr : r < b.length := by rw [← h1.1]; exact (List.getElem?_eq_some_iff.mp a1).1
  exact Int.le_trans (h1.2 r u _ a1 (List.getElem?_eq_getElem hr)) (h2.2 r _ v (List.getElem?_eq_getElem hr) a3)⟩
theorem Below.tail {x y : Int} {a b : List Int} (h : Below (x :: a) (y :: b)) : x ≤ y ∧ Below a b := ⟨h.2 0 x y rfl rfl, Nat.succ.inj h.1, fun r u v a1 a2 => h.2 (r + 1) u v a1 a2⟩
def sumN : List Int → Nat
  | [] => 0
  | x :: a => x.toNat + sumN a
theorem Below.sum : ∀ {a b : List Int}, Below a b → (∀ x ∈ a, 0 ≤ x) → sumN a ≤ sumN b ∧ (a ≠ b → sumN a < sumN b)
  | [], [], _, _ => ⟨Nat.le_refl _, fun z => absurd rfl z⟩
  | [], y :: b, h, _ => absurd h.1 (by simp)
  | x :: a, [], h, _ => absurd h.1 (by simp)
  | x :: a, y :: b, h, h0 => by
    obtain ⟨h1, h2⟩ := h.tail
    obtain ⟨i1, i2⟩ := h2.sum fun z hz => h0 z (List.mem_cons_of_mem _ hz)
    have hx := h0 x List.mem_cons_self
    unfold sumN
    refine ⟨by omega, fun hn => ?_⟩
    by_cases e : x = y
    · subst e
      have := i2 fun z => hn (by rw [z])
      omega
    · omega
theorem below_set {F : List Int} {r : Nat} {v w : Int} (h : F[r]? = some v) (hw : w ≤ v) : Below (F.set r w) F := ⟨List.length_set, fun r' u v' a1 a2 => by
  rw [List.getElem?_set] at a1
  split at a1
  · rename_i e
    subst e
    rw [h] at a2
    split at a1
    · rw [← Option.some.inj a1, ← Option.some.inj a2]; exact hw
    · cases a1
  · rw [a1] at a2
    rw [Option.some.inj a2]
    exact Int.le_refl _⟩
theorem Below.anti {a b : List Int} (h1 : Below a b) (h2 : Below b a) : a = b := by
  apply List.ext_getElem h1.1
  intro n hn1 hn2
  exact Int.le_antisymm (h1.2 n _ _ (List.getElem?_eq_getElem hn1) (List.getElem?_eq_getElem hn2)) (h2.2 n _ _ (List.getElem?_eq_getElem hn2) (List.getElem?_eq_getElem hn1))
theorem sound_set {p i : Nat} {x : Int} {F : List Int} (hG : Good many most rows) (h60 : ∀ r ∈ rows, r.length ≤ 60) (hP : PlAt rows p i x) (h : Sound rows p i x F) {t : Ms} (ht : MsgAt rows t) {a : Int} (ha : F[t.p]? = some a) (hle : a ≤ (t.i : Int)) : Sound rows p i x (F.set t.q (t.j : Int)) := by
  have hr : Rch rows p i t.m := by
    obtain ⟨row, h1, h2, h3⟩ := ht.hap1 hG
    have hlt : t.i < row.length := (List.getElem?_eq_some_iff.mp h2).1
    have := h60 row (List.mem_of_getElem? h1)
    have hpos := ht.pos
    rcases h _ a ha with z | ⟨z1, z2⟩ | ⟨u, hu, hru, hq, hj⟩
    · omega
    · obtain ⟨row2, g1, g2⟩ := hP
      rw [← z1, h1] at g1
      obtain rfl := Option.some.inj g1
      have hb := bef_place h2 (by omega) g2
      refine .base (ht.recv hG) (by rw [h3, z1]) ?_
      rw [decide_eq_false (by omega)] at hb
      have := of_decide_eq_false hb.symm
      omega
    · refine hru.step (ht.recv hG) ?_
      rw [first_eq hG hu ht hq]
      exact decide_eq_true (by omega)
  intro r v hv
  rw [List.getElem?_set] at hv
  split at hv
  · rename_i e
    split at hv
    · exact .inr (.inr ⟨t, ht, hr, e, (Option.some.inj hv).symm⟩)
    · cases hv
  · exact h r v hv
theorem recv_msg (hG : Good many most rows) {m : Int} (hm : m ∈ recvL rows) : ∃ z : Ms, MsgAt rows z ∧ z.m = m := by
  obtain ⟨hm1, hm2⟩ := List.mem_filter.mp hm
  have hm3 := names_mem.mp hm1
  rcases spot_hap (e := 0 - m) (rs := rows) (p := 0) with ⟨_, z⟩ | ⟨p', row', z1, z2, _⟩
  · unfold recvM hap at hm2
    rw [z] at hm2
    cases hm2
  · obtain ⟨j', hj'⟩ := List.getElem?_of_mem z2
    obtain ⟨p, i, h⟩ := hG.sent_of (by omega) ⟨row', z1, hj'⟩
    exact ⟨⟨m, p, i, p', j'⟩, ⟨(show 0 < m by omega), h, ⟨row', z1, hj'⟩⟩, rfl⟩
theorem msg_once (hG : Good many most rows) {x y : Ms} (hx : MsgAt rows x) (hy : MsgAt rows y) (e : x.m = y.m) : x = y := by
  have h0 := hx.pos
  have e1 := hG.at_once (by omega) hx.sent (by rw [e]; exact hy.sent)
  have e2 := hG.at_once (by omega) hx.got (by rw [e]; exact hy.got)
  cases x
  cases y
  simp only [Ms.mk.injEq]
  exact ⟨e, e1.1, e1.2, e2.1, e2.2⟩
theorem fixed_iff {p i q j : Nat} {x y : Int} {F : List Int} (hG : Good many most rows) (h60 : ∀ r ∈ rows, r.length ≤ 60) (hP : PlAt rows p i x) (hQ : PlAt rows q j y)
    (hS : Sound rows p i x F) (hL : ∃ v, F[p]? = some v ∧ v ≤ x) (hF : ∀ z, MsgAt rows z → Closed F z) (hlen : F.length = rows.length) (hpq : p ≠ q) {v : Int} (hv : F[q]? = some v) : v < y ↔ Comes rows p i q j := by
  rw [comes_iff hpq]
  obtain ⟨row, g1, g2⟩ := hQ
  have hrow := h60 row (List.mem_of_getElem? g1)
  have hy := places_mem (List.mem_of_getElem? g2)
  have atQ : ∀ {t : Ms}, MsgAt rows t → t.q = q → baseB rows q j t.m = decide ((t.j : Int) < y) := fun {t} ht e => by
    obtain ⟨row2, h1, h2, h3⟩ := ht.hap2 hG
    rw [e, g1] at h1
    obtain rfl := Option.some.inj h1
    have hpos := ht.pos
    unfold baseB
    rw [h3, bef_place h2 (by omega) g2]
    show (decide (t.q = q) && _) = _
    rw [decide_eq_true e, Bool.true_and]
  have reach : ∀ m, Rch rows p i m → ∀ t, MsgAt rows t → t.m = m → ∃ v, F[t.q]? = some v ∧ v ≤ (t.j : Int) := fun m hr => by
    have fin : ∀ t, MsgAt rows t → ∀ a, F[t.p]? = some a → a ≤ (t.i : Int) → ∃ v, F[t.q]? = some v ∧ v ≤ (t.j : Int) := fun t ht a ha hle => by
      obtain ⟨row2, h1, _, _⟩ := ht.hap2 hG
      have hq : t.q < F.length := by rw [hlen]; exact (List.getElem?_eq_some_iff.mp h1).1
      exact ⟨_, List.getElem?_eq_getElem hq, hF t ht a _ ha (List.getElem?_eq_getElem hq) hle⟩
    induction hr with
    | @base m k hm hh hi =>
      intro t ht e
      obtain ⟨row2, h1, h2, h3⟩ := ht.hap1 hG
      have hpos := ht.pos
      rw [e, hh] at h3
      injection h3 with h3
      injection h3 with e1 e2
      obtain ⟨v0, hv0, hle⟩ := hL
      obtain ⟨row3, g3, g4⟩ := hP
      rw [e1, h1] at g3
      obtain rfl := Option.some.inj g3
      have hb := bef_place h2 (by omega) g4
      rw [decide_eq_false (by omega : ¬ (row2.take t.i).count 0 < i)] at hb
      have := of_decide_eq_false hb
      exact fin t ht v0 (by rw [← e1]; exact hv0) (by omega)
    | @step m t' hr ht' hn ih =>
      intro t ht e
      subst e
      obtain ⟨u, hu, rfl⟩ := recv_msg hG hr.mem
      obtain ⟨e1, e2⟩ := first_same hG hu ht hn
      obtain ⟨v1, hv1, hle⟩ := ih u hu rfl
      rw [e1] at hv1
      exact fin t ht v1 hv1 (by omega)
  constructor
  · intro hlt
    rcases hS q v hv with z | ⟨z, _⟩ | ⟨t, ht, hr, hq, hj⟩
    · omega
    · exact absurd z.symm hpq
    · refine ⟨_, hr, ?_⟩
      rw [atQ ht hq]
      exact decide_eq_true (by omega)
  · rintro ⟨m, hr, hb⟩
    obtain ⟨u, hu, rfl⟩ := recv_msg hG hr.mem
    obtain ⟨v1, hv1, hle⟩ := reach _ hr u hu rfl
    have hq : u.q = q := by
      obtain ⟨row2, h1, h2, h3⟩ := hu.hap2 hG
      unfold baseB at hb
      rw [h3] at hb
      rw [Bool.and_eq_true] at hb
      exact of_decide_eq_true hb.1
    rw [hq, hv] at hv1
    rw [Option.some.inj hv1]
    rw [atQ hu hq] at hb
    have := of_decide_eq_true hb
    omega
end

end Sv

namespace Sv
open PySem PySem.Spec PyProof.Rows L2
/-! ### the law's future of a state -/
abbrev sFut : Stmt := topS 22
abbrev nFut : List Str := ["_law_rows", "_law_state", "_law_first", "_law_ahead", "_law_message", "_law_sender", "_law_sent", "_law_receiver", "_law_received"]
theorem scFut : FnScope nFut ["_law_rows", "_law_state"] (defScope sFut) := ⟨rfl, rfl, rfl, by decide +kernel, rfl, by decide +kernel, by decide +kernel⟩
def iV (F : List Int) : List V := F.map V.int
/-- what stands in _law_ahead -/
def AhV (H : Hp) (R : Addr) (va : V) (o : Option (List Int)) : Prop := match o with
  | none => va = .non
  | some A => ∃ l, va = .ref l ∧ l ≠ R ∧ H l = some (.lst (iV A))
structure FutOk (rows : List (List Int)) (p i : Nat) (x : Int) (F : List Int) : Prop where
  len : F.length = rows.length
  nn : ∀ v ∈ F, 0 ≤ v
  snd : Sound rows p i x F
  low : ∃ v, F[p]? = some v ∧ v ≤ x
theorem FutOk.set {many most : Nat} {rows : List (List Int)} {p i : Nat} {x : Int} {F : List Int} (h : FutOk rows p i x F) (hG : Good many most rows) (h60 : ∀ r ∈ rows, r.length ≤ 60) (hP : PlAt rows p i x) {t : Ms} (ht : MsgAt rows t) {a b : Int} (ha : F[t.p]? = some a) (hle : a ≤ (t.i : Int)) (hb : F[t.q]? = some b) (hlt : (t.j : Int) < b) : FutOk rows p i x (F.set t.q (t.j : Int)) ∧ Below (F.set t.q (t.j : Int)) F := by
  refine ⟨⟨by rw [List.length_set]; exact h.len, fun v hv => ?_, sound_set hG h60 hP h.snd ht ha hle, ?_⟩, below_set hb (by omega)⟩
  · rcases List.mem_or_eq_of_mem_set hv with z | z
    · exact h.nn v z
    · rw [z]; exact Int.natCast_nonneg _
  · obtain ⟨v, h1, h2⟩ := h.low
    by_cases e : t.q = p
    · rw [e] at hb ⊢
      rw [h1] at hb
      refine ⟨_, by rw [List.getElem?_set_self (List.getElem?_eq_some_iff.mp h1).1], ?_⟩
      rw [Option.some.inj hb] at h2
      omega
    · exact ⟨v, by rw [List.getElem?_set_ne e]; exact h1, h2⟩
theorem flat_rep99 (n : Nat) (v : V) : (List.replicate n [v]).flatten = List.replicate n v := by
  induction n with
  | zero => rfl
  | succ n ih => rw [List.replicate_succ, List.flatten_cons, ih]; rfl
def spFut (K : PySem.W.Frag) : Sp := fun vs H Q _ => ∃ (a b : Addr) (refs : List Addr) (rows : List (List Int)) (many most p i : Nat) (x : Int), vs = [.ref a, .ref b] ∧ SqT K H a (refs.map V.ref) ∧ Rows K H refs rows ∧ Good many most rows ∧ many ≤ 6 ∧ most ≤ 60 ∧ SqT K H b [.int p, .int i] ∧ PlAt rows p i x ∧
  ∀ (H' : Hp) (R : Addr) (F : List Int), Same H H' → H' R = some (.lst (iV F)) → F.length = rows.length → (∀ (q j : Nat) (y v : Int), p ≠ q → PlAt rows q j y → F[q]? = some v → (v < y ↔ Comes rows p i q j)) → Q (.ref R) H'
section
variable {P : Program} {w : World} {K : PySem.W.Frag} {mg : Str → Option Value} {base : Heap}
theorem ok_future {f fP fM : Addr} {fd fdP fdM : FuncData} (F : Fun K "_law_future" "_law_future" sFut f fd) (FP : Fun K "_law_place" "_law_place" sPlace fP fdP) (bP : Binds K fdP ["_law_rows", "_law_state"] []) (gP : mg "_law_place" = some (.ref fP))
    (FM : Fun K "_law_messages" "_law_messages" sMsgs fM fdM) (bM : Binds K fdM ["_law_rows"] []) (gM : mg "_law_messages" = some (.ref fM))
    (ml : mg "len" = none) (mra : mg "range" = none) (mma : mg "max" = none) (mmi : mg "min" = none) (mli : mg "list" = none) (men : mg "enumerate" = none) (mso : mg "sorted" = none) : FnOk P w K mg base CX0 2 f fd ["_law_rows", "_law_state"] (spFut K) := by
  have GP : FnOk P w K mg base CX0 1 fP fdP ["_law_rows", "_law_state"] (spPlace K) := ok_place FP ml mra mma
  have GM : FnOk P w K mg base CX0 1 fM fdM ["_law_rows"] (spMsgs K) := ok_msgs FM men mso mli
  refine F.ok scFut (fun vs H Q E h => ?_) (fun cdv A outer s H vs Q E hr h => ?_)
  · obtain ⟨a, b, refs, rows, many, most, p, i, x, rfl, _⟩ := h
    rfl
  · obtain ⟨a, b, refs, rows, many, most, p, i, x, rfl, hA, hR, hG, hm6, hm60, hB, hP, q⟩ := h
    have nd := scFut.nd
    refine ⟨_, pss_cons (ps_set (i := 2) nd rfl (.inl rfl) (pe_op op_rep (pe_lst (pa_cons pe_int pa_nil)) (pe_callB call_len_seq (by rfl) ml PySem.boot_len (pa_cons (pv 0) pa_nil))))
      (pss_cons (ps_asg (pe_call GP hr (by rfl) gP FP.kp bP .nil pass0 (pa_cons (pv 0) (pa_cons (pv 1) pa_nil))) (pg_sub (pv 2) (pe_ix ix_tup (pv 1) pe_int (fun _ _ => rfl)) set_list))
      (pss_cons (ps_set (i := 3) nd rfl (.inl rfl) pe_non)
      (pss_cons (ps_while PassesOwn.never (pt_cmpR (op_neD hr.units) (pv 3) (pv 2) (nomark _))
        (pss_cons (ps_set (i := 3) nd rfl (.inl rfl) (pe_callTy call_list_of (by rfl) mli (by decide +kernel) (pa_cons (pv 2) pa_nil)))
        (pss_one (ps_for PassesOwn.never rfl (pi_list (pe_call GM hr (by rfl) gM FM.kp bM .nil pass0 (pa_cons (pv 0) pa_nil)))
          (pg_tup rfl (pgs_cons (pg_name (i := 4) nd rfl (.inl rfl)) (pgs_cons (pg_name (i := 5) nd rfl (.inl rfl)) (pgs_cons (pg_name (i := 6) nd rfl (.inl rfl)) (pgs_cons (pg_name (i := 7) nd rfl (.inl rfl)) (pgs_cons (pg_name (i := 8) nd rfl (.inl rfl)) pgs_nil))))))
          (pss_one (ps_if (pt_cmpR op_ge (pv 6) (pe_ix ix_list (pv 2) (pv 5) (fun _ _ => rfl)) (nomark _))
            (pss_one (ps_asg (pe_callB (call_min2 rfl) (by rfl) mmi (by decide +kernel) (pa_cons (pe_ix ix_list (pv 2) (pv 7) (fun _ _ => rfl)) (pa_cons (pv 8) pa_nil))) (pg_sub (pv 2) (pv 7) set_list))) pss_nil))))))
      (pss_one (ps_ret (pv 2)))))), ?_⟩
    have h60 : ∀ r ∈ rows, r.length ≤ 60 := fun r hr => by
      obtain ⟨k, hk⟩ := List.getElem?_of_mem hr
      have := (hG.row hk).1
      omega
    have hl6 := hG.len
    obtain ⟨row, hrow, hx⟩ := id hP
    have hpl : p < rows.length := (List.getElem?_eq_some_iff.mp hrow).1
    have hrow60 := h60 row (List.mem_of_getElem? hrow)
    have hxb := places_mem (List.mem_of_getElem? hx)
    refine ⟨sz (by simp), fun e1 ne1 => ?_⟩
    have s1 : Same H (upd H e1 (.lst [V.int 99])) := Same.new ne1
    have h11 : (upd H e1 (.lst [V.int 99])) e1 = some (.lst [V.int 99]) := upd_same
    generalize upd H e1 (.lst [V.int 99]) = H1 at s1 h11 ⊢
    refine ⟨.ref a, rfl, a, _, rfl, .inr ((TupK.of s1).1 _ _ hA), ?_⟩
    rw [List.length_map, hR.1]
    refine ⟨e1, _, _, rfl, rfl, h11, by omega, by omega, ?_, fun R nR => ?_⟩
    · rw [Int.toNat_natCast]
      exact sz (by simp; omega)
    have nR0 : H R = none := by
      cases e : H R with
      | none => rfl
      | some o => rw [s1 _ _ e] at nR; cases nR
    rw [Int.toNat_natCast, flat_rep99]
    have s2 : Same H (upd H1 R (.lst (List.replicate rows.length (V.int 99)))) := s1.trans (Same.new nR)
    have hR2 : (upd H1 R (.lst (List.replicate rows.length (V.int 99)))) R = some (.lst (iV (List.replicate rows.length 99))) := by rw [upd_same, iV, List.map_replicate]
    show gName 2 (V.ref R) _ (upd H1 R (.lst (List.replicate rows.length (V.int 99)))) _
    generalize upd H1 R (.lst (List.replicate rows.length (V.int 99))) = H2 at s2 hR2 ⊢
    refine ⟨.ref a, rfl, .ref b, rfl, a, b, refs, rows, row, p, i, x, rfl, (TupK.of s2).1 _ _ hA, hR.keep (.of s2), (TupK.of s2).1 _ _ hB, hrow, hrow60, hx, fun H3 s3 => ?_⟩
    have s23 := s2.trans s3
    have hR3 := s3 _ _ hR2
    refine ⟨.ref R, rfl, .ref b, rfl, b, _, 0, .int p, rfl, rfl, (TupK.of s23).1 _ _ hB, rfl, R, _, p, p, rfl, rfl, hR3, ixn (by rw [iV, List.length_map, List.length_replicate]; exact hpl), ?_⟩
    have e4 : (iV (List.replicate rows.length 99)).set p (V.int x) = iV ((List.replicate rows.length 99).set p x) := by rw [iV, iV, List.map_set]
    rw [e4]
    have s4 : Same H (upd H3 R (.lst (iV ((List.replicate rows.length 99).set p x)))) := Same.put nR0 s23
    have hR4 : (upd H3 R (.lst (iV ((List.replicate rows.length 99).set p x)))) R = some (.lst (iV ((List.replicate rows.length 99).set p x))) := upd_same
    generalize upd H3 R (.lst (iV ((List.replicate rows.length 99).set p x))) = H4 at s4 hR4 ⊢
    have hF0 : FutOk rows p i x ((List.replicate rows.length 99).set p x) := by
      refine ⟨by rw [List.length_set, List.length_replicate], fun v hv => ?_, fun r v hv => ?_, x, ?_, Int.le_refl _⟩
      · rcases List.mem_or_eq_of_mem_set hv with z | z
        · rw [(List.mem_replicate.mp z).2]; decide
        · rw [z]; exact hxb.1
      · rw [List.getElem?_set] at hv
        split at hv
        · rename_i e
          split at hv
          · exact .inr (.inl ⟨e.symm, (Option.some.inj hv).symm⟩)
          · cases hv
        · exact .inl (List.mem_replicate.mp (List.mem_of_getElem? hv)).2
      · rw [List.getElem?_set_self (by rw [List.length_replicate]; exact hpl)]
    generalize (List.replicate rows.length 99).set p x = F0 at hR4 hF0
    dsimp only [gName, tSeq, tAsg, tC]
    obtain ⟨W, hW⟩ : ∃ W : Nat → L2.St → Hp → Prop, W = fun m σ H' => ∃ (Fc : List Int) (va : V) (o : Option (List Int)) (x4 x5 x6 x7 x8 : Option V), σ = [some (.ref a), some (.ref b), some (.ref R), some va, x4, x5, x6, x7, x8] ∧ Same H H' ∧ H' R = some (.lst (iV Fc)) ∧ FutOk rows p i x Fc ∧ AhV H' R va o ∧
        (o = some Fc → ∀ z, MsgAt rows z → Closed Fc z) ∧ m = 2 * sumN Fc + (if o = some Fc then 0 else 1) := ⟨_, rfl⟩
    refine ⟨W, ⟨_, by rw [hW]; exact ⟨F0, .non, none, _, _, _, _, _, rfl, s4, hR4, hF0, rfl, fun z => (nomatch z), rfl⟩⟩, fun m σ H' w => ?_⟩
    rw [hW] at w
    obtain ⟨Fc, va, o, x4, x5, x6, x7, x8, rfl, sm, hRc, hFc, hAh, hcl, hm⟩ := w
    obtain ⟨dA, hd1, hd2, hd3⟩ : ∃ dA : PyData, Dp K H' va dA ∧ SeqAt.shaped dA = true ∧ PyData.eqv dA (.list (iD Fc)) = decide (o = some Fc) := by
      cases o with
      | none =>
        obtain rfl : va = .non := hAh
        exact ⟨.none, .non, by decide +kernel, by rw [decide_eq_false (fun z => nomatch z)]; simp only [PyData.eqv]⟩
      | some A =>
        obtain ⟨l, rfl, _, hl⟩ := hAh
        refine ⟨.list (iD A), dp_lst (SqL.of hl), shaped_lst A, ?_⟩
        rw [eqv_iD]
        by_cases e : A = Fc
        · rw [decide_eq_true e, decide_eq_true (by rw [e])]
        · rw [decide_eq_false e, decide_eq_false (fun z => e (Option.some.inj z))]
    refine ⟨va, rfl, .ref R, rfl, dA, _, hd1, dp_lst (SqL.of hRc), hd2, shaped_lst Fc, _, rfl, ?_⟩
    rw [hd3]
    refine iteB (fun e => ?_) (fun e => ?_)
    · have hne : ¬ o = some Fc := by simpa using e
      rw [if_neg hne] at hm
      refine ⟨fun σ' H'' => ∃ m', m' < m ∧ W m' σ' H'', fun _ _ z => z, ?_⟩
      refine ⟨.ref R, rfl, R, _, rfl, .inl (SqL.of hRc), fun l nl => ?_⟩
      have lR : l ≠ R := fun z => by rw [z, hRc] at nl; cases nl
      have s5 : Same H (upd H' l (.lst (iV Fc))) := sm.trans (Same.new nl)
      have hR5 := Same.new (o := .lst (iV Fc)) nl _ _ hRc
      have hl5 : (upd H' l (.lst (iV Fc))) l = some (.lst (iV Fc)) := upd_same
      show gName 3 (V.ref l) _ (upd H' l (.lst (iV Fc))) _
      generalize upd H' l (.lst (iV Fc)) = H5 at s5 hR5 hl5 ⊢
      refine ⟨.ref a, rfl, a, refs, rows, many, most, rfl, (TupK.of s5).1 _ _ hA, hR.keep (.of s5), hG, hm6, hm60, fun H6 L ts s6 nL hL hT hlt hC => ?_⟩
      have s56 := s5.trans s6
      have hR6 := s6 _ _ hR5
      have hl6' := s6 _ _ hl5
      have LR : L ≠ R := (ne_of_none hR5 nL).symm
      refine ⟨L, rfl, ⟨_, SqL.of hL⟩, ?_⟩
      refine for_list (K := K) (a := L) (xs := tr ts) (fun k σ H7 => ∃ (F1 : List Int) (y4 y5 y6 y7 y8 : Option V), σ = [some (.ref a), some (.ref b), some (.ref R), some (.ref l), y4, y5, y6, y7, y8] ∧ Same H H7 ∧ H7 R = some (.lst (iV F1)) ∧ H7 l = some (.lst (iV Fc)) ∧ H7 L = some (.lst (tr ts)) ∧ TupK K H6 H7 ∧ FutOk rows p i x F1 ∧ Below F1 Fc ∧ (F1 = Fc → ∀ t ∈ ts.take k, Closed Fc t.2))
        ⟨Fc, _, _, _, _, _, rfl, s56, hR6, hl6', hL, .of (Same.refl H6), hFc, .refl Fc, fun _ t ht => by rw [List.take_zero] at ht; cases ht⟩ (fun k σ H7 _ ⟨_, _, _, _, _, _, _, _, _, _, z, _⟩ => SqL.of z) ?_ ?_
      · rintro k v σ H7 hv ⟨F1, y4, y5, y6, y7, y8, rfl, s7, hR7, hl7, hL7, k7, hF1, hbe, hcl7⟩
        obtain ⟨t, ht, rfl⟩ := of_at_map hv
        have htm := List.mem_of_getElem? ht
        have hms := hT.ok t htm
        obtain ⟨row1, c1, _, _⟩ := hms.hap1 hG
        obtain ⟨row2, c2, _, _⟩ := hms.hap2 hG
        have hp1 : t.2.p < F1.length := by rw [hF1.len]; exact (List.getElem?_eq_some_iff.mp c1).1
        have hq1 : t.2.q < F1.length := by rw [hF1.len]; exact (List.getElem?_eq_some_iff.mp c2).1
        have ha := List.getElem?_eq_getElem hp1
        have hb := List.getElem?_eq_getElem hq1
        generalize F1[t.2.p] = va' at ha
        generalize F1[t.2.q] = vb at hb
        refine ⟨t.1, _, rfl, k7.1 _ _ (hT.sq t htm), rfl, _, _, rfl, _, _, rfl, _, _, rfl, _, _, rfl, _, _, rfl, rfl, ?_⟩
        have take1 : ∀ {u : Te}, u ∈ ts.take (k + 1) → u ∈ ts.take k ∨ u = t := fun {u} hu => by
          rw [List.take_add_one, ht] at hu
          rcases List.mem_append.mp hu with z | z
          · exact .inl z
          · exact .inr (List.mem_singleton.mp z)
        refine ⟨.int t.2.i, rfl, .ref R, rfl, .int t.2.p, rfl, R, _, t.2.p, .int va', rfl, rfl, SqL.of hR7, atI_nat (at_map ha), _, _, rfl, rfl, _, rfl, iteB (fun g => ?_) (fun g => ?_)⟩
        · have hle : va' ≤ (t.2.i : Int) := of_decide_eq_true g
          refine ⟨.ref R, rfl, .int t.2.q, rfl, R, _, t.2.q, .int vb, rfl, rfl, SqL.of hR7, atI_nat (at_map hb), .int t.2.j, rfl, _, _, rfl, .ref R, rfl, .int t.2.q, rfl, R, _, t.2.q, t.2.q, rfl, rfl, hR7, ixn (by rw [iV, List.length_map]; exact hq1), ?_⟩
          have up : ∀ {c : Addr} {u : HO}, c ≠ R → H7 c = some u → ∀ {o2 : HO}, (upd H7 R o2) c = some u := fun {c u} n z {o2} => by rw [upd_ne n]; exact z
          by_cases hlt2 : (t.2.j : Int) < vb
          · rw [if_pos hlt2]
            obtain ⟨f1, f2⟩ := hF1.set hG h60 hP hms ha hle hb hlt2
            refine ⟨F1.set t.2.q (t.2.j : Int), _, _, _, _, _, rfl, Same.put nR0 s7, ?_, up lR hl7, up LR hL7, k7.trans (.put hR7), f1, f2.trans hbe, fun z => ?_⟩
            · rw [upd_same, iV, iV, List.map_set]
            · exfalso
              have h1 : Fc[t.2.q]? = some (t.2.j : Int) := by rw [← z, List.getElem?_set_self hq1]
              have := hbe.2 _ _ _ hb h1
              omega
          · rw [if_neg hlt2]
            have es : (iV F1).set t.2.q (V.int vb) = iV F1 := by
              rw [iV, ← List.map_set]
              congr 1
              apply List.ext_getElem?
              intro n
              rw [List.getElem?_set]
              split
              · rename_i e; subst e; rw [hb]
              · rfl
            rw [es]
            refine ⟨F1, _, _, _, _, _, rfl, Same.put nR0 s7, upd_same, up lR hl7, up LR hL7, k7.trans (.put hR7), hF1, hbe, fun z u hu => ?_⟩
            rcases take1 hu with z1 | rfl
            · exact hcl7 z u z1
            · intro a' b' _ h2 _
              rw [← z, hb] at h2
              rw [← Option.some.inj h2]
              omega
        · have hgt : ¬ va' ≤ (t.2.i : Int) := of_decide_eq_false g
          refine ⟨F1, _, _, _, _, _, rfl, s7, hR7, hl7, hL7, k7, hF1, hbe, fun z u hu => ?_⟩
          rcases take1 hu with z1 | rfl
          · exact hcl7 z u z1
          · intro a' b' h1 _ h3
            rw [← z, ha] at h1
            rw [← Option.some.inj h1] at h3
            exact absurd h3 hgt
      · rintro σ H7 ⟨F1, y4, y5, y6, y7, y8, rfl, s7, hR7, hl7, hL7, k7, hF1, hbe, hcl7⟩
        rw [tr, List.length_map, List.take_length] at hcl7
        obtain ⟨t1, t2⟩ := hbe.sum hF1.nn
        refine ⟨2 * sumN F1 + (if some Fc = some F1 then 0 else 1), ?_, ?_⟩
        · by_cases z : some Fc = some F1
          · rw [if_pos z]; omega
          · rw [if_neg z]
            have := t2 fun y => z (by rw [y])
            omega
        · rw [hW]
          refine ⟨F1, .ref l, some Fc, _, _, _, _, _, rfl, s7, hR7, hF1, ⟨l, rfl, lR, hl7⟩, fun z w hw => ?_, rfl⟩
          obtain rfl := Option.some.inj z
          obtain ⟨t, ht, e3⟩ := hC w.q w.j w.m hw.pos hw.got
          rw [← msg_once hG (hT.ok t ht) hw e3]
          exact hcl7 rfl t ht
    · have he : o = some Fc := by simpa using e
      refine ⟨.ref R, rfl, q H' R Fc sm hRc hFc.len fun q' j' y v hpq hQ hv => fixed_iff hG h60 hP hQ hFc.snd hFc.low (hcl he) hFc.len hpq hv⟩
end

end Sv

namespace Sv
open PySem PySem.Spec PyProof.Rows L2
/-! ### the law's before and vector -/
abbrev sBef : Stmt := topS 23
abbrev nBef : List Str := ["_law_rows", "_law_one_here", "_law_other"]
theorem scBef : FnScope nBef ["_law_rows", "_law_one_here", "_law_other"] (defScope sBef) := ⟨rfl, rfl, rfl, by decide +kernel, rfl, by decide +kernel, by decide +kernel⟩
abbrev sVec : Stmt := topS 24
abbrev nVec : List Str := ["_law_rows", "_law_state", "_law_found", "_law_process", "_law_number"]
theorem scVec : FnScope nVec ["_law_rows", "_law_state"] (defScope sVec) := ⟨rfl, rfl, rfl, by decide +kernel, rfl, by decide +kernel, by decide +kernel⟩
def spBef (K : PySem.W.Frag) : Sp := fun vs H Q _ => ∃ (a o b : Addr) (refs : List Addr) (rows : List (List Int)) (many most p i q j : Nat) (x y : Int), vs = [.ref a, .ref o, .ref b] ∧ SqT K H a (refs.map V.ref) ∧ Rows K H refs rows ∧ Good many most rows ∧ many ≤ 6 ∧ most ≤ 60 ∧ SqT K H o [.int p, .int i] ∧ SqT K H b [.int q, .int j] ∧ PlAt rows p i x ∧ PlAt rows q j y ∧
  ∀ (H' : Hp) (d : Bool), Same H H' → (d = true ↔ Comes rows p i q j) → Q (.bl d) H'
def VecOk (rows : List (List Int)) (q j : Nat) (p v : Nat) : Prop := v ≤ 61 ∧ ∀ i, i < v ↔ Comes rows p i q j
def spVec (K : PySem.W.Frag) : Sp := fun vs H Q _ => ∃ (a b : Addr) (refs : List Addr) (rows : List (List Int)) (many most q j : Nat) (y : Int), vs = [.ref a, .ref b] ∧ SqT K H a (refs.map V.ref) ∧ Rows K H refs rows ∧ Good many most rows ∧ many ≤ 6 ∧ most ≤ 60 ∧ SqT K H b [.int q, .int j] ∧ PlAt rows q j y ∧
  ∀ (H' : Hp) (T : Addr) (us : List Nat), Same H H' → H' T = some (.tup (nV us)) → us.length = rows.length → (∀ (p v : Nat), us[p]? = some v → VecOk rows q j p v) → Q (.ref T) H'
theorem Comes.mono {rows : List (List Int)} {p i i' q j : Nat} (h : Comes rows p i q j) (hi : i' ≤ i) : Comes rows p i' q j := by
  rcases h with ⟨h1, h2⟩ | ⟨h1, m, k, h2, h3, h4⟩
  · exact .inl ⟨h1, by omega⟩
  · exact .inr ⟨h1, m, k, h2, h3, by omega⟩
theorem Comes.lt {rows : List (List Int)} {p i q j : Nat} {row : List Int} {y : Int} (h : Comes rows p i q j) (hr : rows[p]? = some row) (hq : PlAt rows q j y) : i + 1 < row.count 0 + 2 := by
  rcases h with ⟨h1, h2⟩ | ⟨_, m, k, _, h3, h4⟩
  · obtain ⟨row2, g1, g2⟩ := hq
    rw [← h1, hr] at g1
    obtain rfl := Option.some.inj g1
    have := (List.getElem?_eq_some_iff.mp g2).1
    rw [places_len] at this
    omega
  · rcases spot_hap (e := m) (rs := rows) (p := 0) with ⟨_, z⟩ | ⟨p', row', z1, _, _, z4⟩
    · unfold hap at h3
      rw [z] at h3
      cases h3
    · unfold hap at h3
      rw [z4] at h3
      injection h3 with h3
      injection h3 with e1 e2
      rw [Nat.zero_add] at e1
      subst e1
      rw [hr] at z1
      obtain rfl := Option.some.inj z1
      have h5 : (row.take (row.idxOf m)).count 0 ≤ row.count 0 := (List.take_sublist _ _).count_le 0
      omega
section
variable {P : Program} {w : World} {K : PySem.W.Frag} {mg : Str → Option Value} {base : Heap}
theorem ok_before {f fFu fP fM : Addr} {fd fdFu fdP fdM : FuncData} (F : Fun K "_law_before" "_law_before" sBef f fd) (FFu : Fun K "_law_future" "_law_future" sFut fFu fdFu) (bFu : Binds K fdFu ["_law_rows", "_law_state"] []) (gFu : mg "_law_future" = some (.ref fFu))
    (FP : Fun K "_law_place" "_law_place" sPlace fP fdP) (bP : Binds K fdP ["_law_rows", "_law_state"] []) (gP : mg "_law_place" = some (.ref fP)) (FM : Fun K "_law_messages" "_law_messages" sMsgs fM fdM) (bM : Binds K fdM ["_law_rows"] []) (gM : mg "_law_messages" = some (.ref fM))
    (ml : mg "len" = none) (mra : mg "range" = none) (mma : mg "max" = none) (mmi : mg "min" = none) (mli : mg "list" = none) (men : mg "enumerate" = none) (mso : mg "sorted" = none) : FnOk P w K mg base CX0 3 f fd ["_law_rows", "_law_one_here", "_law_other"] (spBef K) := by
  have GP : FnOk P w K mg base CX0 1 fP fdP ["_law_rows", "_law_state"] (spPlace K) := ok_place FP ml mra mma
  have GFu : FnOk P w K mg base CX0 2 fFu fdFu ["_law_rows", "_law_state"] (spFut K) := ok_future FFu FP bP gP FM bM gM ml mra mma mmi mli men mso
  refine F.ok scBef (fun vs H Q E h => ?_) (fun cdv A outer s H vs Q E hr h => ?_)
  · obtain ⟨a, o, b, refs, rows, many, most, p, i, u, j, x, y, rfl, _⟩ := h
    rfl
  · obtain ⟨a, o, b, refs, rows, many, most, p, i, u, j, x, y, rfl, hA, hR, hG, hm6, hm60, hO, hB, hP, hQ, q⟩ := h
    have nd := scBef.nd
    have hr1 : Room 1 _ := hr.mono (by decide)
    refine ⟨_, pss_cons (ps_if (pt_cmpR op_eq (pe_ix ix_tup (pv 1) pe_int (fun _ _ => rfl)) (pe_ix ix_tup (pv 2) pe_int (fun _ _ => rfl)) (nomark _))
        (pss_one (ps_ret (pe_cmpR op_lt (pe_ix ix_tup (pv 1) pe_int (fun _ _ => rfl)) (pe_ix ix_tup (pv 2) pe_int (fun _ _ => rfl)) (nomark _)))) pss_nil)
      (pss_one (ps_ret (pe_cmpR op_lt (pe_ix ix_list (pe_call GFu hr (by rfl) gFu FFu.kp bFu .nil pass0 (pa_cons (pv 0) (pa_cons (pv 1) pa_nil))) (pe_ix ix_tup (pv 2) pe_int (fun _ _ => rfl)) (fun _ _ => rfl))
        (pe_call GP hr1 (by rfl) gP FP.kp bP .nil pass0 (pa_cons (pv 0) (pa_cons (pv 2) pa_nil))) (nomark _)))), ?_⟩
    refine ⟨.ref o, rfl, o, _, 0, .int p, rfl, rfl, hO, rfl, .ref b, rfl, b, _, 0, .int u, rfl, rfl, hB, rfl, rfl, _, rfl, ite2 (fun z => ?_) (fun z => ?_)⟩
    · have hpq : p = u := by
        have := V.int.inj (of_decide_eq_true z)
        omega
      refine ⟨.ref o, rfl, o, _, 1, .int i, rfl, rfl, hO, rfl, .ref b, rfl, b, _, 1, .int j, rfl, rfl, hB, rfl, _, _, rfl, rfl, q H _ (Same.refl H) ?_⟩
      unfold Comes
      rw [decide_eq_true_iff]
      constructor
      · exact fun h => .inl ⟨hpq, by omega⟩
      · rintro (⟨_, h⟩ | ⟨h, _⟩)
        · omega
        · exact absurd hpq h
    · have hpq : p ≠ u := fun w => z (decide_eq_true (by rw [w]))
      obtain ⟨row, g1, g2⟩ := id hQ
      have h60 : row.length ≤ 60 := by
        have := (hG.row g1).1
        omega
      refine ⟨.ref a, rfl, .ref o, rfl, a, o, refs, rows, many, most, p, i, x, rfl, hA, hR, hG, hm6, hm60, hO, hP, fun H1 R Fr s1 hR1 hlF hfut => ?_⟩
      have hFq : u < Fr.length := by rw [hlF]; exact (List.getElem?_eq_some_iff.mp g1).1
      have hv := List.getElem?_eq_getElem hFq
      generalize Fr[u] = v at hv
      refine ⟨.ref b, rfl, b, _, 0, .int u, rfl, rfl, (TupK.of s1).1 _ _ hB, rfl, R, _, u, .int v, rfl, rfl, SqL.of hR1, atI_nat (at_map hv), .ref a, rfl, .ref b, rfl, a, b, refs, rows, row, u, j, y, rfl, (TupK.of s1).1 _ _ hA, hR.keep (.of s1), (TupK.of s1).1 _ _ hB, g1, h60, g2, fun H2 s2 => ⟨_, _, rfl, rfl, q H2 _ (s1.trans s2) ?_⟩⟩
      rw [← hfut u j y v hpq hQ hv, decide_eq_true_iff]
theorem ok_vector {f fB fFu fP fM : Addr} {fd fdB fdFu fdP fdM : FuncData} (F : Fun K "_law_vector" "_law_vector" sVec f fd) (FB : Fun K "_law_before" "_law_before" sBef fB fdB) (bB : Binds K fdB ["_law_rows", "_law_one_here", "_law_other"] []) (gB : mg "_law_before" = some (.ref fB))
    (FFu : Fun K "_law_future" "_law_future" sFut fFu fdFu) (bFu : Binds K fdFu ["_law_rows", "_law_state"] []) (gFu : mg "_law_future" = some (.ref fFu))
    (FP : Fun K "_law_place" "_law_place" sPlace fP fdP) (bP : Binds K fdP ["_law_rows", "_law_state"] []) (gP : mg "_law_place" = some (.ref fP)) (FM : Fun K "_law_messages" "_law_messages" sMsgs fM fdM) (bM : Binds K fdM ["_law_rows"] []) (gM : mg "_law_messages" = some (.ref fM))
    (ml : mg "len" = none) (mra : mg "range" = none) (mma : mg "max" = none) (mmi : mg "min" = none) (mli : mg "list" = none) (men : mg "enumerate" = none) (mso : mg "sorted" = none) (mtu : mg "tuple" = none) : FnOk P w K mg base CX0 4 f fd ["_law_rows", "_law_state"] (spVec K) := by
  have GB : FnOk P w K mg base CX0 3 fB fdB ["_law_rows", "_law_one_here", "_law_other"] (spBef K) := ok_before FB FFu bFu gFu FP bP gP FM bM gM ml mra mma mmi mli men mso
  refine F.ok scVec (fun vs H Q E h => ?_) (fun cdv A outer s H vs Q E hr h => ?_)
  · obtain ⟨a, b, refs, rows, many, most, u, j, y, rfl, _⟩ := h
    rfl
  · obtain ⟨a, b, refs, rows, many, most, u, j, y, rfl, hA, hR, hG, hm6, hm60, hB, hQ, q⟩ := h
    have nd := scVec.nd
    refine ⟨_, pss_cons (ps_set (i := 2) nd rfl (.inl rfl) (pe_lst pa_nil))
      (pss_cons (ps_for PassesOwn.never rfl (pi_range1 (by rfl) mra (pa_cons (pe_callB call_len_seq (by rfl) ml PySem.boot_len (pa_cons (pv 0) pa_nil)) pa_nil)) (pg_name (i := 3) nd rfl (.inl rfl))
        (pss_cons (ps_set (i := 4) nd rfl (.inl rfl) pe_int)
        (pss_cons (ps_while PassesOwn.never (pt_val (pe_call GB hr (by rfl) gB FB.kp bB .nil pass0 (pa_cons (pv 0) (pa_cons (pe_tup (pa_cons (pv 3) (pa_cons (pv 4) pa_nil))) (pa_cons (pv 1) pa_nil)))))
          (pss_one (ps_set (i := 4) nd rfl (.inl rfl) (pe_op op_add (pv 4) pe_int))))
        (pss_one (ps_expr (pe_bm PySem.F.plainAttrs_list PySem.F.slot_list_append PySem.F.type_list_append mt_append (pv 2) (pa_cons (pv 4) pa_nil)))))))
      (pss_one (ps_ret (pe_callTy call_tuple_of (by rfl) mtu (by decide +kernel) (pa_cons (pv 2) pa_nil))))), ?_⟩
    have hl6 := hG.len
    refine ⟨sz (Nat.zero_le _), fun F0 nF => ?_⟩
    have s1 : Same H (upd H F0 (.lst [])) := Same.new nF
    refine ⟨.ref a, rfl, a, _, rfl, .inr ((TupK.of s1).1 _ _ hA), _, rfl, ?_, ?_, ?_⟩
    · rw [List.length_map]; have := hR.1; omega
    · rw [List.length_map]; have := hR.1; omega
    rw [List.length_map, Int.toNat_natCast, hR.1]
    refine for_range (lo := 0) (n := rows.length) (fun k σ H' => ∃ (us : List Nat) (x3 x4 : Option V), σ = [some (.ref a), some (.ref b), some (.ref F0), x3, x4] ∧ Same H H' ∧ H' F0 = some (.lst (nV us)) ∧ us.length = k ∧ ∀ (p v : Nat), us[p]? = some v → VecOk rows u j p v)
      ⟨[], _, _, rfl, s1, upd_same, rfl, fun p v z => by simp at z⟩ ?_ ?_
    · rintro k σ H2 hk ⟨us, x3, x4, rfl, s2, hF2, hul, hus⟩
      have hrow := List.getElem?_eq_getElem hk
      generalize rows[k] = row at hrow
      have hcl := List.count_le_length (a := (0 : Int)) (l := row)
      have hrl := (hG.row hrow).1
      have ek : (0 : Int) + (k : Int) = (k : Int) := Int.zero_add _
      dsimp only [gName, tSeq, tAsg, tC]
      rw [ek]
      obtain ⟨W, hW⟩ : ∃ W : Nat → L2.St → Hp → Prop, W = fun m σ H' => ∃ n : Nat, σ = [some (.ref a), some (.ref b), some (.ref F0), some (.int (k : Int)), some (.int (n : Int))] ∧ Same H H' ∧ H' F0 = some (.lst (nV us)) ∧ n < row.count 0 + 2 ∧ (∀ i, i < n → Comes rows k i u j) ∧ m = row.count 0 + 2 - n := ⟨_, rfl⟩
      refine ⟨W, ⟨_, by rw [hW]; exact ⟨0, rfl, s2, hF2, by omega, fun i z => absurd z (Nat.not_lt_zero _), rfl⟩⟩, fun m σ H3 w3 => ?_⟩
      rw [hW] at w3
      obtain ⟨n, rfl, s3, hF3, hn, hcn, hm⟩ := w3
      have hnp : n < (places row).length := by rw [places_len]; exact hn
      refine ⟨.ref a, rfl, .int k, rfl, .int n, rfl, sz (by simp), fun T nT => ?_⟩
      have sT : Same H3 (upd H3 T (.tup [V.int (k : Int), V.int (n : Int)])) := Same.new nT
      have hTT : (upd H3 T (.tup [V.int (k : Int), V.int (n : Int)])) T = some (.tup [V.int (k : Int), V.int (n : Int)]) := upd_same
      have s4 := s3.trans sT
      have hF4 := sT _ _ hF3
      generalize upd H3 T (.tup [V.int (k : Int), V.int (n : Int)]) = H4 at s4 hF4 hTT ⊢
      refine ⟨.ref b, rfl, a, T, b, refs, rows, many, most, k, n, u, j, _, y, rfl, (TupK.of s4).1 _ _ hA, hR.keep (.of s4), hG, hm6, hm60, .inl (.inl hTT), (TupK.of s4).1 _ _ hB, ⟨row, hrow, List.getElem?_eq_getElem hnp⟩, hQ, fun H5 d s5 hd => ⟨_, rfl, iteB (fun e => ?_) (fun e => ?_)⟩⟩
      · have hc := hd.mp e
        have hlt := hc.lt hrow hQ
        refine ⟨fun σ' H'' => ∃ m', m' < m ∧ W m' σ' H'', fun _ _ z => z, ?_⟩
        refine ⟨.int n, rfl, _, _, rfl, rfl, row.count 0 + 2 - (n + 1), by omega, ?_⟩
        rw [hW]
        refine ⟨n + 1, rfl, s4.trans s5, s5 _ _ hF4, hlt, fun i hi => ?_, rfl⟩
        exact hc.mono (by omega)
      · have hnc : ¬ Comes rows k n u j := fun z => by rw [hd.mpr z] at e; cases e
        have hF5 := s5 _ _ hF4
        refine ⟨.ref F0, rfl, .inl ⟨rfl, _, SqL.of hF5⟩, .int n, rfl, F0, _, _, rfl, rfl, hF5, ?_, ?_⟩
        · rw [nV, List.length_map]
          exact small1000 (by omega)
        · refine ⟨us ++ [n], _, _, rfl, Same.put nF (s4.trans s5), ?_, by rw [List.length_append, hul]; rfl, fun p v hp => ?_⟩
          · rw [upd_same, nV, nV, List.map_append]
            rfl
          · by_cases hpk : p < us.length
            · rw [List.getElem?_append_left hpk] at hp
              exact hus p v hp
            · rw [List.getElem?_append_right (by omega)] at hp
              have hp0 : p - us.length = 0 := by
                have := (List.getElem?_eq_some_iff.mp hp).1
                simp at this
                omega
              rw [hp0] at hp
              obtain rfl : n = v := Option.some.inj hp
              obtain rfl : p = k := by omega
              refine ⟨by omega, fun i => ⟨hcn i, fun z => ?_⟩⟩
              rcases Nat.lt_or_ge i n with h | h
              · exact h
              · exact absurd (z.mono h) hnc
    · rintro σ H2 ⟨us, x3, x4, rfl, s2, hF2, hul, hus⟩
      exact ⟨.ref F0, rfl, F0, _, rfl, .inl ⟨SqL.of hF2, fun T nT => q _ T us (s2.trans (Same.new nT)) upd_same hul hus⟩⟩
end

end Sv

namespace Sv
open PySem PySem.Spec PyProof.Rows L2
theorem StAt.off {H : Hp} {st big cel p : Addr} {n : Nat} {o : HO} (h : StAt H st big cel n) (hp : st ≠ p ∧ big ≠ p ∧ cel ≠ p) : StAt (upd H p o) st big cel n := by
  obtain ⟨h1, h2, h3, hn, bs, cs, k, ha, hb, hc, r⟩ := h
  exact ⟨h1, h2, h3, hn, bs, cs, k, by rw [upd_ne hp.1]; exact ha, by rw [upd_ne hp.2.1]; exact hb, by rw [upd_ne hp.2.2]; exact hc, r⟩
abbrev sLaw : Stmt := topS 25
abbrev nLaw : List Str := ["_law_script", "_law_deck_here", "_law_turn", "_law_rows", "_law_shown", "_law_states_here", "_law_state", "_law_due", "_law_k"]
theorem scLaw : FnScope nLaw ["_law_script"] (defScope sLaw) := ⟨rfl, rfl, rfl, by decide +kernel, rfl, by decide +kernel, by decide +kernel⟩
def spLaw (K : PySem.W.Frag) : Sp := fun vs H Q _ => ∃ (a : Addr) (ns : List Int), vs = [.ref a] ∧ SqL K H a (ns.map V.int) ∧ ns.length ≤ 63 ∧ ∀ H', Q (.bl true) H'
theorem PlAt.of {H : Hp} {rows : List (List Int)} {ss : List Se} (h : StsOk H rows ss) {e : Se} (he : e ∈ ss) : e.2.1 < rows.length ∧ ∃ row x, rows[e.2.1]? = some row ∧ (places row)[e.2.2]? = some x := by
  obtain ⟨row, h1, h2⟩ := h.ok e he
  refine ⟨(List.getElem?_eq_some_iff.mp h1).1, row, _, h1, List.getElem?_eq_getElem ?_⟩
  rw [places_len]
  exact h2
theorem vec_eq {rows : List (List Int)} {q j : Nat} {us ns : List Nat} (hq : q < rows.length) (hl : us.length = rows.length) (hu : ∀ (p v : Nat), us[p]? = some v → VecOk rows q j p v) (ha : Apart rows (firstB rows) q j ns) : ns.set q j = us := by
  apply List.ext_getElem?
  intro p
  by_cases hp : p < rows.length
  · have h1 := List.getElem?_eq_getElem (l := us) (i := p) (by omega)
    have h2 := (hu p _ h1).2
    rw [h1]
    obtain ⟨n, h3, _⟩ := ha.at (i := 0) hp hq
    rw [h3]
    refine congrArg some ?_
    have h4 : ∀ i, i < n ↔ i < us[p] := fun i => by
      obtain ⟨n', h5, h6⟩ := ha.at (i := i) hp hq
      rw [h3] at h5
      rw [Option.some.inj h5, h6, h2 i]
    have a1 := (h4 us[p])
    have a2 := (h4 n)
    omega
  · rw [List.getElem?_eq_none (by rw [List.length_set, ha.1]; omega), List.getElem?_eq_none (by omega)]
def nI (us : List Nat) : List Int := us.map fun n : Nat => (n : Int)
theorem nV_eq (us : List Nat) : nV us = (nI us).map V.int := by
  unfold nV nI
  rw [List.map_map]
  rfl
def pairD (us : List Nat) : PyData := .list [.tuple (iD (nI us)), .tuple (iD (nI us))]
section
variable {P : Program} {w : World} {K : PySem.W.Frag} {mg : Str → Option Value} {base : Heap}
theorem ok_law {f fS fD fK fM fH fSt fPl fMs fFu fBe fVe fW fT fHa fSp fF fV fA fDi fR : Addr} {fd fdS fdD fdK fdM fdH fdSt fdPl fdMs fdFu fdBe fdVe fdW fdT fdHa fdSp fdF fdV fdA fdDi fdR : FuncData}
    (F : Fun K "law" "law" sLaw f fd) 
    (FS : Fun K "_law_deck" "_law_deck" sState fS fdS) (bS : Binds K fdS ["_law_script"] []) (gS : mg "_law_deck" = some (.ref fS))
    (FD : Fun K "_law_next" "_law_next" sDraw fD fdD) (bD : Binds K fdD ["_law_deck_here", "_law_many"] []) (gD : mg "_law_next" = some (.ref fD))
    (FK : Fun K "_law_one" "_law_one" sPick fK fdK) (bK : Binds K fdK ["_law_deck_here", "_law_some"] []) (gK : mg "_law_one" = some (.ref fK))
    (FM : Fun K "_law_shuffled" "_law_shuffled" sMixed fM fdM) (bM : Binds K fdM ["_law_deck_here", "_law_items"] []) (gM : mg "_law_shuffled" = some (.ref fM))
    (FH : Fun K "_law_history" "_law_history" sHist fH fdH) (bH : Binds K fdH ["_law_deck_here", "_law_people", "_law_most"] []) (gH : mg "_law_history" = some (.ref fH))
    (FSt : Fun K "_law_states" "_law_states" sStates fSt fdSt) (bSt : Binds K fdSt ["_law_rows"] []) (gSt : mg "_law_states" = some (.ref fSt))
    (FPl : Fun K "_law_place" "_law_place" sPlace fPl fdPl) (bPl : Binds K fdPl ["_law_rows", "_law_state"] []) (gPl : mg "_law_place" = some (.ref fPl))
    (FMs : Fun K "_law_messages" "_law_messages" sMsgs fMs fdMs) (bMs : Binds K fdMs ["_law_rows"] []) (gMs : mg "_law_messages" = some (.ref fMs))
    (FFu : Fun K "_law_future" "_law_future" sFut fFu fdFu) (bFu : Binds K fdFu ["_law_rows", "_law_state"] []) (gFu : mg "_law_future" = some (.ref fFu))
    (FBe : Fun K "_law_before" "_law_before" sBef fBe fdBe) (bBe : Binds K fdBe ["_law_rows", "_law_one_here", "_law_other"] []) (gBe : mg "_law_before" = some (.ref fBe))
    (FVe : Fun K "_law_vector" "_law_vector" sVec fVe fdVe) (bVe : Binds K fdVe ["_law_rows", "_law_state"] []) (gVe : mg "_law_vector" = some (.ref fVe))
    (FW : Fun K "vector_of" "vector_of" sVecOf fW fdW) (bW : Binds K fdW ["history", "state"] []) (gW : mg "vector_of" = some (.ref fW))
    (FT : Fun K "trips_of" "trips_of" sTrips fT fdT) (bT : Binds K fdT ["history"] []) (gT : mg "trips_of" = some (.ref fT))
    (FHa : Fun K "happened_at" "happened_at" sHap fHa fdHa) (bHa : Binds K fdHa ["history", "event"] []) (gHa : mg "happened_at" = some (.ref fHa))
    (FSp : Fun K "causal_steps" "causal_steps" sSteps fSp fdSp) (bSp : Binds K fdSp ["history", "trips"] []) (gSp : mg "causal_steps" = some (.ref fSp))
    (FF : Fun K "is_received_first" "is_received_first" sFirst fF fdF) (bF : Binds K fdF ["history", "message", "then"] []) (gF : mg "is_received_first" = some (.ref fF))
    (FV : Fun K "vector_by" "vector_by" sVecBy fV fdV) (bV : Binds K fdV ["history", "trips", "steps", "state"] []) (gV : mg "vector_by" = some (.ref fV))
    (FA : Fun K "first_apart" "first_apart" sApart fA fdA) (bA : Binds K fdA ["history", "trips", "steps", "state"] []) (gA : mg "first_apart" = some (.ref fA))
    (FDi : Fun K "distances_to" "distances_to" sDist fDi fdDi) (bDi : Binds K fdDi ["trips", "steps", "state"] []) (gDi : mg "distances_to" = some (.ref fDi))
    (FR : Fun K "is_received_before" "is_received_before" sRB fR fdR) (bR : Binds K fdR ["trip", "state"] []) (gR : mg "is_received_before" = some (.ref fR))
    (ml : mg "len" = none) (mli : mg "list" = none) (mtu : mg "tuple" = none) (mra : mg "range" = none) (mab : mg "abs" = none) (mre : mg "repr" = none) (mi : mg "int" = none) (men : mg "enumerate" = none) (mso : mg "sorted" = none) (man : mg "any" = none) (mma : mg "max" = none) (mmi : mg "min" = none) :
    FnG P w K mg base 6 f fd ["_law_script"] (spLaw K) := by
  have GS : FnOk P w K mg base CX0 1 fS fdS ["_law_script"] (spState K) := ok_state FS ml mab
  have GH : FnOk P w K mg base CX0 3 fH fdH ["_law_deck_here", "_law_people", "_law_most"] (spHist K) := ok_hist FH FD bD gD FM bM gM ml mli mtu mra mi
  have GK : FnOk P w K mg base CX0 2 fK fdK ["_law_deck_here", "_law_some"] (spPick K) := ok_pick FK FD bD gD ml mi
  have GSt : FnOk P w K mg base CX0 1 fSt fdSt ["_law_rows"] (spStates K) := ok_states FSt men mra
  have GVe : FnOk P w K mg base CX0 4 fVe fdVe ["_law_rows", "_law_state"] (spVec K) := ok_vector FVe FBe bBe gBe FFu bFu gFu FPl bPl gPl FMs bMs gMs ml mra mma mmi mli men mso mtu
  have GW : FnOk P w K mg base CX0 5 fW fdW ["history", "state"] (spVecOf K) := ok_vecof FW FT bT gT FHa bHa gHa FSp bSp gSp FF bF gF FV bV gV FA bA gA FDi bDi gDi FR bR gR man mma mtu men mso
  refine okG F scLaw (fun vs H Q E h => ?_) (fun cdv A outer s H vs Q E hg hr h => ?_)
  · obtain ⟨a, ns, rfl, _⟩ := h
    rfl
  · obtain ⟨a, ns, rfl, hS, hlen, q⟩ := h
    have nd := scLaw.nd
    have hr1 : Room 1 _ := hr.mono (by decide)
    have hr2 : Room 2 _ := hr.mono (by decide)
    have hr3 : Room 3 _ := hr.mono (by decide)
    have hr4 : Room 4 _ := hr.mono (by decide)
    refine ⟨_, pss_cons (ps_set (i := 1) nd rfl (.inr rfl) (pe_call GS hr1 (by rfl) gS FS.kp bS .nil pass0 (pa_cons (pv 0) pa_nil)))
      (pss_cons (ps_for PassesOwn.never rfl (pi_range1 (by rfl) mra (pa_cons pe_int pa_nil)) (pg_name (i := 2) nd rfl (.inl rfl))
        (pss_cons (ps_set (i := 3) nd rfl (.inl rfl) (pe_call GH hr3 (by rfl) gH FH.kp bH .nil pass0 (pa_cons (pv 1) (pa_cons pe_int (pa_cons pe_int pa_nil)))))
        (pss_cons (ps_asg (pe_tup (pa_cons (pe_callB (call_repr hg hr.units) (by rfl) mre (by decide +kernel) (pa_cons (pv 3) pa_nil)) (pa_cons (pe_call GSt hr1 (by rfl) gSt FSt.kp bSt .nil pass0 (pa_cons (pv 3) pa_nil)) pa_nil)))
          (pg_tup rfl (pgs_cons (pg_name (i := 4) nd rfl (.inl rfl)) (pgs_cons (pg_name (i := 5) nd rfl (.inr rfl)) pgs_nil))))
        (pss_cons (ps_for PassesOwn.never rfl (pi_list (pe_op op_cat (pe_lst (pa_cons (pe_ix ix_list (pv 5) pe_int (fun _ _ => rfl)) (pa_cons (pe_ix ix_list (pv 5) (pe_un un_neg pe_int) (fun _ _ => rfl)) pa_nil)))
            (pe_lc (own := [("_law_k", 8)]) (g := gName 8) (by rfl) nd (pi_range1 (by rfl) mra (pa_cons pe_int pa_nil)) (blkOk_by (own := [("_law_k", 8)]) (N := nLaw) (sc := defScope sLaw) (by decide +kernel))
              (fun _ _ _ _ _ => pg_name (i := 8) nd rfl (Or.inl rfl)) (fun _ _ _ _ _ => pts_nil) (fun _ _ _ _ _ => pe_call GK hr2 (by rfl) gK FK.kp bK .nil pass0 (pa_cons (pv 1) (pa_cons (pv 5) pa_nil)))))) (pg_name (i := 6) nd rfl (.inl rfl))
          (pss_cons (ps_set (i := 7) nd rfl (.inl rfl) (pe_call GVe hr4 (by rfl) gVe FVe.kp bVe .nil pass0 (pa_cons (pv 3) (pa_cons (pv 6) pa_nil))))
          (pss_cons (ps_if (pt_cmpR op_ne (pe_callB (call_repr hg hr.units) (by rfl) mre (by decide +kernel) (pa_cons (pe_lst (pa_cons (pe_call GW hr (by rfl) gW FW.kp bW .nil pass0 (pa_cons (pv 3) (pa_cons (pv 6) pa_nil))) (pa_cons (pe_call GW hr (by rfl) gW FW.kp bW .nil pass0 (pa_cons (pv 3) (pa_cons (pv 6) pa_nil))) pa_nil))) pa_nil))
              (pe_callB (call_repr hg hr.units) (by rfl) mre (by decide +kernel) (pa_cons (pe_lst (pa_cons (pv 7) (pa_cons (pv 7) pa_nil))) pa_nil)) (nomark _)) (pss_one (ps_ret pe_bl)) pss_nil)
          (pss_one (ps_if (pt_cmpR op_ne (pe_ix ix_tup (pv 7) (pe_ix ix_tup (pv 6) pe_int (fun _ _ => rfl)) (fun _ _ => rfl)) (pe_ix ix_tup (pv 6) pe_int (fun _ _ => rfl)) (nomark _)) (pss_one (ps_ret pe_bl)) pss_nil)))))
        (pss_one (ps_if (pt_cmpR op_ne (pe_callB (call_repr hg hr.units) (by rfl) mre (by decide +kernel) (pa_cons (pv 3) pa_nil)) (pv 4) (nomark _)) (pss_one (ps_ret pe_bl)) pss_nil))))))
      (pss_one (ps_ret pe_bl))), ?_⟩
    refine ⟨.ref a, rfl, a, ns, rfl, hS, hlen, fun H1 st big cel hS1 sm1 _ _ _ => ?_⟩
    refine ⟨3, rfl, by decide, by decide, ?_⟩
    refine for_range (lo := 0) (n := 3) (fun i σ H' => ∃ (x2 x3 x4 x5 x6 x7 x8 : Option V), σ = [some (.ref a), some (.ref st), x2, x3, x4, x5, x6, x7, x8] ∧ StAt H' st big cel (400 * i))
      ⟨_, _, _, _, _, _, _, rfl, hS1⟩ ?_ (fun σ H' _ => q H')
    rintro i σ H2 hi ⟨x2, x3, x4, x5, x6, x7, x8, rfl, hS2⟩
    refine ⟨.ref st, rfl, st, big, cel, _, 6, 60, rfl, by decide, by decide, by decide, hS2, by omega, fun H4 t refs rows nt ht hR hG hS4 k4 => ?_⟩
    have htT : SqT K H4 t (refs.map V.ref) := .inl (.inl ht)
    have h60 : ∀ r ∈ rows, r.length ≤ 60 := fun r hr => by
      obtain ⟨j, hj⟩ := List.getElem?_of_mem hr
      exact (hG.row hj).1
    have hl6 := hG.len
    have hRf := hG.fine (by decide) (by decide)
    have shownR : ∀ {H' : Hp}, TupK K H4 H' → Shown K H' (.ref t) (rD rows) := fun s => hRf.shown (by decide) (by decide) ((hR.keep s).dp (s.1 _ _ htT)) rfl
    refine ⟨.ref t, rfl, _, rD rows, rfl, shownR (.of (Same.refl H4)), .ref t, rfl, t, refs, rows, rfl, htT, hR, hl6.2, h60, fun H5 F0 ss s5 nF0 hF5 hs5 hsl hsu => ⟨sz (by simp), fun T0 nT0 => ?_⟩⟩
    have neF := hS4.ne nF0
    refine ⟨T0, _, rfl, .inl (.inl upd_same), rfl, _, _, rfl, _, _, rfl, rfl, ?_⟩
    have s6 : Same H4 (upd H5 T0 (.tup [V.str (rD rows).shown, V.ref F0])) := s5.trans (Same.new nT0)
    have hF6 := Same.new (o := .tup [V.str (rD rows).shown, V.ref F0]) nT0 _ _ hF5
    have hs6 := hs5.same (Same.new (o := .tup [V.str (rD rows).shown, V.ref F0]) nT0)
    generalize upd H5 T0 (.tup [V.str (rD rows).shown, V.ref F0]) = H6 at s6 hF6 hs6 ⊢
    have hS6 := hS4.same s6
    have hss : 0 < ss.length := by omega
    have h0 := List.getElem?_eq_getElem hss
    generalize ss[0] = e0 at h0
    obtain ⟨init, eL, e1⟩ : ∃ init eL, ss = init ++ [eL] := by
      rcases List.eq_nil_or_concat ss with z | ⟨l, b, z⟩
      · rw [z] at hss; cases hss
      · exact ⟨l, b, by rw [z]; simp⟩
    have hLat : atI (sr ss) (-1) = some (V.ref eL.1) := by
      have e2 : sr ss = sr init ++ [V.ref eL.1] := by
        rw [e1, sr, sr, List.map_append]
        rfl
      rw [e2]
      exact atI_last _ _
    refine ⟨.ref F0, rfl, F0, _, 0, .ref e0.1, rfl, rfl, SqL.of hF6, atI_nat (j := 0) (at_map h0), .ref F0, rfl, 1, rfl, F0, sr ss, -1, .ref eL.1, rfl, rfl, SqL.of hF6, hLat, sz (by simp), fun p1 np1 => ?_⟩
    have s7 := s6.trans (Same.new (o := .lst [V.ref e0.1, V.ref eL.1]) np1)
    have hF7 := Same.new (o := .lst [V.ref e0.1, V.ref eL.1]) np1 _ _ hF6
    have hs7 := hs6.same (Same.new (o := .lst [V.ref e0.1, V.ref eL.1]) np1)
    have hp7 : (upd H6 p1 (.lst [V.ref e0.1, V.ref eL.1])) p1 = some (.lst [V.ref e0.1, V.ref eL.1]) := upd_same
    generalize upd H6 p1 (.lst [V.ref e0.1, V.ref eL.1]) = H7 at s7 hF7 hs7 hp7 ⊢
    have hS7 := hS4.same s7
    have neP : st ≠ p1 ∧ big ≠ p1 ∧ cel ≠ p1 := hS6.ne np1
    refine ⟨6, rfl, by decide, by decide, fun D nD => ?_⟩
    have neD := hS7.ne nD
    refine lc_range (lo := 0) (n := 6) (fun k H' => StAt H' st big cel (400 * i + 300 + k) ∧ Kp st big H7 H' ∧ ∃ tt : List Se, H' D = some (.lst (sr tt)) ∧ (∀ e ∈ tt, e ∈ ss) ∧ tt.length = k)
      ⟨(hS7.same (Same.new nD)).le (by omega) (by omega), Kp.put' nD (.refl H7), [], upd_same, fun e z => (nomatch z), rfl⟩ (fun k H8 hk z => ?_) (fun H8 z => ?_)
    · obtain ⟨hS8, k8, tt, hD8, htt, htl⟩ := z
      have hF8 := k8 _ _ neF.1.symm neF.2.1.symm hF7
      refine ⟨rfl, yesT ⟨.ref st, rfl, .ref F0, rfl, st, big, cel, F0, _, sr ss, rfl, neF.1.symm, neF.2.1.symm, SqL.of hF8, ?_, ?_, hS8, by omega, fun H9 n v hv hS9 k9 => ?_⟩⟩
      · intro z
        unfold sr at z
        rw [List.map_eq_nil_iff] at z
        rw [z] at hss
        cases hss
      · rw [sr, List.length_map]
        omega
      obtain ⟨e, hek, rfl⟩ := of_at_map hv
      refine ⟨_, k9 _ _ neD.1.symm neD.2.1.symm hD8, ?_, StAt.off (hS9.le (by omega) (by omega)) neD, Kp.put' nD (k8.trans k9), tt ++ [e], ?_, fun x hx => ?_, by rw [List.length_append, htl]; rfl⟩
      · rw [sr, List.length_map]
        exact small1000 (by omega)
      · rw [upd_same, sr, sr, List.map_append]
        rfl
      · rcases List.mem_append.mp hx with z | z
        · exact htt x z
        · rw [List.mem_singleton.mp z]
          exact List.mem_of_getElem? hek
    obtain ⟨hS8, k8, tt, hD8, htt, htl⟩ := z
    have hp8 := k8 _ _ neP.1.symm neP.2.1.symm hp7
    refine ⟨p1, D, _, _, rfl, rfl, hp8, hD8, ?_, fun g ng => ?_⟩
    · rw [sr, List.length_map]
      exact sz (by simp; omega)
    obtain ⟨zz, hzz⟩ : ∃ zz : List Se, zz = e0 :: eL :: tt := ⟨_, rfl⟩
    have hzs : ∀ e ∈ zz, e ∈ ss := fun e he => by
      rw [hzz] at he
      rcases List.mem_cons.mp he with z | he
      · rw [z]; exact List.mem_of_getElem? h0
      · rcases List.mem_cons.mp he with z | he
        · rw [z, e1]; exact List.mem_append_right _ List.mem_cons_self
        · exact htt e he
    have ez : [V.ref e0.1, V.ref eL.1] ++ sr tt = sr zz := by rw [hzz]; rfl
    rw [ez]
    have hS9 : StAt (upd H8 g (.lst (sr zz))) st big cel (400 * i + 306) := hS8.same (Same.new ng)
    have k9 : Kp st big H7 (upd H8 g (.lst (sr zz))) := k8.trans (.of (Same.new ng))
    have hg9 : (upd H8 g (.lst (sr zz))) g = some (.lst (sr zz)) := upd_same
    generalize upd H8 g (.lst (sr zz)) = H9 at hS9 k9 hg9 ⊢
    have tk9 : TupK K H4 H9 := (TupK.of s7).trans (hS7.tupK k9)
    have sq9 : ∀ e ∈ ss, SqT K H9 e.1 [.int (e.2.1 : Int), .int (e.2.2 : Int)] := fun e he => (hS7.tupK k9).1 _ _ (.inl (.inl (hs7.tp e he)))
    have hT9 := tk9.1 _ _ htT
    have hR9 := hR.keep tk9
    refine ⟨g, rfl, ⟨_, SqL.of hg9⟩, ?_⟩
    refine for_list (K := K) (a := g) (xs := sr zz) (fun k σ H' => ∃ (z6 z7 z8 : Option V), σ = [some (.ref a), some (.ref st), some (.int (0 + (i : Int))), some (.ref t), some (.str (rD rows).shown), some (.ref F0), z6, z7, z8] ∧ Same H9 H')
      ⟨_, _, _, rfl, Same.refl H9⟩ (fun k σ H' _ ⟨_, _, _, _, z⟩ => SqL.of (z _ _ hg9)) ?_ ?_
    · rintro k v σ H10 hv ⟨z6, z7, z8, rfl, s10⟩
      obtain ⟨e, hek, rfl⟩ := of_at_map hv
      have he := hzs e (List.mem_of_getElem? hek)
      obtain ⟨hql, rowq, y, hrq, hyq⟩ := PlAt.of hs6 he
      have sq : ∀ {H' : Hp}, Same H9 H' → SqT K H' e.1 [.int (e.2.1 : Int), .int (e.2.2 : Int)] := fun s => (TupK.of s).1 _ _ (sq9 e he)
      refine ⟨.ref t, rfl, .ref e.1, rfl, t, e.1, refs, rows, 6, 60, e.2.1, e.2.2, y, rfl, (TupK.of s10).1 _ _ hT9, hR9.keep (.of s10), hG, by decide, by decide, sq s10, ⟨rowq, hrq, hyq⟩, fun H11 T us s11 hT11 hul hus => ?_⟩
      have s911 := s10.trans s11
      refine ⟨.ref t, rfl, .ref e.1, rfl, t, e.1, refs, rows, 6, 60, e.2.1, e.2.2, rfl, (TupK.of s911).1 _ _ hT9, hR9.keep (.of s911), hG, by decide, by decide, hql, sq s911, fun H12 R1 n1 s12 hR12 ha1 => ?_⟩
      have s912 := s911.trans s12
      refine ⟨.ref t, rfl, .ref e.1, rfl, t, e.1, refs, rows, 6, 60, e.2.1, e.2.2, rfl, (TupK.of s912).1 _ _ hT9, hR9.keep (.of s912), hG, by decide, by decide, hql, sq s912, fun H13 R2 n2 s13 hR23 ha2 => ⟨sz (by simp), fun e1 ne1 => ?_⟩⟩
      rw [vec_eq hql hul hus ha1] at hR12
      rw [vec_eq hql hul hus ha2] at hR23
      have hR13 := s13 _ _ hR12
      have s913 := s912.trans s13
      have hT13 := s13 _ _ (s12 _ _ hT11)
      rw [nV_eq] at hR13 hR23 hT13
      have hfin : Fine 2 3000 (pairD us) := by
        have h1 : Fine 1 700 (.tuple (iD (nI us))) := by
          refine (fine_tuple (fine_ints fun n hn => ?_)).mono (Nat.le_refl _) ?_
          · obtain ⟨m, hm, rfl⟩ := List.mem_map.mp hn
            obtain ⟨p, hp⟩ := List.getElem?_of_mem hm
            have := (hus p m hp).1
            have : (m : Int).natAbs ≤ 61 := by omega
            exact Nat.lt_of_le_of_lt this (by decide)
          · rw [nI, List.length_map, hul]
            omega
        exact (fine_list (fine_cons h1 (fine_cons h1 (fine_nil.mono (Nat.zero_le _) (Nat.le_refl _))))).mono (Nat.le_refl _) (by omega)
      have two : ∀ {H' : Hp} {e x y : Addr}, H' e = some (.lst [.ref x, .ref y]) → H' x = some (.tup ((nI us).map V.int)) → H' y = some (.tup ((nI us).map V.int)) → Shown K H' (.ref e) (pairD us) := fun h1 h2 h3 =>
        hfin.shown (by decide) (by decide) (.lst (SqL.of h1) (.cons (dp_tup (.inl (.inl h2))) (.cons (dp_tup (.inl (.inl h3))) .nil))) rfl
      have s14 : Same H13 (upd H13 e1 (.lst [.ref R1, .ref R2])) := Same.new ne1
      refine ⟨_, pairD us, rfl, two upd_same (s14 _ _ hR13) (s14 _ _ hR23), ?_⟩
      have hT14 := s14 _ _ hT13
      have s914 := s913.trans s14
      generalize upd H13 e1 (.lst [.ref R1, .ref R2]) = H14 at s14 hT14 s914 ⊢
      refine ⟨.ref T, rfl, .ref T, rfl, sz (by simp), fun e2 ne2 => ?_⟩
      have s15 : Same H14 (upd H14 e2 (.lst [.ref T, .ref T])) := Same.new ne2
      refine ⟨_, pairD us, rfl, two upd_same (s15 _ _ hT14) (s15 _ _ hT14), rfl, _, rfl, iteNS rfl ?_⟩
      have hT15 := s15 _ _ hT14
      have s915 := s914.trans s15
      generalize upd H14 e2 (.lst [.ref T, .ref T]) = H15 at s15 hT15 s915 ⊢
      have hus2 : us[e.2.1]? = some e.2.2 := by
        rw [← vec_eq hql hul hus ha1, List.getElem?_set_self (by rw [ha1.1]; exact hql)]
      refine ⟨.ref T, rfl, .ref e.1, rfl, e.1, _, 0, .int e.2.1, rfl, rfl, sq s915, rfl, T, _, e.2.1, .int e.2.2, rfl, rfl, .inl (.inl hT15), atI_nat (at_map (at_map hus2)), .ref e.1, rfl, e.1, _, 1, .int e.2.2, rfl, rfl, sq s915, rfl, rfl, _, rfl, ite2 (fun z => ?_) (fun z => ?_)⟩
      · exact absurd z (by simp)
      · exact ⟨_, _, _, rfl, s915⟩
    · rintro σ H10 ⟨z6, z7, z8, rfl, s10⟩
      refine ⟨.ref t, rfl, _, rD rows, rfl, shownR (tk9.trans (.of s10)), _, rfl, rfl, _, rfl, iteNS rfl ?_⟩
      exact ⟨_, _, _, _, _, _, _, rfl, (hS9.same s10).le (by omega) (by omega)⟩
end

end Sv

/-! the end of a row whose law calls repr: the head's call is made where no repr runs -/
namespace Sv
open PySem PySem.Spec PyProof.Rows L2
section
variable {P : Program} {w : World} {K : PySem.W.Frag} {mg mb : Str → Option Value} {k : Nat} {fa a : Addr} {fd : FuncData} {x : Str} {sp : Sp}
  {s₁ : Shared} {vs : List Value} {ns : List Int}
/-- from one abstract heap that tracks nothing but the script -/
theorem headG_core (H : Hp) (KX : K.In s₁.heap) (hns : s₁.heap.Ns mainGlobals mg) (hb : s₁.heap.Ns builtinsNs mb)
    (hbb : ∀ y : Str, y ≠ "__name__" → mb y = bootBuiltins y) (hlim : s₁.heap.NoLimit) (hg : s₁.gens = #[])
    (ha : s₁.heap.get? a = some { cls := .type "list", data := .seq vs.toArray }) (hr : Room k callerA)
    (F : ∀ base : Heap, K.In base → base.Ns mainGlobals mg → FnG P w K mg base k fa fd [x] sp)
    (hbind : ∀ (s : Shared) (u : Value), BindsTo s fd ⟨[u], []⟩ [(x, u)])
    (hO : Only H) (hsp : sp [.ref a] H (fun v _ => v = .bl true) fun _ _ _ => False)
    (hok : HOk P w H s₁.heap) (hA : ∀ b, H b ≠ none → b = a) (hK : H a ≠ none → K.lookup a = none) :
    codeAny (model P w) callerA (.call (.ref fa) ⟨[.ref a], []⟩)
      (fun r s' => r = .ok (.ret (.bool true)) ∧ OldK s₁.heap s'.heap ∧ s'.os = s₁.os ∧ AllBare s'.gens) s₁ := by
  have tr : ∀ {b : Addr} {u : HO}, H b = some u → b = a := fun {b u} q => hA b (by rw [q]; exact Option.some_ne_none u)
  have under : ∀ {b : Addr} {o : Obj}, s₁.heap.get? b = some o → H b = none → (hidT s₁.heap H).get? b = some o := fun e n => hidT_get e n
  have dictN : ∀ {b : Addr} {o : Obj} {es : Array DictEntry} {ep : Nat}, s₁.heap.get? b = some o → o.data = .dict es ep → H b = none := by
    intro b o es ep e d
    rcases hH : H b with _ | u
    · rfl
    · have eb := tr hH
      rw [eb, ha] at e
      rw [← Option.some.inj e] at d
      exact absurd d (by intro z; cases z)
  have nsK : ∀ {b : Addr} {m : Str → Option Value}, s₁.heap.Ns b m → (hidT s₁.heap H).Ns b m := by
    rintro b m ⟨o, es, ep, e, d, r⟩
    exact ⟨o, es, ep, under e (dictN e d), d, r⟩
  have hKb : K.In (hidT s₁.heap H) := by
    intro b o e
    refine under (KX b o e) ?_
    rcases hH : H b with _ | u
    · rfl
    · have eb := tr hH
      rw [eb] at e hH
      rw [hK (by rw [hH]; exact Option.some_ne_none u)] at e
      cases e
  have hM : Mod K mg (hidT s₁.heap H) := by
    obtain ⟨mc, l1, l2⟩ := hlim
    exact ⟨hKb, nsK hns, ⟨mb, nsK hb, hbb⟩, ⟨mc, nsK l1, l2⟩⟩
  have e0 : Env0 P w K mg (hidT s₁.heap H) callerA [] s₁ H := by
    refine ⟨rfl, hM, fun b o e => of_hidT e, Nat.le_of_eq (hidT_size _ _), trivial, fun b hb => ?_, hok, .of_eq hg⟩
    exact absurd (show b ∈ ([] : List Addr) from hb) List.not_mem_nil
  have hrun := (F _ hKb (nsK hns)).run callerA rfl [] s₁ H ⟨[.ref a], []⟩ [.ref a] [.ref a] _ _ hr e0 (hbind s₁ (.ref a)) (.cons rfl .nil) hsp
  refine codeAny_mono hrun fun r s' h => ?_
  match r, h with
  | .error e, h => exact absurd h id
  | .ok .next, h => exact absurd h id
  | .ok .brk, h => exact absurd h id
  | .ok .cont, h => exact absurd h id
  | .ok (.ret u), h =>
    obtain ⟨v, H', os, bare, un, hok', r', q⟩ := h
    obtain rfl : v = .bl true := q
    obtain rfl : u = Value.bool true := r'
    refine ⟨rfl, OldK.of_keep fun b o e => ?_, os, bare⟩
    rcases hO b with z | ⟨ob, xs, z⟩
    · exact un.keep b o e z (fun m => absurd (show b ∈ ([] : List Addr) from m) List.not_mem_nil) List.not_mem_nil
    · obtain ⟨e1, _⟩ := hok b _ z
      obtain ⟨e2, _⟩ := hok' b _ (un.frzs b ob _ z)
      rw [← e, e1]
      exact e2
theorem headG (KX : K.In s₁.heap) (hns : s₁.heap.Ns mainGlobals mg) (hb : s₁.heap.Ns builtinsNs mb)
    (hbb : ∀ y : Str, y ≠ "__name__" → mb y = bootBuiltins y) (hlim : s₁.heap.NoLimit) (hg : s₁.gens = #[])
    (ha : s₁.heap.get? a = some { cls := .type "list", data := .seq vs.toArray }) (hi : IntsAre vs ns) (hl : ns.length ≤ sizeLine) (hr : Room k callerA)
    (F : ∀ base : Heap, K.In base → base.Ns mainGlobals mg → FnG P w K mg base k fa fd [x] sp)
    (hbind : ∀ (s : Shared) (u : Value), BindsTo s fd ⟨[u], []⟩ [(x, u)])
    (hsp : ∀ H : Hp, Only H → SqL K H a (ns.map V.int) → sp [.ref a] H (fun v _ => v = .bl true) fun _ _ _ => False) :
    codeAny (model P w) callerA (.call (.ref fa) ⟨[.ref a], []⟩)
      (fun r s' => r = .ok (.ret (.bool true)) ∧ OldK s₁.heap s'.heap ∧ s'.os = s₁.os ∧ AllBare s'.gens) s₁ := by
  have rv := vals_ints hi
  rcases hk : K.lookup a with _ | o
  · have hE : ∀ b, (if b = a then some (HO.frz { cls := .type "list", data := .seq vs.toArray } (.lst (ns.map V.int))) else none) ≠ none → b = a := by
      intro b z
      by_cases hb : b = a
      · exact hb
      · rw [if_neg hb] at z
        exact absurd rfl z
    have hO : Only fun b => if b = a then some (HO.frz { cls := .type "list", data := .seq vs.toArray } (.lst (ns.map V.int))) else none := by
      intro b
      by_cases hb : b = a
      · exact .inr ⟨_, _, if_pos hb⟩
      · exact .inl (if_neg hb)
    refine headG_core _ KX hns hb hbb hlim hg ha hr F hbind hO (hsp _ hO (.inl (.inr ⟨_, if_pos rfl⟩))) (fun b u z => ?_) hE fun _ => hk
    have hba : b = a := hE b (by rw [z]; exact Option.some_ne_none u)
    subst hba
    obtain rfl := Option.some.inj ((if_pos rfl).symm.trans z)
    exact ⟨ha, by rw [List.length_map]; exact hl, vs, _, rv, ha⟩
  · have e := KX a o hk
    obtain rfl := Option.some.inj (ha.symm.trans e)
    have hO : Only fun _ => none := fun _ => .inl rfl
    refine headG_core (fun _ => none) KX hns hb hbb hlim hg ha hr F hbind hO (hsp _ hO (.inr ⟨_, vs.toArray, _, hk, rfl, rfl, rfl, ?_, by simpa using rv⟩))
      (fun b u z => absurd (show (none : Option HO) = some u from z) (by intro q; cases q)) (fun b z => absurd rfl z) fun z => absurd rfl z
    rw [List.size_toArray, hi.length]
    exact hl
end
/-- the goal that the head leaves -/
theorem walkG {l : PySem.W.OpenLaw} {n k : Nat} {q : Program} {loose : List Str} {XP : (Str → Option Value) → Heap → Prop} {YP : World → Heap → Prop}
    {d : DefRec} {K : Params → PySem.W.Frag} {sp : PySem.W.Frag → Sp} {x : Str}
    (hn : l.most = some n) (hn2 : n ≤ sizeLine) (hdf : d.params.defaults = []) (hr : Room k callerA)
    (hY : ∀ (w : World) (h : Heap), YP w h → (K w.params).In h)
    (F : ∀ (w : World) (mg : Str → Option Value) (fa : Addr) (h : Heap), (K w.params).In h → h.Ns mainGlobals mg → mg d.name = some (.ref fa) →
      ∃ fd : FuncData, (∀ (s : Shared) (u : Value), BindsTo s fd ⟨[u], []⟩ [(x, u)]) ∧
        ∀ base : Heap, (K w.params).In base → base.Ns mainGlobals mg → FnG l.prog w (K w.params) mg base k fa fd [x] (sp (K w.params)))
    (hsp : ∀ (K : PySem.W.Frag) (H : Hp) (a : Addr) (ns : List Int), ns.length ≤ n → Only H → SqL K H a (ns.map V.int) → sp K [.ref a] H (fun v _ => v = .bl true) fun _ _ _ => False) :
    PySem.W.WalkO q loose XP YP l.row.toRowW d [] (fun f vs => PySem.call f vs) := by
  refine Att.attach_call hn hdf fun w s₀ s₁ mg mb fa o pm cd doc a vs ns G Y ho hd hcd hmg hobj hints hlen hg => ?_
  obtain ⟨fd, hbd, hF⟩ := F w mg fa _ (hY w _ Y) G.T.g hmg
  exact headG (hY w _ Y) G.T.g G.T.b G.T.builtins G.T.nolimit hg hobj hints (Nat.le_trans hlen hn2) hr hF hbd fun H h1 h2 => hsp _ H a ns hlen h1 h2
end Sv

namespace Sv
open PySem PySem.Spec PyProof.Rows L2
theorem all_mk {l : PySem.W.OpenLaw} {w : World} {K : PySem.W.Frag} {h : Heap} {mg : Str → Option Value} {fa f0 f1 f2 f3 f4 f5 f6 f7 f8 f9 f10 f11 f12 f13 f14 f15 f16 f17 f18 f19 f20 : Addr} (X : K.In h) (G : h.Ns mainGlobals mg) (hfa : mg "law" = some (.ref fa))
    {od0 an0 od1 an1 od2 an2 od3 an3 od4 an4 od5 an5 od6 an6 od7 an7 od8 an8 od9 an9 od10 an10 od11 an11 od12 an12 od13 an13 od14 an14 od15 an15 od16 an16 od17 an17 od18 an18 od19 an19 od20 an20 : Option Addr} {sl0 sl1 sl2 sl3 sl4 sl5 sl6 sl7 sl8 sl9 sl10 sl11 sl12 sl13 sl14 sl15 sl16 sl17 sl18 sl19 sl20 : Array (Option Value)} {oc0 kV0 dc0 pm0 cd0 ct0 oc1 kV1 dc1 pm1 cd1 ct1 oc2 kV2 dc2 pm2 cd2 ct2 oc3 kV3 dc3 pm3 cd3 ct3 oc4 kV4 dc4 pm4 cd4 ct4 oc5 kV5 dc5 pm5 cd5 ct5 oc6 kV6 dc6 pm6 cd6 ct6 oc7 kV7 dc7 pm7 cd7 ct7 oc8 kV8 dc8 pm8 cd8 ct8 oc9 kV9 dc9 pm9 cd9 ct9 oc10 kV10 dc10 pm10 cd10 ct10 oc11 kV11 dc11 pm11 cd11 ct11 oc12 kV12 dc12 pm12 cd12 ct12 oc13 kV13 dc13 pm13 cd13 ct13 oc14 kV14 dc14 pm14 cd14 ct14 oc15 kV15 dc15 pm15 cd15 ct15 oc16 kV16 dc16 pm16 cd16 ct16 oc17 kV17 dc17 pm17 cd17 ct17 oc18 kV18 dc18 pm18 cd18 ct18 oc19 kV19 dc19 pm19 cd19 ct19 oc20 kV20 dc20 pm20 cd20 ct20 : Value}
    (a0 : PySem.W.nsIn K mainGlobals "_law_deck" = some (some (.ref f0))) (l0 : K.lookup f0 = some ⟨oc0, od0, .func (PySem.W.fnOf "_law_deck" "_law_deck" (defArgs sState) (defBody sState) (defScope sState) .none kV0 dc0 pm0 an0 cd0 ct0), sl0⟩) (c0 : PySem.W.codeIn K cd0 "_law_deck" = true) (k0 : PySem.W.keepIn K (.ref f0) = true)
    (a1 : PySem.W.nsIn K mainGlobals "_law_next" = some (some (.ref f1))) (l1 : K.lookup f1 = some ⟨oc1, od1, .func (PySem.W.fnOf "_law_next" "_law_next" (defArgs sDraw) (defBody sDraw) (defScope sDraw) .none kV1 dc1 pm1 an1 cd1 ct1), sl1⟩) (c1 : PySem.W.codeIn K cd1 "_law_next" = true) (k1 : PySem.W.keepIn K (.ref f1) = true)
    (a2 : PySem.W.nsIn K mainGlobals "_law_one" = some (some (.ref f2))) (l2 : K.lookup f2 = some ⟨oc2, od2, .func (PySem.W.fnOf "_law_one" "_law_one" (defArgs sPick) (defBody sPick) (defScope sPick) .none kV2 dc2 pm2 an2 cd2 ct2), sl2⟩) (c2 : PySem.W.codeIn K cd2 "_law_one" = true) (k2 : PySem.W.keepIn K (.ref f2) = true)
    (a3 : PySem.W.nsIn K mainGlobals "_law_shuffled" = some (some (.ref f3))) (l3 : K.lookup f3 = some ⟨oc3, od3, .func (PySem.W.fnOf "_law_shuffled" "_law_shuffled" (defArgs sMixed) (defBody sMixed) (defScope sMixed) .none kV3 dc3 pm3 an3 cd3 ct3), sl3⟩) (c3 : PySem.W.codeIn K cd3 "_law_shuffled" = true) (k3 : PySem.W.keepIn K (.ref f3) = true)
    (a4 : PySem.W.nsIn K mainGlobals "_law_history" = some (some (.ref f4))) (l4 : K.lookup f4 = some ⟨oc4, od4, .func (PySem.W.fnOf "_law_history" "_law_history" (defArgs sHist) (defBody sHist) (defScope sHist) .none kV4 dc4 pm4 an4 cd4 ct4), sl4⟩) (c4 : PySem.W.codeIn K cd4 "_law_history" = true) (k4 : PySem.W.keepIn K (.ref f4) = true)
    (a5 : PySem.W.nsIn K mainGlobals "_law_states" = some (some (.ref f5))) (l5 : K.lookup f5 = some ⟨oc5, od5, .func (PySem.W.fnOf "_law_states" "_law_states" (defArgs sStates) (defBody sStates) (defScope sStates) .none kV5 dc5 pm5 an5 cd5 ct5), sl5⟩) (c5 : PySem.W.codeIn K cd5 "_law_states" = true) (k5 : PySem.W.keepIn K (.ref f5) = true)
    (a6 : PySem.W.nsIn K mainGlobals "_law_place" = some (some (.ref f6))) (l6 : K.lookup f6 = some ⟨oc6, od6, .func (PySem.W.fnOf "_law_place" "_law_place" (defArgs sPlace) (defBody sPlace) (defScope sPlace) .none kV6 dc6 pm6 an6 cd6 ct6), sl6⟩) (c6 : PySem.W.codeIn K cd6 "_law_place" = true) (k6 : PySem.W.keepIn K (.ref f6) = true)
    (a7 : PySem.W.nsIn K mainGlobals "_law_messages" = some (some (.ref f7))) (l7 : K.lookup f7 = some ⟨oc7, od7, .func (PySem.W.fnOf "_law_messages" "_law_messages" (defArgs sMsgs) (defBody sMsgs) (defScope sMsgs) .none kV7 dc7 pm7 an7 cd7 ct7), sl7⟩) (c7 : PySem.W.codeIn K cd7 "_law_messages" = true) (k7 : PySem.W.keepIn K (.ref f7) = true)
    (a8 : PySem.W.nsIn K mainGlobals "_law_future" = some (some (.ref f8))) (l8 : K.lookup f8 = some ⟨oc8, od8, .func (PySem.W.fnOf "_law_future" "_law_future" (defArgs sFut) (defBody sFut) (defScope sFut) .none kV8 dc8 pm8 an8 cd8 ct8), sl8⟩) (c8 : PySem.W.codeIn K cd8 "_law_future" = true) (k8 : PySem.W.keepIn K (.ref f8) = true)
    (a9 : PySem.W.nsIn K mainGlobals "_law_before" = some (some (.ref f9))) (l9 : K.lookup f9 = some ⟨oc9, od9, .func (PySem.W.fnOf "_law_before" "_law_before" (defArgs sBef) (defBody sBef) (defScope sBef) .none kV9 dc9 pm9 an9 cd9 ct9), sl9⟩) (c9 : PySem.W.codeIn K cd9 "_law_before" = true) (k9 : PySem.W.keepIn K (.ref f9) = true)
    (a10 : PySem.W.nsIn K mainGlobals "_law_vector" = some (some (.ref f10))) (l10 : K.lookup f10 = some ⟨oc10, od10, .func (PySem.W.fnOf "_law_vector" "_law_vector" (defArgs sVec) (defBody sVec) (defScope sVec) .none kV10 dc10 pm10 an10 cd10 ct10), sl10⟩) (c10 : PySem.W.codeIn K cd10 "_law_vector" = true) (k10 : PySem.W.keepIn K (.ref f10) = true)
    (a11 : PySem.W.nsIn K mainGlobals "vector_of" = some (some (.ref f11))) (l11 : K.lookup f11 = some ⟨oc11, od11, .func (PySem.W.fnOf "vector_of" "vector_of" (defArgs sVecOf) (defBody sVecOf) (defScope sVecOf) .none kV11 dc11 pm11 an11 cd11 ct11), sl11⟩) (c11 : PySem.W.codeIn K cd11 "vector_of" = true) (k11 : PySem.W.keepIn K (.ref f11) = true)
    (a12 : PySem.W.nsIn K mainGlobals "trips_of" = some (some (.ref f12))) (l12 : K.lookup f12 = some ⟨oc12, od12, .func (PySem.W.fnOf "trips_of" "trips_of" (defArgs sTrips) (defBody sTrips) (defScope sTrips) .none kV12 dc12 pm12 an12 cd12 ct12), sl12⟩) (c12 : PySem.W.codeIn K cd12 "trips_of" = true) (k12 : PySem.W.keepIn K (.ref f12) = true)
    (a13 : PySem.W.nsIn K mainGlobals "happened_at" = some (some (.ref f13))) (l13 : K.lookup f13 = some ⟨oc13, od13, .func (PySem.W.fnOf "happened_at" "happened_at" (defArgs sHap) (defBody sHap) (defScope sHap) .none kV13 dc13 pm13 an13 cd13 ct13), sl13⟩) (c13 : PySem.W.codeIn K cd13 "happened_at" = true) (k13 : PySem.W.keepIn K (.ref f13) = true)
    (a14 : PySem.W.nsIn K mainGlobals "causal_steps" = some (some (.ref f14))) (l14 : K.lookup f14 = some ⟨oc14, od14, .func (PySem.W.fnOf "causal_steps" "causal_steps" (defArgs sSteps) (defBody sSteps) (defScope sSteps) .none kV14 dc14 pm14 an14 cd14 ct14), sl14⟩) (c14 : PySem.W.codeIn K cd14 "causal_steps" = true) (k14 : PySem.W.keepIn K (.ref f14) = true)
    (a15 : PySem.W.nsIn K mainGlobals "is_received_first" = some (some (.ref f15))) (l15 : K.lookup f15 = some ⟨oc15, od15, .func (PySem.W.fnOf "is_received_first" "is_received_first" (defArgs sFirst) (defBody sFirst) (defScope sFirst) .none kV15 dc15 pm15 an15 cd15 ct15), sl15⟩) (c15 : PySem.W.codeIn K cd15 "is_received_first" = true) (k15 : PySem.W.keepIn K (.ref f15) = true)
    (a16 : PySem.W.nsIn K mainGlobals "vector_by" = some (some (.ref f16))) (l16 : K.lookup f16 = some ⟨oc16, od16, .func (PySem.W.fnOf "vector_by" "vector_by" (defArgs sVecBy) (defBody sVecBy) (defScope sVecBy) .none kV16 dc16 pm16 an16 cd16 ct16), sl16⟩) (c16 : PySem.W.codeIn K cd16 "vector_by" = true) (k16 : PySem.W.keepIn K (.ref f16) = true)
    (a17 : PySem.W.nsIn K mainGlobals "first_apart" = some (some (.ref f17))) (l17 : K.lookup f17 = some ⟨oc17, od17, .func (PySem.W.fnOf "first_apart" "first_apart" (defArgs sApart) (defBody sApart) (defScope sApart) .none kV17 dc17 pm17 an17 cd17 ct17), sl17⟩) (c17 : PySem.W.codeIn K cd17 "first_apart" = true) (k17 : PySem.W.keepIn K (.ref f17) = true)
    (a18 : PySem.W.nsIn K mainGlobals "distances_to" = some (some (.ref f18))) (l18 : K.lookup f18 = some ⟨oc18, od18, .func (PySem.W.fnOf "distances_to" "distances_to" (defArgs sDist) (defBody sDist) (defScope sDist) .none kV18 dc18 pm18 an18 cd18 ct18), sl18⟩) (c18 : PySem.W.codeIn K cd18 "distances_to" = true) (k18 : PySem.W.keepIn K (.ref f18) = true)
    (a19 : PySem.W.nsIn K mainGlobals "is_received_before" = some (some (.ref f19))) (l19 : K.lookup f19 = some ⟨oc19, od19, .func (PySem.W.fnOf "is_received_before" "is_received_before" (defArgs sRB) (defBody sRB) (defScope sRB) .none kV19 dc19 pm19 an19 cd19 ct19), sl19⟩) (c19 : PySem.W.codeIn K cd19 "is_received_before" = true) (k19 : PySem.W.keepIn K (.ref f19) = true)
    (a20 : PySem.W.nsIn K mainGlobals "law" = some (some (.ref f20))) (l20 : K.lookup f20 = some ⟨oc20, od20, .func (PySem.W.fnOf "law" "law" (defArgs sLaw) (defBody sLaw) (defScope sLaw) .none kV20 dc20 pm20 an20 cd20 ct20), sl20⟩) (c20 : PySem.W.codeIn K cd20 "law" = true) (k20 : PySem.W.keepIn K (.ref f20) = true)
    (z0 : PySem.W.nsIn K mainGlobals "len" = some none) (z1 : PySem.W.nsIn K mainGlobals "list" = some none) (z2 : PySem.W.nsIn K mainGlobals "tuple" = some none) (z3 : PySem.W.nsIn K mainGlobals "range" = some none) (z4 : PySem.W.nsIn K mainGlobals "abs" = some none) (z5 : PySem.W.nsIn K mainGlobals "repr" = some none) (z6 : PySem.W.nsIn K mainGlobals "int" = some none) (z7 : PySem.W.nsIn K mainGlobals "enumerate" = some none) (z8 : PySem.W.nsIn K mainGlobals "sorted" = some none) (z9 : PySem.W.nsIn K mainGlobals "any" = some none) (z10 : PySem.W.nsIn K mainGlobals "max" = some none) (z11 : PySem.W.nsIn K mainGlobals "min" = some none) :
    ∃ fd : FuncData, (∀ (s : Shared) (v : Value), BindsTo s fd ⟨[v], []⟩ [("_law_script", v)]) ∧ ∀ base : Heap, K.In base → base.Ns mainGlobals mg → FnG l.prog w K mg base 6 fa fd ["_law_script"] (spLaw K) := by
  have e := hfa.symm.trans (PySem.W.mg_of X G a20)
  cases e
  have F0 := fun_mk (st := sState) l0 c0 k0
  have b0 := F0.binds (ps := ["_law_script"]) fun _ _ _ _ _ _ us hl => match us, hl with | [_], _ => rfl
  have F1 := fun_mk (st := sDraw) l1 c1 k1
  have b1 := F1.binds (ps := ["_law_deck_here", "_law_many"]) fun _ _ _ _ _ _ us hl => match us, hl with | [_, _], _ => rfl
  have F2 := fun_mk (st := sPick) l2 c2 k2
  have b2 := F2.binds (ps := ["_law_deck_here", "_law_some"]) fun _ _ _ _ _ _ us hl => match us, hl with | [_, _], _ => rfl
  have F3 := fun_mk (st := sMixed) l3 c3 k3
  have b3 := F3.binds (ps := ["_law_deck_here", "_law_items"]) fun _ _ _ _ _ _ us hl => match us, hl with | [_, _], _ => rfl
  have F4 := fun_mk (st := sHist) l4 c4 k4
  have b4 := F4.binds (ps := ["_law_deck_here", "_law_people", "_law_most"]) fun _ _ _ _ _ _ us hl => match us, hl with | [_, _, _], _ => rfl
  have F5 := fun_mk (st := sStates) l5 c5 k5
  have b5 := F5.binds (ps := ["_law_rows"]) fun _ _ _ _ _ _ us hl => match us, hl with | [_], _ => rfl
  have F6 := fun_mk (st := sPlace) l6 c6 k6
  have b6 := F6.binds (ps := ["_law_rows", "_law_state"]) fun _ _ _ _ _ _ us hl => match us, hl with | [_, _], _ => rfl
  have F7 := fun_mk (st := sMsgs) l7 c7 k7
  have b7 := F7.binds (ps := ["_law_rows"]) fun _ _ _ _ _ _ us hl => match us, hl with | [_], _ => rfl
  have F8 := fun_mk (st := sFut) l8 c8 k8
  have b8 := F8.binds (ps := ["_law_rows", "_law_state"]) fun _ _ _ _ _ _ us hl => match us, hl with | [_, _], _ => rfl
  have F9 := fun_mk (st := sBef) l9 c9 k9
  have b9 := F9.binds (ps := ["_law_rows", "_law_one_here", "_law_other"]) fun _ _ _ _ _ _ us hl => match us, hl with | [_, _, _], _ => rfl
  have F10 := fun_mk (st := sVec) l10 c10 k10
  have b10 := F10.binds (ps := ["_law_rows", "_law_state"]) fun _ _ _ _ _ _ us hl => match us, hl with | [_, _], _ => rfl
  have F11 := fun_mk (st := sVecOf) l11 c11 k11
  have b11 := F11.binds (ps := ["history", "state"]) fun _ _ _ _ _ _ us hl => match us, hl with | [_, _], _ => rfl
  have F12 := fun_mk (st := sTrips) l12 c12 k12
  have b12 := F12.binds (ps := ["history"]) fun _ _ _ _ _ _ us hl => match us, hl with | [_], _ => rfl
  have F13 := fun_mk (st := sHap) l13 c13 k13
  have b13 := F13.binds (ps := ["history", "event"]) fun _ _ _ _ _ _ us hl => match us, hl with | [_, _], _ => rfl
  have F14 := fun_mk (st := sSteps) l14 c14 k14
  have b14 := F14.binds (ps := ["history", "trips"]) fun _ _ _ _ _ _ us hl => match us, hl with | [_, _], _ => rfl
  have F15 := fun_mk (st := sFirst) l15 c15 k15
  have b15 := F15.binds (ps := ["history", "message", "then"]) fun _ _ _ _ _ _ us hl => match us, hl with | [_, _, _], _ => rfl
  have F16 := fun_mk (st := sVecBy) l16 c16 k16
  have b16 := F16.binds (ps := ["history", "trips", "steps", "state"]) fun _ _ _ _ _ _ us hl => match us, hl with | [_, _, _, _], _ => rfl
  have F17 := fun_mk (st := sApart) l17 c17 k17
  have b17 := F17.binds (ps := ["history", "trips", "steps", "state"]) fun _ _ _ _ _ _ us hl => match us, hl with | [_, _, _, _], _ => rfl
  have F18 := fun_mk (st := sDist) l18 c18 k18
  have b18 := F18.binds (ps := ["trips", "steps", "state"]) fun _ _ _ _ _ _ us hl => match us, hl with | [_, _, _], _ => rfl
  have F19 := fun_mk (st := sRB) l19 c19 k19
  have b19 := F19.binds (ps := ["trip", "state"]) fun _ _ _ _ _ _ us hl => match us, hl with | [_, _], _ => rfl
  have F20 := fun_mk (st := sLaw) l20 c20 k20
  exact ⟨PySem.W.fnOf "law" "law" (defArgs sLaw) (defBody sLaw) (defScope sLaw) .none kV20 dc20 pm20 an20 cd20 ct20, fun s v => .of_eq rfl, fun base _ _ => ok_law F20 F0 b0 (PySem.W.mg_of X G a0) F1 b1 (PySem.W.mg_of X G a1) F2 b2 (PySem.W.mg_of X G a2) F3 b3 (PySem.W.mg_of X G a3) F4 b4 (PySem.W.mg_of X G a4) F5 b5 (PySem.W.mg_of X G a5) F6 b6 (PySem.W.mg_of X G a6) F7 b7 (PySem.W.mg_of X G a7) F8 b8 (PySem.W.mg_of X G a8) F9 b9 (PySem.W.mg_of X G a9) F10 b10 (PySem.W.mg_of X G a10) F11 b11 (PySem.W.mg_of X G a11) F12 b12 (PySem.W.mg_of X G a12) F13 b13 (PySem.W.mg_of X G a13) F14 b14 (PySem.W.mg_of X G a14) F15 b15 (PySem.W.mg_of X G a15) F16 b16 (PySem.W.mg_of X G a16) F17 b17 (PySem.W.mg_of X G a17) F18 b18 (PySem.W.mg_of X G a18) F19 b19 (PySem.W.mg_of X G a19) (PySem.W.mg_none_of X G z0) (PySem.W.mg_none_of X G z1) (PySem.W.mg_none_of X G z2) (PySem.W.mg_none_of X G z3) (PySem.W.mg_none_of X G z4) (PySem.W.mg_none_of X G z5) (PySem.W.mg_none_of X G z6) (PySem.W.mg_none_of X G z7) (PySem.W.mg_none_of X G z8) (PySem.W.mg_none_of X G z9) (PySem.W.mg_none_of X G z10) (PySem.W.mg_none_of X G z11)⟩
end Sv

open PySem PySem.W PyProof.Rows in
set_option maxRecDepth 100000 in
set_option maxHeartbeats 0 in
theorem PySem.Challenge.cw_savelines_k53_vectors_of_states_holds : PySem.Challenge.rw_savelines_k53_vectors_of_states.Holds := by
  w_on; o_law; k_head; (case hw => w_witness2)
  k_fill
  refine Sv.walkG (l := PySem.Challenge.rw_savelines_k53_vectors_of_states) (n := 63) (k := 6) (x := "_law_script") (sp := Sv.spLaw) rfl (by decide) rfl ⟨rfl, by decide, by decide⟩ (fun w h Y => PySem.W.kIn_of Y) ?F (fun K H a ns hl _ hS => ⟨a, ns, rfl, hS, hl, fun _ => rfl⟩)
  case F =>
    intro w mg fa h KX G hmg
    refine' Sv.all_mk KX G hmg ?a0 ?l0 ?c0 ?k0 ?a1 ?l1 ?c1 ?k1 ?a2 ?l2 ?c2 ?k2 ?a3 ?l3 ?c3 ?k3 ?a4 ?l4 ?c4 ?k4 ?a5 ?l5 ?c5 ?k5 ?a6 ?l6 ?c6 ?k6 ?a7 ?l7 ?c7 ?k7 ?a8 ?l8 ?c8 ?k8 ?a9 ?l9 ?c9 ?k9 ?a10 ?l10 ?c10 ?k10 ?a11 ?l11 ?c11 ?k11 ?a12 ?l12 ?c12 ?k12 ?a13 ?l13 ?c13 ?k13 ?a14 ?l14 ?c14 ?k14 ?a15 ?l15 ?c15 ?k15 ?a16 ?l16 ?c16 ?k16 ?a17 ?l17 ?c17 ?k17 ?a18 ?l18 ?c18 ?k18 ?a19 ?l19 ?c19 ?k19 ?a20 ?l20 ?c20 ?k20 ?z0 ?z1 ?z2 ?z3 ?z4 ?z5 ?z6 ?z7 ?z8 ?z9 ?z10 ?z11
    (case a0 => k_is)
    (case l0 => k_is)
    (case c0 => k_is)
    (case k0 => k_is)
    (case a1 => k_is)
    (case l1 => k_is)
    (case c1 => k_is)
    (case k1 => k_is)
    (case a2 => k_is)
    (case l2 => k_is)
    (case c2 => k_is)
    (case k2 => k_is)
    (case a3 => k_is)
    (case l3 => k_is)
    (case c3 => k_is)
    (case k3 => k_is)
    (case a4 => k_is)
    (case l4 => k_is)
    (case c4 => k_is)
    (case k4 => k_is)
    (case a5 => k_is)
    (case l5 => k_is)
    (case c5 => k_is)
    (case k5 => k_is)
    (case a6 => k_is)
    (case l6 => k_is)
    (case c6 => k_is)
    (case k6 => k_is)
    (case a7 => k_is)
    (case l7 => k_is)
    (case c7 => k_is)
    (case k7 => k_is)
    (case a8 => k_is)
    (case l8 => k_is)
    (case c8 => k_is)
    (case k8 => k_is)
    (case a9 => k_is)
    (case l9 => k_is)
    (case c9 => k_is)
    (case k9 => k_is)
    (case a10 => k_is)
    (case l10 => k_is)
    (case c10 => k_is)
    (case k10 => k_is)
    (case a11 => k_is)
    (case l11 => k_is)
    (case c11 => k_is)
    (case k11 => k_is)
    (case a12 => k_is)
    (case l12 => k_is)
    (case c12 => k_is)
    (case k12 => k_is)
    (case a13 => k_is)
    (case l13 => k_is)
    (case c13 => k_is)
    (case k13 => k_is)
    (case a14 => k_is)
    (case l14 => k_is)
    (case c14 => k_is)
    (case k14 => k_is)
    (case a15 => k_is)
    (case l15 => k_is)
    (case c15 => k_is)
    (case k15 => k_is)
    (case a16 => k_is)
    (case l16 => k_is)
    (case c16 => k_is)
    (case k16 => k_is)
    (case a17 => k_is)
    (case l17 => k_is)
    (case c17 => k_is)
    (case k17 => k_is)
    (case a18 => k_is)
    (case l18 => k_is)
    (case c18 => k_is)
    (case k18 => k_is)
    (case a19 => k_is)
    (case l19 => k_is)
    (case c19 => k_is)
    (case k19 => k_is)
    (case a20 => k_is)
    (case l20 => k_is)
    (case c20 => k_is)
    (case k20 => k_is)
    (case z0 => k_is)
    (case z1 => k_is)
    (case z2 => k_is)
    (case z3 => k_is)
    (case z4 => k_is)
    (case z5 => k_is)
    (case z6 => k_is)
    (case z7 => k_is)
    (case z8 => k_is)
    (case z9 => k_is)
    (case z10 => k_is)
    (case z11 => k_is)
