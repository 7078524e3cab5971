import PyProof.Rows.All
import Wide.All
import OpenK.AllK
import Wide.FinOn
import PyProof.EqAt
import PyProof.EqKinds
import PyProof.TupleCall
import HandS.ForMost
import HandS.Conv
import HandS.Style
import HandS.Deep
import KE.DataFind
import PyProof.ReprRoads
import HandS.Zip
import HandS.Walk
import HandS.Comp
import HandS.DictComp
import HandS.RaiseMore
import PyProof.CallFns
import KE.GoesEnum
import HandS.Star
import HandS.Iter
import HandS.IsInst
import HandS.Strs
import HandS.TupMul
import HandS.TupAny
import PyProof.ZipIter
import HandS.Zip0
import HandS.List
import HandS.TupSets
import HandS.SetBool
import KE.GoesMore
import PyProof.P3In
import PyProof.Rows.InDataRows
import HandS.SetKeys
import HandS.NoneIn
import HandS.SetFor
import HandS.SortRule
import KE.DataMinMax
import HandS.SortKw
import PySem.Challenge.RW_savelines_k39_fall_back_by_search
set_option Elab.async false
set_option linter.all false
set_option maxRecDepth 100000
/-! repr where nothing of repr is under way: promises that know the guards; text of data; more of tuples. -/
namespace Sv
open PySem PySem.Spec PyProof.Rows L2

/-- a def's promise for calls made where no repr runs -/
structure FnG (P : Program) (w : World) (K : PySem.W.Frag) (mg : Str → Option Value) (base : Heap)
    (k : Nat) (f : Addr) (fd : FuncData) (ps : List Str) (sp : Sp) : Prop where
  len : ∀ vs H Q E, sp vs H Q E → vs.length = ps.length
  run : ∀ (A : Around), A.guards = some [] →
    ∀ (outer : List Env) (s : Shared) (H : Hp) (args : Args) (us : List Value) (vs : List V) (Q : VK) (E : XK),
    Room k A → Env0 P w K mg base A outer s H → BindsTo s fd args (ps.zip us) → Vals vs us → sp vs H Q E →
    codeAny (model P w) A (.call (.ref f) args) (CR CX0 outer P w H s Q E) s

section
variable {P : Program} {w : World} {K : PySem.W.Frag} {mg : Str → Option Value} {base : Heap}

theorem FnG.ofOk {k : Nat} {f : Addr} {fd : FuncData} {ps : List Str} {sp : Sp}
    (F : FnOk P w K mg base CX0 k f fd ps sp) : FnG P w K mg base k f fd ps sp :=
  ⟨F.len, fun A _ outer s H args us vs Q E => F.run A outer s H args us vs Q E⟩

/-- the def's body, where no repr runs -/
theorem okG {x qual : Str} {st : Stmt} {f : Addr} {fd : FuncData} {N ps : List Str} {k : Nat} {sp : Sp}
    (F : Fun K x qual st f fd) (S : FnScope N ps (defScope st)) (len : ∀ vs H Q E, sp vs H Q E → vs.length = ps.length)
    (hbody : ∀ (cdv : Value) (A : Around) (outer : List Env) (s : Shared) (H : Hp) (vs : List V) (Q : VK) (E : XK),
      A.guards = some [] → Room k (A.deeper (envOfC qual (defScope st) s.heap.objs.size f cdv)) → sp vs H Q E →
      ∃ t, PSs (cxOf CX0 P w K mg base N qual (defScope st) f cdv A outer s H E).nox (defBody st) t ∧
        t { nx := fun _ H' => Q .non H', rt := Q } (start N vs) H) :
    FnG P w K mg base (k + 1) f fd ps sp := by
  obtain ⟨oc, od, kV, doc, pm, an, cdv, ct, osl, rfl, lk, hcd⟩ := F.ex
  refine ⟨len, fun A hg outer s H args us vs Q E hr e0 hb r hsp => ?_⟩
  have hl := len vs H Q E hsp
  have KX : K.In s.heap := e0.mod.kin.keeps fun b o e => And.left (e0.bs b o e)
  have lim := e0.mod.nolimit.keeps fun b o e => And.left (e0.bs b o e)
  have hkind : ∀ y ∈ ps.zip us, (defScope st).names.lookup y.1 = some .local ∨
      ((defScope st).names.lookup y.1 = some .cell ∧
        ((cellsFrom (s.heap.objs.size + 1) (defScope st).names []).lookup y.1).isSome = true) := by
    rintro ⟨n, v⟩ hy
    cases S.par n (List.of_mem_zip hy).1 with
    | inl q => exact Or.inl q
    | inr q => exact Or.inr ⟨q, PySem.W.cellsFrom_some _ _ _ (Or.inl q)⟩
  refine codeAny_call_function hr.depth (KX _ _ lk) rfl S.co S.gen rfl (PySem.W.codeRec_of KX hcd) (hb _ _ _ _ ?_)
  refine wpAny_newFunctionEnv_cells S.kind hkind fun env he s1 X1 => ?_
  subst he
  refine ⟨lim.keeps X1.toInCall.keep, codeAny_func ?_⟩
  obtain ⟨t, ht0, hq⟩ := hbody cdv A outer s H vs Q E hg (hr.deeper _) hsp
  have ht := ht0.nox
  have I0 := inv_start (CX := CX0) (E := E) S hr.hd e0 hl r X1
  refine wpAny_mono (ht.run [] s1 (start N vs) H _ I0 hq) (fun fl s' hs => ?_) (fun e s' hs => hs)
  cases fl with
  | ret u =>
    obtain ⟨v, σ', H', J, rv, q⟩ := hs
    exact ⟨v, H', J.os, J.bare, J.base, J.hok, rv, q⟩
  | next =>
    obtain ⟨σ', H', J, q⟩ := hs
    exact ⟨V.non, H', J.os, J.bare, J.base, J.hok, rfl, q⟩
  | brk =>
    obtain ⟨σ', H', J, q⟩ := hs
    exact q.elim
  | cont =>
    obtain ⟨σ', H', J, q⟩ := hs
    exact q.elim
end

section
variable {X : Cx} {k : Nat} {f : Addr} {fd : FuncData} {ps : List Str} {sp : Sp} {dvs : List V} {ds : List Value}
  {E : XK} {x : Str} {p pos : Pos} {e : Expr} {es : List Expr} {t : TA}

/-- f(e, ..) of such a def -/
theorem pe_callG (F : FnG X.prog X.w X.K X.mg X.base k f fd ps sp) (hgd : X.A.guards = some []) (hr : Room k X.A) (hg : Gl X x)
    (hm : X.mg x = some (.ref f)) (hk : PySem.W.keepIn X.K (.ref f) = true) (hb : Binds X.K fd ps ds) (hd : Vals dvs ds)
    (hx : Passes CX0 X E) (ha : PA X (e :: es) t) (hdb : (x == ("__debug__" : Str)) = false := by decide)
    (he : starEach (e :: es) X.env = (false, eval e X.env) :: starEach es X.env := by rfl)
    (hpl : (backTo pos (starEach es X.env)).any (·.1) = false := by rfl) :
    PE X (.Call (.Name x p) (e :: es) [] pos) (tCall sp dvs E t) := by
  refine ⟨fun pins s σ H Q I h => wpAny_Call_Name_kw (ld_glob I hg hm ?_ hdb)⟩
  refine PySem.W.callWith_K (h₀ := X.base) I.ok.mod.kin hk
    (thn (ha.run pos pins s σ H _ I h) fun us s1 ⟨vs, H1, I1, r, q⟩ => ⟨I1.kIn, ?_⟩) he hpl
  have r2 : Vals (vs ++ dvs) (us ++ ds) := r.append hd
  have hl : (us ++ ds).length = ps.length := r2.length.symm.trans (F.len _ _ _ _ q)
  refine wpAny_call (codeAny_mono (F.run X.A hgd X.stack s1 H1 ⟨us, []⟩ (us ++ ds) (vs ++ dvs) Q E hr I1.env0
    (hb s1 us I1.kIn hl) r2 q) fun res s' hq => ?_)
  cases res with
  | error e => exact hx pins σ H1 s1 e s' I1 hq
  | ok fl =>
    cases fl with
    | ret u => exact I1.after hq
    | next => exact hq.elim
    | brk => exact hq.elim
    | cont => exact hq.elim
end

/-! ### the text of data -/
section
variable {X : Cx}
def Shown (K : PySem.W.Frag) (H : Hp) (v : V) (d : PyData) : Prop :=
  Dp K H v d ∧ isDisplay d = true ∧ d.showable = true ∧ d.hasDict = false ∧ d.depth ≤ 60 ∧ d.shown.length ≤ sizeLine
/-- repr(x) of lists and tuples -/
theorem call_repr (hgd : X.A.guards = some []) (hu : X.A.units + 64 < cLine) : CallR X (.builtin "repr")
    (fun xs H Q => ∃ v d, xs = [v] ∧ Shown X.K H v d ∧ Q (.str d.shown) H) := by
  intro pins s σ H xs us Q I r h
  obtain ⟨v, d, rfl, ⟨hd, h1, h2, h3, h4, h5⟩, q⟩ := h
  obtain ⟨u, rfl, ru⟩ := vals1 r
  obtain ⟨as, R⟩ := Dp.reads I d v u hd ru
  obtain ⟨a, rfl⟩ := isRef_of_reads R h1
  refine repr_of_reads' R h2 (PyData.noDict_hsm h3) hgd (by omega) (fun _ _ e => e) (fun h' tk1 tk2 hk => ?_) h5
  exact ⟨.str _, H, I.kept (t' := tk2) hk, ⟨tk1, rfl⟩, q⟩
end

/-! ### tuples -/
section
variable {X : Cx}
/-- t + u, the left one empty: the right one itself -/
theorem op_catE : OpR X (binaryOp .Add) (fun x y H Q => ∃ a b ys, x = .ref a ∧ y = .ref b ∧ SqT X.K H a [] ∧ SqT X.K H b ys ∧ ys ≠ [] ∧ Q (.ref b) H) := by
  intro pins s σ H x y v u Q I rx ry h
  obtain ⟨a, b, ys, rfl, rfl, ha, hb, hy, q⟩ := h
  cases rx
  cases ry
  obtain ⟨its, r1, p1, _⟩ := I.tuple ha
  obtain ⟨its2, r2, p2, _⟩ := I.tuple hb
  have e1 : its = [] := r1.nil_iff.mpr rfl
  subst e1
  obtain ⟨⟨c1, d1, t1, l1⟩, o1, h1, n1, g1⟩ := id p1
  obtain ⟨⟨c2, d2, t2, l2⟩, o2, h2, n2, g2⟩ := id p2
  simp only at h1 g1 h2 g2
  subst h1 g1 h2 g2
  exact concat_meets ⟨_, o1, rfl⟩ ⟨_, o2, rfl⟩ noFill_tuple_add seq_tuple_add PySem.F.slot_tuple_add PySem.F.entry_tuple_add
    (PySem.F.args_tuple_add_2 _ _) (tuple_addW0 a b _ _ n1 n2 d1 d2 l1 l2 (by rfl)) ⟨o1, o2, ⟨.ref b, H, I, rfl, q⟩⟩
end

/-! ### tuples that are known to bear no dict (their methods may be called) -/
def TupN (H : Hp) (a : Addr) (xs : List V) : Prop := ∃ o : Obj, H a = some (.frz o (.tup xs)) ∧ o.dict = none
theorem TupN.sqT {K : PySem.W.Frag} {H : Hp} {a : Addr} {xs : List V} (h : TupN H a xs) : SqT K H a xs := by
  obtain ⟨o, h, _⟩ := h
  exact .inl (.inr ⟨o, h⟩)
theorem TupN.same {H H' : Hp} {a : Addr} {xs : List V} (h : TupN H a xs) (e : ∀ b o, H b = some o → H' b = some o) : TupN H' a xs := by
  obtain ⟨o, h, d⟩ := h
  exact ⟨o, e _ _ h, d⟩
theorem TupN.new {H : Hp} {p : Addr} {o : Obj} {xs : List V} (d : o.dict = none) : TupN (upd H p (.frz o (.tup xs))) p xs := ⟨o, upd_same, d⟩
section
variable {X : Cx} {es : List Expr} {t : TA} {pos : Pos}
def tTupF (t : TA) : TE := fun σ H Q => t σ H fun xs H1 => xs.length ≤ sizeLine ∧ ∀ (p : Addr) (o : Obj), H1 p = none → o.dict = none → Q (.ref p) (upd H1 p (.frz o (.tup xs)))
theorem pe_tupF {x1} (h : PA X es t) : PE X (.Tuple es x1 pos) (tTupF t) := by
  refine ⟨fun pins s σ H Q I hq => ?_⟩
  refine wpAny_Tuple_spliced (thn (h.run pos pins s σ H _ I hq) fun us s1 ⟨xs, H1, I1, r, z, q⟩ => ⟨r.length ▸ z, ?_⟩)
  have hf : H1 s1.heap.objs.size = none := I1.hok.fresh (Nat.le_refl _)
  have hg := Heap.get?_push_size s1.heap (o := { cls := .type "tuple", data := .seq us.toArray }) rfl
  refine ⟨.ref s1.heap.objs.size, _, I1.laid (t' := s1.toks) (o := .frz { cls := .type "tuple", data := .seq us.toArray } (.tup xs)) (fun b u e => Heap.get?_push_of_some _ e) (Nat.le_refl _) ?_, rfl, q _ _ hf rfl⟩
  exact ⟨hg, z, us, r, ⟨_, hg, rfl, _, rfl⟩⟩
/-- t + u, none of both empty -/
theorem op_catF : OpR X (binaryOp .Add) (fun x y H Q => ∃ a b xs ys, x = .ref a ∧ y = .ref b ∧ SqT X.K H a xs ∧ SqT X.K H b ys ∧ xs ≠ [] ∧ ys ≠ [] ∧ xs.length + ys.length ≤ sizeLine ∧
    ∀ (p : Addr) (o : Obj), H p = none → o.dict = none → Q (.ref p) (upd H p (.frz o (.tup (xs ++ ys))))) := by
  intro pins s σ H x y v u Q I rx ry h
  obtain ⟨a, b, xs, ys, rfl, rfl, ha, hb, hx, hy, hz, q⟩ := h
  cases rx
  cases ry
  obtain ⟨its, r1, p1, _⟩ := I.tuple ha
  obtain ⟨its2, r2, p2, _⟩ := I.tuple hb
  have hl : its.length + its2.length ≤ sizeLine := by rw [← r1.length, ← r2.length]; exact hz
  refine HT.cat_tup p1 p2 (fun z => hx (r1.nil_iff.mp z)) (fun z => absurd (r2.nil_iff.mp z) hy) (fun _ => ?_) hl
  have hg := Heap.get?_push_size s.heap (o := { cls := .type "tuple", data := .seq (its ++ its2).toArray }) rfl
  refine ⟨.ref s.heap.objs.size, _, I.laid (t' := s.toks) (o := .frz { cls := .type "tuple", data := .seq (its ++ its2).toArray } (.tup (xs ++ ys))) (fun b ob q => Heap.get?_push_of_some _ q) (Nat.le_refl _) ?_, rfl, q _ _ (I.hok.fresh (Nat.le_refl _)) rfl⟩
  exact ⟨hg, by rw [List.length_append]; exact hz, _, r1.append r2, ⟨_, hg, rfl, _, rfl⟩⟩
/-- a method of such a tuple, called with arguments -/
def tTM (r : V → List V → Hp → VK → Prop) (to : TE) (t : TA) : TE := fun σ H Q => to σ H fun x H1 => (∃ p xs, x = .ref p ∧ TupN H1 p xs) ∧ t σ H1 fun vs H2 => r x vs H2 Q
theorem pe_tm {name : Str} {id : String} {o e : Expr} {to : TE} {r : V → List V → Hp → VK → Prop} {apos cpos : Pos} (slot : Slot "tuple" name id) (hty : typeOf (.builtin id) = pure (.type "method_descriptor")) (hm : MtR X id r) (ho : PE X o to) (ha : PA X (e :: es) t)
    (hbase : attributeBase o name X.env (eval o X.env) = eval o X.env := by rfl)
    (hfew : ((backTo cpos (starEach (e :: es) X.env)).all (fun x => !x.1) && (backToKw cpos (keywordEach [] X.env)).all (fun x => x.1.isSome)
      && decide ((e :: es).length + ([] : List Keyword).length + (if ([] : List Keyword).isEmpty then 0 else 1) < 30)) = true := by rfl)
    (hline : (apos.endLine == cpos.line) = true := by rfl) (hs : starEach (e :: es) X.env = (false, eval e X.env) :: starEach es X.env := by rfl) (hplain : (backTo cpos (starEach es X.env)).any (·.1) = false := by rfl) :
    PE X (.Call (.Attribute o name apos) (e :: es) [] cpos) (tTM r to t) := by
  refine ⟨fun pins s σ H Q I h => ?_⟩
  refine wpAny_Call_method_late hbase hfew hline rfl (thn (ho.run pins s σ H _ I h) fun v s1 ⟨x, H1, I1, r1, ty, q1⟩ => ?_)
  obtain ⟨p, xs, rfl, ob, hob, hdi⟩ := ty
  cases r1
  obtain ⟨g1, hz, its, rv, ot, g2, hc, _⟩ := I1.hok p _ hob
  obtain rfl : ot = ob := Option.some.inj (g2.symm.trans g1)
  refine ⟨"tuple", id, PySem.F.plainAttrs_tuple, slot, hty, ⟨ot, g1, hc⟩, fun a e => ?_, ?_⟩
  · cases e
    exact ⟨ot, g1, hdi⟩
  have hA := ha.run cpos pins s1 σ H1 _ I1 q1
  rw [hs] at hA ⊢
  refine Calls.callWith_builtin (by show (false || (backTo cpos (starEach es X.env)).any (·.1)) = false; rw [hplain] <;> rfl) (Calls.evalArgs_plain ?_)
  exact thn hA fun us s2 ⟨vs, H2, I2, r2, q2⟩ => hm pins s2 σ H2 (.ref p) vs (.ref p) us Q I2 rfl r2 q2
end

/-! ### list.remove of data -/
section
variable {X : Cx}
def rRemD (K : PySem.W.Frag) : V → List V → Hp → VK → Prop := fun x args H Q => ∃ (l : Addr) (y : V) (d : PyData) (xs : List V) (ds : List PyData) (j : Nat),
  x = .ref l ∧ args = [y] ∧ H l = some (.lst xs) ∧ DpAll K H xs ds ∧ Dp K H y d ∧ PyData.plainAll ds = true ∧ d.plain = true ∧ d.depth ≤ 60 ∧
  SeqAt.dataPlace ds d = some j ∧ Q .non (upd H l (.lst (xs.eraseIdx j)))
theorem mt_removeD (hu : X.A.units + 64 < cLine) : MtR X "list.remove" (rRemD X.K) := by
  intro pins s σ H x args v us Q I rx ra h
  obtain ⟨l, y, d, xs, ds, j, rfl, rfl, hH, hds, hd, p1, p2, p3, hj, q⟩ := h
  cases rx
  obtain ⟨u, rfl, ru⟩ := vals1 ra
  obtain ⟨z, its, n, r, hl, e⟩ := I.lstM hH
  obtain ⟨as, R1⟩ := Dp.readsAll I ds xs its hds r
  obtain ⟨bs, R2⟩ := Dp.reads I d y u hd ru
  refine SeqAt.remove_list_data (vs := its.toArray) ⟨_, e, rfl, n, rfl⟩ R1 R2 p1 p2 (by omega) hj (by rw [List.size_toArray, ← hl]; exact z) ?_
  refine ⟨.non, _, I.lset (its' := its.eraseIdx j) (t' := s.toks) hH e ?_ (r.eraseIdx j) ?_, rfl, q⟩
  · show its.toArray.eraseIdxIfInBounds j = (its.eraseIdx j).toArray
    rw [List.eraseIdxIfInBounds_toArray]
  · have := List.length_eraseIdx_le xs j
    omega
end

/-! ### data of ints -/
def iD (ns : List Int) : List PyData := ns.map PyData.int
section
variable {K : PySem.W.Frag} {H : Hp}
theorem dp_ints : ∀ ns : List Int, DpAll K H (ns.map V.int) (iD ns)
  | [] => .nil
  | n :: r => .cons (.int n) (dp_ints r)
theorem dp_lst {a : Addr} {ns : List Int} (h : SqL K H a (ns.map V.int)) : Dp K H (.ref a) (.list (iD ns)) := .lst h (dp_ints ns)
theorem dp_tup {a : Addr} {ns : List Int} (h : SqT K H a (ns.map V.int)) : Dp K H (.ref a) (.tuple (iD ns)) := .tup h (dp_ints ns)
theorem dp_nil {a : Addr} (h : SqL K H a []) : Dp K H (.ref a) (.list []) := .lst h .nil
end
theorem iD_lay : ∀ ns : List Int, PyData.canLayAll0 (iD ns) = true
  | [] => by simp [iD, PyData.canLayAll0]
  | n :: r => by
    have h := iD_lay r
    simp only [iD, List.map_cons, PyData.canLayAll0, PyData.canLay0] at h ⊢
    rw [h]
    rfl
theorem iD_depth : ∀ ns : List Int, PyData.depthAll (iD ns) = 0
  | [] => by simp [iD, PyData.depthAll]
  | n :: r => by
    have h := iD_depth r
    simp only [iD, List.map_cons, PyData.depthAll, PyData.depth] at h ⊢
    rw [h]
    rfl
theorem shaped_lst (ns : List Int) : SeqAt.shaped (.list (iD ns)) = true := by
  have h1 := iD_lay ns
  have h2 := iD_depth ns
  show (PyData.canLay0 (.list (iD ns)) && decide (PyData.depth (.list (iD ns)) ≤ 64)) = true
  simp only [PyData.canLay0, PyData.depth, h1, h2, Bool.true_and]
  decide
theorem shaped_tup (ns : List Int) : SeqAt.shaped (.tuple (iD ns)) = true := by
  have h1 := iD_lay ns
  have h2 := iD_depth ns
  show (PyData.canLay0 (.tuple (iD ns)) && decide (PyData.depth (.tuple (iD ns)) ≤ 64)) = true
  simp only [PyData.canLay0, PyData.depth, h1, h2, Bool.true_and]
  decide
theorem shaped_nil : SeqAt.shaped (.list []) = true := by decide +kernel
theorem eqv_nil (ds : List PyData) : PyData.eqv (.list ds) (.list []) = ds.isEmpty := by
  cases ds <;> simp [PyData.eqv, PyData.eqvAll]
/-! ### what a def leaves that only adds objects and turns two -/
def Kp (a b : Addr) (H H' : Hp) : Prop := ∀ c o, c ≠ a → c ≠ b → H c = some o → H' c = some o
theorem Kp.refl {a b : Addr} (H : Hp) : Kp a b H H := fun _ _ _ _ h => h
theorem Kp.trans {a b : Addr} {H H1 H2 : Hp} (x : Kp a b H H1) (y : Kp a b H1 H2) : Kp a b H H2 := fun c o h1 h2 h => y c o h1 h2 (x c o h1 h2 h)
theorem Kp.of {a b : Addr} {H H' : Hp} (h : Same H H') : Kp a b H H' := fun c o _ _ e => h c o e
theorem Kp.new {a b : Addr} {H : Hp} {p : Addr} {o : HO} (h : H p = none) : Kp a b H (upd H p o) := fun c u _ _ e => by
  rw [upd_ne (ne_of_none e h)]
  exact e
theorem Kp.put {a b : Addr} {H : Hp} {p : Addr} {o : HO} (h : p = a ∨ p = b) : Kp a b H (upd H p o) := fun c u h1 h2 e => by
  rw [upd_ne (by rcases h with rfl | rfl <;> assumption)]
  exact e
theorem Same.new {H : Hp} {p : Addr} {o : HO} (h : H p = none) : Same H (upd H p o) := fun c u e => by
  rw [upd_ne (ne_of_none e h)]
  exact e
end Sv

/-! tuple(a list): a tuple that is known to bear no dict. -/
namespace Sv
open PySem PySem.Spec PyProof.Rows L2
section
variable {X : Cx}
def rTupF (K : PySem.W.Frag) : List V → Hp → VK → Prop := fun xs H Q => ∃ p ys, xs = [.ref p] ∧ SqL K H p ys ∧ ∀ (l : Addr) (o : Obj), H l = none → o.dict = none → Q (.ref l) (upd H l (.frz o (.tup ys)))
theorem call_tupleF : CallR X (.type "tuple") (rTupF X.K) := by
  intro pins s σ H xs us Q I r h
  obtain ⟨p, ys, rfl, hq, q⟩ := h
  obtain ⟨u, rfl, rx⟩ := vals1 r
  cases rx
  obtain ⟨its, r', pl, hz⟩ := I.list hq
  have hlen := r'.length
  refine call_tuple_list pl.isList (fun h' kp => ?_) (by simp only [List.size_toArray] <;> omega)
  have I1 : Inv X pins σ H { s with heap := h' } := I.kept (t' := s.toks) kp
  have hg := Heap.get?_push_size h' (o := { cls := .type "tuple", data := .seq its.toArray }) rfl
  refine ⟨.ref h'.objs.size, _, I1.laid (t' := s.toks) (o := .frz { cls := .type "tuple", data := .seq its.toArray } (.tup ys)) (fun b o e => Heap.get?_push_of_some _ e) (Nat.le_refl _) ?_, rfl, q _ _ (I1.hok.fresh (Nat.le_refl _)) rfl⟩
  exact ⟨hg, hz, its, r', ⟨_, hg, rfl, _, rfl⟩⟩
end
theorem nodup_at {α : Type} {x : α} : ∀ {l : List α} {i j : Nat}, l.Nodup → l[i]? = some x → l[j]? = some x → i = j
  | [], i, j, _, h, _ => by simp at h
  | a :: r, 0, 0, _, _, _ => rfl
  | a :: r, 0, j + 1, h, h1, h2 => by
    have e : a = x := Option.some.inj h1
    subst e
    exact absurd (List.mem_of_getElem? (show r[j]? = some a from h2)) (List.nodup_cons.mp h).1
  | a :: r, i + 1, 0, h, h1, h2 => by
    have e : a = x := Option.some.inj h2
    subst e
    exact absurd (List.mem_of_getElem? (show r[i]? = some a from h1)) (List.nodup_cons.mp h).1
  | a :: r, i + 1, j + 1, h, h1, h2 => by rw [nodup_at (List.nodup_cons.mp h).2 (show r[i]? = some x from h1) (show r[j]? = some x from h2)]
end Sv
namespace Sv
open PySem PySem.Spec PyProof.Rows L2
theorem walk_zipT {K : PySem.W.Frag} {a b : Addr} {xs ys : List V} {n : Nat} (hn : n = min xs.length ys.length) : Walk (RZ.ItzT K a b) n (fun H => SqT K H a xs ∧ SqT K H b ys) (YPair (fun i => xs[i]?) (fun i => ys[i]?)) := by
  subst hn
  refine ⟨fun i _ hi q => ?_, fun _ q => ⟨xs, ys, q.1, q.2, by omega⟩, fun i H v H' _ q y => ?_⟩
  · have h1 : i < xs.length := by omega
    have h2 : i < ys.length := by omega
    exact ⟨xs, ys, xs[i], ys[i], q.1, q.2, by simp [h1], by simp [h2]⟩
  · obtain ⟨T, x, z, h1, h2, h3, h4, h5⟩ := y
    exact ⟨T, x, z, h1, h2, h3, h4 xs q.1, h5 ys q.2⟩
end Sv

/-! a comprehension with two for: the walks of both. -/
namespace Sv
open PySem PySem.Spec PyProof.Rows L2
section
variable {J : It} {n : Nat} {G : Hp → Prop} {Y : Nat → Hp → V → Hp → Prop}
/-- the outer one -/
theorem lc2_out (w : Walk J n G Y) {g : TG} {tt : TT} {wi1 : TI} {g1 : TG} {tt1 : TT} {te : TE} {vs vs1 : List Nat} {σ : L2.St} {H1 : Hp} {D : Addr} {Qd : Hp → Prop} (Pv : Nat → Hp → Prop) (h0 : Pv 0 (upd H1 D (.lst []))) (hG : ∀ i H, i ≤ n → Pv i H → G H)
    (hs : ∀ i x H H', i < n → Pv i H → Y i H x H' → g x (wipe σ vs) H' fun σ2 H2 => wipe σ2 vs = wipe σ vs ∧ tt σ2 H2 fun b H3 =>
      if b = true then wi1 σ2 H3 fun J1 H4 => ∃ W1 : Nat → Nat → Hp → Prop, (∃ m, W1 0 m H4) ∧ ∀ j k H, W1 j k H →
        (J1.stop j H ∧ Pv (i + 1) H) ∨ (J1.go j H ∧ ∃ Nx1 : Hp → Prop, (∀ H', Nx1 H' → ∃ k', k' < k ∧ W1 (j + 1) k' H') ∧ ∀ x H', J1.yld j H x H' → g1 x (wipe σ2 vs1) H' fun σ3 H5 => wipe σ3 vs1 = wipe σ2 vs1 ∧ tt1 σ3 H5 fun b H6 =>
          if b = true then te σ3 H6 fun y H7 => ∃ acc, H7 D = some (.lst acc) ∧ acc.length < sizeLine ∧ Nx1 (upd H7 D (.lst (acc ++ [y]))) else Nx1 H6)
      else Pv (i + 1) H3) (hd : ∀ H, Pv n H → Qd H) :
    ∃ W : Nat → Nat → Hp → Prop, (∃ m, W 0 m (upd H1 D (.lst []))) ∧ ∀ i m H, W i m H →
      (J.stop i H ∧ Qd H) ∨ (J.go i H ∧ ∃ Nx : Hp → Prop, (∀ H', Nx H' → ∃ m', m' < m ∧ W (i + 1) m' H') ∧ ∀ x H', J.yld i H x H' → g x (wipe σ vs) H' fun σ2 H2 => wipe σ2 vs = wipe σ vs ∧ tt σ2 H2 fun b H3 =>
        if b = true then wi1 σ2 H3 fun J1 H4 => ∃ W1 : Nat → Nat → Hp → Prop, (∃ m, W1 0 m H4) ∧ ∀ j k H, W1 j k H →
          (J1.stop j H ∧ Nx H) ∨ (J1.go j H ∧ ∃ Nx1 : Hp → Prop, (∀ H', Nx1 H' → ∃ k', k' < k ∧ W1 (j + 1) k' H') ∧ ∀ x H', J1.yld j H x H' → g1 x (wipe σ2 vs1) H' fun σ3 H5 => wipe σ3 vs1 = wipe σ2 vs1 ∧ tt1 σ3 H5 fun b H6 =>
            if b = true then te σ3 H6 fun y H7 => ∃ acc, H7 D = some (.lst acc) ∧ acc.length < sizeLine ∧ Nx1 (upd H7 D (.lst (acc ++ [y]))) else Nx1 H6)
        else Nx H3) := by
  refine ⟨fun i m H => m = n - i ∧ i ≤ n ∧ Pv i H, ⟨n, by simp, Nat.zero_le _, h0⟩, ?_⟩
  rintro i m H ⟨rfl, hi, p⟩
  have q := hG i H hi p
  by_cases hlt : i < n
  · refine .inr ⟨w.goes i H hlt q, Pv (i + 1), fun H' p' => ⟨n - (i + 1), by omega, rfl, hlt, p'⟩, fun x H' y => hs i x H H' hlt p (w.yields i H x H' hlt q y)⟩
  · have e : i = n := by omega
    subst e
    exact .inl ⟨w.stops H q, hd H p⟩
/-- the inner one -/
theorem lc2_in (w : Walk J n G Y) {g1 : TG} {tt1 : TT} {te : TE} {vs1 : List Nat} {σ2 : L2.St} {H4 : Hp} {D : Addr} {R : Hp → Prop} (Pv : Nat → Hp → Prop) (h0 : Pv 0 H4) (hG : ∀ i H, i ≤ n → Pv i H → G H)
    (hs : ∀ i x H H', i < n → Pv i H → Y i H x H' → g1 x (wipe σ2 vs1) H' fun σ3 H5 => wipe σ3 vs1 = wipe σ2 vs1 ∧ tt1 σ3 H5 fun b H6 =>
      if b = true then te σ3 H6 fun y H7 => ∃ acc, H7 D = some (.lst acc) ∧ acc.length < sizeLine ∧ Pv (i + 1) (upd H7 D (.lst (acc ++ [y]))) else Pv (i + 1) H6) (hd : ∀ H, Pv n H → R H) :
    ∃ W1 : Nat → Nat → Hp → Prop, (∃ m, W1 0 m H4) ∧ ∀ j k H, W1 j k H →
      (J.stop j H ∧ R H) ∨ (J.go j H ∧ ∃ Nx1 : Hp → Prop, (∀ H', Nx1 H' → ∃ k', k' < k ∧ W1 (j + 1) k' H') ∧ ∀ x H', J.yld j H x H' → g1 x (wipe σ2 vs1) H' fun σ3 H5 => wipe σ3 vs1 = wipe σ2 vs1 ∧ tt1 σ3 H5 fun b H6 =>
        if b = true then te σ3 H6 fun y H7 => ∃ acc, H7 D = some (.lst acc) ∧ acc.length < sizeLine ∧ Nx1 (upd H7 D (.lst (acc ++ [y]))) else Nx1 H6) := by
  refine ⟨fun i m H => m = n - i ∧ i ≤ n ∧ Pv i H, ⟨n, by simp, Nat.zero_le _, h0⟩, ?_⟩
  rintro i m H ⟨rfl, hi, p⟩
  have q := hG i H hi p
  by_cases hlt : i < n
  · refine .inr ⟨w.goes i H hlt q, Pv (i + 1), fun H' p' => ⟨n - (i + 1), by omega, rfl, hlt, p'⟩, fun x H' y => hs i x H H' hlt p (w.yields i H x H' hlt q y)⟩
  · have e : i = n := by omega
    subst e
    exact .inl ⟨w.stops H q, hd H p⟩
end
end Sv

/-! repr of a bool; a dict comprehension over any walk. -/
namespace Sv
open PySem PySem.Spec PyProof.Rows L2
section
variable {X : Cx}
def bText (b : Bool) : Str := if b then "True" else "False"
theorem call_repr_bl : CallR X (.builtin "repr") (fun xs H Q => ∃ b, xs = [.bl b] ∧ Q (.str (bText b)) H) := by
  intro pins s σ H xs us Q I r h
  obtain ⟨b, rfl, q⟩ := h
  obtain ⟨u, rfl, ru⟩ := vals1 r
  cases ru
  exact PySem.P.repr_of_bool ⟨.str _, H, I.tok _, ⟨_, rfl⟩, q⟩
end
section
variable {J : It} {n : Nat} {G : Hp → Prop} {Y : Nat → Hp → V → Hp → Prop}
theorem dc_it (w : Walk J n G Y) {g : TG} {tt : TT} {tk tv : TE} {vs : List Nat} {σ : L2.St} {H1 : Hp} {D : Addr} {Qd : Hp → Prop} (Pv : Nat → Hp → Prop) (h0 : Pv 0 (upd H1 D (.dK []))) (hG : ∀ i H, i ≤ n → Pv i H → G H)
    (hs : ∀ i x H H', i < n → Pv i H → Y i H x H' → g x (wipe σ vs) H' fun σ2 H2 => wipe σ2 vs = wipe σ vs ∧ tt σ2 H2 fun b H3 =>
      if b = true then tk σ2 H3 fun y H4 => tv σ2 H4 fun z H5 => ∃ kvs k, y = kV k ∧ H5 D = some (.dK kvs) ∧ kvs.length < sizeLine ∧ Pv (i + 1) (upd H5 D (.dK (putK kvs k z))) else Pv (i + 1) H3) (hd : ∀ H, Pv n H → Qd H) :
    ∃ W : Nat → Nat → Hp → Prop, (∃ m, W 0 m (upd H1 D (.dK []))) ∧ ∀ i m H, W i m H →
      (J.stop i H ∧ Qd H) ∨ (J.go i H ∧ ∃ Nx : Hp → Prop, (∀ H', Nx H' → ∃ m', m' < m ∧ W (i + 1) m' H') ∧ ∀ x H', J.yld i H x H' → g x (wipe σ vs) H' fun σ2 H2 => wipe σ2 vs = wipe σ vs ∧ tt σ2 H2 fun b H3 =>
        if b = true then tk σ2 H3 fun y H4 => tv σ2 H4 fun z H5 => ∃ kvs k, y = kV k ∧ H5 D = some (.dK kvs) ∧ kvs.length < sizeLine ∧ Nx (upd H5 D (.dK (putK kvs k z))) else Nx H3) := by
  refine ⟨fun i m H => m = n - i ∧ i ≤ n ∧ Pv i H, ⟨n, by simp, Nat.zero_le _, h0⟩, ?_⟩
  rintro i m H ⟨rfl, hi, p⟩
  have q := hG i H hi p
  by_cases hlt : i < n
  · refine .inr ⟨w.goes i H hlt q, Pv (i + 1), fun H' p' => ⟨n - (i + 1), by omega, rfl, hlt, p'⟩, fun x H' y => hs i x H H' hlt p (w.yields i H x H' hlt q y)⟩
  · have e : i = n := by omega
    subst e
    exact .inl ⟨w.stops H q, hd H p⟩
end
theorem valV_none {κ : Type} [DecidableEq κ] : ∀ {kvs : List (κ × V)} {k : κ}, (∀ p ∈ kvs, p.1 ≠ k) → valV kvs k = none
  | [], _, _ => rfl
  | p :: r, k, h => by
    have h1 := h p List.mem_cons_self
    have h2 := valV_none (kvs := r) (k := k) fun q hq => h q (List.mem_cons_of_mem _ hq)
    unfold valV at h2 ⊢
    rw [List.find?_cons, decide_eq_false h1]
    exact h2
theorem valV_at {κ : Type} [DecidableEq κ] : ∀ {kvs : List (κ × V)} {i : Nat} {k : κ} {v : V}, (kvs.map (·.1)).Nodup → kvs[i]? = some (k, v) → valV kvs k = some v
  | [], i, _, _, _, h => by simp at h
  | p :: r, 0, k, v, _, h => by
    obtain rfl : p = (k, v) := Option.some.inj h
    unfold valV
    rw [List.find?_cons, decide_eq_true rfl]
    rfl
  | p :: r, i + 1, k, v, hn, h => by
    rw [List.map_cons] at hn
    obtain ⟨n1, n2⟩ := List.nodup_cons.mp hn
    have h2 : r[i]? = some (k, v) := h
    have hne : p.1 ≠ k := fun z => n1 (z ▸ List.mem_map.mpr ⟨(k, v), List.mem_of_getElem? h2, rfl⟩)
    have ih := valV_at (kvs := r) (i := i) n2 h2
    unfold valV at ih ⊢
    rw [List.find?_cons, decide_eq_false hne]
    exact ih
end Sv

/-! enumerate over a tuple; count in a tuple of ints. -/
namespace PySem
open Sem (wp)
set_option maxHeartbeats 1000000 in
theorem sv_enum_new {v : Value} {o : Obj} {H : Heap → Prop} (B : Begins v o H) :
    Meets (Builtin.«enumerate.__new__» ⟨[.type "enumerate", v], []⟩)
      (fun _ R s => H s.heap ∧ R (.ok (.ret (.ref (s.heap.push o).objs.size)))
        { s with heap := Heap.push (Heap.push s.heap o) { cls := .type "enumerate", data := .fields #[.none, .bool false, .ref s.heap.objs.size, rawInt 0, .none, .none] } }) := by
  refine .of_wp fun prog w A R s h => ?_
  obtain ⟨hp, g, d, tk, os⟩ := s
  obtain ⟨h1, h⟩ := h
  have hsub := sub_enumerate
  have q1 : ∀ {A' : Around} {E' : Value → Shared → Prop} {Q' : Value → Shared → Prop},
      Q' (.ref hp.objs.size) ⟨hp.push o, g, d, tk, os⟩ → wpAny (model prog w) A' (pyIter v) Q' E' ⟨hp, g, d, tk, os⟩ :=
    fun q => B.iter prog w _ _ ⟨hp, g, d, tk, os⟩ _ h1 q
  wp_walk using q1
  refine wpAny_stack_any fun st => wpAny_pure ?_
  split
  · rename_i c _ _ _ _ _
    cases hcc : (c == Value.type "enumerate") <;> (wp_walk using q1; exact ⟨_, rfl, h⟩)
  · wp_walk using q1
    exact ⟨_, rfl, h⟩
section
variable {prog : Program} {w : World} {A : Around} {E : Value → Shared → Prop} {s : Shared}
theorem sv_enum_call {v : Value} {o : Obj} {H : Heap → Prop} {Q : Value → Shared → Prop} (B : Begins v o H) (h1 : H s.heap)
    (h : ∀ h', IsEnum h' (s.heap.objs.size + 1) s.heap.objs.size 0 .none → h'.get? s.heap.objs.size = some o →
      (∀ b u, s.heap.get? b = some u → h'.get? b = some u) → Q (.ref (s.heap.objs.size + 1)) { s with heap := h' }) :
    wpAny (model prog w) A (call (.type "enumerate") [v]) Q E s := by
  refine callType_new F.called_enumerate (by decide) (F.typeCall_enumerate_1 _) (F.newCall_enumerate_1 _)
    (fun obj => F.args_object_init_2 obj _) F.entry_enumerate_new (sv_enum_new B) ⟨h1, ?_⟩
  have hz : (s.heap.push o).objs.size = s.heap.objs.size + 1 := Heap.size_push ..
  show _ ∧ _
  rw [hz]
  have he := Heap.get?_push_size (s.heap.push o)
    (o := { cls := .type "enumerate", data := .fields #[.none, .bool false, .ref s.heap.objs.size, rawInt 0, .none, .none] }) rfl
  rw [hz] at he
  exact ⟨⟨_, he, rfl⟩, h _ he (Heap.get?_push_of_some _ (Heap.get?_push_size _ B.free))
    fun b u x => Heap.get?_push_of_some _ (Heap.get?_push_of_some _ x)⟩
end
end PySem
namespace Sv
open PySem PySem.Spec PyProof.Rows L2
/-- a tuple's items, each in a new pair with its number -/
def Itte (K : PySem.W.Frag) (a : Addr) (xs : List V) : It where
  go := fun i H => SqT K H a xs ∧ i < xs.length
  yld := fun i H v H' => ∃ T x, v = .ref T ∧ H T = none ∧ H' = upd H T (.tup [.int (i : Nat), x]) ∧ xs[i]? = some x
  stop := fun i H => SqT K H a xs ∧ i = xs.length
theorem turn_etup {P : Program} {w : World} {K : PySem.W.Frag} {elts : List Expr} {kk : Nat} {tpos : Pos} (a e it : Addr) (xs : List V) :
    Turn P w K (.Tuple elts kk tpos) (Itte K a xs) [e, it] e
      (fun i h => (∃ old, IsEnum h e it ((i : Nat) : Int) old) ∧ h.IsTupleIter it a i ∧ e ≠ it ∧ a ≠ it ∧ a ≠ e) where
  mem := by simp
  obj := fun i h st b hb => by
    obtain ⟨⟨old, he⟩, ⟨o, ho, hc, hd⟩, _⟩ := st
    rcases (show b = e ∨ b = it by simpa using hb) with rfl | rfl
    · exact ⟨_, he, fun v q => nomatch q⟩
    · exact ⟨o, ho, fun v q => by rw [hd] at q; cases q⟩
  keep := fun i h h' st k => by
    obtain ⟨⟨old, he⟩, hi, hr⟩ := st
    exact ⟨⟨old, k e (by simp) _ he⟩, hi.at fun o q => k it (by simp) o q, hr⟩
  item := by
    intro X hP hw hK hc i pins s σ H E I hf st hg
    subst hP hw hK
    obtain ⟨⟨old, he⟩, hit, hne, hai, hae⟩ := st
    obtain ⟨hq, hi⟩ := hg
    obtain ⟨its, rv, p, hz⟩ := I.tuple hq
    have hlen := rv.length
    have hel : e < s.heap.objs.size := Heap.lt_size he
    have hil : it < s.heap.objs.size := by
      obtain ⟨_, q, _⟩ := hit
      exact Heap.lt_size q
    have D : Draws X.prog X.w X.A.in1 it [it, a] its.toArray.size (fun i v => its.toArray[i]? = some v)
        (fun i h => h.IsTupleIter it a i ∧ h.IsTuple a its.toArray) := Draws.tuple (A := X.A.in1) (show X.A.in1.handled = none from I.ok.hd hc) it a hai its.toArray
    refine wpAny_pyNext_enum_itemD D he ⟨hit, p⟩ (by rw [List.size_toArray]; omega) hne (by simp [hne, Ne.symm hae]) fun u h' tk hPu ho hst hT hsz hk => ?_
    refine ⟨_, rfl, wpAny_letOwnedTupleGo_enum (s := { s with heap := h', toks := tk + 1 }) ho fun h'' he' sb => ?_⟩
    obtain ⟨x, hx⟩ : ∃ x, xs[i]? = some x := ⟨_, List.getElem?_eq_getElem hi⟩
    obtain ⟨u', hu', ru⟩ := rv.get hx
    have hPu' : its[i]? = some u := by simpa using hPu
    obtain rfl : u' = u := Option.some.inj (hu'.symm.trans hPu')
    have hT2 : h''.get? s.heap.objs.size = some { cls := .type "tuple", data := .seq #[.int i tk, u'] } := (sb.2 _ (Nat.ne_of_gt hel)).trans hT
    have new : ObjOk X.prog X.w (upd H s.heap.objs.size (.tup [.int (i : Nat), x])) h'' s.heap.objs.size (.tup [.int (i : Nat), x]) := by
      refine ⟨?_, [.int i tk, u'], .cons ⟨_, rfl⟩ (.cons ru .nil), ⟨_, hT2, rfl, _, rfl⟩⟩
      show 2 ≤ sizeLine
      decide
    have I1 : Inv X pins σ (upd H s.heap.objs.size (.tup [.int (i : Nat), x])) { s with heap := h'', toks := tk + 1 } := by
      refine I.turnedNew (ch := [e, it]) (fun b ob hb q => ?_) hf (Nat.le_refl _) new
      have nb : b ≠ e ∧ b ≠ it := by simpa using hb
      exact (sb.2 b nb.1).trans (hk b ob nb.1 nb.2 q)
    refine ⟨.ref s.heap.objs.size, _, I1, rfl, ⟨_, x, rfl, I.hok.fresh (Nat.le_refl _), rfl, hx⟩,
      ⟨⟨u', ?_⟩, hst.1.at fun o q => (sb.2 it (Ne.symm hne)).trans q, hne, hai, hae⟩, fun b hb => ?_⟩
    · have e1 : ((i + 1 : Nat) : Int) = (i : Int) + 1 := by omega
      rw [e1]
      exact he'
    · have hb' : b < s.heap.objs.size := by
        rcases (show b = e ∨ b = it by simpa using hb) with rfl | rfl <;> assumption
      rw [upd_ne (Nat.ne_of_lt hb')]
      exact (hf b hb).1
  done := by
    intro X hP hw hK hc i pins s σ H E I hf st hg
    subst hP hw hK
    obtain ⟨⟨old, he⟩, hit, hne, hai, hae⟩ := st
    obtain ⟨hq, hi⟩ := hg
    obtain ⟨its, rv, p, hz⟩ := I.tuple hq
    have hlen := rv.length
    obtain ⟨f0, f1, f2, f3, f4, f5⟩ := hf it (by simp)
    have D : Draws X.prog X.w X.A.in1 it [it, a] its.toArray.size (fun i v => its.toArray[i]? = some v)
        (fun i h => h.IsTupleIter it a i ∧ h.IsTuple a its.toArray) := Draws.tuple (A := X.A.in1) (show X.A.in1.handled = none from I.ok.hd hc) it a hai its.toArray
    have hi2 : i = its.toArray.size := by
      rw [List.size_toArray]
      omega
    have hit2 : s.heap.IsTupleIter it a its.toArray.size := hi2 ▸ hit
    exact wpAny_pyNext_enum_endD D he ⟨hit2, p⟩ fun h' eb => ⟨rfl, I.turned (t' := s.toks) (fun b o hb q => eb b o hb q) f0 f1 f3 f4 f5⟩
  self := fun A i s Q E st h => by
    obtain ⟨⟨_, he⟩, _⟩ := st
    exact wpAny_pyIter_enum he h
def iEnumT (K : PySem.W.Frag) (ta : TA) : TI := fun σ H R => ta σ H fun vs H1 => ∃ a xs, vs = [.ref a] ∧ SqT K H1 a xs ∧ R (Itte K a xs) H1
/-- for i, x in enumerate(t), t a tuple -/
theorem pi_enumT {X : Cx} {e : Expr} {ta : TA} {p pos tpos : Pos} {elts : List Expr} {kk : Nat} (hg : Gl X "enumerate") (hm : X.mg "enumerate" = none) (ha : PA X [e] ta)
    (hs : starEach [e] X.env = [(false, eval e X.env)] := by rfl) : PI X (.Tuple elts kk tpos) (.Call (.Name "enumerate" p) [e] [] pos) (iEnumT X.K ta) := by
  refine ⟨fun pins s σ H R I h => ?_⟩
  refine Call_ (ld_blt I hg hm boot_enumerate (PyProof.Rows.callWith_type1 (thn (ha.run pos pins s σ H _ I h) fun us s1 ⟨vs, H1, I1, r1, q1⟩ => ?_) hs rfl))
  obtain ⟨a, xs, rfl, hq, q⟩ := q1
  obtain ⟨u, rfl, ru⟩ := vals1 r1
  cases ru
  obtain ⟨its, rv, p', hz⟩ := I1.tuple hq
  have hal : a < s1.heap.objs.size := by
    obtain ⟨o, ho, _⟩ := id p'
    exact Heap.lt_size ho
  refine sv_enum_call (begins_tuple a its.toArray) p' fun h' he hit hk => wpAny_pyIter_enum he ?_
  have I2 : Inv X pins σ H1 { s1 with heap := h' } := I1.kept (t' := s1.toks) hk
  refine ⟨s1.heap.objs.size + 1, [s1.heap.objs.size + 1, s1.heap.objs.size], _, _, H1, rfl, I2, turn_etup a (s1.heap.objs.size + 1) s1.heap.objs.size xs,
    ⟨⟨.none, he⟩, ⟨_, hit, rfl, rfl⟩, Nat.succ_ne_self _, Nat.ne_of_lt hal, Nat.ne_of_lt (Nat.lt_succ_of_lt hal)⟩, fun b hb => ?_, q⟩
  have hle : s1.heap.objs.size ≤ b := by
    rcases (show b = s1.heap.objs.size + 1 ∨ b = s1.heap.objs.size by simpa using hb) with rfl | rfl
    · exact Nat.le_succ _
    · exact Nat.le_refl _
  exact I1.fpOk hle (I1.hok.fresh hle)
/-- the comprehension over it -/
theorem lc_etup {K : PySem.W.Frag} {a : Addr} {xs : List V} {g : TG} {tt : TT} {te : TE} {vs : List Nat} {σ : L2.St} {H1 : Hp} {D : Addr} {Qd : Hp → Prop} (Pv : Nat → Hp → Prop) (h0 : Pv 0 (upd H1 D (.lst [])))
    (hl : ∀ i H, i ≤ xs.length → Pv i H → SqT K H a xs)
    (hs : ∀ i x T H, xs[i]? = some x → Pv i H → H T = none → g (.ref T) (wipe σ vs) (upd H T (.tup [.int (i : Nat), x])) fun σ2 H2 => wipe σ2 vs = wipe σ vs ∧ tt σ2 H2 fun b H3 =>
      if b = true then te σ2 H3 fun y H4 => ∃ acc, H4 D = some (.lst acc) ∧ acc.length < sizeLine ∧ Pv (i + 1) (upd H4 D (.lst (acc ++ [y]))) else Pv (i + 1) H3) (hd : ∀ H, Pv xs.length H → Qd H) :
    ∃ W : Nat → Nat → Hp → Prop, (∃ m, W 0 m (upd H1 D (.lst []))) ∧ ∀ i m H, W i m H →
      ((Itte K a xs).stop i H ∧ Qd H) ∨ ((Itte K a xs).go i H ∧ ∃ Nx : Hp → Prop, (∀ H', Nx H' → ∃ m', m' < m ∧ W (i + 1) m' H') ∧ ∀ x H', (Itte K a xs).yld i H x H' → g x (wipe σ vs) H' fun σ2 H2 => wipe σ2 vs = wipe σ vs ∧ tt σ2 H2 fun b H3 =>
        if b = true then te σ2 H3 fun y H4 => ∃ acc, H4 D = some (.lst acc) ∧ acc.length < sizeLine ∧ Nx (upd H4 D (.lst (acc ++ [y]))) else Nx H3) := by
  refine ⟨fun i m H => m = xs.length - i ∧ i ≤ xs.length ∧ Pv i H, ⟨xs.length, by simp, Nat.zero_le _, h0⟩, ?_⟩
  rintro i m H ⟨rfl, hi, p⟩
  have q := hl i H hi p
  by_cases hlt : i < xs.length
  · refine .inr ⟨⟨q, hlt⟩, Pv (i + 1), fun H' p' => ⟨xs.length - (i + 1), by omega, rfl, hlt, p'⟩, fun x H' y => ?_⟩
    obtain ⟨T, z, rfl, nT, rfl, hz⟩ := y
    exact hs i z T H hz p nT
  · have e : i = xs.length := by omega
    subst e
    exact .inl ⟨⟨q, rfl⟩, hd H p⟩
theorem for_etup {K : PySem.W.Frag} {a : Addr} {xs : List V} {g : TG} {tb : TS} {D : Ends} {σ : L2.St} {H : Hp} (Pv : Nat → L2.St → Hp → Prop) (h0 : Pv 0 σ H) (hl : ∀ i σ H, i ≤ xs.length → Pv i σ H → SqT K H a xs)
    (hs : ∀ i x T σ H, xs[i]? = some x → Pv i σ H → H T = none → g (.ref T) σ (upd H T (.tup [.int (i : Nat), x])) fun σ2 H2 => tb { D with nx := Pv (i + 1), ct := Pv (i + 1), bk := D.nx } σ2 H2) (hd : ∀ σ H, Pv xs.length σ H → D.nx σ H) :
    ∃ W : Nat → Nat → L2.St → Hp → Prop, (∃ m, W 0 m σ H) ∧ ∀ i m σ H, W i m σ H →
      ((Itte K a xs).stop i H ∧ D.nx σ H) ∨ ((Itte K a xs).go i H ∧ ∃ N : L2.St → Hp → Prop, (∀ σ' H', N σ' H' → ∃ m', m' < m ∧ W (i + 1) m' σ' H') ∧ ∀ x H', (Itte K a xs).yld i H x H' → g x σ H' fun σ2 H2 => tb { D with nx := N, ct := N, bk := D.nx } σ2 H2) := by
  refine ⟨fun i m σ H => m = xs.length - i ∧ i ≤ xs.length ∧ Pv i σ H, ⟨xs.length, by simp, Nat.zero_le _, h0⟩, ?_⟩
  rintro i m σ H ⟨rfl, hi, p⟩
  have q := hl i σ H hi p
  by_cases hlt : i < xs.length
  · refine .inr ⟨⟨q, hlt⟩, Pv (i + 1), fun σ' H' p' => ⟨xs.length - (i + 1), by omega, rfl, hlt, p'⟩, fun x H' y => ?_⟩
    obtain ⟨T, z, rfl, nT, rfl, hz⟩ := y
    exact hs i z T σ H hz p nT
  · have e : i = xs.length := by omega
    subst e
    exact .inl ⟨⟨q, rfl⟩, hd σ H p⟩
def rLenS (K : PySem.W.Frag) : List V → Hp → VK → Prop := fun xs H Q => ∃ p ys, xs = [.ref p] ∧ (SqL K H p ys ∨ SqT K H p ys) ∧ Q (.int ys.length) H
theorem call_len_s {X : Cx} : CallR X (.builtin "len") (rLenS X.K) := call_len_seq
/-- a comprehension's block that reads no name from around it -/
theorem blkOk_nf {N : List Str} {sc scope : Scope} {own : List (Str × Nat)} (h : blkC N { kind := .function, names := [], isGenerator := false, isCoroutine := false } scope own = true) (hf : (scope.names.all fun y => decide (y.2 ≠ .free)) = true) : BlkOk N sc scope own := by
  have b := blkOk_by h
  exact ⟨b.kind, b.uniq, b.ix, fun y hy e => absurd e (of_decide_eq_true (List.all_eq_true.mp hf y hy)), b.own⟩
section
variable {X : Cx}
def rTcount (K : PySem.W.Frag) : V → List V → Hp → VK → Prop := fun x args H Q => ∃ (p : Addr) (ns : List Int) (k : Int), x = .ref p ∧ args = [.int k] ∧ SqT K H p (ns.map V.int) ∧ Q (.int (ns.count k : Nat)) H
/-- t.count(k), t a tuple of ints -/
theorem mt_tcount (hu : X.A.units + 64 < cLine) : MtR X "tuple.count" (rTcount X.K) := by
  intro pins s σ H x args v us Q I rx ra h
  obtain ⟨p, ns, k, rfl, rfl, hs, q⟩ := h
  cases rx
  obtain ⟨u, rfl, ru⟩ := vals1 ra
  obtain ⟨t, rfl⟩ := ru
  obtain ⟨its, rv, p1, hz⟩ := I.tuple hs
  obtain ⟨as, R1⟩ := Dp.readsAll I (iD ns) (ns.map V.int) its (dp_ints ns) rv
  have hpl : ∀ ns : List Int, PyData.plainAll (iD ns) = true := by
    intro ns
    induction ns with
    | nil => rfl
    | cons n r ih => exact ih
  have hcnt : ((iD ns).countP fun y => PyData.eqv y (.int k)) = ns.count k := by
    clear R1 rv hs hz q
    induction ns with
    | nil => rfl
    | cons n r ih =>
      have e : PyData.eqv (.int n) (.int k) = (n == k) := by simp only [PyData.eqv]
      simp only [iD, List.map_cons, List.countP_cons, List.count_cons] at ih ⊢
      rw [ih, e]
  refine SeqAt.count_tuple_data (vs := its.toArray) p1 R1 (Reads.int k t) (hpl ns) rfl ?_ ?_
  · have : min (PyData.depthAll (iD ns)) (PyData.int k).depth ≤ 0 := Nat.min_le_right _ _
    omega
  · rw [hcnt]
    exact ⟨.int (ns.count k : Nat), H, I.tok _, ⟨_, rfl⟩, q⟩
end
end Sv

/-! more of tuples of ints: index, slices; kinds of values. -/
namespace Sv
open PySem PySem.Spec PyProof.Rows L2
theorem idx_lt : ∀ {ns : List Int} {k : Int} {m : Nat}, m < ns.idxOf k → ns[m]? ≠ some k
  | [], k, m, h => by simp at h
  | n :: r, k, m, h => by
    rw [List.idxOf_cons] at h
    by_cases e : n = k
    · subst e
      simp at h
    · have e1 : (n == k) = false := beq_eq_false_iff_ne.mpr e
      rw [e1] at h
      cases m with
      | zero => exact fun z => e (Option.some.inj z)
      | succ m => exact fun z => idx_lt (ns := r) (m := m) (by simpa using h) z
theorem flat_ints (ns : List Int) : (ns.map V.int).all flatV = true := by
  rw [List.all_map]
  exact List.all_eq_true.mpr fun _ _ => rfl
theorem in_ints {ns : List Int} {k : Int} : inV (.int k) (ns.map V.int) = decide (k ∈ ns) := by
  unfold inV
  induction ns with
  | nil => rfl
  | cons n r ih =>
    rw [List.map_cons, List.any_cons, ih]
    show ((n == k) || decide (k ∈ r)) = decide (k ∈ n :: r)
    by_cases h : n = k
    · subst h
      simp
    · have h1 : (n == k) = false := beq_eq_false_iff_ne.mpr h
      rw [h1, Bool.false_or]
      simp [Ne.symm h]
section
variable {X : Cx}
def rTindex (K : PySem.W.Frag) : V → List V → Hp → VK → Prop := fun x args H Q => ∃ (p : Addr) (ns : List Int) (k : Int), x = .ref p ∧ args = [.int k] ∧ SqT K H p (ns.map V.int) ∧ k ∈ ns ∧ Q (.int (ns.idxOf k : Nat)) H
/-- t.index(k), k in t -/
theorem mt_tindex : MtR X "tuple.index" (rTindex X.K) := by
  intro pins s σ H x args v us Q I rx ra h
  obtain ⟨p, ns, k, rfl, rfl, hs, hk, q⟩ := h
  cases rx
  obtain ⟨u, rfl, ru⟩ := vals1 ra
  obtain ⟨t, rfl⟩ := ru
  obtain ⟨its, rv, ⟨⟨cls, dd, dt, sl⟩, ho, hc, n, hd⟩, hz⟩ := I.tuple hs
  simp only at hc hd
  subst hc hd
  have hlen : its.length = ns.length := by rw [← rv.length, List.length_map]
  have hj : ns.idxOf k < ns.length := List.idxOf_lt_length_iff.mpr hk
  have at' : ∀ (m : Nat) (hm : m < its.toArray.size), ∃ t' : Tok, ∃ hm2 : m < ns.length, its.toArray[m] = Value.int ns[m] t' := by
    intro m hm
    have hm2 : m < ns.length := by
      rw [List.size_toArray] at hm
      omega
    obtain ⟨w, hw, t', hw'⟩ := rv.get (i := m) (x := .int ns[m]) (at_map' (List.getElem?_eq_getElem hm2))
    refine ⟨t', hm2, ?_⟩
    have e := (List.getElem?_eq_some_iff.mp hw).2
    rw [← hw', ← e]
    simp
  refine call_meets PySem.F.slot_tuple_index ⟨_, ho, rfl⟩ PySem.F.entry_tuple_index (PySem.F.args_tuple_index_2 _ _)
    (TI.tuple_indexAt p its.toArray n dd sl (.int k t) (eqU (.int k)) (ns.idxOf k) (by rw [List.size_toArray]; omega) ?_ ?_)
    ⟨ho, fun w hw => mem_eqAt (x := .int k) ⟨t, rfl⟩ rfl rv (flat_ints ns) w (by simpa using hw), ⟨.int (ns.idxOf k : Nat), H, I.tok _, ⟨_, rfl⟩, q⟩⟩
  · obtain ⟨t', h2, h3⟩ := at' (ns.idxOf k) (by rw [List.size_toArray]; omega)
    rw [h3]
    show (ns[ns.idxOf k] == k) = true
    rw [beq_iff_eq]
    exact List.getElem_idxOf h2
  · intro m hm hmj
    obtain ⟨t', h2, h3⟩ := at' m hm
    rw [h3]
    show (ns[m] == k) = false
    refine beq_eq_false_iff_ne.mpr fun z => idx_lt hmj ?_
    rw [List.getElem?_eq_getElem h2, z]
where
  at_map' {ns : List Int} {m : Nat} {x : Int} (h : ns[m]? = some x) : (ns.map V.int)[m]? = some (.int x) := by
    rw [List.getElem?_map, h]
    rfl
/-- t[lo:hi], not the whole, known to bear no dict -/
def rSlTF (K : PySem.W.Frag) : V → Option Int → Option Int → Hp → VK → Prop := fun x lo hi H Q => ∃ a xs, x = .ref a ∧ SqT K H a xs ∧
  ¬ (HT.sIx xs.length 0 lo = 0 ∧ HT.sIx xs.length xs.length hi = xs.length) ∧ ∀ (p : Addr) (o : Obj), H p = none → o.dict = none → Q (.ref p) (upd H p (.frz o (.tup (cutV xs lo hi))))
theorem sl_tupF : SlR X (rSlTF X.K) := by
  intro pins s σ H x v vl vu lo hi sl Q I rx hs pl pu h
  obtain ⟨a, xs, rfl, hx, hw, q⟩ := h
  cases rx
  obtain ⟨its, r, ht, hz⟩ := I.tuple hx
  have hlen : its.toArray.size = xs.length := by
    rw [List.size_toArray]
    exact r.length.symm
  refine ⟨"tuple", _, PyProof.Rows.slot_tuple_getitem.lookup, ht.typeIs, ?_⟩
  have hnot : ¬ (HT.sIx its.toArray.size 0 lo = 0 ∧ HT.sIx its.toArray.size its.toArray.size hi = its.toArray.size) := by rwa [hlen]
  refine HT.getItem_tuple_cut ht hs pl pu hnot ?_ (hlen ▸ hz)
  rw [hlen]
  have hg := Heap.get?_push_size s.heap (o := { cls := .type "tuple", data := .seq ((its.toArray.toList.drop (HT.sIx xs.length 0 lo)).take (HT.sIx xs.length xs.length hi - HT.sIx xs.length 0 lo)).toArray }) rfl
  refine ⟨.ref s.heap.objs.size, _, I.laid (t' := s.toks) (o := .frz _ (.tup (cutV xs lo hi))) (fun b ob q => Heap.get?_push_of_some _ q) (Nat.le_refl _) ⟨hg, ?_⟩, rfl, q _ _ (I.hok.fresh (Nat.le_refl _)) rfl⟩
  exact ⟨Nat.le_trans (cutV_length xs lo hi) hz, _, (r.drop (HT.sIx xs.length 0 lo)).take (HT.sIx xs.length xs.length hi - HT.sIx xs.length 0 lo), ⟨_, hg, rfl, _, rfl⟩⟩
end
theorem cut_to {xs : List V} {i : Nat} (h : i ≤ xs.length) : cutV xs none (some (i : Int)) = xs.take i := by
  unfold cutV
  rw [HT.sIx_none, HT.sIx_nat, Nat.min_eq_left h]
  rfl
theorem cut_from {xs : List V} {i : Nat} (h : i ≤ xs.length) : cutV xs (some (i : Int)) none = xs.drop i := by
  unfold cutV
  rw [HT.sIx_none, HT.sIx_nat, Nat.min_eq_left h]
  exact List.take_of_length_le (by rw [List.length_drop]; omega)
/-! ### kinds of values -/
inductive Kn (K : PySem.W.Frag) (H : Hp) : V → Prop
  | non : Kn K H .non
  | bl (b : Bool) : Kn K H (.bl b)
  | int (i : Int) : Kn K H (.int i)
  | str (x : Str) : Kn K H (.str x)
  | lst {a : Addr} {xs : List V} (e : H a = some (.lst xs)) : Kn K H (.ref a)
  | tup {a : Addr} {xs : List V} (e : H a = some (.tup xs)) : Kn K H (.ref a)
  | ftup {a : Addr} {o : Obj} {xs : List V} (e : H a = some (.frz o (.tup xs))) : Kn K H (.ref a)
  | dK {a : Addr} {kvs : List (Key × V)} (e : H a = some (.dK kvs)) : Kn K H (.ref a)
theorem Kn.same {K : PySem.W.Frag} {H H' : Hp} {v : V} (h : Kn K H v) (e : ∀ b o, H b = some o → H' b = some o) : Kn K H' v := by
  cases h with
  | non => exact .non
  | bl b => exact .bl b
  | int i => exact .int i
  | str x => exact .str x
  | lst h => exact .lst (e _ _ h)
  | tup h => exact .tup (e _ _ h)
  | ftup h => exact .ftup (e _ _ h)
  | dK h => exact .dK (e _ _ h)
def isI : V → Bool
  | .int _ => true
  | .bl _ => true
  | _ => false
def isB : V → Bool
  | .bl _ => true
  | _ => false
theorem Kn.isInt {K : PySem.W.Frag} {H : Hp} {v : V} (h : Kn K H v) : ∃ t, TyX K H v t ∧ PySem.W.kitOne K t (.type "int") = some (isI v) := by
  cases h with
  | non => exact ⟨_, .base .non, kit_ty (by decide +kernel)⟩
  | bl b => exact ⟨_, .base (.bl b), kit_ty (by show kitB "bool" "int" = some true; decide +kernel)⟩
  | int i => exact ⟨_, .base (.int i), kit_ty (by show kitB "int" "int" = some true; decide +kernel)⟩
  | str x => exact ⟨_, .base (.str x), kit_ty (by show kitB "str" "int" = some false; decide +kernel)⟩
  | lst h => exact ⟨_, .base (.lst h), kit_ty (by show kitB "list" "int" = some false; decide +kernel)⟩
  | tup h => exact ⟨_, .base (.tup h), kit_ty (by show kitB "tuple" "int" = some false; decide +kernel)⟩
  | ftup h => exact ⟨_, .fTuple h, kit_ty (by show kitB "tuple" "int" = some false; decide +kernel)⟩
  | dK h => exact ⟨_, .base (.dK h), kit_ty (by show kitB "dict" "int" = some false; decide +kernel)⟩
theorem Kn.isBool {K : PySem.W.Frag} {H : Hp} {v : V} (h : Kn K H v) : ∃ t, TyX K H v t ∧ PySem.W.kitOne K t (.type "bool") = some (isB v) := by
  cases h with
  | non => exact ⟨_, .base .non, kit_ty (by decide +kernel)⟩
  | bl b => exact ⟨_, .base (.bl b), kit_ty (by show kitB "bool" "bool" = some true; decide +kernel)⟩
  | int i => exact ⟨_, .base (.int i), kit_ty (by show kitB "int" "bool" = some false; decide +kernel)⟩
  | str x => exact ⟨_, .base (.str x), kit_ty (by show kitB "str" "bool" = some false; decide +kernel)⟩
  | lst h => exact ⟨_, .base (.lst h), kit_ty (by show kitB "list" "bool" = some false; decide +kernel)⟩
  | tup h => exact ⟨_, .base (.tup h), kit_ty (by show kitB "tuple" "bool" = some false; decide +kernel)⟩
  | ftup h => exact ⟨_, .fTuple h, kit_ty (by show kitB "tuple" "bool" = some false; decide +kernel)⟩
  | dK h => exact ⟨_, .base (.dK h), kit_ty (by show kitB "dict" "bool" = some false; decide +kernel)⟩
/-- a number from lo to hi -/
def numIn (v : V) (lo hi : Int) : Bool := match v with
  | .int i => decide (lo ≤ i) && decide (i ≤ hi)
  | _ => false
def spNum (K : PySem.W.Frag) : Sp := fun vs H Q _ => ∃ (v : V) (lo hi : Int), vs = [v, .int lo, .int hi] ∧ Kn K H v ∧ Q (.bl (numIn v lo hi)) H
end Sv

/-! data with lists that are not sys.modules, and with small dicts: repr of it. -/
namespace Sv
open PySem PySem.Spec PyProof.Rows L2
mutual
inductive DX (N : Addr → Prop) (K : PySem.W.Frag) (H : Hp) : V → PyData → Prop
  | non : DX N K H .non .none
  | bl (b : Bool) : DX N K H (.bl b) (.bool b)
  | int (i : Int) : DX N K H (.int i) (.int i)
  | str (x : Str) : DX N K H (.str x) (.str x)
  | lst {a : Addr} {xs : List V} {ds : List PyData} : H a = some (.lst xs) → N a → DXs N K H xs ds → DX N K H (.ref a) (.list ds)
  | tup {a : Addr} {xs : List V} {ds : List PyData} : (H a = some (.tup xs) ∨ ∃ o, H a = some (.frz o (.tup xs))) → DXs N K H xs ds → DX N K H (.ref a) (.tuple ds)
  | d0 {a : Addr} : H a = some (.dK []) → DX N K H (.ref a) (.dict [])
  | d1 {a : Addr} {k : Str} {i : Int} : H a = some (.dK [(Sum.inr k, .int i)]) → DX N K H (.ref a) (.dict [(.str k, .int i)])
inductive DXs (N : Addr → Prop) (K : PySem.W.Frag) (H : Hp) : List V → List PyData → Prop
  | nil : DXs N K H [] []
  | cons {v : V} {vs : List V} {d : PyData} {ds : List PyData} : DX N K H v d → DXs N K H vs ds → DXs N K H (v :: vs) (d :: ds)
end
mutual
/-- wherever lists, tuples and dicts stay -/
theorem DX.keep {N : Addr → Prop} {K : PySem.W.Frag} {H H' : Hp} (e : ∀ (a : Addr) (xs : List V), N a → H a = some (.lst xs) → H' a = some (.lst xs)) (e2 : ∀ (a : Addr) (xs : List V), (H a = some (.tup xs) ∨ ∃ o, H a = some (.frz o (.tup xs))) → (H' a = some (.tup xs) ∨ ∃ o, H' a = some (.frz o (.tup xs))))
    (e3 : ∀ (a : Addr) (kvs : List (Key × V)), H a = some (.dK kvs) → H' a = some (.dK kvs)) : ∀ {v : V} {d : PyData}, DX N K H v d → DX N K H' v d
  | _, _, .non => .non
  | _, _, .bl b => .bl b
  | _, _, .int i => .int i
  | _, _, .str x => .str x
  | _, _, .lst h n hs => .lst (e _ _ n h) n (DXs.keep e e2 e3 hs)
  | _, _, .tup h hs => .tup (e2 _ _ h) (DXs.keep e e2 e3 hs)
  | _, _, .d0 h => .d0 (e3 _ _ h)
  | _, _, .d1 h => .d1 (e3 _ _ h)
theorem DXs.keep {N : Addr → Prop} {K : PySem.W.Frag} {H H' : Hp} (e : ∀ (a : Addr) (xs : List V), N a → H a = some (.lst xs) → H' a = some (.lst xs)) (e2 : ∀ (a : Addr) (xs : List V), (H a = some (.tup xs) ∨ ∃ o, H a = some (.frz o (.tup xs))) → (H' a = some (.tup xs) ∨ ∃ o, H' a = some (.frz o (.tup xs))))
    (e3 : ∀ (a : Addr) (kvs : List (Key × V)), H a = some (.dK kvs) → H' a = some (.dK kvs)) : ∀ {vs : List V} {ds : List PyData}, DXs N K H vs ds → DXs N K H' vs ds
  | _, _, .nil => .nil
  | _, _, .cons h hs => .cons (DX.keep e e2 e3 h) (DXs.keep e e2 e3 hs)
end
theorem DX.kp {K : PySem.W.Frag} {H H' : Hp} {a b : Addr} {N : Addr → Prop} {v : V} {d : PyData} (h : DX N K H v d) (e : Kp a b H H') (ha : ¬ N a) (hb : ¬ N b) (la : ∃ xs, H a = some (.lst xs)) (lb : ∃ xs, H b = some (.lst xs)) : DX N K H' v d := by
  obtain ⟨xa, la⟩ := la
  obtain ⟨xb, lb⟩ := lb
  refine h.keep (fun c xs hc q => e _ _ (fun z => ha (z ▸ hc)) (fun z => hb (z ▸ hc)) q) (fun c xs q => q.elim (fun q => .inl (e _ _ (ne_of q la (by intro z; cases z)) (ne_of q lb (by intro z; cases z)) q)) fun ⟨o, q⟩ => .inr ⟨o, e _ _ (ne_of q la (by intro z; cases z)) (ne_of q lb (by intro z; cases z)) q⟩)
    (fun c xs q => e _ _ (ne_of q la (by intro z; cases z)) (ne_of q lb (by intro z; cases z)) q)
mutual
theorem DX.weak {N M : Addr → Prop} {K : PySem.W.Frag} {H : Hp} (e : ∀ (a : Addr) (xs : List V), H a = some (.lst xs) → N a → M a) : ∀ {v : V} {d : PyData}, DX N K H v d → DX M K H v d
  | _, _, .non => .non
  | _, _, .bl b => .bl b
  | _, _, .int i => .int i
  | _, _, .str x => .str x
  | _, _, .lst h n hs => .lst h (e _ _ h n) (DXs.weak e hs)
  | _, _, .tup h hs => .tup h (DXs.weak e hs)
  | _, _, .d0 h => .d0 h
  | _, _, .d1 h => .d1 h
theorem DXs.weak {N M : Addr → Prop} {K : PySem.W.Frag} {H : Hp} (e : ∀ (a : Addr) (xs : List V), H a = some (.lst xs) → N a → M a) : ∀ {vs : List V} {ds : List PyData}, DXs N K H vs ds → DXs M K H vs ds
  | _, _, .nil => .nil
  | _, _, .cons h hs => .cons (DX.weak e h) (DXs.weak e hs)
end
theorem DX.same {N : Addr → Prop} {K : PySem.W.Frag} {H H' : Hp} {v : V} {d : PyData} (h : DX N K H v d) (e : Same H H') : DX N K H' v d := h.keep (fun a xs _ q => e _ _ q) (fun a xs q => q.elim (fun q => .inl (e _ _ q)) fun ⟨o, q⟩ => .inr ⟨o, e _ _ q⟩) (fun a xs q => e _ _ q)
theorem DXs.same {N : Addr → Prop} {K : PySem.W.Frag} {H H' : Hp} {v : List V} {d : List PyData} (h : DXs N K H v d) (e : Same H H') : DXs N K H' v d := h.keep (fun a xs _ q => e _ _ q) (fun a xs q => q.elim (fun q => .inl (e _ _ q)) fun ⟨o, q⟩ => .inr ⟨o, e _ _ q⟩) (fun a xs q => e _ _ q)
theorem DXs.len {N : Addr → Prop} {K : PySem.W.Frag} {H : Hp} : ∀ {vs : List V} {ds : List PyData}, DXs N K H vs ds → vs.length = ds.length
  | _, _, .nil => rfl
  | _, _, .cons _ hs => by rw [List.length_cons, List.length_cons, DXs.len hs]
theorem DXs.at {N : Addr → Prop} {K : PySem.W.Frag} {H : Hp} : ∀ {vs : List V} {ds : List PyData}, DXs N K H vs ds → ∀ {i : Nat} {v : V}, vs[i]? = some v → ∃ d, ds[i]? = some d ∧ DX N K H v d
  | _, _, .nil, i, v, h => by simp at h
  | _, _, .cons (d := d) h1 h2, 0, v, h => by
    cases h
    exact ⟨d, rfl, h1⟩
  | _, _, .cons h1 h2, i + 1, v, h => DXs.at h2 (i := i) h
theorem DXs.append {N : Addr → Prop} {K : PySem.W.Frag} {H : Hp} : ∀ {vs : List V} {ds : List PyData} {ws : List V} {es : List PyData}, DXs N K H vs ds → DXs N K H ws es → DXs N K H (vs ++ ws) (ds ++ es)
  | _, _, _, _, .nil, h => h
  | _, _, _, _, .cons h1 h2, h => .cons h1 (DXs.append h2 h)
theorem DXs.ints {N : Addr → Prop} {K : PySem.W.Frag} {H : Hp} : ∀ ns : List Int, DXs N K H (ns.map V.int) (iD ns)
  | [] => .nil
  | n :: r => .cons (.int n) (DXs.ints r)
theorem DX.kn {N : Addr → Prop} {K : PySem.W.Frag} {H : Hp} {v : V} {d : PyData} (h : DX N K H v d) : Kn K H v := by
  cases h with
  | non => exact .non
  | bl b => exact .bl b
  | int i => exact .int i
  | str x => exact .str x
  | lst h _ _ => exact .lst h
  | tup h _ =>
    rcases h with h | ⟨o, h⟩
    · exact .tup h
    · exact .ftup h
  | d0 h => exact .dK h
  | d1 h => exact .dK h
def tupOf : PyData → Bool
  | .tuple _ => true
  | _ => false
theorem DX.isTup {N : Addr → Prop} {K : PySem.W.Frag} {H : Hp} {v : V} {d : PyData} (h : DX N K H v d) : ∃ t, TyX K H v t ∧ PySem.W.kitOne K t (.type "tuple") = some (tupOf d) := by
  cases h with
  | non => exact ⟨_, .base .non, kit_ty (by decide +kernel)⟩
  | bl b => exact ⟨_, .base (.bl b), kit_ty (by show kitB "bool" "tuple" = some false; decide +kernel)⟩
  | int i => exact ⟨_, .base (.int i), kit_ty (by show kitB "int" "tuple" = some false; decide +kernel)⟩
  | str x => exact ⟨_, .base (.str x), kit_ty (by show kitB "str" "tuple" = some false; decide +kernel)⟩
  | lst h _ _ => exact ⟨_, .base (.lst h), kit_ty (by show kitB "list" "tuple" = some false; decide +kernel)⟩
  | tup h _ =>
    rcases h with h | ⟨o, h⟩
    · exact ⟨_, .base (.tup h), kit_ty (by show kitB "tuple" "tuple" = some true; decide +kernel)⟩
    · exact ⟨_, .fTuple h, kit_ty (by show kitB "tuple" "tuple" = some true; decide +kernel)⟩
  | d0 h => exact ⟨_, .base (.dK h), kit_ty (by show kitB "dict" "tuple" = some false; decide +kernel)⟩
  | d1 h => exact ⟨_, .base (.dK h), kit_ty (by show kitB "dict" "tuple" = some false; decide +kernel)⟩
theorem DX.tupInv {N : Addr → Prop} {K : PySem.W.Frag} {H : Hp} {v : V} {ds : List PyData} (h : DX N K H v (.tuple ds)) : ∃ a xs, v = .ref a ∧ SqT K H a xs ∧ DXs N K H xs ds := by
  cases h with
  | tup h hs => exact ⟨_, _, rfl, .inl h, hs⟩
/-- a number from lo to hi, told of data -/
def numD (d : PyData) (lo hi : Int) : Bool := match d with
  | .int i => decide (lo ≤ i) && decide (i ≤ hi)
  | _ => false
theorem DX.num {N : Addr → Prop} {K : PySem.W.Frag} {H : Hp} {v : V} {d : PyData} (h : DX N K H v d) (lo hi : Int) : numIn v lo hi = numD d lo hi := by
  cases h <;> rfl
section
variable {X : Cx} {pins : List (Addr × Obj)} {σ : L2.St} {H : Hp} {s : Shared} {N : Addr → Prop}
mutual
theorem DX.reads (hN : ∀ a, N a → a ≠ sysModules) (I : Inv X pins σ H s) : ∀ (d : PyData) (v : V) (u : Value), DX N X.K H v d → RelV v u → ∃ as, Reads s.heap u d as ∧ sysModules ∉ as
  | .none, _, _, h, r => by
    cases h
    cases r
    exact ⟨_, Reads.none, List.not_mem_nil⟩
  | .bool b, _, _, h, r => by
    cases h
    cases r
    exact ⟨_, Reads.bool b, List.not_mem_nil⟩
  | .int i, _, _, h, r => by
    cases h
    obtain ⟨t, rfl⟩ := r
    exact ⟨_, Reads.int i t, List.not_mem_nil⟩
  | .str x, _, _, h, r => by
    cases h
    obtain ⟨t, rfl⟩ := r
    exact ⟨_, Reads.str x t, List.not_mem_nil⟩
  | .list ds, _, _, h, r => by
    cases h with
    | lst hs hn ha =>
      cases r
      obtain ⟨its, rv, ⟨o, n, ho, hc, _, hd⟩, _⟩ := I.list (.of hs)
      obtain ⟨as, hr, hm⟩ := DXs.reads hN I ds _ its ha rv
      exact ⟨_, Reads.list ho hc hd hr, fun z => (List.mem_cons.mp z).elim (fun z => hN _ hn z.symm) hm⟩
  | .tuple ds, _, _, h, r => by
    cases h with
    | tup hs ha =>
      cases r
      obtain ⟨its, rv, ⟨o, ho, hc, n, hd⟩, _⟩ := I.tuple (.inl hs)
      obtain ⟨as, hr, hm⟩ := DXs.reads hN I ds _ its ha rv
      exact ⟨_, Reads.tuple ho hc hd hr, hm⟩
  | .dict kvs, _, _, h, r => by
    cases h with
    | d0 hs =>
      cases r
      obtain ⟨_, hn, vs, kv, o, es, ep, ho, ⟨hc, _, _⟩, hd, _, hp, _⟩ := I.hok _ _ hs
      cases kv
      have he : es.toList = [] := by
        generalize es.toList = l at hp
        cases hp
        rfl
      refine ⟨_, Reads.dict (as := []) (bs := []) ho hc hd (by rw [he]; exact .nil) (by rw [he]; exact .nil), fun z => ?_⟩
      have hz := List.mem_singleton.mp (by simpa using z)
      rw [hz] at hn
      simp at hn
    | @d1 _ k i hs =>
      cases r
      obtain ⟨_, hn, vs, kv, o, es, ep, ho, ⟨hc, _, _⟩, hd, _, hp, _⟩ := I.hok _ _ hs
      obtain ⟨u, t, rfl, rfl⟩ : ∃ (u : Value) (t : Tok), vs = [(Sum.inr k, u)] ∧ u = .int i t := by
        match vs, kv with
        | [(k', u)], .cons ⟨e1, t, e2⟩ .nil => exact ⟨u, t, by rw [show (Sum.inr k : Key) = k' from e1], e2⟩
      generalize hl : es.toList = l at hp
      cases hp with
      | @cons e _ _ _ p1 p2 p3 =>
        cases p3
        obtain ⟨hh, key, val⟩ := e
        have p2' : val = Value.int i t := p2
        subst p2'
        have p1' : keyIs (Sum.inr k) key = true := p1
        obtain ⟨i', t', z, _⟩ | ⟨x, t', z, rfl⟩ := keyIs_shape p1'
        · cases z
        · cases z
          refine ⟨_, Reads.dict (as := [] ++ []) (bs := [] ++ []) ho hc hd (by rw [hl]; exact .cons (.str _ _) .nil) (by rw [hl]; exact .cons (.int _ _) .nil), fun z => ?_⟩
          have hz := List.mem_singleton.mp (by simpa using z)
          rw [hz] at hn
          simp at hn
theorem DXs.reads (hN : ∀ a, N a → a ≠ sysModules) (I : Inv X pins σ H s) : ∀ (ds : List PyData) (vs : List V) (us : List Value), DXs N X.K H vs ds → Vals vs us → ∃ as, ReadsAll s.heap us ds as ∧ sysModules ∉ as
  | [], _, _, h, r => by
    cases h
    cases r
    exact ⟨_, ReadsAll.nil, List.not_mem_nil⟩
  | d :: ds, _, _, h, r => by
    cases h with
    | cons h1 h2 =>
      cases r with
      | cons r1 r2 =>
        obtain ⟨as, q1, m1⟩ := DX.reads hN I d _ _ h1 r1
        obtain ⟨bs, q2, m2⟩ := DXs.reads hN I ds _ _ h2 r2
        exact ⟨_, ReadsAll.cons q1 q2, fun z => (List.mem_append.mp z).elim m1 m2⟩
end
end
/-- data whose text can be shown -/
structure FineX (n W : Nat) (d : PyData) : Prop where
  dep : d.depth ≤ n
  wei : d.weight ≤ W
  sho : d.showable = true
  lea : d.leavesShort 40 = true
structure FineXs (n W : Nat) (ds : List PyData) : Prop where
  dep : PyData.depthAll ds ≤ n
  wei : PyData.weightAll ds ≤ W
  sho : PyData.showableAll ds = true
  lea : PyData.leavesShortAll 40 ds = true
theorem FineX.mono {n W m U : Nat} {d : PyData} (h : FineX n W d) (e : n ≤ m) (e2 : W ≤ U) : FineX m U d := ⟨Nat.le_trans h.dep e, Nat.le_trans h.wei e2, h.sho, h.lea⟩
theorem FineXs.mono {n W m U : Nat} {d : List PyData} (h : FineXs n W d) (e : n ≤ m) (e2 : W ≤ U) : FineXs m U d := ⟨Nat.le_trans h.dep e, Nat.le_trans h.wei e2, h.sho, h.lea⟩
theorem finex_nil : FineXs 0 0 [] := ⟨Nat.le_refl _, Nat.le_refl _, rfl, rfl⟩
theorem finex_cons {n W U : Nat} {d : PyData} {ds : List PyData} (h : FineX n W d) (hs : FineXs n U ds) : FineXs n (W + 1 + U) (d :: ds) := by
  refine ⟨?_, ?_, ?_, ?_⟩
  · simp only [PyData.depthAll]
    exact Nat.max_le.mpr ⟨h.dep, hs.dep⟩
  · have h1 := h.wei
    have h2 := hs.wei
    simp only [PyData.weightAll]
    omega
  · simp only [PyData.showableAll, h.sho, hs.sho, Bool.and_self]
  · simp only [PyData.leavesShortAll, h.lea, hs.lea, Bool.and_self]
theorem finex_list {n W : Nat} {ds : List PyData} (h : FineXs n W ds) : FineX (n + 1) W (.list ds) := by
  have h1 := h.dep
  refine ⟨by simp only [PyData.depth]; omega, h.wei, ?_, ?_⟩
  · simp only [PyData.showable, h.sho]
  · simp only [PyData.leavesShort, h.lea]
theorem finex_tuple {n W : Nat} {ds : List PyData} (h : FineXs n W ds) : FineX (n + 1) W (.tuple ds) := by
  have h1 := h.dep
  refine ⟨by simp only [PyData.depth]; omega, h.wei, ?_, ?_⟩
  · simp only [PyData.showable, h.sho]
  · simp only [PyData.leavesShort, h.lea]
theorem finex_all {n W : Nat} : ∀ {ds : List PyData}, (∀ d ∈ ds, FineX n W d) → FineXs n ((W + 1) * ds.length) ds
  | [], _ => finex_nil.mono (Nat.zero_le _) (Nat.zero_le _)
  | d :: ds, h => by
    have q := finex_cons (h d List.mem_cons_self) (finex_all fun x hx => h x (List.mem_cons_of_mem _ hx))
    refine q.mono (Nat.le_refl _) ?_
    rw [List.length_cons, Nat.mul_add, Nat.mul_one]
    omega
theorem FineX.len {n W : Nat} {d : PyData} (h : FineX n W d) (hW : W ≤ 300000) : d.shown.length ≤ sizeLine := by
  have q := PyData.shown_le 40 (by decide) d h.lea
  have := h.wei
  rw [sizeLine_eq]
  omega
section
variable {X : Cx}
def ShownX (N : Addr → Prop) (K : PySem.W.Frag) (H : Hp) (v : V) (d : PyData) : Prop := (∀ a, N a → a ≠ sysModules) ∧ DX N K H v d ∧ isDisplay d = true ∧ d.showable = true ∧ d.depth ≤ 60 ∧ d.shown.length ≤ sizeLine
theorem FineX.shown {N : Addr → Prop} {K : PySem.W.Frag} {H : Hp} {v : V} {n W : Nat} {d : PyData} (h : FineX n W d) (hn : n ≤ 60) (hW : W ≤ 300000) (hN : ∀ a, N a → a ≠ sysModules) (hd : DX N K H v d) (hi : isDisplay d = true) : ShownX N K H v d :=
  ⟨hN, hd, hi, h.sho, Nat.le_trans h.dep hn, h.len hW⟩
theorem call_reprX (hgd : X.A.guards = some []) (hu : X.A.units + 64 < cLine) : CallR X (.builtin "repr") (fun xs H Q => ∃ N v d, xs = [v] ∧ ShownX N X.K H v d ∧ Q (.str d.shown) H) := by
  intro pins s σ H xs us Q I r h
  obtain ⟨N, v, d, rfl, ⟨hN, hd, h1, h2, h4, h5⟩, q⟩ := h
  obtain ⟨u, rfl, ru⟩ := vals1 r
  obtain ⟨as, R, hm⟩ := DX.reads hN I d v u hd ru
  obtain ⟨a, rfl⟩ := isRef_of_reads R h1
  refine repr_of_reads' R h2 (fun _ => hm) hgd (by omega) (fun _ _ e => e) (fun h' tk1 tk2 hk => ?_) h5
  exact ⟨.str _, H, I.kept (t' := tk2) hk, ⟨tk1, rfl⟩, q⟩
/-- a list display, told that it is not sys.modules -/
def tLstS (t : TA) : TE := fun σ H Q => t σ H fun xs H1 => xs.length ≤ sizeLine ∧ ∀ p, H1 p = none → p ≠ sysModules → Q (.ref p) (upd H1 p (.lst xs))
theorem pe_lstS {es : List Expr} {t : TA} {pos : Pos} (h : PA X es t) : PE X (.List es pos) (tLstS t) := by
  refine ⟨fun pins s σ H Q I hq => ?_⟩
  refine wpAny_List_spliced (thn (h.run pos pins s σ H _ I hq) fun us s1 ⟨xs, H1, I1, r, z, q⟩ => ⟨by rw [← r.length]; exact z, ?_⟩)
  have hf : H1 s1.heap.objs.size = none := I1.hok.fresh (Nat.le_refl _)
  refine ⟨.ref s1.heap.objs.size, upd H1 s1.heap.objs.size (.lst xs), I1.laid (t' := s1.toks) (fun b u e => Heap.get?_push_of_some _ e) (Nat.le_refl _) ?_, rfl, q _ hf (Ne.symm (Nat.ne_of_lt I1.big))⟩
  exact ⟨z, us, 0, r, Heap.get?_push_size _ rfl⟩
/-- list(x), told that it is not sys.modules -/
def rListS (K : PySem.W.Frag) : List V → Hp → VK → Prop := fun xs H Q => ∃ p ys, xs = [.ref p] ∧ (SqL K H p ys ∨ SqT K H p ys) ∧ ∀ l, H l = none → l ≠ sysModules → Q (.ref l) (upd H l (.lst ys))
theorem call_listS : CallR X (.type "list") (rListS X.K) := by
  intro pins s σ H xs us Q I r h
  obtain ⟨p, ys, rfl, hq, q⟩ := h
  obtain ⟨u, rfl, rx⟩ := vals1 r
  cases rx
  have fin : ∀ (its : List Value), Vals ys its → ys.length ≤ sizeLine → ∀ (h' : Heap) (c' : Nat), (∀ b o', s.heap.get? b = some o' → h'.get? b = some o') →
      h'.get? s.heap.objs.size = some { cls := .type "list", dict := none, data := .seq its.toArray c', slots := #[] } → EP X pins σ Q (.ref s.heap.objs.size) { s with heap := h' } := fun its r' hz h' c' kp e =>
    ⟨.ref s.heap.objs.size, _, I.laid (t' := s.toks) kp (Nat.le_refl _) (show ObjOk X.prog X.w _ h' _ (.lst ys) from ⟨hz, its, c', r', e⟩), rfl, q _ (I.hok.fresh (Nat.le_refl _)) (Ne.symm (Nat.ne_of_lt I.big))⟩
  rcases hq with hq | hq
  · obtain ⟨its, r', pl, hz⟩ := I.list hq
    have hlen := r'.length
    obtain ⟨o, ho, hc, n, hd⟩ := pl.isList
    exact call_list_seq p (.inl rfl) ho hc hd (fun h' c' kp e => fin its r' hz h' c' kp e) (by simp only [List.size_toArray] <;> omega)
  · obtain ⟨its, r', pl, hz⟩ := I.tuple hq
    have hlen := r'.length
    obtain ⟨o, ho, hc, n, hd⟩ := pl
    exact call_list_seq p (.inr rfl) ho hc hd (fun h' c' kp e => fin its r' hz h' c' kp e) (by simp only [List.size_toArray] <;> omega)
end
end Sv

set_option maxHeartbeats 4000000
/-! tuple * 1: the same tuple. -/
namespace Sv
open PySem PySem.Spec PyProof.Rows L2
theorem tuple_mulW1 (l : Addr) (items : Array Value) (n : Nat) (dd : Option Addr) (sl : Array (Option Value)) (u : Tok) (c1 : (items.isEmpty || (1 : Int) == 1) = true) :
    Meets (Builtin.«tuple.__mul__» ⟨[.ref l, .int 1 u], []⟩) (fun _ R s => s.heap.get? l = some { cls := .type "tuple", dict := dd, data := .seq items n, slots := sl } ∧ R (.ok (.ret (Value.ref l))) s) :=
  .of_wp fun prog w A R s h => by
    obtain ⟨hp, g, d, tk, os⟩ := s
    obtain ⟨hl, h⟩ := h
    have f1 := AutoSeq1.idx_int
    wp_walk using wpAny_loadPart' hl
    repeat (first
      | (refine wpAny_ite_true (decide_eq_true c1) ?_; wp_walk using wpAny_loadPart' hl)
      | (refine wpAny_ite_false (decide_eq_false (by decide)) ?_; wp_walk using wpAny_loadPart' hl))
    exact ⟨_, rfl, h⟩
section
variable {X : Cx}
def rRep1 (K : PySem.W.Frag) : R2 := fun x y H Q => ∃ l xs, x = .ref l ∧ y = .int 1 ∧ SqT K H l xs ∧ Q (.ref l) H
theorem op_rep1 : OpR X (binaryOp .Mult) (rRep1 X.K) := by
  intro pins s σ H x y v u Q I rx ry h
  obtain ⟨l, xs, rfl, rfl, hT, q⟩ := h
  cases rx
  obtain ⟨t, rfl⟩ := ry
  obtain ⟨its, r, ⟨⟨cls, dd, data, sl⟩, ho, hc, n, hd⟩, hs⟩ := I.tuple hT
  simp only at hc hd
  subst hc hd
  refine wpAny_binaryOp_repeat_ref (T := "tuple") (U := "int") (by decide) ⟨_, ho, rfl⟩ (fun s' => typeIs_int s' 1 t) noFill_tuple_mul F.fills_int_mul F.slot_int_rmul repeat_tuple F.slot_int_index.lookup
    (call_meets F.slot_int_rmul (typeIs_int s 1 t) F.entry_int_rmul (F.args_int_rmul_2 _ _) (int_rmul_tuple 1 t l its.toArray n dd sl)
      ⟨ho, rfl, ⟨_, ho, rfl⟩, call_meets F.slot_tuple_mul ⟨_, ho, rfl⟩ F.entry_tuple_mul (F.args_tuple_mul_2 _ _) (tuple_mulW1 l its.toArray n dd sl t (by simp)) ⟨ho, ?_⟩⟩)
  exact ⟨.ref l, H, I, rfl, q⟩
def rRepA (K : PySem.W.Frag) : R2 := fun x y H Q => rRepT K x y H Q ∨ rRep1 K x y H Q
theorem op_repA : OpR X (binaryOp .Mult) (rRepA X.K) := OpR.or op_repT op_rep1
end
/-- a tuple of zeros -/
theorem rep_zeros {K : PySem.W.Frag} {H : Hp} {l : Addr} {c : Nat} {Q : VK} (h : SqT K H l [.int 0]) (h1 : 1 ≤ c) (h6 : c ≤ 6) (q : ∀ (H' : Hp) (p : Addr), Same H H' → SqT K H' p (List.replicate c (.int 0)) → Q (.ref p) H') : rRepA K (.ref l) (.int c) H Q := by
  by_cases e : c = 1
  · subst e
    exact .inr ⟨l, _, rfl, rfl, h, q H l (Same.refl H) h⟩
  · refine .inl ⟨l, c, _, rfl, rfl, h, by simp, by omega, by omega, by simp, fun p np => q _ p (Same.new np) ?_⟩
    have : (List.replicate ((c : Int)).toNat [V.int 0]).flatten = List.replicate c (.int 0) := by
      rw [Int.toNat_natCast]
      clear h q
      induction c with
      | zero => rfl
      | succ n ih =>
        rw [List.replicate_succ, List.flatten_cons, List.replicate_succ]
        by_cases h0 : n = 0
        · subst h0; rfl
        · have : (List.replicate n [V.int 0]).flatten = List.replicate n (.int 0) := by
            clear ih
            induction n with
            | zero => rfl
            | succ m ihm => rw [List.replicate_succ, List.flatten_cons, List.replicate_succ]; rcases Nat.eq_zero_or_pos m with z | z
                            · subst z; rfl
                            · rw [ihm (by omega) (by omega) (by omega) (by omega)]; rfl
          rw [this]; rfl
    rw [this]
    exact .inl (.inl upd_same)
end Sv

/-! + and cuts of any tuples, told once for all. -/
namespace Sv
open PySem PySem.Spec PyProof.Rows L2
def TupT (H : Hp) (a : Addr) (xs : List V) : Prop := H a = some (.tup xs) ∨ ∃ o, H a = some (.frz o (.tup xs))
theorem TupT.sqT {K : PySem.W.Frag} {H : Hp} {a : Addr} {xs : List V} (h : TupT H a xs) : SqT K H a xs := .inl h
theorem TupT.same {H H' : Hp} {a : Addr} {xs : List V} (h : TupT H a xs) (e : Same H H') : TupT H' a xs := h.elim (fun q => .inl (e _ _ q)) fun ⟨o, q⟩ => .inr ⟨o, e _ _ q⟩
theorem slA {K : PySem.W.Frag} {H : Hp} {a : Addr} {xs : List V} {lo hi : Option Int} {Q : VK} (h : TupT H a xs) (q : ∀ (H' : Hp) (p : Addr), Same H H' → TupT H' p (cutV xs lo hi) → Q (.ref p) H') : rSlA K (.ref a) lo hi H Q := by
  refine ⟨a, xs, rfl, h.sqT, fun z => ?_, fun _ p np => q _ p (Same.new np) (.inl upd_same)⟩
  refine q H a (Same.refl H) ?_
  have e : cutV xs lo hi = xs := by
    unfold cutV
    rw [z.1, z.2, List.drop_zero, Nat.sub_zero, List.take_length]
  rw [e]
  exact h
theorem catA {K : PySem.W.Frag} {H : Hp} {a b : Addr} {xs ys : List V} {Q : VK} (ha : TupT H a xs) (hb : TupT H b ys) (hl : xs.length + ys.length ≤ 1000) (q : ∀ (H' : Hp) (p : Addr), Same H H' → TupT H' p (xs ++ ys) → Q (.ref p) H') : L2.rCatA K (.ref a) (.ref b) H Q := by
  refine ⟨a, b, xs, ys, rfl, rfl, ha.sqT, hb.sqT, Nat.le_of_lt (small1000 (by omega)), fun z => q H b (Same.refl H) (by rw [z]; exact hb), fun _ z => q H a (Same.refl H) (by rw [z, List.append_nil]; exact ha), fun _ _ p np => q _ p (Same.new np) (.inl upd_same)⟩
theorem cut_last (xs : List V) : cutV xs none (some (-1)) = xs.take (xs.length - 1) := by
  unfold cutV
  have e : HT.sIx xs.length xs.length (some (-1)) = xs.length - 1 := by
    show (if (-1 : Int) < 0 then (-1 + (xs.length : Int)).toNat else min (-1 : Int).toNat xs.length) = _
    rw [if_pos (by decide)]
    omega
  rw [HT.sIx_none, e, List.drop_zero, Nat.sub_zero]
end Sv

set_option maxHeartbeats 1000000
/-! zip over any number of tuples, one name as its target -/
namespace Sv
open PySem
theorem forIn_to {M : Model} {A : Around} {E : Value → Shared → Prop} {α β : Type} {f : α → β → Sem (ForInStep β)} (I : List α → β → Shared → Prop) {Q : β → Shared → Prop} (hs : ∀ x l b s, I (x :: l) b s → wpAny M A (f x b) (fun r s' => ∃ b', r = .yield b' ∧ I l b' s') E s)
    (hd : ∀ b s, I [] b s → Q b s) : ∀ (l : List α) (b : β) (s : Shared), I l b s → wpAny M A (forIn l b f) Q E s
  | [], b, s, h0 => by
    rw [List.forIn_nil]
    exact wpAny_pure (hd b s h0)
  | x :: l, b, s, h0 => by
    rw [List.forIn_cons]
    refine wpAny_bind (wpAny_mono (hs x l b s h0) (fun r s' h => ?_) fun _ _ z => z)
    obtain ⟨b', rfl, h1⟩ := h
    exact forIn_to I hs hd l b' s' h1
theorem wpAny_alive {M : Model} {A : Around} {E : Value → Shared → Prop} {s : Shared} {a : Addr} {Q : Option Obj → Shared → Prop} (h : Q (s.heap.get? a) s) : wpAny M A (loadIfAlive a) Q E s := fun _ _ _ => h
abbrev ZpO (f0 f1 : Value) (TI TO : Addr) : Obj := { cls := .type "zip", data := .fields #[f0, f1, .bool false, .ref TI, .ref TO] }
abbrev IsZp (h : Heap) (z TI TO : Addr) (f0 f1 : Value) : Prop := h.get? z = some (ZpO f0 f1 TI TO)
abbrev TpO (vs : Array Value) : Obj := { cls := .type "tuple", data := .seq vs }
abbrev IsTp (h : Heap) (T : Addr) (vs : Array Value) : Prop := h.get? T = some (TpO vs)
/-- the zip object z with its iterators' tuple TI, its own tuple TO, at turn i -/
structure ZAt (h : Heap) (z TI TO : Addr) (its ls : List Addr) (i : Nat) : Prop where
  zp : ∃ f0 f1, IsZp h z TI TO f0 f1 ∧ (f0 = .none ∨ ∃ a : Nat, f0 = rawInt a)
  ti : IsTp h TI (its.map Value.ref).toArray
  to : ∃ vs, IsTp h TO vs ∧ vs.size = its.length
  it : ∀ (j : Nat) (a l : Addr), its[j]? = some a → ls[j]? = some l → h.IsTupleIter a l i
structure ZDist (z TI TO : Addr) (its ls : List Addr) : Prop where
  nd : (z :: TI :: TO :: its).Nodup
  away : ∀ l ∈ ls, l ∉ z :: TI :: TO :: its
  len : its.length = ls.length
  ne : its ≠ []
  sm : its.length ≤ 1000
section
variable {prog : Program} {w : World} {A : Around} {E : Value → Shared → Prop} {s : Shared}
theorem sb_refl {a : Addr} {h : Heap} : Heap.SameBut a h h := ⟨rfl, fun _ _ => rfl⟩
theorem zfree_ok {z TI TO : Addr} {f0 f1 : Value} {Q : Bool → Shared → Prop} (hz : IsZp s.heap z TI TO f0 f1) (hf : f0 = .none ∨ ∃ a : Nat, f0 = rawInt a)
    (h : ∀ b h' f1', IsZp h' z TI TO f0 f1' → Heap.SameBut z s.heap h' → Q b { s with heap := h' }) : wpAny (model prog w) A (Builtin.SmallTypes.ownedTupleIsFree (.ref z)) Q E s := by
  unfold Builtin.SmallTypes.ownedTupleIsFree
  refine wpAny_bind (wpAny_field hz rfl (x := f0) rfl ?_)
  rcases hf with rfl | ⟨a, rfl⟩
  · exact wpAny_pure (h true s.heap f1 hz sb_refl)
  · show wpAny _ _ (loadIfAlive _ >>= _) _ _ _
    refine wpAny_bind (wpAny_alive ?_)
    split
    · exact wpAny_pure (h true s.heap f1 hz sb_refl)
    · refine wpAny_bind (wpAny_field hz rfl (x := f1) rfl ?_)
      split
      · refine wpAny_bind (wpAny_setField_rec hz (by simp) fun h₁ hz₁ hs₁ => ?_)
        exact wpAny_pure (h false h₁ _ hz₁ hs₁)
      · exact wpAny_pure (h false s.heap f1 hz sb_refl)
end
end Sv

set_option maxHeartbeats 1000000
namespace Sv
open PySem
section
variable {prog : Program} {w : World} {A : Around} {E : Value → Shared → Prop} {s : Shared}
theorem ZDist.itz {z TI TO : Addr} {its ls : List Addr} (D : ZDist z TI TO its ls) {j : Nat} {a : Addr} (h : its[j]? = some a) : a ≠ z ∧ a ≠ TI ∧ a ≠ TO := by
  have m := List.mem_of_getElem? h
  have n := D.nd
  simp only [List.nodup_cons, List.mem_cons, not_or] at n
  exact ⟨fun e => n.1.2.2 (e ▸ m), fun e => n.2.1.2 (e ▸ m), fun e => n.2.2.1 (e ▸ m)⟩
theorem ZDist.zT {z TI TO : Addr} {its ls : List Addr} (D : ZDist z TI TO its ls) : TI ≠ z ∧ TO ≠ z ∧ TI ≠ TO := by
  have n := D.nd
  simp only [List.nodup_cons, List.mem_cons, not_or] at n
  exact ⟨fun e => n.1.1 e.symm, fun e => n.1.2.1 e.symm, n.2.1.1⟩
theorem ZDist.inj {z TI TO : Addr} {its ls : List Addr} (D : ZDist z TI TO its ls) {i j : Nat} {a : Addr} (h : its[i]? = some a) (g : its[j]? = some a) : i = j := by
  have n := D.nd
  simp only [List.nodup_cons] at n
  have n3 := n.2.2.2
  have hi := (List.getElem?_eq_some_iff.mp h).1
  exact (List.getElem?_inj hi n3).mp (h.trans g.symm)
/-- the loop that fills z's own tuple, k done -/
structure ZFill (h h' : Heap) (z TI TO : Addr) (its ls : List Addr) (us : List Value) (i k : Nat) : Prop where
  zp : ∃ f1, IsZp h' z TI TO .ellipsis f1
  ti : IsTp h' TI (its.map Value.ref).toArray
  to : ∃ vs, IsTp h' TO vs ∧ vs.size = its.length ∧ ∀ j, j < k → vs[j]? = us[j]?
  it : ∀ (j : Nat) (a l : Addr), its[j]? = some a → ls[j]? = some l → h'.IsTupleIter a l (if j < k then i + 1 else i)
  sz : h'.objs.size = h.objs.size
  kp : ∀ c o, c ∉ z :: TO :: its → h.get? c = some o → h'.get? c = some o
/-- the loop that draws the items beside it, k done -/
structure ZDraw (h h' : Heap) (z TI TO : Addr) (its ls : List Addr) (us : List Value) (i k : Nat) : Prop where
  zp : ∃ f0 f1, IsZp h' z TI TO f0 f1 ∧ (f0 = .none ∨ ∃ a : Nat, f0 = rawInt a)
  ti : IsTp h' TI (its.map Value.ref).toArray
  to : ∃ vs, IsTp h' TO vs ∧ vs.size = its.length
  it : ∀ (j : Nat) (a l : Addr), its[j]? = some a → ls[j]? = some l → h'.IsTupleIter a l (if j < k then i + 1 else i)
  sz : h'.objs.size = h.objs.size
  kp : ∀ c o, c ∉ z :: TO :: its → h.get? c = some o → h'.get? c = some o
theorem drop_cons {α : Type} {l : List α} {k : Nat} {x : α} {r : List α} (h : x :: r = l.drop k) : l[k]? = some x ∧ r = l.drop (k + 1) := by
  have hk : k < l.length := by
    rcases Nat.lt_or_ge k l.length with h1 | h1
    · exact h1
    · rw [List.drop_eq_nil_of_le h1] at h
      cases h
  rw [List.drop_eq_getElem_cons hk] at h
  cases h
  exact ⟨List.getElem?_eq_getElem hk, rfl⟩
theorem zx_at {its : List Addr} {k k' : Nat} {x : Value} (h : (its.map Value.ref).toArray.toList.zipIdx[k]? = some (x, k')) : ∃ a, its[k']? = some a ∧ x = .ref a ∧ k = k' := by
  rw [List.getElem?_zipIdx] at h
  simp only [List.toList_toArray, List.getElem?_map, Nat.zero_add, Option.map_map, Option.map_eq_some_iff, Function.comp, Prod.mk.injEq] at h
  obtain ⟨a, h1, h2, h3⟩ := h
  subst h3
  exact ⟨a, h1, h2.symm, rfl⟩
theorem zpn_item {z TI TO : Addr} {its ls : List Addr} {i : Nat} {us : List Value} {Q : Value → Shared → Prop} (D : ZDist z TI TO its ls) (st : ZAt s.heap z TI TO its ls i)
    (hu : us.length = its.length) (hx : ∀ (j : Nat) (l : Addr) (u : Value), ls[j]? = some l → us[j]? = some u → ∃ xs, s.heap.IsTuple l xs ∧ xs[i]? = some u)
    (hQ : ∀ h', ZAt h' z TI TO its ls (i + 1) → IsTp h' s.heap.objs.size us.toArray → (∀ c o, c ∉ z :: TO :: its → s.heap.get? c = some o → h'.get? c = some o) → Q (.ref s.heap.objs.size) { s with heap := h' }) :
    wpAny (model prog w) A (Builtin.«zip.__next__» ⟨[.ref z], []⟩) (fun fin s' => ∃ v, fin = .done (.ret v) ∧ Q v s') E s := by
  obtain ⟨⟨f0, f1, hz0, hf⟩, hTI, ⟨vs0, hTO, hvs⟩, hit⟩ := st
  obtain ⟨tz1, tz2, tz3⟩ := D.zT
  have hfree : ∀ c o, s.heap.get? c = some o → c ≠ s.heap.objs.size := fun c o e => Nat.ne_of_lt (Heap.lt_size e)
  show wpAny _ _ (field (.ref z) 2 >>= _) _ _ _
  refine wpAny_bind (wpAny_field hz0 rfl (x := .bool false) rfl ?_)
  show wpAny _ _ (field (.ref z) 3 >>= _) _ _ _
  refine wpAny_bind (wpAny_field hz0 rfl (x := .ref TI) rfl ?_)
  refine wpAny_bind (wpAny_seqItems hTI rfl ?_)
  obtain ⟨i0, r0, hi0⟩ : ∃ i0 r0, its = i0 :: r0 := by
    cases its with
    | nil => exact absurd rfl D.ne
    | cons a r => exact ⟨a, r, rfl⟩
  dsimp only
  rw [if_neg (show ¬ ((its.map Value.ref).toArray.isEmpty = true) by rw [hi0]; simp)]
  refine wpAny_bind (zfree_ok hz0 hf fun b h0 f1' hz1 hs0 => ?_)
  have hTI1 : IsTp h0 TI (its.map Value.ref).toArray := hs0.extBut _ _ tz1 hTI
  have hTO1 : IsTp h0 TO vs0 := hs0.extBut _ _ tz2 hTO
  have hit1 : ∀ (j : Nat) (a l : Addr), its[j]? = some a → ls[j]? = some l → h0.IsTupleIter a l i := fun j a l e1 e2 => (hit j a l e1 e2).extBut hs0.extBut (D.itz e1).1
  have kp0 : ∀ c o, c ∉ z :: TO :: its → s.heap.get? c = some o → h0.get? c = some o := fun c o hc e => hs0.extBut _ _ (fun q => hc (by simp [q])) e
  have hx0 : ∀ (h' : Heap), (∀ c o, c ∉ z :: TO :: its → s.heap.get? c = some o → h'.get? c = some o) → ∀ (j : Nat) (l : Addr) (u : Value), ls[j]? = some l → us[j]? = some u → ∃ xs, h'.IsTuple l xs ∧ xs[i]? = some u := fun h' kp j l u e1 e2 => by
    obtain ⟨xs, ⟨o, ho, r⟩, hi⟩ := hx j l u e1 e2
    have hl := D.away l (List.mem_of_getElem? e1)
    exact ⟨xs, ⟨o, kp _ _ (fun q => hl (by rcases List.mem_cons.mp q with q | q; · simp [q]
                                           rcases List.mem_cons.mp q with q | q; · simp [q]
                                           · simp [q])) ho, r⟩, hi⟩
  have tis : ∀ c, c = TI → c ∉ z :: TO :: its := fun c e q => by
    subst e
    rcases List.mem_cons.mp q with q | q
    · exact tz1 q
    rcases List.mem_cons.mp q with q | q
    · exact tz3 q
    · have n := D.nd
      simp only [List.nodup_cons, List.mem_cons, not_or] at n
      exact n.2.1.2 q
  cases b with
  | true =>
    simp only [if_true]
    refine wpAny_bind (wpAny_rule ?_)
    refine wpAny_bind (wpAny_field hz1 rfl (x := .ref TO) rfl ?_)
    refine wpAny_bind (wpAny_setField_rec hz1 (by simp) fun h₁ hz₁ hs₁ => ?_)
    replace hz₁ : IsZp h₁ z TI TO .ellipsis f1' := hz₁
    have F0 : ZFill s.heap h₁ z TI TO its ls us i 0 := {
      zp := ⟨f1', hz₁⟩
      ti := hs₁.extBut _ _ tz1 hTI1
      to := ⟨vs0, hs₁.extBut _ _ tz2 hTO1, hvs, fun j hj => absurd hj (Nat.not_lt_zero _)⟩
      it := fun j a l e1 e2 => by
        rw [if_neg (Nat.not_lt_zero _)]
        exact (hit1 j a l e1 e2).extBut hs₁.extBut (D.itz e1).1
      sz := hs₁.1.trans hs0.1
      kp := fun c o hc e => hs₁.extBut _ _ (fun q => hc (by simp [q])) (kp0 c o hc e) }
    refine wpAny_bind (forIn_to (I := fun r b s' => b = ⟨none, ⟨⟩⟩ ∧ ∃ k h', s' = { s with heap := h' } ∧ r = ((its.map Value.ref).toArray.toList.zipIdx).drop k ∧ k ≤ its.length ∧ ZFill s.heap h' z TI TO its ls us i k) ?_ ?_ _ _ _ ⟨rfl, 0, h₁, rfl, rfl, Nat.zero_le _, F0⟩)
    · rintro ⟨x, k'⟩ l b s' ⟨rfl, k, h', rfl, hr, hk, F⟩
      obtain ⟨e1, e2⟩ := drop_cons hr
      obtain ⟨a, ha, rfl, rfl⟩ := zx_at e1
      have hkl := (List.getElem?_eq_some_iff.mp ha).1
      obtain ⟨l1, hl1⟩ : ∃ l1, ls[k]? = some l1 := ⟨_, List.getElem?_eq_getElem (by rw [← D.len]; exact hkl)⟩
      obtain ⟨u1, hu1⟩ : ∃ u1, us[k]? = some u1 := ⟨_, List.getElem?_eq_getElem (by rw [hu]; exact hkl)⟩
      obtain ⟨xs, hT, hxi⟩ := hx0 h' F.kp k l1 u1 hl1 hu1
      have hI := F.it k a l1 ha hl1
      rw [if_neg (Nat.lt_irrefl _)] at hI
      obtain ⟨az, aTI, aTO⟩ := D.itz ha
      obtain ⟨f1'', hz2⟩ := F.zp
      obtain ⟨vs, hv, hvz, hvj⟩ := F.to
      refine wpAny_bind (wpAny_onRaise ?_)
      show wpAny _ _ (Builtin.SmallTypes.nextOf (.ref a) >>= _) _ _ _
      refine wpAny_bind (RZ.nextOf_tuple_item hI hT hxi fun h₂ h1₂ hs₂ => wpAny_pure ?_)
      have hv2 : IsTp h₂ TO vs := hs₂.extBut _ _ (Ne.symm aTO) hv
      refine wpAny_bind (wpAny_seqItems hv2 rfl ?_)
      refine wpAny_bind (wpAny_updateSeq hv2 rfl ?_ (by rw [hvz, sizeLine_eq]; have := D.sm; omega) (by rw [Array.size_setIfInBounds, hvz, sizeLine_eq]; have := D.sm; omega))
      have hs₃ : Heap.SameBut TO h₂ (h₂.update TO (Obj.mapSeq fun y => y.setIfInBounds k u1)) := Heap.SameBut.update ..
      have hv3 : IsTp (h₂.update TO (Obj.mapSeq fun y => y.setIfInBounds k u1)) TO (vs.setIfInBounds k u1) := by
        have z := Heap.get?_update_self (Obj.mapSeq fun y => y.setIfInBounds k u1) hv2 rfl
        exact z.trans (by simp [Obj.mapSeq])
      generalize h₂.update TO (Obj.mapSeq fun y => y.setIfInBounds k u1) = h₃ at hs₃ hv3 ⊢
      refine wpAny_bind (wpAny_letGo (wpAny_pure ⟨_, rfl, rfl, k + 1, h₃, rfl, e2, hkl, ?_⟩))
      exact {
        zp := ⟨f1'', hs₃.extBut _ _ (Ne.symm tz2) (hs₂.extBut _ _ (Ne.symm az) hz2)⟩
        ti := hs₃.extBut _ _ tz3 (hs₂.extBut _ _ (Ne.symm aTI) F.ti)
        to := ⟨_, hv3, by rw [Array.size_setIfInBounds, hvz], fun j hj => by
          rw [Array.getElem?_setIfInBounds]
          by_cases hjk : k = j
          · subst hjk
            rw [if_pos rfl, if_pos (by rw [hvz]; exact hkl), hu1]
          · rw [if_neg hjk]
            exact hvj j (by omega)⟩
        it := fun j b l2 g1 g2 => by
          by_cases hjk : j = k
          · subst hjk
            rw [ha] at g1
            rw [hl1] at g2
            cases g1
            cases g2
            rw [if_pos (Nat.lt_succ_self _)]
            exact h1₂.extBut hs₃.extBut aTO
          · have g3 := F.it j b l2 g1 g2
            have g4 : (if j < k then i + 1 else i) = (if j < k + 1 then i + 1 else i) := by
              by_cases g5 : j < k
              · rw [if_pos g5, if_pos (by omega)]
              · rw [if_neg g5, if_neg (by omega)]
            rw [g4] at g3
            have ba : b ≠ a := fun q => hjk (D.inj g1 (q ▸ ha))
            exact (g3.extBut hs₂.extBut ba).extBut hs₃.extBut (D.itz g1).2.2
        sz := (hs₃.1.trans hs₂.1).trans F.sz
        kp := fun c o hc e => hs₃.extBut _ _ (fun q => hc (by simp [q])) (hs₂.extBut _ _ (fun q => hc (by rw [q]; simp [List.mem_of_getElem? ha])) (F.kp c o hc e)) }
    · rintro b s' ⟨rfl, k, h', rfl, hr, hk, F⟩
      have hkn : k = its.length := by
        have := congrArg List.length hr
        simp at this
        omega
      subst hkn
      obtain ⟨f1'', hz2⟩ := F.zp
      obtain ⟨vs, hv, hvz, hvj⟩ := F.to
      have evs : vs.toList = us := by
        apply List.ext_getElem?
        intro j
        rw [Array.getElem?_toList]
        by_cases hj : j < its.length
        · exact hvj j hj
        · rw [Array.getElem?_eq_none (by omega), List.getElem?_eq_none (by omega)]
      dsimp only
      refine wpAny_bind (wpAny_seqItems hv rfl ?_)
      refine wpAny_bind (wpAny_newTuple ?_ (by rw [Array.length_toList, hvz, sizeLine_eq]; have := D.sm; omega))
      show wpAny _ _ (Builtin.SmallTypes.ownedTupleHandOut (.ref z) (.ref h'.objs.size) >>= _) _ _ _
      refine wpAny_bind ?_
      unfold Builtin.SmallTypes.ownedTupleHandOut
      have hz₆ : IsZp (h'.push { cls := .type "tuple", data := .seq vs.toList.toArray }) z TI TO .ellipsis f1'' := Heap.get?_push_of_some _ hz2
      refine wpAny_bind (wpAny_setField_rec hz₆ (by simp) fun h₇ hz₇ hs₇ => ?_)
      replace hz₇ : IsZp h₇ z TI TO (rawInt h'.objs.size) f1'' := hz₇
      refine wpAny_setField_rec hz₇ (by simp) fun h₈ hz₈ hs₈ => ?_
      replace hz₈ : IsZp h₈ z TI TO (rawInt h'.objs.size) (.bool false) := hz₈
      have up : ∀ c o, c ≠ z → h'.get? c = some o → h₈.get? c = some o := fun c o c1 e => hs₈.extBut _ _ c1 (hs₇.extBut _ _ c1 (Heap.get?_push_of_some _ e))
      have hzlt : z < h'.objs.size := Heap.lt_size hz2
      have hT8 : IsTp h₈ h'.objs.size us.toArray := by
        rw [← evs]
        exact hs₈.extBut _ _ (Nat.ne_of_gt hzlt) (hs₇.extBut _ _ (Nat.ne_of_gt hzlt) (Heap.get?_push_size _ rfl))
      refine wpAny_pure ⟨_, rfl, ?_⟩
      show Q (.ref h'.objs.size) _
      rw [F.sz]
      rw [F.sz] at hT8
      refine hQ h₈ ⟨⟨_, _, hz₈, .inr ⟨_, rfl⟩⟩, up _ _ tz1 F.ti, ⟨vs, up _ _ tz2 hv, hvz⟩, fun j b l2 g1 g2 => ?_⟩ hT8 fun c o hc e => up c o (fun q => hc (by simp [q])) (F.kp c o hc e)
      have g3 := F.it j b l2 g1 g2
      rw [if_pos (List.getElem?_eq_some_iff.mp g1).1] at g3
      exact g3.at fun o e => up b o (D.itz g1).1 e
  | false =>
    simp only [Bool.false_eq_true, if_false]
    have F0 : ZDraw s.heap h0 z TI TO its ls us i 0 := {
      zp := ⟨f0, f1', hz1, hf⟩
      ti := hTI1
      to := ⟨vs0, hTO1, hvs⟩
      it := fun j a l e1 e2 => by
        rw [if_neg (Nat.not_lt_zero _)]
        exact hit1 j a l e1 e2
      sz := hs0.1
      kp := kp0 }
    rw [← Array.forIn_toList]
    refine wpAny_bind (forIn_to (I := fun r b s' => ∃ k h', b = (none, (us.take k).toArray) ∧ s' = { s with heap := h' } ∧ r = ((its.map Value.ref).toArray.toList).drop k ∧ k ≤ its.length ∧ ZDraw s.heap h' z TI TO its ls us i k) ?_ ?_ _ _ _ ⟨0, h0, by rw [List.take_zero], rfl, rfl, Nat.zero_le _, F0⟩)
    · rintro x l b s' ⟨k, h', rfl, rfl, hr, hk, F⟩
      obtain ⟨e1, e2⟩ := drop_cons hr
      obtain ⟨a, ha, rfl⟩ : ∃ a, its[k]? = some a ∧ x = .ref a := by
        simp only [List.toList_toArray, List.getElem?_map, Option.map_eq_some_iff] at e1
        obtain ⟨a, h1, h2⟩ := e1
        exact ⟨a, h1, h2.symm⟩
      have hkl := (List.getElem?_eq_some_iff.mp ha).1
      obtain ⟨l1, hl1⟩ : ∃ l1, ls[k]? = some l1 := ⟨_, List.getElem?_eq_getElem (by rw [← D.len]; exact hkl)⟩
      obtain ⟨u1, hu1⟩ : ∃ u1, us[k]? = some u1 := ⟨_, List.getElem?_eq_getElem (by rw [hu]; exact hkl)⟩
      obtain ⟨xs, hT, hxi⟩ := hx0 h' F.kp k l1 u1 hl1 hu1
      have hI := F.it k a l1 ha hl1
      rw [if_neg (Nat.lt_irrefl _)] at hI
      obtain ⟨az, aTI, aTO⟩ := D.itz ha
      obtain ⟨g0, g1, hz2, hg⟩ := F.zp
      obtain ⟨vs, hv, hvz⟩ := F.to
      refine wpAny_bind (wpAny_holding ?_)
      show wpAny _ _ (Builtin.SmallTypes.nextOf (.ref a) >>= _) _ _ _
      refine wpAny_bind (RZ.nextOf_tuple_item hI hT hxi fun h₂ h1₂ hs₂ => wpAny_pure ?_)
      refine wpAny_pure ⟨_, rfl, k + 1, h₂, ?_, rfl, e2, hkl, ?_⟩
      · dsimp only
        rw [List.take_add_one, hu1, List.push_toArray]
        rfl
      exact {
        zp := ⟨g0, g1, hs₂.extBut _ _ (Ne.symm az) hz2, hg⟩
        ti := hs₂.extBut _ _ (Ne.symm aTI) F.ti
        to := ⟨_, hs₂.extBut _ _ (Ne.symm aTO) hv, hvz⟩
        it := fun j b l2 g1 g2 => by
          by_cases hjk : j = k
          · subst hjk
            rw [ha] at g1
            rw [hl1] at g2
            cases g1
            cases g2
            rw [if_pos (Nat.lt_succ_self _)]
            exact h1₂
          · have g3 := F.it j b l2 g1 g2
            have g4 : (if j < k then i + 1 else i) = (if j < k + 1 then i + 1 else i) := by
              by_cases g5 : j < k
              · rw [if_pos g5, if_pos (by omega)]
              · rw [if_neg g5, if_neg (by omega)]
            rw [g4] at g3
            have ba : b ≠ a := fun q => hjk (D.inj g1 (q ▸ ha))
            exact g3.extBut hs₂.extBut ba
        sz := hs₂.1.trans F.sz
        kp := fun c o hc e => hs₂.extBut _ _ (fun q => hc (by rw [q]; simp [List.mem_of_getElem? ha])) (F.kp c o hc e) }
    · rintro b s' ⟨k, h', rfl, rfl, hr, hk, F⟩
      have hkn : k = its.length := by
        have := congrArg List.length hr
        simp at this
        omega
      subst hkn
      obtain ⟨g0, g1, hz2, hg⟩ := F.zp
      obtain ⟨vs, hv, hvz⟩ := F.to
      have eus : us.take its.length = us := by rw [← hu, List.take_length]
      dsimp only
      refine wpAny_bind (wpAny_newTuple ?_ (by rw [eus, hu, sizeLine_eq]; have := D.sm; omega))
      have hzlt : z < h'.objs.size := Heap.lt_size hz2
      have up : ∀ c o, h'.get? c = some o → (h'.push { cls := .type "tuple", data := .seq (us.take its.length).toArray.toList.toArray }).get? c = some o := fun c o e => Heap.get?_push_of_some _ e
      have hT8 : IsTp (h'.push { cls := .type "tuple", data := .seq (us.take its.length).toArray.toList.toArray }) h'.objs.size us.toArray := by
        rw [eus]
        exact Heap.get?_push_size _ rfl
      refine wpAny_pure ⟨_, rfl, ?_⟩
      show Q (.ref h'.objs.size) _
      rw [F.sz]
      rw [F.sz] at hT8
      refine hQ _ ⟨⟨_, _, up _ _ hz2, hg⟩, up _ _ F.ti, ⟨vs, up _ _ hv, hvz⟩, fun j b l2 g1 g2 => ?_⟩ hT8 fun c o hc e => up c o (F.kp c o hc e)
      have g3 := F.it j b l2 g1 g2
      rw [if_pos (List.getElem?_eq_some_iff.mp g1).1] at g3
      exact g3.at fun o e => up b o e
end
end Sv

set_option maxHeartbeats 1000000
/-! least and greatest of a tuple of ints -/
namespace Sv
open PySem PySem.Spec PyProof.Rows L2
section
variable {prog : Program} {w : World} {A : Around} {E : Value → Shared → Prop} {s : Shared} {l : Addr} {its : List Value} {ns : List Int}
theorem iter_tup {xs : Array Value} {Q : Value → Shared → Prop} (hl : s.heap.IsTuple l xs)
    (h : ∀ s2 : Shared, s2 = { s with heap := s.heap.push { cls := .type "tuple_iterator", data := .fields #[.ref l, .int 0 0] } } → (s2.heap.IsTupleIter s.heap.objs.size l 0 ∧ s2.heap.IsTuple l xs) → (∀ b ∈ [s.heap.objs.size, l], b < s2.heap.objs.size) → l ≠ s.heap.objs.size → Q (.ref s.heap.objs.size) s2) :
    wpAny (model prog w) A (pyIter (.ref l)) Q E s := by
  have hlt : l < s.heap.objs.size := by
    obtain ⟨_, e, _⟩ := hl
    exact Heap.lt_size e
  have hl' := hl
  obtain ⟨o, ho, r⟩ := hl'
  refine wpAny_pyIter_tuple hl (h _ rfl ⟨⟨_, Heap.get?_push_size _ rfl, rfl, rfl⟩, ⟨o, Heap.get?_push_of_some _ ho, r⟩⟩ (fun b hb => ?_) (Nat.ne_of_lt hlt))
  show b < (s.heap.push _).objs.size
  rw [Heap.size_push]
  simp only [List.mem_cons, List.not_mem_nil, or_false] at hb
  rcases hb with rfl | rfl
  · exact Nat.lt_succ_self _
  · exact Nat.lt_succ_of_lt hlt
theorem old_tup {o0 : Obj} {h' : Heap} (hk : ∀ b o, b ∉ [s.heap.objs.size] → (s.heap.push o0).get? b = some o → h'.get? b = some o) : ∀ b o, s.heap.get? b = some o → h'.get? b = some o := fun b o e =>
  hk b o (fun hm => absurd (List.mem_singleton.mp hm ▸ Heap.lt_size e) (Nat.lt_irrefl _)) (Heap.get?_push_of_some _ e)
theorem ints_arr (hi : IntsAre its ns) : ∃ xs : Array (Int × Tok), its.toArray = intItems xs ∧ xs.size = ns.length ∧ ∀ i, i < ns.length → ns[i]? = some (numAt xs i) := by
  obtain ⟨xs, e⟩ := hi.allInts.items
  have hn : numsOf (intItems xs).toList = ns := by rw [← e]; exact hi.numsOf
  rw [nums_intItems] at hn
  subst hn
  refine ⟨xs, e, by rw [List.length_map, Array.length_toList], fun i hi => ?_⟩
  rw [List.length_map, Array.length_toList] at hi
  rw [List.getElem?_map, Array.getElem?_toList]
  unfold numAt
  rw [Array.getElem?_eq_getElem hi]
  rfl
theorem max_rawT (hh : A.handled = none) (hl : s.heap.IsTuple l its.toArray) (hi : IntsAre its ns) (hne : 0 < ns.length) {Q : Value → Shared → Prop}
    (h : ∀ h' tk M t', (∀ b o, s.heap.get? b = some o → h'.get? b = some o) → M ∈ ns → (∀ a, a ∈ ns → a ≤ M) → Q (.int M t') { s with heap := h', toks := tk }) : wpAny (model prog w) A (call (.builtin "max") [.ref l]) Q E s := by
  obtain ⟨xs, e, hsz, hat⟩ := ints_arr hi
  rw [e] at hl
  refine call_max_walk (iter_tup hl fun s₂ e st hfp hlI => ?_)
  subst e
  refine ⟨_, _, _, _, _, _, _, rfl, Walks.tuple (A := A.in1) hh _ l hlI (intItems xs), st, hfp, by simpa [intItems, hsz] using hne, CmpOf.ints_gt (numAt xs) (fun _ _ => intItems_at), fun v h' tk hP hk => ?_⟩
  obtain ⟨t, rfl⟩ := intItems_at hP
  obtain ⟨h1, h2⟩ := argBest_gt (numAt xs) ((intItems xs).size - 1)
  have hs2 : (intItems xs).size = ns.length := by simp [intItems, hsz]
  rw [hs2] at h1 h2 ⊢
  refine h h' tk _ t (old_tup hk) (List.mem_of_getElem? (hat _ (by omega))) fun a ha => ?_
  obtain ⟨j, hj⟩ := List.getElem?_of_mem ha
  have hjl := (List.getElem?_eq_some_iff.mp hj).1
  obtain rfl : numAt xs j = a := Option.some.inj ((hat j hjl).symm.trans hj)
  exact h2 j (by omega)
theorem min_rawT (hh : A.handled = none) (hl : s.heap.IsTuple l its.toArray) (hi : IntsAre its ns) (hne : 0 < ns.length) {Q : Value → Shared → Prop}
    (h : ∀ h' tk M t', (∀ b o, s.heap.get? b = some o → h'.get? b = some o) → M ∈ ns → (∀ a, a ∈ ns → M ≤ a) → Q (.int M t') { s with heap := h', toks := tk }) : wpAny (model prog w) A (call (.builtin "min") [.ref l]) Q E s := by
  obtain ⟨xs, e, hsz, hat⟩ := ints_arr hi
  rw [e] at hl
  refine call_min_walk (iter_tup hl fun s₂ e st hfp hlI => ?_)
  subst e
  refine ⟨_, _, _, _, _, _, _, rfl, Walks.tuple (A := A.in1) hh _ l hlI (intItems xs), st, hfp, by simpa [intItems, hsz] using hne, CmpOf.ints_lt (numAt xs) (fun _ _ => intItems_at), fun v h' tk hP hk => ?_⟩
  obtain ⟨t, rfl⟩ := intItems_at hP
  obtain ⟨h1, h2⟩ := argBest_lt (numAt xs) ((intItems xs).size - 1)
  have hs2 : (intItems xs).size = ns.length := by simp [intItems, hsz]
  rw [hs2] at h1 h2 ⊢
  refine h h' tk _ t (old_tup hk) (List.mem_of_getElem? (hat _ (by omega))) fun a ha => ?_
  obtain ⟨j, hj⟩ := List.getElem?_of_mem ha
  have hjl := (List.getElem?_eq_some_iff.mp hj).1
  obtain rfl : numAt xs j = a := Option.some.inj ((hat j hjl).symm.trans hj)
  exact h2 j (by omega)
end
section
variable {X : Cx}
def rMaxT (K : PySem.W.Frag) : List V → Hp → VK → Prop := fun vs H Q => ∃ (a : Addr) (ns : List Int), vs = [V.ref a] ∧ SqT K H a (ns.map V.int) ∧ 0 < ns.length ∧ ∀ m, m ∈ ns → (∀ y, y ∈ ns → y ≤ m) → Q (.int m) H
def rMinT (K : PySem.W.Frag) : List V → Hp → VK → Prop := fun vs H Q => ∃ (a : Addr) (ns : List Int), vs = [V.ref a] ∧ SqT K H a (ns.map V.int) ∧ 0 < ns.length ∧ ∀ m, m ∈ ns → (∀ y, y ∈ ns → m ≤ y) → Q (.int m) H
theorem cr_maxT (hc : X.calm = true) : CallR X (.builtin "max") (rMaxT X.K) := by
  intro pins s σ H vs us Q I r h
  obtain ⟨a, ns, rfl, hs, hne, q⟩ := h
  obtain ⟨its, rv, hl, _⟩ := I.tuple hs
  rw [Vals.ref1 r]
  exact max_rawT (I.ok.hd hc) hl rv.ints hne fun h' tk m t' hk h1 h2 => ⟨.int _, H, I.kept hk, ⟨_, rfl⟩, q m h1 h2⟩
theorem cr_minT (hc : X.calm = true) : CallR X (.builtin "min") (rMinT X.K) := by
  intro pins s σ H vs us Q I r h
  obtain ⟨a, ns, rfl, hs, hne, q⟩ := h
  obtain ⟨its, rv, hl, _⟩ := I.tuple hs
  rw [Vals.ref1 r]
  exact min_rawT (I.ok.hd hc) hl rv.ints hne fun h' tk m t' hk h1 h2 => ⟨.int _, H, I.kept hk, ⟨_, rfl⟩, q m h1 h2⟩
end
end Sv

set_option maxHeartbeats 1000000
namespace Sv
open PySem
section
variable {prog : Program} {w : World} {A : Around} {E : Value → Shared → Prop} {s : Shared}
/-- the first of the tuples is at its end -/
theorem zpn_end {z TI TO : Addr} {its ls : List Addr} {i : Nat} {l0 : Addr} {xs : Array Value} {Q : PySem.Fin → Shared → Prop} (hh : A.handled = none) (D : ZDist z TI TO its ls) (st : ZAt s.heap z TI TO its ls i)
    (hl0 : ls[0]? = some l0) (hT : s.heap.IsTuple l0 xs) (hx : xs[i]? = none)
    (hE : ∀ h' e, (∀ c o, c ∉ z :: TO :: its → s.heap.get? c = some o → h'.get? c = some o) → (∃ o, h'.get? e = some o ∧ o.cls = .type "StopIteration") → E (.ref e) { s with heap := h' }) :
    wpAny (model prog w) A (Builtin.«zip.__next__» ⟨[.ref z], []⟩) Q E s := by
  obtain ⟨⟨f0, f1, hz0, hf⟩, hTI, ⟨vs0, hTO, hvs⟩, hit⟩ := st
  obtain ⟨tz1, tz2, tz3⟩ := D.zT
  show wpAny _ _ (field (.ref z) 2 >>= _) _ _ _
  refine wpAny_bind (wpAny_field hz0 rfl (x := .bool false) rfl ?_)
  show wpAny _ _ (field (.ref z) 3 >>= _) _ _ _
  refine wpAny_bind (wpAny_field hz0 rfl (x := .ref TI) rfl ?_)
  refine wpAny_bind (wpAny_seqItems hTI rfl ?_)
  obtain ⟨i0, r0, hi0⟩ : ∃ i0 r0, its = i0 :: r0 := by
    cases its with
    | nil => exact absurd rfl D.ne
    | cons a r => exact ⟨a, r, rfl⟩
  dsimp only
  rw [if_neg (show ¬ ((its.map Value.ref).toArray.isEmpty = true) by rw [hi0]; simp)]
  refine wpAny_bind (zfree_ok hz0 hf fun b h0 f1' hz1 hs0 => ?_)
  have ha : its[0]? = some i0 := by rw [hi0]; rfl
  obtain ⟨az, aTI, aTO⟩ := D.itz ha
  have hI0 : h0.IsTupleIter i0 l0 i := (hit 0 i0 l0 ha hl0).extBut hs0.extBut az
  have lz : l0 ≠ z := fun q => D.away l0 (List.mem_of_getElem? hl0) (by simp [q])
  have hT0 : h0.IsTuple l0 xs := by
    obtain ⟨o, ho, r⟩ := hT
    exact ⟨o, hs0.extBut _ _ lz ho, r⟩
  cases b with
  | true =>
    simp only [if_true]
    refine wpAny_bind (wpAny_rule ?_)
    refine wpAny_bind (wpAny_field hz1 rfl (x := .ref TO) rfl ?_)
    refine wpAny_bind (wpAny_setField_rec hz1 (by simp) fun h₁ hz₁ hs₁ => ?_)
    replace hz₁ : IsZp h₁ z TI TO .ellipsis f1' := hz₁
    refine wpAny_bind ?_
    rw [hi0]
    simp only [List.map_cons, List.zipIdx_cons, List.forIn_cons]
    refine wpAny_bind (wpAny_bind (wpAny_onRaise ?_))
    show wpAny _ _ (Builtin.SmallTypes.nextOf (.ref i0) >>= _) _ _ _
    have hT1 : h₁.IsTuple l0 xs := by
      obtain ⟨o, ho, r⟩ := hT0
      exact ⟨o, hs₁.extBut _ _ lz ho, r⟩
    refine wpAny_bind (RZ.nextOf_tuple_end hh (hI0.extBut hs₁.extBut az) hT1 hx fun h₂ e hs₂ he => ?_)
    obtain ⟨oe, hoe, hce⟩ := he
    have hz₂ : IsZp h₂ z TI TO .ellipsis f1' := hs₂ _ _ (Ne.symm az) hz₁
    have hez : e ≠ z := fun x => by subst x; rw [hz₂] at hoe; cases hoe; simp at hce
    refine wpAny_setField_rec hz₂ (by simp) fun h₃ _ hs₃ => hE h₃ e (fun c o hc x => hs₃.extBut _ _ (fun q => hc (by simp [q])) (hs₂ _ _ (fun q => hc (by rw [q]; simp [hi0])) (hs₁.extBut _ _ (fun q => hc (by simp [q])) (hs0.extBut _ _ (fun q => hc (by simp [q])) x)))) ⟨oe, hs₃.extBut _ _ hez hoe, hce⟩
  | false =>
    simp only [Bool.false_eq_true, if_false]
    rw [← Array.forIn_toList]
    refine wpAny_bind ?_
    rw [hi0]
    simp only [List.map_cons, List.forIn_cons]
    refine wpAny_bind (wpAny_bind (wpAny_holding ?_))
    show wpAny _ _ (Builtin.SmallTypes.nextOf (.ref i0) >>= _) _ _ _
    refine wpAny_bind (RZ.nextOf_tuple_end hh hI0 hT0 hx fun h₂ e hs₂ he => ?_)
    exact hE h₂ e (fun c o hc x => hs₂ _ _ (fun q => hc (by rw [q]; simp [hi0])) (hs0.extBut _ _ (fun q => hc (by simp [q])) x)) he
theorem pyNext_zpn_item {z TI TO : Addr} {its ls : List Addr} {i : Nat} {us : List Value} {Q : Option Value → Shared → Prop} (D : ZDist z TI TO its ls) (st : ZAt s.heap z TI TO its ls i)
    (hu : us.length = its.length) (hx : ∀ (j : Nat) (l : Addr) (u : Value), ls[j]? = some l → us[j]? = some u → ∃ xs, s.heap.IsTuple l xs ∧ xs[i]? = some u)
    (hQ : ∀ h', ZAt h' z TI TO its ls (i + 1) → IsTp h' s.heap.objs.size us.toArray → (∀ c o, c ∉ z :: TO :: its → s.heap.get? c = some o → h'.get? c = some o) → Q (some (.ref s.heap.objs.size)) { s with heap := h' }) :
    wpAny (model prog w) A (pyNext (.ref z)) Q E s := by
  obtain ⟨f0, f1, hz, _⟩ := st.zp
  have hT : s.TypeIs (.ref z) "zip" := ⟨_, hz, rfl⟩
  unfold pyNext
  exact wpAny_bind (wpAny_attempt (wpAny_callSpecial?_slot (name := Str.ofString "__next__") hT F.slot_zip_next
    (wpAny_call_entry F.slot_zip_next hT F.entry_zip_next (zpn_item D st hu hx fun h' a1 a2 a3 => wpAny_pure (hQ h' a1 a2 a3)) (F.args_zip_next_1 _))))
theorem pyNext_zpn_end {z TI TO : Addr} {its ls : List Addr} {i : Nat} {l0 : Addr} {xs : Array Value} {Q : Option Value → Shared → Prop} (hh : A.handled = none) (D : ZDist z TI TO its ls) (st : ZAt s.heap z TI TO its ls i)
    (hl0 : ls[0]? = some l0) (hT : s.heap.IsTuple l0 xs) (hx : xs[i]? = none) (hQ : ∀ h', (∀ c o, c ∉ z :: TO :: its → s.heap.get? c = some o → h'.get? c = some o) → Q none { s with heap := h' }) :
    wpAny (model prog w) A (pyNext (.ref z)) Q E s := by
  obtain ⟨f0, f1, hz, _⟩ := st.zp
  have hTy : s.TypeIs (.ref z) "zip" := ⟨_, hz, rfl⟩
  unfold pyNext
  refine wpAny_bind (wpAny_attempt (wpAny_callSpecial?_slot (name := Str.ofString "__next__") hTy F.slot_zip_next
    (wpAny_call_entry F.slot_zip_next hTy F.entry_zip_next (zpn_end hh D st hl0 hT hx fun h' e hk he => ?_) (F.args_zip_next_1 _))))
  obtain ⟨o, ho, hc⟩ := he
  refine wpAny_bind (wpAny_isInstance (T := "StopIteration") (b := true) ⟨o, ho, hc⟩ isSubtype_stop ?_)
  exact wpAny_pure (hQ _ hk)
theorem pyIter_zpn {z TI TO : Addr} {its ls : List Addr} {i : Nat} {Q : Value → Shared → Prop} (st : ZAt s.heap z TI TO its ls i) (h : Q (.ref z) s) : wpAny (model prog w) A (pyIter (.ref z)) Q E s := by
  obtain ⟨f0, f1, hz, _⟩ := st.zp
  have hT : s.TypeIs (.ref z) "zip" := ⟨_, hz, rfl⟩
  refine wpAny_pyIter_slot hT F.slot_zip_iter (wpAny_call_entry F.slot_zip_iter hT F.entry_zip_iter ?_ (F.args_zip_iter_1 _))
  show wpAny _ _ (ret (.ref z)) _ _ s
  exact wpAny_pure ⟨_, rfl, "zip", _, hT, F.slot_zip_next.lookup, h⟩
end
/-! ### zip(a, .., z) -/
theorem zn_type : ∀ (vs : List Value), 1 ≤ vs.length → vs.length ≤ 5 → checkTypeCall "zip" ⟨vs, []⟩ = pure ()
  | [_], _, _ => by kernel_rfl
  | [_, _], _, _ => by kernel_rfl
  | [_, _, _], _, _ => by kernel_rfl
  | [_, _, _, _], _, _ => by kernel_rfl
  | [_, _, _, _, _], _, _ => by kernel_rfl
  | [], h, _ => absurd h (by decide)
  | _ :: _ :: _ :: _ :: _ :: _ :: _, _, h => by simp at h
theorem zn_new : ∀ (vs : List Value), 1 ≤ vs.length → vs.length ≤ 5 → checkBuiltinCall "zip.__new__" ⟨.type "zip" :: vs, []⟩ = pure ()
  | [_], _, _ => by kernel_rfl
  | [_, _], _, _ => by kernel_rfl
  | [_, _, _], _, _ => by kernel_rfl
  | [_, _, _, _], _, _ => by kernel_rfl
  | [_, _, _, _, _], _, _ => by kernel_rfl
  | [], h, _ => absurd h (by decide)
  | _ :: _ :: _ :: _ :: _ :: _ :: _, _, h => by simp at h
theorem zn_init (obj : Value) : ∀ (vs : List Value), 1 ≤ vs.length → vs.length ≤ 5 → argsOk "object.__init__" ⟨obj :: vs, []⟩
  | [_], _, _ => by
    unfold argsOk
    rw [signature?_of (id := "object.__init__")
      (n := "__tini__".toList) (o := "tcejbo".toList)
      (by kernel_rfl) F.owner_object]
    kernel_rfl
  | [_, _], _, _ => by
    unfold argsOk
    rw [signature?_of (id := "object.__init__")
      (n := "__tini__".toList) (o := "tcejbo".toList)
      (by kernel_rfl) F.owner_object]
    kernel_rfl
  | [_, _, _], _, _ => by
    unfold argsOk
    rw [signature?_of (id := "object.__init__")
      (n := "__tini__".toList) (o := "tcejbo".toList)
      (by kernel_rfl) F.owner_object]
    kernel_rfl
  | [_, _, _, _], _, _ => by
    unfold argsOk
    rw [signature?_of (id := "object.__init__")
      (n := "__tini__".toList) (o := "tcejbo".toList)
      (by kernel_rfl) F.owner_object]
    kernel_rfl
  | [_, _, _, _, _], _, _ => by
    unfold argsOk
    rw [signature?_of (id := "object.__init__")
      (n := "__tini__".toList) (o := "tcejbo".toList)
      (by kernel_rfl) F.owner_object]
    kernel_rfl
  | [], h, _ => absurd h (by decide)
  | _ :: _ :: _ :: _ :: _ :: _ :: _, _, h => by simp at h
end Sv

set_option maxHeartbeats 1000000
namespace Sv
open PySem
theorem zn_class (vs : List Value) : Builtin.SmallTypes.newClass "zip" ⟨.type "zip" :: vs, []⟩ = pure (.type "zip", vs) := by
  unfold Builtin.SmallTypes.newClass
  simp only [isType, sub_zip, pure_bind, Bool.not_true, Bool.false_eq_true, if_false]
/-- the iterators made so far -/
structure ZIts (h h' : Heap) (ls : List Addr) (k : Nat) : Prop where
  sz : h'.objs.size = h.objs.size + k
  kp : ∀ c o, h.get? c = some o → h'.get? c = some o
  it : ∀ (j : Nat) (l : Addr), j < k → ls[j]? = some l → h'.IsTupleIter (h.objs.size + j) l 0
def zits (n k : Nat) : List Addr := (List.range k).map fun j => n + j
theorem zits_at {n k j : Nat} {a : Addr} (h : (zits n k)[j]? = some a) : j < k ∧ a = n + j := by
  unfold zits at h
  simp only [List.getElem?_map, Option.map_eq_some_iff] at h
  obtain ⟨i, h1, h2⟩ := h
  obtain ⟨h3, h4⟩ := List.getElem?_eq_some_iff.mp h1
  rw [List.length_range] at h3
  rw [List.getElem_range] at h4
  subst h4
  exact ⟨h3, h2.symm⟩
theorem zits_mem {n k : Nat} {a : Addr} (h : a ∈ zits n k) : n ≤ a ∧ a < n + k := by
  obtain ⟨j, hj⟩ := List.getElem?_of_mem h
  obtain ⟨h1, h2⟩ := zits_at hj
  subst h2
  exact ⟨Nat.le_add_right _ _, Nat.add_lt_add_left h1 _⟩
theorem zits_len (n k : Nat) : (zits n k).length = k := by
  unfold zits
  rw [List.length_map, List.length_range]
theorem zits_nodup (n k : Nat) : (zits n k).Nodup := by
  unfold zits
  rw [List.Nodup, List.pairwise_map]
  exact List.nodup_range.imp fun h e => h (Nat.add_left_cancel e)
theorem meets_zn (ls : List Addr) (h1 : 1 ≤ ls.length) (h5 : ls.length ≤ 5) :
    Meets (Builtin.«zip.__new__» ⟨.type "zip" :: ls.map Value.ref, []⟩) (fun _ R s => (∀ l ∈ ls, ∃ xs, s.heap.IsTuple l xs) ∧ ∀ h' z TI TO its, ZDist z TI TO its ls → ZAt h' z TI TO its ls 0 → (∀ c ∈ z :: TI :: TO :: its, s.heap.objs.size ≤ c) →
      (∀ c o, s.heap.get? c = some o → h'.get? c = some o) → R (.ok (.ret (.ref z))) { s with heap := h' }) :=
  .of_wp fun prog w A R s h => by
    obtain ⟨hp, h⟩ := h
    unfold Builtin.«zip.__new__»
    refine wpAny_bind (wpAny_of_eq (zn_class _) ?_)
    dsimp only
    rw [if_neg (by decide)]
    refine wpAny_bind ?_
    unfold Builtin.SmallTypes.iterAll
    refine wpAny_bind (forIn_to (I := fun r b s' => ∃ k h', b = ((zits s.heap.objs.size k).map Value.ref).toArray ∧ s' = { s with heap := h' } ∧ r = (ls.map Value.ref).drop k ∧ k ≤ ls.length ∧ ZIts s.heap h' ls k) ?_ ?_ _ _ _ ⟨0, s.heap, rfl, rfl, rfl, Nat.zero_le _, rfl, fun _ _ e => e, fun j _ hj => absurd hj (Nat.not_lt_zero _)⟩)
    · rintro x l b s' ⟨k, h', rfl, rfl, hr, hk, F⟩
      obtain ⟨e1, e2⟩ := drop_cons hr
      obtain ⟨a, ha, rfl⟩ : ∃ a, ls[k]? = some a ∧ x = .ref a := by
        simp only [List.getElem?_map, Option.map_eq_some_iff] at e1
        obtain ⟨a, h1, h2⟩ := e1
        exact ⟨a, h1, h2.symm⟩
      have hkl := (List.getElem?_eq_some_iff.mp ha).1
      obtain ⟨xs, o, ho, hr2⟩ := hp a (List.mem_of_getElem? ha)
      refine wpAny_bind (wpAny_holding (wpAny_pyIter_tuple (items := xs) ⟨o, F.kp _ _ ho, hr2⟩ ?_))
      refine wpAny_pure ⟨_, rfl, k + 1, _, ?_, rfl, e2, hkl, ?_, fun c o e => Heap.get?_push_of_some _ (F.kp c o e), fun j l2 hj g => ?_⟩
      · unfold zits
        rw [List.range_succ, List.map_append, List.map_append, List.push_toArray]
        show _ = (_ ++ [Value.ref (s.heap.objs.size + k)]).toArray
        rw [← F.sz]
      · rw [Heap.size_push, F.sz]
        rfl
      · by_cases hjk : j = k
        · subst hjk
          rw [ha] at g
          cases g
          rw [← F.sz]
          exact ⟨_, Heap.get?_push_size _ rfl, rfl, rfl⟩
        · exact (F.it j l2 (by omega) g).at fun o e => Heap.get?_push_of_some _ e
    · rintro b s' ⟨k, h', rfl, rfl, hr, hk, F⟩
      have hkn : k = ls.length := by
        have := congrArg List.length hr
        simp at this
        omega
      subst hkn
      have hzl := zits_len s.heap.objs.size ls.length
      refine wpAny_pure ?_
      show wpAny _ _ (newTuple ((zits s.heap.objs.size ls.length).map Value.ref) >>= _) _ _ _
      generalize hits : zits s.heap.objs.size ls.length = its at hzl ⊢
      refine wpAny_bind (wpAny_newTuple ?_ (by rw [List.length_map, hzl, sizeLine_eq]; omega))
      show wpAny _ _ (newTuple ((its.map Value.ref).map fun _ => Value.none) >>= _) _ _ _
      refine wpAny_bind (wpAny_newTuple ?_ (by rw [List.length_map, List.length_map, hzl, sizeLine_eq]; omega))
      refine wpAny_bind ?_
      unfold Builtin.SmallTypes.newRecord
      show wpAny _ _ (newObj (.type "zip") (.fields #[.none, .bool false, .bool false, .ref h'.objs.size, .ref (h'.push (TpO (its.map Value.ref).toArray)).objs.size])) _ _ _
      refine wpAny_newObj_type ?_
      refine wpAny_pure ⟨_, rfl, ?_⟩
      dsimp only
      have z1 : (h'.push (TpO (its.map Value.ref).toArray)).objs.size = h'.objs.size + 1 := Heap.size_push ..
      have z2 : ((h'.push (TpO (its.map Value.ref).toArray)).push (TpO ((its.map Value.ref).map fun _ => Value.none).toArray)).objs.size = h'.objs.size + 2 := by rw [Heap.size_push, z1]
      have k1 : ∀ c o, h'.get? c = some o → (h'.push (TpO (its.map Value.ref).toArray)).get? c = some o := fun c o e => Heap.get?_push_of_some _ e
      have g1 : IsTp (h'.push (TpO (its.map Value.ref).toArray)) h'.objs.size (its.map Value.ref).toArray := Heap.get?_push_size _ rfl
      generalize h'.push (TpO (its.map Value.ref).toArray) = h2 at z1 z2 k1 g1 ⊢
      have k2 : ∀ c o, h2.get? c = some o → (h2.push (TpO ((its.map Value.ref).map fun _ => Value.none).toArray)).get? c = some o := fun c o e => Heap.get?_push_of_some _ e
      have g2 : IsTp (h2.push (TpO ((its.map Value.ref).map fun _ => Value.none).toArray)) h2.objs.size ((its.map Value.ref).map fun _ => Value.none).toArray := Heap.get?_push_size _ rfl
      generalize h2.push (TpO ((its.map Value.ref).map fun _ => Value.none).toArray) = h3 at z2 k2 g2 ⊢
      have k3 : ∀ c o, h3.get? c = some o → (h3.push (ZpO .none (.bool false) h'.objs.size h2.objs.size)).get? c = some o := fun c o e => Heap.get?_push_of_some _ e
      have g3 : IsZp (h3.push (ZpO .none (.bool false) h'.objs.size h2.objs.size)) h3.objs.size h'.objs.size h2.objs.size .none (.bool false) := Heap.get?_push_size _ rfl
      have fsz := F.sz
      have kf := F.kp
      have fit := F.it
      have rng : ∀ c ∈ its, s.heap.objs.size ≤ c ∧ c < h'.objs.size := fun c hc => by
        rw [← hits] at hc
        rw [fsz]
        exact zits_mem hc
      have lrg : ∀ l ∈ ls, l < s.heap.objs.size := fun l hl => by
        obtain ⟨xs, o, ho, _⟩ := hp l hl
        exact Heap.lt_size ho
      refine h (h3.push (ZpO .none (.bool false) h'.objs.size h2.objs.size)) h3.objs.size h'.objs.size h2.objs.size its ⟨?_, ?_, hzl, ?_, by rw [hzl]; omega⟩ ⟨⟨_, _, g3, .inl rfl⟩, k3 _ _ (k2 _ _ g1), ⟨_, k3 _ _ g2, by simp⟩, ?_⟩ ?_ fun c o e => k3 _ _ (k2 _ _ (k1 _ _ (kf _ _ e)))
      · have ne1 : ∀ {a b : Nat}, a ≠ b → (a : Addr) ≠ b := fun h => h
        simp only [List.nodup_cons, List.mem_cons, not_or]
        refine ⟨⟨ne1 (by omega), ne1 (by omega), fun q => absurd (rng _ q).2 (Nat.not_lt.mpr (by omega))⟩, ⟨ne1 (by omega), fun q => absurd (rng _ q).2 (Nat.not_lt.mpr (by omega))⟩, fun q => absurd (rng _ q).2 (Nat.not_lt.mpr (by omega)), by rw [← hits]; exact zits_nodup _ _⟩
      · intro l hl q
        have h1 : (l : Nat) < s.heap.objs.size := lrg l hl
        simp only [List.mem_cons] at q
        rcases q with q | q | q | q
        · exact absurd h1 (Nat.not_lt.mpr (by rw [q]; omega))
        · exact absurd h1 (Nat.not_lt.mpr (by rw [q]; omega))
        · exact absurd h1 (Nat.not_lt.mpr (by rw [q]; omega))
        · exact absurd h1 (Nat.not_lt.mpr (rng _ q).1)
      · intro q
        rw [q, List.length_nil] at hzl
        omega
      · intro j a l e1 e2
        rw [← hits] at e1
        obtain ⟨h1, rfl⟩ := zits_at e1
        exact (fit j l h1 e2).at fun o e => k3 _ _ (k2 _ _ (k1 _ _ e))
      · intro c hc
        simp only [List.mem_cons] at hc
        rcases hc with q | q | q | q
        · rw [q]; show (s.heap.objs.size : Nat) ≤ h3.objs.size; omega
        · rw [q]; show (s.heap.objs.size : Nat) ≤ h'.objs.size; omega
        · rw [q]; show (s.heap.objs.size : Nat) ≤ h2.objs.size; omega
        · exact (rng _ q).1
section
variable {prog : Program} {w : World} {A : Around} {E : Value → Shared → Prop} {s : Shared}
theorem call_zn {ls : List Addr} {Q : Value → Shared → Prop} (h1 : 1 ≤ ls.length) (h5 : ls.length ≤ 5) (hp : ∀ l ∈ ls, ∃ xs, s.heap.IsTuple l xs)
    (h : ∀ h' z TI TO its, ZDist z TI TO its ls → ZAt h' z TI TO its ls 0 → (∀ c ∈ z :: TI :: TO :: its, s.heap.objs.size ≤ c) → (∀ c o, s.heap.get? c = some o → h'.get? c = some o) → Q (.ref z) { s with heap := h' }) :
    wpAny (model prog w) A (call (.type "zip") (ls.map Value.ref)) Q E s := by
  have e : (ls.map Value.ref).length = ls.length := List.length_map ..
  refine callType_new F.called_zip (by decide) (zn_type _ (by omega) (by omega)) (zn_new _ (by omega) (by omega)) (fun obj => zn_init obj _ (by omega) (by omega)) F.entry_zip_new (meets_zn ls h1 h5) ⟨hp, fun h' z TI TO its D st hc kp => ?_⟩
  obtain ⟨f0, f1, hz, _⟩ := st.zp
  exact ⟨⟨_, hz, rfl⟩, h h' z TI TO its D st hc kp⟩
end
end Sv

set_option maxHeartbeats 1000000
/-! for x in zip(*rows); calls of a def with *args -/
namespace Sv
open PySem PySem.Spec PyProof.Rows L2
/-- the items of the tuples at one place, in a new tuple -/
def ItzN (K : PySem.W.Frag) (ls : List Addr) : It :=
  ⟨fun i H => ∃ ys : List V, ys.length = ls.length ∧ ∀ (j : Nat) (l : Addr) (y : V), ls[j]? = some l → ys[j]? = some y → ∃ xs, SqT K H l xs ∧ xs[i]? = some y,
    fun i H v H' => ∃ T ys, v = .ref T ∧ H T = none ∧ H' = upd H T (.tup ys) ∧ ys.length = ls.length ∧ ∀ (j : Nat) (l : Addr) (y : V), ls[j]? = some l → ys[j]? = some y → ∀ xs, SqT K H l xs → xs[i]? = some y,
    fun i H => ∃ l xs, ls[0]? = some l ∧ SqT K H l xs ∧ xs.length ≤ i⟩
theorem vals_pick {X : Cx} {pins : List (Addr × Obj)} {σ : L2.St} {H : Hp} {s : Shared} (I : Inv X pins σ H s) (i : Nat) : ∀ (ls : List Addr) (ys : List V), ys.length = ls.length → (∀ (j : Nat) (l : Addr) (y : V), ls[j]? = some l → ys[j]? = some y → ∃ xs, SqT X.K H l xs ∧ xs[i]? = some y) →
    ∃ us, Vals ys us ∧ ∀ (j : Nat) (l : Addr) (u : Value), ls[j]? = some l → us[j]? = some u → ∃ xs, s.heap.IsTuple l xs ∧ xs[i]? = some u
  | [], [], _, _ => ⟨[], .nil, fun j l u e _ => by simp at e⟩
  | l :: ls, y :: ys, hl, h => by
    obtain ⟨us, r, q⟩ := vals_pick I i ls ys (by simpa using hl) fun j l y e1 e2 => h (j + 1) l y e1 e2
    obtain ⟨xs, hT, hx⟩ := h 0 l y rfl rfl
    obtain ⟨its, rv, p, _⟩ := I.tuple hT
    obtain ⟨u, hu, ru⟩ := rv.get hx
    refine ⟨u :: us, .cons ru r, fun j l' u' e1 e2 => ?_⟩
    cases j with
    | zero =>
      cases e1
      cases e2
      exact ⟨_, p, by simpa using hu⟩
    | succ j => exact q j l' u' e1 e2
  | [], _ :: _, hl, _ => by simp at hl
  | _ :: _, [], hl, _ => by simp at hl
theorem turn_zipN {P : Program} {w : World} {K : PySem.W.Frag} {x : Str} {tp : Pos} {z TI TO : Addr} {its ls : List Addr} (D : ZDist z TI TO its ls) :
    Turn P w K (.Name x tp) (ItzN K ls) (z :: TI :: TO :: its) z (fun i h => ZAt h z TI TO its ls i) where
  mem := by simp
  obj := fun i h st c hc => by
    obtain ⟨⟨f0, f1, hz, _⟩, hTI, ⟨vs, hTO, _⟩, hit⟩ := st
    simp only [List.mem_cons] at hc
    rcases hc with q | q | q | q
    · rw [q]; exact ⟨_, hz, fun v q => nomatch q⟩
    · rw [q]; exact ⟨_, hTI, fun v q => nomatch q⟩
    · rw [q]; exact ⟨_, hTO, fun v q => nomatch q⟩
    · obtain ⟨j, hj⟩ := List.getElem?_of_mem q
      have hjl := (List.getElem?_eq_some_iff.mp hj).1
      obtain ⟨o, e, _, d⟩ := hit j c _ hj (List.getElem?_eq_getElem (by rw [← D.len]; exact hjl))
      exact ⟨o, e, fun v q => by rw [d] at q; cases q⟩
  keep := fun i h h' st k => by
    obtain ⟨⟨f0, f1, hz, hf⟩, hTI, ⟨vs, hTO, hvs⟩, hit⟩ := st
    exact ⟨⟨f0, f1, k z (by simp) _ hz, hf⟩, k TI (by simp) _ hTI, ⟨vs, k TO (by simp) _ hTO, hvs⟩, fun j a l e1 e2 => (hit j a l e1 e2).at fun o q => k a (by simp [List.mem_of_getElem? e1]) o q⟩
  item := by
    intro X hP hw hK hc i pins s σ H E I hf st hg
    subst hP hw hK
    obtain ⟨ys, hyl, hy⟩ := hg
    obtain ⟨us, rv, hu⟩ := vals_pick I i ls ys hyl hy
    have hul : us.length = its.length := by rw [← rv.length, hyl, D.len]
    have sub : ∀ c, c ∈ z :: TO :: its → c ∈ z :: TI :: TO :: its := fun c hc => by
      simp only [List.mem_cons] at hc ⊢
      rcases hc with q | q | q
      · exact .inl q
      · exact .inr (.inr (.inl q))
      · exact .inr (.inr (.inr q))
    refine pyNext_zpn_item D st hul hu fun h' st' hT kp => ?_
    refine ⟨_, rfl, ?_⟩
    show wpAny _ _ (pure ()) _ _ _
    refine wpAny_pure ?_
    have hsm := D.sm
    have new : ObjOk X.prog X.w (upd H s.heap.objs.size (.tup ys)) h' s.heap.objs.size (.tup ys) :=
      ⟨by rw [hyl, ← D.len, sizeLine_eq]; omega, us, rv, ⟨_, hT, rfl, _, rfl⟩⟩
    refine ⟨.ref s.heap.objs.size, _, I.turnedNew (t' := s.toks) (ch := z :: TI :: TO :: its) (fun c o hb q => kp c o (fun q' => hb (sub c q')) q) hf (Nat.le_refl _) new, rfl, ⟨_, ys, rfl, I.hok.fresh (Nat.le_refl _), rfl, hyl, fun j l y e1 e2 xs hT => by
      obtain ⟨xs', hT', hx'⟩ := hy j l y e1 e2
      rw [I.tuple_inj hT hT']
      exact hx'⟩, st', fun c hcm => ?_⟩
    obtain ⟨o, ho, _⟩ : ∃ o, s.heap.get? c = some o ∧ True := by
      obtain ⟨⟨f0, f1, hz, hf⟩, hTI, ⟨vs, hTO, hvs⟩, hit⟩ := st
      simp only [List.mem_cons] at hcm
      rcases hcm with q | q | q | q
      · rw [q]; exact ⟨_, hz, trivial⟩
      · rw [q]; exact ⟨_, hTI, trivial⟩
      · rw [q]; exact ⟨_, hTO, trivial⟩
      · obtain ⟨j, hj⟩ := List.getElem?_of_mem q
        have hjl := (List.getElem?_eq_some_iff.mp hj).1
        obtain ⟨o, e, _, d⟩ := hit j c _ hj (List.getElem?_eq_getElem (by rw [← D.len]; exact hjl))
        exact ⟨o, e, trivial⟩
    rw [upd_ne (Nat.ne_of_lt (Heap.lt_size ho))]
    exact (hf c hcm).1
  done := by
    intro X hP hw hK hc i pins s σ H E I hf st hg
    subst hP hw hK
    obtain ⟨l, xs, hl, hT, hle⟩ := hg
    obtain ⟨its', rv, p, _⟩ := I.tuple hT
    have hlen := rv.length
    refine pyNext_zpn_end (I.ok.hd hc) D st hl p (by simp; omega) fun h' hk => ⟨rfl, I.turnedL (t' := s.toks) (ch := z :: TI :: TO :: its) (fun c o hb q => hk c o (fun q' => hb ?_) q) hf⟩
    simp only [List.mem_cons] at q' ⊢
    rcases q' with q | q | q
    · exact .inl q
    · exact .inr (.inr (.inl q))
    · exact .inr (.inr (.inr q))
  self := fun A i s Q E st h => pyIter_zpn st h
theorem callWith_typeS {M : Model} {A : Around} {E : Value → Shared → Prop} {s : Shared} {pos : Pos} {T : String} {args : List (Bool × Sem Value)} {Q : Value → Shared → Prop} (hst : args.any (·.1) = true)
    (h : wpAny M A (evalArgs (.type T) true args []) (fun a s₁ => wpAny M A (call (.type T) a.pos a.kw) Q E s₁) E s) : wpAny M A (callWith pos (.type T) [] args []) Q E s := by
  unfold callWith
  refine wpAny_bind (wpAny_holding (wpAny_mono h (fun a s₁ h₁ => wpAny_bind (wpAny_standAt ?_)) fun _ _ x => x))
  simp only [hst, Bool.true_or]
  refine wpAny_bind (wpAny_pure ?_)
  exact wpAny_bind (wpAny_mono (wpAny_operating h₁) (fun r s₂ hr => wpAny_bind (wpAny_holding (wpAny_point (wpAny_pure hr)))) fun _ _ x => x)
def iZipS (K : PySem.W.Frag) (te : TE) : TI := fun σ H R => te σ H fun v H1 => ∃ (a : Addr) (ls : List Addr), v = .ref a ∧ SqT K H1 a (ls.map V.ref) ∧ 1 ≤ ls.length ∧ ls.length ≤ 5 ∧ (∀ l ∈ ls, ∃ xs, SqT K H1 l xs) ∧ R (ItzN K ls) H1
theorem vals_refs : ∀ {ls : List Addr} {us : List Value}, Vals (ls.map V.ref) us → us = ls.map Value.ref
  | [], _, .nil => rfl
  | l :: ls, _, .cons r rr => by
    cases r
    rw [vals_refs rr]
    rfl
theorem pi_zipS {X : Cx} {e : Expr} {te : TE} {x : Str} {p pos tp sp_ : Pos} (hg : Gl X "zip") (hm : X.mg "zip" = none) (he : PE X e te)
    (hst : starEach [.Starred e sp_] X.env = [(true, eval e X.env)] := by rfl) : PI X (.Name x tp) (.Call (.Name "zip" p) [.Starred e sp_] [] pos) (iZipS X.K te) := by
  refine ⟨fun pins s σ H R I h => ?_⟩
  refine Call_ (ld_blt I hg hm PyProof.Rows.boot_zip ?_)
  rw [hst]
  refine callWith_typeS rfl (PySem.W.ks_lone (thn (he.run pins s σ H _ I h) fun v s1 ⟨y, H1, I1, ry, a, ls, ey, hT, h1, h5, hl, q⟩ => ?_))
  subst ey
  obtain rfl : v = Value.ref a := ry
  refine StX.star_any I1 (.inl hT) fun us s2 I2 rv => ?_
  obtain rfl := vals_refs rv
  have hp : ∀ l ∈ ls, ∃ xs, s2.heap.IsTuple l xs := fun l hl' => by
    obtain ⟨xs, hx⟩ := hl l hl'
    obtain ⟨its, _, p, _⟩ := I2.tuple hx
    exact ⟨_, p⟩
  refine call_zn h1 h5 hp fun h' z TI TO its D st hc kp => pyIter_zpn st ?_
  have I3 : Inv X pins σ H1 { s2 with heap := h' } := I2.kept (t' := s2.toks) kp
  exact ⟨z, z :: TI :: TO :: its, _, _, H1, rfl, I3, turn_zipN D, st, fun c hcm => by
    have hle := hc c hcm
    have f := I2.fpOk hle (I2.hok.fresh hle)
    exact f, q⟩
/-- the places of the rows: rows as long as n -/
theorem walk_zipN {K : PySem.W.Frag} {ls : List Addr} {n : Nat} {cols : Nat → List V} (hc : ∀ i, i < n → (cols i).length = ls.length) (h1 : 1 ≤ ls.length) :
    Walk (ItzN K ls) n (fun H => ∀ (j : Nat) (l : Addr), ls[j]? = some l → ∃ xs, SqT K H l xs ∧ xs.length = n ∧ ∀ i, i < n → xs[i]? = (cols i)[j]?) (fun i H v H' => ∃ T, v = .ref T ∧ H T = none ∧ H' = upd H T (.tup (cols i))) := by
  refine ⟨fun i H hi q => ⟨cols i, hc i hi, fun j l y e1 e2 => ?_⟩, fun H q => ?_, fun i H v H' hi q y => ?_⟩
  · obtain ⟨xs, hT, hl, hx⟩ := q j l e1
    exact ⟨xs, hT, (hx i hi).trans e2⟩
  · obtain ⟨l, hl⟩ : ∃ l, ls[0]? = some l := ⟨_, List.getElem?_eq_getElem (by omega)⟩
    obtain ⟨xs, hT, hlen, _⟩ := q 0 l hl
    exact ⟨l, xs, hl, hT, by omega⟩
  · obtain ⟨T, ys, rfl, nT, rfl, hyl, hy⟩ := y
    have e : ys = cols i := by
      apply List.ext_getElem?
      intro j
      by_cases hj : j < ls.length
      · have hl := List.getElem?_eq_getElem hj
        have hyj := List.getElem?_eq_getElem (l := ys) (i := j) (by omega)
        obtain ⟨xs', hT', _, hx'⟩ := q j _ hl
        rw [hyj, ← hx' i hi]
        exact (hy j _ _ hl hyj xs' hT').symm
      · rw [List.getElem?_eq_none (by omega), List.getElem?_eq_none (by rw [hc i hi]; omega)]
    subst e
    exact ⟨T, rfl, nT, rfl⟩
section
variable {X : Cx} {CX : CXT} {k : Nat} {f : Addr} {sp : Sp} {E : XK} {x : Str} {e : Expr} {es : List Expr} {t : TA} {p pos : Pos}
/-- x(e, ..), x a def of the module told by FnR -/
theorem pe_callN (F : FnR X.prog X.w X.K X.mg X.base CX k f sp) (hr : Room k X.A) (hk : PySem.W.keepIn X.K (.ref f) = true) (hg : Gl X x) (hm : X.mg x = some (.ref f)) (hx : Passes CX X E) (ha : PA X (e :: es) t) (hd : (x == ("__debug__" : Str)) = false := by decide)
    (he : starEach (e :: es) X.env = (false, eval e X.env) :: starEach es X.env := by rfl) (hpl : (backTo pos (starEach es X.env)).any (·.1) = false := by rfl) :
    PE X (.Call (.Name x p) (e :: es) [] pos) (fun σ H Q => t σ H fun vs H1 => sp vs H1 Q E) := by
  refine ⟨fun pins s σ H Q I h => ?_⟩
  refine wpAny_Call_Name_kw (ld_glob I hg hm ?_ hd)
  refine PySem.W.callWith_K (h₀ := X.base) I.ok.mod.kin hk (thn (ha.run pos pins s σ H _ I h) fun us s1 ⟨vs, H1, I1, r, q⟩ => ⟨I1.kIn, ?_⟩) he hpl
  exact wpAny_call (run_fnR F hr hx I1 r q)
end
/-- a def with one parameter, *v -/
def BStar (fd : FuncData) (pv : Str) : Prop := ∀ rest : List Value, bindArgs fd ⟨rest, []⟩ = (newTuple rest >>= fun t => pure [(pv, t)])
theorem Fun.star {P : Program} {w : World} {K : PySem.W.Frag} {mg : Str → Option Value} {base : Heap} {x qual : Str} {st : Stmt} {f : Addr} {fd : FuncData} {N : List Str} {pv : Str} {k : Nat} {sp : Sp} (F : Fun K x qual st f fd) (S : FnScope N [pv] (defScope st)) (hb : BStar fd pv)
    (hbody : ∀ (cdv : Value) (A : Around) (outer : List Env) (s : Shared) (H : Hp) (vs : List V) (Q : VK) (E : XK), Room k (A.deeper (envOfC qual (defScope st) s.heap.objs.size f cdv)) → sp vs H Q E →
      ∃ t, PSs (cxOf CX0 P w K mg base N qual (defScope st) f cdv A outer s H E).nox (defBody st) t ∧ t { nx := fun _ H' => Q .non H', rt := Q } (L2.start N vs) H) :
    FnR P w K mg base CX0 (k + 1) f (fun vs H Q E => vs.length ≤ sizeLine ∧ ∀ p, H p = Option.none → sp [V.ref p] (upd H p (.tup vs)) Q E) := by
  obtain ⟨oc, od, kV, doc, pm, an, cdv, ct, osl, rfl, lk, hcd⟩ := F.ex
  have G := StX.fn_star (P := P) (w := w) (mg := mg) (base := base) (CX := CX0) (ps := []) (pv := pv) (k := k) (sp := sp) lk hcd S StX.cxUp_none (fun us rest hl => by
      cases us with
      | nil => exact hb rest
      | cons a r => simp at hl) (fun A outer s H vs Q E hr hsp => by
    obtain ⟨t, h, q⟩ := hbody cdv A outer s H vs Q E hr hsp
    exact ⟨t, h.nox, q⟩)
  exact G.imp fun vs H Q E h => ⟨[], vs, rfl, rfl, h.1, fun p np => h.2 p np⟩
end Sv

/-! the end of a row whose law calls repr: the head's call is made where no repr runs -/
namespace Sv
open PySem PySem.Spec PyProof.Rows L2
section
variable {P : Program} {w : World} {K : PySem.W.Frag} {mg mb : Str → Option Value} {k : Nat} {fa a : Addr} {fd : FuncData} {x : Str} {sp : Sp}
  {s₁ : Shared} {vs : List Value} {ns : List Int}
/-- from one abstract heap that tracks nothing but the script -/
theorem headG_core (H : Hp) (KX : K.In s₁.heap) (hns : s₁.heap.Ns mainGlobals mg) (hb : s₁.heap.Ns builtinsNs mb)
    (hbb : ∀ y : Str, y ≠ "__name__" → mb y = bootBuiltins y) (hlim : s₁.heap.NoLimit) (hg : s₁.gens = #[])
    (ha : s₁.heap.get? a = some { cls := .type "list", data := .seq vs.toArray }) (hr : Room k callerA)
    (F : ∀ base : Heap, K.In base → base.Ns mainGlobals mg → FnG P w K mg base k fa fd [x] sp)
    (hbind : ∀ (s : Shared) (u : Value), BindsTo s fd ⟨[u], []⟩ [(x, u)])
    (hO : Only H) (hsp : sp [.ref a] H (fun v _ => v = .bl true) fun _ _ _ => False)
    (hok : HOk P w H s₁.heap) (hA : ∀ b, H b ≠ none → b = a) (hK : H a ≠ none → K.lookup a = none) :
    codeAny (model P w) callerA (.call (.ref fa) ⟨[.ref a], []⟩)
      (fun r s' => r = .ok (.ret (.bool true)) ∧ OldK s₁.heap s'.heap ∧ s'.os = s₁.os ∧ AllBare s'.gens) s₁ := by
  have tr : ∀ {b : Addr} {u : HO}, H b = some u → b = a := fun {b u} q => hA b (by rw [q]; exact Option.some_ne_none u)
  have under : ∀ {b : Addr} {o : Obj}, s₁.heap.get? b = some o → H b = none → (hidT s₁.heap H).get? b = some o := fun e n => hidT_get e n
  have dictN : ∀ {b : Addr} {o : Obj} {es : Array DictEntry} {ep : Nat}, s₁.heap.get? b = some o → o.data = .dict es ep → H b = none := by
    intro b o es ep e d
    rcases hH : H b with _ | u
    · rfl
    · have eb := tr hH
      rw [eb, ha] at e
      rw [← Option.some.inj e] at d
      exact absurd d (by intro z; cases z)
  have nsK : ∀ {b : Addr} {m : Str → Option Value}, s₁.heap.Ns b m → (hidT s₁.heap H).Ns b m := by
    rintro b m ⟨o, es, ep, e, d, r⟩
    exact ⟨o, es, ep, under e (dictN e d), d, r⟩
  have hKb : K.In (hidT s₁.heap H) := by
    intro b o e
    refine under (KX b o e) ?_
    rcases hH : H b with _ | u
    · rfl
    · have eb := tr hH
      rw [eb] at e hH
      rw [hK (by rw [hH]; exact Option.some_ne_none u)] at e
      cases e
  have hM : Mod K mg (hidT s₁.heap H) := by
    obtain ⟨mc, l1, l2⟩ := hlim
    exact ⟨hKb, nsK hns, ⟨mb, nsK hb, hbb⟩, ⟨mc, nsK l1, l2⟩⟩
  have e0 : Env0 P w K mg (hidT s₁.heap H) callerA [] s₁ H := by
    refine ⟨rfl, hM, fun b o e => of_hidT e, Nat.le_of_eq (hidT_size _ _), trivial, fun b hb => ?_, hok, .of_eq hg⟩
    exact absurd (show b ∈ ([] : List Addr) from hb) List.not_mem_nil
  have hrun := (F _ hKb (nsK hns)).run callerA rfl [] s₁ H ⟨[.ref a], []⟩ [.ref a] [.ref a] _ _ hr e0 (hbind s₁ (.ref a)) (.cons rfl .nil) hsp
  refine codeAny_mono hrun fun r s' h => ?_
  match r, h with
  | .error e, h => exact absurd h id
  | .ok .next, h => exact absurd h id
  | .ok .brk, h => exact absurd h id
  | .ok .cont, h => exact absurd h id
  | .ok (.ret u), h =>
    obtain ⟨v, H', os, bare, un, hok', r', q⟩ := h
    obtain rfl : v = .bl true := q
    obtain rfl : u = Value.bool true := r'
    refine ⟨rfl, OldK.of_keep fun b o e => ?_, os, bare⟩
    rcases hO b with z | ⟨ob, xs, z⟩
    · exact un.keep b o e z (fun m => absurd (show b ∈ ([] : List Addr) from m) List.not_mem_nil) List.not_mem_nil
    · obtain ⟨e1, _⟩ := hok b _ z
      obtain ⟨e2, _⟩ := hok' b _ (un.frzs b ob _ z)
      rw [← e, e1]
      exact e2
theorem headG (KX : K.In s₁.heap) (hns : s₁.heap.Ns mainGlobals mg) (hb : s₁.heap.Ns builtinsNs mb)
    (hbb : ∀ y : Str, y ≠ "__name__" → mb y = bootBuiltins y) (hlim : s₁.heap.NoLimit) (hg : s₁.gens = #[])
    (ha : s₁.heap.get? a = some { cls := .type "list", data := .seq vs.toArray }) (hi : IntsAre vs ns) (hl : ns.length ≤ sizeLine) (hr : Room k callerA)
    (F : ∀ base : Heap, K.In base → base.Ns mainGlobals mg → FnG P w K mg base k fa fd [x] sp)
    (hbind : ∀ (s : Shared) (u : Value), BindsTo s fd ⟨[u], []⟩ [(x, u)])
    (hsp : ∀ H : Hp, Only H → SqL K H a (ns.map V.int) → sp [.ref a] H (fun v _ => v = .bl true) fun _ _ _ => False) :
    codeAny (model P w) callerA (.call (.ref fa) ⟨[.ref a], []⟩)
      (fun r s' => r = .ok (.ret (.bool true)) ∧ OldK s₁.heap s'.heap ∧ s'.os = s₁.os ∧ AllBare s'.gens) s₁ := by
  have rv := vals_ints hi
  rcases hk : K.lookup a with _ | o
  · have hE : ∀ b, (if b = a then some (HO.frz { cls := .type "list", data := .seq vs.toArray } (.lst (ns.map V.int))) else none) ≠ none → b = a := by
      intro b z
      by_cases hb : b = a
      · exact hb
      · rw [if_neg hb] at z
        exact absurd rfl z
    have hO : Only fun b => if b = a then some (HO.frz { cls := .type "list", data := .seq vs.toArray } (.lst (ns.map V.int))) else none := by
      intro b
      by_cases hb : b = a
      · exact .inr ⟨_, _, if_pos hb⟩
      · exact .inl (if_neg hb)
    refine headG_core _ KX hns hb hbb hlim hg ha hr F hbind hO (hsp _ hO (.inl (.inr ⟨_, if_pos rfl⟩))) (fun b u z => ?_) hE fun _ => hk
    have hba : b = a := hE b (by rw [z]; exact Option.some_ne_none u)
    subst hba
    obtain rfl := Option.some.inj ((if_pos rfl).symm.trans z)
    exact ⟨ha, by rw [List.length_map]; exact hl, vs, _, rv, ha⟩
  · have e := KX a o hk
    obtain rfl := Option.some.inj (ha.symm.trans e)
    have hO : Only fun _ => none := fun _ => .inl rfl
    refine headG_core (fun _ => none) KX hns hb hbb hlim hg ha hr F hbind hO (hsp _ hO (.inr ⟨_, vs.toArray, _, hk, rfl, rfl, rfl, ?_, by simpa using rv⟩))
      (fun b u z => absurd (show (none : Option HO) = some u from z) (by intro q; cases q)) (fun b z => absurd rfl z) fun z => absurd rfl z
    rw [List.size_toArray, hi.length]
    exact hl
end
/-- the goal that the head leaves -/
theorem walkG {l : PySem.W.OpenLaw} {n k : Nat} {q : Program} {loose : List Str} {XP : (Str → Option Value) → Heap → Prop} {YP : World → Heap → Prop}
    {d : DefRec} {K : Params → PySem.W.Frag} {sp : PySem.W.Frag → Sp} {x : Str}
    (hn : l.most = some n) (hn2 : n ≤ sizeLine) (hdf : d.params.defaults = []) (hr : Room k callerA)
    (hY : ∀ (w : World) (h : Heap), YP w h → (K w.params).In h)
    (F : ∀ (w : World) (mg : Str → Option Value) (fa : Addr) (h : Heap), (K w.params).In h → h.Ns mainGlobals mg → mg d.name = some (.ref fa) →
      ∃ fd : FuncData, (∀ (s : Shared) (u : Value), BindsTo s fd ⟨[u], []⟩ [(x, u)]) ∧
        ∀ base : Heap, (K w.params).In base → base.Ns mainGlobals mg → FnG l.prog w (K w.params) mg base k fa fd [x] (sp (K w.params)))
    (hsp : ∀ (K : PySem.W.Frag) (H : Hp) (a : Addr) (ns : List Int), ns.length ≤ n → Only H → SqL K H a (ns.map V.int) → sp K [.ref a] H (fun v _ => v = .bl true) fun _ _ _ => False) :
    PySem.W.WalkO q loose XP YP l.row.toRowW d [] (fun f vs => PySem.call f vs) := by
  refine Att.attach_call hn hdf fun w s₀ s₁ mg mb fa o pm cd doc a vs ns G Y ho hd hcd hmg hobj hints hlen hg => ?_
  obtain ⟨fd, hbd, hF⟩ := F w mg fa _ (hY w _ Y) G.T.g hmg
  exact headG (hY w _ Y) G.T.g G.T.b G.T.builtins G.T.nolimit hg hobj hints (Nat.le_trans hlen hn2) hr hF hbd fun H h1 h2 => hsp _ H a ns hlen h1 h2
end Sv

set_option maxHeartbeats 1000000
/-! {(.., ..) for .. in .. for .. in ..}: a set comprehension of two clauses, its members tuples of ints -/
namespace Sv
open PySem PySem.Spec PyProof.Rows L2
abbrev No : Value → Shared → Prop := fun _ _ => False
/-- the tests of a clause -/
abbrev tst (cs : List Expr) (en : Env) : Sem Bool := forIn cs true fun c b => if b = true then do let z ← isTrue c en (eval c en); pure (ForInStep.yield z) else pure (ForInStep.yield b)
abbrev sx (el ta ia tb ib : Expr) (ca cb : List Expr) (sc : Scope) (ps : Pos) : Expr := .SetComp el [⟨ta, ia, ca, 0⟩, ⟨tb, ib, cb, 0⟩] sc ps
theorem sx_turn0 (el ta ia tb ib : Expr) (ca cb : List Expr) (sc : Scope) (ps : Pos) (j acc : Value) (en : Env) : compTurn (sx el ta ia tb ib ca cb sc ps) 0 j acc en = (standAt ia.pos >>= fun _ => pyNext j >>= fun r => match r with
      | none => pure (.done .next)
      | some v => letOwnedTupleGo ta j v >>= fun _ => assign ta en v >>= fun _ => tst ca en >>= fun z => (if z = true then (eval ib en >>= fun x => standAt ib.pos >>= fun _ => foldedSetIterable ib en x >>= fun y => holding [y] (pyIter y) >>= fun k =>
          runOwn (.compStart (sx el ta ia tb ib ca cb sc ps) 1 k acc en) en >>= fun _ => again (.compLoop (sx el ta ia tb ib ca cb sc ps) 0 j acc en)) else again (.compLoop (sx el ta ia tb ib ca cb sc ps) 0 j acc en))) := by rfl
theorem sx_turn1 (el ta ia tb ib : Expr) (ca cb : List Expr) (sc : Scope) (ps : Pos) (j acc : Value) (en : Env) : compTurn (sx el ta ia tb ib ca cb sc ps) 1 j acc en = (standAt ib.pos >>= fun _ => pyNext j >>= fun r => match r with
      | none => pure (.done .next)
      | some v => letOwnedTupleGo tb j v >>= fun _ => assign tb en v >>= fun _ => tst cb en >>= fun z => (if z = true then ((eval el en >>= fun x => standAt el.pos >>= fun _ => call (.builtin "set.add") [acc, x] >>= fun _ => pure ()) >>= fun _ => again (.compLoop (sx el ta ia tb ib ca cb sc ps) 1 j acc en))
          else again (.compLoop (sx el ta ia tb ib ca cb sc ps) 1 j acc en))) := by rfl
section
variable {prog : Program} {w : World} {A : Around} {R : Result → Shared → Prop} {s : Shared} {el ta ia tb ib : Expr} {ca cb : List Expr} {sc : Scope} {ps : Pos} {j acc : Value} {en : Env}
theorem no_mono {α : Type} {m : Sem α} {Q Q' : α → Shared → Prop} {E : Value → Shared → Prop} (h : wpAny (model prog w) A m Q No s) (q : ∀ a s', Q a s' → Q' a s') : wpAny (model prog w) A m Q' E s := wpAny_mono h q fun _ _ z => z.elim
theorem sx_loop0 (hs : ∀ x, foldedSetIterable ib en x = pure x) (I : Nat → Shared → Prop)
    (one : ∀ n s, I n s → wpAny (model prog w) A (pyNext j) (fun r s1 => match r with
      | none => R (.ok .next) s1
      | some v => wpAny (model prog w) A (letOwnedTupleGo ta j v) (fun _ s2 => wpAny (model prog w) A (assign ta en v) (fun _ s3 => wpAny (model prog w) A (tst ca en) (fun z s4 =>
          if z = true then wpAny (model prog w) A (eval ib en) (fun x s5 => wpAny (model prog w) A (pyIter x) (fun k s6 => codeAny (model prog w) A (.compStart (sx el ta ia tb ib ca cb sc ps) 1 k acc en) (fun r s7 => match r with
            | .ok _ => ∃ m, m < n ∧ I m s7
            | .error _ => False) s6) No s5) No s4
          else ∃ m, m < n ∧ I m s4) No s3) No s2) No s1) No s) (n : Nat) (h : I n s) :
    codeAny (model prog w) A (.compLoop (sx el ta ia tb ib ca cb sc ps) 0 j acc en) R s := by
  refine codeAny_loop rfl I (fun n s y => ?_) n h
  show wpAny _ A ((compTurn (sx el ta ia tb ib ca cb sc ps) 0 j acc en).onRaise (fun x => do noteFrame x en; theTreesLotGoes x)) _ _ s
  refine wpAny_noted ?_
  rw [sx_turn0]
  refine wpAny_bind (wpAny_standAt (wpAny_bind (no_mono (one n s y) fun r s1 h1 => ?_)))
  cases r with
  | none => exact wpAny_pure h1
  | some v =>
    refine wpAny_bind (no_mono h1 fun _ s2 h2 => wpAny_bind (no_mono h2 fun _ s3 h3 => wpAny_bind (no_mono h3 fun z s4 h4 => ?_)))
    cases z with
    | false => exact wpAny_pure ⟨rfl, h4⟩
    | true =>
      refine wpAny_bind (no_mono h4 fun x s5 h5 => wpAny_bind (wpAny_standAt (wpAny_bind (wpAny_of_eq (hs x) (wpAny_bind (wpAny_holding (no_mono h5 fun k s6 h6 => ?_)))))))
      refine wpAny_bind (wpAny_runOwn ?_)
      rw [Around.mark_none]
      refine codeAny_mono h6 fun r s7 h7 => ?_
      cases r with
      | ok f => exact wpAny_pure ⟨rfl, h7⟩
      | error e => exact h7.elim
theorem sx_loop1 (I : Nat → Shared → Prop)
    (one : ∀ n s, I n s → wpAny (model prog w) A (pyNext j) (fun r s1 => match r with
      | none => R (.ok .next) s1
      | some v => wpAny (model prog w) A (letOwnedTupleGo tb j v) (fun _ s2 => wpAny (model prog w) A (assign tb en v) (fun _ s3 => wpAny (model prog w) A (tst cb en) (fun z s4 =>
          if z = true then wpAny (model prog w) A (eval el en) (fun x s5 => wpAny (model prog w) A (call (.builtin "set.add") [acc, x]) (fun _ s6 => ∃ m, m < n ∧ I m s6) No s5) No s4
          else ∃ m, m < n ∧ I m s4) No s3) No s2) No s1) No s) (n : Nat) (h : I n s) :
    codeAny (model prog w) A (.compLoop (sx el ta ia tb ib ca cb sc ps) 1 j acc en) R s := by
  refine codeAny_loop rfl I (fun n s y => ?_) n h
  show wpAny _ A ((compTurn (sx el ta ia tb ib ca cb sc ps) 1 j acc en).onRaise (fun x => do noteFrame x en; theTreesLotGoes x)) _ _ s
  refine wpAny_noted ?_
  rw [sx_turn1]
  refine wpAny_bind (wpAny_standAt (wpAny_bind (no_mono (one n s y) fun r s1 h1 => ?_)))
  cases r with
  | none => exact wpAny_pure h1
  | some v =>
    refine wpAny_bind (no_mono h1 fun _ s2 h2 => wpAny_bind (no_mono h2 fun _ s3 h3 => wpAny_bind (no_mono h3 fun z s4 h4 => ?_)))
    cases z with
    | false => exact wpAny_pure ⟨rfl, h4⟩
    | true => exact wpAny_bind (wpAny_bind (no_mono h4 fun x s5 h5 => wpAny_bind (wpAny_standAt (wpAny_bind (no_mono h5 fun _ s6 h6 => wpAny_pure (wpAny_pure ⟨rfl, h6⟩))))))
theorem sx_start1 (h0 : codeAny (model prog w) A (.compLoop (sx el ta ia tb ib ca cb sc ps) 1 j acc en) R s)
    (h : wpAny (model prog w) A (pyIter j) (fun k s1 => codeAny (model prog w) A (.compLoop (sx el ta ia tb ib ca cb sc ps) 1 k acc en) R s1) No s) :
    codeAny (model prog w) A (.compStart (sx el ta ia tb ib ca cb sc ps) 1 j acc en) R s := by
  refine codeAny_of_tree ?_
  show wpAny _ _ ((compStart (sx el ta ia tb ib ca cb sc ps) 1 j acc en).onRaise (fun x => do noteFrame x en; standAt theWindowsPlace)) _ _ s
  refine wpAny_notedAt ?_
  unfold compStart
  show wpAny _ _ (ask >>= _) _ _ s
  refine wpAny_bind (wpAny_askSetting (wpAny_ite ?_))
  split
  · first
      | exact wpAny_pure (And.intro rfl h0)
      | exact wpAny_bind (wpAny_pure (wpAny_pure (And.intro rfl h0)))
  · refine wpAny_bind (wpAny_rule ?_)
    show wpAny _ _ (standAt ib.pos >>= _) _ _ s
    exact wpAny_bind (wpAny_standAt (wpAny_bind (no_mono h fun k s1 h1 => wpAny_pure (And.intro rfl h1))))
/-- found.add((..)) -/
theorem setT_add {a x : Addr} {L : List (Addr × List Int)} {es : Array (Int × Value)} {ep : Nat} {t : SetTable} {k : List Int} {E : Value → Shared → Prop} {Q : Value → Shared → Prop} (Rt : SetTR prog w s.heap a L es ep t) (hx : IsT prog w s.heap k x) (hu : A.units + 64 < cLine) (few : L.length + 1 < 64)
    (q : ∀ h' L', Heap.SameBut a s.heap h' → SetT0 prog w h' a L' → (k ∈ L.map (·.2) → L' = L) → (k ∉ L.map (·.2) → L'.Perm ((x, k) :: L)) → Q .none { s with heap := h', toks := s.toks + (k.length + 1) }) :
    wpAny (model prog w) A (call (.builtin "set.add") [.ref a, .ref x]) Q E s := by
  obtain ⟨o, ho, hex, hd⟩ := id Rt.ob
  have hty : s.TypeIs (.ref a) "set" := ⟨o, ho, hex.1⟩
  refine wpAny_call_entry F.slot_set_add hty F.entry_set_add ?_ (F.args_set_add_2 _ _)
  unfold Builtin.«set.add» Builtin.Frozenset.oneOther
  simp only [List.isEmpty_nil, bind_assoc]
  unfold Builtin.Frozenset.addrOf setAdd
  refine wpAny_bind (wpAny_pure ?_)
  try dsimp only
  refine wpAny_bind (wpAny_pure ?_)
  try dsimp only
  have hu1 : A.in1.units < cLine := by
    show A.units + 1 < cLine
    omega
  refine wpAny_bind (wpAny_holding (wpAny_bind (wpAny_pyHash_tuple hu1 hx ?_)))
  refine add_at (s := { s with toks := s.toks + (k.length + 1) }) Rt hx hu1 few fun b h' L' es' ep' t' sb Rn c1 c2 => ?_
  show wpAny _ _ (ret Value.none) _ _ _
  exact wpAny_pure ⟨_, rfl, q h' L' sb Rn.t0 c1 c2⟩
end
section
variable {X : Cx}
theorem addT_ok {pins : List (Addr × Obj)} {σ : L2.St} {H : Hp} {s : Shared} {E : Value → Shared → Prop} {D x : Addr} {L : List (Addr × List Int)} {k : List Int} {Q : Value → Shared → Prop} (I : Inv X pins σ H s) (hu : X.A.units + 64 < cLine) (hD : H D = some (SetTO X.prog X.w D L)) (hL : ∀ p ∈ L, SqT X.K H p.1 (p.2.map V.int)) (hx : SqT X.K H x (k.map V.int)) (few : L.length + 1 < 64)
    (q : ∀ L' s', (k ∈ L.map (·.2) → L' = L) → (k ∉ L.map (·.2) → L'.Perm ((x, k) :: L)) → Inv X pins σ (upd H D (SetTO X.prog X.w D L')) s' → Q .none s') : wpAny (model X.prog X.w) X.A (call (.builtin "set.add") [.ref D, .ref x]) Q E s := by
  have R0 : SetT0 X.prog X.w s.heap D L := (I.hok D _ hD).1
  obtain ⟨es, ep, t, Rt⟩ := R0.full fun p hp => I.isT (hL p hp)
  refine setT_add Rt (I.isT hx) hu few fun h' L' sb Rn c1 c2 => ?_
  have there : ∃ u, h'.get? D = some u := by
    obtain ⟨_, _, _, ⟨o, ho, _⟩, _⟩ := Rn.ex
    exact ⟨o, ho⟩
  exact q L' _ c1 c2 (I.write (e := D) (t' := s.toks + (k.length + 1)) (by rw [hD]; trivial) (.inl rfl) (fun b u hb g => (sb.2 b hb).trans g) there (setTO_new Rn))
end
/-! ### one turn of a block's loop -/
section
variable {B : Cx} {tg : Expr} {J : It} {fp : List Addr} {it : Addr} {tn : Nat → Heap → Prop} {pins : List (Addr × Obj)} {σ τ : L2.St} {H : Hp} {s s0 : Shared} {i : Nat} {g : TG} {cs : List Expr} {tt : TT}
theorem loop_back (T : Turn B.prog B.w B.K tg J fp it tn) (I : Inv B (pins ++ pinsAt fp s0.heap) τ H s) (st : tn i s0.heap) (hl : σ.length = τ.length) (hk : ∀ (j : Nat) v, σ[j]? = some (some v) → τ[j]? = some (some v)) :
    Inv B pins σ H s ∧ tn i s.heap ∧ ∀ b ∈ fp, H b = none := by
  have same : ∀ b ∈ fp, ∀ o, s0.heap.get? b = some o → s.heap.get? b = some o ∧ H b = none := fun b hb o e => by
    have z := I.pin (b, o) (List.mem_append_right _ (List.mem_append_right _ (mem_pinsAt hb e)))
    exact ⟨z.1, z.2.1⟩
  refine ⟨I.unpinned.weak hl hk, T.keep _ _ _ st fun b hb o e => (same b hb o e).1, fun b hb => ?_⟩
  obtain ⟨o, e, _⟩ := T.obj _ _ st b hb
  exact (same b hb o e).2
theorem loop_step {Kp : L2.St → Prop} {Qq : L2.St → Bool → Hp → Prop} (hx : B.xe = No) (hc : B.calm = true) (T : Turn B.prog B.w B.K tg J fp it tn) (I : Inv B pins σ H s) (ok : ∀ b ∈ fp, FpOk B pins H b) (st : tn i s.heap) (go : J.go i H) (pg : PG B tg g) (pt : PTs B cs tt)
    (next : ∀ x H', J.yld i H x H' → g x σ H' fun σ2 H2 => Kp σ2 ∧ tt σ2 H2 fun b H3 => Qq σ2 b H3) :
    wpAny (model B.prog B.w) B.A (pyNext (.ref it)) (fun r s1 => ∃ v, r = some v ∧ wpAny (model B.prog B.w) B.A (letOwnedTupleGo tg (.ref it) v) (fun _ s2 => wpAny (model B.prog B.w) B.A (assign tg B.env v) (fun _ s3 =>
      wpAny (model B.prog B.w) B.A (tst cs B.env) (fun z s4 => ∃ (σ2 : L2.St) (H4 : Hp) (s7 : Shared), Inv B (pins ++ pinsAt fp s7.heap) σ2 H4 s4 ∧ Kp σ2 ∧ Qq σ2 z H4 ∧ tn (i + 1) s7.heap) No s3) No s2) No s1) No s := by
  refine no_mono (T.item B rfl rfl rfl hc i pins s σ H _ I ok st go) fun r s1 h1 => ?_
  obtain ⟨v, rfl, h1⟩ := h1
  refine ⟨v, rfl, no_mono h1 fun _ s2 h2 => ?_⟩
  obtain ⟨x, H2, I2, rx, yx, st2, free2⟩ := h2
  have ok2 : ∀ b ∈ fp, FpOk B pins H2 b := fun b hb => ⟨free2 b hb, (ok b hb).2⟩
  have run := pg.run _ s2 σ H2 x v _ (I2.pinned ok2 (T.obj _ _ st2)) rx (next x H2 yx)
  rw [hx] at run
  refine no_mono run fun _ s3 h3 => ?_
  obtain ⟨σ3, H3, I3, k3, q3⟩ := h3
  have run4 := pt.run _ s3 σ3 H3 _ I3 q3
  rw [hx] at run4
  refine no_mono run4 fun z s4 h4 => ?_
  obtain ⟨H4, I4, q4⟩ := h4
  exact ⟨σ3, H4, s2, I4, k3, q4, st2⟩
end
/-! ### the comprehension -/
section
variable {X : Cx}
/-- D: the new set; a member is a new or an old tuple, its place among the members is left open -/
def tSc2 (P : Program) (w : World) (K : PySem.W.Frag) (wi : TI) (g : TG) (tt : TT) (wj : TI) (gj : TG) (tj : TT) (te : TE) (vs us : List Nat) : TE := fun σ H Q => wi σ H fun J H1 => ∀ D, H1 D = none → ∃ W : Nat → Nat → Hp → Prop, (∃ m, W 0 m (upd H1 D (SetTO P w D []))) ∧ ∀ i m H, W i m H →
  (J.stop i H ∧ Q (.ref D) H) ∨ (J.go i H ∧ ∃ N : Hp → Prop, (∀ H', N H' → ∃ m', m' < m ∧ W (i + 1) m' H') ∧ ∀ x H', J.yld i H x H' → g x (wipe σ vs) H' fun σ2 H2 => wipe σ2 vs = wipe σ vs ∧ tt σ2 H2 fun b H3 =>
    if b = true then wj σ2 H3 fun J1 H4 => ∃ U : Nat → Nat → Hp → Prop, (∃ m, U 0 m H4) ∧ ∀ j k H, U j k H →
      (J1.stop j H ∧ N H) ∨ (J1.go j H ∧ ∃ M : Hp → Prop, (∀ H', M H' → ∃ k', k' < k ∧ U (j + 1) k' H') ∧ ∀ x H', J1.yld j H x H' → gj x (wipe σ2 us) H' fun σ3 H5 => wipe σ3 us = wipe σ2 us ∧ tj σ3 H5 fun b H6 =>
        if b = true then te σ3 H6 fun y H7 => ∃ (a : Addr) (ns : List Int) (L : List (Addr × List Int)), y = .ref a ∧ SqT K H7 a (ns.map L2.V.int) ∧ H7 D = some (SetTO P w D L) ∧ (∀ p ∈ L, SqT K H7 p.1 (p.2.map L2.V.int)) ∧ L.length + 1 < 64 ∧
          ∀ L', (ns ∈ L.map (·.2) → L' = L) → (ns ∉ L.map (·.2) → L'.Perm ((a, ns) :: L)) → M (upd H7 D (SetTO P w D L')) else M H6)
    else N H3)
theorem pe_sc2 {el ta ia tb ib : Expr} {ca cb : List Expr} {scope : Scope} {own : List (Str × Nat)} {us : List Nat} {pos : Pos} {wi wj : TI} {g gj : TG} {tt tj : TT} {te : TE} (hc : X.calm = true) (hu : X.A.units + 64 < cLine) (hN : X.N.Nodup) (hi : PI X ta ia wi) (ok : BlkOk X.N X.env.scope scope own) (hv : ∀ i ∈ us, i ∈ own.map (·.2))
    (hg : ∀ (s : Shared) (H : Hp) (C : Addr) (cl : List (Str × Addr)) (fp : List Addr), PG (X.blk s H scope (compEnvC scope cl C X.env) fp) ta g) (ht : ∀ (s : Shared) (H : Hp) (C : Addr) (cl : List (Str × Addr)) (fp : List Addr), PTs (X.blk s H scope (compEnvC scope cl C X.env) fp) ca tt)
    (hj : ∀ (s : Shared) (H : Hp) (C : Addr) (cl : List (Str × Addr)) (fp : List Addr), PI (X.blk s H scope (compEnvC scope cl C X.env) fp) tb ib wj)
    (hgj : ∀ (s : Shared) (H : Hp) (C : Addr) (cl : List (Str × Addr)) (fp : List Addr), PG (X.blk s H scope (compEnvC scope cl C X.env) fp) tb gj) (htj : ∀ (s : Shared) (H : Hp) (C : Addr) (cl : List (Str × Addr)) (fp : List Addr), PTs (X.blk s H scope (compEnvC scope cl C X.env) fp) cb tj)
    (he : ∀ (s : Shared) (H : Hp) (C : Addr) (cl : List (Str × Addr)) (fp : List Addr), PE (X.blk s H scope (compEnvC scope cl C X.env) fp) el te) (hs : ∀ x, foldedSetIterable ia X.env x = pure x := by intro _; rfl) (hsj : ∀ en x, foldedSetIterable ib en x = pure x := by intro _ _; rfl) :
    PE X (.SetComp el [⟨ta, ia, ca, 0⟩, ⟨tb, ib, cb, 0⟩] scope pos) (tSc2 X.prog X.w X.K wi g tt wj gj tj te (own.map (·.2)) us) := by
  refine ⟨fun pins s σ H Q I h => ?_⟩
  rw [PpSet.eval_SetComp]
  have fr : ∀ y ∈ scope.names, y.2 = .free → ∃ c, X.env.cells.lookup y.1 = some c := fun y hy e => (ok.free y hy e).elim (fun z => I.ok.has _ (.inl z)) fun z => I.ok.has _ (.inr z)
  refine wpAny_comprehension_free (use := none) rfl hs (closure_ok fr) ok.kind (fun y hy e => by rw [ok.uniq y hy, e]) (thn (hi.run pins s σ H _ I h) fun v s1 h1 => thn h1 fun u s2 h2 => ?_)
  obtain ⟨it, fp, tn, J, H2, rfl, I2, T, st2, f2, q⟩ := h2
  refine PpSet.newSet_ok (newEnv_comp ?_)
  obtain ⟨D, hD⟩ : ∃ D, D = s2.heap.objs.size := ⟨_, rfl⟩
  have hDn : H2 D = none := I2.hok.fresh (Nat.le_of_eq hD.symm)
  obtain ⟨W, ⟨m0, w0⟩, turn⟩ := q D hDn
  obtain ⟨s3, hs3⟩ : ∃ s3 : Shared, s3 = { s2 with heap := s2.heap.push { cls := .type "set", dict := none, data := .set #[] 0 (.fresh 0 0 (!X.w.params.followText "set-order")) } } := ⟨_, rfl⟩
  have heap3 : s3.heap = s2.heap.push { cls := .type "set", dict := none, data := .set #[] 0 (.fresh 0 0 (!X.w.params.followText "set-order")) } := by rw [hs3]
  have old3 : ∀ b o, s2.heap.get? b = some o → s3.heap.get? b = some o := fun b o e => by rw [heap3]; exact Heap.get?_push_of_some _ e
  have I3 : Inv X pins σ (upd H2 D (SetTO X.prog X.w D [])) s3 := by
    rw [hs3]
    refine I2.laid (t' := s2.toks) (fun b o e => Heap.get?_push_of_some _ e) (Nat.le_of_eq hD.symm) (setTO_new (SetTR.t0 (setTR_fresh ?_)))
    rw [hD]
    exact Heap.get?_push_size _ rfl
  obtain ⟨H3, hH3⟩ : ∃ H3, H3 = upd H2 D (SetTO X.prog X.w D []) := ⟨_, rfl⟩
  rw [← hH3] at I3 w0
  have f3 : ∀ b ∈ fp, FpOk X pins H3 b ∧ b < s3.heap.objs.size := fun b hb => by
    obtain ⟨o, e, _⟩ := T.obj _ _ st2 b hb
    have lt : b < s2.heap.objs.size := Heap.lt_size e
    refine ⟨⟨?_, (f2 b hb).2⟩, by rw [heap3, Heap.size_push]; exact Nat.lt_succ_of_lt lt⟩
    rw [hH3, upd_ne (by rw [hD]; exact Nat.ne_of_lt lt)]
    exact (f2 b hb).1
  have st3 : tn 0 s3.heap := T.keep _ _ _ st2 fun b _ o e => old3 b o e
  have I4 := block_start I3 ok hN f3
  obtain ⟨ce, hce⟩ : ∃ ce, ce = compEnvC scope (cellsFrom (s3.heap.objs.size + 1) scope.names (cloFrom X.env.cells scope.names [])) s3.heap.objs.size X.env := ⟨_, rfl⟩
  obtain ⟨s4, hs4⟩ : ∃ s4 : Shared, s4 = { s3 with heap := pushCells (s3.heap.push { cls := .type "dict", data := .dict #[] }) scope.names } := ⟨_, rfl⟩
  have pg : PG (X.blk s3 H3 scope ce fp) ta g := by rw [hce]; exact hg _ _ _ _ _
  have pt : PTs (X.blk s3 H3 scope ce fp) ca tt := by rw [hce]; exact ht _ _ _ _ _
  have pj : PI (X.blk s3 H3 scope ce fp) tb ib wj := by rw [hce]; exact hj _ _ _ _ _
  have pgj : PG (X.blk s3 H3 scope ce fp) tb gj := by rw [hce]; exact hgj _ _ _ _ _
  have ptj : PTs (X.blk s3 H3 scope ce fp) cb tj := by rw [hce]; exact htj _ _ _ _ _
  have pe : PE (X.blk s3 H3 scope ce fp) el te := by rw [hce]; exact he _ _ _ _ _
  have cl : ce.locals = s3.heap.objs.size := by rw [hce]; rfl
  have st4 : tn 0 s4.heap := T.keep _ _ _ st3 fun b _ o e => by rw [hs4]; exact pushCells_keeps _ _ _ _ (Heap.get?_push_of_some _ e)
  rw [← hce, ← hs4] at I4
  rw [← hs3, ← hD]
  show codeAny _ _ (.compStart (sx el ta ia tb ib ca cb scope pos) 0 (.ref it) (.ref D) (compEnvC scope (cellsFrom (s3.heap.objs.size + 1) scope.names (cloFrom X.env.cells scope.names [])) s3.heap.objs.size X.env)) (compPost (model X.prog X.w) X.A X.xe none (EP X pins σ Q) (.ref D) s3.heap.objs.size) { s3 with heap := pushCells (s3.heap.push { cls := .type "dict", data := .dict #[] }) scope.names }
  rw [← hce, ← hs4]
  have away : ∀ {τ : L2.St} {G : Hp} {s' : Shared}, Inv (X.blk s3 H3 scope ce fp) [] τ G s' → (∀ b ∈ fp, G b = none) → ∀ b ∈ fp, FpOk (X.blk s3 H3 scope ce fp) [] G b := fun {τ G s'} J' n b hb =>
    ⟨n b hb, (J'.ok.exf b hb).1, J'.ok.exfs b hb, .inl hb, fun x c e => (J'.ok.exf b hb).2 x c e, fun p hp => absurd (show p ∈ ([] : List (Addr × Obj)) ++ [] from hp) (by simp)⟩
  have loop : codeAny (model X.prog X.w) X.A (.compLoop (sx el ta ia tb ib ca cb scope pos) 0 (.ref it) (.ref D) ce) (compPost (model X.prog X.w) X.A X.xe none (EP X pins σ Q) (.ref D) s3.heap.objs.size) s4 := by
    refine sx_loop0 (hsj ce) (fun n s' => ∃ i G, Inv (X.blk s3 H3 scope ce fp) [] (wipe σ (own.map (·.2))) G s' ∧ tn i s'.heap ∧ (∀ b ∈ fp, G b = none) ∧ W i n G) ?_ m0 ⟨0, H3, I4, st4, fun b hb => (f3 b hb).1.1, w0⟩
    rintro n s5 ⟨i, G, I5, st5, n5, w5⟩
    rcases turn i n G w5 with ⟨stop, fine⟩ | ⟨go, N, less, next⟩
    · refine no_mono (T.done (X.blk s3 H3 scope ce fp) rfl rfl rfl hc i [] s5 _ G _ I5 (away I5 n5) st5 stop) fun r s6 h6 => ?_
      obtain ⟨rfl, I6⟩ := h6
      have I7 : Inv X pins σ G s6 := I3.call' (ch := fp) I6.os I6.base I6.hok I6.bare fun b hb => ⟨(f3 b hb).1.2.2.2.1, (f3 b hb).1.2.1, (f3 b hb).1.2.2.2.2.1, (f3 b hb).1.2.2.2.2.2⟩
      have nC : G s3.heap.objs.size = none := by
        rw [← cl]
        exact I6.free
      obtain ⟨m, ns, _⟩ := I6.loc
      have ns : s6.heap.Ns ce.locals m := ns
      rw [cl] at ns
      obtain ⟨c0, c1, c2, c3, c4, c5⟩ : FpOk X pins G s3.heap.objs.size := I3.fpOk (Nat.le_refl _) nC
      exact ⟨m, ns, fun h' sb => ⟨.ref D, G, I7.turned (t' := s6.toks) (fun b o hb e => (sb.2 b hb).trans e) c0 c1 c3 c4 c5, rfl, fine⟩⟩
    · have one := loop_step (B := X.blk s3 H3 scope ce fp) rfl hc T I5 (away I5 n5) st5 go pg pt next
      refine no_mono one fun r s6 h6 => ?_
      obtain ⟨v, rfl, h6⟩ := h6
      refine no_mono h6 fun _ s7 h7 => no_mono h7 fun _ s8 h8 => no_mono h8 fun z s9 h9 => ?_
      obtain ⟨σ2, H4, s0, I9, k9, q9, st9⟩ := h9
      have len9 : (wipe σ (own.map (·.2))).length = σ2.length := by rw [← k9, wipe_length]
      have sub9 : ∀ (j : Nat) v, (wipe σ (own.map (·.2)))[j]? = some (some v) → σ2[j]? = some (some v) := fun j v e => by
        rw [← k9] at e
        exact (wipe_some e).1
      have back : ∀ {τ : L2.St} {s' : Shared} {G' : Hp}, Inv (X.blk s3 H3 scope ce fp) ([] ++ pinsAt fp s0.heap) τ G' s' → (wipe σ (own.map (·.2))).length = τ.length → (∀ (j : Nat) v, (wipe σ (own.map (·.2)))[j]? = some (some v) → τ[j]? = some (some v)) → N G' →
          ∃ m, m < n ∧ ∃ i G, Inv (X.blk s3 H3 scope ce fp) [] (wipe σ (own.map (·.2))) G s' ∧ tn i s'.heap ∧ (∀ b ∈ fp, G b = none) ∧ W i m G := fun {τ s' G'} J' hl hk y => by
        obtain ⟨m', lt, wn⟩ := less G' y
        obtain ⟨b1, b2, b3⟩ := loop_back (B := X.blk s3 H3 scope ce fp) T J' st9 hl hk
        exact ⟨m', lt, i + 1, G', b1, b2, b3, wn⟩
      cases z with
      | false => exact back I9 len9 sub9 q9
      | true =>
        have q9 : wj σ2 H4 _ := q9
        have runj := pj.run _ s9 σ2 H4 _ I9 q9
        refine no_mono runj fun xv s10 h10 => no_mono h10 fun itv s11 h11 => ?_
        obtain ⟨it1, fp1, tn1, J1, H11, rfl, I11, T1, st11, f11, U, ⟨m1, u1⟩, turn1⟩ := h11
        have loop1 : codeAny (model X.prog X.w) X.A (.compLoop (sx el ta ia tb ib ca cb scope pos) 1 (.ref it1) (.ref D) ce) (fun r s' => match r with
            | .ok _ => ∃ m, m < n ∧ ∃ i G, Inv (X.blk s3 H3 scope ce fp) [] (wipe σ (own.map (·.2))) G s' ∧ tn i s'.heap ∧ (∀ b ∈ fp, G b = none) ∧ W i m G
            | .error _ => False) s11 := by
          have away1 : ∀ {G' : Hp}, (∀ b ∈ fp1, G' b = none) → ∀ b ∈ fp1, FpOk (X.blk s3 H3 scope ce fp) ([] ++ pinsAt fp s0.heap) G' b := fun y b hb => ⟨y b hb, (f11 b hb).2⟩
          refine sx_loop1 (fun k s' => ∃ j G', Inv (X.blk s3 H3 scope ce fp) ([] ++ pinsAt fp s0.heap) (wipe σ2 us) G' s' ∧ tn1 j s'.heap ∧ (∀ b ∈ fp1, G' b = none) ∧ U j k G') ?_ m1 ⟨0, H11, I11.weak (wipe_length _ _) (fun j v e => (wipe_some e).1), st11, fun b hb => (f11 b hb).1, u1⟩
          rintro k s12 ⟨j, H12, I12, st12, n12, u12⟩
          rcases turn1 j k H12 u12 with ⟨stop1, y1⟩ | ⟨go1, M, less1, next1⟩
          · refine no_mono (T1.done (X.blk s3 H3 scope ce fp) rfl rfl rfl hc j _ s12 _ H12 _ I12 (away1 n12) st12 stop1) fun r s13 h13 => ?_
            obtain ⟨rfl, I13⟩ := h13
            refine back I13 (len9.trans (wipe_length σ2 us).symm) (fun j v e => ?_) y1
            rw [← k9] at e
            obtain ⟨e1, e2⟩ := wipe_some e
            rw [wipe_out fun y => e2 (hv j y)]
            exact e1
          · have one1 := loop_step (B := X.blk s3 H3 scope ce fp) rfl hc T1 I12 (away1 n12) st12 go1 pgj ptj next1
            refine no_mono one1 fun r s13 h13 => ?_
            obtain ⟨v1, rfl, h13⟩ := h13
            refine no_mono h13 fun _ s14 h14 => no_mono h14 fun _ s15 h15 => no_mono h15 fun z1 s16 h16 => ?_
            obtain ⟨σ3, H5, s17, I16, k16, q16, st16⟩ := h16
            have back1 : ∀ {s' : Shared} {G' : Hp}, Inv (X.blk s3 H3 scope ce fp) (([] ++ pinsAt fp s0.heap) ++ pinsAt fp1 s17.heap) σ3 G' s' → M G' → ∃ m, m < k ∧ ∃ j G', Inv (X.blk s3 H3 scope ce fp) ([] ++ pinsAt fp s0.heap) (wipe σ2 us) G' s' ∧ tn1 j s'.heap ∧ (∀ b ∈ fp1, G' b = none) ∧ U j m G' := fun {s' G'} J' y => by
              obtain ⟨m', lt, wn⟩ := less1 G' y
              obtain ⟨b1, b2, b3⟩ := loop_back (B := X.blk s3 H3 scope ce fp) (σ := wipe σ2 us) T1 J' st16 (by rw [← k16, wipe_length]) (fun j v e => by rw [← k16] at e; exact (wipe_some e).1)
              exact ⟨m', lt, j + 1, G', b1, b2, b3, wn⟩
            cases z1 with
            | false => exact back1 I16 q16
            | true =>
              have q16 : te σ3 H5 _ := q16
              have rune := pe.run _ s16 σ3 H5 _ I16 q16
              refine no_mono rune fun x s18 h18 => ?_
              obtain ⟨y, H18, I18, rx, a, ns, L, rfl, ha, hDL, hL, few, last⟩ := h18
              obtain rfl : x = Value.ref a := rx
              exact addT_ok (X := X.blk s3 H3 scope ce fp) I18 hu hDL hL ha few fun L' s19 c1 c2 I19 => back1 I19 (last L' c1 c2)
        exact sx_start1 loop1 (T1.self X.A 0 _ _ _ st11 loop1)
  exact PpSet.codeAny_compStart_set loop (T.self X.A 0 _ _ _ st4 loop)
end
end Sv

/-! zip of a tuple and a list. -/
namespace Sv
open PySem PySem.Spec PyProof.Rows L2
/-- the tuple at a and the list at b, side by side in new pairs -/
def ItzM (K : PySem.W.Frag) (a b : Addr) : It where
  go := fun i H => ∃ (xs ys : List V), SqT K H a xs ∧ SqL K H b ys ∧ i < xs.length ∧ i < ys.length
  yld := fun i H v H' => ∃ T x y, v = .ref T ∧ H T = none ∧ H' = upd H T (.tup [x, y]) ∧ (∀ xs, SqT K H a xs → xs[i]? = some x) ∧ ∀ ys, SqL K H b ys → ys[i]? = some y
  stop := fun i H => ∃ (xs ys : List V), SqT K H a xs ∧ SqL K H b ys ∧ i ≤ xs.length ∧ i ≤ ys.length ∧ (i = xs.length ∨ i = ys.length)
theorem turn_zipM {P : Program} {w : World} {K : PySem.W.Frag} {elts : List Expr} {kk : Nat} {tpos : Pos} {a b z TI TO i1 i2 : Addr} (S : ZipSep2 z TI TO i1 i2 [i1, a] [i2, b]) (na : a ≠ i1) (nb : b ≠ i2) :
    Turn P w K (.Tuple elts kk tpos) (ItzM K a b) [z, TI, TO, i1, i2] z
      (fun i g => IsZip g z TI TO .none ∧ IsTupOf2 g TI (.ref i1) (.ref i2) ∧ (∃ u v, IsTupOf2 g TO u v) ∧ g.IsTupleIter i1 a i ∧ g.IsListIter i2 b i) where
  mem := by simp
  obj := fun i g st c hc => by
    obtain ⟨gz, gI, ⟨u, v, gO⟩, ⟨p1, e1, _, d1⟩, ⟨p2, e2, _, d2⟩⟩ := st
    rcases (show c = z ∨ c = TI ∨ c = TO ∨ c = i1 ∨ c = i2 by simpa using hc) with r | r | r | r | r <;> rw [r]
    · exact ⟨_, gz, fun _ n => nomatch n⟩
    · exact ⟨_, gI, fun _ n => nomatch n⟩
    · exact ⟨_, gO, fun _ n => nomatch n⟩
    · exact ⟨p1, e1, fun _ n => by rw [d1] at n; cases n⟩
    · exact ⟨p2, e2, fun _ n => by rw [d2] at n; cases n⟩
  keep := fun i g g' st k => by
    obtain ⟨gz, gI, ⟨u, v, gO⟩, j1, j2⟩ := st
    exact ⟨k z (by simp) _ gz, k TI (by simp) _ gI, ⟨u, v, k TO (by simp) _ gO⟩, j1.at fun o n => k i1 (by simp) o n, j2.at fun o n => k i2 (by simp) o n⟩
  item := by
    intro X hP hw hK hc i pins s σ H E I hf st hg
    subst hP hw hK
    obtain ⟨gz, gI, ⟨u0, v0, gO⟩, j1, j2⟩ := st
    obtain ⟨xs, ys, qa, qb, la, lb⟩ := hg
    obtain ⟨ia, va, pa, _⟩ := I.tuple qa
    obtain ⟨ib, vb, pb, _⟩ := I.list qb
    have na1 := va.length
    have nb1 := vb.length
    have zl : z < s.heap.objs.size := Heap.lt_size gz
    have hd1 : X.A.in1.handled = none := I.ok.hd hc
    have D1 := Draws.tuple (prog := X.prog) (w := X.w) (A := X.A.in1) hd1 i1 a na ia.toArray
    have D2 := Draws.list (prog := X.prog) (w := X.w) (A := X.A.in1) hd1 i2 b nb ib.toArray
    refine wpAny_pyNext_zipD2_item S D1 D2 gz gI gO ⟨j1, pa⟩ ⟨j2, pb.isList⟩ (by rw [List.size_toArray]; omega) (by rw [List.size_toArray]; omega) fun y1 y2 g' tk h1 h2 gz' gO' st1 st2 gT gsz gk => ?_
    refine ⟨_, rfl, wpAny_letOwnedTupleGo_zip (s := { s with heap := g', toks := tk }) gz' fun g2 gz2 sb => ?_⟩
    obtain ⟨x, hx⟩ : ∃ x, xs[i]? = some x := ⟨_, List.getElem?_eq_getElem la⟩
    obtain ⟨y, hy⟩ : ∃ y, ys[i]? = some y := ⟨_, List.getElem?_eq_getElem lb⟩
    obtain ⟨w1, hw1, r1⟩ := va.get hx
    obtain ⟨w2, hw2, r2⟩ := vb.get hy
    obtain rfl : w1 = y1 := Option.some.inj (hw1.symm.trans (by simpa using h1))
    obtain rfl : w2 = y2 := Option.some.inj (hw2.symm.trans (by simpa using h2))
    have gT2 : g2.get? s.heap.objs.size = some { cls := .type "tuple", data := .seq #[w1, w2] } := (sb.2 _ (Nat.ne_of_gt zl)).trans gT
    have fresh : ObjOk X.prog X.w (upd H s.heap.objs.size (.tup [x, y])) g2 s.heap.objs.size (.tup [x, y]) := by
      refine ⟨?_, [w1, w2], .cons r1 (.cons r2 .nil), ⟨_, gT2, rfl, _, rfl⟩⟩
      show 2 ≤ sizeLine
      decide
    have J : Inv X pins σ (upd H s.heap.objs.size (.tup [x, y])) { s with heap := g2, toks := tk } := by
      refine I.turnedNew (ch := [z, TI, TO, i1, i2]) (fun c o hb n => ?_) hf (Nat.le_refl _) fresh
      have nn : c ≠ z ∧ c ≠ TI ∧ c ≠ TO ∧ c ≠ i1 ∧ c ≠ i2 := by simpa using hb
      exact (sb.2 c nn.1).trans (gk c o nn.1 nn.2.2.1 nn.2.2.2.1 nn.2.2.2.2 n)
    have zi1 := S.zi1
    have zi2 := S.zi2
    refine ⟨.ref s.heap.objs.size, _, J, rfl, ⟨_, x, y, rfl, I.hok.fresh (Nat.le_refl _), rfl, fun l hl => by rw [I.tuple_inj hl qa]; exact hx, fun l hl => ?_⟩, ⟨gz2, ?_, ⟨w1, w2, ?_⟩, ?_, ?_⟩, fun c hcm => ?_⟩
    · rw [I.list_inj hl qb]
      exact hy
    · exact (sb.2 _ S.TIz).trans (gk _ _ S.TIz S.TITO S.TIi1 S.TIi2 gI)
    · exact (sb.2 _ S.TOz).trans gO'
    · exact st1.1.at fun o n => (sb.2 _ zi1.symm).trans n
    · exact st2.1.at fun o n => (sb.2 _ zi2.symm).trans n
    · have lt : c < s.heap.objs.size := by
        rcases (show c = z ∨ c = TI ∨ c = TO ∨ c = i1 ∨ c = i2 by simpa using hcm) with r | r | r | r | r <;> rw [r]
        · exact zl
        · exact Heap.lt_size gI
        · exact Heap.lt_size gO
        · obtain ⟨_, e1, _⟩ := j1; exact Heap.lt_size e1
        · obtain ⟨_, e2, _⟩ := j2; exact Heap.lt_size e2
      rw [upd_ne (Nat.ne_of_lt lt)]
      exact (hf c hcm).1
  done := by
    intro X hP hw hK hc i pins s σ H E I hf st hg
    subst hP hw hK
    obtain ⟨gz, gI, ⟨u0, v0, gO⟩, j1, j2⟩ := st
    obtain ⟨xs, ys, qa, qb, la, lb, hend⟩ := hg
    obtain ⟨ia, va, pa, _⟩ := I.tuple qa
    obtain ⟨ib, vb, pb, _⟩ := I.list qb
    have na1 := va.length
    have nb1 := vb.length
    have hd1 : X.A.in1.handled = none := I.ok.hd hc
    have D1 := Draws.tuple (prog := X.prog) (w := X.w) (A := X.A.in1) hd1 i1 a na ia.toArray
    have D2 := Draws.list (prog := X.prog) (w := X.w) (A := X.A.in1) hd1 i2 b nb ib.toArray
    exact wpAny_pyNext_zipD2_end S D1 D2 gz gI gO ⟨j1, pa⟩ ⟨j2, pb.isList⟩ (by rw [List.size_toArray]; omega) (by rw [List.size_toArray]; omega) (by rw [List.size_toArray, List.size_toArray]; omega) fun g' tk gk =>
      ⟨rfl, I.turnedL (t' := tk) (ch := [z, TI, TO, i1, i2]) (fun c o hb n => by
        have nn : c ≠ z ∧ c ≠ TI ∧ c ≠ TO ∧ c ≠ i1 ∧ c ≠ i2 := by simpa using hb
        exact gk c o nn.1 nn.2.2.1 nn.2.2.2.1 nn.2.2.2.2 n) hf⟩
  self := fun A i s Q E st h => wpAny_pyIter_zip st.1 h
def iZipM (K : PySem.W.Frag) (ta : TA) : TI := fun σ H R => ta σ H fun vs H1 => ∃ a b xs ys, vs = [.ref a, .ref b] ∧ SqT K H1 a xs ∧ SqL K H1 b ys ∧ R (ItzM K a b) H1
theorem pi_zipM {X : Cx} {e e2 : Expr} {ta : TA} {p pos tpos : Pos} {elts : List Expr} {kk : Nat} (hg : Gl X "zip") (hm : X.mg "zip" = none) (ha : PA X [e, e2] ta)
    (hs : starEach [e, e2] X.env = (false, eval e X.env) :: starEach [e2] X.env := by rfl) (hpl : (backTo pos (starEach [e2] X.env)).any (·.1) = false := by rfl) :
    PI X (.Tuple elts kk tpos) (.Call (.Name "zip" p) [e, e2] [] pos) (iZipM X.K ta) := by
  refine ⟨fun pins s σ H R I h => ?_⟩
  refine Call_ (ld_blt I hg hm PyProof.Rows.boot_zip (PyProof.Rows.callWith_type1 (thn (ha.run pos pins s σ H _ I h) fun us s1 ⟨vs, H1, I1, r1, q1⟩ => ?_) hs hpl))
  obtain ⟨a, b, xs, ys, rfl, qa, qb, q1⟩ := q1
  obtain ⟨u1, u2, rfl, ru1, ru2⟩ : ∃ u1 u2, us = [u1, u2] ∧ RelV (.ref a) u1 ∧ RelV (.ref b) u2 := by
    cases r1 with
    | cons r rr =>
      cases rr with
      | cons r' rr =>
        cases rr
        exact ⟨_, _, rfl, r, r'⟩
  cases ru1
  cases ru2
  obtain ⟨ia, va, pa, _⟩ := I1.tuple qa
  obtain ⟨ib, vb, pb, _⟩ := I1.list qb
  have al : a < s1.heap.objs.size := by
    obtain ⟨o, ho, _⟩ := id pa
    exact Heap.lt_size ho
  have bl : b < s1.heap.objs.size := pb.lt
  refine zip_begins2 (begins_tuple a ia.toArray) (begins_list b ib.toArray) pa pb.isList fun g gz gI gO g1 g2 gsz gk => wpAny_pyIter_zip gz ?_
  have J : Inv X pins σ H1 { s1 with heap := g } := I1.kept (t' := s1.toks) gk
  have S : ZipSep2 (s1.heap.objs.size + 4) (s1.heap.objs.size + 2) (s1.heap.objs.size + 3) s1.heap.objs.size (s1.heap.objs.size + 1) [s1.heap.objs.size, a] [s1.heap.objs.size + 1, b] :=
    zip_sep2 (fun c hc => by rw [List.mem_singleton.mp hc]; exact al) (fun c hc => by rw [List.mem_singleton.mp hc]; exact bl)
  refine ⟨s1.heap.objs.size + 4, [s1.heap.objs.size + 4, s1.heap.objs.size + 2, s1.heap.objs.size + 3, s1.heap.objs.size, s1.heap.objs.size + 1], _, _, H1, rfl, J, turn_zipM S (Nat.ne_of_lt al) (Nat.ne_of_lt (Nat.lt_succ_of_lt bl)),
    ⟨gz, gI, ⟨_, _, gO⟩, ⟨_, g1, rfl, rfl⟩, ⟨_, g2, rfl, rfl⟩⟩, fun c hc => ?_, q1⟩
  have hle : s1.heap.objs.size ≤ c := by
    rcases (show c = s1.heap.objs.size + 4 ∨ c = s1.heap.objs.size + 2 ∨ c = s1.heap.objs.size + 3 ∨ c = s1.heap.objs.size ∨ c = s1.heap.objs.size + 1 by simpa using hc) with r | r | r | r | r <;> rw [r]
    · exact Nat.le_add_right _ _
    · exact Nat.le_add_right _ _
    · exact Nat.le_add_right _ _
    · exact Nat.le_refl _
    · exact Nat.le_add_right _ _
  exact I1.fpOk hle (I1.hok.fresh hle)
theorem walk_zipM {K : PySem.W.Frag} {a b : Addr} {xs ys : List V} {n : Nat} (hn : n = min xs.length ys.length) : Walk (ItzM K a b) n (fun H => SqT K H a xs ∧ SqL K H b ys) (YPair (fun i => xs[i]?) (fun i => ys[i]?)) := by
  subst hn
  refine ⟨fun i _ hi q => ⟨xs, ys, q.1, q.2, by omega, by omega⟩, fun _ q => ⟨xs, ys, q.1, q.2, by omega, by omega, by omega⟩, fun i H v H' _ q y => ?_⟩
  obtain ⟨T, x, u, h1, h2, h3, h4, h5⟩ := y
  exact ⟨T, x, u, h1, h2, h3, h4 xs q.1, h5 ys q.2⟩
end Sv

/-! a value that is changed no more, from here on -/
namespace Sv
open PySem PySem.Spec PyProof.Rows L2
def tFrz (t : TE) : TE := fun σ H Q => t σ H fun v H1 => ∃ d u, v = .ref d ∧ H1 d = some u ∧ Mut (some u) ∧ ∀ od, Q v (upd H1 d (.frz od u))
theorem pe_frz {X : Cx} {e : Expr} {t : TE} (h : PE X e t) : PE X e (tFrz t) := by
  refine ⟨fun pins s σ H Q I hw => ?_⟩
  refine thn (h.run pins s σ H _ I hw) fun v s1 ⟨x, H1, I1, r, d, u, ex, hd, mu, q⟩ => ?_
  obtain ⟨od, I2⟩ := I1.lock hd mu
  exact ⟨x, _, I2, r, q od⟩
end Sv

set_option maxHeartbeats 1000000
/-! walks of clauses; a tuple in a tuple; lists that are ordered by a number -/
namespace Sv
open PySem PySem.Spec PyProof.Rows L2
/-- what a clause's walk gives, whatever its turn asks -/
theorem w_it {J : It} {n : Nat} {G : Hp → Prop} {Y : Nat → Hp → L2.V → Hp → Prop} (w : Walk J n G Y) {Qd : Hp → Prop} {Body : (Hp → Prop) → L2.V → Hp → Prop} {H0 : Hp} (Pv : Nat → Hp → Prop) (h0 : Pv 0 H0) (hG : ∀ i H, i ≤ n → Pv i H → G H)
    (hs : ∀ i x H H', i < n → Pv i H → Y i H x H' → Body (Pv (i + 1)) x H') (hd : ∀ H, Pv n H → Qd H) :
    ∃ W : Nat → Nat → Hp → Prop, (∃ m, W 0 m H0) ∧ ∀ i m H, W i m H → (J.stop i H ∧ Qd H) ∨ (J.go i H ∧ ∃ N : Hp → Prop, (∀ H', N H' → ∃ m', m' < m ∧ W (i + 1) m' H') ∧ ∀ x H', J.yld i H x H' → Body N x H') := by
  refine ⟨fun i m H => m = n - i ∧ i ≤ n ∧ Pv i H, ⟨n, (Nat.sub_zero n).symm, Nat.zero_le n, h0⟩, fun i m H z => ?_⟩
  obtain ⟨rfl, hi, p⟩ := z
  by_cases hlt : i < n
  · exact .inr ⟨w.goes i H hlt (hG i H hi p), Pv (i + 1), fun H' p' => ⟨n - (i + 1), by omega, rfl, hlt, p'⟩, fun x H' y => hs i x H H' hlt p (w.yields i H x H' hlt (hG i H hi p) y)⟩
  · obtain rfl : i = n := by omega
    exact .inl ⟨w.stops H (hG i H hi p), hd H p⟩
theorem walk_etup {K : PySem.W.Frag} {a : Addr} {xs : List L2.V} : Walk (Itte K a xs) xs.length (fun H => SqT K H a xs) (YPair (fun i => some (.int (i : Nat))) (fun i => xs[i]?)) :=
  ⟨fun _ _ hi q => ⟨q, hi⟩, fun _ q => ⟨q, rfl⟩, fun i H v H' hi q y => by
    obtain ⟨T, x, h1, h2, h3, h4⟩ := y
    exact ⟨T, .int (i : Nat), x, h1, h2, h3, rfl, h4⟩⟩
def rNotInT (K : PySem.W.Frag) : R2 := fun x y H Q => ∃ d ds, Dp K H x d ∧ Dp K H y (.tuple ds) ∧ SeqAt.shaped d = true ∧ SeqAt.shaped (.tuple ds) = true ∧ Q (.bl (!ds.any fun z => PyData.eqv z d)) H
/-- x not in t, t a tuple of data -/
theorem op_notInT {X : Cx} (hu : X.A.units + 65 < cLine) : OpR X (compareOp .NotIn) (rNotInT X.K) := by
  intro pins s σ H x y v u Q I rx ry h
  obtain ⟨d, ds, hd, he, sd, se, q⟩ := h
  obtain ⟨as, ra⟩ := Dp.reads I d x v hd rx
  obtain ⟨bs, rb⟩ := Dp.reads I (.tuple ds) y u he ry
  exact SeqAt.notIn_tuple_reads rb ra (SeqAt.canLay_of_shaped se) (SeqAt.canLay_of_shaped sd) (room_in_shaped sd hu) ⟨.bl _, H, I, rfl, q⟩
/-- lists that rise by a number are told by their members -/
theorem rise_eq {α : Type} (f : α → Int) : ∀ (l r : List α), l.Pairwise (fun a b => f a < f b) → r.Pairwise (fun a b => f a < f b) → (∀ x, x ∈ l ↔ x ∈ r) → l = r
  | [], [], _, _, _ => rfl
  | [], b :: r, _, _, h => absurd ((h b).mpr List.mem_cons_self) List.not_mem_nil
  | a :: l, [], _, _, h => absurd ((h a).mp List.mem_cons_self) List.not_mem_nil
  | a :: l, b :: r, h1, h2, h => by
    obtain ⟨p1, q1⟩ := List.pairwise_cons.mp h1
    obtain ⟨p2, q2⟩ := List.pairwise_cons.mp h2
    have e : a = b := by
      rcases List.mem_cons.mp ((h a).mp List.mem_cons_self) with z | z
      · exact z
      · rcases List.mem_cons.mp ((h b).mpr List.mem_cons_self) with y | y
        · exact y.symm
        · have := p2 a z
          have := p1 b y
          omega
    subst e
    congr 1
    refine rise_eq f l r q1 q2 fun x => ⟨fun z => ?_, fun z => ?_⟩
    · rcases List.mem_cons.mp ((h x).mp (List.mem_cons_of_mem _ z)) with y | y
      · subst y
        exact absurd (p1 _ z) (Int.lt_irrefl _)
      · exact y
    · rcases List.mem_cons.mp ((h x).mpr (List.mem_cons_of_mem _ z)) with y | y
      · subst y
        exact absurd (p2 _ z) (Int.lt_irrefl _)
      · exact y
/-- pairs by one number -/
def pc (x : Int × Int) : Int := x.1 * 64 + x.2
def pk (x : Int × Int) : List Int := [x.1, x.2]
theorem pk_inj {x y : Int × Int} (h : pk x = pk y) : x = y := by
  obtain ⟨a, b⟩ := x
  obtain ⟨c, d⟩ := y
  unfold pk at h
  simp only [List.cons.injEq, and_true] at h
  rw [h.1, h.2]
theorem code_pk (x : Int × Int) : TS.code 64 (pk x) = pc x := code_pair x.1 x.2
/-- what sorted(set) gives, the members pairs of small numbers -/
theorem rise_of {L : List (Addr × List Int)} (nd : (L.map (·.2)).Nodup) (pw : L.Pairwise (fun q r => TS.code 64 q.2 ≤ TS.code 64 r.2)) (hp : ∀ q ∈ L, ∃ x : Int × Int, q.2 = pk x ∧ 0 ≤ x.2 ∧ x.2 < 64) :
    ∃ us : List (Int × Int), L.map (·.2) = us.map pk ∧ us.Pairwise (fun a b => pc a < pc b) := by
  induction L with
  | nil => exact ⟨[], rfl, .nil⟩
  | cons q L ih =>
    obtain ⟨n1, n2⟩ := List.nodup_cons.mp nd
    obtain ⟨p1, p2⟩ := List.pairwise_cons.mp pw
    obtain ⟨us, e, r⟩ := ih n2 p2 fun q hq => hp q (List.mem_cons_of_mem _ hq)
    obtain ⟨x, hx, hx0, hx1⟩ := hp q List.mem_cons_self
    refine ⟨x :: us, by rw [List.map_cons, List.map_cons, hx, e], List.pairwise_cons.mpr ⟨fun y hy => ?_, r⟩⟩
    have hy' : pk y ∈ L.map (·.2) := by
      rw [e]
      exact List.mem_map_of_mem hy
    obtain ⟨q', hq', ey⟩ := List.mem_map.mp hy'
    obtain ⟨z, hz, hz0, hz1⟩ := hp q' (List.mem_cons_of_mem _ hq')
    obtain rfl : z = y := pk_inj (hz.symm.trans ey)
    have h1 := p1 q' hq'
    rw [hx, hz, code_pk, code_pk] at h1
    have ne : x ≠ z := fun e2 => n1 (by show q.2 ∈ _; rw [hx, e2]; exact hy')
    rcases Int.lt_or_eq_of_le h1 with h2 | h2
    · exact h2
    · refine absurd ?_ ne
      unfold pc at h2
      have e1 : x.1 = z.1 := by omega
      have e2 : x.2 = z.2 := by omega
      exact Prod.ext e1 e2
theorem any_pD {α : Type} (l : List α) (f : α → Bool) : l.any f = decide (∃ x ∈ l, f x = true) := by
  rw [Bool.eq_iff_iff]
  simp
end Sv

/-! The data layer: values without addresses (tuples are what they hold), a store of what can change, readings over these. -/
namespace Sv
open PySem PySem.Spec PyProof.Rows L2

/-- a value: tuples and lists that are only read by what they hold; what can change by its address -/
inductive D where
  | non | bl (b : Bool) | int (i : Int) | str (x : Str) | tup (ds : List D) | rol (ds : List D) | ref (a : Addr) | ty (n : String) | dct (kvs : List (Key × D))
  /-- a tuple whose methods are not called -/
  | wtup (ds : List D)

/-- what stands in the store -/
inductive Ob where
  | lst (ds : List D)
  | dK (kvs : List (Key × D))
  | ins (C : Addr) (fs : List (Str × D))
  /-- a set of tuples of ints; a set of ints -/
  | tset (L : List (List Int)) | iset (ns : List Int)

abbrev Sto := Addr → Option Ob
def Sto.put (S : Sto) (a : Addr) (o : Ob) : Sto := fun b => if b = a then some o else S b
theorem Sto.same {S : Sto} {a : Addr} {o : Ob} : S.put a o a = some o := if_pos rfl
theorem Sto.ne {S : Sto} {a b : Addr} {o : Ob} (h : b ≠ a) : S.put a o b = S b := if_neg h
theorem Sto.put_put {S : Sto} {a : Addr} {o u : Ob} : (S.put a o).put a u = S.put a u := by
  funext b; unfold Sto.put; split <;> rfl

/-- the program, the world, the written part -/
structure KK where
  P : Program
  w : World
  k : PySem.W.Frag
abbrev _root_.L2.Cx.kk (X : Cx) : KK := ⟨X.prog, X.w, X.K⟩
/-- a list that is only read -/
def Rol (K : KK) (H : Hp) (a : Addr) (vs : List V) : Prop := (∃ o, H a = some (.frz o (.lst vs))) ∨
    ∃ (o : Obj) (its : Array Value) (n : Nat), K.k.lookup a = some o ∧ o.cls = .type "list" ∧ o.dict = none ∧ o.data = .seq its n ∧ its.size ≤ sizeLine ∧ Vals vs its.toList
theorem Rol.sqL {K : KK} {H : Hp} {a : Addr} {vs : List V} (h : Rol K H a vs) : SqL K.k H a vs := by
  rcases h with ⟨o, h⟩ | h
  · exact .inl (.inr ⟨o, h⟩)
  · exact .inr h
/-- what is locked stays -/
def Ext (H H' : Hp) : Prop := (∀ a o u, H a = some (.frz o u) → H' a = some (.frz o u)) ∧ ∀ a xs, H a = some (.tup xs) → H' a = some (.tup xs)
theorem Ext.refl (H : Hp) : Ext H H := ⟨fun _ _ _ h => h, fun _ _ h => h⟩
theorem Ext.trans {H H1 H2 : Hp} (x : Ext H H1) (y : Ext H1 H2) : Ext H H2 := ⟨fun a o u h => y.1 a o u (x.1 a o u h), fun a xs h => y.2 a xs (x.2 a xs h)⟩
theorem Ext.of {H H' : Hp} (h : Same H H') : Ext H H' := ⟨fun a o u e => h _ _ e, fun a xs e => h _ _ e⟩
theorem Ext.new {H : Hp} {p : Addr} {o : HO} (h : H p = none) : Ext H (upd H p o) := .of (Same.new h)
theorem Ext.put {H : Hp} {p : Addr} {o u : HO} (h : H p = some u) (m : Mut (some u)) : Ext H (upd H p o) := by
  refine ⟨fun a ob v e => ?_, fun a xs e => ?_⟩ <;>
  · rw [upd_ne]
    · exact e
    · rintro rfl
      rw [h] at e
      cases e
      exact m
theorem Rol.ext {K : KK} {H H' : Hp} {a : Addr} {vs : List V} (h : Rol K H a vs) (e : Ext H H') : Rol K H' a vs := by
  rcases h with ⟨o, h⟩ | h
  · exact .inl ⟨o, e.1 _ _ _ h⟩
  · exact .inr h
theorem TupN.ext {H H' : Hp} {a : Addr} {xs : List V} (h : TupN H a xs) (e : Ext H H') : TupN H' a xs := by
  obtain ⟨o, h, d⟩ := h
  exact ⟨o, e.1 _ _ _ h, d⟩

mutual
inductive RD (K : KK) (H : Hp) : D → V → Prop
  | non : RD K H .non .non
  | bl (b : Bool) : RD K H (.bl b) (.bl b)
  | int (i : Int) : RD K H (.int i) (.int i)
  | str (x : Str) : RD K H (.str x) (.str x)
  | ref (a : Addr) : RD K H (.ref a) (.ref a)
  | ty (n : String) : RD K H (.ty n) (.ty n)
  | tup {a : Addr} {ds : List D} {vs : List V} : TupN H a vs → RDs K H ds vs → RD K H (.tup ds) (.ref a)
  | rol {a : Addr} {ds : List D} {vs : List V} : Rol K H a vs → RDs K H ds vs → RD K H (.rol ds) (.ref a)
  | dct {a : Addr} {o : Obj} {kvs : List (Key × D)} {vs : List (Key × V)} : H a = some (.frz o (.dK vs)) → RDk K H kvs vs → RD K H (.dct kvs) (.ref a)
  | wtup {a : Addr} {ds : List D} {vs : List V} : H a = some (.tup vs) → RDs K H ds vs → RD K H (.wtup ds) (.ref a)
inductive RDs (K : KK) (H : Hp) : List D → List V → Prop
  | nil : RDs K H [] []
  | cons {d : D} {ds : List D} {v : V} {vs : List V} : RD K H d v → RDs K H ds vs → RDs K H (d :: ds) (v :: vs)
inductive RDk (K : KK) (H : Hp) : List (Key × D) → List (Key × V) → Prop
  | nil : RDk K H [] []
  | cons {k : Key} {d : D} {ds : List (Key × D)} {v : V} {vs : List (Key × V)} : RD K H d v → RDk K H ds vs → RDk K H ((k, d) :: ds) ((k, v) :: vs)
end
section
variable {K : KK} {H H' : Hp}
mutual
theorem RD.ext (e : Ext H H') : ∀ {d : D} {v : V}, RD K H d v → RD K H' d v
  | _, _, .non => .non
  | _, _, .bl b => .bl b
  | _, _, .int i => .int i
  | _, _, .str x => .str x
  | _, _, .ref a => .ref a
  | _, _, .ty n => .ty n
  | _, _, .tup h r => .tup (h.ext e) (RDs.ext e r)
  | _, _, .rol h r => .rol (h.ext e) (RDs.ext e r)
  | _, _, .dct h r => .dct (e.1 _ _ _ h) (RDk.ext e r)
  | _, _, .wtup h r => .wtup (e.2 _ _ h) (RDs.ext e r)
theorem RDs.ext (e : Ext H H') : ∀ {ds : List D} {vs : List V}, RDs K H ds vs → RDs K H' ds vs
  | _, _, .nil => .nil
  | _, _, .cons h r => .cons (RD.ext e h) (RDs.ext e r)
theorem RDk.ext (e : Ext H H') : ∀ {ds : List (Key × D)} {vs : List (Key × V)}, RDk K H ds vs → RDk K H' ds vs
  | _, _, .nil => .nil
  | _, _, .cons h r => .cons (RD.ext e h) (RDk.ext e r)
end
theorem RDk.length : ∀ {ds : List (Key × D)} {vs : List (Key × V)}, RDk K H ds vs → ds.length = vs.length
  | _, _, .nil => rfl
  | _, _, .cons _ r => by rw [List.length_cons, List.length_cons, RDk.length r]
theorem RDk.keys : ∀ {ds : List (Key × D)} {vs : List (Key × V)}, RDk K H ds vs → ds.map (·.1) = vs.map (·.1)
  | _, _, .nil => rfl
  | _, _, .cons _ r => by rw [List.map_cons, List.map_cons, RDk.keys r]
theorem RDk.atv : ∀ {ds : List (Key × D)} {vs : List (Key × V)} {i : Nat} {k : Key} {v : V}, RDk K H ds vs → vs[i]? = some (k, v) → ∃ d, ds[i]? = some (k, d) ∧ RD K H d v
  | _, _, _, _, _, .nil, h => by simp at h
  | _, _, 0, _, _, .cons r _, h => by simp at h; obtain ⟨rfl, rfl⟩ := h; exact ⟨_, rfl, r⟩
  | _, _, i + 1, _, _, .cons _ t, h => RDk.atv (i := i) t (by simpa using h)
theorem RDs.length : ∀ {ds : List D} {vs : List V}, RDs K H ds vs → ds.length = vs.length
  | _, _, .nil => rfl
  | _, _, .cons _ r => by rw [List.length_cons, List.length_cons, RDs.length r]
theorem RDs.at : ∀ {ds : List D} {vs : List V} {i : Nat} {d : D}, RDs K H ds vs → ds[i]? = some d → ∃ v, vs[i]? = some v ∧ RD K H d v
  | _, _, _, _, .nil, h => by simp at h
  | _, _, 0, _, .cons r _, h => by simp at h; subst h; exact ⟨_, rfl, r⟩
  | _, _, i + 1, _, .cons _ t, h => RDs.at (i := i) t (by simpa using h)
theorem RDs.atv : ∀ {ds : List D} {vs : List V} {i : Nat} {v : V}, RDs K H ds vs → vs[i]? = some v → ∃ d, ds[i]? = some d ∧ RD K H d v
  | _, _, _, _, .nil, h => by simp at h
  | _, _, 0, _, .cons r _, h => by simp at h; subst h; exact ⟨_, rfl, r⟩
  | _, _, i + 1, _, .cons _ t, h => RDs.atv (i := i) t (by simpa using h)
theorem RDs.append : ∀ {ds : List D} {vs : List V} {es : List D} {ws : List V}, RDs K H ds vs → RDs K H es ws → RDs K H (ds ++ es) (vs ++ ws)
  | _, _, _, _, .nil, s => s
  | _, _, _, _, .cons r t, s => .cons r (RDs.append t s)
theorem RDs.take : ∀ {ds : List D} {vs : List V} (n : Nat), RDs K H ds vs → RDs K H (ds.take n) (vs.take n)
  | _, _, 0, _ => .nil
  | _, _, _ + 1, .nil => .nil
  | _, _, n + 1, .cons r t => .cons r (RDs.take n t)
theorem RDs.drop : ∀ {ds : List D} {vs : List V} (n : Nat), RDs K H ds vs → RDs K H (ds.drop n) (vs.drop n)
  | _, _, 0, r => r
  | _, _, _ + 1, .nil => .nil
  | _, _, n + 1, .cons _ t => RDs.drop n t
theorem RDs.set {d : D} {v : V} (h : RD K H d v) : ∀ {ds : List D} {vs : List V} (n : Nat), RDs K H ds vs → RDs K H (ds.set n d) (vs.set n v)
  | _, _, _, .nil => .nil
  | _, _, 0, .cons _ t => .cons h t
  | _, _, n + 1, .cons r t => .cons r (RDs.set h n t)
theorem RDs.eraseIdx : ∀ {ds : List D} {vs : List V} (n : Nat), RDs K H ds vs → RDs K H (ds.eraseIdx n) (vs.eraseIdx n)
  | _, _, _, .nil => .nil
  | _, _, 0, .cons _ t => t
  | _, _, n + 1, .cons r t => .cons r (RDs.eraseIdx n t)
theorem RDs.ints : ∀ ns : List Int, RDs K H (ns.map D.int) (ns.map V.int)
  | [] => .nil
  | n :: r => .cons (.int n) (RDs.ints r)
theorem RDs.ints_inv : ∀ {ns : List Int} {vs : List V}, RDs K H (ns.map D.int) vs → vs = ns.map V.int
  | [], _, .nil => rfl
  | n :: r, _, .cons (.int _) t => by rw [RDs.ints_inv t]; rfl
theorem RDs.inv1 {d : D} {vs : List V} (h : RDs K H [d] vs) : ∃ v, vs = [v] ∧ RD K H d v := by
  cases h with
  | cons r t => cases t; exact ⟨_, rfl, r⟩
theorem RDs.inv2 {d e : D} {vs : List V} (h : RDs K H [d, e] vs) : ∃ v u, vs = [v, u] ∧ RD K H d v ∧ RD K H e u := by
  cases h with
  | cons r t =>
    obtain ⟨u, rfl, q⟩ := t.inv1
    exact ⟨_, _, rfl, r, q⟩
end

def RO (K : KK) (H : Hp) (a : Addr) : Ob → Prop
  | .lst ds => ∃ vs, H a = some (.lst vs) ∧ RDs K H ds vs
  | .dK kvs => ∃ vs, H a = some (.dK vs) ∧ RDk K H kvs vs
  | .ins C fs => ∃ dx ns ds vs, H a = some (.ins C dx (List.zip ns vs)) ∧ fs = List.zip ns ds ∧ ns.length = ds.length ∧ RDs K H ds vs
  | .tset L => ∃ M : List (Addr × List Int), H a = some (SetTO K.P K.w a M) ∧ (∀ p ∈ M, TupN H p.1 (p.2.map V.int)) ∧ L = M.map (·.2)
  | .iset ns => ∃ S : Key → Bool, H a = some (SetK K.P K.w a S ns.length) ∧ ∀ i, S (Sum.inl i) = true ↔ i ∈ ns
def RelS (K : KK) (S : Sto) (H : Hp) : Prop := ∀ a o, S a = some o → RO K H a o
section
variable {K : KK} {H H' : Hp} {S : Sto} {a p : Addr} {o : Ob} {u w : HO}
theorem RO.ext {o : Ob} (h : RO K H a o) (e : Ext H H') (ha : H' a = H a) : RO K H' a o := by
  cases o with
  | lst ds => obtain ⟨vs, q, r⟩ := h; exact ⟨vs, ha.trans q, r.ext e⟩
  | dK kvs => obtain ⟨vs, q, r⟩ := h; exact ⟨vs, ha.trans q, r.ext e⟩
  | ins C fs => obtain ⟨dx, ns, ds, vs, q, z, l, r⟩ := h; exact ⟨dx, ns, ds, vs, ha.trans q, z, l, r.ext e⟩
  | tset L => obtain ⟨M, q, r, z⟩ := h; exact ⟨M, ha.trans q, fun p hp => (r p hp).ext e, z⟩
  | iset ns => obtain ⟨S, q, r⟩ := h; exact ⟨S, ha.trans q, r⟩
theorem RO.mut (h : RO K H a o) : ∃ u, H a = some u ∧ Mut (some u) := by
  cases o with
  | lst ds => obtain ⟨vs, q, r⟩ := h; exact ⟨_, q, trivial⟩
  | dK kvs => obtain ⟨vs, q, r⟩ := h; exact ⟨_, q, trivial⟩
  | ins C fs => obtain ⟨dx, ns, ds, vs, q, _⟩ := h; exact ⟨_, q, trivial⟩
  | tset L => obtain ⟨M, q, _⟩ := h; exact ⟨_, q, trivial⟩
  | iset ns => obtain ⟨S, q, _⟩ := h; exact ⟨_, q, trivial⟩
theorem RelS.fresh (h : RelS K S H) (n : H p = none) : S p = none := by
  cases e : S p with
  | none => rfl
  | some o =>
    obtain ⟨u, q, _⟩ := (h p o e).mut
    rw [n] at q
    cases q
/-- something new that is not of the store -/
theorem RelS.new (h : RelS K S H) (n : H p = none) : RelS K S (upd H p u) := fun a o e => (h a o e).ext (.new n) (upd_ne fun z => by
  subst z
  rw [h.fresh n] at e
  cases e)
/-- something new of the store -/
theorem RelS.lay (h : RelS K S H) (n : H p = none) (r : RO K (upd H p u) p o) : RelS K (S.put p o) (upd H p u) := fun a o' e => by
  by_cases z : a = p
  · subst z
    rw [Sto.same] at e
    cases e
    exact r
  · rw [Sto.ne z] at e
    exact h.new n a o' e
/-- something of the store written -/
theorem RelS.put (h : RelS K S H) (n : H p = some w) (m : Mut (some w)) (r : RO K (upd H p u) p o) : RelS K (S.put p o) (upd H p u) := fun a o' e => by
  by_cases z : a = p
  · subst z
    rw [Sto.same] at e
    cases e
    exact r
  · rw [Sto.ne z] at e
    exact (h a o' e).ext (.put n m) (upd_ne z)
theorem RelS.lst (h : RelS K S H) {ds : List D} (e : S a = some (.lst ds)) : ∃ vs, H a = some (.lst vs) ∧ RDs K H ds vs := h a _ e

end

/-! ### states, readings -/
abbrev Env := List (Option D)
abbrev DK := D → Sto → Prop
abbrev DTE := Env → Sto → DK → Prop
abbrev DTT := Env → Sto → (Bool → Sto → Prop) → Prop
abbrev DTA := Env → Sto → (List D → Sto → Prop) → Prop
structure DEnds where
  nx : Env → Sto → Prop
  rt : DK
  bk : Env → Sto → Prop := fun _ _ => False
  ct : Env → Sto → Prop := fun _ _ => False
abbrev DTS := DEnds → Env → Sto → Prop

structure RS (K : KK) (σ : L2.St) (H : Hp) (env : Env) (S : Sto) : Prop where
  len : env.length = σ.length
  slot : ∀ (i : Nat) (d : D), env[i]? = some (some d) → ∃ v, σ[i]? = some (some v) ∧ RD K H d v
  sto : RelS K S H
theorem RS.ext {K : KK} {σ : L2.St} {H H' : Hp} {env : Env} {S S' : Sto} (r : RS K σ H env S) (e : Ext H H') (s : RelS K S' H') : RS K σ H' env S' :=
  ⟨r.len, fun i d h => let ⟨v, q, x⟩ := r.slot i d h; ⟨v, q, x.ext e⟩, s⟩
theorem RS.set {K : KK} {σ : L2.St} {H : Hp} {env : Env} {S : Sto} {d : D} {v : V} (r : RS K σ H env S) (i : Nat) (h : RD K H d v) : RS K (σ.set i (some v)) H (env.set i (some d)) S := by
  refine ⟨by rw [List.length_set, List.length_set]; exact r.len, fun j d' e => ?_, r.sto⟩
  by_cases z : i = j
  · subst z
    by_cases hl : i < env.length
    · rw [List.getElem?_set_self hl] at e
      cases e
      exact ⟨v, List.getElem?_set_self (r.len ▸ hl), h⟩
    · rw [List.getElem?_eq_none (by rw [List.length_set]; omega)] at e
      cases e
  · rw [List.getElem?_set_ne z] at e ⊢
    exact r.slot j d' e

section
variable (K : KK)
/-- a result that goes on -/
def Kont (S' : Sto) (H H' : Hp) (d : D) (v : V) : Prop := RelS K S' H' ∧ RD K H' d v ∧ Ext H H'
def lE (t : DTE) : TE := fun σ H Q => ∃ env S R, RS K σ H env S ∧ t env S R ∧ ∀ d S' v H', R d S' → RelS K S' H' → RD K H' d v → Ext H H' → Q v H'
def lT (t : DTT) : TT := fun σ H Q => ∃ env S R, RS K σ H env S ∧ t env S R ∧ ∀ b S' H', R b S' → RelS K S' H' → Ext H H' → Q b H'
def lA (t : DTA) : TA := fun σ H Q => ∃ env S R, RS K σ H env S ∧ t env S R ∧ ∀ ds S' vs H', R ds S' → RelS K S' H' → RDs K H' ds vs → Ext H H' → Q vs H'
def lS (t : DTS) : TS := fun B σ H => ∃ env S C, RS K σ H env S ∧ t C env S ∧
  (∀ env' S' σ' H', C.nx env' S' → RS K σ' H' env' S' → Ext H H' → B.nx σ' H') ∧ (∀ d S' v H', C.rt d S' → RelS K S' H' → RD K H' d v → Ext H H' → B.rt v H') ∧
  (∀ env' S' σ' H', C.bk env' S' → RS K σ' H' env' S' → Ext H H' → B.bk σ' H') ∧ (∀ env' S' σ' H', C.ct env' S' → RS K σ' H' env' S' → Ext H H' → B.ct σ' H')
end
structure DE (X : Cx) (e : Expr) (t : DTE) : Prop where
  run : PE X e (lE X.kk t)
structure DT (X : Cx) (e : Expr) (t : DTT) : Prop where
  run : PT X e (lT X.kk t)
structure DW (X : Cx) (e : Expr) (t : DTT) : Prop where
  run : PW X e (lT X.kk t)
structure DA (X : Cx) (es : List Expr) (t : DTA) : Prop where
  run : PA X es (lA X.kk t)
structure DS (X : Cx) (st : Stmt) (t : DTS) : Prop where
  run : PS X st (lS X.kk t)
structure DSs (X : Cx) (sts : List Stmt) (t : DTS) : Prop where
  run : PSs X sts (lS X.kk t)
section
variable {X : Cx}
theorem _root_.L2.PE.of {e : Expr} {t t' : TE} (h : PE X e t) (q : ∀ σ H Q, t' σ H Q → t σ H Q) : PE X e t' := ⟨fun pins s σ H Q I w => h.run pins s σ H Q I (q σ H Q w)⟩
theorem _root_.L2.PT.of {e : Expr} {t t' : TT} (h : PT X e t) (q : ∀ σ H Q, t' σ H Q → t σ H Q) : PT X e t' := ⟨fun pins s σ H Q I w => h.run pins s σ H Q I (q σ H Q w)⟩
theorem _root_.L2.PW.of {e : Expr} {t t' : TT} (h : PW X e t) (q : ∀ σ H Q, t' σ H Q → t σ H Q) : PW X e t' := ⟨fun wh pins s σ H Q I w => h.run wh pins s σ H Q I (q σ H Q w)⟩
theorem _root_.L2.PA.of {e : List Expr} {t t' : TA} (h : PA X e t) (q : ∀ σ H Q, t' σ H Q → t σ H Q) : PA X e t' := ⟨fun pos pins s σ H Q I w => h.run pos pins s σ H Q I (q σ H Q w)⟩
theorem _root_.L2.PS.of {e : Stmt} {t t' : TS} (h : PS X e t) (q : ∀ σ H Q, t' Q σ H → t Q σ H) : PS X e t' := ⟨fun pins s σ H Q I w => h.run pins s σ H Q I (q σ H Q w)⟩
theorem _root_.L2.PSs.of {e : List Stmt} {t t' : TS} (h : PSs X e t) (q : ∀ σ H Q, t' Q σ H → t Q σ H) : PSs X e t' := ⟨fun pins s σ H Q I w => h.run pins s σ H Q I (q σ H Q w)⟩

/-! ### names, constants -/
def dVar (i : Nat) : DTE := fun env S R => ∃ d, env[i]? = some (some d) ∧ R d S
def dC (d : D) : DTE := fun _ S R => R d S
theorem de_var {i : Nat} {x : Str} {pos : Pos} (hN : X.N[i]? = some x) (hv : Vis X.env.scope x) (hd : (x == ("__debug__" : Str)) = false := by decide) (hcd : (x == ("__classdict__" : Str)) = false := by decide) : DE X (.Name x pos) (dVar i) :=
  ⟨(pe_var hN hv hd hcd).of fun σ H Q ⟨env, S, R, rs, ⟨d, h, q⟩, k⟩ => let ⟨v, e, r⟩ := rs.slot i d h; ⟨v, e, k _ _ _ _ q rs.sto r (.refl H)⟩⟩
theorem de_int {i j pos} : DE X (.Constant (.int i) j pos) (dC (.int i)) := ⟨pe_int.of fun σ H Q ⟨env, S, R, rs, q, k⟩ => k _ _ _ _ q rs.sto (.int i) (.refl H)⟩
theorem de_bl {b j pos} : DE X (.Constant (.bool b) j pos) (dC (.bl b)) := ⟨pe_bl.of fun σ H Q ⟨env, S, R, rs, q, k⟩ => k _ _ _ _ q rs.sto (.bl b) (.refl H)⟩
theorem de_non {j pos} : DE X (.Constant .none j pos) (dC .non) := ⟨pe_non.of fun σ H Q ⟨env, S, R, rs, q, k⟩ => k _ _ _ _ q rs.sto .non (.refl H)⟩
theorem de_str {x j pos} : DE X (.Constant (.str x) j pos) (dC (.str x)) := ⟨pe_str.of fun σ H Q ⟨env, S, R, rs, q, k⟩ => k _ _ _ _ q rs.sto (.str x) (.refl H)⟩
/-- a module's number -/
theorem de_num {x : Str} {i : Int} {t : Tok} {pos : Pos} (hg : Gl X x) (hm : X.mg x = some (.int i t)) (hd : (x == ("__debug__" : Str)) = false := by decide) : DE X (.Name x pos) (dC (.int i)) :=
  ⟨(pe_glob (v := .int i) hg hm ⟨t, rfl⟩ hd).of fun σ H Q ⟨env, S, R, rs, q, k⟩ => k _ _ _ _ q rs.sto (.int i) (.refl H)⟩

/-! ### operators by values -/
abbrev DR2 := D → D → Sto → DK → Prop
def l2 (K : KK) (r : DR2) : R2 := fun x y H Q => ∃ d e S R, RD K H d x ∧ RD K H e y ∧ RelS K S H ∧ r d e S R ∧ ∀ z S' v H', R z S' → RelS K S' H' → RD K H' z v → Ext H H' → Q v H'
def dBin (r : DR2) (ta tb : DTE) : DTE := fun env S R => ta env S fun x S1 => tb env S1 fun y S2 => r x y S2 R
theorem l2_bin {K : KK} {r : DR2} {ta tb : DTE} {σ : L2.St} {H : Hp} {Q : VK} (h : lE K (dBin r ta tb) σ H Q) : tOp (l2 K r) (lE K ta) (lE K tb) σ H Q := by
  obtain ⟨env, S, R, rs, h, k⟩ := h
  refine ⟨env, S, _, rs, h, fun d S1 v H1 q1 s1 r1 e1 => ⟨env, S1, _, rs.ext e1 s1, q1, fun e S2 u H2 q2 s2 r2 e2 => ⟨d, e, S2, R, r1.ext e2, r2, s2, q2, fun z S3 w H3 q3 s3 r3 e3 => k _ _ _ _ q3 s3 r3 (e1.trans (e2.trans e3))⟩⟩⟩
variable {a b : Expr} {ta tb tc : DTE} {pos : Pos}
theorem de_bin {op : Operator} {r : DR2} (ho : OpR X (binaryOp op) (l2 X.kk r)) (ha : DE X a ta) (hb : DE X b tb) : DE X (.BinOp a op b pos) (dBin r ta tb) := ⟨(pe_op ho ha.run hb.run).of fun _ _ _ => l2_bin⟩
theorem de_cmp {op : CmpOp} {r : DR2} (ho : OpR X (compareOp op) (l2 X.kk r)) (ha : DE X a ta) (hb : DE X b tb) (hm : behindInMarks op b = false := by first | rfl | exact nomark _) : DE X (.Compare a [op] [b] pos) (dBin r ta tb) := ⟨(pe_cmpR ho ha.run hb.run hm).of fun _ _ _ => l2_bin⟩
def dB (t : DTE) : DTT := fun env S R => t env S fun x S1 => ∃ c, x = .bl c ∧ R c S1
theorem lT_b {K : KK} {t : DTE} {σ : L2.St} {H : Hp} {Q : Bool → Hp → Prop} (h : lT K (dB t) σ H Q) : tB (lE K t) σ H Q := by
  obtain ⟨env, S, R, rs, h, k⟩ := h
  refine ⟨env, S, _, rs, h, fun d S1 v H1 ⟨c, q, q1⟩ s1 r1 e1 => ?_⟩
  subst q
  cases r1
  exact ⟨c, rfl, k _ _ _ q1 s1 e1⟩
theorem dt_cmp {op : CmpOp} {r : DR2} (ho : OpR X (compareOp op) (l2 X.kk r)) (ha : DE X a ta) (hb : DE X b tb) (hm : behindInMarks op b = false := by first | rfl | exact nomark _) : DT X (.Compare a [op] [b] pos) (dB (dBin r ta tb)) := by
  refine ⟨(pt_cmpR ho ha.run hb.run hm).of fun σ H Q h => ?_⟩
  obtain ⟨env, S, R, rs, h, k⟩ := lT_b h
  exact l2_bin ⟨env, S, R, rs, h, k⟩
/-- an expression whose value is a bool, as a test -/
theorem dt_val {e : Expr} {t : DTE} (h : DE X e t) (he : ∀ whole, isTrue e X.env whole = (do let v ← whole; standAt e.pos; holding [v] (truthy v)) := by intro _; rfl) : DT X e (dB t) := ⟨(pt_val h.run he).of fun _ _ _ => lT_b⟩
end
end Sv

/-! The data layer: tests, displays, calls, statements, targets, loops. -/
namespace Sv
open PySem PySem.Spec PyProof.Rows L2
section
variable {X : Cx} {a b c e : Expr} {es rest : List Expr} {ta tb te : DTE} {t u : DTT} {tl : DTA} {pos : Pos}
/-! ### tests -/
def dAnd (t u : DTT) : DTT := fun env S R => t env S fun c S1 => if c = true then u env S1 R else R false S1
def dOr (t u : DTT) : DTT := fun env S R => t env S fun c S1 => if c = true then R true S1 else u env S1 R
def dNot (t : DTT) : DTT := fun env S R => t env S fun c S1 => R (!c) S1
theorem dw_and1 (h : DT X a t) : DW X (.BoolOp .And [a] pos) t := ⟨pw_and1 h.run⟩
theorem dw_or1 (h : DT X a t) : DW X (.BoolOp .Or [a] pos) t := ⟨pw_or1 h.run⟩
theorem dw_and (ha : DT X a t) (hb : DW X (.BoolOp .And (b :: rest) pos) u) : DW X (.BoolOp .And (a :: b :: rest) pos) (dAnd t u) := by
  refine ⟨(pw_and ha.run hb.run).of fun σ H Q ⟨env, S, R, rs, h, k⟩ => ⟨env, S, _, rs, h, fun c S1 H1 q s1 e1 => ?_⟩⟩
  cases c with
  | true => exact ⟨env, S1, R, rs.ext e1 s1, q, fun c S2 H2 q s2 e2 => k _ _ _ q s2 (e1.trans e2)⟩
  | false => exact k _ _ _ q s1 e1
theorem dw_or (ha : DT X a t) (hb : DW X (.BoolOp .Or (b :: rest) pos) u) : DW X (.BoolOp .Or (a :: b :: rest) pos) (dOr t u) := by
  refine ⟨(pw_or ha.run hb.run).of fun σ H Q ⟨env, S, R, rs, h, k⟩ => ⟨env, S, _, rs, h, fun c S1 H1 q s1 e1 => ?_⟩⟩
  cases c with
  | false => exact ⟨env, S1, R, rs.ext e1 s1, q, fun c S2 H2 q s2 e2 => k _ _ _ q s2 (e1.trans e2)⟩
  | true => exact k _ _ _ q s1 e1
theorem DW.dt (h : DW X e t) : DT X e t := ⟨h.run.pt⟩
theorem dt_not (h : DT X a t) : DT X (.UnaryOp .Not a pos) (dNot t) :=
  ⟨(pt_not h.run).of fun σ H Q ⟨env, S, R, rs, h, k⟩ => ⟨env, S, _, rs, h, fun c S1 H1 q s1 e1 => k _ _ _ q s1 e1⟩⟩
/-- bools as values -/
def dAndV (ta tb : DTE) : DTE := fun env S R => ta env S fun x S1 => ∃ c, x = .bl c ∧ if c = true then tb env S1 R else R (.bl false) S1
def dOrV (ta tb : DTE) : DTE := fun env S R => ta env S fun x S1 => ∃ c, x = .bl c ∧ if c = true then R (.bl true) S1 else tb env S1 R
def dNotV (ta : DTE) : DTE := fun env S R => ta env S fun x S1 => ∃ c, x = .bl c ∧ R (.bl (!c)) S1
theorem de_one {op} (h : DE X a ta) : DE X (.BoolOp op [a] pos) ta := ⟨pe_one h.run⟩
theorem de_and (ha : DE X a ta) (hb : DE X (.BoolOp .And (b :: rest) pos) tb) : DE X (.BoolOp .And (a :: b :: rest) pos) (dAndV ta tb) := by
  refine ⟨(pe_and ha.run hb.run).of fun σ H Q ⟨env, S, R, rs, h, k⟩ => ⟨env, S, _, rs, h, fun d S1 v H1 ⟨c, z, q⟩ s1 r1 e1 => ?_⟩⟩
  subst z
  cases r1
  refine ⟨c, rfl, ?_⟩
  cases c with
  | true => exact ⟨env, S1, R, rs.ext e1 s1, q, fun c S2 v H2 q s2 r2 e2 => k _ _ _ _ q s2 r2 (e1.trans e2)⟩
  | false => exact k _ _ _ _ q s1 (.bl _) e1
theorem de_or (ha : DE X a ta) (hb : DE X (.BoolOp .Or (b :: rest) pos) tb) : DE X (.BoolOp .Or (a :: b :: rest) pos) (dOrV ta tb) := by
  refine ⟨(pe_or ha.run hb.run).of fun σ H Q ⟨env, S, R, rs, h, k⟩ => ⟨env, S, _, rs, h, fun d S1 v H1 ⟨c, z, q⟩ s1 r1 e1 => ?_⟩⟩
  subst z
  cases r1
  refine ⟨c, rfl, ?_⟩
  cases c with
  | false => exact ⟨env, S1, R, rs.ext e1 s1, q, fun c S2 v H2 q s2 r2 e2 => k _ _ _ _ q s2 r2 (e1.trans e2)⟩
  | true => exact k _ _ _ _ q s1 (.bl _) e1
theorem de_not (ha : DE X a ta) : DE X (.UnaryOp .Not a pos) (dNotV ta) := by
  refine ⟨(pe_not ha.run).of fun σ H Q ⟨env, S, R, rs, h, k⟩ => ⟨env, S, _, rs, h, fun d S1 v H1 ⟨c, z, q⟩ s1 r1 e1 => ?_⟩⟩
  subst z
  cases r1
  exact ⟨c, rfl, k _ _ _ _ q s1 (.bl _) e1⟩
def dIf (t : DTT) (ta tb : DTE) : DTE := fun env S R => t env S fun c S1 => if c = true then ta env S1 R else tb env S1 R
theorem de_ifExp (hc : DT X c t) (ha : DE X a ta) (hb : DE X b tb) : DE X (.IfExp c a b pos) (dIf t ta tb) := by
  refine ⟨(pe_ifExp hc.run ha.run hb.run).of fun σ H Q ⟨env, S, R, rs, h, k⟩ => ⟨env, S, _, rs, h, fun c S1 H1 q s1 e1 => ?_⟩⟩
  cases c with
  | true => exact ⟨env, S1, R, rs.ext e1 s1, q, fun c S2 v H2 q s2 r2 e2 => k _ _ _ _ q s2 r2 (e1.trans e2)⟩
  | false => exact ⟨env, S1, R, rs.ext e1 s1, q, fun c S2 v H2 q s2 r2 e2 => k _ _ _ _ q s2 r2 (e1.trans e2)⟩
/-- an operator of one value -/
abbrev DR1 := D → Sto → DK → Prop
def l1 (K : KK) (r : DR1) : V → Hp → VK → Prop := fun x H Q => ∃ d S R, RD K H d x ∧ RelS K S H ∧ r d S R ∧ ∀ z S' v H', R z S' → RelS K S' H' → RD K H' z v → Ext H H' → Q v H'
def dUn (r : DR1) (ta : DTE) : DTE := fun env S R => ta env S fun x S1 => r x S1 R
theorem l1_un {K : KK} {r : DR1} {σ : L2.St} {H : Hp} {Q : VK} (h : lE K (dUn r ta) σ H Q) : lE K ta σ H (fun x H1 => l1 K r x H1 Q) := by
  obtain ⟨env, S, R, rs, h, k⟩ := h
  exact ⟨env, S, _, rs, h, fun d S1 v H1 q s1 r1 e1 => ⟨d, S1, R, r1, s1, q, fun z S2 w H2 q2 s2 r2 e2 => k _ _ _ _ q2 s2 r2 (e1.trans e2)⟩⟩
theorem de_un {op : UnaryOp} {r : DR1} (ho : UnR X (unaryOp op) (l1 X.kk r)) (ha : DE X a ta) : DE X (.UnaryOp op a pos) (dUn r ta) := ⟨(pe_un ho ha.run).of fun _ _ _ => l1_un⟩
def isNon : D → Bool
  | .non => true
  | _ => false
def dIsN (ta : DTE) : DTE := dUn (fun d S R => R (.bl (isNon d)) S) ta
def dNotN (ta : DTE) : DTE := dUn (fun d S R => R (.bl (!isNon d)) S) ta
theorem rd_non {K : KK} {H : Hp} {d : D} {v : V} (r : RD K H d v) : decide (v = .non) = isNon d := by cases r <;> rfl
theorem lE_isN {K : KK} {σ : L2.St} {H : Hp} {Q : VK} (h : lE K (dIsN ta) σ H Q) : tIsN (lE K ta) σ H Q := by
  obtain ⟨env, S, R, rs, h, k⟩ := h
  refine ⟨env, S, _, rs, h, fun d S1 v H1 q s1 r1 e1 => ?_⟩
  show Q (.bl (decide (v = .non))) H1
  rw [rd_non r1]
  exact k _ _ _ _ q s1 (.bl _) e1
theorem lE_notN {K : KK} {σ : L2.St} {H : Hp} {Q : VK} (h : lE K (dNotN ta) σ H Q) : tNotN (lE K ta) σ H Q := by
  obtain ⟨env, S, R, rs, h, k⟩ := h
  refine ⟨env, S, _, rs, h, fun d S1 v H1 q s1 r1 e1 => ?_⟩
  show Q (.bl (!decide (v = .non))) H1
  rw [rd_non r1]
  exact k _ _ _ _ q s1 (.bl _) e1
theorem de_isN {j pos'} (ha : DE X a ta) : DE X (.Compare a [.Is] [.Constant .none j pos'] pos) (dIsN ta) := ⟨(pe_cmp (pc_isN ha.run)).of fun _ _ _ => lE_isN⟩
theorem de_notN {j pos'} (ha : DE X a ta) : DE X (.Compare a [.IsNot] [.Constant .none j pos'] pos) (dNotN ta) := ⟨(pe_cmp (pc_notN ha.run)).of fun _ _ _ => lE_notN⟩
theorem dt_isN {j pos'} (ha : DE X a ta) : DT X (.Compare a [.Is] [.Constant .none j pos'] pos) (dB (dIsN ta)) := ⟨(pt_cmp (pc_isN ha.run)).of fun _ _ _ h => by
  obtain ⟨env, S, R, rs, h, k⟩ := lT_b h
  exact lE_isN ⟨env, S, R, rs, h, k⟩⟩
theorem dt_notN {j pos'} (ha : DE X a ta) : DT X (.Compare a [.IsNot] [.Constant .none j pos'] pos) (dB (dNotN ta)) := ⟨(pt_cmp (pc_notN ha.run)).of fun _ _ _ h => by
  obtain ⟨env, S, R, rs, h, k⟩ := lT_b h
  exact lE_notN ⟨env, S, R, rs, h, k⟩⟩

/-! ### arguments, displays -/
def dNil : DTA := fun _ S R => R [] S
def dCons (ta : DTE) (tr : DTA) : DTA := fun env S R => ta env S fun x S1 => tr env S1 fun xs S2 => R (x :: xs) S2
theorem da_nil : DA X [] dNil := ⟨pa_nil.of fun σ H Q ⟨env, S, R, rs, q, k⟩ => k _ _ _ _ q rs.sto .nil (.refl H)⟩
theorem da_cons (ha : DE X e ta) (hr : DA X es tl) (hs : starEach (e :: es) X.env = (false, eval e X.env) :: starEach es X.env := by rfl) : DA X (e :: es) (dCons ta tl) :=
  ⟨(pa_cons ha.run hr.run hs).of fun σ H Q ⟨env, S, R, rs, h, k⟩ => ⟨env, S, _, rs, h, fun d S1 v H1 q s1 r1 e1 => ⟨env, S1, _, rs.ext e1 s1, q, fun ds S2 vs H2 q2 s2 r2 e2 => k _ _ _ _ q2 s2 (.cons (r1.ext e2) r2) (e1.trans e2)⟩⟩⟩
theorem sz1000 {α : Type} {xs : List α} (h : decide (xs.length ≤ 1000) = true) : xs.length ≤ sizeLine := Nat.le_trans (of_decide_eq_true h) (by decide)
def dTup (t : DTA) : DTE := fun env S R => t env S fun ds S1 => decide (ds.length ≤ 1000) = true ∧ R (.tup ds) S1
def dLst (t : DTA) : DTE := fun env S R => t env S fun ds S1 => decide (ds.length ≤ 1000) = true ∧ ∀ p, S1 p = none → R (.ref p) (S1.put p (.lst ds))
theorem de_tup {x1} (h : DA X es tl) : DE X (.Tuple es x1 pos) (dTup tl) := by
  refine ⟨(pe_tupF h.run).of fun σ H Q ⟨env, S, R, rs, h, k⟩ => ⟨env, S, _, rs, h, fun ds S1 vs H1 ⟨hz, q⟩ s1 r1 e1 => ⟨?_, fun p o np ho => ?_⟩⟩⟩
  · rw [← r1.length]
    exact sz1000 hz
  · exact k _ _ _ _ q (s1.new np) (.tup (.new ho) (r1.ext (.new np))) (e1.trans (.new np))
theorem de_lst (h : DA X es tl) : DE X (.List es pos) (dLst tl) := by
  refine ⟨(pe_lst h.run).of fun σ H Q ⟨env, S, R, rs, h, k⟩ => ⟨env, S, _, rs, h, fun ds S1 vs H1 ⟨hz, q⟩ s1 r1 e1 => ⟨?_, fun p np => ?_⟩⟩⟩
  · rw [← r1.length]
    exact sz1000 hz
  · exact k _ _ _ _ (q p (s1.fresh np)) (s1.lay np ⟨_, upd_same, r1.ext (.new np)⟩) (.ref p) (e1.trans (.new np))

/-! ### calls -/
abbrev DRC := List D → Sto → DK → Prop
def lC (K : KK) (r : DRC) : List V → Hp → VK → Prop := fun vs H Q => ∃ ds S R, RDs K H ds vs ∧ RelS K S H ∧ r ds S R ∧ ∀ z S' v H', R z S' → RelS K S' H' → RD K H' z v → Ext H H' → Q v H'
def dCB (r : DRC) (t : DTA) : DTE := fun env S R => t env S fun ds S1 => r ds S1 R
theorem lC_of {K : KK} {r : DRC} {σ : L2.St} {H : Hp} {Q : VK} (h : lE K (dCB r tl) σ H Q) : lA K tl σ H (fun vs H1 => lC K r vs H1 Q) := by
  obtain ⟨env, S, R, rs, h, k⟩ := h
  exact ⟨env, S, _, rs, h, fun ds S1 vs H1 q s1 r1 e1 => ⟨ds, S1, R, r1, s1, q, fun z S2 w H2 q2 s2 r2 e2 => k _ _ _ _ q2 s2 r2 (e1.trans e2)⟩⟩
theorem de_callB {r : DRC} {id : String} {x : Str} {p : Pos} (hc : CallR X (.builtin id) (lC X.kk r)) (hg : Gl X x) (hm : X.mg x = none) (hv : bootBuiltins x = some (.builtin id)) (ha : DA X (e :: es) tl) (hn : x ≠ "__name__" := by decide) (hdb : (x == ("__debug__" : Str)) = false := by decide)
    (he : starEach (e :: es) X.env = (false, eval e X.env) :: starEach es X.env := by rfl) (hpl : (backTo pos (starEach es X.env)).any (·.1) = false := by rfl) : DE X (.Call (.Name x p) (e :: es) [] pos) (dCB r tl) :=
  ⟨(pe_callB hc hg hm hv ha.run hn hdb he hpl).of fun _ _ _ => lC_of⟩
theorem de_callTy {r : DRC} {T : String} {x : Str} {p : Pos} (hc : CallR X (.type T) (lC X.kk r)) (hg : Gl X x) (hm : X.mg x = none) (hv : bootBuiltins x = some (.type T)) (ha : DA X (e :: es) tl) (hn : x ≠ "__name__" := by decide) (hdb : (x == ("__debug__" : Str)) = false := by decide)
    (he : starEach (e :: es) X.env = (false, eval e X.env) :: starEach es X.env := by rfl) (hpl : (backTo pos (starEach es X.env)).any (·.1) = false := by rfl) : DE X (.Call (.Name x p) (e :: es) [] pos) (dCB r tl) :=
  ⟨(pe_callTy hc hg hm hv ha.run hn hdb he hpl).of fun _ _ _ => lC_of⟩
/-- a def's promise over data: n arguments -/
def lP (K : KK) (n : Nat) (r : DRC) : Sp := fun vs H Q _ => vs.length = n ∧ lC K r vs H Q
structure DFn (P : Program) (w : World) (K : PySem.W.Frag) (mg : Str → Option Value) (base : Heap) (k : Nat) (x : Str) (n : Nat) (r : DRC) : Prop where
  ex : ∃ (f : Addr) (fd : FuncData) (ps : List Str), FnG P w K mg base k f fd ps (lP ⟨P, w, K⟩ n r) ∧ mg x = some (.ref f) ∧ PySem.W.keepIn K (.ref f) = true ∧ Binds K fd ps []
def dCall (n : Nat) (r : DRC) (t : DTA) : DTE := dCB (fun ds S R => decide (ds.length = n) = true ∧ r ds S R) t
theorem de_call {k n : Nat} {r : DRC} {x : Str} {p : Pos} (F : DFn X.prog X.w X.K X.mg X.base k x n r) (hgd : X.A.guards = some []) (hr : Room k X.A) (hg : Gl X x) (ha : DA X (e :: es) tl) (hdb : (x == ("__debug__" : Str)) = false := by decide)
    (he : starEach (e :: es) X.env = (false, eval e X.env) :: starEach es X.env := by rfl) (hpl : (backTo pos (starEach es X.env)).any (·.1) = false := by rfl) : DE X (.Call (.Name x p) (e :: es) [] pos) (dCall n r tl) := by
  obtain ⟨f, fd, ps, F, hm, hk, hb⟩ := F.ex
  refine ⟨(pe_callG F hgd hr hg hm hk hb .nil (E := fun _ _ _ => False) pass0 ha.run hdb he hpl).of fun σ H Q h => ?_⟩
  obtain ⟨env, S, R, rs, h, k⟩ := lC_of h
  refine ⟨env, S, R, rs, h, fun ds S1 vs H1 q s1 r1 e1 => ?_⟩
  obtain ⟨ds', S', R', r', s', ⟨hl, q'⟩, k'⟩ := k ds S1 vs H1 q s1 r1 e1
  rw [List.append_nil]
  exact ⟨by rw [← r'.length]; exact of_decide_eq_true hl, ds', S', R', r', s', q', k'⟩

/-- the same of a def that makes no text (whatever runs around) -/
structure DFo (P : Program) (w : World) (K : PySem.W.Frag) (mg : Str → Option Value) (base : Heap) (k : Nat) (x : Str) (n : Nat) (r : DRC) : Prop where
  ex : ∃ (f : Addr) (fd : FuncData) (ps : List Str), FnOk P w K mg base CX0 k f fd ps (lP ⟨P, w, K⟩ n r) ∧ mg x = some (.ref f) ∧ PySem.W.keepIn K (.ref f) = true ∧ Binds K fd ps []
theorem de_callo {k n : Nat} {r : DRC} {x : Str} {p : Pos} (F : DFo X.prog X.w X.K X.mg X.base k x n r) (hr : Room k X.A) (hg : Gl X x) (ha : DA X (e :: es) tl) (hdb : (x == ("__debug__" : Str)) = false := by decide)
    (he : starEach (e :: es) X.env = (false, eval e X.env) :: starEach es X.env := by rfl) (hpl : (backTo pos (starEach es X.env)).any (·.1) = false := by rfl) : DE X (.Call (.Name x p) (e :: es) [] pos) (dCall n r tl) := by
  obtain ⟨f, fd, ps, F, hm, hk, hb⟩ := F.ex
  refine ⟨(pe_call F hr hg hm hk hb .nil (E := fun _ _ _ => False) pass0 ha.run hdb he hpl).of fun σ H Q h => ?_⟩
  obtain ⟨env, S, R, rs, h, k⟩ := lC_of h
  refine ⟨env, S, R, rs, h, fun ds S1 vs H1 q s1 r1 e1 => ?_⟩
  obtain ⟨ds', S', R', r', s', ⟨hl, q'⟩, k'⟩ := k ds S1 vs H1 q s1 r1 e1
  rw [List.append_nil]
  exact ⟨by rw [← r'.length]; exact of_decide_eq_true hl, ds', S', R', r', s', q', k'⟩
/-- .. of a def with a star: its values behind one another -/
structure DFs (P : Program) (w : World) (K : PySem.W.Frag) (mg : Str → Option Value) (base : Heap) (k : Nat) (x : Str) (r : DRC) : Prop where
  ex : ∃ f : Addr, FnR P w K mg base CX0 k f (fun vs H Q _ => lC ⟨P, w, K⟩ r vs H Q) ∧ mg x = some (.ref f) ∧ PySem.W.keepIn K (.ref f) = true
theorem de_callS {k : Nat} {r : DRC} {x : Str} {p : Pos} (F : DFs X.prog X.w X.K X.mg X.base k x r) (hr : Room k X.A) (hg : Gl X x) (ha : DA X (e :: es) tl) (hdb : (x == ("__debug__" : Str)) = false := by decide)
    (he : starEach (e :: es) X.env = (false, eval e X.env) :: starEach es X.env := by rfl) (hpl : (backTo pos (starEach es X.env)).any (·.1) = false := by rfl) : DE X (.Call (.Name x p) (e :: es) [] pos) (dCB r tl) := by
  obtain ⟨f, F, hm, hk⟩ := F.ex
  exact ⟨(pe_callN F hr hk hg hm (E := fun _ _ _ => False) pass0 ha.run hdb he hpl).of fun σ H Q h => lC_of h⟩
/-- f(e, .., *y) -/
theorem de_callS2 {k : Nat} {r : DRC} {x : Str} {p : Pos} (F : DFs X.prog X.w X.K X.mg X.base k x r) (hr : Room k X.A) (hg : Gl X x) (ha : DA X (e :: es) tl) (hdb : (x == ("__debug__" : Str)) = false := by decide)
    (he : starEach (e :: es) X.env = (false, eval e X.env) :: starEach es X.env := by rfl) (hst : (backTo pos (starEach es X.env)).any (·.1) = true := by rfl) : DE X (.Call (.Name x p) (e :: es) [] pos) (dCB r tl) := by
  obtain ⟨f, F, hm, hk⟩ := F.ex
  exact ⟨(StX.pe_callS2 F hr hk hg hm (E := fun _ _ _ => False) pass0 ha.run hdb he hst).of fun σ H Q h => lC_of h⟩
/-! ### a method of a built-in type, by values -/
abbrev DRM := D → List D → Sto → DK → Prop
def lM (K : KK) (r : DRM) : V → List V → Hp → VK → Prop := fun x vs H Q => ∃ d ds S R, RD K H d x ∧ RDs K H ds vs ∧ RelS K S H ∧ r d ds S R ∧ ∀ z S' v H', R z S' → RelS K S' H' → RD K H' z v → Ext H H' → Q v H'
def dMt (r : DRM) (to : DTE) (t : DTA) : DTE := fun env S R => to env S fun x S1 => t env S1 fun ds S2 => r x ds S2 R
end

/-! ### statements -/
section
variable {X : Cx} {st : Stmt} {rest : List Stmt} {t u : DTS} {e : Expr} {te : DTE} {pos : Pos}
def dNext : DTS := fun C env S => C.nx env S
def dSeq (t u : DTS) : DTS := fun C env S => t { C with nx := u C } env S
theorem dss_nil : DSs X [] dNext := ⟨pss_nil.of fun σ H B ⟨env, S, C, rs, q, k, _⟩ => k _ _ _ _ q rs (.refl H)⟩
theorem lS_seq {K : KK} {σ : L2.St} {H : Hp} {B : Ends} (h : lS K (dSeq t u) B σ H) : tSeq (lS K t) (lS K u) B σ H := by
  obtain ⟨env, S, C, rs, h, k1, k2, k3, k4⟩ := h
  refine ⟨env, S, _, rs, h, fun env1 S1 σ1 H1 q r1 e1 => ⟨env1, S1, C, r1, q, ?_, ?_, ?_, ?_⟩, k2, k3, k4⟩
  · exact fun env2 S2 σ2 H2 q2 r2 e2 => k1 _ _ _ _ q2 r2 (e1.trans e2)
  · exact fun d S2 v H2 q2 s2 r2 e2 => k2 _ _ _ _ q2 s2 r2 (e1.trans e2)
  · exact fun env2 S2 σ2 H2 q2 r2 e2 => k3 _ _ _ _ q2 r2 (e1.trans e2)
  · exact fun env2 S2 σ2 H2 q2 r2 e2 => k4 _ _ _ _ q2 r2 (e1.trans e2)
theorem dss_cons (h1 : DS X st t) (h2 : DSs X rest u) : DSs X (st :: rest) (dSeq t u) := ⟨(pss_cons h1.run h2.run).of fun _ _ _ => lS_seq⟩
theorem dss_one (h1 : DS X st t) : DSs X [st] t := ⟨pss_one h1.run⟩
def dBreak : DTS := fun C env S => C.bk env S
def dCont : DTS := fun C env S => C.ct env S
theorem ds_pass : DS X (.Pass pos) dNext := ⟨ps_pass.of fun σ H B ⟨env, S, C, rs, q, k, _⟩ => k _ _ _ _ q rs (.refl H)⟩
theorem ds_break : DS X (.Break pos) dBreak := ⟨ps_break.of fun σ H B ⟨env, S, C, rs, q, _, _, k, _⟩ => k _ _ _ _ q rs (.refl H)⟩
theorem ds_continue : DS X (.Continue pos) dCont := ⟨ps_continue.of fun σ H B ⟨env, S, C, rs, q, _, _, _, k⟩ => k _ _ _ _ q rs (.refl H)⟩
theorem ds_doc {x j pos pos'} : DS X (.Expr (.Constant (.str x) j pos) pos') dNext := ⟨ps_doc.of fun σ H B ⟨env, S, C, rs, q, k, _⟩ => k _ _ _ _ q rs (.refl H)⟩
def dDrop (te : DTE) : DTS := fun C env S => te env S fun _ S1 => C.nx env S1
theorem ds_expr (he : DE X e te) (hs : swapsWith e none pos.line X.env = pure false := by rfl) : DS X (.Expr e pos) (dDrop te) :=
  ⟨(ps_expr he.run hs).of fun σ H B ⟨env, S, C, rs, h, k, _⟩ => ⟨env, S, _, rs, h, fun d S1 v H1 q s1 r1 e1 => k _ _ _ _ q (rs.ext e1 s1) e1⟩⟩
def dRet (te : DTE) : DTS := fun C env S => te env S C.rt
theorem ds_ret (he : DE X e te) : DS X (.Return (some e) pos) (dRet te) :=
  ⟨(ps_ret he.run).of fun σ H B ⟨env, S, C, rs, h, _, k, _⟩ => ⟨env, S, _, rs, h, fun d S1 v H1 q s1 r1 e1 => k _ _ _ _ q s1 r1 e1⟩⟩
def dRetN : DTS := fun C _ S => C.rt .non S
theorem ds_retN : DS X (.Return none pos) dRetN := ⟨ps_retN.of fun σ H B ⟨env, S, C, rs, q, _, k, _⟩ => k _ _ _ _ q rs.sto .non (.refl H)⟩
/-- ways behind a first step -/
theorem lS_go {K : KK} {σ : L2.St} {H H1 : Hp} {B : Ends} {C : DEnds} {env : Env} {S1 : Sto} (rs : RS K σ H1 env S1) (e1 : Ext H H1) (q : t C env S1)
    (k : (∀ env' S' σ' H', C.nx env' S' → RS K σ' H' env' S' → Ext H H' → B.nx σ' H') ∧ (∀ d S' v H', C.rt d S' → RelS K S' H' → RD K H' d v → Ext H H' → B.rt v H') ∧
      (∀ env' S' σ' H', C.bk env' S' → RS K σ' H' env' S' → Ext H H' → B.bk σ' H') ∧ (∀ env' S' σ' H', C.ct env' S' → RS K σ' H' env' S' → Ext H H' → B.ct σ' H')) : lS K t B σ H1 :=
  ⟨env, S1, C, rs, q, fun _ _ _ _ q r e => k.1 _ _ _ _ q r (e1.trans e), fun _ _ _ _ q s r e => k.2.1 _ _ _ _ q s r (e1.trans e), fun _ _ _ _ q r e => k.2.2.1 _ _ _ _ q r (e1.trans e), fun _ _ _ _ q r e => k.2.2.2 _ _ _ _ q r (e1.trans e)⟩
def dIfS (c : DTT) (t u : DTS) : DTS := fun C env S => c env S fun b S1 => if b = true then t C env S1 else u C env S1
theorem ds_if {c : Expr} {a b : List Stmt} {tc : DTT} (hc : DT X c tc) (ha : DSs X a t) (hb : DSs X b u) : DS X (.If c a b pos) (dIfS tc t u) := by
  refine ⟨(ps_if hc.run ha.run hb.run).of fun σ H B ⟨env, S, C, rs, h, k⟩ => ⟨env, S, _, rs, h, fun c S1 H1 q s1 e1 => ?_⟩⟩
  cases c with
  | true => exact lS_go (rs.ext e1 s1) e1 q k
  | false => exact lS_go (rs.ext e1 s1) e1 q k

/-! ### targets -/
def RDw (K : KK) (b : Bool) (H : Hp) (d : D) (v : V) : Prop := RD K H d v ∨ (b = false ∧ ∃ a ds vs, d = .tup ds ∧ v = .ref a ∧ SqT K.k H a vs ∧ RDs K H ds vs)
abbrev DTG := D → Env → Sto → (Env → Sto → Prop) → Prop
abbrev DTGs := List D → Env → Sto → (Env → Sto → Prop) → Prop
def Off (vs : List Nat) (σ σ' : L2.St) : Prop := σ'.length = σ.length ∧ ∀ i, i ∉ vs → σ'[i]? = σ[i]?
theorem Off.refl (vs : List Nat) (σ : L2.St) : Off vs σ σ := ⟨rfl, fun _ _ => rfl⟩
theorem Off.trans {vs : List Nat} {σ σ1 σ2 : L2.St} (x : Off vs σ σ1) (y : Off vs σ1 σ2) : Off vs σ σ2 := ⟨y.1.trans x.1, fun i h => (y.2 i h).trans (x.2 i h)⟩
theorem Off.mono {vs us : List Nat} {σ σ' : L2.St} (x : Off vs σ σ') (h : ∀ i ∈ vs, i ∈ us) : Off us σ σ' := ⟨x.1, fun i hi => x.2 i fun z => hi (h i z)⟩
def lG (K : KK) (b : Bool) (vs : List Nat) (g : DTG) : TG := fun v σ H Q => ∃ d env S R, RDw K b H d v ∧ RS K σ H env S ∧ g d env S R ∧ ∀ env' S' σ' H', R env' S' → RS K σ' H' env' S' → Ext H H' → Off vs σ σ' → Q σ' H'
def lGs (K : KK) (vs : List Nat) (g : DTGs) : TGs := fun us σ H Q => ∃ ds env S R, RDs K H ds us ∧ RS K σ H env S ∧ g ds env S R ∧ ∀ env' S' σ' H', R env' S' → RS K σ' H' env' S' → Ext H H' → Off vs σ σ' → Q σ' H'
structure DG (X : Cx) (b : Bool) (vs : List Nat) (tg : Expr) (g : DTG) : Prop where
  run : PG X tg (lG X.kk b vs g)
structure DGs (X : Cx) (vs : List Nat) (ts : List Expr) (g : DTGs) : Prop where
  run : PGs X ts (lGs X.kk vs g)
theorem _root_.L2.PG.of {tg : Expr} {t t' : TG} (h : PG X tg t) (q : ∀ v σ H Q, t' v σ H Q → t v σ H Q) : PG X tg t' := ⟨fun pins s σ H v u Q I r w => h.run pins s σ H v u Q I r (q v σ H Q w)⟩
theorem _root_.L2.PG.or {tg : Expr} {t t' : TG} (h : PG X tg t) (h' : PG X tg t') : PG X tg (fun v σ H Q => t v σ H Q ∨ t' v σ H Q) := ⟨fun pins s σ H v u Q I r w => w.elim (h.run pins s σ H v u Q I r) (h'.run pins s σ H v u Q I r)⟩
theorem _root_.L2.PGs.of {ts : List Expr} {t t' : TGs} (h : PGs X ts t) (q : ∀ v σ H Q, t' v σ H Q → t v σ H Q) : PGs X ts t' := ⟨fun pins s σ H v u Q I r w => h.run pins s σ H v u Q I r (q v σ H Q w)⟩
def dgName (i : Nat) : DTG := fun d env S R => R (env.set i (some d)) S
theorem dg_name {i : Nat} {x : Str} (hN : X.N.Nodup) (hi : X.N[i]? = some x) (hx : Loc X.env.scope x) (hf : X.fn x = true ∨ X.env.scope.names.lookup x = some .local := by first | exact .inl rfl | exact .inr rfl | assumption) : DG X true [i] (.Name x pos) (dgName i) := by
  refine ⟨(pg_name hN hi hx hf).of fun v σ H Q ⟨d, env, S, R, rw', rs, q, k⟩ => ?_⟩
  rcases rw' with r | ⟨z, _⟩
  · exact k _ _ _ _ q (rs.set i r) (.refl H) ⟨List.length_set, fun j hj => List.getElem?_set_ne fun z => hj (by rw [z]; exact List.mem_singleton_self _)⟩
  · cases z
def dgNil : DTGs := fun ds env S R => ds = [] ∧ R env S
def dgCons (g : DTG) (gs : DTGs) : DTGs := fun ds env S R => ∃ d r, ds = d :: r ∧ g d env S fun env' S' => gs r env' S' R
theorem dgs_nil : DGs X [] [] dgNil := ⟨pgs_nil.of fun us σ H Q ⟨ds, env, S, R, r, rs, ⟨e, q⟩, k⟩ => by
  subst e
  cases r
  exact ⟨rfl, k _ _ _ _ q rs (.refl H) (.refl _ _)⟩⟩
theorem dgs_cons {e : Expr} {es : List Expr} {vs us : List Nat} {g : DTG} {gs : DTGs} (h1 : DG X true vs e g) (h2 : DGs X us es gs)
    (hs : (assignEach (e :: es) X.env).map (·.2) = assign e X.env :: (assignEach es X.env).map (·.2) := by rfl) : DGs X (vs ++ us) (e :: es) (dgCons g gs) := by
  refine ⟨(pgs_cons h1.run h2.run hs).of fun ws σ H Q ⟨ds, env, S, R, r, rs, ⟨d, r', e, q⟩, k⟩ => ?_⟩
  subst e
  cases r with
  | cons r1 rr =>
    refine ⟨_, _, rfl, d, env, S, _, .inl r1, rs, q, fun env1 S1 σ1 H1 q1 rs1 e1 o1 => ⟨r', env1, S1, R, rr.ext e1, rs1, q1, fun env2 S2 σ2 H2 q2 rs2 e2 o2 => ?_⟩⟩
    exact k _ _ _ _ q2 rs2 (e1.trans e2) ((o1.mono fun i h => List.mem_append_left _ h).trans (o2.mono fun i h => List.mem_append_right _ h))
/-- the items of a tuple or of a list -/
def dUnp (n : Nat) (gs : DTGs) : DTG := fun d env S R => ∃ ds, ds.length = n ∧ ((d = .tup ds ∨ d = .wtup ds) ∨ ∃ a, d = .ref a ∧ S a = some (.lst ds)) ∧ gs ds env S R
theorem dg_tup {es : List Expr} {k n : Nat} {b : Bool} {vs : List Nat} {gs : DTGs} (hc : X.calm = true) (h : DGs X vs es gs)
    (hn : (assignEach es X.env).length = n := by rfl) (hst : (assignEach es X.env).findIdx? (·.1) = none := by rfl) : DG X b vs (.Tuple es k pos) (dUnp n gs) := by
  refine ⟨((pg_tup hc h.run hn hst).or (pg_unl hc h.run hn hst)).of fun v σ H Q ⟨d, env, S, R, r, rs, ⟨ds, hl, e, q⟩, k⟩ => ?_⟩
  rcases e with (rfl | rfl) | ⟨a, rfl, e⟩
  · rcases r with r | ⟨_, a, ds', vs', z, rfl, ht, r⟩
    · cases r with
      | tup ht r => exact .inl ⟨_, _, rfl, ht.sqT, r.length.symm.trans hl, ds, env, S, R, r, rs, q, k⟩
    · cases z
      exact .inl ⟨a, vs', rfl, ht, r.length.symm.trans hl, ds, env, S, R, r, rs, q, k⟩
  · rcases r with r | ⟨_, a, ds', vs', z, rfl, ht, r⟩
    · cases r with
      | wtup ht r => exact .inl ⟨_, _, rfl, .of ht, r.length.symm.trans hl, ds, env, S, R, r, rs, q, k⟩
    · cases z
  · rcases r with r | ⟨_, a, ds', vs', z, rfl, ht, r⟩
    · cases r
      obtain ⟨vs', h1, r⟩ := rs.sto.lst e
      exact .inr ⟨_, _, rfl, .of h1, r.length.symm.trans hl, ds, env, S, R, r, rs, q, k⟩
    · cases z
/-- target = e -/
def dAsg (te : DTE) (g : DTG) : DTS := fun C env S => te env S fun d S1 => g d env S1 C.nx
theorem lS_asg {K : KK} {b : Bool} {vs : List Nat} {g : DTG} {σ : L2.St} {H : Hp} {B : Ends} (h : lS K (dAsg te g) B σ H) : tAsg (lE K te) (lG K b vs g) B σ H := by
  obtain ⟨env, S, C, rs, h, k, _⟩ := h
  exact ⟨env, S, _, rs, h, fun d S1 v H1 q s1 r1 e1 => ⟨d, env, S1, C.nx, .inl r1, rs.ext e1 s1, q, fun _ _ _ _ q r e _ => k _ _ _ _ q r (e1.trans e)⟩⟩
theorem ds_asg {tg : Expr} {b : Bool} {vs : List Nat} {g : DTG} (he : DE X e te) (hg : DG X b vs tg g) (hs : swapsWithSole [tg] e pos.line X.env = pure false := by rfl) (hw : swappedStores [tg] e X.env = pure none := by rfl)
    (h1 : (assignEach [tg] X.env).map (·.2) = [assign tg X.env] := by rfl) : DS X (.Assign [tg] e pos) (dAsg te g) := ⟨(ps_asg he.run hg.run hs hw h1).of fun _ _ _ => lS_asg⟩
theorem ds_set {i : Nat} {x : Str} {pos' : Pos} (hN : X.N.Nodup) (hi : X.N[i]? = some x) (hx : Loc X.env.scope x) (he : DE X e te) (hs : swapsWith e (some (.Name x pos')) pos.line X.env = pure false := by rfl) (hf : X.fn x = true ∨ X.env.scope.names.lookup x = some .local := by first | exact .inl rfl | exact .inr rfl | assumption) :
    DS X (.Assign [.Name x pos'] e pos) (dAsg te (dgName i)) :=
  ⟨(ps_set hN hi hx he.run hs hf).of fun σ H B ⟨env, S, C, rs, h, k, _⟩ => ⟨env, S, _, rs, h, fun d S1 v H1 q s1 r1 e1 => k _ _ _ _ q ((rs.ext e1 s1).set i r1) e1⟩⟩
/-- two local names at once -/
theorem ds_par {i j : Nat} {x y : Str} {a b : Expr} {ta : DTA} {px py pt : Pos} {kt k2 pt2} (hc : X.calm = true) (hN : X.N.Nodup) (hi : X.N[i]? = some x) (hj : X.N[j]? = some y) (hij : i ≠ j)
    (hx : X.env.scope.names.lookup x = some .local) (hy : X.env.scope.names.lookup y = some .local) (ha : DA X [a, b] ta)
    (hw : swappedStores [.Tuple [.Name x px, .Name y py] kt pt] (.Tuple [a, b] k2 pt2) X.env = pure (some [x, y]))
    (hs : swapsWithSole [.Tuple [.Name x px, .Name y py] kt pt] (.Tuple [a, b] k2 pt2) pos.line X.env = pure false := by rfl) :
    DS X (.Assign [.Tuple [.Name x px, .Name y py] kt pt] (.Tuple [a, b] k2 pt2) pos) (dAsg (dTup ta) (dUnp 2 (dgCons (dgName i) (dgCons (dgName j) dgNil)))) := by
  refine ⟨(ps_par hc hN hi hj hij hx hy ha.run hw hs).of fun σ H B ⟨env, S, C, rs, h, k, _⟩ => ⟨env, S, _, rs, h, fun ds S1 vs H1 ⟨_, ds', hl, hd, q⟩ s1 r1 e1 => ?_⟩⟩
  have hdd : ds = ds' := by
    rcases hd with (z | z) | ⟨a, z, _⟩
    · cases z; rfl
    · cases z
    · cases z
  subst hdd
  obtain ⟨d1, r', rfl, d2, r'', rfl, rfl, q⟩ := q
  obtain ⟨v, u, rfl, rv, ru⟩ := r1.inv2
  exact ⟨v, u, rfl, k _ _ _ _ q (((rs.ext e1 s1).set i rv).set j ru) e1⟩
/-- name op= e -/
def dAug (i : Nat) (te : DTE) (r : DR2) : DTS := fun C env S => ∃ d, env[i]? = some (some d) ∧ te env S fun y S1 => r d y S1 fun z S2 => C.nx (env.set i (some z)) S2
theorem ds_aug {i : Nat} {x : Str} {op : Operator} {r : DR2} {pos' : Pos} (hN : X.N.Nodup) (hi : X.N[i]? = some x) (hx : Loc X.env.scope x) (ho : PIp X op (l2 X.kk r)) (he : DE X e te) (hf : X.fn x = true ∨ X.env.scope.names.lookup x = some .local := by first | exact .inl rfl | exact .inr rfl | assumption) :
    DS X (.AugAssign (.Name x pos') op e pos) (dAug i te r) := by
  refine ⟨(ps_aug hN hi hx he.run ho hf).of fun σ H B ⟨env, S, C, rs, ⟨d, hd, h⟩, k, _⟩ => ?_⟩
  obtain ⟨v, hv, rv⟩ := rs.slot i d hd
  exact ⟨v, hv, env, S, _, rs, h, fun y S1 u H1 q s1 r1 e1 => ⟨d, y, S1, _, rv.ext e1, r1, s1, q, fun z S2 w H2 q2 s2 r2 e2 => k _ _ _ _ q2 ((rs.ext (e1.trans e2) s2).set i r2) (e1.trans e2)⟩⟩
end

/-! ### while, for -/
section
variable {X : Cx} {pos : Pos}
def dWhile (c : DTT) (tb : DTS) : DTS := fun C env S => ∃ W : Nat → Env → Sto → Prop, (∃ m, W m env S) ∧ ∀ m env S, W m env S →
  c env S fun b S1 => if b = true then tb { C with nx := fun env' S' => ∃ m', m' < m ∧ W m' env' S', ct := fun env' S' => ∃ m', m' < m ∧ W m' env' S', bk := C.nx } env S1 else C.nx env S1
theorem ds_while {c : Expr} {body : List Stmt} {tc : DTT} {tb : DTS} (hp : PassesOwn (model X.prog X.w) X.A X.env X.xe) (hc : DT X c tc) (hb : DSs X body tb) : DS X (.While c body [] pos) (dWhile tc tb) := by
  refine ⟨(ps_while hp hc.run hb.run).of fun σ H B ⟨env, S, C, rs, ⟨W, ⟨m0, w0⟩, turn⟩, k1, k2, _⟩ => ?_⟩
  refine ⟨fun m σ' H' => ∃ env' S', RS X.kk σ' H' env' S' ∧ Ext H H' ∧ W m env' S', ⟨m0, env, S, rs, .refl H, w0⟩, ?_⟩
  rintro m σ1 H1 ⟨env1, S1, rs1, e1, w1⟩
  refine ⟨env1, S1, _, rs1, turn m env1 S1 w1, fun b S2 H2 q s2 e2 => ?_⟩
  cases b with
  | false => exact k1 _ _ _ _ q (rs1.ext e2 s2) (e1.trans e2)
  | true =>
    refine ⟨fun σ' H' => ∃ m', m' < m ∧ ∃ env' S', RS X.kk σ' H' env' S' ∧ Ext H H' ∧ W m' env' S', fun σ' H' h => h, env1, S2, _, rs1.ext e2 s2, q, ?_, ?_, ?_, ?_⟩
    · rintro env' S' σ' H' ⟨m', hm, w'⟩ rs' e'
      exact ⟨m', hm, env', S', rs', e1.trans (e2.trans e'), w'⟩
    · exact fun d S' v H' q' s' r' e' => k2 _ _ _ _ q' s' r' (e1.trans (e2.trans e'))
    · exact fun env' S' σ' H' q' r' e' => k1 _ _ _ _ q' r' (e1.trans (e2.trans e'))
    · rintro env' S' σ' H' ⟨m', hm, w'⟩ rs' e'
      exact ⟨m', hm, env', S', rs', e1.trans (e2.trans e'), w'⟩

/-- what is walked: its items, and what must hold of the store at each turn -/
structure Src where
  items : List D
  live : Sto → Prop := fun _ => True
abbrev DTI := Env → Sto → (Src → Sto → Prop) → Prop
structure Steps (K : KK) (b : Bool) (H0 : Hp) (J : It) (w : Src) : Prop where
  ex : ∃ (G : Hp → Prop) (Y : Nat → Hp → V → Hp → Prop), Walk J w.items.length G Y ∧ (∀ H S, Ext H0 H → RelS K S H → w.live S → G H) ∧
    ∀ i H x H', Ext H0 H → Y i H x H' → Ext H H' ∧ (∀ S, RelS K S H → RelS K S H') ∧ ∃ d, w.items[i]? = some d ∧ RDw K b H' d x
def lI (K : KK) (b : Bool) (t : DTI) : TI := fun σ H R => ∃ env S R0, RS K σ H env S ∧ t env S R0 ∧ ∀ w S' J H', R0 w S' → RelS K S' H' → Ext H H' → Steps K b H' J w → R J H'
structure DI (X : Cx) (b : Bool) (tg e : Expr) (t : DTI) : Prop where
  run : PI X tg e (lI X.kk b t)
theorem _root_.L2.PI.of {tg e : Expr} {t t' : TI} (h : PI X tg e t) (q : ∀ σ H R, t' σ H R → t σ H R) : PI X tg e t' := ⟨fun pins s σ H R I w => h.run pins s σ H R I (q σ H R w)⟩
theorem _root_.L2.PI.or {tg e : Expr} {t t' : TI} (h : PI X tg e t) (h' : PI X tg e t') : PI X tg e (fun σ H R => t σ H R ∨ t' σ H R) := ⟨fun pins s σ H R I w => w.elim (h.run pins s σ H R I) (h'.run pins s σ H R I)⟩
def dFor (ti : DTI) (g : DTG) (tb : DTS) : DTS := fun C env S => ti env S fun w S1 => ∃ Pv : Nat → Env → Sto → Prop, Pv 0 env S1 ∧ (∀ i env S, i ≤ w.items.length → Pv i env S → w.live S) ∧
  (∀ i d env S, w.items[i]? = some d → Pv i env S → g d env S fun env' S' => tb { C with nx := Pv (i + 1), ct := Pv (i + 1), bk := C.nx } env' S') ∧ ∀ env S, Pv w.items.length env S → C.nx env S
theorem ds_for {tg iter : Expr} {b : Bool} {vs : List Nat} {body : List Stmt} {ti : DTI} {g : DTG} {tb : DTS} (hp : PassesOwn (model X.prog X.w) X.A X.env X.xe) (hc : X.calm = true) (hi : DI X b tg iter ti) (hg : DG X b vs tg g) (hb : DSs X body tb)
    (hs : ∀ x, foldedSetIterable iter X.env x = pure x := by intro _; rfl) : DS X (.For tg iter body [] pos) (dFor ti g tb) := by
  refine ⟨(ps_for hp hc hi.run hg.run hb.run hs).of fun σ H B ⟨env, S, C, rs, h, k1, k2, _⟩ => ⟨env, S, _, rs, h, fun w S1 J H1 ⟨Pv, p0, lv, step, done⟩ s1 e1 st => ?_⟩⟩
  obtain ⟨G, Y, wk, hG, hY⟩ := st.ex
  refine for_it wk (fun i σ' H' => ∃ env' S', RS X.kk σ' H' env' S' ∧ Ext H1 H' ∧ Pv i env' S') ⟨env, S1, rs.ext e1 s1, .refl H1, p0⟩ (fun i σ' H' hi ⟨env', S', rs', e', p'⟩ => hG H' S' e' rs'.sto (lv i env' S' hi p')) ?_ ?_
  · rintro i x σ2 H2 H3 hi ⟨env2, S2, rs2, e2, p2⟩ y
    obtain ⟨e3, hS, d, hd, rd⟩ := hY i H2 x H3 e2 y
    refine ⟨d, env2, S2, _, rd, rs2.ext e3 (hS S2 rs2.sto), step i d env2 S2 hd p2, fun env4 S4 σ4 H4 q4 rs4 e4 _ => ⟨env4, S4, _, rs4, q4, ?_, ?_, ?_, ?_⟩⟩
    · exact fun env' S' σ' H' q' rs' e' => ⟨env', S', rs', e2.trans (e3.trans (e4.trans e')), q'⟩
    · exact fun d S' v H' q' s' r' e' => k2 _ _ _ _ q' s' r' (e1.trans (e2.trans (e3.trans (e4.trans e'))))
    · exact fun env' S' σ' H' q' rs' e' => k1 _ _ _ _ q' rs' (e1.trans (e2.trans (e3.trans (e4.trans e'))))
    · exact fun env' S' σ' H' q' rs' e' => ⟨env', S', rs', e2.trans (e3.trans (e4.trans e')), q'⟩
  · rintro σ2 H2 ⟨env2, S2, rs2, e2, p2⟩
    exact k1 _ _ _ _ (done env2 S2 p2) rs2 (e1.trans e2)
end
end Sv

/-! The data layer: what is walked, comprehensions. -/
namespace Sv
open PySem PySem.Spec PyProof.Rows L2
section
variable {X : Cx} {tg e : Expr} {te : DTE} {pos p : Pos}
/-- a tuple or a list, as it comes -/
def iVal (K : PySem.W.Frag) (tl : TE) : TI := fun σ H R => tl σ H fun x H1 => ∃ a, x = .ref a ∧ (((∃ xs, SqL K H1 a xs) ∧ R (Itl K a) H1) ∨ ((∃ xs, SqT K H1 a xs) ∧ R (Itt K a) H1))
theorem pi_val {l : Expr} {tl : TE} (hl : PE X l tl) : PI X tg l (iVal X.K tl) := by
  refine ⟨fun pins s σ H R I h => ?_⟩
  refine thn (hl.run pins s σ H _ I h) fun v s1 ⟨x, H1, I1, r1, q1⟩ => ?_
  obtain ⟨a, e, q⟩ := q1
  subst e
  cases r1
  rcases q with ⟨⟨xs, hq⟩, q⟩ | ⟨⟨xs, hq⟩, q⟩
  · obtain ⟨its, rv, p, hz⟩ := I1.list hq
    refine wpAny_pyIter_list p.isList ?_
    refine ⟨s1.heap.objs.size, [s1.heap.objs.size], _, _, H1, rfl, I1.kept (t' := s1.toks) fun b o e => Heap.get?_push_of_some _ e, turn_list a _, ⟨_, Heap.get?_push_size _ rfl, rfl, rfl⟩, fun b hb => ?_, q⟩
    have e : b = s1.heap.objs.size := by simpa using hb
    subst e
    exact I1.fpOk (Nat.le_refl _) (I1.hok.fresh (Nat.le_refl _))
  · obtain ⟨its, rv, p, hz⟩ := I1.tuple hq
    refine wpAny_pyIter_tuple (show s1.heap.IsTuple a its.toArray from p) ?_
    refine ⟨s1.heap.objs.size, [s1.heap.objs.size], _, _, H1, rfl, I1.kept (t' := s1.toks) fun b o e => Heap.get?_push_of_some _ e, turn_tuple a _, ⟨_, Heap.get?_push_size _ rfl, rfl, rfl⟩, fun b hb => ?_, q⟩
    have e : b = s1.heap.objs.size := by simpa using hb
    subst e
    exact I1.fpOk (Nat.le_refl _) (I1.hok.fresh (Nat.le_refl _))
/-- the items of a value, with what must stay -/
def Items (S : Sto) (d : D) (w : Src) : Prop := match d with
  | .tup ds => w = ⟨ds, fun _ => True⟩
  | .rol ds => w = ⟨ds, fun _ => True⟩
  | .wtup ds => w = ⟨ds, fun _ => True⟩
  | .ref a => ∃ ds, S a = some (.lst ds) ∧ w = ⟨ds, fun S' => S' a = some (.lst ds)⟩
  | _ => False
def diVal (te : DTE) : DTI := fun env S R => te env S fun d S1 => ∃ w, Items S1 d w ∧ R w S1
theorem steps_list {K : KK} {H0 : Hp} {a : Addr} {ds : List D} {lv : Sto → Prop} (h : ∀ H S, Ext H0 H → RelS K S H → lv S → ∃ vs, SqL K.k H a vs ∧ RDs K H ds vs) : Steps K true H0 (Itl K.k a) ⟨ds, lv⟩ := by
  refine ⟨fun H => ∃ vs, SqL K.k H a vs ∧ RDs K H ds vs, fun i H x H' => H' = H ∧ ∃ vs, RDs K H ds vs ∧ vs[i]? = some x, ⟨fun i H hi ⟨vs, h1, r⟩ => ?_, fun H ⟨vs, h1, r⟩ => ⟨vs, h1, by rw [← r.length]; exact Nat.le_refl _⟩, fun i H x H' hi ⟨vs, h1, r⟩ y => ⟨y.1, vs, r, y.2 vs h1⟩⟩, h, ?_⟩
  · have : i < vs.length := by rw [← r.length]; exact hi
    exact ⟨vs, vs[i], h1, by simp [this]⟩
  · rintro i H x H' e ⟨rfl, vs, r, hx⟩
    obtain ⟨d, h1, h2⟩ := r.atv hx
    exact ⟨.refl _, fun S s => s, d, h1, .inl h2⟩
theorem steps_tup {K : KK} {H0 : Hp} {a : Addr} {ds : List D} {vs : List V} (h : ∀ H, Ext H0 H → SqT K.k H a vs) (r : RDs K H0 ds vs) : Steps K true H0 (Itt K.k a) ⟨ds, fun _ => True⟩ := by
  refine ⟨fun H => SqT K.k H a vs, fun i H x H' => H' = H ∧ vs[i]? = some x, ?_, fun H S e _ _ => h H e, ?_⟩
  · have w := walk_tup (K := K.k) (a := a) (xs := vs)
    rw [← r.length] at w
    exact w
  · rintro i H x H' e ⟨rfl, hx⟩
    obtain ⟨d, h1, h2⟩ := (r.ext e).atv hx
    exact ⟨.refl _, fun S s => s, d, h1, .inl h2⟩
theorem di_val (he : DE X e te) : DI X true tg e (diVal te) := by
  refine ⟨(pi_val he.run).of fun σ H R ⟨env, S, R0, rs, h, k⟩ => ⟨env, S, _, rs, h, fun d S1 v H1 ⟨w, hw, q⟩ s1 r1 e1 => ?_⟩⟩
  cases r1 with
  | tup ht r =>
    cases (show w = ⟨_, _⟩ from hw)
    exact ⟨_, rfl, .inr ⟨⟨_, ht.sqT⟩, k _ _ _ _ q s1 e1 (steps_tup (fun H e => (ht.ext e).sqT) r)⟩⟩
  | wtup ht r =>
    cases (show w = ⟨_, _⟩ from hw)
    exact ⟨_, rfl, .inr ⟨⟨_, .of ht⟩, k _ _ _ _ q s1 e1 (steps_tup (fun H e => .of (e.2 _ _ ht)) r)⟩⟩
  | rol ht r =>
    cases (show w = ⟨_, _⟩ from hw)
    exact ⟨_, rfl, .inl ⟨⟨_, ht.sqL⟩, k _ _ _ _ q s1 e1 (steps_list fun H S e _ _ => ⟨_, (ht.ext e).sqL, r.ext e⟩)⟩⟩
  | ref a =>
    obtain ⟨ds, hs, rfl⟩ := hw
    obtain ⟨vs, h1, r⟩ := s1.lst hs
    refine ⟨_, rfl, .inl ⟨⟨_, .of h1⟩, k _ _ _ _ q s1 e1 (steps_list fun H S e s l => ?_)⟩⟩
    obtain ⟨vs', h2, r'⟩ := s.lst l
    exact ⟨vs', .of h2, r'⟩
  | _ => exact hw.elim
/-- range -/
def rgD (lo : Int) (n : Nat) : List D := (List.range n).map fun i => .int (lo + (i : Nat))
theorem steps_range {K : KK} {H0 : Hp} {lo : Int} {n : Nat} : Steps K true H0 (Itr lo n) ⟨rgD lo n, fun _ => True⟩ := by
  refine ⟨fun _ => True, fun i H x H' => i < n ∧ H' = H ∧ x = .int (lo + i), ?_, fun _ _ _ _ _ => trivial, ?_⟩
  · have w := walk_range (lo := lo) (n := n)
    have : (rgD lo n).length = n := by simp [rgD]
    rw [this]
    exact ⟨w.goes, w.stops, fun i H x H' hi g y => ⟨hi, w.yields i H x H' hi g y⟩⟩
  · rintro i H x H' e ⟨hi, rfl, rfl⟩
    refine ⟨.refl _, fun S s => s, .int (lo + i), ?_, .inl (.int _)⟩
    show (rgD lo n)[i]? = _
    rw [rgD, List.getElem?_map, List.getElem?_range hi]
    rfl
def diRg1 (ta : DTA) : DTI := fun env S R => ta env S fun ds S1 => ∃ n : Int, ds = [.int n] ∧ -(2 ^ 62) ≤ n ∧ n < 2 ^ 62 ∧ R ⟨rgD 0 n.toNat, fun _ => True⟩ S1
def diRg2 (ta : DTA) : DTI := fun env S R => ta env S fun ds S1 => ∃ m n : Int, ds = [.int m, .int n] ∧ (-(2 ^ 62) ≤ m ∧ m < 2 ^ 62 ∧ -(2 ^ 62) ≤ n ∧ n < 2 ^ 62) ∧ R ⟨rgD m (n - m).toNat, fun _ => True⟩ S1
theorem di_rg1 {ta : DTA} (hg : Gl X "range") (hm : X.mg "range" = none) (ha : DA X [e] ta) (hs : starEach [e] X.env = [(false, eval e X.env)] := by rfl) : DI X true tg (.Call (.Name "range" p) [e] [] pos) (diRg1 ta) := by
  refine ⟨(pi_range1 hg hm ha.run hs).of fun σ H R ⟨env, S, R0, rs, h, k⟩ => ⟨env, S, _, rs, h, fun ds S1 vs H1 q s1 r1 e1 => ?_⟩⟩
  obtain ⟨n, rfl, h1, h2, q⟩ := q
  obtain ⟨v, rfl, r⟩ := r1.inv1
  cases r
  exact ⟨n, rfl, h1, h2, k _ _ _ _ q s1 e1 steps_range⟩
theorem di_rg2 {e2 : Expr} {ta : DTA} (hg : Gl X "range") (hm : X.mg "range" = none) (ha : DA X [e, e2] ta) (hs : starEach [e, e2] X.env = [(false, eval e X.env), (false, eval e2 X.env)] := by rfl) (hs2 : starEach [e2] X.env = [(false, eval e2 X.env)] := by rfl) :
    DI X true tg (.Call (.Name "range" p) [e, e2] [] pos) (diRg2 ta) := by
  refine ⟨(pi_range2 hg hm ha.run hs hs2).of fun σ H R ⟨env, S, R0, rs, h, k⟩ => ⟨env, S, _, rs, h, fun ds S1 vs H1 q s1 r1 e1 => ?_⟩⟩
  obtain ⟨m, n, rfl, hb, q⟩ := q
  obtain ⟨v, u, rfl, r, r'⟩ := r1.inv2
  cases r
  cases r'
  exact ⟨m, n, rfl, hb, k _ _ _ _ q s1 e1 steps_range⟩
/-! ### pairs -/
theorem rdw_pair {K : KK} {H : Hp} {T : Addr} {d e : D} {x y : V} (n : H T = none) (r1 : RD K H d x) (r2 : RD K H e y) : RDw K false (upd H T (.tup [x, y])) (.tup [d, e]) (.ref T) :=
  .inr ⟨rfl, T, [d, e], [x, y], rfl, rfl, .of upd_same, .cons (r1.ext (.new n)) (.cons (r2.ext (.new n)) .nil)⟩
theorem steps_pair {K : KK} {H0 : Hp} {J : It} {n : Nat} {G : Hp → Prop} {xs ys : Nat → Option V} {ps : List D} {lv : Sto → Prop} (w : Walk J n G (YPair xs ys)) (hn : ps.length = n) (hG : ∀ H S, Ext H0 H → RelS K S H → lv S → G H)
    (hp : ∀ i H x y, i < n → Ext H0 H → G H → xs i = some x → ys i = some y → ∃ d e, ps[i]? = some (.tup [d, e]) ∧ RD K H d x ∧ RD K H e y) : Steps K false H0 J ⟨ps, lv⟩ := by
  subst hn
  refine ⟨G, fun i H x H' => i < ps.length ∧ G H ∧ YPair xs ys i H x H', ⟨w.goes, w.stops, fun i H x H' hi g y => ⟨hi, g, w.yields i H x H' hi g y⟩⟩, hG, ?_⟩
  rintro i H v H' e ⟨hi, g, T, x, y, rfl, nT, rfl, hx, hy⟩
  obtain ⟨d, d', h1, h2, h3⟩ := hp i H x y hi e g hx hy
  exact ⟨.new nT, fun S s => s.new nT, _, h1, rdw_pair nT h2 h3⟩
def enD (ds : List D) : List D := ds.mapIdx fun i d => .tup [.int (i : Nat), d]
theorem enD_at {ds : List D} {i : Nat} {d : D} (h : ds[i]? = some d) : (enD ds)[i]? = some (.tup [.int (i : Nat), d]) := by
  rw [enD, List.getElem?_mapIdx, h]
  rfl
theorem enD_len (ds : List D) : (enD ds).length = ds.length := by simp [enD]
/-- enumerate of a tuple or a list -/
def iEnumA (K : PySem.W.Frag) (ta : TA) : TI := fun σ H R => ta σ H fun vs H1 => ∃ a xs, vs = [.ref a] ∧ ((SqL K H1 a xs ∧ R (Ite K a) H1) ∨ (SqT K H1 a xs ∧ R (Itte K a xs) H1))
theorem pi_enumA {ta : TA} {elts : List Expr} {kk : Nat} {tpos : Pos} (hg : Gl X "enumerate") (hm : X.mg "enumerate" = none) (ha : PA X [e] ta)
    (hs : starEach [e] X.env = [(false, eval e X.env)] := by rfl) : PI X (.Tuple elts kk tpos) (.Call (.Name "enumerate" p) [e] [] pos) (iEnumA X.K ta) := by
  refine ⟨fun pins s σ H R I h => ?_⟩
  refine Call_ (ld_blt I hg hm boot_enumerate (PyProof.Rows.callWith_type1 (thn (ha.run pos pins s σ H _ I h) fun us s1 ⟨vs, H1, I1, r1, q1⟩ => ?_) hs rfl))
  obtain ⟨a, xs, rfl, q⟩ := q1
  obtain ⟨u, rfl, ru⟩ := vals1 r1
  cases ru
  rcases q with ⟨hq, q⟩ | ⟨hq, q⟩
  · obtain ⟨its, rv, p', hz⟩ := I1.list hq
    refine call_enumerate_list p'.isList fun h' he hit hsz hk => wpAny_pyIter_enum he ?_
    have I2 : Inv X pins σ H1 { s1 with heap := h' } := I1.kept (t' := s1.toks) hk
    refine ⟨s1.heap.objs.size + 1, [s1.heap.objs.size + 1, s1.heap.objs.size], _, _, H1, rfl, I2, turn_enum a (s1.heap.objs.size + 1) s1.heap.objs.size, ⟨⟨.none, he⟩, hit, Nat.succ_ne_self _⟩, fun b hb => ?_, q⟩
    have hle : s1.heap.objs.size ≤ b := by
      rcases (show b = s1.heap.objs.size + 1 ∨ b = s1.heap.objs.size by simpa using hb) with rfl | rfl
      · exact Nat.le_succ _
      · exact Nat.le_refl _
    exact I1.fpOk hle (I1.hok.fresh hle)
  · obtain ⟨its, rv, p', hz⟩ := I1.tuple hq
    have hal : a < s1.heap.objs.size := by
      obtain ⟨o, ho, _⟩ := id p'
      exact Heap.lt_size ho
    refine sv_enum_call (begins_tuple a its.toArray) p' fun h' he hit hk => wpAny_pyIter_enum he ?_
    have I2 : Inv X pins σ H1 { s1 with heap := h' } := I1.kept (t' := s1.toks) hk
    refine ⟨s1.heap.objs.size + 1, [s1.heap.objs.size + 1, s1.heap.objs.size], _, _, H1, rfl, I2, turn_etup a (s1.heap.objs.size + 1) s1.heap.objs.size xs,
      ⟨⟨.none, he⟩, ⟨_, hit, rfl, rfl⟩, Nat.succ_ne_self _, Nat.ne_of_lt hal, Nat.ne_of_lt (Nat.lt_succ_of_lt hal)⟩, fun b hb => ?_, q⟩
    have hle : s1.heap.objs.size ≤ b := by
      rcases (show b = s1.heap.objs.size + 1 ∨ b = s1.heap.objs.size by simpa using hb) with rfl | rfl
      · exact Nat.le_succ _
      · exact Nat.le_refl _
    exact I1.fpOk hle (I1.hok.fresh hle)
theorem walk_etup' {K : PySem.W.Frag} {a : Addr} {xs : List V} : Walk (Itte K a xs) xs.length (fun H => SqT K H a xs) (YPair (fun i => some (.int (i : Nat))) (fun i => xs[i]?)) :=
  ⟨fun _ _ hi q => ⟨q, hi⟩, fun _ q => ⟨q, rfl⟩, fun i H v H' _ q y => by
    obtain ⟨T, x, h1, h2, h3, h4⟩ := y
    exact ⟨T, .int (i : Nat), x, h1, h2, h3, rfl, h4⟩⟩
theorem steps_enumL {K : KK} {H0 : Hp} {a : Addr} {ds : List D} {lv : Sto → Prop} (h : ∀ H S, Ext H0 H → RelS K S H → lv S → ∃ vs, SqL K.k H a vs ∧ RDs K H ds vs) : Steps K false H0 (Ite K.k a) ⟨enD ds, lv⟩ := by
  refine ⟨fun H => ∃ vs, SqL K.k H a vs ∧ RDs K H ds vs, fun i H v H' => ∃ T x vs, v = .ref T ∧ H T = none ∧ H' = upd H T (.tup [.int (i : Nat), x]) ∧ RDs K H ds vs ∧ vs[i]? = some x, ⟨fun i H hi ⟨vs, h1, r⟩ => ?_, fun H ⟨vs, h1, r⟩ => ⟨vs, h1, ?_⟩, fun i H v H' hi ⟨vs, h1, r⟩ y => ?_⟩, h, ?_⟩
  · have : i < vs.length := by rw [← r.length, ← enD_len]; exact hi
    exact ⟨vs, vs[i], h1, by simp [this]⟩
  · show vs.length ≤ (enD ds).length
    rw [← r.length, enD_len]
    exact Nat.le_refl _
  · obtain ⟨T, x, h2, h3, h4, h5⟩ := y
    exact ⟨T, x, vs, h2, h3, h4, r, h5 vs h1⟩
  · rintro i H v H' e ⟨T, x, vs, rfl, nT, rfl, r, hx⟩
    obtain ⟨d, h1, h2⟩ := r.atv hx
    exact ⟨.new nT, fun S s => s.new nT, _, enD_at h1, rdw_pair nT (.int _) h2⟩
def diEnum (ta : DTA) : DTI := fun env S R => ta env S fun ds S1 => ∃ d w, ds = [d] ∧ Items S1 d w ∧ R ⟨enD w.items, w.live⟩ S1
theorem di_enum {ta : DTA} {elts : List Expr} {kk : Nat} {tpos : Pos} (hg : Gl X "enumerate") (hm : X.mg "enumerate" = none) (ha : DA X [e] ta) (hs : starEach [e] X.env = [(false, eval e X.env)] := by rfl) :
    DI X false (.Tuple elts kk tpos) (.Call (.Name "enumerate" p) [e] [] pos) (diEnum ta) := by
  refine ⟨(pi_enumA hg hm ha.run hs).of fun σ H R ⟨env, S, R0, rs, h, k⟩ => ⟨env, S, _, rs, h, fun ds S1 vs H1 ⟨d, w, hd, hw, q⟩ s1 r1 e1 => ?_⟩⟩
  subst hd
  obtain ⟨v, rfl, r⟩ := r1.inv1
  cases r with
  | tup ht r =>
    cases (show w = ⟨_, _⟩ from hw)
    refine ⟨_, _, rfl, .inr ⟨ht.sqT, k _ _ _ _ q s1 e1 (steps_pair walk_etup' (by rw [enD_len, r.length]) (fun H S e _ _ => (ht.ext e).sqT) fun i H x y hi e g hx hy => ?_)⟩⟩
    cases hx
    obtain ⟨d, h1, h2⟩ := (r.ext e).atv hy
    exact ⟨_, _, enD_at h1, .int _, h2⟩
  | wtup ht r =>
    cases (show w = ⟨_, _⟩ from hw)
    refine ⟨_, _, rfl, .inr ⟨.of ht, k _ _ _ _ q s1 e1 (steps_pair walk_etup' (by rw [enD_len, r.length]) (fun H S e _ _ => .of (e.2 _ _ ht)) fun i H x y hi e g hx hy => ?_)⟩⟩
    cases hx
    obtain ⟨d, h1, h2⟩ := (r.ext e).atv hy
    exact ⟨_, _, enD_at h1, .int _, h2⟩
  | rol ht r =>
    cases (show w = ⟨_, _⟩ from hw)
    refine ⟨_, _, rfl, .inl ⟨ht.sqL, k _ _ _ _ q s1 e1 (steps_pair walk_enum (by rw [enD_len, r.length]) (fun H S e _ _ => (ht.ext e).sqL) fun i H x y hi e g hx hy => ?_)⟩⟩
    cases hx
    obtain ⟨d, h1, h2⟩ := (r.ext e).atv hy
    exact ⟨_, _, enD_at h1, .int _, h2⟩
  | ref a =>
    obtain ⟨ds, hs', rfl⟩ := hw
    obtain ⟨vs, h1, r⟩ := s1.lst hs'
    refine ⟨_, _, rfl, .inl ⟨.of h1, k _ _ _ _ q s1 e1 (steps_enumL fun H S e s l => ?_)⟩⟩
    obtain ⟨vs', h2, r'⟩ := s.lst l
    exact ⟨vs', .of h2, r'⟩
  | _ => exact hw.elim
end
end Sv

/-! The data layer: comprehensions. -/
namespace Sv
open PySem PySem.Spec PyProof.Rows L2
theorem wipe_in {σ : L2.St} {i : Nat} : ∀ {vs : List Nat}, i ∈ vs → i < σ.length → (wipe σ vs)[i]? = some none
  | v :: vs, h, hl => by
    unfold wipe
    by_cases z : v = i
    · subst z
      rw [List.getElem?_set_self (by rw [wipe_length]; exact hl)]
    · rw [List.getElem?_set_ne z]
      exact wipe_in ((List.mem_cons.mp h).resolve_left fun e => z e.symm) hl
theorem wipe_at {σ τ : L2.St} {vs : List Nat} (hl : τ.length = σ.length) (h : ∀ i, i ∉ vs → τ[i]? = σ[i]?) : wipe τ vs = wipe σ vs := by
  refine List.ext_getElem? fun i => ?_
  by_cases hi : i ∈ vs
  · by_cases z : i < σ.length
    · rw [wipe_in hi z, wipe_in hi (hl ▸ z)]
    · rw [List.getElem?_eq_none (by rw [wipe_length]; omega), List.getElem?_eq_none (by rw [wipe_length]; omega)]
  · rw [wipe_out hi, wipe_out hi, h i hi]
theorem wipe_off {σ τ : L2.St} {vs us : List Nat} (o : Off vs (wipe σ us) τ) (h : ∀ i ∈ vs, i ∈ us) : wipe τ us = wipe σ us :=
  wipe_at (by rw [o.1, wipe_length]) fun i hi => by rw [o.2 i fun z => hi (h i z), wipe_out hi]
def dwipe (env : Env) : List Nat → Env
  | [] => env
  | v :: vs => (dwipe env vs).set v none
theorem RS.wipe {K : KK} {σ : L2.St} {H : Hp} {env : Env} {S : Sto} (r : RS K σ H env S) : ∀ vs : List Nat, RS K (L2.wipe σ vs) H (dwipe env vs) S
  | [] => r
  | v :: vs => by
    have q := RS.wipe r vs
    refine ⟨by unfold dwipe L2.wipe; rw [List.length_set, List.length_set]; exact q.len, fun i d h => ?_, q.sto⟩
    unfold dwipe at h
    by_cases z : v = i
    · subst z
      by_cases hl : v < (dwipe env vs).length
      · rw [List.getElem?_set_self hl] at h
        cases h
      · rw [List.getElem?_eq_none (by rw [List.length_set]; omega)] at h
        cases h
    · rw [List.getElem?_set_ne z] at h
      obtain ⟨x, h1, h2⟩ := q.slot i d h
      exact ⟨x, by unfold L2.wipe; rw [List.getElem?_set_ne z]; exact h1, h2⟩
structure DTs (X : Cx) (ifs : List Expr) (t : DTT) : Prop where
  run : PTs X ifs (lT X.kk t)
theorem PTs.of {X : Cx} {ifs : List Expr} {t t' : TT} (h : PTs X ifs t) (q : ∀ σ H Q, t' σ H Q → t σ H Q) : PTs X ifs t' := ⟨fun pins s σ H Q I w => h.run pins s σ H Q I (q σ H Q w)⟩
def dYes : DTT := fun _ S R => R true S
theorem dts_nil {X : Cx} : DTs X [] dYes := ⟨PTs.of pts_nil fun σ H Q ⟨env, S, R, rs, q, k⟩ => k _ _ _ q rs.sto (.refl H)⟩
theorem dts_one {X : Cx} {c : Expr} {t : DTT} (h : DT X c t) : DTs X [c] t := ⟨pts_one h.run⟩
section
variable {X : Cx}
/-- [elt for target in iter if ..]: p the new list -/
def dLc (ti : DTI) (g : DTG) (tt : DTT) (te : DTE) (us : List Nat) : DTE := fun env S R => ti env S fun w S1 => ∀ p, S1 p = none → ∃ Pv : Nat → Sto → Prop, Pv 0 (S1.put p (.lst [])) ∧ (∀ i S, i ≤ w.items.length → Pv i S → w.live S) ∧
  (∀ i d S, w.items[i]? = some d → Pv i S → g d (dwipe env us) S fun env' S' => tt env' S' fun b S2 => if b = true then te env' S2 fun y S3 => ∃ acc, S3 p = some (.lst acc) ∧ acc.length < 1000000 ∧ Pv (i + 1) (S3.put p (.lst (acc ++ [y]))) else Pv (i + 1) S2) ∧
  ∀ S, Pv w.items.length S → R (.ref p) S
theorem app_rel {K : KK} {S : Sto} {H : Hp} {p : Addr} {acc : List D} {y : D} {v : V} (s : RelS K S H) (h : S p = some (.lst acc)) (hl : acc.length < 1000000) (r : RD K H y v) :
    ∃ vs, H p = some (.lst vs) ∧ vs.length < sizeLine ∧ RelS K (S.put p (.lst (acc ++ [y]))) (upd H p (.lst (vs ++ [v]))) ∧ Ext H (upd H p (.lst (vs ++ [v]))) := by
  obtain ⟨vs, h1, h2⟩ := s.lst h
  have e : Ext H (upd H p (.lst (vs ++ [v]))) := .put h1 trivial
  exact ⟨vs, h1, Nat.lt_of_lt_of_le (h2.length ▸ hl) (by decide), s.put h1 trivial ⟨_, upd_same, (h2.append (.cons r .nil)).ext e⟩, e⟩
theorem lE_lc {K : KK} {b : Bool} {ti : DTI} {g : DTG} {tt : DTT} {te : DTE} {us vs : List Nat} {σ : L2.St} {H : Hp} {Q : VK} (hv : ∀ i ∈ vs, i ∈ us) (h : lE K (dLc ti g tt te us) σ H Q) : tLc (lI K b ti) (lG K b vs g) (lT K tt) (lE K te) us σ H Q := by
  obtain ⟨env, S, R, rs, h, k⟩ := h
  refine ⟨env, S, _, rs, h, fun w S1 J H1 q s1 e1 st p np => ?_⟩
  obtain ⟨Pv, p0, lv, step, done⟩ := q p (s1.fresh np)
  obtain ⟨G, Y, wk, hG, hY⟩ := st.ex
  have s1' : RelS K (S1.put p (.lst [])) (upd H1 p (.lst [])) := s1.lay np ⟨_, upd_same, .nil⟩
  have e1' : Ext H1 (upd H1 p (.lst [])) := .new np
  refine lc_it wk (fun i H' => ∃ S', RelS K S' H' ∧ Ext H1 H' ∧ Pv i S') ⟨_, s1', e1', p0⟩ (fun i H' hi ⟨S', s', e', p'⟩ => hG H' S' e' s' (lv i S' hi p')) ?_ ?_
  · rintro i x H2 H3 hi ⟨S2, s2, e2, p2⟩ y
    obtain ⟨e3, hS, d, hd, rd⟩ := hY i H2 x H3 e2 y
    have e13 := e1.trans (e2.trans e3)
    refine ⟨d, dwipe env us, S2, _, rd, (rs.ext e13 (hS S2 s2)).wipe us, step i d S2 hd p2, fun env4 S4 σ4 H4 q4 rs4 e4 o4 => ⟨wipe_off o4 hv, env4, S4, _, rs4, q4, fun c S5 H5 q5 s5 e5 => ?_⟩⟩
    cases c with
    | false => exact ⟨S5, s5, e2.trans (e3.trans (e4.trans e5)), q5⟩
    | true =>
      refine ⟨env4, S5, _, rs4.ext e5 s5, q5, fun y S6 v H6 ⟨acc, h1, h2, q6⟩ s6 r6 e6 => ?_⟩
      obtain ⟨vs', h3, h4, s7, e7⟩ := app_rel s6 h1 h2 r6
      exact ⟨vs', h3, h4, _, s7, e2.trans (e3.trans (e4.trans (e5.trans (e6.trans e7)))), q6⟩
  · rintro H2 ⟨S2, s2, e2, p2⟩
    exact k _ _ _ _ (done S2 p2) s2 (.ref p) (e1.trans e2)
variable {elt tg iter : Expr} {ifs : List Expr} {scope : Scope} {own : List (Str × Nat)} {vs : List Nat} {pos spos : Pos} {b : Bool} {ti : DTI} {g : DTG} {tt : DTT} {te : DTE}
theorem de_lc (hc : X.calm = true) (hN : X.N.Nodup) (hi : DI X b tg iter ti) (ok : BlkOk X.N X.env.scope scope own) (hv : ∀ i ∈ vs, i ∈ own.map (·.2))
    (hg : ∀ (s : Shared) (H : Hp) (C : Addr) (cl : List (Str × Addr)) (fp : List Addr), DG (X.blk s H scope (compEnvC scope cl C X.env) fp) b vs tg g) (ht : ∀ (s : Shared) (H : Hp) (C : Addr) (cl : List (Str × Addr)) (fp : List Addr), DTs (X.blk s H scope (compEnvC scope cl C X.env) fp) ifs tt)
    (he : ∀ (s : Shared) (H : Hp) (C : Addr) (cl : List (Str × Addr)) (fp : List Addr), DE (X.blk s H scope (compEnvC scope cl C X.env) fp) elt te) (hs : ∀ x, foldedSetIterable iter X.env x = pure x := by intro _; rfl) :
    DE X (.ListComp elt [⟨tg, iter, ifs, 0⟩] scope pos) (dLc ti g tt te (own.map (·.2))) :=
  ⟨(pe_lc (te := lE X.kk te) hc hN hi.run ok (fun s H C cl fp => (hg s H C cl fp).run) (fun s H C cl fp => (ht s H C cl fp).run) (fun s H C cl fp => (he s H C cl fp).run) hs).of fun _ _ _ => lE_lc hv⟩
theorem ds_setLc {i : Nat} {y : Str} {py : Pos} (hc : X.calm = true) (hN : X.N.Nodup) (hy : X.N[i]? = some y) (hyl : X.env.scope.names.lookup y = some .local)
    (hsw : swapsWith (.ListComp elt [⟨tg, iter, ifs, 0⟩] scope pos) (some (.Name y py)) spos.line X.env = pure true) (hi : DI X b tg iter ti) (ok : BlkOk X.N X.env.scope scope own) (hv : ∀ i ∈ vs, i ∈ own.map (·.2))
    (hg : ∀ (s : Shared) (H : Hp) (C : Addr) (cl : List (Str × Addr)) (fp : List Addr), DG (X.blk s H scope (compEnvC scope cl C X.env) fp) b vs tg g) (ht : ∀ (s : Shared) (H : Hp) (C : Addr) (cl : List (Str × Addr)) (fp : List Addr), DTs (X.blk s H scope (compEnvC scope cl C X.env) fp) ifs tt)
    (he : ∀ (s : Shared) (H : Hp) (C : Addr) (cl : List (Str × Addr)) (fp : List Addr), DE (X.blk s H scope (compEnvC scope cl C X.env) fp) elt te) (hs : ∀ x, foldedSetIterable iter X.env x = pure x := by intro _; rfl) :
    DS X (.Assign [.Name y py] (.ListComp elt [⟨tg, iter, ifs, 0⟩] scope pos) spos) (dAsg (dLc ti g tt te (own.map (·.2))) (dgName i)) := by
  refine ⟨(ps_setLc (g := lG X.kk b vs g) (tt := lT X.kk tt) (te := lE X.kk te) hc hN hy hyl hsw hi.run ok (fun s H C cl fp => (hg s H C cl fp).run) (fun s H C cl fp => (ht s H C cl fp).run) (fun s H C cl fp => (he s H C cl fp).run) hs).of fun σ H B h => ?_⟩
  obtain ⟨env, S, C, rs, h, k, _⟩ := h
  exact lE_lc hv ⟨env, S, _, rs, h, fun d S1 v H1 q s1 r1 e1 => k _ _ _ _ q ((rs.ext e1 s1).set i r1) e1⟩
/-- two clauses -/
def dLc2 (ti : DTI) (g : DTG) (tt : DTT) (ti1 : DTI) (g1 : DTG) (tt1 : DTT) (te : DTE) (us us1 : List Nat) : DTE := fun env S R => ti env S fun w S1 => ∀ p, S1 p = none → ∃ Pv : Nat → Sto → Prop, Pv 0 (S1.put p (.lst [])) ∧ (∀ i S, i ≤ w.items.length → Pv i S → w.live S) ∧
  (∀ i d S, w.items[i]? = some d → Pv i S → g d (dwipe env us) S fun env' S' => tt env' S' fun b S2 => if b = true then ti1 env' S2 fun w1 S3 => ∃ Pw : Nat → Sto → Prop, Pw 0 S3 ∧ (∀ j S, j ≤ w1.items.length → Pw j S → w1.live S) ∧
    (∀ j e S, w1.items[j]? = some e → Pw j S → g1 e (dwipe env' us1) S fun env2 S4 => tt1 env2 S4 fun b S5 => if b = true then te env2 S5 fun y S6 => ∃ acc, S6 p = some (.lst acc) ∧ acc.length < 1000000 ∧ Pw (j + 1) (S6.put p (.lst (acc ++ [y]))) else Pw (j + 1) S5) ∧
    (∀ S, Pw w1.items.length S → Pv (i + 1) S) else Pv (i + 1) S2) ∧
  ∀ S, Pv w.items.length S → R (.ref p) S
theorem lE_lc2 {K : KK} {b b1 : Bool} {ti ti1 : DTI} {g g1 : DTG} {tt tt1 : DTT} {te : DTE} {us us1 vs vs1 : List Nat} {σ : L2.St} {H : Hp} {Q : VK} (hv : ∀ i ∈ vs, i ∈ us) (hv1 : ∀ i ∈ vs1, i ∈ us1) (h : lE K (dLc2 ti g tt ti1 g1 tt1 te us us1) σ H Q) :
    tLc2 (lI K b ti) (lG K b vs g) (lT K tt) (lI K b1 ti1) (lG K b1 vs1 g1) (lT K tt1) (lE K te) us us1 σ H Q := by
  obtain ⟨env, S, R, rs, h, k⟩ := h
  refine ⟨env, S, _, rs, h, fun w S1 J H1 q s1 e1 st p np => ?_⟩
  obtain ⟨Pv, p0, lv, step, done⟩ := q p (s1.fresh np)
  obtain ⟨G, Y, wk, hG, hY⟩ := st.ex
  have s1' : RelS K (S1.put p (.lst [])) (upd H1 p (.lst [])) := s1.lay np ⟨_, upd_same, .nil⟩
  have e1' : Ext H1 (upd H1 p (.lst [])) := .new np
  refine lc2_out wk (fun i H' => ∃ S', RelS K S' H' ∧ Ext H1 H' ∧ Pv i S') ⟨_, s1', e1', p0⟩ (fun i H' hi ⟨S', s', e', p'⟩ => hG H' S' e' s' (lv i S' hi p')) ?_ ?_
  · rintro i x H2 H3 hi ⟨S2, s2, e2, p2⟩ y
    obtain ⟨e3, hS, d, hd, rd⟩ := hY i H2 x H3 e2 y
    have e13 := e1.trans (e2.trans e3)
    refine ⟨d, dwipe env us, S2, _, rd, (rs.ext e13 (hS S2 s2)).wipe us, step i d S2 hd p2, fun env4 S4 σ4 H4 q4 rs4 e4 o4 => ⟨wipe_off o4 hv, env4, S4, _, rs4, q4, fun c S5 H5 q5 s5 e5 => ?_⟩⟩
    have e25 := e2.trans (e3.trans (e4.trans e5))
    cases c with
    | false => exact ⟨S5, s5, e25, q5⟩
    | true =>
      refine ⟨env4, S5, _, rs4.ext e5 s5, q5, fun w1 S6 J1 H6 ⟨Pw, pw0, lv1, step1, done1⟩ s6 e6 st1 => ?_⟩
      obtain ⟨G1, Y1, wk1, hG1, hY1⟩ := st1.ex
      refine lc2_in wk1 (fun j H' => ∃ S', RelS K S' H' ∧ Ext H6 H' ∧ Pw j S') ⟨_, s6, .refl _, pw0⟩ (fun i H' hi ⟨S', s', e', p'⟩ => hG1 H' S' e' s' (lv1 i S' hi p')) ?_ ?_
      · rintro j x7 H7 H8 hj ⟨S7, s7, e7, p7⟩ y7
        obtain ⟨e8, hS8, d8, hd8, rd8⟩ := hY1 j H7 x7 H8 e7 y7
        refine ⟨d8, dwipe env4 us1, S7, _, rd8, (rs4.ext (e5.trans (e6.trans (e7.trans e8))) (hS8 S7 s7)).wipe us1, step1 j d8 S7 hd8 p7, fun env9 S9 σ9 H9 q9 rs9 e9 o9 => ⟨wipe_off o9 hv1, env9, S9, _, rs9, q9, fun c S10 H10 q10 s10 e10 => ?_⟩⟩
        have e710 := e7.trans (e8.trans (e9.trans e10))
        cases c with
        | false => exact ⟨S10, s10, e710, q10⟩
        | true =>
          refine ⟨env9, S10, _, rs9.ext e10 s10, q10, fun y S11 v H11 ⟨acc, h1, h2, q11⟩ s11 r11 e11 => ?_⟩
          obtain ⟨vs', h3, h4, s12, e12⟩ := app_rel s11 h1 h2 r11
          exact ⟨vs', h3, h4, _, s12, e710.trans (e11.trans e12), q11⟩
      · rintro H7 ⟨S7, s7, e7, p7⟩
        exact ⟨S7, s7, e25.trans (e6.trans e7), done1 S7 p7⟩
  · rintro H2 ⟨S2, s2, e2, p2⟩
    exact k _ _ _ _ (done S2 p2) s2 (.ref p) (e1.trans e2)
theorem de_lc2 {tg1 iter1 : Expr} {ifs1 : List Expr} {us1 vs1 : List Nat} {b1 : Bool} {ti1 : DTI} {g1 : DTG} {tt1 : DTT} (hc : X.calm = true) (hN : X.N.Nodup) (hi : DI X b tg iter ti) (ok : BlkOk X.N X.env.scope scope own) (hv : ∀ i ∈ vs, i ∈ own.map (·.2)) (hv1 : ∀ i ∈ vs1, i ∈ us1) (hu1 : ∀ i ∈ us1, i ∈ own.map (·.2))
    (hg : ∀ (s : Shared) (H : Hp) (C : Addr) (cl : List (Str × Addr)) (fp : List Addr), DG (X.blk s H scope (compEnvC scope cl C X.env) fp) b vs tg g) (ht : ∀ (s : Shared) (H : Hp) (C : Addr) (cl : List (Str × Addr)) (fp : List Addr), DTs (X.blk s H scope (compEnvC scope cl C X.env) fp) ifs tt)
    (hi1 : ∀ (s : Shared) (H : Hp) (C : Addr) (cl : List (Str × Addr)) (fp : List Addr), DI (X.blk s H scope (compEnvC scope cl C X.env) fp) b1 tg1 iter1 ti1)
    (hg1 : ∀ (s : Shared) (H : Hp) (C : Addr) (cl : List (Str × Addr)) (fp : List Addr), DG (X.blk s H scope (compEnvC scope cl C X.env) fp) b1 vs1 tg1 g1) (ht1 : ∀ (s : Shared) (H : Hp) (C : Addr) (cl : List (Str × Addr)) (fp : List Addr), DTs (X.blk s H scope (compEnvC scope cl C X.env) fp) ifs1 tt1)
    (he : ∀ (s : Shared) (H : Hp) (C : Addr) (cl : List (Str × Addr)) (fp : List Addr), DE (X.blk s H scope (compEnvC scope cl C X.env) fp) elt te) (hs : ∀ x, foldedSetIterable iter X.env x = pure x := by intro _; rfl) (hs1 : ∀ env x, foldedSetIterable iter1 env x = pure x := by intro _ _; rfl) :
    DE X (.ListComp elt [⟨tg, iter, ifs, 0⟩, ⟨tg1, iter1, ifs1, 0⟩] scope pos) (dLc2 ti g tt ti1 g1 tt1 te (own.map (·.2)) us1) :=
  ⟨(pe_lc2 (te := lE X.kk te) hc hN hi.run ok hu1 (fun s H C cl fp => (hg s H C cl fp).run) (fun s H C cl fp => (ht s H C cl fp).run) (fun s H C cl fp => (hi1 s H C cl fp).run) (fun s H C cl fp => (hg1 s H C cl fp).run) (fun s H C cl fp => (ht1 s H C cl fp).run) (fun s H C cl fp => (he s H C cl fp).run) hs hs1).of fun _ _ _ => lE_lc2 hv hv1⟩
theorem ds_setLc2 {i : Nat} {y : Str} {py : Pos} {tg1 iter1 : Expr} {ifs1 : List Expr} {us1 vs1 : List Nat} {b1 : Bool} {ti1 : DTI} {g1 : DTG} {tt1 : DTT} (hc : X.calm = true) (hN : X.N.Nodup) (hy : X.N[i]? = some y) (hyl : X.env.scope.names.lookup y = some .local)
    (hsw : swapsWith (.ListComp elt [⟨tg, iter, ifs, 0⟩, ⟨tg1, iter1, ifs1, 0⟩] scope pos) (some (.Name y py)) spos.line X.env = pure true) (hi : DI X b tg iter ti) (ok : BlkOk X.N X.env.scope scope own) (hv : ∀ i ∈ vs, i ∈ own.map (·.2)) (hv1 : ∀ i ∈ vs1, i ∈ us1) (hu1 : ∀ i ∈ us1, i ∈ own.map (·.2))
    (hg : ∀ (s : Shared) (H : Hp) (C : Addr) (cl : List (Str × Addr)) (fp : List Addr), DG (X.blk s H scope (compEnvC scope cl C X.env) fp) b vs tg g) (ht : ∀ (s : Shared) (H : Hp) (C : Addr) (cl : List (Str × Addr)) (fp : List Addr), DTs (X.blk s H scope (compEnvC scope cl C X.env) fp) ifs tt)
    (hi1 : ∀ (s : Shared) (H : Hp) (C : Addr) (cl : List (Str × Addr)) (fp : List Addr), DI (X.blk s H scope (compEnvC scope cl C X.env) fp) b1 tg1 iter1 ti1)
    (hg1 : ∀ (s : Shared) (H : Hp) (C : Addr) (cl : List (Str × Addr)) (fp : List Addr), DG (X.blk s H scope (compEnvC scope cl C X.env) fp) b1 vs1 tg1 g1) (ht1 : ∀ (s : Shared) (H : Hp) (C : Addr) (cl : List (Str × Addr)) (fp : List Addr), DTs (X.blk s H scope (compEnvC scope cl C X.env) fp) ifs1 tt1)
    (he : ∀ (s : Shared) (H : Hp) (C : Addr) (cl : List (Str × Addr)) (fp : List Addr), DE (X.blk s H scope (compEnvC scope cl C X.env) fp) elt te) (hs : ∀ x, foldedSetIterable iter X.env x = pure x := by intro _; rfl) (hs1 : ∀ env x, foldedSetIterable iter1 env x = pure x := by intro _ _; rfl) :
    DS X (.Assign [.Name y py] (.ListComp elt [⟨tg, iter, ifs, 0⟩, ⟨tg1, iter1, ifs1, 0⟩] scope pos) spos) (dAsg (dLc2 ti g tt ti1 g1 tt1 te (own.map (·.2)) us1) (dgName i)) := by
  refine ⟨(ps_setLc2 (g := lG X.kk b vs g) (tt := lT X.kk tt) (wi1 := lI X.kk b1 ti1) (g1 := lG X.kk b1 vs1 g1) (tt1 := lT X.kk tt1) (te := lE X.kk te) hc hN hy hyl hsw hi.run ok hu1 (fun s H C cl fp => (hg s H C cl fp).run) (fun s H C cl fp => (ht s H C cl fp).run) (fun s H C cl fp => (hi1 s H C cl fp).run) (fun s H C cl fp => (hg1 s H C cl fp).run) (fun s H C cl fp => (ht1 s H C cl fp).run) (fun s H C cl fp => (he s H C cl fp).run) hs hs1).of fun σ H B h => ?_⟩
  obtain ⟨env, S, C, rs, h, k, _⟩ := h
  exact lE_lc2 hv hv1 ⟨env, S, _, rs, h, fun d S1 v H1 q s1 r1 e1 => k _ _ _ _ q ((rs.ext e1 s1).set i r1) e1⟩
end
end Sv

/-! The data layer: operators, built-in functions, methods. -/
namespace Sv
open PySem PySem.Spec PyProof.Rows L2
/-! ### as data of the model's == and repr -/
mutual
inductive Py (S : Sto) : D → PyData → Prop
  | non : Py S .non .none
  | bl (b : Bool) : Py S (.bl b) (.bool b)
  | int (i : Int) : Py S (.int i) (.int i)
  | str (x : Str) : Py S (.str x) (.str x)
  | tup {ds : List D} {ps : List PyData} : Pys S ds ps → Py S (.tup ds) (.tuple ps)
  | rol {ds : List D} {ps : List PyData} : Pys S ds ps → Py S (.rol ds) (.list ps)
  | wtup {ds : List D} {ps : List PyData} : Pys S ds ps → Py S (.wtup ds) (.tuple ps)
  | lst {a : Addr} {ds : List D} {ps : List PyData} : S a = some (.lst ds) → Pys S ds ps → Py S (.ref a) (.list ps)
inductive Pys (S : Sto) : List D → List PyData → Prop
  | nil : Pys S [] []
  | cons {d : D} {ds : List D} {p : PyData} {ps : List PyData} : Py S d p → Pys S ds ps → Pys S (d :: ds) (p :: ps)
end
section
variable {K : KK} {S : Sto} {H : Hp}
mutual
theorem Py.dp (s : RelS K S H) : ∀ {d : D} {p : PyData} {v : V}, Py S d p → RD K H d v → Dp K.k H v p
  | _, _, _, .non, .non => .non
  | _, _, _, .bl b, .bl _ => .bl b
  | _, _, _, .int i, .int _ => .int i
  | _, _, _, .str x, .str _ => .str x
  | _, _, _, .tup h, .tup t r => .tup t.sqT (Pys.dp s h r)
  | _, _, _, .rol h, .rol t r => .lst t.sqL (Pys.dp s h r)
  | _, _, _, .wtup h, .wtup t r => .tup (.of t) (Pys.dp s h r)
  | _, _, _, .lst e h, .ref _ => let ⟨vs, q, r⟩ := s.lst e; .lst (.of q) (Pys.dp s h r)
theorem Pys.dp (s : RelS K S H) : ∀ {ds : List D} {ps : List PyData} {vs : List V}, Pys S ds ps → RDs K H ds vs → DpAll K.k H vs ps
  | _, _, _, .nil, .nil => .nil
  | _, _, _, .cons h t, .cons r q => .cons (Py.dp s h r) (Pys.dp s t q)
end
end
/-! ### operators -/
def rAdd : DR2 := fun x y S R => match x, y with
  | .int i, .int j => R (.int (i + j)) S
  | .tup xs, .tup ys => xs.length + ys.length ≤ 100000 ∧ R (.tup (xs ++ ys)) S
  | .str a, .str b => a.length + b.length ≤ 100000 ∧ R (.str (a ++ b)) S
  | .ref a, .ref b => ∃ xs ys, S a = some (.lst xs) ∧ S b = some (.lst ys) ∧ xs.length + ys.length ≤ 100000 ∧ ∀ p, S p = none → R (.ref p) (S.put p (.lst (xs ++ ys)))
  | _, _ => False
def rSub : DR2 := fun x y S R => match x, y with
  | .int i, .int j => R (.int (i - j)) S
  | _, _ => False
def rMul : DR2 := fun x y S R => match x, y with
  | .int i, .int j => CMul i j ∧ R (.int (i * j)) S
  | .tup xs, .int k => xs ≠ [] ∧ 1 ≤ k ∧ k ≤ 1000 ∧ xs.length ≤ 1000 ∧ R (.tup (List.replicate k.toNat xs).flatten) S
  | .ref a, .int k => ∃ xs, S a = some (.lst xs) ∧ 0 ≤ k ∧ k ≤ 1000 ∧ xs.length ≤ 1000 ∧ ∀ p, S p = none → R (.ref p) (S.put p (.lst (List.replicate k.toNat xs).flatten))
  | _, _ => False
def rDiv : DR2 := fun x y S R => match x, y with
  | .int i, .int j => CDiv i j ∧ R (.int (i / j)) S
  | _, _ => False
def rMod : DR2 := fun x y S R => match x, y with
  | .int i, .int j => 0 < j ∧ R (.int (i % j)) S
  | _, _ => False
def rPow : DR2 := fun x y S R => match x, y with
  | .int i, .int j => CPow i j ∧ R (.int (i ^ j.toNat)) S
  | _, _ => False
section
variable {X : Cx}
theorem cat_frz {pins : List (Addr × Obj)} {σ : L2.St} {H : Hp} {s : Shared} {a b : Addr} {xs ys : List V} {Q : VK} (I : Inv X pins σ H s) (ha : TupN H a xs) (hb : TupN H b ys) (hz : xs.length + ys.length ≤ sizeLine)
    (q : ∀ (H' : Hp) (p : Addr), Same H H' → (∀ b, H b ≠ none → H' b = H b) → TupN H' p (xs ++ ys) → Q (.ref p) H') (q2 : ∀ (p : Addr) (o : Obj), H p = none → o.dict = none → Q (.ref p) (upd H p (.frz o (.tup (xs ++ ys))))) : wpAny (model X.prog X.w) X.A (binaryOp .Add (.ref a) (.ref b)) (EP X pins σ Q) X.xe s := by
  obtain ⟨its, r1, p1, _⟩ := I.tuple (ha.sqT (K := X.K))
  obtain ⟨its2, r2, p2, _⟩ := I.tuple (hb.sqT (K := X.K))
  by_cases hx : its = []
  · subst hx
    have e1 : xs = [] := r1.nil_iff.mp rfl
    subst e1
    exact cat_tup0 p1 p2 ⟨.ref b, H, I, rfl, q H b (fun _ _ h => h) (fun _ _ => rfl) hb⟩
  · have hl : its.length + its2.length ≤ sizeLine := by rw [← r1.length, ← r2.length]; exact hz
    refine HT.cat_tup p1 p2 hx (fun z => ?_) (fun _ => ?_) hl
    · subst z
      have e2 : ys = [] := r2.nil_iff.mp rfl
      subst e2
      exact ⟨.ref a, H, I, rfl, q H a (fun _ _ h => h) (fun _ _ => rfl) (by rw [List.append_nil]; exact ha)⟩
    · have hg := Heap.get?_push_size s.heap (o := { cls := .type "tuple", data := .seq (its ++ its2).toArray }) rfl
      refine ⟨.ref s.heap.objs.size, _, I.laid (t' := s.toks) (o := .frz { cls := .type "tuple", data := .seq (its ++ its2).toArray } (.tup (xs ++ ys))) (fun b ob q => Heap.get?_push_of_some _ q) (Nat.le_refl _) ?_, rfl, q2 _ _ (I.hok.fresh (Nat.le_refl _)) rfl⟩
      exact ⟨hg, by rw [List.length_append]; exact hz, _, r1.append r2, ⟨_, hg, rfl, _, rfl⟩⟩
theorem big5 {n : Nat} (h : n ≤ 100000) : n ≤ sizeLine := Nat.le_trans h (by decide)
theorem o_add : OpR X (binaryOp .Add) (l2 X.kk rAdd) := by
  intro pins s σ H x y v u Q I rx ry ⟨d, e, S, R, r1, r2, s1, h, k⟩
  cases r1 with
  | int i =>
    cases r2 with
    | int j => exact op_add pins s σ H _ _ v u Q I rx ry ⟨i, j, rfl, rfl, k _ _ _ _ h s1 (.int _) (.refl H)⟩
    | _ => exact h.elim
  | str i =>
    cases r2 with
    | str j => exact op_add_str pins s σ H _ _ v u Q I rx ry ⟨i, j, rfl, rfl, big5 h.1, k _ _ _ _ h.2 s1 (.str _) (.refl H)⟩
    | _ => exact h.elim
  | tup t1 q1 =>
    cases r2 with
    | tup t2 q2 =>
      cases rx
      cases ry
      refine cat_frz I t1 t2 (by rw [← q1.length, ← q2.length]; exact big5 h.1) (fun H' p sm same t => ?_) fun p o np ho => ?_
      · exact k _ _ _ _ h.2 (fun a o e => (s1 a o e).ext (.of sm) (same a fun z => by obtain ⟨u, q, _⟩ := (s1 a o e).mut; rw [z] at q; cases q)) (.tup t ((q1.append q2).ext (.of sm))) (.of sm)
      · exact k _ _ _ _ h.2 (s1.new np) (.tup (.new ho) ((q1.append q2).ext (.new np))) (.new np)
    | _ => exact h.elim
  | ref a =>
    cases r2 with
    | ref b =>
      obtain ⟨xs, ys, h1, h2, hz, q⟩ := h
      obtain ⟨vs, e1, q1⟩ := s1.lst h1
      obtain ⟨ws, e2, q2⟩ := s1.lst h2
      exact op_cat pins s σ H _ _ v u Q I rx ry ⟨a, b, vs, ws, rfl, rfl, e1, e2, by rw [← q1.length, ← q2.length]; exact big5 hz, fun p np =>
        k _ _ _ _ (q p (s1.fresh np)) (s1.lay np ⟨_, upd_same, (q1.append q2).ext (.new np)⟩) (.ref p) (.new np)⟩
    | _ => exact h.elim
  | _ => exact h.elim
theorem o_sub : OpR X (binaryOp .Sub) (l2 X.kk rSub) := by
  intro pins s σ H x y v u Q I rx ry ⟨d, e, S, R, r1, r2, s1, h, k⟩
  cases r1 with
  | int i =>
    cases r2 with
    | int j => exact op_sub pins s σ H _ _ v u Q I rx ry ⟨i, j, rfl, rfl, k _ _ _ _ h s1 (.int _) (.refl H)⟩
    | _ => exact h.elim
  | _ => exact h.elim
theorem o_div : OpR X (binaryOp .FloorDiv) (l2 X.kk rDiv) := by
  intro pins s σ H x y v u Q I rx ry ⟨d, e, S, R, r1, r2, s1, h, k⟩
  cases r1 with
  | int i =>
    cases r2 with
    | int j => exact op_fdiv pins s σ H _ _ v u Q I rx ry ⟨i, j, rfl, rfl, h.1, k _ _ _ _ h.2 s1 (.int _) (.refl H)⟩
    | _ => exact h.elim
  | _ => exact h.elim
theorem o_mod : OpR X (binaryOp .Mod) (l2 X.kk rMod) := by
  intro pins s σ H x y v u Q I rx ry ⟨d, e, S, R, r1, r2, s1, h, k⟩
  cases r1 with
  | int i =>
    cases r2 with
    | int j => exact op_mod pins s σ H _ _ v u Q I rx ry ⟨i, j, rfl, rfl, h.1, k _ _ _ _ h.2 s1 (.int _) (.refl H)⟩
    | _ => exact h.elim
  | _ => exact h.elim
theorem o_pow : OpR X (binaryOp .Pow) (l2 X.kk rPow) := by
  intro pins s σ H x y v u Q I rx ry ⟨d, e, S, R, r1, r2, s1, h, k⟩
  cases r1 with
  | int i =>
    cases r2 with
    | int j => exact op_pow pins s σ H _ _ v u Q I rx ry ⟨i, j, rfl, rfl, h.1, k _ _ _ _ h.2 s1 (.int _) (.refl H)⟩
    | _ => exact h.elim
  | _ => exact h.elim
/-! ### comparisons -/
def rCmp (f : Int → Int → Bool) : DR2 := fun x y S R => match x, y with
  | .int i, .int j => R (.bl (f i j)) S
  | _, _ => False
theorem o_cmp {op : CmpOp} {f : Int → Int → Bool} (ho : OpR X (compareOp op) (rI0 fun i j => .bl (f i j))) : OpR X (compareOp op) (l2 X.kk (rCmp f)) := by
  intro pins s σ H x y v u Q I rx ry ⟨d, e, S, R, r1, r2, s1, h, k⟩
  cases r1 with
  | int i =>
    cases r2 with
    | int j => exact ho pins s σ H _ _ v u Q I rx ry ⟨i, j, rfl, rfl, k _ _ _ _ h s1 (.bl _) (.refl H)⟩
    | _ => exact h.elim
  | _ => exact h.elim
theorem o_lt : OpR X (compareOp .Lt) (l2 X.kk (rCmp fun i j => decide (i < j))) := o_cmp op_lt
theorem o_le : OpR X (compareOp .LtE) (l2 X.kk (rCmp fun i j => decide (i ≤ j))) := o_cmp op_le
theorem o_gt : OpR X (compareOp .Gt) (l2 X.kk (rCmp fun i j => decide (j < i))) := o_cmp op_gt
theorem o_ge : OpR X (compareOp .GtE) (l2 X.kk (rCmp fun i j => decide (j ≤ i))) := o_cmp op_ge
/-- == : ints, texts and bools at once, the rest as data -/
def rEqq (n : Bool) : DR2 := fun x y S R => match x, y with
  | .int i, .int j => R (.bl (decide (i = j) ^^ n)) S
  | .str i, .str j => R (.bl (decide (i = j) ^^ n)) S
  | .bl i, .bl j => R (.bl (decide (i = j) ^^ n)) S
  | _, _ => ∃ p q, Py S x p ∧ Py S y q ∧ SeqAt.shaped p = true ∧ SeqAt.shaped q = true ∧ R (.bl (PyData.eqv p q ^^ n)) S
theorem xor_ff (b : Bool) : (b ^^ false) = b := by cases b <;> rfl
theorem xor_tt (b : Bool) : (b ^^ true) = !b := by cases b <;> rfl
theorem o_eq (hu : X.A.units + 64 < cLine) : OpR X (compareOp .Eq) (l2 X.kk (rEqq false)) := by
  intro pins s σ H x y v u Q I rx ry ⟨d, e, S, R, r1, r2, s1, h, k⟩
  have dat : (∃ p q, Py S d p ∧ Py S e q ∧ SeqAt.shaped p = true ∧ SeqAt.shaped q = true ∧ R (.bl (PyData.eqv p q ^^ false)) S) → wpAny (model X.prog X.w) X.A (compareOp .Eq v u) (EP X pins σ Q) X.xe s := by
    rintro ⟨p, q, h1, h2, h3, h4, h5⟩
    rw [xor_ff] at h5
    exact op_eqD hu pins s σ H _ _ v u Q I rx ry ⟨p, q, h1.dp s1 r1, h2.dp s1 r2, h3, h4, k _ _ _ _ h5 s1 (.bl _) (.refl H)⟩
  have fl : ∀ {b : Bool}, decide (x = y) = b → scal x y = true → R (.bl (b ^^ false)) S → wpAny (model X.prog X.w) X.A (compareOp .Eq v u) (EP X pins σ Q) X.xe s := fun {b} hb hs q => by
    rw [xor_ff] at q
    exact op_eq pins s σ H _ _ v u Q I rx ry ⟨hs, by rw [hb]; exact k _ _ _ _ q s1 (.bl _) (.refl H)⟩
  cases r1 with
  | int i =>
    cases r2 with
    | int j => exact fl (by simp) rfl h
    | _ => exact dat h
  | str i =>
    cases r2 with
    | str j => exact fl (by simp) rfl h
    | _ => exact dat h
  | bl i =>
    cases r2 with
    | bl j => exact fl (by simp) rfl h
    | _ => exact dat h
  | _ => exact dat h
theorem o_ne (hu : X.A.units + 64 < cLine) : OpR X (compareOp .NotEq) (l2 X.kk (rEqq true)) := by
  intro pins s σ H x y v u Q I rx ry ⟨d, e, S, R, r1, r2, s1, h, k⟩
  have dat : (∃ p q, Py S d p ∧ Py S e q ∧ SeqAt.shaped p = true ∧ SeqAt.shaped q = true ∧ R (.bl (PyData.eqv p q ^^ true)) S) → wpAny (model X.prog X.w) X.A (compareOp .NotEq v u) (EP X pins σ Q) X.xe s := by
    rintro ⟨p, q, h1, h2, h3, h4, h5⟩
    rw [xor_tt] at h5
    exact op_neD hu pins s σ H _ _ v u Q I rx ry ⟨p, q, h1.dp s1 r1, h2.dp s1 r2, h3, h4, k _ _ _ _ h5 s1 (.bl _) (.refl H)⟩
  have fl : ∀ {b : Bool}, decide (x = y) = b → scal x y = true → R (.bl (b ^^ true)) S → wpAny (model X.prog X.w) X.A (compareOp .NotEq v u) (EP X pins σ Q) X.xe s := fun {b} hb hs q => by
    rw [xor_tt] at q
    exact op_ne pins s σ H _ _ v u Q I rx ry ⟨hs, by rw [hb]; exact k _ _ _ _ q s1 (.bl _) (.refl H)⟩
  cases r1 with
  | int i =>
    cases r2 with
    | int j => exact fl (by simp) rfl h
    | _ => exact dat h
  | str i =>
    cases r2 with
    | str j => exact fl (by simp) rfl h
    | _ => exact dat h
  | bl i =>
    cases r2 with
    | bl j => exact fl (by simp) rfl h
    | _ => exact dat h
  | _ => exact dat h
end
end Sv

/-! The data layer: subscripts, slices, stores, in, built-in functions, methods. -/
namespace Sv
open PySem PySem.Spec PyProof.Rows L2
section
variable {X : Cx} {a b e : Expr} {es : List Expr} {ta tb te : DTE} {tl : DTA} {pos : Pos}
/-- the items of a sequence -/
def seqOf (S : Sto) : D → Option (List D)
  | .tup ds => some ds
  | .rol ds => some ds
  | .wtup ds => some ds
  | .ref a => match S a with
    | some (.lst ds) => some ds
    | _ => none
  | _ => none
theorem seqOf_ref {S : Sto} {a : Addr} {ds : List D} (h : seqOf S (.ref a) = some ds) : S a = some (.lst ds) := by
  have h : (match S a with
    | some (.lst ds) => some ds
    | _ => none) = some ds := h
  split at h
  · rename_i e
    rw [e]
    cases h
    rfl
  · cases h
theorem seqOf_lst {S : Sto} {a : Addr} {ds : List D} (h : S a = some (.lst ds)) : seqOf S (.ref a) = some ds := by
  show (match S a with
    | some (.lst ds) => some ds
    | _ => none) = some ds
  rw [h]
theorem seq_rel {K : KK} {S : Sto} {H : Hp} {d : D} {v : V} {ds : List D} (s : RelS K S H) (r : RD K H d v) (h : seqOf S d = some ds) : ∃ p vs, v = .ref p ∧ (SqL K.k H p vs ∨ SqT K.k H p vs) ∧ RDs K H ds vs := by
  cases r with
  | tup t q => cases h; exact ⟨_, _, rfl, .inr t.sqT, q⟩
  | rol t q => cases h; exact ⟨_, _, rfl, .inl t.sqL, q⟩
  | wtup t q => cases h; exact ⟨_, _, rfl, .inr (.of t), q⟩
  | ref a =>
    obtain ⟨vs, e, q⟩ := s.lst (seqOf_ref h)
    exact ⟨a, vs, rfl, .inl (.of e), q⟩
  | _ => cases h
theorem atI_rel {K : KK} {H : Hp} {ds : List D} {vs : List V} {i : Int} {d : D} (r : RDs K H ds vs) (h : atI ds i = some d) : ∃ v, atI vs i = some v ∧ RD K H d v := by
  unfold atI at h ⊢
  rw [← r.length]
  obtain ⟨j, h1, h2⟩ := Option.bind_eq_some_iff.mp h
  obtain ⟨v, h3, h4⟩ := r.at h2
  exact ⟨v, by rw [h1]; exact h3, h4⟩
/-- x[i] -/
def rIxq : DR2 := fun x y S R => ∃ ds i d, seqOf S x = some ds ∧ y = .int i ∧ atI ds i = some d ∧ R d S
theorem o_ix : IxR X (l2 X.kk rIxq) := by
  intro value slice pins s σ H x y v u Q I rx ry h hs
  obtain ⟨d, e, S, R, r1, r2, s1, ⟨ds, i, z, hd, rfl, hi, q⟩, k⟩ := h
  cases r2
  obtain ⟨p, vs, rfl, hq, r⟩ := seq_rel s1 r1 hd
  obtain ⟨w, hw, rw'⟩ := atI_rel r hi
  refine ix_seq value slice pins s σ H _ _ v u Q I rx ry ?_ hs
  have fin := k _ _ _ _ q s1 rw' (.refl H)
  rcases hq with hq | hq
  · exact .inl ⟨p, vs, i, w, rfl, rfl, hq, hw, fin⟩
  · exact .inr (.inl ⟨p, vs, i, w, rfl, rfl, hq, hw, fin⟩)
theorem de_ix {r : DR2} (hr : IxR X (l2 X.kk r)) (ha : DE X a ta) (hb : DE X b tb) (hs : PlainIx b := by intro _ _; rfl) : DE X (.Subscript a b pos) (dBin r ta tb) := ⟨(pe_ix hr ha.run hb.run hs).of fun _ _ _ => l2_bin⟩
/-! slices -/
abbrev DTO := Env → Sto → (Option Int → Sto → Prop) → Prop
def lO (K : KK) (t : DTO) : TO := fun σ H Q => ∃ env S R, RS K σ H env S ∧ t env S R ∧ ∀ o S' H', R o S' → RelS K S' H' → Ext H H' → Q o H'
structure DO (X : Cx) (e : Option Expr) (t : DTO) : Prop where
  run : PO X e (lO X.kk t)
theorem _root_.L2.PO.of {e : Option Expr} {t t' : TO} (h : PO X e t) (q : ∀ σ H Q, t' σ H Q → t σ H Q) : PO X e t' := ⟨fun pins s σ H Q I w => h.run pins s σ H Q I (q σ H Q w)⟩
def dNoP : DTO := fun _ S R => R none S
def dPart (t : DTE) : DTO := fun env S R => t env S fun d S1 => ∃ i, d = .int i ∧ R (some i) S1
theorem do_none : DO X none dNoP := ⟨po_none.of fun σ H Q ⟨env, S, R, rs, q, k⟩ => k _ _ _ q rs.sto (.refl H)⟩
theorem do_some (h : DE X e te) : DO X (some e) (dPart te) := ⟨(po_some h.run).of fun σ H Q ⟨env, S, R, rs, h, k⟩ => ⟨env, S, _, rs, h, fun d S1 v H1 ⟨i, z, q⟩ s1 r1 e1 => by
  subst z
  cases r1
  exact ⟨i, rfl, k _ _ _ q s1 e1⟩⟩⟩
def cutD (xs : List D) (lo hi : Option Int) : List D := (xs.drop (HT.sIx xs.length 0 lo)).take (HT.sIx xs.length xs.length hi - HT.sIx xs.length 0 lo)
theorem RDs.cut {K : KK} {H : Hp} {ds : List D} {vs : List V} (r : RDs K H ds vs) (lo hi : Option Int) : RDs K H (cutD ds lo hi) (cutV vs lo hi) := by
  unfold cutD cutV
  rw [r.length]
  exact (r.drop _).take _
/-- x[lo:hi] -/
def rSlq : D → Option Int → Option Int → Sto → DK → Prop := fun x lo hi S R => match x with
  | .tup ds => R (.tup (cutD ds lo hi)) S
  | .rol ds => ∀ p, S p = none → R (.ref p) (S.put p (.lst (cutD ds lo hi)))
  | .ref a => ∃ ds, S a = some (.lst ds) ∧ ∀ p, S p = none → R (.ref p) (S.put p (.lst (cutD ds lo hi)))
  | _ => False
def lSl (K : KK) (r : D → Option Int → Option Int → Sto → DK → Prop) : V → Option Int → Option Int → Hp → VK → Prop := fun x lo hi H Q => ∃ d S R, RD K H d x ∧ RelS K S H ∧ r d lo hi S R ∧ ∀ z S' v H', R z S' → RelS K S' H' → RD K H' z v → Ext H H' → Q v H'
theorem o_sl : SlR X (lSl X.kk rSlq) := by
  intro pins s σ H x v vl vu lo hi sl Q I rx hs pl pu ⟨d, S, R, r1, s1, h, k⟩
  cases r1 with
  | tup t q =>
    refine (sl_tupA.or sl_tupF) pins s σ H _ v vl vu lo hi sl Q I rx hs pl pu ?_
    rename_i a ds vs
    by_cases hw : HT.sIx vs.length 0 lo = 0 ∧ HT.sIx vs.length vs.length hi = vs.length
    · refine .inl ⟨a, vs, rfl, t.sqT, fun _ => k _ _ _ _ h s1 ?_ (.refl H), fun z => absurd hw z⟩
      have e : cutD ds lo hi = ds := by
        unfold cutD
        rw [q.length, hw.1, hw.2, List.drop_zero, Nat.sub_zero, ← q.length, List.take_length]
      rw [e]
      exact .tup t q
    · exact .inr ⟨a, vs, rfl, t.sqT, hw, fun p o np ho => k _ _ _ _ h (s1.new np) (.tup (.new ho) ((q.cut lo hi).ext (.new np))) (.new np)⟩
  | rol t q => exact sl_list pins s σ H _ v vl vu lo hi sl Q I rx hs pl pu ⟨_, _, rfl, t.sqL, fun p np => k _ _ _ _ (h p (s1.fresh np)) (s1.lay np ⟨_, upd_same, (q.cut lo hi).ext (.new np)⟩) (.ref p) (.new np)⟩
  | ref a =>
    obtain ⟨ds, h1, h⟩ := h
    obtain ⟨vs, e, q⟩ := s1.lst h1
    exact sl_list pins s σ H _ v vl vu lo hi sl Q I rx hs pl pu ⟨_, _, rfl, .of e, fun p np => k _ _ _ _ (h p (s1.fresh np)) (s1.lay np ⟨_, upd_same, (q.cut lo hi).ext (.new np)⟩) (.ref p) (.new np)⟩
  | _ => exact h.elim
def dSl (te : DTE) (tlo thi : DTO) : DTE := fun env S R => te env S fun d S1 => tlo env S1 fun lo S2 => thi env S2 fun hi S3 => rSlq d lo hi S3 R
theorem de_sl {lo hi : Option Expr} {tlo thi : DTO} {p2 : Pos} (he : DE X e te) (hl : DO X lo tlo) (hu : DO X hi thi) : DE X (.Subscript e (.Slice lo hi none p2) pos) (dSl te tlo thi) := by
  refine ⟨(pe_slice o_sl he.run hl.run hu.run).of fun σ H Q ⟨env, S, R, rs, h, k⟩ => ⟨env, S, _, rs, h, fun d S1 v H1 q s1 r1 e1 => ⟨env, S1, _, rs.ext e1 s1, q, fun lo S2 H2 q2 s2 e2 => ⟨env, S2, _, rs.ext (e1.trans e2) s2, q2, fun hi S3 H3 q3 s3 e3 => ?_⟩⟩⟩⟩
  exact ⟨d, S3, R, r1.ext (e2.trans e3), s3, q3, fun z S4 w H4 q4 s4 r4 e4 => k _ _ _ _ q4 s4 r4 (e1.trans (e2.trans (e3.trans e4)))⟩
/-! stores -/
def dSub (to ti : DTE) : DTG := fun d env S R => to env S fun o S1 => ti env S1 fun i S2 => ∃ a ds k j, o = .ref a ∧ i = .int k ∧ S2 a = some (.lst ds) ∧ ixN ds.length k = some j ∧ R env (S2.put a (.lst (ds.set j d)))
theorem dg_sub {o i : Expr} {to ti : DTE} (ho : DE X o to) (hi : DE X i ti)
    (ha : ∀ v, assign (.Subscript o i pos) X.env v = (do
      let ov ← holding [v] (eval o X.env)
      let iv ← holding [v, ov] (eval i X.env)
      standAt pos
      holding [v, ov, iv] (setItem ov iv v)
      release [v, ov, iv] []) := by intro _; rfl) : DG X true [] (.Subscript o i pos) (dSub to ti) := by
  refine ⟨(pg_sub ho.run hi.run set_list ha).of fun v σ H Q ⟨d, env, S, R, r, rs, h, k⟩ => ⟨env, S, _, rs, h, fun o S1 ov H1 q1 s1 r1 e1 => ⟨env, S1, _, rs.ext e1 s1, q1, fun i S2 iv H2 q2 s2 r2 e2 => ?_⟩⟩⟩
  obtain ⟨a, ds, kk, j, rfl, rfl, hs, hj, q⟩ := q2
  cases r1
  cases r2
  obtain ⟨vs, h1, q1⟩ := s2.lst hs
  have rd : RD X.kk H d v := by
    rcases r with r | ⟨z, _⟩
    · exact r
    · cases z
  refine ⟨a, vs, kk, j, rfl, rfl, h1, by rw [← q1.length]; exact hj, ?_⟩
  have e3 : Ext H2 (upd H2 a (.lst (vs.set j v))) := .put h1 trivial
  have e := e1.trans (e2.trans e3)
  exact k _ _ _ _ q (rs.ext e (s2.put h1 trivial ⟨_, upd_same, (q1.set (rd.ext (e1.trans e2)) j).ext e3⟩)) e (.refl _ _)
/-- x in seq, as data -/
def rInq (n : Bool) : DR2 := fun x y S R => ∃ p ps, Py S x p ∧ (Py S y (.list ps) ∨ Py S y (.tuple ps)) ∧ SeqAt.shaped p = true ∧ SeqAt.shaped (.tuple ps) = true ∧ SeqAt.shaped (.list ps) = true ∧ R (.bl ((ps.any fun z => PyData.eqv z p) ^^ n)) S
end
end Sv

/-! The data layer: in, built-in functions, methods, defs, the law's end. -/
namespace Sv
open PySem PySem.Spec PyProof.Rows L2
section
variable {X : Cx} {a b e : Expr} {es : List Expr} {ta tb te : DTE} {tl : DTA} {pos : Pos}
theorem room_in' {d : PyData} {n : Nat} (h : SeqAt.shaped d = true) (hu : n + 65 < cLine) : n + d.depth + 1 < cLine := by
  have h2 : d.depth ≤ 64 := by
    have := h
    simp only [SeqAt.shaped, Bool.and_eq_true, decide_eq_true_eq] at this
    exact this.2
  omega
theorem o_in (hu : X.A.units + 65 < cLine) : OpR X (compareOp .In) (l2 X.kk (rInq false)) := by
  intro pins s σ H x y v u Q I rx ry ⟨d, e, S, R, r1, r2, s1, ⟨p, ps, h1, h2, h3, h4, h5, q⟩, k⟩
  rw [xor_ff] at q
  have fin := k _ _ _ _ q s1 (.bl _) (.refl H)
  obtain ⟨as, ra⟩ := Dp.reads I p x v (h1.dp s1 r1) rx
  rcases h2 with h2 | h2
  · exact op_inD hu pins s σ H _ _ v u Q I rx ry ⟨p, ps, h1.dp s1 r1, h2.dp s1 r2, h3, h5, fin⟩
  · obtain ⟨bs, rb⟩ := Dp.reads I (.tuple ps) y u (h2.dp s1 r2) ry
    exact SeqAt.in_tuple_reads rb ra (SeqAt.canLay_of_shaped h4) (SeqAt.canLay_of_shaped h3) (room_in_shaped h3 hu) ⟨.bl _, H, I, rfl, fin⟩
theorem o_nin (hu : X.A.units + 65 < cLine) : OpR X (compareOp .NotIn) (l2 X.kk (rInq true)) := by
  intro pins s σ H x y v u Q I rx ry ⟨d, e, S, R, r1, r2, s1, ⟨p, ps, h1, h2, h3, h4, h5, q⟩, k⟩
  rw [xor_tt] at q
  have fin := k _ _ _ _ q s1 (.bl _) (.refl H)
  obtain ⟨as, ra⟩ := Dp.reads I p x v (h1.dp s1 r1) rx
  rcases h2 with h2 | h2
  · exact op_notInD hu pins s σ H _ _ v u Q I rx ry ⟨p, ps, h1.dp s1 r1, h2.dp s1 r2, h3, h5, fin⟩
  · obtain ⟨bs, rb⟩ := Dp.reads I (.tuple ps) y u (h2.dp s1 r2) ry
    exact SeqAt.notIn_tuple_reads rb ra (SeqAt.canLay_of_shaped h4) (SeqAt.canLay_of_shaped h3) (room_in_shaped h3 hu) ⟨.bl _, H, I, rfl, fin⟩
/-! ### built-in functions -/
def rLen : DRC := fun ds S R => ∃ d xs, ds = [d] ∧ seqOf S d = some xs ∧ R (.int xs.length) S
theorem b_len : CallR X (.builtin "len") (lC X.kk rLen) := by
  intro pins s σ H vs us Q I r ⟨ds, S, R, r1, s1, ⟨d, xs, hd, hx, q⟩, k⟩
  subst hd
  obtain ⟨v, rfl, rv⟩ := r1.inv1
  obtain ⟨p, ws, rfl, hq, rw'⟩ := seq_rel s1 rv hx
  refine call_len pins s σ H _ us Q I r ⟨.ref p, ws.length, rfl, ?_, ?_⟩
  · rcases hq with hq | hq
    · exact .inl ⟨ws, hq, rfl⟩
    · exact .inr ⟨ws, hq, rfl⟩
  · rw [← rw'.length]
    exact k _ _ _ _ q s1 (.int _) (.refl H)
def rAbs : DRC := fun ds S R => ∃ i, ds = [.int i] ∧ R (.int (if i < 0 then -i else i)) S
theorem b_abs : CallR X (.builtin "abs") (lC X.kk rAbs) := by
  intro pins s σ H vs us Q I r ⟨ds, S, R, r1, s1, ⟨i, hd, q⟩, k⟩
  subst hd
  obtain ⟨v, rfl, rv⟩ := r1.inv1
  cases rv
  exact call_abs pins s σ H _ us Q I r ⟨i, rfl, k _ _ _ _ q s1 (.int _) (.refl H)⟩
def rInt : DRC := fun ds S R => ∃ d, ds = [d] ∧ match d with
  | .int i => R (.int i) S
  | .bl b => R (.int (if b then 1 else 0)) S
  | _ => False
theorem b_int : CallR X (.type "int") (lC X.kk rInt) := by
  intro pins s σ H vs us Q I r ⟨ds, S, R, r1, s1, ⟨d, hd, q⟩, k⟩
  subst hd
  obtain ⟨v, rfl, rv⟩ := r1.inv1
  cases rv with
  | int i => exact call_int1 pins s σ H _ us Q I r (.inl ⟨i, rfl, k _ _ _ _ q s1 (.int _) (.refl H)⟩)
  | bl b => exact call_int1 pins s σ H _ us Q I r (.inr ⟨b, rfl, k _ _ _ _ q s1 (.int _) (.refl H)⟩)
  | _ => exact q.elim
def rMax2 : DRC := fun ds S R => ∃ i j, ds = [.int i, .int j] ∧ R (.int (if j > i then j else i)) S
def rMin2 : DRC := fun ds S R => ∃ i j, ds = [.int i, .int j] ∧ R (.int (if j < i then j else i)) S
theorem b_max2 (hc : X.calm = true) : CallR X (.builtin "max") (lC X.kk rMax2) := by
  intro pins s σ H vs us Q I r ⟨ds, S, R, r1, s1, ⟨i, j, hd, q⟩, k⟩
  subst hd
  obtain ⟨v, u, rfl, rv, ru⟩ := r1.inv2
  cases rv
  cases ru
  exact call_max2 hc pins s σ H _ us Q I r ⟨i, j, rfl, k _ _ _ _ q s1 (.int _) (.refl H)⟩
theorem b_min2 (hc : X.calm = true) : CallR X (.builtin "min") (lC X.kk rMin2) := by
  intro pins s σ H vs us Q I r ⟨ds, S, R, r1, s1, ⟨i, j, hd, q⟩, k⟩
  subst hd
  obtain ⟨v, u, rfl, rv, ru⟩ := r1.inv2
  cases rv
  cases ru
  exact call_min2 hc pins s σ H _ us Q I r ⟨i, j, rfl, k _ _ _ _ q s1 (.int _) (.refl H)⟩
def rListq : DRC := fun ds S R => ∃ d xs, ds = [d] ∧ seqOf S d = some xs ∧ ∀ p, S p = none → R (.ref p) (S.put p (.lst xs))
theorem b_list : CallR X (.type "list") (lC X.kk rListq) := by
  intro pins s σ H vs us Q I r ⟨ds, S, R, r1, s1, ⟨d, xs, hd, hx, q⟩, k⟩
  subst hd
  obtain ⟨v, rfl, rv⟩ := r1.inv1
  obtain ⟨p, ws, rfl, hq, rw'⟩ := seq_rel s1 rv hx
  exact call_list_of pins s σ H _ us Q I r ⟨p, ws, rfl, hq, fun l nl => k _ _ _ _ (q l (s1.fresh nl)) (s1.lay nl ⟨_, upd_same, rw'.ext (.new nl)⟩) (.ref l) (.new nl)⟩
def rTupq : DRC := fun ds S R => ∃ d xs, ds = [d] ∧ seqOf S d = some xs ∧ (∀ ys, d ≠ .wtup ys) ∧ R (.tup xs) S
theorem b_tuple : CallR X (.type "tuple") (lC X.kk rTupq) := by
  intro pins s σ H vs us Q I r ⟨ds, S, R, r1, s1, ⟨d, xs, hd, hx, hw, q⟩, k⟩
  subst hd
  obtain ⟨v, rfl, rv⟩ := r1.inv1
  cases rv with
  | wtup t qq => exact absurd rfl (hw _)
  | tup t qq =>
    cases hx
    exact call_tuple_of pins s σ H _ us Q I r ⟨_, _, rfl, .inr ⟨t.sqT, k _ _ _ _ q s1 (.tup t qq) (.refl H)⟩⟩
  | rol t qq =>
    cases hx
    exact call_tupleF pins s σ H _ us Q I r ⟨_, _, rfl, t.sqL, fun l o nl ho => k _ _ _ _ q (s1.new nl) (.tup (.new ho) (qq.ext (.new nl))) (.new nl)⟩
  | ref a =>
    obtain ⟨ws, h1, qq⟩ := s1.lst (seqOf_ref hx)
    exact call_tupleF pins s σ H _ us Q I r ⟨_, _, rfl, .of h1, fun l o nl ho => k _ _ _ _ q (s1.new nl) (.tup (.new ho) (qq.ext (.new nl))) (.new nl)⟩
  | _ => cases hx
def intsD (ns : List Int) : List D := ns.map D.int
def rSum1 : DRC := fun ds S R => ∃ a ns, ds = [.ref a] ∧ S a = some (.lst (intsD ns)) ∧ R (.int ns.sum) S
theorem b_sum (hc : X.calm = true) : CallR X (.builtin "sum") (lC X.kk rSum1) := by
  intro pins s σ H vs us Q I r ⟨ds, S, R, r1, s1, ⟨a, ns, hd, hx, q⟩, k⟩
  subst hd
  obtain ⟨v, rfl, rv⟩ := r1.inv1
  cases rv
  obtain ⟨ws, h1, qq⟩ := s1.lst hx
  cases (RDs.ints_inv qq)
  exact cr_sum hc pins s σ H _ us Q I r ⟨a, ns, rfl, .of h1, k _ _ _ _ q s1 (.int _) (.refl H)⟩
/-- the greatest, the least of a list or a tuple of ints -/
def rMax1 : DRC := fun ds S R => ∃ d ns, ds = [d] ∧ seqOf S d = some (intsD ns) ∧ 0 < ns.length ∧ ∀ m, m ∈ ns → (∀ y, y ∈ ns → y ≤ m) → R (.int m) S
def rMin1 : DRC := fun ds S R => ∃ d ns, ds = [d] ∧ seqOf S d = some (intsD ns) ∧ 0 < ns.length ∧ ∀ m, m ∈ ns → (∀ y, y ∈ ns → m ≤ y) → R (.int m) S
theorem b_max1 (hc : X.calm = true) : CallR X (.builtin "max") (lC X.kk rMax1) := by
  intro pins s σ H vs us Q I r ⟨ds, S, R, r1, s1, ⟨d, ns, hd, hx, hn, q⟩, k⟩
  subst hd
  obtain ⟨v, rfl, rv⟩ := r1.inv1
  obtain ⟨p, ws, rfl, hq, rw'⟩ := seq_rel s1 rv hx
  cases (RDs.ints_inv rw')
  rcases hq with hq | hq
  · exact cr_max hc pins s σ H _ us Q I r ⟨p, ns, rfl, hq, hn, fun m h1 h2 => k _ _ _ _ (q m h1 h2) s1 (.int _) (.refl H)⟩
  · exact cr_maxT hc pins s σ H _ us Q I r ⟨p, ns, rfl, hq, hn, fun m h1 h2 => k _ _ _ _ (q m h1 h2) s1 (.int _) (.refl H)⟩
theorem b_min1 (hc : X.calm = true) : CallR X (.builtin "min") (lC X.kk rMin1) := by
  intro pins s σ H vs us Q I r ⟨ds, S, R, r1, s1, ⟨d, ns, hd, hx, hn, q⟩, k⟩
  subst hd
  obtain ⟨v, rfl, rv⟩ := r1.inv1
  obtain ⟨p, ws, rfl, hq, rw'⟩ := seq_rel s1 rv hx
  cases (RDs.ints_inv rw')
  rcases hq with hq | hq
  · exact cr_min hc pins s σ H _ us Q I r ⟨p, ns, rfl, hq, hn, fun m h1 h2 => k _ _ _ _ (q m h1 h2) s1 (.int _) (.refl H)⟩
  · exact cr_minT hc pins s σ H _ us Q I r ⟨p, ns, rfl, hq, hn, fun m h1 h2 => k _ _ _ _ (q m h1 h2) s1 (.int _) (.refl H)⟩
def rSorted1 : DRC := fun ds S R => ∃ d ns, ds = [d] ∧ seqOf S d = some (intsD ns) ∧ ((∀ xs, d ≠ .tup xs) ∧ ∀ xs, d ≠ .wtup xs) ∧ ns.length < 64 ∧ ∀ (ns' : List Int) (p : Addr), ns'.Perm ns → ns'.Pairwise (· ≤ ·) → S p = none → R (.ref p) (S.put p (.lst (intsD ns')))
theorem b_sorted : CallR X (.builtin "sorted") (lC X.kk rSorted1) := by
  intro pins s σ H vs us Q I r ⟨ds, S, R, r1, s1, ⟨d, ns, hd, hx, ht, hn, q⟩, k⟩
  subst hd
  obtain ⟨v, rfl, rv⟩ := r1.inv1
  cases rv with
  | tup t qq => exact absurd rfl (ht.1 _)
  | wtup t qq => exact absurd rfl (ht.2 _)
  | rol t qq =>
    cases hx
    cases (RDs.ints_inv qq)
    exact cr_sorted pins s σ H _ us Q I r ⟨_, ns, rfl, t.sqL, hn, fun ns' p h1 h2 np => k _ _ _ _ (q ns' p h1 h2 (s1.fresh np)) (s1.lay np ⟨_, upd_same, .ints ns'⟩) (.ref p) (.new np)⟩
  | ref a =>
    obtain ⟨ws, h1, qq⟩ := s1.lst (seqOf_ref hx)
    cases (RDs.ints_inv qq)
    exact cr_sorted pins s σ H _ us Q I r ⟨_, ns, rfl, .of h1, hn, fun ns' p h1 h2 np => k _ _ _ _ (q ns' p h1 h2 (s1.fresh np)) (s1.lay np ⟨_, upd_same, .ints ns'⟩) (.ref p) (.new np)⟩
  | _ => cases hx
theorem RDs.bls_inv {K : KK} {H : Hp} : ∀ {bs : List Bool} {vs : List V}, RDs K H (bs.map D.bl) vs → vs = bs.map V.bl
  | [], _, .nil => rfl
  | n :: r, _, .cons (.bl _) t => by rw [RDs.bls_inv t]; rfl
def rAnyq (f : List Bool → Bool) : DRC := fun ds S R => ∃ a bs, ds = [.ref a] ∧ S a = some (.lst (bs.map D.bl)) ∧ R (.bl (f bs)) S
theorem b_any (hc : X.calm = true) : CallR X (.builtin "any") (lC X.kk (rAnyq fun bs => bs.any id)) := by
  intro pins s σ H vs us Q I r ⟨ds, S, R, r1, s1, ⟨a, bs, hd, hx, q⟩, k⟩
  subst hd
  obtain ⟨v, rfl, rv⟩ := r1.inv1
  cases rv
  obtain ⟨ws, h1, qq⟩ := s1.lst hx
  cases (RDs.bls_inv qq)
  exact cr_any hc pins s σ H _ us Q I r ⟨a, bs, rfl, .of h1, k _ _ _ _ q s1 (.bl _) (.refl H)⟩
theorem b_all (hc : X.calm = true) : CallR X (.builtin "all") (lC X.kk (rAnyq fun bs => bs.all id)) := by
  intro pins s σ H vs us Q I r ⟨ds, S, R, r1, s1, ⟨a, bs, hd, hx, q⟩, k⟩
  subst hd
  obtain ⟨v, rfl, rv⟩ := r1.inv1
  cases rv
  obtain ⟨ws, h1, qq⟩ := s1.lst hx
  cases (RDs.bls_inv qq)
  exact cr_all hc pins s σ H _ us Q I r ⟨a, bs, rfl, .of h1, k _ _ _ _ q s1 (.bl _) (.refl H)⟩
/-- data whose text may be made -/
structure Text (p : PyData) : Prop where
  dis : isDisplay p = true
  sho : p.showable = true
  nod : p.hasDict = false
  dep : p.depth ≤ 60
  len : p.shown.length ≤ sizeLine
def rRepr : DRC := fun ds S R => ∃ d p, ds = [d] ∧ Py S d p ∧ Text p ∧ R (.str p.shown) S
theorem b_repr (hgd : X.A.guards = some []) (hu : X.A.units + 64 < cLine) : CallR X (.builtin "repr") (lC X.kk rRepr) := by
  intro pins s σ H vs us Q I r ⟨ds, S, R, r1, s1, ⟨d, p, hd, hp, ht, q⟩, k⟩
  subst hd
  obtain ⟨v, rfl, rv⟩ := r1.inv1
  exact call_repr hgd hu pins s σ H _ us Q I r ⟨v, p, rfl, ⟨hp.dp s1 rv, ht.dis, ht.sho, ht.nod, ht.dep, ht.len⟩, k _ _ _ _ q s1 (.str _) (.refl H)⟩
/-- list(range(..)) -/
def dListRg (t : DTI) : DTE := fun env S R => t env S fun w S1 => w.items.length ≤ 1000 ∧ ∀ p, S1 p = none → R (.ref p) (S1.put p (.lst w.items))
/-! ### methods -/
def dMtq (T : String) (r : DRM) (to : DTE) (t : DTA) : DTE := fun env S R => to env S fun x S1 => (T = "list" ∧ ∃ xs, seqOf S1 x = some xs ∧ (∀ ds, x ≠ .tup ds) ∧ ∀ ds, x ≠ .wtup ds) ∧ t env S1 fun ds S2 => r x ds S2 R
theorem de_mL {r : DRM} {name : Str} {id : String} {o : Expr} {to : DTE} {apos cpos : Pos} (slot : Slot "list" name id) (hty : typeOf (.builtin id) = pure (.type "method_descriptor")) (hm : MtR X id (lM X.kk r)) (ho : DE X o to) (ha : DA X (e :: es) tl)
    (hbase : attributeBase o name X.env (eval o X.env) = eval o X.env := by rfl)
    (hfew : ((backTo cpos (starEach (e :: es) X.env)).all (fun x => !x.1) && (backToKw cpos (keywordEach [] X.env)).all (fun x => x.1.isSome)
      && decide ((e :: es).length + ([] : List Keyword).length + (if ([] : List Keyword).isEmpty then 0 else 1) < 30)) = true := by rfl)
    (hline : (apos.endLine == cpos.line) = true := by rfl) (hs : starEach (e :: es) X.env = (false, eval e X.env) :: starEach es X.env := by rfl) (hplain : (backTo cpos (starEach es X.env)).any (·.1) = false := by rfl) :
    DE X (.Call (.Attribute o name apos) (e :: es) [] cpos) (dMtq "list" r to tl) := by
  refine ⟨(pe_bm PySem.F.plainAttrs_list slot hty hm ho.run ha.run hbase hfew hline hs hplain).of fun σ H Q ⟨env, S, R, rs, h, k⟩ => ⟨env, S, _, rs, h, fun x S1 v H1 ⟨⟨_, xs, hx, hn⟩, q⟩ s1 r1 e1 => ⟨?_, env, S1, _, rs.ext e1 s1, q, fun ds S2 vs H2 q2 s2 r2 e2 => ?_⟩⟩⟩
  · cases r1 with
    | tup t qq => exact absurd rfl (hn.1 _)
    | wtup t qq => exact absurd rfl (hn.2 _)
    | rol t qq => exact .inl ⟨rfl, _, t.sqL⟩
    | ref a =>
      obtain ⟨ws, h1, _⟩ := s1.lst (seqOf_ref hx)
      exact .inl ⟨rfl, _, .of h1⟩
    | _ => cases hx
  · exact ⟨x, ds, S2, R, r1.ext e2, r2, s2, q2, fun z S3 w H3 q3 s3 r3 e3 => k _ _ _ _ q3 s3 r3 (e1.trans (e2.trans e3))⟩
def dMtT (r : DRM) (to : DTE) (t : DTA) : DTE := fun env S R => to env S fun x S1 => (∃ xs, x = .tup xs) ∧ t env S1 fun ds S2 => r x ds S2 R
theorem de_mT {r : DRM} {name : Str} {id : String} {o : Expr} {to : DTE} {apos cpos : Pos} (slot : Slot "tuple" name id) (hty : typeOf (.builtin id) = pure (.type "method_descriptor")) (hm : MtR X id (lM X.kk r)) (ho : DE X o to) (ha : DA X (e :: es) tl)
    (hbase : attributeBase o name X.env (eval o X.env) = eval o X.env := by rfl)
    (hfew : ((backTo cpos (starEach (e :: es) X.env)).all (fun x => !x.1) && (backToKw cpos (keywordEach [] X.env)).all (fun x => x.1.isSome)
      && decide ((e :: es).length + ([] : List Keyword).length + (if ([] : List Keyword).isEmpty then 0 else 1) < 30)) = true := by rfl)
    (hline : (apos.endLine == cpos.line) = true := by rfl) (hs : starEach (e :: es) X.env = (false, eval e X.env) :: starEach es X.env := by rfl) (hplain : (backTo cpos (starEach es X.env)).any (·.1) = false := by rfl) :
    DE X (.Call (.Attribute o name apos) (e :: es) [] cpos) (dMtT r to tl) := by
  refine ⟨(pe_tm slot hty hm ho.run ha.run hbase hfew hline hs hplain).of fun σ H Q ⟨env, S, R, rs, h, k⟩ => ⟨env, S, _, rs, h, fun x S1 v H1 ⟨⟨xs, hx⟩, q⟩ s1 r1 e1 => ⟨?_, env, S1, _, rs.ext e1 s1, q, fun ds S2 vs H2 q2 s2 r2 e2 => ?_⟩⟩⟩
  · subst hx
    cases r1 with
    | tup t qq => exact ⟨_, _, rfl, t⟩
  · exact ⟨x, ds, S2, R, r1.ext e2, r2, s2, q2, fun z S3 w H3 q3 s3 r3 e3 => k _ _ _ _ q3 s3 r3 (e1.trans (e2.trans e3))⟩
def mAppend : DRM := fun x ds S R => ∃ l xs y, x = .ref l ∧ ds = [y] ∧ S l = some (.lst xs) ∧ xs.length < 1000000 ∧ R .non (S.put l (.lst (xs ++ [y])))
theorem m_append : MtR X "list.append" (lM X.kk mAppend) := by
  intro pins s σ H x vs v us Q I rx rv ⟨d, ds, S, R, r1, r2, s1, ⟨l, xs, y, hd, hds, hx, hl, q⟩, k⟩
  subst hd hds
  cases r1
  obtain ⟨w, rfl, rw'⟩ := r2.inv1
  obtain ⟨ws, h3, h4, s7, e7⟩ := app_rel s1 hx hl rw'
  exact mt_append pins s σ H _ _ v us Q I rx rv ⟨l, ws, w, rfl, rfl, h3, h4, k _ _ _ _ q s7 .non e7⟩
def mExtend : DRM := fun x ds S R => ∃ l b xs zs, x = .ref l ∧ ds = [.ref b] ∧ S l = some (.lst xs) ∧ S b = some (.lst zs) ∧ xs.length + zs.length ≤ 100000 ∧ R .non (S.put l (.lst (xs ++ zs)))
theorem m_extend : MtR X "list.extend" (lM X.kk mExtend) := by
  intro pins s σ H x vs v us Q I rx rv ⟨d, ds, S, R, r1, r2, s1, ⟨l, b, xs, zs, hd, hds, hx, hz, hl, q⟩, k⟩
  subst hd hds
  cases r1
  obtain ⟨w, rfl, rw'⟩ := r2.inv1
  cases rw'
  obtain ⟨ws, h3, q3⟩ := s1.lst hx
  obtain ⟨us', h4, q4⟩ := s1.lst hz
  have e : Ext H (upd H l (.lst (ws ++ us'))) := .put h3 trivial
  exact mt_extend pins s σ H _ _ v us Q I rx rv ⟨l, b, ws, us', rfl, rfl, h3, h4, by rw [← q3.length, ← q4.length]; exact big5 hl, k _ _ _ _ q (s1.put h3 trivial ⟨_, upd_same, (q3.append q4).ext e⟩) .non e⟩
def mPopAt : DRM := fun x ds S R => ∃ l xs i j y, x = .ref l ∧ ds = [.int i] ∧ S l = some (.lst xs) ∧ -(2 ^ 63) ≤ i ∧ i < 2 ^ 63 ∧ seqIndex? i xs.length = some j ∧ xs[j]? = some y ∧ R y (S.put l (.lst (xs.eraseIdx j)))
theorem m_popAt : MtR X "list.pop" (lM X.kk mPopAt) := by
  intro pins s σ H x vs v us Q I rx rv ⟨d, ds, S, R, r1, r2, s1, ⟨l, xs, i, j, y, hd, hds, hx, h1, h2, hj, hy, q⟩, k⟩
  subst hd hds
  cases r1
  obtain ⟨w, rfl, rw'⟩ := r2.inv1
  cases rw'
  obtain ⟨ws, h3, q3⟩ := s1.lst hx
  obtain ⟨z, hz, rz⟩ := q3.at hy
  have e : Ext H (upd H l (.lst (ws.eraseIdx j))) := .put h3 trivial
  exact mt_popAt pins s σ H _ _ v us Q I rx rv ⟨l, ws, i, j, z, rfl, rfl, h3, h1, h2, q3.length ▸ hj, hz, k _ _ _ _ q (s1.put h3 trivial ⟨_, upd_same, (q3.eraseIdx j).ext e⟩) (rz.ext e) e⟩
def mTcount : DRM := fun x ds S R => ∃ ns k, x = .tup (intsD ns) ∧ ds = [.int k] ∧ R (.int (ns.count k : Nat)) S
theorem m_tcount (hu : X.A.units + 64 < cLine) : MtR X "tuple.count" (lM X.kk mTcount) := by
  intro pins s σ H x vs v us Q I rx rv ⟨d, ds, S, R, r1, r2, s1, ⟨ns, kk, hd, hds, q⟩, k⟩
  subst hd hds
  cases r1 with
  | tup t qq =>
    obtain ⟨w, rfl, rw'⟩ := r2.inv1
    cases rw'
    cases (RDs.ints_inv qq)
    exact mt_tcount hu pins s σ H _ _ v us Q I rx rv ⟨_, ns, kk, rfl, rfl, t.sqT, k _ _ _ _ q s1 (.int _) (.refl H)⟩
def mTindex : DRM := fun x ds S R => ∃ ns k, x = .tup (intsD ns) ∧ ds = [.int k] ∧ k ∈ ns ∧ R (.int (ns.idxOf k : Nat)) S
theorem m_tindex : MtR X "tuple.index" (lM X.kk mTindex) := by
  intro pins s σ H x vs v us Q I rx rv ⟨d, ds, S, R, r1, r2, s1, ⟨ns, kk, hd, hds, hk, q⟩, k⟩
  subst hd hds
  cases r1 with
  | tup t qq =>
    obtain ⟨w, rfl, rw'⟩ := r2.inv1
    cases rw'
    cases (RDs.ints_inv qq)
    exact mt_tindex pins s σ H _ _ v us Q I rx rv ⟨_, ns, kk, rfl, rfl, t.sqT, hk, k _ _ _ _ q s1 (.int _) (.refl H)⟩
end
end Sv

/-! The data layer: defs, the law's end. -/
namespace Sv
open PySem PySem.Spec PyProof.Rows L2
theorem dv {X : Cx} (i : Nat) {x : Str} {pos : Pos} (hN : X.N[i]? = some x := by rfl) (hv : Vis X.env.scope x := by first | exact Or.inl rfl | exact Or.inr (Or.inl rfl) | exact Or.inr (Or.inr rfl)) (hd : (x == ("__debug__" : Str)) = false := by decide)
    (hcd : (x == ("__classdict__" : Str)) = false := by decide) : DE X (.Name x pos) (dVar i) := de_var hN hv hd hcd
section
variable {X : Cx} {a b c e : Expr} {ta tb tc te : DTE} {pos : Pos}
def rNeg : DR1 := fun d S R => match d with
  | .int i => R (.int (-i)) S
  | _ => False
theorem o_neg : UnR X (unaryOp .USub) (l1 X.kk rNeg) := by
  intro pins s σ H x v Q I rx ⟨d, S, R, r1, s1, h, k⟩
  cases r1 with
  | int i => exact un_neg pins s σ H _ v Q I rx ⟨i, rfl, k _ _ _ _ h s1 (.int _) (.refl H)⟩
  | _ => exact h.elim
/-- a op b op c -/
def dChain (r r' : DR2) (ta tb tc : DTE) : DTE := fun env S R => ta env S fun x S1 => tb env S1 fun y S2 => r x y S2 fun z S3 => ∃ k, z = .bl k ∧ if k = true then tc env S3 fun w S4 => r' y w S4 R else R (.bl false) S3
theorem de_chain {op op' : CmpOp} {r r' : DR2} (ho : OpR X (compareOp op) (l2 X.kk r)) (ho' : OpR X (compareOp op') (l2 X.kk r')) (ha : DE X a ta) (hb : DE X b tb) (hc : DE X c tc)
    (hm : lastMarks [op, op'] [b, c] = false := by with_unfolding_all rfl) : DE X (.Compare a [op, op'] [b, c] pos) (dChain r r' ta tb tc) := by
  refine ⟨(pe_chain ho ho' ha.run hb.run hc.run hm).of fun σ H Q ⟨env, S, R, rs, h, k⟩ => ⟨env, S, _, rs, h, fun x S1 v H1 q1 s1 r1 e1 => ⟨env, S1, _, rs.ext e1 s1, q1, fun y S2 u H2 q2 s2 r2 e2 => ⟨x, y, S2, _, r1.ext e2, r2, s2, q2, fun z S3 w H3 ⟨kk, hz, q3⟩ s3 r3 e3 => ?_⟩⟩⟩⟩
  subst hz
  cases r3
  refine ⟨kk, rfl, ?_⟩
  cases kk with
  | false => exact k _ _ _ _ q3 s3 (.bl _) (e1.trans (e2.trans e3))
  | true => exact ⟨env, S3, _, rs.ext (e1.trans (e2.trans e3)) s3, q3, fun w S4 t H4 q4 s4 r4 e4 => ⟨y, w, S4, R, r2.ext (e3.trans e4), r4, s4, q4, fun z S5 t H5 q5 s5 r5 e5 => k _ _ _ _ q5 s5 r5 (e1.trans (e2.trans (e3.trans (e4.trans e5))))⟩⟩
/-- list(range(n)) -/
def dLRg1 (te : DTE) : DTE := fun env S R => te env S fun d S1 => ∃ n : Int, d = .int n ∧ 0 ≤ n ∧ n ≤ 1000 ∧ ∀ p, S1 p = none → R (.ref p) (S1.put p (.lst (rgD 0 n.toNat)))
def dLRg2 (ta tb : DTE) : DTE := fun env S R => ta env S fun d S1 => tb env S1 fun e S2 => ∃ m n : Int, d = .int m ∧ e = .int n ∧ -1000 ≤ m ∧ m ≤ 1000 ∧ -1000 ≤ n ∧ n ≤ 1000 ∧ ∀ p, S2 p = none → R (.ref p) (S2.put p (.lst (rgD m (n - m).toNat)))
theorem rg_rel {K : KK} {H : Hp} {lo : Int} : ∀ {n : Nat}, RDs K H (rgD lo n) ((List.range n).map fun i => V.int (lo + (i : Nat))) := by
  intro n
  unfold rgD
  induction List.range n with
  | nil => exact .nil
  | cons i r ih => exact .cons (.int _) ih
theorem rg_relV {K : KK} {H : Hp} {m n : Int} : RDs K H (rgD m (n - m).toNat) (rgV m n) := rg_rel
theorem de_listRg1 {p p2 pos2 : Pos} (hc : X.calm = true) (hg : Gl X "list") (hm : X.mg "list" = none) (hg2 : Gl X "range") (hm2 : X.mg "range" = none) (ha : DE X a ta) (na : starEach [a] X.env = (false, eval a X.env) :: starEach [] X.env := by rfl)
    (nb : starEach [.Call (.Name "range" p2) [a] [] pos2] X.env = (false, eval (.Call (.Name "range" p2) [a] [] pos2) X.env) :: starEach [] X.env := by rfl) : DE X (.Call (.Name "list" p) [.Call (.Name "range" p2) [a] [] pos2] [] pos) (dLRg1 ta) := by
  refine ⟨(pe_listRg hc hg hm (prg_1 hg2 hm2 ha.run na) nb).of fun σ H Q ⟨env, S, R, rs, h, k⟩ => ⟨env, S, _, rs, h, fun d S1 v H1 ⟨n, hd, h0, hn, q⟩ s1 r1 e1 => ?_⟩⟩
  subst hd
  cases r1
  refine ⟨n, rfl, ⟨by decide, by decide, by omega, by omega, by omega⟩, fun p np => k _ _ _ _ (q p (s1.fresh np)) (s1.lay np ⟨_, upd_same, ?_⟩) (.ref p) (e1.trans (.new np))⟩
  have := rg_relV (K := X.kk) (H := upd H1 p (.lst (rgV 0 n))) (m := 0) (n := n)
  rw [Int.sub_zero] at this
  exact this
theorem de_listRg2 {p p2 pos2 : Pos} (hc : X.calm = true) (hg : Gl X "list") (hm : X.mg "list" = none) (hg2 : Gl X "range") (hm2 : X.mg "range" = none) (ha : DE X a ta) (hb : DE X b tb) (na : starEach [a, b] X.env = (false, eval a X.env) :: starEach [b] X.env := by rfl) (na2 : starEach [b] X.env = (false, eval b X.env) :: starEach [] X.env := by rfl) (hp : (backTo pos2 (starEach [b] X.env)).any (fun x => x.1) = false := by rfl)
    (nb : starEach [.Call (.Name "range" p2) [a, b] [] pos2] X.env = (false, eval (.Call (.Name "range" p2) [a, b] [] pos2) X.env) :: starEach [] X.env := by rfl) : DE X (.Call (.Name "list" p) [.Call (.Name "range" p2) [a, b] [] pos2] [] pos) (dLRg2 ta tb) := by
  refine ⟨(pe_listRg hc hg hm (prg_2 hg2 hm2 ha.run hb.run na na2 hp) nb).of fun σ H Q ⟨env, S, R, rs, h, k⟩ => ⟨env, S, _, rs, h, fun d S1 v H1 q1 s1 r1 e1 => ⟨env, S1, _, rs.ext e1 s1, q1, fun e S2 u H2 ⟨m, n, hd, he, h0, h1, hn0, hn, q⟩ s2 r2 e2 => ?_⟩⟩⟩
  subst hd he
  cases r1
  cases r2
  refine ⟨m, n, rfl, rfl, ⟨by omega, by omega, by omega, by omega, by omega⟩, fun p np => k _ _ _ _ (q p (s2.fresh np)) (s2.lay np ⟨_, upd_same, rg_relV⟩) (.ref p) (e1.trans (e2.trans (.new np)))⟩
end
/-! ### defs -/
def dStart (n : Nat) (ds : List D) : Env := ds.map some ++ List.replicate (n - ds.length) none
def dFn (n : Nat) (B : DTS) : DRC := fun ds S R => B { nx := fun _ S' => R .non S', rt := R } (dStart n ds) S
section
variable {P : Program} {w : World} {K : PySem.W.Frag} {mg : Str → Option Value} {base : Heap}
theorem rs_start {K : KK} {H : Hp} {S : Sto} {N : List Str} {ds : List D} {vs : List V} (r : RDs K H ds vs) (s : RelS K S H) : RS K (L2.start N vs) H (dStart N.length ds) S := by
  have hl := r.length
  refine ⟨by unfold dStart L2.start; rw [List.length_append, List.length_append, List.length_map, List.length_map, List.length_replicate, List.length_replicate, hl], fun i d h => ?_, s⟩
  unfold dStart at h
  unfold L2.start
  by_cases hi : i < ds.length
  · rw [List.getElem?_append_left (by simpa using hi), List.getElem?_map] at h
    have hd : ds[i]? = some d := by
      cases e : ds[i]? with
      | none => rw [e] at h; cases h
      | some a => rw [e] at h; cases h; rfl
    obtain ⟨v, hv, rv⟩ := r.at hd
    exact ⟨v, by rw [List.getElem?_append_left (by rw [List.length_map]; omega), List.getElem?_map, hv]; rfl, rv⟩
  · rw [List.getElem?_append_right (by simpa using hi), List.getElem?_replicate] at h
    split at h <;> cases h
theorem fn_d {x : Str} {st : Stmt} {f : Addr} {fd : FuncData} {N ps : List Str} {k n : Nat} {B : DTS} (F : Fun K x x st f fd) (Sc : FnScope N ps (defScope st)) (hn : ps.length = n)
    (hbody : ∀ (cdv : Value) (A : Around) (outer : List PySem.Env) (s : Shared) (H : Hp) (E : XK), A.guards = some [] → Room k (A.deeper (envOfC x (defScope st) s.heap.objs.size f cdv)) →
      DSs (cxOf CX0 P w K mg base N x (defScope st) f cdv A outer s H E).nox (defBody st) B) : FnG P w K mg base (k + 1) f fd ps (lP ⟨P, w, K⟩ n (dFn N.length B)) := by
  refine okG F Sc (fun vs H Q E h => by rw [hn]; exact h.1) fun cdv A outer s H vs Q E hg hr h => ⟨_, (hbody cdv A outer s H E hg hr).run, ?_⟩
  obtain ⟨_, ds, S, R, r, s1, q, k⟩ := h
  exact ⟨_, S, _, rs_start r s1, q, fun env' S' σ' H' q' r' e' => k _ _ _ _ q' r'.sto .non e', fun d S' v H' q' s' r' e' => k _ _ _ _ q' s' r' e', fun _ _ _ _ q' => q'.elim, fun _ _ _ _ q' => q'.elim⟩
theorem DFn.mk' {k n : Nat} {x : Str} {r : DRC} {f : Addr} {fd : FuncData} {ps : List Str} (F : FnG P w K mg base k f fd ps (lP ⟨P, w, K⟩ n r)) (hm : mg x = some (.ref f)) (hk : PySem.W.keepIn K (.ref f) = true) (hb : Binds K fd ps []) : DFn P w K mg base k x n r :=
  ⟨f, fd, ps, F, hm, hk, hb⟩
theorem lP_law {K : KK} {H : Hp} {a : Addr} {ns : List Int} {r : DRC} (hO : Only H) (h : SqL K.k H a (ns.map V.int)) (q : r [.rol (intsD ns)] (fun _ => none) (fun d _ => d = .bl true)) : lP K 1 r [.ref a] H (fun v _ => v = .bl true) (fun _ _ _ => False) := by
  refine ⟨rfl, [.rol (intsD ns)], fun _ => none, _, .cons (.rol ?_ (.ints ns)) .nil, fun a o e => (nomatch e), q, fun z S' v H' e _ rz _ => ?_⟩
  · rcases h with h | h
    · rcases h with h | ⟨o, h⟩
      · rcases hO a with z | ⟨o, u, z⟩
        · rw [h] at z; cases z
        · rw [h] at z; cases z
      · exact .inl ⟨o, h⟩
    · exact .inr h
  · subst e
    cases rz
    rfl
end
end Sv

/-! The data layer: three names at once, augmented stores. -/
namespace Sv
open PySem PySem.Spec PyProof.Rows L2
section
variable {X : Cx} {pos : Pos}
theorem RDs.inv3 {K : KK} {H : Hp} {d e f : D} {vs : List V} (h : RDs K H [d, e, f] vs) : ∃ v u w, vs = [v, u, w] ∧ RD K H d v ∧ RD K H e u ∧ RD K H f w := by
  cases h with
  | cons r t =>
    obtain ⟨u, w, rfl, q, s⟩ := t.inv2
    exact ⟨_, _, _, rfl, r, q, s⟩
theorem ds_par3 {i j l : Nat} {x y z : Str} {a b c : Expr} {ta : DTA} {px py pz pt : Pos} {kt k2 pt2} (hc : X.calm = true) (hN : X.N.Nodup) (hi : X.N[i]? = some x) (hj : X.N[j]? = some y) (hl : X.N[l]? = some z) (hij : i ≠ j) (hil : i ≠ l) (hjl : j ≠ l)
    (hx : X.env.scope.names.lookup x = some .local) (hy : X.env.scope.names.lookup y = some .local) (hz : X.env.scope.names.lookup z = some .local) (ha : DA X [a, b, c] ta)
    (hw : swappedStores [.Tuple [.Name x px, .Name y py, .Name z pz] kt pt] (.Tuple [a, b, c] k2 pt2) X.env = pure (some [x, y, z]))
    (hs : swapsWithSole [.Tuple [.Name x px, .Name y py, .Name z pz] kt pt] (.Tuple [a, b, c] k2 pt2) pos.line X.env = pure false := by rfl) :
    DS X (.Assign [.Tuple [.Name x px, .Name y py, .Name z pz] kt pt] (.Tuple [a, b, c] k2 pt2) pos) (dAsg (dTup ta) (dUnp 3 (dgCons (dgName i) (dgCons (dgName j) (dgCons (dgName l) dgNil))))) := by
  refine ⟨(ps_par3 hc hN hi hj hl hij hil hjl hx hy hz ha.run hw hs).of fun σ H B ⟨env, S, C, rs, h, k, _⟩ => ⟨env, S, _, rs, h, fun ds S1 vs H1 ⟨_, ds', hl, hd, q⟩ s1 r1 e1 => ?_⟩⟩
  have hdd : ds = ds' := by
    rcases hd with (z | z) | ⟨a, z, _⟩
    · cases z; rfl
    · cases z
    · cases z
  subst hdd
  obtain ⟨d1, r', rfl, d2, r'', rfl, d3, r3, rfl, rfl, q⟩ := q
  obtain ⟨v, u, w, rfl, rv, ru, rw'⟩ := r1.inv3
  exact ⟨v, u, w, rfl, k _ _ _ _ q ((((rs.ext e1 s1).set i rv).set j ru).set l rw') e1⟩
def rI2 (f : Int → Int → Int) : DR2 := fun x y S R => match x, y with
  | .int i, .int j => R (.int (f i j)) S
  | _, _ => False
theorem o_ip {op : Operator} {f : Int → Int → Int} (ho : PIp X op (ipI f)) : PIp X op (l2 X.kk (rI2 f)) := by
  intro pins s σ H x y v u Q I rx ry ⟨d, e, S, R, r1, r2, s1, h, k⟩
  cases r1 with
  | int i =>
    cases r2 with
    | int j => exact ho pins s σ H _ _ v u Q I rx ry ⟨i, j, rfl, rfl, k _ _ _ _ h s1 (.int _) (.refl H)⟩
    | _ => exact h.elim
  | _ => exact h.elim
theorem o_iadd : PIp X .Add (l2 X.kk (rI2 fun i j => i + j)) := o_ip ip_add
theorem o_isub : PIp X .Sub (l2 X.kk (rI2 fun i j => i - j)) := o_ip ip_sub
/-- tuple * int, known to bear no dict -/
def rRepF (K : PySem.W.Frag) : R2 := fun x y H Q => ∃ l k xs, x = .ref l ∧ y = .int k ∧ SqT K H l xs ∧ xs ≠ [] ∧ 2 ≤ k ∧ k ≤ 1000 ∧ xs.length ≤ 1000 ∧ ∀ (p : Addr) (o : Obj), H p = none → o.dict = none → Q (.ref p) (upd H p (.frz o (.tup (List.replicate k.toNat xs).flatten)))
theorem op_repF : OpR X (binaryOp .Mult) (rRepF X.K) := by
  intro pins s σ H x y v u Q I rx ry h
  obtain ⟨l, k, xs, rfl, rfl, hT, hne, h1, h2, hz, q⟩ := h
  cases rx
  obtain ⟨t, rfl⟩ := ry
  obtain ⟨its, r, ⟨⟨cls, dd, data, sl⟩, ho, hc, n, hd⟩, hs⟩ := I.tuple hT
  simp only at hc hd
  subst hc hd
  have e1 : its.length = xs.length := r.length.symm
  have ne : its.toArray.isEmpty = false := by
    cases its with
    | nil => exact absurd (List.eq_nil_of_length_eq_zero e1.symm) hne
    | cons a b => rfl
  have e2 : its.toArray.size = xs.length := by rw [List.size_toArray, e1]
  have a1 : k.toNat * xs.length ≤ 1000 * 1000 := Nat.mul_le_mul (by omega) hz
  have a2 : ((xs.length : Nat) : Int) * k ≤ 1000000 := by
    have b1 : ((xs.length : Nat) : Int) * k ≤ 1000 * k := Int.mul_le_mul_of_nonneg_right (by omega) (by omega)
    omega
  have fl : (List.replicate k.toNat its).flatten.length ≤ sizeLine := by
    rw [PyProof.Rows.lm_len_rep_flat, e1, sizeLine_eq]
    omega
  have c4 : Builtin.Tuple.tupleTooMany (((its.toArray.size : Nat) : Int) * k) = false := by
    unfold Builtin.Tuple.tupleTooMany
    rw [sizeLine_eq, e2]
    exact decide_eq_false (by omega)
  refine wpAny_binaryOp_repeat_ref (T := "tuple") (U := "int") (by decide) ⟨_, ho, rfl⟩ (fun s' => typeIs_int s' k t) noFill_tuple_mul F.fills_int_mul F.slot_int_rmul repeat_tuple F.slot_int_index.lookup
    (call_meets F.slot_int_rmul (typeIs_int s k t) F.entry_int_rmul (F.args_int_rmul_2 _ _) (int_rmul_tuple k t l its.toArray n dd sl)
      ⟨ho, rfl, ⟨_, ho, rfl⟩, call_meets F.slot_tuple_mul ⟨_, ho, rfl⟩ F.entry_tuple_mul (F.args_tuple_mul_2 _ _)
        (tuple_mulW l its.toArray n dd sl k t (by rw [decide_eq_false (by omega), decide_eq_false (by omega)] <;> rfl) (by rw [ne, Bool.false_or]; exact beq_eq_false_iff_ne.mpr (by omega)) (by rw [ne, Bool.or_false]; exact decide_eq_false (by omega)) (by rw [e2]; omega) c4 (by rw [size_rep, List.size_toArray]; exact fl)) ⟨ho, ?_⟩⟩)
  rw [size_rep]
  have hg := Heap.get?_push_size s.heap (o := { cls := .type "tuple", data := .seq (List.replicate k.toNat its).flatten.toArray }) rfl
  refine ⟨.ref s.heap.objs.size, _, I.laid (t' := s.toks) (o := .frz { cls := .type "tuple", data := .seq (List.replicate k.toNat its).flatten.toArray } (.tup (List.replicate k.toNat xs).flatten)) (fun b ob q => Heap.get?_push_of_some _ q) (Nat.le_refl _) ?_, rfl, q _ _ (I.hok.fresh (Nat.le_refl _)) rfl⟩
  exact ⟨hg, by rw [PyProof.Rows.lm_len_rep_flat, sizeLine_eq]; omega, _, r.rep k.toNat, ⟨_, hg, rfl, _, rfl⟩⟩
theorem RDs.rep {K : KK} {H : Hp} {ds : List D} {vs : List V} (r : RDs K H ds vs) : ∀ n : Nat, RDs K H (List.replicate n ds).flatten (List.replicate n vs).flatten
  | 0 => .nil
  | n + 1 => by
    rw [List.replicate_succ, List.replicate_succ, List.flatten_cons, List.flatten_cons]
    exact r.append (RDs.rep r n)
theorem rep_one {α : Type} (xs : List α) : (List.replicate (1 : Int).toNat xs).flatten = xs := by
  show (List.replicate 1 xs).flatten = xs
  simp
theorem o_mul : OpR X (binaryOp .Mult) (l2 X.kk rMul) := by
  intro pins s σ H x y v u Q I rx ry ⟨d, e, S, R, r1, r2, s1, h, k⟩
  cases r1 with
  | int i =>
    cases r2 with
    | int j => exact op_mul pins s σ H _ _ v u Q I rx ry ⟨i, j, rfl, rfl, h.1, k _ _ _ _ h.2 s1 (.int _) (.refl H)⟩
    | _ => exact h.elim
  | tup t q =>
    cases r2 with
    | int j =>
      obtain ⟨hne, h1, h2, hz, qq⟩ := h
      by_cases hj : j = 1
      · subst hj
        rw [rep_one] at qq
        exact op_rep1 pins s σ H _ _ v u Q I rx ry ⟨_, _, rfl, rfl, t.sqT, k _ _ _ _ qq s1 (.tup t q) (.refl H)⟩
      · have hl := q.length
        refine op_repF pins s σ H _ _ v u Q I rx ry ⟨_, j, _, rfl, rfl, t.sqT, fun z => hne (List.eq_nil_of_length_eq_zero (by rw [hl, z]; rfl)), by omega, h2, hl ▸ hz, fun p o np ho => k _ _ _ _ qq (s1.new np) (.tup (.new ho) ((q.rep _).ext (.new np))) (.new np)⟩
    | _ => exact h.elim
  | ref a =>
    cases r2 with
    | int j =>
      obtain ⟨xs, h1, h0, hk, hz, qq⟩ := h
      obtain ⟨vs, e, q⟩ := s1.lst h1
      refine op_rep pins s σ H _ _ v u Q I rx ry ⟨a, j, vs, rfl, rfl, e, by omega, by omega, ?_, fun p np => k _ _ _ _ (qq p (s1.fresh np)) (s1.lay np ⟨_, upd_same, (q.rep _).ext (.new np)⟩) (.ref p) (.new np)⟩
      rw [← q.length]
      have : xs.length * j.toNat ≤ 1000 * 1000 := Nat.mul_le_mul hz (by omega)
      exact Nat.le_trans this (by decide)
    | _ => exact h.elim
  | _ => exact h.elim
end
end Sv

/-! The data layer: defs without texts, defs with a star, dicts that are only read, sets of pairs. -/
namespace Sv
open PySem PySem.Spec PyProof.Rows L2
section
variable {P : Program} {w : World} {K : PySem.W.Frag} {mg : Str → Option Value} {base : Heap}
theorem fn_o {x : Str} {st : Stmt} {f : Addr} {fd : FuncData} {N ps : List Str} {k n : Nat} {B : DTS} (F : Fun K x x st f fd) (Sc : FnScope N ps (defScope st)) (hn : ps.length = n)
    (hbody : ∀ (cdv : Value) (A : Around) (outer : List PySem.Env) (s : Shared) (H : Hp) (E : XK), Room k (A.deeper (envOfC x (defScope st) s.heap.objs.size f cdv)) →
      DSs (cxOf CX0 P w K mg base N x (defScope st) f cdv A outer s H E).nox (defBody st) B) : FnOk P w K mg base CX0 (k + 1) f fd ps (lP ⟨P, w, K⟩ n (dFn N.length B)) := by
  refine F.ok Sc (fun vs H Q E h => by rw [hn]; exact h.1) fun cdv A outer s H vs Q E hr h => ⟨_, (hbody cdv A outer s H E hr).run, ?_⟩
  obtain ⟨_, ds, S, R, r, s1, q, k⟩ := h
  exact ⟨_, S, _, rs_start r s1, q, fun env' S' σ' H' q' r' e' => k _ _ _ _ q' r'.sto .non e', fun d S' v H' q' s' r' e' => k _ _ _ _ q' s' r' e', fun _ _ _ _ q' => q'.elim, fun _ _ _ _ q' => q'.elim⟩
theorem DFo.mk' {k n : Nat} {x : Str} {r : DRC} {f : Addr} {fd : FuncData} {ps : List Str} (F : FnOk P w K mg base CX0 k f fd ps (lP ⟨P, w, K⟩ n r)) (hm : mg x = some (.ref f)) (hk : PySem.W.keepIn K (.ref f) = true) (hb : Binds K fd ps []) : DFo P w K mg base k x n r :=
  ⟨f, fd, ps, F, hm, hk, hb⟩
/-- a def with some parameters and a star -/
def BSt (fd : FuncData) (ps : List Str) (pv : Str) : Prop := ∀ us rest : List Value, us.length = ps.length → bindArgs fd ⟨us ++ rest, []⟩ = (newTuple rest >>= fun t => pure (ps.zip us ++ [(pv, t)]))
def dFnS (m n : Nat) (B : DTS) : DRC := fun ds S R => m ≤ ds.length ∧ ds.length ≤ 1000 ∧ dFn n B (ds.take m ++ [.wtup (ds.drop m)]) S R
theorem fn_s {x : Str} {st : Stmt} {f : Addr} {fd : FuncData} {N ps : List Str} {pv : Str} {k m : Nat} {B : DTS} (F : Fun K x x st f fd) (Sc : FnScope N (ps ++ [pv]) (defScope st)) (hb : BSt fd ps pv) (hm : ps.length = m)
    (hbody : ∀ (cdv : Value) (A : Around) (outer : List PySem.Env) (s : Shared) (H : Hp) (E : XK), Room k (A.deeper (envOfC x (defScope st) s.heap.objs.size f cdv)) →
      DSs (cxOf CX0 P w K mg base N x (defScope st) f cdv A outer s H E).nox (defBody st) B) : FnR P w K mg base CX0 (k + 1) f (fun vs H Q _ => lC ⟨P, w, K⟩ (dFnS m N.length B) vs H Q) := by
  obtain ⟨oc, od, kV, doc, pm, an, cdv, ct, osl, rfl, lk, hcd⟩ := F.ex
  have Gs := StX.fn_star (P := P) (w := w) (mg := mg) (base := base) (CX := CX0) (ps := ps) (pv := pv) (k := k) (sp := fun vs H Q _ => lC ⟨P, w, K⟩ (dFn N.length B) vs H Q) lk hcd Sc StX.cxUp_none hb (fun A outer s H vs Q E hr hsp => by
    obtain ⟨ds, S, R, r, s1, q, kk⟩ := hsp
    exact ⟨_, ((hbody cdv A outer s H E hr).run).nox, _, S, _, rs_start r s1, q, fun env' S' σ' H' q' r' e' => kk _ _ _ _ q' r'.sto .non e', fun d S' v H' q' s' r' e' => kk _ _ _ _ q' s' r' e', fun _ _ _ _ q' => q'.elim, fun _ _ _ _ q' => q'.elim⟩)
  refine Gs.imp fun vs H Q E h => ?_
  obtain ⟨ds, S, R, r, s1, ⟨h1, h2, q⟩, kk⟩ := h
  have hl := r.length
  refine ⟨vs.take m, vs.drop m, (List.take_append_drop m vs).symm, by rw [List.length_take, hm]; omega, ?_, fun p np => ?_⟩
  · rw [List.length_drop]
    exact Nat.le_trans (by omega : vs.length - m ≤ 1000) (by decide)
  · have e : Ext H (upd H p (.tup (vs.drop m))) := .new np
    exact ⟨ds.take m ++ [.wtup (ds.drop m)], S, R, ((r.take m).ext e).append (.cons (.wtup upd_same ((r.drop m).ext e)) .nil), s1.new np, q, fun z S' v H' q' s' r' e' => kk _ _ _ _ q' s' r' (e.trans e')⟩
theorem DFs.mk' {k : Nat} {x : Str} {r : DRC} {f : Addr} (F : FnR P w K mg base CX0 k f (fun vs H Q _ => lC ⟨P, w, K⟩ r vs H Q)) (hm : mg x = some (.ref f)) (hk : PySem.W.keepIn K (.ref f) = true) : DFs P w K mg base k x r := ⟨f, F, hm, hk⟩
end
section
variable {X : Cx} {a b e : Expr} {es : List Expr} {ta tb te : DTE} {tl : DTA} {pos p : Pos}
def dStarA (te : DTE) (t : DTA) : DTA := fun env S R => te env S fun d S1 => ∃ xs, seqOf S1 d = some xs ∧ t env S1 fun ys S2 => R (xs ++ ys) S2
theorem da_star (he : DE X e te) (hr : DA X es tl) (hs : starEach (.Starred e p :: es) X.env = (true, eval e X.env) :: starEach es X.env := by rfl) : DA X (.Starred e p :: es) (dStarA te tl) := by
  refine ⟨(StX.pa_star he.run hr.run hs).of fun σ H Q ⟨env, S, R, rs, h, k⟩ => ⟨env, S, _, rs, h, fun d S1 v H1 ⟨xs, hx, q⟩ s1 r1 e1 => ?_⟩⟩
  obtain ⟨pp, vs, rfl, hq, r⟩ := seq_rel s1 r1 hx
  exact ⟨pp, vs, rfl, hq.symm, env, S1, _, rs.ext e1 s1, q, fun ys S2 us H2 q2 s2 r2 e2 => k _ _ _ _ q2 s2 ((r.ext e2).append r2) (e1.trans e2)⟩
/-! ### dicts that are only read -/
def Sto.rem (S : Sto) (a : Addr) : Sto := fun b => if b = a then none else S b
theorem Sto.put_rem {S : Sto} {a : Addr} {o : Ob} (h : S a = none) : (S.put a o).rem a = S := by
  funext b
  unfold Sto.rem Sto.put
  by_cases z : b = a
  · subst z; rw [if_pos rfl, h]
  · rw [if_neg z, if_neg z]
theorem RelS.rem {K : KK} {S : Sto} {H : Hp} {p : Addr} {u w : HO} (h : RelS K S H) (n : H p = some w) (m : Mut (some w)) : RelS K (S.rem p) (upd H p u) := fun a o e => by
  unfold Sto.rem at e
  by_cases z : a = p
  · rw [if_pos z] at e; cases e
  · rw [if_neg z] at e
    exact (h a o e).ext (.put n m) (upd_ne z)
def kD : Key → D
  | .inl i => .int i
  | .inr x => .str x
theorem kD_inv {K : KK} {H : Hp} {k : Key} {v : V} (r : RD K H (kD k) v) : v = kV k := by
  cases k with
  | inl i => cases r; rfl
  | inr x => cases r; rfl
def putD (kvs : List (Key × D)) (k : Key) (v : D) : List (Key × D) :=
  if (kvs.any fun kv => decide (kv.1 = k)) = true then kvs.map (fun kv => if kv.1 = k then (kv.1, v) else kv) else kvs ++ [(k, v)]
def getD' (kvs : List (Key × D)) (k : Key) : Option D := (kvs.find? fun kv => decide (kv.1 = k)).map (·.2)
theorem RDk.any {K : KK} {H : Hp} {k : Key} : ∀ {ds : List (Key × D)} {vs : List (Key × V)}, RDk K H ds vs → (ds.any fun kv => decide (kv.1 = k)) = (vs.any fun kv => decide (kv.1 = k))
  | _, _, .nil => rfl
  | _, _, .cons r t => by rw [List.any_cons, List.any_cons, RDk.any t]
theorem RDk.app {K : KK} {H : Hp} : ∀ {ds es : List (Key × D)} {vs ws : List (Key × V)}, RDk K H ds vs → RDk K H es ws → RDk K H (ds ++ es) (vs ++ ws)
  | _, _, _, _, .nil, s => s
  | _, _, _, _, .cons r t, s => .cons r (RDk.app t s)
theorem RDk.mapK {K : KK} {H : Hp} {k : Key} {d : D} {v : V} (h : RD K H d v) : ∀ {ds : List (Key × D)} {vs : List (Key × V)}, RDk K H ds vs → RDk K H (ds.map fun kv => if kv.1 = k then (kv.1, d) else kv) (vs.map fun kv => if kv.1 = k then (kv.1, v) else kv)
  | _, _, .nil => .nil
  | _, _, @RDk.cons _ _ k' d' ds v' vs r t => by
    rw [List.map_cons, List.map_cons]
    by_cases z : k' = k
    · subst z
      simp only [if_true]
      exact .cons h (RDk.mapK h t)
    · simp only [z, if_false]
      exact .cons r (RDk.mapK h t)
theorem RDk.put {K : KK} {H : Hp} {k : Key} {d : D} {v : V} (h : RD K H d v) {ds : List (Key × D)} {vs : List (Key × V)} (r : RDk K H ds vs) : RDk K H (putD ds k d) (putK vs k v) := by
  unfold putD putK
  rw [r.any]
  by_cases z : (vs.any fun kv => decide (kv.1 = k)) = true
  · rw [if_pos z, if_pos z]
    exact r.mapK h
  · rw [if_neg z, if_neg z]
    exact r.app (.cons h .nil)
theorem RDk.get {K : KK} {H : Hp} {k : Key} : ∀ {ds : List (Key × D)} {vs : List (Key × V)}, RDk K H ds vs → (∀ d, getD' ds k = some d → ∃ v, valV vs k = some v ∧ RD K H d v) ∧ (getD' ds k = none → valV vs k = none)
  | _, _, .nil => ⟨fun d h => (nomatch h), fun _ => rfl⟩
  | _, _, @RDk.cons _ _ k' d' ds v' vs r t => by
    have ih := RDk.get (k := k) t
    unfold getD' valV at ih ⊢
    rw [List.find?_cons, List.find?_cons]
    by_cases z : k' = k
    · subst z
      simp only [decide_true]
      exact ⟨fun d h => ⟨v', rfl, by cases h; exact r⟩, fun h => (nomatch h)⟩
    · simp only [z, decide_false]
      exact ih
/-- {key: value for target in iter if ..}, read from then on -/
def dDc (ti : DTI) (g : DTG) (tt : DTT) (tk tv : DTE) (us : List Nat) : DTE := fun env S R => ti env S fun w S1 => ∀ p, S1 p = none → ∃ Pv : Nat → Sto → Prop, Pv 0 (S1.put p (.dK [])) ∧ (∀ i S, i ≤ w.items.length → Pv i S → w.live S) ∧
  (∀ i d S, w.items[i]? = some d → Pv i S → g d (dwipe env us) S fun env' S' => tt env' S' fun b S2 => if b = true then tk env' S2 fun y S3 => tv env' S3 fun z S4 => ∃ kvs k, y = kD k ∧ S4 p = some (.dK kvs) ∧ kvs.length < 1000000 ∧ Pv (i + 1) (S4.put p (.dK (putD kvs k z))) else Pv (i + 1) S2) ∧
  ∀ S, Pv w.items.length S → ∃ kvs, S p = some (.dK kvs) ∧ R (.dct kvs) (S.rem p)
theorem lE_dc {K : KK} {b : Bool} {ti : DTI} {g : DTG} {tt : DTT} {tk tv : DTE} {us vs : List Nat} {σ : L2.St} {H : Hp} {Q : VK} (hv : ∀ i ∈ vs, i ∈ us) (h : lE K (dDc ti g tt tk tv us) σ H Q) : tFrz (tDc (lI K b ti) (lG K b vs g) (lT K tt) (lE K tk) (lE K tv) us) σ H Q := by
  obtain ⟨env, S, R, rs, h, k⟩ := h
  refine ⟨env, S, _, rs, h, fun w S1 J H1 q s1 e1 st p np => ?_⟩
  obtain ⟨Pv, p0, lv, step, done⟩ := q p (s1.fresh np)
  obtain ⟨G, Y, wk, hG, hY⟩ := st.ex
  have s1' : RelS K (S1.put p (.dK [])) (upd H1 p (.dK [])) := s1.lay np ⟨_, upd_same, .nil⟩
  have e1' : Ext H1 (upd H1 p (.dK [])) := .new np
  refine dc_it wk (fun i H' => ∃ S', RelS K S' H' ∧ Ext H1 H' ∧ Pv i S') ⟨_, s1', e1', p0⟩ (fun i H' hi ⟨S', s', e', p'⟩ => hG H' S' e' s' (lv i S' hi p')) ?_ ?_
  · rintro i x H2 H3 hi ⟨S2, s2, e2, p2⟩ y
    obtain ⟨e3, hS, d, hd, rd⟩ := hY i H2 x H3 e2 y
    have e13 := e1.trans (e2.trans e3)
    refine ⟨d, dwipe env us, S2, _, rd, (rs.ext e13 (hS S2 s2)).wipe us, step i d S2 hd p2, fun env4 S4 σ4 H4 q4 rs4 e4 o4 => ⟨wipe_off o4 hv, env4, S4, _, rs4, q4, fun c S5 H5 q5 s5 e5 => ?_⟩⟩
    cases c with
    | false => exact ⟨S5, s5, e2.trans (e3.trans (e4.trans e5)), q5⟩
    | true =>
      refine ⟨env4, S5, _, rs4.ext e5 s5, q5, fun y S6 v H6 q6 s6 r6 e6 => ⟨env4, S6, _, rs4.ext (e5.trans e6) s6, q6, fun z S7 u H7 ⟨kvs, kk, hy, h1, h2, q7⟩ s7 r7 e7 => ?_⟩⟩
      subst hy
      obtain ⟨ws, h3, h4⟩ := s7 p _ h1
      have e8 : Ext H7 (upd H7 p (.dK (putK ws kk u))) := .put h3 trivial
      exact ⟨ws, kk, kD_inv r6, h3, Nat.lt_of_lt_of_le (h4.length ▸ h2) (by decide), _, s7.put (o := .dK (putD kvs kk z)) h3 trivial ⟨_, upd_same, (h4.put r7).ext e8⟩, e2.trans (e3.trans (e4.trans (e5.trans (e6.trans (e7.trans e8))))), q7⟩
  · rintro H2 ⟨S2, s2, e2, p2⟩
    obtain ⟨kvs, h1, q⟩ := done S2 p2
    obtain ⟨ws, h3, h4⟩ := s2 p _ h1
    refine ⟨p, _, rfl, h3, trivial, fun od => ?_⟩
    have e3 : Ext H2 (upd H2 p (.frz od (.dK ws))) := .put h3 trivial
    exact k _ _ _ _ q (s2.rem h3 trivial) (.dct upd_same (h4.ext e3)) (e1.trans (e2.trans e3))
theorem de_dc {kx vx tg iter : Expr} {ifs : List Expr} {scope : Scope} {own : List (Str × Nat)} {vs : List Nat} {bb : Bool} {ti : DTI} {g : DTG} {tt : DTT} {tk tv : DTE} (hc : X.calm = true) (hN : X.N.Nodup) (hi : DI X bb tg iter ti) (ok : BlkOk X.N X.env.scope scope own) (hv : ∀ i ∈ vs, i ∈ own.map (·.2))
    (hg : ∀ (s : Shared) (H : Hp) (C : Addr) (cl : List (Str × Addr)) (fp : List Addr), DG (X.blk s H scope (compEnvC scope cl C X.env) fp) bb vs tg g) (ht : ∀ (s : Shared) (H : Hp) (C : Addr) (cl : List (Str × Addr)) (fp : List Addr), DTs (X.blk s H scope (compEnvC scope cl C X.env) fp) ifs tt)
    (hk : ∀ (s : Shared) (H : Hp) (C : Addr) (cl : List (Str × Addr)) (fp : List Addr), DE (X.blk s H scope (compEnvC scope cl C X.env) fp) kx tk)
    (he : ∀ (s : Shared) (H : Hp) (C : Addr) (cl : List (Str × Addr)) (fp : List Addr), DE (X.blk s H scope (compEnvC scope cl C X.env) fp) vx tv) (hs : ∀ x, foldedSetIterable iter X.env x = pure x := by intro _; rfl) :
    DE X (.DictComp kx vx [⟨tg, iter, ifs, 0⟩] scope pos) (dDc ti g tt tk tv (own.map (·.2))) :=
  ⟨(pe_frz (pe_dc (g := lG X.kk bb vs g) (tt := lT X.kk tt) (tk := lE X.kk tk) (tv := lE X.kk tv) hc hN hi.run ok (fun s H C cl fp => (hg s H C cl fp).run) (fun s H C cl fp => (ht s H C cl fp).run) (fun s H C cl fp => (hk s H C cl fp).run) (fun s H C cl fp => (he s H C cl fp).run) hs)).of fun _ _ _ => lE_dc hv⟩
/-- for v in d.values(), for k, v in d.items() -/
def diValues (te : DTE) : DTI := fun env S R => te env S fun d S1 => ∃ kvs, d = .dct kvs ∧ R ⟨kvs.map (·.2), fun _ => True⟩ S1
def diItems (te : DTE) : DTI := fun env S R => te env S fun d S1 => ∃ kvs, d = .dct kvs ∧ R ⟨kvs.map fun kv => .tup [kD kv.1, kv.2], fun _ => True⟩ S1
def diKeys (te : DTE) : DTI := fun env S R => te env S fun d S1 => ∃ kvs, d = .dct kvs ∧ R ⟨kvs.map fun kv => kD kv.1, fun _ => True⟩ S1
theorem rd_kD {K : KK} {H : Hp} (k : Key) : RD K H (kD k) (kV k) := by
  cases k with
  | inl i => exact .int i
  | inr x => exact .str x
theorem di_values {tg : Expr} {apos cpos : Pos} (he : DE X e te) (hbase : attributeBase e "values" X.env (eval e X.env) = eval e X.env := by rfl) (hline : (apos.endLine == cpos.line) = true := by rfl) : DI X true tg (.Call (.Attribute e "values" apos) [] [] cpos) (diValues te) := by
  refine ⟨(pi_values he.run hbase hline).of fun σ H R ⟨env, S, R0, rs, h, k⟩ => ⟨env, S, _, rs, h, fun d S1 v H1 ⟨kvs, hd, q⟩ s1 r1 e1 => ?_⟩⟩
  subst hd
  cases r1 with
  | @dct a o _ vs ht r =>
    refine ⟨a, o, vs, rfl, ht, k _ _ _ _ q s1 e1 ⟨fun H => H a = some (.frz o (.dK vs)), fun i H x H' => H' = H ∧ ∃ k, vs[i]? = some (k, x), ?_, fun H S e _ _ => e.1 _ _ _ ht, ?_⟩⟩
    · have w := walk_values (d := a) (o := o) (kvs := vs)
      have : (kvs.map (·.2)).length = vs.length := by rw [List.length_map, r.length]
      rw [this]
      exact w
    · rintro i H x H' e ⟨rfl, kk, hx⟩
      obtain ⟨d, h1, h2⟩ := (r.ext e).atv hx
      exact ⟨.refl _, fun S s => s, d, by show (kvs.map (·.2))[i]? = _; rw [List.getElem?_map, h1]; rfl, .inl h2⟩
theorem di_items {elts : List Expr} {kk : Nat} {tpos apos cpos : Pos} (he : DE X e te) (hbase : attributeBase e "items" X.env (eval e X.env) = eval e X.env := by rfl) (hline : (apos.endLine == cpos.line) = true := by rfl) :
    DI X false (.Tuple elts kk tpos) (.Call (.Attribute e "items" apos) [] [] cpos) (diItems te) := by
  refine ⟨(pi_items he.run hbase hline).of fun σ H R ⟨env, S, R0, rs, h, k⟩ => ⟨env, S, _, rs, h, fun d S1 v H1 ⟨kvs, hd, q⟩ s1 r1 e1 => ?_⟩⟩
  subst hd
  cases r1 with
  | @dct a o _ vs ht r =>
    refine ⟨a, o, vs, rfl, ht, k _ _ _ _ q s1 e1 (steps_pair walk_items (by rw [List.length_map, r.length]) (fun H S e _ _ => e.1 _ _ _ ht) fun i H x y hi e g hx hy => ?_)⟩
    cases hv : vs[i]? with
    | none => rw [hv] at hx; cases hx
    | some kv =>
      obtain ⟨kk, z⟩ := kv
      rw [hv] at hx hy
      cases hx
      cases hy
      obtain ⟨d, h1, h2⟩ := (r.ext e).atv hv
      exact ⟨kD kk, d, by rw [List.getElem?_map, h1]; rfl, rd_kD kk, h2⟩
theorem di_keys {tg : Expr} (he : DE X e te) : DI X true tg e (diKeys te) := by
  refine ⟨(pi_keys he.run).of fun σ H R ⟨env, S, R0, rs, h, k⟩ => ⟨env, S, _, rs, h, fun d S1 v H1 ⟨kvs, hd, q⟩ s1 r1 e1 => ?_⟩⟩
  subst hd
  cases r1 with
  | @dct a o _ vs ht r =>
    refine ⟨a, o, rfl, .inl ⟨vs, ht, k _ _ _ _ q s1 e1 ⟨fun H => H a = some (.frz o (.dK vs)), fun i H x H' => H' = H ∧ ∃ k v, vs[i]? = some (k, v) ∧ x = kV k, ?_, fun H S e _ _ => e.1 _ _ _ ht, ?_⟩⟩⟩
    · have w := walk_keys (d := a) (o := o) (kvs := vs)
      have : (kvs.map fun kv => kD kv.1).length = vs.length := by rw [List.length_map, r.length]
      rw [this]
      exact w
    · rintro i H x H' e ⟨rfl, kk, z, hx, rfl⟩
      obtain ⟨d, h1, h2⟩ := (r.ext e).atv hx
      exact ⟨.refl _, fun S s => s, kD kk, by show (kvs.map fun kv => kD kv.1)[i]? = _; rw [List.getElem?_map, h1]; rfl, .inl (rd_kD kk)⟩
/-- what a dict holds -/
def dictOf (S : Sto) : D → Option (List (Key × D))
  | .dct kvs => some kvs
  | .ref a => match S a with
    | some (.dK kvs) => some kvs
    | _ => none
  | _ => none
theorem dict_rel {K : KK} {S : Sto} {H : Hp} {d : D} {v : V} {kvs : List (Key × D)} (s : RelS K S H) (r : RD K H d v) (h : dictOf S d = some kvs) : ∃ a vs, v = .ref a ∧ Rd H a (.dK vs) ∧ RDk K H kvs vs := by
  cases r with
  | dct t q => cases h; exact ⟨_, _, rfl, .inr ⟨_, t⟩, q⟩
  | ref a =>
    have h : (match S a with
      | some (.dK kvs) => some kvs
      | _ => none) = some kvs := h
    split at h
    · rename_i e
      cases h
      obtain ⟨vs, h1, h2⟩ := s a _ e
      exact ⟨a, vs, rfl, .inl h1, h2⟩
    · cases h
  | _ => cases h
/-- d[k] -/
def dDix (ta tb : DTE) : DTE := fun env S R => ta env S fun x S1 => tb env S1 fun y S2 => ∃ kvs k d, dictOf S2 x = some kvs ∧ y = kD k ∧ getD' kvs k = some d ∧ R d S2
theorem de_dix (hu : X.A.units + 1 < cLine) (ha : DE X a ta) (hb : DE X b tb) (hs : NoSl b := by intro _ _; rfl) : DE X (.Subscript a b pos) (dDix ta tb) := by
  refine ⟨(pe_dget hu ha.run hb.run hs).of fun σ H Q ⟨env, S, R, rs, h, k⟩ => ⟨env, S, _, rs, h, fun x S1 v H1 q1 s1 r1 e1 => ⟨env, S1, _, rs.ext e1 s1, q1, fun y S2 u H2 ⟨kvs, kk, d, hx, hy, hd, q⟩ s2 r2 e2 => ?_⟩⟩⟩
  subst hy
  obtain ⟨aa, vs, rfl, h1, h2⟩ := dict_rel s2 (r1.ext e2) hx
  obtain ⟨w, h3, h4⟩ := h2.get.1 d hd
  cases kD_inv r2
  exact ⟨aa, w, rfl, .inl ⟨vs, kk, h1, rfl, h3.symm⟩, k _ _ _ _ q s2 h4 (e1.trans e2)⟩
/-- k in d -/
def dDin (n : Bool) (ta tb : DTE) : DTE := fun env S R => ta env S fun y S1 => tb env S1 fun x S2 => ∃ kvs k, dictOf S2 x = some kvs ∧ y = kD k ∧ R (.bl ((getD' kvs k).isSome ^^ n)) S2
theorem getD_some {K : KK} {H : Hp} {kvs : List (Key × D)} {vs : List (Key × V)} {k : Key} (r : RDk K H kvs vs) : (getD' kvs k).isSome = (valV vs k).isSome := by
  cases h : getD' kvs k with
  | none => rw [r.get.2 h]; rfl
  | some d => obtain ⟨v, h1, _⟩ := r.get.1 d h; rw [h1]; rfl
theorem lE_din {K : KK} {σ : L2.St} {H : Hp} {Q : VK} (h : lE K (dDin false ta tb) σ H Q) : tDIn (lE K ta) (lE K tb) σ H Q := by
  obtain ⟨env, S, R, rs, h, k⟩ := h
  refine ⟨env, S, _, rs, h, fun y S1 v H1 q1 s1 r1 e1 => ⟨env, S1, _, rs.ext e1 s1, q1, fun x S2 u H2 ⟨kvs, kk, hx, hy, q⟩ s2 r2 e2 => ?_⟩⟩
  subst hy
  obtain ⟨aa, vs, rfl, h1, h2⟩ := dict_rel s2 r2 hx
  cases kD_inv r1
  rw [xor_ff, getD_some h2] at q
  exact ⟨aa, _, rfl, .inl ⟨vs, kk, h1, rfl, rfl⟩, k _ _ _ _ q s2 (.bl _) (e1.trans e2)⟩
theorem de_din (hu : X.A.units + 1 < cLine) (ha : DE X a ta) (hb : DE X b tb) (hm : behindInMarks .In b = false := by rfl) : DE X (.Compare a [.In] [b] pos) (dDin false ta tb) := ⟨(pe_cmp (pc_din hu ha.run hb.run) hm).of fun _ _ _ => lE_din⟩
theorem dt_din (hu : X.A.units + 1 < cLine) (ha : DE X a ta) (hb : DE X b tb) (hm : behindInMarks .In b = false := by rfl) : DT X (.Compare a [.In] [b] pos) (dB (dDin false ta tb)) := ⟨(pt_cmp (pc_din hu ha.run hb.run) hm).of fun _ _ _ h => by
  obtain ⟨env, S, R, rs, h, k⟩ := lT_b h
  exact lE_din ⟨env, S, R, rs, h, k⟩⟩
end
end Sv

/-! The data layer: sets of pairs, zip. -/
namespace Sv
open PySem PySem.Spec PyProof.Rows L2
section
variable {X : Cx}
/-- {(..) for .. in .. if .. for .. in .. if ..} -/
def dSc2 (ti : DTI) (g : DTG) (tt : DTT) (ti1 : DTI) (g1 : DTG) (tt1 : DTT) (te : DTE) (us us1 : List Nat) : DTE := fun env S R => ti env S fun w S1 => ∀ p, S1 p = none → ∃ Pv : Nat → Sto → Prop, Pv 0 (S1.put p (.tset [])) ∧ (∀ i S, i ≤ w.items.length → Pv i S → w.live S) ∧
  (∀ i d S, w.items[i]? = some d → Pv i S → g d (dwipe env us) S fun env' S' => tt env' S' fun b S2 => if b = true then ti1 env' S2 fun w1 S3 => ∃ Pw : Nat → Sto → Prop, Pw 0 S3 ∧ (∀ j S, j ≤ w1.items.length → Pw j S → w1.live S) ∧
    (∀ j e S, w1.items[j]? = some e → Pw j S → g1 e (dwipe env' us1) S fun env2 S4 => tt1 env2 S4 fun b S5 => if b = true then te env2 S5 fun y S6 => ∃ L ns, y = .tup (intsD ns) ∧ S6 p = some (.tset L) ∧ L.length + 1 < 64 ∧
      (∀ L', (ns ∈ L → L' = L) → (ns ∉ L → L'.Perm (ns :: L)) → Pw (j + 1) (S6.put p (.tset L'))) else Pw (j + 1) S5) ∧
    (∀ S, Pw w1.items.length S → Pv (i + 1) S) else Pv (i + 1) S2) ∧
  ∀ S, Pv w.items.length S → R (.ref p) S
theorem lE_sc2 {K : KK} {b b1 : Bool} {ti ti1 : DTI} {g g1 : DTG} {tt tt1 : DTT} {te : DTE} {us us1 vs vs1 : List Nat} {σ : L2.St} {H : Hp} {Q : VK} (hv : ∀ i ∈ vs, i ∈ us) (hv1 : ∀ i ∈ vs1, i ∈ us1) (h : lE K (dSc2 ti g tt ti1 g1 tt1 te us us1) σ H Q) :
    tSc2 K.P K.w K.k (lI K b ti) (lG K b vs g) (lT K tt) (lI K b1 ti1) (lG K b1 vs1 g1) (lT K tt1) (lE K te) us us1 σ H Q := by
  obtain ⟨env, S, R, rs, h, k⟩ := h
  refine ⟨env, S, _, rs, h, fun w S1 J H1 q s1 e1 st p np => ?_⟩
  obtain ⟨Pv, p0, lv, step, done⟩ := q p (s1.fresh np)
  obtain ⟨G, Y, wk, hG, hY⟩ := st.ex
  have s1' : RelS K (S1.put p (.tset [])) (upd H1 p (SetTO K.P K.w p [])) := s1.lay (o := .tset []) np ⟨[], upd_same, fun q hq => (nomatch hq), rfl⟩
  have e1' : Ext H1 (upd H1 p (SetTO K.P K.w p [])) := .new np
  refine w_it (Body := fun N x H' => lG K b vs g x (wipe σ us) H' fun σ2 H2 => wipe σ2 us = wipe σ us ∧ lT K tt σ2 H2 fun b H3 => if b = true then lI K b1 ti1 σ2 H3 fun J1 H4 => ∃ U : Nat → Nat → Hp → Prop, (∃ m, U 0 m H4) ∧ ∀ j k H, U j k H → (J1.stop j H ∧ N H) ∨ (J1.go j H ∧ ∃ M : Hp → Prop, (∀ H', M H' → ∃ k', k' < k ∧ U (j + 1) k' H') ∧ ∀ x H', J1.yld j H x H' → lG K b1 vs1 g1 x (wipe σ2 us1) H' fun σ3 H5 => wipe σ3 us1 = wipe σ2 us1 ∧ lT K tt1 σ3 H5 fun b H6 => if b = true then lE K te σ3 H6 fun y H7 => ∃ (a : Addr) (ns : List Int) (L : List (Addr × List Int)), y = .ref a ∧ SqT K.k H7 a (ns.map L2.V.int) ∧ H7 p = some (SetTO K.P K.w p L) ∧ (∀ p ∈ L, SqT K.k H7 p.1 (p.2.map L2.V.int)) ∧ L.length + 1 < 64 ∧ ∀ L', (ns ∈ L.map (·.2) → L' = L) → (ns ∉ L.map (·.2) → L'.Perm ((a, ns) :: L)) → M (upd H7 p (SetTO K.P K.w p L')) else M H6) else N H3) wk (fun i H' => ∃ S', RelS K S' H' ∧ Ext H1 H' ∧ Pv i S') ⟨_, s1', e1', p0⟩ (fun i H' hi ⟨S', s', e', p'⟩ => hG H' S' e' s' (lv i S' hi p')) ?_ ?_
  · rintro i x H2 H3 hi ⟨S2, s2, e2, p2⟩ y
    obtain ⟨e3, hS, d, hd, rd⟩ := hY i H2 x H3 e2 y
    have e13 := e1.trans (e2.trans e3)
    refine ⟨d, dwipe env us, S2, _, rd, (rs.ext e13 (hS S2 s2)).wipe us, step i d S2 hd p2, fun env4 S4 σ4 H4 q4 rs4 e4 o4 => ⟨wipe_off o4 hv, env4, S4, _, rs4, q4, fun c S5 H5 q5 s5 e5 => ?_⟩⟩
    have e25 := e2.trans (e3.trans (e4.trans e5))
    cases c with
    | false => exact ⟨S5, s5, e25, q5⟩
    | true =>
      refine ⟨env4, S5, _, rs4.ext e5 s5, q5, fun w1 S6 J1 H6 ⟨Pw, pw0, lv1, step1, done1⟩ s6 e6 st1 => ?_⟩
      obtain ⟨G1, Y1, wk1, hG1, hY1⟩ := st1.ex
      refine w_it (Body := fun M x H' => lG K b1 vs1 g1 x (wipe σ4 us1) H' fun σ3 H5 => wipe σ3 us1 = wipe σ4 us1 ∧ lT K tt1 σ3 H5 fun b H6 => if b = true then lE K te σ3 H6 fun y H7 => ∃ (a : Addr) (ns : List Int) (L : List (Addr × List Int)), y = .ref a ∧ SqT K.k H7 a (ns.map L2.V.int) ∧ H7 p = some (SetTO K.P K.w p L) ∧ (∀ p ∈ L, SqT K.k H7 p.1 (p.2.map L2.V.int)) ∧ L.length + 1 < 64 ∧ ∀ L', (ns ∈ L.map (·.2) → L' = L) → (ns ∉ L.map (·.2) → L'.Perm ((a, ns) :: L)) → M (upd H7 p (SetTO K.P K.w p L')) else M H6) wk1 (fun j H' => ∃ S', RelS K S' H' ∧ Ext H6 H' ∧ Pw j S') ⟨_, s6, .refl _, pw0⟩ (fun i H' hi ⟨S', s', e', p'⟩ => hG1 H' S' e' s' (lv1 i S' hi p')) ?_ ?_
      · rintro j x7 H7 H8 hj ⟨S7, s7, e7, p7⟩ y7
        obtain ⟨e8, hS8, d8, hd8, rd8⟩ := hY1 j H7 x7 H8 e7 y7
        refine ⟨d8, dwipe env4 us1, S7, _, rd8, (rs4.ext (e5.trans (e6.trans (e7.trans e8))) (hS8 S7 s7)).wipe us1, step1 j d8 S7 hd8 p7, fun env9 S9 σ9 H9 q9 rs9 e9 o9 => ⟨wipe_off o9 hv1, env9, S9, _, rs9, q9, fun c S10 H10 q10 s10 e10 => ?_⟩⟩
        have e710 := e7.trans (e8.trans (e9.trans e10))
        cases c with
        | false => exact ⟨S10, s10, e710, q10⟩
        | true =>
          refine ⟨env9, S10, _, rs9.ext e10 s10, q10, fun y S11 v H11 ⟨L, ns, hy, h1, h2, q11⟩ s11 r11 e11 => ?_⟩
          subst hy
          cases r11 with
          | @tup a _ vs ht qq =>
            cases (RDs.ints_inv qq)
            obtain ⟨M, h3, h4, rfl⟩ := s11 p _ h1
            rw [List.length_map] at h2
            refine ⟨a, ns, M, rfl, ht.sqT, h3, fun q hq => (h4 q hq).sqT, h2, fun L' c1 c2 => ?_⟩
            have e12 : Ext H11 (upd H11 p (SetTO K.P K.w p L')) := .put h3 trivial
            have hL' : ∀ q ∈ L', TupN H11 q.1 (q.2.map V.int) := fun q hq => by
              by_cases z : ns ∈ M.map (·.2)
              · rw [c1 z] at hq
                exact h4 q hq
              · rcases List.mem_cons.mp ((c2 z).mem_iff.mp hq) with rfl | hq
                · exact ht
                · exact h4 q hq
            refine ⟨S11.put p (.tset (L'.map (·.2))), s11.put (o := .tset (L'.map (·.2))) h3 trivial ⟨L', upd_same, fun q hq => (hL' q hq).ext e12, rfl⟩, e710.trans (e11.trans e12), q11 _ (fun z => by rw [c1 z]) fun z => ?_⟩
            have := (c2 z).map (·.2)
            exact this
      · rintro H7 ⟨S7, s7, e7, p7⟩
        exact ⟨S7, s7, e25.trans (e6.trans e7), done1 S7 p7⟩
  · rintro H2 ⟨S2, s2, e2, p2⟩
    exact k _ _ _ _ (done S2 p2) s2 (.ref p) (e1.trans e2)
theorem de_sc2 {elt tg iter tg1 iter1 : Expr} {ifs ifs1 : List Expr} {scope : Scope} {own : List (Str × Nat)} {vs us1 vs1 : List Nat} {pos : Pos} {b b1 : Bool} {ti ti1 : DTI} {g g1 : DTG} {tt tt1 : DTT} {te : DTE} (hu : X.A.units + 64 < cLine) (hc : X.calm = true) (hN : X.N.Nodup) (hi : DI X b tg iter ti) (ok : BlkOk X.N X.env.scope scope own) (hv : ∀ i ∈ vs, i ∈ own.map (·.2)) (hv1 : ∀ i ∈ vs1, i ∈ us1) (hu1 : ∀ i ∈ us1, i ∈ own.map (·.2))
    (hg : ∀ (s : Shared) (H : Hp) (C : Addr) (cl : List (Str × Addr)) (fp : List Addr), DG (X.blk s H scope (compEnvC scope cl C X.env) fp) b vs tg g) (ht : ∀ (s : Shared) (H : Hp) (C : Addr) (cl : List (Str × Addr)) (fp : List Addr), DTs (X.blk s H scope (compEnvC scope cl C X.env) fp) ifs tt)
    (hi1 : ∀ (s : Shared) (H : Hp) (C : Addr) (cl : List (Str × Addr)) (fp : List Addr), DI (X.blk s H scope (compEnvC scope cl C X.env) fp) b1 tg1 iter1 ti1)
    (hg1 : ∀ (s : Shared) (H : Hp) (C : Addr) (cl : List (Str × Addr)) (fp : List Addr), DG (X.blk s H scope (compEnvC scope cl C X.env) fp) b1 vs1 tg1 g1) (ht1 : ∀ (s : Shared) (H : Hp) (C : Addr) (cl : List (Str × Addr)) (fp : List Addr), DTs (X.blk s H scope (compEnvC scope cl C X.env) fp) ifs1 tt1)
    (he : ∀ (s : Shared) (H : Hp) (C : Addr) (cl : List (Str × Addr)) (fp : List Addr), DE (X.blk s H scope (compEnvC scope cl C X.env) fp) elt te) (hs : ∀ x, foldedSetIterable iter X.env x = pure x := by intro _; rfl) (hs1 : ∀ env x, foldedSetIterable iter1 env x = pure x := by intro _ _; rfl) :
    DE X (.SetComp elt [⟨tg, iter, ifs, 0⟩, ⟨tg1, iter1, ifs1, 0⟩] scope pos) (dSc2 ti g tt ti1 g1 tt1 te (own.map (·.2)) us1) :=
  ⟨(pe_sc2 (g := lG X.kk b vs g) (tt := lT X.kk tt) (wj := lI X.kk b1 ti1) (gj := lG X.kk b1 vs1 g1) (tj := lT X.kk tt1) (te := lE X.kk te) hc hu hN hi.run ok hu1 (fun s H C cl fp => (hg s H C cl fp).run) (fun s H C cl fp => (ht s H C cl fp).run) (fun s H C cl fp => (hi1 s H C cl fp).run) (fun s H C cl fp => (hg1 s H C cl fp).run) (fun s H C cl fp => (ht1 s H C cl fp).run) (fun s H C cl fp => (he s H C cl fp).run) hs hs1).of fun _ _ _ => lE_sc2 hv hv1⟩
/-- sorted of such a set: pairs (or more) of small ints -/
def rSortedS' : DRC := fun ds S R => ∃ a L d B, ds = [.ref a] ∧ S a = some (.tset L) ∧ 1 ≤ d ∧ (∀ q ∈ L, q.length = d ∧ TS.Bd B q) ∧ ∀ (L' : List (List Int)) (p : Addr), L'.Perm L → L'.Nodup → L'.length < 64 → L'.Pairwise (fun q r => TS.code B q ≤ TS.code B r) → S p = none → R (.ref p) (S.put p (.lst (L'.map fun q => .tup (intsD q))))
theorem b_sortedS (hc : X.calm = true) : CallR X (.builtin "sorted") (lC X.kk rSortedS') := by
  intro pins s σ H vs us Q I r ⟨ds, S, R, r1, s1, ⟨a, L, d, B, hd, hx, h1, hB, q⟩, k⟩
  subst hd
  obtain ⟨v, rfl, rv⟩ := r1.inv1
  cases rv
  obtain ⟨M, h3, h4, rfl⟩ := s1 a _ hx
  refine cr_sortedT hc pins s σ H _ us Q I r ⟨a, M, d, B, rfl, h3, fun p hp => (h4 p hp).sqT, h1, fun p hp => hB _ (List.mem_map.mpr ⟨p, hp, rfl⟩), fun L' p pm nd hl pw np => ?_⟩
  have e : Ext H (upd H p (.lst (L'.map fun q => V.ref q.1))) := .new np
  refine k _ _ _ _ (q (L'.map (·.2)) p (pm.map _) nd (by rw [List.length_map]; exact hl) (List.pairwise_map.mpr pw) (s1.fresh np)) (s1.lay (o := .lst ((L'.map (·.2)).map fun q => .tup (intsD q))) np ⟨_, upd_same, ?_⟩) (.ref p) e
  have hL : ∀ q ∈ L', TupN (upd H p (.lst (L'.map fun q => V.ref q.1))) q.1 (q.2.map V.int) := fun q hq => (h4 q (pm.mem_iff.mp hq)).ext e
  generalize upd H p (.lst (L'.map fun q => V.ref q.1)) = H' at hL
  clear pm nd hl pw np e
  induction L' with
  | nil => exact .nil
  | cons x r ih => exact .cons (.tup (hL x List.mem_cons_self) (.ints x.2)) (ih fun q hq => hL q (List.mem_cons_of_mem _ hq))
/-! ### zip -/
def zipD (xs ys : List D) : List D := List.zipWith (fun x y => .tup [x, y]) xs ys
theorem zipD_at {xs ys : List D} {i : Nat} {x y : D} (h1 : xs[i]? = some x) (h2 : ys[i]? = some y) : (zipD xs ys)[i]? = some (.tup [x, y]) := by
  unfold zipD
  rw [List.getElem?_zipWith, h1, h2]
theorem zipD_len (xs ys : List D) : (zipD xs ys).length = min xs.length ys.length := by unfold zipD; rw [List.length_zipWith]
theorem steps_zip {K : KK} {H0 : Hp} {J : It} {xs ys : List D} {lv : Sto → Prop} (A B : Hp → List V → Prop)
    (hgo : ∀ i H vs ws x y, A H vs → B H ws → vs[i]? = some x → ws[i]? = some y → J.go i H)
    (hst : ∀ i H (vs ws : List V), A H vs → B H ws → i = min vs.length ws.length → J.stop i H)
    (hy : ∀ i H v H', J.yld i H v H' → ∃ T x y, v = .ref T ∧ H T = none ∧ H' = upd H T (.tup [x, y]) ∧ (∀ vs, A H vs → vs[i]? = some x) ∧ ∀ ws, B H ws → ws[i]? = some y)
    (hA : ∀ H S, Ext H0 H → RelS K S H → lv S → ∃ vs ws, A H vs ∧ RDs K H xs vs ∧ B H ws ∧ RDs K H ys ws) : Steps K false H0 J ⟨zipD xs ys, lv⟩ := by
  refine ⟨fun H => ∃ vs ws, A H vs ∧ RDs K H xs vs ∧ B H ws ∧ RDs K H ys ws, fun i H v H' => ∃ T x y vs ws, v = .ref T ∧ H T = none ∧ H' = upd H T (.tup [x, y]) ∧ RDs K H xs vs ∧ RDs K H ys ws ∧ vs[i]? = some x ∧ ws[i]? = some y, ⟨?_, ?_, ?_⟩, hA, ?_⟩
  · rintro i H hi ⟨vs, ws, a, ra, b, rb⟩
    have hi : i < (zipD xs ys).length := hi
    rw [zipD_len, ra.length, rb.length] at hi
    have h1 : i < vs.length := by omega
    have h2 : i < ws.length := by omega
    exact hgo i H vs ws vs[i] ws[i] a b (by simp [h1]) (by simp [h2])
  · rintro H ⟨vs, ws, a, ra, b, rb⟩
    refine hst _ H vs ws a b ?_
    show (zipD xs ys).length = _
    rw [zipD_len, ra.length, rb.length]
  · rintro i H v H' hi ⟨vs, ws, a, ra, b, rb⟩ y
    obtain ⟨T, x, z, h1, h2, h3, h4, h5⟩ := hy i H v H' y
    exact ⟨T, x, z, vs, ws, h1, h2, h3, ra, rb, h4 vs a, h5 ws b⟩
  · rintro i H v H' e ⟨T, x, y, vs, ws, rfl, nT, rfl, ra, rb, hx, hy⟩
    obtain ⟨d, h1, h2⟩ := ra.atv hx
    obtain ⟨d', h3, h4⟩ := rb.atv hy
    exact ⟨.new nT, fun S s => s.new nT, _, zipD_at h1 h3, rdw_pair nT h2 h4⟩
def diZip (ta : DTA) : DTI := fun env S R => ta env S fun ds S1 => ∃ xs ys, (ds = [.tup xs, .tup ys] ∧ R ⟨zipD xs ys, fun _ => True⟩ S1) ∨ ∃ a b, ds = [.ref a, .ref b] ∧ S1 a = some (.lst xs) ∧ S1 b = some (.lst ys) ∧ R ⟨zipD xs ys, fun S => S a = some (.lst xs) ∧ S b = some (.lst ys)⟩ S1
theorem di_zip {e e2 : Expr} {ta : DTA} {p pos tpos : Pos} {elts : List Expr} {kk : Nat} (hg : Gl X "zip") (hm : X.mg "zip" = none) (ha : DA X [e, e2] ta)
    (hs : starEach [e, e2] X.env = (false, eval e X.env) :: starEach [e2] X.env := by rfl) (hpl : (backTo pos (starEach [e2] X.env)).any (·.1) = false := by rfl) : DI X false (.Tuple elts kk tpos) (.Call (.Name "zip" p) [e, e2] [] pos) (diZip ta) := by
  refine ⟨(RZ.pi_zipA hg hm ha.run hs hpl).of fun σ H R ⟨env, S, R0, rs, h, k⟩ => ⟨env, S, _, rs, h, fun ds S1 vs H1 ⟨xs, ys, q⟩ s1 r1 e1 => ?_⟩⟩
  rcases q with ⟨rfl, q⟩ | ⟨a, b, rfl, ha, hb, q⟩
  · obtain ⟨v, u, rfl, rv, ru⟩ := r1.inv2
    cases rv with
    | tup t1 q1 =>
      cases ru with
      | tup t2 q2 =>
        exact ⟨_, _, _, _, rfl, .inr ⟨t1.sqT, t2.sqT, k _ _ _ _ q s1 e1 (steps_zip (fun H vs => SqT X.K H _ vs) (fun H vs => SqT X.K H _ vs) (fun i H vs ws x y a b hx hy => ⟨vs, ws, x, y, a, b, hx, hy⟩) (fun i H vs ws a b h => ⟨vs, ws, a, b, by omega⟩) (fun i H v H' y => y) fun H S e _ _ => ⟨_, _, (t1.ext e).sqT, q1.ext e, (t2.ext e).sqT, q2.ext e⟩)⟩⟩
  · obtain ⟨v, u, rfl, rv, ru⟩ := r1.inv2
    cases rv
    cases ru
    obtain ⟨vs, h1, q1⟩ := s1.lst ha
    obtain ⟨ws, h2, q2⟩ := s1.lst hb
    refine ⟨_, _, _, _, rfl, .inl ⟨.of h1, .of h2, k _ _ _ _ q s1 e1 (steps_zip (fun H vs => SqL X.K H _ vs) (fun H vs => SqL X.K H _ vs) (fun i H vs ws x y a b hx hy => ⟨vs, ws, x, y, a, b, hx, hy⟩) (fun i H vs ws a b h => ⟨vs, ws, a, b, by omega⟩) (fun i H v H' y => y) fun H S e s l => ?_)⟩⟩
    obtain ⟨vs', h3, q3⟩ := s.lst l.1
    obtain ⟨ws', h4, q4⟩ := s.lst l.2
    exact ⟨_, _, .of h3, q3, .of h4, q4⟩
/-- a tuple and a list -/
def diZipM (ta : DTA) : DTI := fun env S R => ta env S fun ds S1 => ∃ xs ys b, ds = [.tup xs, .ref b] ∧ S1 b = some (.lst ys) ∧ R ⟨zipD xs ys, fun S => S b = some (.lst ys)⟩ S1
theorem di_zipM {e e2 : Expr} {ta : DTA} {p pos tpos : Pos} {elts : List Expr} {kk : Nat} (hg : Gl X "zip") (hm : X.mg "zip" = none) (ha : DA X [e, e2] ta)
    (hs : starEach [e, e2] X.env = (false, eval e X.env) :: starEach [e2] X.env := by rfl) (hpl : (backTo pos (starEach [e2] X.env)).any (·.1) = false := by rfl) : DI X false (.Tuple elts kk tpos) (.Call (.Name "zip" p) [e, e2] [] pos) (diZipM ta) := by
  refine ⟨(pi_zipM hg hm ha.run hs hpl).of fun σ H R ⟨env, S, R0, rs, h, k⟩ => ⟨env, S, _, rs, h, fun ds S1 vs H1 ⟨xs, ys, b, hd, hb, q⟩ s1 r1 e1 => ?_⟩⟩
  subst hd
  obtain ⟨v, u, rfl, rv, ru⟩ := r1.inv2
  cases rv with
  | tup t1 q1 =>
    cases ru
    obtain ⟨ws, h2, q2⟩ := s1.lst hb
    refine ⟨_, _, _, _, rfl, t1.sqT, .of h2, k _ _ _ _ q s1 e1 (steps_zip (fun H vs => SqT X.K H _ vs) (fun H vs => SqL X.K H _ vs) (fun i H vs ws x y a b hx hy => ⟨vs, ws, a, b, (List.getElem?_eq_some_iff.mp hx).1, (List.getElem?_eq_some_iff.mp hy).1⟩) (fun i H vs ws a b h => ⟨vs, ws, a, b, by omega, by omega, by omega⟩) (fun i H v H' y => y) fun H S e s l => ?_)⟩
    obtain ⟨ws', h4, q4⟩ := s.lst l
    exact ⟨_, _, (t1.ext e).sqT, q1.ext e, .of h4, q4⟩
end
end Sv

/-! The data layer: the law's end. -/
namespace Sv
open PySem PySem.Spec PyProof.Rows L2
def spLawD (K : PySem.W.Frag) : Sp := fun vs H Q _ => ∃ (a : Addr) (ns : List Int), vs = [.ref a] ∧ Only H ∧ SqL K H a (ns.map V.int) ∧ ns.length ≤ 63 ∧ ∀ H', Q (.bl true) H'
theorem FnG.lawD {P : Program} {w : World} {K : PySem.W.Frag} {mg : Str → Option Value} {base : Heap} {k : Nat} {f : Addr} {fd : FuncData} {ps : List Str} {r : DRC} (F : FnG P w K mg base k f fd ps (lP ⟨P, w, K⟩ 1 r)) (hp : ps.length = 1)
    (h : ∀ ns : List Int, ns.length ≤ 63 → r [.rol (intsD ns)] (fun _ => none) (fun d _ => d = .bl true)) : FnG P w K mg base k f fd ps (spLawD K) := by
  have go : ∀ vs H Q E, spLawD K vs H Q E → lP ⟨P, w, K⟩ 1 r vs H Q E := by
    rintro vs H Q E ⟨a, ns, rfl, hO, hS, hl, q⟩
    obtain ⟨h1, ds, S, R, h2, h3, h4, h5⟩ := lP_law (K := ⟨P, w, K⟩) hO hS (h ns hl)
    exact ⟨h1, ds, S, R, h2, h3, h4, fun z S' v H' a1 a2 a3 a4 => by
      obtain rfl := h5 z S' v H' a1 a2 a3 a4
      exact q H'⟩
  refine ⟨fun vs H Q E h => ?_, fun A hg outer s H args us vs Q E hr e0 hb rv hsp => F.run A hg outer s H args us vs Q E hr e0 hb rv (go _ _ _ _ hsp)⟩
  obtain ⟨a, ns, rfl, _⟩ := h
  rw [hp]
  rfl
end Sv

/-! The data layer: sorted of a list of pairs of ints. -/
namespace Sv
open PySem PySem.Spec PyProof.Rows L2
section
variable {X : Cx}
def prD (p : Int × Int) : D := .tup [.int p.1, .int p.2]
def kOf (H : Hp) (v : V) : Int × Int := match v with
  | .ref t => match H t with | some (.frz _ (.tup [.int i, .int j])) => (i, j) | _ => (0, 0)
  | _ => (0, 0)
theorem RDs.prs_inv {K : KK} {H : Hp} : ∀ {ps : List (Int × Int)} {vs : List V}, RDs K H (ps.map prD) vs → ps = vs.map (kOf H) ∧ ∀ x ∈ vs, ∃ t, x = .ref t ∧ TupN H t [.int (kOf H x).1, .int (kOf H x).2]
  | [], _, .nil => ⟨rfl, fun _ h => (nomatch h)⟩
  | p :: r, _, .cons h t => by
    obtain ⟨e, g⟩ := RDs.prs_inv t
    cases h with
    | @tup a _ vs ht q =>
      cases q with
      | cons h1 q =>
        cases q with
        | cons h2 q =>
          cases q
          cases h1
          cases h2
          have hk : kOf H (.ref a) = p := by
            obtain ⟨o, ho, _⟩ := id ht
            show (match H a with | some (.frz _ (.tup [.int i, .int j])) => (i, j) | _ => (0, 0)) = p
            rw [ho]
          refine ⟨by rw [List.map_cons, hk, ← e], fun x hx => ?_⟩
          rcases List.mem_cons.mp hx with rfl | hx
          · exact ⟨a, rfl, by rw [hk]; exact ht⟩
          · exact g x hx
def ltQ (p q : Int × Int) : Prop := p.1 < q.1 ∨ (p.1 = q.1 ∧ p.2 ≤ q.2)
def rSortedPD : DRC := fun ds S R => ∃ a ps, ds = [.ref a] ∧ S a = some (.lst (ps.map prD)) ∧ ∀ (qs : List (Int × Int)) (p : Addr), qs.Perm ps → qs.Pairwise ltQ → S p = none → R (.ref p) (S.put p (.lst (qs.map prD)))
/-- a pair of ints, by what the invariant knows -/
theorem pairAt {pins : List (Addr × Obj)} {s : Shared} {σ : L2.St} {H : Hp} {t : Addr} {x y : Int} (I : Inv X pins σ H s) (h : TupN H t [.int x, .int y]) : Srt.IsPair s.heap (.ref t) x y := by
  obtain ⟨its, r, ⟨o, g1, g2, n, g3⟩, _⟩ := I.tuple (h.sqT (K := X.K))
  obtain ⟨_, _, rfl, ⟨i, rfl⟩, ⟨j, rfl⟩⟩ := vals2 r
  exact ⟨t, o, i, j, n, rfl, g1, g2, g3⟩
theorem b_sortedPD : CallR X (.builtin "sorted") (lC X.kk rSortedPD) := by
  intro pins s σ H vs us Q I r ⟨ds, S, R, r1, s1, ⟨a, ps, hd, hx, q⟩, k⟩
  subst hd
  obtain ⟨v, rfl, rv⟩ := r1.inv1
  cases rv
  obtain ⟨ws, h1, qq⟩ := s1.lst hx
  obtain ⟨e, g⟩ := RDs.prs_inv qq
  obtain ⟨its, ri, il, iz⟩ := I.list (SqL.of h1 : SqL X.K H a ws)
  obtain ⟨u, rfl, ru⟩ := vals1 r
  obtain rfl : u = Value.ref a := ru
  obtain ⟨w1, w2⟩ := refs_back ri fun x m => by
    obtain ⟨t, z, _⟩ := g x m
    exact ⟨t, z⟩
  refine SrtO.sorted_pairsO (k := fun u => kOf H (backV u)) il.isList (by rw [← ri.length]; exact iz) (fun v hv => ?_) fun h' d out so st kp hd hn => ?_
  · obtain ⟨t, rfl⟩ := w2 v hv
    obtain ⟨_, z, ht⟩ := g _ (show V.ref t ∈ ws by rw [w1]; exact List.mem_map.mpr ⟨_, hv, rfl⟩)
    cases z
    exact pairAt I ht
  have pm := st.perm
  have ne := I.hok.fresh hd
  have e2 : Ext H (upd H d (.lst (out.map backV))) := .new ne
  obtain ⟨n, hn⟩ := hn
  have hlen : (out.map backV).length ≤ sizeLine := by
    rw [List.length_map, pm.length_eq, ← ri.length]
    exact iz
  refine ⟨.ref d, upd H d (.lst (out.map backV)), I.laid (t' := s.toks) kp hd ⟨hlen, out, n, vals_back fun u hu => w2 u (pm.mem_iff.mp hu), hn⟩, rfl, k _ _ _ _ (q (out.map fun u => kOf H (backV u)) d ?_ (List.pairwise_map.mpr (so.imp fun {x y} z => ?_)) (s1.fresh ne)) (s1.lay (o := .lst ((out.map fun u => kOf H (backV u)).map prD)) ne ⟨_, upd_same, ?_⟩) (.ref d) e2⟩
  · rw [e, w1, List.map_map]
    exact pm.map _
  · have z := SrtO.lexB_no.mp z
    unfold ltQ
    omega
  · have gy : ∀ x ∈ out, ∃ t, backV x = .ref t ∧ TupN (upd H d (.lst (out.map backV))) t [.int (kOf H (backV x)).1, .int (kOf H (backV x)).2] := fun x hx => by
      obtain ⟨t, z1, z2⟩ := g (backV x) (by rw [w1]; exact List.mem_map_of_mem (pm.mem_iff.mp hx))
      exact ⟨t, z1, z2.ext e2⟩
    generalize upd H d (.lst (out.map backV)) = H' at gy
    clear so st hn hlen pm e2
    induction out with
    | nil => exact .nil
    | cons x r ih =>
      obtain ⟨t, z1, z2⟩ := gy x List.mem_cons_self
      rw [List.map_cons, List.map_cons, List.map_cons, z1]
      refine .cons (.tup ?_ (.cons (.int _) (.cons (.int _) .nil))) (ih fun y hy => gy y (List.mem_cons_of_mem _ hy))
      rw [z1] at z2
      exact z2
end
end Sv

/-! The data layer: zip of a list and a tuple. -/
namespace Sv
open PySem PySem.Spec PyProof.Rows L2
/-- the list at a and the tuple at b, side by side in new pairs -/
def ItzL (K : PySem.W.Frag) (a b : Addr) : It where
  go := fun i H => ∃ (xs ys : List V), SqL K H a xs ∧ SqT K H b ys ∧ i < xs.length ∧ i < ys.length
  yld := fun i H v H' => ∃ T x y, v = .ref T ∧ H T = none ∧ H' = upd H T (.tup [x, y]) ∧ (∀ xs, SqL K H a xs → xs[i]? = some x) ∧ ∀ ys, SqT K H b ys → ys[i]? = some y
  stop := fun i H => ∃ (xs ys : List V), SqL K H a xs ∧ SqT K H b ys ∧ i ≤ xs.length ∧ i ≤ ys.length ∧ (i = xs.length ∨ i = ys.length)
theorem turn_zipL {P : Program} {w : World} {K : PySem.W.Frag} {elts : List Expr} {kk : Nat} {tpos : Pos} {a b z TI TO i1 i2 : Addr} (S : ZipSep2 z TI TO i1 i2 [i1, a] [i2, b]) (na : a ≠ i1) (nb : b ≠ i2) :
    Turn P w K (.Tuple elts kk tpos) (ItzL K a b) [z, TI, TO, i1, i2] z
      (fun i g => IsZip g z TI TO .none ∧ IsTupOf2 g TI (.ref i1) (.ref i2) ∧ (∃ u v, IsTupOf2 g TO u v) ∧ g.IsListIter i1 a i ∧ g.IsTupleIter i2 b i) where
  mem := by simp
  obj := fun i g st c hc => by
    obtain ⟨gz, gI, ⟨u, v, gO⟩, ⟨p1, e1, _, d1⟩, ⟨p2, e2, _, d2⟩⟩ := st
    rcases (show c = z ∨ c = TI ∨ c = TO ∨ c = i1 ∨ c = i2 by simpa using hc) with r | r | r | r | r <;> rw [r]
    · exact ⟨_, gz, fun _ n => nomatch n⟩
    · exact ⟨_, gI, fun _ n => nomatch n⟩
    · exact ⟨_, gO, fun _ n => nomatch n⟩
    · exact ⟨p1, e1, fun _ n => by rw [d1] at n; cases n⟩
    · exact ⟨p2, e2, fun _ n => by rw [d2] at n; cases n⟩
  keep := fun i g g' st k => by
    obtain ⟨gz, gI, ⟨u, v, gO⟩, j1, j2⟩ := st
    exact ⟨k z (by simp) _ gz, k TI (by simp) _ gI, ⟨u, v, k TO (by simp) _ gO⟩, j1.at fun o n => k i1 (by simp) o n, j2.at fun o n => k i2 (by simp) o n⟩
  item := by
    intro X hP hw hK hc i pins s σ H E I hf st hg
    subst hP hw hK
    obtain ⟨gz, gI, ⟨u0, v0, gO⟩, j1, j2⟩ := st
    obtain ⟨xs, ys, qa, qb, la, lb⟩ := hg
    obtain ⟨ia, va, pa, _⟩ := I.list qa
    obtain ⟨ib, vb, pb, _⟩ := I.tuple qb
    have na1 := va.length
    have nb1 := vb.length
    have zl : z < s.heap.objs.size := Heap.lt_size gz
    have hd1 : X.A.in1.handled = none := I.ok.hd hc
    have D1 := Draws.list (prog := X.prog) (w := X.w) (A := X.A.in1) hd1 i1 a na ia.toArray
    have D2 := Draws.tuple (prog := X.prog) (w := X.w) (A := X.A.in1) hd1 i2 b nb ib.toArray
    refine wpAny_pyNext_zipD2_item S D1 D2 gz gI gO ⟨j1, pa.isList⟩ ⟨j2, pb⟩ (by rw [List.size_toArray]; omega) (by rw [List.size_toArray]; omega) fun y1 y2 g' tk h1 h2 gz' gO' st1 st2 gT gsz gk => ?_
    refine ⟨_, rfl, wpAny_letOwnedTupleGo_zip (s := { s with heap := g', toks := tk }) gz' fun g2 gz2 sb => ?_⟩
    obtain ⟨x, hx⟩ : ∃ x, xs[i]? = some x := ⟨_, List.getElem?_eq_getElem la⟩
    obtain ⟨y, hy⟩ : ∃ y, ys[i]? = some y := ⟨_, List.getElem?_eq_getElem lb⟩
    obtain ⟨w1, hw1, r1⟩ := va.get hx
    obtain ⟨w2, hw2, r2⟩ := vb.get hy
    obtain rfl : w1 = y1 := Option.some.inj (hw1.symm.trans (by simpa using h1))
    obtain rfl : w2 = y2 := Option.some.inj (hw2.symm.trans (by simpa using h2))
    have gT2 : g2.get? s.heap.objs.size = some { cls := .type "tuple", data := .seq #[w1, w2] } := (sb.2 _ (Nat.ne_of_gt zl)).trans gT
    have fresh : ObjOk X.prog X.w (upd H s.heap.objs.size (.tup [x, y])) g2 s.heap.objs.size (.tup [x, y]) := by
      refine ⟨?_, [w1, w2], .cons r1 (.cons r2 .nil), ⟨_, gT2, rfl, _, rfl⟩⟩
      show 2 ≤ sizeLine
      decide
    have J : Inv X pins σ (upd H s.heap.objs.size (.tup [x, y])) { s with heap := g2, toks := tk } := by
      refine I.turnedNew (ch := [z, TI, TO, i1, i2]) (fun c o hb n => ?_) hf (Nat.le_refl _) fresh
      have nn : c ≠ z ∧ c ≠ TI ∧ c ≠ TO ∧ c ≠ i1 ∧ c ≠ i2 := by simpa using hb
      exact (sb.2 c nn.1).trans (gk c o nn.1 nn.2.2.1 nn.2.2.2.1 nn.2.2.2.2 n)
    have zi1 := S.zi1
    have zi2 := S.zi2
    refine ⟨.ref s.heap.objs.size, _, J, rfl, ⟨_, x, y, rfl, I.hok.fresh (Nat.le_refl _), rfl, fun l hl => by rw [I.list_inj hl qa]; exact hx, fun l hl => ?_⟩, ⟨gz2, ?_, ⟨w1, w2, ?_⟩, ?_, ?_⟩, fun c hcm => ?_⟩
    · rw [I.tuple_inj hl qb]
      exact hy
    · exact (sb.2 _ S.TIz).trans (gk _ _ S.TIz S.TITO S.TIi1 S.TIi2 gI)
    · exact (sb.2 _ S.TOz).trans gO'
    · exact st1.1.at fun o n => (sb.2 _ zi1.symm).trans n
    · exact st2.1.at fun o n => (sb.2 _ zi2.symm).trans n
    · have lt : c < s.heap.objs.size := by
        rcases (show c = z ∨ c = TI ∨ c = TO ∨ c = i1 ∨ c = i2 by simpa using hcm) with r | r | r | r | r <;> rw [r]
        · exact zl
        · exact Heap.lt_size gI
        · exact Heap.lt_size gO
        · obtain ⟨_, e1, _⟩ := j1; exact Heap.lt_size e1
        · obtain ⟨_, e2, _⟩ := j2; exact Heap.lt_size e2
      rw [upd_ne (Nat.ne_of_lt lt)]
      exact (hf c hcm).1
  done := by
    intro X hP hw hK hc i pins s σ H E I hf st hg
    subst hP hw hK
    obtain ⟨gz, gI, ⟨u0, v0, gO⟩, j1, j2⟩ := st
    obtain ⟨xs, ys, qa, qb, la, lb, hend⟩ := hg
    obtain ⟨ia, va, pa, _⟩ := I.list qa
    obtain ⟨ib, vb, pb, _⟩ := I.tuple qb
    have na1 := va.length
    have nb1 := vb.length
    have hd1 : X.A.in1.handled = none := I.ok.hd hc
    have D1 := Draws.list (prog := X.prog) (w := X.w) (A := X.A.in1) hd1 i1 a na ia.toArray
    have D2 := Draws.tuple (prog := X.prog) (w := X.w) (A := X.A.in1) hd1 i2 b nb ib.toArray
    exact wpAny_pyNext_zipD2_end S D1 D2 gz gI gO ⟨j1, pa.isList⟩ ⟨j2, pb⟩ (by rw [List.size_toArray]; omega) (by rw [List.size_toArray]; omega) (by rw [List.size_toArray, List.size_toArray]; omega) fun g' tk gk =>
      ⟨rfl, I.turnedL (t' := tk) (ch := [z, TI, TO, i1, i2]) (fun c o hb n => by
        have nn : c ≠ z ∧ c ≠ TI ∧ c ≠ TO ∧ c ≠ i1 ∧ c ≠ i2 := by simpa using hb
        exact gk c o nn.1 nn.2.2.1 nn.2.2.2.1 nn.2.2.2.2 n) hf⟩
  self := fun A i s Q E st h => wpAny_pyIter_zip st.1 h
def iZipL (K : PySem.W.Frag) (ta : TA) : TI := fun σ H R => ta σ H fun vs H1 => ∃ a b xs ys, vs = [.ref a, .ref b] ∧ SqL K H1 a xs ∧ SqT K H1 b ys ∧ R (ItzL K a b) H1
theorem pi_zipL {X : Cx} {e e2 : Expr} {ta : TA} {p pos tpos : Pos} {elts : List Expr} {kk : Nat} (hg : Gl X "zip") (hm : X.mg "zip" = none) (ha : PA X [e, e2] ta)
    (hs : starEach [e, e2] X.env = (false, eval e X.env) :: starEach [e2] X.env := by rfl) (hpl : (backTo pos (starEach [e2] X.env)).any (·.1) = false := by rfl) :
    PI X (.Tuple elts kk tpos) (.Call (.Name "zip" p) [e, e2] [] pos) (iZipL X.K ta) := by
  refine ⟨fun pins s σ H R I h => ?_⟩
  refine Call_ (ld_blt I hg hm PyProof.Rows.boot_zip (PyProof.Rows.callWith_type1 (thn (ha.run pos pins s σ H _ I h) fun us s1 ⟨vs, H1, I1, r1, q1⟩ => ?_) hs hpl))
  obtain ⟨a, b, xs, ys, rfl, qa, qb, q1⟩ := q1
  obtain ⟨u1, u2, rfl, ru1, ru2⟩ : ∃ u1 u2, us = [u1, u2] ∧ RelV (.ref a) u1 ∧ RelV (.ref b) u2 := by
    cases r1 with
    | cons r rr =>
      cases rr with
      | cons r' rr =>
        cases rr
        exact ⟨_, _, rfl, r, r'⟩
  cases ru1
  cases ru2
  obtain ⟨ia, va, pa, _⟩ := I1.list qa
  obtain ⟨ib, vb, pb, _⟩ := I1.tuple qb
  have al : a < s1.heap.objs.size := by
    exact pa.lt
  have bl : b < s1.heap.objs.size := by
    obtain ⟨o, ho, _⟩ := id pb
    exact Heap.lt_size ho
  refine zip_begins2 (begins_list a ia.toArray) (begins_tuple b ib.toArray) pa.isList pb fun g gz gI gO g1 g2 gsz gk => wpAny_pyIter_zip gz ?_
  have J : Inv X pins σ H1 { s1 with heap := g } := I1.kept (t' := s1.toks) gk
  have S : ZipSep2 (s1.heap.objs.size + 4) (s1.heap.objs.size + 2) (s1.heap.objs.size + 3) s1.heap.objs.size (s1.heap.objs.size + 1) [s1.heap.objs.size, a] [s1.heap.objs.size + 1, b] :=
    zip_sep2 (fun c hc => by rw [List.mem_singleton.mp hc]; exact al) (fun c hc => by rw [List.mem_singleton.mp hc]; exact bl)
  refine ⟨s1.heap.objs.size + 4, [s1.heap.objs.size + 4, s1.heap.objs.size + 2, s1.heap.objs.size + 3, s1.heap.objs.size, s1.heap.objs.size + 1], _, _, H1, rfl, J, turn_zipL S (Nat.ne_of_lt al) (Nat.ne_of_lt (Nat.lt_succ_of_lt bl)),
    ⟨gz, gI, ⟨_, _, gO⟩, ⟨_, g1, rfl, rfl⟩, ⟨_, g2, rfl, rfl⟩⟩, fun c hc => ?_, q1⟩
  have hle : s1.heap.objs.size ≤ c := by
    rcases (show c = s1.heap.objs.size + 4 ∨ c = s1.heap.objs.size + 2 ∨ c = s1.heap.objs.size + 3 ∨ c = s1.heap.objs.size ∨ c = s1.heap.objs.size + 1 by simpa using hc) with r | r | r | r | r <;> rw [r]
    · exact Nat.le_add_right _ _
    · exact Nat.le_add_right _ _
    · exact Nat.le_add_right _ _
    · exact Nat.le_refl _
    · exact Nat.le_add_right _ _
  exact I1.fpOk hle (I1.hok.fresh hle)
section
variable {X : Cx}
/-- a list and a tuple -/
def diZipL (ta : DTA) : DTI := fun env S R => ta env S fun ds S1 => ∃ xs ys b, ds = [.ref b, .tup ys] ∧ S1 b = some (.lst xs) ∧ R ⟨zipD xs ys, fun S => S b = some (.lst xs)⟩ S1
theorem di_zipL {e e2 : Expr} {ta : DTA} {p pos tpos : Pos} {elts : List Expr} {kk : Nat} (hg : Gl X "zip") (hm : X.mg "zip" = none) (ha : DA X [e, e2] ta)
    (hs : starEach [e, e2] X.env = (false, eval e X.env) :: starEach [e2] X.env := by rfl) (hpl : (backTo pos (starEach [e2] X.env)).any (·.1) = false := by rfl) : DI X false (.Tuple elts kk tpos) (.Call (.Name "zip" p) [e, e2] [] pos) (diZipL ta) := by
  refine ⟨(pi_zipL hg hm ha.run hs hpl).of fun σ H R ⟨env, S, R0, rs, h, k⟩ => ⟨env, S, _, rs, h, fun ds S1 vs H1 ⟨xs, ys, b, hd, hb, q⟩ s1 r1 e1 => ?_⟩⟩
  subst hd
  obtain ⟨v, u, rfl, rv, ru⟩ := r1.inv2
  cases ru with
  | tup t1 q1 =>
    cases rv
    obtain ⟨ws, h2, q2⟩ := s1.lst hb
    refine ⟨_, _, _, _, rfl, .of h2, t1.sqT, k _ _ _ _ q s1 e1 (steps_zip (fun H vs => SqL X.K H _ vs) (fun H vs => SqT X.K H _ vs) (fun i H vs ws x y a b hx hy => ⟨vs, ws, a, b, (List.getElem?_eq_some_iff.mp hx).1, (List.getElem?_eq_some_iff.mp hy).1⟩) (fun i H vs ws a b h => ⟨vs, ws, a, b, by omega, by omega, by omega⟩) (fun i H v H' y => y) fun H S e s l => ?_)⟩
    obtain ⟨ws', h4, q4⟩ := s.lst l
    exact ⟨_, _, .of h4, q4, (t1.ext e).sqT, q1.ext e⟩
def mLindex : DRM := fun x ds S R => ∃ l ns k, x = .ref l ∧ ds = [.int k] ∧ S l = some (.lst (intsD ns)) ∧ k ∈ ns ∧ R (.int (ns.idxOf k : Nat)) S
theorem m_lindex : MtR X "list.index" (lM X.kk mLindex) := by
  intro pins s σ H x vs v us Q I rx rv ⟨d, ds, S, R, r1, r2, s1, ⟨l, ns, kk, hd, hds, hl, hk, q⟩, k⟩
  subst hd hds
  cases r1
  obtain ⟨w, rfl, rw'⟩ := r2.inv1
  cases rw'
  obtain ⟨ws, h3, q3⟩ := s1.lst hl
  cases (RDs.ints_inv q3)
  have hlt := List.idxOf_lt_length_iff.mpr hk
  have hat : ns[ns.idxOf kk]? = some kk := by
    rw [List.getElem?_eq_getElem hlt]
    exact congrArg some (List.getElem_idxOf hlt)
  refine mt_index pins s σ H _ _ v us Q I rx rv ⟨l, ns.map V.int, .int kk, ns.idxOf kk, .int kk, rfl, rfl, .of h3, rfl, List.all_eq_true.mpr fun x hx => ?_, by rw [List.getElem?_map, hat]; rfl, by simp [eqV], fun m z' hm hz => ?_, k _ _ _ _ q s1 (.int _) (.refl H)⟩
  · obtain ⟨n, _, rfl⟩ := List.mem_map.mp hx
    rfl
  · rw [List.getElem?_map] at hz
    obtain ⟨n, hn, rfl⟩ := Option.map_eq_some_iff.mp hz
    have hne := List.not_of_lt_findIdx (xs := ns) (p := (· == kk)) (i := m) hm
    have hnm : ns[m]'(by omega) = n := (List.getElem?_eq_some_iff.mp hn).2
    have hne : ¬ n = kk := by simpa [hnm] using hne
    simp [eqV, hne]
end
end Sv

/-! the bodies of the defs, as readings over data (made by dgen.py) -/
namespace Sv
open PySem L2
/-- _law_next: 0 _law_deck_here 1 _law_many 2 _law_cell 3 _law_digit -/
def B_law_next_74a4 : DTS := dSeq (dWhile (dAnd (dB (dBin (rEqq false) (dBin rIxq (dVar 0) (dC (.int 1))) (dC (.int 0)))) (dB (dBin (rEqq true) (dBin rIxq (dVar 0) (dC (.int 0))) (dLst (dNil))))) (dSeq (dAsg (dMtq "list" mPopAt (dBin rIxq (dVar 0) (dC (.int 0))) (dCons (dC (.int 0)) (dNil))) (dgName 2))
  (dSeq (dAsg (dBin rMod (dBin rAdd (dBin rAdd (dBin rMul (dBin rIxq (dVar 0) (dC (.int 3))) (dC (.int 48271))) (dVar 2)) (dC (.int 7))) (dC (.int 2147483647))) (dSub (dVar 0) (dC (.int 3))))
  (dAsg (dBin rMul (dVar 2) (dCB (rInt) (dCons (dBin (rCmp fun i j => decide (j ≤ i)) (dVar 2) (dBin rPow (dC (.int 10)) (dC (.int 18)))) (dNil)))) (dSub (dVar 0) (dC (.int 1)))))))
  (dSeq (dIfS (dB (dBin (rCmp fun i j => decide (j < i)) (dBin rIxq (dVar 0) (dC (.int 1))) (dC (.int 0)))) (dSeq (dAsg (dBin rMod (dBin rIxq (dVar 0) (dC (.int 1))) (dVar 1)) (dgName 3))
  (dSeq (dAsg (dBin rDiv (dBin rIxq (dVar 0) (dC (.int 1))) (dVar 1)) (dSub (dVar 0) (dC (.int 1))))
  (dRet (dVar 3)))) (dNext))
  (dSeq (dAsg (dBin rAdd (dBin rIxq (dVar 0) (dC (.int 2))) (dC (.int 1))) (dSub (dVar 0) (dC (.int 2))))
  (dSeq (dAsg (dBin rMod (dBin rAdd (dBin rAdd (dBin rMul (dBin rIxq (dVar 0) (dC (.int 3))) (dC (.int 69621))) (dBin rMul (dC (.int 30011)) (dBin rIxq (dVar 0) (dC (.int 2))))) (dC (.int 12345))) (dC (.int 2147483647))) (dSub (dVar 0) (dC (.int 3))))
  (dRet (dBin rMod (dBin rDiv (dBin rMod (dBin rMul (dBin rIxq (dVar 0) (dC (.int 3))) (dBin rIxq (dVar 0) (dC (.int 3)))) (dC (.int 2147483629))) (dC (.int 8))) (dVar 1))))))
/-- _law_one: 0 _law_deck_here 1 _law_items -/
def B_law_one_4842 : DTS := dRet (dBin rIxq (dVar 1) (dCall 2 (dFn 4 B_law_next_74a4) (dCons (dVar 0) (dCons (dCB (rLen) (dCons (dVar 1) (dNil))) (dNil)))))
/-- _law_grown: 0 _law_deck_here 1 _law_state 2 _law_rows 3 _law_names 4 _law_waiting 5 _law_share 6 _law_process 7 _law_way 8 _law_ready 9 _law_event 10 _law_left 11 _law_pair 12 _law_longer 13 _law_one_here -/
def B_law_grown_680b : DTS := dSeq (dAsg (dVar 1) (dUnp 4 (dgCons (dgName 2) (dgCons (dgName 3) (dgCons (dgName 4) (dgCons (dgName 5) (dgNil)))))))
  (dSeq (dAsg (dTup (dCons (dCall 2 (dFn 4 B_law_next_74a4) (dCons (dVar 0) (dCons (dCB (rLen) (dCons (dVar 2) (dNil))) (dNil)))) (dCons (dCall 2 (dFn 4 B_law_next_74a4) (dCons (dVar 0) (dCons (dC (.int 6)) (dNil)))) (dNil)))) (dUnp 2 (dgCons (dgName 6) (dgCons (dgName 7) (dgNil)))))
  (dSeq (dAsg (dLc (diVal (dVar 4)) (dgName 11) (dB (dBin (rEqq true) (dBin rIxq (dVar 11) (dC (.int 1))) (dVar 6))) (dVar 11) [11]) (dgName 8))
  (dSeq (dAsg (dTup (dCons (dC (.int 0)) (dCons (dVar 3) (dNil)))) (dUnp 2 (dgCons (dgName 9) (dgCons (dgName 10) (dgNil)))))
  (dSeq (dIfS (dAnd (dB (dBin (rCmp fun i j => decide (j ≤ i)) (dVar 7) (dVar 5))) (dAnd (dB (dBin (rEqq false) (dBin rMod (dVar 7) (dC (.int 2))) (dC (.int 1)))) (dB (dBin (rEqq true) (dVar 8) (dLst (dNil)))))) (dSeq (dAsg (dCall 2 (dFn 2 B_law_one_4842) (dCons (dVar 0) (dCons (dVar 8) (dNil)))) (dgName 11))
  (dAsg (dTup (dCons (dBin rSub (dC (.int 0)) (dBin rIxq (dVar 11) (dC (.int 0)))) (dCons (dLc (diVal (dVar 4)) (dgName 13) (dB (dBin (rEqq true) (dVar 13) (dVar 11))) (dVar 13) [13]) (dNil)))) (dUnp 2 (dgCons (dgName 9) (dgCons (dgName 4) (dgNil)))))) (dIfS (dAnd (dB (dBin (rCmp fun i j => decide (j ≤ i)) (dVar 7) (dVar 5))) (dB (dBin (rEqq true) (dVar 3) (dLst (dNil))))) (dSeq (dAsg (dTup (dCons (dBin rIxq (dVar 3) (dC (.int 0))) (dCons (dSl (dVar 3) (dPart (dC (.int 1))) (dNoP)) (dNil)))) (dUnp 2 (dgCons (dgName 9) (dgCons (dgName 10) (dgNil)))))
  (dAsg (dBin rAdd (dVar 4) (dLst (dCons (dTup (dCons (dVar 9) (dCons (dVar 6) (dNil)))) (dNil)))) (dgName 4))) (dNext)))
  (dSeq (dAsg (dTup (dCons (dBin rAdd (dBin rIxq (dVar 2) (dVar 6)) (dTup (dCons (dVar 9) (dNil)))) (dNil))) (dgName 12))
  (dRet (dLst (dCons (dBin rAdd (dBin rAdd (dSl (dVar 2) (dNoP) (dPart (dVar 6))) (dVar 12)) (dSl (dVar 2) (dPart (dBin rAdd (dVar 6) (dC (.int 1)))) (dNoP))) (dCons (dVar 10) (dCons (dVar 4) (dCons (dVar 5) (dNil))))))))))))
/-- _law_shuffled: 0 _law_deck_here 1 _law_items 2 _law_left 3 _law_found -/
def B_law_shuffled_c6aa : DTS := dSeq (dAsg (dCB (rListq) (dCons (dVar 1) (dNil))) (dgName 2))
  (dSeq (dAsg (dLst (dNil)) (dgName 3))
  (dSeq (dWhile (dB (dBin (rEqq true) (dVar 2) (dLst (dNil)))) (dDrop (dMtq "list" mAppend (dVar 3) (dCons (dMtq "list" mPopAt (dVar 2) (dCons (dCall 2 (dFn 4 B_law_next_74a4) (dCons (dVar 0) (dCons (dCB (rLen) (dCons (dVar 2) (dNil))) (dNil)))) (dNil))) (dNil)))))
  (dRet (dVar 3))))
/-- _law_begun: 0 _law_deck_here 1 _law_many 2 _law_rows -/
def B_law_begun_2a66 : DTS := dSeq (dAsg (dBin rMul (dTup (dCons (dTup (dNil)) (dNil))) (dBin rAdd (dC (.int 1)) (dCall 2 (dFn 4 B_law_next_74a4) (dCons (dVar 0) (dCons (dVar 1) (dNil)))))) (dgName 2))
  (dRet (dLst (dCons (dVar 2) (dCons (dCall 2 (dFn 4 B_law_shuffled_c6aa) (dCons (dVar 0) (dCons (dLRg2 (dC (.int 1)) (dC (.int 25))) (dNil)))) (dCons (dLst (dNil)) (dCons (dBin rAdd (dC (.int 1)) (dCall 2 (dFn 4 B_law_next_74a4) (dCons (dVar 0) (dCons (dC (.int 3)) (dNil))))) (dNil)))))))
/-- _law_domino: 0 _law_deck_here 1 _law_most 2 _law_ones 3 _law_others 4 _law_k -/
def B_law_domino_a8d9 : DTS := dSeq (dAsg (dTup (dCons (dTup (dNil)) (dCons (dTup (dNil)) (dNil)))) (dUnp 2 (dgCons (dgName 2) (dgCons (dgName 3) (dgNil)))))
  (dSeq (dFor (diRg1 (dCons (dBin rAdd (dC (.int 1)) (dCall 2 (dFn 4 B_law_next_74a4) (dCons (dVar 0) (dCons (dCB (rMax2) (dCons (dC (.int 1)) (dCons (dBin rDiv (dVar 1) (dC (.int 6))) (dNil)))) (dNil))))) (dNil))) (dgName 4) (dSeq (dAsg (dBin rAdd (dVar 2) (dTup (dCons (dBin rSub (dC (.int 0)) (dBin rAdd (dBin rMul (dC (.int 2)) (dVar 4)) (dC (.int 1)))) (dCons (dC (.int 0)) (dCons (dBin rAdd (dBin rMul (dC (.int 2)) (dVar 4)) (dC (.int 2))) (dNil)))))) (dgName 2))
  (dAsg (dBin rAdd (dVar 3) (dTup (dCons (dBin rAdd (dBin rMul (dC (.int 2)) (dVar 4)) (dC (.int 1))) (dCons (dBin rSub (dC (.int 0)) (dBin rAdd (dBin rMul (dC (.int 2)) (dVar 4)) (dC (.int 2)))) (dCons (dC (.int 0)) (dNil)))))) (dgName 3))))
  (dRet (dTup (dCons (dVar 2) (dCons (dVar 3) (dNil))))))
/-- _law_later: 0 _law_deck_here 1 _law_ones 2 _law_others 3 _law_state 4 _law_found 5 _law_turn 6 _law_k -/
def B_law_later_0ac5 : DTS := dSeq (dIfS (dB (dBin (rEqq false) (dCall 2 (dFn 4 B_law_next_74a4) (dCons (dVar 0) (dCons (dC (.int 4)) (dNil)))) (dC (.int 0)))) (dSeq (dAsg (dCall 2 (dFn 5 B_law_domino_a8d9) (dCons (dVar 0) (dCons (dC (.int 24)) (dNil)))) (dUnp 2 (dgCons (dgName 1) (dgCons (dgName 2) (dgNil)))))
  (dRet (dBin rAdd (dLc (diRg2 (dCons (dC (.int 1)) (dCons (dBin rAdd (dBin rDiv (dCB (rLen) (dCons (dVar 1) (dNil))) (dC (.int 3))) (dC (.int 1))) (dNil)))) (dgName 6) (dYes) (dTup (dCons (dSl (dVar 1) (dNoP) (dPart (dBin rMul (dC (.int 3)) (dVar 6)))) (dCons (dSl (dVar 2) (dNoP) (dPart (dBin rSub (dBin rMul (dC (.int 3)) (dVar 6)) (dC (.int 2))))) (dNil)))) [6]) (dLst (dCons (dTup (dCons (dVar 1) (dCons (dVar 2) (dNil)))) (dNil)))))) (dNext))
  (dSeq (dAsg (dTup (dCons (dCall 2 (dFn 3 B_law_begun_2a66) (dCons (dVar 0) (dCons (dC (.int 6)) (dNil)))) (dCons (dLst (dNil)) (dNil)))) (dUnp 2 (dgCons (dgName 3) (dgCons (dgName 4) (dgNil)))))
  (dSeq (dFor (diRg1 (dCons (dC (.int 12)) (dNil))) (dgName 5) (dSeq (dFor (diRg1 (dCons (dBin rAdd (dC (.int 1)) (dCall 2 (dFn 4 B_law_next_74a4) (dCons (dVar 0) (dCons (dC (.int 5)) (dNil))))) (dNil))) (dgName 6) (dAsg (dCall 2 (dFn 14 B_law_grown_680b) (dCons (dVar 0) (dCons (dVar 3) (dNil)))) (dgName 3)))
  (dDrop (dMtq "list" mAppend (dVar 4) (dCons (dBin rIxq (dVar 3) (dC (.int 0))) (dNil))))))
  (dRet (dVar 4))))
/-- is_orphan: 0 trip 1 line 2 sender 3 sent 4 receiver 5 received -/
def B_is_orphan_8604 : DTS := dSeq (dAsg (dVar 0) (dUnp 2 (dgCons (dUnp 2 (dgCons (dgName 2) (dgCons (dgName 3) (dgNil)))) (dgCons (dUnp 2 (dgCons (dgName 4) (dgCons (dgName 5) (dgNil)))) (dgNil)))))
  (dRet (dAndV (dBin (rCmp fun i j => decide (i < j)) (dVar 5) (dBin rIxq (dVar 1) (dVar 4))) (dBin (rCmp fun i j => decide (j ≤ i)) (dVar 3) (dBin rIxq (dVar 1) (dVar 2)))))
/-- lowered: 0 trips 1 high 2 numbers 3 changed 4 trip 5 receiver 6 received -/
def B_lowered_c6aa : DTS := dSeq (dAsg (dCB (rListq) (dCons (dVar 1) (dNil))) (dgName 2))
  (dSeq (dAsg (dC (.bl true)) (dgName 3))
  (dSeq (dWhile (dB (dVar 3)) (dSeq (dAsg (dC (.bl false)) (dgName 3))
  (dFor (diValues (dVar 0)) (dgName 4) (dIfS (dB (dCall 2 (dFn 6 B_is_orphan_8604) (dCons (dVar 4) (dCons (dVar 2) (dNil))))) (dSeq (dAsg (dBin rIxq (dVar 4) (dC (.int 1))) (dUnp 2 (dgCons (dgName 5) (dgCons (dgName 6) (dgNil)))))
  (dSeq (dAsg (dVar 6) (dSub (dVar 2) (dVar 5)))
  (dAsg (dC (.bl true)) (dgName 3)))) (dNext)))))
  (dRet (dCB (rTupq) (dCons (dVar 2) (dNil))))))
/-- happened_at: 0 history 1 event 2 process 3 row 4 interval 5 other -/
def B_happened_at_e85f : DTS := dSeq (dFor (diEnum (dCons (dVar 0) (dNil))) (dUnp 2 (dgCons (dgName 2) (dgCons (dgName 3) (dgNil)))) (dSeq (dAsg (dC (.int 0)) (dgName 4))
  (dFor (diVal (dVar 3)) (dgName 5) (dSeq (dIfS (dB (dBin (rEqq false) (dVar 5) (dVar 1))) (dRet (dTup (dCons (dVar 2) (dCons (dVar 4) (dNil))))) (dNext))
  (dIfS (dB (dBin (rEqq false) (dVar 5) (dC (.int 0)))) (dAug 4 (dC (.int 1)) (rI2 fun i j => i + j)) (dNext))))))
  (dRet (dC .non))
/-- trips_of: 0 history 1 messages 2 message 3 row 4 event -/
def B_trips_of_ea9a : DTS := dSeq (dAsg (dCB (rSorted1) (dCons (dLc2 (diVal (dVar 0)) (dgName 3) (dYes) (diVal (dVar 3)) (dgName 4) (dB (dBin (rCmp fun i j => decide (i < j)) (dVar 4) (dC (.int 0)))) (dUn rNeg (dVar 4)) [3, 4] [4]) (dNil))) (dgName 1))
  (dRet (dDc (diVal (dVar 1)) (dgName 2) (dYes) (dVar 2) (dTup (dCons (dCall 2 (dFn 6 B_happened_at_e85f) (dCons (dVar 0) (dCons (dVar 2) (dNil)))) (dCons (dCall 2 (dFn 6 B_happened_at_e85f) (dCons (dVar 0) (dCons (dUn rNeg (dVar 2)) (dNil)))) (dNil)))) [2]))
/-- state_numbers: 0 history 1 row -/
def B_state_numbers_78d0 : DTS := dRet (dCB (rTupq) (dCons (dLc (diVal (dVar 0)) (dgName 1) (dYes) (dBin rAdd (dMtT mTcount (dVar 1) (dCons (dC (.int 0)) (dNil))) (dC (.int 1))) [1]) (dNil)))
/-- fall_back: 0 history 1 failed 2 high 3 process 4 present -/
def B_fall_back_94df : DTS := dSeq (dAsg (dLc (diEnum (dCons (dCall 1 (dFn 2 B_state_numbers_78d0) (dCons (dVar 0) (dNil))) (dNil))) (dUnp 2 (dgCons (dgName 3) (dgCons (dgName 4) (dgNil)))) (dYes) (dIf (dB (dBin (rInq false) (dVar 3) (dVar 1))) (dBin rSub (dVar 4) (dC (.int 1))) (dVar 4)) [3, 4]) (dgName 2))
  (dRet (dCall 2 (dFn 7 B_lowered_c6aa) (dCons (dCall 1 (dFn 5 B_trips_of_ea9a) (dCons (dVar 0) (dNil))) (dCons (dVar 2) (dNil)))))
/-- _law_fallen: 0 _law_rows 1 _law_lost_here -/
def B_law_fallen_e0f3 : DTS := dSeq (dIfS (dB (dBin (rEqq false) (dCB (rLen) (dCons (dVar 1) (dNil))) (dC (.int 0)))) (dRet (dCB (dFnS 1 5 B_fall_back_94df) (dCons (dVar 0) (dNil)))) (dNext))
  (dSeq (dIfS (dB (dBin (rEqq false) (dCB (rLen) (dCons (dVar 1) (dNil))) (dC (.int 1)))) (dRet (dCB (dFnS 1 5 B_fall_back_94df) (dCons (dVar 0) (dCons (dBin rIxq (dVar 1) (dC (.int 0))) (dNil))))) (dNext))
  (dSeq (dIfS (dB (dBin (rEqq false) (dCB (rLen) (dCons (dVar 1) (dNil))) (dC (.int 2)))) (dRet (dCB (dFnS 1 5 B_fall_back_94df) (dCons (dVar 0) (dCons (dBin rIxq (dVar 1) (dC (.int 0))) (dCons (dBin rIxq (dVar 1) (dC (.int 1))) (dNil)))))) (dNext))
  (dSeq (dIfS (dB (dBin (rEqq false) (dCB (rLen) (dCons (dVar 1) (dNil))) (dC (.int 3)))) (dRet (dCB (dFnS 1 5 B_fall_back_94df) (dCons (dVar 0) (dCons (dBin rIxq (dVar 1) (dC (.int 0))) (dCons (dBin rIxq (dVar 1) (dC (.int 1))) (dCons (dBin rIxq (dVar 1) (dC (.int 2))) (dNil))))))) (dNext))
  (dSeq (dIfS (dB (dBin (rEqq false) (dCB (rLen) (dCons (dVar 1) (dNil))) (dC (.int 4)))) (dRet (dCB (dFnS 1 5 B_fall_back_94df) (dCons (dVar 0) (dCons (dBin rIxq (dVar 1) (dC (.int 0))) (dCons (dBin rIxq (dVar 1) (dC (.int 1))) (dCons (dBin rIxq (dVar 1) (dC (.int 2))) (dCons (dBin rIxq (dVar 1) (dC (.int 3))) (dNil)))))))) (dNext))
  (dSeq (dIfS (dB (dBin (rEqq false) (dCB (rLen) (dCons (dVar 1) (dNil))) (dC (.int 5)))) (dRet (dCB (dFnS 1 5 B_fall_back_94df) (dCons (dVar 0) (dCons (dBin rIxq (dVar 1) (dC (.int 0))) (dCons (dBin rIxq (dVar 1) (dC (.int 1))) (dCons (dBin rIxq (dVar 1) (dC (.int 2))) (dCons (dBin rIxq (dVar 1) (dC (.int 3))) (dCons (dBin rIxq (dVar 1) (dC (.int 4))) (dNil))))))))) (dNext))
  (dRet (dCB (dFnS 1 5 B_fall_back_94df) (dCons (dVar 0) (dCons (dBin rIxq (dVar 1) (dC (.int 0))) (dCons (dBin rIxq (dVar 1) (dC (.int 1))) (dCons (dBin rIxq (dVar 1) (dC (.int 2))) (dCons (dBin rIxq (dVar 1) (dC (.int 3))) (dCons (dBin rIxq (dVar 1) (dC (.int 4))) (dCons (dBin rIxq (dVar 1) (dC (.int 5))) (dNil)))))))))))))))
/-- _law_lost: 0 _law_deck_here 1 _law_rows 2 _law_k -/
def B_law_lost_0080 : DTS := dRet (dCB (rTupq) (dCons (dLc (diRg1 (dCons (dCall 2 (dFn 4 B_law_next_74a4) (dCons (dVar 0) (dCons (dC (.int 7)) (dNil)))) (dNil))) (dgName 2) (dYes) (dCall 2 (dFn 4 B_law_next_74a4) (dCons (dVar 0) (dCons (dCB (rLen) (dCons (dVar 1) (dNil))) (dNil)))) [2]) (dNil)))
/-- needed_states: 0 history 1 presents 2 failed 3 process 4 number -/
def B_needed_states_085c : DTS := dSeq (dAsg (dCall 1 (dFn 2 B_state_numbers_78d0) (dCons (dVar 0) (dNil))) (dgName 1))
  (dRet (dCB (rTupq) (dCons (dCB rSortedS' (dCons (dSc2 (diRg1 (dCons (dCB (rLen) (dCons (dVar 0) (dNil))) (dNil))) (dgName 2) (dYes) (diEnum (dCons (dCB (dFnS 1 5 B_fall_back_94df) (dCons (dVar 0) (dCons (dVar 2) (dNil)))) (dNil))) (dUnp 2 (dgCons (dgName 3) (dgCons (dgName 4) (dgNil)))) (dB (dBin (rCmp fun i j => decide (i < j)) (dVar 4) (dBin rIxq (dVar 1) (dVar 3)))) (dTup (dCons (dVar 3) (dCons (dVar 4) (dNil)))) [2, 3, 4] [3, 4]) (dNil))) (dNil))))
/-- _law_divided: 0 _law_rows 1 _law_gone 2 _law_found 3 _law_due 4 _law_process 5 _law_row 6 _law_number -/
def B_law_divided_f910 : DTS := dSeq (dAsg (dTup (dCons (dBin rAdd (dCB (rListq) (dCons (dCall 1 (dFn 5 B_needed_states_085c) (dCons (dVar 0) (dNil))) (dNil))) (dCB (rListq) (dCons (dVar 1) (dNil)))) (dCons (dLst (dNil)) (dNil)))) (dUnp 2 (dgCons (dgName 2) (dgCons (dgName 3) (dgNil)))))
  (dSeq (dFor (diEnum (dCons (dVar 0) (dNil))) (dUnp 2 (dgCons (dgName 4) (dgCons (dgName 5) (dgNil)))) (dDrop (dMtq "list" mExtend (dVar 3) (dCons (dLc (diRg1 (dCons (dBin rAdd (dMtT mTcount (dVar 5) (dCons (dC (.int 0)) (dNil))) (dC (.int 1))) (dNil))) (dgName 6) (dYes) (dTup (dCons (dVar 4) (dCons (dVar 6) (dNil)))) [6]) (dNil)))))
  (dRet (dBin (rEqq false) (dCB rSortedPD (dCons (dVar 2) (dNil))) (dVar 3))))
/-- all_states: 0 history 1 process 2 present 3 number -/
def B_all_states_326e : DTS := dRet (dLc2 (diEnum (dCons (dCall 1 (dFn 2 B_state_numbers_78d0) (dCons (dVar 0) (dNil))) (dNil))) (dUnp 2 (dgCons (dgName 1) (dgCons (dgName 2) (dgNil)))) (dYes) (diRg1 (dCons (dBin rAdd (dVar 2) (dC (.int 1))) (dNil))) (dgName 3) (dYes) (dTup (dCons (dVar 1) (dCons (dVar 3) (dNil)))) [1, 2, 3] [3])
/-- deletable_states: 0 history 1 presents 2 needed 3 state -/
def B_deletable_states_a3a5 : DTS := dSeq (dAsg (dCall 1 (dFn 2 B_state_numbers_78d0) (dCons (dVar 0) (dNil))) (dgName 1))
  (dSeq (dAsg (dCall 1 (dFn 5 B_needed_states_085c) (dCons (dVar 0) (dNil))) (dgName 2))
  (dRet (dCB (rTupq) (dCons (dLc (diVal (dCall 1 (dFn 4 B_all_states_326e) (dCons (dVar 0) (dNil)))) (dgName 3) (dAnd (dB (dBin (rCmp fun i j => decide (i < j)) (dBin rIxq (dVar 3) (dC (.int 1))) (dBin rIxq (dVar 1) (dBin rIxq (dVar 3) (dC (.int 0)))))) (dB (dBin (rInq true) (dVar 3) (dVar 2)))) (dVar 3) [3]) (dNil)))))
/-- _law_deck: 0 _law_script 1 _law_cell -/
def B_law_deck_74a9 : DTS := dRet (dLst (dCons (dLc (diVal (dSl (dVar 0) (dNoP) (dPart (dC (.int 63))))) (dgName 1) (dYes) (dCB (rAbs) (dCons (dVar 1) (dNil))) [1]) (dCons (dC (.int 0)) (dCons (dC (.int 0)) (dCons (dBin rAdd (dC (.int 11)) (dBin rMul (dC (.int 37)) (dCB (rLen) (dCons (dVar 0) (dNil))))) (dNil))))))
/-- law: 0 _law_script 1 _law_deck_here 2 _law_gone 3 _law_rows 4 _law_now 5 _law_k 6 _law_cut 7 _law_one_here 8 _law_process 9 _law_number -/
def B_law_5e43 : DTS := dSeq (dAsg (dCall 1 (dFn 2 B_law_deck_74a9) (dCons (dVar 0) (dNil))) (dgName 1))
  (dSeq (dAsg (dTup (dNil)) (dgName 2))
  (dSeq (dFor (diVal (dCall 1 (dFn 7 B_law_later_0ac5) (dCons (dVar 1) (dNil)))) (dgName 3) (dSeq (dAsg (dCall 1 (dFn 4 B_deletable_states_a3a5) (dCons (dVar 3) (dNil))) (dgName 4))
  (dSeq (dIfS (dOr (dB (dBin (rEqq true) (dLc (diVal (dVar 2)) (dgName 7) (dB (dBin (rInq true) (dVar 7) (dVar 4))) (dVar 7) [7]) (dLst (dNil)))) (dNot (dB (dCall 2 (dFn 7 B_law_divided_f910) (dCons (dVar 3) (dCons (dVar 4) (dNil))))))) (dRet (dC (.bl false))) (dNext))
  (dSeq (dAsg (dVar 4) (dgName 2))
  (dFor (diRg1 (dCons (dC (.int 3)) (dNil))) (dgName 5) (dSeq (dAsg (dCall 2 (dFn 2 B_law_fallen_e0f3) (dCons (dVar 3) (dCons (dCall 2 (dFn 3 B_law_lost_0080) (dCons (dVar 1) (dCons (dVar 3) (dNil)))) (dNil)))) (dgName 6))
  (dIfS (dB (dBin (rEqq true) (dLc (diVal (dVar 2)) (dUnp 2 (dgCons (dgName 8) (dgCons (dgName 9) (dgNil)))) (dB (dBin (rEqq false) (dBin rIxq (dVar 6) (dVar 8)) (dVar 9))) (dC (.int 1)) [8, 9]) (dLst (dNil)))) (dRet (dC (.bl false))) (dNext))))))))
  (dRet (dC (.bl true)))))
/-- state_places: 0 row 1 saves 2 place 3 event -/
def B_state_places_5fc5 : DTS := dSeq (dAsg (dLc (diEnum (dCons (dVar 0) (dNil))) (dUnp 2 (dgCons (dgName 2) (dgCons (dgName 3) (dgNil)))) (dB (dBin (rEqq false) (dVar 3) (dC (.int 0)))) (dVar 2) [2, 3]) (dgName 1))
  (dRet (dLst (dCons (dC (.int 0)) (dStarA (dVar 1) (dCons (dCB (rLen) (dCons (dVar 0) (dNil))) (dNil))))))
/-- row_without: 0 row 1 numbers 2 places 3 number 4 place 5 event -/
def B_row_without_e39e : DTS := dSeq (dAsg (dLc (diVal (dVar 1)) (dgName 3) (dB (dBin (rCmp fun i j => decide (j < i)) (dVar 3) (dC (.int 0)))) (dBin rIxq (dCall 1 (dFn 4 B_state_places_5fc5) (dCons (dVar 0) (dNil))) (dVar 3)) [3]) (dgName 2))
  (dRet (dCB (rTupq) (dCons (dLc (diEnum (dCons (dVar 0) (dNil))) (dUnp 2 (dgCons (dgName 4) (dgCons (dgName 5) (dgNil)))) (dB (dBin (rInq true) (dVar 4) (dVar 2))) (dVar 5) [4, 5]) (dNil))))
/-- smaller_history: 0 history 1 deletable 2 process 3 row 4 owner 5 number -/
def B_smaller_history_2861 : DTS := dSeq (dAsg (dCall 1 (dFn 4 B_deletable_states_a3a5) (dCons (dVar 0) (dNil))) (dgName 1))
  (dRet (dCB (rTupq) (dCons (dLc (diEnum (dCons (dVar 0) (dNil))) (dUnp 2 (dgCons (dgName 2) (dgCons (dgName 3) (dgNil)))) (dYes) (dCall 2 (dFn 6 B_row_without_e39e) (dCons (dVar 3) (dCons (dLc (diVal (dVar 1)) (dUnp 2 (dgCons (dgName 4) (dgCons (dgName 5) (dgNil)))) (dB (dBin (rEqq false) (dVar 4) (dVar 2))) (dVar 5) [4, 5]) (dNil)))) [2, 3]) (dNil))))
/-- _law_names: 0 _law_rows 1 _law_gone 2 _law_found 3 _law_process 4 _law_row 5 _law_saves 6 _law_number -/
def B_law_names_7237 : DTS := dSeq (dAsg (dTup (dCons (dCall 1 (dFn 4 B_deletable_states_a3a5) (dCons (dVar 0) (dNil))) (dCons (dLst (dNil)) (dNil)))) (dUnp 2 (dgCons (dgName 1) (dgCons (dgName 2) (dgNil)))))
  (dSeq (dFor (diEnum (dCons (dVar 0) (dNil))) (dUnp 2 (dgCons (dgName 3) (dgCons (dgName 4) (dgNil)))) (dSeq (dAsg (dLc (diRg2 (dCons (dC (.int 1)) (dCons (dBin rAdd (dMtT mTcount (dVar 4) (dCons (dC (.int 0)) (dNil))) (dC (.int 1))) (dNil)))) (dgName 6) (dB (dBin (rInq true) (dTup (dCons (dVar 3) (dCons (dVar 6) (dNil)))) (dVar 1))) (dVar 6) [6]) (dgName 5))
  (dDrop (dMtq "list" mAppend (dVar 2) (dCons (dBin rAdd (dBin rAdd (dLst (dCons (dC (.int 0)) (dNil))) (dVar 5)) (dLst (dCons (dBin rAdd (dMtT mTcount (dVar 4) (dCons (dC (.int 0)) (dNil))) (dC (.int 1))) (dNil)))) (dNil))))))
  (dRet (dVar 2)))
/-- _law_history: 0 _law_deck_here 1 _law_many 2 _law_most 3 _law_state 4 _law_k -/
def B_law_history_9bf0 : DTS := dSeq (dIfS (dAnd (dB (dBin (rCmp fun i j => decide (j < i)) (dVar 1) (dC (.int 1)))) (dB (dBin (rEqq false) (dCall 2 (dFn 4 B_law_next_74a4) (dCons (dVar 0) (dCons (dC (.int 6)) (dNil)))) (dC (.int 0))))) (dRet (dCall 2 (dFn 5 B_law_domino_a8d9) (dCons (dVar 0) (dCons (dVar 2) (dNil))))) (dNext))
  (dSeq (dAsg (dCall 2 (dFn 3 B_law_begun_2a66) (dCons (dVar 0) (dCons (dVar 1) (dNil)))) (dgName 3))
  (dSeq (dFor (diRg1 (dCons (dCall 2 (dFn 4 B_law_next_74a4) (dCons (dVar 0) (dCons (dBin rAdd (dVar 2) (dC (.int 1))) (dNil)))) (dNil))) (dgName 4) (dAsg (dCall 2 (dFn 14 B_law_grown_680b) (dCons (dVar 0) (dCons (dVar 3) (dNil)))) (dgName 3)))
  (dRet (dBin rIxq (dVar 3) (dC (.int 0))))))
/-- law: 0 _law_script 1 _law_deck_here 2 _law_turn 3 _law_rows 4 _law_small 5 _law_names_here 6 _law_lost_here 7 _law_cut 8 _law_due 9 _law_row 10 _law_process 11 _law_number -/
def B_law_8d94 : DTS := dSeq (dAsg (dCall 1 (dFn 2 B_law_deck_74a9) (dCons (dVar 0) (dNil))) (dgName 1))
  (dSeq (dFor (diRg1 (dCons (dC (.int 6)) (dNil))) (dgName 2) (dSeq (dAsg (dCall 3 (dFn 5 B_law_history_9bf0) (dCons (dVar 1) (dCons (dC (.int 6)) (dCons (dC (.int 40)) (dNil))))) (dgName 3))
  (dSeq (dAsg (dTup (dCons (dCall 1 (dFn 6 B_smaller_history_2861) (dCons (dVar 3) (dNil))) (dCons (dCall 1 (dFn 7 B_law_names_7237) (dCons (dVar 3) (dNil))) (dNil)))) (dUnp 2 (dgCons (dgName 4) (dgCons (dgName 5) (dgNil)))))
  (dSeq (dIfS (dB (dBin (rEqq true) (dCall 1 (dFn 6 B_smaller_history_2861) (dCons (dVar 4) (dNil))) (dVar 4))) (dRet (dC (.bl false))) (dNext))
  (dSeq (dIfS (dB (dBin (rEqq true) (dLc (diVal (dVar 4)) (dgName 9) (dYes) (dBin rAdd (dMtT mTcount (dVar 9) (dCons (dC (.int 0)) (dNil))) (dC (.int 2))) [9]) (dLc (diVal (dVar 5)) (dgName 9) (dYes) (dCB (rLen) (dCons (dVar 9) (dNil))) [9]))) (dRet (dC (.bl false))) (dNext))
  (dSeq (dFor (diVal (dBin rAdd (dLst (dCons (dCall 2 (dFn 3 B_law_lost_0080) (dCons (dVar 1) (dCons (dVar 3) (dNil)))) (dCons (dCall 2 (dFn 3 B_law_lost_0080) (dCons (dVar 1) (dCons (dVar 3) (dNil)))) (dNil)))) (dLc (diRg1 (dCons (dCB (rLen) (dCons (dVar 3) (dNil))) (dNil))) (dgName 10) (dYes) (dTup (dCons (dVar 10) (dNil))) [10]))) (dgName 6) (dSeq (dAsg (dCB (rTupq) (dCons (dLc (diZipL (dCons (dVar 5) (dCons (dCall 2 (dFn 2 B_law_fallen_e0f3) (dCons (dVar 4) (dCons (dVar 6) (dNil)))) (dNil)))) (dUnp 2 (dgCons (dgName 9) (dgCons (dgName 11) (dgNil)))) (dYes) (dBin rIxq (dVar 9) (dVar 11)) [9, 11]) (dNil))) (dgName 7))
  (dIfS (dB (dBin (rEqq true) (dVar 7) (dCall 2 (dFn 2 B_law_fallen_e0f3) (dCons (dVar 3) (dCons (dVar 6) (dNil)))))) (dRet (dC (.bl false))) (dNext))))
  (dSeq (dIfS (dB (dBin (rEqq true) (dLc (diVal (dCall 1 (dFn 4 B_deletable_states_a3a5) (dCons (dVar 4) (dNil)))) (dUnp 2 (dgCons (dgName 10) (dgCons (dgName 11) (dgNil)))) (dB (dBin (rCmp fun i j => decide (j < i)) (dVar 11) (dC (.int 0)))) (dC (.int 1)) [10, 11]) (dLst (dNil)))) (dRet (dC (.bl false))) (dNext))
  (dSeq (dAsg (dCB (rTupq) (dCons (dLc (diVal (dCall 1 (dFn 5 B_needed_states_085c) (dCons (dVar 4) (dNil)))) (dUnp 2 (dgCons (dgName 10) (dgCons (dgName 11) (dgNil)))) (dYes) (dTup (dCons (dVar 10) (dCons (dBin rIxq (dBin rIxq (dVar 5) (dVar 10)) (dVar 11)) (dNil)))) [10, 11]) (dNil))) (dgName 8))
  (dIfS (dB (dBin (rEqq true) (dVar 8) (dCall 1 (dFn 5 B_needed_states_085c) (dCons (dVar 3) (dNil))))) (dRet (dC (.bl false))) (dNext))))))))))
  (dRet (dC (.bl true))))
/-- _law_same: 0 _law_found 1 _law_due_here -/
def B_law_same_7705 : DTS := dRet (dBin (rEqq false) (dCB (rRepr) (dCons (dVar 0) (dNil))) (dCB (rRepr) (dCons (dVar 1) (dNil))))
/-- _law_tops: 0 _law_rows 1 _law_lost_here 2 _law_process 3 _law_row -/
def B_law_tops_eaaa : DTS := dRet (dLc (diEnum (dCons (dVar 0) (dNil))) (dUnp 2 (dgCons (dgName 2) (dgCons (dgName 3) (dgNil)))) (dYes) (dBin rSub (dBin rAdd (dMtT mTcount (dVar 3) (dCons (dC (.int 0)) (dNil))) (dC (.int 1))) (dCB (rInt) (dCons (dBin (rInq false) (dVar 2) (dVar 1)) (dNil)))) [2, 3])
/-- _law_due: 0 _law_rows 1 _law_lost_here 2 _law_good 3 _law_tops_here 4 _law_found 5 _law_cut 6 _law_number 7 _law_top 8 _law_pair -/
def B_law_due_83c0 : DTS := dSeq (dAsg (dTup (dCons (dCall 2 (dFn 4 B_law_tops_eaaa) (dCons (dVar 0) (dCons (dVar 1) (dNil)))) (dCons (dBin rMul (dLst (dCons (dC (.int 0)) (dNil))) (dCB (rLen) (dCons (dVar 0) (dNil)))) (dNil)))) (dUnp 2 (dgCons (dgName 3) (dgCons (dgName 4) (dgNil)))))
  (dSeq (dFor (diVal (dVar 2)) (dgName 5) (dIfS (dB (dBin (rEqq false) (dLc (diZip (dCons (dVar 5) (dCons (dVar 3) (dNil)))) (dUnp 2 (dgCons (dgName 6) (dgCons (dgName 7) (dgNil)))) (dB (dBin (rCmp fun i j => decide (j < i)) (dVar 6) (dVar 7))) (dC (.int 1)) [6, 7]) (dLst (dNil)))) (dAsg (dLc (diZipL (dCons (dVar 4) (dCons (dVar 5) (dNil)))) (dgName 8) (dYes) (dCB (rMax1) (dCons (dVar 8) (dNil))) [8]) (dgName 4)) (dNext)))
  (dRet (dCB (rTupq) (dCons (dVar 4) (dNil)))))
/-- _law_cuts: 0 _law_rows 1 _law_found 2 _law_row 3 _law_longer 4 _law_cut 5 _law_number -/
def B_law_cuts_850b : DTS := dSeq (dAsg (dLst (dCons (dTup (dNil)) (dNil))) (dgName 1))
  (dSeq (dFor (diVal (dVar 0)) (dgName 2) (dSeq (dAsg (dLst (dNil)) (dgName 3))
  (dSeq (dFor (diVal (dVar 1)) (dgName 4) (dDrop (dMtq "list" mExtend (dVar 3) (dCons (dLc (diRg1 (dCons (dBin rAdd (dMtT mTcount (dVar 2) (dCons (dC (.int 0)) (dNil))) (dC (.int 2))) (dNil))) (dgName 5) (dYes) (dBin rAdd (dVar 4) (dTup (dCons (dVar 5) (dNil)))) [5]) (dNil)))))
  (dAsg (dVar 3) (dgName 1)))))
  (dRet (dVar 1)))
/-- _law_letters: 0 _law_rows 1 _law_found 2 _law_receiver 3 _law_row 4 _law_index 5 _law_event 6 _law_sender 7 _law_process -/
def B_law_letters_6581 : DTS := dSeq (dAsg (dLst (dNil)) (dgName 1))
  (dSeq (dFor (diEnum (dCons (dVar 0) (dNil))) (dUnp 2 (dgCons (dgName 2) (dgCons (dgName 3) (dgNil)))) (dFor (diEnum (dCons (dVar 3) (dNil))) (dUnp 2 (dgCons (dgName 4) (dgCons (dgName 5) (dgNil)))) (dIfS (dB (dBin (rCmp fun i j => decide (i < j)) (dVar 5) (dC (.int 0)))) (dSeq (dAsg (dBin rIxq (dLc (diRg1 (dCons (dCB (rLen) (dCons (dVar 0) (dNil))) (dNil))) (dgName 7) (dB (dBin (rInq false) (dBin rSub (dC (.int 0)) (dVar 5)) (dBin rIxq (dVar 0) (dVar 7)))) (dVar 7) [7]) (dC (.int 0))) (dgName 6))
  (dDrop (dMtq "list" mAppend (dVar 1) (dCons (dLst (dCons (dVar 6) (dCons (dMtT mTindex (dBin rIxq (dVar 0) (dVar 6)) (dCons (dBin rSub (dC (.int 0)) (dVar 5)) (dNil))) (dCons (dVar 2) (dCons (dVar 4) (dCons (dBin rSub (dC (.int 0)) (dVar 5)) (dNil))))))) (dNil))))) (dNext))))
  (dRet (dVar 1)))
/-- _law_spots: 0 _law_row 1 _law_index 2 _law_event -/
def B_law_spots_60b5 : DTS := dRet (dBin rAdd (dBin rAdd (dLst (dCons (dC (.int 0)) (dNil))) (dLc (diEnum (dCons (dVar 0) (dNil))) (dUnp 2 (dgCons (dgName 1) (dgCons (dgName 2) (dgNil)))) (dB (dBin (rEqq false) (dVar 2) (dC (.int 0)))) (dVar 1) [1, 2])) (dLst (dCons (dCB (rLen) (dCons (dVar 0) (dNil))) (dNil))))
/-- _law_places: 0 _law_rows 1 _law_cut 2 _law_row 3 _law_number -/
def B_law_places_b8ae : DTS := dRet (dLc (diZip (dCons (dVar 0) (dCons (dVar 1) (dNil)))) (dUnp 2 (dgCons (dgName 2) (dgCons (dgName 3) (dgNil)))) (dYes) (dBin rIxq (dCall 1 (dFn 3 B_law_spots_60b5) (dCons (dVar 2) (dNil))) (dVar 3)) [2, 3])
/-- _law_fits: 0 _law_rows 1 _law_cut 2 _law_spots_here 3 _law_sender 4 _law_start 5 _law_receiver 6 _law_finish 7 _law_message -/
def B_law_fits_b0d3 : DTS := dSeq (dAsg (dCall 2 (dFn 4 B_law_places_b8ae) (dCons (dVar 0) (dCons (dVar 1) (dNil)))) (dgName 2))
  (dSeq (dFor (diVal (dCall 1 (dFn 8 B_law_letters_6581) (dCons (dVar 0) (dNil)))) (dUnp 5 (dgCons (dgName 3) (dgCons (dgName 4) (dgCons (dgName 5) (dgCons (dgName 6) (dgCons (dgName 7) (dgNil))))))) (dIfS (dAnd (dB (dBin (rCmp fun i j => decide (i < j)) (dVar 6) (dBin rIxq (dVar 2) (dVar 5)))) (dB (dBin (rCmp fun i j => decide (j ≤ i)) (dVar 4) (dBin rIxq (dVar 2) (dVar 3))))) (dRet (dC (.bl false))) (dNext)))
  (dRet (dC (.bl true))))
/-- law: 0 _law_script 1 _law_deck_here 2 _law_turn 3 _law_rows 4 _law_kept 5 _law_good 6 _law_lost_here 7 _law_due_here 8 _law_cut 9 _law_process -/
def B_law_adea : DTS := dSeq (dAsg (dCall 1 (dFn 2 B_law_deck_74a9) (dCons (dVar 0) (dNil))) (dgName 1))
  (dSeq (dFor (diRg1 (dCons (dC (.int 6)) (dNil))) (dgName 2) (dSeq (dAsg (dCall 3 (dFn 5 B_law_history_9bf0) (dCons (dVar 1) (dCons (dC (.int 4)) (dCons (dC (.int 10)) (dNil))))) (dgName 3))
  (dSeq (dAsg (dTup (dCons (dCB (rRepr) (dCons (dVar 3) (dNil))) (dCons (dLc (diVal (dCall 1 (dFn 6 B_law_cuts_850b) (dCons (dVar 3) (dNil)))) (dgName 8) (dB (dCall 2 (dFn 8 B_law_fits_b0d3) (dCons (dVar 3) (dCons (dVar 8) (dNil))))) (dVar 8) [8]) (dNil)))) (dUnp 2 (dgCons (dgName 4) (dgCons (dgName 5) (dgNil)))))
  (dFor (diVal (dBin rAdd (dLst (dCons (dTup (dNil)) (dCons (dCall 2 (dFn 3 B_law_lost_0080) (dCons (dVar 1) (dCons (dVar 3) (dNil)))) (dNil)))) (dLc (diRg1 (dCons (dCB (rLen) (dCons (dVar 3) (dNil))) (dNil))) (dgName 9) (dYes) (dTup (dCons (dVar 9) (dNil))) [9]))) (dgName 6) (dSeq (dAsg (dCall 3 (dFn 9 B_law_due_83c0) (dCons (dVar 3) (dCons (dVar 6) (dCons (dVar 5) (dNil))))) (dgName 7))
  (dSeq (dIfS (dOr (dB (dBin (rInq true) (dVar 7) (dVar 5))) (dNot (dB (dCall 2 (dFn 2 B_law_same_7705) (dCons (dCall 2 (dFn 2 B_law_fallen_e0f3) (dCons (dVar 3) (dCons (dVar 6) (dNil)))) (dCons (dVar 7) (dNil))))))) (dRet (dC (.bl false))) (dNext))
  (dIfS (dOr (dNot (dB (dCall 2 (dFn 2 B_law_same_7705) (dCons (dCall 2 (dFn 2 B_law_fallen_e0f3) (dCons (dVar 3) (dCons (dVar 6) (dNil)))) (dCons (dVar 7) (dNil)))))) (dB (dBin (rEqq true) (dCB (rRepr) (dCons (dVar 3) (dNil))) (dVar 4)))) (dRet (dC (.bl false))) (dNext))))))))
  (dRet (dC (.bl true))))
/-- _law_renamed: 0 _law_rows 1 _law_order 2 _law_names 3 _law_found 4 _law_process 5 _law_row 6 _law_event -/
def B_law_renamed_9b92 : DTS := dSeq (dAsg (dLst (dNil)) (dgName 3))
  (dSeq (dFor (diVal (dVar 1)) (dgName 4) (dSeq (dAsg (dLst (dCons (dC (.int 0)) (dNil))) (dgName 5))
  (dSeq (dFor (diVal (dBin rIxq (dVar 0) (dVar 4))) (dgName 6) (dDrop (dMtq "list" mAppend (dVar 5) (dCons (dBin rMul (dBin rMul (dBin rIxq (dVar 2) (dBin rSub (dCB (rAbs) (dCons (dVar 6) (dNil))) (dC (.int 1)))) (dBin rSub (dC (.int 1)) (dBin rMul (dC (.int 2)) (dCB (rInt) (dCons (dBin (rCmp fun i j => decide (i < j)) (dVar 6) (dC (.int 0))) (dNil)))))) (dCB (rInt) (dCons (dBin (rEqq true) (dVar 6) (dC (.int 0))) (dNil)))) (dNil)))))
  (dDrop (dMtq "list" mAppend (dVar 3) (dCons (dCB (rTupq) (dCons (dSl (dVar 5) (dPart (dC (.int 1))) (dNoP)) (dNil))) (dNil)))))))
  (dRet (dCB (rTupq) (dCons (dVar 3) (dNil)))))
/-- _law_moved: 0 _law_deck_here 1 _law_rows 2 _law_order 3 _law_names 4 _law_other 5 _law_k 6 _law_lost_here 7 _law_cut 8 _law_found 9 _law_due 10 _law_process 11 _law_number -/
def B_law_moved_9561 : DTS := dSeq (dAsg (dTup (dCons (dCall 2 (dFn 4 B_law_shuffled_c6aa) (dCons (dVar 0) (dCons (dLRg1 (dCB (rLen) (dCons (dVar 1) (dNil)))) (dNil)))) (dCons (dCall 2 (dFn 4 B_law_shuffled_c6aa) (dCons (dVar 0) (dCons (dLRg2 (dC (.int 1)) (dC (.int 25))) (dNil)))) (dNil)))) (dUnp 2 (dgCons (dgName 2) (dgCons (dgName 3) (dgNil)))))
  (dSeq (dAsg (dCall 3 (dFn 7 B_law_renamed_9b92) (dCons (dVar 1) (dCons (dVar 2) (dCons (dVar 3) (dNil))))) (dgName 4))
  (dSeq (dFor (diRg1 (dCons (dC (.int 3)) (dNil))) (dgName 5) (dSeq (dAsg (dCall 2 (dFn 3 B_law_lost_0080) (dCons (dVar 0) (dCons (dVar 1) (dNil)))) (dgName 6))
  (dSeq (dAsg (dCall 2 (dFn 2 B_law_fallen_e0f3) (dCons (dVar 1) (dCons (dVar 6) (dNil)))) (dgName 7))
  (dSeq (dAsg (dCall 2 (dFn 2 B_law_fallen_e0f3) (dCons (dVar 4) (dCons (dCB (rTupq) (dCons (dLc (diVal (dVar 6)) (dgName 10) (dYes) (dMtq "list" mLindex (dVar 2) (dCons (dVar 10) (dNil))) [10]) (dNil))) (dNil)))) (dgName 8))
  (dIfS (dB (dBin (rEqq true) (dVar 8) (dCB (rTupq) (dCons (dLc (diVal (dVar 2)) (dgName 10) (dYes) (dBin rIxq (dVar 7) (dVar 10)) [10]) (dNil))))) (dRet (dC (.bl false))) (dNext))))))
  (dSeq (dAsg (dCB rSortedPD (dCons (dLc (diVal (dCall 1 (dFn 5 B_needed_states_085c) (dCons (dVar 1) (dNil)))) (dUnp 2 (dgCons (dgName 10) (dgCons (dgName 11) (dgNil)))) (dYes) (dTup (dCons (dMtq "list" mLindex (dVar 2) (dCons (dVar 10) (dNil))) (dCons (dVar 11) (dNil)))) [10, 11]) (dNil))) (dgName 9))
  (dSeq (dIfS (dB (dBin (rEqq true) (dCB (rListq) (dCons (dCall 1 (dFn 5 B_needed_states_085c) (dCons (dVar 4) (dNil))) (dNil))) (dVar 9))) (dRet (dC (.bl false))) (dNext))
  (dRet (dBin (rEqq false) (dCall 1 (dFn 6 B_smaller_history_2861) (dCons (dVar 4) (dNil))) (dCall 3 (dFn 7 B_law_renamed_9b92) (dCons (dCall 1 (dFn 6 B_smaller_history_2861) (dCons (dVar 1) (dNil))) (dCons (dVar 2) (dCons (dVar 3) (dNil)))))))))))
/-- _law_saved: 0 _law_rows 1 _law_fresh 2 _law_process 3 _law_row -/
def B_law_saved_13a1 : DTS := dSeq (dAsg (dCB (rTupq) (dCons (dLc (diVal (dVar 0)) (dgName 3) (dYes) (dBin rAdd (dVar 3) (dTup (dCons (dC (.int 0)) (dNil)))) [3]) (dNil))) (dgName 1))
  (dSeq (dFor (diRg1 (dCons (dCB (rLen) (dCons (dVar 1) (dNil))) (dNil))) (dgName 2) (dIfS (dB (dBin (rEqq true) (dCB (dFnS 1 5 B_fall_back_94df) (dCons (dVar 1) (dCons (dVar 2) (dNil)))) (dCB (rTupq) (dCons (dCall 2 (dFn 4 B_law_tops_eaaa) (dCons (dVar 1) (dCons (dTup (dCons (dVar 2) (dNil))) (dNil)))) (dNil))))) (dRet (dC (.bl false))) (dNext)))
  (dRet (dBin (rEqq false) (dCall 1 (dFn 5 B_needed_states_085c) (dCons (dVar 1) (dNil))) (dCB (rTupq) (dCons (dLc (diEnum (dCons (dVar 1) (dNil))) (dUnp 2 (dgCons (dgName 2) (dgCons (dgName 3) (dgNil)))) (dYes) (dTup (dCons (dVar 2) (dCons (dMtT mTcount (dVar 3) (dCons (dC (.int 0)) (dNil))) (dNil)))) [2, 3]) (dNil))))))
/-- law: 0 _law_script 1 _law_deck_here 2 _law_turn 3 _law_rows 4 _law_lost_here -/
def B_law_f851 : DTS := dSeq (dAsg (dCall 1 (dFn 2 B_law_deck_74a9) (dCons (dVar 0) (dNil))) (dgName 1))
  (dSeq (dFor (diRg1 (dCons (dC (.int 5)) (dNil))) (dgName 2) (dSeq (dAsg (dCall 3 (dFn 5 B_law_history_9bf0) (dCons (dVar 1) (dCons (dC (.int 6)) (dCons (dC (.int 40)) (dNil))))) (dgName 3))
  (dSeq (dIfS (dOr (dNot (dB (dCall 2 (dFn 12 B_law_moved_9561) (dCons (dVar 1) (dCons (dVar 3) (dNil)))))) (dNot (dB (dCall 1 (dFn 4 B_law_saved_13a1) (dCons (dVar 3) (dNil)))))) (dRet (dC (.bl false))) (dNext))
  (dSeq (dAsg (dCall 2 (dFn 3 B_law_lost_0080) (dCons (dVar 1) (dCons (dVar 3) (dNil)))) (dgName 4))
  (dIfS (dAnd (dB (dBin (rCmp fun i j => decide (i < j)) (dCB (rLen) (dCons (dVar 3) (dNil))) (dC (.int 6)))) (dB (dBin (rEqq true) (dCall 2 (dFn 2 B_law_fallen_e0f3) (dCons (dBin rAdd (dVar 3) (dTup (dCons (dTup (dNil)) (dNil)))) (dCons (dVar 4) (dNil)))) (dBin rAdd (dCall 2 (dFn 2 B_law_fallen_e0f3) (dCons (dVar 3) (dCons (dVar 4) (dNil)))) (dTup (dCons (dC (.int 1)) (dNil))))))) (dRet (dC (.bl false))) (dNext))))))
  (dRet (dC (.bl true))))
end Sv

/-! The data layer: what is never reached, classes as values, isinstance, pop(), dicts in the store. -/
namespace Sv
open PySem PySem.Spec PyProof.Rows L2
section
variable {X : Cx} {a b c e o : Expr} {es : List Expr} {ta tb tc te : DTE} {tl : DTA} {pos p : Pos}
/-! ### never reached -/
def dNoE : DTE := fun _ _ _ => False
def dNoS : DTS := fun _ _ _ => False
theorem de_no : DE X e dNoE := ⟨⟨fun pins s σ H Q I h => by
  obtain ⟨_, _, _, _, h, _⟩ := h
  exact h.elim⟩⟩
theorem ds_no {st : Stmt} : DS X st dNoS := ⟨⟨fun pins s σ H Q I h => by
  obtain ⟨_, _, _, _, h, _⟩ := h
  exact h.elim⟩⟩
/-! ### classes as values, isinstance -/
theorem de_ty {x : Str} {n : String} (hg : Gl X x) (hm : X.mg x = none) (hv : bootBuiltins x = some (.type n)) (hn : x ≠ "__name__" := by decide) (hdb : (x == ("__debug__" : Str)) = false := by decide) : DE X (.Name x pos) (dC (.ty n)) :=
  ⟨(pe_bltn (v := .ty n) hg hm hv rfl hn hdb).of fun σ H Q ⟨env, S, R, rs, q, k⟩ => k _ _ _ _ q rs.sto (.ty n) (.refl H)⟩
def tyD (S : Sto) : D → Option String
  | .non => some "NoneType"
  | .bl _ => some "bool"
  | .int _ => some "int"
  | .str _ => some "str"
  | .tup _ => some "tuple"
  | .wtup _ => some "tuple"
  | .rol _ => some "list"
  | .dct _ => some "dict"
  | .ref a => match S a with
    | some (.lst _) => some "list"
    | some (.dK _) => some "dict"
    | _ => none
  | _ => none
theorem ty_rel {K : KK} {S : Sto} {H : Hp} {d : D} {v : V} {t : String} (s : RelS K S H) (r : RD K H d v) (h : tyD S d = some t) : TyX K.k H v (.type t) := by
  cases r with
  | non => cases h; exact .base .non
  | bl b => cases h; exact .base (.bl b)
  | int i => cases h; exact .base (.int i)
  | str x => cases h; exact .base (.str x)
  | ty n => cases h
  | tup t _ =>
    cases h
    obtain ⟨o, t, _⟩ := t
    exact .fTuple t
  | wtup t _ => cases h; exact .base (.tup t)
  | rol t _ =>
    cases h
    rcases t with ⟨o, t⟩ | ⟨o, its, n, h1, h2, _⟩
    · exact .base (.frz t)
    · exact .kList h1 h2
  | dct t _ => cases h; exact .fDict t
  | ref a =>
    have h : (match S a with
      | some (.lst _) => some "list"
      | some (.dK _) => some "dict"
      | _ => none) = some t := h
    split at h
    · rename_i e
      cases h
      obtain ⟨vs, h1, _⟩ := s a _ e
      exact .base (.lst h1)
    · rename_i e
      cases h
      obtain ⟨vs, h1, _⟩ := s a _ e
      exact .base (.dK h1)
    · cases h
def rIsi : DRC := fun ds S R => ∃ d T t b, ds = [d, .ty T] ∧ tyD S d = some t ∧ kitB t T = some b ∧ R (.bl b) S
theorem b_isi : CallR X (.builtin "isinstance") (lC X.kk Sv.rIsi) := by
  intro pins s σ H vs us Q I r ⟨ds, S, R, r1, s1, ⟨d, T, t, b, hd, ht, hk, q⟩, k⟩
  subst hd
  obtain ⟨v, u, rfl, rv, ru⟩ := r1.inv2
  cases ru
  exact call_isi pins s σ H _ us Q I r ⟨v, .ty T, .type t, .type T, b, rfl, .ty T, ty_rel s1 rv ht, kit_ty hk, k _ _ _ _ q s1 (.bl _) (.refl H)⟩
theorem isi_ii : kitB "int" "int" = some true := by decide +kernel
theorem isi_bi : kitB "bool" "int" = some true := by decide +kernel
theorem isi_ib : kitB "int" "bool" = some false := by decide +kernel
theorem isi_bb : kitB "bool" "bool" = some true := by decide +kernel
theorem isi_tt : kitB "tuple" "tuple" = some true := by decide +kernel
theorem isi_lt : kitB "list" "tuple" = some false := by decide +kernel
theorem isi_dt : kitB "dict" "tuple" = some false := by decide +kernel
theorem isi_st : kitB "str" "tuple" = some false := by decide +kernel
theorem isi_nt : kitB "NoneType" "tuple" = some false := by decide +kernel
theorem isi_it : kitB "int" "tuple" = some false := by decide +kernel
theorem isi_bt : kitB "bool" "tuple" = some false := by decide +kernel
theorem isi_si : kitB "str" "int" = some false := by decide +kernel
theorem isi_ni : kitB "NoneType" "int" = some false := by decide +kernel
theorem isi_ti : kitB "tuple" "int" = some false := by decide +kernel
theorem isi_li : kitB "list" "int" = some false := by decide +kernel
theorem isi_di : kitB "dict" "int" = some false := by decide +kernel
/-! ### pop() -/
def mPop0 : DRM := fun x ds S R => ∃ l xs y, x = .ref l ∧ ds = [] ∧ S l = some (.lst xs) ∧ xs[xs.length - 1]? = some y ∧ R y (S.put l (.lst xs.dropLast))
theorem RDs.dropLast {K : KK} {H : Hp} {ds : List D} {vs : List V} (r : RDs K H ds vs) : RDs K H ds.dropLast vs.dropLast := by
  rw [List.dropLast_eq_take, List.dropLast_eq_take, r.length]
  exact r.take _
theorem m_pop0 : MtR X "list.pop" (lM X.kk mPop0) := by
  intro pins s σ H x vs v us Q I rx rv ⟨d, ds, S, R, r1, r2, s1, ⟨l, xs, y, hd, hds, hx, hy, q⟩, k⟩
  subst hd hds
  cases r1
  cases r2
  obtain ⟨ws, h3, q3⟩ := s1.lst hx
  rw [q3.length] at hy
  obtain ⟨z, hz, rz⟩ := q3.at hy
  have e : Ext H (upd H l (.lst ws.dropLast)) := .put h3 trivial
  exact mt_pop pins s σ H _ _ v us Q I rx rv ⟨l, ws, z, rfl, rfl, h3, hz, k _ _ _ _ q (s1.put h3 trivial ⟨_, upd_same, (q3.dropLast).ext e⟩) (rz.ext e) e⟩
def mRemove : DRM := fun x ds S R => ∃ l xs y ps p j, x = .ref l ∧ ds = [y] ∧ S l = some (.lst xs) ∧ Pys S xs ps ∧ Py S y p ∧ PyData.plainAll ps = true ∧ p.plain = true ∧ p.depth ≤ 60 ∧ SeqAt.dataPlace ps p = some j ∧ R .non (S.put l (.lst (xs.eraseIdx j)))
theorem m_remove (hu : X.A.units + 64 < cLine) : MtR X "list.remove" (lM X.kk mRemove) := by
  intro pins s σ H x vs v us Q I rx rv ⟨d, ds, S, R, r1, r2, s1, ⟨l, xs, y, ps, p, j, hd, hds, hx, h1, h2, h3, h4, h5, h6, q⟩, k⟩
  subst hd hds
  cases r1
  obtain ⟨w, rfl, rw'⟩ := r2.inv1
  obtain ⟨ws, g3, q3⟩ := s1.lst hx
  have e : Ext H (upd H l (.lst (ws.eraseIdx j))) := .put g3 trivial
  exact mt_removeD hu pins s σ H _ _ v us Q I rx rv ⟨l, w, p, ws, ps, j, rfl, rfl, g3, Pys.dp s1 h1 q3, Py.dp s1 h2 rw', h3, h4, h5, h6, k _ _ _ _ q (s1.put g3 trivial ⟨_, upd_same, (q3.eraseIdx j).ext e⟩) .non e⟩
def dMtq0 (T : String) (r : DRM) (to : DTE) : DTE := fun env S R => to env S fun x S1 => (T = "list" ∧ ∃ xs, seqOf S1 x = some xs ∧ (∀ ds, x ≠ .tup ds) ∧ ∀ ds, x ≠ .wtup ds) ∧ r x [] S1 R
theorem de_mL0 {r : DRM} {name : Str} {id : String} {to : DTE} {apos cpos : Pos} (slot : Slot "list" name id) (hty : typeOf (.builtin id) = pure (.type "method_descriptor")) (hm : MtR X id (lM X.kk r)) (ho : DE X o to)
    (hbase : attributeBase o name X.env (eval o X.env) = eval o X.env := by rfl) (hline : (apos.endLine == cpos.line) = true := by rfl) :
    DE X (.Call (.Attribute o name apos) [] [] cpos) (dMtq0 "list" r to) := by
  refine ⟨(pe_bm0 PySem.F.plainAttrs_list slot hty hm ho.run hbase hline).of fun σ H Q ⟨env, S, R, rs, h, k⟩ => ⟨env, S, _, rs, h, fun x S1 v H1 ⟨⟨_, xs, hx, hn⟩, q⟩ s1 r1 e1 => ⟨?_, ?_⟩⟩⟩
  · cases r1 with
    | tup t qq => exact absurd rfl (hn.1 _)
    | wtup t qq => exact absurd rfl (hn.2 _)
    | rol t qq => exact .inl ⟨rfl, _, t.sqL⟩
    | ref a =>
      obtain ⟨ws, h1, _⟩ := s1.lst (seqOf_ref hx)
      exact .inl ⟨rfl, _, .of h1⟩
    | _ => cases hx
  · exact ⟨x, [], S1, R, r1, .nil, s1, q, fun z S3 w H3 q3 s3 r3 e3 => k _ _ _ _ q3 s3 r3 (e1.trans e3)⟩
/-! ### dicts in the store -/
def dDNew : DTE := fun _ S R => ∀ p, S p = none → R (.ref p) (S.put p (.dK []))
theorem de_dnew : DE X (.Dict [] [] pos) dDNew := ⟨pe_dnewK.of fun σ H Q ⟨env, S, R, rs, q, k⟩ p np =>
  k _ _ _ _ (q p (rs.sto.fresh np)) (rs.sto.lay np ⟨_, upd_same, .nil⟩) (.ref p) (.new np)⟩
/-- a dict that is not written any more -/
def dFrz (te : DTE) : DTE := fun env S R => te env S fun d S1 => ∃ a kvs, d = .ref a ∧ S1 a = some (.dK kvs) ∧ R (.dct kvs) (S1.rem a)
theorem de_frz (he : DE X e te) : DE X e (dFrz te) := by
  refine ⟨(pe_frz he.run).of fun σ H Q ⟨env, S, R, rs, h, k⟩ => ⟨env, S, _, rs, h, fun d S1 v H1 ⟨a, kvs, hd, ha, q⟩ s1 r1 e1 => ?_⟩⟩
  subst hd
  cases r1
  obtain ⟨ws, h3, h4⟩ := s1 a _ ha
  refine ⟨a, _, rfl, h3, trivial, fun od => ?_⟩
  have e3 : Ext H1 (upd H1 a (.frz od (.dK ws))) := .put h3 trivial
  exact k _ _ _ _ q (s1.rem h3 trivial) (.dct upd_same (h4.ext e3)) (e1.trans e3)
def dDPut (td ty tv : DTE) : DTS := fun C env S => tv env S fun v S1 => td env S1 fun x S2 => ty env S2 fun y S3 => ∃ a kvs k, x = .ref a ∧ y = kD k ∧ S3 a = some (.dK kvs) ∧ kvs.length < 1000000 ∧ C.nx env (S3.put a (.dK (putD kvs k v)))
theorem ds_dput {i : Expr} {pos' : Pos} {td ty tv : DTE} (hu : X.A.units + 1 < cLine) (ho : DE X o td) (hi : DE X i ty) (hv : DE X e tv) (hs : swapsWith e (some (.Subscript o i pos')) pos.line X.env = pure false := by rfl) : DS X (.Assign [.Subscript o i pos'] e pos) (dDPut td ty tv) := by
  refine ⟨(ps_dput hu ho.run hi.run hv.run hs).of fun σ H B ⟨env, S, C, rs, h, k, _⟩ => ⟨env, S, _, rs, h, fun v S1 u H1 q1 s1 r1 e1 => ⟨env, S1, _, rs.ext e1 s1, q1, fun x S2 w H2 q2 s2 r2 e2 => ⟨env, S2, _, rs.ext (e1.trans e2) s2, q2, fun y S3 t H3 ⟨aa, kvs, kk, hx, hy, ha, hl, q3⟩ s3 r3 e3 => ?_⟩⟩⟩⟩
  subst hx hy
  cases r2
  cases kD_inv r3
  obtain ⟨vs, h3, h4⟩ := s3 aa _ ha
  have e4 : Ext H3 (upd H3 aa (.dK (putK vs kk u))) := .put h3 trivial
  have ea : Ext H (upd H3 aa (.dK (putK vs kk u))) := e1.trans (e2.trans (e3.trans e4))
  exact ⟨aa, _, rfl, .k h3 (Nat.lt_of_lt_of_le (h4.length ▸ hl) (by decide)), k _ _ _ _ q3 (rs.ext ea (s3.put (o := .dK (putD kvs kk v)) h3 trivial ⟨_, upd_same, (h4.put (r1.ext (e2.trans e3))).ext e4⟩)) ea⟩
/-! ### repr of bools and None, too -/
def rReprX : DRC := fun ds S R => (∃ b, ds = [.bl b] ∧ R (.str (if b = true then "True" else "False")) S) ∨ (ds = [.non] ∧ R (.str "None") S) ∨ rRepr ds S R
theorem b_reprX (hgd : X.A.guards = some []) (hu : X.A.units + 64 < cLine) : CallR X (.builtin "repr") (lC X.kk rReprX) := by
  intro pins s σ H vs us Q I r ⟨ds, S, R, r1, s1, h, k⟩
  rcases h with ⟨b, hd, q⟩ | ⟨hd, q⟩ | h
  · subst hd
    obtain ⟨v, rfl, rv⟩ := r1.inv1
    cases rv
    obtain ⟨u, rfl, ru⟩ := vals1 r
    cases ru
    exact PySem.P.repr_of_bool ⟨.str _, H, I.kept (t' := s.toks + 1) (fun b o e => e), ⟨_, rfl⟩, k _ _ _ _ q s1 (.str _) (.refl H)⟩
  · subst hd
    obtain ⟨v, rfl, rv⟩ := r1.inv1
    cases rv
    obtain ⟨u, rfl, ru⟩ := vals1 r
    cases ru
    exact PySem.P.repr_of_none ⟨.str _, H, I.kept (t' := s.toks + 1) (fun b o e => e), ⟨_, rfl⟩, k _ _ _ _ q s1 (.str _) (.refl H)⟩
  · exact b_repr hgd hu pins s σ H vs us Q I r ⟨ds, S, R, r1, s1, h, k⟩
end
end Sv

/-! The data layer: the least of a list of data, is of bools. -/
namespace Sv
open PySem PySem.Spec PyProof.Rows L2
section
variable {X : Cx} {a b c e o : Expr} {es : List Expr} {ta tb tc te : DTE} {tl : DTA} {pos p : Pos}
theorem Pys.atp {S : Sto} : ∀ {ds : List D} {ps : List PyData} {i : Nat} {d : D}, Pys S ds ps → ds[i]? = some d → ∃ p, ps[i]? = some p ∧ Py S d p
  | _, _, _, _, .nil, h => by simp at h
  | _, _, 0, _, .cons r _, h => by simp at h; subst h; exact ⟨_, rfl, r⟩
  | _, _, i + 1, _, .cons _ t, h => Pys.atp (i := i) t (by simpa using h)
theorem Pys.len {S : Sto} : ∀ {ds : List D} {ps : List PyData}, Pys S ds ps → ds.length = ps.length
  | _, _, .nil => rfl
  | _, _, .cons _ t => by rw [List.length_cons, List.length_cons, Pys.len t]
/-- min of a list of data that are alike: the first of the least -/
def rMinD : DRC := fun ds S R => ∃ a xs p ps, ds = [.ref a] ∧ S a = some (.lst xs) ∧ Pys S xs (p :: ps) ∧ PySem.W.AlikeAll (p :: ps) ∧ PyData.depthAll (p :: ps) ≤ 60 ∧ ∀ (j : Nat) (d : D), xs[j]? = some d → (p :: ps)[j]? = some (PySem.W.minD p ps) → R d S
theorem b_minD (hc : X.calm = true) (hu : X.A.units + 65 < cLine) : CallR X (.builtin "min") (lC X.kk rMinD) := by
  intro pins s σ H vs us Q I r ⟨ds, S, R, r1, s1, ⟨a, xs, p, ps, hd, hx, hp, ha, hdp, q⟩, k⟩
  subst hd
  obtain ⟨v, rfl, rv⟩ := r1.inv1
  cases rv
  obtain ⟨ws, h1, q1⟩ := s1.lst hx
  rw [Vals.ref1 r]
  obtain ⟨z, its, n, rr, hl, e⟩ := I.lstM h1
  obtain ⟨as, R1⟩ := Dp.readsAll I (p :: ps) ws its (Pys.dp s1 hp q1) rr
  refine PySem.W.min_list_data (vs := its.toArray) (I.ok.hd hc) ⟨_, e, rfl, n, rfl⟩ (by simpa using R1) ha (by omega) fun i v h' tk bs hv hr hk => ?_
  have hv' : its[i]? = some v := by simpa using hv
  obtain ⟨w, hw⟩ : ∃ w, ws[i]? = some w := ⟨_, List.getElem?_eq_getElem (by rw [rr.length]; exact (List.getElem?_eq_some_iff.mp hv').1)⟩
  obtain ⟨v2, hv2, rw'⟩ := rr.get hw
  have ev : v2 = v := Option.some.inj (hv2.symm.trans hv')
  rw [ev] at rw'
  obtain ⟨d, hdi, rd⟩ := q1.atv hw
  obtain ⟨pp, hpp, hpy⟩ := hp.atp hdi
  obtain ⟨bs2, R2⟩ := Dp.reads I pp w v (Py.dp s1 hpy rd) rw'
  have R2' : Reads h' v pp bs2 := Reads.keeps hk R2
  have hm : PySem.W.minD p ps ∈ p :: ps := by
    have e2 := (PySem.W.argBest_fold PySem.W.dataLt PyData.none p ps ps.length (Nat.le_refl _))
    rw [List.take_length] at e2
    show ps.foldl _ p ∈ _
    rw [← e2.2, List.getD_eq_getElem?_getD, List.getElem?_eq_getElem (Nat.lt_succ_of_le e2.1)]
    exact List.getElem_mem _
  have eq := PySem.W.alike_unique _ _ v _ _ (ha.1 _ (List.mem_of_getElem? hpp) _ hm) R2' hr
  subst eq
  exact ⟨w, H, I.kept (t' := tk) hk, rw', k _ _ _ _ (q i d hdi hpp) s1 rd (.refl H)⟩
/-! ### is True, is False -/
def dIsB (n : Bool) (b : Bool) (ta : DTE) : DTE := fun env S R => ta env S fun x S1 => ∃ c, x = .bl c ∧ R (.bl (decide (c = b) ^^ n)) S1
def rIsBd (n : Bool) : DR2 := fun x y S R => ∃ c b, x = .bl c ∧ y = .bl b ∧ R (.bl (decide (c = b) ^^ n)) S
theorem o_isB : OpR X (compareOp .Is) (l2 X.kk (rIsBd false)) := by
  intro pins s σ H x y v u Q I rx ry ⟨d, e, S, R, r1, r2, s1, ⟨c, b, hx, hy, q⟩, k⟩
  subst hx hy
  cases r1
  cases r2
  rw [xor_ff] at q
  exact op_isBl pins s σ H _ _ v u Q I rx ry ⟨c, b, rfl, rfl, k _ _ _ _ q s1 (.bl _) (.refl H)⟩
theorem o_notB : OpR X (compareOp .IsNot) (l2 X.kk (rIsBd true)) := by
  intro pins s σ H x y v u Q I rx ry ⟨d, e, S, R, r1, r2, s1, ⟨c, b, hx, hy, q⟩, k⟩
  subst hx hy
  cases r1
  cases r2
  rw [xor_tt] at q
  exact op_notBl pins s σ H _ _ v u Q I rx ry ⟨c, b, rfl, rfl, k _ _ _ _ q s1 (.bl _) (.refl H)⟩
end
section
variable {X : Cx} {e : Expr} {te : DTE}
/-! ### a list's truth -/
def dTruL (te : DTE) : DTT := fun env S R => te env S fun x S1 => ∃ xs, seqOf S1 x = some xs ∧ R (!xs.isEmpty) S1
theorem RDs.emp {K : KK} {H : Hp} {ds : List D} {vs : List V} (r : RDs K H ds vs) : ds.isEmpty = vs.isEmpty := by cases r <;> rfl
theorem dt_truL (h : DE X e te) (he : ∀ whole, isTrue e X.env whole = (do let v ← whole; standAt e.pos; holding [v] (truthy v)) := by intro _; rfl) : DT X e (dTruL te) := by
  refine ⟨(pt_truth h.run he).of fun σ H Q ⟨env, S, R, rs, h, k⟩ => ⟨env, S, _, rs, h, fun d S1 v H1 ⟨xs, hx, q⟩ s1 r1 e1 => ?_⟩⟩
  obtain ⟨p, vs, rfl, hq, r⟩ := seq_rel s1 r1 hx
  refine ⟨!vs.isEmpty, ?_, ?_⟩
  · rcases hq with hq | hq
    · exact .inl ⟨vs, hq, rfl⟩
    · exact .inr (.inl ⟨vs, hq, rfl⟩)
  · rw [← r.emp]
    exact k _ _ _ q s1 e1
end
section
variable {X : Cx} {a b : Expr} {ta tb : DTE} {pos : Pos}
theorem lE_dnin {K : KK} {σ : L2.St} {H : Hp} {Q : VK} (h : lE K (dDin true ta tb) σ H Q) : tDNotIn (lE K ta) (lE K tb) σ H Q := by
  obtain ⟨env, S, R, rs, h, k⟩ := h
  refine ⟨env, S, _, rs, h, fun y S1 v H1 q1 s1 r1 e1 => ⟨env, S1, _, rs.ext e1 s1, q1, fun x S2 u H2 ⟨kvs, kk, hx, hy, q⟩ s2 r2 e2 => ?_⟩⟩
  subst hy
  obtain ⟨aa, vs, rfl, h1, h2⟩ := dict_rel s2 r2 hx
  cases kD_inv r1
  rw [xor_tt, getD_some h2] at q
  exact ⟨aa, _, rfl, .inl ⟨vs, kk, h1, rfl, rfl⟩, k _ _ _ _ q s2 (.bl _) (e1.trans e2)⟩
theorem de_dnin (hu : X.A.units + 1 < cLine) (ha : DE X a ta) (hb : DE X b tb) (hm : behindInMarks .NotIn b = false := by rfl) : DE X (.Compare a [.NotIn] [b] pos) (dDin true ta tb) := ⟨(pe_cmp (pc_dnotin hu ha.run hb.run) hm).of fun _ _ _ => lE_dnin⟩
theorem dt_dnin (hu : X.A.units + 1 < cLine) (ha : DE X a ta) (hb : DE X b tb) (hm : behindInMarks .NotIn b = false := by rfl) : DT X (.Compare a [.NotIn] [b] pos) (dB (dDin true ta tb)) := ⟨(pt_cmp (pc_dnotin hu ha.run hb.run) hm).of fun _ _ _ h => by
  obtain ⟨env, S, R, rs, h, k⟩ := lT_b h
  exact lE_dnin ⟨env, S, R, rs, h, k⟩⟩
end
end Sv

/-! The data layer: the set of a tuple of tuples of ints. -/
namespace Sv
open PySem PySem.Spec PyProof.Rows L2
section
variable {P : Program} {w : World} {A : Around} {s : Shared} {E : Value → Shared → Prop}
/-- a set with nothing in it yet -/
abbrev bareS (w : World) : Obj := { cls := .type "set", dict := none, data := .set #[] 0 (.fresh 0 0 (!w.params.followText "set-order")) }
/-- what filling it leaves -/
def Filled (P : Program) (w : World) (ks : List (Addr × List Int)) (s s' : Shared) : Prop := ∃ h' tk L es ep t, s' = { s with heap := h', toks := tk } ∧ SetTR P w h' s.heap.objs.size L es ep t ∧ Got ks ks.length L ∧ ∀ b o, s.heap.get? b = some o → h'.get? b = some o
set_option maxHeartbeats 3200000 in
theorem set_of_tuple {l : Addr} {items : Array Value} (ks : List (Addr × List Int)) {Q : Value → Shared → Prop} (hh : A.handled = none) (hl : s.heap.IsTuple l items) (hit : items.toList = ks.map fun p => Value.ref p.1) (hk : ∀ p ∈ ks, IsT P w s.heap p.2 p.1) (hfew : ks.length < 64) (hu : A.units + 3 < cLine)
    (h : ∀ s', Filled P w ks s s' → Q (.ref s.heap.objs.size) s') : wpAny (model P w) A (call (.type "set") [.ref l]) Q E s := by
  have sz : items.size = ks.length := by
    have q := congrArg List.length hit
    rw [Array.length_toList, List.length_map] at q
    exact q
  obtain ⟨c, tl, hmro⟩ := F.called_set.mro
  have f1 := F.called_set.made
  have f2 := F.called_set.sub
  have f3 := F.called_set.notType
  have f4 := F.called_set.canCreate
  have f5 := F.typeCall_set_1 (.ref l)
  refine wpAny_call (codeAny_of_tree ?_)
  show wpAny _ _ (callAny (.type "set") _) _ _ _
  refine wpAny_pure ⟨Code.quiet_builtin _ (by decide +kernel), codeAny_builtin F.entry_type_call ?_⟩
  rw [Around.under_plain (weight_type_call_type "set" [.ref l] []) rfl]
  repeat (any_goals (first | assumption | wp_step))
  refine codeAny_mono (code_set_led1 (.ref l) (E := E) (Q₁ := fun v s1 => v = .ref s.heap.objs.size ∧ s1 = { s with heap := s.heap.push (bareS w) }) ⟨rfl, rfl⟩) fun r s1 hr => ?_
  rcases r with e | fl
  · exact hr
  cases fl with
  | ret v =>
    obtain ⟨rfl, rfl⟩ := hr
    have gS : (s.heap.push (bareS w)).get? s.heap.objs.size = some (bareS w) := Heap.get?_push_size _ rfl
    have tS : Shared.TypeIs { s with heap := s.heap.push (bareS w) } (.ref s.heap.objs.size) "set" := ⟨_, gS, rfl⟩
    have f6 := F.called_set.init.lookup
    have f7 := F.called_set.init.bind (.ref s.heap.objs.size)
    repeat (any_goals (first | assumption | wp_step))
    refine codeAny_mono (codeAny_call_builtin (R := wants (fun r s2 => r = .none ∧ Filled P w ks s s2) E) F.called_set.init.plain F.entry_set_init (check_set_init_1 tS ?_)) fun r2 s2 hr2 => ?_
    · obtain ⟨⟨ocls, odict, odata, oslots⟩, hol, hcl, nl, hdl⟩ := hl
      simp only at hcl hdl
      subst hcl hdl
      have ltS : l < s.heap.objs.size := Heap.lt_size hol
      have gl : (s.heap.push (bareS w)).get? l = some { cls := .type "tuple", dict := odict, data := .seq items nl, slots := oslots } := Heap.get?_push_of_some _ hol
      have tl : (s.heap.push (bareS w)).IsTuple l items := ⟨_, gl, rfl, nl, rfl⟩
      have q1 := F.sub_tuple_set
      have q2 := F.sub_tuple_frozenset
      have q3 : (Value.type "tuple" == Value.type "dict") = false := by decide
      unfold Builtin.«set.__init__» noKeywords Builtin.Frozenset.updateFrom
      generalize hPI : pyIter = PI
      wp_walk
      subst hPI
      refine wpAny_pyIter_tuple tl (wpAny_bind (wpAny_runValue ?_))
      have hi : A.in1.in1.in1.handled = none := by simp [hh]
      have sz1 : (s.heap.push (bareS w)).objs.size = s.heap.objs.size + 1 := Heap.size_push ..
      have no : ∀ b, s.heap.objs.size ≤ b → s.heap.get? b = none := fun b hb => by
        cases q : s.heap.get? b with
        | none => rfl
        | some o => exact absurd (Heap.lt_size q) (Nat.not_lt.mpr hb)
      have val : ∀ (i : Nat) (v : Value), items[i]? = some v → ∃ p, ks[i]? = some p ∧ v = .ref p.1 := fun i v hv => by
        have q : items.toList[i]? = some v := by rw [Array.getElem?_toList]; exact hv
        rw [hit, List.getElem?_map] at q
        obtain ⟨p, hp, e⟩ := Option.map_eq_some_iff.mp q
        exact ⟨p, hp, e.symm⟩
      refine set_update_tups ((Walks.tuple hi _ l (by rw [sz1]; exact Nat.ne_of_lt (Nat.lt_succ_of_lt ltS)) items).toS) s.heap.objs.size (by rw [sz1]; simp only [List.mem_cons, List.not_mem_nil, or_false, not_or]; exact ⟨Nat.ne_of_lt (Nat.lt_succ_self _), Nat.ne_of_gt ltS⟩) ks sz hfew val s.heap hk (no _ (Nat.le_refl _)) (fun b hb => no b (by rw [List.mem_singleton.mp hb, sz1]; omega)) hu (items.size - 0) 0 _ (by omega) (Nat.zero_le _) ⟨⟨_, Heap.get?_push_size _ rfl, rfl, rfl⟩, tl.push _⟩ (fun b o e => Heap.get?_push_of_some _ (Heap.get?_push_of_some _ e)) ⟨[], #[], 0, _, setTR_fresh (Heap.get?_push_of_some _ gS), Got.zero ks⟩ ?_
      rintro ⟨h', g2, d', tk', os'⟩ L es ep t hm hS' g' hkp
      obtain rfl : g2 = s.gens := hm.gens
      obtain rfl : d' = s.drawn := hm.drawn
      obtain rfl : os' = s.os := hm.os
      show wpAny _ _ _ _ _ _
      refine wpAny_pure ?_
      show wpAny _ _ (ret Value.none) _ _ _
      rw [sz] at g'
      exact wpAny_pure ⟨rfl, h', tk', L, es, ep, t, rfl, hS', g', hkp⟩
    · rcases r2 with e | fl2
      · exact hr2
      cases fl2 with
      | ret r =>
        obtain ⟨rfl, hf⟩ := hr2
        obtain ⟨h', tk, L, es, ep, t, rfl, hS', g', hk'⟩ := hf
        repeat (any_goals (first | assumption | wp_step))
        exact h _ ⟨h', tk, L, es, ep, t, rfl, hS', g', hk'⟩
      | _ => exact hr2.elim
  | _ => exact hr.elim
end
end Sv

/-! The data layer: the set of a tuple of tuples of ints. -/
namespace Sv
open PySem PySem.Spec PyProof.Rows L2
section
variable {X : Cx}
/-- set(xs), xs a tuple of tuples of ints -/
def rSetT : DRC := fun ds S R => ∃ (d : D) (L0 : List (List Int)), ds = [d] ∧ (d = .tup (L0.map fun q => .tup (intsD q)) ∨ d = .wtup (L0.map fun q => .tup (intsD q))) ∧ L0.length < 64 ∧
  ∀ p L, S p = none → (∀ q, q ∈ L ↔ q ∈ L0) → R (.ref p) (S.put p (.tset L))
theorem RDs.tups {K : KK} {H : Hp} : ∀ {L0 : List (List Int)} {vs : List V}, RDs K H (L0.map fun q => .tup (intsD q)) vs → ∃ ks : List (Addr × List Int), vs = ks.map (fun p => V.ref p.1) ∧ L0 = ks.map (·.2) ∧ ∀ p ∈ ks, TupN H p.1 (p.2.map V.int)
  | [], _, .nil => ⟨[], rfl, rfl, fun p hp => (nomatch hp)⟩
  | q :: L0, _, .cons r rs => by
    obtain ⟨ks, h1, h2, h3⟩ := RDs.tups (L0 := L0) rs
    cases r with
    | @tup a _ vs ht qq =>
      cases (RDs.ints_inv qq)
      refine ⟨(a, q) :: ks, by rw [h1]; rfl, by rw [h2]; rfl, fun p hp => ?_⟩
      rcases List.mem_cons.mp hp with rfl | hp
      · exact ht
      · exact h3 p hp
theorem b_setT (hc : X.calm = true) (hu : X.A.units + 64 < cLine) : CallR X (.type "set") (lC X.kk rSetT) := by
  intro pins s σ H vs us Q I r ⟨ds, S, R, r1, s1, ⟨d, L0, hd, hx, hl, q⟩, k⟩
  subst hd
  obtain ⟨v, rfl, rv⟩ := r1.inv1
  obtain ⟨t, ks, rfl, hT, hL0, hK⟩ : ∃ (t : Addr) (ks : List (Addr × List Int)), v = .ref t ∧ SqT X.K H t (ks.map fun p => V.ref p.1) ∧ L0 = ks.map (·.2) ∧ ∀ p ∈ ks, TupN H p.1 (p.2.map V.int) := by
    rcases hx with rfl | rfl
    · cases rv with
      | @tup t _ vs ht qq =>
        obtain ⟨ks, e1, e2, e3⟩ := RDs.tups qq
        subst e1
        exact ⟨t, ks, rfl, ht.sqT, e2, e3⟩
    · cases rv with
      | @wtup t _ vs ht qq =>
        obtain ⟨ks, e1, e2, e3⟩ := RDs.tups qq
        subst e1
        exact ⟨t, ks, rfl, .inl (.of ht), e2, e3⟩
  subst hL0
  rw [Vals.ref1 r]
  rw [List.length_map] at hl
  obtain ⟨its, rvs, it⟩ := I.tuple hT
  have hn : H s.heap.objs.size = none := I.hok.fresh (Nat.le_refl _)
  refine set_of_tuple (P := X.prog) (w := X.w) ks (I.ok.hd hc) it.1 (by simpa using refs_of_vals rvs) (fun p hp => I.isT (hK p hp).sqT) hl (by omega) fun s' ⟨h', tk, L, es, ep, t, e, R0, g, kp⟩ => ?_
  subst e
  have e : Ext H (upd H s.heap.objs.size (SetTO X.prog X.w s.heap.objs.size L)) := .new hn
  have sub : ∀ p ∈ L, p ∈ ks := fun p hp => List.mem_of_mem_take (g.sub p hp)
  refine ⟨.ref s.heap.objs.size, upd H s.heap.objs.size (SetTO X.prog X.w s.heap.objs.size L), I.laid (t' := tk) kp (Nat.le_refl _) (setTO_new R0.t0), rfl, ?_⟩
  refine k _ _ _ _ (q s.heap.objs.size (L.map (·.2)) (s1.fresh hn) fun z => ⟨fun hz => ?_, fun hz => ?_⟩) (s1.lay (o := .tset (L.map (·.2))) hn ⟨L, upd_same, fun p hp => (hK p (sub p hp)).ext e, rfl⟩) (.ref _) e
  · obtain ⟨p, hp, rfl⟩ := List.mem_map.mp hz
    exact List.mem_map.mpr ⟨p, sub p hp, rfl⟩
  · obtain ⟨p, hp, rfl⟩ := List.mem_map.mp hz
    exact g.all p (by rw [List.take_length]; exact hp)
end
end Sv

/-! The data layer: sorted lists of tuples of ints, sorted dicts. -/
namespace Sv
open PySem PySem.Spec PyProof.Rows L2
theorem pm_inv {α β : Type} {f : α → β} {ys zs : List β} (h : ys.Perm zs) : ∀ ks : List α, zs = ks.map f → ∃ ks' : List α, ks'.Perm ks ∧ ys = ks'.map f := by
  induction h with
  | nil => exact fun ks e => ⟨[], by rw [List.map_eq_nil_iff.mp e.symm], rfl⟩
  | cons x _ ih =>
    intro ks e
    cases ks with
    | nil => cases e
    | cons k ks =>
      obtain ⟨e1, e2⟩ := List.cons.inj e
      obtain ⟨ks', h1, h2⟩ := ih ks e2
      exact ⟨k :: ks', h1.cons k, by rw [h2, e1]; rfl⟩
  | swap x y l =>
    intro ks e
    cases ks with
    | nil => cases e
    | cons a ks =>
      obtain ⟨e1, e2⟩ := List.cons.inj e
      cases ks with
      | nil => cases e2
      | cons b ks =>
        obtain ⟨e3, e4⟩ := List.cons.inj e2
        exact ⟨b :: a :: ks, .swap a b ks, by rw [e1, e3, e4]; rfl⟩
  | trans _ _ ih1 ih2 =>
    intro ks e
    obtain ⟨k1, h1, e1⟩ := ih2 ks e
    obtain ⟨k2, h2, e2⟩ := ih1 k1 e1
    exact ⟨k2, h2.trans h1, e2⟩
section
variable {X : Cx}
/-- sorted(xs), xs a list of tuples of d ints -/
def rSortTD : DRC := fun ds S R => ∃ (a : Addr) (qs : List (List Int)) (d : Nat) (B : Int), ds = [.ref a] ∧ S a = some (.lst (qs.map fun q => .tup (intsD q))) ∧ qs.length < 64 ∧ 1 ≤ d ∧ (∀ q ∈ qs, q.length = d ∧ TS.Bd B q) ∧
  ∀ (qs' : List (List Int)) (p : Addr), qs'.Perm qs → qs'.Pairwise (fun q r => TS.code B q ≤ TS.code B r) → S p = none → R (.ref p) (S.put p (.lst (qs'.map fun q => .tup (intsD q))))
theorem tups_rel {K : KK} {H : Hp} : ∀ {ks : List (Addr × List Int)}, (∀ p ∈ ks, TupN H p.1 (p.2.map V.int)) → RDs K H ((ks.map (·.2)).map fun q => .tup (intsD q)) (ks.map fun p => V.ref p.1)
  | [], _ => .nil
  | x :: r, h => .cons (.tup (h x List.mem_cons_self) (.ints x.2)) (tups_rel fun q hq => h q (List.mem_cons_of_mem _ hq))
theorem b_sortTD : CallR X (.builtin "sorted") (lC X.kk rSortTD) := by
  intro pins s σ H vs us Q I r ⟨ds, S, R, r1, s1, ⟨a, qs, d, B, hd, hx, hl, h1, hB, q⟩, k⟩
  subst hd
  obtain ⟨v, rfl, rv⟩ := r1.inv1
  cases rv
  obtain ⟨ws, h2, q1⟩ := s1.lst hx
  obtain ⟨ks, rfl, rfl, hK⟩ := RDs.tups q1
  rw [List.length_map] at hl
  refine cr_sortT (B := B) h1 pins s σ H _ us Q I r ⟨a, _, rfl, .of h2, by rw [List.length_map]; exact hl, fun x hx => ?_, fun ys p pm pw np => ?_⟩
  · obtain ⟨y, hy, rfl⟩ := List.mem_map.mp hx
    obtain ⟨b1, b2⟩ := hB _ (List.mem_map.mpr ⟨y, hy, rfl⟩)
    exact ⟨y.2, ⟨_, rfl, (hK y hy).sqT⟩, b1, b2⟩
  · obtain ⟨ks', pk, rfl⟩ := pm_inv pm ks rfl
    have e : Ext H (upd H p (.lst (ks'.map fun q => V.ref q.1))) := .new np
    have hK' : ∀ q ∈ ks', TupN H q.1 (q.2.map V.int) := fun q hq => hK q (pk.mem_iff.mp hq)
    refine k _ _ _ _ (q (ks'.map (·.2)) p (pk.map _) ?_ (s1.fresh np)) (s1.lay (o := .lst ((ks'.map (·.2)).map fun q => .tup (intsD q))) np ⟨_, upd_same, tups_rel fun q hq => (hK' q hq).ext e⟩) (.ref p) e
    rw [List.pairwise_map]
    have pw := List.pairwise_map.mp pw
    refine List.Pairwise.imp_of_mem (fun {x y} hx hy h => ?_) pw
    exact h _ _ ⟨_, rfl, (hK' x hx).sqT⟩ ⟨_, rfl, (hK' y hy).sqT⟩
/-- sorted(d), d a dict with int keys -/
def rSortDk : DRC := fun ds S R => ∃ (a : Addr) (kvs : List (Key × D)) (ns : List Int), ds = [.ref a] ∧ S a = some (.dK kvs) ∧ kvs.map (·.1) = ns.map Sum.inl ∧ ns.length < 64 ∧ ∀ (ns' : List Int) (p : Addr), ns'.Perm ns → ns'.Pairwise (· ≤ ·) → S p = none → R (.ref p) (S.put p (.lst (intsD ns')))
theorem b_sortDk (hc : X.calm = true) : CallR X (.builtin "sorted") (lC X.kk rSortDk) := by
  intro pins s σ H vs us Q I r ⟨ds, S, R, r1, s1, ⟨a, kvs, ns, hd, hx, hk, hl, q⟩, k⟩
  subst hd
  obtain ⟨v, rfl, rv⟩ := r1.inv1
  cases rv
  obtain ⟨ws, h2, q1⟩ := s1 a _ hx
  refine call_sortedDI hc pins s σ H _ us Q I r ⟨a, ws, ns, rfl, .of h2, q1.keys.symm.trans hk, hl, fun ys p pm pw np => ?_⟩
  have e : Ext H (upd H p (.lst (ys.map V.int))) := .new np
  exact k _ _ _ _ (q ys p pm pw (s1.fresh np)) (s1.lay (o := .lst (intsD ys)) np ⟨_, upd_same, .ints ys⟩) (.ref p) e
end
end Sv

set_option maxHeartbeats 2000000
/-! The data layer: defs with a star and one keyword-only parameter. -/
namespace Sv
open PySem PySem.Spec PyProof.Rows L2
structure FunK (K : PySem.W.Frag) (x : Str) (st : Stmt) (kn : Str) (dv : Value) (f : Addr) (fd : FuncData) : Prop where
  ex : ∃ (oc : Value) (od : Option Addr) (D : Addr) (doc pm : Value) (an : Option Addr) (cdv ct : Value) (osl : Array (Option Value)),
    fd = PySem.W.fnOf x x (defArgs st) (defBody st) (defScope st) .none (.ref D) doc pm an cdv ct ∧ K.lookup f = some ⟨oc, od, .func fd, osl⟩ ∧ PySem.W.codeIn K cdv x = true ∧ PySem.W.nsIn K D kn = some (some dv)
  kp : PySem.W.keepIn K (.ref f) = true
theorem funk_mk {K : PySem.W.Frag} {x : Str} {st : Stmt} {kn : Str} {dv : Value} {f D : Addr} {oc doc pm cdv ct : Value} {od an : Option Addr} {osl : Array (Option Value)} (l : K.lookup f = some ⟨oc, od, .func (PySem.W.fnOf x x (defArgs st) (defBody st) (defScope st) .none (.ref D) doc pm an cdv ct), osl⟩) (c : PySem.W.codeIn K cdv x = true) (k : PySem.W.keepIn K (.ref f) = true) (d : PySem.W.nsIn K D kn = some (some dv)) :
    FunK K x st kn dv f (PySem.W.fnOf x x (defArgs st) (defBody st) (defScope st) .none (.ref D) doc pm an cdv ct) := ⟨⟨oc, od, D, doc, pm, an, cdv, ct, osl, rfl, l, c, d⟩, k⟩
/-- what it binds -/
def BK (fd : FuncData) (ps : List Str) (kn pv : Str) : Prop :=
  (∀ (us rest : List Value) (v : Value), us.length = ps.length → bindArgs fd ⟨us ++ rest, [(kn, v)]⟩ = (newTuple rest >>= fun t => pure (ps.zip us ++ [(kn, v), (pv, t)]))) ∧
  (∀ (us rest : List Value) (v : Value) (D : Addr), fd.kwdefaults = .ref D → us.length = ps.length → ∃ (β γ : Type) (k1 : Option Value → Sem β) (k2 : β → Sem γ) (k3 : γ → Sem (List (Str × Value))) (a : β), bindArgs fd ⟨us ++ rest, []⟩ = ((nsGet D kn >>= k1) >>= k2) >>= k3 ∧ k1 (some v) = pure a ∧ (k2 a >>= k3) = (newTuple rest >>= fun t => pure (ps.zip us ++ [(kn, v), (pv, t)])))
section
variable {P : Program} {w : World} {K : PySem.W.Frag} {mg : Str → Option Value} {base : Heap}
/-- called with the keyword -/
def FnRW (P : Program) (w : World) (K : PySem.W.Frag) (mg : Str → Option Value) (base : Heap) (CX : CXT) (k : Nat) (f : Addr) (kn : Str) (sp : List V → V → Hp → VK → XK → Prop) : Prop :=
  ∀ (A : Around) (outer : List PySem.Env) (s : Shared) (H : Hp) (us : List Value) (u : Value) (vs : List V) (z : V) (Q : VK) (E : XK), Room k A → Env0 P w K mg base A outer s H → Vals vs us → RelV z u → sp vs z H Q E →
    codeAny (model P w) A (.call (.ref f) ⟨us, [(kn, u)]⟩) (CR CX outer P w H s Q E) s
theorem run_k {x : Str} {st : Stmt} {f : Addr} {fd : FuncData} {N ps : List Str} {kn pv : Str} {dv : Value} {k : Nat} {B : DTS} (F : FunK K x st kn dv f fd) (Sc : FnScope N (ps ++ [kn, pv]) (defScope st))
    (hbody : ∀ (cdv : Value) (A : Around) (outer : List PySem.Env) (s : Shared) (H : Hp) (E : XK), Room k (A.deeper (envOfC x (defScope st) s.heap.objs.size f cdv)) →
      DSs (cxOf CX0 P w K mg base N x (defScope st) f cdv A outer s H E).nox (defBody st) B)
    {A : Around} {outer : List PySem.Env} {s : Shared} {H : Hp} {Q : VK} {E : XK} (hr : Room (k + 1) A) (e0 : Env0 P w K mg base A outer s H) {args : Args} {u1 u2 : List Value} {v : Value} {ws rest : List V} {z : V} (r1 : Vals ws u1) (r2 : Vals rest u2) (rv : RelV z v) (hl : ws.length = ps.length) (hz : rest.length ≤ sizeLine)
    (hb : ∀ (A' : Around) (Ex : Value → Shared → Prop) (Q' : List (Str × Value) → Shared → Prop), wpAny (model P w) A' (newTuple u2 >>= fun t => pure (ps.zip u1 ++ [(kn, v), (pv, t)])) Q' Ex s → wpAny (model P w) A' (bindArgs fd args) Q' Ex s)
    (hq : ∀ p, H p = Option.none → lC ⟨P, w, K⟩ (dFn N.length B) (ws ++ [z, V.ref p]) (upd H p (.tup rest)) Q) : codeAny (model P w) A (.call (.ref f) args) (CR CX0 outer P w H s Q E) s := by
  obtain ⟨oc, od, D, doc, pm, an, cdv, ct, osl, rfl, lk, hcd, _⟩ := F.ex
  have hn : H s.heap.objs.size = Option.none := e0.hok.fresh (Nat.le_refl _)
  have hl1 : u1.length = ps.length := by rw [← r1.length]; exact hl
  have hl2 : u2.length ≤ sizeLine := by rw [← r2.length]; exact hz
  refine StX.run_bnd lk hcd Sc hr e0 (G := fun xs H2 => ∃ p, H p = Option.none ∧ xs = ws ++ [z, V.ref p] ∧ H2 = upd H p (.tup rest)) (fun A' Ex Q' h => hb A' Ex Q' ?_) fun s2 H2 xs ⟨p, hp, ex, eH⟩ hr' => ?_
  · refine wpAny_bind (wpAny_newTuple (wpAny_pure ?_) hl2)
    have new : ObjOk P w (upd H s.heap.objs.size (.tup rest)) (s.heap.push ({ cls := .type "tuple", data := .seq u2.toArray } : Obj)) s.heap.objs.size (.tup rest) := ⟨hz, u2, r2, ⟨_, Heap.get?_push_size _ rfl, rfl, _, rfl⟩⟩
    have un := StX.un_laid (fs := frs outer) (s := s) (o := ({ cls := .type "tuple", data := .seq u2.toArray } : Obj)) (u := .tup rest) hn
    have y := h _ _ (ws ++ [z, V.ref s.heap.objs.size]) (u1 ++ [v, Value.ref s.heap.objs.size]) (StX.env0_laid e0 new) un rfl (fun e s' z => z) (r1.append (.cons rv (.cons rfl .nil)))
      (by rw [List.length_append, List.length_append, hl] <;> rfl) ⟨_, hn, rfl, rfl⟩
    rw [List.zip_append hl1.symm] at y
    exact y
  · subst ex eH
    obtain ⟨ds, S, R, r, s1, q, kk⟩ := hq p hp
    exact ⟨_, ((hbody cdv A outer s2 _ E hr').run).nox, _, S, _, rs_start r s1, q, fun env' S' σ' H' q' r' e' => kk _ _ _ _ q' r'.sto .non e', fun d S' v H' q' s' r' e' => kk _ _ _ _ q' s' r' e', fun _ _ _ _ q' => q'.elim, fun _ _ _ _ q' => q'.elim⟩
/-- called without it -/
def dFnSK (m : Nat) (dflt : D) (n : Nat) (B : DTS) : DRC := fun ds S R => m ≤ ds.length ∧ ds.length ≤ 1000 ∧ dFn n B (ds.take m ++ [dflt, .wtup (ds.drop m)]) S R
abbrev DRK := List D → D → Sto → DK → Prop
def dFnSW (m n : Nat) (B : DTS) : DRK := fun ds e S R => m ≤ ds.length ∧ ds.length ≤ 1000 ∧ dFn n B (ds.take m ++ [e, .wtup (ds.drop m)]) S R
def lK (K : KK) (r : DRK) : List V → V → Hp → VK → Prop := fun vs z H Q => ∃ ds e S R, RDs K H ds vs ∧ RD K H e z ∧ RelS K S H ∧ r ds e S R ∧ ∀ y S' v H', R y S' → RelS K S' H' → RD K H' y v → Ext H H' → Q v H'
theorem fn_sk {x : Str} {st : Stmt} {f : Addr} {fd : FuncData} {N ps : List Str} {kn pv : Str} {b : Bool} {k m : Nat} {B : DTS} (F : FunK K x st kn (.bool b) f fd) (Sc : FnScope N (ps ++ [kn, pv]) (defScope st)) (hb : BK fd ps kn pv) (hm : ps.length = m)
    (hbody : ∀ (cdv : Value) (A : Around) (outer : List PySem.Env) (s : Shared) (H : Hp) (E : XK), Room k (A.deeper (envOfC x (defScope st) s.heap.objs.size f cdv)) →
      DSs (cxOf CX0 P w K mg base N x (defScope st) f cdv A outer s H E).nox (defBody st) B) : FnR P w K mg base CX0 (k + 1) f (fun vs H Q _ => lC ⟨P, w, K⟩ (dFnSK m (.bl b) N.length B) vs H Q) := by
  intro A outer s H us vs Q E hr e0 r h
  obtain ⟨ds, S, R, rd, s1, ⟨h1, h2, q⟩, kk⟩ := h
  have hl := rd.length
  obtain ⟨u1, u2, eu, r1, r2⟩ := StX.vals_split (ws := vs.take m) (rest := vs.drop m) (us := us) (by rw [List.take_append_drop]; exact r)
  subst eu
  have hl1 : u1.length = ps.length := by rw [← r1.length, List.length_take]; omega
  obtain ⟨oc, od, D, doc, pm, an, cdv, ct, osl, efd, lk, hcd, hd⟩ := F.ex
  have KX : K.In s.heap := e0.mod.kin.keeps fun b o e => (e0.bs b o e).1
  refine run_k F Sc hbody hr e0 (v := .bool b) (z := .bl b) r1 r2 rfl (by rw [List.length_take]; omega) (by rw [List.length_drop]; exact Nat.le_trans (by omega : vs.length - m ≤ 1000) (by decide)) (fun A' Ex Q' hw => ?_) fun p np => ?_
  · obtain ⟨β, γ, k1, k2, k3, a, g1, g2, g3⟩ := hb.2 u1 u2 (.bool b) D (by rw [efd]) hl1
    rw [g1, bind_assoc]
    have l1 : PySem.W.Looks (model P w) s.heap (nsGet D kn >>= k1) a := (PySem.W.looks_nsIn KX hd).andThen (PySem.W.Looks.of_pure g2)
    refine wpAny_bind (l1.here ?_)
    rw [g3]
    exact hw
  · have e : Ext H (upd H p (.tup (vs.drop m))) := .new np
    exact ⟨ds.take m ++ [.bl b, .wtup (ds.drop m)], S, R, ((rd.take m).ext e).append (.cons (.bl b) (.cons (.wtup upd_same ((rd.drop m).ext e)) .nil)), s1.new np, q, fun z S' v H' q' s' r' e' => kk _ _ _ _ q' s' r' (e.trans e')⟩
theorem fn_sw {x : Str} {st : Stmt} {f : Addr} {fd : FuncData} {N ps : List Str} {kn pv : Str} {dv : Value} {k m : Nat} {B : DTS} (F : FunK K x st kn dv f fd) (Sc : FnScope N (ps ++ [kn, pv]) (defScope st)) (hb : BK fd ps kn pv) (hm : ps.length = m)
    (hbody : ∀ (cdv : Value) (A : Around) (outer : List PySem.Env) (s : Shared) (H : Hp) (E : XK), Room k (A.deeper (envOfC x (defScope st) s.heap.objs.size f cdv)) →
      DSs (cxOf CX0 P w K mg base N x (defScope st) f cdv A outer s H E).nox (defBody st) B) : FnRW P w K mg base CX0 (k + 1) f kn (fun vs z H Q _ => lK ⟨P, w, K⟩ (dFnSW m N.length B) vs z H Q) := by
  intro A outer s H us u vs z Q E hr e0 r rz h
  obtain ⟨ds, ez, S, R, rd, re, s1, ⟨h1, h2, q⟩, kk⟩ := h
  have hl := rd.length
  obtain ⟨u1, u2, eu, r1, r2⟩ := StX.vals_split (ws := vs.take m) (rest := vs.drop m) (us := us) (by rw [List.take_append_drop]; exact r)
  subst eu
  have hl1 : u1.length = ps.length := by rw [← r1.length, List.length_take]; omega
  refine run_k F Sc hbody hr e0 (v := u) (z := z) r1 r2 rz (by rw [List.length_take]; omega) (by rw [List.length_drop]; exact Nat.le_trans (by omega : vs.length - m ≤ 1000) (by decide)) (fun A' Ex Q' hw => ?_) fun p np => ?_
  · rw [hb.1 u1 u2 u hl1]
    exact hw
  · have e : Ext H (upd H p (.tup (vs.drop m))) := .new np
    exact ⟨ds.take m ++ [ez, .wtup (ds.drop m)], S, R, ((rd.take m).ext e).append (.cons (re.ext e) (.cons (.wtup upd_same ((rd.drop m).ext e)) .nil)), s1.new np, q, fun z S' v H' q' s' r' e' => kk _ _ _ _ q' s' r' (e.trans e')⟩
/-- a def of the module with the keyword, by promise -/
structure DFw (P : Program) (w : World) (K : PySem.W.Frag) (mg : Str → Option Value) (base : Heap) (k : Nat) (x kn : Str) (r : DRK) : Prop where
  ex : ∃ f : Addr, FnRW P w K mg base CX0 k f kn (fun vs z H Q _ => lK ⟨P, w, K⟩ r vs z H Q) ∧ mg x = some (.ref f) ∧ PySem.W.keepIn K (.ref f) = true
theorem DFw.mk' {k : Nat} {x kn : Str} {r : DRK} {f : Addr} (F : FnRW P w K mg base CX0 k f kn (fun vs z H Q _ => lK ⟨P, w, K⟩ r vs z H Q)) (hm : mg x = some (.ref f)) (hk : PySem.W.keepIn K (.ref f) = true) : DFw P w K mg base k x kn r := ⟨f, F, hm, hk⟩
end
section
variable {X : Cx} {e kv : Expr} {es : List Expr} {te : DTE} {tl : DTA} {pos p kpos : Pos}
def dCBK (r : DRK) (t : DTA) (te : DTE) : DTE := fun env S R => t env S fun ds S1 => te env S1 fun d S2 => r ds d S2 R
theorem de_callSW {k : Nat} {r : DRK} {x kn : Str} (F : DFw X.prog X.w X.K X.mg X.base k x kn r) (hr : Room k X.A) (hg : Gl X x) (ha : DA X (e :: es) tl) (hv : DE X kv te)
    (hall : (backToKw pos (keywordEach [⟨some kn, kv, kpos⟩] X.env)).all (·.1.isSome) = true := by rfl) (hks : (backToKw pos (keywordEach [⟨some kn, kv, kpos⟩] X.env)).filterMap (·.1) = [kn] := by rfl)
    (hdb : (x == ("__debug__" : Str)) = false := by decide) (he : starEach (e :: es) X.env = (false, eval e X.env) :: starEach es X.env := by rfl)
    (hpl : ((backTo pos (starEach (e :: es) X.env)).any (·.1) || (backToKw pos (keywordEach [⟨some kn, kv, kpos⟩] X.env)).any (·.1.isNone)) = false := by rfl) :
    DE X (.Call (.Name x p) (e :: es) [⟨some kn, kv, kpos⟩] pos) (dCBK r tl te) := by
  obtain ⟨f, F, hm, hk⟩ := F.ex
  refine ⟨⟨fun pins s σ H Q I h => ?_⟩⟩
  obtain ⟨env, S, R, rs, h, kq⟩ := h
  have pk := L2.pk_cons (X := X) (nm := some kn) (kpos := kpos) hv.run L2.pk_nil
  refine wpAny_Call_Name_kw (ld_glob I hg hm ?_ hdb)
  refine PySem.W.callWith_KW (h₀ := X.base) I.ok.mod.kin hk hall (thn (ha.run.run pos pins s σ H (fun vs H1 => lE X.kk te σ H1 fun z H2 => lK X.kk r vs z H2 Q) I ?_) fun us s1 ⟨vs, H1, I1, rv, q1⟩ => ?_) hpl he
  · exact ⟨env, S, _, rs, h, fun ds S1 vs H1 q1 s1 r1 e1 => ⟨env, S1, _, rs.ext e1 s1, q1, fun d S2 z H2 q2 s2 r2 e2 => ⟨ds, d, S2, R, r1.ext e2, r2, s2, q2, fun y S3 v H3 q3 s3 r3 e3 => kq _ _ _ _ q3 s3 r3 (e1.trans (e2.trans e3))⟩⟩⟩
  refine thn (pk.run pos pins s1 σ H1 (fun zs H2 => ∃ z, zs = [z] ∧ lK X.kk r vs z H2 Q) I1 ?_) fun wv s2 ⟨zs, H2, I2, rz, z, hz, q2⟩ => ⟨I2.kIn, ?_⟩
  · obtain ⟨env, S, R, rs, h, kq⟩ := q1
    exact ⟨env, S, R, rs, h, fun d S' v H' q s r e => ⟨_, rfl, kq _ _ _ _ q s r e⟩⟩
  · subst hz
    rw [hks]
    obtain ⟨u, rfl, ru⟩ := vals1 rz
    refine wpAny_call (codeAny_mono (F X.A X.stack s2 H2 us u vs z Q (fun _ _ _ => False) hr I2.env0 rv ru q2) fun r s' hq => ?_)
    cases r with
    | error e => exact pass0 pins σ H2 s2 e s' I2 hq
    | ok fl =>
      cases fl with
      | ret u => exact I2.after hq
      | next => exact False.elim hq
      | brk => exact False.elim hq
      | cont => exact False.elim hq
end
end Sv

set_option maxHeartbeats 1000000
/-! The data layer: how many different ints a comprehension's set holds. -/
namespace Sv
open PySem PySem.Spec PyProof.Rows L2
section
variable {X : Cx}
/-- {i for .. in .. if ..}, ints: D the new set -/
def tSi (P : Program) (w : World) (wi : TI) (g : TG) (tt : TT) (te : TE) (vs : List Nat) : TE := fun σ H Q => wi σ H fun J H1 => ∀ D, H1 D = none → ∃ W : Nat → Nat → Hp → Prop, (∃ m, W 0 m (upd H1 D (SetK P w D (fun _ => false) 0))) ∧ ∀ i m H, W i m H →
  (J.stop i H ∧ Q (.ref D) H) ∨ (J.go i H ∧ ∃ Nx : Hp → Prop, (∀ H', Nx H' → ∃ m', m' < m ∧ W (i + 1) m' H') ∧ ∀ x H', J.yld i H x H' → g x (wipe σ vs) H' fun σ2 H2 => wipe σ2 vs = wipe σ vs ∧ tt σ2 H2 fun b H3 =>
    if b = true then te σ2 H3 fun y H4 => ∃ (c : Int) (S : Key → Bool) (n : Nat), y = .int c ∧ H4 D = some (SetK P w D S n) ∧ n + 1 < scanBound ∧ Nx (upd H4 D (SetK P w D (fun j => S j || decide (j = Sum.inl c)) (if S (Sum.inl c) = true then n else n + 1))) else Nx H3)
theorem pe_si {el ta ia : Expr} {ca : List Expr} {scope : Scope} {own : List (Str × Nat)} {pos : Pos} {wi : TI} {g : TG} {tt : TT} {te : TE} (hc : X.calm = true) (hN : X.N.Nodup) (hi : PI X ta ia wi) (ok : BlkOk X.N X.env.scope scope own)
    (hg : ∀ (s : Shared) (H : Hp) (C : Addr) (cl : List (Str × Addr)) (fp : List Addr), PG (X.blk s H scope (compEnvC scope cl C X.env) fp) ta g) (ht : ∀ (s : Shared) (H : Hp) (C : Addr) (cl : List (Str × Addr)) (fp : List Addr), PTs (X.blk s H scope (compEnvC scope cl C X.env) fp) ca tt)
    (he : ∀ (s : Shared) (H : Hp) (C : Addr) (cl : List (Str × Addr)) (fp : List Addr), PE (X.blk s H scope (compEnvC scope cl C X.env) fp) el te) (hs : ∀ x, foldedSetIterable ia X.env x = pure x := by intro _; rfl) :
    PE X (.SetComp el [⟨ta, ia, ca, 0⟩] scope pos) (tSi X.prog X.w wi g tt te (own.map (·.2))) := by
  refine ⟨fun pins s σ H Q I h => ?_⟩
  rw [PpSet.eval_SetComp]
  have fr : ∀ y ∈ scope.names, y.2 = .free → ∃ c, X.env.cells.lookup y.1 = some c := fun y hy e => (ok.free y hy e).elim (fun z => I.ok.has _ (.inl z)) fun z => I.ok.has _ (.inr z)
  refine wpAny_comprehension_free (use := none) rfl hs (closure_ok fr) ok.kind (fun y hy e => by rw [ok.uniq y hy, e]) (thn (hi.run pins s σ H _ I h) fun v s1 h1 => thn h1 fun u s2 h2 => ?_)
  obtain ⟨it, fp, tn, J, H2, rfl, I2, T, st2, f2, q⟩ := h2
  refine PpSet.newSet_ok (newEnv_comp ?_)
  obtain ⟨D, hD⟩ : ∃ D, D = s2.heap.objs.size := ⟨_, rfl⟩
  have hDn : H2 D = none := I2.hok.fresh (Nat.le_of_eq hD.symm)
  obtain ⟨W, ⟨m0, w0⟩, turn⟩ := q D hDn
  obtain ⟨s3, hs3⟩ : ∃ s3 : Shared, s3 = { s2 with heap := s2.heap.push { cls := .type "set", dict := none, data := .set #[] 0 (.fresh 0 0 (!X.w.params.followText "set-order")) } } := ⟨_, rfl⟩
  have heap3 : s3.heap = s2.heap.push { cls := .type "set", dict := none, data := .set #[] 0 (.fresh 0 0 (!X.w.params.followText "set-order")) } := by rw [hs3]
  have old3 : ∀ b o, s2.heap.get? b = some o → s3.heap.get? b = some o := fun b o e => by rw [heap3]; exact Heap.get?_push_of_some _ e
  have I3 : Inv X pins σ (upd H2 D (SetK X.prog X.w D (fun _ => false) 0)) s3 := by
    rw [hs3]
    refine I2.laid (t' := s2.toks) (fun b o e => Heap.get?_push_of_some _ e) (Nat.le_of_eq hD.symm) (setK_new ?_)
    rw [hD]
    exact ⟨_, #[], 0, _, Heap.get?_push_size _ rfl, ⟨rfl, rfl, rfl⟩, rfl, (fun e he => by simp at he), (fun k => by simp), (by decide), (by rfl), rfl⟩
  obtain ⟨H3, hH3⟩ : ∃ H3, H3 = upd H2 D (SetK X.prog X.w D (fun _ => false) 0) := ⟨_, rfl⟩
  rw [← hH3] at I3 w0
  have f3 : ∀ b ∈ fp, FpOk X pins H3 b ∧ b < s3.heap.objs.size := fun b hb => by
    obtain ⟨o, e, _⟩ := T.obj _ _ st2 b hb
    have lt : b < s2.heap.objs.size := Heap.lt_size e
    refine ⟨⟨?_, (f2 b hb).2⟩, by rw [heap3, Heap.size_push]; exact Nat.lt_succ_of_lt lt⟩
    rw [hH3, upd_ne (by rw [hD]; exact Nat.ne_of_lt lt)]
    exact (f2 b hb).1
  have st3 : tn 0 s3.heap := T.keep _ _ _ st2 fun b _ o e => old3 b o e
  have I4 := block_start I3 ok hN f3
  obtain ⟨ce, hce⟩ : ∃ ce, ce = compEnvC scope (cellsFrom (s3.heap.objs.size + 1) scope.names (cloFrom X.env.cells scope.names [])) s3.heap.objs.size X.env := ⟨_, rfl⟩
  obtain ⟨s4, hs4⟩ : ∃ s4 : Shared, s4 = { s3 with heap := pushCells (s3.heap.push { cls := .type "dict", data := .dict #[] }) scope.names } := ⟨_, rfl⟩
  have pg : PG (X.blk s3 H3 scope ce fp) ta g := by rw [hce]; exact hg _ _ _ _ _
  have pt : PTs (X.blk s3 H3 scope ce fp) ca tt := by rw [hce]; exact ht _ _ _ _ _
  have pe : PE (X.blk s3 H3 scope ce fp) el te := by rw [hce]; exact he _ _ _ _ _
  have cl : ce.locals = s3.heap.objs.size := by rw [hce]; rfl
  have st4 : tn 0 s4.heap := T.keep _ _ _ st3 fun b _ o e => by rw [hs4]; exact pushCells_keeps _ _ _ _ (Heap.get?_push_of_some _ e)
  rw [← hce, ← hs4] at I4
  rw [← hs3, ← hD]
  show codeAny _ _ (.compStart (.SetComp el [⟨ta, ia, ca, 0⟩] scope pos) 0 (.ref it) (.ref D) (compEnvC scope (cellsFrom (s3.heap.objs.size + 1) scope.names (cloFrom X.env.cells scope.names [])) s3.heap.objs.size X.env)) (compPost (model X.prog X.w) X.A X.xe none (EP X pins σ Q) (.ref D) s3.heap.objs.size) { s3 with heap := pushCells (s3.heap.push { cls := .type "dict", data := .dict #[] }) scope.names }
  rw [← hce, ← hs4]
  have away : ∀ {τ : L2.St} {G : Hp} {s' : Shared}, Inv (X.blk s3 H3 scope ce fp) [] τ G s' → (∀ b ∈ fp, G b = none) → ∀ b ∈ fp, FpOk (X.blk s3 H3 scope ce fp) [] G b := fun {τ G s'} J' n b hb =>
    ⟨n b hb, (J'.ok.exf b hb).1, J'.ok.exfs b hb, .inl hb, fun x c e => (J'.ok.exf b hb).2 x c e, fun p hp => absurd (show p ∈ ([] : List (Addr × Obj)) ++ [] from hp) (by simp)⟩
  have loop : codeAny (model X.prog X.w) X.A (.compLoop (.SetComp el [⟨ta, ia, ca, 0⟩] scope pos) 0 (.ref it) (.ref D) ce) (compPost (model X.prog X.w) X.A X.xe none (EP X pins σ Q) (.ref D) s3.heap.objs.size) s4 := by
    refine PpSet.compLoopS_any (fun n s' => ∃ i G, Inv (X.blk s3 H3 scope ce fp) [] (wipe σ (own.map (·.2))) G s' ∧ tn i s'.heap ∧ (∀ b ∈ fp, G b = none) ∧ W i n G) ?_ m0 ⟨0, H3, I4, st4, fun b hb => (f3 b hb).1.1, w0⟩
    rintro n s5 ⟨i, G, I5, st5, n5, w5⟩
    rcases turn i n G w5 with ⟨stop, fine⟩ | ⟨go, N, less, next⟩
    · refine no_mono (T.done (X.blk s3 H3 scope ce fp) rfl rfl rfl hc i [] s5 _ G _ I5 (away I5 n5) st5 stop) fun r s6 h6 => ?_
      obtain ⟨rfl, I6⟩ := h6
      have I7 : Inv X pins σ G s6 := I3.call' (ch := fp) I6.os I6.base I6.hok I6.bare fun b hb => ⟨(f3 b hb).1.2.2.2.1, (f3 b hb).1.2.1, (f3 b hb).1.2.2.2.2.1, (f3 b hb).1.2.2.2.2.2⟩
      have nC : G s3.heap.objs.size = none := by
        rw [← cl]
        exact I6.free
      obtain ⟨m, ns, _⟩ := I6.loc
      have ns : s6.heap.Ns ce.locals m := ns
      rw [cl] at ns
      obtain ⟨c0, c1, c2, c3, c4, c5⟩ : FpOk X pins G s3.heap.objs.size := I3.fpOk (Nat.le_refl _) nC
      exact ⟨m, ns, fun h' sb => ⟨.ref D, G, I7.turned (t' := s6.toks) (fun b o hb e => (sb.2 b hb).trans e) c0 c1 c3 c4 c5, rfl, fine⟩⟩
    · have one := loop_step (B := X.blk s3 H3 scope ce fp) rfl hc T I5 (away I5 n5) st5 go pg pt next
      refine no_mono one fun r s6 h6 => ?_
      obtain ⟨v, rfl, h6⟩ := h6
      refine no_mono h6 fun _ s7 h7 => no_mono h7 fun _ s8 h8 => no_mono h8 fun z s9 h9 => ?_
      obtain ⟨σ2, H4, s0, I9, k9, q9, st9⟩ := h9
      have len9 : (wipe σ (own.map (·.2))).length = σ2.length := by rw [← k9, wipe_length]
      have sub9 : ∀ (j : Nat) v, (wipe σ (own.map (·.2)))[j]? = some (some v) → σ2[j]? = some (some v) := fun j v e => by
        rw [← k9] at e
        exact (wipe_some e).1
      have back : ∀ {τ : L2.St} {s' : Shared} {G' : Hp}, Inv (X.blk s3 H3 scope ce fp) ([] ++ pinsAt fp s0.heap) τ G' s' → (wipe σ (own.map (·.2))).length = τ.length → (∀ (j : Nat) v, (wipe σ (own.map (·.2)))[j]? = some (some v) → τ[j]? = some (some v)) → N G' →
          ∃ m, m < n ∧ ∃ i G, Inv (X.blk s3 H3 scope ce fp) [] (wipe σ (own.map (·.2))) G s' ∧ tn i s'.heap ∧ (∀ b ∈ fp, G b = none) ∧ W i m G := fun {τ s' G'} J' hl hk y => by
        obtain ⟨m', lt, wn⟩ := less G' y
        obtain ⟨b1, b2, b3⟩ := loop_back (B := X.blk s3 H3 scope ce fp) T J' st9 hl hk
        exact ⟨m', lt, i + 1, G', b1, b2, b3, wn⟩
      cases z with
      | false => exact back I9 len9 sub9 q9
      | true =>
        have q9 : te σ2 H4 _ := q9
        have rune := pe.run _ s9 σ2 H4 _ I9 q9
        refine no_mono rune fun x s18 h18 => ?_
        obtain ⟨y, H18, I18, rx, c, S, n0, rfl, hDL, room, last⟩ := h18
        have add := mt_saddK (X := X.blk s3 H3 scope ce fp) _ s18 σ2 H18 (V.ref D) [V.int c] (Value.ref D) [x] (fun _ H' => N H') I18 rfl (.cons rx .nil) ⟨D, Sum.inl c, S, n0, rfl, rfl, hDL, room, last⟩
        exact no_mono add fun _ s19 ⟨_, H19, I19, _, q19⟩ => back I19 len9 sub9 q19
  exact PpSet.codeAny_compStart_set loop (T.self X.A 0 _ _ _ st4 loop)
end
end Sv

/-! The data layer: sets of ints by a comprehension; how many. -/
namespace Sv
open PySem PySem.Spec PyProof.Rows L2
section
variable {X : Cx}
def dSi (ti : DTI) (g : DTG) (tt : DTT) (te : DTE) (us : List Nat) : DTE := fun env S R => ti env S fun w S1 => ∀ p, S1 p = none → ∃ Pv : Nat → Sto → Prop, Pv 0 (S1.put p (.iset [])) ∧ (∀ i S, i ≤ w.items.length → Pv i S → w.live S) ∧
  (∀ i d S, w.items[i]? = some d → Pv i S → g d (dwipe env us) S fun env' S' => tt env' S' fun b S2 => if b = true then te env' S2 fun y S3 => ∃ (ns : List Int) (k : Int), y = .int k ∧ S3 p = some (.iset ns) ∧ ns.length < 1000 ∧ Pv (i + 1) (S3.put p (.iset (if k ∈ ns then ns else ns ++ [k]))) else Pv (i + 1) S2) ∧
  ∀ S, Pv w.items.length S → R (.ref p) S
theorem lE_si {K : KK} {b : Bool} {ti : DTI} {g : DTG} {tt : DTT} {te : DTE} {us vs : List Nat} {σ : L2.St} {H : Hp} {Q : VK} (hv : ∀ i ∈ vs, i ∈ us) (h : lE K (dSi ti g tt te us) σ H Q) :
    tSi K.P K.w (lI K b ti) (lG K b vs g) (lT K tt) (lE K te) us σ H Q := by
  obtain ⟨env, S, R, rs, h, k⟩ := h
  refine ⟨env, S, _, rs, h, fun w S1 J H1 q s1 e1 st p np => ?_⟩
  obtain ⟨Pv, p0, lv, step, done⟩ := q p (s1.fresh np)
  obtain ⟨G, Y, wk, hG, hY⟩ := st.ex
  have s1' : RelS K (S1.put p (.iset [])) (upd H1 p (SetK K.P K.w p (fun _ => false) 0)) := s1.lay (o := .iset []) np ⟨fun _ => false, upd_same, fun i => by simp⟩
  have e1' : Ext H1 (upd H1 p (SetK K.P K.w p (fun _ => false) 0)) := .new np
  refine w_it (Body := fun N x H' => lG K b vs g x (wipe σ us) H' fun σ2 H2 => wipe σ2 us = wipe σ us ∧ lT K tt σ2 H2 fun b H3 => if b = true then lE K te σ2 H3 fun y H4 => ∃ (c : Int) (S : Key → Bool) (n : Nat), y = .int c ∧ H4 p = some (SetK K.P K.w p S n) ∧ n + 1 < scanBound ∧ N (upd H4 p (SetK K.P K.w p (fun j => S j || decide (j = Sum.inl c)) (if S (Sum.inl c) = true then n else n + 1))) else N H3) wk (fun i H' => ∃ S', RelS K S' H' ∧ Ext H1 H' ∧ Pv i S') ⟨_, s1', e1', p0⟩ (fun i H' hi ⟨S', s', e', p'⟩ => hG H' S' e' s' (lv i S' hi p')) ?_ ?_
  · rintro i x H2 H3 hi ⟨S2, s2, e2, p2⟩ y
    obtain ⟨e3, hS, d, hd, rd⟩ := hY i H2 x H3 e2 y
    have e13 := e1.trans (e2.trans e3)
    refine ⟨d, dwipe env us, S2, _, rd, (rs.ext e13 (hS S2 s2)).wipe us, step i d S2 hd p2, fun env4 S4 σ4 H4 q4 rs4 e4 o4 => ⟨wipe_off o4 hv, env4, S4, _, rs4, q4, fun c S5 H5 q5 s5 e5 => ?_⟩⟩
    have e25 := e2.trans (e3.trans (e4.trans e5))
    cases c with
    | false => exact ⟨S5, s5, e25, q5⟩
    | true =>
      refine ⟨env4, S5, _, rs4.ext e5 s5, q5, fun y S11 v H11 ⟨ns, kk, hy, h1, h2, q11⟩ s11 r11 e11 => ?_⟩
      subst hy
      cases r11
      obtain ⟨SS, h3, h4⟩ := s11 p _ h1
      refine ⟨kk, SS, ns.length, rfl, h3, by unfold scanBound; omega, ?_⟩
      have e12 : ∀ u, Ext H11 (upd H11 p u) := fun u => .put h3 trivial
      refine ⟨S11.put p (.iset (if kk ∈ ns then ns else ns ++ [kk])), s11.put (o := .iset (if kk ∈ ns then ns else ns ++ [kk])) h3 trivial ⟨fun j => SS j || decide (j = Sum.inl kk), ?_, fun i => ?_⟩, e25.trans (e11.trans (e12 _)), q11⟩
      · by_cases z : kk ∈ ns
        · rw [if_pos z, if_pos ((h4 kk).mpr z)]
          exact upd_same
        · rw [if_neg z, if_neg fun y => z ((h4 kk).mp y), List.length_append]
          exact upd_same
      · show (SS (Sum.inl i) || decide ((Sum.inl i : Key) = Sum.inl kk)) = true ↔ _
        rw [Bool.or_eq_true, decide_eq_true_iff, h4]
        by_cases z : kk ∈ ns
        · rw [if_pos z]
          exact ⟨fun h => h.elim id fun e => by rw [Sum.inl.inj e]; exact z, .inl⟩
        · rw [if_neg z, List.mem_append, List.mem_singleton]
          exact ⟨fun h => h.imp id Sum.inl.inj, fun h => h.imp id fun e => by rw [e]⟩
  · rintro H2 ⟨S2, s2, e2, p2⟩
    exact k _ _ _ _ (done S2 p2) s2 (.ref p) (e1.trans e2)
theorem de_si {elt tg iter : Expr} {ifs : List Expr} {scope : Scope} {own : List (Str × Nat)} {vs : List Nat} {pos : Pos} {b : Bool} {ti : DTI} {g : DTG} {tt : DTT} {te : DTE} (hc : X.calm = true) (hN : X.N.Nodup) (hi : DI X b tg iter ti) (ok : BlkOk X.N X.env.scope scope own) (hv : ∀ i ∈ vs, i ∈ own.map (·.2))
    (hg : ∀ (s : Shared) (H : Hp) (C : Addr) (cl : List (Str × Addr)) (fp : List Addr), DG (X.blk s H scope (compEnvC scope cl C X.env) fp) b vs tg g) (ht : ∀ (s : Shared) (H : Hp) (C : Addr) (cl : List (Str × Addr)) (fp : List Addr), DTs (X.blk s H scope (compEnvC scope cl C X.env) fp) ifs tt)
    (he : ∀ (s : Shared) (H : Hp) (C : Addr) (cl : List (Str × Addr)) (fp : List Addr), DE (X.blk s H scope (compEnvC scope cl C X.env) fp) elt te) (hs : ∀ x, foldedSetIterable iter X.env x = pure x := by intro _; rfl) :
    DE X (.SetComp elt [⟨tg, iter, ifs, 0⟩] scope pos) (dSi ti g tt te (own.map (·.2))) :=
  ⟨(pe_si (g := lG X.kk b vs g) (tt := lT X.kk tt) (te := lE X.kk te) hc hN hi.run ok (fun s H C cl fp => (hg s H C cl fp).run) (fun s H C cl fp => (ht s H C cl fp).run) (fun s H C cl fp => (he s H C cl fp).run) hs).of fun _ _ _ => lE_si hv⟩
/-- len of such a set -/
def rLenI : DRC := fun ds S R => ∃ a ns, ds = [.ref a] ∧ S a = some (.iset ns) ∧ ns.length < 100000 ∧ R (.int ns.length) S
theorem b_lenI : CallR X (.builtin "len") (lC X.kk rLenI) := by
  intro pins s σ H vs us Q I r ⟨ds, S, R, r1, s1, ⟨a, ns, hd, hx, hl, q⟩, k⟩
  subst hd
  obtain ⟨v, rfl, rv⟩ := r1.inv1
  cases rv
  obtain ⟨SS, h3, _⟩ := s1 a _ hx
  rw [Vals.ref1 r]
  obtain ⟨o, es, ep, t, ho, hex, hd, _, _, _, hf, hn⟩ := setK_get I h3
  exact call_len_set ho hex hd hf (by rw [hn] <;> omega) ⟨.int ns.length, H, I.tok _, ⟨_, by rw [hn]⟩, k _ _ _ _ q s1 (.int _) (.refl H)⟩
end
section
variable {X : Cx} {a b c : Expr} {ta tb tc : DTE} {pos : Pos}
/-- a op b op c as a test -/
theorem lE_chain {K : KK} {r r' : DR2} {σ : L2.St} {H : Hp} {Q : VK} (h : lE K (dChain r r' ta tb tc) σ H Q) : tChain (l2 K r) (l2 K r') (lE K ta) (lE K tb) (lE K tc) σ H Q := by
  obtain ⟨env, S, R, rs, h, k⟩ := h
  refine ⟨env, S, _, rs, h, fun x S1 v H1 q1 s1 r1 e1 => ⟨env, S1, _, rs.ext e1 s1, q1, fun y S2 u H2 q2 s2 r2 e2 => ⟨x, y, S2, _, r1.ext e2, r2, s2, q2, fun z S3 w H3 ⟨kk, hz, q3⟩ s3 r3 e3 => ?_⟩⟩⟩
  subst hz
  cases r3
  refine ⟨kk, rfl, ?_⟩
  cases kk with
  | false => exact k _ _ _ _ q3 s3 (.bl _) (e1.trans (e2.trans e3))
  | true => exact ⟨env, S3, _, rs.ext (e1.trans (e2.trans e3)) s3, q3, fun w S4 t H4 q4 s4 r4 e4 => ⟨y, w, S4, R, r2.ext (e3.trans e4), r4, s4, q4, fun z S5 t H5 q5 s5 r5 e5 => k _ _ _ _ q5 s5 r5 (e1.trans (e2.trans (e3.trans (e4.trans e5))))⟩⟩
theorem dt_chain {op op' : CmpOp} {r r' : DR2} (ho : OpR X (compareOp op) (l2 X.kk r)) (ho' : OpR X (compareOp op') (l2 X.kk r')) (ha : DE X a ta) (hb : DE X b tb) (hc : DE X c tc)
    (hm : lastMarks [op, op'] [b, c] = false := by with_unfolding_all rfl) : DT X (.Compare a [op, op'] [b, c] pos) (dB (dChain r r' ta tb tc)) :=
  ⟨(pt_chain ho ho' ha.run hb.run hc.run hm).of fun _ _ _ h => lE_chain (lT_b h)⟩
end
end Sv

set_option maxHeartbeats 800000
set_option autoImplicit false
/-! Over data: zip of two tuples of one length, its pairs under one name. -/
namespace Sv
open PySem PySem.Spec PyProof.Rows L2
def iZip2 (K : PySem.W.Frag) (ta : TA) : TI := fun σ H R => ta σ H fun vs H1 => ∃ a b xs ys, vs = [.ref a, .ref b] ∧ SqT K H1 a xs ∧ SqT K H1 b ys ∧ R (ItzN K [a, b]) H1
theorem pi_zip2 {X : Cx} {e e2 : Expr} {ta : TA} {x : Str} {p pos tp : Pos} (hg : Gl X "zip") (hm : X.mg "zip" = none) (ha : PA X [e, e2] ta)
    (hs : starEach [e, e2] X.env = (false, eval e X.env) :: starEach [e2] X.env := by rfl) (hpl : (backTo pos (starEach [e2] X.env)).any (·.1) = false := by rfl) :
    PI X (.Name x tp) (.Call (.Name "zip" p) [e, e2] [] pos) (iZip2 X.K ta) := by
  refine ⟨fun pins s σ H R I h => ?_⟩
  refine Call_ (ld_blt I hg hm PyProof.Rows.boot_zip (PyProof.Rows.callWith_type1 (thn (ha.run pos pins s σ H _ I h) fun us s1 ⟨vs, H1, I1, r1, q1⟩ => ?_) hs hpl))
  obtain ⟨a, b, xs, ys, rfl, qa, qb, q1⟩ := q1
  obtain rfl := vals_refs (ls := [a, b]) r1
  have hp : ∀ l ∈ [a, b], ∃ xs, s1.heap.IsTuple l xs := fun l hl' => by
    rcases List.mem_cons.mp hl' with rfl | hl'
    · obtain ⟨its, _, p, _⟩ := I1.tuple qa
      exact ⟨_, p⟩
    · rw [List.mem_singleton.mp hl']
      obtain ⟨its, _, p, _⟩ := I1.tuple qb
      exact ⟨_, p⟩
  refine call_zn (ls := [a, b]) (by simp) (by simp) hp fun h' z TI TO its D st hc kp => pyIter_zpn st ?_
  have I3 : Inv X pins σ H1 { s1 with heap := h' } := I1.kept (t' := s1.toks) kp
  exact ⟨z, z :: TI :: TO :: its, _, _, H1, rfl, I3, turn_zipN D, st, fun c hcm => by
    have hle := hc c hcm
    have f := I1.fpOk hle (I1.hok.fresh hle)
    exact f, q1⟩
def zipW (xs ys : List D) : List D := List.zipWith (fun x y => .wtup [x, y]) xs ys
theorem zipW_at {xs ys : List D} {i : Nat} {x y : D} (h1 : xs[i]? = some x) (h2 : ys[i]? = some y) : (zipW xs ys)[i]? = some (.wtup [x, y]) := by
  unfold zipW
  rw [List.getElem?_zipWith, h1, h2]
theorem zipW_len (xs ys : List D) : (zipW xs ys).length = min xs.length ys.length := by unfold zipW; rw [List.length_zipWith]
theorem steps_zipW {K : KK} {H0 : Hp} {a b : Addr} {xs ys : List D} {vs ws : List V} (ha : ∀ H, Ext H0 H → SqT K.k H a vs) (hb : ∀ H, Ext H0 H → SqT K.k H b ws) (r1 : RDs K H0 xs vs) (r2 : RDs K H0 ys ws) (hl : xs.length = ys.length) :
    Steps K true H0 (ItzN K.k [a, b]) ⟨zipW xs ys, fun _ => True⟩ := by
  have l1 := r1.length
  have l2 := r2.length
  have lz : (zipW xs ys).length = xs.length := by rw [zipW_len]; omega
  have w := walk_zipN (K := K.k) (ls := [a, b]) (n := (zipW xs ys).length) (cols := fun i => [(vs[i]?).getD .non, (ws[i]?).getD .non]) (fun i _ => rfl) (by simp)
  refine ⟨_, fun i H v H' => i < (zipW xs ys).length ∧ ∃ T, v = .ref T ∧ H T = none ∧ H' = upd H T (.tup [(vs[i]?).getD .non, (ws[i]?).getD .non]), ⟨w.goes, w.stops, fun i H x H' hi g y => ⟨hi, w.yields i H x H' hi g y⟩⟩, ?_, ?_⟩
  · intro H S e _ _ j l hj
    rcases j with _ | _ | j
    · cases hj
      refine ⟨vs, ha H e, by omega, fun i hi => ?_⟩
      show vs[i]? = some ((vs[i]?).getD .non)
      rw [List.getElem?_eq_getElem (by omega)]
      rfl
    · cases hj
      refine ⟨ws, hb H e, by omega, fun i hi => ?_⟩
      show ws[i]? = some ((ws[i]?).getD .non)
      rw [List.getElem?_eq_getElem (by omega)]
      rfl
    · cases hj
  · rintro i H x H' e ⟨hi, T, rfl, nT, rfl⟩
    have hv := List.getElem?_eq_getElem (l := vs) (i := i) (by omega)
    have hw := List.getElem?_eq_getElem (l := ws) (i := i) (by omega)
    obtain ⟨d, h1, h2⟩ := (r1.ext e).atv hv
    obtain ⟨d', h3, h4⟩ := (r2.ext e).atv hw
    rw [hv, hw]
    exact ⟨.new nT, fun S s => s.new nT, _, zipW_at h1 h3, .inl (.wtup upd_same (.cons (h2.ext (.new nT)) (.cons (h4.ext (.new nT)) .nil)))⟩
def diZipW (ta : DTA) : DTI := fun env S R => ta env S fun ds S1 => ∃ xs ys, ds = [.tup xs, .tup ys] ∧ xs.length = ys.length ∧ R ⟨zipW xs ys, fun _ => True⟩ S1
theorem di_zipW {X : Cx} {e e2 : Expr} {ta : DTA} {x : Str} {p pos tp : Pos} (hg : Gl X "zip") (hm : X.mg "zip" = none) (ha : DA X [e, e2] ta)
    (hs : starEach [e, e2] X.env = (false, eval e X.env) :: starEach [e2] X.env := by rfl) (hpl : (backTo pos (starEach [e2] X.env)).any (·.1) = false := by rfl) : DI X true (.Name x tp) (.Call (.Name "zip" p) [e, e2] [] pos) (diZipW ta) := by
  refine ⟨(pi_zip2 hg hm ha.run hs hpl).of fun σ H R ⟨env, S, R0, rs, h, k⟩ => ⟨env, S, _, rs, h, fun ds S1 vs H1 ⟨xs, ys, hd, hl, q⟩ s1 r1 e1 => ?_⟩⟩
  subst hd
  obtain ⟨v, u, rfl, rv, ru⟩ := r1.inv2
  cases rv with
  | tup t1 q1 =>
    cases ru with
    | tup t2 q2 =>
      exact ⟨_, _, _, _, rfl, t1.sqT, t2.sqT, k _ _ _ _ q s1 e1 (steps_zipW (fun H e => (t1.ext e).sqT) (fun H e => (t2.ext e).sqT) q1 q2 hl)⟩
end Sv

set_option maxHeartbeats 1000000
/-! zip over lists and tuples, one name as its target -/
namespace Sv
open PySem
/-- an iterator of a list or of a tuple, as ka says -/
def ItM (ka : Addr → Bool) (h : Heap) (a l : Addr) (i : Nat) : Prop := (ka l = true ∧ h.IsListIter a l i) ∨ (ka l = false ∧ h.IsTupleIter a l i)
def SqM (ka : Addr → Bool) (h : Heap) (l : Addr) (xs : Array Value) : Prop := (ka l = true ∧ h.IsList l xs) ∨ (ka l = false ∧ h.IsTuple l xs)
theorem ItM.extBut {ka : Addr → Bool} {h h' : Heap} {a b l : Addr} {i : Nat} (H : ItM ka h a l i) (e : Heap.ExtBut b h h') (n : a ≠ b) : ItM ka h' a l i := H.elim (fun x => .inl ⟨x.1, x.2.extBut e n⟩) fun x => .inr ⟨x.1, x.2.extBut e n⟩
theorem ItM.at {ka : Addr → Bool} {h h' : Heap} {a l : Addr} {i : Nat} (H : ItM ka h a l i) (e : ∀ o, h.get? a = some o → h'.get? a = some o) : ItM ka h' a l i := H.elim (fun x => .inl ⟨x.1, x.2.at e⟩) fun x => .inr ⟨x.1, x.2.at e⟩
theorem SqM.keep {ka : Addr → Bool} {h h' : Heap} {l : Addr} {xs : Array Value} (H : SqM ka h l xs) (e : ∀ o, h.get? l = some o → h'.get? l = some o) : SqM ka h' l xs := by
  rcases H with ⟨k, o, ho, r⟩ | ⟨k, o, ho, r⟩
  · exact .inl ⟨k, o, e o ho, r⟩
  · exact .inr ⟨k, o, e o ho, r⟩
structure ZAtM (ka : Addr → Bool) (h : Heap) (z TI TO : Addr) (its ls : List Addr) (i : Nat) : Prop where
  zp : ∃ f0 f1, IsZp h z TI TO f0 f1 ∧ (f0 = .none ∨ ∃ a : Nat, f0 = rawInt a)
  ti : IsTp h TI (its.map Value.ref).toArray
  to : ∃ vs, IsTp h TO vs ∧ vs.size = its.length
  it : ∀ (j : Nat) (a l : Addr), its[j]? = some a → ls[j]? = some l → ItM ka h a l i
section
variable {prog : Program} {w : World} {A : Around} {E : Value → Shared → Prop} {s : Shared}
theorem nextM_item {ka : Addr → Bool} {it l : Addr} {i : Nat} {items : Array Value} {x : Value} {Q : Value → Shared → Prop} (h1 : ItM ka s.heap it l i) (h2 : SqM ka s.heap l items) (h3 : items[i]? = some x)
    (q : ∀ h', ItM ka h' it l (i + 1) → Heap.SameBut it s.heap h' → Q x { s with heap := h' }) : wpAny (model prog w) A (Builtin.SmallTypes.nextOf (.ref it)) Q E s := by
  rcases h1 with ⟨k, h1⟩ | ⟨k, h1⟩
  · rcases h2 with ⟨_, h2⟩ | ⟨k', _⟩
    · exact wpAny_nextOf_list_item h1 h2 h3 fun h' a b => q h' (.inl ⟨k, a⟩) b
    · rw [k] at k'; cases k'
  · rcases h2 with ⟨k', _⟩ | ⟨_, h2⟩
    · rw [k] at k'; cases k'
    · exact RZ.nextOf_tuple_item h1 h2 h3 fun h' a b => q h' (.inr ⟨k, a⟩) b
theorem nextM_end {ka : Addr → Bool} {it l : Addr} {i : Nat} {items : Array Value} {Q : Value → Shared → Prop} (hh : A.handled = none) (h1 : ItM ka s.heap it l i) (h2 : SqM ka s.heap l items) (h3 : items[i]? = none)
    (q : ∀ h' e, Heap.ExtBut it s.heap h' → (∃ o, h'.get? e = some o ∧ o.cls = .type "StopIteration") → E (.ref e) { s with heap := h' }) : wpAny (model prog w) A (Builtin.SmallTypes.nextOf (.ref it)) Q E s := by
  rcases h1 with ⟨k, h1⟩ | ⟨k, h1⟩
  · rcases h2 with ⟨_, h2⟩ | ⟨k', _⟩
    · exact wpAny_nextOf_list_end hh h1 h2 h3 q
    · rw [k] at k'; cases k'
  · rcases h2 with ⟨k', _⟩ | ⟨_, h2⟩
    · rw [k] at k'; cases k'
    · exact RZ.nextOf_tuple_end hh h1 h2 h3 q
/-- the loop that fills z's own tuple, k done -/
structure ZFillM (ka : Addr → Bool) (h h' : Heap) (z TI TO : Addr) (its ls : List Addr) (us : List Value) (i k : Nat) : Prop where
  zp : ∃ f1, IsZp h' z TI TO .ellipsis f1
  ti : IsTp h' TI (its.map Value.ref).toArray
  to : ∃ vs, IsTp h' TO vs ∧ vs.size = its.length ∧ ∀ j, j < k → vs[j]? = us[j]?
  it : ∀ (j : Nat) (a l : Addr), its[j]? = some a → ls[j]? = some l → ItM ka h' a l (if j < k then i + 1 else i)
  sz : h'.objs.size = h.objs.size
  kp : ∀ c o, c ∉ z :: TO :: its → h.get? c = some o → h'.get? c = some o
/-- the loop that draws the items beside it, k done -/
structure ZDrawM (ka : Addr → Bool) (h h' : Heap) (z TI TO : Addr) (its ls : List Addr) (us : List Value) (i k : Nat) : Prop where
  zp : ∃ f0 f1, IsZp h' z TI TO f0 f1 ∧ (f0 = .none ∨ ∃ a : Nat, f0 = rawInt a)
  ti : IsTp h' TI (its.map Value.ref).toArray
  to : ∃ vs, IsTp h' TO vs ∧ vs.size = its.length
  it : ∀ (j : Nat) (a l : Addr), its[j]? = some a → ls[j]? = some l → ItM ka h' a l (if j < k then i + 1 else i)
  sz : h'.objs.size = h.objs.size
  kp : ∀ c o, c ∉ z :: TO :: its → h.get? c = some o → h'.get? c = some o
theorem zpm_item {ka : Addr → Bool} {z TI TO : Addr} {its ls : List Addr} {i : Nat} {us : List Value} {Q : Value → Shared → Prop} (D : ZDist z TI TO its ls) (st : ZAtM ka s.heap z TI TO its ls i)
    (hu : us.length = its.length) (hx : ∀ (j : Nat) (l : Addr) (u : Value), ls[j]? = some l → us[j]? = some u → ∃ xs, SqM ka s.heap l xs ∧ xs[i]? = some u)
    (hQ : ∀ h', ZAtM ka h' z TI TO its ls (i + 1) → IsTp h' s.heap.objs.size us.toArray → (∀ c o, c ∉ z :: TO :: its → s.heap.get? c = some o → h'.get? c = some o) → Q (.ref s.heap.objs.size) { s with heap := h' }) :
    wpAny (model prog w) A (Builtin.«zip.__next__» ⟨[.ref z], []⟩) (fun fin s' => ∃ v, fin = .done (.ret v) ∧ Q v s') E s := by
  obtain ⟨⟨f0, f1, hz0, hf⟩, hTI, ⟨vs0, hTO, hvs⟩, hit⟩ := st
  obtain ⟨tz1, tz2, tz3⟩ := D.zT
  have hfree : ∀ c o, s.heap.get? c = some o → c ≠ s.heap.objs.size := fun c o e => Nat.ne_of_lt (Heap.lt_size e)
  show wpAny _ _ (field (.ref z) 2 >>= _) _ _ _
  refine wpAny_bind (wpAny_field hz0 rfl (x := .bool false) rfl ?_)
  show wpAny _ _ (field (.ref z) 3 >>= _) _ _ _
  refine wpAny_bind (wpAny_field hz0 rfl (x := .ref TI) rfl ?_)
  refine wpAny_bind (wpAny_seqItems hTI rfl ?_)
  obtain ⟨i0, r0, hi0⟩ : ∃ i0 r0, its = i0 :: r0 := by
    cases its with
    | nil => exact absurd rfl D.ne
    | cons a r => exact ⟨a, r, rfl⟩
  dsimp only
  rw [if_neg (show ¬ ((its.map Value.ref).toArray.isEmpty = true) by rw [hi0]; simp)]
  refine wpAny_bind (zfree_ok hz0 hf fun b h0 f1' hz1 hs0 => ?_)
  have hTI1 : IsTp h0 TI (its.map Value.ref).toArray := hs0.extBut _ _ tz1 hTI
  have hTO1 : IsTp h0 TO vs0 := hs0.extBut _ _ tz2 hTO
  have hit1 : ∀ (j : Nat) (a l : Addr), its[j]? = some a → ls[j]? = some l → ItM ka h0 a l i := fun j a l e1 e2 => (hit j a l e1 e2).extBut hs0.extBut (D.itz e1).1
  have kp0 : ∀ c o, c ∉ z :: TO :: its → s.heap.get? c = some o → h0.get? c = some o := fun c o hc e => hs0.extBut _ _ (fun q => hc (by simp [q])) e
  have hx0 : ∀ (h' : Heap), (∀ c o, c ∉ z :: TO :: its → s.heap.get? c = some o → h'.get? c = some o) → ∀ (j : Nat) (l : Addr) (u : Value), ls[j]? = some l → us[j]? = some u → ∃ xs, SqM ka h' l xs ∧ xs[i]? = some u := fun h' kp j l u e1 e2 => by
    obtain ⟨xs, hs, hi⟩ := hx j l u e1 e2
    have hl := D.away l (List.mem_of_getElem? e1)
    have hl2 : l ∉ z :: TO :: its := fun q => hl (by
      simp only [List.mem_cons] at q ⊢
      rcases q with q | q | q
      · exact .inl q
      · exact .inr (.inr (.inl q))
      · exact .inr (.inr (.inr q)))
    exact ⟨xs, hs.keep fun o ho => kp _ _ hl2 ho, hi⟩
  have tis : ∀ c, c = TI → c ∉ z :: TO :: its := fun c e q => by
    subst e
    rcases List.mem_cons.mp q with q | q
    · exact tz1 q
    rcases List.mem_cons.mp q with q | q
    · exact tz3 q
    · have n := D.nd
      simp only [List.nodup_cons, List.mem_cons, not_or] at n
      exact n.2.1.2 q
  cases b with
  | true =>
    simp only [if_true]
    refine wpAny_bind (wpAny_rule ?_)
    refine wpAny_bind (wpAny_field hz1 rfl (x := .ref TO) rfl ?_)
    refine wpAny_bind (wpAny_setField_rec hz1 (by simp) fun h₁ hz₁ hs₁ => ?_)
    replace hz₁ : IsZp h₁ z TI TO .ellipsis f1' := hz₁
    have F0 : ZFillM ka s.heap h₁ z TI TO its ls us i 0 := {
      zp := ⟨f1', hz₁⟩
      ti := hs₁.extBut _ _ tz1 hTI1
      to := ⟨vs0, hs₁.extBut _ _ tz2 hTO1, hvs, fun j hj => absurd hj (Nat.not_lt_zero _)⟩
      it := fun j a l e1 e2 => by
        rw [if_neg (Nat.not_lt_zero _)]
        exact (hit1 j a l e1 e2).extBut hs₁.extBut (D.itz e1).1
      sz := hs₁.1.trans hs0.1
      kp := fun c o hc e => hs₁.extBut _ _ (fun q => hc (by simp [q])) (kp0 c o hc e) }
    refine wpAny_bind (forIn_to (I := fun r b s' => b = ⟨none, ⟨⟩⟩ ∧ ∃ k h', s' = { s with heap := h' } ∧ r = ((its.map Value.ref).toArray.toList.zipIdx).drop k ∧ k ≤ its.length ∧ ZFillM ka s.heap h' z TI TO its ls us i k) ?_ ?_ _ _ _ ⟨rfl, 0, h₁, rfl, rfl, Nat.zero_le _, F0⟩)
    · rintro ⟨x, k'⟩ l b s' ⟨rfl, k, h', rfl, hr, hk, F⟩
      obtain ⟨e1, e2⟩ := drop_cons hr
      obtain ⟨a, ha, rfl, rfl⟩ := zx_at e1
      have hkl := (List.getElem?_eq_some_iff.mp ha).1
      obtain ⟨l1, hl1⟩ : ∃ l1, ls[k]? = some l1 := ⟨_, List.getElem?_eq_getElem (by rw [← D.len]; exact hkl)⟩
      obtain ⟨u1, hu1⟩ : ∃ u1, us[k]? = some u1 := ⟨_, List.getElem?_eq_getElem (by rw [hu]; exact hkl)⟩
      obtain ⟨xs, hT, hxi⟩ := hx0 h' F.kp k l1 u1 hl1 hu1
      have hI := F.it k a l1 ha hl1
      rw [if_neg (Nat.lt_irrefl _)] at hI
      obtain ⟨az, aTI, aTO⟩ := D.itz ha
      obtain ⟨f1'', hz2⟩ := F.zp
      obtain ⟨vs, hv, hvz, hvj⟩ := F.to
      refine wpAny_bind (wpAny_onRaise ?_)
      show wpAny _ _ (Builtin.SmallTypes.nextOf (.ref a) >>= _) _ _ _
      refine wpAny_bind (nextM_item hI hT hxi fun h₂ h1₂ hs₂ => wpAny_pure ?_)
      have hv2 : IsTp h₂ TO vs := hs₂.extBut _ _ (Ne.symm aTO) hv
      refine wpAny_bind (wpAny_seqItems hv2 rfl ?_)
      refine wpAny_bind (wpAny_updateSeq hv2 rfl ?_ (by rw [hvz, sizeLine_eq]; have := D.sm; omega) (by rw [Array.size_setIfInBounds, hvz, sizeLine_eq]; have := D.sm; omega))
      have hs₃ : Heap.SameBut TO h₂ (h₂.update TO (Obj.mapSeq fun y => y.setIfInBounds k u1)) := Heap.SameBut.update ..
      have hv3 : IsTp (h₂.update TO (Obj.mapSeq fun y => y.setIfInBounds k u1)) TO (vs.setIfInBounds k u1) := by
        have z := Heap.get?_update_self (Obj.mapSeq fun y => y.setIfInBounds k u1) hv2 rfl
        exact z.trans (by simp [Obj.mapSeq])
      generalize h₂.update TO (Obj.mapSeq fun y => y.setIfInBounds k u1) = h₃ at hs₃ hv3 ⊢
      refine wpAny_bind (wpAny_letGo (wpAny_pure ⟨_, rfl, rfl, k + 1, h₃, rfl, e2, hkl, ?_⟩))
      exact {
        zp := ⟨f1'', hs₃.extBut _ _ (Ne.symm tz2) (hs₂.extBut _ _ (Ne.symm az) hz2)⟩
        ti := hs₃.extBut _ _ tz3 (hs₂.extBut _ _ (Ne.symm aTI) F.ti)
        to := ⟨_, hv3, by rw [Array.size_setIfInBounds, hvz], fun j hj => by
          rw [Array.getElem?_setIfInBounds]
          by_cases hjk : k = j
          · subst hjk
            rw [if_pos rfl, if_pos (by rw [hvz]; exact hkl), hu1]
          · rw [if_neg hjk]
            exact hvj j (by omega)⟩
        it := fun j b l2 g1 g2 => by
          by_cases hjk : j = k
          · subst hjk
            rw [ha] at g1
            rw [hl1] at g2
            cases g1
            cases g2
            rw [if_pos (Nat.lt_succ_self _)]
            exact h1₂.extBut hs₃.extBut aTO
          · have g3 := F.it j b l2 g1 g2
            have g4 : (if j < k then i + 1 else i) = (if j < k + 1 then i + 1 else i) := by
              by_cases g5 : j < k
              · rw [if_pos g5, if_pos (by omega)]
              · rw [if_neg g5, if_neg (by omega)]
            rw [g4] at g3
            have ba : b ≠ a := fun q => hjk (D.inj g1 (q ▸ ha))
            exact (g3.extBut hs₂.extBut ba).extBut hs₃.extBut (D.itz g1).2.2
        sz := (hs₃.1.trans hs₂.1).trans F.sz
        kp := fun c o hc e => hs₃.extBut _ _ (fun q => hc (by simp [q])) (hs₂.extBut _ _ (fun q => hc (by rw [q]; simp [List.mem_of_getElem? ha])) (F.kp c o hc e)) }
    · rintro b s' ⟨rfl, k, h', rfl, hr, hk, F⟩
      have hkn : k = its.length := by
        have := congrArg List.length hr
        simp at this
        omega
      subst hkn
      obtain ⟨f1'', hz2⟩ := F.zp
      obtain ⟨vs, hv, hvz, hvj⟩ := F.to
      have evs : vs.toList = us := by
        apply List.ext_getElem?
        intro j
        rw [Array.getElem?_toList]
        by_cases hj : j < its.length
        · exact hvj j hj
        · rw [Array.getElem?_eq_none (by omega), List.getElem?_eq_none (by omega)]
      dsimp only
      refine wpAny_bind (wpAny_seqItems hv rfl ?_)
      refine wpAny_bind (wpAny_newTuple ?_ (by rw [Array.length_toList, hvz, sizeLine_eq]; have := D.sm; omega))
      show wpAny _ _ (Builtin.SmallTypes.ownedTupleHandOut (.ref z) (.ref h'.objs.size) >>= _) _ _ _
      refine wpAny_bind ?_
      unfold Builtin.SmallTypes.ownedTupleHandOut
      have hz₆ : IsZp (h'.push { cls := .type "tuple", data := .seq vs.toList.toArray }) z TI TO .ellipsis f1'' := Heap.get?_push_of_some _ hz2
      refine wpAny_bind (wpAny_setField_rec hz₆ (by simp) fun h₇ hz₇ hs₇ => ?_)
      replace hz₇ : IsZp h₇ z TI TO (rawInt h'.objs.size) f1'' := hz₇
      refine wpAny_setField_rec hz₇ (by simp) fun h₈ hz₈ hs₈ => ?_
      replace hz₈ : IsZp h₈ z TI TO (rawInt h'.objs.size) (.bool false) := hz₈
      have up : ∀ c o, c ≠ z → h'.get? c = some o → h₈.get? c = some o := fun c o c1 e => hs₈.extBut _ _ c1 (hs₇.extBut _ _ c1 (Heap.get?_push_of_some _ e))
      have hzlt : z < h'.objs.size := Heap.lt_size hz2
      have hT8 : IsTp h₈ h'.objs.size us.toArray := by
        rw [← evs]
        exact hs₈.extBut _ _ (Nat.ne_of_gt hzlt) (hs₇.extBut _ _ (Nat.ne_of_gt hzlt) (Heap.get?_push_size _ rfl))
      refine wpAny_pure ⟨_, rfl, ?_⟩
      show Q (.ref h'.objs.size) _
      rw [F.sz]
      rw [F.sz] at hT8
      refine hQ h₈ ⟨⟨_, _, hz₈, .inr ⟨_, rfl⟩⟩, up _ _ tz1 F.ti, ⟨vs, up _ _ tz2 hv, hvz⟩, fun j b l2 g1 g2 => ?_⟩ hT8 fun c o hc e => up c o (fun q => hc (by simp [q])) (F.kp c o hc e)
      have g3 := F.it j b l2 g1 g2
      rw [if_pos (List.getElem?_eq_some_iff.mp g1).1] at g3
      exact g3.at fun o e => up b o (D.itz g1).1 e
  | false =>
    simp only [Bool.false_eq_true, if_false]
    have F0 : ZDrawM ka s.heap h0 z TI TO its ls us i 0 := {
      zp := ⟨f0, f1', hz1, hf⟩
      ti := hTI1
      to := ⟨vs0, hTO1, hvs⟩
      it := fun j a l e1 e2 => by
        rw [if_neg (Nat.not_lt_zero _)]
        exact hit1 j a l e1 e2
      sz := hs0.1
      kp := kp0 }
    rw [← Array.forIn_toList]
    refine wpAny_bind (forIn_to (I := fun r b s' => ∃ k h', b = (none, (us.take k).toArray) ∧ s' = { s with heap := h' } ∧ r = ((its.map Value.ref).toArray.toList).drop k ∧ k ≤ its.length ∧ ZDrawM ka s.heap h' z TI TO its ls us i k) ?_ ?_ _ _ _ ⟨0, h0, by rw [List.take_zero], rfl, rfl, Nat.zero_le _, F0⟩)
    · rintro x l b s' ⟨k, h', rfl, rfl, hr, hk, F⟩
      obtain ⟨e1, e2⟩ := drop_cons hr
      obtain ⟨a, ha, rfl⟩ : ∃ a, its[k]? = some a ∧ x = .ref a := by
        simp only [List.toList_toArray, List.getElem?_map, Option.map_eq_some_iff] at e1
        obtain ⟨a, h1, h2⟩ := e1
        exact ⟨a, h1, h2.symm⟩
      have hkl := (List.getElem?_eq_some_iff.mp ha).1
      obtain ⟨l1, hl1⟩ : ∃ l1, ls[k]? = some l1 := ⟨_, List.getElem?_eq_getElem (by rw [← D.len]; exact hkl)⟩
      obtain ⟨u1, hu1⟩ : ∃ u1, us[k]? = some u1 := ⟨_, List.getElem?_eq_getElem (by rw [hu]; exact hkl)⟩
      obtain ⟨xs, hT, hxi⟩ := hx0 h' F.kp k l1 u1 hl1 hu1
      have hI := F.it k a l1 ha hl1
      rw [if_neg (Nat.lt_irrefl _)] at hI
      obtain ⟨az, aTI, aTO⟩ := D.itz ha
      obtain ⟨g0, g1, hz2, hg⟩ := F.zp
      obtain ⟨vs, hv, hvz⟩ := F.to
      refine wpAny_bind (wpAny_holding ?_)
      show wpAny _ _ (Builtin.SmallTypes.nextOf (.ref a) >>= _) _ _ _
      refine wpAny_bind (nextM_item hI hT hxi fun h₂ h1₂ hs₂ => wpAny_pure ?_)
      refine wpAny_pure ⟨_, rfl, k + 1, h₂, ?_, rfl, e2, hkl, ?_⟩
      · dsimp only
        rw [List.take_add_one, hu1, List.push_toArray]
        rfl
      exact {
        zp := ⟨g0, g1, hs₂.extBut _ _ (Ne.symm az) hz2, hg⟩
        ti := hs₂.extBut _ _ (Ne.symm aTI) F.ti
        to := ⟨_, hs₂.extBut _ _ (Ne.symm aTO) hv, hvz⟩
        it := fun j b l2 g1 g2 => by
          by_cases hjk : j = k
          · subst hjk
            rw [ha] at g1
            rw [hl1] at g2
            cases g1
            cases g2
            rw [if_pos (Nat.lt_succ_self _)]
            exact h1₂
          · have g3 := F.it j b l2 g1 g2
            have g4 : (if j < k then i + 1 else i) = (if j < k + 1 then i + 1 else i) := by
              by_cases g5 : j < k
              · rw [if_pos g5, if_pos (by omega)]
              · rw [if_neg g5, if_neg (by omega)]
            rw [g4] at g3
            have ba : b ≠ a := fun q => hjk (D.inj g1 (q ▸ ha))
            exact g3.extBut hs₂.extBut ba
        sz := hs₂.1.trans F.sz
        kp := fun c o hc e => hs₂.extBut _ _ (fun q => hc (by rw [q]; simp [List.mem_of_getElem? ha])) (F.kp c o hc e) }
    · rintro b s' ⟨k, h', rfl, rfl, hr, hk, F⟩
      have hkn : k = its.length := by
        have := congrArg List.length hr
        simp at this
        omega
      subst hkn
      obtain ⟨g0, g1, hz2, hg⟩ := F.zp
      obtain ⟨vs, hv, hvz⟩ := F.to
      have eus : us.take its.length = us := by rw [← hu, List.take_length]
      dsimp only
      refine wpAny_bind (wpAny_newTuple ?_ (by rw [eus, hu, sizeLine_eq]; have := D.sm; omega))
      have hzlt : z < h'.objs.size := Heap.lt_size hz2
      have up : ∀ c o, h'.get? c = some o → (h'.push { cls := .type "tuple", data := .seq (us.take its.length).toArray.toList.toArray }).get? c = some o := fun c o e => Heap.get?_push_of_some _ e
      have hT8 : IsTp (h'.push { cls := .type "tuple", data := .seq (us.take its.length).toArray.toList.toArray }) h'.objs.size us.toArray := by
        rw [eus]
        exact Heap.get?_push_size _ rfl
      refine wpAny_pure ⟨_, rfl, ?_⟩
      show Q (.ref h'.objs.size) _
      rw [F.sz]
      rw [F.sz] at hT8
      refine hQ _ ⟨⟨_, _, up _ _ hz2, hg⟩, up _ _ F.ti, ⟨vs, up _ _ hv, hvz⟩, fun j b l2 g1 g2 => ?_⟩ hT8 fun c o hc e => up c o (F.kp c o hc e)
      have g3 := F.it j b l2 g1 g2
      rw [if_pos (List.getElem?_eq_some_iff.mp g1).1] at g3
      exact g3.at fun o e => up b o e
/-- the first of the tuples is at its end -/
theorem zpm_end {ka : Addr → Bool} {z TI TO : Addr} {its ls : List Addr} {i : Nat} {l0 : Addr} {xs : Array Value} {Q : PySem.Fin → Shared → Prop} (hh : A.handled = none) (D : ZDist z TI TO its ls) (st : ZAtM ka s.heap z TI TO its ls i)
    (hl0 : ls[0]? = some l0) (hT : SqM ka s.heap l0 xs) (hx : xs[i]? = none)
    (hE : ∀ h' e, (∀ c o, c ∉ z :: TO :: its → s.heap.get? c = some o → h'.get? c = some o) → (∃ o, h'.get? e = some o ∧ o.cls = .type "StopIteration") → E (.ref e) { s with heap := h' }) :
    wpAny (model prog w) A (Builtin.«zip.__next__» ⟨[.ref z], []⟩) Q E s := by
  obtain ⟨⟨f0, f1, hz0, hf⟩, hTI, ⟨vs0, hTO, hvs⟩, hit⟩ := st
  obtain ⟨tz1, tz2, tz3⟩ := D.zT
  show wpAny _ _ (field (.ref z) 2 >>= _) _ _ _
  refine wpAny_bind (wpAny_field hz0 rfl (x := .bool false) rfl ?_)
  show wpAny _ _ (field (.ref z) 3 >>= _) _ _ _
  refine wpAny_bind (wpAny_field hz0 rfl (x := .ref TI) rfl ?_)
  refine wpAny_bind (wpAny_seqItems hTI rfl ?_)
  obtain ⟨i0, r0, hi0⟩ : ∃ i0 r0, its = i0 :: r0 := by
    cases its with
    | nil => exact absurd rfl D.ne
    | cons a r => exact ⟨a, r, rfl⟩
  dsimp only
  rw [if_neg (show ¬ ((its.map Value.ref).toArray.isEmpty = true) by rw [hi0]; simp)]
  refine wpAny_bind (zfree_ok hz0 hf fun b h0 f1' hz1 hs0 => ?_)
  have ha : its[0]? = some i0 := by rw [hi0]; rfl
  obtain ⟨az, aTI, aTO⟩ := D.itz ha
  have hI0 : ItM ka h0 i0 l0 i := (hit 0 i0 l0 ha hl0).extBut hs0.extBut az
  have lz : l0 ≠ z := fun q => D.away l0 (List.mem_of_getElem? hl0) (by simp [q])
  have hT0 : SqM ka h0 l0 xs := hT.keep fun o ho => hs0.extBut _ _ lz ho
  cases b with
  | true =>
    simp only [if_true]
    refine wpAny_bind (wpAny_rule ?_)
    refine wpAny_bind (wpAny_field hz1 rfl (x := .ref TO) rfl ?_)
    refine wpAny_bind (wpAny_setField_rec hz1 (by simp) fun h₁ hz₁ hs₁ => ?_)
    replace hz₁ : IsZp h₁ z TI TO .ellipsis f1' := hz₁
    refine wpAny_bind ?_
    rw [hi0]
    simp only [List.map_cons, List.zipIdx_cons, List.forIn_cons]
    refine wpAny_bind (wpAny_bind (wpAny_onRaise ?_))
    show wpAny _ _ (Builtin.SmallTypes.nextOf (.ref i0) >>= _) _ _ _
    have hT1 : SqM ka h₁ l0 xs := hT0.keep fun o ho => hs₁.extBut _ _ lz ho
    refine wpAny_bind (nextM_end hh (hI0.extBut hs₁.extBut az) hT1 hx fun h₂ e hs₂ he => ?_)
    obtain ⟨oe, hoe, hce⟩ := he
    have hz₂ : IsZp h₂ z TI TO .ellipsis f1' := hs₂ _ _ (Ne.symm az) hz₁
    have hez : e ≠ z := fun x => by subst x; rw [hz₂] at hoe; cases hoe; simp at hce
    refine wpAny_setField_rec hz₂ (by simp) fun h₃ _ hs₃ => hE h₃ e (fun c o hc x => hs₃.extBut _ _ (fun q => hc (by simp [q])) (hs₂ _ _ (fun q => hc (by rw [q]; simp [hi0])) (hs₁.extBut _ _ (fun q => hc (by simp [q])) (hs0.extBut _ _ (fun q => hc (by simp [q])) x)))) ⟨oe, hs₃.extBut _ _ hez hoe, hce⟩
  | false =>
    simp only [Bool.false_eq_true, if_false]
    rw [← Array.forIn_toList]
    refine wpAny_bind ?_
    rw [hi0]
    simp only [List.map_cons, List.forIn_cons]
    refine wpAny_bind (wpAny_bind (wpAny_holding ?_))
    show wpAny _ _ (Builtin.SmallTypes.nextOf (.ref i0) >>= _) _ _ _
    refine wpAny_bind (nextM_end hh hI0 hT0 hx fun h₂ e hs₂ he => ?_)
    exact hE h₂ e (fun c o hc x => hs₂ _ _ (fun q => hc (by rw [q]; simp [hi0])) (hs0.extBut _ _ (fun q => hc (by simp [q])) x)) he
theorem pyNext_zpm_item {ka : Addr → Bool} {z TI TO : Addr} {its ls : List Addr} {i : Nat} {us : List Value} {Q : Option Value → Shared → Prop} (D : ZDist z TI TO its ls) (st : ZAtM ka s.heap z TI TO its ls i)
    (hu : us.length = its.length) (hx : ∀ (j : Nat) (l : Addr) (u : Value), ls[j]? = some l → us[j]? = some u → ∃ xs, SqM ka s.heap l xs ∧ xs[i]? = some u)
    (hQ : ∀ h', ZAtM ka h' z TI TO its ls (i + 1) → IsTp h' s.heap.objs.size us.toArray → (∀ c o, c ∉ z :: TO :: its → s.heap.get? c = some o → h'.get? c = some o) → Q (some (.ref s.heap.objs.size)) { s with heap := h' }) :
    wpAny (model prog w) A (pyNext (.ref z)) Q E s := by
  obtain ⟨f0, f1, hz, _⟩ := st.zp
  have hT : s.TypeIs (.ref z) "zip" := ⟨_, hz, rfl⟩
  unfold pyNext
  exact wpAny_bind (wpAny_attempt (wpAny_callSpecial?_slot (name := Str.ofString "__next__") hT F.slot_zip_next
    (wpAny_call_entry F.slot_zip_next hT F.entry_zip_next (zpm_item D st hu hx fun h' a1 a2 a3 => wpAny_pure (hQ h' a1 a2 a3)) (F.args_zip_next_1 _))))
theorem pyNext_zpm_end {ka : Addr → Bool} {z TI TO : Addr} {its ls : List Addr} {i : Nat} {l0 : Addr} {xs : Array Value} {Q : Option Value → Shared → Prop} (hh : A.handled = none) (D : ZDist z TI TO its ls) (st : ZAtM ka s.heap z TI TO its ls i)
    (hl0 : ls[0]? = some l0) (hT : SqM ka s.heap l0 xs) (hx : xs[i]? = none) (hQ : ∀ h', (∀ c o, c ∉ z :: TO :: its → s.heap.get? c = some o → h'.get? c = some o) → Q none { s with heap := h' }) :
    wpAny (model prog w) A (pyNext (.ref z)) Q E s := by
  obtain ⟨f0, f1, hz, _⟩ := st.zp
  have hTy : s.TypeIs (.ref z) "zip" := ⟨_, hz, rfl⟩
  unfold pyNext
  refine wpAny_bind (wpAny_attempt (wpAny_callSpecial?_slot (name := Str.ofString "__next__") hTy F.slot_zip_next
    (wpAny_call_entry F.slot_zip_next hTy F.entry_zip_next (zpm_end hh D st hl0 hT hx fun h' e hk he => ?_) (F.args_zip_next_1 _))))
  obtain ⟨o, ho, hc⟩ := he
  refine wpAny_bind (wpAny_isInstance (T := "StopIteration") (b := true) ⟨o, ho, hc⟩ isSubtype_stop ?_)
  exact wpAny_pure (hQ _ hk)
end
end Sv

set_option maxHeartbeats 1000000
set_option autoImplicit false
/-! Over data: enumerate of a tuple, its pairs under one name. The iterator keeps the first pair that it handed out. -/
namespace PySem
open Sem (wp)
/-- an enumerate object, whatever it keeps -/
abbrev EnS (h : Heap) (e it : Addr) (i : Int) (f0 f1 old : Value) : Prop := h.get? e = some { cls := .type "enumerate", dict := none, data := .fields #[f0, f1, .ref it, rawInt i, .none, old], slots := #[] }
def Hf (v : Value) : Prop := v = .none ∨ ∃ a : Addr, v = rawInt (a : Nat)
section
variable {prog : Program} {w : World} {A : Around} {E : Value → Shared → Prop} {s : Shared}
theorem alive_any {a : Addr} {Q : Option Obj → Shared → Prop} (q : Q (s.heap.get? a) s) : wpAny (model prog w) A (loadIfAlive a) Q E s := by
  intro Γ p hi
  exact q
theorem en_free {e it : Addr} {i : Int} {f0 f1 old : Value} {Q : Bool → Shared → Prop} (he : EnS s.heap e it i f0 f1 old) (hf : Hf f0) (q1 : Q true s) (q2 : ∀ h' f, EnS h' e it i f0 f old → Heap.SameBut e s.heap h' → Q false { s with heap := h' }) :
    wpAny (model prog w) A (Builtin.SmallTypes.ownedTupleIsFree (.ref e)) Q E s := by
  unfold Builtin.SmallTypes.ownedTupleIsFree
  rcases hf with rfl | ⟨a, rfl⟩
  · exact wpAny_bind (wpAny_field he rfl (x := .none) rfl (wpAny_pure q1))
  · refine wpAny_bind (wpAny_field he rfl (x := rawInt (a : Nat)) rfl ?_)
    show wpAny _ _ (loadIfAlive ((a : Int).toNat) >>= _) _ _ _
    rw [Int.toNat_natCast]
    refine wpAny_bind (alive_any ?_)
    cases hx : s.heap.get? a with
    | none => exact wpAny_pure q1
    | some o =>
      simp only [Option.isNone_some]
      refine wpAny_bind (wpAny_field he rfl (x := f1) rfl ?_)
      cases hb : (f1 != Value.bool true) with
      | false => exact wpAny_pure (q2 s.heap f1 he (Heap.SameBut.refl _ _))
      | true => exact wpAny_bind (wpAny_setField_rec he (by simp) fun h₃ he₃ hs₃ => wpAny_pure (q2 h₃ (.bool true) he₃ hs₃))
theorem en_next {e it : Addr} {fp : List Addr} {n i : Nat} {P : Nat → Value → Prop} {St : Nat → Heap → Prop} {f0 f1 old : Value} {Q : Value → Shared → Prop}
    (D : Draws prog w A it fp n P St) (he : EnS s.heap e it i f0 f1 old) (hf : Hf f0) (hst : St i s.heap) (hlt : i < n) (hne : e ≠ it) (hef : e ∉ fp)
    (hQ : ∀ x h' tk, P i x → (∃ f0 f1 old, Hf f0 ∧ EnS h' e it ((i + 1 : Nat) : Int) f0 f1 old) → St (i + 1) h' → h'.get? s.heap.objs.size = some { cls := .type "tuple", data := .seq #[.int i tk, x] } → h'.objs.size = s.heap.objs.size + 1 →
      (∀ b o, b ≠ e → b ≠ it → s.heap.get? b = some o → h'.get? b = some o) → Q (.ref s.heap.objs.size) { s with heap := h', toks := tk + 1 }) :
    wpAny (model prog w) A (Builtin.«enumerate.__next__» ⟨[.ref e], []⟩) (fun fin s' => ∃ v, fin = .done (.ret v) ∧ Q v s') E s := by
  obtain ⟨hp, g, d, tk₀, os⟩ := s
  have ei : ((i + 1 : Nat) : Int) = (i : Int) + 1 := by omega
  rw [ei] at hQ
  show wpAny _ _ (field (.ref e) 2 >>= fun v => _) _ _ _
  refine wpAny_bind (wpAny_field he rfl (x := .ref it) rfl (wpAny_bind (D.item i _ _ _ hlt hst fun x k1 tk hPx hit1 t1 => ?_)))
  have t1 : Heap.SameBut it hp k1 := t1
  have a1 : EnS k1 e it i f0 f1 old := (t1.2 e hne).trans he
  show wpAny _ _ (field (.ref e) 3 >>= fun v => _) _ _ ⟨k1, g, d, tk, os⟩
  refine wpAny_bind (wpAny_field a1 rfl (x := rawInt i) rfl ?_)
  show wpAny _ _ (field (.ref e) 4 >>= fun v => _) _ _ ⟨k1, g, d, tk, os⟩
  refine wpAny_bind (wpAny_field a1 rfl (x := .none) rfl ?_)
  show wpAny _ _ (mkInt i >>= fun v => _) _ _ ⟨k1, g, d, tk, os⟩
  refine wpAny_bind (wpAny_mkInt (?_ : wpAny _ _ _ _ _ _))
  show wpAny _ _ (setField (.ref e) 3 (rawInt ((i : Int) + 1)) >>= fun v => _) _ _ ⟨k1, g, d, tk + 1, os⟩
  refine wpAny_bind (wpAny_setField_rec a1 (by simp) fun k2 a2 t2 => ?_)
  have t2 : Heap.SameBut e k1 k2 := t2
  have a2 : EnS k2 e it ((i : Int) + 1) f0 f1 old := a2
  show wpAny _ _ (setField (.ref e) 4 .none >>= fun v => _) _ _ ⟨k2, g, d, tk + 1, os⟩
  refine wpAny_bind (wpAny_setField_rec a2 (by simp) fun k3 a3 t3 => ?_)
  have t3 : Heap.SameBut e k2 k3 := t3
  have a3 : EnS k3 e it ((i : Int) + 1) f0 f1 old := a3
  show wpAny _ _ (newTuple [.int i tk, x] >>= fun v => _) _ _ ⟨k3, g, d, tk + 1, os⟩
  refine wpAny_bind (wpAny_newTuple (?_ : wpAny _ _ _ _ _ _))
  have a4 : EnS (k3.push { cls := .type "tuple", data := .seq #[.int i tk, x] }) e it ((i : Int) + 1) f0 f1 old := Heap.get?_push_of_some _ a3
  generalize z4 : k3.push { cls := .type "tuple", data := .seq #[.int i tk, x] } = k4 at a4
  have sz : k3.objs.size = hp.objs.size := t3.1.trans (t2.1.trans t1.1)
  have el : e < hp.objs.size := Heap.lt_size he
  have b4 : k4.get? hp.objs.size = some { cls := .type "tuple", data := .seq #[.int i tk, x] } := by
    rw [← z4, ← sz]
    exact Heap.get?_push_size _ rfl
  have y4 : k4.objs.size = hp.objs.size + 1 := by
    rw [← z4, Heap.size_push, sz]
  have c4 : ∀ b o, b ≠ e → b ≠ it → hp.get? b = some o → k4.get? b = some o := fun b o h1 h2 h3 => by
    rw [← z4]
    exact Heap.get?_push_of_some _ (t3.extBut b o h1 (t2.extBut b o h1 (t1.extBut b o h2 h3)))
  have i4 : St (i + 1) k4 := D.frame _ _ _ hit1 fun b hb o y => by
    have hbe : b ≠ e := fun z => hef (z ▸ hb)
    rw [← z4]
    exact Heap.get?_push_of_some _ (t3.extBut b o hbe (t2.extBut b o hbe y))
  have fin : ∀ (h' : Heap) (g0 g1 gold : Value), Hf g0 → EnS h' e it ((i : Int) + 1) g0 g1 gold → Heap.SameBut e k4 h' → Q (.ref hp.objs.size) ⟨h', g, d, tk + 1, os⟩ := fun h' g0 g1 gold hg ha hsb => by
    refine hQ x h' tk hPx ⟨g0, g1, gold, hg, ha⟩ (D.frame _ _ _ i4 fun b hb o y => hsb.extBut b o (fun z => hef (z ▸ hb)) y) (hsb.extBut _ _ (Nat.ne_of_gt el) b4) ?_ fun b o h1 h2 h3 => hsb.extBut b o h1 (c4 b o h1 h2 h3)
    show h'.objs.size = hp.objs.size + 1
    rw [hsb.1, y4]
  show wpAny _ _ (Builtin.SmallTypes.ownedTupleIsFree (.ref e) >>= fun v => _) _ _ ⟨k4, g, d, tk + 1, os⟩
  rw [sz]
  refine wpAny_bind (en_free a4 hf ?_ fun h' f ha hsb => ?_)
  · simp only [if_true]
    refine wpAny_bind (wpAny_rule (?_ : wpAny _ _ _ _ _ _))
    refine wpAny_bind (wpAny_field a4 rfl (x := old) rfl ?_)
    refine wpAny_bind (wpAny_setField_rec a4 (by simp) fun k5 a5 t5 => ?_)
    have t5 : Heap.SameBut e k4 k5 := t5
    have a5 : EnS k5 e it ((i : Int) + 1) f0 f1 x := a5
    show wpAny _ _ (Builtin.SmallTypes.ownedTupleHandOut (.ref e) (.ref hp.objs.size) >>= fun v => _) _ _ ⟨k5, g, d, tk + 1, os⟩
    refine wpAny_bind ?_
    unfold Builtin.SmallTypes.ownedTupleHandOut
    refine wpAny_bind (wpAny_setField_rec a5 (by simp) fun k6 a6 t6 => ?_)
    have t6 : Heap.SameBut e k5 k6 := t6
    have a6 : EnS k6 e it ((i : Int) + 1) (rawInt (hp.objs.size : Nat)) f1 x := a6
    refine wpAny_setField_rec a6 (by simp) fun k7 a7 t7 => ?_
    have t7 : Heap.SameBut e k6 k7 := t7
    exact wpAny_bind (wpAny_letGo (wpAny_pure ⟨_, rfl, fin k7 _ _ _ (.inr ⟨_, rfl⟩) a7 ⟨t7.1.trans (t6.1.trans t5.1), fun b hb => (t7.2 b hb).trans ((t6.2 b hb).trans (t5.2 b hb))⟩⟩))
  · simp only [Bool.false_eq_true, if_false]
    exact wpAny_pure ⟨_, rfl, fin h' _ _ _ hf ha hsb⟩
theorem en_item {e it : Addr} {fp : List Addr} {n i : Nat} {P : Nat → Value → Prop} {St : Nat → Heap → Prop} {f0 f1 old : Value} {Q : Option Value → Shared → Prop}
    (D : Draws prog w A.in1 it fp n P St) (he : EnS s.heap e it i f0 f1 old) (hf : Hf f0) (hst : St i s.heap) (hlt : i < n) (hne : e ≠ it) (hef : e ∉ fp)
    (hQ : ∀ x h' tk, P i x → (∃ f0 f1 old, Hf f0 ∧ EnS h' e it ((i + 1 : Nat) : Int) f0 f1 old) → St (i + 1) h' → h'.get? s.heap.objs.size = some { cls := .type "tuple", data := .seq #[.int i tk, x] } → h'.objs.size = s.heap.objs.size + 1 →
      (∀ b o, b ≠ e → b ≠ it → s.heap.get? b = some o → h'.get? b = some o) → Q (some (.ref s.heap.objs.size)) { s with heap := h', toks := tk + 1 }) :
    wpAny (model prog w) A (pyNext (.ref e)) Q E s := by
  have ty : s.TypeIs (.ref e) "enumerate" := ⟨_, he, rfl⟩
  unfold pyNext
  exact wpAny_bind (wpAny_attempt (wpAny_callSpecial?_slot (name := Str.ofString "__next__") ty F.slot_enumerate_next (wpAny_call_entry F.slot_enumerate_next ty F.entry_enumerate_next
    (en_next D he hf hst hlt hne hef fun x h' tk a b c d k q => wpAny_pure (hQ x h' tk a b c d k q)) (F.args_enumerate_next_1 _))))
theorem en_end {e it : Addr} {fp : List Addr} {n : Nat} {P : Nat → Value → Prop} {St : Nat → Heap → Prop} {i : Int} {f0 f1 old : Value} {Q : Option Value → Shared → Prop}
    (D : Draws prog w A.in1 it fp n P St) (he : EnS s.heap e it i f0 f1 old) (hst : St n s.heap) (hQ : ∀ h', Heap.ExtBut it s.heap h' → Q none { s with heap := h' }) : wpAny (model prog w) A (pyNext (.ref e)) Q E s := by
  have ty : s.TypeIs (.ref e) "enumerate" := ⟨_, he, rfl⟩
  unfold pyNext
  refine wpAny_bind (wpAny_attempt (wpAny_callSpecial?_slot (name := Str.ofString "__next__") ty F.slot_enumerate_next (wpAny_call_entry F.slot_enumerate_next ty F.entry_enumerate_next ?_ (F.args_enumerate_next_1 _))))
  show wpAny _ _ (field (.ref e) 2 >>= fun v => _) _ _ _
  refine wpAny_bind (wpAny_field he rfl (x := .ref it) rfl (wpAny_bind (D.done _ _ _ hst fun h' x h1 h2 => ?_)))
  obtain ⟨o, ho, hc⟩ := h2
  exact wpAny_bind (wpAny_isInstance (T := "StopIteration") (b := true) ⟨o, ho, hc⟩ isSubtype_stop (wpAny_pure (hQ _ h1)))
theorem en_iter {e it : Addr} {i : Int} {f0 f1 old : Value} {Q : Value → Shared → Prop} (he : EnS s.heap e it i f0 f1 old) (hQ : Q (.ref e) s) : wpAny (model prog w) A (pyIter (.ref e)) Q E s := by
  have ty : s.TypeIs (.ref e) "enumerate" := ⟨_, he, rfl⟩
  exact wpAny_pyIter_slot ty F.slot_enumerate_iter (wpAny_call_entry F.slot_enumerate_iter ty F.entry_enumerate_iter (show wpAny _ _ (ret (.ref e)) _ _ s from wpAny_pure ⟨_, rfl, "enumerate", _, ty, F.slot_enumerate_next.lookup, hQ⟩) (F.args_enumerate_iter_1 _))
end
end PySem
namespace Sv
open PySem PySem.Spec PyProof.Rows L2
theorem turn_enN {P : Program} {w : World} {K : PySem.W.Frag} {x : Str} {tp : Pos} (a e it : Addr) (xs : List V) :
    Turn P w K (.Name x tp) (Itte K a xs) [e, it] e
      (fun i h => (∃ f0 f1 old, Hf f0 ∧ EnS h e it ((i : Nat) : Int) f0 f1 old) ∧ h.IsTupleIter it a i ∧ e ≠ it ∧ a ≠ it ∧ a ≠ e) where
  mem := by simp
  obj := fun i h st b hb => by
    obtain ⟨⟨f0, f1, old, _, he⟩, ⟨o, ho, hc, hd⟩, _⟩ := st
    rcases (show b = e ∨ b = it by simpa using hb) with rfl | rfl
    · exact ⟨_, he, fun v q => nomatch q⟩
    · exact ⟨o, ho, fun v q => by rw [hd] at q; cases q⟩
  keep := fun i h h' st k => by
    obtain ⟨⟨f0, f1, old, h0, he⟩, hi, hr⟩ := st
    exact ⟨⟨f0, f1, old, h0, k e (by simp) _ he⟩, hi.at fun o q => k it (by simp) o q, hr⟩
  item := by
    intro X hP hw hK hc i pins s σ H E I hf st hg
    subst hP hw hK
    obtain ⟨⟨f0, f1, old, h0, he⟩, hit, hne, hai, hae⟩ := st
    obtain ⟨hq, hi⟩ := hg
    obtain ⟨its, rv, p, hz⟩ := I.tuple hq
    have hlen := rv.length
    have hel : e < s.heap.objs.size := Heap.lt_size he
    have hil : it < s.heap.objs.size := by
      obtain ⟨_, q, _⟩ := hit
      exact Heap.lt_size q
    have D : Draws X.prog X.w X.A.in1 it [it, a] its.toArray.size (fun i v => its.toArray[i]? = some v)
        (fun i h => h.IsTupleIter it a i ∧ h.IsTuple a its.toArray) := Draws.tuple (A := X.A.in1) (show X.A.in1.handled = none from I.ok.hd hc) it a hai its.toArray
    refine en_item D he h0 ⟨hit, p⟩ (by rw [List.size_toArray]; omega) hne (by simp [hne, Ne.symm hae]) fun u h' tk hPu ho hst hT hsz hk => ?_
    refine ⟨_, rfl, ?_⟩
    show wpAny _ _ (pure ()) _ _ _
    refine wpAny_pure ?_
    obtain ⟨x, hx⟩ : ∃ x, xs[i]? = some x := ⟨_, List.getElem?_eq_getElem hi⟩
    obtain ⟨u', hu', ru⟩ := rv.get hx
    have hPu' : its[i]? = some u := by simpa using hPu
    obtain rfl : u' = u := Option.some.inj (hu'.symm.trans hPu')
    have new : ObjOk X.prog X.w (upd H s.heap.objs.size (.tup [.int (i : Nat), x])) h' s.heap.objs.size (.tup [.int (i : Nat), x]) := by
      refine ⟨?_, [.int i tk, u'], .cons ⟨_, rfl⟩ (.cons ru .nil), ⟨_, hT, rfl, _, rfl⟩⟩
      show 2 ≤ sizeLine
      decide
    have I1 : Inv X pins σ (upd H s.heap.objs.size (.tup [.int (i : Nat), x])) { s with heap := h', toks := tk + 1 } := by
      refine I.turnedNew (ch := [e, it]) (fun b ob hb q => ?_) hf (Nat.le_refl _) new
      have nb : b ≠ e ∧ b ≠ it := by simpa using hb
      exact hk b ob nb.1 nb.2 q
    refine ⟨.ref s.heap.objs.size, _, I1, rfl, ⟨_, x, rfl, I.hok.fresh (Nat.le_refl _), rfl, hx⟩, ⟨ho, hst.1, hne, hai, hae⟩, fun b hb => ?_⟩
    have hb' : b < s.heap.objs.size := by
      rcases (show b = e ∨ b = it by simpa using hb) with rfl | rfl <;> assumption
    rw [upd_ne (Nat.ne_of_lt hb')]
    exact (hf b hb).1
  done := by
    intro X hP hw hK hc i pins s σ H E I hf st hg
    subst hP hw hK
    obtain ⟨⟨f0, f1, old, h0, he⟩, hit, hne, hai, hae⟩ := st
    obtain ⟨hq, hi⟩ := hg
    obtain ⟨its, rv, p, hz⟩ := I.tuple hq
    have hlen := rv.length
    obtain ⟨g0, g1, g2, g3, g4, g5⟩ := hf it (by simp)
    have D : Draws X.prog X.w X.A.in1 it [it, a] its.toArray.size (fun i v => its.toArray[i]? = some v)
        (fun i h => h.IsTupleIter it a i ∧ h.IsTuple a its.toArray) := Draws.tuple (A := X.A.in1) (show X.A.in1.handled = none from I.ok.hd hc) it a hai its.toArray
    have hi2 : i = its.toArray.size := by
      rw [List.size_toArray]
      omega
    have hit2 : s.heap.IsTupleIter it a its.toArray.size := hi2 ▸ hit
    exact en_end D he ⟨hit2, p⟩ fun h' eb => ⟨rfl, I.turned (t' := s.toks) (fun b o hb q => eb b o hb q) g0 g1 g3 g4 g5⟩
  self := fun A i s Q E st h => by
    obtain ⟨⟨_, _, _, _, he⟩, _⟩ := st
    exact en_iter he h
/-- for x in enumerate(t), t a tuple -/
theorem pi_enN {X : Cx} {e : Expr} {ta : TA} {x : Str} {p pos tp : Pos} (hg : Gl X "enumerate") (hm : X.mg "enumerate" = none) (ha : PA X [e] ta)
    (hs : starEach [e] X.env = [(false, eval e X.env)] := by rfl) : PI X (.Name x tp) (.Call (.Name "enumerate" p) [e] [] pos) (iEnumT X.K ta) := by
  refine ⟨fun pins s σ H R I h => ?_⟩
  refine Call_ (ld_blt I hg hm boot_enumerate (PyProof.Rows.callWith_type1 (thn (ha.run pos pins s σ H _ I h) fun us s1 ⟨vs, H1, I1, r1, q1⟩ => ?_) hs rfl))
  obtain ⟨a, xs, rfl, hq, q⟩ := q1
  obtain ⟨u, rfl, ru⟩ := vals1 r1
  cases ru
  obtain ⟨its, rv, p', hz⟩ := I1.tuple hq
  have hal : a < s1.heap.objs.size := by
    obtain ⟨o, ho, _⟩ := id p'
    exact Heap.lt_size ho
  refine sv_enum_call (begins_tuple a its.toArray) p' fun h' he hit hk => en_iter (f0 := .none) (f1 := .bool false) (old := .none) he ?_
  have I2 : Inv X pins σ H1 { s1 with heap := h' } := I1.kept (t' := s1.toks) hk
  refine ⟨s1.heap.objs.size + 1, [s1.heap.objs.size + 1, s1.heap.objs.size], _, _, H1, rfl, I2, turn_enN a (s1.heap.objs.size + 1) s1.heap.objs.size xs,
    ⟨⟨.none, .bool false, .none, .inl rfl, he⟩, ⟨_, hit, rfl, rfl⟩, Nat.succ_ne_self _, Nat.ne_of_lt hal, Nat.ne_of_lt (Nat.lt_succ_of_lt hal)⟩, fun b hb => ?_, q⟩
  have hle : s1.heap.objs.size ≤ b := by
    rcases (show b = s1.heap.objs.size + 1 ∨ b = s1.heap.objs.size by simpa using hb) with rfl | rfl
    · exact Nat.le_succ _
    · exact Nat.le_refl _
  exact I1.fpOk hle (I1.hok.fresh hle)
def enW (xs : List D) : List D := xs.mapIdx fun i x => .wtup [.int ((i : Nat) : Int), x]
theorem enW_at {xs : List D} {i : Nat} {x : D} (h : xs[i]? = some x) : (enW xs)[i]? = some (.wtup [.int ((i : Nat) : Int), x]) := by
  unfold enW
  rw [List.getElem?_mapIdx, h]
  rfl
theorem enW_len (xs : List D) : (enW xs).length = xs.length := List.length_mapIdx
theorem steps_enW {K : KK} {H0 : Hp} {a : Addr} {xs : List D} {vs : List V} (ha : ∀ H, Ext H0 H → SqT K.k H a vs) (r1 : RDs K H0 xs vs) : Steps K true H0 (Itte K.k a vs) ⟨enW xs, fun _ => True⟩ := by
  have l1 := r1.length
  have w := walk_etup' (K := K.k) (a := a) (xs := vs)
  have el : (enW xs).length = vs.length := (enW_len xs).trans l1
  refine ⟨fun H => SqT K.k H a vs, fun i H v H' => ∃ T x, v = .ref T ∧ H T = none ∧ H' = upd H T (.tup [.int (i : Nat), x]) ∧ vs[i]? = some x, ⟨fun i H hi q => ⟨q, by rw [← el]; exact hi⟩, fun H q => ⟨q, el⟩, fun i H x H' hi g y => y⟩, fun H S e _ _ => ha H e, ?_⟩
  rintro i H v H' e ⟨T, x, rfl, nT, rfl, hx⟩
  obtain ⟨d, h1, h2⟩ := (r1.ext e).atv hx
  exact ⟨.new nT, fun S s => s.new nT, _, enW_at h1, .inl (.wtup upd_same (.cons (.int _) (.cons (h2.ext (.new nT)) .nil)))⟩
def diEnW (ta : DTA) : DTI := fun env S R => ta env S fun ds S1 => ∃ xs, ds = [.tup xs] ∧ R ⟨enW xs, fun _ => True⟩ S1
theorem di_enW {X : Cx} {e : Expr} {ta : DTA} {x : Str} {p pos tp : Pos} (hg : Gl X "enumerate") (hm : X.mg "enumerate" = none) (ha : DA X [e] ta)
    (hs : starEach [e] X.env = [(false, eval e X.env)] := by rfl) : DI X true (.Name x tp) (.Call (.Name "enumerate" p) [e] [] pos) (diEnW ta) := by
  refine ⟨(pi_enN hg hm ha.run hs).of fun σ H R ⟨env, S, R0, rs, h, k⟩ => ⟨env, S, _, rs, h, fun ds S1 vs H1 ⟨xs, hd, q⟩ s1 r1 e1 => ?_⟩⟩
  subst hd
  obtain ⟨v, rfl, rv⟩ := r1.inv1
  cases rv with
  | tup t1 q1 => exact ⟨_, _, rfl, t1.sqT, k _ _ _ _ q s1 e1 (steps_enW (fun H e => (t1.ext e).sqT) q1)⟩
end Sv

set_option maxHeartbeats 1000000
set_option autoImplicit false
/-! Over data: min of a list with default=None. -/
namespace Sv
open PySem PySem.Spec PyProof.Rows L2
/-- the first of the least, None if there is none -/
def rMinN : DRK := fun ds e S R => e = .non ∧ ∃ a xs ps, ds = [.ref a] ∧ S a = some (.lst xs) ∧ Pys S xs ps ∧ PySem.W.AlikeAll ps ∧ PyData.depthAll ps ≤ 60 ∧ (ps = [] → R .non S) ∧ ∀ (p : PyData) (qs : List PyData), ps = p :: qs → ∀ (j : Nat) (d : D), xs[j]? = some d → (p :: qs)[j]? = some (PySem.W.minD p qs) → R d S
theorem cr_minN {X : Cx} (hc : X.calm = true) (hu : X.A.units + 65 < cLine) : CallRK X (.builtin "min") [Str.ofString "default"] (fun vs zs H Q => ∃ z, zs = [z] ∧ lK X.kk rMinN vs z H Q) := by
  intro pins s σ H vs zs us ws0 Q I r rz ⟨z, hz, ds, e, S, R, r1, re, s1, ⟨he, a, xs, ps, hd, hx, hp, ha, hdp, q0, q⟩, k⟩
  subst hd he hz
  obtain ⟨v, rfl, rv⟩ := r1.inv1
  cases rv
  cases re
  obtain ⟨u0, rfl, ru0⟩ := vals1 rz
  have ru0 : u0 = Value.none := ru0
  subst ru0
  obtain ⟨ws, h1, q1⟩ := s1.lst hx
  rw [Vals.ref1 r]
  obtain ⟨zz, its, n, rr, hl, ee⟩ := I.lstM h1
  obtain ⟨as, R1⟩ := Dp.readsAll I ps ws its (Pys.dp s1 hp q1) rr
  refine PySem.W.min_list_default (vs := its.toArray) (I.ok.hd hc) ⟨_, ee, rfl, n, rfl⟩ (by simpa using R1) ha (by omega) (fun h0 h' tk hk => ?_) fun p qs i v h' tk bs hpq hv hr hk => ?_
  · exact ⟨.non, H, I.kept (t' := tk) hk, rfl, k _ _ _ _ (q0 h0) s1 .non (.refl H)⟩
  · have hv' : its[i]? = some v := by simpa using hv
    obtain ⟨w, hw⟩ : ∃ w, ws[i]? = some w := ⟨_, List.getElem?_eq_getElem (by rw [rr.length]; exact (List.getElem?_eq_some_iff.mp hv').1)⟩
    obtain ⟨v2, hv2, rw'⟩ := rr.get hw
    have ev : v2 = v := Option.some.inj (hv2.symm.trans hv')
    rw [ev] at rw'
    obtain ⟨d, hdi, rd⟩ := q1.atv hw
    obtain ⟨pp, hpp, hpy⟩ := hp.atp hdi
    obtain ⟨bs2, R2⟩ := Dp.reads I pp w v (Py.dp s1 hpy rd) rw'
    have R2' : Reads h' v pp bs2 := Reads.keeps hk R2
    have hm : PySem.W.minD p qs ∈ p :: qs := by
      have e2 := (PySem.W.argBest_fold PySem.W.dataLt PyData.none p qs qs.length (Nat.le_refl _))
      rw [List.take_length] at e2
      show qs.foldl _ p ∈ _
      rw [← e2.2, List.getD_eq_getElem?_getD, List.getElem?_eq_getElem (Nat.lt_succ_of_le e2.1)]
      exact List.getElem_mem _
    rw [hpq] at ha hpp
    have eq := PySem.W.alike_unique _ _ v _ _ (ha.1 _ (List.mem_of_getElem? hpp) _ hm) R2' hr
    subst eq
    exact ⟨w, H, I.kept (t' := tk) hk, rw', k _ _ _ _ (q p qs hpq i d hdi hpp) s1 rd (.refl H)⟩
theorem de_minN {X : Cx} {e kv : Expr} {te : DTE} {tl : DTA} {pos p kpos : Pos} (hc : X.calm = true) (hu : X.A.units + 65 < cLine) (hg : Gl X "min") (hm : X.mg "min" = none) (ha : DA X [e] tl) (hv : DE X kv te)
    (he : backTo pos (starEach [e] X.env) = (false, eval e X.env) :: backTo pos (starEach [] X.env) := by rfl) (hpl : (backTo pos (starEach [e] X.env)).any (·.1) = false := by rfl)
    (hall : (backToKw pos (keywordEach [⟨some "default", kv, kpos⟩] X.env)).all (·.1.isSome) = true := by rfl) (hnone : (backToKw pos (keywordEach [⟨some "default", kv, kpos⟩] X.env)).any (·.1.isNone) = false := by rfl)
    (hks : (backToKw pos (keywordEach [⟨some "default", kv, kpos⟩] X.env)).filterMap (·.1) = [Str.ofString "default"] := by rfl) :
    DE X (.Call (.Name "min" p) [e] [⟨some "default", kv, kpos⟩] pos) (dCBK rMinN tl te) := by
  have pk := L2.pk_cons (X := X) (nm := some "default") (kpos := kpos) hv.run L2.pk_nil
  refine ⟨(pe_callBK (cr_minN hc hu) hg hm (by rfl) ha.run pk (he := he) (hpl := hpl) (hall := hall) (hnone := hnone) (hks := hks)).of fun σ H Q ⟨env, S, R, rs, h, kq⟩ => ?_⟩
  refine ⟨env, S, _, rs, h, fun ds S1 vs H1 q1 s1 r1 e1 => ⟨env, S1, _, rs.ext e1 s1, q1, fun d S2 z H2 q2 s2 r2 e2 => ?_⟩⟩
  exact ⟨z, rfl, ds, d, S2, R, r1.ext e2, r2, s2, q2, fun y S3 v H3 q3 s3 r3 e3 => kq _ _ _ _ q3 s3 r3 (e1.trans (e2.trans e3))⟩
end Sv

set_option maxHeartbeats 1000000
set_option autoImplicit false
/-! Over data: list of a dict's keys. -/
namespace Sv
open PySem PySem.Spec PyProof.Rows L2
def rListKd : DRC := fun ds S R => ∃ a kvs, ds = [.ref a] ∧ S a = some (.dK kvs) ∧ ∀ p, S p = none → R (.ref p) (S.put p (.lst (kvs.map fun kv => kD kv.1)))
theorem rdk_keys {K : KK} {H H' : Hp} : ∀ {kvs : List (Key × D)} {ws : List (Key × V)}, RDk K H kvs ws → RDs K H' (kvs.map fun kv => kD kv.1) (ws.map fun kv => kV kv.1)
  | [], ws, h => by
    have := h.length
    rw [List.eq_nil_of_length_eq_zero this.symm]
    exact .nil
  | x :: kvs, ws, h => by
    cases h with
    | cons r t => exact .cons (rd_kD _) (rdk_keys t)
theorem b_listKd {X : Cx} (hc : X.calm = true) : CallR X (.type "list") (lC X.kk rListKd) := by
  intro pins s σ H vs us Q I r ⟨ds, S, R, r1, s1, ⟨a, kvs, hd, hx, q⟩, k⟩
  subst hd
  obtain ⟨v, rfl, rv⟩ := r1.inv1
  cases rv
  obtain ⟨ws, h2, q1⟩ := s1 a _ hx
  refine call_list_dK hc pins s σ H _ us Q I r ⟨a, ws, rfl, h2, fun p np => ?_⟩
  have e : Ext H (upd H p (.lst (ws.map fun kv => kV kv.1))) := .new np
  exact k _ _ _ _ (q p (s1.fresh np)) (s1.lay (o := .lst (kvs.map fun kv => kD kv.1)) np ⟨_, upd_same, rdk_keys q1⟩) (.ref p) e
end Sv

set_option maxHeartbeats 1000000
set_option autoImplicit false
/-! Over data: dict of a list of pairs. -/
namespace Sv
open PySem PySem.Spec PyProof.Rows L2
def mergeD (kvs more : List (Key × D)) : List (Key × D) := more.foldl (fun acc kv => putD acc kv.1 kv.2) kvs
def rDictP : DRC := fun ds S R => ∃ a kvs, ds = [.ref a] ∧ S a = some (.lst (kvs.map fun kv => .tup [kD kv.1, kv.2])) ∧ ∀ p, S p = none → R (.ref p) (S.put p (.dK (mergeD [] kvs)))
theorem rdk_merge {K : KK} {H : Hp} : ∀ {kvs acc : List (Key × D)} {ws bcc : List (Key × V)}, RDk K H acc bcc → RDk K H kvs ws → RDk K H (mergeD acc kvs) (mergeK bcc ws)
  | [], acc, ws, bcc, h, g => by
    have := g.length
    rw [List.eq_nil_of_length_eq_zero this.symm]
    exact h
  | x :: kvs, acc, ws, bcc, h, g => by
    cases g with
    | cons r t =>
      show RDk K H (mergeD (putD acc _ _) kvs) (mergeK (putK bcc _ _) _)
      exact rdk_merge (h.put r) t
theorem rds_pairs {K : KK} {H : Hp} : ∀ {kvs : List (Key × D)} {vs : List V}, RDs K H (kvs.map fun kv => .tup [kD kv.1, kv.2]) vs → ∃ ps ws, vs = ps.map V.ref ∧ Paired (fun p kv => SqT K.k H p [kV kv.1, kv.2]) ps ws ∧ RDk K H kvs ws
  | [], vs, h => by
    cases h
    exact ⟨[], [], rfl, .nil, .nil⟩
  | x :: kvs, vs, h => by
    cases h with
    | cons r t =>
      obtain ⟨ps, ws, rfl, h1, h2⟩ := rds_pairs t
      cases r with
      | tup q rs =>
        obtain ⟨u1, u2, rfl, r1, r2⟩ := rs.inv2
        have e : u1 = kV x.1 := kD_inv r1
        subst e
        exact ⟨_ :: ps, (x.1, u2) :: ws, rfl, .cons q.sqT h1, .cons r2 h2⟩
theorem b_dictP {X : Cx} (hc : X.calm = true) : CallR X (.type "dict") (lC X.kk rDictP) := by
  intro pins s σ H vs us Q I r ⟨ds, S, R, r1, s1, ⟨a, kvs, hd, hx, q⟩, k⟩
  subst hd
  obtain ⟨v, rfl, rv⟩ := r1.inv1
  cases rv
  obtain ⟨ws, h1, q1⟩ := s1.lst hx
  obtain ⟨ps, kws, rfl, h2, h3⟩ := rds_pairs q1
  refine call_dictP hc pins s σ H _ us Q I r ⟨a, ps, kws, rfl, .of h1, h2, fun p np => ?_⟩
  have e : Ext H (upd H p (.dK (mergeK [] kws))) := .new np
  exact k _ _ _ _ (q p (s1.fresh np)) (s1.lay (o := .dK (mergeD [] kvs)) np ⟨_, upd_same, (rdk_merge .nil h3).ext e⟩) (.ref p) e
end Sv

set_option maxHeartbeats 1000000
set_option autoImplicit false
/-! Over data: zip of a list and a tuple of one length, its pairs under one name. -/
namespace Sv
open PySem PySem.Spec PyProof.Rows L2
/-- the list at a and the tuple at b, side by side in new pairs -/
def ItzW (K : PySem.W.Frag) (a b : Addr) : It where
  go := fun i H => ∃ (xs ys : List V), SqL K H a xs ∧ SqT K H b ys ∧ i < xs.length ∧ i < ys.length
  yld := fun i H v H' => ∃ T x y, v = .ref T ∧ H T = none ∧ H' = upd H T (.tup [x, y]) ∧ (∀ xs, SqL K H a xs → xs[i]? = some x) ∧ ∀ ys, SqT K H b ys → ys[i]? = some y
  stop := fun i H => ∃ (xs : List V), SqL K H a xs ∧ xs.length ≤ i
abbrev kaL (a : Addr) : Addr → Bool := fun c => decide (c = a)
theorem turn_zipWL {P : Program} {w : World} {K : PySem.W.Frag} {x : Str} {tp : Pos} {z TI TO i1 i2 a b : Addr} (D : ZDist z TI TO [i1, i2] [a, b]) (nab : b ≠ a) :
    Turn P w K (.Name x tp) (ItzW K a b) [z, TI, TO, i1, i2] z (fun i h => ZAtM (kaL a) h z TI TO [i1, i2] [a, b] i) where
  mem := by simp
  obj := fun i h st c hc => by
    obtain ⟨⟨f0, f1, hz, _⟩, hTI, ⟨vs, hTO, _⟩, hit⟩ := st
    have it : ∀ (j : Nat) (c l : Addr), [i1, i2][j]? = some c → [a, b][j]? = some l → ∃ o, h.get? c = some o ∧ ∀ v, o.data ≠ .cell v := fun j c l e1 e2 => by
      rcases hit j c l e1 e2 with ⟨_, o, e, _, d⟩ | ⟨_, o, e, _, d⟩
      · exact ⟨o, e, fun v q => by rw [d] at q; cases q⟩
      · exact ⟨o, e, fun v q => by rw [d] at q; cases q⟩
    rcases (show c = z ∨ c = TI ∨ c = TO ∨ c = i1 ∨ c = i2 by simpa using hc) with q | q | q | q | q <;> rw [q]
    · exact ⟨_, hz, fun v q => nomatch q⟩
    · exact ⟨_, hTI, fun v q => nomatch q⟩
    · exact ⟨_, hTO, fun v q => nomatch q⟩
    · exact it 0 _ _ rfl rfl
    · exact it 1 _ _ rfl rfl
  keep := fun i h h' st k => by
    obtain ⟨⟨f0, f1, hz, hf⟩, hTI, ⟨vs, hTO, hvs⟩, hit⟩ := st
    refine ⟨⟨f0, f1, k z (by simp) _ hz, hf⟩, k TI (by simp) _ hTI, ⟨vs, k TO (by simp) _ hTO, hvs⟩, fun j c l e1 e2 => (hit j c l e1 e2).at fun o q => k c ?_ o q⟩
    have := List.mem_of_getElem? e1
    exact List.mem_cons_of_mem _ (List.mem_cons_of_mem _ (List.mem_cons_of_mem _ this))
  item := by
    intro X hP hw hK hc i pins s σ H E I hf st hg
    subst hP hw hK
    obtain ⟨xs, ys, qa, qb, la, lb⟩ := hg
    obtain ⟨ia, va, pa, _⟩ := I.list qa
    obtain ⟨ib, vb, pb, _⟩ := I.tuple qb
    obtain ⟨x', hx⟩ : ∃ x, xs[i]? = some x := ⟨_, List.getElem?_eq_getElem la⟩
    obtain ⟨y', hy⟩ : ∃ y, ys[i]? = some y := ⟨_, List.getElem?_eq_getElem lb⟩
    obtain ⟨w1, hw1, r1⟩ := va.get hx
    obtain ⟨w2, hw2, r2⟩ := vb.get hy
    have sub : ∀ c, c ∉ [z, TI, TO, i1, i2] → c ∉ z :: TO :: [i1, i2] := fun c hc q => hc (by
      simp only [List.mem_cons] at q ⊢
      rcases q with q | q | q
      · exact .inl q
      · exact .inr (.inr (.inl q))
      · exact .inr (.inr (.inr q)))
    have hu : ∀ (j : Nat) (l : Addr) (u : Value), [a, b][j]? = some l → [w1, w2][j]? = some u → ∃ xs, SqM (kaL a) s.heap l xs ∧ xs[i]? = some u := fun j l u e1 e2 => by
      rcases j with _ | _ | j
      · cases e1
        cases e2
        exact ⟨ia.toArray, .inl ⟨decide_eq_true rfl, pa.isList⟩, by simpa using hw1⟩
      · cases e1
        cases e2
        exact ⟨ib.toArray, .inr ⟨decide_eq_false nab, pb⟩, by simpa using hw2⟩
      · cases e1
    refine pyNext_zpm_item (us := [w1, w2]) D st rfl hu fun h' st' hT kp => ?_
    refine ⟨_, rfl, ?_⟩
    show wpAny _ _ (pure ()) _ _ _
    refine wpAny_pure ?_
    have new : ObjOk X.prog X.w (upd H s.heap.objs.size (.tup [x', y'])) h' s.heap.objs.size (.tup [x', y']) := by
      refine ⟨?_, [w1, w2], .cons r1 (.cons r2 .nil), ⟨_, hT, rfl, _, rfl⟩⟩
      show 2 ≤ sizeLine
      decide
    have obj : ∀ c ∈ [z, TI, TO, i1, i2], ∃ o, s.heap.get? c = some o := fun c hcm => by
      obtain ⟨⟨f0, f1, hz, hf⟩, hTI, ⟨vs, hTO, hvs⟩, hit⟩ := st
      have it : ∀ (j : Nat) (c l : Addr), [i1, i2][j]? = some c → [a, b][j]? = some l → ∃ o, s.heap.get? c = some o := fun j c l e1 e2 => by
        rcases hit j c l e1 e2 with ⟨_, o, e, _⟩ | ⟨_, o, e, _⟩
        · exact ⟨o, e⟩
        · exact ⟨o, e⟩
      rcases (show c = z ∨ c = TI ∨ c = TO ∨ c = i1 ∨ c = i2 by simpa using hcm) with q | q | q | q | q <;> rw [q]
      · exact ⟨_, hz⟩
      · exact ⟨_, hTI⟩
      · exact ⟨_, hTO⟩
      · exact it 0 _ _ rfl rfl
      · exact it 1 _ _ rfl rfl
    refine ⟨.ref s.heap.objs.size, _, I.turnedNew (t' := s.toks) (ch := [z, TI, TO, i1, i2]) (fun c o hb q => kp c o (sub c hb) q) hf (Nat.le_refl _) new, rfl, ⟨_, x', y', rfl, I.hok.fresh (Nat.le_refl _), rfl, fun l hl => by rw [I.list_inj hl qa]; exact hx, fun l hl => by rw [I.tuple_inj hl qb]; exact hy⟩, st', fun c hcm => ?_⟩
    obtain ⟨o, ho⟩ := obj c hcm
    rw [upd_ne (Nat.ne_of_lt (Heap.lt_size ho))]
    exact (hf c hcm).1
  done := by
    intro X hP hw hK hc i pins s σ H E I hf st hg
    subst hP hw hK
    obtain ⟨xs, qa, hle⟩ := hg
    obtain ⟨ia, va, pa, _⟩ := I.list qa
    have hlen := va.length
    refine pyNext_zpm_end (I.ok.hd hc) D st rfl (.inl ⟨decide_eq_true rfl, pa.isList⟩) (by rw [List.getElem?_toArray]; exact List.getElem?_eq_none (by omega)) fun h' hk => ⟨rfl, I.turnedL (t' := s.toks) (ch := [z, TI, TO, i1, i2]) (fun c o hb q => hk c o (fun q' => hb ?_) q) hf⟩
    simp only [List.mem_cons] at q' ⊢
    rcases q' with q | q | q
    · exact .inl q
    · exact .inr (.inr (.inl q))
    · exact .inr (.inr (.inr q))
  self := fun A i s Q E st h => by
    obtain ⟨f0, f1, hz, _⟩ := st.zp
    have hT : s.TypeIs (.ref z) "zip" := ⟨_, hz, rfl⟩
    refine wpAny_pyIter_slot hT F.slot_zip_iter (wpAny_call_entry F.slot_zip_iter hT F.entry_zip_iter ?_ (F.args_zip_iter_1 _))
    show wpAny _ _ (ret (.ref z)) _ _ s
    exact wpAny_pure ⟨_, rfl, "zip", _, hT, F.slot_zip_next.lookup, h⟩
def iZipWL (K : PySem.W.Frag) (ta : TA) : TI := fun σ H R => ta σ H fun vs H1 => ∃ a b xs ys, vs = [.ref a, .ref b] ∧ SqL K H1 a xs ∧ SqT K H1 b ys ∧ R (ItzW K a b) H1
theorem pi_zipWL {X : Cx} {e e2 : Expr} {ta : TA} {p pos tp : Pos} {x : Str} (hg : Gl X "zip") (hm : X.mg "zip" = none) (ha : PA X [e, e2] ta)
    (hs : starEach [e, e2] X.env = (false, eval e X.env) :: starEach [e2] X.env := by rfl) (hpl : (backTo pos (starEach [e2] X.env)).any (·.1) = false := by rfl) :
    PI X (.Name x tp) (.Call (.Name "zip" p) [e, e2] [] pos) (iZipWL X.K ta) := by
  refine ⟨fun pins s σ H R I h => ?_⟩
  refine Call_ (ld_blt I hg hm PyProof.Rows.boot_zip (PyProof.Rows.callWith_type1 (thn (ha.run pos pins s σ H _ I h) fun us s1 ⟨vs, H1, I1, r1, q1⟩ => ?_) hs hpl))
  obtain ⟨a, b, xs, ys, rfl, qa, qb, q1⟩ := q1
  obtain ⟨u1, u2, rfl, ru1, ru2⟩ : ∃ u1 u2, us = [u1, u2] ∧ RelV (.ref a) u1 ∧ RelV (.ref b) u2 := by
    cases r1 with
    | cons r rr =>
      cases rr with
      | cons r' rr =>
        cases rr
        exact ⟨_, _, rfl, r, r'⟩
  cases ru1
  cases ru2
  obtain ⟨ia, va, pa, _⟩ := I1.list qa
  obtain ⟨ib, vb, pb, _⟩ := I1.tuple qb
  have al : a < s1.heap.objs.size := pa.lt
  have bl : b < s1.heap.objs.size := by
    obtain ⟨o, ho, _⟩ := id pb
    exact Heap.lt_size ho
  have nab : b ≠ a := fun z => by
    subst z
    obtain ⟨o, ho, c1, _⟩ := id pb
    obtain ⟨o', ho', c2, _⟩ := id pa.isList
    rw [ho] at ho'
    cases ho'
    rw [c1] at c2
    exact absurd (Value.type.inj c2) (by decide)
  refine zip_begins2 (begins_list a ia.toArray) (begins_tuple b ib.toArray) pa.isList pb fun g gz gI gO g1 g2 gsz gk => ?_
  have J : Inv X pins σ H1 { s1 with heap := g } := I1.kept (t' := s1.toks) gk
  have D : ZDist (s1.heap.objs.size + 4) (s1.heap.objs.size + 2) (s1.heap.objs.size + 3) [s1.heap.objs.size, s1.heap.objs.size + 1] [a, b] := by
    refine ⟨?_, fun l hl q => ?_, rfl, by simp, (show 2 ≤ 1000 by decide)⟩
    · have ne1 : ∀ {a b : Nat}, a ≠ b → (a : Addr) ≠ b := fun h => h
      simp only [List.nodup_cons, List.mem_cons, not_or, List.not_mem_nil, not_false_eq_true, and_true, List.nodup_nil]
      refine ⟨⟨ne1 (by omega), ne1 (by omega), ne1 (by omega), ne1 (by omega)⟩, ⟨ne1 (by omega), ne1 (by omega), ne1 (by omega)⟩, ⟨ne1 (by omega), ne1 (by omega)⟩, ne1 (by omega)⟩
    · have hlt : (l : Nat) < s1.heap.objs.size := by
        rcases List.mem_cons.mp hl with z | z
        · rw [z]; exact al
        · rw [List.mem_singleton.mp z]; exact bl
      simp only [List.mem_cons, List.not_mem_nil, or_false] at q
      rcases q with q | q | q | q | q
      · exact absurd hlt (Nat.not_lt.mpr (by rw [q]; omega))
      · exact absurd hlt (Nat.not_lt.mpr (by rw [q]; omega))
      · exact absurd hlt (Nat.not_lt.mpr (by rw [q]; omega))
      · exact absurd hlt (Nat.not_lt.mpr (by rw [q]; omega))
      · exact absurd hlt (Nat.not_lt.mpr (by rw [q]; omega))
  have st : ZAtM (kaL a) g (s1.heap.objs.size + 4) (s1.heap.objs.size + 2) (s1.heap.objs.size + 3) [s1.heap.objs.size, s1.heap.objs.size + 1] [a, b] 0 := by
    refine ⟨⟨_, _, gz, .inl rfl⟩, gI, ⟨_, gO, rfl⟩, fun j c l e1 e2 => ?_⟩
    rcases j with _ | _ | j
    · cases e1
      cases e2
      exact .inl ⟨decide_eq_true rfl, _, g1, rfl, rfl⟩
    · cases e1
      cases e2
      exact .inr ⟨decide_eq_false nab, _, g2, rfl, rfl⟩
    · cases e1
  have T := turn_zipWL (P := X.prog) (w := X.w) (K := X.K) (x := x) (tp := tp) D nab
  refine T.self _ 0 _ _ _ st ?_
  refine ⟨s1.heap.objs.size + 4, [s1.heap.objs.size + 4, s1.heap.objs.size + 2, s1.heap.objs.size + 3, s1.heap.objs.size, s1.heap.objs.size + 1], _, _, H1, rfl, J, T, st, fun c hc => ?_, q1⟩
  have hle : s1.heap.objs.size ≤ c := by
    rcases (show c = s1.heap.objs.size + 4 ∨ c = s1.heap.objs.size + 2 ∨ c = s1.heap.objs.size + 3 ∨ c = s1.heap.objs.size ∨ c = s1.heap.objs.size + 1 by simpa using hc) with r | r | r | r | r <;> rw [r]
    · exact Nat.le_add_right _ _
    · exact Nat.le_add_right _ _
    · exact Nat.le_add_right _ _
    · exact Nat.le_refl _
    · exact Nat.le_add_right _ _
  exact I1.fpOk hle (I1.hok.fresh hle)
/-- the steps of such a walk -/
theorem steps_zipWG {K : KK} {H0 : Hp} {J : It} {xs ys : List D} {lv : Sto → Prop} (A B : Hp → List V → Prop)
    (hgo : ∀ i H vs ws x y, A H vs → B H ws → vs[i]? = some x → ws[i]? = some y → J.go i H)
    (hst : ∀ i H (vs ws : List V), A H vs → B H ws → i = min vs.length ws.length → J.stop i H)
    (hy : ∀ i H v H', J.yld i H v H' → ∃ T x y, v = .ref T ∧ H T = none ∧ H' = upd H T (.tup [x, y]) ∧ (∀ vs, A H vs → vs[i]? = some x) ∧ ∀ ws, B H ws → ws[i]? = some y)
    (hA : ∀ H S, Ext H0 H → RelS K S H → lv S → ∃ vs ws, A H vs ∧ RDs K H xs vs ∧ B H ws ∧ RDs K H ys ws) : Steps K true H0 J ⟨zipW xs ys, lv⟩ := by
  refine ⟨fun H => ∃ vs ws, A H vs ∧ RDs K H xs vs ∧ B H ws ∧ RDs K H ys ws, fun i H v H' => ∃ T x y vs ws, v = .ref T ∧ H T = none ∧ H' = upd H T (.tup [x, y]) ∧ RDs K H xs vs ∧ RDs K H ys ws ∧ vs[i]? = some x ∧ ws[i]? = some y, ⟨?_, ?_, ?_⟩, hA, ?_⟩
  · rintro i H hi ⟨vs, ws, a, ra, b, rb⟩
    have hi : i < (zipW xs ys).length := hi
    rw [zipW_len, ra.length, rb.length] at hi
    have h1 : i < vs.length := by omega
    have h2 : i < ws.length := by omega
    exact hgo i H vs ws vs[i] ws[i] a b (by simp [h1]) (by simp [h2])
  · rintro H ⟨vs, ws, a, ra, b, rb⟩
    refine hst _ H vs ws a b ?_
    show (zipW xs ys).length = _
    rw [zipW_len, ra.length, rb.length]
  · rintro i H v H' hi ⟨vs, ws, a, ra, b, rb⟩ y
    obtain ⟨T, x, z, h1, h2, h3, h4, h5⟩ := hy i H v H' y
    exact ⟨T, x, z, vs, ws, h1, h2, h3, ra, rb, h4 vs a, h5 ws b⟩
  · rintro i H v H' e ⟨T, x, y, vs, ws, rfl, nT, rfl, ra, rb, hx, hy⟩
    obtain ⟨d, h1, h2⟩ := ra.atv hx
    obtain ⟨d', h3, h4⟩ := rb.atv hy
    exact ⟨.new nT, fun S s => s.new nT, _, zipW_at h1 h3, .inl (.wtup upd_same (.cons (h2.ext (.new nT)) (.cons (h4.ext (.new nT)) .nil)))⟩
/-- a list and a tuple of one length -/
def diZipWL (ta : DTA) : DTI := fun env S R => ta env S fun ds S1 => ∃ xs ys b, ds = [.ref b, .tup ys] ∧ S1 b = some (.lst xs) ∧ xs.length = ys.length ∧ R ⟨zipW xs ys, fun S => S b = some (.lst xs) ∧ xs.length = ys.length⟩ S1
theorem di_zipWL {X : Cx} {e e2 : Expr} {ta : DTA} {p pos tp : Pos} {x : Str} (hg : Gl X "zip") (hm : X.mg "zip" = none) (ha : DA X [e, e2] ta)
    (hs : starEach [e, e2] X.env = (false, eval e X.env) :: starEach [e2] X.env := by rfl) (hpl : (backTo pos (starEach [e2] X.env)).any (·.1) = false := by rfl) : DI X true (.Name x tp) (.Call (.Name "zip" p) [e, e2] [] pos) (diZipWL ta) := by
  refine ⟨(pi_zipWL hg hm ha.run hs hpl).of fun σ H R ⟨env, S, R0, rs, h, k⟩ => ⟨env, S, _, rs, h, fun ds S1 vs H1 ⟨xs, ys, b, hd, hb, hl, q⟩ s1 r1 e1 => ?_⟩⟩
  subst hd
  obtain ⟨v, u, rfl, rv, ru⟩ := r1.inv2
  cases ru with
  | tup t1 q1 =>
    cases rv
    obtain ⟨ws, h2, q2⟩ := s1.lst hb
    refine ⟨_, _, _, _, rfl, .of h2, t1.sqT, k _ _ _ _ q s1 e1 (steps_zipWG (fun H vs => SqL X.K H _ vs ∧ vs.length = xs.length) (fun H vs => SqT X.K H _ vs ∧ vs.length = ys.length) (fun i H vs ws x y a b hx hy => ⟨vs, ws, a.1, b.1, (List.getElem?_eq_some_iff.mp hx).1, (List.getElem?_eq_some_iff.mp hy).1⟩) (fun i H vs ws a b h => ⟨vs, a.1, by have := a.2; have := b.2; omega⟩) (fun i H v H' ⟨T, x, y, a1, a2, a3, a4, a5⟩ => ⟨T, x, y, a1, a2, a3, fun vs h => a4 vs h.1, fun ws h => a5 ws h.1⟩) fun H S e s l => ?_)⟩
    obtain ⟨ws', h4, q4⟩ := s.lst l.1
    exact ⟨_, _, ⟨.of h4, q4.length.symm⟩, q4, ⟨(t1.ext e).sqT, q1.length.symm⟩, q1.ext e⟩
end Sv

/-! the bodies of the defs, as readings over data (made by dgen.py) -/
namespace Sv
open PySem L2
/-- _law_due: 0 _law_rows 1 _law_lost_here 2 _law_good 3 _law_tops_here 4 _law_found 5 _law_cut 6 _law_number 7 _law_top 8 _law_pair -/
def B_law_due_8e3c : DTS := dSeq (dAsg (dTup (dCons (dCall 2 (dFn 4 B_law_tops_eaaa) (dCons (dVar 0) (dCons (dVar 1) (dNil)))) (dCons (dBin rMul (dLst (dCons (dC (.int 0)) (dNil))) (dCB (rLen) (dCons (dVar 0) (dNil)))) (dNil)))) (dUnp 2 (dgCons (dgName 3) (dgCons (dgName 4) (dgNil)))))
  (dSeq (dFor (diVal (dVar 2)) (dgName 5) (dIfS (dB (dBin (rEqq false) (dLc (diZipM (dCons (dVar 5) (dCons (dVar 3) (dNil)))) (dUnp 2 (dgCons (dgName 6) (dgCons (dgName 7) (dgNil)))) (dB (dBin (rCmp fun i j => decide (j < i)) (dVar 6) (dVar 7))) (dC (.int 1)) [6, 7]) (dLst (dNil)))) (dAsg (dLc (diZipWL (dCons (dVar 4) (dCons (dVar 5) (dNil)))) (dgName 8) (dYes) (dCB (rMax1) (dCons (dVar 8) (dNil))) [8]) (dgName 4)) (dNext)))
  (dRet (dCB (rTupq) (dCons (dVar 4) (dNil)))))
/-- law: 0 _law_script 1 _law_deck_here 2 _law_turn 3 _law_rows 4 _law_kept 5 _law_good 6 _law_lost_here 7 _law_due_here 8 _law_cut 9 _law_process -/
def B_law_1742 : DTS := dSeq (dAsg (dCall 1 (dFn 2 B_law_deck_74a9) (dCons (dVar 0) (dNil))) (dgName 1))
  (dSeq (dFor (diRg1 (dCons (dC (.int 6)) (dNil))) (dgName 2) (dSeq (dAsg (dCall 3 (dFn 5 B_law_history_9bf0) (dCons (dVar 1) (dCons (dC (.int 4)) (dCons (dC (.int 10)) (dNil))))) (dgName 3))
  (dSeq (dAsg (dTup (dCons (dCB (rRepr) (dCons (dVar 3) (dNil))) (dCons (dLc (diVal (dCall 1 (dFn 6 B_law_cuts_850b) (dCons (dVar 3) (dNil)))) (dgName 8) (dB (dCall 2 (dFn 8 B_law_fits_b0d3) (dCons (dVar 3) (dCons (dVar 8) (dNil))))) (dVar 8) [8]) (dNil)))) (dUnp 2 (dgCons (dgName 4) (dgCons (dgName 5) (dgNil)))))
  (dFor (diVal (dBin rAdd (dLst (dCons (dTup (dNil)) (dCons (dCall 2 (dFn 3 B_law_lost_0080) (dCons (dVar 1) (dCons (dVar 3) (dNil)))) (dNil)))) (dLc (diRg1 (dCons (dCB (rLen) (dCons (dVar 3) (dNil))) (dNil))) (dgName 9) (dYes) (dTup (dCons (dVar 9) (dNil))) [9]))) (dgName 6) (dSeq (dAsg (dCall 3 (dFn 9 B_law_due_8e3c) (dCons (dVar 3) (dCons (dVar 6) (dCons (dVar 5) (dNil))))) (dgName 7))
  (dSeq (dIfS (dOr (dB (dBin (rInq true) (dVar 7) (dVar 5))) (dNot (dB (dCall 2 (dFn 2 B_law_same_7705) (dCons (dCall 2 (dFn 2 B_law_fallen_e0f3) (dCons (dVar 3) (dCons (dVar 6) (dNil)))) (dCons (dVar 7) (dNil))))))) (dRet (dC (.bl false))) (dNext))
  (dIfS (dOr (dNot (dB (dCall 2 (dFn 2 B_law_same_7705) (dCons (dCall 2 (dFn 2 B_law_fallen_e0f3) (dCons (dVar 3) (dCons (dVar 6) (dNil)))) (dCons (dVar 7) (dNil)))))) (dB (dBin (rEqq true) (dCB (rRepr) (dCons (dVar 3) (dNil))) (dVar 4)))) (dRet (dC (.bl false))) (dNext))))))))
  (dRet (dC (.bl true))))
end Sv

namespace Sv
open PySem PySem.Spec PyProof.Rows L2
def topS (i : Nat) : Stmt := PySem.Challenge.pw_savelines_k39_fall_back_by_search.main.body.getD i (.Pass ⟨0, 0, 0, 0⟩)
abbrev s__law_next : Stmt := topS 12
theorem sc__law_next : FnScope ["_law_deck_here", "_law_many", "_law_cell", "_law_digit"] ["_law_deck_here", "_law_many"] (defScope s__law_next) := ⟨rfl, rfl, rfl, by decide +kernel, rfl, by decide +kernel, by decide +kernel⟩
set_option maxHeartbeats 4000000 in
theorem der__law_next {P : Program} {w : World} {K : PySem.W.Frag} {mg : Str → Option Value} {base : Heap} {f : Addr} {fd : FuncData} (F : Fun K "_law_next" "_law_next" s__law_next f fd)  (m_int : mg "int" = none): FnOk P w K mg base CX0 1 f fd ["_law_deck_here", "_law_many"] (lP ⟨P, w, K⟩ 2 (dFn 4 B_law_next_74a4)) := by
  refine fn_o F sc__law_next rfl fun cdv A outer s H E hr => ?_
  have nd := sc__law_next.nd
  have u64 := hr.units
  have u65 : (A.deeper (envOfC "_law_next" (defScope s__law_next) s.heap.objs.size f cdv)).units + 65 < cLine := by have := hr.un; omega
  have u1 : (A.deeper (envOfC "_law_next" (defScope s__law_next) s.heap.objs.size f cdv)).units + 1 < cLine := by have := hr.un; omega
  unfold B_law_next_74a4
  exact dss_cons (ds_while PassesOwn.never (DW.dt (dw_and (dt_cmp (o_eq u64) (de_ix o_ix (dv 0) (de_int)) (de_int)) (dw_and1 (dt_cmp (o_ne u64) (de_ix o_ix (dv 0) (de_int)) (de_lst (da_nil)))))) (dss_cons (ds_set (i := 2) nd rfl (by first | exact .inl rfl | exact .inr rfl) (de_mL PySem.F.slot_list_pop PySem.F.type_list_pop m_popAt (de_ix o_ix (dv 0) (de_int)) (da_cons (de_int) (da_nil))))
    (dss_cons (ds_asg (b := true) (de_bin o_mod (de_bin o_add (de_bin o_add (de_bin o_mul (de_ix o_ix (dv 0) (de_int)) (de_int)) (dv 2)) (de_int)) (de_int)) (dg_sub (dv 0) (de_int)))
    (dss_one (ds_asg (b := true) (de_bin o_mul (dv 2) (de_callTy b_int (by rfl) m_int (by decide +kernel) (da_cons (de_cmp o_ge (dv 2) (de_bin o_pow (de_int) (de_int))) (da_nil)))) (dg_sub (dv 0) (de_int)))))))
    (dss_cons (ds_if (dt_cmp o_gt (de_ix o_ix (dv 0) (de_int)) (de_int)) (dss_cons (ds_set (i := 3) nd rfl (by first | exact .inl rfl | exact .inr rfl) (de_bin o_mod (de_ix o_ix (dv 0) (de_int)) (dv 1)))
    (dss_cons (ds_asg (b := true) (de_bin o_div (de_ix o_ix (dv 0) (de_int)) (dv 1)) (dg_sub (dv 0) (de_int)))
    (dss_one (ds_ret (dv 3))))) (dss_nil))
    (dss_cons (ds_asg (b := true) (de_bin o_add (de_ix o_ix (dv 0) (de_int)) (de_int)) (dg_sub (dv 0) (de_int)))
    (dss_cons (ds_asg (b := true) (de_bin o_mod (de_bin o_add (de_bin o_add (de_bin o_mul (de_ix o_ix (dv 0) (de_int)) (de_int)) (de_bin o_mul (de_int) (de_ix o_ix (dv 0) (de_int)))) (de_int)) (de_int)) (dg_sub (dv 0) (de_int)))
    (dss_one (ds_ret (de_bin o_mod (de_bin o_div (de_bin o_mod (de_bin o_mul (de_ix o_ix (dv 0) (de_int)) (de_ix o_ix (dv 0) (de_int))) (de_int)) (de_int)) (dv 1)))))))
abbrev s__law_lost : Stmt := topS 24
theorem sc__law_lost : FnScope ["_law_deck_here", "_law_rows", "_law_k"] ["_law_deck_here", "_law_rows"] (defScope s__law_lost) := ⟨rfl, rfl, rfl, by decide +kernel, rfl, by decide +kernel, by decide +kernel⟩
set_option maxHeartbeats 4000000 in
theorem der__law_lost {P : Program} {w : World} {K : PySem.W.Frag} {mg : Str → Option Value} {base : Heap} {f : Addr} {fd : FuncData} (F : Fun K "_law_lost" "_law_lost" s__law_lost f fd) (D__law_next : DFo P w K mg base 1 "_law_next" 2 (dFn 4 B_law_next_74a4)) (m_range : mg "range" = none) (m_len : mg "len" = none) (m_tuple : mg "tuple" = none): FnOk P w K mg base CX0 2 f fd ["_law_deck_here", "_law_rows"] (lP ⟨P, w, K⟩ 2 (dFn 3 B_law_lost_0080)) := by
  refine fn_o F sc__law_lost rfl fun cdv A outer s H E hr => ?_
  have nd := sc__law_lost.nd
  have u64 := hr.units
  have u65 : (A.deeper (envOfC "_law_lost" (defScope s__law_lost) s.heap.objs.size f cdv)).units + 65 < cLine := by have := hr.un; omega
  have u1 : (A.deeper (envOfC "_law_lost" (defScope s__law_lost) s.heap.objs.size f cdv)).units + 1 < cLine := by have := hr.un; omega
  unfold B_law_lost_0080
  exact dss_one (ds_ret (de_callTy b_tuple (by rfl) m_tuple (by decide +kernel) (da_cons (de_lc (own := [("_law_k", 2)]) rfl nd (di_rg1 (by rfl) m_range (da_cons (de_callo D__law_next (hr.mono (by decide)) (by rfl) (da_cons (dv 0) (da_cons (de_int) (da_nil)))) (da_nil))) (blkOk_by (by first | decide +kernel | rfl)) (by decide) (fun _ _ _ _ _ => dg_name (i := 2) nd rfl (by first | exact .inl rfl | exact .inr rfl)) (fun _ _ _ _ _ => dts_nil) (fun _ _ _ _ _ => de_callo D__law_next (hr.mono (by decide)) (by rfl) (da_cons (dv 0) (da_cons (de_callB b_len (by rfl) m_len PySem.boot_len (da_cons (dv 1) (da_nil))) (da_nil))))) (da_nil))))
abbrev s__law_same : Stmt := topS 27
theorem sc__law_same : FnScope ["_law_found", "_law_due_here"] ["_law_found", "_law_due_here"] (defScope s__law_same) := ⟨rfl, rfl, rfl, by decide +kernel, rfl, by decide +kernel, by decide +kernel⟩
set_option maxHeartbeats 4000000 in
theorem der__law_same {P : Program} {w : World} {K : PySem.W.Frag} {mg : Str → Option Value} {base : Heap} {f : Addr} {fd : FuncData} (F : Fun K "_law_same" "_law_same" s__law_same f fd)  (m_repr : mg "repr" = none): FnG P w K mg base 1 f fd ["_law_found", "_law_due_here"] (lP ⟨P, w, K⟩ 2 (dFn 2 B_law_same_7705)) := by
  refine fn_d F sc__law_same rfl fun cdv A outer s H E hg hr => ?_
  have nd := sc__law_same.nd
  have u64 := hr.units
  have u65 : (A.deeper (envOfC "_law_same" (defScope s__law_same) s.heap.objs.size f cdv)).units + 65 < cLine := by have := hr.un; omega
  have u1 : (A.deeper (envOfC "_law_same" (defScope s__law_same) s.heap.objs.size f cdv)).units + 1 < cLine := by have := hr.un; omega
  unfold B_law_same_7705
  exact dss_one (ds_ret (de_cmp (o_eq u64) (de_callB (b_repr hg u64) (by rfl) m_repr (by decide +kernel) (da_cons (dv 0) (da_nil))) (de_callB (b_repr hg u64) (by rfl) m_repr (by decide +kernel) (da_cons (dv 1) (da_nil)))))
abbrev s_is_orphan : Stmt := topS 6
theorem sc_is_orphan : FnScope ["trip", "line", "sender", "sent", "receiver", "received"] ["trip", "line"] (defScope s_is_orphan) := ⟨rfl, rfl, rfl, by decide +kernel, rfl, by decide +kernel, by decide +kernel⟩
set_option maxHeartbeats 4000000 in
theorem der_is_orphan {P : Program} {w : World} {K : PySem.W.Frag} {mg : Str → Option Value} {base : Heap} {f : Addr} {fd : FuncData} (F : Fun K "is_orphan" "is_orphan" s_is_orphan f fd) : FnOk P w K mg base CX0 1 f fd ["trip", "line"] (lP ⟨P, w, K⟩ 2 (dFn 6 B_is_orphan_8604)) := by
  refine fn_o F sc_is_orphan rfl fun cdv A outer s H E hr => ?_
  have nd := sc_is_orphan.nd
  have u64 := hr.units
  have u65 : (A.deeper (envOfC "is_orphan" (defScope s_is_orphan) s.heap.objs.size f cdv)).units + 65 < cLine := by have := hr.un; omega
  have u1 : (A.deeper (envOfC "is_orphan" (defScope s_is_orphan) s.heap.objs.size f cdv)).units + 1 < cLine := by have := hr.un; omega
  unfold B_is_orphan_8604
  exact dss_cons (ds_asg (b := true) (dv 0) (dg_tup rfl (dgs_cons (dg_tup rfl (dgs_cons (dg_name (i := 2) nd rfl (by first | exact .inl rfl | exact .inr rfl)) (dgs_cons (dg_name (i := 3) nd rfl (by first | exact .inl rfl | exact .inr rfl)) (dgs_nil)))) (dgs_cons (dg_tup rfl (dgs_cons (dg_name (i := 4) nd rfl (by first | exact .inl rfl | exact .inr rfl)) (dgs_cons (dg_name (i := 5) nd rfl (by first | exact .inl rfl | exact .inr rfl)) (dgs_nil)))) (dgs_nil)))))
    (dss_one (ds_ret (de_and (de_cmp o_lt (dv 5) (de_ix o_ix (dv 1) (dv 4))) (de_one (de_cmp o_ge (dv 3) (de_ix o_ix (dv 1) (dv 2)))))))
abbrev s_lowered : Stmt := topS 7
theorem sc_lowered : FnScope ["trips", "high", "numbers", "changed", "trip", "receiver", "received"] ["trips", "high"] (defScope s_lowered) := ⟨rfl, rfl, rfl, by decide +kernel, rfl, by decide +kernel, by decide +kernel⟩
set_option maxHeartbeats 4000000 in
theorem der_lowered {P : Program} {w : World} {K : PySem.W.Frag} {mg : Str → Option Value} {base : Heap} {f : Addr} {fd : FuncData} (F : Fun K "lowered" "lowered" s_lowered f fd) (D_is_orphan : DFo P w K mg base 1 "is_orphan" 2 (dFn 6 B_is_orphan_8604)) (m_tuple : mg "tuple" = none) (m_list : mg "list" = none): FnOk P w K mg base CX0 2 f fd ["trips", "high"] (lP ⟨P, w, K⟩ 2 (dFn 7 B_lowered_c6aa)) := by
  refine fn_o F sc_lowered rfl fun cdv A outer s H E hr => ?_
  have nd := sc_lowered.nd
  have u64 := hr.units
  have u65 : (A.deeper (envOfC "lowered" (defScope s_lowered) s.heap.objs.size f cdv)).units + 65 < cLine := by have := hr.un; omega
  have u1 : (A.deeper (envOfC "lowered" (defScope s_lowered) s.heap.objs.size f cdv)).units + 1 < cLine := by have := hr.un; omega
  unfold B_lowered_c6aa
  exact dss_cons (ds_set (i := 2) nd rfl (by first | exact .inl rfl | exact .inr rfl) (de_callTy b_list (by rfl) m_list (by decide +kernel) (da_cons (dv 1) (da_nil))))
    (dss_cons (ds_set (i := 3) nd rfl (by first | exact .inl rfl | exact .inr rfl) (de_bl))
    (dss_cons (ds_while PassesOwn.never (dt_val (dv 3)) (dss_cons (ds_set (i := 3) nd rfl (by first | exact .inl rfl | exact .inr rfl) (de_bl))
    (dss_one (ds_for PassesOwn.never rfl (di_values (dv 0)) (dg_name (i := 4) nd rfl (by first | exact .inl rfl | exact .inr rfl)) (dss_one (ds_if (dt_val (de_callo D_is_orphan (hr.mono (by decide)) (by rfl) (da_cons (dv 4) (da_cons (dv 2) (da_nil))))) (dss_cons (ds_asg (b := true) (de_ix o_ix (dv 4) (de_int)) (dg_tup rfl (dgs_cons (dg_name (i := 5) nd rfl (by first | exact .inl rfl | exact .inr rfl)) (dgs_cons (dg_name (i := 6) nd rfl (by first | exact .inl rfl | exact .inr rfl)) (dgs_nil)))))
    (dss_cons (ds_asg (b := true) (dv 6) (dg_sub (dv 2) (dv 5)))
    (dss_one (ds_set (i := 3) nd rfl (by first | exact .inl rfl | exact .inr rfl) (de_bl))))) (dss_nil)))))))
    (dss_one (ds_ret (de_callTy b_tuple (by rfl) m_tuple (by decide +kernel) (da_cons (dv 2) (da_nil)))))))
abbrev s_happened_at : Stmt := topS 2
theorem sc_happened_at : FnScope ["history", "event", "process", "row", "interval", "other"] ["history", "event"] (defScope s_happened_at) := ⟨rfl, rfl, rfl, by decide +kernel, rfl, by decide +kernel, by decide +kernel⟩
set_option maxHeartbeats 4000000 in
theorem der_happened_at {P : Program} {w : World} {K : PySem.W.Frag} {mg : Str → Option Value} {base : Heap} {f : Addr} {fd : FuncData} (F : Fun K "happened_at" "happened_at" s_happened_at f fd)  (m_enumerate : mg "enumerate" = none): FnOk P w K mg base CX0 1 f fd ["history", "event"] (lP ⟨P, w, K⟩ 2 (dFn 6 B_happened_at_e85f)) := by
  refine fn_o F sc_happened_at rfl fun cdv A outer s H E hr => ?_
  have nd := sc_happened_at.nd
  have u64 := hr.units
  have u65 : (A.deeper (envOfC "happened_at" (defScope s_happened_at) s.heap.objs.size f cdv)).units + 65 < cLine := by have := hr.un; omega
  have u1 : (A.deeper (envOfC "happened_at" (defScope s_happened_at) s.heap.objs.size f cdv)).units + 1 < cLine := by have := hr.un; omega
  unfold B_happened_at_e85f
  exact dss_cons (ds_for PassesOwn.never rfl (di_enum (by rfl) m_enumerate (da_cons (dv 0) (da_nil))) (dg_tup rfl (dgs_cons (dg_name (i := 2) nd rfl (by first | exact .inl rfl | exact .inr rfl)) (dgs_cons (dg_name (i := 3) nd rfl (by first | exact .inl rfl | exact .inr rfl)) (dgs_nil)))) (dss_cons (ds_set (i := 4) nd rfl (by first | exact .inl rfl | exact .inr rfl) (de_int))
    (dss_one (ds_for PassesOwn.never rfl (di_val (dv 3)) (dg_name (i := 5) nd rfl (by first | exact .inl rfl | exact .inr rfl)) (dss_cons (ds_if (dt_cmp (o_eq u64) (dv 5) (dv 1)) (dss_one (ds_ret (de_tup (da_cons (dv 2) (da_cons (dv 4) (da_nil)))))) (dss_nil))
    (dss_one (ds_if (dt_cmp (o_eq u64) (dv 5) (de_int)) (dss_one (ds_aug (i := 4) nd rfl (by first | exact .inl rfl | exact .inr rfl) o_iadd (de_int))) (dss_nil))))))))
    (dss_one (ds_ret (de_non)))
abbrev s_trips_of : Stmt := topS 4
theorem sc_trips_of : FnScope ["history", "messages", "message", "row", "event"] ["history"] (defScope s_trips_of) := ⟨rfl, rfl, rfl, by decide +kernel, rfl, by decide +kernel, by decide +kernel⟩
set_option maxHeartbeats 4000000 in
theorem der_trips_of {P : Program} {w : World} {K : PySem.W.Frag} {mg : Str → Option Value} {base : Heap} {f : Addr} {fd : FuncData} (F : Fun K "trips_of" "trips_of" s_trips_of f fd) (D_happened_at : DFo P w K mg base 1 "happened_at" 2 (dFn 6 B_happened_at_e85f)) (m_sorted : mg "sorted" = none): FnOk P w K mg base CX0 2 f fd ["history"] (lP ⟨P, w, K⟩ 1 (dFn 5 B_trips_of_ea9a)) := by
  refine fn_o F sc_trips_of rfl fun cdv A outer s H E hr => ?_
  have nd := sc_trips_of.nd
  have u64 := hr.units
  have u65 : (A.deeper (envOfC "trips_of" (defScope s_trips_of) s.heap.objs.size f cdv)).units + 65 < cLine := by have := hr.un; omega
  have u1 : (A.deeper (envOfC "trips_of" (defScope s_trips_of) s.heap.objs.size f cdv)).units + 1 < cLine := by have := hr.un; omega
  unfold B_trips_of_ea9a
  exact dss_cons (ds_set (i := 1) nd rfl (by first | exact .inl rfl | exact .inr rfl) (de_callB b_sorted (by rfl) m_sorted (by decide +kernel) (da_cons (de_lc2 (own := [("row", 3), ("event", 4)]) (us1 := [4]) rfl nd (di_val (dv 0)) (blkOk_by (by first | decide +kernel | rfl)) (by decide) (by decide) (by decide) (fun _ _ _ _ _ => dg_name (i := 3) nd rfl (by first | exact .inl rfl | exact .inr rfl)) (fun _ _ _ _ _ => dts_nil) (fun _ _ _ _ _ => di_val (dv 3)) (fun _ _ _ _ _ => dg_name (i := 4) nd rfl (by first | exact .inl rfl | exact .inr rfl)) (fun _ _ _ _ _ => dts_one (dt_cmp o_lt (dv 4) (de_int))) (fun _ _ _ _ _ => de_un o_neg (dv 4))) (da_nil))))
    (dss_one (ds_ret (de_dc (own := [("message", 2)]) rfl nd (di_val (dv 1)) (blkOk_by (by first | decide +kernel | rfl)) (by decide) (fun _ _ _ _ _ => dg_name (i := 2) nd rfl (by first | exact .inl rfl | exact .inr rfl)) (fun _ _ _ _ _ => dts_nil) (fun _ _ _ _ _ => dv 2) (fun _ _ _ _ _ => de_tup (da_cons (de_callo D_happened_at (hr.mono (by decide)) (by rfl) (da_cons (dv 0) (da_cons (dv 2) (da_nil)))) (da_cons (de_callo D_happened_at (hr.mono (by decide)) (by rfl) (da_cons (dv 0) (da_cons (de_un o_neg (dv 2)) (da_nil)))) (da_nil)))))))
abbrev s_state_numbers : Stmt := topS 1
theorem sc_state_numbers : FnScope ["history", "row"] ["history"] (defScope s_state_numbers) := ⟨rfl, rfl, rfl, by decide +kernel, rfl, by decide +kernel, by decide +kernel⟩
set_option maxHeartbeats 4000000 in
theorem der_state_numbers {P : Program} {w : World} {K : PySem.W.Frag} {mg : Str → Option Value} {base : Heap} {f : Addr} {fd : FuncData} (F : Fun K "state_numbers" "state_numbers" s_state_numbers f fd)  (m_tuple : mg "tuple" = none): FnOk P w K mg base CX0 1 f fd ["history"] (lP ⟨P, w, K⟩ 1 (dFn 2 B_state_numbers_78d0)) := by
  refine fn_o F sc_state_numbers rfl fun cdv A outer s H E hr => ?_
  have nd := sc_state_numbers.nd
  have u64 := hr.units
  have u65 : (A.deeper (envOfC "state_numbers" (defScope s_state_numbers) s.heap.objs.size f cdv)).units + 65 < cLine := by have := hr.un; omega
  have u1 : (A.deeper (envOfC "state_numbers" (defScope s_state_numbers) s.heap.objs.size f cdv)).units + 1 < cLine := by have := hr.un; omega
  unfold B_state_numbers_78d0
  exact dss_one (ds_ret (de_callTy b_tuple (by rfl) m_tuple (by decide +kernel) (da_cons (de_lc (own := [("row", 1)]) rfl nd (di_val (dv 0)) (blkOk_by (by first | decide +kernel | rfl)) (by decide) (fun _ _ _ _ _ => dg_name (i := 1) nd rfl (by first | exact .inl rfl | exact .inr rfl)) (fun _ _ _ _ _ => dts_nil) (fun _ _ _ _ _ => de_bin o_add (de_mT PySem.F.slot_tuple_count PySem.F.type_tuple_count (m_tcount u64) (dv 1) (da_cons (de_int) (da_nil))) (de_int))) (da_nil))))
abbrev s_fall_back : Stmt := topS 9
theorem sc_fall_back : FnScope ["history", "failed", "high", "process", "present"] ["history", "failed"] (defScope s_fall_back) := ⟨rfl, rfl, rfl, by decide +kernel, rfl, by decide +kernel, by decide +kernel⟩
set_option maxHeartbeats 4000000 in
theorem der_fall_back {P : Program} {w : World} {K : PySem.W.Frag} {mg : Str → Option Value} {base : Heap} {f : Addr} {fd : FuncData} (F : Fun K "fall_back" "fall_back" s_fall_back f fd) (D_lowered : DFo P w K mg base 2 "lowered" 2 (dFn 7 B_lowered_c6aa)) (D_trips_of : DFo P w K mg base 2 "trips_of" 1 (dFn 5 B_trips_of_ea9a)) (D_state_numbers : DFo P w K mg base 1 "state_numbers" 1 (dFn 2 B_state_numbers_78d0)) (m_enumerate : mg "enumerate" = none) (hb : BSt fd ["history"] "failed") : FnR P w K mg base CX0 3 f (fun vs H Q _ => lC ⟨P, w, K⟩ (dFnS 1 5 B_fall_back_94df) vs H Q) := by
  refine fn_s F sc_fall_back hb rfl fun cdv A outer s H E hr => ?_
  have nd := sc_fall_back.nd
  have u64 := hr.units
  have u65 : (A.deeper (envOfC "fall_back" (defScope s_fall_back) s.heap.objs.size f cdv)).units + 65 < cLine := by have := hr.un; omega
  have u1 : (A.deeper (envOfC "fall_back" (defScope s_fall_back) s.heap.objs.size f cdv)).units + 1 < cLine := by have := hr.un; omega
  unfold B_fall_back_94df
  exact dss_cons (ds_setLc (i := 2) (own := [("process", 3), ("present", 4)]) rfl nd rfl rfl (sw_true rfl rfl rfl (by decide +kernel)) (di_enum (by rfl) m_enumerate (da_cons (de_callo D_state_numbers (hr.mono (by decide)) (by rfl) (da_cons (dv 0) (da_nil))) (da_nil))) (blkOk_by (by first | decide +kernel | rfl)) (by decide) (fun _ _ _ _ _ => dg_tup rfl (dgs_cons (dg_name (i := 3) nd rfl (by first | exact .inl rfl | exact .inr rfl)) (dgs_cons (dg_name (i := 4) nd rfl (by first | exact .inl rfl | exact .inr rfl)) (dgs_nil)))) (fun _ _ _ _ _ => dts_nil) (fun _ _ _ _ _ => de_ifExp (dt_cmp (o_in u65) (dv 3) (dv 1)) (de_bin o_sub (dv 4) (de_int)) (dv 4)))
    (dss_one (ds_ret (de_callo D_lowered (hr.mono (by decide)) (by rfl) (da_cons (de_callo D_trips_of (hr.mono (by decide)) (by rfl) (da_cons (dv 0) (da_nil))) (da_cons (dv 2) (da_nil))))))
abbrev s__law_fallen : Stmt := topS 28
theorem sc__law_fallen : FnScope ["_law_rows", "_law_lost_here"] ["_law_rows", "_law_lost_here"] (defScope s__law_fallen) := ⟨rfl, rfl, rfl, by decide +kernel, rfl, by decide +kernel, by decide +kernel⟩
set_option maxHeartbeats 4000000 in
theorem der__law_fallen {P : Program} {w : World} {K : PySem.W.Frag} {mg : Str → Option Value} {base : Heap} {f : Addr} {fd : FuncData} (F : Fun K "_law_fallen" "_law_fallen" s__law_fallen f fd) (D_fall_back : DFs P w K mg base 3 "fall_back" (dFnS 1 5 B_fall_back_94df)) (m_len : mg "len" = none): FnOk P w K mg base CX0 4 f fd ["_law_rows", "_law_lost_here"] (lP ⟨P, w, K⟩ 2 (dFn 2 B_law_fallen_e0f3)) := by
  refine fn_o F sc__law_fallen rfl fun cdv A outer s H E hr => ?_
  have nd := sc__law_fallen.nd
  have u64 := hr.units
  have u65 : (A.deeper (envOfC "_law_fallen" (defScope s__law_fallen) s.heap.objs.size f cdv)).units + 65 < cLine := by have := hr.un; omega
  have u1 : (A.deeper (envOfC "_law_fallen" (defScope s__law_fallen) s.heap.objs.size f cdv)).units + 1 < cLine := by have := hr.un; omega
  unfold B_law_fallen_e0f3
  exact dss_cons (ds_if (dt_cmp (o_eq u64) (de_callB b_len (by rfl) m_len PySem.boot_len (da_cons (dv 1) (da_nil))) (de_int)) (dss_one (ds_ret (de_callS D_fall_back (hr.mono (by decide)) (by rfl) (da_cons (dv 0) (da_nil))))) (dss_nil))
    (dss_cons (ds_if (dt_cmp (o_eq u64) (de_callB b_len (by rfl) m_len PySem.boot_len (da_cons (dv 1) (da_nil))) (de_int)) (dss_one (ds_ret (de_callS D_fall_back (hr.mono (by decide)) (by rfl) (da_cons (dv 0) (da_cons (de_ix o_ix (dv 1) (de_int)) (da_nil)))))) (dss_nil))
    (dss_cons (ds_if (dt_cmp (o_eq u64) (de_callB b_len (by rfl) m_len PySem.boot_len (da_cons (dv 1) (da_nil))) (de_int)) (dss_one (ds_ret (de_callS D_fall_back (hr.mono (by decide)) (by rfl) (da_cons (dv 0) (da_cons (de_ix o_ix (dv 1) (de_int)) (da_cons (de_ix o_ix (dv 1) (de_int)) (da_nil))))))) (dss_nil))
    (dss_cons (ds_if (dt_cmp (o_eq u64) (de_callB b_len (by rfl) m_len PySem.boot_len (da_cons (dv 1) (da_nil))) (de_int)) (dss_one (ds_ret (de_callS D_fall_back (hr.mono (by decide)) (by rfl) (da_cons (dv 0) (da_cons (de_ix o_ix (dv 1) (de_int)) (da_cons (de_ix o_ix (dv 1) (de_int)) (da_cons (de_ix o_ix (dv 1) (de_int)) (da_nil)))))))) (dss_nil))
    (dss_cons (ds_if (dt_cmp (o_eq u64) (de_callB b_len (by rfl) m_len PySem.boot_len (da_cons (dv 1) (da_nil))) (de_int)) (dss_one (ds_ret (de_callS D_fall_back (hr.mono (by decide)) (by rfl) (da_cons (dv 0) (da_cons (de_ix o_ix (dv 1) (de_int)) (da_cons (de_ix o_ix (dv 1) (de_int)) (da_cons (de_ix o_ix (dv 1) (de_int)) (da_cons (de_ix o_ix (dv 1) (de_int)) (da_nil))))))))) (dss_nil))
    (dss_cons (ds_if (dt_cmp (o_eq u64) (de_callB b_len (by rfl) m_len PySem.boot_len (da_cons (dv 1) (da_nil))) (de_int)) (dss_one (ds_ret (de_callS D_fall_back (hr.mono (by decide)) (by rfl) (da_cons (dv 0) (da_cons (de_ix o_ix (dv 1) (de_int)) (da_cons (de_ix o_ix (dv 1) (de_int)) (da_cons (de_ix o_ix (dv 1) (de_int)) (da_cons (de_ix o_ix (dv 1) (de_int)) (da_cons (de_ix o_ix (dv 1) (de_int)) (da_nil)))))))))) (dss_nil))
    (dss_one (ds_ret (de_callS D_fall_back (hr.mono (by decide)) (by rfl) (da_cons (dv 0) (da_cons (de_ix o_ix (dv 1) (de_int)) (da_cons (de_ix o_ix (dv 1) (de_int)) (da_cons (de_ix o_ix (dv 1) (de_int)) (da_cons (de_ix o_ix (dv 1) (de_int)) (da_cons (de_ix o_ix (dv 1) (de_int)) (da_cons (de_ix o_ix (dv 1) (de_int)) (da_nil))))))))))))))))
abbrev s__law_tops : Stmt := topS 25
theorem sc__law_tops : FnScope ["_law_rows", "_law_lost_here", "_law_process", "_law_row"] ["_law_rows", "_law_lost_here"] (defScope s__law_tops) := ⟨rfl, rfl, rfl, by decide +kernel, rfl, by decide +kernel, by decide +kernel⟩
set_option maxHeartbeats 4000000 in
theorem der__law_tops {P : Program} {w : World} {K : PySem.W.Frag} {mg : Str → Option Value} {base : Heap} {f : Addr} {fd : FuncData} (F : Fun K "_law_tops" "_law_tops" s__law_tops f fd)  (m_enumerate : mg "enumerate" = none) (m_int : mg "int" = none): FnOk P w K mg base CX0 1 f fd ["_law_rows", "_law_lost_here"] (lP ⟨P, w, K⟩ 2 (dFn 4 B_law_tops_eaaa)) := by
  refine fn_o F sc__law_tops rfl fun cdv A outer s H E hr => ?_
  have nd := sc__law_tops.nd
  have u64 := hr.units
  have u65 : (A.deeper (envOfC "_law_tops" (defScope s__law_tops) s.heap.objs.size f cdv)).units + 65 < cLine := by have := hr.un; omega
  have u1 : (A.deeper (envOfC "_law_tops" (defScope s__law_tops) s.heap.objs.size f cdv)).units + 1 < cLine := by have := hr.un; omega
  unfold B_law_tops_eaaa
  exact dss_one (ds_ret (de_lc (own := [("_law_process", 2), ("_law_row", 3)]) rfl nd (di_enum (by rfl) m_enumerate (da_cons (dv 0) (da_nil))) (blkOk_by (by first | decide +kernel | rfl)) (by decide) (fun _ _ _ _ _ => dg_tup rfl (dgs_cons (dg_name (i := 2) nd rfl (by first | exact .inl rfl | exact .inr rfl)) (dgs_cons (dg_name (i := 3) nd rfl (by first | exact .inl rfl | exact .inr rfl)) (dgs_nil)))) (fun _ _ _ _ _ => dts_nil) (fun _ _ _ _ _ => de_bin o_sub (de_bin o_add (de_mT PySem.F.slot_tuple_count PySem.F.type_tuple_count (m_tcount u64) (dv 3) (da_cons (de_int) (da_nil))) (de_int)) (de_callTy b_int (by rfl) m_int (by decide +kernel) (da_cons (de_cmp (o_in u65) (dv 2) (dv 1)) (da_nil))))))
abbrev s__law_due : Stmt := topS 26
theorem sc__law_due : FnScope ["_law_rows", "_law_lost_here", "_law_good", "_law_tops_here", "_law_found", "_law_cut", "_law_number", "_law_top", "_law_pair"] ["_law_rows", "_law_lost_here", "_law_good"] (defScope s__law_due) := ⟨rfl, rfl, rfl, by decide +kernel, rfl, by decide +kernel, by decide +kernel⟩
set_option maxHeartbeats 4000000 in
theorem der__law_due {P : Program} {w : World} {K : PySem.W.Frag} {mg : Str → Option Value} {base : Heap} {f : Addr} {fd : FuncData} (F : Fun K "_law_due" "_law_due" s__law_due f fd) (D__law_tops : DFo P w K mg base 1 "_law_tops" 2 (dFn 4 B_law_tops_eaaa)) (m_tuple : mg "tuple" = none) (m_zip : mg "zip" = none) (m_max : mg "max" = none) (m_len : mg "len" = none): FnOk P w K mg base CX0 2 f fd ["_law_rows", "_law_lost_here", "_law_good"] (lP ⟨P, w, K⟩ 3 (dFn 9 B_law_due_8e3c)) := by
  refine fn_o F sc__law_due rfl fun cdv A outer s H E hr => ?_
  have nd := sc__law_due.nd
  have u64 := hr.units
  have u65 : (A.deeper (envOfC "_law_due" (defScope s__law_due) s.heap.objs.size f cdv)).units + 65 < cLine := by have := hr.un; omega
  have u1 : (A.deeper (envOfC "_law_due" (defScope s__law_due) s.heap.objs.size f cdv)).units + 1 < cLine := by have := hr.un; omega
  unfold B_law_due_8e3c
  exact dss_cons (ds_par (i := 3) (j := 4) (by rfl) nd rfl rfl (by decide) rfl rfl (da_cons (de_callo D__law_tops (hr.mono (by decide)) (by rfl) (da_cons (dv 0) (da_cons (dv 1) (da_nil)))) (da_cons (de_bin o_mul (de_lst (da_cons (de_int) (da_nil))) (de_callB b_len (by rfl) m_len PySem.boot_len (da_cons (dv 0) (da_nil)))) (da_nil))) (by rfl))
    (dss_cons (ds_for PassesOwn.never rfl (di_val (dv 2)) (dg_name (i := 5) nd rfl (by first | exact .inl rfl | exact .inr rfl)) (dss_one (ds_if (dt_cmp (o_eq u64) (de_lc (own := [("_law_number", 6), ("_law_top", 7)]) rfl nd (di_zipM (by rfl) m_zip (da_cons (dv 5) (da_cons (dv 3) (da_nil)))) (blkOk_by (by first | decide +kernel | rfl)) (by decide) (fun _ _ _ _ _ => dg_tup rfl (dgs_cons (dg_name (i := 6) nd rfl (by first | exact .inl rfl | exact .inr rfl)) (dgs_cons (dg_name (i := 7) nd rfl (by first | exact .inl rfl | exact .inr rfl)) (dgs_nil)))) (fun _ _ _ _ _ => dts_one (dt_cmp o_gt (dv 6) (dv 7))) (fun _ _ _ _ _ => de_int)) (de_lst (da_nil))) (dss_one (ds_setLc (i := 4) (own := [("_law_pair", 8)]) rfl nd rfl rfl (sw_true rfl rfl rfl (by decide +kernel)) (di_zipWL (by rfl) m_zip (da_cons (dv 4) (da_cons (dv 5) (da_nil)))) (blkOk_by (by first | decide +kernel | rfl)) (by decide) (fun _ _ _ _ _ => dg_name (i := 8) nd rfl (by first | exact .inl rfl | exact .inr rfl)) (fun _ _ _ _ _ => dts_nil) (fun _ _ _ _ _ => de_callB (b_max1 rfl) (by rfl) m_max (by decide +kernel) (da_cons (dv 8) (da_nil))))) (dss_nil))))
    (dss_one (ds_ret (de_callTy b_tuple (by rfl) m_tuple (by decide +kernel) (da_cons (dv 4) (da_nil))))))
abbrev s__law_cuts : Stmt := topS 19
theorem sc__law_cuts : FnScope ["_law_rows", "_law_found", "_law_row", "_law_longer", "_law_cut", "_law_number"] ["_law_rows"] (defScope s__law_cuts) := ⟨rfl, rfl, rfl, by decide +kernel, rfl, by decide +kernel, by decide +kernel⟩
set_option maxHeartbeats 4000000 in
theorem der__law_cuts {P : Program} {w : World} {K : PySem.W.Frag} {mg : Str → Option Value} {base : Heap} {f : Addr} {fd : FuncData} (F : Fun K "_law_cuts" "_law_cuts" s__law_cuts f fd)  (m_range : mg "range" = none): FnOk P w K mg base CX0 1 f fd ["_law_rows"] (lP ⟨P, w, K⟩ 1 (dFn 6 B_law_cuts_850b)) := by
  refine fn_o F sc__law_cuts rfl fun cdv A outer s H E hr => ?_
  have nd := sc__law_cuts.nd
  have u64 := hr.units
  have u65 : (A.deeper (envOfC "_law_cuts" (defScope s__law_cuts) s.heap.objs.size f cdv)).units + 65 < cLine := by have := hr.un; omega
  have u1 : (A.deeper (envOfC "_law_cuts" (defScope s__law_cuts) s.heap.objs.size f cdv)).units + 1 < cLine := by have := hr.un; omega
  unfold B_law_cuts_850b
  exact dss_cons (ds_set (i := 1) nd rfl (by first | exact .inl rfl | exact .inr rfl) (de_lst (da_cons (de_tup (da_nil)) (da_nil))))
    (dss_cons (ds_for PassesOwn.never rfl (di_val (dv 0)) (dg_name (i := 2) nd rfl (by first | exact .inl rfl | exact .inr rfl)) (dss_cons (ds_set (i := 3) nd rfl (by first | exact .inl rfl | exact .inr rfl) (de_lst (da_nil)))
    (dss_cons (ds_for PassesOwn.never rfl (di_val (dv 1)) (dg_name (i := 4) nd rfl (by first | exact .inl rfl | exact .inr rfl)) (dss_one (ds_expr (de_mL PySem.F.slot_list_extend PySem.F.type_list_extend m_extend (dv 3) (da_cons (de_lc (own := [("_law_number", 5)]) rfl nd (di_rg1 (by rfl) m_range (da_cons (de_bin o_add (de_mT PySem.F.slot_tuple_count PySem.F.type_tuple_count (m_tcount u64) (dv 2) (da_cons (de_int) (da_nil))) (de_int)) (da_nil))) (blkOk_by (by first | decide +kernel | rfl)) (by decide) (fun _ _ _ _ _ => dg_name (i := 5) nd rfl (by first | exact .inl rfl | exact .inr rfl)) (fun _ _ _ _ _ => dts_nil) (fun _ _ _ _ _ => de_bin o_add (dv 4) (de_tup (da_cons (dv 5) (da_nil))))) (da_nil))))))
    (dss_one (ds_set (i := 1) nd rfl (by first | exact .inl rfl | exact .inr rfl) (dv 3))))))
    (dss_one (ds_ret (dv 1))))
abbrev s__law_letters : Stmt := topS 22
theorem sc__law_letters : FnScope ["_law_rows", "_law_found", "_law_receiver", "_law_row", "_law_index", "_law_event", "_law_sender", "_law_process"] ["_law_rows"] (defScope s__law_letters) := ⟨rfl, rfl, rfl, by decide +kernel, rfl, by decide +kernel, by decide +kernel⟩
set_option maxHeartbeats 4000000 in
theorem der__law_letters {P : Program} {w : World} {K : PySem.W.Frag} {mg : Str → Option Value} {base : Heap} {f : Addr} {fd : FuncData} (F : Fun K "_law_letters" "_law_letters" s__law_letters f fd)  (m_enumerate : mg "enumerate" = none) (m_len : mg "len" = none) (m_range : mg "range" = none): FnOk P w K mg base CX0 1 f fd ["_law_rows"] (lP ⟨P, w, K⟩ 1 (dFn 8 B_law_letters_6581)) := by
  refine fn_o F sc__law_letters rfl fun cdv A outer s H E hr => ?_
  have nd := sc__law_letters.nd
  have u64 := hr.units
  have u65 : (A.deeper (envOfC "_law_letters" (defScope s__law_letters) s.heap.objs.size f cdv)).units + 65 < cLine := by have := hr.un; omega
  have u1 : (A.deeper (envOfC "_law_letters" (defScope s__law_letters) s.heap.objs.size f cdv)).units + 1 < cLine := by have := hr.un; omega
  unfold B_law_letters_6581
  exact dss_cons (ds_set (i := 1) nd rfl (by first | exact .inl rfl | exact .inr rfl) (de_lst (da_nil)))
    (dss_cons (ds_for PassesOwn.never rfl (di_enum (by rfl) m_enumerate (da_cons (dv 0) (da_nil))) (dg_tup rfl (dgs_cons (dg_name (i := 2) nd rfl (by first | exact .inl rfl | exact .inr rfl)) (dgs_cons (dg_name (i := 3) nd rfl (by first | exact .inl rfl | exact .inr rfl)) (dgs_nil)))) (dss_one (ds_for PassesOwn.never rfl (di_enum (by rfl) m_enumerate (da_cons (dv 3) (da_nil))) (dg_tup rfl (dgs_cons (dg_name (i := 4) nd rfl (by first | exact .inl rfl | exact .inr rfl)) (dgs_cons (dg_name (i := 5) nd rfl (by first | exact .inl rfl | exact .inr rfl)) (dgs_nil)))) (dss_one (ds_if (dt_cmp o_lt (dv 5) (de_int)) (dss_cons (ds_set (i := 6) nd rfl (by first | exact .inl rfl | exact .inr rfl) (de_ix o_ix (de_lc (own := [("_law_process", 7)]) rfl nd (di_rg1 (by rfl) m_range (da_cons (de_callB b_len (by rfl) m_len PySem.boot_len (da_cons (dv 0) (da_nil))) (da_nil))) (blkOk_by (by first | decide +kernel | rfl)) (by decide) (fun _ _ _ _ _ => dg_name (i := 7) nd rfl (by first | exact .inl rfl | exact .inr rfl)) (fun _ _ _ _ _ => dts_one (dt_cmp (o_in u65) (de_bin o_sub (de_int) (dv 5)) (de_ix o_ix (dv 0) (dv 7)))) (fun _ _ _ _ _ => dv 7)) (de_int)))
    (dss_one (ds_expr (de_mL PySem.F.slot_list_append PySem.F.type_list_append m_append (dv 1) (da_cons (de_lst (da_cons (dv 6) (da_cons (de_mT PySem.F.slot_tuple_index PySem.F.type_tuple_index m_tindex (de_ix o_ix (dv 0) (dv 6)) (da_cons (de_bin o_sub (de_int) (dv 5)) (da_nil))) (da_cons (dv 2) (da_cons (dv 4) (da_cons (de_bin o_sub (de_int) (dv 5)) (da_nil))))))) (da_nil)))))) (dss_nil))))))
    (dss_one (ds_ret (dv 1))))
abbrev s__law_spots : Stmt := topS 20
theorem sc__law_spots : FnScope ["_law_row", "_law_index", "_law_event"] ["_law_row"] (defScope s__law_spots) := ⟨rfl, rfl, rfl, by decide +kernel, rfl, by decide +kernel, by decide +kernel⟩
set_option maxHeartbeats 4000000 in
theorem der__law_spots {P : Program} {w : World} {K : PySem.W.Frag} {mg : Str → Option Value} {base : Heap} {f : Addr} {fd : FuncData} (F : Fun K "_law_spots" "_law_spots" s__law_spots f fd)  (m_enumerate : mg "enumerate" = none) (m_len : mg "len" = none): FnOk P w K mg base CX0 1 f fd ["_law_row"] (lP ⟨P, w, K⟩ 1 (dFn 3 B_law_spots_60b5)) := by
  refine fn_o F sc__law_spots rfl fun cdv A outer s H E hr => ?_
  have nd := sc__law_spots.nd
  have u64 := hr.units
  have u65 : (A.deeper (envOfC "_law_spots" (defScope s__law_spots) s.heap.objs.size f cdv)).units + 65 < cLine := by have := hr.un; omega
  have u1 : (A.deeper (envOfC "_law_spots" (defScope s__law_spots) s.heap.objs.size f cdv)).units + 1 < cLine := by have := hr.un; omega
  unfold B_law_spots_60b5
  exact dss_one (ds_ret (de_bin o_add (de_bin o_add (de_lst (da_cons (de_int) (da_nil))) (de_lc (own := [("_law_index", 1), ("_law_event", 2)]) rfl nd (di_enum (by rfl) m_enumerate (da_cons (dv 0) (da_nil))) (blkOk_by (by first | decide +kernel | rfl)) (by decide) (fun _ _ _ _ _ => dg_tup rfl (dgs_cons (dg_name (i := 1) nd rfl (by first | exact .inl rfl | exact .inr rfl)) (dgs_cons (dg_name (i := 2) nd rfl (by first | exact .inl rfl | exact .inr rfl)) (dgs_nil)))) (fun _ _ _ _ _ => dts_one (dt_cmp (o_eq u64) (dv 2) (de_int))) (fun _ _ _ _ _ => dv 1))) (de_lst (da_cons (de_callB b_len (by rfl) m_len PySem.boot_len (da_cons (dv 0) (da_nil))) (da_nil)))))
abbrev s__law_places : Stmt := topS 21
theorem sc__law_places : FnScope ["_law_rows", "_law_cut", "_law_row", "_law_number"] ["_law_rows", "_law_cut"] (defScope s__law_places) := ⟨rfl, rfl, rfl, by decide +kernel, rfl, by decide +kernel, by decide +kernel⟩
set_option maxHeartbeats 4000000 in
theorem der__law_places {P : Program} {w : World} {K : PySem.W.Frag} {mg : Str → Option Value} {base : Heap} {f : Addr} {fd : FuncData} (F : Fun K "_law_places" "_law_places" s__law_places f fd) (D__law_spots : DFo P w K mg base 1 "_law_spots" 1 (dFn 3 B_law_spots_60b5)) (m_zip : mg "zip" = none): FnOk P w K mg base CX0 2 f fd ["_law_rows", "_law_cut"] (lP ⟨P, w, K⟩ 2 (dFn 4 B_law_places_b8ae)) := by
  refine fn_o F sc__law_places rfl fun cdv A outer s H E hr => ?_
  have nd := sc__law_places.nd
  have u64 := hr.units
  have u65 : (A.deeper (envOfC "_law_places" (defScope s__law_places) s.heap.objs.size f cdv)).units + 65 < cLine := by have := hr.un; omega
  have u1 : (A.deeper (envOfC "_law_places" (defScope s__law_places) s.heap.objs.size f cdv)).units + 1 < cLine := by have := hr.un; omega
  unfold B_law_places_b8ae
  exact dss_one (ds_ret (de_lc (own := [("_law_row", 2), ("_law_number", 3)]) rfl nd (di_zip (by rfl) m_zip (da_cons (dv 0) (da_cons (dv 1) (da_nil)))) (blkOk_by (by first | decide +kernel | rfl)) (by decide) (fun _ _ _ _ _ => dg_tup rfl (dgs_cons (dg_name (i := 2) nd rfl (by first | exact .inl rfl | exact .inr rfl)) (dgs_cons (dg_name (i := 3) nd rfl (by first | exact .inl rfl | exact .inr rfl)) (dgs_nil)))) (fun _ _ _ _ _ => dts_nil) (fun _ _ _ _ _ => de_ix o_ix (de_callo D__law_spots (hr.mono (by decide)) (by rfl) (da_cons (dv 2) (da_nil))) (dv 3))))
abbrev s__law_fits : Stmt := topS 23
theorem sc__law_fits : FnScope ["_law_rows", "_law_cut", "_law_spots_here", "_law_sender", "_law_start", "_law_receiver", "_law_finish", "_law_message"] ["_law_rows", "_law_cut"] (defScope s__law_fits) := ⟨rfl, rfl, rfl, by decide +kernel, rfl, by decide +kernel, by decide +kernel⟩
set_option maxHeartbeats 4000000 in
theorem der__law_fits {P : Program} {w : World} {K : PySem.W.Frag} {mg : Str → Option Value} {base : Heap} {f : Addr} {fd : FuncData} (F : Fun K "_law_fits" "_law_fits" s__law_fits f fd) (D__law_letters : DFo P w K mg base 1 "_law_letters" 1 (dFn 8 B_law_letters_6581)) (D__law_places : DFo P w K mg base 2 "_law_places" 2 (dFn 4 B_law_places_b8ae)): FnOk P w K mg base CX0 3 f fd ["_law_rows", "_law_cut"] (lP ⟨P, w, K⟩ 2 (dFn 8 B_law_fits_b0d3)) := by
  refine fn_o F sc__law_fits rfl fun cdv A outer s H E hr => ?_
  have nd := sc__law_fits.nd
  have u64 := hr.units
  have u65 : (A.deeper (envOfC "_law_fits" (defScope s__law_fits) s.heap.objs.size f cdv)).units + 65 < cLine := by have := hr.un; omega
  have u1 : (A.deeper (envOfC "_law_fits" (defScope s__law_fits) s.heap.objs.size f cdv)).units + 1 < cLine := by have := hr.un; omega
  unfold B_law_fits_b0d3
  exact dss_cons (ds_set (i := 2) nd rfl (by first | exact .inl rfl | exact .inr rfl) (de_callo D__law_places (hr.mono (by decide)) (by rfl) (da_cons (dv 0) (da_cons (dv 1) (da_nil)))))
    (dss_cons (ds_for PassesOwn.never rfl (di_val (de_callo D__law_letters (hr.mono (by decide)) (by rfl) (da_cons (dv 0) (da_nil)))) (dg_tup rfl (dgs_cons (dg_name (i := 3) nd rfl (by first | exact .inl rfl | exact .inr rfl)) (dgs_cons (dg_name (i := 4) nd rfl (by first | exact .inl rfl | exact .inr rfl)) (dgs_cons (dg_name (i := 5) nd rfl (by first | exact .inl rfl | exact .inr rfl)) (dgs_cons (dg_name (i := 6) nd rfl (by first | exact .inl rfl | exact .inr rfl)) (dgs_cons (dg_name (i := 7) nd rfl (by first | exact .inl rfl | exact .inr rfl)) (dgs_nil))))))) (dss_one (ds_if (DW.dt (dw_and (dt_cmp o_lt (dv 6) (de_ix o_ix (dv 2) (dv 5))) (dw_and1 (dt_cmp o_ge (dv 4) (de_ix o_ix (dv 2) (dv 3)))))) (dss_one (ds_ret (de_bl))) (dss_nil))))
    (dss_one (ds_ret (de_bl))))
abbrev s__law_one : Stmt := topS 16
theorem sc__law_one : FnScope ["_law_deck_here", "_law_items"] ["_law_deck_here", "_law_items"] (defScope s__law_one) := ⟨rfl, rfl, rfl, by decide +kernel, rfl, by decide +kernel, by decide +kernel⟩
set_option maxHeartbeats 4000000 in
theorem der__law_one {P : Program} {w : World} {K : PySem.W.Frag} {mg : Str → Option Value} {base : Heap} {f : Addr} {fd : FuncData} (F : Fun K "_law_one" "_law_one" s__law_one f fd) (D__law_next : DFo P w K mg base 1 "_law_next" 2 (dFn 4 B_law_next_74a4)) (m_len : mg "len" = none): FnOk P w K mg base CX0 2 f fd ["_law_deck_here", "_law_items"] (lP ⟨P, w, K⟩ 2 (dFn 2 B_law_one_4842)) := by
  refine fn_o F sc__law_one rfl fun cdv A outer s H E hr => ?_
  have nd := sc__law_one.nd
  have u64 := hr.units
  have u65 : (A.deeper (envOfC "_law_one" (defScope s__law_one) s.heap.objs.size f cdv)).units + 65 < cLine := by have := hr.un; omega
  have u1 : (A.deeper (envOfC "_law_one" (defScope s__law_one) s.heap.objs.size f cdv)).units + 1 < cLine := by have := hr.un; omega
  unfold B_law_one_4842
  exact dss_one (ds_ret (de_ix o_ix (dv 1) (de_callo D__law_next (hr.mono (by decide)) (by rfl) (da_cons (dv 0) (da_cons (de_callB b_len (by rfl) m_len PySem.boot_len (da_cons (dv 1) (da_nil))) (da_nil))))))
abbrev s__law_grown : Stmt := topS 17
theorem sc__law_grown : FnScope ["_law_deck_here", "_law_state", "_law_rows", "_law_names", "_law_waiting", "_law_share", "_law_process", "_law_way", "_law_ready", "_law_event", "_law_left", "_law_pair", "_law_longer", "_law_one_here"] ["_law_deck_here", "_law_state"] (defScope s__law_grown) := ⟨rfl, rfl, rfl, by decide +kernel, rfl, by decide +kernel, by decide +kernel⟩
set_option maxHeartbeats 4000000 in
theorem der__law_grown {P : Program} {w : World} {K : PySem.W.Frag} {mg : Str → Option Value} {base : Heap} {f : Addr} {fd : FuncData} (F : Fun K "_law_grown" "_law_grown" s__law_grown f fd) (D__law_one : DFo P w K mg base 2 "_law_one" 2 (dFn 2 B_law_one_4842)) (D__law_next : DFo P w K mg base 1 "_law_next" 2 (dFn 4 B_law_next_74a4)) (m_len : mg "len" = none): FnOk P w K mg base CX0 3 f fd ["_law_deck_here", "_law_state"] (lP ⟨P, w, K⟩ 2 (dFn 14 B_law_grown_680b)) := by
  refine fn_o F sc__law_grown rfl fun cdv A outer s H E hr => ?_
  have nd := sc__law_grown.nd
  have u64 := hr.units
  have u65 : (A.deeper (envOfC "_law_grown" (defScope s__law_grown) s.heap.objs.size f cdv)).units + 65 < cLine := by have := hr.un; omega
  have u1 : (A.deeper (envOfC "_law_grown" (defScope s__law_grown) s.heap.objs.size f cdv)).units + 1 < cLine := by have := hr.un; omega
  unfold B_law_grown_680b
  exact dss_cons (ds_asg (b := true) (dv 1) (dg_tup rfl (dgs_cons (dg_name (i := 2) nd rfl (by first | exact .inl rfl | exact .inr rfl)) (dgs_cons (dg_name (i := 3) nd rfl (by first | exact .inl rfl | exact .inr rfl)) (dgs_cons (dg_name (i := 4) nd rfl (by first | exact .inl rfl | exact .inr rfl)) (dgs_cons (dg_name (i := 5) nd rfl (by first | exact .inl rfl | exact .inr rfl)) (dgs_nil)))))))
    (dss_cons (ds_asg (b := true) (de_tup (da_cons (de_callo D__law_next (hr.mono (by decide)) (by rfl) (da_cons (dv 0) (da_cons (de_callB b_len (by rfl) m_len PySem.boot_len (da_cons (dv 2) (da_nil))) (da_nil)))) (da_cons (de_callo D__law_next (hr.mono (by decide)) (by rfl) (da_cons (dv 0) (da_cons (de_int) (da_nil)))) (da_nil)))) (dg_tup rfl (dgs_cons (dg_name (i := 6) nd rfl (by first | exact .inl rfl | exact .inr rfl)) (dgs_cons (dg_name (i := 7) nd rfl (by first | exact .inl rfl | exact .inr rfl)) (dgs_nil)))))
    (dss_cons (ds_setLc (i := 8) (own := [("_law_pair", 11)]) rfl nd rfl rfl (sw_true rfl rfl rfl (by decide +kernel)) (di_val (dv 4)) (blkOk_by (by first | decide +kernel | rfl)) (by decide) (fun _ _ _ _ _ => dg_name (i := 11) nd rfl (by first | exact .inl rfl | exact .inr rfl)) (fun _ _ _ _ _ => dts_one (dt_cmp (o_ne u64) (de_ix o_ix (dv 11) (de_int)) (dv 6))) (fun _ _ _ _ _ => dv 11))
    (dss_cons (ds_par (i := 9) (j := 10) (by rfl) nd rfl rfl (by decide) rfl rfl (da_cons (de_int) (da_cons (dv 3) (da_nil))) (by rfl))
    (dss_cons (ds_if (DW.dt (dw_and (dt_cmp o_ge (dv 7) (dv 5)) (dw_and (dt_cmp (o_eq u64) (de_bin o_mod (dv 7) (de_int)) (de_int)) (dw_and1 (dt_cmp (o_ne u64) (dv 8) (de_lst (da_nil))))))) (dss_cons (ds_set (i := 11) nd rfl (by first | exact .inl rfl | exact .inr rfl) (de_callo D__law_one (hr.mono (by decide)) (by rfl) (da_cons (dv 0) (da_cons (dv 8) (da_nil)))))
    (dss_one (ds_par (i := 9) (j := 4) (by rfl) nd rfl rfl (by decide) rfl rfl (da_cons (de_bin o_sub (de_int) (de_ix o_ix (dv 11) (de_int))) (da_cons (de_lc (own := [("_law_one_here", 13)]) rfl nd (di_val (dv 4)) (blkOk_by (by first | decide +kernel | rfl)) (by decide) (fun _ _ _ _ _ => dg_name (i := 13) nd rfl (by first | exact .inl rfl | exact .inr rfl)) (fun _ _ _ _ _ => dts_one (dt_cmp (o_ne u64) (dv 13) (dv 11))) (fun _ _ _ _ _ => dv 13)) (da_nil))) (by rfl)))) (dss_one (ds_if (DW.dt (dw_and (dt_cmp o_ge (dv 7) (dv 5)) (dw_and1 (dt_cmp (o_ne u64) (dv 3) (de_lst (da_nil)))))) (dss_cons (ds_par (i := 9) (j := 10) (by rfl) nd rfl rfl (by decide) rfl rfl (da_cons (de_ix o_ix (dv 3) (de_int)) (da_cons (de_sl (dv 3) (do_some (de_int)) (do_none)) (da_nil))) (by rfl))
    (dss_one (ds_set (i := 4) nd rfl (by first | exact .inl rfl | exact .inr rfl) (de_bin o_add (dv 4) (de_lst (da_cons (de_tup (da_cons (dv 9) (da_cons (dv 6) (da_nil)))) (da_nil))))))) (dss_nil))))
    (dss_cons (ds_set (i := 12) nd rfl (by first | exact .inl rfl | exact .inr rfl) (de_tup (da_cons (de_bin o_add (de_ix o_ix (dv 2) (dv 6)) (de_tup (da_cons (dv 9) (da_nil)))) (da_nil))))
    (dss_one (ds_ret (de_lst (da_cons (de_bin o_add (de_bin o_add (de_sl (dv 2) (do_none) (do_some (dv 6))) (dv 12)) (de_sl (dv 2) (do_some (de_bin o_add (dv 6) (de_int))) (do_none))) (da_cons (dv 10) (da_cons (dv 4) (da_cons (dv 5) (da_nil)))))))))))))
abbrev s__law_shuffled : Stmt := topS 14
theorem sc__law_shuffled : FnScope ["_law_deck_here", "_law_items", "_law_left", "_law_found"] ["_law_deck_here", "_law_items"] (defScope s__law_shuffled) := ⟨rfl, rfl, rfl, by decide +kernel, rfl, by decide +kernel, by decide +kernel⟩
set_option maxHeartbeats 4000000 in
theorem der__law_shuffled {P : Program} {w : World} {K : PySem.W.Frag} {mg : Str → Option Value} {base : Heap} {f : Addr} {fd : FuncData} (F : Fun K "_law_shuffled" "_law_shuffled" s__law_shuffled f fd) (D__law_next : DFo P w K mg base 1 "_law_next" 2 (dFn 4 B_law_next_74a4)) (m_len : mg "len" = none) (m_list : mg "list" = none): FnOk P w K mg base CX0 2 f fd ["_law_deck_here", "_law_items"] (lP ⟨P, w, K⟩ 2 (dFn 4 B_law_shuffled_c6aa)) := by
  refine fn_o F sc__law_shuffled rfl fun cdv A outer s H E hr => ?_
  have nd := sc__law_shuffled.nd
  have u64 := hr.units
  have u65 : (A.deeper (envOfC "_law_shuffled" (defScope s__law_shuffled) s.heap.objs.size f cdv)).units + 65 < cLine := by have := hr.un; omega
  have u1 : (A.deeper (envOfC "_law_shuffled" (defScope s__law_shuffled) s.heap.objs.size f cdv)).units + 1 < cLine := by have := hr.un; omega
  unfold B_law_shuffled_c6aa
  exact dss_cons (ds_set (i := 2) nd rfl (by first | exact .inl rfl | exact .inr rfl) (de_callTy b_list (by rfl) m_list (by decide +kernel) (da_cons (dv 1) (da_nil))))
    (dss_cons (ds_set (i := 3) nd rfl (by first | exact .inl rfl | exact .inr rfl) (de_lst (da_nil)))
    (dss_cons (ds_while PassesOwn.never (dt_cmp (o_ne u64) (dv 2) (de_lst (da_nil))) (dss_one (ds_expr (de_mL PySem.F.slot_list_append PySem.F.type_list_append m_append (dv 3) (da_cons (de_mL PySem.F.slot_list_pop PySem.F.type_list_pop m_popAt (dv 2) (da_cons (de_callo D__law_next (hr.mono (by decide)) (by rfl) (da_cons (dv 0) (da_cons (de_callB b_len (by rfl) m_len PySem.boot_len (da_cons (dv 2) (da_nil))) (da_nil)))) (da_nil))) (da_nil))))))
    (dss_one (ds_ret (dv 3)))))
abbrev s__law_begun : Stmt := topS 15
theorem sc__law_begun : FnScope ["_law_deck_here", "_law_many", "_law_rows"] ["_law_deck_here", "_law_many"] (defScope s__law_begun) := ⟨rfl, rfl, rfl, by decide +kernel, rfl, by decide +kernel, by decide +kernel⟩
set_option maxHeartbeats 4000000 in
theorem der__law_begun {P : Program} {w : World} {K : PySem.W.Frag} {mg : Str → Option Value} {base : Heap} {f : Addr} {fd : FuncData} (F : Fun K "_law_begun" "_law_begun" s__law_begun f fd) (D__law_next : DFo P w K mg base 1 "_law_next" 2 (dFn 4 B_law_next_74a4)) (D__law_shuffled : DFo P w K mg base 2 "_law_shuffled" 2 (dFn 4 B_law_shuffled_c6aa)) (m_list : mg "list" = none) (m_range : mg "range" = none): FnOk P w K mg base CX0 3 f fd ["_law_deck_here", "_law_many"] (lP ⟨P, w, K⟩ 2 (dFn 3 B_law_begun_2a66)) := by
  refine fn_o F sc__law_begun rfl fun cdv A outer s H E hr => ?_
  have nd := sc__law_begun.nd
  have u64 := hr.units
  have u65 : (A.deeper (envOfC "_law_begun" (defScope s__law_begun) s.heap.objs.size f cdv)).units + 65 < cLine := by have := hr.un; omega
  have u1 : (A.deeper (envOfC "_law_begun" (defScope s__law_begun) s.heap.objs.size f cdv)).units + 1 < cLine := by have := hr.un; omega
  unfold B_law_begun_2a66
  exact dss_cons (ds_set (i := 2) nd rfl (by first | exact .inl rfl | exact .inr rfl) (de_bin o_mul (de_tup (da_cons (de_tup (da_nil)) (da_nil))) (de_bin o_add (de_int) (de_callo D__law_next (hr.mono (by decide)) (by rfl) (da_cons (dv 0) (da_cons (dv 1) (da_nil)))))))
    (dss_one (ds_ret (de_lst (da_cons (dv 2) (da_cons (de_callo D__law_shuffled (hr.mono (by decide)) (by rfl) (da_cons (dv 0) (da_cons (de_listRg2 rfl (by rfl) m_list (by rfl) m_range (de_int) (de_int)) (da_nil)))) (da_cons (de_lst (da_nil)) (da_cons (de_bin o_add (de_int) (de_callo D__law_next (hr.mono (by decide)) (by rfl) (da_cons (dv 0) (da_cons (de_int) (da_nil))))) (da_nil))))))))
abbrev s__law_domino : Stmt := topS 13
theorem sc__law_domino : FnScope ["_law_deck_here", "_law_most", "_law_ones", "_law_others", "_law_k"] ["_law_deck_here", "_law_most"] (defScope s__law_domino) := ⟨rfl, rfl, rfl, by decide +kernel, rfl, by decide +kernel, by decide +kernel⟩
set_option maxHeartbeats 4000000 in
theorem der__law_domino {P : Program} {w : World} {K : PySem.W.Frag} {mg : Str → Option Value} {base : Heap} {f : Addr} {fd : FuncData} (F : Fun K "_law_domino" "_law_domino" s__law_domino f fd) (D__law_next : DFo P w K mg base 1 "_law_next" 2 (dFn 4 B_law_next_74a4)) (m_max : mg "max" = none) (m_range : mg "range" = none): FnOk P w K mg base CX0 2 f fd ["_law_deck_here", "_law_most"] (lP ⟨P, w, K⟩ 2 (dFn 5 B_law_domino_a8d9)) := by
  refine fn_o F sc__law_domino rfl fun cdv A outer s H E hr => ?_
  have nd := sc__law_domino.nd
  have u64 := hr.units
  have u65 : (A.deeper (envOfC "_law_domino" (defScope s__law_domino) s.heap.objs.size f cdv)).units + 65 < cLine := by have := hr.un; omega
  have u1 : (A.deeper (envOfC "_law_domino" (defScope s__law_domino) s.heap.objs.size f cdv)).units + 1 < cLine := by have := hr.un; omega
  unfold B_law_domino_a8d9
  exact dss_cons (ds_asg (b := true) (de_tup (da_cons (de_tup (da_nil)) (da_cons (de_tup (da_nil)) (da_nil)))) (dg_tup rfl (dgs_cons (dg_name (i := 2) nd rfl (by first | exact .inl rfl | exact .inr rfl)) (dgs_cons (dg_name (i := 3) nd rfl (by first | exact .inl rfl | exact .inr rfl)) (dgs_nil)))))
    (dss_cons (ds_for PassesOwn.never rfl (di_rg1 (by rfl) m_range (da_cons (de_bin o_add (de_int) (de_callo D__law_next (hr.mono (by decide)) (by rfl) (da_cons (dv 0) (da_cons (de_callB (b_max2 rfl) (by rfl) m_max (by decide +kernel) (da_cons (de_int) (da_cons (de_bin o_div (dv 1) (de_int)) (da_nil)))) (da_nil))))) (da_nil))) (dg_name (i := 4) nd rfl (by first | exact .inl rfl | exact .inr rfl)) (dss_cons (ds_set (i := 2) nd rfl (by first | exact .inl rfl | exact .inr rfl) (de_bin o_add (dv 2) (de_tup (da_cons (de_bin o_sub (de_int) (de_bin o_add (de_bin o_mul (de_int) (dv 4)) (de_int))) (da_cons (de_int) (da_cons (de_bin o_add (de_bin o_mul (de_int) (dv 4)) (de_int)) (da_nil)))))))
    (dss_one (ds_set (i := 3) nd rfl (by first | exact .inl rfl | exact .inr rfl) (de_bin o_add (dv 3) (de_tup (da_cons (de_bin o_add (de_bin o_mul (de_int) (dv 4)) (de_int)) (da_cons (de_bin o_sub (de_int) (de_bin o_add (de_bin o_mul (de_int) (dv 4)) (de_int))) (da_cons (de_int) (da_nil))))))))))
    (dss_one (ds_ret (de_tup (da_cons (dv 2) (da_cons (dv 3) (da_nil)))))))
abbrev s__law_history : Stmt := topS 18
theorem sc__law_history : FnScope ["_law_deck_here", "_law_many", "_law_most", "_law_state", "_law_k"] ["_law_deck_here", "_law_many", "_law_most"] (defScope s__law_history) := ⟨rfl, rfl, rfl, by decide +kernel, rfl, by decide +kernel, by decide +kernel⟩
set_option maxHeartbeats 4000000 in
theorem der__law_history {P : Program} {w : World} {K : PySem.W.Frag} {mg : Str → Option Value} {base : Heap} {f : Addr} {fd : FuncData} (F : Fun K "_law_history" "_law_history" s__law_history f fd) (D__law_next : DFo P w K mg base 1 "_law_next" 2 (dFn 4 B_law_next_74a4)) (D__law_grown : DFo P w K mg base 3 "_law_grown" 2 (dFn 14 B_law_grown_680b)) (D__law_begun : DFo P w K mg base 3 "_law_begun" 2 (dFn 3 B_law_begun_2a66)) (D__law_domino : DFo P w K mg base 2 "_law_domino" 2 (dFn 5 B_law_domino_a8d9)) (m_range : mg "range" = none): FnOk P w K mg base CX0 4 f fd ["_law_deck_here", "_law_many", "_law_most"] (lP ⟨P, w, K⟩ 3 (dFn 5 B_law_history_9bf0)) := by
  refine fn_o F sc__law_history rfl fun cdv A outer s H E hr => ?_
  have nd := sc__law_history.nd
  have u64 := hr.units
  have u65 : (A.deeper (envOfC "_law_history" (defScope s__law_history) s.heap.objs.size f cdv)).units + 65 < cLine := by have := hr.un; omega
  have u1 : (A.deeper (envOfC "_law_history" (defScope s__law_history) s.heap.objs.size f cdv)).units + 1 < cLine := by have := hr.un; omega
  unfold B_law_history_9bf0
  exact dss_cons (ds_if (DW.dt (dw_and (dt_cmp o_gt (dv 1) (de_int)) (dw_and1 (dt_cmp (o_eq u64) (de_callo D__law_next (hr.mono (by decide)) (by rfl) (da_cons (dv 0) (da_cons (de_int) (da_nil)))) (de_int))))) (dss_one (ds_ret (de_callo D__law_domino (hr.mono (by decide)) (by rfl) (da_cons (dv 0) (da_cons (dv 2) (da_nil)))))) (dss_nil))
    (dss_cons (ds_set (i := 3) nd rfl (by first | exact .inl rfl | exact .inr rfl) (de_callo D__law_begun (hr.mono (by decide)) (by rfl) (da_cons (dv 0) (da_cons (dv 1) (da_nil)))))
    (dss_cons (ds_for PassesOwn.never rfl (di_rg1 (by rfl) m_range (da_cons (de_callo D__law_next (hr.mono (by decide)) (by rfl) (da_cons (dv 0) (da_cons (de_bin o_add (dv 2) (de_int)) (da_nil)))) (da_nil))) (dg_name (i := 4) nd rfl (by first | exact .inl rfl | exact .inr rfl)) (dss_one (ds_set (i := 3) nd rfl (by first | exact .inl rfl | exact .inr rfl) (de_callo D__law_grown (hr.mono (by decide)) (by rfl) (da_cons (dv 0) (da_cons (dv 3) (da_nil)))))))
    (dss_one (ds_ret (de_ix o_ix (dv 3) (de_int))))))
abbrev s__law_deck : Stmt := topS 11
theorem sc__law_deck : FnScope ["_law_script", "_law_cell"] ["_law_script"] (defScope s__law_deck) := ⟨rfl, rfl, rfl, by decide +kernel, rfl, by decide +kernel, by decide +kernel⟩
set_option maxHeartbeats 4000000 in
theorem der__law_deck {P : Program} {w : World} {K : PySem.W.Frag} {mg : Str → Option Value} {base : Heap} {f : Addr} {fd : FuncData} (F : Fun K "_law_deck" "_law_deck" s__law_deck f fd)  (m_len : mg "len" = none) (m_abs : mg "abs" = none): FnOk P w K mg base CX0 1 f fd ["_law_script"] (lP ⟨P, w, K⟩ 1 (dFn 2 B_law_deck_74a9)) := by
  refine fn_o F sc__law_deck rfl fun cdv A outer s H E hr => ?_
  have nd := sc__law_deck.nd
  have u64 := hr.units
  have u65 : (A.deeper (envOfC "_law_deck" (defScope s__law_deck) s.heap.objs.size f cdv)).units + 65 < cLine := by have := hr.un; omega
  have u1 : (A.deeper (envOfC "_law_deck" (defScope s__law_deck) s.heap.objs.size f cdv)).units + 1 < cLine := by have := hr.un; omega
  unfold B_law_deck_74a9
  exact dss_one (ds_ret (de_lst (da_cons (de_lc (own := [("_law_cell", 1)]) rfl nd (di_val (de_sl (dv 0) (do_none) (do_some (de_int)))) (blkOk_by (by first | decide +kernel | rfl)) (by decide) (fun _ _ _ _ _ => dg_name (i := 1) nd rfl (by first | exact .inl rfl | exact .inr rfl)) (fun _ _ _ _ _ => dts_nil) (fun _ _ _ _ _ => de_callB b_abs (by rfl) m_abs (by decide +kernel) (da_cons (dv 1) (da_nil)))) (da_cons (de_int) (da_cons (de_int) (da_cons (de_bin o_add (de_int) (de_bin o_mul (de_int) (de_callB b_len (by rfl) m_len PySem.boot_len (da_cons (dv 0) (da_nil))))) (da_nil)))))))
abbrev s_law : Stmt := topS 29
theorem sc_law : FnScope ["_law_script", "_law_deck_here", "_law_turn", "_law_rows", "_law_kept", "_law_good", "_law_lost_here", "_law_due_here", "_law_cut", "_law_process"] ["_law_script"] (defScope s_law) := ⟨rfl, rfl, rfl, by decide +kernel, rfl, by decide +kernel, by decide +kernel⟩
set_option maxHeartbeats 4000000 in
theorem der_law {P : Program} {w : World} {K : PySem.W.Frag} {mg : Str → Option Value} {base : Heap} {f : Addr} {fd : FuncData} (F : Fun K "law" "law" s_law f fd) (D__law_lost : DFo P w K mg base 2 "_law_lost" 2 (dFn 3 B_law_lost_0080)) (D__law_same : DFn P w K mg base 1 "_law_same" 2 (dFn 2 B_law_same_7705)) (D__law_fallen : DFo P w K mg base 4 "_law_fallen" 2 (dFn 2 B_law_fallen_e0f3)) (D__law_due : DFo P w K mg base 2 "_law_due" 3 (dFn 9 B_law_due_8e3c)) (D__law_cuts : DFo P w K mg base 1 "_law_cuts" 1 (dFn 6 B_law_cuts_850b)) (D__law_fits : DFo P w K mg base 3 "_law_fits" 2 (dFn 8 B_law_fits_b0d3)) (D__law_history : DFo P w K mg base 4 "_law_history" 3 (dFn 5 B_law_history_9bf0)) (D__law_deck : DFo P w K mg base 1 "_law_deck" 1 (dFn 2 B_law_deck_74a9)) (m_range : mg "range" = none) (m_len : mg "len" = none) (m_repr : mg "repr" = none): FnG P w K mg base 5 f fd ["_law_script"] (lP ⟨P, w, K⟩ 1 (dFn 10 B_law_1742)) := by
  refine fn_d F sc_law rfl fun cdv A outer s H E hg hr => ?_
  have nd := sc_law.nd
  have u64 := hr.units
  have u65 : (A.deeper (envOfC "law" (defScope s_law) s.heap.objs.size f cdv)).units + 65 < cLine := by have := hr.un; omega
  have u1 : (A.deeper (envOfC "law" (defScope s_law) s.heap.objs.size f cdv)).units + 1 < cLine := by have := hr.un; omega
  unfold B_law_1742
  exact dss_cons (ds_set (i := 1) nd rfl (by first | exact .inl rfl | exact .inr rfl) (de_callo D__law_deck (hr.mono (by decide)) (by rfl) (da_cons (dv 0) (da_nil))))
    (dss_cons (ds_for PassesOwn.never rfl (di_rg1 (by rfl) m_range (da_cons (de_int) (da_nil))) (dg_name (i := 2) nd rfl (by first | exact .inl rfl | exact .inr rfl)) (dss_cons (ds_set (i := 3) nd rfl (by first | exact .inl rfl | exact .inr rfl) (de_callo D__law_history (hr.mono (by decide)) (by rfl) (da_cons (dv 1) (da_cons (de_int) (da_cons (de_int) (da_nil))))))
    (dss_cons (ds_par (i := 4) (j := 5) (by rfl) nd rfl rfl (by decide) rfl rfl (da_cons (de_callB (b_repr hg u64) (by rfl) m_repr (by decide +kernel) (da_cons (dv 3) (da_nil))) (da_cons (de_lc (own := [("_law_cut", 8)]) rfl nd (di_val (de_callo D__law_cuts (hr.mono (by decide)) (by rfl) (da_cons (dv 3) (da_nil)))) (blkOk_by (by first | decide +kernel | rfl)) (by decide) (fun _ _ _ _ _ => dg_name (i := 8) nd rfl (by first | exact .inl rfl | exact .inr rfl)) (fun _ _ _ _ _ => dts_one (dt_val (de_callo D__law_fits (hr.mono (by decide)) (by rfl) (da_cons (dv 3) (da_cons (dv 8) (da_nil)))))) (fun _ _ _ _ _ => dv 8)) (da_nil))) (by rfl))
    (dss_one (ds_for PassesOwn.never rfl (di_val (de_bin o_add (de_lst (da_cons (de_tup (da_nil)) (da_cons (de_callo D__law_lost (hr.mono (by decide)) (by rfl) (da_cons (dv 1) (da_cons (dv 3) (da_nil)))) (da_nil)))) (de_lc (own := [("_law_process", 9)]) rfl nd (di_rg1 (by rfl) m_range (da_cons (de_callB b_len (by rfl) m_len PySem.boot_len (da_cons (dv 3) (da_nil))) (da_nil))) (blkOk_by (by first | decide +kernel | rfl)) (by decide) (fun _ _ _ _ _ => dg_name (i := 9) nd rfl (by first | exact .inl rfl | exact .inr rfl)) (fun _ _ _ _ _ => dts_nil) (fun _ _ _ _ _ => de_tup (da_cons (dv 9) (da_nil)))))) (dg_name (i := 6) nd rfl (by first | exact .inl rfl | exact .inr rfl)) (dss_cons (ds_set (i := 7) nd rfl (by first | exact .inl rfl | exact .inr rfl) (de_callo D__law_due (hr.mono (by decide)) (by rfl) (da_cons (dv 3) (da_cons (dv 6) (da_cons (dv 5) (da_nil))))))
    (dss_cons (ds_if (DW.dt (dw_or (dt_cmp (o_nin u65) (dv 7) (dv 5)) (dw_or1 (dt_not (dt_val (de_call D__law_same hg (hr.mono (by decide)) (by rfl) (da_cons (de_callo D__law_fallen (hr.mono (by decide)) (by rfl) (da_cons (dv 3) (da_cons (dv 6) (da_nil)))) (da_cons (dv 7) (da_nil))))))))) (dss_one (ds_ret (de_bl))) (dss_nil))
    (dss_one (ds_if (DW.dt (dw_or (dt_not (dt_val (de_call D__law_same hg (hr.mono (by decide)) (by rfl) (da_cons (de_callo D__law_fallen (hr.mono (by decide)) (by rfl) (da_cons (dv 3) (da_cons (dv 6) (da_nil)))) (da_cons (dv 7) (da_nil)))))) (dw_or1 (dt_cmp (o_ne u64) (de_callB (b_repr hg u64) (by rfl) m_repr (by decide +kernel) (da_cons (dv 3) (da_nil))) (dv 4))))) (dss_one (ds_ret (de_bl))) (dss_nil))))))))))
    (dss_one (ds_ret (de_bl))))
end Sv

/-! Over data: the draws. -/
namespace Sv
open PySem L2
theorem seqP {t u : DTS} {C : DEnds} {env : Env} {S : Sto} (P : Env → Sto → Prop) (h1 : ∀ C' : DEnds, C'.rt = C.rt → C'.bk = C.bk → C'.ct = C.ct → (∀ e s, P e s → C'.nx e s) → t C' env S) (h2 : ∀ e s, P e s → u C e s) : dSeq t u C env S :=
  h1 { C with nx := u C } rfl rfl rfl h2
theorem iteB {c : Bool} {A B : Prop} (h1 : c = true → A) (h2 : c = false → B) : if c = true then A else B := by
  cases c with
  | true => exact (if_pos rfl).mpr (h1 rfl)
  | false => exact (if_neg Bool.false_ne_true).mpr (h2 rfl)
theorem goT {A B : Prop} (h : A) : if true = true then A else B := (if_pos rfl).mpr h
theorem goF {A B : Prop} (h : B) : if false = true then A else B := (if_neg Bool.false_ne_true).mpr h
/-- all that stands stays, but at some places -/
def SK (P : Addr → Prop) (S S' : Sto) : Prop := ∀ a o, ¬ P a → S a = some o → S' a = some o
theorem SK.refl {P : Addr → Prop} (S : Sto) : SK P S S := fun _ _ _ h => h
theorem SK.trans {P : Addr → Prop} {S S1 S2 : Sto} (x : SK P S S1) (y : SK P S1 S2) : SK P S S2 := fun a o n h => y a o n (x a o n h)
theorem SK.put {P : Addr → Prop} {S : Sto} {p : Addr} {o : Ob} (h : P p) : SK P S (S.put p o) := fun a u n e => by
  rw [Sto.ne fun z => n (by rw [z]; exact h)]
  exact e
theorem SK.new {P : Addr → Prop} {S : Sto} {p : Addr} {o : Ob} (h : S p = none) : SK P S (S.put p o) := fun a u _ e => by
  rw [Sto.ne fun z => by rw [z, h] at e; cases e]
  exact e
theorem SK.mono {P Q : Addr → Prop} {S S' : Sto} (x : SK P S S') (h : ∀ a, P a → Q a) : SK Q S S' := fun a o n e => x a o (fun z => n (h a z)) e
/-- only new things -/
abbrev SG : Sto → Sto → Prop := SK fun _ => False
theorem SG.sk {P : Addr → Prop} {S S' : Sto} (x : SG S S') : SK P S S' := x.mono fun _ h => h.elim
theorem noTup (a : Addr) : (∀ ds, D.ref a ≠ D.tup ds) ∧ ∀ ds, D.ref a ≠ D.wtup ds := ⟨fun _ z => (nomatch z), fun _ z => (nomatch z)⟩
/-- the draws' state -/
def Deck (st big : Addr) (S : Sto) : Prop := st ≠ big ∧ ∃ (bs : List Int) (a b c : Int), S st = some (.lst [.ref big, .int a, .int b, .int c]) ∧ S big = some (.lst (intsD bs))
abbrev DP (st big : Addr) : Addr → Prop := fun a => a = st ∨ a = big
theorem Deck.keep {st big : Addr} {S S' : Sto} (h : Deck st big S) (k : SG S S') : Deck st big S' := by
  obtain ⟨h1, bs, a, b, c, h2, h3⟩ := h
  exact ⟨h1, bs, a, b, c, k _ _ (fun z => z) h2, k _ _ (fun z => z) h3⟩
theorem Deck.keepP {st big : Addr} {S S' : Sto} {P : Addr → Prop} (h : Deck st big S) (k : SK P S S') (n1 : ¬ P st) (n2 : ¬ P big) : Deck st big S' := by
  obtain ⟨h1, bs, a, b, c, h2, h3⟩ := h
  exact ⟨h1, bs, a, b, c, k _ _ n1 h2, k _ _ n2 h3⟩
theorem shaped_ints (bs : List Int) : SeqAt.shaped (.list (bs.map PyData.int)) = true := shaped_lst bs
theorem pys_ints {S : Sto} : ∀ bs : List Int, Pys S (intsD bs) (bs.map PyData.int)
  | [] => .nil
  | b :: r => .cons (.int b) (pys_ints r)
theorem w_next {st big : Addr} {S : Sto} {m : Int} {R : DK} (h : Deck st big S) (h0 : 0 < m) (h1 : m < 1000000) (k : ∀ d S', 0 ≤ d → d < m → Deck st big S' → SK (DP st big) S S' → R (.int d) S') : dFn 4 B_law_next_74a4 [.ref st, .int m] S R := by
  obtain ⟨hne, bs, a, b, c, hs, hb⟩ := h
  have pow : ((10 : Int) ^ (18 : Int).toNat) = 1000000000000000000 := by decide
  refine seqP (fun env S' => ∃ (x2 : Option D) (bs : List Int) (a b c : Int), env = [some (.ref st), some (.int m), x2, none] ∧ S' st = some (.lst [.ref big, .int a, .int b, .int c]) ∧ S' big = some (.lst (intsD bs)) ∧ SK (DP st big) S S') (fun C' _ _ _ hnx => ?_) ?_
  · refine ⟨fun n env S' => ∃ (x2 : Option D) (bs : List Int) (a b c : Int), n = bs.length ∧ env = [some (.ref st), some (.int m), x2, none] ∧ S' st = some (.lst [.ref big, .int a, .int b, .int c]) ∧ S' big = some (.lst (intsD bs)) ∧ SK (DP st big) S S', ⟨_, _, bs, a, b, c, rfl, rfl, hs, hb, .refl S⟩, ?_⟩
    rintro n env S1 ⟨x2, bs, a, b, c, rfl, rfl, hs, hb, sk⟩
    refine ⟨_, rfl, _, 1, _, seqOf_lst hs, rfl, rfl, _, rfl, iteB (fun ha => ?_) (fun _ => goF (hnx _ _ ⟨_, bs, a, b, c, rfl, hs, hb, sk⟩))⟩
    refine ⟨_, rfl, _, 0, _, seqOf_lst hs, rfl, rfl, rfl, fun p np => ?_⟩
    have pst : p ≠ st := fun z => by rw [z, hs] at np; cases np
    have pbig : p ≠ big := fun z => by rw [z, hb] at np; cases np
    have hs2 : (S1.put p (.lst [])) st = _ := (Sto.ne (Ne.symm pst)).trans hs
    have hb2 : (S1.put p (.lst [])) big = _ := (Sto.ne (Ne.symm pbig)).trans hb
    have sk2 : SK (DP st big) S (S1.put p (.lst [])) := sk.trans (.new np)
    have hp2 : (S1.put p (.lst [])) p = some (.lst []) := Sto.same
    generalize S1.put p (.lst []) = S2 at hs2 hb2 sk2 hp2 ⊢
    refine ⟨.list (bs.map .int), .list [], .lst hb2 (pys_ints bs), .lst hp2 .nil, shaped_ints bs, by decide +kernel, _, rfl, ?_⟩
    cases bs with
    | nil => exact goF (hnx _ _ ⟨_, [], a, b, c, rfl, hs2, hb2, sk2⟩)
    | cons e bs =>
      refine goT ⟨_, rfl, _, 0, _, seqOf_lst hs2, rfl, rfl, ⟨rfl, _, seqOf_lst hb2, noTup _⟩, big, _, 0, 0, .int e, rfl, rfl, hb2, by decide, by decide, ?_, rfl, ?_⟩
      · exact seqIndex_of (by decide) (by simp [intsD])
      have hs3 : (S2.put big (.lst ((intsD (e :: bs)).eraseIdx 0))) st = _ := (Sto.ne hne).trans hs2
      have hb3 : (S2.put big (.lst ((intsD (e :: bs)).eraseIdx 0))) big = some (.lst (intsD bs)) := Sto.same
      have sk3 : SK (DP st big) S (S2.put big (.lst ((intsD (e :: bs)).eraseIdx 0))) := sk2.trans (.put (.inr rfl))
      generalize S2.put big (.lst ((intsD (e :: bs)).eraseIdx 0)) = S3 at hs3 hb3 sk3 ⊢
      refine ⟨_, rfl, _, 3, _, seqOf_lst hs3, rfl, rfl, .inr ⟨by decide, by decide⟩, _, rfl, by decide, _, rfl, st, _, 3, 3, rfl, rfl, hs3, rfl, ?_⟩
      have hs4 : (S3.put st (.lst ([D.ref big, .int a, .int b, .int c].set 3 (.int ((c * 48271 + e + 7) % 2147483647))))) st = some (.lst [D.ref big, .int a, .int b, .int ((c * 48271 + e + 7) % 2147483647)]) := Sto.same
      have hb4 : (S3.put st (.lst ([D.ref big, .int a, .int b, .int c].set 3 (.int ((c * 48271 + e + 7) % 2147483647))))) big = _ := (Sto.ne (Ne.symm hne)).trans hb3
      have sk4 : SK (DP st big) S (S3.put st (.lst ([D.ref big, .int a, .int b, .int c].set 3 (.int ((c * 48271 + e + 7) % 2147483647))))) := sk3.trans (.put (.inl rfl))
      generalize S3.put st (.lst ([D.ref big, .int a, .int b, .int c].set 3 (.int ((c * 48271 + e + 7) % 2147483647)))) = S4 at hs4 hb4 sk4 ⊢
      refine ⟨_, rfl, _, rfl, ⟨by decide, by decide, by decide⟩, _, rfl, .inr (by split <;> exact ⟨by decide, by decide⟩), _, rfl, st, _, 1, 1, rfl, rfl, hs4, rfl, bs.length, Nat.lt_succ_self _, ?_⟩
      exact ⟨_, bs, _, _, _, rfl, rfl, Sto.same, (Sto.ne (Ne.symm hne)).trans hb4, sk4.trans (.put (.inl rfl))⟩
  · rintro env S1 ⟨x2, bs, a, b, c, rfl, hs, hb, sk⟩
    refine ⟨_, rfl, _, 1, _, seqOf_lst hs, rfl, rfl, _, rfl, iteB (fun ha => ?_) (fun _ => ?_)⟩
    · refine ⟨_, rfl, _, 1, _, seqOf_lst hs, rfl, rfl, _, rfl, h0, ?_⟩
      refine ⟨_, rfl, _, 1, _, seqOf_lst hs, rfl, rfl, _, rfl, ⟨h0, by omega⟩, _, rfl, st, _, 1, 1, rfl, rfl, hs, rfl, ?_⟩
      exact ⟨_, rfl, k _ _ (Int.emod_nonneg _ (by omega)) (Int.emod_lt_of_pos _ h0) ⟨hne, bs, _, _, _, Sto.same, (Sto.ne (Ne.symm hne)).trans hb⟩ (sk.trans (.put (.inl rfl)))⟩
    · refine ⟨_, rfl, _, 2, _, seqOf_lst hs, rfl, rfl, _, rfl, st, _, 2, 2, rfl, rfl, hs, rfl, ?_⟩
      have hs4 : (S1.put st (.lst ([D.ref big, .int a, .int b, .int c].set 2 (.int (b + 1))))) st = some (.lst [D.ref big, .int a, .int (b + 1), .int c]) := Sto.same
      have hb4 : (S1.put st (.lst ([D.ref big, .int a, .int b, .int c].set 2 (.int (b + 1))))) big = _ := (Sto.ne (Ne.symm hne)).trans hb
      have sk4 : SK (DP st big) S (S1.put st (.lst ([D.ref big, .int a, .int b, .int c].set 2 (.int (b + 1))))) := sk.trans (.put (.inl rfl))
      generalize S1.put st (.lst ([D.ref big, .int a, .int b, .int c].set 2 (.int (b + 1)))) = S4 at hs4 hb4 sk4 ⊢
      refine ⟨_, rfl, _, 3, _, seqOf_lst hs4, rfl, rfl, .inr ⟨by decide, by decide⟩, _, rfl, _, 2, _, seqOf_lst hs4, rfl, rfl, .inl ⟨by decide, by decide⟩, by decide, _, rfl, st, _, 3, 3, rfl, rfl, hs4, rfl, ?_⟩
      generalize hv : (c * 69621 + 30011 * (b + 1) + 12345) % 2147483647 = v
      have v0 : 0 ≤ v := hv ▸ Int.emod_nonneg _ (by decide)
      have v1 : v < 2147483647 := hv ▸ Int.emod_lt_of_pos _ (by decide)
      have hs5 : (S4.put st (.lst ([D.ref big, .int a, .int (b + 1), .int c].set 3 (.int v)))) st = some (.lst [D.ref big, .int a, .int (b + 1), .int v]) := Sto.same
      have hb5 : (S4.put st (.lst ([D.ref big, .int a, .int (b + 1), .int c].set 3 (.int v)))) big = _ := (Sto.ne (Ne.symm hne)).trans hb4
      have sk5 : SK (DP st big) S (S4.put st (.lst ([D.ref big, .int a, .int (b + 1), .int c].set 3 (.int v)))) := sk4.trans (.put (.inl rfl))
      generalize S4.put st (.lst ([D.ref big, .int a, .int (b + 1), .int c].set 3 (.int v))) = S5 at hs5 hb5 sk5 ⊢
      refine ⟨_, rfl, _, 3, _, seqOf_lst hs5, rfl, rfl, _, rfl, _, 3, _, seqOf_lst hs5, rfl, rfl, .inl ⟨by omega, by omega⟩, by decide, ⟨by decide, by decide⟩, _, rfl, h0, ?_⟩
      exact k _ _ (Int.emod_nonneg _ (by omega)) (Int.emod_lt_of_pos _ h0) ⟨hne, bs, _, _, _, hs5, hb5⟩ sk5
end Sv

/-! histories as the laws grow them: mathematics -/
namespace Sv
open PySem PySem.Spec PyProof.Rows L2
inductive Grown (c : Nat) (nm : List Int) : List (List Int) → List (Int × Int) → Nat → Nat → Prop
  | start : Grown c nm (List.replicate c []) [] 0 0
  | skip {r o u k} : Grown c nm r o u k → Grown c nm r o u (k + 1)
  | save {r o u k p row} : Grown c nm r o u k → r[p]? = some row → Grown c nm (r.set p (row ++ [0])) o u (k + 1)
  | send {r o u k p row m} : Grown c nm r o u k → r[p]? = some row → nm[u]? = some m → Grown c nm (r.set p (row ++ [m])) (o ++ [(m, (p : Int))]) (u + 1) (k + 1)
  | recv {r o u k row j m q} {p : Nat} : Grown c nm r o u k → r[p]? = some row → o[j]? = some (m, q) → q ≠ (p : Int) → Grown c nm (r.set p (row ++ [0 - m])) (o.eraseIdx j) u (k + 1)
def names24 : List Int := (List.range 24).map fun (i : Nat) => (1 : Int) + (i : Nat)
/-- the rows of a history that the law may draw: at most `many` rows, `most` events -/
def Good (many most : Nat) (rows : List (List Int)) : Prop := ∃ (c : Nat) (nm : List Int) (o : List (Int × Int)) (u k : Nat), 1 ≤ c ∧ c ≤ many ∧ nm.Perm names24 ∧ Grown c nm rows o u k ∧ k ≤ most
theorem Grown.len {c : Nat} {nm : List Int} {r : List (List Int)} {o : List (Int × Int)} {u k : Nat} (h : Grown c nm r o u k) : r.length = c := by
  induction h with
  | start => exact List.length_replicate ..
  | skip _ ih => exact ih
  | save _ _ ih => rw [List.length_set]; exact ih
  | send _ _ _ ih => rw [List.length_set]; exact ih
  | recv _ _ _ _ ih => rw [List.length_set]; exact ih
theorem sum_len_set {r : List (List Int)} {p : Nat} {row : List Int} {v : Int} (h : r[p]? = some row) : ((r.set p (row ++ [v])).map List.length).sum = (r.map List.length).sum + 1 := by
  induction r generalizing p with
  | nil => simp at h
  | cons a r ih =>
    cases p with
    | zero =>
      have e : a = row := Option.some.inj h
      subst e
      simp only [List.set_cons_zero, List.map_cons, List.sum_cons, List.length_append, List.length_singleton]
      omega
    | succ p =>
      have := ih (p := p) h
      simp only [List.set_cons_succ, List.map_cons, List.sum_cons, this]
      omega
theorem Grown.events {c : Nat} {nm : List Int} {r : List (List Int)} {o : List (Int × Int)} {u k : Nat} (h : Grown c nm r o u k) : (r.map List.length).sum ≤ k := by
  induction h with
  | start => simp
  | skip _ ih => omega
  | save _ h ih => rw [sum_len_set h]; omega
  | send _ h _ ih => rw [sum_len_set h]; omega
  | recv _ h _ _ ih => rw [sum_len_set h]; omega
theorem Grown.opens_le {c : Nat} {nm : List Int} {r : List (List Int)} {o : List (Int × Int)} {u k : Nat} (h : Grown c nm r o u k) : o.length ≤ k := by
  induction h with
  | start => exact Nat.le_refl _
  | skip _ ih => omega
  | save _ _ ih => omega
  | send _ _ _ ih => rw [List.length_append, List.length_singleton]; omega
  | recv _ _ _ _ ih =>
    rw [List.length_eraseIdx]
    split <;> omega
theorem len_le_sum {r : List (List Int)} {p : Nat} {row : List Int} (h : r[p]? = some row) : row.length ≤ (r.map List.length).sum := by
  induction r generalizing p with
  | nil => simp at h
  | cons a r ih =>
    cases p with
    | zero =>
      have e : a = row := Option.some.inj h
      subst e
      simp only [List.map_cons, List.sum_cons]
      omega
    | succ p =>
      have := ih (p := p) h
      simp only [List.map_cons, List.sum_cons]
      omega
theorem at_erase {α : Type} : ∀ (l : List α) (j i : Nat), (l.eraseIdx j)[i]? = if i < j then l[i]? else l[i + 1]? := fun l j i => List.getElem?_eraseIdx ..
def pD (p : Int × Int) : PyData := .tuple [.int p.1, .int p.2]
theorem pD_eqv (a b : Int × Int) : PyData.eqv (pD a) (pD b) = decide (a = b) := by
  obtain ⟨x, y⟩ := a
  obtain ⟨z, w⟩ := b
  have e : PyData.eqv (pD (x, y)) (pD (z, w)) = ((x == z) && ((y == w) && true)) := by simp only [pD, PyData.eqv, PyData.eqvAll]
  rw [e, Bool.and_true]
  by_cases h1 : x = z
  · by_cases h2 : y = w
    · subst h1 h2
      simp
    · have : (y == w) = false := beq_eq_false_iff_ne.mpr h2
      rw [this, Bool.and_false]
      exact (decide_eq_false fun q => h2 (Prod.mk.inj q).2).symm
  · have : (x == z) = false := beq_eq_false_iff_ne.mpr h1
    rw [this, Bool.false_and]
    exact (decide_eq_false fun q => h1 (Prod.mk.inj q).1).symm
theorem pD_plain : ∀ o : List (Int × Int), PyData.plainAll (o.map pD) = true
  | [] => rfl
  | p :: r => by
    have h := pD_plain r
    show (PyData.plain (pD p) && PyData.plainAll (r.map pD)) = true
    rw [h]
    rfl
theorem pD_lay : ∀ o : List (Int × Int), PyData.canLayAll0 (o.map pD) = true
  | [] => by simp [PyData.canLayAll0]
  | p :: r => by
    have h := pD_lay r
    simp only [List.map_cons, PyData.canLayAll0, h, pD, PyData.canLay0, Bool.and_self]
theorem pD_depth : ∀ o : List (Int × Int), PyData.depthAll (o.map pD) ≤ 1
  | [] => by simp [PyData.depthAll]
  | p :: r => by
    have h := pD_depth r
    have h2 : (pD p).depth = 1 := by simp [pD, PyData.depth, PyData.depthAll]
    simp only [List.map_cons, PyData.depthAll]
    omega
theorem shaped_pairs (o : List (Int × Int)) : SeqAt.shaped (.list (o.map pD)) = true := by
  have h1 := pD_lay o
  have h2 := pD_depth o
  show (PyData.canLay0 (.list (o.map pD)) && decide (PyData.depth (.list (o.map pD)) ≤ 64)) = true
  simp only [PyData.canLay0, PyData.depth, h1, Bool.true_and]
  exact decide_eq_true (by omega)
theorem flat_rep {α : Type} (x : α) : ∀ n : Nat, (List.replicate n [x]).flatten = List.replicate n x
  | 0 => rfl
  | n + 1 => by rw [List.replicate_succ, List.flatten_cons, flat_rep x n]; rfl
theorem names24_len : names24.length = 24 := by decide +kernel
theorem names24_at {u : Nat} (h : u < 24) : names24[u]? = some ((u : Int) + 1) := by
  unfold names24
  rw [List.getElem?_map, List.getElem?_range h]
  show some (1 + (u : Int)) = some ((u : Int) + 1)
  rw [Int.add_comm]
theorem drop_rev {nm : List Int} {u : Nat} {m : Int} (h : nm[u]? = some m) : (nm.drop u).reverse = (nm.drop (u + 1)).reverse ++ [m] := by
  obtain ⟨hu, rfl⟩ := List.getElem?_eq_some_iff.mp h
  rw [List.drop_eq_getElem_cons hu, List.reverse_cons]
theorem filter_erase {α : Type} [DecidableEq α] : ∀ {l : List α} {j : Nat} {x : α}, l.Nodup → l[j]? = some x → l.filter (fun y => !decide (y = x)) = l.eraseIdx j
  | [], j, x, _, h => by simp at h
  | a :: r, 0, x, hn, h => by
    obtain rfl : a = x := Option.some.inj h
    have hr := (List.nodup_cons.mp hn).1
    rw [List.filter_cons_of_neg (by simp), List.eraseIdx_cons_zero]
    refine List.filter_eq_self.mpr fun y hy => ?_
    have : y ≠ a := fun z => hr (z ▸ hy)
    simp [this]
  | a :: r, j + 1, x, hn, h => by
    have hx : x ∈ r := List.mem_of_getElem? (i := j) h
    have ne : a ≠ x := fun z => (List.nodup_cons.mp hn).1 (z ▸ hx)
    rw [List.filter_cons_of_pos (by simp [ne]), List.eraseIdx_cons_succ, filter_erase (List.nodup_cons.mp hn).2 h]
theorem Grown.nodup {c : Nat} {nm : List Int} {r : List (List Int)} {o : List (Int × Int)} {u k : Nat} (h : Grown c nm r o u k) (hn : nm.Nodup) : (o.map (·.1)).Nodup ∧ ∀ x ∈ o, x.1 ∈ nm.take u := by
  induction h with
  | start => exact ⟨List.nodup_nil, fun x z => nomatch z⟩
  | skip _ ih => exact ih
  | save _ _ ih => exact ih
  | @send r o u k p row m g h hu ih =>
    have tk : nm.take (u + 1) = nm.take u ++ [m] := by
      rw [List.take_add_one, hu]
      rfl
    have hnot : m ∉ nm.take u := fun z => by
      have h2 : (nm.take (u + 1)).Nodup := hn.sublist (List.take_sublist _ _)
      rw [tk] at h2
      exact (List.nodup_append.mp h2).2.2 m z m (List.mem_singleton.mpr rfl) rfl
    refine ⟨?_, fun x hx => ?_⟩
    · rw [List.map_append]
      refine List.nodup_append.mpr ⟨ih.1, (by simp), fun a ha b hb => ?_⟩
      rw [List.mem_singleton.mp hb]
      obtain ⟨y, hy, rfl⟩ := List.mem_map.mp ha
      intro z
      have h3 := ih.2 y hy
      rw [show y.1 = m from z] at h3
      exact hnot h3
    · rw [tk]
      rcases List.mem_append.mp hx with z | z
      · exact List.mem_append_left _ (ih.2 x z)
      · rw [List.mem_singleton.mp z]
        exact List.mem_append_right _ (List.mem_singleton.mpr rfl)
  | @recv r o u k row j m q p g h hj _ ih =>
    refine ⟨ih.1.sublist ((List.eraseIdx_sublist _ _).map _), fun x hx => ih.2 x ((List.eraseIdx_sublist _ _).subset hx)⟩
theorem nodup_of_map {α β : Type} (f : α → β) {l : List α} (h : (l.map f).Nodup) : l.Nodup := (List.pairwise_map.mp h).imp fun n z => n (by rw [z])
theorem names_nd : names24.Nodup := by decide +kernel
theorem set_cat {α : Type} {l : List α} {p : Nat} {x : α} (hp : p < l.length) : (l.take p ++ [x]) ++ l.drop (p + 1) = l.set p x := by
  rw [List.set_eq_take_append_cons_drop, if_pos hp, List.append_assoc]
  rfl
theorem pD_shaped (p : Int × Int) : SeqAt.shaped (pD p) = true := shaped_tup [p.1, p.2]
def dOnes : Nat → List Int
  | 0 => []
  | k + 1 => dOnes k ++ [0 - (2 * (k : Int) + 1), 0, 2 * (k : Int) + 2]
def dOthers : Nat → List Int
  | 0 => []
  | k + 1 => dOthers k ++ [2 * (k : Int) + 1, 0 - (2 * (k : Int) + 2), 0]
theorem dOnes_len : ∀ k, (dOnes k).length = 3 * k
  | 0 => rfl
  | k + 1 => by
    show (dOnes k ++ [_, _, _]).length = _
    rw [List.length_append, dOnes_len k]
    show 3 * k + 3 = _
    omega
theorem dOthers_len : ∀ k, (dOthers k).length = 3 * k
  | 0 => rfl
  | k + 1 => by
    show (dOthers k ++ [_, _, _]).length = _
    rw [List.length_append, dOthers_len k]
    show 3 * k + 3 = _
    omega
theorem dGrown : ∀ k : Nat, k ≤ 12 → Grown 2 names24 [dOnes k, dOthers k] [] (2 * k) (6 * k)
  | 0, _ => .start
  | k + 1, h => by
    have ih := dGrown k (by omega)
    have e1 : names24[2 * k]? = some (2 * (k : Int) + 1) := by
      rw [names24_at (by omega)]
      congr 1
    have e2 : names24[2 * k + 1]? = some (2 * (k : Int) + 2) := by
      rw [names24_at (by omega)]
      congr 1
    have g1 := Grown.send (p := 1) ih rfl e1
    have g2 := Grown.recv (p := 0) (j := 0) g1 rfl rfl (by decide)
    have g3 := Grown.save (p := 0) g2 rfl
    have g4 := Grown.send (p := 0) g3 rfl e2
    have g5 := Grown.recv (p := 1) (j := 0) g4 rfl rfl (by decide)
    have g6 := Grown.save (p := 1) g5 rfl
    have a1 : dOnes (k + 1) = ((dOnes k ++ [0 - (2 * (k : Int) + 1)]) ++ [0]) ++ [2 * (k : Int) + 2] := by
      show dOnes k ++ [_, _, _] = _
      rw [List.append_assoc, List.append_assoc]
      rfl
    have a2 : dOthers (k + 1) = ((dOthers k ++ [2 * (k : Int) + 1]) ++ [0 - (2 * (k : Int) + 2)]) ++ [0] := by
      show dOthers k ++ [_, _, _] = _
      rw [List.append_assoc, List.append_assoc]
      rfl
    rw [a1, a2]
    exact g6

end Sv

/-! Over data: comprehensions whose turns give what a function says; the drawn histories. -/
namespace Sv
open PySem L2
/-- one turn -/
def Turn1 (g : DTG) (tt : DTT) (te : DTE) (env : Env) (d : D) (S : Sto) (K : DK) (Kn : Sto → Prop) : Prop := g d env S fun env' S' => tt env' S' fun b S2 => if b = true then te env' S2 K else Kn S2
theorem turn_y {i : Nat} {te : DTE} {env : Env} {d : D} {S : Sto} {K : DK} {Kn : Sto → Prop} (h : te (env.set i (some d)) S K) : Turn1 (dgName i) dYes te env d S K Kn := by
  show (if true = true then te (env.set i (some d)) S K else Kn S)
  exact goT h
theorem turn_n {i : Nat} {t : DTT} {te : DTE} {env : Env} {d : D} {S : Sto} {K : DK} {Kn : Sto → Prop} (h : t (env.set i (some d)) S fun b S2 => if b = true then te (env.set i (some d)) S2 K else Kn S2) : Turn1 (dgName i) t te env d S K Kn := h
theorem lc_fun {g : DTG} {tt : DTT} {te : DTE} {us : List Nat} {env : Env} {S1 : Sto} {Rp : Addr → Sto → Prop} (w : Src) (f : D → Option D) (hlen : w.items.length ≤ 100000) (live : ∀ S, SG S1 S → w.live S)
    (step : ∀ d ∈ w.items, ∀ S, SG S1 S → ∀ (K : DK) (Kn : Sto → Prop), (∀ y, f d = some y → ∀ S', SG S S' → K y S') → (f d = none → ∀ S', SG S S' → Kn S') → Turn1 g tt te (dwipe env us) d S K Kn)
    (fin : ∀ p S', S1 p = none → SG S1 S' → S' p = some (.lst (w.items.filterMap f)) → Rp p S') :
    ∀ p, S1 p = none → ∃ Pv : Nat → Sto → Prop, Pv 0 (S1.put p (.lst [])) ∧ (∀ i S, i ≤ w.items.length → Pv i S → w.live S) ∧
      (∀ i d S, w.items[i]? = some d → Pv i S → g d (dwipe env us) S fun env' S' => tt env' S' fun b S2 => if b = true then te env' S2 fun y S3 => ∃ acc, S3 p = some (.lst acc) ∧ acc.length < 1000000 ∧ Pv (i + 1) (S3.put p (.lst (acc ++ [y]))) else Pv (i + 1) S2) ∧
      ∀ S, Pv w.items.length S → Rp p S := by
  intro p np
  refine ⟨fun i S => SG S1 S ∧ S p = some (.lst ((w.items.take i).filterMap f)) ∧ i ≤ w.items.length, ⟨.new np, Sto.same, Nat.zero_le _⟩, fun i S _ h => live S h.1, fun i d S hd h => ?_, fun S h => ?_⟩
  · have hi : i < w.items.length := (List.getElem?_eq_some_iff.mp hd).1
    have ht : w.items.take (i + 1) = w.items.take i ++ [d] := by rw [List.take_add_one, hd]; rfl
    refine step d (List.mem_of_getElem? hd) S h.1 _ _ (fun y hy S' sg => ?_) (fun hn S' sg => ?_)
    · have hp : S' p = _ := sg _ _ (fun z => z) h.2.1
      have hl : ((w.items.take i).filterMap f).length ≤ 100000 := Nat.le_trans (List.length_filterMap_le ..) (by rw [List.length_take]; omega)
      refine ⟨_, hp, by omega, fun a o n e => ?_, ?_, hi⟩
      · have hap : a ≠ p := fun z => by rw [z, np] at e; cases e
        rw [Sto.ne hap]
        exact sg _ _ n (h.1 _ _ n e)
      · rw [Sto.same, ht, List.filterMap_append]
        simp [hy]
    · refine ⟨h.1.trans sg, ?_, hi⟩
      rw [sg _ _ (fun z => z) h.2.1, ht, List.filterMap_append]
      simp [hn]
  · have := h.2.1
    rw [List.take_length] at this
    exact fin p S np h.1 this
theorem fm_map {α β : Type} (f : α → β) (l : List α) : l.filterMap (fun x => some (f x)) = l.map f := by
  induction l with
  | nil => rfl
  | cons a l ih => rw [List.filterMap_cons, List.map_cons, ih]
/-- data of rows -/
def rowD (r : List Int) : D := .tup (intsD r)
def rowsD (rows : List (List Int)) : List D := rows.map rowD
theorem w_deck {ns : List Int} {S : Sto} {R : DK} (hn : ns.length ≤ 63) (k : ∀ st big S', Deck st big S' → SG S S' → S st = none → S big = none → R (.ref st) S') : dFn 2 B_law_deck_74a9 [.rol (intsD ns)] S R := by
  refine ⟨_, rfl, 63, rfl, fun p np => ⟨⟨(cutD (intsD ns) none (some 63)), fun S' => S' p = _⟩, ⟨_, Sto.same, rfl⟩, ?_⟩⟩
  have sg1 : SG S (S.put p (.lst (cutD (intsD ns) none (some 63)))) := .new np
  have hc : ∃ bs : List Int, cutD (intsD ns) none (some 63) = intsD bs := ⟨(ns.drop (HT.sIx (intsD ns).length 0 none)).take (HT.sIx (intsD ns).length (intsD ns).length (some 63) - HT.sIx (intsD ns).length 0 none), by
    unfold cutD intsD
    rw [List.map_take, List.map_drop]⟩
  have hl : (cutD (intsD ns) none (some 63)).length ≤ 63 := by
    unfold cutD
    rw [List.length_take, List.length_drop]
    have : (intsD ns).length = ns.length := List.length_map ..
    omega
  obtain ⟨bs, hbs⟩ := hc
  generalize hcc : cutD (intsD ns) none (some 63) = cc at *
  subst hbs
  have hp : (S.put p (.lst (intsD bs))) p = some (.lst (intsD bs)) := Sto.same
  generalize S.put p (.lst (intsD bs)) = S1 at *
  have hfm : (intsD bs).filterMap (fun d => match d with | .int i => some (D.int (if i < 0 then -i else i)) | _ => none) = intsD (bs.map fun i => if i < 0 then -i else i) := by
    unfold intsD
    rw [List.filterMap_map, List.map_map]
    exact fm_map _ bs
  refine lc_fun ⟨intsD bs, fun S' => S' p = _⟩ (fun d => match d with | .int i => some (D.int (if i < 0 then -i else i)) | _ => none) (by show (intsD bs).length ≤ 100000; omega) (fun S' sg => sg _ _ (fun z => z) hp) (fun d hd S2 sg K Kn hk _ => ?_) fun q S2 nq sg2 hq => ?_
  · obtain ⟨i, _, rfl⟩ := List.mem_map.mp hd
    exact turn_y ⟨_, rfl, i, rfl, hk _ rfl _ (.refl _)⟩
  · rw [hfm] at hq
    refine ⟨_, rfl, _, _, rfl, rfl, ?_⟩
    refine ⟨.inl ⟨by decide, by decide⟩, rfl, fun st nst => ?_⟩
    have hqs : q ≠ st := fun z => by rw [← z, hq] at nst; cases nst
    refine k st q _ ⟨Ne.symm hqs, _, 0, 0, _, Sto.same, (Sto.ne hqs).trans hq⟩ ((sg1.trans sg2).trans (.new nst)) ?_ ?_
    · cases e : S st with
      | none => rfl
      | some o => rw [(sg1.trans sg2) _ _ (fun z => z) e] at nst; cases nst
    · cases e : S q with
      | none => rfl
      | some o => rw [sg1 _ _ (fun z => z) e] at nq; cases nq
end Sv

/-! Over data: the drawn histories. -/
namespace Sv
open PySem L2
theorem Deck.st' {st big : Addr} {S : Sto} (h : Deck st big S) : ∃ o, S st = some o := by
  obtain ⟨_, _, _, _, _, h, _⟩ := h
  exact ⟨_, h⟩
theorem Deck.big' {st big : Addr} {S : Sto} (h : Deck st big S) : ∃ o, S big = some o := by
  obtain ⟨_, _, _, _, _, _, h⟩ := h
  exact ⟨_, h⟩
theorem Deck.fresh {st big : Addr} {S : Sto} (h : Deck st big S) {p : Addr} (n : S p = none) : p ≠ st ∧ p ≠ big := by
  obtain ⟨o, e⟩ := h.st'
  obtain ⟨u, f⟩ := h.big'
  exact ⟨fun z => (by rw [z, e] at n; cases n), fun z => (by rw [z, f] at n; cases n)⟩
theorem SK.free {P : Addr → Prop} {S S' : Sto} (k : SK P S S') {p : Addr} (n : S' p = none) (hp : ¬ P p) : S p = none := by
  cases e : S p with
  | none => rfl
  | some o => rw [k _ _ hp e] at n; cases n
theorem rg_at {lo : Int} {n i : Nat} {d : D} (h : (rgD lo n)[i]? = some d) : i < n ∧ d = .int (lo + (i : Nat)) := by
  have hi : i < n := by
    have := (List.getElem?_eq_some_iff.mp h).1
    rwa [rgD, List.length_map, List.length_range] at this
  refine ⟨hi, ?_⟩
  rw [rgD, List.getElem?_map, List.getElem?_range hi] at h
  cases h
  rfl
theorem rg_len (lo : Int) (n : Nat) : (rgD lo n).length = n := by rw [rgD, List.length_map, List.length_range]
theorem w_domino {st big : Addr} {S : Sto} {most : Nat} {R : DK} (h : Deck st big S) (h6 : 6 ≤ most) (h60 : most ≤ 60) (k : ∀ (n : Nat) S', 1 ≤ n → 6 * n ≤ most → Deck st big S' → SK (DP st big) S S' → R (.tup [rowD (dOnes n), rowD (dOthers n)]) S') : dFn 5 B_law_domino_a8d9 [.ref st, .int most] S R := by
  refine ⟨rfl, rfl, rfl, [.tup [], .tup []], rfl, .inl (.inl rfl), _, _, rfl, _, _, rfl, rfl, ?_⟩
  refine ⟨_, rfl, _, rfl, ⟨by decide, by decide⟩, 1, _, rfl, rfl, ?_⟩
  have hm : (if (most : Int) / 6 > 1 then (most : Int) / 6 else 1) = (most : Int) / 6 := by split <;> omega
  rw [hm]
  refine w_next h (by omega) (by omega) fun d S1 d0 d1 D1 k1 => ⟨_, rfl, by omega, by omega, ?_⟩
  obtain ⟨n, rfl⟩ : ∃ n : Nat, d = (n : Int) := ⟨d.toNat, by omega⟩
  have hlen : (rgD 0 ((1 : Int) + n).toNat).length = n + 1 := by rw [rgD, List.length_map, List.length_range]; omega
  refine ⟨fun i env S' => ∃ x4 : Option D, env = [some (.ref st), some (.int most), some (rowD (dOnes i)), some (rowD (dOthers i)), x4] ∧ S1 = S' ∧ i ≤ n + 1, ⟨_, rfl, rfl, Nat.zero_le _⟩, fun _ _ _ _ _ => trivial, ?_, ?_⟩
  · rintro i d env S2 hd ⟨x4, rfl, rfl, hi⟩
    obtain ⟨hi', hd'⟩ := rg_at hd
    have hi : i < n + 1 := by omega
    rw [Int.zero_add] at hd'
    subst hd'
    refine ⟨_, rfl, _, rfl, .inl ⟨by decide, by decide⟩, _, rfl, .inl ⟨by decide, by decide⟩, rfl, by simp [rowD, intsD, dOnes_len]; omega, ?_⟩
    refine ⟨_, rfl, _, rfl, .inl ⟨by decide, by decide⟩, _, rfl, .inl ⟨by decide, by decide⟩, rfl, by simp [rowD, intsD, dOthers_len]; omega, ?_⟩
    refine ⟨some (.int (i : Int)), ?_, rfl, hi⟩
    have e1 : intsD (dOnes i) ++ [.int (0 - (2 * (i : Int) + 1)), .int 0, .int (2 * (i : Int) + 2)] = intsD (dOnes (i + 1)) := by
      simp [intsD, dOnes]
    have e2 : intsD (dOthers i) ++ [.int (2 * (i : Int) + 1), .int (0 - (2 * (i : Int) + 2)), .int 0] = intsD (dOthers (i + 1)) := by
      simp [intsD, dOthers]
    show _ = [some (D.ref st), some (D.int most), some (D.tup (intsD (dOnes (i + 1)))), some (D.tup (intsD (dOthers (i + 1)))), some (D.int (i : Int))]
    rw [← e1, ← e2]
    rfl
  · rintro env S2 ⟨x4, rfl, rfl, hi⟩
    refine ⟨_, rfl, _, rfl, rfl, ?_⟩
    have := k (n + 1) S1 (by omega) (by omega) D1 k1
    rw [← hlen] at this
    exact this

theorem eraseIdx_map' {α β : Type} (f : α → β) : ∀ (l : List α) (j : Nat), (l.map f).eraseIdx j = (l.eraseIdx j).map f
  | [], _ => rfl
  | _ :: _, 0 => rfl
  | a :: l, j + 1 => by
    show f a :: (l.map f).eraseIdx j = f a :: (l.eraseIdx j).map f
    rw [eraseIdx_map' f l j]
theorem perm_eraseIdx {α : Type} : ∀ (l : List α) (j : Nat) (h : j < l.length), (l[j] :: l.eraseIdx j).Perm l
  | a :: l, 0, _ => .refl _
  | a :: l, j + 1, h => by
    have hj : j < l.length := Nat.lt_of_succ_lt_succ h
    have ih := perm_eraseIdx l j hj
    exact (List.Perm.swap a (l[j]'hj) (l.eraseIdx j)).trans (ih.cons a)
theorem intsD_len (xs : List Int) : (intsD xs).length = xs.length := List.length_map ..
theorem w_shuffled {st big : Addr} {S : Sto} {d : D} {ns : List Int} {R : DK} (h : Deck st big S) (hd : seqOf S d = some (intsD ns)) (hn : ns.length ≤ 1000)
    (k : ∀ (p : Addr) (ms : List Int) S', Deck st big S' → SK (DP st big) S S' → S p = none → S' p = some (.lst (intsD ms)) → ms.Perm ns → R (.ref p) S') : dFn 4 B_law_shuffled_c6aa [.ref st, d] S R := by
  refine ⟨_, rfl, d, _, rfl, hd, fun l nl => ⟨rfl, fun f nf => ?_⟩⟩
  have hlf : l ≠ f := fun z => by rw [← z, Sto.same] at nf; cases nf
  have k0 : SK (DP st big) S ((S.put l (.lst (intsD ns))).put f (.lst [])) := (SK.new nl).trans (.new nf)
  have nfS : S f = none := by rw [Sto.ne (Ne.symm hlf)] at nf; exact nf
  obtain ⟨l1, l2⟩ := h.fresh nl
  obtain ⟨f1, f2⟩ := h.fresh nfS
  have h0 : Deck st big ((S.put l (.lst (intsD ns))).put f (.lst [])) := by
    obtain ⟨a1, bs, a, b, c, a2, a3⟩ := h
    exact ⟨a1, bs, a, b, c, (Sto.ne (Ne.symm f1)).trans ((Sto.ne (Ne.symm l1)).trans a2), (Sto.ne (Ne.symm f2)).trans ((Sto.ne (Ne.symm l2)).trans a3)⟩
  have hl0 : ((S.put l (.lst (intsD ns))).put f (.lst [])) l = some (.lst (intsD ns)) := (Sto.ne hlf).trans Sto.same
  have hf0 : ((S.put l (.lst (intsD ns))).put f (.lst [])) f = some (.lst (intsD [])) := Sto.same
  generalize (S.put l (.lst (intsD ns))).put f (.lst []) = S0 at k0 h0 hl0 hf0 ⊢
  show dSeq (dWhile _ _) (dRet _) _ [some (D.ref st), some d, some (D.ref l), some (D.ref f)] S0
  refine seqP (fun env S' => env = [some (.ref st), some d, some (.ref l), some (.ref f)] ∧ ∃ ms : List Int, Deck st big S' ∧ SK (DP st big) S S' ∧ S' f = some (.lst (intsD ms)) ∧ ms.Perm ns) (fun C' _ _ _ hnx => ?_) ?_
  · refine ⟨fun n env S' => ∃ xs ys : List Int, n = xs.length ∧ env = [some (.ref st), some d, some (.ref l), some (.ref f)] ∧ Deck st big S' ∧ SK (DP st big) S S' ∧ S' l = some (.lst (intsD xs)) ∧ S' f = some (.lst (intsD ys)) ∧ (ys ++ xs).Perm ns, ⟨_, ns, [], rfl, rfl, h0, k0, hl0, hf0, .refl _⟩, ?_⟩
    rintro n env S1 ⟨xs, ys, rfl, rfl, D1, k1, hl, hf, pm⟩
    refine ⟨_, rfl, rfl, fun p np => ?_⟩
    have k2 : SG S1 (S1.put p (.lst [])) := .new np
    have D2 := D1.keep k2
    have hl2 := k2 _ _ (fun z => z) hl
    have hf2 := k2 _ _ (fun z => z) hf
    have hp2 : (S1.put p (.lst [])) p = some (.lst []) := Sto.same
    have k2' := k1.trans k2.sk
    generalize S1.put p (.lst []) = S2 at D2 hl2 hf2 hp2 k2' ⊢
    refine ⟨_, _, .lst hl2 (pys_ints xs), .lst hp2 .nil, shaped_ints xs, by decide +kernel, _, rfl, ?_⟩
    cases xs with
    | nil =>
      refine goF (hnx _ _ ⟨rfl, ys, D2, k2', hf2, ?_⟩)
      rw [List.append_nil] at pm
      exact pm
    | cons x xs =>
      have hle : (x :: xs).length ≤ 1000 := by
        have := pm.length_eq
        rw [List.length_append] at this
        omega
      refine goT ⟨_, rfl, ⟨rfl, _, seqOf_lst hf2, noTup _⟩, _, rfl, ⟨rfl, _, seqOf_lst hl2, noTup _⟩, _, rfl, _, rfl, _, _, rfl, seqOf_lst hl2, rfl, ?_⟩
      rw [intsD_len]
      have hle' : ((x :: xs).length : Int) ≤ 1000 := by exact_mod_cast hle
      have hlpos : (0 : Int) < ((x :: xs).length : Int) := by rw [List.length_cons]; omega
      refine w_next D2 hlpos (by omega) fun i S3 i0 i1 D3 k3 => ?_
      have hl3 := k3 _ _ (fun z => z.elim l1 l2) hl2
      have hf3 := k3 _ _ (fun z => z.elim f1 f2) hf2
      obtain ⟨j, rfl⟩ : ∃ j : Nat, i = (j : Int) := ⟨i.toNat, by omega⟩
      have hj : j < (x :: xs).length := by omega
      have hx : (x :: xs)[j]? = some (x :: xs)[j] := List.getElem?_eq_getElem hj
      refine ⟨l, _, (j : Int), j, .int (x :: xs)[j], rfl, rfl, hl3, by omega, by omega, ?_, by rw [intsD, List.getElem?_map, hx]; rfl, ?_⟩
      · exact seqIndex_of (by omega) (by rw [intsD_len]; omega)
      have e1 : (intsD (x :: xs)).eraseIdx j = intsD ((x :: xs).eraseIdx j) := by
        unfold intsD
        rw [eraseIdx_map']
      rw [e1]
      have hf4 : (S3.put l (.lst (intsD ((x :: xs).eraseIdx j)))) f = _ := (Sto.ne (Ne.symm hlf)).trans hf3
      have nlP : ¬ DP st big l := fun z => z.elim l1 l2
      have nfP : ¬ DP st big f := fun z => z.elim f1 f2
      refine ⟨f, _, _, rfl, rfl, hf4, by rw [intsD_len]; have := pm.length_eq; rw [List.length_append] at this; omega, _, ?_, (x :: xs).eraseIdx j, ys ++ [(x :: xs)[j]], rfl, rfl, ?_, ?_, (Sto.ne hlf).trans Sto.same, ?_, ?_⟩
      · rw [List.length_eraseIdx, if_pos hj, List.length_cons]
        omega
      · obtain ⟨a1, bs, a, b, c, a2, a3⟩ := D3
        exact ⟨a1, bs, a, b, c, (Sto.ne (Ne.symm f1)).trans ((Sto.ne (Ne.symm l1)).trans a2), (Sto.ne (Ne.symm f2)).trans ((Sto.ne (Ne.symm l2)).trans a3)⟩
      · intro a o n e
        have na : a ≠ l := fun z => by rw [z, nl] at e; cases e
        have nb : a ≠ f := fun z => by rw [z, nfS] at e; cases e
        rw [Sto.ne nb, Sto.ne na]
        exact k3 _ _ n (k2' _ _ n e)
      · rw [Sto.same]
        unfold intsD
        rw [List.map_append]
        rfl
      · rw [List.append_assoc]
        refine (List.Perm.append_left ys ?_).trans pm
        have : ((x :: xs)[j] :: (x :: xs).eraseIdx j).Perm (x :: xs) := perm_eraseIdx _ j hj
        exact this
  · rintro env S1 ⟨rfl, ms, D1, k1, hf, pm⟩
    exact ⟨_, rfl, k f ms S1 D1 k1 nfS hf pm⟩
/-- one of the items -/
theorem w_one {st big : Addr} {S : Sto} {d : D} {ds : List D} {R : DK} (h : Deck st big S) (hd : ∀ S', SK (DP st big) S S' → seqOf S' d = some ds) (h0 : ds ≠ []) (hn : ds.length ≤ 1000)
    (k : ∀ (j : Nat) (x : D) S', ds[j]? = some x → Deck st big S' → SK (DP st big) S S' → R x S') : dFn 2 B_law_one_4842 [.ref st, d] S R := by
  refine ⟨_, rfl, _, rfl, _, rfl, d, _, rfl, hd S (.refl S), rfl, ?_⟩
  have hp : 0 < ds.length := List.length_pos_iff.mpr h0
  refine w_next h (by omega) (by omega) fun i S3 i0 i1 D3 k3 => ?_
  obtain ⟨j, rfl⟩ : ∃ j : Nat, i = (j : Int) := ⟨i.toNat, by omega⟩
  have hj : j < ds.length := by omega
  have hx := List.getElem?_eq_getElem hj
  refine ⟨ds, j, ds[j], hd S3 k3, rfl, ?_, k j _ S3 hx D3 k3⟩
  unfold atI ixN
  rw [if_pos i0, if_pos i1]
  exact hx
end Sv

/-! Over data: histories that grow. -/
namespace Sv
open PySem L2
def pairD (p : Int × Int) : D := .tup [.int p.1, .int p.2]
def GS (S : Sto) (st big t : Addr) (nm : List Int) (rows : List (List Int)) (o : List (Int × Int)) (u : Nat) (sh : Int) : Prop :=
  ∃ N O : Addr, S t = some (.lst [.tup (rowsD rows), .ref N, .ref O, .int sh]) ∧ S N = some (.lst (intsD (nm.drop u))) ∧ S O = some (.lst (o.map pairD)) ∧ (N ≠ st ∧ N ≠ big) ∧ (O ≠ st ∧ O ≠ big) ∧ t ≠ st ∧ t ≠ big
theorem nDP {st big a : Addr} (h : a ≠ st ∧ a ≠ big) : ¬ DP st big a := fun z => z.elim h.1 h.2
theorem GS.keep {S S' : Sto} {st big t : Addr} {nm : List Int} {rows : List (List Int)} {o : List (Int × Int)} {u : Nat} {sh : Int} (h : GS S st big t nm rows o u sh) (k : SK (DP st big) S S') : GS S' st big t nm rows o u sh := by
  obtain ⟨N, O, h1, h2, h3, h4, h5, h6⟩ := h
  exact ⟨N, O, k _ _ (nDP h6) h1, k _ _ (nDP h4) h2, k _ _ (nDP h5) h3, h4, h5, h6⟩
theorem rg24D : rgD 1 24 = intsD names24 := by
  unfold rgD intsD names24
  rw [List.map_map]
  rfl
theorem w_begun {st big : Addr} {S : Sto} {many : Nat} {R : DK} (h : Deck st big S) (h1 : 1 ≤ many) (h6 : many ≤ 6)
    (k : ∀ (t : Addr) (nm : List Int) (c : Nat) (sh : Int) S', GS S' st big t nm (List.replicate c []) [] 0 sh → nm.Perm names24 → 1 ≤ c → c ≤ many → Deck st big S' → SK (DP st big) S S' → R (.ref t) S') : dFn 3 B_law_begun_2a66 [.ref st, .int many] S R := by
  refine ⟨rfl, rfl, _, rfl, _, rfl, rfl, w_next h (by omega) (by omega) fun d S1 d0 d1 D1 k1 => ?_⟩
  obtain ⟨c, rfl⟩ : ∃ c : Nat, d = (c : Int) := ⟨d.toNat, by omega⟩
  refine ⟨by simp, by omega, by omega, by decide, ?_⟩
  rw [show ((1 : Int) + c).toNat = c + 1 by omega, flat_rep]
  refine ⟨_, rfl, _, rfl, 1, 25, rfl, rfl, by decide, by decide, by decide, by decide, fun l nl => ⟨rfl, ?_⟩⟩
  have D2 : Deck st big (S1.put l (.lst (rgD 1 (25 - 1 : Int).toNat))) := D1.keep (.new nl)
  have k2 : SK (DP st big) S (S1.put l (.lst (rgD 1 (25 - 1 : Int).toNat))) := k1.trans (.new nl)
  have hl2 : (S1.put l (.lst (rgD 1 (25 - 1 : Int).toNat))) l = some (.lst (intsD names24)) := by rw [Sto.same, ← rg24D]; rfl
  generalize S1.put l (.lst (rgD 1 (25 - 1 : Int).toNat)) = S2 at D2 k2 hl2 ⊢
  refine w_shuffled D2 (seqOf_lst hl2) (by rw [names24_len]; decide) fun p ms S3 D3 k3 np hp pm => ?_
  have p12 := D2.fresh np
  refine ⟨rfl, fun O nO => ?_⟩
  have D4 : Deck st big (S3.put O (.lst [])) := D3.keep (.new nO)
  have k4 : SK (DP st big) S (S3.put O (.lst [])) := (k2.trans k3).trans (.new nO)
  have hp4 : (S3.put O (.lst [])) p = _ := (Sto.ne fun z => by rw [z, nO] at hp; cases hp).trans hp
  have hO4 : (S3.put O (.lst [])) O = some (.lst ([].map pairD)) := Sto.same
  have O12 := D3.fresh nO
  generalize S3.put O (.lst []) = S4 at D4 k4 hp4 hO4 ⊢
  refine ⟨_, rfl, rfl, w_next D4 (by decide) (by decide) fun sh S5 s0 s1 D5 k5 => ⟨rfl, fun t nt => ?_⟩⟩
  have k6 : SK (DP st big) S5 (S5.put t (.lst [.tup (List.replicate (c + 1) (.tup [])), .ref p, .ref O, .int (1 + sh)])) := .new nt
  refine k t ms (c + 1) (1 + sh) _ ⟨p, O, ?_, ?_, ?_, p12, O12, D5.fresh nt⟩ pm (by omega) (by omega) (D5.keep (.new nt)) ((k4.trans k5).trans k6)
  · rw [Sto.same]
    unfold rowsD
    rw [List.map_replicate]
    rfl
  · exact k6 _ _ (nDP p12) (k5 _ _ (nDP p12) hp4)
  · exact k6 _ _ (nDP O12) (k5 _ _ (nDP O12) hO4)
end Sv

set_option maxHeartbeats 400000
/-! Over data: one event more. -/
namespace Sv
open PySem L2
theorem py_pair {S : Sto} (p : Int × Int) : Py S (pairD p) (pD p) := .tup (.cons (.int _) (.cons (.int _) .nil))
theorem pys_pairs {S : Sto} : ∀ o : List (Int × Int), Pys S (o.map pairD) (o.map pD)
  | [] => .nil
  | p :: r => .cons (py_pair p) (pys_pairs r)
theorem fm_filter {α β : Type} (g : α → β) (f : β → Option β) (q : α → Bool) (h : ∀ x, f (g x) = if q x = true then some (g x) else none) : ∀ l : List α, (l.map g).filterMap f = (l.filter q).map g
  | [] => rfl
  | a :: l => by
    rw [List.map_cons, List.filterMap_cons, h a, List.filter_cons]
    by_cases z : q a = true
    · rw [if_pos z, if_pos z, List.map_cons, fm_filter g f q h l]
    · rw [if_neg z, if_neg z, fm_filter g f q h l]
theorem cutD_to {xs : List D} {i : Nat} (h : i ≤ xs.length) : cutD xs none (some (i : Int)) = xs.take i := by
  unfold cutD
  rw [HT.sIx_none, HT.sIx_nat, List.drop_zero, Nat.min_eq_left h, Nat.sub_zero]
theorem cutD_from {xs : List D} {i : Nat} (h : i ≤ xs.length) : cutD xs (some (i : Int)) none = xs.drop i := by
  unfold cutD
  rw [HT.sIx_none, HT.sIx_nat, Nat.min_eq_left h]
  exact List.take_of_length_le (by rw [List.length_drop]; exact Nat.le_refl _)
theorem dIfS_by {c : DTT} {t u : DTS} {C : DEnds} {env : Env} {S : Sto} (P : Bool → Sto → Prop) (hc : ∀ K : Bool → Sto → Prop, (∀ b S', P b S' → K b S') → c env S K) (ht : ∀ S', P true S' → t C env S') (hu : ∀ S', P false S' → u C env S') : dIfS c t u C env S := by
  refine hc _ fun b S' h => ?_
  cases b with
  | true => exact goT (ht S' h)
  | false => exact goF (hu S' h)
theorem ne_nil_eqv (ds : List PyData) : (PyData.eqv (.list ds) (.list []) ^^ true) = !ds.isEmpty := by rw [xor_tt, eqv_nil]
theorem atI_nat {xs : List D} {i : Nat} {d : D} (h : xs[i]? = some d) : atI xs (i : Int) = some d := by
  have hi := (List.getElem?_eq_some_iff.mp h).1
  unfold atI ixN
  rw [if_pos (Int.natCast_nonneg i), if_pos (Int.ofNat_lt.mpr hi), Int.toNat_natCast]
  exact h
theorem freshNe {st big w f : Addr} {S S5 : Sto} (D5 : Deck st big S5) (k5 : SK (DP st big) S S5) (nw : S5 w = none) (hf : S f ≠ none) : f ≠ w := fun z => by
  subst z
  by_cases h : DP st big f
  · have := D5.fresh nw
    rcases h with h | h
    · exact this.1 h
    · exact this.2 h
  · cases e : S f with
    | none => exact hf e
    | some o => rw [k5 _ _ h e] at nw; cases nw
def GStep (st big t : Addr) (S : Sto) (nm : List Int) (rows : List (List Int)) (c n : Nat) (sh : Int) (N O : Addr) (p : Nat) (way : Int) (y : Addr) (row : List Int) : Env → Sto → Prop := fun env S' => ∃ (e : Int) (N' O' : Addr) (o' : List (Int × Int)) (u' : Nat) (x11 x12 x13 : Option D), env = [some (.ref st), some (.ref t), some (.tup (rowsD rows)), some (.ref N), some (.ref O'), some (.int sh), some (.int (p : Int)), some (.int way), some (.ref y), some (.int e), some (.ref N'), x11, x12, x13] ∧
    Deck st big S' ∧ SK (DP st big) S S' ∧ S' N' = some (.lst (intsD (nm.drop u'))) ∧ S' O' = some (.lst (o'.map pairD)) ∧ (N' ≠ st ∧ N' ≠ big) ∧ (O' ≠ st ∧ O' ≠ big) ∧ (∀ f, S f ≠ none → f ≠ N → f ≠ O → f ≠ N' ∧ f ≠ O') ∧ Grown c nm (rows.set p (row ++ [e])) o' u' (n + 1)
theorem g_recv {st big t N O y : Addr} {S : Sto} {nm : List Int} {rows : List (List Int)} {o : List (Int × Int)} {c u n p : Nat} {sh way : Int} {row : List Int} {C' : DEnds} (h4 : N ≠ st ∧ N ≠ big) (h5 : O ≠ st ∧ O ≠ big) (hG : Grown c nm rows o u n) (hp : nm.Perm names24) (n1 : n ≤ 200) (hrow : rows[p]? = some row) (hnx : ∀ e s, GStep st big t S nm rows c n sh N O p way y row e s → C'.nx e s) (y12 : y ≠ st ∧ y ≠ big) {S4 : Sto} (D4 : Deck st big S4) (k4 : SK (DP st big) S S4) (hN4 : S4 N = some (.lst (intsD (nm.drop u)))) (hO4 : S4 O = some (.lst (o.map pairD))) (hy4 : S4 y = some (.lst ((o.filter fun x => !decide (x.2 = (p : Int))).map pairD))) (hne : (o.filter fun x => !decide (x.2 = (p : Int))) ≠ []) :
    dSeq (dAsg (dCall 2 (dFn 2 B_law_one_4842) (dCons (dVar 0) (dCons (dVar 8) (dNil)))) (dgName 11)) (dAsg (dTup (dCons (dBin rSub (dC (.int 0)) (dBin rIxq (dVar 11) (dC (.int 0)))) (dCons (dLc (diVal (dVar 4)) (dgName 13) (dB (dBin (rEqq true) (dVar 13) (dVar 11))) (dVar 13) [13]) (dNil)))) (dUnp 2 (dgCons (dgName 9) (dgCons (dgName 4) (dgNil))))) C' [some (.ref st), some (.ref t), some (.tup (rowsD rows)), some (.ref N), some (.ref O), some (.int sh), some (.int (p : Int)), some (.int way), some (.ref y), some (.int 0), some (.ref N), none, none, none] S4 := by
  have ol := hG.opens_le
  refine ⟨_, rfl, _, rfl, rfl, w_one D4 (fun S' kk => seqOf_lst (kk _ _ (nDP y12) hy4)) (by simpa using hne) (by rw [List.length_map]; have := List.length_filter_le (fun x : Int × Int => !decide (x.2 = (p : Int))) o; omega) fun j x S5 hx D5 k5 => ?_⟩
  rw [List.getElem?_map] at hx
  obtain ⟨⟨m, q⟩, hmq, rfl⟩ := Option.map_eq_some_iff.mp hx
  have hmem := List.mem_of_getElem? hmq
  obtain ⟨hmo, hqp⟩ := List.mem_filter.mp hmem
  have hqp : q ≠ (p : Int) := by simpa using hqp
  obtain ⟨j', hj'⟩ := List.getElem?_of_mem hmo
  have nd := nodup_of_map _ (hG.nodup (hp.nodup_iff.mpr names_nd)).1
  have hO5 := k5 _ _ (nDP h5) hO4
  refine ⟨_, rfl, _, 0, _, rfl, rfl, rfl, _, rfl, _, ⟨_, hO5, rfl⟩, lc_fun ⟨o.map pairD, _⟩ (fun d => match d with | .tup [.int a, .int b] => if decide ((a, b) = (m, q)) = true then none else some d | _ => none) (by show (o.map pairD).length ≤ 100000; rw [List.length_map]; omega) (fun S' sg => sg _ _ (fun z => z) hO5) (fun d hd S' sg K Kn hk hn => ?_) fun z S6 nz sg6 hz => ?_⟩
  · obtain ⟨⟨a, b⟩, _, rfl⟩ := List.mem_map.mp hd
    refine turn_n ⟨_, rfl, _, rfl, pD (a, b), pD (m, q), py_pair _, py_pair _, pD_shaped _, pD_shaped _, _, rfl, iteB (fun e => ⟨_, rfl, hk _ ?_ _ (.refl _)⟩) (fun e => hn ?_ _ (.refl _))⟩
    · rw [xor_tt, Bool.not_eq_true', pD_eqv] at e
      show (if decide ((a, b) = (m, q)) = true then none else some (pairD (a, b))) = _
      rw [e, if_neg Bool.false_ne_true]
    · rw [xor_tt, Bool.not_eq_false', pD_eqv] at e
      show (if decide ((a, b) = (m, q)) = true then none else some (pairD (a, b))) = _
      rw [e, if_pos rfl]
  have hfm : (o.map pairD).filterMap (fun d => match d with | .tup [.int a, .int b] => if decide ((a, b) = (m, q)) = true then none else some d | _ => none) = (o.filter fun x => !decide (x = (m, q))).map pairD :=
    fm_filter pairD _ (fun x => !decide (x = (m, q))) (fun x => by
      obtain ⟨a, b⟩ := x
      show (if decide ((a, b) = (m, q)) = true then none else some (pairD (a, b))) = _
      cases decide ((a, b) = (m, q)) <;> rfl) o
  have hz : S6 z = some (.lst ((o.eraseIdx j').map pairD)) := by rw [← filter_erase nd hj', ← hfm]; exact hz
  refine ⟨rfl, _, rfl, .inl (.inl rfl), _, _, rfl, _, _, rfl, rfl, hnx _ _ ⟨0 - m, N, z, o.eraseIdx j', u, _, _, _, rfl, D5.keep sg6, (k4.trans k5).trans sg6.sk, sg6 _ _ (fun z => z) (k5 _ _ (nDP h4) hN4), hz, h4, D5.fresh nz, fun f hf n1 n2 => ⟨n1, freshNe D5 (k4.trans k5) nz hf⟩, .recv hG hrow hj' hqp⟩⟩

end Sv

set_option maxHeartbeats 400000
namespace Sv
open PySem L2
theorem g_send {st big t N O y : Addr} {S : Sto} {nm : List Int} {rows : List (List Int)} {o : List (Int × Int)} {c u n p : Nat} {sh way : Int} {row : List Int} {C' : DEnds} (h4 : N ≠ st ∧ N ≠ big) (h5 : O ≠ st ∧ O ≠ big) (hG : Grown c nm rows o u n) (hp : nm.Perm names24) (n1 : n ≤ 200) (hrow : rows[p]? = some row) (hnx : ∀ e s, GStep st big t S nm rows c n sh N O p way y row e s → C'.nx e s) {S5 : Sto} (D5 : Deck st big S5) (k5 : SK (DP st big) S S5) (hN5 : S5 N = some (.lst (intsD (nm.drop u)))) (hO5 : S5 O = some (.lst (o.map pairD))) (hne : nm.drop u ≠ []) :
    dSeq (dAsg (dTup (dCons (dBin rIxq (dVar 3) (dC (.int 0))) (dCons (dSl (dVar 3) (dPart (dC (.int 1))) (dNoP)) (dNil)))) (dUnp 2 (dgCons (dgName 9) (dgCons (dgName 10) (dgNil))))) (dAsg (dBin rAdd (dVar 4) (dLst (dCons (dTup (dCons (dVar 9) (dCons (dVar 6) (dNil)))) (dNil)))) (dgName 4)) C' [some (.ref st), some (.ref t), some (.tup (rowsD rows)), some (.ref N), some (.ref O), some (.int sh), some (.int (p : Int)), some (.int way), some (.ref y), some (.int 0), some (.ref N), none, none, none] S5 := by
  have ol := hG.opens_le
  obtain ⟨m, rest, hm⟩ := List.exists_cons_of_ne_nil hne
  have hu : u < nm.length := by
    rcases Nat.lt_or_ge u nm.length with z | z
    · exact z
    · exact absurd (List.drop_eq_nil_of_le z) hne
  have hmu : nm[u]? = some m := by
    have := congrArg (fun l => l[0]?) hm
    simpa [List.getElem?_drop] using this
  have hrest : rest = nm.drop (u + 1) := by
    have := congrArg List.tail hm
    rw [List.tail_drop] at this
    exact this.symm
  have at0 : atI (intsD (nm.drop u)) 0 = some (.int m) := by rw [hm]; exact atI_nat (xs := intsD (m :: rest)) (i := 0) rfl
  have cut1 : cutD (intsD (nm.drop u)) (some 1) none = intsD (nm.drop (u + 1)) := by
    rw [hm]
    have := cutD_from (xs := intsD (m :: rest)) (i := 1) (by rw [intsD_len, List.length_cons]; omega)
    rw [show ((1 : Nat) : Int) = 1 from rfl] at this
    rw [this, ← hrest]
    rfl
  refine ⟨_, rfl, _, 0, _, seqOf_lst hN5, rfl, at0, _, rfl, 1, rfl, _, hN5, fun w nw => ⟨rfl, _, rfl, .inl (.inl rfl), _, _, rfl, _, _, rfl, rfl, ?_⟩⟩
  rw [cut1]
  have sgw : SG S5 (S5.put w (.lst (intsD (nm.drop (u + 1))))) := .new nw
  have hw6 : (S5.put w (.lst (intsD (nm.drop (u + 1))))) w = _ := Sto.same
  have w12 := D5.fresh nw
  have D6 := D5.keep sgw
  have hO6 := sgw _ _ (fun z => z) hO5
  have k6 := k5.trans sgw.sk
  generalize S5.put w (.lst (intsD (nm.drop (u + 1)))) = S6 at hw6 D6 hO6 k6 ⊢
  refine ⟨_, rfl, _, rfl, _, rfl, rfl, rfl, fun q nq => ⟨o.map pairD, _, ?_, Sto.same, ?_, fun r nr => ?_⟩⟩
  · exact (Sto.ne fun z => by rw [z, nq] at hO6; cases hO6).trans hO6
  · rw [List.length_map]
    show o.length + 1 ≤ 100000
    omega
  have sgq : SG S6 (S6.put q (.lst [.tup [.int m, .int (p : Int)]])) := .new nq
  have sgr : SG (S6.put q (.lst [.tup [.int m, .int (p : Int)]])) ((S6.put q (.lst [.tup [.int m, .int (p : Int)]])).put r (.lst (o.map pairD ++ [.tup [.int m, .int (p : Int)]]))) := .new nr
  have sgg : SG S6 _ := sgq.trans sgr
  refine hnx _ _ ⟨m, w, r, o ++ [(m, (p : Int))], u + 1, _, _, _, rfl, D6.keep sgg, k6.trans sgg.sk, sgg _ _ (fun z => z) hw6, ?_, w12, (D6.keep sgq).fresh nr, fun f hf _ _ => ⟨freshNe D5 k5 nw hf, freshNe (D6.keep sgq) (k6.trans sgq.sk) nr hf⟩, .send hG hrow hmu⟩
  rw [Sto.same, List.map_append]
  rfl

end Sv

set_option maxHeartbeats 400000
namespace Sv
open PySem L2
/-- no part of the drawn state -/
def GF (S : Sto) (t f : Addr) : Prop := t ≠ f ∧ ∀ (N O : Addr) (r s : D), S t = some (.lst [r, .ref N, .ref O, s]) → f ≠ N ∧ f ≠ O
/-- what the share of saves, the drawn way and what waits leave of an event: read as one of three -/
theorem w_grown {st big t : Addr} {S : Sto} {nm : List Int} {rows : List (List Int)} {o : List (Int × Int)} {c u n : Nat} {sh : Int} {R : DK} (h : Deck st big S) (hg : GS S st big t nm rows o u sh) (hG : Grown c nm rows o u n) (hp : nm.Perm names24) (c1 : 1 ≤ c) (c6 : c ≤ 6) (n1 : n ≤ 200)
    (k : ∀ (t' : Addr) (p : Nat) (row : List Int) (e : Int) (o' : List (Int × Int)) (u' : Nat) S', rows[p]? = some row → GS S' st big t' nm (rows.set p (row ++ [e])) o' u' sh → Grown c nm (rows.set p (row ++ [e])) o' u' (n + 1) → Deck st big S' → SK (DP st big) S S' → (∀ f, S f ≠ none → GF S t f → GF S' t' f) → R (.ref t') S') :
    dFn 14 B_law_grown_680b [.ref st, .ref t] S R := by
  obtain ⟨N, O, h1, h2, h3, h4, h5, h6⟩ := id hg
  have hlen := hG.len
  refine ⟨_, rfl, _, rfl, .inr ⟨t, rfl, h1⟩, _, _, rfl, _, _, rfl, _, _, rfl, _, _, rfl, rfl, ?_⟩
  refine ⟨_, rfl, _, rfl, _, _, rfl, rfl, rfl, ?_⟩
  have hrl : (rowsD rows).length = c := by rw [rowsD, List.length_map, hlen]
  rw [hrl]
  refine w_next h (by omega) (by omega) fun pr S1 p0 p1 D1 k1 => ⟨_, rfl, rfl, w_next D1 (by decide) (by decide) fun way S2 w0 w1 D2 k2 => ⟨rfl, _, rfl, .inl (.inl rfl), _, _, rfl, _, _, rfl, rfl, ?_⟩⟩
  obtain ⟨p, rfl⟩ : ∃ p : Nat, pr = (p : Int) := ⟨pr.toNat, by omega⟩
  have k12 := k1.trans k2
  have g2 := hg.keep k12
  have hO2 := k12 _ _ (nDP h5) h3
  have hN2 := k12 _ _ (nDP h4) h2
  have ol := hG.opens_le
  -- what may be received
  refine ⟨_, rfl, _, ⟨_, hO2, rfl⟩, lc_fun ⟨o.map pairD, _⟩ (fun d => match d with | .tup [_, .int q] => if decide (q = (p : Int)) = true then none else some d | _ => none) (by show (o.map pairD).length ≤ 100000; rw [List.length_map]; omega) (fun S' sg => sg _ _ (fun z => z) hO2) (fun d hd S' sg K Kn hk hn => ?_) fun y S3 ny sg3 hy => ?_⟩
  · obtain ⟨x, _, rfl⟩ := List.mem_map.mp hd
    refine turn_n ⟨_, rfl, _, 1, _, rfl, rfl, rfl, _, rfl, _, rfl, iteB (fun e => ⟨_, rfl, hk _ ?_ _ (.refl _)⟩) (fun e => hn ?_ _ (.refl _))⟩
    · rw [xor_tt, Bool.not_eq_true'] at e
      show (if decide (x.2 = (p : Int)) = true then none else some (pairD x)) = _
      rw [e, if_neg Bool.false_ne_true]
    · rw [xor_tt, Bool.not_eq_false'] at e
      show (if decide (x.2 = (p : Int)) = true then none else some (pairD x)) = _
      rw [e, if_pos rfl]
  have hfm : (o.map pairD).filterMap (fun d => match d with | .tup [_, .int q] => if decide (q = (p : Int)) = true then none else some d | _ => none) = (o.filter fun x => !decide (x.2 = (p : Int))).map pairD :=
    fm_filter pairD _ (fun x => !decide (x.2 = (p : Int))) (fun x => by
      show (if decide (x.2 = (p : Int)) = true then none else some (pairD x)) = _
      cases decide (x.2 = (p : Int)) <;> rfl) o
  have hy : S3 y = some (.lst ((o.filter fun x => !decide (x.2 = (p : Int))).map pairD)) := by rw [← hfm]; exact hy
  have D3 := D2.keep sg3
  have hO3 := sg3 _ _ (fun z => z) hO2
  have hN3 := sg3 _ _ (fun z => z) hN2
  have k13 := k12.trans sg3.sk
  have y12 := D2.fresh ny
  clear hfm
  refine ⟨_, rfl, rfl, _, rfl, .inl (.inl rfl), _, _, rfl, _, _, rfl, rfl, ?_⟩
  have hpc : p < rows.length := by omega
  obtain ⟨row, hrow⟩ : ∃ row, rows[p]? = some row := ⟨_, List.getElem?_eq_getElem hpc⟩
  have rowlen : row.length ≤ 200 := Nat.le_trans (len_le_sum hrow) (Nat.le_trans hG.events n1)
  dsimp only
  -- the three ways
  refine seqP (GStep st big t S nm rows c n sh N O p way y row) (fun C' _ _ _ hnx => ?_) ?_
  · refine dIfS_by (fun b S' => Deck st big S' ∧ SK (DP st big) S S' ∧ S' N = some (.lst (intsD (nm.drop u))) ∧ S' O = some (.lst (o.map pairD)) ∧ S' y = some (.lst ((o.filter fun x => !decide (x.2 = (p : Int))).map pairD)) ∧ (b = true → (o.filter fun x => !decide (x.2 = (p : Int))) ≠ [])) (fun K hK => ?_) (fun S4 ⟨D4, k4, hN4, hO4, hy4, hne⟩ => ?_) (fun S4 ⟨D4, k4, hN4, hO4, hy4, _⟩ => ?_)
    · have no : K false S3 := hK _ _ ⟨D3, k13, hN3, hO3, hy, fun z => nomatch z⟩
      refine ⟨_, rfl, _, rfl, _, rfl, iteB (fun _ => ⟨_, rfl, by decide, _, rfl, iteB (fun _ => ⟨_, rfl, rfl, fun q nq => ?_⟩) (fun _ => no)⟩) (fun _ => no)⟩
      have sgq : SG S3 (S3.put q (.lst [])) := .new nq
      refine ⟨_, _, .lst (sgq _ _ (fun z => z) hy) (pys_pairs _), .lst Sto.same .nil, shaped_pairs _, by decide +kernel, _, rfl, hK _ _ ⟨D3.keep sgq, k13.trans sgq.sk, sgq _ _ (fun z => z) hN3, sgq _ _ (fun z => z) hO3, sgq _ _ (fun z => z) hy, fun e z => ?_⟩⟩
      rw [ne_nil_eqv, z] at e
      cases e
    · exact g_recv h4 h5 hG hp n1 hrow hnx y12 D4 k4 hN4 hO4 hy4 (hne rfl)
    · -- a sending, a save
      refine dIfS_by (fun b S' => Deck st big S' ∧ SK (DP st big) S S' ∧ S' N = some (.lst (intsD (nm.drop u))) ∧ S' O = some (.lst (o.map pairD)) ∧ (b = true → nm.drop u ≠ [])) (fun K hK => ?_) (fun S5 ⟨D5, k5, hN5, hO5, hne⟩ => ?_) (fun S5 ⟨D5, k5, hN5, hO5, _⟩ => ?_)
      · have no : K false S4 := hK _ _ ⟨D4, k4, hN4, hO4, fun z => nomatch z⟩
        refine ⟨_, rfl, _, rfl, _, rfl, iteB (fun _ => ⟨_, rfl, rfl, fun q nq => ?_⟩) (fun _ => no)⟩
        have sgq : SG S4 (S4.put q (.lst [])) := .new nq
        refine ⟨_, _, .lst (sgq _ _ (fun z => z) hN4) (pys_ints _), .lst Sto.same .nil, shaped_ints _, by decide +kernel, _, rfl, hK _ _ ⟨D4.keep sgq, k4.trans sgq.sk, sgq _ _ (fun z => z) hN4, sgq _ _ (fun z => z) hO4, fun e z => ?_⟩⟩
        rw [ne_nil_eqv, z] at e
        cases e
      · exact g_send h4 h5 hG hp n1 hrow hnx D5 k5 hN5 hO5 (hne rfl)
      · exact hnx _ _ ⟨0, N, O, o, u, _, _, _, rfl, D5, k5, hN5, hO5, h4, h5, fun f _ n1 n2 => ⟨n1, n2⟩, .save hG hrow⟩
  · rintro env S4 ⟨e, N', O', o', u', x11, x12, x13, rfl, D4, k4, hN4, hO4, hN', hO', hfr, hG'⟩
    have hrd : (rowsD rows)[p]? = some (rowD row) := by rw [rowsD, List.getElem?_map, hrow]; rfl
    refine ⟨_, rfl, _, rfl, _, (p : Int), _, rfl, rfl, atI_nat hrd, _, rfl, rfl, ?_, rfl, ?_⟩
    · show (intsD row).length + 1 ≤ 100000
      rw [intsD_len]
      omega
    have cutp : cutD (rowsD rows) none (some (p : Int)) = (rowsD rows).take p := cutD_to (by omega)
    have cutq : cutD (rowsD rows) (some ((p : Int) + 1)) none = (rowsD rows).drop (p + 1) := by
      have := cutD_from (xs := rowsD rows) (i := p + 1) (by omega)
      rw [← this]
      rfl
    have hset : ((rowsD rows).take p ++ [rowD (row ++ [e])]) ++ (rowsD rows).drop (p + 1) = rowsD (rows.set p (row ++ [e])) := by
      rw [set_cat (by omega)]
      unfold rowsD
      rw [List.map_set]
    have hre : D.tup (intsD row ++ [.int e]) = rowD (row ++ [e]) := by
      unfold rowD intsD
      rw [List.map_append]
      rfl
    refine ⟨_, rfl, _, rfl, p, rfl, _, rfl, ?_, _, rfl, _, rfl, _, rfl, ?_, _, rfl, _, rfl, _, rfl, rfl, fun t' nt' => ?_⟩
    · rw [cutp, List.length_take]
      show _ + 1 ≤ _
      omega
    · rw [cutp, cutq, List.length_append, List.length_take, List.length_drop]
      show _ + 1 + _ ≤ _
      omega
    rw [cutp, cutq, hre, hset]
    have sgt : SG S4 (S4.put t' (.lst [.tup (rowsD (rows.set p (row ++ [e]))), .ref N', .ref O', .int sh])) := .new nt'
    exact k t' p row e o' u' _ hrow ⟨N', O', Sto.same, sgt _ _ (fun z => z) hN4, sgt _ _ (fun z => z) hO4, hN', hO', D4.fresh nt'⟩ hG' (D4.keep sgt) (k4.trans sgt.sk) fun f hf ⟨_, g⟩ => ⟨(freshNe D4 k4 nt' hf).symm, fun N2 O2 r s e => by
      rw [Sto.same] at e
      cases e
      have := g _ _ _ _ h1
      exact hfr f hf this.1 this.2⟩
end Sv

/-! mathematics from the pieces (made by pull.py) -/
namespace Sv
open PySem PySem.Spec PyProof.Rows L2
def hapFrom (e : Int) : Nat → List (List Int) → Option (Nat × Nat)
  | _, [] => none
  | p, r :: rs => if e ∈ r then some (p, (r.take (r.idxOf e)).count 0) else hapFrom e (p + 1) rs
def hap (rows : List (List Int)) (e : Int) : Option (Nat × Nat) := hapFrom e 0 rows
def poss (l : List Int) : List Int := l.filter fun e => decide (0 < e)
def negs (l : List Int) : List Int := (l.filter fun e => decide (e < 0)).map fun e => -e
def LeL (a b : List Nat) : Prop := ∀ (i x y : Nat), a[i]? = some x → b[i]? = some y → x ≤ y
theorem LeL.set {a b : List Nat} (h : LeL a b) {p d k : Nat} (hd : a[p]? = some d) (hk : k ≤ d) : LeL (a.set p k) b := fun i x y g1 g2 => by
  rw [List.getElem?_set] at g1
  split at g1
  · rename_i e
    subst e
    split at g1
    · obtain rfl := Option.some.inj g1
      have := h _ _ _ hd g2
      omega
    · cases g1
  · exact h _ _ _ g1 g2
theorem flat_set {r : List (List Int)} {p : Nat} {row : List Int} {v : Int} (h : r[p]? = some row) : (r.set p (row ++ [v])).flatten.Perm (v :: r.flatten) := by
  induction r generalizing p with
  | nil => simp at h
  | cons a r ih =>
    cases p with
    | zero =>
      obtain rfl : a = row := Option.some.inj h
      simp only [List.set_cons_zero, List.flatten_cons, List.append_assoc, List.singleton_append]
      exact List.perm_middle
    | succ p =>
      simp only [List.set_cons_succ, List.flatten_cons]
      exact ((ih (p := p) h).append_left a).trans List.perm_middle
theorem names_pos {nm : List Int} (hn : nm.Perm names24) : ∀ m ∈ nm, 1 ≤ m ∧ m ≤ 24 := by
  intro m h1
  have h2 := hn.mem_iff.mp h1
  obtain ⟨i, hi, rfl⟩ := List.mem_map.mp h2
  have := List.mem_range.mp hi
  omega
theorem Grown.small {c : Nat} {nm : List Int} {r : List (List Int)} {o : List (Int × Int)} {u k : Nat} (h : Grown c nm r o u k) (hn : nm.Perm names24) :
    (∀ row ∈ r, ∀ e ∈ row, -24 ≤ e ∧ e ≤ 24) ∧ ∀ p ∈ o, 1 ≤ p.1 ∧ p.1 ≤ 24 := by
  have setl : ∀ {r : List (List Int)} {p : Nat} {row : List Int} {v : Int}, (∀ row ∈ r, ∀ e ∈ row, -24 ≤ e ∧ e ≤ 24) → r[p]? = some row → -24 ≤ v → v ≤ 24 → ∀ row' ∈ r.set p (row ++ [v]), ∀ e ∈ row', -24 ≤ e ∧ e ≤ 24 := by
    intro r p row v h1 h2 h3 h4 row' hr e he
    rcases List.mem_or_eq_of_mem_set hr with z | rfl
    · exact h1 _ z e he
    · rcases List.mem_append.mp he with z | z
      · exact h1 _ (List.mem_of_getElem? h2) e z
      · rw [List.mem_singleton.mp z]
        exact ⟨h3, h4⟩
  have hm : ∀ m ∈ nm, 1 ≤ m ∧ m ≤ 24 := by
    intro m h1
    have h2 := hn.mem_iff.mp h1
    obtain ⟨i, hi, rfl⟩ := List.mem_map.mp h2
    have := List.mem_range.mp hi
    omega
  induction h with
  | start =>
    refine ⟨fun row hr e he => ?_, fun p hp => (nomatch hp)⟩
    rw [(List.mem_replicate.mp hr).2] at he
    exact (nomatch he)
  | skip _ ih => exact ih
  | save _ h ih => exact ⟨setl ih.1 h (by decide) (by decide), ih.2⟩
  | send _ h hu ih =>
    have := hm _ (List.mem_of_getElem? hu)
    refine ⟨setl ih.1 h (by omega) (by omega), fun p hp => ?_⟩
    rcases List.mem_append.mp hp with z | z
    · exact ih.2 p z
    · rw [List.mem_singleton.mp z]
      exact this
  | recv _ h hj _ ih =>
    have := ih.2 _ (List.mem_of_getElem? hj)
    exact ⟨setl ih.1 h (by omega) (by omega), fun p hp => ih.2 p (List.mem_of_mem_eraseIdx hp)⟩
theorem unerase_perm {α : Type} : ∀ {o : List α} {j : Nat} {x : α}, o[j]? = some x → (x :: o.eraseIdx j).Perm o
  | [], j, _, h => by simp at h
  | a :: o, 0, x, h => by
    obtain rfl : a = x := Option.some.inj h
    exact .refl _
  | a :: o, j + 1, x, h => by
    rw [List.eraseIdx_cons_succ]
    exact (List.Perm.swap a x _).trans ((unerase_perm (o := o) (j := j) h).cons a)
theorem Grown.once {c : Nat} {nm : List Int} {r : List (List Int)} {o : List (Int × Int)} {u k : Nat} (h : Grown c nm r o u k) (hn : nm.Perm names24) :
    (poss r.flatten).Perm (nm.take u) ∧ (negs r.flatten ++ o.map (·.1)).Perm (nm.take u) := by
  induction h with
  | start =>
    have e : (List.replicate c ([] : List Int)).flatten = [] := by simp
    rw [e]
    exact ⟨.refl _, .refl _⟩
  | skip _ ih => exact ih
  | save _ h ih =>
    have p := flat_set (v := 0) h
    exact ⟨(p.filter _).trans ih.1, (((p.filter _).map _).append_right _).trans ih.2⟩
  | @send r o u k p row m g h hu ih =>
    have q := flat_set (v := m) h
    have hm := names_pos hn _ (List.mem_of_getElem? hu)
    have tk : nm.take (u + 1) = nm.take u ++ [m] := by
      rw [List.take_add_one, hu]
      rfl
    rw [tk]
    have h1 : poss (m :: r.flatten) = m :: poss r.flatten := List.filter_cons_of_pos (decide_eq_true (by omega))
    have h2 : negs (m :: r.flatten) = negs r.flatten := by
      unfold negs
      rw [List.filter_cons_of_neg (by rw [decide_eq_false (show ¬ m < 0 by omega)]; exact Bool.false_ne_true)]
    refine ⟨(q.filter _).trans ?_, (((q.filter _).map _).append_right _).trans ?_⟩
    · show (poss (m :: r.flatten)).Perm _
      rw [h1]
      exact (ih.1.cons m).trans (List.perm_append_singleton m _).symm
    · show (negs (m :: r.flatten) ++ _).Perm _
      rw [h2, List.map_append, ← List.append_assoc]
      exact ih.2.append_right _
  | @recv r o u k row j m q p g h hj _ ih =>
    have w := flat_set (v := 0 - m) h
    have hm := (g.small hn).2 _ (List.mem_of_getElem? hj)
    have h1 : poss ((0 - m) :: r.flatten) = poss r.flatten := List.filter_cons_of_neg (by rw [decide_eq_false (show ¬ 0 < 0 - m by simp only at hm; omega)]; exact Bool.false_ne_true)
    have h2 : negs ((0 - m) :: r.flatten) = m :: negs r.flatten := by
      have d : decide (0 - m < 0) = true := decide_eq_true (by simp only at hm; omega)
      have e1 : -(0 - m) = m := by omega
      unfold negs
      simp only [List.filter_cons, d, if_true, List.map_cons, e1]
    refine ⟨(w.filter _).trans ?_, (((w.filter _).map _).append_right _).trans ?_⟩
    · show (poss ((0 - m) :: r.flatten)).Perm _
      rw [h1]
      exact ih.1
    · show (negs ((0 - m) :: r.flatten) ++ _).Perm _
      rw [h2]
      have e := (unerase_perm hj).map Prod.fst
      refine List.Perm.trans ?_ ((e.append_left _).trans ih.2)
      exact List.perm_middle.symm
theorem names_nodup : names24.Nodup := by decide
theorem Grown.count {c : Nat} {nm : List Int} {r : List (List Int)} {o : List (Int × Int)} {u k : Nat} (h : Grown c nm r o u k) (hn : nm.Perm names24) {e : Int} (he : e ≠ 0) : r.flatten.count e ≤ 1 := by
  obtain ⟨h1, h2⟩ := h.once hn
  have nt : (nm.take u).Nodup := ((hn.nodup_iff).mpr names_nodup).sublist (List.take_sublist _ _)
  by_cases hp : 0 < e
  · have n1 : (poss r.flatten).Nodup := h1.nodup_iff.mpr nt
    have := List.nodup_iff_count.mp n1 e
    unfold poss at this
    rw [List.count_filter (p := fun e : Int => decide (0 < e)) (decide_eq_true hp)] at this
    exact this
  · have n2 : (negs r.flatten).Nodup := (h2.nodup_iff.mpr nt).sublist (List.sublist_append_left _ _)
    have hlt : e < 0 := by omega
    have n3 : (r.flatten.filter fun e => decide (e < 0)).Nodup := by
      unfold negs at n2
      exact (List.pairwise_map.mp n2).imp fun h z => h (by rw [z])
    have := List.nodup_iff_count.mp n3 e
    rw [List.count_filter (p := fun e : Int => decide (e < 0)) (decide_eq_true hlt)] at this
    exact this
theorem hapFrom_some {e : Int} : ∀ {rs : List (List Int)} {p i : Nat} {row : List Int}, (∀ (j : Nat) (r : List Int), j < i → rs[j]? = some r → e ∉ r) → rs[i]? = some row → e ∈ row → hapFrom e p rs = some (p + i, (row.take (row.idxOf e)).count 0)
  | [], _, i, _, _, h, _ => by simp at h
  | r :: rs, p, 0, row, _, h, he => by
    obtain rfl : r = row := Option.some.inj h
    unfold hapFrom
    rw [if_pos he]
    rfl
  | r :: rs, p, i + 1, row, hn, h, he => by
    unfold hapFrom
    rw [if_neg (hn 0 r (Nat.succ_pos _) rfl), hapFrom_some (i := i) (fun j r' hj hr => hn (j + 1) r' (Nat.succ_lt_succ hj) hr) h he]
    have : p + 1 + i = p + (i + 1) := by omega
    rw [this]
theorem idx_once : ∀ {row : List Int} {i : Nat} {e : Int}, row[i]? = some e → row.count e ≤ 1 → row.idxOf e = i
  | [], i, _, h, _ => by simp at h
  | a :: r, 0, e, h, _ => by
    obtain rfl : a = e := Option.some.inj h
    exact List.idxOf_cons_self
  | a :: r, i + 1, e, h, hc => by
    have h1 : e ∈ r := List.mem_of_getElem? (i := i) h
    have h2 := List.count_pos_iff.mpr h1
    have hne : a ≠ e := fun z => by
      subst z
      rw [List.count_cons_self] at hc
      omega
    rw [List.count_cons_of_ne hne] at hc
    rw [List.idxOf_cons, idx_once (row := r) (i := i) h hc, beq_false_of_ne hne]
    rfl
theorem count_at : ∀ {r : List (List Int)} {i : Nat} {row : List Int} {e : Int}, r[i]? = some row → row.count e ≤ r.flatten.count e
  | [], i, _, _, h => by simp at h
  | a :: r, 0, row, e, h => by
    obtain rfl : a = row := Option.some.inj h
    rw [List.flatten_cons, List.count_append]
    omega
  | a :: r, i + 1, row, e, h => by
    have := count_at (r := r) (i := i) (e := e) h
    rw [List.flatten_cons, List.count_append]
    omega
theorem count_two : ∀ {r : List (List Int)} {i j : Nat} {a b : List Int} {e : Int}, i < j → r[i]? = some a → r[j]? = some b → e ∈ a → e ∈ b → 2 ≤ r.flatten.count e
  | [], i, _, _, _, _, _, h, _, _, _ => by simp at h
  | x :: r, 0, j + 1, a, b, e, _, h1, h2, h3, h4 => by
    obtain rfl : x = a := Option.some.inj h1
    have h5 := count_at (r := r) (i := j) (e := e) h2
    have h6 := List.count_pos_iff.mpr h3
    have h7 := List.count_pos_iff.mpr h4
    rw [List.flatten_cons, List.count_append]
    omega
  | x :: r, i + 1, j + 1, a, b, e, hij, h1, h2, h3, h4 => by
    have := count_two (r := r) (i := i) (j := j) (Nat.lt_of_succ_lt_succ hij) h1 h2 h3 h4
    rw [List.flatten_cons, List.count_append]
    omega
/-- where an event of a message happened -/
theorem Good.hap_at {many most : Nat} {rows : List (List Int)} (h : Good many most rows) {p i : Nat} {row : List Int} {e : Int} (h1 : rows[p]? = some row) (h2 : row[i]? = some e) (he : e ≠ 0) : hap rows e = some (p, (row.take i).count 0) := by
  obtain ⟨c, nm, o, u, k, _, _, hp, g, _⟩ := h
  have hc := g.count hp he
  have hm := List.mem_of_getElem? h2
  have h3 := hapFrom_some (e := e) (p := 0) (rs := rows) (i := p) (row := row) (fun j r hj hr hr2 => ?_) h1 hm
  · unfold hap
    rw [h3, Nat.zero_add, idx_once h2 (Nat.le_trans (count_at h1) hc)]
  · have := count_two hj hr h1 hr2 hm
    omega
theorem Good.len {many most : Nat} {rows : List (List Int)} (h : Good many most rows) : 1 ≤ rows.length ∧ rows.length ≤ many := by
  obtain ⟨c, nm, o, u, k, h1, h2, h3, h4, h5⟩ := h
  rw [h4.len]
  exact ⟨h1, h2⟩
theorem Good.events {many most : Nat} {rows : List (List Int)} (h : Good many most rows) : (rows.map List.length).sum ≤ most := by
  obtain ⟨c, nm, o, u, k, h1, h2, h3, h4, h5⟩ := h
  exact Nat.le_trans h4.events h5
theorem Good.row {many most : Nat} {rows : List (List Int)} (h : Good many most rows) {i : Nat} {row : List Int} (e : rows[i]? = some row) : row.length ≤ most ∧ ∀ x ∈ row, -24 ≤ x ∧ x ≤ 24 := by
  obtain ⟨c, nm, o, u, k, h1, h2, h3, h4, h5⟩ := id h
  exact ⟨Nat.le_trans (len_le_sum e) h.events, (h4.small h3).1 row (List.mem_of_getElem? e)⟩
def recvM (rows : List (List Int)) (m : Int) : Bool := (hap rows (0 - m)).isSome
def recvL (rows : List (List Int)) : List Int := names24.filter (recvM rows)
theorem recvL_nodup (rows : List (List Int)) : (recvL rows).Nodup := names_nodup.sublist List.filter_sublist
theorem names_mem {m : Int} : m ∈ names24 ↔ 1 ≤ m ∧ m ≤ 24 := by
  unfold names24
  rw [List.mem_map]
  constructor
  · rintro ⟨i, hi, rfl⟩
    have := List.mem_range.mp hi
    omega
  · intro h
    exact ⟨(m - 1).toNat, List.mem_range.mpr (by omega), by omega⟩
/-- where an event stands first -/
def spotFrom (e : Int) : Nat → List (List Int) → Option (Nat × Nat)
  | _, [] => none
  | p, r :: rs => if e ∈ r then some (p, r.idxOf e) else spotFrom e (p + 1) rs
theorem spot_hap {e : Int} : ∀ {rs : List (List Int)} {p : Nat}, (spotFrom e p rs = none ∧ hapFrom e p rs = none) ∨ ∃ j row, rs[j]? = some row ∧ e ∈ row ∧ spotFrom e p rs = some (p + j, row.idxOf e) ∧ hapFrom e p rs = some (p + j, (row.take (row.idxOf e)).count 0)
  | [], _ => .inl ⟨rfl, rfl⟩
  | r :: rs, p => by
    unfold spotFrom hapFrom
    by_cases h : e ∈ r
    · rw [if_pos h, if_pos h]
      exact .inr ⟨0, r, rfl, h, rfl, rfl⟩
    · rw [if_neg h, if_neg h]
      rcases spot_hap (e := e) (rs := rs) (p := p + 1) with q | ⟨j, row, h1, h2, h3, h4⟩
      · exact .inl q
      · refine .inr ⟨j + 1, row, h1, h2, ?_, ?_⟩
        · rw [h3]; congr 2; omega
        · rw [h4]; congr 2; omega
theorem Good.recv {many most : Nat} {rows : List (List Int)} (h : Good many most rows) : (negs rows.flatten).Perm (recvL rows) := by
  obtain ⟨c, nm, o, u, k, h1, h2, hp, g, h5⟩ := id h
  have nt : (nm.take u).Nodup := ((hp.nodup_iff).mpr names_nodup).sublist (List.take_sublist _ _)
  have n1 : (negs rows.flatten).Nodup := ((g.once hp).2.nodup_iff.mpr nt).sublist (List.sublist_append_left _ _)
  refine (List.perm_ext_iff_of_nodup n1 (recvL_nodup rows)).mpr fun m => ?_
  unfold negs recvL
  rw [List.mem_map, List.mem_filter, names_mem]
  constructor
  · rintro ⟨e, he, rfl⟩
    obtain ⟨hm, hneg⟩ := List.mem_filter.mp he
    obtain ⟨row, hr, hmr⟩ := List.mem_flatten.mp hm
    obtain ⟨p, hp1⟩ := List.getElem?_of_mem hr
    obtain ⟨i, hi⟩ := List.getElem?_of_mem hmr
    have hb := (h.row hp1).2 e hmr
    have h0 : e < 0 := of_decide_eq_true hneg
    refine ⟨by omega, ?_⟩
    unfold recvM
    rw [show (0 : Int) - -e = e by omega, h.hap_at hp1 hi (by omega)]
    rfl
  · rintro ⟨hm, hs⟩
    refine ⟨0 - m, List.mem_filter.mpr ⟨?_, decide_eq_true (by omega)⟩, by omega⟩
    rcases spot_hap (e := 0 - m) (rs := rows) (p := 0) with ⟨_, z⟩ | ⟨p, row, z1, z2, _⟩
    · unfold recvM hap at hs
      rw [z] at hs
      cases hs
    · exact List.mem_flatten.mpr ⟨row, List.mem_of_getElem? z1, z2⟩
def sentM (rows : List (List Int)) (m : Int) : Bool := (hap rows m).isSome
def sentL (rows : List (List Int)) : List Int := names24.filter (sentM rows)
theorem Good.sent {many most : Nat} {rows : List (List Int)} (h : Good many most rows) : (poss rows.flatten).Perm (sentL rows) := by
  obtain ⟨c, nm, o, u, k, h1, h2, hp, g, h5⟩ := id h
  have nt : (nm.take u).Nodup := ((hp.nodup_iff).mpr names_nodup).sublist (List.take_sublist _ _)
  have n1 : (poss rows.flatten).Nodup := (g.once hp).1.nodup_iff.mpr nt
  have n2 : (sentL rows).Nodup := names_nodup.sublist List.filter_sublist
  refine (List.perm_ext_iff_of_nodup n1 n2).mpr fun m => ?_
  unfold poss sentL
  rw [List.mem_filter, List.mem_filter, names_mem]
  constructor
  · rintro ⟨hm, hpos⟩
    obtain ⟨row, hr, hmr⟩ := List.mem_flatten.mp hm
    obtain ⟨p, hp1⟩ := List.getElem?_of_mem hr
    obtain ⟨i, hi⟩ := List.getElem?_of_mem hmr
    have hb := (h.row hp1).2 m hmr
    have h0 : 0 < m := of_decide_eq_true hpos
    refine ⟨by omega, ?_⟩
    unfold sentM
    rw [h.hap_at hp1 hi (by omega)]
    rfl
  · rintro ⟨hm, hs⟩
    refine ⟨?_, decide_eq_true (by omega)⟩
    rcases spot_hap (e := m) (rs := rows) (p := 0) with ⟨_, z⟩ | ⟨p, row, z1, z2, _⟩
    · unfold sentM hap at hs
      rw [z] at hs
      cases hs
    · exact List.mem_flatten.mpr ⟨row, List.mem_of_getElem? z1, z2⟩
theorem Good.recv_sent {many most : Nat} {rows : List (List Int)} (h : Good many most rows) {m : Int} (hm : m ∈ recvL rows) : sentM rows m = true := by
  obtain ⟨c, nm, o, u, k, h1, h2, hp, g, h5⟩ := id h
  have h6 := h.recv.mem_iff.mpr hm
  have h7 := (g.once hp).2.mem_iff.mp (List.mem_append_left _ h6)
  have h8 := h.sent.mem_iff.mp ((g.once hp).1.mem_iff.mpr h7)
  exact (List.mem_filter.mp h8).2
theorem names_sorted : names24.Pairwise (· ≤ ·) := by decide +kernel
theorem recvL_sorted (rows : List (List Int)) : (recvL rows).Pairwise (· ≤ ·) := names_sorted.sublist List.filter_sublist
theorem recvL_len (rows : List (List Int)) : (recvL rows).length ≤ 24 := by
  have := List.length_filter_le (recvM rows) names24
  have h24 : names24.length = 24 := by decide +kernel
  unfold recvL
  omega
theorem Good.recv_mem {many most : Nat} {rows : List (List Int)} (h : Good many most rows) {m : Int} {x : Nat × Nat} (hm : 0 < m) (hx : hap rows (0 - m) = some x) : m ∈ recvL rows := by
  refine List.mem_filter.mpr ⟨names_mem.mpr ?_, by unfold recvM; rw [hx]; rfl⟩
  rcases spot_hap (e := 0 - m) (rs := rows) (p := 0) with ⟨_, z⟩ | ⟨p, row, z1, z2, _⟩
  · unfold hap at hx
    rw [z] at hx
    cases hx
  · have := (h.row z1).2 _ z2
    omega
theorem Good.hap_lt {rows : List (List Int)} {e : Int} {p k : Nat} (h : hap rows e = some (p, k)) : p < rows.length := by
  rcases spot_hap (e := e) (rs := rows) (p := 0) with ⟨_, z⟩ | ⟨p', row, z1, z2, _, z4⟩
  · unfold hap at h
    rw [z] at h
    cases h
  · unfold hap at h
    rw [z4, Nat.zero_add] at h
    cases h
    exact (List.getElem?_eq_some_iff.mp z1).1
theorem LeL.refl (a : List Nat) : LeL a a := fun i x y h1 h2 => by rw [h1] at h2; rw [Option.some.inj h2]; exact Nat.le_refl _
/-- no message is received before the line and sent behind it -/
def ConsL (rows : List (List Int)) (cs : List Nat) : Prop := ∀ (m : Int) (p k p' k' c c' : Nat), 0 < m → hap rows m = some (p, k) → hap rows (0 - m) = some (p', k') → cs[p]? = some c → cs[p']? = some c' → k' < c' → k < c
structure Dn (rows : List (List Int)) (high cs : List Nat) : Prop where
  len : cs.length = high.length
  le : LeL cs high
  top : ∀ L : List Nat, L.length = high.length → LeL L high → ConsL rows L → LeL L cs
structure IsLow (rows : List (List Int)) (high cs : List Nat) : Prop extends Dn rows high cs where
  cons : ConsL rows cs
/-- the greatest numbers that are left if these fail -/
def tops (rows : List (List Int)) (fs : List Int) : List Nat := rows.mapIdx fun i r => r.count 0 + (if decide ((i : Int) ∈ fs) = true then 0 else 1)
def prs (rows : List (List Int)) : List Nat := rows.map fun r => r.count 0 + 1
/-- a state that is needed when f fails -/
def NeedAt (rows : List (List Int)) (f p n : Nat) : Prop := ∃ cs : List Nat, IsLow rows (tops rows [(f : Int)]) cs ∧ cs[p]? = some n ∧ n < ((prs rows)[p]?).getD 0
def NeedL (rows : List (List Int)) (us : List (Int × Int)) : Prop := us.length < 64 ∧ us.Pairwise (fun a b => pc a < pc b) ∧ ∀ x, x ∈ us ↔ ∃ f p n : Nat, f < rows.length ∧ NeedAt rows f p n ∧ x = ((p : Int), (n : Int))
theorem NeedL.unique {rows : List (List Int)} {us vs : List (Int × Int)} (h : NeedL rows us) (g : NeedL rows vs) : us = vs := rise_eq pc us vs h.2.1 g.2.1 fun x => (h.2.2 x).trans (g.2.2 x).symm
theorem IsLow.unique {rows : List (List Int)} {high a b : List Nat} (ha : IsLow rows high a) (hb : IsLow rows high b) : a = b := by
  apply List.ext_getElem (ha.len.trans hb.len.symm)
  intro i h1 h2
  have e1 := List.getElem?_eq_getElem h1
  have e2 := List.getElem?_eq_getElem h2
  exact Nat.le_antisymm (hb.top a ha.len ha.le ha.cons i _ _ e1 e2) (ha.top b hb.len hb.le hb.cons i _ _ e2 e1)
theorem Dn.step {rows : List (List Int)} {high cs : List Nat} (h : Dn rows high cs) {m : Int} {p k p' k' c c' : Nat} (hm : 0 < m) (h1 : hap rows m = some (p, k)) (h2 : hap rows (0 - m) = some (p', k')) (h3 : cs[p]? = some c) (h4 : cs[p']? = some c') (h5 : k' < c') (h6 : c ≤ k) : Dn rows high (cs.set p' k') := by
  refine ⟨by rw [List.length_set]; exact h.len, fun i x y g1 g2 => ?_, fun L l1 l2 l3 i x y g1 g2 => ?_⟩
  · rw [List.getElem?_set] at g1
    split at g1
    · rename_i e
      subst e
      split at g1
      · obtain rfl := Option.some.inj g1
        have := h.le _ _ _ h4 g2
        omega
      · cases g1
    · exact h.le _ _ _ g1 g2
  · have hl := h.top L l1 l2 l3
    rw [List.getElem?_set] at g2
    split at g2
    · rename_i e
      subst e
      split at g2
      · obtain rfl := Option.some.inj g2
        have hpl : p < L.length := by
          rw [l1, ← h.len]
          exact (List.getElem?_eq_some_iff.mp h3).1
        have hp := List.getElem?_eq_getElem hpl
        have h7 := hl _ _ _ hp h3
        rcases Nat.lt_or_ge k' x with z | z
        · have := l3 m p k p' k' _ x hm h1 h2 hp g1 z
          omega
        · exact z
      · cases g2
    · exact hl _ _ _ g1 g2
theorem Dn.start (rows : List (List Int)) (high : List Nat) : Dn rows high high := ⟨rfl, .refl _, fun _ _ h _ => h⟩
theorem sum_set {cs : List Nat} {p c k : Nat} (h : cs[p]? = some c) : (cs.set p k).sum + c = cs.sum + k := by
  induction cs generalizing p with
  | nil => simp at h
  | cons a r ih =>
    cases p with
    | zero =>
      obtain rfl : a = c := Option.some.inj h
      simp only [List.set_cons_zero, List.sum_cons]
      omega
    | succ p =>
      have := ih (p := p) h
      simp only [List.set_cons_succ, List.sum_cons]
      omega
theorem tops_at {rows : List (List Int)} {fs : List Int} {i : Nat} {r : List Int} (h : rows[i]? = some r) : (tops rows fs)[i]? = some (r.count 0 + (if decide ((i : Int) ∈ fs) = true then 0 else 1)) := by
  unfold tops
  rw [List.getElem?_mapIdx, h]
  rfl
theorem tops_len (rows : List (List Int)) (fs : List Int) : (tops rows fs).length = rows.length := by
  unfold tops
  rw [List.length_mapIdx]
def rowU (p j : Nat) : List (Int × Int) := (List.range j).map fun (n : Nat) => ((p : Int), (n : Int))
def allU (rows : List (List Int)) (i : Nat) : List (Int × Int) := (List.range i).flatMap fun p => rowU p (((prs rows)[p]?).getD 0 + 1)
theorem rowU_succ (p j : Nat) : rowU p (j + 1) = rowU p j ++ [((p : Int), (j : Int))] := by
  unfold rowU
  rw [List.range_succ, List.map_append]
  rfl
theorem rowU_len (p j : Nat) : (rowU p j).length = j := by
  unfold rowU
  rw [List.length_map, List.length_range]
theorem allU_succ (rows : List (List Int)) (i : Nat) : allU rows (i + 1) = allU rows i ++ rowU i (((prs rows)[i]?).getD 0 + 1) := by
  unfold allU
  rw [List.range_succ, List.flatMap_append]
  simp
theorem prsA {rows : List (List Int)} {p : Nat} {row : List Int} (h : rows[p]? = some row) : (prs rows)[p]? = some (row.count 0 + 1) := by
  unfold prs
  rw [List.getElem?_map, h]
  rfl
theorem count_le_len (row : List Int) : row.count 0 ≤ row.length := List.count_le_length ..
theorem prs_le {rows : List (List Int)} (h60 : ∀ r ∈ rows, r.length ≤ 60) (p : Nat) : ((prs rows)[p]?).getD 0 ≤ 61 := by
  by_cases h : p < rows.length
  · have hr := List.getElem?_eq_getElem h
    rw [prsA hr]
    have h1 := h60 _ (List.getElem_mem h)
    have h2 := count_le_len rows[p]
    show rows[p].count 0 + 1 ≤ 61
    omega
  · rw [List.getElem?_eq_none (by unfold prs; rw [List.length_map]; omega)]
    exact Nat.zero_le _
theorem allU_len {rows : List (List Int)} (h60 : ∀ r ∈ rows, r.length ≤ 60) : ∀ i, (allU rows i).length ≤ 62 * i
  | 0 => Nat.zero_le _
  | i + 1 => by
    have h1 := allU_len h60 i
    have h2 := prs_le h60 i
    rw [allU_succ, List.length_append, rowU_len]
    omega
theorem NeedAt.lt {rows : List (List Int)} {f p n : Nat} (h : NeedAt rows f p n) : p < rows.length := by
  obtain ⟨cs, h1, h2, _⟩ := h
  have := (List.getElem?_eq_some_iff.mp h2).1
  rw [h1.len, tops_len] at this
  exact this
def minL (a b : List Nat) : List Nat := List.zipWith min a b
theorem minL_len {a b : List Nat} (h : a.length = b.length) : (minL a b).length = a.length := by
  unfold minL
  rw [List.length_zipWith, h, Nat.min_self]
theorem minL_inv {a b : List Nat} {i z : Nat} (h : (minL a b)[i]? = some z) : ∃ x y, a[i]? = some x ∧ b[i]? = some y ∧ z = min x y := by
  unfold minL at h
  rw [List.getElem?_zipWith] at h
  cases h1 : a[i]? with
  | none => rw [h1] at h; cases h
  | some x =>
    cases h2 : b[i]? with
    | none => rw [h1, h2] at h; cases h
    | some y =>
      rw [h1, h2] at h
      exact ⟨x, y, rfl, rfl, (Option.some.inj h).symm⟩
theorem minL_at {a b : List Nat} {i x y : Nat} (h1 : a[i]? = some x) (h2 : b[i]? = some y) : (minL a b)[i]? = some (min x y) := by
  unfold minL
  rw [List.getElem?_zipWith, h1, h2]
theorem IsLow.min {rows : List (List Int)} {h1 h2 a b : List Nat} (ha : IsLow rows h1 a) (hb : IsLow rows h2 b) (hl : h1.length = h2.length) : IsLow rows (minL h1 h2) (minL a b) := by
  have la := ha.len
  have lb := hb.len
  refine ⟨⟨by rw [minL_len (by omega), minL_len hl]; exact la, fun i x y g1 g2 => ?_, fun L l1 l2 l3 i x y g1 g2 => ?_⟩, fun m p k p' k' c c' hm e1 e2 g1 g2 hlt => ?_⟩
  · obtain ⟨u, v, u1, u2, rfl⟩ := minL_inv g1
    obtain ⟨u', v', v1, v2, rfl⟩ := minL_inv g2
    have q1 := ha.le _ _ _ u1 v1
    have q2 := hb.le _ _ _ u2 v2
    omega
  · rw [minL_len hl] at l1
    obtain ⟨u, v, u1, u2, rfl⟩ := minL_inv g2
    have q1 := ha.top L l1 (fun i x y z1 z2 => by
      obtain ⟨y', hy'⟩ : ∃ y', h2[i]? = some y' := ⟨_, List.getElem?_eq_getElem (by have := (List.getElem?_eq_some_iff.mp z2).1; omega)⟩
      have := l2 i x _ z1 (minL_at z2 hy')
      omega) l3 _ _ _ g1 u1
    have q2 := hb.top L (by omega) (fun i x y z1 z2 => by
      obtain ⟨y', hy'⟩ : ∃ y', h1[i]? = some y' := ⟨_, List.getElem?_eq_getElem (by have := (List.getElem?_eq_some_iff.mp z2).1; omega)⟩
      have := l2 i x _ z1 (minL_at hy' z2)
      omega) l3 _ _ _ g1 u2
    omega
  · obtain ⟨u, v, u1, u2, rfl⟩ := minL_inv g1
    obtain ⟨u', v', v1, v2, rfl⟩ := minL_inv g2
    have q1 := ha.cons m p k p' k' u u' hm e1 e2 u1 v1 (by omega)
    have q2 := hb.cons m p k p' k' v v' hm e1 e2 u2 v2 (by omega)
    omega
theorem tops_app (rows : List (List Int)) (fs gs : List Int) : tops rows (fs ++ gs) = minL (tops rows fs) (tops rows gs) := by
  apply List.ext_getElem?
  intro i
  by_cases hi : i < rows.length
  · have hr := List.getElem?_eq_getElem hi
    rw [tops_at (fs := fs ++ gs) hr, minL_at (tops_at (fs := fs) hr) (tops_at (fs := gs) hr)]
    by_cases h1 : (i : Int) ∈ fs
    · rw [decide_eq_true h1, decide_eq_true (List.mem_append_left gs h1), if_pos rfl]
      split <;> rw [Nat.min_eq_left (by omega)]
    · by_cases h2 : (i : Int) ∈ gs
      · rw [decide_eq_false h1, decide_eq_true h2, decide_eq_true (List.mem_append_right fs h2), if_pos rfl, if_neg Bool.false_ne_true, Nat.min_eq_right (by omega)]
      · have h3 : ¬ ((i : Int) ∈ fs ++ gs) := fun z => by
          rcases List.mem_append.mp z with z | z
          · exact h1 z
          · exact h2 z
        rw [decide_eq_false h1, decide_eq_false h2, decide_eq_false h3, Nat.min_self]
  · rw [List.getElem?_eq_none (by rw [tops_len]; omega), List.getElem?_eq_none (by rw [minL_len (by rw [tops_len, tops_len]), tops_len]; omega)]
theorem tops_congr {rows : List (List Int)} {fs gs : List Int} (h : ∀ x, x ∈ fs ↔ x ∈ gs) : tops rows fs = tops rows gs := by
  apply List.ext_getElem?
  intro i
  by_cases hi : i < rows.length
  · have hr := List.getElem?_eq_getElem hi
    rw [tops_at (fs := fs) hr, tops_at (fs := gs) hr, decide_eq_decide.mpr (h i)]
  · rw [List.getElem?_eq_none (by rw [tops_len]; omega), List.getElem?_eq_none (by rw [tops_len]; omega)]
theorem IsLow.app {rows : List (List Int)} {fs gs : List Int} {a b : List Nat} (ha : IsLow rows (tops rows fs) a) (hb : IsLow rows (tops rows gs) b) : IsLow rows (tops rows (fs ++ gs)) (minL a b) := by
  rw [tops_app]
  exact ha.min hb (by rw [tops_len, tops_len])
theorem IsLow.mono {rows : List (List Int)} {fs gs : List Int} {a b : List Nat} (ha : IsLow rows (tops rows fs) a) (hb : IsLow rows (tops rows gs) b) (h : ∀ x ∈ gs, x ∈ fs) : LeL a b := by
  have e : tops rows fs = tops rows (fs ++ gs) := tops_congr fun x => ⟨fun z => List.mem_append_left _ z, fun z => (List.mem_append.mp z).elim id (h x)⟩
  have q := ha
  rw [e] at q
  have := q.unique (ha.app hb)
  intro i x y g1 g2
  rw [this] at g1
  obtain ⟨u, v, u1, u2, rfl⟩ := minL_inv g1
  obtain rfl := Option.some.inj (u2.symm.trans g2)
  exact Nat.min_le_right _ _
/-- the pairs of states that are not present and not in us, of the first i processes -/
def restU (rows : List (List Int)) (us : List (Int × Int)) (i : Nat) : List (Int × Int) := (List.range i).flatMap fun p => (rowU p (((prs rows)[p]?).getD 0)).filter fun x => decide (x ∉ us)
theorem restU_succ (rows : List (List Int)) (us : List (Int × Int)) (i : Nat) : restU rows us (i + 1) = restU rows us i ++ (rowU i (((prs rows)[i]?).getD 0)).filter fun x => decide (x ∉ us) := by
  unfold restU
  rw [List.range_succ, List.flatMap_append]
  simp
theorem restU_len {rows : List (List Int)} (us : List (Int × Int)) (h60 : ∀ r ∈ rows, r.length ≤ 60) : ∀ i, (restU rows us i).length ≤ 61 * i
  | 0 => Nat.zero_le _
  | i + 1 => by
    have h1 := restU_len us h60 i
    have h2 := prs_le h60 i
    have h3 := List.length_filter_le (fun x => decide (x ∉ us)) (rowU i (((prs rows)[i]?).getD 0))
    rw [rowU_len] at h3
    rw [restU_succ, List.length_append]
    omega
theorem allU_rest (rows : List (List Int)) (us : List (Int × Int)) : ∀ i, (allU rows i).filter (fun x => decide (x.2 < ((((prs rows)[x.1.toNat]?).getD 0 : Nat) : Int)) && decide (x ∉ us)) = restU rows us i
  | 0 => rfl
  | i + 1 => by
    rw [allU_succ, restU_succ, List.filter_append, allU_rest rows us i]
    congr 1
    generalize hP : ((prs rows)[i]?).getD 0 = P
    rw [rowU_succ, List.filter_append, List.filter_cons_of_neg (by simp [hP]), List.filter_nil, List.append_nil]
    refine List.filter_congr fun x hx => ?_
    unfold rowU at hx
    obtain ⟨n, hn, rfl⟩ := List.mem_map.mp hx
    have h1 := List.mem_range.mp hn
    show (decide ((n : Int) < ((((prs rows)[(i : Int).toNat]?).getD 0 : Nat) : Int)) && _) = _
    rw [Int.toNat_natCast, hP, decide_eq_true (by omega), Bool.true_and]
theorem allU_mem {rows : List (List Int)} {i : Nat} {x : Int × Int} (h : x ∈ allU rows i) : ∃ p n : Nat, p < i ∧ x = ((p : Int), (n : Int)) := by
  unfold allU at h
  obtain ⟨p, hp, hx⟩ := List.mem_flatMap.mp h
  unfold rowU at hx
  obtain ⟨n, _, rfl⟩ := List.mem_map.mp hx
  exact ⟨p, n, List.mem_range.mp hp, rfl⟩
theorem perm_sorted_eq : ∀ {a b : List Int}, a.Perm b → a.Pairwise (· ≤ ·) → b.Pairwise (· ≤ ·) → a = b
  | [], b, h, _, _ => h.nil_eq
  | x :: a, [], h, _, _ => absurd h.length_eq (by simp)
  | x :: a, y :: b, h, h1, h2 => by
    obtain ⟨p1, q1⟩ := List.pairwise_cons.mp h1
    obtain ⟨p2, q2⟩ := List.pairwise_cons.mp h2
    have e : x = y := by
      have m1 : x ∈ y :: b := h.mem_iff.mp List.mem_cons_self
      have m2 : y ∈ x :: a := h.mem_iff.mpr List.mem_cons_self
      rcases List.mem_cons.mp m1 with z | z
      · exact z
      · rcases List.mem_cons.mp m2 with z2 | z2
        · exact z2.symm
        · have := p2 x z
          have := p1 y z2
          omega
    subst e
    rw [perm_sorted_eq h.cons_inv q1 q2]
/-- what a tuple holds is little -/
def small (d : PyData) : Prop := ∀ ds, d = .tuple ds → ds.length ≤ 10
/-- a process and an interval that are small -/
def HapS (o : Option (Nat × Nat)) : Prop := ∀ p k, o = some (p, k) → p ≤ 1000 ∧ k ≤ 1000
theorem hapFrom_small {e : Int} : ∀ {rs : List (List Int)} {p : Nat}, (∀ r ∈ rs, r.length ≤ 1000) → p + rs.length ≤ 1000 → HapS (hapFrom e p rs)
  | [], _, _, _ => fun p k h => (nomatch h)
  | r :: rs, p, h, hl => by
    unfold hapFrom
    rw [List.length_cons] at hl
    split
    · intro p' k' h'
      cases h'
      refine ⟨by omega, Nat.le_trans (List.count_le_length ..) ?_⟩
      rw [List.length_take]
      exact Nat.le_trans (Nat.min_le_right _ _) (h r List.mem_cons_self)
    · exact hapFrom_small (fun r' hr => h r' (List.mem_cons_of_mem _ hr)) (by omega)
theorem Good.hapS {many most : Nat} {rows : List (List Int)} (h : Good many most rows) (h1 : many ≤ 6) (h2 : most ≤ 60) (e : Int) : HapS (hap rows e) := by
  refine hapFrom_small (fun r hr => ?_) (by have := h.len; omega)
  obtain ⟨i, hi⟩ := List.getElem?_of_mem hr
  have := (h.row hi).1
  omega
theorem hapFrom_none {e : Int} : ∀ {rs : List (List Int)} {p : Nat}, (∀ (j : Nat) (r : List Int), rs[j]? = some r → e ∉ r) → hapFrom e p rs = none
  | [], _, _ => rfl
  | r :: rs, p, h => by
    unfold hapFrom
    rw [if_neg (h 0 r rfl)]
    exact hapFrom_none fun j r' hr => h (j + 1) r' hr
theorem any_us (us : List (Int × Int)) (x : Int × Int) : ((us.map pD).any fun z => PyData.eqv z (pD x)) = decide (x ∈ us) := by
  rw [List.any_map, Bool.eq_iff_iff, List.any_eq_true, decide_eq_true_eq]
  constructor
  · rintro ⟨y, hy, e⟩
    have e : PyData.eqv (pD y) (pD x) = true := e
    rw [pD_eqv] at e
    rw [← of_decide_eq_true e]
    exact hy
  · intro h
    refine ⟨x, h, ?_⟩
    show PyData.eqv (pD x) (pD x) = true
    rw [pD_eqv]
    exact decide_eq_true rfl
theorem pDs_shaped (us : List (Int × Int)) : SeqAt.shaped (.tuple (us.map pD)) = true := by
  have h1 := pD_lay us
  have h2 := pD_depth us
  show (PyData.canLay0 (.tuple (us.map pD)) && decide (PyData.depth (.tuple (us.map pD)) ≤ 64)) = true
  simp only [PyData.canLay0, PyData.depth, h1, Bool.true_and]
  exact decide_eq_true (by omega)
theorem pDl_shaped (us : List (Int × Int)) : SeqAt.shaped (.list (us.map pD)) = true := by
  have h1 := pD_lay us
  have h2 := pD_depth us
  show (PyData.canLay0 (.list (us.map pD)) && decide (PyData.depth (.list (us.map pD)) ≤ 64)) = true
  simp only [PyData.canLay0, PyData.depth, h1, Bool.true_and]
  exact decide_eq_true (by omega)

end Sv

/-! Over data: comprehensions of lists, dicts and sets, told by functions of what is walked. -/
namespace Sv
open PySem L2
theorem lc_map {α : Type} {g : DTG} {tt : DTT} {te : DTE} {us : List Nat} {env : Env} {S1 : Sto} {Rp : Addr → Sto → Prop} (xs : List α) (gx : α → D) (lv : Sto → Prop) (f : α → Option D) (hlen : xs.length ≤ 100000) (live : ∀ S, SG S1 S → lv S)
    (step : ∀ a ∈ xs, ∀ S, SG S1 S → ∀ (K : DK) (Kn : Sto → Prop), (∀ y, f a = some y → ∀ S', SG S S' → K y S') → (f a = none → ∀ S', SG S S' → Kn S') → Turn1 g tt te (dwipe env us) (gx a) S K Kn)
    (fin : ∀ p S', S1 p = none → SG S1 S' → S' p = some (.lst (xs.filterMap f)) → Rp p S') :
    ∀ p, S1 p = none → ∃ Pv : Nat → Sto → Prop, Pv 0 (S1.put p (.lst [])) ∧ (∀ i S, i ≤ (Src.mk (xs.map gx) lv).items.length → Pv i S → (Src.mk (xs.map gx) lv).live S) ∧
      (∀ i d S, (Src.mk (xs.map gx) lv).items[i]? = some d → Pv i S → g d (dwipe env us) S fun env' S' => tt env' S' fun b S2 => if b = true then te env' S2 fun y S3 => ∃ acc, S3 p = some (.lst acc) ∧ acc.length < 1000000 ∧ Pv (i + 1) (S3.put p (.lst (acc ++ [y]))) else Pv (i + 1) S2) ∧
      ∀ S, Pv (Src.mk (xs.map gx) lv).items.length S → Rp p S := by
  intro p np
  refine ⟨fun i S => SG S1 S ∧ S p = some (.lst ((xs.take i).filterMap f)) ∧ i ≤ xs.length, ⟨.new np, Sto.same, Nat.zero_le _⟩, fun i S _ h => live S h.1, fun i d S hd h => ?_, fun S h => ?_⟩
  · have hd : (xs.map gx)[i]? = some d := hd
    rw [List.getElem?_map] at hd
    obtain ⟨a, ha, rfl⟩ := Option.map_eq_some_iff.mp hd
    have hi : i < xs.length := (List.getElem?_eq_some_iff.mp ha).1
    have ht : xs.take (i + 1) = xs.take i ++ [a] := by rw [List.take_add_one, ha]; rfl
    refine step a (List.mem_of_getElem? ha) S h.1 _ _ (fun y hy S' sg => ?_) (fun hn S' sg => ?_)
    · have hp : S' p = _ := sg _ _ (fun z => z) h.2.1
      have hl : ((xs.take i).filterMap f).length ≤ 100000 := Nat.le_trans (List.length_filterMap_le ..) (by rw [List.length_take]; omega)
      refine ⟨_, hp, by omega, fun a o n e => ?_, ?_, hi⟩
      · have hap : a ≠ p := fun z => by rw [z, np] at e; cases e
        rw [Sto.ne hap]
        exact sg _ _ n (h.1 _ _ n e)
      · rw [Sto.same, ht, List.filterMap_append]
        simp [hy]
    · refine ⟨h.1.trans sg, ?_, hi⟩
      rw [sg _ _ (fun z => z) h.2.1, ht, List.filterMap_append]
      simp [hn]
  · have h : SG S1 S ∧ S p = some (.lst ((xs.take (xs.map gx).length).filterMap f)) ∧ _ := h
    have h2 := h.2.1
    rw [List.length_map, List.take_length] at h2
    exact fin p S np h.1 h2
theorem flat_le {α β : Type} (F : α → List β) (n : Nat) : ∀ xs : List α, (∀ a ∈ xs, (F a).length ≤ n) → (xs.flatMap F).length ≤ xs.length * n
  | [], _ => Nat.zero_le _
  | a :: r, h => by
    rw [List.flatMap_cons, List.length_append, List.length_cons, Nat.succ_mul]
    have := h a List.mem_cons_self
    have := flat_le F n r fun b hb => h b (List.mem_cons_of_mem _ hb)
    omega
theorem take_map {α : Type} {xs : List α} {i : Nat} {a : α} (ha : xs[i]? = some a) : xs.take (i + 1) = xs.take i ++ [a] := by rw [List.take_add_one, ha]; rfl
theorem SG.keepP {S1 S S' : Sto} {p : Addr} {o : Ob} (np : S1 p = none) (h : SG S1 S) (sg : SG S S') : SG S1 (S'.put p o) := fun a o n e => by
  have hap : a ≠ p := fun z => by rw [z, np] at e; cases e
  rw [Sto.ne hap]
  exact sg _ _ n (h _ _ n e)
theorem lc2_map {α β : Type} {g g1 : DTG} {ti1 : DTI} {tt1 : DTT} {te : DTE} {us us1 : List Nat} {env : Env} {S1 : Sto} {Rp : Addr → Sto → Prop} (xs : List α) (gx : α → D) (lv : Sto → Prop) (ys : α → List β) (h : α → β → D) (f : α → β → Option D) (E : α → Env)
    (hl1 : xs.length ≤ 300) (hl2 : ∀ a ∈ xs, (ys a).length ≤ 300) (live : ∀ S, SG S1 S → lv S)
    (out : ∀ a ∈ xs, ∀ S, SG S1 S → ∀ K : Env → Sto → Prop, K (E a) S → g (gx a) (dwipe env us) S K)
    (src : ∀ a ∈ xs, ∀ S, SG S1 S → ∀ K : Src → Sto → Prop, (∀ S', SG S S' → K ⟨(ys a).map (h a), fun _ => True⟩ S') → ti1 (E a) S K)
    (step : ∀ a ∈ xs, ∀ b ∈ ys a, ∀ S, SG S1 S → ∀ (K : DK) (Kn : Sto → Prop), (∀ y, f a b = some y → ∀ S', SG S S' → K y S') → (f a b = none → ∀ S', SG S S' → Kn S') → Turn1 g1 tt1 te (dwipe (E a) us1) (h a b) S K Kn)
    (fin : ∀ p S', S1 p = none → SG S1 S' → S' p = some (.lst (xs.flatMap fun a => (ys a).filterMap (f a))) → Rp p S') :
    ∀ p, S1 p = none → ∃ Pv : Nat → Sto → Prop, Pv 0 (S1.put p (.lst [])) ∧ (∀ i S, i ≤ (Src.mk (xs.map gx) lv).items.length → Pv i S → (Src.mk (xs.map gx) lv).live S) ∧
      (∀ i d S, (Src.mk (xs.map gx) lv).items[i]? = some d → Pv i S → g d (dwipe env us) S fun env' S' => dYes env' S' fun b S2 => if b = true then ti1 env' S2 fun w1 S3 => ∃ Pw : Nat → Sto → Prop, Pw 0 S3 ∧ (∀ j S, j ≤ w1.items.length → Pw j S → w1.live S) ∧
        (∀ j e S, w1.items[j]? = some e → Pw j S → g1 e (dwipe env' us1) S fun env2 S4 => tt1 env2 S4 fun b S5 => if b = true then te env2 S5 fun y S6 => ∃ acc, S6 p = some (.lst acc) ∧ acc.length < 1000000 ∧ Pw (j + 1) (S6.put p (.lst (acc ++ [y]))) else Pw (j + 1) S5) ∧
        (∀ S, Pw w1.items.length S → Pv (i + 1) S) else Pv (i + 1) S2) ∧
      ∀ S, Pv (Src.mk (xs.map gx) lv).items.length S → Rp p S := by
  intro p np
  refine ⟨fun i S => SG S1 S ∧ S p = some (.lst ((xs.take i).flatMap fun a => (ys a).filterMap (f a))) ∧ i ≤ xs.length, ⟨.new np, Sto.same, Nat.zero_le _⟩, fun i S _ h => live S h.1, fun i d S hd hh => ?_, fun S h => ?_⟩
  · have hd : (xs.map gx)[i]? = some d := hd
    rw [List.getElem?_map] at hd
    obtain ⟨a, ha, rfl⟩ := Option.map_eq_some_iff.mp hd
    have hm := List.mem_of_getElem? ha
    have hi : i < xs.length := (List.getElem?_eq_some_iff.mp ha).1
    have ht := take_map ha
    refine out a hm S hh.1 _ ?_
    dsimp only [dYes]
    rw [if_pos rfl]
    refine src a hm S hh.1 _ fun S' sg => ?_
    have hb : ((xs.take i).flatMap fun a => (ys a).filterMap (f a)).length ≤ 90000 := by
      have := flat_le (fun a => (ys a).filterMap (f a)) 300 (xs.take i) fun b hb => Nat.le_trans (List.length_filterMap_le ..) (hl2 b (List.mem_of_mem_take hb))
      have h3 : (xs.take i).length ≤ 300 := by rw [List.length_take]; omega
      have := Nat.mul_le_mul_right 300 h3
      omega
    refine ⟨fun j S => SG S1 S ∧ S p = some (.lst (((xs.take i).flatMap fun a => (ys a).filterMap (f a)) ++ ((ys a).take j).filterMap (f a))) ∧ j ≤ (ys a).length, ⟨hh.1.trans sg, ?_, Nat.zero_le _⟩, fun j S _ q => True.intro, fun j e S2 he q => ?_, fun S2 q => ?_⟩
    · rw [sg _ _ (fun z => z) hh.2.1]
      simp
    · have he : ((ys a).map (h a))[j]? = some e := he
      rw [List.getElem?_map] at he
      obtain ⟨b, hb', rfl⟩ := Option.map_eq_some_iff.mp he
      have hj : j < (ys a).length := (List.getElem?_eq_some_iff.mp hb').1
      have ht2 := take_map hb'
      have h2 := hl2 a hm
      refine step a hm b (List.mem_of_getElem? hb') S2 q.1 _ _ (fun y hy S3 sg3 => ?_) (fun hn S3 sg3 => ?_)
      · have hp : S3 p = _ := sg3 _ _ (fun z => z) q.2.1
        have hl : (((ys a).take j).filterMap (f a)).length ≤ 300 := Nat.le_trans (List.length_filterMap_le ..) (by rw [List.length_take]; omega)
        refine ⟨_, hp, by rw [List.length_append]; omega, SG.keepP np q.1 sg3, ?_, hj⟩
        · rw [Sto.same, ht2, List.filterMap_append, List.append_assoc]
          simp [hy]
      · refine ⟨q.1.trans sg3, ?_, hj⟩
        rw [sg3 _ _ (fun z => z) q.2.1, ht2, List.filterMap_append]
        simp [hn]
    · have q : SG S1 S2 ∧ S2 p = some (.lst (((xs.take i).flatMap fun a => (ys a).filterMap (f a)) ++ ((ys a).take ((ys a).map (h a)).length).filterMap (f a))) ∧ _ := q
      have q2 := q.2.1
      rw [List.length_map, List.take_length] at q2
      refine ⟨q.1, ?_, hi⟩
      rw [q2, ht, List.flatMap_append]
      simp
  · have h : SG S1 S ∧ S p = some (.lst ((xs.take (xs.map gx).length).flatMap fun a => (ys a).filterMap (f a))) ∧ _ := h
    have h2 := h.2.1
    rw [List.length_map, List.take_length] at h2
    exact fin p S np h.1 h2
theorem putD_new {kvs : List (Key × D)} {k : Key} {v : D} (h : k ∉ kvs.map (·.1)) : putD kvs k v = kvs ++ [(k, v)] := by
  unfold putD
  rw [if_neg]
  intro z
  obtain ⟨x, h1, h2⟩ := List.any_eq_true.mp z
  exact h (List.mem_map.mpr ⟨x, h1, of_decide_eq_true h2⟩)
theorem dc_map {α : Type} {g : DTG} {tk tv : DTE} {us : List Nat} {env : Env} {S1 : Sto} {R : DK} (xs : List α) (gx : α → D) (lv : Sto → Prop) (κ : α → Key) (v : α → D) (hlen : xs.length ≤ 100000) (nd : (xs.map κ).Nodup) (live : ∀ S, (∀ a o, S1 a = some o → S a = some o) → lv S)
    (step : ∀ a ∈ xs, ∀ S, SG S1 S → ∀ K : D → D → Sto → Prop, (∀ S', SG S S' → K (kD (κ a)) (v a) S') → g (gx a) (dwipe env us) S fun env' S' => tk env' S' fun y S3 => tv env' S3 fun z S4 => K y z S4)
    (fin : ∀ S', SG S1 S' → R (.dct (xs.map fun a => (κ a, v a))) S') :
    ∀ p, S1 p = none → ∃ Pv : Nat → Sto → Prop, Pv 0 (S1.put p (.dK [])) ∧ (∀ i S, i ≤ (Src.mk (xs.map gx) lv).items.length → Pv i S → (Src.mk (xs.map gx) lv).live S) ∧
      (∀ i d S, (Src.mk (xs.map gx) lv).items[i]? = some d → Pv i S → g d (dwipe env us) S fun env' S' => dYes env' S' fun b S2 => if b = true then tk env' S2 fun y S3 => tv env' S3 fun z S4 => ∃ kvs k, y = kD k ∧ S4 p = some (.dK kvs) ∧ kvs.length < 1000000 ∧ Pv (i + 1) (S4.put p (.dK (putD kvs k z))) else Pv (i + 1) S2) ∧
      ∀ S, Pv (Src.mk (xs.map gx) lv).items.length S → ∃ kvs, S p = some (.dK kvs) ∧ R (.dct kvs) (S.rem p) := by
  intro p np
  refine ⟨fun i S => SG S1 S ∧ S p = some (.dK ((xs.take i).map fun a => (κ a, v a))) ∧ i ≤ xs.length, ⟨.new np, Sto.same, Nat.zero_le _⟩, fun i S _ h => live S fun a o e => h.1 _ _ (fun z => z) e, fun i d S hd h => ?_, fun S h => ?_⟩
  · have hd : (xs.map gx)[i]? = some d := hd
    rw [List.getElem?_map] at hd
    obtain ⟨a, ha, rfl⟩ := Option.map_eq_some_iff.mp hd
    have hi : i < xs.length := (List.getElem?_eq_some_iff.mp ha).1
    have ht := take_map ha
    refine step a (List.mem_of_getElem? ha) S h.1 (fun y z S4 => ∃ kvs k, y = kD k ∧ S4 p = some (.dK kvs) ∧ kvs.length < 1000000 ∧ (SG S1 (S4.put p (.dK (putD kvs k z))) ∧ (S4.put p (.dK (putD kvs k z))) p = some (.dK ((xs.take (i + 1)).map fun a => (κ a, v a))) ∧ i + 1 ≤ xs.length)) fun S' sg => ?_
    have hp : S' p = _ := sg _ _ (fun z => z) h.2.1
    refine ⟨_, _, rfl, hp, ?_, SG.keepP np h.1 sg, ?_, hi⟩
    · rw [List.length_map, List.length_take]
      omega
    · have hnew : κ a ∉ ((xs.take i).map fun a => (κ a, v a)).map (·.1) := by
        rw [List.map_map]
        intro z
        have e : xs = xs.take i ++ a :: xs.drop (i + 1) := by
          obtain ⟨hi', e⟩ := List.getElem?_eq_some_iff.mp ha
          rw [← e]
          exact (List.take_append_drop i xs).symm.trans (by rw [List.drop_eq_getElem_cons hi'])
        rw [e, List.map_append, List.map_cons] at nd
        obtain ⟨y, h1, h2⟩ := List.mem_map.mp z
        exact (List.nodup_append.mp nd).2.2 _ (List.mem_map.mpr ⟨y, h1, h2⟩) _ List.mem_cons_self rfl
      rw [Sto.same, putD_new hnew, ht, List.map_append]
      rfl
  · have h : SG S1 S ∧ S p = some (.dK ((xs.take (xs.map gx).length).map fun a => (κ a, v a))) ∧ _ := h
    have h2 := h.2.1
    rw [List.length_map, List.take_length] at h2
    refine ⟨_, h2, fin _ fun a o n e => ?_⟩
    have hap : a ≠ p := fun z => by rw [z, np] at e; cases e
    show (if a = p then none else S a) = some o
    rw [if_neg hap]
    exact h.1 _ _ n e
end Sv

set_option maxHeartbeats 400000
/-! Over data: where messages happen, trips, lines that fall. -/
namespace Sv
open PySem L2
def natD (cs : List Nat) : List D := cs.map fun (c : Nat) => D.int (c : Int)
theorem natD_ints (cs : List Nat) : natD cs = intsD (cs.map fun (c : Nat) => (c : Int)) := by
  unfold natD intsD
  rw [List.map_map]
  rfl
theorem natD_len (cs : List Nat) : (natD cs).length = cs.length := List.length_map ..
theorem natD_at {cs : List Nat} {i c : Nat} (h : cs[i]? = some c) : (natD cs)[i]? = some (D.int (c : Int)) := by
  unfold natD
  rw [List.getElem?_map, h]
  rfl
theorem fm_map2 {α β : Type} (f : α → β) (l : List α) : l.filterMap (fun x => some (f x)) = l.map f := fm_map f l
theorem w_nums {rows : List (List Int)} {S : Sto} {R : DK} (hl : rows.length ≤ 1000) (k : ∀ S', SG S S' → R (.tup (natD (prs rows))) S') : dFn 2 B_state_numbers_78d0 [.tup (rowsD rows)] S R := by
  refine ⟨_, rfl, _, rfl, lc_map rows rowD (fun _ => True) (fun row => some (D.int ((row.count 0 : Nat) + 1))) (by omega) (fun _ _ => True.intro) (fun row _ S1 sg K Kn hk _ => turn_y ⟨_, rfl, ⟨_, rfl⟩, row, 0, rfl, rfl, hk _ rfl _ (.refl _)⟩) fun p S' np sg hp => ?_⟩
  refine ⟨_, _, rfl, seqOf_lst hp, fun ys z => (nomatch z), ?_⟩
  rw [fm_map]
  have := k S' sg
  unfold natD prs at this
  rw [List.map_map] at this
  exact this
/-- where a number stands in the rows -/
def hpD : Option (Nat × Nat) → D
  | none => .non
  | some (p, k) => .tup [.int (p : Int), .int (k : Int)]
theorem w_hap {rows : List (List Int)} {e : Int} {S : Sto} {R : DK} (k : R (hpD (hap rows e)) S) : dFn 6 B_happened_at_e85f [.tup (rowsD rows), .int e] S R := by
  refine ⟨_, rfl, _, _, rfl, rfl, fun i env S' => S' = S ∧ i ≤ rows.length ∧ (∃ x2 x3 x4 x5 : Option D, env = [some (.tup (rowsD rows)), some (.int e), x2, x3, x4, x5]) ∧ ∀ (j : Nat) (r : List Int), j < i → rows[j]? = some r → e ∉ r, ⟨rfl, Nat.zero_le _, ⟨_, _, _, _, rfl⟩, fun j r z => absurd z (Nat.not_lt_zero _)⟩, fun _ _ _ _ _ => True.intro, ?_, ?_⟩
  · rintro i d env S' hd ⟨rfl, hi0, ⟨x2, x3, x4, x5, rfl⟩, hno⟩
    have hd : (enD (rowsD rows))[i]? = some d := hd
    unfold enD at hd
    rw [List.getElem?_mapIdx] at hd
    obtain ⟨rd, hrd, rfl⟩ := Option.map_eq_some_iff.mp hd
    unfold rowsD at hrd
    rw [List.getElem?_map] at hrd
    obtain ⟨row, hrow, rfl⟩ := Option.map_eq_some_iff.mp hrd
    have hi : i < rows.length := (List.getElem?_eq_some_iff.mp hrow).1
    refine ⟨_, rfl, .inl (.inl rfl), _, _, rfl, _, _, rfl, rfl, ?_⟩
    refine ⟨_, rfl, _, rfl, fun j env S2 => S2 = S' ∧ j ≤ row.length ∧ (∃ x5 : Option D, env = [some (.tup (rowsD rows)), some (.int e), some (.int (i : Nat)), some (rowD row), some (.int ((row.take j).count 0 : Nat)), x5]) ∧ e ∉ row.take j, ⟨rfl, Nat.zero_le _, ⟨_, rfl⟩, List.not_mem_nil⟩, fun _ _ _ _ _ => True.intro, ?_, ?_⟩
    · rintro j d env S2 hd ⟨rfl, hj0, ⟨x5, rfl⟩, hn⟩
      have hd : (intsD row)[j]? = some d := hd
      unfold intsD at hd
      rw [List.getElem?_map] at hd
      obtain ⟨z, hz, rfl⟩ := Option.map_eq_some_iff.mp hd
      have hj : j < row.length := (List.getElem?_eq_some_iff.mp hz).1
      have htk : row.take (j + 1) = row.take j ++ [z] := take_map hz
      refine ⟨_, rfl, _, rfl, _, rfl, iteB (fun h1 => ?_) (fun h1 => ?_)⟩
      · have h1 : z = e := by simpa using h1
        subst h1
        refine ⟨_, rfl, _, rfl, rfl, ?_⟩
        have hm : z ∈ row := List.mem_of_getElem? hz
        have hix : row.idxOf z = j := by
          have hk := List.idxOf_lt_length_iff.mpr hm
          have hg : row[row.idxOf z] = z := List.getElem_idxOf hk
          rcases Nat.lt_trichotomy (row.idxOf z) j with h | h | h
          · exact absurd (List.mem_take_iff_getElem.mpr ⟨row.idxOf z, by omega, hg⟩) hn
          · exact h
          · have := List.not_of_lt_findIdx (xs := row) (p := (· == z)) (i := j) h
            have hzz : row[j] = z := (List.getElem?_eq_some_iff.mp hz).2
            simp [hzz] at this
        have hh : hap rows z = some (0 + i, (row.take (row.idxOf z)).count 0) := hapFrom_some hno hrow hm
        rw [hh, Nat.zero_add, hix] at k
        exact k
      · have hze : z ≠ e := by simpa using h1
        have hn2 : e ∉ row.take (j + 1) := by
          rw [htk, List.mem_append, List.mem_singleton]
          rintro (h | h)
          · exact hn h
          · exact hze h.symm
        refine ⟨_, rfl, _, rfl, iteB (fun h2 => ?_) (fun h2 => ?_)⟩
        · have h2 : z = 0 := by simpa using h2
          subst h2
          refine ⟨_, rfl, ⟨rfl, hj, ⟨some (.int 0), ?_⟩, hn2⟩⟩
          rw [htk, List.count_append, List.count_singleton_self]
          rfl
        · have hz0 : z ≠ 0 := by simpa using h2
          refine ⟨rfl, hj, ⟨some (.int z), ?_⟩, hn2⟩
          rw [htk, List.count_append, List.count_singleton, if_neg (by simpa using hz0), Nat.add_zero]
          rfl
    · rintro env S2 ⟨rfl, _, ⟨x5, rfl⟩, hn⟩
      refine ⟨rfl, hi, ⟨_, _, _, _, rfl⟩, fun j r hj hr => ?_⟩
      by_cases hji : j = i
      · subst hji
        obtain rfl := Option.some.inj (hrow.symm.trans hr)
        have hn : e ∉ row.take (intsD row).length := hn
        rw [intsD_len, List.take_length] at hn
        exact hn
      · exact hno j r (by omega) hr
  · rintro env S' ⟨rfl, _, ⟨x2, x3, x4, x5, rfl⟩, hno⟩
    have hh : hap rows e = none := hapFrom_none fun j r hr => hno j r (by
      have := (List.getElem?_eq_some_iff.mp hr).1
      show j < (enD (rowsD rows)).length
      unfold enD rowsD
      rw [List.length_mapIdx, List.length_map]
      exact this) hr
    rw [hh] at k
    exact k
/-- a trip -/
def tripD (rows : List (List Int)) (m : Int) : D := .tup [hpD (hap rows m), hpD (hap rows (0 - m))]
def tripsD (rows : List (List Int)) : D := .dct ((recvL rows).map fun m => (Sum.inl m, tripD rows m))
theorem w_orph {p k p' k' c c' : Nat} {l : Addr} {cs : List Nat} {S : Sto} {R : DK} (hl : S l = some (.lst (natD cs))) (hc : cs[p]? = some c) (hc' : cs[p']? = some c') (q : R (.bl (decide (k' < c') && decide (c ≤ k))) S) :
    dFn 6 B_is_orphan_8604 [.tup [hpD (some (p, k)), hpD (some (p', k'))], .ref l] S R := by
  refine ⟨_, rfl, _, rfl, .inl (.inl rfl), _, _, rfl, ⟨_, rfl, .inl (.inl rfl), _, _, rfl, _, _, rfl, rfl, _, _, rfl, ⟨_, rfl, .inl (.inl rfl), _, _, rfl, _, _, rfl, rfl, rfl, ?_⟩⟩⟩
  refine ⟨_, rfl, _, rfl, _, rfl, _, _, _, seqOf_lst hl, rfl, atI_nat (natD_at hc'), _, rfl, iteB (fun h1 => ?_) (fun h1 => ?_)⟩
  · have h1 : k' < c' := by
      have := of_decide_eq_true h1
      omega
    refine ⟨_, rfl, _, rfl, _, rfl, _, _, _, seqOf_lst hl, rfl, atI_nat (natD_at hc), ?_⟩
    rw [decide_eq_true h1, Bool.true_and] at q
    have : decide ((c : Int) ≤ (k : Int)) = decide (c ≤ k) := decide_eq_decide.mpr (by omega)
    show R (.bl (decide ((c : Int) ≤ (k : Int)))) S
    rw [this]
    exact q
  · have h1 : ¬ k' < c' := by
      have := of_decide_eq_false h1
      omega
    rw [decide_eq_false h1, Bool.false_and] at q
    exact q
theorem hpD_neg (rows : List (List Int)) (m : Int) : hap rows (-m) = hap rows (0 - m) := by rw [Int.zero_sub]
theorem negs_len (l : List Int) : (negs l).length ≤ l.length := by
  unfold negs
  rw [List.length_map]
  exact List.length_filter_le ..
theorem Good.flat60 {many most : Nat} {rows : List (List Int)} (h : Good many most rows) : rows.flatten.length ≤ most := by
  rw [List.length_flatten]
  exact h.events
theorem Good.row60 {many most : Nat} {rows : List (List Int)} (h : Good many most rows) (h60 : most ≤ 60) : ∀ r ∈ rows, r.length ≤ 60 := fun r hr => by
  obtain ⟨i, hi⟩ := List.getElem?_of_mem hr
  have := (h.row hi).1
  omega
theorem negs_flat : ∀ rows : List (List Int), (rows.flatMap fun row => row.filterMap fun v => if decide (v < 0) = true then some (D.int (-v)) else none) = intsD (negs rows.flatten)
  | [] => rfl
  | r :: rs => by
    have h1 : ∀ l : List Int, (l.filterMap fun v => if decide (v < 0) = true then some (D.int (-v)) else none) = intsD (negs l) := fun l => by
      induction l with
      | nil => rfl
      | cons a t ih =>
        rw [List.filterMap_cons]
        unfold negs at ih ⊢
        rw [List.filter_cons]
        by_cases z : a < 0
        · simp only [z, decide_true, if_true]
          rw [ih]
          rfl
        · simp only [z, decide_false, Bool.false_eq_true, if_false]
          exact ih
    rw [List.flatMap_cons, negs_flat rs, h1, List.flatten_cons]
    unfold negs intsD
    rw [List.filter_append, List.map_append, List.map_append]
theorem w_trips {rows : List (List Int)} {many most : Nat} {S : Sto} {R : DK} (hG : Good many most rows) (h6 : many ≤ 6) (h60 : most ≤ 60) (k : ∀ S', SG S S' → R (tripsD rows) S') : dFn 5 B_trips_of_ea9a [.tup (rowsD rows)] S R := by
  have r60 := hG.row60 h60
  have rl := hG.len
  refine ⟨_, rfl, _, rfl, lc2_map rows rowD (fun _ => True) (fun row => row) (fun _ v => .int v) (fun _ v => if decide (v < 0) = true then some (D.int (-v)) else none) (fun row => [some (.tup (rowsD rows)), none, none, some (rowD row), none]) (by omega) (fun a ha => by have := r60 a ha; omega) (fun _ _ => True.intro)
    (fun row _ S1 sg K hk => hk) (fun row _ S1 sg K hk => ⟨_, rfl, _, rfl, hk _ (.refl _)⟩) (fun row _ v _ S1 sg K Kn hk hn => turn_n ⟨_, rfl, _, rfl, iteB (fun e => ⟨_, rfl, hk _ (by rw [if_pos e]) _ (.refl _)⟩) (fun e => hn (by have e : decide (v < 0) = false := e; rw [e]; rfl) _ (.refl _))⟩) fun p S1 np sg1 hp => ?_⟩
  rw [negs_flat] at hp
  refine ⟨_, negs rows.flatten, rfl, seqOf_lst hp, noTup _, ?_, fun ns q pm pw nq => ?_⟩
  · have := negs_len rows.flatten
    have := hG.flat60
    omega
  have e : ns = recvL rows := perm_sorted_eq (pm.trans hG.recv) pw (recvL_sorted rows)
  subst e
  have sg2 : SG S1 (S1.put q (.lst (intsD (recvL rows)))) := .new nq
  have hq : (S1.put q (.lst (intsD (recvL rows)))) q = some (.lst (intsD (recvL rows))) := Sto.same
  generalize S1.put q (.lst (intsD (recvL rows))) = S2 at sg2 hq
  have len := recvL_len rows
  refine ⟨_, rfl, _, ⟨_, hq, rfl⟩, dc_map (recvL rows) D.int (fun S' => S' q = some (.lst (intsD (recvL rows)))) Sum.inl (tripD rows) (by omega) ?_ (fun S' sg => sg _ _ hq) (fun m _ S3 sg3 K hk => ?_) fun S3 sg3 => k _ ((sg1.trans sg2).trans sg3)⟩
  · exact List.pairwise_map.mpr ((recvL_nodup rows).imp fun n z => n (Sum.inl.inj z))
  · refine ⟨_, rfl, _, rfl, _, rfl, rfl, w_hap ⟨_, rfl, _, rfl, rfl, w_hap ⟨rfl, ?_⟩⟩⟩
    rw [hpD_neg]
    exact hk _ (.refl _)
end Sv

set_option maxHeartbeats 400000
/-! Over data: the lines to which processes fall back. -/
namespace Sv
open PySem L2
theorem hap_trip {rows : List (List Int)} {many most : Nat} (hG : Good many most rows) {m : Int} (hm : m ∈ recvL rows) : 1 ≤ m ∧ ∃ p k p' k' : Nat, hap rows m = some (p, k) ∧ hap rows (0 - m) = some (p', k') ∧ tripD rows m = .tup [hpD (some (p, k)), hpD (some (p', k'))] := by
  have h1 := hG.recv_sent hm
  have h2 := (List.mem_filter.mp hm).2
  have h3 := names_mem.mp (List.mem_filter.mp hm).1
  unfold sentM at h1
  unfold recvM at h2
  obtain ⟨⟨p, k⟩, e1⟩ := Option.isSome_iff_exists.mp h1
  obtain ⟨⟨p', k'⟩, e2⟩ := Option.isSome_iff_exists.mp h2
  refine ⟨h3.1, p, k, p', k', e1, e2, ?_⟩
  unfold tripD
  rw [e1, e2]
theorem ixnN {n j : Nat} (hj : j < n) : ixN n (j : Int) = some j := by
  unfold ixN
  rw [if_pos (Int.natCast_nonneg j), if_pos (Int.ofNat_lt.mpr hj), Int.toNat_natCast]
theorem w_lowered {rows : List (List Int)} {many most : Nat} {h : Addr} {high : List Nat} {S : Sto} {R : DK} (hG : Good many most rows) (h6 : many ≤ 6) (h60 : most ≤ 60) (hh : S h = some (.lst (natD high))) (hhl : high.length = rows.length)
    (q : ∀ cs S', SG S S' → IsLow rows high cs → R (.tup (natD cs)) S') : dFn 7 B_lowered_c6aa [tripsD rows, .ref h] S R := by
  refine ⟨_, rfl, _, _, rfl, seqOf_lst hh, fun l nl => ?_⟩
  have s1 : SG S (S.put l (.lst (natD high))) := .new nl
  have hl1 : (S.put l (.lst (natD high))) l = some (.lst (natD high)) := Sto.same
  generalize S.put l (.lst (natD high)) = S1 at s1 hl1 ⊢
  dsimp only
  refine ⟨fun m env S' => ∃ (cs : List Nat) (b : Bool) (x4 x5 x6 : Option D), env = [some (tripsD rows), some (.ref h), some (.ref l), some (.bl b), x4, x5, x6] ∧ SG S S' ∧ S' l = some (.lst (natD cs)) ∧ Dn rows high cs ∧ (b = false → ConsL rows cs) ∧ m = 2 * cs.sum + (if b = true then 1 else 0), ⟨_, high, true, _, _, _, rfl, s1, hl1, .start _ _, (fun z => nomatch z), rfl⟩, ?_⟩
  rintro m env S' ⟨cs, b, x4, x5, x6, rfl, sm, hl, hdn, hb, hm⟩
  refine ⟨_, rfl, b, rfl, ?_⟩
  cases b with
  | false =>
    refine goF ?_
    exact ⟨_, rfl, _, _, rfl, seqOf_lst hl, fun ys z => (nomatch z), q cs _ sm ⟨hdn, hb rfl⟩⟩
  | true =>
    rw [if_pos rfl] at hm
    refine goT ?_
    refine ⟨_, rfl, _, rfl, fun j env S'' => ∃ (c1 : List Nat) (b1 : Bool) (x4 x5 x6 : Option D), env = [some (tripsD rows), some (.ref h), some (.ref l), some (.bl b1), x4, x5, x6] ∧ SG S S'' ∧ S'' l = some (.lst (natD c1)) ∧ Dn rows high c1 ∧
          ((b1 = true ∧ c1.sum < cs.sum) ∨ (b1 = false ∧ c1 = cs ∧ ∀ (i : Nat) (m : Int), i < j → (recvL rows)[i]? = some m → ∀ (p k p' k' c c' : Nat), hap rows m = some (p, k) → hap rows (0 - m) = some (p', k') → cs[p]? = some c → cs[p']? = some c' → k' < c' → k < c)),
      ⟨cs, false, _, _, _, rfl, sm, hl, hdn, .inr ⟨rfl, rfl, fun i m z => absurd z (Nat.not_lt_zero _)⟩⟩, fun _ _ _ _ _ => True.intro, ?_, ?_⟩
    · rintro j d env S2 hd ⟨c1, b1, x4, x5, x6, rfl, s2, hl2, hd2, hor⟩
      have hd : (((recvL rows).map fun m => ((Sum.inl m : Key), tripD rows m)).map (·.2))[j]? = some d := hd
      rw [List.map_map, List.getElem?_map] at hd
      obtain ⟨mm, hmm, rfl⟩ := Option.map_eq_some_iff.mp hd
      obtain ⟨m1, p, k, p', k', a5, a6, e⟩ := hap_trip hG (List.mem_of_getElem? hmm)
      have hp : p < c1.length := by rw [hd2.len, hhl]; exact Good.hap_lt a5
      have hp' : p' < c1.length := by rw [hd2.len, hhl]; exact Good.hap_lt a6
      have hc := List.getElem?_eq_getElem hp
      have hc' := List.getElem?_eq_getElem hp'
      generalize c1[p] = c at hc
      generalize c1[p'] = c' at hc'
      show dgName 4 (tripD rows mm) _ _ _
      rw [e]
      refine ⟨_, rfl, _, rfl, rfl, w_orph hl2 hc hc' ⟨_, rfl, iteB (fun g => ?_) (fun g => ?_)⟩⟩
      · have g1 : k' < c' := of_decide_eq_true (Bool.and_eq_true_iff.mp g).1
        have g2 : c ≤ k := of_decide_eq_true (Bool.and_eq_true_iff.mp g).2
        refine ⟨_, rfl, _, 1, _, rfl, rfl, rfl, _, rfl, .inl (.inl rfl), _, _, rfl, _, _, rfl, rfl, ?_⟩
        refine ⟨_, rfl, _, rfl, _, rfl, l, _, p', p', rfl, rfl, hl2, ?_, ?_⟩
        · rw [natD_len]; exact ixnN hp'
        have e : (natD c1).set p' (D.int k') = natD (c1.set p' k') := by rw [natD, natD, List.map_set]
        rw [e]
        have hs := sum_set (k := k') hc'
        refine ⟨c1.set p' k', true, _, _, _, rfl, ?_, Sto.same, hd2.step (by omega) a5 a6 hc hc' g1 g2, .inl ⟨rfl, ?_⟩⟩
        · exact SG.keepP nl s2 (.refl _)
        rcases hor with ⟨_, z⟩ | ⟨_, rfl, _⟩
        · omega
        · omega
      · refine ⟨c1, b1, _, _, _, rfl, s2, hl2, hd2, ?_⟩
        rcases hor with z | ⟨z1, rfl, z3⟩
        · exact .inl z
        · refine .inr ⟨z1, rfl, fun i m hi hm2 q1 w1 q2 w2 d d' u1 u2 u3 u4 u5 => ?_⟩
          by_cases e : i = j
          · subst e
            obtain rfl := Option.some.inj (hmm.symm.trans hm2)
            rw [a5] at u1
            rw [a6] at u2
            cases u1
            cases u2
            obtain rfl := Option.some.inj (hc.symm.trans u3)
            obtain rfl := Option.some.inj (hc'.symm.trans u4)
            rw [decide_eq_true u5, Bool.true_and] at g
            have := of_decide_eq_false g
            omega
          · exact z3 i m (by omega) hm2 q1 w1 q2 w2 d d' u1 u2 u3 u4 u5
    · rintro env S2 ⟨c1, b1, x4, x5, x6, rfl, s2, hl2, hd2, hor⟩
      rcases hor with ⟨rfl, z⟩ | ⟨rfl, rfl, z3⟩
      · exact ⟨2 * c1.sum + 1, by omega, c1, true, _, _, _, rfl, s2, hl2, hd2, (fun z => nomatch z), rfl⟩
      · refine ⟨2 * c1.sum, by omega, c1, false, _, _, _, rfl, s2, hl2, hd2, fun _ m p k p' k' c c' hm0 u1 u2 u3 u4 u5 => ?_, rfl⟩
        obtain ⟨i, hi⟩ := List.getElem?_of_mem (hG.recv_mem hm0 u2)
        refine z3 i m ?_ hi p k p' k' c c' u1 u2 u3 u4 u5
        show i < (((recvL rows).map fun m => ((Sum.inl m : Key), tripD rows m)).map (·.2)).length
        rw [List.length_map, List.length_map]
        exact (List.getElem?_eq_some_iff.mp hi).1
theorem low_exists (rows : List (List Int)) (high : List Nat) : ∃ cs, IsLow rows high cs := by
  have go : ∀ (n : Nat) (cs : List Nat), cs.sum ≤ n → Dn rows high cs → ∃ cs, IsLow rows high cs := by
    intro n
    induction n with
    | zero =>
      intro cs hs hd
      refine ⟨cs, hd, fun m p k p' k' c c' hm h1 h2 h3 h4 h5 => ?_⟩
      have := sum_set (k := 0) h4
      omega
    | succ n ih =>
      intro cs hs hd
      refine Classical.byContradiction fun no => no ⟨cs, hd, fun m p k p' k' c c' hm h1 h2 h3 h4 h5 => Classical.byContradiction fun h6 => no (ih (cs.set p' k') ?_ (hd.step hm h1 h2 h3 h4 h5 (by omega)))⟩
      have := sum_set (k := k') h4
      omega
  exact go _ high (Nat.le_refl _) (.start rows high)
noncomputable def fallL (rows : List (List Int)) (fs : List Int) : List Nat := Classical.choose (low_exists rows (tops rows fs))
theorem fall_low (rows : List (List Int)) (fs : List Int) : IsLow rows (tops rows fs) (fallL rows fs) := Classical.choose_spec (low_exists rows (tops rows fs))
theorem fall_len (rows : List (List Int)) (fs : List Int) : (fallL rows fs).length = rows.length := by rw [(fall_low rows fs).len, tops_len]
theorem fall_eq {rows : List (List Int)} {fs : List Int} {cs : List Nat} (h : IsLow rows (tops rows fs) cs) : cs = fallL rows fs := h.unique (fall_low rows fs)
theorem lc_mapE {α : Type} {g : DTG} {tt : DTT} {te : DTE} {us : List Nat} {env : Env} {S1 : Sto} {Rp : Addr → Sto → Prop} {w : Src} (xs : List α) (gx : α → D) (hw : w.items = xs.map gx) (f : α → Option D) (hlen : xs.length ≤ 100000) (live : ∀ S, SG S1 S → w.live S)
    (step : ∀ a ∈ xs, ∀ S, SG S1 S → ∀ (K : DK) (Kn : Sto → Prop), (∀ y, f a = some y → ∀ S', SG S S' → K y S') → (f a = none → ∀ S', SG S S' → Kn S') → Turn1 g tt te (dwipe env us) (gx a) S K Kn)
    (fin : ∀ p S', S1 p = none → SG S1 S' → S' p = some (.lst (xs.filterMap f)) → Rp p S') :
    ∀ p, S1 p = none → ∃ Pv : Nat → Sto → Prop, Pv 0 (S1.put p (.lst [])) ∧ (∀ i S, i ≤ w.items.length → Pv i S → w.live S) ∧
      (∀ i d S, w.items[i]? = some d → Pv i S → g d (dwipe env us) S fun env' S' => tt env' S' fun b S2 => if b = true then te env' S2 fun y S3 => ∃ acc, S3 p = some (.lst acc) ∧ acc.length < 1000000 ∧ Pv (i + 1) (S3.put p (.lst (acc ++ [y]))) else Pv (i + 1) S2) ∧
      ∀ S, Pv w.items.length S → Rp p S := by
  obtain ⟨it, lv⟩ := w
  cases hw
  exact lc_map xs gx lv f hlen live step fin
theorem enD_map {α : Type} (h : α → D) (cs : List α) : enD (cs.map h) = (cs.mapIdx fun i c => (i, c)).map fun x => D.tup [.int ((x.1 : Nat) : Int), h x.2] := by
  unfold enD
  apply List.ext_getElem?
  intro i
  rw [List.getElem?_mapIdx, List.getElem?_map, List.getElem?_map, List.getElem?_mapIdx]
  cases cs[i]? <;> rfl
theorem any_int (fs : List Int) (i : Int) : ((fs.map PyData.int).any fun z => PyData.eqv z (.int i)) = decide (i ∈ fs) := by
  induction fs with
  | nil => rfl
  | cons a r ih =>
    rw [List.map_cons, List.any_cons, ih, show PyData.eqv (.int a) (.int i) = decide (a = i) from rfl]
    by_cases h : a = i
    · subst h; simp
    · have h' : i ≠ a := fun z => h z.symm
      simp [h, h']
theorem tops_of (rows : List (List Int)) (fs : List Int) : ((prs rows).mapIdx fun i c => (i, c)).map (fun x => D.int (if decide (((x.1 : Nat) : Int) ∈ fs) = true then (x.2 : Int) - 1 else x.2)) = natD (tops rows fs) := by
  unfold tops natD prs
  apply List.ext_getElem?
  intro i
  rw [List.getElem?_map, List.getElem?_mapIdx, List.getElem?_map, List.getElem?_map, List.getElem?_mapIdx]
  cases rows[i]? with
  | none => rfl
  | some r =>
    have e : (if decide (((i : Nat) : Int) ∈ fs) = true then (((r.count 0 + 1 : Nat) : Int)) - 1 else ((r.count 0 + 1 : Nat) : Int)) = ((r.count 0 + (if decide ((i : Int) ∈ fs) = true then 0 else 1) : Nat) : Int) := by
      split
      · omega
      · rfl
    exact congrArg (fun z => some (D.int z)) e
theorem yesS {P Q : Sto → Prop} {env : Env} {S : Sto} (h : P S) : dYes env S (fun b S2 => if b = true then P S2 else Q S2) := show (if true = true then P S else Q S) from goT h
theorem w_fall1 {rows : List (List Int)} {many most : Nat} {fs : List Int} {S : Sto} {R : DK} (hG : Good many most rows) (h6 : many ≤ 6) (h60 : most ≤ 60) (q : ∀ S', SG S S' → R (.tup (natD (fallL rows fs))) S') :
    dFn 5 B_fall_back_94df [.tup (rowsD rows), .wtup (intsD fs)] S R := by
  have rl := hG.len
  have pl : (prs rows).length = rows.length := List.length_map ..
  refine ⟨_, rfl, rfl, w_nums (by omega) fun S1 sg1 => ⟨_, _, rfl, rfl, lc_mapE ((prs rows).mapIdx fun i c => (i, c)) (fun x => .tup [.int ((x.1 : Nat) : Int), .int ((x.2 : Nat) : Int)]) (enD_map (fun c : Nat => D.int (c : Int)) (prs rows))
    (fun x => some (D.int (if decide (((x.1 : Nat) : Int) ∈ fs) = true then (x.2 : Int) - 1 else x.2))) (by rw [List.length_mapIdx]; omega) (fun _ _ => True.intro) (fun x _ S2 sg K Kn hk _ => ?_) fun p S2 np sg2 hp => ?_⟩⟩
  · refine ⟨_, rfl, .inl (.inl rfl), _, _, rfl, _, _, rfl, rfl, yesS ⟨_, rfl, _, rfl, _, _, .int _, .inr (.wtup (pys_ints fs)), rfl, ?_, shaped_ints fs, _, rfl, ?_⟩⟩
    · exact shaped_ints fs
    · rw [any_int]
      have hk := hk _ rfl S2 (.refl _)
      by_cases h : ((x.1 : Nat) : Int) ∈ fs
      · rw [decide_eq_true h] at hk ⊢
        exact goT ⟨_, rfl, hk⟩
      · rw [decide_eq_false h] at hk ⊢
        exact goF ⟨_, rfl, hk⟩
  · rw [fm_map, tops_of] at hp
    refine ⟨_, rfl, rfl, w_trips hG h6 h60 fun S3 sg3 => ⟨_, rfl, rfl, w_lowered hG h6 h60 (sg3 _ _ (fun z => z) hp) (tops_len rows fs) fun cs S4 sg4 hlow => ?_⟩⟩
    rw [fall_eq hlow]
    exact q S4 (((sg1.trans sg2).trans sg3).trans sg4)
theorem w_fall {rows : List (List Int)} {many most : Nat} {fs : List Int} {S : Sto} {R : DK} (hG : Good many most rows) (h6 : many ≤ 6) (h60 : most ≤ 60) (hf : fs.length ≤ 900) (q : ∀ S', SG S S' → R (.tup (natD (fallL rows fs))) S') :
    dFnS 1 5 B_fall_back_94df (.tup (rowsD rows) :: intsD fs) S R := by
  refine ⟨Nat.succ_le_succ (Nat.zero_le _), ?_, w_fall1 hG h6 h60 q⟩
  rw [List.length_cons, intsD_len]
  omega
end Sv

/-! mathematics from the pieces (made by pull.py) -/
namespace Sv
open PySem PySem.Spec PyProof.Rows L2
structure Fine (n W : Nat) (d : PyData) : Prop where
  dep : d.depth ≤ n
  wei : d.weight ≤ W
  lay : d.canLay0 = true
  sho : d.showable = true
  ish : d.intsShort 40 = true
structure FineAll (n W : Nat) (ds : List PyData) : Prop where
  dep : PyData.depthAll ds ≤ n
  wei : PyData.weightAll ds ≤ W
  lay : PyData.canLayAll0 ds = true
  sho : PyData.showableAll ds = true
  ish : PyData.intsShortAll 40 ds = true
theorem FineAll.mono {n W m U : Nat} {d : List PyData} (h : FineAll n W d) (e : n ≤ m) (e2 : W ≤ U) : FineAll m U d := ⟨Nat.le_trans h.dep e, Nat.le_trans h.wei e2, h.lay, h.sho, h.ish⟩
theorem fine_nil : FineAll 0 0 [] := ⟨Nat.le_refl _, Nat.le_refl _, rfl, rfl, rfl⟩
theorem fine_cons {n W U : Nat} {d : PyData} {ds : List PyData} (h : Fine n W d) (hs : FineAll n U ds) : FineAll n (W + 1 + U) (d :: ds) := by
  refine ⟨?_, ?_, ?_, ?_, ?_⟩
  · simp only [PyData.depthAll]
    exact Nat.max_le.mpr ⟨h.dep, hs.dep⟩
  · have h1 := h.wei
    have h2 := hs.wei
    simp only [PyData.weightAll]
    omega
  · simp only [PyData.canLayAll0, h.lay, hs.lay, Bool.and_self]
  · simp only [PyData.showableAll, h.sho, hs.sho, Bool.and_self]
  · simp only [PyData.intsShortAll, h.ish, hs.ish, Bool.and_self]
theorem fine_all {n W : Nat} : ∀ {ds : List PyData}, (∀ d ∈ ds, Fine n W d) → FineAll n ((W + 1) * ds.length) ds
  | [], _ => fine_nil.mono (Nat.zero_le _) (Nat.zero_le _)
  | d :: ds, h => by
    have q := fine_cons (h d List.mem_cons_self) (fine_all fun x hx => h x (List.mem_cons_of_mem _ hx))
    refine q.mono (Nat.le_refl _) ?_
    rw [List.length_cons, Nat.mul_add, Nat.mul_one]
    omega
theorem fine_int {i : Int} (h : i.natAbs < 10 ^ 30) : Fine 0 101 (.int i) := by
  have hl : i.natAbs ≠ 0 → i.natAbs.log2 < 100 := fun h0 => (Nat.log2_lt h0).mpr (Nat.lt_trans h (by decide +kernel))
  have hl2 : i.natAbs.log2 < 1920 := by
    by_cases h0 : i.natAbs = 0
    · rw [h0]; decide
    · exact Nat.lt_trans (hl h0) (by decide)
  refine ⟨Nat.le_refl _, ?_, rfl, decide_eq_true hl2, decide_eq_true ?_⟩
  · simp only [PyData.weight]
    split
    · exact Nat.zero_le _
    · rename_i h0
      have : i.natAbs ≠ 0 := fun z => h0 (by rw [beq_iff_eq]; omega)
      have := hl this
      omega
  · have e := int_text_length_le10 (a := i) (k := 30) (by decide) h
    show (Str.ofString (toString i)).length ≤ 40
    rw [PySem.ofString_length]
    omega
theorem fine_ints {ns : List Int} (h : ∀ n ∈ ns, n.natAbs < 10 ^ 30) : FineAll 0 (102 * ns.length) (iD ns) := by
  have q := fine_all (n := 0) (W := 101) (ds := iD ns) fun d hd => by
    obtain ⟨n, hn, rfl⟩ := List.mem_map.mp hd
    exact fine_int (h n hn)
  unfold iD at q ⊢
  rw [List.length_map] at q
  exact q
theorem fine_tuple {n W : Nat} {ds : List PyData} (h : FineAll n W ds) : Fine (n + 1) W (.tuple ds) := by
  have h1 := h.dep
  refine ⟨by simp only [PyData.depth]; omega, h.wei, ?_, ?_, ?_⟩
  · simp only [PyData.canLay0, h.lay]
  · simp only [PyData.showable, h.sho]
  · simp only [PyData.intsShort, h.ish]
theorem Fine.len {n W : Nat} {d : PyData} (h : Fine n W d) (hW : W ≤ 300000) : d.shown.length ≤ sizeLine := by
  have q := PyData.shown_le 40 (by decide) d (PyData.leavesShort_of_canLay0 40 d h.lay h.ish)
  have := h.wei
  rw [sizeLine_eq]
  omega
theorem Fine.mono {n W m U : Nat} {d : PyData} (h : Fine n W d) (e : n ≤ m) (e2 : W ≤ U) : Fine m U d := ⟨Nat.le_trans h.dep e, Nat.le_trans h.wei e2, h.lay, h.sho, h.ish⟩

end Sv

set_option maxHeartbeats 400000
/-! Over data: histories and lines as data, their texts. -/
namespace Sv
open PySem PySem.Spec PyProof.Rows L2
def rPy (rows : List (List Int)) : PyData := .tuple (rows.map fun r => .tuple (r.map PyData.int))
theorem ints_lay : ∀ ns : List Int, PyData.canLayAll0 (ns.map PyData.int) = true
  | [] => rfl
  | n :: r => by
    show (_ && PyData.canLayAll0 (r.map PyData.int)) = true
    rw [ints_lay r]
    rfl
theorem ints_depth : ∀ ns : List Int, PyData.depthAll (ns.map PyData.int) = 0
  | [] => rfl
  | n :: r => by
    show max _ (PyData.depthAll (r.map PyData.int)) = 0
    rw [ints_depth r]
    rfl
theorem rows_lay : ∀ rows : List (List Int), PyData.canLayAll0 (rows.map fun r => PyData.tuple (r.map PyData.int)) = true
  | [] => rfl
  | n :: r => by
    show (PyData.canLay0 (.tuple (n.map PyData.int)) && PyData.canLayAll0 (r.map fun r => PyData.tuple (r.map PyData.int))) = true
    rw [rows_lay r, Bool.and_true]
    exact SeqAt.canLay_of_shaped (shaped_tup n)
theorem rows_depth : ∀ rows : List (List Int), PyData.depthAll (rows.map fun r => PyData.tuple (r.map PyData.int)) ≤ 1
  | [] => Nat.zero_le _
  | n :: r => by
    have h1 := rows_depth r
    have h2 : PyData.depth (.tuple (n.map PyData.int)) = 1 := by
      have := ints_depth n
      simp only [PyData.depth, this]
    show max (PyData.depth (.tuple (n.map PyData.int))) (PyData.depthAll (r.map fun r => PyData.tuple (r.map PyData.int))) ≤ 1
    omega
theorem rPy_shaped (rows : List (List Int)) : SeqAt.shaped (rPy rows) = true := by
  have h1 := rows_lay rows
  have h2 := rows_depth rows
  show (PyData.canLay0 (.tuple (rows.map fun r => PyData.tuple (r.map PyData.int))) && decide (PyData.depth (.tuple (rows.map fun r => PyData.tuple (r.map PyData.int))) ≤ 64)) = true
  simp only [PyData.canLay0, PyData.depth, h1, Bool.true_and]
  exact decide_eq_true (by omega)
theorem py_rows {S : Sto} (rows : List (List Int)) : Py S (D.tup (rowsD rows)) (rPy rows) := by
  refine .tup ?_
  induction rows with
  | nil => exact .nil
  | cons r t ih => exact .cons (.tup (pys_ints r)) ih
theorem eqv_shaped {p : PyData} (h : SeqAt.shaped p = true) : (PyData.eqv p p ^^ true) = false := by
  rw [SeqAt.eqv_refl _ (SeqAt.canLay_of_shaped h)]
  rfl
theorem py_nat {S : Sto} (cs : List Nat) : Py S (.tup (natD cs)) (.tuple ((cs.map fun (c : Nat) => (c : Int)).map PyData.int)) := by
  rw [natD_ints]
  exact .tup (pys_ints _)
theorem Fine.text {n W : Nat} {d : PyData} (h : Fine n W d) (hn : n ≤ 60) (hW : W ≤ 300000) (hi : isDisplay d = true) : Text d := ⟨hi, h.sho, PyData.hasDict_of_canLay d h.lay, Nat.le_trans h.dep hn, h.len hW⟩
theorem rows_text {rows : List (List Int)} (h6 : rows.length ≤ 6) (h60 : ∀ r ∈ rows, r.length ≤ 60 ∧ ∀ x ∈ r, -24 ≤ x ∧ x ≤ 24) : Text (rPy rows) := by
  have h1 : ∀ d ∈ (rows.map fun r => PyData.tuple (r.map PyData.int)), Fine 1 6120 d := fun d hd => by
    obtain ⟨r, hr, rfl⟩ := List.mem_map.mp hd
    have hb := h60 r hr
    have q : FineAll 0 (102 * r.length) (iD r) := fine_ints fun x hx => by
      have := hb.2 x hx
      have e : (10 : Nat) ^ 30 = 1000000000000000000000000000000 := by decide
      omega
    exact (fine_tuple q).mono (Nat.le_refl _) (by omega)
  have q := fine_tuple (fine_all h1)
  rw [List.length_map] at q
  exact (q.mono (Nat.le_refl _) (Nat.mul_le_mul_left _ h6)).text (by decide) (by decide) rfl
theorem nat_text {cs : List Nat} (h6 : cs.length ≤ 100) (h : ∀ c ∈ cs, c ≤ 1000) : Text (.tuple ((cs.map fun (c : Nat) => (c : Int)).map PyData.int)) := by
  have q : FineAll 0 (102 * (cs.map fun (c : Nat) => (c : Int)).length) (iD (cs.map fun (c : Nat) => (c : Int))) := fine_ints fun x hx => by
    obtain ⟨c, hc, rfl⟩ := List.mem_map.mp hx
    have := h c hc
    have e : (10 : Nat) ^ 30 = 1000000000000000000000000000000 := by decide
    omega
  have q2 := fine_tuple q
  rw [List.length_map] at q2
  exact (q2.mono (Nat.le_refl _) (Nat.mul_le_mul_left _ h6)).text (by decide) (by decide) rfl
end Sv

set_option maxHeartbeats 400000
/-! Over data: a set of two clauses; all states, needed states, deletable states. -/
namespace Sv
open PySem L2
theorem sc2_map {α β : Type} {g g1 : DTG} {ti1 : DTI} {tt1 : DTT} {te : DTE} {us us1 : List Nat} {env : Env} {S1 : Sto} {Rp : Addr → Sto → Prop} {w : Src} (xs : List α) (gx : α → D) (hw : w.items = xs.map gx) (ys : α → List β) (h : α → β → D) (f : α → β → Option (List Int)) (E : α → Env)
    (n : Nat) (hl1 : xs.length * n < 63) (hl2 : ∀ a ∈ xs, (ys a).length ≤ n) (live : ∀ S, SG S1 S → w.live S)
    (out : ∀ a ∈ xs, ∀ S, SG S1 S → ∀ K : Env → Sto → Prop, K (E a) S → g (gx a) (dwipe env us) S K)
    (src : ∀ a ∈ xs, ∀ S, SG S1 S → ∀ K : Src → Sto → Prop, (∀ S', SG S S' → K ⟨(ys a).map (h a), fun _ => True⟩ S') → ti1 (E a) S K)
    (step : ∀ a ∈ xs, ∀ b ∈ ys a, ∀ S, SG S1 S → ∀ (K : DK) (Kn : Sto → Prop), (∀ ns, f a b = some ns → ∀ S', SG S S' → K (.tup (intsD ns)) S') → (f a b = none → ∀ S', SG S S' → Kn S') → Turn1 g1 tt1 te (dwipe (E a) us1) (h a b) S K Kn)
    (fin : ∀ p S' L, S1 p = none → SG S1 S' → S' p = some (.tset L) → (∀ ns, ns ∈ L ↔ ∃ a ∈ xs, ∃ b ∈ ys a, f a b = some ns) → Rp p S') :
    ∀ p, S1 p = none → ∃ Pv : Nat → Sto → Prop, Pv 0 (S1.put p (.tset [])) ∧ (∀ i S, i ≤ w.items.length → Pv i S → w.live S) ∧
      (∀ i d S, w.items[i]? = some d → Pv i S → g d (dwipe env us) S fun env' S' => dYes env' S' fun b S2 => if b = true then ti1 env' S2 fun w1 S3 => ∃ Pw : Nat → Sto → Prop, Pw 0 S3 ∧ (∀ j S, j ≤ w1.items.length → Pw j S → w1.live S) ∧
        (∀ j e S, w1.items[j]? = some e → Pw j S → g1 e (dwipe env' us1) S fun env2 S4 => tt1 env2 S4 fun b S5 => if b = true then te env2 S5 fun y S6 => ∃ L ns, y = .tup (intsD ns) ∧ S6 p = some (.tset L) ∧ L.length + 1 < 64 ∧
          (∀ L', (ns ∈ L → L' = L) → (ns ∉ L → L'.Perm (ns :: L)) → Pw (j + 1) (S6.put p (.tset L'))) else Pw (j + 1) S5) ∧
        (∀ S, Pw w1.items.length S → Pv (i + 1) S) else Pv (i + 1) S2) ∧
      ∀ S, Pv w.items.length S → Rp p S := by
  obtain ⟨it, lv⟩ := w
  cases hw
  intro p np
  refine ⟨fun i S => SG S1 S ∧ i ≤ xs.length ∧ ∃ L, S p = some (.tset L) ∧ L.length ≤ i * n ∧ ∀ ns, ns ∈ L ↔ ∃ a ∈ xs.take i, ∃ b ∈ ys a, f a b = some ns, ⟨.new np, Nat.zero_le _, [], Sto.same, Nat.zero_le _, fun ns => by simp⟩, fun i S _ h => live S h.1, fun i d S hd hh => ?_, fun S hh => ?_⟩
  · have hd : (xs.map gx)[i]? = some d := hd
    rw [List.getElem?_map] at hd
    obtain ⟨a, ha, rfl⟩ := Option.map_eq_some_iff.mp hd
    have hm := List.mem_of_getElem? ha
    have hi : i < xs.length := (List.getElem?_eq_some_iff.mp ha).1
    have ht := take_map ha
    have hin : i * n + n ≤ xs.length * n := by
      rw [← Nat.succ_mul]
      exact Nat.mul_le_mul_right n hi
    refine out a hm S hh.1 _ ?_
    dsimp only [dYes]
    rw [if_pos rfl]
    refine src a hm S hh.1 _ fun S' sg => ?_
    obtain ⟨sg0, _, L0, hL0, hlen0, hmem0⟩ := hh
    refine ⟨fun j S => SG S1 S ∧ j ≤ (ys a).length ∧ ∃ L, S p = some (.tset L) ∧ L.length ≤ i * n + j ∧ ∀ ns, ns ∈ L ↔ (∃ a ∈ xs.take i, ∃ b ∈ ys a, f a b = some ns) ∨ ∃ b ∈ (ys a).take j, f a b = some ns,
      ⟨sg0.trans sg, Nat.zero_le _, L0, sg _ _ (fun z => z) hL0, hlen0, fun ns => by rw [hmem0]; simp⟩, fun j S _ q => True.intro, fun j e S2 he q => ?_, fun S2 q => ?_⟩
    · have he : ((ys a).map (h a))[j]? = some e := he
      rw [List.getElem?_map] at he
      obtain ⟨b, hb', rfl⟩ := Option.map_eq_some_iff.mp he
      have hj : j < (ys a).length := (List.getElem?_eq_some_iff.mp hb').1
      have ht2 := take_map hb'
      have h2 := hl2 a hm
      obtain ⟨sg2, _, L, hL, hlen, hmem⟩ := q
      refine step a hm b (List.mem_of_getElem? hb') S2 sg2 _ _ (fun ns hy S3 sg3 => ?_) (fun hn S3 sg3 => ?_)
      · refine ⟨L, ns, rfl, sg3 _ _ (fun z => z) hL, by omega, fun L' c1 c2 => ⟨SG.keepP np sg2 sg3, hj, L', Sto.same, ?_, fun ms => ?_⟩⟩
        · by_cases z : ns ∈ L
          · rw [c1 z]; omega
          · rw [(c2 z).length_eq, List.length_cons]; omega
        · have hx : ms ∈ L' ↔ ms ∈ L ∨ ms = ns := by
            by_cases z : ns ∈ L
            · rw [c1 z]
              exact ⟨.inl, fun y => y.elim id fun e => e ▸ z⟩
            · rw [(c2 z).mem_iff, List.mem_cons]
              exact Or.comm
          rw [hx, hmem, ht2]
          constructor
          · rintro ((z | ⟨b', z1, z2⟩) | rfl)
            · exact .inl z
            · exact .inr ⟨b', List.mem_append.mpr (.inl z1), z2⟩
            · exact .inr ⟨b, List.mem_append.mpr (.inr List.mem_cons_self), hy⟩
          · rintro (z | ⟨b', z1, z2⟩)
            · exact .inl (.inl z)
            · rcases List.mem_append.mp z1 with z1 | z1
              · exact .inl (.inr ⟨b', z1, z2⟩)
              · obtain rfl := List.mem_singleton.mp z1
                exact .inr (Option.some.inj (z2.symm.trans hy))
      · refine ⟨sg2.trans sg3, hj, L, sg3 _ _ (fun z => z) hL, by omega, fun ms => ?_⟩
        rw [hmem, ht2]
        constructor
        · rintro (z | ⟨b', z1, z2⟩)
          · exact .inl z
          · exact .inr ⟨b', List.mem_append.mpr (.inl z1), z2⟩
        · rintro (z | ⟨b', z1, z2⟩)
          · exact .inl z
          · rcases List.mem_append.mp z1 with z1 | z1
            · exact .inr ⟨b', z1, z2⟩
            · obtain rfl := List.mem_singleton.mp z1
              rw [hn] at z2
              cases z2
    · obtain ⟨sg2, _, L, hL, hlen, hmem⟩ := q
      have hll : ((Src.mk ((ys a).map (h a)) fun _ => True).items).length = (ys a).length := List.length_map ..
      rw [hll] at hlen hmem
      have h2 := hl2 a hm
      refine ⟨sg2, hi, L, hL, by rw [Nat.succ_mul]; omega, fun ms => ?_⟩
      rw [hmem, List.take_length, ht]
      constructor
      · rintro (⟨a', z1, z2⟩ | z)
        · exact ⟨a', List.mem_append.mpr (.inl z1), z2⟩
        · exact ⟨a, List.mem_append.mpr (.inr List.mem_cons_self), z⟩
      · rintro ⟨a', z1, z2⟩
        rcases List.mem_append.mp z1 with z1 | z1
        · exact .inl ⟨a', z1, z2⟩
        · obtain rfl := List.mem_singleton.mp z1
          exact .inr z2
  · obtain ⟨sg2, _, L, hL, _, hmem⟩ := hh
    have hll : ((Src.mk (xs.map gx) lv).items).length = xs.length := List.length_map ..
    rw [hll, List.take_length] at hmem
    exact fin p S L np sg2 hL hmem
end Sv

set_option maxHeartbeats 400000
/-! Over data: all states, needed states, deletable states. -/
namespace Sv
open PySem L2
theorem allU_eq (rows : List (List Int)) : ∀ k, k ≤ rows.length → (((prs rows).mapIdx fun i c => (i, c)).take k).flatMap (fun x => (List.range (x.2 + 1)).map fun (n : Nat) => (((x.1 : Nat) : Int), (n : Int))) = allU rows k
  | 0, _ => rfl
  | k + 1, h => by
    have hk : k < rows.length := h
    have e : ((prs rows).mapIdx fun i c => (i, c))[k]? = some (k, (((prs rows)[k]?).getD 0)) := by
      rw [List.getElem?_mapIdx, prsA (List.getElem?_eq_getElem hk)]
      rfl
    rw [take_map e, List.flatMap_append, allU_eq rows k (by omega), allU_succ]
    congr 1
    simp only [List.flatMap_cons, List.flatMap_nil, List.append_nil]
    rfl
theorem fm_map' {α β : Type} (f : α → β) (l : List α) : l.filterMap (fun x => some (f x)) = l.map f := fm_map f l
theorem flat_map {α β γ : Type} (f : β → γ) (g : α → List β) (l : List α) : l.flatMap (fun a => (g a).map f) = (l.flatMap g).map f := by
  induction l with
  | nil => rfl
  | cons a r ih => rw [List.flatMap_cons, List.flatMap_cons, List.map_append, ih]
theorem rg0_map (n : Nat) : rgD 0 n = (List.range n).map fun i : Nat => D.int (0 + (i : Int)) := rfl
theorem lc2_mapE {α β : Type} {g g1 : DTG} {ti1 : DTI} {tt1 : DTT} {te : DTE} {us us1 : List Nat} {env : Env} {S1 : Sto} {Rp : Addr → Sto → Prop} {w : Src} (xs : List α) (gx : α → D) (hw : w.items = xs.map gx) (ys : α → List β) (h : α → β → D) (f : α → β → Option D) (E : α → Env)
    (hl1 : xs.length ≤ 300) (hl2 : ∀ a ∈ xs, (ys a).length ≤ 300) (live : ∀ S, SG S1 S → w.live S)
    (out : ∀ a ∈ xs, ∀ S, SG S1 S → ∀ K : Env → Sto → Prop, K (E a) S → g (gx a) (dwipe env us) S K)
    (src : ∀ a ∈ xs, ∀ S, SG S1 S → ∀ K : Src → Sto → Prop, (∀ S', SG S S' → K ⟨(ys a).map (h a), fun _ => True⟩ S') → ti1 (E a) S K)
    (step : ∀ a ∈ xs, ∀ b ∈ ys a, ∀ S, SG S1 S → ∀ (K : DK) (Kn : Sto → Prop), (∀ y, f a b = some y → ∀ S', SG S S' → K y S') → (f a b = none → ∀ S', SG S S' → Kn S') → Turn1 g1 tt1 te (dwipe (E a) us1) (h a b) S K Kn)
    (fin : ∀ p S', S1 p = none → SG S1 S' → S' p = some (.lst (xs.flatMap fun a => (ys a).filterMap (f a))) → Rp p S') :
    ∀ p, S1 p = none → ∃ Pv : Nat → Sto → Prop, Pv 0 (S1.put p (.lst [])) ∧ (∀ i S, i ≤ w.items.length → Pv i S → w.live S) ∧
      (∀ i d S, w.items[i]? = some d → Pv i S → g d (dwipe env us) S fun env' S' => dYes env' S' fun b S2 => if b = true then ti1 env' S2 fun w1 S3 => ∃ Pw : Nat → Sto → Prop, Pw 0 S3 ∧ (∀ j S, j ≤ w1.items.length → Pw j S → w1.live S) ∧
        (∀ j e S, w1.items[j]? = some e → Pw j S → g1 e (dwipe env' us1) S fun env2 S4 => tt1 env2 S4 fun b S5 => if b = true then te env2 S5 fun y S6 => ∃ acc, S6 p = some (.lst acc) ∧ acc.length < 1000000 ∧ Pw (j + 1) (S6.put p (.lst (acc ++ [y]))) else Pw (j + 1) S5) ∧
        (∀ S, Pw w1.items.length S → Pv (i + 1) S) else Pv (i + 1) S2) ∧
      ∀ S, Pv w.items.length S → Rp p S := by
  obtain ⟨it, lv⟩ := w
  cases hw
  exact lc2_map xs gx lv ys h f E hl1 hl2 live out src step fin
theorem prs_at {rows : List (List Int)} {i c : Nat} (h : ((prs rows).mapIdx fun i c => (i, c))[i]? = some (i, c)) : c = (((prs rows)[i]?).getD 0) := by
  rw [List.getElem?_mapIdx] at h
  cases e : (prs rows)[i]? with
  | none => rw [e] at h; cases h
  | some d => rw [e] at h; cases h; rfl
theorem mem_pairs {cs : List Nat} {x : Nat × Nat} (h : x ∈ cs.mapIdx fun i c => (i, c)) : cs[x.1]? = some x.2 := by
  obtain ⟨i, hi⟩ := List.getElem?_of_mem h
  rw [List.getElem?_mapIdx] at hi
  cases e : cs[i]? with
  | none => rw [e] at hi; cases hi
  | some d => rw [e] at hi; cases hi; exact e
theorem w_all {rows : List (List Int)} {S : Sto} {R : DK} (hl : rows.length ≤ 6) (h60 : ∀ r ∈ rows, r.length ≤ 60) (k : ∀ p S', SG S S' → S' p = some (.lst ((allU rows rows.length).map prD)) → R (.ref p) S') : dFn 4 B_all_states_326e [.tup (rowsD rows)] S R := by
  have pl : (prs rows).length = rows.length := List.length_map ..
  refine ⟨_, rfl, rfl, w_nums (by omega) fun S1 sg1 => ⟨_, _, rfl, rfl, lc2_mapE ((prs rows).mapIdx fun i c => (i, c)) (fun x => .tup [.int ((x.1 : Nat) : Int), .int ((x.2 : Nat) : Int)]) (enD_map (fun c : Nat => D.int (c : Int)) (prs rows))
    (fun x => List.range (x.2 + 1)) (fun x (n : Nat) => .int (0 + (n : Int))) (fun x n => some (prD (((x.1 : Nat) : Int), ((n : Nat) : Int)))) (fun x => [some (.tup (rowsD rows)), some (.int ((x.1 : Nat) : Int)), some (.int ((x.2 : Nat) : Int)), none]) (by rw [List.length_mapIdx]; omega) (fun x hx => ?_) (fun _ _ => True.intro)
    (fun x _ S2 sg K hk => ?_) (fun x hx S2 sg K hk => ?_) (fun x _ n _ S2 sg K Kn hk _ => ?_) fun p S2 np sg2 hp => ?_⟩⟩
  · have := prs_le h60 x.1
    have h := mem_pairs hx
    rw [h] at this
    rw [List.length_range]
    have : x.2 ≤ 61 := this
    omega
  · exact ⟨_, rfl, .inl (.inl rfl), _, _, rfl, _, _, rfl, rfl, hk⟩
  · have := prs_le h60 x.1
    have h := mem_pairs hx
    rw [h] at this
    have : x.2 ≤ 61 := this
    refine ⟨_, rfl, ((x.2 + 1 : Nat) : Int), rfl, by omega, by omega, ?_⟩
    exact hk _ (.refl _)
  · refine turn_y ⟨_, rfl, _, rfl, rfl, hk _ ?_ _ (.refl _)⟩
    show some (prD _) = some (D.tup [_, .int (0 + _)])
    rw [Int.zero_add]
    rfl
  · have e : (((prs rows).mapIdx fun i c => (i, c)).flatMap fun x => (List.range (x.2 + 1)).filterMap fun n => some (prD (((x.1 : Nat) : Int), ((n : Nat) : Int)))) = (allU rows rows.length).map prD := by
      have h2 := allU_eq rows rows.length (Nat.le_refl _)
      rw [List.take_of_length_le (by rw [List.length_mapIdx]; omega)] at h2
      rw [← h2, ← flat_map]
      congr 1
      funext x
      rw [fm_map, List.map_map]
      rfl
    rw [e] at hp
    exact k p S2 (sg1.trans sg2) hp
end Sv

set_option maxHeartbeats 400000
/-! Over data: needed states, deletable states. -/
namespace Sv
open PySem L2
theorem need_iff {rows : List (List Int)} {f p n : Nat} : NeedAt rows f p n ↔ (fallL rows [(f : Int)])[p]? = some n ∧ n < ((prs rows)[p]?).getD 0 :=
  ⟨fun ⟨cs, h1, h2, h3⟩ => ⟨fall_eq h1 ▸ h2, h3⟩, fun ⟨h1, h2⟩ => ⟨_, fall_low rows _, h1, h2⟩⟩
theorem sorted_need {rows : List (List Int)} {L L' : List (List Int)} (h60 : ∀ r ∈ rows, r.length ≤ 60) (h6 : rows.length ≤ 6) (hmem : ∀ ns, ns ∈ L ↔ ∃ f p n : Nat, f < rows.length ∧ NeedAt rows f p n ∧ ns = pk ((p : Int), (n : Int)))
    (pm : L'.Perm L) (nd : L'.Nodup) (few : L'.length < 64) (pw : L'.Pairwise fun q r => TS.code 64 q ≤ TS.code 64 r) : ∃ us, NeedL rows us ∧ L' = us.map pk := by
  have e1 : (L'.map fun q => ((0 : Addr), q)).map (·.2) = L' := by rw [List.map_map]; exact List.map_id' L'
  obtain ⟨us, e, r⟩ := rise_of (L := L'.map fun q => ((0 : Addr), q)) (by rw [e1]; exact nd) (List.pairwise_map.mpr pw) fun q hq => by
    obtain ⟨q', hq', rfl⟩ := List.mem_map.mp hq
    obtain ⟨f, p, n, _, hn, hx⟩ := (hmem q').mp (pm.mem_iff.mp hq')
    obtain ⟨cs, _, _, h3⟩ := hn
    have := prs_le h60 p
    exact ⟨_, hx, Int.natCast_nonneg _, by show (n : Int) < 64; omega⟩
  rw [e1] at e
  refine ⟨us, ⟨?_, r, fun x => ?_⟩, e⟩
  · have := congrArg List.length e
    rw [List.length_map] at this
    omega
  · have e2 : x ∈ us ↔ pk x ∈ L' := by
      rw [e, List.mem_map]
      exact ⟨fun z => ⟨x, z, rfl⟩, fun ⟨y, z1, z2⟩ => pk_inj z2 ▸ z1⟩
    rw [e2, pm.mem_iff, hmem]
    exact ⟨fun ⟨f, p, n, h1, h2, h3⟩ => ⟨f, p, n, h1, h2, pk_inj h3⟩, fun ⟨f, p, n, h1, h2, h3⟩ => ⟨f, p, n, h1, h2, by rw [h3]⟩⟩
theorem pk_prD (us : List (Int × Int)) : ((us.map pk).map fun q => D.tup (intsD q)) = us.map prD := by
  rw [List.map_map]
  rfl
theorem w_needed {rows : List (List Int)} {many most : Nat} {S : Sto} {R : DK} (hG : Good many most rows) (h6 : many ≤ 6) (h60 : most ≤ 60) (q : ∀ us S', SG S S' → NeedL rows us → R (.tup (us.map prD)) S') : dFn 5 B_needed_states_085c [.tup (rowsD rows)] S R := by
  have rl := hG.len
  have r60 := hG.row60 h60
  have pl : (prs rows).length = rows.length := List.length_map ..
  have rdl : (rowsD rows).length = rows.length := List.length_map ..
  refine ⟨_, rfl, rfl, w_nums (by omega) fun S1 sg1 => ?_⟩
  refine ⟨_, rfl, _, _, rfl, rfl, ((rows.length : Nat) : Int), by rw [rdl], by omega, by omega, ?_⟩
  refine sc2_map (List.range rows.length) (fun i : Nat => .int (0 + (i : Int))) (by show rgD 0 ((rows.length : Int)).toNat = _; rw [Int.toNat_natCast]; rfl) (fun f => (fallL rows [0 + (f : Int)]).mapIdx fun i c => (i, c)) (fun _ x => .tup [.int ((x.1 : Nat) : Int), .int ((x.2 : Nat) : Int)])
    (fun _ x => if x.2 < ((prs rows)[x.1]?).getD 0 then some [((x.1 : Nat) : Int), ((x.2 : Nat) : Int)] else none) (fun f => [some (.tup (rowsD rows)), some (.tup (natD (prs rows))), some (.int (0 + (f : Int))), none, none]) 6 (by rw [List.length_range]; omega) (fun f _ => by rw [List.length_mapIdx, fall_len]; omega) (fun _ _ => True.intro)
    (fun f _ S2 sg K hk => hk) (fun f _ S2 sg K hk => ?_) (fun f _ x hx S2 sg K Kn hk hn => ?_) fun p S2 L np sg2 hp hmem => ?_
  · refine ⟨_, rfl, _, rfl, w_fall (fs := [0 + (f : Int)]) hG h6 h60 (by show 1 ≤ 900; decide) fun S3 sg3 => ⟨_, _, rfl, rfl, ?_⟩⟩
    have e := enD_map (fun c : Nat => D.int (c : Int)) (fallL rows [0 + (f : Int)])
    show K ⟨enD ((fallL rows [0 + (f : Int)]).map fun c : Nat => D.int (c : Int)), _⟩ S3
    rw [e]
    exact hk _ sg3
  · have hc := mem_pairs hx
    have hx1 : x.1 < rows.length := by
      rw [← fall_len rows [0 + (f : Int)]]
      exact (List.getElem?_eq_some_iff.mp hc).1
    obtain ⟨row, hrow⟩ : ∃ row, rows[x.1]? = some row := ⟨_, List.getElem?_eq_getElem hx1⟩
    have hpr := prsA hrow
    rw [hpr] at hk hn
    have hk : ∀ ns, (if x.2 < row.count 0 + 1 then some [((x.1 : Nat) : Int), ((x.2 : Nat) : Int)] else none) = some ns → _ := hk
    have hn : (if x.2 < row.count 0 + 1 then some [((x.1 : Nat) : Int), ((x.2 : Nat) : Int)] else none) = none → _ := hn
    refine ⟨_, rfl, .inl (.inl rfl), _, _, rfl, _, _, rfl, rfl, _, rfl, _, rfl, _, rfl, _, _, _, rfl, rfl, atI_nat (natD_at hpr), _, rfl, iteB (fun e => ?_) (fun e => ?_)⟩
    · have e : ((x.2 : Nat) : Int) < ((row.count 0 + 1 : Nat) : Int) := of_decide_eq_true e
      exact ⟨_, rfl, _, rfl, rfl, hk [_, _] (if_pos (by omega)) _ (.refl _)⟩
    · have e : ¬ ((x.2 : Nat) : Int) < ((row.count 0 + 1 : Nat) : Int) := of_decide_eq_false e
      exact hn (if_neg (by omega)) _ (.refl _)
  · have hmem2 : ∀ ns, ns ∈ L ↔ ∃ f p n : Nat, f < rows.length ∧ NeedAt rows f p n ∧ ns = pk ((p : Int), (n : Int)) := fun ns => by
      rw [hmem]
      constructor
      · rintro ⟨f, hf, x, hx, e⟩
        have hc := mem_pairs hx
        rw [Int.zero_add] at hc
        split at e
        · rename_i h
          exact ⟨f, x.1, x.2, List.mem_range.mp hf, need_iff.mpr ⟨hc, h⟩, (Option.some.inj e).symm⟩
        · cases e
      · rintro ⟨f, p, n, hf, hn, rfl⟩
        obtain ⟨h1, h2⟩ := need_iff.mp hn
        refine ⟨f, List.mem_range.mpr hf, (p, n), ?_, ?_⟩
        · rw [Int.zero_add]
          refine List.mem_of_getElem? (i := p) ?_
          rw [List.getElem?_mapIdx, h1]
          rfl
        · show (if n < _ then _ else _) = _
          rw [if_pos h2]
          rfl
    refine ⟨p, L, 2, 64, rfl, hp, by decide, fun ns hns => ?_, fun L' t pm nd few pw nt => ?_⟩
    · obtain ⟨f, p', n, hf, hn, rfl⟩ := (hmem2 ns).mp hns
      have h1 := hn.lt
      obtain ⟨_, _, _, h3⟩ := hn
      have := prs_le r60 p'
      refine ⟨rfl, fun m hm => ?_⟩
      rcases List.mem_cons.mp hm with rfl | hm
      · show (0 : Int) ≤ (p' : Int) ∧ (p' : Int) < 64
        omega
      · obtain rfl := List.mem_singleton.mp hm
        show (0 : Int) ≤ (n : Int) ∧ (n : Int) < 64
        omega
    · obtain ⟨us, hN, rfl⟩ := sorted_need r60 (by omega) hmem2 pm nd few pw
      rw [pk_prD]
      refine ⟨_, _, rfl, seqOf_lst Sto.same, fun ys z => (nomatch z), q us _ ((sg1.trans sg2).trans (.new nt)) hN⟩
end Sv

set_option maxHeartbeats 400000
/-! Over data: deletable states. -/
namespace Sv
open PySem L2
/-- the states that can be deleted -/
def delU (rows : List (List Int)) (us : List (Int × Int)) : List (Int × Int) := (allU rows rows.length).filter fun x => decide (x.2 < ((((prs rows)[x.1.toNat]?).getD 0 : Nat) : Int)) && decide (x ∉ us)
theorem fm_ite {α β : Type} (g : α → β) (c : α → Bool) : ∀ l : List α, l.filterMap (fun x => if c x = true then some (g x) else none) = (l.filter c).map g
  | [] => rfl
  | a :: l => by
    rw [List.filterMap_cons, List.filter_cons]
    by_cases z : c a = true
    · simp only [z, if_true, List.map_cons, fm_ite g c l]
    · simp only [z, Bool.false_eq_true, if_false, fm_ite g c l]
theorem allU_len6 {rows : List (List Int)} (h60 : ∀ r ∈ rows, r.length ≤ 60) (h6 : rows.length ≤ 6) : (allU rows rows.length).length ≤ 372 := by
  have := allU_len h60 rows.length
  have := Nat.mul_le_mul_left 62 h6
  omega
theorem w_delet {rows : List (List Int)} {many most : Nat} {S : Sto} {R : DK} (hG : Good many most rows) (h6 : many ≤ 6) (h60 : most ≤ 60) (q : ∀ us S', SG S S' → NeedL rows us → R (.tup ((delU rows us).map prD)) S') : dFn 4 B_deletable_states_a3a5 [.tup (rowsD rows)] S R := by
  have rl := hG.len
  have r60 := hG.row60 h60
  have pl : (prs rows).length = rows.length := List.length_map ..
  refine ⟨_, rfl, rfl, w_nums (by omega) fun S1 sg1 => ⟨_, rfl, rfl, w_needed hG h6 h60 fun us S2 sg2 hN => ⟨_, rfl, rfl, w_all (by omega) r60 fun t S3 sg3 ht => ⟨_, ⟨_, ht, rfl⟩, ?_⟩⟩⟩⟩
  have al := allU_len6 r60 (by omega : rows.length ≤ 6)
  refine lc_mapE (allU rows rows.length) prD rfl (fun x => if (decide (x.2 < ((((prs rows)[x.1.toNat]?).getD 0 : Nat) : Int)) && decide (x ∉ us)) = true then some (prD x) else none) (by omega) (fun S' sg => sg _ _ (fun z => z) ht) (fun x hx S4 sg4 K Kn hk hn => ?_) fun p S4 np sg4 hp => ?_
  · obtain ⟨p, n, hpl, rfl⟩ := allU_mem hx
    have hrow := List.getElem?_eq_getElem hpl
    generalize rows[p] = row at hrow
    have hpr := prsA hrow
    have hk : (if (decide ((n : Int) < ((((prs rows)[p]?).getD 0 : Nat) : Int)) && decide (((p : Int), (n : Int)) ∉ us)) = true then some (prD ((p : Int), (n : Int))) else none) = some (prD ((p : Int), (n : Int))) → ∀ S', SG S4 S' → K (prD ((p : Int), (n : Int))) S' := fun e => hk _ e
    have hn : (if (decide ((n : Int) < ((((prs rows)[p]?).getD 0 : Nat) : Int)) && decide (((p : Int), (n : Int)) ∉ us)) = true then some (prD ((p : Int), (n : Int))) else none) = none → ∀ S', SG S4 S' → Kn S' := hn
    rw [hpr] at hk hn
    refine turn_n ⟨_, rfl, _, 1, _, rfl, rfl, rfl, _, rfl, _, rfl, _, 0, _, rfl, rfl, rfl, _, _, _, rfl, rfl, atI_nat (natD_at hpr), _, rfl, iteB (fun e => ?_) (fun e => ?_)⟩
    · have e : decide ((n : Int) < ((row.count 0 + 1 : Nat) : Int)) = true := e
      have e' : decide ((n : Int) < (((some (row.count 0 + 1)).getD 0 : Nat) : Int)) = true := e
      rw [e', Bool.true_and] at hk hn
      refine ⟨_, rfl, _, rfl, _, _, .tup (.cons (.int _) (.cons (.int _) .nil)), .inr (.tup (pys_pairs us)), shaped_tup [(p : Int), (n : Int)], pDs_shaped us, pDl_shaped us, _, rfl, ?_⟩
      have e2 := any_us us ((p : Int), (n : Int))
      unfold pD at e2
      show (if (((us.map pD).any fun z => PyData.eqv z (.tuple [.int p, .int n])) ^^ true) = true then _ else _)
      unfold pD
      rw [e2, xor_tt]
      by_cases z : ((p : Int), (n : Int)) ∈ us
      · rw [decide_eq_true z] at *
        rw [decide_eq_false (not_not_intro z)] at hn
        exact goF (hn (by rfl) _ (.refl _))
      · rw [decide_eq_false z]
        rw [decide_eq_true z] at hk
        exact goT ⟨_, rfl, hk rfl _ (.refl _)⟩
    · have e : decide ((n : Int) < ((row.count 0 + 1 : Nat) : Int)) = false := e
      have e' : decide ((n : Int) < (((some (row.count 0 + 1)).getD 0 : Nat) : Int)) = false := e
      rw [e', Bool.false_and] at hn
      exact goF (hn rfl _ (.refl _))
  · rw [fm_ite] at hp
    exact ⟨_, _, rfl, seqOf_lst hp, fun ys z => (nomatch z), q us _ (((sg1.trans sg2).trans sg3).trans sg4) hN⟩
end Sv

set_option maxHeartbeats 400000
/-! Over data: needed and deletable states are all that are not present. -/
namespace Sv
open PySem L2
def flU (h : Nat → Nat) (i : Nat) : List (Int × Int) := (List.range i).flatMap fun p => rowU p (h p)
theorem rowU_mem {p j : Nat} {x : Int × Int} : x ∈ rowU p j ↔ ∃ n : Nat, n < j ∧ x = ((p : Int), (n : Int)) := by
  unfold rowU
  rw [List.mem_map]
  exact ⟨fun ⟨n, h1, h2⟩ => ⟨n, List.mem_range.mp h1, h2.symm⟩, fun ⟨n, h1, h2⟩ => ⟨n, List.mem_range.mpr h1, h2.symm⟩⟩
theorem flU_mem {h : Nat → Nat} {i : Nat} {x : Int × Int} : x ∈ flU h i ↔ ∃ p n : Nat, p < i ∧ n < h p ∧ x = ((p : Int), (n : Int)) := by
  unfold flU
  rw [List.mem_flatMap]
  constructor
  · rintro ⟨p, h1, h2⟩
    obtain ⟨n, h3, h4⟩ := rowU_mem.mp h2
    exact ⟨p, n, List.mem_range.mp h1, h3, h4⟩
  · rintro ⟨p, n, h1, h2, h3⟩
    exact ⟨p, List.mem_range.mpr h1, rowU_mem.mpr ⟨n, h2, h3⟩⟩
theorem flU_succ (h : Nat → Nat) (i : Nat) : flU h (i + 1) = flU h i ++ rowU i (h i) := by
  unfold flU
  rw [List.range_succ, List.flatMap_append]
  simp
theorem flU_rise {h : Nat → Nat} (hb : ∀ p, h p ≤ 64) : ∀ i, (flU h i).Pairwise fun a b => pc a < pc b
  | 0 => .nil
  | i + 1 => by
    rw [flU_succ]
    refine List.pairwise_append.mpr ⟨flU_rise hb i, ?_, fun a ha b hb' => ?_⟩
    · unfold rowU
      refine List.pairwise_map.mpr ((List.pairwise_lt_range (n := h i)).imp fun {a b} z => ?_)
      unfold pc
      show (i : Int) * 64 + (a : Int) < (i : Int) * 64 + (b : Int)
      omega
    · obtain ⟨p, n, h1, h2, rfl⟩ := flU_mem.mp ha
      obtain ⟨m, h3, rfl⟩ := rowU_mem.mp hb'
      have := hb p
      unfold pc
      show (p : Int) * 64 + (n : Int) < (i : Int) * 64 + (m : Int)
      omega
theorem rise_nodup {l : List (Int × Int)} (h : l.Pairwise fun a b => pc a < pc b) : l.Nodup := h.imp fun {a b} z e => by rw [e] at z; exact Int.lt_irrefl _ z
theorem ltQ_rise {l : List (Int × Int)} (h : l.Pairwise ltQ) (nd : l.Nodup) (hb : ∀ x ∈ l, 0 ≤ x.2 ∧ x.2 < 64) : l.Pairwise fun a b => pc a < pc b := by
  induction l with
  | nil => exact .nil
  | cons a r ih =>
    obtain ⟨h1, h2⟩ := List.pairwise_cons.mp h
    obtain ⟨n1, n2⟩ := List.nodup_cons.mp nd
    refine List.pairwise_cons.mpr ⟨fun b hb' => ?_, ih h2 n2 fun x hx => hb x (List.mem_cons_of_mem _ hx)⟩
    have ha := hb a List.mem_cons_self
    have hb2 := hb b (List.mem_cons_of_mem _ hb')
    have hne : a ≠ b := fun e => n1 (e ▸ hb')
    have hq := h1 b hb'
    unfold pc
    rcases hq with z | ⟨z1, z2⟩
    · omega
    · rcases Int.lt_or_eq_of_le z2 with y | y
      · omega
      · exact absurd (Prod.ext z1 y) hne
def duU (rows : List (List Int)) (i : Nat) : List (Int × Int) := flU (fun p => ((prs rows)[p]?).getD 0) i
theorem divided_eq {rows : List (List Int)} {us qs : List (Int × Int)} (h60 : ∀ r ∈ rows, r.length ≤ 60) (hN : NeedL rows us) (pm : qs.Perm (us ++ delU rows us)) (pw : qs.Pairwise ltQ) : qs = duU rows rows.length := by
  have hd : ∀ x, x ∈ delU rows us ↔ (∃ p n : Nat, p < rows.length ∧ n < ((prs rows)[p]?).getD 0 ∧ x = ((p : Int), (n : Int))) ∧ x ∉ us := fun x => by
    unfold delU
    rw [List.mem_filter, Bool.and_eq_true]
    constructor
    · rintro ⟨h1, h2, h3⟩
      obtain ⟨p, n, hp, rfl⟩ := allU_mem h1
      have h2 : (n : Int) < ((((prs rows)[p]?).getD 0 : Nat) : Int) := of_decide_eq_true h2
      exact ⟨⟨p, n, hp, by omega, rfl⟩, of_decide_eq_true h3⟩
    · rintro ⟨⟨p, n, hp, hn, rfl⟩, h3⟩
      refine ⟨flU_mem (h := fun p => ((prs rows)[p]?).getD 0 + 1) |>.mpr ⟨p, n, hp, by omega, rfl⟩, decide_eq_true ?_, decide_eq_true h3⟩
      show (n : Int) < ((((prs rows)[p]?).getD 0 : Nat) : Int)
      omega
  have hu : ∀ x, x ∈ us → ∃ p n : Nat, p < rows.length ∧ n < ((prs rows)[p]?).getD 0 ∧ x = ((p : Int), (n : Int)) := fun x hx => by
    obtain ⟨f, p, n, _, hn, rfl⟩ := (hN.2.2 x).mp hx
    exact ⟨p, n, hn.lt, (need_iff.mp hn).2, rfl⟩
  have hq : ∀ x, x ∈ qs ↔ ∃ p n : Nat, p < rows.length ∧ n < ((prs rows)[p]?).getD 0 ∧ x = ((p : Int), (n : Int)) := fun x => by
    rw [pm.mem_iff, List.mem_append, hd]
    constructor
    · rintro (z | z)
      · exact hu x z
      · exact z.1
    · intro z
      by_cases y : x ∈ us
      · exact .inl y
      · exact .inr ⟨z, y⟩
  have hb := prs_le h60
  refine rise_eq pc qs _ (ltQ_rise pw ?_ fun x hx => ?_) (flU_rise (fun p => by have := hb p; omega) _) fun x => ?_
  · refine pm.nodup_iff.mpr (List.nodup_append.mpr ⟨rise_nodup hN.2.1, ?_, fun a ha b hb' e => ?_⟩)
    · exact List.Nodup.sublist List.filter_sublist (rise_nodup (flU_rise (h := fun p => ((prs rows)[p]?).getD 0 + 1) (fun p => by have := hb p; omega) rows.length))
    · subst e
      exact ((hd a).mp hb').2 ha
  · obtain ⟨p, n, _, h2, rfl⟩ := (hq x).mp hx
    have := hb p
    exact ⟨Int.natCast_nonneg _, by show (n : Int) < 64; omega⟩
  · rw [hq]
    exact flU_mem.symm
theorem duU_len {rows : List (List Int)} (h60 : ∀ r ∈ rows, r.length ≤ 60) : ∀ i, (duU rows i).length ≤ 61 * i
  | 0 => Nat.zero_le _
  | i + 1 => by
    have := duU_len h60 i
    have := prs_le h60 i
    unfold duU at *
    rw [flU_succ, List.length_append, rowU_len]
    omega
theorem SG.none {S S' : Sto} {d : Addr} (h : SG S S') (n : S' d = none) : S d = none := by
  cases e : S d with
  | none => rfl
  | some o => rw [h _ _ (fun z => z) e] at n; cases n
theorem eqv_pairs (us : List (Int × Int)) : PyData.eqv (.list (us.map pD)) (.list (us.map pD)) = true := SeqAt.eqv_refl _ (SeqAt.canLay_of_shaped (pDl_shaped us))
theorem w_divided {rows : List (List Int)} {many most : Nat} {us : List (Int × Int)} {S : Sto} {R : DK} (hG : Good many most rows) (h6 : many ≤ 6) (h60 : most ≤ 60) (hN : NeedL rows us) (q : ∀ S', SG S S' → R (.bl true) S') :
    dFn 7 B_law_divided_f910 [.tup (rowsD rows), .tup ((delU rows us).map prD)] S R := by
  have rl := hG.len
  have r60 := hG.row60 h60
  have al := allU_len6 r60 (by omega : rows.length ≤ 6)
  have dl : (delU rows us).length ≤ 372 := Nat.le_trans (List.length_filter_le ..) al
  refine ⟨_, rfl, rfl, w_needed hG h6 h60 fun vs S1 sg1 hN1 => ⟨_, _, rfl, rfl, fun a na => ⟨_, rfl, _, _, rfl, rfl, fun b nb => ?_⟩⟩⟩
  obtain rfl := hN1.unique hN
  have sga : SG S1 (S1.put a (.lst (vs.map prD))) := .new na
  have ha : (S1.put a (.lst (vs.map prD))) a = some (.lst (vs.map prD)) := Sto.same
  generalize S1.put a (.lst (vs.map prD)) = S2 at sga ha nb ⊢
  have sgb : SG S2 (S2.put b (.lst ((delU rows vs).map prD))) := .new nb
  have hb : (S2.put b (.lst ((delU rows vs).map prD))) b = some (.lst ((delU rows vs).map prD)) := Sto.same
  have ha := sgb _ _ (fun z => z) ha
  generalize S2.put b (.lst ((delU rows vs).map prD)) = S3 at sgb ha hb ⊢
  have vl := hN.1
  refine ⟨_, _, ha, hb, by rw [List.length_map, List.length_map]; omega, fun c nc => ?_⟩
  have sgc : SG S3 (S3.put c (.lst (vs.map prD ++ (delU rows vs).map prD))) := .new nc
  have hc : (S3.put c (.lst (vs.map prD ++ (delU rows vs).map prD))) c = some (.lst ((vs ++ delU rows vs).map prD)) := by rw [Sto.same, List.map_append]
  generalize S3.put c (.lst (vs.map prD ++ (delU rows vs).map prD)) = S4 at sgc hc ⊢
  refine ⟨rfl, fun d nd => ⟨rfl, _, rfl, .inl (.inl rfl), _, _, rfl, _, _, rfl, rfl, ?_⟩⟩
  have cd : c ≠ d := fun z => by rw [← z, hc] at nd; cases nd
  have sgd : SG S4 (S4.put d (.lst [])) := .new nd
  have nS : S d = none := SG.none (((sg1.trans sga).trans sgb).trans sgc) nd
  have hd : (S4.put d (.lst [])) d = some (.lst ((duU rows 0).map prD)) := Sto.same
  have hc := sgd _ _ (fun z => z) hc
  have k4 : SG S (S4.put d (.lst [])) := (((sg1.trans sga).trans sgb).trans sgc).trans sgd
  generalize S4.put d (.lst []) = S5 at k4 hc hd ⊢
  refine ⟨_, rfl, _, _, rfl, rfl, fun i env S' => ∃ (x4 x5 x6 : Option D), env = [some (.tup (rowsD rows)), some (.tup ((delU rows vs).map prD)), some (.ref c), some (.ref d), x4, x5, x6] ∧ SG S S' ∧ S' c = some (.lst ((vs ++ delU rows vs).map prD)) ∧ S' d = some (.lst ((duU rows i).map prD)) ∧ i ≤ rows.length,
    ⟨_, _, _, rfl, k4, hc, hd, Nat.zero_le _⟩, fun _ _ _ _ _ => True.intro, ?_, ?_⟩
  · rintro i e env S6 he ⟨x4, x5, x6, rfl, k6, hc6, hd6, hi0⟩
    have he : (enD (rows.map rowD))[i]? = some e := he
    rw [enD_map, List.getElem?_map, List.getElem?_mapIdx] at he
    obtain ⟨row, hrow⟩ : ∃ row, rows[i]? = some row := by
      cases z : rows[i]? with
      | none => rw [z] at he; cases he
      | some r => exact ⟨r, rfl⟩
    rw [hrow] at he
    cases he
    have hi : i < rows.length := (List.getElem?_eq_some_iff.mp hrow).1
    have hpr := prsA hrow
    have hr60 := r60 row (List.mem_of_getElem? hrow)
    have cnt : row.count 0 ≤ row.length := List.count_le_length ..
    have dul := duU_len r60 i
    refine ⟨_, rfl, .inl (.inl rfl), _, _, rfl, _, _, rfl, rfl, _, rfl, ⟨rfl, _, seqOf_lst hd6, noTup _⟩, _, rfl, ⟨_, rfl⟩, row, 0, rfl, rfl, _, rfl, by show -(2 ^ 62) ≤ (((row.count 0 : Nat) : Int) + 1); omega, by show (((row.count 0 : Nat) : Int) + 1) < 2 ^ 62; omega, ?_⟩
    refine lc_mapE (List.range (row.count 0 + 1)) (fun n : Nat => .int (0 + (n : Int))) (by show rgD 0 (((row.count 0 : Nat) : Int) + 1).toNat = _; rfl) (fun n : Nat => some (prD ((i : Int), (n : Int)))) (by rw [List.length_range]; omega) (fun _ _ => True.intro) (fun n _ S7 sg7 K Kn hk _ => ?_) fun p S7 np sg7 hp => ?_
    · refine turn_y ⟨_, rfl, _, rfl, rfl, hk _ ?_ _ (.refl _)⟩
      show some (prD _) = some (D.tup [_, .int (0 + _)])
      rw [Int.zero_add]
      rfl
    · have e : ((List.range (row.count 0 + 1)).filterMap fun n : Nat => some (prD ((i : Int), (n : Int)))) = (rowU i (row.count 0 + 1)).map prD := by
        rw [fm_map]
        unfold rowU
        rw [List.map_map]
        rfl
      rw [e] at hp
      have hd7 := sg7 _ _ (fun z => z) hd6
      have hc7 := sg7 _ _ (fun z => z) hc6
      refine ⟨d, p, _, _, rfl, rfl, hd7, hp, ?_, ?_⟩
      · rw [List.length_map, List.length_map, rowU_len]
        omega
      · refine ⟨_, _, _, rfl, SG.keepP nS k6 sg7, (Sto.ne cd).trans hc7, ?_, hi⟩
        rw [Sto.same, ← List.map_append]
        unfold duU
        rw [flU_succ, hpr]
        rfl
  · rintro env S6 ⟨x4, x5, x6, rfl, k6, hc6, hd6, hi0⟩
    have hlen : (enD (rowsD rows)).length = rows.length := by unfold enD rowsD; rw [List.length_mapIdx, List.length_map]
    have hd6 : S6 d = some (.lst ((duU rows (enD (rowsD rows)).length).map prD)) := hd6
    rw [hlen] at hd6
    refine ⟨_, rfl, c, _, rfl, hc6, fun qs t pm pw nt => ?_⟩
    obtain rfl := divided_eq r60 hN pm pw
    have sgt : SG S6 (S6.put t (.lst ((duU rows rows.length).map prD))) := .new nt
    refine ⟨_, rfl, _, _, .lst Sto.same (pys_pairs _), .lst (sgt _ _ (fun z => z) hd6) (pys_pairs _), pDl_shaped _, pDl_shaped _, ?_⟩
    rw [eqv_pairs]
    exact q _ (k6.trans sgt)
end Sv

set_option maxHeartbeats 400000
/-! a state that can be deleted can be deleted at every later time -/
namespace Sv
open PySem L2
/-- the history goes on -/
def Ext' (rows rows' : List (List Int)) : Prop := rows.length = rows'.length ∧ ∀ (i : Nat) (r r' : List Int), rows[i]? = some r → rows'[i]? = some r' → r <+: r'
theorem Ext'.refl (rows : List (List Int)) : Ext' rows rows := ⟨rfl, fun i r r' h1 h2 => by rw [h1] at h2; cases h2; exact List.prefix_rfl⟩
theorem Ext'.trans {a b c : List (List Int)} (x : Ext' a b) (y : Ext' b c) : Ext' a c := ⟨x.1.trans y.1, fun i r r' h1 h2 => by
  have hi : i < b.length := by rw [← x.1]; exact (List.getElem?_eq_some_iff.mp h1).1
  exact (x.2 i r _ h1 (List.getElem?_eq_getElem hi)).trans (y.2 i _ r' (List.getElem?_eq_getElem hi) h2)⟩
theorem Ext'.row {rows rows' : List (List Int)} (x : Ext' rows rows') {i : Nat} {r : List Int} (h : rows[i]? = some r) : ∃ r', rows'[i]? = some r' ∧ r <+: r' := by
  have hi : i < rows'.length := by rw [← x.1]; exact (List.getElem?_eq_some_iff.mp h).1
  exact ⟨_, List.getElem?_eq_getElem hi, x.2 i r _ h (List.getElem?_eq_getElem hi)⟩
theorem Ext'.row' {rows rows' : List (List Int)} (x : Ext' rows rows') {i : Nat} {r' : List Int} (h : rows'[i]? = some r') : ∃ r, rows[i]? = some r ∧ r <+: r' := by
  have hi : i < rows.length := by rw [x.1]; exact (List.getElem?_eq_some_iff.mp h).1
  exact ⟨_, List.getElem?_eq_getElem hi, x.2 i _ r' (List.getElem?_eq_getElem hi) h⟩
theorem hap_inv {rows : List (List Int)} {e : Int} {p k : Nat} (h : hap rows e = some (p, k)) : ∃ row i, rows[p]? = some row ∧ row[i]? = some e ∧ k = (row.take i).count 0 := by
  rcases spot_hap (e := e) (rs := rows) (p := 0) with ⟨_, z⟩ | ⟨p', row, z1, z2, _, z4⟩
  · unfold hap at h
    rw [z] at h
    cases h
  · unfold hap at h
    rw [z4, Nat.zero_add] at h
    cases h
    have hk := List.idxOf_lt_length_iff.mpr z2
    exact ⟨row, row.idxOf e, z1, by rw [List.getElem?_eq_getElem hk]; exact congrArg some (List.getElem_idxOf hk), rfl⟩
theorem pre_at {r r' : List Int} (h : r <+: r') {i : Nat} {e : Int} (hi : r[i]? = some e) : r'[i]? = some e ∧ r'.take i = r.take i := by
  obtain ⟨t, rfl⟩ := h
  have hl := (List.getElem?_eq_some_iff.mp hi).1
  exact ⟨by rw [List.getElem?_append_left hl]; exact hi, by rw [List.take_append_of_le_length (by omega)]⟩
theorem pre_count {r r' : List Int} (h : r <+: r') : r.count 0 ≤ r'.count 0 := by
  obtain ⟨t, rfl⟩ := h
  rw [List.count_append]
  omega
/-- what happened stays -/
theorem hap_ext {rows rows' : List (List Int)} {many' most' : Nat} (hG' : Good many' most' rows') (x : Ext' rows rows') {e : Int} (he : e ≠ 0) {p k : Nat} (h : hap rows e = some (p, k)) : hap rows' e = some (p, k) := by
  obtain ⟨row, i, h1, h2, rfl⟩ := hap_inv h
  obtain ⟨row', h3, h4⟩ := x.row h1
  obtain ⟨h5, h6⟩ := pre_at h4 h2
  rw [hG'.hap_at h3 h5 he, h6]
/-- what happened later, in an interval that had ended, had happened -/
theorem hap_back {rows rows' : List (List Int)} {many most : Nat} (hG : Good many most rows) (x : Ext' rows rows') {e : Int} (he : e ≠ 0) {p k : Nat} {row : List Int} (hr : rows[p]? = some row) (hk : k < row.count 0) (h : hap rows' e = some (p, k)) : hap rows e = some (p, k) := by
  obtain ⟨row', i, h1, h2, rfl⟩ := hap_inv h
  have hp := x.2 p row row' hr h1
  have hi : i < row.length := by
    rcases Nat.lt_or_ge i row.length with z | z
    · exact z
    · obtain ⟨t, rfl⟩ := hp
      rw [List.take_append, List.take_of_length_le z, List.count_append] at hk
      omega
  have h3 : row[i]? = some e := by
    obtain ⟨t, rfl⟩ := hp
    rw [List.getElem?_append_left hi] at h2
    exact h2
  rw [hG.hap_at hr h3 he, (pre_at hp h3).2]
theorem hap_le {rows : List (List Int)} {e : Int} {p k : Nat} {row : List Int} (h : hap rows e = some (p, k)) (hr : rows[p]? = some row) : k ≤ row.count 0 := by
  obtain ⟨row', i, h1, h2, rfl⟩ := hap_inv h
  rw [hr] at h1
  cases h1
  exact List.Sublist.count_le _ (List.take_sublist ..)
theorem recv_sent' {rows : List (List Int)} {many most : Nat} (hG : Good many most rows) {m : Int} (hm : 0 < m) {x : Nat × Nat} (h : hap rows (0 - m) = some x) : ∃ y, hap rows m = some y := by
  have := hG.recv_sent (hG.recv_mem hm h)
  unfold sentM at this
  exact Option.isSome_iff_exists.mp this
end Sv

set_option maxHeartbeats 400000
/-! a state that can be deleted can be deleted at every later time: the lines -/
namespace Sv
open PySem L2
theorem fall_mem {rows : List (List Int)} {p n : Nat} : ∀ fs : List Int, fs ≠ [] → (fallL rows fs)[p]? = some n → ∃ f ∈ fs, (fallL rows [f])[p]? = some n
  | [], h, _ => absurd rfl h
  | [f], _, h => ⟨f, List.mem_cons_self, h⟩
  | f :: g :: r, _, h => by
    have h1 := (fall_low rows [f]).app (fall_low rows (g :: r))
    have e := fall_eq h1
    have h : (fallL rows ([f] ++ g :: r))[p]? = some n := h
    rw [← e] at h
    obtain ⟨x, y, h2, h3, h4⟩ := minL_inv h
    rcases Nat.le_total x y with z | z
    · rw [Nat.min_eq_left z] at h4
      subst h4
      exact ⟨f, List.mem_cons_self, h2⟩
    · rw [Nat.min_eq_right z] at h4
      subst h4
      obtain ⟨f', h5, h6⟩ := fall_mem (g :: r) (fun z => nomatch z) h3
      exact ⟨f', List.mem_cons_of_mem _ h5, h6⟩
theorem cons_prs {rows : List (List Int)} : ConsL rows (prs rows) := fun m p k p' k' c c' hm h1 h2 h3 h4 h5 => by
  obtain ⟨row, i, g1, g2, g3⟩ := hap_inv h1
  have := hap_le h1 g1
  rw [prsA g1] at h3
  cases h3
  omega
theorem prs_tops (rows : List (List Int)) : tops rows [] = prs rows := by
  unfold tops prs
  apply List.ext_getElem?
  intro i
  rw [List.getElem?_mapIdx, List.getElem?_map]
  cases rows[i]? with
  | none => rfl
  | some r => simp
theorem fall_none (rows : List (List Int)) : fallL rows [] = prs rows := by
  refine (fall_eq ⟨?_, cons_prs⟩).symm
  rw [prs_tops]
  exact .start rows (prs rows)
/-- no state that can be deleted is in a line to which processes fall back -/
theorem fall_needed {rows : List (List Int)} {fs : List Int} {p n : Nat} (hf : ∀ f ∈ fs, 0 ≤ f ∧ f < rows.length) (h : (fallL rows fs)[p]? = some n) (hn : n < ((prs rows)[p]?).getD 0) : ∃ f : Nat, f < rows.length ∧ NeedAt rows f p n := by
  by_cases z : fs = []
  · subst z
    rw [fall_none] at h
    rw [h] at hn
    exact absurd hn (Nat.lt_irrefl _)
  · obtain ⟨f, h1, h2⟩ := fall_mem fs z h
    have := hf f h1
    refine ⟨f.toNat, by omega, need_iff.mpr ⟨?_, hn⟩⟩
    rw [Int.toNat_of_nonneg this.1]
    exact h2
theorem need_back {rows rows' : List (List Int)} {many most many' most' : Nat} (hG : Good many most rows) (hG' : Good many' most' rows') (x : Ext' rows rows') {f p n : Nat} (h : NeedAt rows' f p n) (hn : n < ((prs rows)[p]?).getD 0) : ∃ f0 : Nat, f0 < rows.length ∧ NeedAt rows f0 p n := by
  obtain ⟨hp, _⟩ := need_iff.mp h
  have hL := fall_low rows' [(f : Int)]
  have hlen := fall_len rows' [(f : Int)]
  generalize fallL rows' [(f : Int)] = l at hp hL hlen
  have pl : (prs rows).length = rows.length := List.length_map ..
  have hll : l.length = (prs rows).length := by rw [hlen, pl, x.1]
  -- those that stand below
  obtain ⟨F, hF⟩ : ∃ F : List Int, F = ((List.range rows.length).filter fun q => decide (l.getD q 0 < (prs rows).getD q 0)).map fun (q : Nat) => (q : Int) := ⟨_, rfl⟩
  have memF : ∀ q : Nat, (q : Int) ∈ F ↔ q < rows.length ∧ l.getD q 0 < (prs rows).getD q 0 := fun q => by
    rw [hF, List.mem_map]
    constructor
    · rintro ⟨a, h1, h2⟩
      obtain rfl : a = q := by omega
      obtain ⟨h3, h4⟩ := List.mem_filter.mp h1
      exact ⟨List.mem_range.mp h3, of_decide_eq_true h4⟩
    · rintro ⟨h1, h2⟩
      exact ⟨q, List.mem_filter.mpr ⟨List.mem_range.mpr h1, decide_eq_true h2⟩, rfl⟩
  have rngF : ∀ f ∈ F, 0 ≤ f ∧ f < rows.length := fun f hf => by
    rw [hF] at hf
    obtain ⟨a, h1, rfl⟩ := List.mem_map.mp hf
    have := List.mem_range.mp (List.mem_filter.mp h1).1
    omega
  have gl : ∀ {q c : Nat}, l[q]? = some c → l.getD q 0 = c := fun {q c} h => by rw [List.getD_eq_getElem?_getD, h]; rfl
  have gp : ∀ {q c : Nat}, (prs rows)[q]? = some c → (prs rows).getD q 0 = c := fun {q c} h => by rw [List.getD_eq_getElem?_getD, h]; rfl
  have hM := fall_low rows F
  have hMl := fall_len rows F
  have hmem := fun q c => fall_mem (rows := rows) (p := q) (n := c) F
  have hMeq : fallL rows F = fallL rows F := rfl
  generalize hMM : fallL rows F = M at hM hMl
  -- the line, cut
  have c1 : ConsL rows (minL l (prs rows)) := fun m a k b k' c c' hm h1 h2 h3 h4 h5 => by
    obtain ⟨x1, y1, e1, e2, rfl⟩ := minL_inv h3
    obtain ⟨x2, y2, e3, e4, rfl⟩ := minL_inv h4
    have := hL.cons m a k b k' x1 x2 hm (hap_ext hG' x (by omega) h1) (hap_ext hG' x (by omega) h2) e1 e3 (by omega)
    obtain ⟨row, i, g1, _, _⟩ := hap_inv h1
    have g2 := hap_le h1 g1
    rw [prsA g1] at e2
    cases e2
    omega
  have c2 : LeL (minL l (prs rows)) M := hM.top _ (by rw [minL_len hll, tops_len, hll, pl]) (fun q c d h1 h2 => by
    obtain ⟨x1, y1, e1, e2, rfl⟩ := minL_inv h1
    obtain ⟨row, hrow⟩ : ∃ row, rows[q]? = some row := by
      cases z : rows[q]? with
      | none =>
        have := List.getElem?_eq_none_iff.mp z
        have := (List.getElem?_eq_some_iff.mp e2).1
        omega
      | some r => exact ⟨r, rfl⟩
    rw [tops_at hrow] at h2
    cases h2
    rw [prsA hrow] at e2
    cases e2
    by_cases z : (q : Int) ∈ F
    · have := ((memF q).mp z).2
      rw [gl e1, gp (prsA hrow)] at this
      rw [decide_eq_true z, if_pos rfl]
      omega
    · rw [decide_eq_false z, if_neg Bool.false_ne_true]
      omega) c1
  -- the line raised
  obtain ⟨N, hN⟩ : ∃ N : List Nat, N = l.mapIdx fun q c => if decide ((q : Int) ∈ F) = true then max c (M.getD q 0) else c := ⟨_, rfl⟩
  have gM : ∀ {q c : Nat}, M[q]? = some c → M.getD q 0 = c := fun {q c} h => by rw [List.getD_eq_getElem?_getD, h]; rfl
  have atN : ∀ {q d : Nat}, N[q]? = some d → ∃ c, l[q]? = some c ∧ d = if decide ((q : Int) ∈ F) = true then max c (M.getD q 0) else c := fun {q d} h => by
    rw [hN, List.getElem?_mapIdx] at h
    cases z : l[q]? with
    | none => rw [z] at h; cases h
    | some c => rw [z] at h; cases h; exact ⟨c, rfl, rfl⟩
  have atM : ∀ {q : Nat}, q < rows.length → ∃ c, M[q]? = some c := fun {q} h => ⟨_, List.getElem?_eq_getElem (by rw [hMl]; exact h)⟩
  have topM : ∀ {q c : Nat} {row : List Int}, rows[q]? = some row → M[q]? = some c → (q : Int) ∈ F → c ≤ row.count 0 := fun {q c row} h1 h2 h3 => by
    have := hM.le q c _ h2 (tops_at h1)
    rw [decide_eq_true h3, if_pos rfl] at this
    omega
  have d1 : ConsL rows' N := fun m a k b k' c c' hm h1 h2 h3 h4 h5 => by
    obtain ⟨x1, e1, rfl⟩ := atN h3
    obtain ⟨x2, e2, rfl⟩ := atN h4
    by_cases z : k' < x2
    · have := hL.cons m a k b k' x1 x2 hm h1 h2 e1 e2 z
      split
      · omega
      · exact this
    · by_cases y : (b : Int) ∈ F
      · rw [decide_eq_true y, if_pos rfl] at h5
        have yb := ((memF b).mp y).1
        obtain ⟨row, hrow⟩ : ∃ row, rows[b]? = some row := ⟨_, List.getElem?_eq_getElem yb⟩
        obtain ⟨v, hv⟩ := atM yb
        have hv2 := topM hrow hv y
        rw [gM hv] at h5
        have h6 : k' < row.count 0 := by omega
        have h7 := hap_back hG x (by omega) hrow h6 h2
        obtain ⟨⟨a', ka⟩, h8⟩ := recv_sent' hG hm h7
        have h9 := hap_ext hG' x (by omega) h8
        rw [h1] at h9
        cases h9
        obtain ⟨rowa, i, ga, _, _⟩ := hap_inv h8
        have hka := hap_le h8 ga
        obtain ⟨va, hva⟩ := atM (List.getElem?_eq_some_iff.mp ga).1
        have h10 := hM.cons m a k b k' va v hm h8 h7 hva hv (by omega)
        by_cases w : (a : Int) ∈ F
        · rw [decide_eq_true w, if_pos rfl, gM hva]
          omega
        · rw [decide_eq_false w, if_neg Bool.false_ne_true]
          have h11 : ¬ l.getD a 0 < (prs rows).getD a 0 := fun z => w ((memF a).mpr ⟨(List.getElem?_eq_some_iff.mp ga).1, z⟩)
          rw [gl e1, gp (prsA ga)] at h11
          omega
      · rw [decide_eq_false y, if_neg Bool.false_ne_true] at h5
        exact absurd h5 z
  have d2 : LeL N l := hL.top N (by rw [hN, List.length_mapIdx, hlen, tops_len]) (fun q c d h1 h2 => by
    obtain ⟨x1, e1, rfl⟩ := atN h1
    have := hL.le q x1 d e1 h2
    split
    · rename_i z
      have z := of_decide_eq_true z
      have yb := ((memF q).mp z).1
      obtain ⟨row, hrow⟩ : ∃ row, rows[q]? = some row := ⟨_, List.getElem?_eq_getElem yb⟩
      obtain ⟨v, hv⟩ := atM yb
      have hv2 := topM hrow hv z
      obtain ⟨row', hr', hpre⟩ := x.row hrow
      have := pre_count hpre
      rw [tops_at hr'] at h2
      cases h2
      rw [gM hv]
      omega
    · exact this) d1
  have hpl : p < rows.length := by
    rw [← pl, ← hll]
    exact (List.getElem?_eq_some_iff.mp hp).1
  obtain ⟨row, hrow⟩ : ∃ row, rows[p]? = some row := ⟨_, List.getElem?_eq_getElem hpl⟩
  rw [prsA hrow] at hn
  have hn : n < row.count 0 + 1 := hn
  have hpF : (p : Int) ∈ F := (memF p).mpr ⟨hpl, by rw [gl hp, gp (prsA hrow)]; exact hn⟩
  obtain ⟨v, hv⟩ := atM hpl
  have e1 := c2 p _ v (minL_at hp (prsA hrow)) hv
  have e2 := d2 p (max n v) n (by rw [hN, List.getElem?_mapIdx, hp, ← gM hv]; show some (if decide ((p : Int) ∈ F) = true then _ else _) = _; rw [decide_eq_true hpF, if_pos rfl]) hp
  obtain rfl : v = n := by omega
  obtain ⟨f0, h1, h2⟩ := hmem p v (fun z => by rw [z] at hpF; cases hpF) (by rw [hMM]; exact hv)
  have := rngF f0 h1
  refine ⟨f0.toNat, by omega, need_iff.mpr ⟨?_, by rw [prsA hrow]; exact hn⟩⟩
  rw [Int.toNat_of_nonneg this.1]
  exact h2
end Sv

set_option maxHeartbeats 400000
/-! Over data: dominoes event by event, and lost processes, and lines with several failures. -/
namespace Sv
open PySem L2
/-- the dominoes, but for the last two events -/
def domRow (j : Nat) : List (List Int) := [dOnes (j + 1), dOthers j ++ [2 * (j : Int) + 1]]
theorem dom_good {j : Nat} (h : j + 1 ≤ 10) : Good 6 60 (domRow j) := by
  have ih := dGrown j (by omega)
  have e1 : names24[2 * j]? = some (2 * (j : Int) + 1) := by
    rw [names24_at (by omega)]
    congr 1
  have e2 : names24[2 * j + 1]? = some (2 * (j : Int) + 2) := by
    rw [names24_at (by omega)]
    congr 1
  have g1 := Grown.send (p := 1) ih rfl e1
  have g2 := Grown.recv (p := 0) (j := 0) g1 rfl rfl (by decide)
  have g3 := Grown.save (p := 0) g2 rfl
  have g4 := Grown.send (p := 0) g3 rfl e2
  have e3 : [((dOnes j ++ [0 - (2 * (j : Int) + 1)]) ++ [0]) ++ [2 * (j : Int) + 2], dOthers j ++ [2 * (j : Int) + 1]] = domRow j := by
    unfold domRow
    rw [List.append_assoc, List.append_assoc]
    rfl
  have g5 : Grown 2 names24 [((dOnes j ++ [0 - (2 * (j : Int) + 1)]) ++ [0]) ++ [2 * (j : Int) + 2], dOthers j ++ [2 * (j : Int) + 1]] (([] ++ [(2 * (j : Int) + 1, ((1 : Nat) : Int))]).eraseIdx 0 ++ [(2 * (j : Int) + 2, ((0 : Nat) : Int))]) (2 * j + 1 + 1) (6 * j + 1 + 1 + 1 + 1) := g4
  rw [e3] at g5
  exact ⟨2, names24, _, _, _, by decide, by decide, .refl _, g5, by omega⟩
theorem dom_last {n : Nat} (h : n ≤ 10) : Good 6 60 [dOnes n, dOthers n] := ⟨2, names24, [], 2 * n, 6 * n, by decide, by decide, .refl _, dGrown n (by omega), by omega⟩
theorem dOnes_pre : ∀ {i j : Nat}, i ≤ j → dOnes i <+: dOnes j
  | i, 0, h => by
    obtain rfl : i = 0 := by omega
    exact List.prefix_rfl
  | i, j + 1, h => by
    by_cases z : i = j + 1
    · subst z; exact List.prefix_rfl
    · exact (dOnes_pre (i := i) (j := j) (by omega)).trans (List.prefix_append ..)
theorem dOthers_pre : ∀ {i j : Nat}, i ≤ j → dOthers i <+: dOthers j
  | i, 0, h => by
    obtain rfl : i = 0 := by omega
    exact List.prefix_rfl
  | i, j + 1, h => by
    by_cases z : i = j + 1
    · subst z; exact List.prefix_rfl
    · exact (dOthers_pre (i := i) (j := j) (by omega)).trans (List.prefix_append ..)
theorem dOthers_one (j : Nat) : dOthers j ++ [2 * (j : Int) + 1] <+: dOthers (j + 1) := ⟨[0 - (2 * (j : Int) + 2), 0], by rw [List.append_assoc]; rfl⟩
theorem ext2 {a b a' b' : List Int} (h1 : a <+: a') (h2 : b <+: b') : Ext' [a, b] [a', b'] := ⟨rfl, fun i r r' e1 e2 => by
  match i with
  | 0 => cases e1; cases e2; exact h1
  | 1 => cases e1; cases e2; exact h2
  | i + 2 => cases e1⟩
theorem take_pre {a b : List Int} (h : a <+: b) : b.take a.length = a := (List.prefix_iff_eq_take.mp h).symm
def doms (n : Nat) : List (List (List Int)) := (List.range n).map domRow ++ [[dOnes n, dOthers n]]
theorem doms_good {n : Nat} (h : n ≤ 10) : ∀ r ∈ doms n, Good 6 60 r := fun r hr => by
  rcases List.mem_append.mp hr with z | z
  · obtain ⟨j, h1, rfl⟩ := List.mem_map.mp z
    have := List.mem_range.mp h1
    exact dom_good (by omega)
  · rw [List.mem_singleton.mp z]
    exact dom_last h
theorem doms_rise (n : Nat) : (doms n).Pairwise Ext' := by
  refine List.pairwise_append.mpr ⟨List.pairwise_map.mpr ((List.pairwise_lt_range (n := n)).imp fun {a b} z => ext2 (dOnes_pre (by omega)) ?_), List.pairwise_singleton _ _, fun a ha b hb => ?_⟩
  · exact ((dOthers_one a).trans (dOthers_pre z)).trans (List.prefix_append ..)
  · obtain ⟨j, h1, rfl⟩ := List.mem_map.mp ha
    rw [List.mem_singleton.mp hb]
    have := List.mem_range.mp h1
    exact ext2 (dOnes_pre (by omega)) ((dOthers_one j).trans (dOthers_pre (by omega)))
def hisD (rows : List (List Int)) : D := .tup (rowsD rows)
theorem Deck.putF {st big p : Addr} {S : Sto} {o : Ob} (h : Deck st big S) (n : p ≠ st ∧ p ≠ big) : Deck st big (S.put p o) := by
  obtain ⟨hne, bs, a, b, c, hs, hb⟩ := h
  exact ⟨hne, bs, a, b, c, (Sto.ne n.1.symm).trans hs, (Sto.ne n.2.symm).trans hb⟩
theorem SK.putF {P : Addr → Prop} {S S' : Sto} {p : Addr} {o : Ob} (k : SK P S S') (n : S p = none) : SK P S (S'.put p o) := fun a u h e => by
  rw [Sto.ne fun z => by rw [z, n] at e; cases e]
  exact k a u h e
theorem w_lost {st big : Addr} {rows : List (List Int)} {S : Sto} {R : DK} (h : Deck st big S) (h1 : 1 ≤ rows.length) (h6 : rows.length ≤ 100)
    (k : ∀ (fs : List Int) S', fs.length ≤ 6 → (∀ f ∈ fs, 0 ≤ f ∧ f < rows.length) → Deck st big S' → SK (DP st big) S S' → R (.tup (intsD fs)) S') : dFn 3 B_law_lost_0080 [.ref st, .tup (rowsD rows)] S R := by
  have rdl : (rowsD rows).length = rows.length := List.length_map ..
  refine ⟨_, rfl, rfl, w_next h (by decide) (by decide) fun v S1 v0 v1 D1 k1 => ⟨_, rfl, by omega, by omega, fun p np => ?_⟩⟩
  obtain ⟨m, rfl⟩ : ∃ m : Nat, v = (m : Int) := ⟨v.toNat, by omega⟩
  have p12 := D1.fresh np
  refine ⟨fun i S' => i ≤ m ∧ Deck st big S' ∧ SK (DP st big) S S' ∧ ∃ fs : List Int, S' p = some (.lst (intsD fs)) ∧ fs.length = i ∧ ∀ f ∈ fs, 0 ≤ f ∧ f < rows.length, ⟨Nat.zero_le _, D1.keep (.new np), k1.trans (SK.new np), [], Sto.same, rfl, fun f hf => nomatch hf⟩, fun _ _ _ _ => True.intro, fun i d S' hd ⟨hi0, D', k', fs, hp, hl, hb⟩ => ?_, fun S' ⟨_, D', k', fs, hp, hl, hb⟩ => ?_⟩
  · obtain ⟨hi, rfl⟩ := rg_at hd
    rw [Int.toNat_natCast] at hi
    refine turn_y ?_
    refine ⟨_, rfl, _, rfl, _, _, rfl, rfl, rfl, w_next D' (by rw [rdl]; omega) (by rw [rdl]; omega) fun f S2 f0 f1 D2 k2 => ?_⟩
    rw [rdl] at f1
    have hp2 := k2 _ _ (nDP p12) hp
    refine ⟨_, hp2, by rw [intsD_len]; omega, hi, ?_, ?_, fs ++ [f], ?_, by rw [List.length_append, hl]; rfl, fun g hg => ?_⟩
    · exact D2.putF p12
    · exact (k'.trans k2).putF (k1.free np (nDP p12))
    · rw [Sto.same]
      unfold intsD
      rw [List.map_append]
      rfl
    · rcases List.mem_append.mp hg with z | z
      · exact hb g z
      · rw [List.mem_singleton.mp z]
        exact ⟨f0, f1⟩
  · have hl : fs.length = (rgD 0 ((m : Int)).toNat).length := hl
    rw [rg_len, Int.toNat_natCast] at hl
    exact ⟨_, _, rfl, seqOf_lst hp, fun ys z => (nomatch z), k fs S' (by omega) hb D' k'⟩
end Sv

set_option maxHeartbeats 400000
/-! Over data: a line with several failures. -/
namespace Sv
open PySem L2
theorem w_fallen {rows : List (List Int)} {many most : Nat} {fs : List Int} {S : Sto} {R : DK} (hG : Good many most rows) (h6 : many ≤ 6) (h60 : most ≤ 60) (hf : fs.length ≤ 6) (q : ∀ S', SG S S' → R (.tup (natD (fallL rows fs))) S') :
    dFn 2 B_law_fallen_e0f3 [.tup (rowsD rows), .tup (intsD fs)] S R := by
  have no : ∀ {b : Bool} {P : Prop}, b = false → b = true → P := fun {b P} h e => by rw [h] at e; cases e
  have yes : ∀ {b : Bool} {P : Prop}, b = true → b = false → P := fun {b P} h e => by rw [h] at e; cases e
  match fs, hf with
  | [], _ =>
    refine ⟨_, rfl, _, _, rfl, rfl, _, rfl, iteB (fun _ => ?_) fun e => yes rfl e⟩
    exact ⟨_, rfl, w_fall (fs := []) hG h6 h60 (by show 0 ≤ 900; decide) q⟩
  | [a], _ =>
    refine ⟨_, rfl, _, _, rfl, rfl, _, rfl, iteB (fun e => no rfl e) fun _ => ?_⟩
    refine ⟨_, rfl, _, _, rfl, rfl, _, rfl, iteB (fun _ => ?_) fun e => yes rfl e⟩
    exact ⟨_, rfl, _, rfl, _, 0, _, rfl, rfl, rfl, w_fall (fs := [a]) hG h6 h60 (by show 1 ≤ 900; decide) q⟩
  | [a, b], _ =>
    refine ⟨_, rfl, _, _, rfl, rfl, _, rfl, iteB (fun e => no rfl e) fun _ => ?_⟩
    refine ⟨_, rfl, _, _, rfl, rfl, _, rfl, iteB (fun e => no rfl e) fun _ => ?_⟩
    refine ⟨_, rfl, _, _, rfl, rfl, _, rfl, iteB (fun _ => ?_) fun e => yes rfl e⟩
    exact ⟨_, rfl, _, rfl, _, 0, _, rfl, rfl, rfl, _, rfl, _, 1, _, rfl, rfl, rfl, w_fall (fs := [a, b]) hG h6 h60 (by show 2 ≤ 900; decide) q⟩
  | [a, b, c], _ =>
    refine ⟨_, rfl, _, _, rfl, rfl, _, rfl, iteB (fun e => no rfl e) fun _ => ?_⟩
    refine ⟨_, rfl, _, _, rfl, rfl, _, rfl, iteB (fun e => no rfl e) fun _ => ?_⟩
    refine ⟨_, rfl, _, _, rfl, rfl, _, rfl, iteB (fun e => no rfl e) fun _ => ?_⟩
    refine ⟨_, rfl, _, _, rfl, rfl, _, rfl, iteB (fun _ => ?_) fun e => yes rfl e⟩
    exact ⟨_, rfl, _, rfl, _, 0, _, rfl, rfl, rfl, _, rfl, _, 1, _, rfl, rfl, rfl, _, rfl, _, 2, _, rfl, rfl, rfl, w_fall (fs := [a, b, c]) hG h6 h60 (by show 3 ≤ 900; decide) q⟩
  | [a, b, c, d], _ =>
    refine ⟨_, rfl, _, _, rfl, rfl, _, rfl, iteB (fun e => no rfl e) fun _ => ?_⟩
    refine ⟨_, rfl, _, _, rfl, rfl, _, rfl, iteB (fun e => no rfl e) fun _ => ?_⟩
    refine ⟨_, rfl, _, _, rfl, rfl, _, rfl, iteB (fun e => no rfl e) fun _ => ?_⟩
    refine ⟨_, rfl, _, _, rfl, rfl, _, rfl, iteB (fun e => no rfl e) fun _ => ?_⟩
    refine ⟨_, rfl, _, _, rfl, rfl, _, rfl, iteB (fun _ => ?_) fun e => yes rfl e⟩
    exact ⟨_, rfl, _, rfl, _, 0, _, rfl, rfl, rfl, _, rfl, _, 1, _, rfl, rfl, rfl, _, rfl, _, 2, _, rfl, rfl, rfl, _, rfl, _, 3, _, rfl, rfl, rfl, w_fall (fs := [a, b, c, d]) hG h6 h60 (by show 4 ≤ 900; decide) q⟩
  | [a, b, c, d, e], _ =>
    refine ⟨_, rfl, _, _, rfl, rfl, _, rfl, iteB (fun e => no rfl e) fun _ => ?_⟩
    refine ⟨_, rfl, _, _, rfl, rfl, _, rfl, iteB (fun e => no rfl e) fun _ => ?_⟩
    refine ⟨_, rfl, _, _, rfl, rfl, _, rfl, iteB (fun e => no rfl e) fun _ => ?_⟩
    refine ⟨_, rfl, _, _, rfl, rfl, _, rfl, iteB (fun e => no rfl e) fun _ => ?_⟩
    refine ⟨_, rfl, _, _, rfl, rfl, _, rfl, iteB (fun e => no rfl e) fun _ => ?_⟩
    refine ⟨_, rfl, _, _, rfl, rfl, _, rfl, iteB (fun _ => ?_) fun e => yes rfl e⟩
    exact ⟨_, rfl, _, rfl, _, 0, _, rfl, rfl, rfl, _, rfl, _, 1, _, rfl, rfl, rfl, _, rfl, _, 2, _, rfl, rfl, rfl, _, rfl, _, 3, _, rfl, rfl, rfl, _, rfl, _, 4, _, rfl, rfl, rfl, w_fall (fs := [a, b, c, d, e]) hG h6 h60 (by show 5 ≤ 900; decide) q⟩
  | [a, b, c, d, e, f], _ =>
    refine ⟨_, rfl, _, _, rfl, rfl, _, rfl, iteB (fun e => no rfl e) fun _ => ?_⟩
    refine ⟨_, rfl, _, _, rfl, rfl, _, rfl, iteB (fun e => no rfl e) fun _ => ?_⟩
    refine ⟨_, rfl, _, _, rfl, rfl, _, rfl, iteB (fun e => no rfl e) fun _ => ?_⟩
    refine ⟨_, rfl, _, _, rfl, rfl, _, rfl, iteB (fun e => no rfl e) fun _ => ?_⟩
    refine ⟨_, rfl, _, _, rfl, rfl, _, rfl, iteB (fun e => no rfl e) fun _ => ?_⟩
    refine ⟨_, rfl, _, _, rfl, rfl, _, rfl, iteB (fun e => no rfl e) fun _ => ?_⟩
    exact ⟨_, rfl, _, rfl, _, 0, _, rfl, rfl, rfl, _, rfl, _, 1, _, rfl, rfl, rfl, _, rfl, _, 2, _, rfl, rfl, rfl, _, rfl, _, 3, _, rfl, rfl, rfl, _, rfl, _, 4, _, rfl, rfl, rfl, _, rfl, _, 5, _, rfl, rfl, rfl, w_fall (fs := [a, b, c, d, e, f]) hG h6 h60 (by show 6 ≤ 900; decide) q⟩
  | a :: b :: c :: d :: e :: f :: g :: r, h => exact absurd h (by rw [List.length_cons, List.length_cons, List.length_cons, List.length_cons, List.length_cons, List.length_cons, List.length_cons]; omega)
end Sv

set_option maxHeartbeats 400000
/-! Over data: histories that go on. -/
namespace Sv
open PySem L2
theorem GF.of {S : Sto} {st big t f : Addr} {nm : List Int} {rows : List (List Int)} {o : List (Int × Int)} {u : Nat} {sh : Int} (h : GS S st big t nm rows o u sh) (n : S f = none) : GF S t f := by
  obtain ⟨N, O, h1, h2, h3, h4, h5, h6⟩ := h
  refine ⟨fun z => (by rw [z, n] at h1; cases h1), fun N2 O2 r s e => ?_⟩
  rw [h1] at e
  cases e
  exact ⟨fun z => (by rw [← z, n] at h2; cases h2), fun z => (by rw [← z, n] at h3; cases h3)⟩
theorem GS.putF {S : Sto} {st big t f : Addr} {ob : Ob} {nm : List Int} {rows : List (List Int)} {o : List (Int × Int)} {u : Nat} {sh : Int} (h : GS S st big t nm rows o u sh) (g : GF S t f) : GS (S.put f ob) st big t nm rows o u sh := by
  obtain ⟨N, O, h1, h2, h3, h4, h5, h6⟩ := h
  have := g.2 _ _ _ _ h1
  exact ⟨N, O, (Sto.ne g.1).trans h1, (Sto.ne this.1.symm).trans h2, (Sto.ne this.2.symm).trans h3, h4, h5, h6⟩
theorem GF.putF {S : Sto} {t f : Addr} {ob : Ob} (g : GF S t f) : GF (S.put f ob) t f := ⟨g.1, fun N O r s e => g.2 N O r s (by rw [Sto.ne g.1] at e; exact e)⟩
theorem GF.keep {S S' : Sto} {P : Addr → Prop} {st big t f : Addr} {nm : List Int} {rows : List (List Int)} {o : List (Int × Int)} {u : Nat} {sh : Int} (h : GS S st big t nm rows o u sh) (g : GF S t f) (k : SK (DP st big) S S') : GF S' t f := by
  obtain ⟨N, O, h1, h2, h3, h4, h5, h6⟩ := h
  refine ⟨g.1, fun N2 O2 r s e => ?_⟩
  rw [k _ _ (nDP h6) h1] at e
  cases e
  exact g.2 _ _ _ _ h1
theorem set_ext {rows : List (List Int)} {p : Nat} {row : List Int} {e : Int} (h : rows[p]? = some row) : Ext' rows (rows.set p (row ++ [e])) := by
  refine ⟨(List.length_set ..).symm, fun i r r' h1 h2 => ?_⟩
  by_cases z : p = i
  · subst z
    rw [h] at h1
    cases h1
    rw [List.getElem?_set_self (List.getElem?_eq_some_iff.mp h).1] at h2
    cases h2
    exact List.prefix_append ..
  · rw [List.getElem?_set_ne z, h1] at h2
    cases h2
    exact List.prefix_rfl
theorem good_of {c u n many most : Nat} {nm : List Int} {rows : List (List Int)} {o : List (Int × Int)} (c1 : 1 ≤ c) (c6 : c ≤ many) (hp : nm.Perm names24) (h : Grown c nm rows o u n) (hn : n ≤ most) : Good many most rows := ⟨c, nm, o, u, n, c1, c6, hp, h, hn⟩
theorem w_later {st big : Addr} {S : Sto} {R : DK} (h : Deck st big S)
    (k : ∀ (f : Addr) (hs : List (List (List Int))) S', S' f = some (.lst (hs.map hisD)) → f ≠ st ∧ f ≠ big → (∀ r ∈ hs, Good 6 60 r) → hs.Pairwise Ext' → hs.length ≤ 100 → Deck st big S' → SK (DP st big) S S' → R (.ref f) S') : dFn 7 B_law_later_0ac5 [.ref st] S R := by
  refine ⟨_, rfl, rfl, w_next h (by decide) (by decide) fun v S1 v0 v1 D1 k1 => ⟨_, rfl, iteB (fun _ => ?_) (fun _ => ?_)⟩⟩
  · -- dominoes
    refine ⟨_, rfl, rfl, w_domino (most := 24) D1 (by decide) (by decide) fun n S2 n1 n24 D2 k2 => ⟨_, rfl, .inl (.inl rfl), _, _, rfl, _, _, rfl, rfl, ?_⟩⟩
    have ol := dOnes_len n
    have tl := dOthers_len n
    have hdiv : (((intsD (dOnes n)).length : Nat) : Int) / 3 = (n : Int) := by
      rw [intsD_len, ol]
      omega
    refine ⟨_, rfl, _, _, rfl, rfl, ⟨by decide, by decide⟩, 1, ((n : Int) + 1), ?_, ⟨by decide, by decide, by omega, by omega⟩, ?_⟩
    · rw [hdiv]
    refine lc_mapE (List.range n) (fun i : Nat => .int (1 + (i : Int))) (by show rgD 1 ((n : Int) + 1 - 1).toNat = _; rw [show ((n : Int) + 1 - 1).toNat = n by omega]; rfl) (fun i => some (hisD (domRow i))) (by rw [List.length_range]; omega) (fun _ _ => True.intro) (fun i hi S3 sg3 K Kn hk _ => ?_) fun p S3 np sg3 hp => ?_
    · have hi := List.mem_range.mp hi
      refine turn_y ?_
      have e1 : cutD (intsD (dOnes n)) none (some (3 * (1 + (i : Int)))) = intsD (dOnes (i + 1)) := by
        rw [show (3 * (1 + (i : Int))) = ((3 * (i + 1) : Nat) : Int) by omega, cutD_to (by rw [intsD_len, ol]; omega)]
        unfold intsD
        rw [← List.map_take]
        have := take_pre (dOnes_pre (i := i + 1) (j := n) (by omega))
        rw [dOnes_len] at this
        rw [this]
      have e2 : cutD (intsD (dOthers n)) none (some (3 * (1 + (i : Int)) - 2)) = intsD (dOthers i ++ [2 * (i : Int) + 1]) := by
        rw [show (3 * (1 + (i : Int)) - 2) = ((3 * i + 1 : Nat) : Int) by omega, cutD_to (by rw [intsD_len, tl]; omega)]
        unfold intsD
        rw [← List.map_take]
        have := take_pre ((dOthers_one i).trans (dOthers_pre (i := i + 1) (j := n) (by omega)))
        rw [List.length_append, dOthers_len] at this
        exact congrArg (List.map D.int) this
      refine ⟨_, rfl, _, rfl, .inl ⟨by decide, by decide⟩, _, rfl, _, rfl, _, rfl, .inl ⟨by decide, by decide⟩, _, rfl, rfl, ?_⟩
      show K (.tup [.tup (cutD (intsD (dOnes n)) none (some (3 * (1 + (i : Int))))), .tup (cutD (intsD (dOthers n)) none (some (3 * (1 + (i : Int)) - 2)))]) S3
      rw [e1, e2]
      exact hk _ rfl _ (.refl _)
    · rw [fm_map] at hp
      refine ⟨_, rfl, _, rfl, rfl, rfl, fun q nq => ?_⟩
      have sgq : SG S3 (S3.put q (.lst [.tup [rowD (dOnes n), rowD (dOthers n)]])) := .new nq
      refine ⟨_, _, sgq _ _ (fun z => z) hp, Sto.same, ?_, fun r nr => ?_⟩
      · rw [List.length_map, List.length_range]
        show n + 1 ≤ 100000
        omega
      have sgr : SG S3 ((S3.put q (.lst [.tup [rowD (dOnes n), rowD (dOthers n)]])).put r (.lst (((List.range n).map fun i => hisD (domRow i)) ++ [.tup [rowD (dOnes n), rowD (dOthers n)]]))) := sgq.trans (.new nr)
      refine k r (doms n) _ ?_ ((D2.keep (sg3.trans sgq)).fresh nr) (doms_good (by omega)) (doms_rise n) ?_ (D2.keep (sg3.trans sgr)) ((k1.trans k2).trans (SG.sk (sg3.trans sgr)))
      · rw [Sto.same]
        unfold doms
        rw [List.map_append, List.map_map]
        rfl
      · unfold doms
        rw [List.length_append, List.length_map, List.length_range]
        show n + 1 ≤ 100
        omega
  · -- drawn
    refine ⟨_, rfl, rfl, w_begun (many := 6) D1 (by decide) (by decide) fun t nm c sh S2 g2 hp c1 c6 D2 k2 => ⟨rfl, fun f nf => ⟨rfl, _, rfl, .inl (.inl rfl), _, _, rfl, _, _, rfl, rfl, ?_⟩⟩⟩
    have f12 := D2.fresh nf
    have fS : S f = none := (k1.trans k2).free nf (nDP f12)
    have gf := (GF.of g2 nf).putF (ob := .lst [])
    have g3 := g2.putF (ob := .lst []) (GF.of g2 nf)
    have D3 : Deck st big (S2.put f (.lst [])) := D2.keep (.new nf)
    have k3 : SK (DP st big) S (S2.put f (.lst [])) := (k1.trans k2).trans (.new nf)
    have hf : (S2.put f (.lst [])) f = some (.lst ([].map hisD)) := Sto.same
    generalize S2.put f (.lst []) = S3 at gf g3 D3 k3 hf ⊢
    refine ⟨12, rfl, by decide, by decide, fun i env S' => i ≤ 12 ∧ ∃ (t : Addr) (x5 x6 : Option D) (rows : List (List Int)) (o : List (Int × Int)) (u n : Nat) (hs : List (List (List Int))), env = [some (.ref st), none, none, some (.ref t), some (.ref f), x5, x6] ∧ GS S' st big t nm rows o u sh ∧ GF S' t f ∧ Grown c nm rows o u n ∧ n ≤ 5 * i ∧ Deck st big S' ∧ SK (DP st big) S S' ∧ S' f = some (.lst (hs.map hisD)) ∧ hs.length = i ∧ (∀ r ∈ hs, Good 6 60 r) ∧ hs.Pairwise Ext' ∧ ∀ r ∈ hs, Ext' r rows,
      ⟨Nat.zero_le _, t, _, _, _, _, _, 0, [], rfl, g3, gf, .start, by omega, D3, k3, hf, rfl, (fun r hr => nomatch hr), .nil, fun r hr => nomatch hr⟩, fun _ _ _ _ _ => True.intro, ?_, ?_⟩
    · rintro i d env S4 hd ⟨hi0, t, x5, x6, rows, o, u, n, hs, rfl, g4, gf4, hG, hn, D4, k4, hf4, hsl, hg, hpw, hex⟩
      obtain ⟨hi, rfl⟩ := rg_at hd
      have hi : i < 12 := hi
      refine ⟨_, rfl, rfl, w_next D4 (by decide) (by decide) fun m S5 m0 m1 D5 k5 => ⟨_, rfl, by omega, by omega, ?_⟩⟩
      obtain ⟨m, rfl⟩ : ∃ m' : Nat, m = (m' : Int) := ⟨m.toNat, by omega⟩
      refine ⟨fun j env S' => j ≤ 5 ∧ ∃ (t : Addr) (x6 : Option D) (rows : List (List Int)) (o : List (Int × Int)) (u n : Nat), env = [some (.ref st), none, none, some (.ref t), some (.ref f), some (.int (0 + (i : Int))), x6] ∧ GS S' st big t nm rows o u sh ∧ GF S' t f ∧ Grown c nm rows o u n ∧ n ≤ 5 * i + j ∧ Deck st big S' ∧ SK (DP st big) S S' ∧ S' f = some (.lst (hs.map hisD)) ∧ ∀ r ∈ hs, Ext' r rows,
        ⟨Nat.zero_le _, t, _, _, _, _, _, rfl, g4.keep k5, GF.keep (P := fun _ => True) g4 gf4 k5, hG, hn, D5, k4.trans k5, k5 _ _ (nDP f12) hf4, hex⟩, fun _ _ _ _ _ => True.intro, ?_, ?_⟩
      · rintro j d env S6 hd ⟨hj0, t, x6, rows, o, u, n, rfl, g6, gf6, hG6, hn6, D6, k6, hf6, hex6⟩
        obtain ⟨hj, rfl⟩ := rg_at hd
        have hj : j < (1 + (m : Int)).toNat := hj
        refine ⟨_, rfl, _, rfl, rfl, w_grown D6 g6 hG6 hp c1 c6 (by omega) fun t' p row e o' u' S7 hrow g7 hG7 D7 k7 gf7 => ?_⟩
        refine ⟨by omega, t', _, _, _, _, _, rfl, g7, gf7 f (fun z => by rw [hf6] at z; cases z) gf6, hG7, by omega, D7, k6.trans k7, k7 _ _ (nDP f12) hf6, fun r hr => (hex6 r hr).trans (set_ext hrow)⟩
      · rintro env S6 ⟨hj0, t, x6, rows, o, u, n, rfl, g6, gf6, hG6, hn6, D6, k6, hf6, hex6⟩
        have ⟨N, O, h1, _⟩ := g6
        have hrows : Good 6 60 rows := good_of c1 c6 hp hG6 (by omega)
        refine ⟨_, rfl, ⟨rfl, _, seqOf_lst hf6, noTup _⟩, _, rfl, _, 0, _, seqOf_lst h1, rfl, rfl, f, _, _, rfl, rfl, hf6, ?_, ?_⟩
        · rw [List.length_map, hsl]
          omega
        · refine ⟨hi, t, _, _, rows, o, u, n, hs ++ [rows], rfl, g6.putF gf6, gf6.putF, hG6, by omega, D6.putF f12, k6.putF fS, ?_, by rw [List.length_append, hsl]; rfl, fun r hr => ?_, List.pairwise_append.mpr ⟨hpw, List.pairwise_singleton _ _, fun a ha b hb => ?_⟩, fun r hr => ?_⟩
          · rw [Sto.same, List.map_append]
            rfl
          · rcases List.mem_append.mp hr with z | z
            · exact hg r z
            · rw [List.mem_singleton.mp z]
              exact hrows
          · rw [List.mem_singleton.mp hb]
            exact hex6 a ha
          · rcases List.mem_append.mp hr with z | z
            · exact hex6 r z
            · rw [List.mem_singleton.mp z]
              exact .refl _
    · rintro env S4 ⟨hi0, t, x5, x6, rows, o, u, n, hs, rfl, g4, gf4, hG, hn, D4, k4, hf4, hsl, hg, hpw, hex⟩
      have hlen : hs.length ≤ 100 := by omega
      exact ⟨_, rfl, k f hs S4 hf4 f12 hg hpw hlen D4 k4⟩
end Sv

set_option maxHeartbeats 400000
/-! Over data: a drawn history. -/
namespace Sv
open PySem L2
theorem w_history {st big : Addr} {S : Sto} {many most : Nat} {R : DK} (h : Deck st big S) (m1 : 1 ≤ many) (m6 : many ≤ 6) (h6 : 6 ≤ most) (h60 : most ≤ 60)
    (k : ∀ (rows : List (List Int)) S', Good (max many 2) most rows → Deck st big S' → SK (DP st big) S S' → R (hisD rows) S') : dFn 5 B_law_history_9bf0 [.ref st, .int many, .int most] S R := by
  have drawn : ∀ S1, Deck st big S1 → SK (DP st big) S S1 → (dSeq (dAsg (dCall 2 (dFn 3 B_law_begun_2a66) (dCons (dVar 0) (dCons (dVar 1) (dNil)))) (dgName 3))
      (dSeq (dFor (diRg1 (dCons (dCall 2 (dFn 4 B_law_next_74a4) (dCons (dVar 0) (dCons (dBin rAdd (dVar 2) (dC (.int 1))) (dNil)))) (dNil))) (dgName 4) (dAsg (dCall 2 (dFn 14 B_law_grown_680b) (dCons (dVar 0) (dCons (dVar 3) (dNil)))) (dgName 3)))
      (dRet (dBin rIxq (dVar 3) (dC (.int 0)))))) { nx := fun _ S' => R .non S', rt := R } (dStart 5 [.ref st, .int many, .int most]) S1 := fun S1 D1 k1 => by
    refine ⟨_, rfl, _, rfl, rfl, w_begun D1 m1 m6 fun t nm c sh S2 g2 hp c1 c6 D2 k2 => ?_⟩
    refine ⟨_, rfl, _, rfl, rfl, w_next D2 (by omega) (by omega) fun v S3 v0 v1 D3 k3 => ⟨_, rfl, by omega, by omega, ?_⟩⟩
    obtain ⟨m, rfl⟩ : ∃ m : Nat, v = (m : Int) := ⟨v.toNat, by omega⟩
    refine ⟨fun i env S' => i ≤ m ∧ ∃ (t : Addr) (x4 : Option D) (rows : List (List Int)) (o : List (Int × Int)) (u : Nat), env = [some (.ref st), some (.int many), some (.int most), some (.ref t), x4] ∧ GS S' st big t nm rows o u sh ∧ Grown c nm rows o u i ∧ Deck st big S' ∧ SK (DP st big) S S',
      ⟨Nat.zero_le _, t, _, _, _, _, rfl, g2.keep k3, .start, D3, (k1.trans k2).trans k3⟩, fun _ _ _ _ _ => True.intro, ?_, ?_⟩
    · rintro i d env S4 hd ⟨hi0, t, x4, rows, o, u, rfl, g4, hG, D4, k4⟩
      obtain ⟨hi, rfl⟩ := rg_at hd
      rw [Int.toNat_natCast] at hi
      exact ⟨_, rfl, _, rfl, rfl, w_grown D4 g4 hG hp c1 (by omega) (by omega) fun t' p row e o' u' S5 hrow g5 hG5 D5 k5 _ => ⟨hi, t', _, _, _, _, rfl, g5, hG5, D5, k4.trans k5⟩⟩
    · rintro env S4 ⟨hi0, t, x4, rows, o, u, rfl, g4, hG, D4, k4⟩
      have hlen : (rgD 0 ((m : Int)).toNat).length = m := by rw [rg_len, Int.toNat_natCast]
      have hG : Grown c nm rows o u (rgD 0 ((m : Int)).toNat).length := hG
      rw [hlen] at hG
      have ⟨N, O, h1, _⟩ := g4
      exact ⟨_, rfl, _, 0, _, seqOf_lst h1, rfl, rfl, k rows S4 (good_of c1 (by omega) hp hG (by omega)) D4 k4⟩
  refine ⟨_, rfl, _, rfl, iteB (fun h1 => ?_) (fun _ => ?_)⟩
  · refine ⟨_, rfl, rfl, w_next h (by decide) (by decide) fun v S1 v0 v1 D1 k1 => ⟨_, rfl, iteB (fun _ => ?_) (fun _ => ?_)⟩⟩
    · refine ⟨_, rfl, _, rfl, rfl, w_domino D1 h6 h60 fun n S2 n1 n24 D2 k2 => ?_⟩
      exact k [dOnes n, dOthers n] S2 ⟨2, names24, [], 2 * n, 6 * n, by decide, by omega, .refl _, dGrown n (by omega), n24⟩ D2 (k1.trans k2)
    · exact drawn S1 D1 k1
  · exact drawn S h (.refl S)
end Sv

set_option maxHeartbeats 400000
/-! smaller histories: rows without some of their saves -/
namespace Sv
open PySem L2
/-- the row without the saves that d names; n saves stood before it -/
def thin (d : Nat → Bool) : Nat → List Int → List Int
  | _, [] => []
  | n, e :: r => if e = 0 then (if d (n + 1) = true then thin d (n + 1) r else 0 :: thin d (n + 1) r) else e :: thin d n r
theorem thin_none {d : Nat → Bool} (h : ∀ n, 1 ≤ n → d n = false) : ∀ (n : Nat) (r : List Int), thin d n r = r
  | _, [] => rfl
  | n, e :: r => by
    unfold thin
    by_cases z : e = 0
    · rw [if_pos z, h (n + 1) (by omega), if_neg Bool.false_ne_true, thin_none h, z]
    · rw [if_neg z, thin_none h]
/-- the kept ones among the saves n + 1 .. n + m -/
def keptN (d : Nat → Bool) (n m : Nat) : List Nat := ((List.range m).map fun i => n + 1 + i).filter fun i => !d i
theorem keptN_succ (d : Nat → Bool) (n m : Nat) : keptN d n (m + 1) = (if d (n + 1) = true then [] else [n + 1]) ++ keptN d (n + 1) m := by
  unfold keptN
  rw [List.range_succ_eq_map, List.map_cons, List.filter_cons, List.map_map]
  have e : ((fun i => n + 1 + i) ∘ Nat.succ) = fun i => n + 1 + 1 + i := by
    funext i
    show n + 1 + (i + 1) = _
    omega
  rw [e]
  cases h : d (n + 1) with
  | true => simp [h]
  | false => simp [h]
theorem thin_count (d : Nat → Bool) : ∀ (n : Nat) (r : List Int), (thin d n r).count 0 = (keptN d n (r.count 0)).length
  | _, [] => rfl
  | n, e :: r => by
    unfold thin
    by_cases z : e = 0
    · subst z
      rw [if_pos rfl, List.count_cons_self, keptN_succ, List.length_append]
      cases h : d (n + 1) with
      | true => rw [if_pos rfl, if_pos rfl, thin_count]; simp
      | false => rw [if_neg Bool.false_ne_true, if_neg Bool.false_ne_true, List.count_cons_self, thin_count]; simp; omega
    · rw [if_neg z, List.count_cons_of_ne (by simpa using z), List.count_cons_of_ne (by simpa using z), thin_count]
theorem thin_mem {d : Nat → Bool} {e : Int} (he : e ≠ 0) : ∀ (n : Nat) (r : List Int), e ∈ thin d n r ↔ e ∈ r
  | _, [] => Iff.rfl
  | n, x :: r => by
    unfold thin
    by_cases z : x = 0
    · subst z
      rw [if_pos rfl]
      have : e ∈ (0 : Int) :: r ↔ e ∈ r := by
        rw [List.mem_cons]
        exact ⟨fun h => h.elim (fun h => absurd h he) id, .inr⟩
      rw [this]
      split
      · exact thin_mem he (n + 1) r
      · rw [List.mem_cons, thin_mem he (n + 1) r]
        exact ⟨fun h => h.elim (fun h => absurd h he) id, .inr⟩
    · rw [if_neg z, List.mem_cons, List.mem_cons, thin_mem he n r]
theorem idx_ne {x e : Int} {r : List Int} (h : ¬ x = e) : (x :: r).idxOf e = r.idxOf e + 1 := by
  rw [List.idxOf_cons, beq_false_of_ne h]
  rfl
/-- the saves before an event -/
theorem thin_idx {d : Nat → Bool} {e : Int} (he : e ≠ 0) : ∀ (n : Nat) (r : List Int), e ∈ r → ((thin d n r).take ((thin d n r).idxOf e)).count 0 = (keptN d n ((r.take (r.idxOf e)).count 0)).length
  | _, [], h => by cases h
  | n, x :: r, h => by
    unfold thin
    by_cases z : x = 0
    · subst z
      have hr : e ∈ r := (List.mem_cons.mp h).elim (fun h => absurd h he) id
      have ih := thin_idx (d := d) he (n + 1) r hr
      have i1 : ((0 : Int) :: r).idxOf e = r.idxOf e + 1 := idx_ne (fun z => he z.symm)
      rw [if_pos rfl, i1, List.take_succ_cons, List.count_cons_self, keptN_succ, List.length_append]
      cases hd : d (n + 1) with
      | true => rw [if_pos rfl, if_pos rfl, ih]; simp
      | false =>
        have i2 : ((0 : Int) :: thin d (n + 1) r).idxOf e = (thin d (n + 1) r).idxOf e + 1 := idx_ne (fun z => he z.symm)
        rw [if_neg Bool.false_ne_true, if_neg Bool.false_ne_true, i2, List.take_succ_cons, List.count_cons_self, ih]
        simp
        omega
    · rw [if_neg z]
      by_cases y : x = e
      · subst y
        rw [List.idxOf_cons_self, List.idxOf_cons_self]
        rfl
      · have hr : e ∈ r := (List.mem_cons.mp h).elim (fun h => absurd h.symm y) id
        have ih := thin_idx (d := d) he n r hr
        rw [idx_ne y, idx_ne y, List.take_succ_cons, List.take_succ_cons, List.count_cons_of_ne (by simpa using z), List.count_cons_of_ne (by simpa using z), ih]
/-- all rows without the saves that d names -/
def thinR (d : Nat → Nat → Bool) (rows : List (List Int)) : List (List Int) := rows.mapIdx fun p r => thin (d p) 0 r
theorem thinR_at {d : Nat → Nat → Bool} {rows : List (List Int)} {p : Nat} {r : List Int} (h : rows[p]? = some r) : (thinR d rows)[p]? = some (thin (d p) 0 r) := by
  unfold thinR
  rw [List.getElem?_mapIdx, h]
  rfl
theorem thinR_len (d : Nat → Nat → Bool) (rows : List (List Int)) : (thinR d rows).length = rows.length := List.length_mapIdx
theorem hap_thin {d : Nat → Nat → Bool} {rows : List (List Int)} {e : Int} (he : e ≠ 0) : hap (thinR d rows) e = (hap rows e).map fun x => (x.1, (keptN (d x.1) 0 x.2).length) := by
  have go : ∀ (rs : List (List Int)) (p : Nat), hapFrom e p (rs.mapIdx fun i r => thin (d (p + i)) 0 r) = (hapFrom e p rs).map fun x => (x.1, (keptN (d x.1) 0 x.2).length) := by
    intro rs
    induction rs with
    | nil => intro p; rfl
    | cons r rs ih =>
      intro p
      rw [List.mapIdx_cons]
      unfold hapFrom
      rw [Nat.add_zero]
      by_cases z : e ∈ r
      · rw [if_pos ((thin_mem he 0 r).mpr z), if_pos z, thin_idx he 0 r z]
        rfl
      · rw [if_neg (fun h => z ((thin_mem he 0 r).mp h)), if_neg z]
        have e2 : (fun (i : Nat) (r : List Int) => thin (d (p + (i + 1))) 0 r) = fun i r => thin (d (p + 1 + i)) 0 r := by
          funext i r
          rw [show p + (i + 1) = p + 1 + i by omega]
        rw [e2]
        exact ih (p + 1)
  have := go rows 0
  unfold thinR hap
  rw [← this]
  congr 2
  funext i r
  rw [Nat.zero_add]
end Sv

set_option maxHeartbeats 400000
/-! smaller histories are histories; their lines -/
namespace Sv
open PySem L2
theorem thin_snoc {d : Nat → Bool} {e : Int} : ∀ (n : Nat) (r : List Int), thin d n (r ++ [e]) = thin d n r ++ (if e = 0 then (if d (n + r.count 0 + 1) = true then [] else [0]) else [e])
  | n, [] => by
    show thin d n [e] = [] ++ _
    unfold thin
    by_cases z : e = 0
    · rw [if_pos z, if_pos z]
      rfl
    · rw [if_neg z, if_neg z]
      rfl
  | n, x :: r => by
    rw [List.cons_append]
    unfold thin
    by_cases z : x = 0
    · subst z
      rw [if_pos rfl, if_pos rfl, List.count_cons_self, thin_snoc (n + 1) r, show n + 1 + r.count 0 + 1 = n + (r.count 0 + 1) + 1 by omega]
      split <;> rfl
    · rw [if_neg z, if_neg z, List.count_cons_of_ne (by simpa using z), thin_snoc n r]
      rfl
theorem thinR_set {d : Nat → Nat → Bool} {rows : List (List Int)} {p : Nat} {r : List Int} : thinR d (rows.set p r) = (thinR d rows).set p (thin (d p) 0 r) := by
  unfold thinR
  apply List.ext_getElem?
  intro i
  rw [List.getElem?_mapIdx, List.getElem?_set, List.getElem?_set, List.length_mapIdx, List.getElem?_mapIdx]
  by_cases z : p = i
  · subst z
    rw [if_pos rfl, if_pos rfl]
    split <;> rfl
  · rw [if_neg z, if_neg z]
theorem name_pos {nm : List Int} (hp : nm.Perm names24) {m : Int} (h : m ∈ nm) : 1 ≤ m := (names_mem.mp (hp.mem_iff.mp h)).1
theorem Grown.thin {c : Nat} {nm : List Int} {rows : List (List Int)} {o : List (Int × Int)} {u k : Nat} (d : Nat → Nat → Bool) (hp : nm.Perm names24) (h : Grown c nm rows o u k) : Grown c nm (thinR d rows) o u k := by
  induction h with
  | start =>
    have e : thinR d (List.replicate c []) = List.replicate c [] := by
      unfold thinR
      apply List.ext_getElem?
      intro i
      rw [List.getElem?_mapIdx, List.getElem?_replicate]
      split <;> rfl
    rw [e]
    exact .start
  | skip _ ih => exact .skip ih
  | @save r o u k p row hG hr ih =>
    rw [thinR_set, thin_snoc, if_pos rfl]
    have hr' := thinR_at (d := d) hr
    split
    · rw [List.append_nil]
      have e : (thinR d r).set p (Sv.thin (d p) 0 row) = thinR d r := by
        apply List.ext_getElem?
        intro i
        rw [List.getElem?_set]
        split
        · rename_i z
          subst z
          rw [hr', if_pos (List.getElem?_eq_some_iff.mp hr').1]
        · rfl
      rw [e]
      exact .skip ih
    · exact .save ih hr'
  | @send r o u k p row m hG hr hm ih =>
    have h1 := name_pos hp (List.mem_of_getElem? hm)
    rw [thinR_set, thin_snoc, if_neg (by omega)]
    exact .send ih (thinR_at hr) hm
  | @recv r o u k row j m q p hG hr hj hq ih =>
    have h1 := (hG.nodup (hp.nodup_iff.mpr names_nd)).2 _ (List.mem_of_getElem? hj)
    have h2 := name_pos hp (List.mem_of_mem_take h1)
    have h2 : 1 ≤ m := h2
    rw [thinR_set, thin_snoc, if_neg (by omega)]
    exact .recv ih (thinR_at hr) hj hq
theorem Good.thin {many most : Nat} {rows : List (List Int)} (h : Good many most rows) (d : Nat → Nat → Bool) : Good many most (thinR d rows) := by
  obtain ⟨c, nm, o, u, k, h1, h2, h3, h4, h5⟩ := h
  exact ⟨c, nm, o, u, k, h1, h2, h3, h4.thin d h3, h5⟩
/-- the numbers of the states that are kept, by their new numbers -/
def namesN (d : Nat → Bool) (m : Nat) : List Nat := 0 :: (keptN d 0 m ++ [m + 1])
theorem keptN_mem {d : Nat → Bool} {n m i : Nat} : i ∈ keptN d n m ↔ n + 1 ≤ i ∧ i ≤ n + m ∧ d i = false := by
  unfold keptN
  rw [List.mem_filter, List.mem_map]
  constructor
  · rintro ⟨⟨j, h1, rfl⟩, h2⟩
    have := List.mem_range.mp h1
    exact ⟨by omega, by omega, by simpa using h2⟩
  · rintro ⟨h1, h2, h3⟩
    exact ⟨⟨i - (n + 1), List.mem_range.mpr (by omega), by omega⟩, by rw [h3]; rfl⟩
theorem keptN_rise (d : Nat → Bool) (n m : Nat) : (keptN d n m).Pairwise (· < ·) := by
  unfold keptN
  refine List.Pairwise.filter _ (List.pairwise_map.mpr ((List.pairwise_lt_range (n := m)).imp fun h => ?_))
  omega
theorem namesN_rise (d : Nat → Bool) (m : Nat) : (namesN d m).Pairwise (· < ·) := by
  unfold namesN
  refine List.pairwise_cons.mpr ⟨fun x hx => ?_, List.pairwise_append.mpr ⟨keptN_rise d 0 m, List.pairwise_singleton _ _, fun x hx y hy => ?_⟩⟩
  · rcases List.mem_append.mp hx with z | z
    · have := keptN_mem.mp z; omega
    · rw [List.mem_singleton.mp z]; omega
  · have := keptN_mem.mp hx
    rw [List.mem_singleton.mp hy]
    omega
theorem keptN_take {d : Nat → Bool} {m k : Nat} (h : k ≤ m) : keptN d 0 k <+: keptN d 0 m := by
  refine ⟨((List.range (m - k)).map fun i => 0 + 1 + (k + i)).filter fun i => !d i, ?_⟩
  unfold keptN
  rw [← List.filter_append]
  congr 1
  have e : List.range m = List.range k ++ (List.range (m - k)).map (k + ·) := by
    conv => lhs; rw [show m = k + (m - k) by omega, List.range_add]
  rw [e, List.map_append, List.map_map]
  rfl
/-- an event stands before a kept state in both histories or in none -/
theorem kept_lt {d : Nat → Bool} {m k c n : Nat} (hk : k ≤ m) (h : (namesN d m)[c]? = some n) : k < n ↔ (keptN d 0 k).length < c := by
  have hpre := keptN_take (d := d) hk
  unfold namesN at h
  cases c with
  | zero =>
    cases h
    exact ⟨fun z => absurd z (Nat.not_lt_zero _), fun z => absurd z (Nat.not_lt_zero _)⟩
  | succ i =>
    rw [List.getElem?_cons_succ] at h
    rcases Nat.lt_or_ge i (keptN d 0 m).length with z | z
    · rw [List.getElem?_append_left z] at h
      rcases Nat.lt_or_ge i (keptN d 0 k).length with y | y
      · have e : (keptN d 0 k)[i]? = some n := by
          obtain ⟨t, ht⟩ := hpre
          rw [← ht, List.getElem?_append_left y] at h
          exact h
        have := keptN_mem.mp (List.mem_of_getElem? e)
        omega
      · obtain ⟨t, ht⟩ := hpre
        rw [← ht, List.getElem?_append_right y] at h
        have h1 : n ∈ t := List.mem_of_getElem? h
        have h2 := keptN_mem.mp (show n ∈ keptN d 0 m by rw [← ht]; exact List.mem_append.mpr (.inr h1))
        have h3 : n ∉ keptN d 0 k := fun w => by
          have pr := keptN_rise d 0 m
          rw [← ht] at pr
          exact Nat.lt_irrefl _ ((List.pairwise_append.mp pr).2.2 n w n h1)
        have h4 : ¬ n ≤ k := fun w => h3 (keptN_mem.mpr ⟨h2.1, by omega, h2.2.2⟩)
        omega
    · rw [List.getElem?_append_right z] at h
      have h2 : i - (keptN d 0 m).length = 0 := by
        have := (List.getElem?_eq_some_iff.mp h).1
        simp at this
        omega
      rw [h2] at h
      cases h
      have := hpre.length_le
      omega
end Sv

set_option maxHeartbeats 400000
/-! lines of smaller histories -/
namespace Sv
open PySem L2
theorem names_len (d : Nat → Bool) (m : Nat) : (namesN d m).length = (keptN d 0 m).length + 2 := by
  unfold namesN
  rw [List.length_cons, List.length_append]
  rfl
theorem names_lt {d : Nat → Bool} {m c c' n n' : Nat} (h : (namesN d m)[c]? = some n) (h' : (namesN d m)[c']? = some n') (z : c < c') : n < n' := by
  obtain ⟨h1, h2⟩ := List.getElem?_eq_some_iff.mp h
  obtain ⟨h3, h4⟩ := List.getElem?_eq_some_iff.mp h'
  have := List.pairwise_iff_getElem.mp (namesN_rise d m) c c' h1 h3 z
  omega
theorem names_le {d : Nat → Bool} {m c c' n n' : Nat} (h : (namesN d m)[c]? = some n) (h' : (namesN d m)[c']? = some n') : c ≤ c' ↔ n ≤ n' := by
  constructor
  · intro z
    rcases Nat.lt_or_eq_of_le z with y | y
    · exact Nat.le_of_lt (names_lt h h' y)
    · subst y
      rw [h] at h'
      cases h'
      exact Nat.le_refl _
  · intro z
    rcases Nat.lt_or_ge c' c with y | y
    · have := names_lt h' h y; omega
    · exact y
theorem names_last (d : Nat → Bool) (m : Nat) : (namesN d m)[(keptN d 0 m).length + 1]? = some (m + 1) := by
  unfold namesN
  rw [List.getElem?_cons_succ, List.getElem?_append_right (Nat.le_refl _), Nat.sub_self]
  rfl
theorem nm_mem {d : Nat → Bool} {m n : Nat} : n ∈ namesN d m ↔ n = 0 ∨ n = m + 1 ∨ (1 ≤ n ∧ n ≤ m ∧ d n = false) := by
  unfold namesN
  rw [List.mem_cons, List.mem_append, List.mem_singleton, keptN_mem]
  constructor
  · rintro (h | h | h)
    · exact .inl h
    · exact .inr (.inr ⟨by omega, by omega, h.2.2⟩)
    · exact .inr (.inl h)
  · rintro (h | h | h)
    · exact .inl h
    · exact .inr (.inr h)
    · exact .inr (.inl ⟨by omega, by omega, h.2.2⟩)
theorem names_top {d : Nat → Bool} {m c n : Nat} (h : (namesN d m)[c]? = some n) : n ≤ m + 1 ∧ c ≤ (keptN d 0 m).length + 1 ∧ (c ≤ (keptN d 0 m).length ↔ n ≤ m) := by
  have hl := (List.getElem?_eq_some_iff.mp h).1
  rw [names_len] at hl
  have h1 := nm_mem.mp (List.mem_of_getElem? h)
  have h2 := names_le h (names_last d m)
  have h3 := names_le (names_last d m) h
  refine ⟨by omega, by omega, by omega⟩
/-- a line of the smaller history and the line that it names -/
structure Led (d : Nat → Nat → Bool) (rows : List (List Int)) (a b : List Nat) : Prop where
  la : a.length = rows.length
  lb : b.length = rows.length
  at' : ∀ (p : Nat) (row : List Int), rows[p]? = some row → ∃ c n, a[p]? = some c ∧ b[p]? = some n ∧ (namesN (d p) (row.count 0))[c]? = some n
theorem row_of {rows : List (List Int)} {p : Nat} (h : p < rows.length) : ∃ row, rows[p]? = some row := ⟨_, List.getElem?_eq_getElem h⟩
theorem Led.cons {d : Nat → Nat → Bool} {rows : List (List Int)} {a b : List Nat} (h : Led d rows a b) : ConsL (thinR d rows) a ↔ ConsL rows b := by
  have key : ∀ {e : Int} {p k : Nat}, e ≠ 0 → hap rows e = some (p, k) → hap (thinR d rows) e = some (p, (keptN (d p) 0 k).length) := fun {e p k} he h => by
    rw [hap_thin he, h]
    rfl
  have lt : ∀ {e : Int} {p k c n : Nat}, hap rows e = some (p, k) → a[p]? = some c → b[p]? = some n → (k < n ↔ (keptN (d p) 0 k).length < c) := fun {e p k c n} h1 h2 h3 => by
    obtain ⟨row, _, hr, _, _⟩ := hap_inv h1
    obtain ⟨c', n', h4, h5, h6⟩ := h.at' p row hr
    rw [h2] at h4
    rw [h3] at h5
    cases h4
    cases h5
    exact kept_lt (hap_le h1 hr) h6
  constructor
  · intro hc m p k p' k' c c' hm h1 h2 h3 h4 h5
    have ap : ∀ {q : Nat} {x : Nat}, b[q]? = some x → ∃ y, a[q]? = some y := fun {q x} z => ⟨_, List.getElem?_eq_getElem (by rw [h.la, ← h.lb]; exact (List.getElem?_eq_some_iff.mp z).1)⟩
    obtain ⟨y, hy⟩ := ap h3
    obtain ⟨y', hy'⟩ := ap h4
    exact (lt h1 hy h3).mpr (hc m p _ p' _ y y' hm (key (by omega) h1) (key (by omega) h2) hy hy' ((lt h2 hy' h4).mp h5))
  · intro hc m p k p' k' c c' hm h1 h2 h3 h4 h5
    have bp : ∀ {q : Nat} {x : Nat}, a[q]? = some x → ∃ y, b[q]? = some y := fun {q x} z => ⟨_, List.getElem?_eq_getElem (by rw [h.lb, ← h.la]; exact (List.getElem?_eq_some_iff.mp z).1)⟩
    obtain ⟨y, hy⟩ := bp h3
    obtain ⟨y', hy'⟩ := bp h4
    rw [hap_thin (by omega)] at h1 h2
    obtain ⟨⟨q, j⟩, g1, g2⟩ := Option.map_eq_some_iff.mp h1
    obtain ⟨⟨q', j'⟩, g3, g4⟩ := Option.map_eq_some_iff.mp h2
    cases g2
    cases g4
    exact (lt g1 h3 hy).mp (hc m _ j _ j' y y' hm g1 g3 hy hy' ((lt g3 h4 hy').mpr h5))
theorem Led.le {d : Nat → Nat → Bool} {rows : List (List Int)} {a b a' b' : List Nat} (h : Led d rows a b) (g : Led d rows a' b') (hl : LeL b b') : LeL a a' := fun i x y h1 h2 => by
  have hi : i < rows.length := by rw [← h.la]; exact (List.getElem?_eq_some_iff.mp h1).1
  obtain ⟨row, hr⟩ := row_of hi
  obtain ⟨c, n, e1, e2, e3⟩ := h.at' i row hr
  obtain ⟨c', n', e4, e5, e6⟩ := g.at' i row hr
  rw [h1] at e1
  rw [h2] at e4
  cases e1
  cases e4
  exact (names_le e3 e6).mpr (hl i n n' e2 e5)
theorem led_to {d : Nat → Nat → Bool} {rows : List (List Int)} {a : List Nat} (la : a.length = rows.length) (h : ∀ (p : Nat) (row : List Int) (c : Nat), rows[p]? = some row → a[p]? = some c → c ≤ (keptN (d p) 0 (row.count 0)).length + 1) : ∃ b, Led d rows a b := by
  refine ⟨a.mapIdx fun p c => ((namesN (d p) ((rows.getD p []).count 0))[c]?).getD 0, la, by rw [List.length_mapIdx]; exact la, fun p row hr => ?_⟩
  have hp : p < a.length := by rw [la]; exact (List.getElem?_eq_some_iff.mp hr).1
  obtain ⟨c, hc⟩ : ∃ c, a[p]? = some c := ⟨_, List.getElem?_eq_getElem hp⟩
  have hb := h p row c hr hc
  have hg : rows.getD p [] = row := by rw [List.getD_eq_getElem?_getD, hr]; rfl
  obtain ⟨n, hn⟩ : ∃ n, (namesN (d p) (row.count 0))[c]? = some n := ⟨_, List.getElem?_eq_getElem (by rw [names_len]; omega)⟩
  refine ⟨c, n, hc, ?_, hn⟩
  rw [List.getElem?_mapIdx, hc]
  show some (((namesN (d p) ((rows.getD p []).count 0))[c]?).getD 0) = some n
  rw [hg, hn]
  rfl
theorem led_of {d : Nat → Nat → Bool} {rows : List (List Int)} {b : List Nat} (lb : b.length = rows.length) (h : ∀ (p : Nat) (row : List Int) (n : Nat), rows[p]? = some row → b[p]? = some n → n ∈ namesN (d p) (row.count 0)) : ∃ a, Led d rows a b := by
  refine ⟨b.mapIdx fun p n => (namesN (d p) ((rows.getD p []).count 0)).idxOf n, by rw [List.length_mapIdx]; exact lb, lb, fun p row hr => ?_⟩
  have hp : p < b.length := by rw [lb]; exact (List.getElem?_eq_some_iff.mp hr).1
  obtain ⟨n, hn⟩ : ∃ n, b[p]? = some n := ⟨_, List.getElem?_eq_getElem hp⟩
  have hg : rows.getD p [] = row := by rw [List.getD_eq_getElem?_getD, hr]; rfl
  have hk := List.idxOf_lt_length_iff.mpr (h p row n hr hn)
  refine ⟨(namesN (d p) (row.count 0)).idxOf n, n, ?_, hn, ?_⟩
  · rw [List.getElem?_mapIdx, hn]
    show some ((namesN (d p) ((rows.getD p []).count 0)).idxOf n) = _
    rw [hg]
  · rw [List.getElem?_eq_getElem hk]
    exact congrArg some (List.getElem_idxOf hk)
theorem fall_led {d : Nat → Nat → Bool} {rows : List (List Int)} {fs : List Int} (h : ∀ (p : Nat) (row : List Int) (n : Nat), rows[p]? = some row → (fallL rows fs)[p]? = some n → n ∈ namesN (d p) (row.count 0)) : Led d rows (fallL (thinR d rows) fs) (fallL rows fs) := by
  have hL := fall_low rows fs
  obtain ⟨a, ha⟩ := led_of (fall_len rows fs) h
  have e : a = fallL (thinR d rows) fs := by
    refine fall_eq ⟨⟨by rw [tops_len, thinR_len]; exact ha.la, fun p c t h1 h2 => ?_, fun L l1 l2 l3 => ?_⟩, ha.cons.mpr hL.cons⟩
    · obtain ⟨row, hr⟩ := row_of (show p < rows.length by rw [← ha.la]; exact (List.getElem?_eq_some_iff.mp h1).1)
      obtain ⟨c', n, e1, e2, e3⟩ := ha.at' p row hr
      rw [h1] at e1
      cases e1
      rw [tops_at (thinR_at hr), thin_count] at h2
      cases h2
      have h3 := hL.le p n _ e2 (tops_at hr)
      have h4 := names_top e3
      by_cases z : decide ((p : Int) ∈ fs) = true
      · rw [if_pos z] at h3 ⊢
        omega
      · rw [if_neg z] at h3 ⊢
        omega
    · rw [tops_len, thinR_len] at l1
      obtain ⟨b, hb⟩ := led_to (d := d) l1 fun p row c hr hc => by
        have := l2 p c _ hc (tops_at (thinR_at hr))
        rw [thin_count] at this
        split at this <;> omega
      refine hb.le ha (hL.top b (by rw [tops_len]; exact hb.lb) (fun p n t h1 h2 => ?_) (hb.cons.mp l3))
      obtain ⟨row, hr⟩ := row_of (show p < rows.length by rw [← hb.lb]; exact (List.getElem?_eq_some_iff.mp h1).1)
      obtain ⟨c, n', e1, e2, e3⟩ := hb.at' p row hr
      rw [h1] at e2
      cases e2
      have h3 := l2 p c _ e1 (tops_at (thinR_at hr))
      rw [thin_count] at h3
      rw [tops_at hr] at h2
      cases h2
      have h4 := names_top e3
      by_cases z : decide ((p : Int) ∈ fs) = true
      · rw [if_pos z] at h3 ⊢
        omega
      · rw [if_neg z] at h3 ⊢
        omega
  rw [← e]
  exact ha
end Sv

/-! mathematics from the pieces (made by pull.py) -/
namespace Sv
open PySem PySem.Spec PyProof.Rows L2
def zerU (n : Nat) (row : List Int) : List Int := ((List.range n).filter fun j => decide (row[j]? = some 0)).map fun (j : Nat) => (j : Int)
def places (row : List Int) : List Int := 0 :: (zerU row.length row ++ [(row.length : Int)])
theorem zerU_succ (n : Nat) (row : List Int) : zerU (n + 1) row = zerU n row ++ (if row[n]? = some 0 then [(n : Int)] else []) := by
  unfold zerU
  rw [List.range_succ, List.filter_append, List.map_append]
  congr 1
  by_cases h : row[n]? = some 0
  · rw [if_pos h, List.filter_cons_of_pos (by rw [h]; rfl)]
    rfl
  · rw [if_neg h, List.filter_cons_of_neg (by rw [decide_eq_false h]; exact Bool.false_ne_true)]
    rfl
theorem zerU_len (row : List Int) : ∀ n, n ≤ row.length → (zerU n row).length = (row.take n).count 0
  | 0, _ => by simp [zerU]
  | n + 1, h => by
    rw [zerU_succ, List.length_append, zerU_len row n (by omega), List.take_add_one, List.count_append]
    congr 1
    have e := List.getElem?_eq_getElem (show n < row.length by omega)
    rw [e]
    by_cases h0 : row[n] = 0
    · rw [if_pos (by rw [h0]), h0]
      rfl
    · rw [if_neg (fun z => h0 (Option.some.inj z))]
      simp [h0]
theorem places_len (row : List Int) : (places row).length = row.count 0 + 2 := by
  unfold places
  rw [List.length_cons, List.length_append, zerU_len row row.length (Nat.le_refl _), List.take_length, List.length_singleton]
theorem zerU_mem {n : Nat} {row : List Int} {x : Int} (h : x ∈ zerU n row) : 0 ≤ x ∧ x < n := by
  unfold zerU at h
  obtain ⟨j, hj, rfl⟩ := List.mem_map.mp h
  have := List.mem_range.mp (List.mem_filter.mp hj).1
  omega

end Sv

set_option maxHeartbeats 400000
/-! Over data: smaller histories. -/
namespace Sv
open PySem L2
theorem zer_at (row : List Int) : ∀ (n : Nat), n ≤ row.length → ∀ (i : Nat) (x : Int), (zerU n row)[i]? = some x ↔ ∃ j : Nat, j < n ∧ x = (j : Int) ∧ row[j]? = some 0 ∧ (row.take j).count 0 = i
  | 0, _, i, x => by
    show ([] : List Int)[i]? = some x ↔ _
    constructor
    · intro h; cases h
    · rintro ⟨j, h, _⟩; exact absurd h (Nat.not_lt_zero _)
  | n + 1, h, i, x => by
    have ih := zer_at row n (by omega) i x
    have hl := zerU_len row n (by omega)
    rw [zerU_succ]
    rcases Nat.lt_or_ge i (zerU n row).length with z | z
    · rw [List.getElem?_append_left z, ih]
      constructor
      · rintro ⟨j, h1, h2⟩; exact ⟨j, by omega, h2⟩
      · rintro ⟨j, h1, h2, h3, h4⟩
        rcases Nat.lt_or_ge j n with y | y
        · exact ⟨j, y, h2, h3, h4⟩
        · obtain rfl : j = n := by omega
          omega
    · rw [List.getElem?_append_right z]
      constructor
      · intro e
        by_cases y : row[n]? = some 0
        · rw [if_pos y] at e
          have h0 : i - (zerU n row).length = 0 := by
            have := (List.getElem?_eq_some_iff.mp e).1
            simp at this
            omega
          rw [h0] at e
          cases e
          exact ⟨n, by omega, rfl, y, by omega⟩
        · rw [if_neg y] at e
          cases e
      · rintro ⟨j, h1, rfl, h3, h4⟩
        have hj : j = n := by
          rcases Nat.lt_or_ge j n with y | y
          · have e := (zer_at row n (by omega) i (j : Int)).mpr ⟨j, y, rfl, h3, h4⟩
            have := (List.getElem?_eq_some_iff.mp e).1
            omega
          · omega
        subst hj
        rw [if_pos h3, show i - (zerU j row).length = 0 by omega]
        rfl
theorem zer_eq (row : List Int) : ((row.mapIdx fun i e => (i, e)).filter fun x => decide (x.2 = 0)).map (fun x => ((x.1 : Nat) : Int)) = zerU row.length row := by
  have go : ∀ n, n ≤ row.length → (((row.mapIdx fun i e => (i, e)).take n).filter fun x => decide (x.2 = 0)).map (fun x => ((x.1 : Nat) : Int)) = zerU n row := by
    intro n
    induction n with
    | zero => intro _; rfl
    | succ n ih =>
      intro h
      have e : row[n]? = some row[n] := List.getElem?_eq_getElem h
      have e2 : (row.mapIdx fun i e => (i, e))[n]? = some (n, row[n]) := by rw [List.getElem?_mapIdx, e]; rfl
      rw [take_map e2, List.filter_append, List.map_append, ih (by omega), zerU_succ, e]
      congr 1
      by_cases z : row[n] = 0
      · rw [if_pos (by rw [z])]
        simp [z]
      · rw [if_neg (fun h => z (Option.some.inj h))]
        simp [z]
  have := go row.length (Nat.le_refl _)
  rw [List.take_of_length_le (by rw [List.length_mapIdx]; omega)] at this
  exact this
theorem w_places {row : List Int} {S : Sto} {R : DK} (hl : row.length ≤ 900) (k : ∀ t S', SG S S' → S' t = some (.lst (intsD (places row))) → R (.ref t) S') : dFn 4 B_state_places_5fc5 [.tup (intsD row)] S R := by
  refine ⟨_, rfl, _, _, rfl, rfl, lc_mapE (row.mapIdx fun i e => (i, e)) (fun x => .tup [.int ((x.1 : Nat) : Int), .int x.2]) (enD_map D.int row) (fun x => if decide (x.2 = 0) = true then some (D.int ((x.1 : Nat) : Int)) else none) (by rw [List.length_mapIdx]; omega) (fun _ _ => True.intro)
    (fun x _ S1 sg K Kn hk hn => ⟨_, rfl, .inl (.inl rfl), _, _, rfl, _, _, rfl, rfl, _, rfl, _, rfl, iteB (fun e => ?_) (fun e => ?_)⟩) fun p S1 np sg hp => ?_⟩
  · rw [xor_ff] at e
    exact ⟨_, rfl, hk _ (if_pos e) _ (.refl _)⟩
  · rw [xor_ff] at e
    exact hn (by show (if decide (x.2 = 0) = true then _ else _) = _; rw [e]; rfl) _ (.refl _)
  · rw [fm_ite (fun x : Nat × Int => D.int ((x.1 : Nat) : Int)) (fun x => decide (x.2 = 0))] at hp
    have e : ((row.mapIdx fun i e => (i, e)).filter fun x => decide (x.2 = 0)).map (fun x => D.int ((x.1 : Nat) : Int)) = intsD (zerU row.length row) := by
      rw [← zer_eq]
      unfold intsD
      rw [List.map_map]
      rfl
    rw [e] at hp
    refine ⟨_, rfl, _, seqOf_lst hp, _, rfl, _, _, rfl, rfl, ?_, fun t nt => ?_⟩
    · have h1 := zerU_len row row.length (Nat.le_refl _)
      have h2 : ((row.take row.length).count 0) ≤ (row.take row.length).length := List.count_le_length ..
      rw [List.length_take] at h2
      refine decide_eq_true ?_
      rw [List.length_cons, List.length_append, intsD_len]
      show _ + 1 + 1 ≤ 1000
      omega
    · refine k t _ (sg.trans (.new nt)) ?_
      rw [Sto.same]
      unfold places intsD
      rw [List.map_cons, List.map_append, List.length_map]
      rfl
theorem filt_thin {d : Nat → Bool} {q : Nat → Bool} : ∀ (r : List Int) (n j0 : Nat), (∀ (j : Nat) (e : Int), r[j]? = some e → q (j0 + j) = if e = 0 then !d (n + (r.take j).count 0 + 1) else true) → ((r.mapIdx fun j e => (j0 + j, e)).filter fun x => q x.1).map (·.2) = thin d n r
  | [], _, _, _ => rfl
  | e :: r, n, j0, h => by
    have h0 := h 0 e rfl
    have tail : ((r.mapIdx fun j e => (j0 + (j + 1), e)).filter fun x => q x.1).map (·.2) = thin d (n + (if e = 0 then 1 else 0)) r := by
      have e2 : (fun (j : Nat) (e : Int) => (j0 + (j + 1), e)) = fun j e => (j0 + 1 + j, e) := by
        funext j e
        rw [show j0 + (j + 1) = j0 + 1 + j by omega]
      rw [e2]
      refine filt_thin r _ (j0 + 1) fun j e' he' => ?_
      have := h (j + 1) e' he'
      rw [show j0 + 1 + j = j0 + (j + 1) by omega, this, List.take_succ_cons, List.count_cons]
      by_cases z : e = 0
      · subst z
        simp only [beq_self_eq_true, if_true]
        rw [show n + ((r.take j).count 0 + 1) + 1 = n + 1 + (r.take j).count 0 + 1 by omega]
      · simp only [z, if_false, beq_iff_eq]
        rw [show n + ((r.take j).count 0 + 0) + 1 = n + 0 + (r.take j).count 0 + 1 by omega]
    rw [List.mapIdx_cons, List.filter_cons]
    unfold thin
    by_cases z : e = 0
    · subst z
      simp only [if_true] at h0 tail
      rw [if_pos rfl]
      have h0 : q (j0 + 0) = !d (n + 1) := h0
      cases hd : d (n + 1) with
      | true =>
        rw [hd] at h0
        rw [if_neg (by rw [h0]; exact Bool.false_ne_true), if_pos rfl]
        exact tail
      | false =>
        rw [hd] at h0
        have h0 : q (j0 + 0) = true := h0
        rw [if_pos h0, if_neg Bool.false_ne_true, List.map_cons, tail]
    · simp only [z, if_false] at h0 tail
      rw [if_neg z, if_pos h0, List.map_cons, tail]
      rfl
end Sv

set_option maxHeartbeats 400000
/-! Over data: rows without saves, smaller histories. -/
namespace Sv
open PySem L2
theorem places_at {row : List Int} {i : Nat} (h : i < row.count 0) {x : Int} : (places row)[i + 1]? = some x ↔ ∃ j : Nat, j < row.length ∧ x = (j : Int) ∧ row[j]? = some 0 ∧ (row.take j).count 0 = i := by
  have hl := zerU_len row row.length (Nat.le_refl _)
  rw [List.take_length] at hl
  unfold places
  rw [List.getElem?_cons_succ, List.getElem?_append_left (by omega)]
  exact zer_at row row.length (Nat.le_refl _) i x
/-- the places of the saves that are taken out -/
def outP (row ns : List Int) : List Int := (ns.filter fun n => decide (0 < n)).map fun n => ((places row)[n.toNat]?).getD 0
theorem outP_mem {row ns : List Int} (hb : ∀ n ∈ ns, n ≤ row.count 0) {j : Nat} {e : Int} (hj : row[j]? = some e) : (j : Int) ∈ outP row ns ↔ e = 0 ∧ (((row.take j).count 0 + 1 : Nat) : Int) ∈ ns := by
  unfold outP
  rw [List.mem_map]
  have hjl := (List.getElem?_eq_some_iff.mp hj).1
  constructor
  · rintro ⟨n, h1, h2⟩
    obtain ⟨h3, h4⟩ := List.mem_filter.mp h1
    have h4 : 0 < n := of_decide_eq_true h4
    have h5 := hb n h3
    obtain ⟨i, rfl⟩ : ∃ i : Nat, n = ((i + 1 : Nat) : Int) := ⟨n.toNat - 1, by omega⟩
    have hi : i < row.count 0 := by omega
    rw [Int.toNat_natCast] at h2
    obtain ⟨x, hx⟩ : ∃ x, (places row)[i + 1]? = some x := ⟨_, List.getElem?_eq_getElem (by rw [places_len]; omega)⟩
    rw [hx] at h2
    obtain ⟨j', h6, rfl, h8, h9⟩ := (places_at hi).mp hx
    have h2 : (j' : Int) = (j : Int) := h2
    obtain rfl : j' = j := by omega
    rw [hj] at h8
    cases h8
    exact ⟨rfl, by rw [h9]; exact h3⟩
  · rintro ⟨rfl, h⟩
    have h5 := hb _ h
    have hi : (row.take j).count 0 < row.count 0 := by omega
    refine ⟨_, List.mem_filter.mpr ⟨h, decide_eq_true (by omega)⟩, ?_⟩
    rw [Int.toNat_natCast, (places_at hi).mpr ⟨j, hjl, rfl, hj, rfl⟩]
    rfl
theorem w_without {row ns : List Int} {b : Addr} {S : Sto} {R : DK} (hl : row.length ≤ 900) (hn : ns.length ≤ 1000) (hS : S b = some (.lst (intsD ns))) (hb : ∀ n ∈ ns, n ≤ row.count 0) (k : ∀ S', SG S S' → R (.tup (intsD (thin (fun n => decide ((n : Int) ∈ ns)) 0 row))) S') :
    dFn 6 B_row_without_e39e [.tup (intsD row), .ref b] S R := by
  refine ⟨_, rfl, _, ⟨_, hS, rfl⟩, lc_mapE ns D.int rfl (fun n => if decide (0 < n) = true then some (D.int (((places row)[n.toNat]?).getD 0)) else none) (by omega) (fun S' sg => sg _ _ (fun z => z) hS) (fun n hnn S1 sg K Kn hk hnk => turn_n ⟨_, rfl, _, rfl, iteB (fun e => ?_) (fun e => ?_)⟩) fun p S1 np sg hp => ?_⟩
  · have e : decide (0 < n) = true := e
    have e' : 0 < n := of_decide_eq_true e
    have h5 := hb n hnn
    refine ⟨_, rfl, rfl, w_places hl fun t S2 sg2 ht => ⟨_, rfl, _, n, _, seqOf_lst ht, rfl, ?_, hk _ (if_pos e) _ sg2⟩⟩
    have hlt : n.toNat < (places row).length := by rw [places_len]; omega
    rw [List.getElem?_eq_getElem hlt]
    have h6 : (intsD (places row))[n.toNat]? = some (D.int ((some (places row)[n.toNat]).getD 0)) := by
      unfold intsD
      rw [List.getElem?_map, List.getElem?_eq_getElem hlt]
      rfl
    have h7 := atI_nat h6
    rw [Int.toNat_of_nonneg (by omega)] at h7
    exact h7
  · have e : decide (0 < n) = false := e
    exact hnk (by show (if decide (0 < n) = true then _ else _) = _; rw [e]; rfl) _ (.refl _)
  · rw [fm_ite (fun n : Int => D.int (((places row)[n.toNat]?).getD 0)) (fun n => decide (0 < n))] at hp
    have ep : (ns.filter fun n => decide (0 < n)).map (fun n => D.int (((places row)[n.toNat]?).getD 0)) = intsD (outP row ns) := by
      unfold outP intsD
      rw [List.map_map]
      rfl
    rw [ep] at hp
    refine ⟨_, rfl, _, _, rfl, rfl, lc_mapE (row.mapIdx fun i e => (i, e)) (fun x => .tup [.int ((x.1 : Nat) : Int), .int x.2]) (enD_map D.int row) (fun x => if (!decide (((x.1 : Nat) : Int) ∈ outP row ns)) = true then some (D.int x.2) else none) (by rw [List.length_mapIdx]; omega) (fun _ _ => True.intro)
      (fun x hx S2 sg2 K Kn hk hnk => ⟨_, rfl, .inl (.inl rfl), _, _, rfl, _, _, rfl, rfl, _, rfl, _, rfl, _, _, .int _, .inl (.lst (sg2 _ _ (fun z => z) hp) (pys_ints _)), rfl, shaped_ints _, shaped_ints _, _, rfl, ?_⟩) fun t S2 nt sg2 ht => ?_⟩
    · rw [any_int, xor_tt]
      have hk := hk (D.int x.2)
      have hnk := hnk
      cases hd : decide (((x.1 : Nat) : Int) ∈ outP row ns) with
      | true =>
        rw [hd] at hnk
        exact goF (hnk rfl _ (.refl _))
      | false =>
        rw [hd] at hk
        exact goT ⟨_, rfl, hk rfl _ (.refl _)⟩
    · rw [fm_ite (fun x : Nat × Int => D.int x.2) (fun x => !decide (((x.1 : Nat) : Int) ∈ outP row ns))] at ht
      have e : ((row.mapIdx fun i e => (i, e)).filter fun x => !decide (((x.1 : Nat) : Int) ∈ outP row ns)).map (fun x => D.int x.2) = intsD (thin (fun n => decide ((n : Int) ∈ ns)) 0 row) := by
        have h := filt_thin (d := fun n => decide ((n : Int) ∈ ns)) (q := fun j => !decide (((j : Nat) : Int) ∈ outP row ns)) row 0 0 (fun j e hj => by
          rw [Nat.zero_add, Nat.zero_add]
          have := outP_mem hb hj
          by_cases z : e = 0
          · rw [if_pos z, decide_eq_decide.mpr (this.trans ⟨fun h => h.2, fun h => ⟨z, h⟩⟩)]
          · rw [if_neg z, decide_eq_false (fun h => z (this.mp h).1)]
            rfl)
        rw [← h]
        unfold intsD
        rw [List.map_map]
        have e2 : (fun (j : Nat) (e : Int) => (0 + j, e)) = fun j e => (j, e) := by
          funext j e
          rw [Nat.zero_add]
        rw [e2]
        rfl
      rw [e] at ht
      exact ⟨_, _, rfl, seqOf_lst ht, fun ys z => (nomatch z), k _ (sg.trans sg2)⟩
theorem delU_mem' {rows : List (List Int)} {us : List (Int × Int)} {x : Int × Int} : x ∈ delU rows us ↔ (∃ p n : Nat, p < rows.length ∧ n < ((prs rows)[p]?).getD 0 ∧ x = ((p : Int), (n : Int))) ∧ x ∉ us := by
  unfold delU
  rw [List.mem_filter, Bool.and_eq_true]
  constructor
  · rintro ⟨h1, h2, h3⟩
    obtain ⟨p, n, hp, rfl⟩ := allU_mem h1
    have h2 : (n : Int) < ((((prs rows)[p]?).getD 0 : Nat) : Int) := of_decide_eq_true h2
    exact ⟨⟨p, n, hp, by omega, rfl⟩, of_decide_eq_true h3⟩
  · rintro ⟨⟨p, n, hp, hn, rfl⟩, h3⟩
    refine ⟨flU_mem (h := fun p => ((prs rows)[p]?).getD 0 + 1) |>.mpr ⟨p, n, hp, by omega, rfl⟩, decide_eq_true ?_, decide_eq_true h3⟩
    show (n : Int) < ((((prs rows)[p]?).getD 0 : Nat) : Int)
    omega
theorem mem_pairsG {α : Type} {cs : List α} {x : Nat × α} (h : x ∈ cs.mapIdx fun i c => (i, c)) : cs[x.1]? = some x.2 := by
  obtain ⟨i, hi⟩ := List.getElem?_of_mem h
  rw [List.getElem?_mapIdx] at hi
  cases e : cs[i]? with
  | none => rw [e] at hi; cases hi
  | some d => rw [e] at hi; cases hi; exact e
/-- which saves the smaller history lacks -/
def dOf (rows : List (List Int)) (us : List (Int × Int)) (p n : Nat) : Bool := decide (((p : Int), (n : Int)) ∈ delU rows us)
theorem w_small {rows : List (List Int)} {many most : Nat} {S : Sto} {R : DK} (hG : Good many most rows) (h6 : many ≤ 6) (h60 : most ≤ 60) (q : ∀ us S', SG S S' → NeedL rows us → R (hisD (thinR (dOf rows us) rows)) S') : dFn 6 B_smaller_history_2861 [hisD rows] S R := by
  have rl := hG.len
  have r60 := hG.row60 h60
  have al := allU_len6 r60 (by omega : rows.length ≤ 6)
  refine ⟨_, rfl, rfl, w_delet hG h6 h60 fun us S1 sg1 hN => ?_⟩
  have dl : (delU rows us).length ≤ 372 := Nat.le_trans (List.length_filter_le ..) al
  refine ⟨_, rfl, _, _, rfl, rfl, lc_mapE (rows.mapIdx fun i r => (i, r)) (fun x => .tup [.int ((x.1 : Nat) : Int), rowD x.2]) (enD_map rowD rows) (fun x => some (rowD (thin (dOf rows us x.1) 0 x.2))) (by rw [List.length_mapIdx]; omega) (fun _ _ => True.intro)
    (fun x hx S2 sg2 K Kn hk _ => ⟨_, rfl, .inl (.inl rfl), _, _, rfl, _, _, rfl, rfl, ?_⟩) fun p S2 np sg2 hp => ?_⟩
  · have hrow := mem_pairsG hx
    have hxl := r60 x.2 (List.mem_of_getElem? hrow)
    refine yesS ?_
    refine ⟨_, rfl, _, rfl, _, rfl, lc_mapE (delU rows us) prD rfl (fun y => if decide (y.1 = ((x.1 : Nat) : Int)) = true then some (D.int y.2) else none) (by omega) (fun _ _ => True.intro)
      (fun y hy S3 sg3 K Kn hk hn => ⟨_, rfl, .inl (.inl rfl), _, _, rfl, _, _, rfl, rfl, _, rfl, _, rfl, _, rfl, iteB (fun e => ?_) (fun e => ?_)⟩) fun t S3 nt sg3 ht => ?_⟩
    · rw [xor_ff] at e
      exact ⟨_, rfl, hk _ (if_pos e) _ (.refl _)⟩
    · rw [xor_ff] at e
      exact hn (by show (if decide (y.1 = ((x.1 : Nat) : Int)) = true then _ else _) = _; rw [e]; rfl) _ (.refl _)
    · rw [fm_ite (fun y : Int × Int => D.int y.2) (fun y => decide (y.1 = ((x.1 : Nat) : Int)))] at ht
      have e : ((delU rows us).filter fun y => decide (y.1 = ((x.1 : Nat) : Int))).map (fun y => D.int y.2) = intsD (((delU rows us).filter fun y => decide (y.1 = ((x.1 : Nat) : Int))).map (·.2)) := by
        unfold intsD
        rw [List.map_map]
        rfl
      rw [e] at ht
      have mem : ∀ n : Int, n ∈ (((delU rows us).filter fun y => decide (y.1 = ((x.1 : Nat) : Int))).map (·.2)) ↔ (((x.1 : Nat) : Int), n) ∈ delU rows us := fun n => by
        rw [List.mem_map]
        constructor
        · rintro ⟨⟨a, b⟩, h1, rfl⟩
          obtain ⟨h2, h3⟩ := List.mem_filter.mp h1
          have h3 : a = ((x.1 : Nat) : Int) := of_decide_eq_true h3
          rw [h3] at h2
          exact h2
        · intro h
          exact ⟨_, List.mem_filter.mpr ⟨h, decide_eq_true rfl⟩, rfl⟩
      refine ⟨rfl, w_without (by omega) ?_ ht (fun n hn => ?_) fun S4 sg4 => ?_⟩
      · rw [List.length_map]
        have := List.length_filter_le (fun y : Int × Int => decide (y.1 = ((x.1 : Nat) : Int))) (delU rows us)
        omega
      · obtain ⟨⟨p, m, h1, h2, h3⟩, _⟩ := delU_mem'.mp ((mem n).mp hn)
        cases h3
        rw [prsA hrow] at h2
        have h2 : m < x.2.count 0 + 1 := h2
        omega
      · have ed : (fun n : Nat => decide ((n : Int) ∈ (((delU rows us).filter fun y => decide (y.1 = ((x.1 : Nat) : Int))).map (·.2)))) = dOf rows us x.1 := by
          funext n
          exact decide_eq_decide.mpr (mem n)
        rw [ed]
        exact hk _ rfl _ (sg3.trans sg4)
  · rw [fm_map] at hp
    refine ⟨_, _, rfl, seqOf_lst hp, fun ys z => (nomatch z), ?_⟩
    have e : (rows.mapIdx fun i r => (i, r)).map (fun x => rowD (thin (dOf rows us x.1) 0 x.2)) = rowsD (thinR (dOf rows us) rows) := by
      unfold rowsD thinR
      apply List.ext_getElem?
      intro i
      rw [List.getElem?_map, List.getElem?_mapIdx, List.getElem?_map, List.getElem?_mapIdx]
      cases rows[i]? <;> rfl
    rw [e]
    exact q us _ (sg1.trans sg2) hN
end Sv

set_option maxHeartbeats 400000
/-! needed and deletable states of smaller histories -/
namespace Sv
open PySem L2
section
variable {rows : List (List Int)} {us us' : List (Int × Int)} {fs : List Int}
theorem in_names (hN : NeedL rows us) (hf : ∀ f ∈ fs, 0 ≤ f ∧ f < rows.length) {p n : Nat} {row : List Int} (hr : rows[p]? = some row) (h : (fallL rows fs)[p]? = some n) : n ∈ namesN (dOf rows us p) (row.count 0) := by
  have h1 := (fall_low rows fs).le p n _ h (tops_at hr)
  rw [nm_mem]
  by_cases z : n = 0
  · exact .inl z
  · by_cases y : n = row.count 0 + 1
    · exact .inr (.inl y)
    · have h2 : n ≤ row.count 0 := by split at h1 <;> omega
      refine .inr (.inr ⟨by omega, h2, decide_eq_false fun w => ?_⟩)
      obtain ⟨f, h3, h4⟩ := fall_needed hf h (by rw [prsA hr]; show n < row.count 0 + 1; omega)
      exact (delU_mem'.mp w).2 ((hN.2.2 _).mpr ⟨f, p, n, h3, h4, rfl⟩)
theorem small_led (hN : NeedL rows us) (hf : ∀ f ∈ fs, 0 ≤ f ∧ f < rows.length) : Led (dOf rows us) rows (fallL (thinR (dOf rows us) rows) fs) (fallL rows fs) :=
  fall_led fun p row n hr h => in_names hN hf hr h
theorem prs_small {d : Nat → Nat → Bool} {p : Nat} {row : List Int} (hr : rows[p]? = some row) : (prs (thinR d rows))[p]? = some ((keptN (d p) 0 (row.count 0)).length + 1) := by
  rw [prsA (thinR_at hr), thin_count]
theorem need_small (hN : NeedL rows us) {f p c : Nat} {row : List Int} (hf : f < rows.length) (hr : rows[p]? = some row) : NeedAt (thinR (dOf rows us) rows) f p c ↔ ∃ n, (namesN (dOf rows us p) (row.count 0))[c]? = some n ∧ NeedAt rows f p n := by
  have hL := small_led (fs := [(f : Int)]) hN (fun g hg => by rw [List.mem_singleton.mp hg]; omega)
  obtain ⟨c0, n0, h1, h2, h3⟩ := hL.at' p row hr
  have ht := names_top h3
  constructor
  · intro h
    obtain ⟨h4, h5⟩ := need_iff.mp h
    rw [h1] at h4
    cases h4
    rw [prs_small hr] at h5
    have h5 : c < (keptN (dOf rows us p) 0 (row.count 0)).length + 1 := h5
    exact ⟨n0, h3, need_iff.mpr ⟨h2, by rw [prsA hr]; show n0 < row.count 0 + 1; omega⟩⟩
  · rintro ⟨n, h4, h5⟩
    obtain ⟨h6, h7⟩ := need_iff.mp h5
    rw [h2] at h6
    cases h6
    have e : c = c0 := by
      have a := names_le h4 h3
      have b := names_le h3 h4
      omega
    subst e
    rw [prsA hr] at h7
    have h7 : n0 < row.count 0 + 1 := h7
    exact need_iff.mpr ⟨h1, by rw [prs_small hr]; show c < (keptN (dOf rows us p) 0 (row.count 0)).length + 1; omega⟩
theorem del_small (hN : NeedL rows us) (hN' : NeedL (thinR (dOf rows us) rows) us') : ∀ x ∈ delU (thinR (dOf rows us) rows) us', x.2 = 0 := fun x hx => by
  obtain ⟨⟨p, c, h1, h2, rfl⟩, h3⟩ := delU_mem'.mp hx
  rw [thinR_len] at h1
  obtain ⟨row, hr⟩ := row_of h1
  rw [prs_small hr] at h2
  have h2 : c < (keptN (dOf rows us p) 0 (row.count 0)).length + 1 := h2
  refine Classical.byContradiction fun z => h3 ?_
  have z : c ≠ 0 := fun y => z (by rw [y]; rfl)
  obtain ⟨n, hn⟩ : ∃ n, (namesN (dOf rows us p) (row.count 0))[c]? = some n := ⟨_, List.getElem?_eq_getElem (by rw [names_len]; omega)⟩
  have ht := names_top hn
  have hn0 : n ≠ 0 := fun y => by
    have := names_lt (c := 0) (n := 0) rfl hn (by omega)
    omega
  have hm := nm_mem.mp (List.mem_of_getElem? hn)
  have hd : dOf rows us p n = false := by
    rcases hm with h | h | h
    · exact absurd h hn0
    · omega
    · exact h.2.2
  have h4 : ((p : Int), (n : Int)) ∈ us := Classical.byContradiction fun w => by
    have : ((p : Int), (n : Int)) ∈ delU rows us := delU_mem'.mpr ⟨⟨p, n, h1, by rw [prsA hr]; show n < row.count 0 + 1; omega, rfl⟩, w⟩
    exact of_decide_eq_false hd this
  obtain ⟨f, p', n', h5, h6, h7⟩ := (hN.2.2 _).mp h4
  cases h7
  exact (hN'.2.2 _).mpr ⟨f, p, c, by rw [thinR_len]; exact h5, (need_small hN h5 hr).mpr ⟨n, hn, h6⟩, rfl⟩
theorem small_same (hN : NeedL rows us) (hN' : NeedL (thinR (dOf rows us) rows) us') : thinR (dOf (thinR (dOf rows us) rows) us') (thinR (dOf rows us) rows) = thinR (dOf rows us) rows := by
  have h : ∀ p n, 1 ≤ n → dOf (thinR (dOf rows us) rows) us' p n = false := fun p n hn => decide_eq_false fun z => by
    have h0 : (n : Int) = 0 := del_small hN hN' _ z
    omega
  apply List.ext_getElem?
  intro i
  cases e : (thinR (dOf rows us) rows)[i]? with
  | none =>
    refine List.getElem?_eq_none ?_
    rw [thinR_len]
    exact List.getElem?_eq_none_iff.mp e
  | some r => rw [thinR_at e, thin_none (h i)]
/-- a state of the smaller history by its number in the history -/
def gN (rows : List (List Int)) (us : List (Int × Int)) (x : Int × Int) : Int × Int := (x.1, (((namesN (dOf rows us x.1.toNat) ((rows.getD x.1.toNat []).count 0))[x.2.toNat]?).getD 0 : Nat))
theorem gN_at {p c n : Nat} {row : List Int} (hr : rows[p]? = some row) (h : (namesN (dOf rows us p) (row.count 0))[c]? = some n) : gN rows us ((p : Int), (c : Int)) = ((p : Int), (n : Int)) := by
  have hg : rows.getD p [] = row := by rw [List.getD_eq_getElem?_getD, hr]; rfl
  unfold gN
  show ((p : Int), ((((namesN (dOf rows us ((p : Int)).toNat) ((rows.getD ((p : Int)).toNat []).count 0))[((c : Int)).toNat]?).getD 0 : Nat) : Int)) = _
  rw [Int.toNat_natCast, Int.toNat_natCast, hg, h]
  rfl
theorem needed_map (h60 : ∀ r ∈ rows, r.length ≤ 60) (hN : NeedL rows us) (hN' : NeedL (thinR (dOf rows us) rows) us') : us'.map (gN rows us) = us := by
  have look : ∀ x ∈ us', ∃ (f p c n : Nat) (row : List Int), f < rows.length ∧ rows[p]? = some row ∧ x = ((p : Int), (c : Int)) ∧ (namesN (dOf rows us p) (row.count 0))[c]? = some n ∧ NeedAt rows f p n := fun x hx => by
    obtain ⟨f, p, c, h1, h2, rfl⟩ := (hN'.2.2 x).mp hx
    rw [thinR_len] at h1
    have hp := h2.lt
    rw [thinR_len] at hp
    obtain ⟨row, hr⟩ := row_of hp
    obtain ⟨n, h3, h4⟩ := (need_small hN h1 hr).mp h2
    exact ⟨f, p, c, n, row, h1, hr, rfl, h3, h4⟩
  refine rise_eq pc _ _ (List.pairwise_map.mpr ?_) hN.2.1 fun x => ?_
  · refine hN'.2.1.imp_of_mem fun {a b} ha hb hlt => ?_
    obtain ⟨f, p, c, n, row, _, hr, rfl, h3, h4⟩ := look a ha
    obtain ⟨f', p', c', n', row', _, hr', rfl, h3', h4'⟩ := look b hb
    rw [gN_at hr h3, gN_at hr' h3']
    have t1 := names_top h3
    have t2 := names_top h3'
    have b1 := h60 row (List.mem_of_getElem? hr)
    have b2 := h60 row' (List.mem_of_getElem? hr')
    have c1 : row.count 0 ≤ row.length := List.count_le_length ..
    have c2 : row'.count 0 ≤ row'.length := List.count_le_length ..
    have l1 := (List.getElem?_eq_some_iff.mp h3).1
    have l2 := (List.getElem?_eq_some_iff.mp h3').1
    rw [names_len] at l1 l2
    have k1 : ∀ (d : Nat → Bool) (m : Nat), (keptN d 0 m).length ≤ m := fun d m => by
      unfold keptN
      refine Nat.le_trans (List.length_filter_le ..) ?_
      rw [List.length_map, List.length_range]
      exact Nat.le_refl _
    have k2 := k1 (dOf rows us p) (row.count 0)
    have k3 := k1 (dOf rows us p') (row'.count 0)
    unfold pc at hlt ⊢
    have hlt : (p : Int) * 64 + (c : Int) < (p' : Int) * 64 + (c' : Int) := hlt
    show (p : Int) * 64 + (n : Int) < (p' : Int) * 64 + (n' : Int)
    by_cases e : p = p'
    · subst e
      rw [hr] at hr'
      cases hr'
      have := names_lt h3 h3' (by omega)
      omega
    · omega
  · constructor
    · intro h
      obtain ⟨y, hy, rfl⟩ := List.mem_map.mp h
      obtain ⟨f, p, c, n, row, h1, hr, rfl, h3, h4⟩ := look y hy
      rw [gN_at hr h3]
      exact (hN.2.2 _).mpr ⟨f, p, n, h1, h4, rfl⟩
    · intro h
      obtain ⟨f, p, n, h1, h2, rfl⟩ := (hN.2.2 x).mp h
      obtain ⟨row, hr⟩ := row_of h2.lt
      have hmem := in_names hN (fs := [(f : Int)]) (fun g hg => by rw [List.mem_singleton.mp hg]; omega) hr (need_iff.mp h2).1
      obtain ⟨c, hc⟩ := List.getElem?_of_mem hmem
      refine List.mem_map.mpr ⟨((p : Int), (c : Int)), (hN'.2.2 _).mpr ⟨f, p, c, by rw [thinR_len]; exact h1, (need_small hN h1 hr).mpr ⟨n, hc, h2⟩, rfl⟩, gN_at hr hc⟩
end
end Sv

set_option maxHeartbeats 400000
/-! Over data: the numbers of the kept states. -/
namespace Sv
open PySem L2
def NamesAt (S : Sto) (rows : List (List Int)) (us : List (Int × Int)) (rs : List Addr) : Prop := ∀ (p : Nat) (r : Addr) (row : List Int), rs[p]? = some r → rows[p]? = some row → S r = some (.lst (natD (namesN (dOf rows us p) (row.count 0))))
theorem NamesAt.keep {S S' : Sto} {rows : List (List Int)} {us : List (Int × Int)} {rs : List Addr} (h : NamesAt S rows us rs) (k : SG S S') : NamesAt S' rows us rs := fun p r row h1 h2 => k _ _ (fun z => z) (h p r row h1 h2)
theorem kept_eq (d : Nat → Bool) (m : Nat) : ((List.range m).filter fun i => !d (0 + 1 + i)).map (fun i : Nat => D.int (1 + (i : Int))) = natD (keptN d 0 m) := by
  unfold keptN natD
  rw [List.filter_map, List.map_map]
  congr 1
theorem w_names {rows : List (List Int)} {many most : Nat} {us : List (Int × Int)} {S : Sto} {R : DK} (hG : Good many most rows) (h6 : many ≤ 6) (h60 : most ≤ 60) (hN : NeedL rows us) (q : ∀ (l : Addr) (rs : List Addr) S', SG S S' → S' l = some (.lst (rs.map D.ref)) → rs.length = rows.length → NamesAt S' rows us rs → S l = none → (∀ r ∈ rs, S r = none) → R (.ref l) S') : dFn 7 B_law_names_7237 [hisD rows] S R := by
  have rl := hG.len
  have r60 := hG.row60 h60
  have al := allU_len6 r60 (by omega : rows.length ≤ 6)
  refine ⟨_, rfl, rfl, w_delet hG h6 h60 fun us1 S1 sg1 hN1 => ⟨rfl, fun f nf => ⟨rfl, _, rfl, .inl (.inl rfl), _, _, rfl, _, _, rfl, rfl, ?_⟩⟩⟩
  obtain rfl := hN1.unique hN
  have fS : S f = none := SG.none sg1 nf
  have k0 : SG S (S1.put f (.lst [])) := sg1.trans (.new nf)
  have hf0 : (S1.put f (.lst [])) f = some (.lst (([] : List Addr).map D.ref)) := Sto.same
  generalize S1.put f (.lst []) = S2 at k0 hf0 ⊢
  refine ⟨_, rfl, _, _, rfl, rfl, fun i env S' => i ≤ rows.length ∧ ∃ (x3 x4 x5 : Option D) (rs : List Addr), env = [some (hisD rows), some (.tup ((delU rows us1).map prD)), some (.ref f), x3, x4, x5, none] ∧ SG S S' ∧ S' f = some (.lst (rs.map D.ref)) ∧ rs.length = i ∧ (∀ r ∈ rs, r ≠ f ∧ S r = none) ∧ NamesAt S' rows us1 rs,
    ⟨Nat.zero_le _, _, _, _, [], rfl, k0, hf0, rfl, fun r hr => (nomatch hr), fun p r row h => (nomatch h)⟩, fun _ _ _ _ _ => True.intro, ?_, ?_⟩
  · rintro i e env S3 he ⟨hi0, x3, x4, x5, rs, rfl, k3, hf3, hrl, hrf, hna⟩
    have he : (enD (rows.map rowD))[i]? = some e := he
    rw [enD_map, List.getElem?_map, List.getElem?_mapIdx] at he
    obtain ⟨row, hrow⟩ : ∃ row, rows[i]? = some row := by
      cases z : rows[i]? with
      | none => rw [z] at he; cases he
      | some r => exact ⟨r, rfl⟩
    rw [hrow] at he
    cases he
    have hi : i < rows.length := (List.getElem?_eq_some_iff.mp hrow).1
    have hr60 := r60 row (List.mem_of_getElem? hrow)
    have cnt : row.count 0 ≤ row.length := List.count_le_length ..
    have dl : (delU rows us1).length ≤ 372 := Nat.le_trans (List.length_filter_le ..) al
    refine ⟨_, rfl, .inl (.inl rfl), _, _, rfl, _, _, rfl, rfl, _, rfl, ⟨_, rfl⟩, row, 0, rfl, rfl, 1, (((row.count 0 : Nat) : Int) + 1), rfl, ⟨by decide, by decide, by omega, by omega⟩, ?_⟩
    refine lc_mapE (List.range (row.count 0)) (fun n : Nat => .int (1 + (n : Int))) (by show rgD 1 (((row.count 0 : Nat) : Int) + 1 - 1).toNat = _; rw [show (((row.count 0 : Nat) : Int) + 1 - 1).toNat = row.count 0 by omega]; rfl) (fun n : Nat => if (!dOf rows us1 i (0 + 1 + n)) = true then some (D.int (1 + (n : Int))) else none) (by rw [List.length_range]; omega) (fun _ _ => True.intro) (fun n _ S4 sg4 K Kn hk hn => turn_n ?_) fun p S4 np sg4 hp => ?_
    · have hd : decide (((i : Int), (1 + (n : Int))) ∈ delU rows us1) = dOf rows us1 i (0 + 1 + n) := decide_eq_decide.mpr (by rw [show ((0 + 1 + n : Nat) : Int) = 1 + (n : Int) by omega])
      refine ⟨_, rfl, _, rfl, rfl, _, rfl, _, _, .tup (.cons (.int _) (.cons (.int _) .nil)), .inr (.tup (pys_pairs (delU rows us1))), shaped_tup [(i : Int), (1 + (n : Int))], pDs_shaped _, pDl_shaped _, _, rfl, ?_⟩
      have e2 := any_us (delU rows us1) ((i : Int), (1 + (n : Int)))
      unfold pD at e2
      show (if (((delU rows us1).map pD).any (fun z => PyData.eqv z (.tuple [.int i, .int (1 + (n : Int))])) ^^ true) = true then _ else _)
      unfold pD
      rw [e2, xor_tt, hd]
      have hk := hk
      have hn := hn
      cases hz : dOf rows us1 i (0 + 1 + n) with
      | true => rw [hz] at hn; exact goF (hn rfl _ (.refl _))
      | false => rw [hz] at hk; exact goT ⟨_, rfl, hk _ rfl _ (.refl _)⟩
    · rw [fm_ite (fun n : Nat => D.int (1 + (n : Int))) (fun n => !dOf rows us1 i (0 + 1 + n)), kept_eq (dOf rows us1 i)] at hp
      have kl : (natD (keptN (dOf rows us1 i) 0 (row.count 0))).length ≤ 60 := by
        rw [natD_len]
        unfold keptN
        refine Nat.le_trans (List.length_filter_le ..) ?_
        rw [List.length_map, List.length_range]
        omega
      have hf4 := sg4 _ _ (fun z => z) hf3
      refine ⟨_, rfl, ⟨rfl, _, seqOf_lst hf4, noTup _⟩, rfl, fun a na => ⟨_, rfl, _, _, Sto.same, (Sto.ne fun z => by rw [z, na] at hp; cases hp).trans hp, ?_, fun b nb => ⟨_, rfl, ⟨_, rfl⟩, row, 0, rfl, rfl, rfl, fun c nc => ?_⟩⟩⟩
      · show 1 + _ ≤ 100000
        omega
      have sga : SG S4 (S4.put a (.lst [.int 0])) := .new na
      generalize S4.put a (.lst [.int 0]) = S5 at sga nb nc ⊢
      have sgb : SG S5 (S5.put b (.lst ([.int 0] ++ natD (keptN (dOf rows us1 i) 0 (row.count 0))))) := .new nb
      have hb : (S5.put b (.lst ([.int 0] ++ natD (keptN (dOf rows us1 i) 0 (row.count 0))))) b = _ := Sto.same
      generalize S5.put b (.lst ([.int 0] ++ natD (keptN (dOf rows us1 i) 0 (row.count 0)))) = S6 at sgb hb nc ⊢
      have sgc : SG S6 (S6.put c (.lst [.int (((row.count 0 : Nat) : Int) + 1)])) := .new nc
      refine ⟨_, _, (Sto.ne fun z => by rw [z, nc] at hb; cases hb).trans hb, Sto.same, ?_, fun r nr => ?_⟩
      · rw [List.length_append]
        show 1 + _ + 1 ≤ 100000
        omega
      generalize S6.put c (.lst [.int (((row.count 0 : Nat) : Int) + 1)]) = S7 at sgc nr ⊢
      have s47 : SG S3 S7 := ((sg4.trans sga).trans sgb).trans sgc
      have sgr : SG S7 (S7.put r (.lst (([.int 0] ++ natD (keptN (dOf rows us1 i) 0 (row.count 0))) ++ [.int (((row.count 0 : Nat) : Int) + 1)]))) := .new nr
      have hr : (S7.put r (.lst (([.int 0] ++ natD (keptN (dOf rows us1 i) 0 (row.count 0))) ++ [.int (((row.count 0 : Nat) : Int) + 1)]))) r = some (.lst (natD (namesN (dOf rows us1 i) (row.count 0)))) := by
        rw [Sto.same]
        unfold namesN natD
        rw [List.map_cons, List.map_append]
        rfl
      have hf7 := s47 _ _ (fun z => z) hf3
      have rf : r ≠ f := fun z => by rw [← z, nr] at hf7; cases hf7
      have rS : S r = none := SG.none (k3.trans s47) nr
      have hf8 := sgr _ _ (fun z => z) hf7
      have hna8 := hna.keep (s47.trans sgr)
      have k8 := k3.trans (s47.trans sgr)
      generalize S7.put r (.lst (([.int 0] ++ natD (keptN (dOf rows us1 i) 0 (row.count 0))) ++ [.int (((row.count 0 : Nat) : Int) + 1)])) = S8 at hr hf8 hna8 k8 ⊢
      refine ⟨f, _, _, rfl, rfl, hf8, ?_, hi, _, _, _, rs ++ [r], rfl, SG.keepP fS k8 (.refl _), ?_, by rw [List.length_append, hrl]; rfl, fun x hx => ?_, fun p' r' row' g1 g2 => ?_⟩
      · rw [List.length_map, hrl]
        omega
      · rw [Sto.same, List.map_append]
        rfl
      · rcases List.mem_append.mp hx with z | z
        · exact hrf x z
        · rw [List.mem_singleton.mp z]
          exact ⟨rf, rS⟩
      · have hne : r' ≠ f := by
          rcases List.mem_append.mp (List.mem_of_getElem? g1) with z | z
          · exact (hrf r' z).1
          · rw [List.mem_singleton.mp z]
            exact rf
        rw [Sto.ne hne]
        rcases Nat.lt_or_ge p' rs.length with z | z
        · rw [List.getElem?_append_left z] at g1
          exact hna8 p' r' row' g1 g2
        · rw [List.getElem?_append_right z] at g1
          have hp' : p' = i := by
            have := (List.getElem?_eq_some_iff.mp g1).1
            simp at this
            omega
          subst hp'
          rw [hrl, Nat.sub_self] at g1
          cases g1
          rw [hrow] at g2
          cases g2
          exact hr
  · rintro env S3 ⟨hi0, x3, x4, x5, rs, rfl, k3, hf3, hrl, hrf, hna⟩
    have hlen : (enD (rowsD rows)).length = rows.length := by unfold enD rowsD; rw [List.length_mapIdx, List.length_map]
    exact ⟨_, rfl, q f rs S3 k3 hf3 (hrl.trans hlen) hna fS fun r hr => (hrf r hr).2⟩
end Sv

set_option maxHeartbeats 400000
/-! Over data: histories and lines as data; what k47 asks of one history. -/
namespace Sv
open PySem L2
theorem needed_look {rows : List (List Int)} {us us' : List (Int × Int)} (hN : NeedL rows us) (hN' : NeedL (thinR (dOf rows us) rows) us') : ∀ x ∈ us', ∃ (p c n : Nat) (row : List Int), rows[p]? = some row ∧ x = ((p : Int), (c : Int)) ∧ (namesN (dOf rows us p) (row.count 0))[c]? = some n := fun x hx => by
  obtain ⟨f, p, c, h1, h2, rfl⟩ := (hN'.2.2 x).mp hx
  rw [thinR_len] at h1
  have hp := h2.lt
  rw [thinR_len] at hp
  obtain ⟨row, hr⟩ := row_of hp
  obtain ⟨n, h3, _⟩ := (need_small hN h1 hr).mp h2
  exact ⟨p, c, n, row, hr, rfl, h3⟩
theorem map_idx {α β : Type} (g : α → β) (xs : List α) : xs.map g = (xs.mapIdx fun i c => (i, c)).map fun x => g x.2 := by
  apply List.ext_getElem?
  intro i
  rw [List.getElem?_map, List.getElem?_map, List.getElem?_mapIdx]
  cases xs[i]? <;> rfl
theorem zip_cut {rs : List Addr} {cs : List Nat} {n : Nat} (h1 : rs.length = n) (h2 : cs.length = n) : zipD (rs.map D.ref) (natD cs) = (List.range n).map fun p => D.tup [.ref (rs.getD p 0), .int ((cs.getD p 0 : Nat) : Int)] := by
  apply List.ext_getElem?
  intro i
  unfold zipD natD
  rw [List.getElem?_zipWith, List.getElem?_map, List.getElem?_map, List.getElem?_map]
  rcases Nat.lt_or_ge i n with z | z
  · have e1 : rs[i]? = some rs[i] := List.getElem?_eq_getElem (by omega)
    have e2 : cs[i]? = some cs[i] := List.getElem?_eq_getElem (by omega)
    rw [List.getElem?_range z, e1, e2]
    show some (D.tup [.ref rs[i], .int _]) = some (D.tup [.ref (rs.getD i 0), .int ((cs.getD i 0 : Nat) : Int)])
    rw [List.getD_eq_getElem?_getD, List.getD_eq_getElem?_getD, e1, e2]
    rfl
  · rw [List.getElem?_eq_none (l := rs) (by omega), List.getElem?_eq_none (l := List.range n) (by rw [List.length_range]; exact z)]
    rfl
theorem range_natD {cs : List Nat} {n : Nat} (h : cs.length = n) : ((List.range n).map fun p => D.int ((cs.getD p 0 : Nat) : Int)) = natD cs := by
  apply List.ext_getElem?
  intro i
  unfold natD
  rw [List.getElem?_map, List.getElem?_map]
  rcases Nat.lt_or_ge i n with z | z
  · have e2 : cs[i]? = some cs[i] := List.getElem?_eq_getElem (by omega)
    rw [List.getElem?_range z, e2]
    show some (D.int ((cs.getD i 0 : Nat) : Int)) = _
    rw [List.getD_eq_getElem?_getD, e2]
    rfl
  · rw [List.getElem?_eq_none (l := cs) (by omega), List.getElem?_eq_none (l := List.range n) (by rw [List.length_range]; exact z)]
    rfl
end Sv

set_option maxHeartbeats 400000
/-! Over data: the law's tops; rows that all end with a save. -/
namespace Sv
open PySem L2
theorem w_tops {rows : List (List Int)} {fs : List Int} {S : Sto} {R : DK} (hl : rows.length ≤ 1000) (k : ∀ p S', SG S S' → S' p = some (.lst (natD (tops rows fs))) → R (.ref p) S') : dFn 4 B_law_tops_eaaa [hisD rows, .tup (intsD fs)] S R := by
  refine ⟨_, rfl, _, _, rfl, rfl, lc_mapE (rows.mapIdx fun i r => (i, r)) (fun x => .tup [.int ((x.1 : Nat) : Int), rowD x.2]) (enD_map rowD rows) (fun x => some (D.int (((x.2.count 0 : Nat) : Int) + 1 - (if decide (((x.1 : Nat) : Int) ∈ fs) = true then 1 else 0)))) (by rw [List.length_mapIdx]; omega) (fun _ _ => True.intro)
    (fun x _ S1 sg K Kn hk _ => ⟨_, rfl, .inl (.inl rfl), _, _, rfl, _, _, rfl, rfl, ?_⟩) fun p S1 np sg hp => ?_⟩
  · refine yesS ?_
    refine ⟨_, rfl, ⟨_, rfl⟩, x.2, 0, rfl, rfl, _, rfl, _, rfl, _, _, .int _, .inr (.tup (pys_ints fs)), rfl, shaped_ints fs, shaped_ints fs, _, rfl, ?_⟩
    rw [any_int]
    have hk := hk _ rfl S1 (.refl _)
    by_cases z : ((x.1 : Nat) : Int) ∈ fs
    · rw [decide_eq_true z] at hk ⊢
      exact hk
    · rw [decide_eq_false z] at hk ⊢
      exact hk
  · rw [fm_map] at hp
    refine k p S1 sg ?_
    rw [hp]
    congr 2
    unfold tops natD
    apply List.ext_getElem?
    intro i
    rw [List.getElem?_map, List.getElem?_mapIdx, List.getElem?_map, List.getElem?_mapIdx]
    cases rows[i]? with
    | none => rfl
    | some r =>
      have e : ((r.count 0 : Nat) : Int) + 1 - (if decide ((i : Int) ∈ fs) = true then 1 else 0) = ((r.count 0 + (if decide ((i : Int) ∈ fs) = true then 0 else 1) : Nat) : Int) := by
        split <;> omega
      exact congrArg (fun z => some (D.int z)) e
end Sv

set_option maxHeartbeats 400000
/-! Over data: rows that all end with a save. -/
namespace Sv
open PySem L2
def freshR (rows : List (List Int)) : List (List Int) := rows.map fun r => r ++ [0]
theorem freshR_at {rows : List (List Int)} {p : Nat} {r : List Int} (h : rows[p]? = some r) : (freshR rows)[p]? = some (r ++ [0]) := by
  unfold freshR
  rw [List.getElem?_map, h]
  rfl
theorem freshR_len (rows : List (List Int)) : (freshR rows).length = rows.length := List.length_map ..
theorem fresh_count (r : List Int) : (r ++ [0]).count 0 = r.count 0 + 1 := by rw [List.count_append, List.count_singleton_self]
theorem Grown.fresh {c : Nat} {nm : List Int} {rows : List (List Int)} {o : List (Int × Int)} {u k : Nat} (h : Grown c nm rows o u k) : Grown c nm (freshR rows) o u (k + rows.length) := by
  have go : ∀ i, i ≤ rows.length → Grown c nm ((rows.take i).map (fun r => r ++ [0]) ++ rows.drop i) o u (k + i) := by
    intro i
    induction i with
    | zero => intro _; exact h
    | succ i ih =>
      intro hi
      have hr : rows[i]? = some rows[i] := List.getElem?_eq_getElem hi
      have g := ih (by omega)
      have hl : ((rows.take i).map (fun r => r ++ [0])).length = i := by rw [List.length_map, List.length_take]; omega
      have hd : rows.drop i = rows[i] :: rows.drop (i + 1) := List.drop_eq_getElem_cons hi
      have hat : ((rows.take i).map (fun r => r ++ [0]) ++ rows.drop i)[i]? = some rows[i] := by
        rw [List.getElem?_append_right (by omega), hl, Nat.sub_self, hd]
        rfl
      have g2 := g.save hat
      have e : ((rows.take i).map (fun r => r ++ [0]) ++ rows.drop i).set i (rows[i] ++ [0]) = (rows.take (i + 1)).map (fun r => r ++ [0]) ++ rows.drop (i + 1) := by
        rw [take_map hr, List.map_append, List.set_append_right _ _ (by omega), hl, Nat.sub_self, hd, List.append_assoc]
        rfl
      rw [e] at g2
      exact g2
  have := go rows.length (Nat.le_refl _)
  rw [List.take_length, List.drop_length, List.append_nil] at this
  exact this
theorem Good.fresh {many most : Nat} {rows : List (List Int)} (h : Good many most rows) : Good many (most + many) (freshR rows) := by
  have hl := h.len
  obtain ⟨c, nm, o, u, k, h1, h2, h3, h4, h5⟩ := h
  exact ⟨c, nm, o, u, k + rows.length, h1, h2, h3, h4.fresh, by omega⟩
theorem fresh_cons {rows : List (List Int)} {fs : List Int} : ConsL (freshR rows) (tops (freshR rows) fs) := fun m p k p' k' c c' hm h1 h2 h3 h4 h5 => by
  obtain ⟨row', i, g1, g2, rfl⟩ := hap_inv h1
  obtain ⟨row, hr, rfl⟩ : ∃ row, rows[p]? = some row ∧ row' = row ++ [0] := by
    unfold freshR at g1
    rw [List.getElem?_map] at g1
    obtain ⟨row, a, b⟩ := Option.map_eq_some_iff.mp g1
    exact ⟨row, a, b.symm⟩
  rw [tops_at g1] at h3
  cases h3
  have hi : i < row.length := by
    rcases Nat.lt_or_ge i row.length with z | z
    · exact z
    · rw [List.getElem?_append_right z] at g2
      have := (List.getElem?_eq_some_iff.mp g2).1
      simp at this
      rw [show i - row.length = 0 by omega] at g2
      cases g2
      omega
  rw [fresh_count, List.take_append_of_le_length (by omega)]
  have := List.Sublist.count_le 0 (List.take_sublist i row)
  omega
theorem fresh_fall (rows : List (List Int)) (fs : List Int) : fallL (freshR rows) fs = tops (freshR rows) fs := (fall_eq ⟨.start _ _, fresh_cons⟩).symm
def freshU (rows : List (List Int)) : List (Int × Int) := (rows.mapIdx fun i r => (i, r)).map fun x => (((x.1 : Nat) : Int), ((x.2.count 0 : Nat) : Int))
theorem freshU_mem {rows : List (List Int)} {x : Int × Int} : x ∈ freshU rows ↔ ∃ (p : Nat) (row : List Int), rows[p]? = some row ∧ x = ((p : Int), ((row.count 0 : Nat) : Int)) := by
  unfold freshU
  rw [List.mem_map]
  constructor
  · rintro ⟨y, h1, rfl⟩
    exact ⟨y.1, y.2, mem_pairsG h1, rfl⟩
  · rintro ⟨p, row, h1, rfl⟩
    refine ⟨(p, row), List.mem_of_getElem? (i := p) ?_, rfl⟩
    rw [List.getElem?_mapIdx, h1]
    rfl
theorem fresh_need {rows : List (List Int)} (h6 : rows.length ≤ 6) (h60 : ∀ r ∈ freshR rows, r.length ≤ 60) : NeedL (freshR rows) (freshU (freshR rows)) := by
  refine ⟨?_, ?_, fun x => ?_⟩
  · unfold freshU
    rw [List.length_map, List.length_mapIdx, freshR_len]
    omega
  · unfold freshU
    refine List.pairwise_map.mpr (List.pairwise_iff_getElem.mpr fun i j hi hj hij => ?_)
    have hi' : i < (freshR rows).length := by simpa using hi
    have hj' : j < (freshR rows).length := by simpa using hj
    rw [List.getElem_mapIdx, List.getElem_mapIdx]
    have b1 := h60 _ (List.getElem_mem hi')
    have c1 : (freshR rows)[i].count 0 ≤ (freshR rows)[i].length := List.count_le_length ..
    unfold pc
    show ((i : Nat) : Int) * 64 + (((freshR rows)[i].count 0 : Nat) : Int) < ((j : Nat) : Int) * 64 + (((freshR rows)[j].count 0 : Nat) : Int)
    omega
  · rw [freshU_mem]
    constructor
    · rintro ⟨p, row, h1, rfl⟩
      have hp := (List.getElem?_eq_some_iff.mp h1).1
      refine ⟨p, p, row.count 0, hp, need_iff.mpr ⟨?_, ?_⟩, rfl⟩
      · rw [fresh_fall, tops_at h1]
        simp
      · rw [prsA h1]
        exact Nat.lt_succ_self _
    · rintro ⟨f, p, n, h1, h2, rfl⟩
      obtain ⟨row, hr⟩ := row_of h2.lt
      obtain ⟨h3, h4⟩ := need_iff.mp h2
      rw [fresh_fall, tops_at hr] at h3
      rw [prsA hr] at h4
      have h4 : n < row.count 0 + 1 := h4
      have h3 := Option.some.inj h3
      exact ⟨p, row, hr, by split at h3 <;> (congr 2; omega)⟩
theorem w_saved {rows : List (List Int)} {many most : Nat} {S : Sto} {R : DK} (hG : Good many most rows) (h6 : many ≤ 6) (h60 : most ≤ 54) (q : ∀ S', SG S S' → R (.bl true) S') : dFn 4 B_law_saved_13a1 [hisD rows] S R := by
  have rl := hG.len
  have r60 := hG.row60 (by omega)
  have hF : Good many (most + many) (freshR rows) := hG.fresh
  have f60 := hF.row60 (by omega)
  have fl := freshR_len rows
  refine ⟨_, rfl, _, rfl, lc_mapE rows rowD rfl (fun r => some (rowD (r ++ [0]))) (by omega) (fun _ _ => True.intro) (fun r hr S1 sg K Kn hk _ => turn_y ⟨_, rfl, rfl, ?_, ?_⟩) fun p S1 np sg hp => ?_⟩
  · rw [intsD_len]
    have := r60 r hr
    show _ + 1 ≤ 100000
    omega
  · have := hk _ rfl S1 (.refl _)
    unfold rowD intsD at this
    rw [List.map_append] at this
    exact this
  rw [fm_map] at hp
  refine ⟨_, _, rfl, seqOf_lst hp, fun ys z => (nomatch z), ?_⟩
  have eF : D.tup (rows.map fun r => rowD (r ++ [0])) = hisD (freshR rows) := by
    unfold hisD rowsD freshR
    rw [List.map_map]
    rfl
  rw [eF]
  have fdl : (rowsD (freshR rows)).length = rows.length := by rw [← fl]; exact List.length_map ..
  refine ⟨_, rfl, _, _, rfl, rfl, ((rows.length : Nat) : Int), by rw [fdl], by omega, by omega, fun j env S' => SG S S' ∧ ∃ x2 : Option D, env = [some (hisD rows), some (hisD (freshR rows)), x2, none], ⟨sg, _, rfl⟩, fun _ _ _ _ _ => True.intro, ?_, ?_⟩
  · rintro j d env S2 hd ⟨sg2, x2, rfl⟩
    obtain ⟨hj, rfl⟩ := rg_at hd
    refine ⟨_, rfl, _, rfl, w_fall (fs := [0 + (j : Int)]) hF h6 (by omega) (by show 1 ≤ 900; decide) fun S3 sg3 => ⟨_, rfl, _, rfl, rfl, rfl, w_tops (fs := [0 + (j : Int)]) (by omega) fun t S4 sg4 ht => ⟨_, _, rfl, seqOf_lst ht, fun ys z => (nomatch z), ?_⟩⟩⟩
    refine ⟨_, _, py_nat _, py_nat _, shaped_tup _, shaped_tup _, _, rfl, ?_⟩
    rw [fresh_fall]
    have en : (PyData.eqv (.tuple (((tops (freshR rows) [0 + (j : Int)]).map fun (c : Nat) => (c : Int)).map PyData.int)) (.tuple (((tops (freshR rows) [0 + (j : Int)]).map fun (c : Nat) => (c : Int)).map PyData.int)) ^^ true) = false := eqv_shaped (shaped_tup _)
    rw [en]
    exact goF ⟨(sg2.trans sg3).trans sg4, _, rfl⟩
  · rintro env S2 ⟨sg2, x2, rfl⟩
    refine ⟨_, rfl, rfl, w_needed hF h6 (by omega) fun us S3 sg3 hN => ?_⟩
    obtain rfl := hN.unique (fresh_need (by omega) f60)
    refine ⟨_, rfl, _, _, rfl, rfl, lc_mapE ((freshR rows).mapIdx fun i r => (i, r)) (fun x => .tup [.int ((x.1 : Nat) : Int), rowD x.2]) (enD_map rowD (freshR rows)) (fun x => some (prD (((x.1 : Nat) : Int), ((x.2.count 0 : Nat) : Int)))) (by rw [List.length_mapIdx]; omega) (fun _ _ => True.intro)
      (fun x _ S4 sg4 K Kn hk _ => ⟨_, rfl, .inl (.inl rfl), _, _, rfl, _, _, rfl, rfl, ?_⟩) fun t S4 nt sg4 ht => ?_⟩
    · refine yesS ?_
      exact ⟨_, rfl, _, rfl, ⟨_, rfl⟩, x.2, 0, rfl, rfl, rfl, hk _ rfl _ (.refl _)⟩
    · rw [fm_map] at ht
      have e : ((freshR rows).mapIdx fun i r => (i, r)).map (fun x => prD (((x.1 : Nat) : Int), ((x.2.count 0 : Nat) : Int))) = (freshU (freshR rows)).map prD := by
        unfold freshU
        rw [List.map_map]
        rfl
      rw [e] at ht
      refine ⟨_, _, rfl, seqOf_lst ht, fun ys z => (nomatch z), ?_⟩
      refine ⟨.tuple ((freshU (freshR rows)).map pD), .tuple ((freshU (freshR rows)).map pD), .tup (pys_pairs _), .tup (pys_pairs _), pDs_shaped _, pDs_shaped _, ?_⟩
      have en : (PyData.eqv (.tuple ((freshU (freshR rows)).map pD)) (.tuple ((freshU (freshR rows)).map pD)) ^^ false) = true := by
        rw [SeqAt.eqv_refl _ (SeqAt.canLay_of_shaped (pDs_shaped _))]
        rfl
      rw [en]
      exact q _ ((sg2.trans sg3).trans sg4)
end Sv

set_option maxHeartbeats 400000
/-! histories with other names -/
namespace Sv
open PySem L2
def nu (na : List Int) (e : Int) : Int := if e = 0 then 0 else if e < 0 then 0 - na.getD (e.natAbs - 1) 0 else na.getD (e.natAbs - 1) 0
def renR (rows : List (List Int)) (ord : List Nat) (na : List Int) : List (List Int) := ord.map fun p => (rows.getD p []).map (nu na)
section
variable {rows : List (List Int)} {ord : List Nat} {na : List Int} {n : Nat}
theorem ord_len (ho : ord.Perm (List.range n)) : ord.length = n := by rw [ho.length_eq, List.length_range]
theorem ord_mem (ho : ord.Perm (List.range n)) {p : Nat} : p ∈ ord ↔ p < n := by rw [ho.mem_iff, List.mem_range]
theorem ord_nd (ho : ord.Perm (List.range n)) : ord.Nodup := ho.nodup_iff.mpr List.nodup_range
theorem ord_at (ho : ord.Perm (List.range n)) {p : Nat} (h : p < n) : ord[ord.idxOf p]? = some p := by
  have hk := List.idxOf_lt_length_iff.mpr ((ord_mem ho).mpr h)
  rw [List.getElem?_eq_getElem hk]
  exact congrArg some (List.getElem_idxOf hk)
theorem ord_idx (ho : ord.Perm (List.range n)) {p q : Nat} (h : ord[q]? = some p) : ord.idxOf p = q := by
  have hp : p < n := (ord_mem ho).mp (List.mem_of_getElem? h)
  have h2 := ord_at ho hp
  obtain ⟨h3, h4⟩ := List.getElem?_eq_some_iff.mp h
  obtain ⟨h5, h6⟩ := List.getElem?_eq_some_iff.mp h2
  have nd := List.pairwise_iff_getElem.mp (ord_nd ho)
  rcases Nat.lt_trichotomy (ord.idxOf p) q with z | z | z
  · exact absurd (h6.trans h4.symm) (nd _ _ h5 h3 z)
  · exact z
  · exact absurd (h4.trans h6.symm) (nd _ _ h3 h5 z)
theorem ren_at {p q : Nat} {row : List Int} (h : ord[q]? = some p) (hr : rows[p]? = some row) : (renR rows ord na)[q]? = some (row.map (nu na)) := by
  unfold renR
  rw [List.getElem?_map, h]
  show some ((rows.getD p []).map (nu na)) = _
  rw [List.getD_eq_getElem?_getD, hr]
  rfl
theorem ren_inv (ho : ord.Perm (List.range rows.length)) {q : Nat} {row' : List Int} (h : (renR rows ord na)[q]? = some row') : ∃ p row, ord[q]? = some p ∧ rows[p]? = some row ∧ row' = row.map (nu na) := by
  unfold renR at h
  rw [List.getElem?_map] at h
  obtain ⟨p, h1, h2⟩ := Option.map_eq_some_iff.mp h
  obtain ⟨row, hr⟩ := row_of ((ord_mem ho).mp (List.mem_of_getElem? h1))
  refine ⟨p, row, h1, hr, ?_⟩
  rw [← h2, List.getD_eq_getElem?_getD, hr]
  rfl
theorem na_pos (hn : na.Perm names24) {i : Nat} (h : i < 24) : 1 ≤ na.getD i 0 ∧ na.getD i 0 ≤ 24 := by
  have hl : na.length = 24 := by rw [hn.length_eq, names24_len]
  have e : na[i]? = some na[i] := List.getElem?_eq_getElem (by omega)
  have hm := names_mem.mp (hn.mem_iff.mp (List.mem_of_getElem? e))
  rw [List.getD_eq_getElem?_getD, e]
  exact hm
theorem nu_zero (hn : na.Perm names24) {e : Int} (h : -24 ≤ e ∧ e ≤ 24) : nu na e = 0 ↔ e = 0 := by
  unfold nu
  by_cases z : e = 0
  · rw [if_pos z]; exact ⟨fun _ => z, fun _ => rfl⟩
  · rw [if_neg z]
    have := na_pos hn (i := e.natAbs - 1) (by omega)
    split <;> omega
theorem nu_sign (hn : na.Perm names24) {e : Int} (h : -24 ≤ e ∧ e ≤ 24) : 0 < nu na e ↔ 0 < e := by
  unfold nu
  by_cases z : e = 0
  · rw [if_pos z]; omega
  · rw [if_neg z]
    have := na_pos hn (i := e.natAbs - 1) (by omega)
    split <;> omega
theorem nu_neg {e : Int} : nu na (0 - e) = 0 - nu na e := by
  unfold nu
  by_cases z : e = 0
  · rw [if_pos z, if_pos (by omega)]; rfl
  · rw [if_neg z, if_neg (by omega)]
    have h : (0 - e).natAbs = e.natAbs := by omega
    rw [h]
    by_cases y : e < 0
    · rw [if_neg (by omega), if_pos y]; omega
    · rw [if_pos (by omega), if_neg y]
theorem count_nu (hn : na.Perm names24) : ∀ l : List Int, (∀ x ∈ l, -24 ≤ x ∧ x ≤ 24) → (l.map (nu na)).count 0 = l.count 0
  | [], _ => rfl
  | x :: r, h => by
    have h0 := nu_zero hn (h x List.mem_cons_self)
    have ih := count_nu hn r fun y hy => h y (List.mem_cons_of_mem _ hy)
    rw [List.map_cons, List.count_cons, List.count_cons, ih]
    by_cases z : x = 0
    · rw [z, show nu na 0 = 0 from rfl]
    · have z' : nu na x ≠ 0 := fun y => z (h0.mp y)
      simp [z, z']
theorem set_ren (ho : ord.Perm (List.range rows.length)) {p : Nat} {row : List Int} (hp : p < rows.length) : renR (rows.set p row) ord na = (renR rows ord na).set (ord.idxOf p) (row.map (nu na)) := by
  unfold renR
  apply List.ext_getElem?
  intro i
  rw [List.getElem?_map, List.getElem?_set, List.length_map, List.getElem?_map]
  cases e : ord[i]? with
  | none =>
    split
    · rename_i z
      subst z
      have := List.idxOf_lt_length_iff.mpr ((ord_mem ho).mpr hp)
      rw [List.getElem?_eq_getElem this] at e
      cases e
    · rfl
  | some q =>
    have hi := (List.getElem?_eq_some_iff.mp e).1
    have hq := ord_idx ho e
    split
    · rename_i z
      rw [if_pos (by rw [z]; exact hi)]
      have : q = p := by
        have h2 := ord_at ho hp
        rw [z, e] at h2
        exact Option.some.inj h2
      subst this
      show some (((rows.set q row).getD q []).map (nu na)) = _
      rw [List.getD_eq_getElem?_getD, List.getElem?_set_self hp]
      rfl
    · rename_i z
      have hne : p ≠ q := fun y => z (by rw [y]; exact hq)
      show some (((rows.set p row).getD q []).map (nu na)) = some ((rows.getD q []).map (nu na))
      rw [List.getD_eq_getElem?_getD, List.getElem?_set_ne hne, ← List.getD_eq_getElem?_getD]
theorem names_map (hn : na.Perm names24) : names24.map (nu na) = na := by
  have hl : na.length = 24 := by rw [hn.length_eq, names24_len]
  apply List.ext_getElem?
  intro i
  rw [List.getElem?_map]
  rcases Nat.lt_or_ge i 24 with z | z
  · rw [names24_at z, List.getElem?_eq_getElem (show i < na.length by omega)]
    show some (nu na ((i : Int) + 1)) = _
    unfold nu
    rw [if_neg (by omega), if_neg (by omega), show ((i : Int) + 1).natAbs - 1 = i by omega, List.getD_eq_getElem?_getD, List.getElem?_eq_getElem (show i < na.length by omega)]
    rfl
  · rw [List.getElem?_eq_none (l := names24) (by rw [names24_len]; exact z), List.getElem?_eq_none (l := na) (by omega)]
    rfl
theorem Grown.ren {c u k : Nat} {nm : List Int} {o : List (Int × Int)} (hn : na.Perm names24) (hp : nm.Perm names24) (ho : ord.Perm (List.range c)) (h : Grown c nm rows o u k) : Grown c (nm.map (nu na)) (renR rows ord na) (o.map fun x => (nu na x.1, ((ord.idxOf x.2.toNat : Nat) : Int))) u k ∧ ∀ x ∈ o, 0 ≤ x.2 ∧ x.2 < c := by
  induction h with
  | start =>
    have e : renR (List.replicate c []) ord na = List.replicate c [] := by
      unfold renR
      apply List.ext_getElem?
      intro i
      rw [List.getElem?_map, List.getElem?_replicate]
      have hl := ord_len ho
      rcases Nat.lt_or_ge i c with z | z
      · rw [if_pos z, List.getElem?_eq_getElem (show i < ord.length by omega)]
        show some (((List.replicate c ([] : List Int)).getD ord[i] []).map (nu na)) = some []
        rw [List.getD_eq_getElem?_getD, List.getElem?_replicate]
        split <;> rfl
      · rw [if_neg (by omega), List.getElem?_eq_none (l := ord) (by omega)]
        rfl
    rw [e]
    exact ⟨.start, fun x hx => nomatch hx⟩
  | skip _ ih => exact ⟨.skip ih.1, ih.2⟩
  | @save r o u k p row hG hr ih =>
    have hl := hG.len
    have hp' : p < r.length := (List.getElem?_eq_some_iff.mp hr).1
    rw [set_ren (by rw [hl]; exact ho) hp', List.map_append]
    exact ⟨.save ih.1 (ren_at (ord_at ho (by omega)) hr), ih.2⟩
  | @send r o u k p row m hG hr hm ih =>
    have hl := hG.len
    have hp' : p < r.length := (List.getElem?_eq_some_iff.mp hr).1
    rw [set_ren (by rw [hl]; exact ho) hp', List.map_append, List.map_append]
    refine ⟨.send ih.1 (ren_at (ord_at ho (by omega)) hr) (by rw [List.getElem?_map, hm]; rfl), fun x hx => ?_⟩
    rcases List.mem_append.mp hx with z | z
    · exact ih.2 x z
    · rw [List.mem_singleton.mp z]
      show 0 ≤ (p : Int) ∧ (p : Int) < c
      omega
  | @recv r o u k row j m q p hG hr hj hq ih =>
    have hl := hG.len
    have hp' : p < r.length := (List.getElem?_eq_some_iff.mp hr).1
    have hqb := ih.2 _ (List.mem_of_getElem? hj)
    have hqb : 0 ≤ q ∧ q < c := hqb
    rw [set_ren (by rw [hl]; exact ho) hp', List.map_append]
    have e : [0 - m].map (nu na) = [0 - nu na m] := by rw [List.map_cons, nu_neg]; rfl
    rw [e]
    have e2 : (o.eraseIdx j).map (fun x => (nu na x.1, ((ord.idxOf x.2.toNat : Nat) : Int))) = (o.map fun x => (nu na x.1, ((ord.idxOf x.2.toNat : Nat) : Int))).eraseIdx j := by
      apply List.ext_getElem?
      intro i
      rw [List.getElem?_map, List.getElem?_eraseIdx, List.getElem?_eraseIdx, List.getElem?_map, List.getElem?_map]
      split <;> rfl
    rw [e2]
    refine ⟨.recv (q := ((ord.idxOf q.toNat : Nat) : Int)) ih.1 (ren_at (ord_at ho (by omega)) hr) (by rw [List.getElem?_map, hj]; rfl) (fun z => hq ?_), fun x hx => ih.2 x (List.mem_of_mem_eraseIdx hx)⟩
    have h1 := ord_at ho (show q.toNat < c by omega)
    have h2 := ord_at ho (show p < c by omega)
    rw [show ord.idxOf q.toNat = ord.idxOf p by omega, h2] at h1
    have := Option.some.inj h1
    omega
theorem Good.ren {many most : Nat} (h : Good many most rows) (ho : ord.Perm (List.range rows.length)) (hn : na.Perm names24) : Good many most (renR rows ord na) := by
  obtain ⟨c, nm, o, u, k, h1, h2, h3, h4, h5⟩ := h
  have hl := h4.len
  refine ⟨c, nm.map (nu na), _, u, k, h1, h2, ?_, (h4.ren hn h3 (by rw [← hl]; exact ho)).1, h5⟩
  have := (h3.map (nu na))
  rw [names_map hn] at this
  exact this.trans hn
end
end Sv

set_option maxHeartbeats 400000
/-! lines of histories with other names -/
namespace Sv
open PySem L2
section
variable {rows : List (List Int)} {ord : List Nat} {na : List Int}
theorem nu_inj (hn : na.Perm names24) {a b : Int} (ha : -24 ≤ a ∧ a ≤ 24) (hb : -24 ≤ b ∧ b ≤ 24) (h : nu na a = nu na b) : a = b := by
  have s1 := nu_sign hn ha
  have s2 := nu_sign hn hb
  have z1 := nu_zero hn ha
  have z2 := nu_zero hn hb
  have hl : na.length = 24 := by rw [hn.length_eq, names24_len]
  have nd := List.pairwise_iff_getElem.mp (hn.nodup_iff.mpr names_nd)
  have inj : ∀ i j : Nat, i < 24 → j < 24 → na.getD i 0 = na.getD j 0 → i = j := fun i j hi hj e => by
    rw [List.getD_eq_getElem?_getD, List.getD_eq_getElem?_getD, List.getElem?_eq_getElem (show i < na.length by omega), List.getElem?_eq_getElem (show j < na.length by omega)] at e
    have e : na[i] = na[j] := e
    rcases Nat.lt_trichotomy i j with z | z | z
    · exact absurd e (nd i j _ _ z)
    · exact z
    · exact absurd e.symm (nd j i _ _ z)
  by_cases h0 : a = 0
  · have := z2.mp (h ▸ z1.mpr h0)
    omega
  · have hb0 : b ≠ 0 := fun y => h0 (z1.mp (h.trans (z2.mpr y)))
    unfold nu at h
    rw [if_neg h0, if_neg hb0] at h
    have p1 := na_pos hn (i := a.natAbs - 1) (by omega)
    have p2 := na_pos hn (i := b.natAbs - 1) (by omega)
    by_cases y1 : a < 0
    · rw [if_pos y1] at h
      by_cases y2 : b < 0
      · rw [if_pos y2] at h
        have := inj _ _ (by omega) (by omega) (show na.getD (a.natAbs - 1) 0 = na.getD (b.natAbs - 1) 0 by omega)
        omega
      · rw [if_neg y2] at h
        omega
    · rw [if_neg y1] at h
      by_cases y2 : b < 0
      · rw [if_pos y2] at h
        omega
      · rw [if_neg y2] at h
        have := inj _ _ (by omega) (by omega) h
        omega
theorem hap_rng {many most : Nat} (hG : Good many most rows) {e : Int} {x : Nat × Nat} (h : hap rows e = some x) : -24 ≤ e ∧ e ≤ 24 := by
  obtain ⟨p, k⟩ := x
  obtain ⟨row, i, h1, h2, _⟩ := hap_inv h
  exact (hG.row h1).2 _ (List.mem_of_getElem? h2)
theorem hap_ren {many most : Nat} (hG : Good many most rows) (ho : ord.Perm (List.range rows.length)) (hn : na.Perm names24) {e : Int} (he : e ≠ 0) {p k : Nat} (h : hap rows e = some (p, k)) : hap (renR rows ord na) (nu na e) = some (ord.idxOf p, k) := by
  have hb := hap_rng hG h
  obtain ⟨row, i, h1, h2, rfl⟩ := hap_inv h
  have hp := (List.getElem?_eq_some_iff.mp h1).1
  have h3 := ren_at (na := na) (ord_at ho hp) h1
  have h4 : (row.map (nu na))[i]? = some (nu na e) := by rw [List.getElem?_map, h2]; rfl
  rw [(hG.ren ho hn).hap_at h3 h4 (fun z => he ((nu_zero hn hb).mp z)), ← List.map_take, count_nu hn _ fun x hx => (hG.row h1).2 x (List.mem_of_mem_take hx)]
theorem hap_unren {many most : Nat} (hG : Good many most rows) (ho : ord.Perm (List.range rows.length)) (hn : na.Perm names24) {e : Int} (he : e ≠ 0) {q k : Nat} (h : hap (renR rows ord na) e = some (q, k)) : ∃ (p : Nat) (x : Int), ord[q]? = some p ∧ x ≠ 0 ∧ (-24 ≤ x ∧ x ≤ 24) ∧ e = nu na x ∧ hap rows x = some (p, k) := by
  obtain ⟨row', i, h1, h2, rfl⟩ := hap_inv h
  obtain ⟨p, row, h3, h4, rfl⟩ := ren_inv ho h1
  rw [List.getElem?_map] at h2
  obtain ⟨x, h5, rfl⟩ := Option.map_eq_some_iff.mp h2
  have hb := (hG.row h4).2 x (List.mem_of_getElem? h5)
  have hx : x ≠ 0 := fun z => he ((nu_zero hn hb).mpr z)
  refine ⟨p, x, h3, hx, hb, rfl, ?_⟩
  rw [hG.hap_at h4 h5 hx, ← List.map_take, count_nu hn _ fun y hy => (hG.row h4).2 y (List.mem_of_mem_take hy)]
def permL (ord : List Nat) (L : List Nat) : List Nat := ord.map fun p => L.getD p 0
theorem perm_at {L : List Nat} {p q c : Nat} (h : ord[q]? = some p) (hc : L[p]? = some c) : (permL ord L)[q]? = some c := by
  unfold permL
  rw [List.getElem?_map, h]
  show some (L.getD p 0) = _
  rw [List.getD_eq_getElem?_getD, hc]
  rfl
theorem perm_inv {L : List Nat} {n q c : Nat} (ho : ord.Perm (List.range n)) (hl : L.length = n) (h : (permL ord L)[q]? = some c) : ∃ p, ord[q]? = some p ∧ L[p]? = some c := by
  unfold permL at h
  rw [List.getElem?_map] at h
  obtain ⟨p, h1, h2⟩ := Option.map_eq_some_iff.mp h
  have hp := (ord_mem ho).mp (List.mem_of_getElem? h1)
  refine ⟨p, h1, ?_⟩
  rw [List.getD_eq_getElem?_getD, List.getElem?_eq_getElem (show p < L.length by omega)] at h2
  rw [List.getElem?_eq_getElem (show p < L.length by omega)]
  exact congrArg some h2
theorem perm_cons {many most : Nat} (hG : Good many most rows) (ho : ord.Perm (List.range rows.length)) (hn : na.Perm names24) {L : List Nat} (hl : L.length = rows.length) : ConsL (renR rows ord na) (permL ord L) ↔ ConsL rows L := by
  constructor
  · intro hc m p k p' k' c c' hm h1 h2 h3 h4 h5
    have b1 := hap_rng hG h1
    have g1 := hap_ren hG ho hn (by omega) h1
    have g2 := hap_ren hG ho hn (by omega) h2
    rw [nu_neg] at g2
    have hp := (List.getElem?_eq_some_iff.mp h3).1
    have hp' := (List.getElem?_eq_some_iff.mp h4).1
    exact hc _ _ _ _ _ c c' ((nu_sign hn b1).mpr hm) g1 g2 (perm_at (ord_at ho (by omega)) h3) (perm_at (ord_at ho (by omega)) h4) h5
  · intro hc m q k q' k' c c' hm h1 h2 h3 h4 h5
    obtain ⟨p, x, e1, x0, xb, rfl, e2⟩ := hap_unren hG ho hn (by omega) h1
    obtain ⟨p', y, e3, y0, yb, e4, e5⟩ := hap_unren hG ho hn (by omega) h2
    have hx := (nu_sign hn xb).mp hm
    rw [← nu_neg] at e4
    have : 0 - x = y := nu_inj hn (by omega) yb e4
    subst this
    obtain ⟨p2, f1, f2⟩ := perm_inv ho hl h3
    obtain ⟨p3, f3, f4⟩ := perm_inv ho hl h4
    rw [e1] at f1
    rw [e3] at f3
    cases f1
    cases f3
    exact hc x p k p' k' c c' hx e2 e5 f2 f4 h5
theorem perm_len (ho : ord.Perm (List.range rows.length)) (L : List Nat) : (permL ord L).length = rows.length := by
  unfold permL
  rw [List.length_map, ord_len ho]
theorem ren_len (ho : ord.Perm (List.range rows.length)) : (renR rows ord na).length = rows.length := by
  unfold renR
  rw [List.length_map, ord_len ho]
/-- the new numbers of processes -/
def sgN (ord : List Nat) (fs : List Int) : List Int := fs.map fun f => ((ord.idxOf f.toNat : Nat) : Int)
theorem sg_mem (ho : ord.Perm (List.range rows.length)) {fs : List Int} (hf : ∀ f ∈ fs, 0 ≤ f ∧ f < rows.length) {p q : Nat} (h : ord[q]? = some p) : (q : Int) ∈ sgN ord fs ↔ (p : Int) ∈ fs := by
  unfold sgN
  rw [List.mem_map]
  constructor
  · rintro ⟨f, h1, h2⟩
    have hb := hf f h1
    have h3 := ord_at ho (show f.toNat < rows.length by omega)
    rw [show ord.idxOf f.toNat = q by omega, h] at h3
    have : p = f.toNat := Option.some.inj h3
    rw [this, Int.toNat_of_nonneg hb.1]
    exact h1
  · intro h1
    refine ⟨_, h1, ?_⟩
    rw [Int.toNat_natCast, ord_idx ho h]
theorem tops_ren {many most : Nat} (hG : Good many most rows) (ho : ord.Perm (List.range rows.length)) (hn : na.Perm names24) {fs : List Int} (hf : ∀ f ∈ fs, 0 ≤ f ∧ f < rows.length) {p q : Nat} (h : ord[q]? = some p) : (tops (renR rows ord na) (sgN ord fs))[q]? = (tops rows fs)[p]? := by
  obtain ⟨row, hr⟩ := row_of ((ord_mem ho).mp (List.mem_of_getElem? h))
  rw [tops_at hr, tops_at (ren_at h hr), count_nu hn _ (hG.row hr).2, decide_eq_decide.mpr (sg_mem ho hf h)]
theorem fall_ren {many most : Nat} (hG : Good many most rows) (ho : ord.Perm (List.range rows.length)) (hn : na.Perm names24) {fs : List Int} (hf : ∀ f ∈ fs, 0 ≤ f ∧ f < rows.length) : fallL (renR rows ord na) (sgN ord fs) = permL ord (fallL rows fs) := by
  have hL := fall_low rows fs
  have hl := fall_len rows fs
  refine (fall_eq ⟨⟨by rw [tops_len, ren_len ho, perm_len ho], fun q c t h1 h2 => ?_, fun M l1 l2 l3 => ?_⟩, (perm_cons hG ho hn hl).mpr hL.cons⟩).symm
  · obtain ⟨p, e1, e2⟩ := perm_inv ho hl h1
    rw [tops_ren hG ho hn hf e1] at h2
    exact hL.le p c t e2 h2
  · rw [tops_len, ren_len ho] at l1
    obtain ⟨L, hLd⟩ : ∃ L : List Nat, L = (List.range rows.length).map fun p => M.getD (ord.idxOf p) 0 := ⟨_, rfl⟩
    have Ll : L.length = rows.length := by rw [hLd, List.length_map, List.length_range]
    have Lat : ∀ {p q c : Nat}, ord[q]? = some p → M[q]? = some c → L[p]? = some c := fun {p q c} h1 h2 => by
      have hp := (ord_mem ho).mp (List.mem_of_getElem? h1)
      rw [hLd, List.getElem?_map, List.getElem?_range hp]
      show some (M.getD (ord.idxOf p) 0) = _
      rw [ord_idx ho h1, List.getD_eq_getElem?_getD, h2]
      rfl
    have e : permL ord L = M := by
      apply List.ext_getElem?
      intro q
      rcases Nat.lt_or_ge q rows.length with z | z
      · have zl : q < ord.length := by rw [ord_len ho]; exact z
        have hq : ord[q]? = some ord[q] := List.getElem?_eq_getElem zl
        have hm : M[q]? = some M[q] := List.getElem?_eq_getElem (by omega)
        rw [perm_at hq (Lat hq hm), hm]
      · rw [List.getElem?_eq_none (l := M) (by omega), List.getElem?_eq_none (l := permL ord L) (by rw [perm_len ho]; exact z)]
    have c1 : ConsL rows L := (perm_cons hG ho hn Ll).mp (by rw [e]; exact l3)
    have c2 : LeL L (fallL rows fs) := hL.top L (by rw [tops_len]; exact Ll) (fun p c t h1 h2 => by
      have hp := (List.getElem?_eq_some_iff.mp h1).1
      have hq := ord_at ho (show p < rows.length by omega)
      have hm : M[ord.idxOf p]? = some c := by
        have h3 : (permL ord L)[ord.idxOf p]? = some c := perm_at hq h1
        rw [e] at h3
        exact h3
      rw [← tops_ren hG ho hn hf hq] at h2
      exact l2 _ c t hm h2) c1
    intro q c t h1 h2
    obtain ⟨p, e1, e2⟩ := perm_inv ho hl h2
    exact c2 p c t (Lat e1 h1) e2
end
end Sv

set_option maxHeartbeats 400000
/-! needed states, smaller histories with other names -/
namespace Sv
open PySem L2
section
variable {rows : List (List Int)} {ord : List Nat} {na : List Int} {many most : Nat} {us us' : List (Int × Int)}
theorem prs_ren (hG : Good many most rows) (hn : na.Perm names24) {p q : Nat} {row : List Int} (h : ord[q]? = some p) (hr : rows[p]? = some row) : (prs (renR rows ord na))[q]? = some (row.count 0 + 1) := by
  rw [prsA (ren_at h hr), count_nu hn _ (hG.row hr).2]
theorem need_ren (hG : Good many most rows) (ho : ord.Perm (List.range rows.length)) (hn : na.Perm names24) {f f' p q c : Nat} (hf : ord[f']? = some f) (hq : ord[q]? = some p) : NeedAt (renR rows ord na) f' q c ↔ NeedAt rows f p c := by
  have hfl := (ord_mem ho).mp (List.mem_of_getElem? hf)
  obtain ⟨row, hr⟩ := row_of ((ord_mem ho).mp (List.mem_of_getElem? hq))
  have e1 : sgN ord [(f : Int)] = [(f' : Int)] := by
    unfold sgN
    rw [List.map_cons, Int.toNat_natCast, ord_idx ho hf]
    rfl
  have h := fall_ren hG ho hn (fs := [(f : Int)]) (fun g hg => by rw [List.mem_singleton.mp hg]; omega)
  rw [e1] at h
  rw [need_iff, need_iff, h, prs_ren hG hn hq hr, prsA hr]
  constructor
  · rintro ⟨h1, h2⟩
    obtain ⟨p', e2, e3⟩ := perm_inv ho (fall_len rows _) h1
    rw [hq] at e2
    cases e2
    exact ⟨e3, h2⟩
  · rintro ⟨h1, h2⟩
    exact ⟨perm_at hq h1, h2⟩
def gS (ord : List Nat) (x : Int × Int) : Int × Int := (((ord.idxOf x.1.toNat : Nat) : Int), x.2)
theorem us_ren (hG : Good many most rows) (ho : ord.Perm (List.range rows.length)) (hn : na.Perm names24) (hN : NeedL rows us) (hN' : NeedL (renR rows ord na) us') {p q : Nat} (hq : ord[q]? = some p) {c : Nat} : ((q : Int), (c : Int)) ∈ us' ↔ ((p : Int), (c : Int)) ∈ us := by
  rw [hN'.2.2, hN.2.2]
  constructor
  · rintro ⟨f', q', c', h1, h2, h3⟩
    cases h3
    rw [ren_len ho] at h1
    have hf : ord[f']? = some (ord[f']'(by rw [ord_len ho]; exact h1)) := List.getElem?_eq_getElem _
    exact ⟨_, p, c, (ord_mem ho).mp (List.mem_of_getElem? hf), (need_ren hG ho hn hf hq).mp h2, rfl⟩
  · rintro ⟨f, p', c', h1, h2, h3⟩
    cases h3
    have hf := ord_at ho h1
    exact ⟨_, q, c, by rw [ren_len ho]; have := (List.getElem?_eq_some_iff.mp hf).1; rw [ord_len ho] at this; exact this, (need_ren hG ho hn hf hq).mpr h2, rfl⟩
theorem due_ren (h60 : ∀ r ∈ rows, r.length ≤ 60) (hG : Good many most rows) (ho : ord.Perm (List.range rows.length)) (hn : na.Perm names24) (hN : NeedL rows us) (hN' : NeedL (renR rows ord na) us') {qs : List (Int × Int)} (pm : qs.Perm (us.map (gS ord))) (pw : qs.Pairwise ltQ) : us' = qs := by
  have look : ∀ x ∈ us, ∃ p c : Nat, p < rows.length ∧ c ≤ 60 ∧ x = ((p : Int), (c : Int)) := fun x hx => by
    obtain ⟨f, p, c, h1, h2, rfl⟩ := (hN.2.2 x).mp hx
    have h3 := (need_iff.mp h2).2
    have := prs_le h60 p
    exact ⟨p, c, h2.lt, by omega, rfl⟩
  have gS_at : ∀ p c : Nat, gS ord ((p : Int), (c : Int)) = (((ord.idxOf p : Nat) : Int), (c : Int)) := fun p c => by
    unfold gS
    show (((ord.idxOf ((p : Int)).toNat : Nat) : Int), (c : Int)) = _
    rw [Int.toNat_natCast]
  refine rise_eq pc _ _ hN'.2.1 (ltQ_rise pw (pm.nodup_iff.mpr ?_) fun x hx => ?_) fun x => ?_
  · refine List.pairwise_map.mpr ((rise_nodup hN.2.1).imp_of_mem fun {a b} ha hb hne e => hne ?_)
    obtain ⟨p, c, h1, _, rfl⟩ := look a ha
    obtain ⟨p', c', h1', _, rfl⟩ := look b hb
    rw [gS_at, gS_at] at e
    have e1 := congrArg Prod.fst e
    have e2 := congrArg Prod.snd e
    have e1 : ((ord.idxOf p : Nat) : Int) = ((ord.idxOf p' : Nat) : Int) := e1
    have e2 : (c : Int) = (c' : Int) := e2
    have a1 := ord_at ho h1
    have a2 := ord_at ho h1'
    rw [show ord.idxOf p = ord.idxOf p' by omega, a2] at a1
    rw [Option.some.inj a1, e2]
  · obtain ⟨y, hy, rfl⟩ := List.mem_map.mp (pm.mem_iff.mp hx)
    obtain ⟨p, c, _, h2, rfl⟩ := look y hy
    rw [gS_at]
    show 0 ≤ (c : Int) ∧ (c : Int) < 64
    omega
  · rw [pm.mem_iff, List.mem_map]
    constructor
    · intro hx
      obtain ⟨f', q, c, h1, h2, rfl⟩ := (hN'.2.2 x).mp hx
      have hql := h2.lt
      rw [ren_len ho] at hql
      have hq : ord[q]? = some (ord[q]'(by rw [ord_len ho]; exact hql)) := List.getElem?_eq_getElem _
      refine ⟨_, (us_ren hG ho hn hN hN' hq).mp hx, ?_⟩
      rw [gS_at, ord_idx ho hq]
    · rintro ⟨y, hy, rfl⟩
      obtain ⟨p, c, h1, _, rfl⟩ := look y hy
      rw [gS_at]
      exact (us_ren hG ho hn hN hN' (ord_at ho h1)).mpr hy
theorem dOf_ren (hG : Good many most rows) (ho : ord.Perm (List.range rows.length)) (hn : na.Perm names24) (hN : NeedL rows us) (hN' : NeedL (renR rows ord na) us') {p q : Nat} (hq : ord[q]? = some p) : dOf (renR rows ord na) us' q = dOf rows us p := by
  funext c
  obtain ⟨row, hr⟩ := row_of ((ord_mem ho).mp (List.mem_of_getElem? hq))
  refine decide_eq_decide.mpr ?_
  have hql : q < rows.length := by
    have := (List.getElem?_eq_some_iff.mp hq).1
    rwa [ord_len ho] at this
  have hpl := (List.getElem?_eq_some_iff.mp hr).1
  rw [delU_mem', delU_mem', us_ren hG ho hn hN hN' hq]
  constructor
  · rintro ⟨⟨q', c', h1, h2, h3⟩, h4⟩
    cases h3
    rw [prs_ren hG hn hq hr] at h2
    exact ⟨⟨p, c, hpl, by rw [prsA hr]; exact h2, rfl⟩, h4⟩
  · rintro ⟨⟨p', c', h1, h2, h3⟩, h4⟩
    cases h3
    rw [prsA hr] at h2
    exact ⟨⟨q, c, by rw [ren_len ho]; exact hql, by rw [prs_ren hG hn hq hr]; exact h2, rfl⟩, h4⟩
theorem thin_map (hn : na.Perm names24) {d : Nat → Bool} : ∀ (n : Nat) (r : List Int), (∀ x ∈ r, -24 ≤ x ∧ x ≤ 24) → thin d n (r.map (nu na)) = (thin d n r).map (nu na)
  | _, [], _ => rfl
  | n, e :: r, h => by
    have h0 := nu_zero hn (h e List.mem_cons_self)
    have ht : ∀ x ∈ r, -24 ≤ x ∧ x ≤ 24 := fun y hy => h y (List.mem_cons_of_mem _ hy)
    rw [List.map_cons]
    unfold thin
    by_cases z : e = 0
    · subst z
      rw [if_pos (show nu na 0 = 0 from rfl), if_pos rfl, thin_map hn (n + 1) r ht]
      split
      · rfl
      · rw [List.map_cons]
        rfl
    · rw [if_neg (fun y => z (h0.mp y)), if_neg z, thin_map hn n r ht, List.map_cons]
theorem small_ren (hG : Good many most rows) (ho : ord.Perm (List.range rows.length)) (hn : na.Perm names24) (hN : NeedL rows us) (hN' : NeedL (renR rows ord na) us') : thinR (dOf (renR rows ord na) us') (renR rows ord na) = renR (thinR (dOf rows us) rows) ord na := by
  apply List.ext_getElem?
  intro q
  rcases Nat.lt_or_ge q rows.length with z | z
  · have hq : ord[q]? = some (ord[q]'(by rw [ord_len ho]; exact z)) := List.getElem?_eq_getElem _
    obtain ⟨row, hr⟩ := row_of ((ord_mem ho).mp (List.mem_of_getElem? hq))
    rw [thinR_at (ren_at hq hr), ren_at hq (thinR_at hr), dOf_ren hG ho hn hN hN' hq, thin_map hn 0 row (hG.row hr).2]
  · have h1 : (thinR (dOf (renR rows ord na) us') (renR rows ord na)).length = rows.length := by rw [thinR_len, ren_len ho]
    have h2 : (renR (thinR (dOf rows us) rows) ord na).length = rows.length := by
      unfold renR
      rw [List.length_map, ord_len ho]
    rw [List.getElem?_eq_none (by omega), List.getElem?_eq_none (by omega)]
end
end Sv

set_option maxHeartbeats 400000
/-! Over data: a history with other names. -/
namespace Sv
open PySem L2
theorem ints_at {xs : List Int} {i : Nat} {x : Int} (h : xs[i]? = some x) : (intsD xs)[i]? = some (D.int x) := by
  unfold intsD
  rw [List.getElem?_map, h]
  rfl
theorem w_renamed {rows : List (List Int)} {ord : List Nat} {na : List Int} {a b : Addr} {S : Sto} {R : DK} (hb : ∀ r ∈ rows, ∀ x ∈ r, -24 ≤ x ∧ x ≤ 24) (hl : ∀ r ∈ rows, r.length ≤ 900) (hr : rows.length ≤ 100) (ho : ord.Perm (List.range rows.length)) (hn : na.Perm names24) (ha : S a = some (.lst (natD ord))) (hbb : S b = some (.lst (intsD na)))
    (q : ∀ S', SG S S' → R (hisD (renR rows ord na)) S') : dFn 7 B_law_renamed_9b92 [hisD rows, .ref a, .ref b] S R := by
  have ol := ord_len ho
  have nl : na.length = 24 := by rw [hn.length_eq, names24_len]
  refine ⟨rfl, fun f nf => ?_⟩
  have sgf : SG S (S.put f (.lst [])) := .new nf
  have hf : (S.put f (.lst [])) f = some (.lst (([] : List (List Int)).map rowD)) := Sto.same
  have ha1 := sgf _ _ (fun z => z) ha
  generalize S.put f (.lst []) = S1 at sgf hf ha1 ⊢
  refine ⟨_, rfl, _, ⟨_, ha1, rfl⟩, fun i env S' => i ≤ ord.length ∧ ∃ (x4 x5 x6 : Option D), env = [some (hisD rows), some (.ref a), some (.ref b), some (.ref f), x4, x5, x6] ∧ SG S S' ∧ S' f = some (.lst (((ord.take i).map fun p => (rows.getD p []).map (nu na)).map rowD)),
    ⟨Nat.zero_le _, _, _, _, rfl, sgf, hf⟩, fun i env S' _ h => ?_, ?_, ?_⟩
  · obtain ⟨_, _, _, _, _, sg, _⟩ := h
    exact sg _ _ (fun z => z) ha
  · rintro i d env S2 hd ⟨hi0, x4, x5, x6, rfl, sg2, hf2⟩
    have hd : (natD ord)[i]? = some d := hd
    unfold natD at hd
    rw [List.getElem?_map] at hd
    obtain ⟨p, hp, rfl⟩ := Option.map_eq_some_iff.mp hd
    obtain ⟨row, hrow⟩ := row_of ((ord_mem ho).mp (List.mem_of_getElem? hp))
    have hrm := List.mem_of_getElem? hrow
    have hrl := hl row hrm
    have hrb := hb row hrm
    refine ⟨rfl, fun g ng => ?_⟩
    have gS : S g = none := SG.none sg2 ng
    have gf : g ≠ f := fun z => by rw [z, hf2] at ng; cases ng
    have sgg : SG S2 (S2.put g (.lst [.int 0])) := .new ng
    have hg : (S2.put g (.lst [.int 0])) g = some (.lst (.int 0 :: intsD ((row.take 0).map (nu na)))) := Sto.same
    have hf3 := sgg _ _ (fun z => z) hf2
    have sg3 := sg2.trans sgg
    generalize S2.put g (.lst [.int 0]) = S3 at sgg hg hf3 sg3 ⊢
    have hrd : (rowsD rows)[p]? = some (rowD row) := by
      unfold rowsD
      rw [List.getElem?_map, hrow]
      rfl
    refine ⟨_, rfl, _, rfl, _, (p : Int), _, rfl, rfl, atI_nat hrd, _, rfl, fun j env S' => j ≤ row.length ∧ ∃ (x6 : Option D), env = [some (hisD rows), some (.ref a), some (.ref b), some (.ref f), some (.int (p : Int)), some (.ref g), x6] ∧ SG S S' ∧ S' f = some (.lst (((ord.take i).map fun p => (rows.getD p []).map (nu na)).map rowD)) ∧ S' g = some (.lst (.int 0 :: intsD ((row.take j).map (nu na)))),
      ⟨Nat.zero_le _, _, rfl, sg3, hf3, hg⟩, fun _ _ _ _ _ => True.intro, ?_, ?_⟩
    · rintro j d env S4 hd ⟨hj0, x6, rfl, sg4, hf4, hg4⟩
      have hd : (intsD row)[j]? = some d := hd
      unfold intsD at hd
      rw [List.getElem?_map] at hd
      obtain ⟨e, he, rfl⟩ := Option.map_eq_some_iff.mp hd
      have hj := (List.getElem?_eq_some_iff.mp he).1
      have eb := hrb e (List.mem_of_getElem? he)
      have hb4 := sg4 _ _ (fun z => z) hbb
      have key : ∀ v : Int, v * (1 - 2 * (if decide (e < 0) = true then 1 else 0)) * (if (decide (e = 0) ^^ true) = true then 1 else 0) = if e = 0 then 0 else if e < 0 then 0 - v else v := fun v => by
        by_cases z : e = 0
        · subst z
          simp
        · by_cases y : e < 0
          · simp [z, y]
          · simp [z, y]
      obtain ⟨v, hv, hv2⟩ : ∃ v : Int, atI (intsD na) ((if e < 0 then -e else e) - 1) = some (.int v) ∧ (e ≠ 0 → v = na.getD (e.natAbs - 1) 0) := by
        by_cases z : e = 0
        · subst z
          obtain ⟨y, h23⟩ : ∃ y, na[23]? = some y := ⟨_, List.getElem?_eq_getElem (by omega)⟩
          refine ⟨y, ?_, fun w => absurd rfl w⟩
          have h1 : atI (intsD na) (-1) = some (.int y) := by
            unfold atI
            rw [intsD_len, nl]
            exact ints_at h23
          exact h1
        · have hk : na[e.natAbs - 1]? = some (na.getD (e.natAbs - 1) 0) := by
            rw [List.getD_eq_getElem?_getD, List.getElem?_eq_getElem (show e.natAbs - 1 < na.length by omega)]
            rfl
          refine ⟨_, ?_, fun _ => rfl⟩
          rw [show (if e < 0 then -e else e) - 1 = ((e.natAbs - 1 : Nat) : Int) by split <;> omega]
          exact atI_nat (ints_at hk)
      refine ⟨_, rfl, ⟨rfl, _, seqOf_lst hg4, noTup _⟩, _, rfl, _, rfl, e, rfl, _, _, _, seqOf_lst hb4, rfl, hv, _, rfl, _, rfl, .inl ⟨by decide, by decide⟩, .inr ⟨by show -(2 ^ 64) < 1 - 2 * (if decide (e < 0) = true then (1 : Int) else 0); split <;> omega, by show 1 - 2 * (if decide (e < 0) = true then (1 : Int) else 0) < 2 ^ 64; split <;> omega⟩, _, rfl, _, rfl, .inr ⟨by show -(2 ^ 64) < (if (decide (e = 0) ^^ true) = true then (1 : Int) else 0); split <;> omega, by show (if (decide (e = 0) ^^ true) = true then (1 : Int) else 0) < 2 ^ 64; split <;> omega⟩, g, _, _, rfl, rfl, hg4, ?_, hj, _, rfl, SG.keepP gS sg4 (.refl _), (Sto.ne gf.symm).trans hf4, ?_⟩
      · rw [List.length_cons, intsD_len, List.length_map, List.length_take]
        omega
      · rw [Sto.same, take_map he, List.map_append]
        unfold intsD
        rw [List.map_append]
        have h2 : v * (1 - 2 * (if decide (e < 0) = true then 1 else 0)) * (if (decide (e = 0) ^^ true) = true then 1 else 0) = nu na e := by
          rw [key v]
          unfold nu
          by_cases z : e = 0
          · rw [if_pos z, if_pos z]
          · rw [if_neg z, if_neg z, hv2 z]
        show some (Ob.lst (.int 0 :: ((row.take j).map (nu na)).map D.int ++ [.int (v * (1 - 2 * (if decide (e < 0) = true then 1 else 0)) * (if (decide (e = 0) ^^ true) = true then 1 else 0))])) = _
        rw [h2]
        rfl
    · rintro env S4 ⟨hj0, x6, rfl, sg4, hf4, hg4⟩
      have hg4 : S4 g = some (.lst (.int 0 :: intsD ((row.take (intsD row).length).map (nu na)))) := hg4
      rw [intsD_len, List.take_length] at hg4
      refine ⟨_, rfl, ⟨rfl, _, seqOf_lst hf4, noTup _⟩, _, rfl, 1, rfl, _, hg4, fun t nt => ?_⟩
      have hcut : cutD (D.int 0 :: intsD (row.map (nu na))) (some 1) none = intsD (row.map (nu na)) := by
        have := cutD_from (xs := D.int 0 :: intsD (row.map (nu na))) (i := 1) (by rw [List.length_cons]; omega)
        exact this
      rw [hcut]
      have sgt : SG S4 (S4.put t (.lst (intsD (row.map (nu na))))) := .new nt
      refine ⟨_, _, rfl, seqOf_lst Sto.same, fun ys z => (nomatch z), f, _, _, rfl, rfl, sgt _ _ (fun z => z) hf4, ?_, ?_⟩
      · rw [List.length_map, List.length_map, List.length_take]
        omega
      · refine ⟨(List.getElem?_eq_some_iff.mp hp).1, _, _, _, rfl, SG.keepP nf (sg4.trans sgt) (.refl _), ?_⟩
        rw [Sto.same, take_map hp, List.map_append, List.map_append]
        have hg' : rows.getD p [] = row := by rw [List.getD_eq_getElem?_getD, hrow]; rfl
        show _ = some (Ob.lst (_ ++ [rowD ((rows.getD p []).map (nu na))]))
        rw [hg']
        rfl
  · rintro env S2 ⟨hi0, x4, x5, x6, rfl, sg2, hf2⟩
    have hlen : (natD ord).length = ord.length := List.length_map ..
    have hf2 : S2 f = some (.lst (((ord.take (natD ord).length).map fun p => (rows.getD p []).map (nu na)).map rowD)) := hf2
    rw [hlen, List.take_length] at hf2
    exact ⟨_, rfl, _, _, rfl, seqOf_lst hf2, fun ys z => (nomatch z), q S2 sg2⟩
end Sv

set_option maxHeartbeats 400000
/-! Over data: a history and itself with other names. -/
namespace Sv
open PySem L2
theorem SG.trans' {a b c : Sto} (x : SG a b) (y : SG b c) : SG a c := SK.trans x y
theorem ord_of {ms : List Int} {n : Nat} (h : ms.Perm ((List.range n).map fun i : Nat => 0 + (i : Int))) : ∃ ord : List Nat, ord.Perm (List.range n) ∧ ms = ord.map fun (p : Nat) => (p : Int) := by
  refine ⟨ms.map Int.toNat, ?_, ?_⟩
  · have := h.map Int.toNat
    rw [List.map_map] at this
    have e : (List.range n).map (Int.toNat ∘ fun i : Nat => 0 + (i : Int)) = List.range n := by
      rw [List.map_congr_left (g := id) fun i _ => by show (0 + (i : Int)).toNat = i; omega]
      exact List.map_id _
    rw [e] at this
    exact this
  · rw [List.map_map]
    have hm : ∀ m ∈ ms, ((fun (p : Nat) => (p : Int)) ∘ Int.toNat) m = id m := fun m hm => by
      obtain ⟨i, _, hi⟩ := List.mem_map.mp (h.mem_iff.mp hm)
      show ((m.toNat : Nat) : Int) = m
      omega
    rw [List.map_congr_left hm]
    exact (List.map_id _).symm
theorem idx_cast {p : Nat} : ∀ ord : List Nat, (ord.map fun (p : Nat) => (p : Int)).idxOf (p : Int) = ord.idxOf p
  | [] => rfl
  | a :: r => by
    rw [List.map_cons, List.idxOf_cons, List.idxOf_cons, idx_cast r]
    by_cases z : a = p
    · subst z; simp
    · have : ¬ ((a : Int) = (p : Int)) := by omega
      rw [beq_false_of_ne z, beq_false_of_ne this]
theorem w_moved {st big : Addr} {rows : List (List Int)} {many most : Nat} {S : Sto} {R : DK} (hD : Deck st big S) (hG : Good many most rows) (h6 : many ≤ 6) (h60 : most ≤ 60) (q : ∀ S', Deck st big S' → R (.bl true) S') : dFn 12 B_law_moved_9561 [.ref st, hisD rows] S R := by
  have rl := hG.len
  have r60 := hG.row60 h60
  have rdl : (rowsD rows).length = rows.length := List.length_map ..
  refine ⟨_, rfl, _, rfl, _, _, rfl, rfl, ((rows.length : Nat) : Int), by rw [rdl], by omega, by omega, fun l nl => ⟨rfl, ?_⟩⟩
  have hl0 : (S.put l (.lst (rgD 0 ((rows.length : Int)).toNat))) l = some (.lst (intsD ((List.range rows.length).map fun i : Nat => 0 + (i : Int)))) := by
    rw [Sto.same, Int.toNat_natCast]
    unfold rgD intsD
    rw [List.map_map]
    rfl
  have D0 : Deck st big (S.put l (.lst (rgD 0 ((rows.length : Int)).toNat))) := hD.keep (.new nl)
  generalize S.put l (.lst (rgD 0 ((rows.length : Int)).toNat)) = S0 at hl0 D0 ⊢
  refine w_shuffled D0 (seqOf_lst hl0) (by rw [List.length_map, List.length_range]; omega) fun a ms1 S1 D1 k1 na1 ha1 pm1 => ?_
  obtain ⟨ord, ho, rfl⟩ := ord_of pm1
  have a12 := D0.fresh na1
  refine ⟨_, rfl, 1, 25, rfl, rfl, by decide, by decide, by decide, by decide, fun m nm => ⟨rfl, ?_⟩⟩
  have hm0 : (S1.put m (.lst (rgD 1 (25 - 1 : Int).toNat))) m = some (.lst (intsD names24)) := by rw [Sto.same, ← rg24D]; rfl
  have D1' : Deck st big (S1.put m (.lst (rgD 1 (25 - 1 : Int).toNat))) := D1.keep (.new nm)
  have ha1' : (S1.put m (.lst (rgD 1 (25 - 1 : Int).toNat))) a = _ := (Sto.ne fun z => by rw [z, nm] at ha1; cases ha1).trans ha1
  generalize S1.put m (.lst (rgD 1 (25 - 1 : Int).toNat)) = S2 at hm0 D1' ha1' ⊢
  refine w_shuffled D1' (seqOf_lst hm0) (by rw [names24_len]; decide) fun b na S3 D3 k3 nb1 hb3 hn => ⟨rfl, _, rfl, .inl (.inl rfl), _, _, rfl, _, _, rfl, rfl, ?_⟩
  have b12 := D1'.fresh nb1
  have ha3 : S3 a = some (.lst (natD ord)) := by rw [natD_ints]; exact k3 _ _ (nDP a12) ha1'
  have hbound : ∀ r ∈ rows, ∀ x ∈ r, -24 ≤ x ∧ x ≤ 24 := fun r hr x hx => by
    obtain ⟨i, hi⟩ := List.getElem?_of_mem hr
    exact (hG.row hi).2 x hx
  refine ⟨_, rfl, _, rfl, _, rfl, rfl, w_renamed hbound (fun r hr => by have := r60 r hr; omega) (by omega) ho hn ha3 hb3 fun S4 sg4 => ?_⟩
  have hG' : Good many most (renR rows ord na) := hG.ren ho hn
  have ol := ord_len ho
  have rnl : (renR rows ord na).length = rows.length := ren_len ho
  refine ⟨3, rfl, by decide, by decide, fun j env S' => Deck st big S' ∧ S' a = some (.lst (natD ord)) ∧ S' b = some (.lst (intsD na)) ∧ ∃ (x5 x6 x7 x8 : Option D), env = [some (.ref st), some (hisD rows), some (.ref a), some (.ref b), some (hisD (renR rows ord na)), x5, x6, x7, x8, none, none, none],
    ⟨D3.keep sg4, sg4 _ _ (fun z => z) ha3, sg4 _ _ (fun z => z) hb3, _, _, _, _, rfl⟩, fun _ _ _ _ _ => True.intro, ?_, ?_⟩
  · rintro j d env S5 hd ⟨D5, ha5, hb5, x5, x6, x7, x8, rfl⟩
    refine ⟨_, rfl, _, rfl, rfl, w_lost D5 rl.1 (by omega) fun fs S6 fl fb D6 k6 => ?_⟩
    refine ⟨_, rfl, _, rfl, rfl, w_fallen hG h6 h60 fl fun S7 sg7 => ?_⟩
    have ha7 := sg7 _ _ (fun z => z) (k6 _ _ (nDP a12) ha5)
    have hb7 := sg7 _ _ (fun z => z) (k6 _ _ (nDP b12) hb5)
    have D7 := D6.keep sg7
    refine ⟨_, rfl, _, rfl, _, rfl, lc_mapE fs D.int rfl (fun f => some (D.int ((ord.idxOf f.toNat : Nat) : Int))) (by omega) (fun _ _ => True.intro) (fun f hf S8 sg8 K Kn hk _ => ?_) fun p S8 np sg8 hp => ?_⟩
    · have ha8 := sg8 _ _ (fun z => z) ha7
      have hfb := fb f hf
      obtain ⟨g, rfl⟩ : ∃ g : Nat, f = (g : Int) := ⟨f.toNat, by omega⟩
      refine turn_y ?_
      refine ⟨_, rfl, ⟨rfl, _, seqOf_lst ha8, noTup _⟩, _, rfl, a, ord.map fun (p : Nat) => (p : Int), (g : Int), rfl, rfl, by rw [← natD_ints]; exact ha8, List.mem_map.mpr ⟨g, (ord_mem ho).mpr (by omega), rfl⟩, ?_⟩
      rw [idx_cast]
      exact hk _ (by rw [Int.toNat_natCast]) _ (.refl _)
    · rw [fm_map] at hp
      have e : (fs.map fun f => D.int ((ord.idxOf f.toNat : Nat) : Int)) = intsD (sgN ord fs) := by
        unfold sgN intsD
        rw [List.map_map]
        rfl
      rw [e] at hp
      refine ⟨_, _, rfl, seqOf_lst hp, fun ys z => (nomatch z), rfl, w_fallen (fs := sgN ord fs) hG' h6 h60 (by unfold sgN; rw [List.length_map]; exact fl) fun S9 sg9 => ?_⟩
      rw [fall_ren hG ho hn fb]
      have ha9 := sg9 _ _ (fun z => z) (sg8 _ _ (fun z => z) ha7)
      refine ⟨_, rfl, _, rfl, _, ⟨_, ha9, rfl⟩, lc_mapE ord (fun (p : Nat) => D.int (p : Int)) rfl (fun p => some (D.int (((fallL rows fs).getD p 0 : Nat) : Int))) (by omega) (fun S' sg => sg _ _ (fun z => z) ha9) (fun p hp S10 sg10 K Kn hk _ => ?_) fun t S10 nt sg10 ht => ?_⟩
      · have hpl := (ord_mem ho).mp hp
        have hc : (fallL rows fs)[p]? = some ((fallL rows fs).getD p 0) := by
          rw [List.getD_eq_getElem?_getD, List.getElem?_eq_getElem (show p < (fallL rows fs).length by rw [fall_len]; exact hpl)]
          rfl
        refine turn_y ?_
        exact ⟨_, rfl, _, rfl, _, _, _, rfl, rfl, atI_nat (natD_at hc), hk _ rfl _ (.refl _)⟩
      · rw [fm_map] at ht
        have e2 : (ord.map fun p => D.int (((fallL rows fs).getD p 0 : Nat) : Int)) = natD (permL ord (fallL rows fs)) := by
          unfold natD permL
          rw [List.map_map]
          rfl
        rw [e2] at ht
        refine ⟨_, _, rfl, seqOf_lst ht, fun ys z => (nomatch z), ?_⟩
        refine ⟨_, _, py_nat _, py_nat _, shaped_tup _, shaped_tup _, _, rfl, ?_⟩
        have en : (PyData.eqv (.tuple (((permL ord (fallL rows fs)).map fun (c : Nat) => (c : Int)).map PyData.int)) (.tuple (((permL ord (fallL rows fs)).map fun (c : Nat) => (c : Int)).map PyData.int)) ^^ true) = false := eqv_shaped (shaped_tup _)
        rw [en]
        refine goF ?_
        have k := SG.trans' sg8 (SG.trans' sg9 sg10)
        exact ⟨D7.keep k, k _ _ (fun z => z) ha7, k _ _ (fun z => z) hb7, _, _, _, _, rfl⟩
  · rintro env S5 ⟨D5, ha5, hb5, x5, x6, x7, x8, rfl⟩
    refine ⟨_, rfl, rfl, w_needed hG h6 h60 fun us S6 sg6 hN => ?_⟩
    have ha6 := sg6 _ _ (fun z => z) ha5
    have ul := hN.1
    refine ⟨_, rfl, lc_mapE us prD rfl (fun x => some (prD (gS ord x))) (by omega) (fun _ _ => True.intro) (fun x hx S7 sg7 K Kn hk _ => ?_) fun p S7 np sg7 hp => ?_⟩
    · obtain ⟨f, g, c, _, h2, rfl⟩ := (hN.2.2 x).mp hx
      have ha7 := sg7 _ _ (fun z => z) ha6
      refine ⟨_, rfl, .inl (.inl rfl), _, _, rfl, _, _, rfl, rfl, ?_⟩
      refine yesS ?_
      refine ⟨_, rfl, ⟨rfl, _, seqOf_lst ha7, noTup _⟩, _, rfl, a, ord.map fun (p : Nat) => (p : Int), (g : Int), rfl, rfl, by rw [← natD_ints]; exact ha7, List.mem_map.mpr ⟨g, (ord_mem ho).mpr h2.lt, rfl⟩, _, rfl, rfl, ?_⟩
      rw [idx_cast]
      refine hk _ ?_ _ (.refl _)
      unfold gS
      show some (prD (((ord.idxOf ((g : Int)).toNat : Nat) : Int), (c : Int))) = _
      rw [Int.toNat_natCast]
      rfl
    · rw [fm_map] at hp
      have e : us.map (fun x => prD (gS ord x)) = (us.map (gS ord)).map prD := by rw [List.map_map]; rfl
      rw [e] at hp
      refine ⟨p, us.map (gS ord), rfl, hp, fun qs t pm pw nt => ?_⟩
      have sgt : SG S7 (S7.put t (.lst (qs.map prD))) := .new nt
      have ht : (S7.put t (.lst (qs.map prD))) t = _ := Sto.same
      have k8 : SG S5 (S7.put t (.lst (qs.map prD))) := SG.trans' (SG.trans' sg6 sg7) sgt
      generalize S7.put t (.lst (qs.map prD)) = S8 at ht k8 ⊢
      refine ⟨_, rfl, rfl, w_needed hG' h6 h60 fun us' S9 sg9 hN' => ⟨_, _, rfl, rfl, fun v nv => ?_⟩⟩
      obtain rfl := due_ren r60 hG ho hn hN hN' pm pw
      have sgv : SG S9 (S9.put v (.lst (us'.map prD))) := .new nv
      have k9 : SG S5 (S9.put v (.lst (us'.map prD))) := SG.trans' (SG.trans' k8 sg9) sgv
      refine ⟨_, rfl, .list (us'.map pD), .list (us'.map pD), .lst Sto.same (pys_pairs _), .lst (sgv _ _ (fun z => z) (sg9 _ _ (fun z => z) ht)) (pys_pairs _), pDl_shaped _, pDl_shaped _, _, rfl, ?_⟩
      rw [eqv_shaped (pDl_shaped _)]
      refine goF ?_
      generalize S9.put v (.lst (us'.map prD)) = S10 at k9 ⊢
      refine ⟨_, rfl, rfl, w_small hG' h6 h60 fun us2 S11 sg11 hN2 => ?_⟩
      refine ⟨_, rfl, rfl, w_small hG h6 h60 fun us3 S12 sg12 hN3 => ?_⟩
      have k12 : SG S5 S12 := SG.trans' (SG.trans' k9 sg11) sg12
      have hGs := hG.thin (dOf rows us3)
      have s60 := hGs.row60 h60
      have sl := thinR_len (dOf rows us3) rows
      refine ⟨_, rfl, _, rfl, rfl, w_renamed (rows := thinR (dOf rows us3) rows) (fun r hr x hx => by
          obtain ⟨i, hi⟩ := List.getElem?_of_mem hr
          exact (hGs.row hi).2 x hx) (fun r hr => by have := s60 r hr; omega) (by omega) (by rw [sl]; exact ho) hn (k12 _ _ (fun z => z) ha5) (k12 _ _ (fun z => z) hb5) fun S13 sg13 => ?_⟩
      rw [small_ren hG ho hn hN3 hN2]
      refine ⟨_, _, py_rows _, py_rows _, rPy_shaped _, rPy_shaped _, ?_⟩
      have en : (PyData.eqv (rPy (renR (thinR (dOf rows us3) rows) ord na)) (rPy (renR (thinR (dOf rows us3) rows) ord na)) ^^ false) = true := by
        rw [SeqAt.eqv_refl _ (SeqAt.canLay_of_shaped (rPy_shaped _))]
        rfl
      rw [en]
      exact q _ (D5.keep (SG.trans' k12 sg13))
end Sv

set_option maxHeartbeats 400000
/-! Over data: the law's places of states. -/
namespace Sv
open PySem L2
theorem w_spots {row : List Int} {S : Sto} {R : DK} (hl : row.length ≤ 900) (k : ∀ t S', SG S S' → S' t = some (.lst (intsD (places row))) → R (.ref t) S') : dFn 3 B_law_spots_60b5 [.tup (intsD row)] S R := by
  refine ⟨rfl, fun a na => ?_⟩
  have sga : SG S (S.put a (.lst [.int 0])) := .new na
  have ha : (S.put a (.lst [.int 0])) a = some (.lst [.int 0]) := Sto.same
  generalize S.put a (.lst [.int 0]) = S1 at sga ha ⊢
  refine ⟨_, rfl, _, _, rfl, rfl, lc_mapE (row.mapIdx fun i e => (i, e)) (fun x => .tup [.int ((x.1 : Nat) : Int), .int x.2]) (enD_map D.int row) (fun x => if decide (x.2 = 0) = true then some (D.int ((x.1 : Nat) : Int)) else none) (by rw [List.length_mapIdx]; omega) (fun _ _ => True.intro)
    (fun x _ S1 sg K Kn hk hn => ⟨_, rfl, .inl (.inl rfl), _, _, rfl, _, _, rfl, rfl, _, rfl, _, rfl, iteB (fun e => ?_) (fun e => ?_)⟩) fun p S2 np sg hp => ?_⟩
  · rw [xor_ff] at e
    exact ⟨_, rfl, hk _ (if_pos e) _ (.refl _)⟩
  · rw [xor_ff] at e
    exact hn (by show (if decide (x.2 = 0) = true then _ else _) = _; rw [e]; rfl) _ (.refl _)
  · rw [fm_ite (fun x : Nat × Int => D.int ((x.1 : Nat) : Int)) (fun x => decide (x.2 = 0))] at hp
    have e : ((row.mapIdx fun i e => (i, e)).filter fun x => decide (x.2 = 0)).map (fun x => D.int ((x.1 : Nat) : Int)) = intsD (zerU row.length row) := by
      rw [← zer_eq]
      unfold intsD
      rw [List.map_map]
      rfl
    rw [e] at hp
    have h1 := zerU_len row row.length (Nat.le_refl _)
    have h2 : ((row.take row.length).count 0) ≤ (row.take row.length).length := List.count_le_length ..
    rw [List.length_take] at h2
    refine ⟨_, _, sg _ _ (fun z => z) ha, hp, by rw [intsD_len]; show 1 + _ ≤ 100000; omega, fun b nb => ⟨_, rfl, _, _, rfl, rfl, rfl, fun c nc => ?_⟩⟩
    have sgb : SG S2 (S2.put b (.lst ([.int 0] ++ intsD (zerU row.length row)))) := .new nb
    have hb : (S2.put b (.lst ([.int 0] ++ intsD (zerU row.length row)))) b = some (.lst ([.int 0] ++ intsD (zerU row.length row))) := Sto.same
    generalize S2.put b (.lst ([.int 0] ++ intsD (zerU row.length row))) = S3 at sgb hb nc ⊢
    refine ⟨_, _, (Sto.ne fun z => by rw [z, nc] at hb; cases hb).trans hb, Sto.same, ?_, fun t nt => ?_⟩
    · rw [List.length_append, intsD_len]
      show 1 + _ + 1 ≤ 100000
      omega
    · refine k t _ (SG.trans' (SG.trans' (SG.trans' sga sg) sgb) (SG.trans' (.new nc) (.new nt))) ?_
      rw [Sto.same, intsD_len]
      unfold places intsD
      rw [List.map_cons, List.map_append]
      rfl
end Sv

set_option maxHeartbeats 400000
/-! all lines of a history: mathematics -/
namespace Sv
open PySem L2
def cutsU (rows : List (List Int)) : Nat → List (List Nat)
  | 0 => [[]]
  | i + 1 => (cutsU rows i).flatMap fun c => (List.range ((rows.getD i []).count 0 + 2)).map fun n => c ++ [n]
def cutD' (c : List Nat) : D := .tup (natD c)
theorem getD_count {rows : List (List Int)} {B : Nat} (h : ∀ r ∈ rows, r.count 0 + 2 ≤ B) (h2 : 2 ≤ B) (i : Nat) : (rows.getD i []).count 0 + 2 ≤ B := by
  rw [List.getD_eq_getElem?_getD]
  cases e : rows[i]? with
  | none => exact h2
  | some r => exact h r (List.mem_of_getElem? e)
theorem cutsU_lenB {rows : List (List Int)} {B : Nat} (h : ∀ r ∈ rows, r.count 0 + 2 ≤ B) (h2 : 2 ≤ B) : ∀ i, (cutsU rows i).length ≤ B ^ i
  | 0 => Nat.le_refl _
  | i + 1 => by
    have ih := cutsU_lenB h h2 i
    have hc : ∀ c ∈ cutsU rows i, ((List.range ((rows.getD i []).count 0 + 2)).map fun n => c ++ [n]).length ≤ B := fun c _ => by
      rw [List.length_map, List.length_range]
      exact getD_count h h2 i
    have := flat_le _ B (cutsU rows i) hc
    show ((cutsU rows i).flatMap _).length ≤ _
    rw [Nat.pow_succ]
    exact Nat.le_trans this (Nat.mul_le_mul_right B ih)
theorem cutsU_each {rows : List (List Int)} : ∀ i, ∀ c ∈ cutsU rows i, c.length = i
  | 0, c, h => by
    rw [List.mem_singleton.mp h]
    rfl
  | i + 1, c, h => by
    obtain ⟨a, h1, h2⟩ := List.mem_flatMap.mp h
    obtain ⟨n, _, rfl⟩ := List.mem_map.mp h2
    rw [List.length_append, cutsU_each i a h1]
    rfl
theorem cutsU_mem {rows : List (List Int)} : ∀ i c, c ∈ cutsU rows i ↔ c.length = i ∧ ∀ j x, c[j]? = some x → x ≤ (rows.getD j []).count 0 + 1
  | 0, c => by
    show c ∈ [[]] ↔ _
    rw [List.mem_singleton]
    constructor
    · rintro rfl
      exact ⟨rfl, fun j x h => by simp at h⟩
    · rintro ⟨h, _⟩
      exact List.eq_nil_of_length_eq_zero h
  | i + 1, c => by
    show c ∈ (cutsU rows i).flatMap _ ↔ _
    rw [List.mem_flatMap]
    constructor
    · rintro ⟨a, h1, h2⟩
      obtain ⟨n, hn, rfl⟩ := List.mem_map.mp h2
      have hn := List.mem_range.mp hn
      obtain ⟨h3, h4⟩ := (cutsU_mem i a).mp h1
      refine ⟨by rw [List.length_append, h3]; rfl, fun j x hj => ?_⟩
      rcases Nat.lt_or_ge j a.length with z | z
      · rw [List.getElem?_append_left z] at hj
        exact h4 j x hj
      · rw [List.getElem?_append_right z] at hj
        have : j - a.length = 0 := by
          have := (List.getElem?_eq_some_iff.mp hj).1
          simp at this
          omega
        rw [this] at hj
        cases hj
        have : j = i := by omega
        subst this
        omega
    · rintro ⟨h1, h2⟩
      have hne : c ≠ [] := fun z => by rw [z] at h1; cases h1
      have e := List.dropLast_concat_getLast hne
      generalize c.dropLast = a at e
      generalize c.getLast hne = n at e
      subst e
      have la : a.length = i := by rw [List.length_append] at h1; simpa using h1
      refine ⟨a, (cutsU_mem i a).mpr ⟨la, fun j x hj => h2 j x (by rw [List.getElem?_append_left (List.getElem?_eq_some_iff.mp hj).1]; exact hj)⟩, List.mem_map.mpr ⟨n, List.mem_range.mpr ?_, rfl⟩⟩
      have := h2 i n (by rw [List.getElem?_append_right (by omega), la, Nat.sub_self]; rfl)
      omega
/-- lines -/
theorem cutsU_lines {rows : List (List Int)} {c : List Nat} : c ∈ cutsU rows rows.length ↔ c.length = rows.length ∧ LeL c (prs rows) := by
  rw [cutsU_mem]
  refine and_congr_right fun hl => ⟨fun h i x y h1 h2 => ?_, fun h j x hj => ?_⟩
  · have := h i x h1
    unfold prs at h2
    rw [List.getElem?_map] at h2
    obtain ⟨r, hr, rfl⟩ := Option.map_eq_some_iff.mp h2
    rw [List.getD_eq_getElem?_getD, hr] at this
    exact this
  · have hj' : j < rows.length := by rw [← hl]; exact (List.getElem?_eq_some_iff.mp hj).1
    have hr := List.getElem?_eq_getElem hj'
    have := h j x _ hj (prsA hr)
    rw [List.getD_eq_getElem?_getD, hr]
    exact this
open Classical in
noncomputable def consB (rows : List (List Int)) (c : List Nat) : Bool := decide (ConsL rows c)
theorem consB_iff {rows : List (List Int)} {c : List Nat} : consB rows c = true ↔ ConsL rows c := by
  classical
  unfold consB
  exact decide_eq_true_iff
/-- all consistent lines -/
noncomputable def linesU (rows : List (List Int)) : List (List Nat) := (cutsU rows rows.length).filter (consB rows)
theorem linesU_mem {rows : List (List Int)} {c : List Nat} : c ∈ linesU rows ↔ c.length = rows.length ∧ LeL c (prs rows) ∧ ConsL rows c := by
  unfold linesU
  rw [List.mem_filter, cutsU_lines, consB_iff, and_assoc]
end Sv

set_option maxHeartbeats 400000
/-! Over data: all cuts of a history. -/
namespace Sv
open PySem L2
theorem cutsU_len {rows : List (List Int)} (h : ∀ r ∈ rows, r.length ≤ 10) : ∀ i, (cutsU rows i).length ≤ 12 ^ i
  | 0 => Nat.le_refl _
  | i + 1 => by
    have ih := cutsU_len h i
    have hc : ∀ c ∈ cutsU rows i, ((List.range ((rows.getD i []).count 0 + 2)).map fun n => c ++ [n]).length ≤ 12 := fun c _ => by
      rw [List.length_map, List.length_range, List.getD_eq_getElem?_getD]
      cases e : rows[i]? with
      | none => show ([] : List Int).count 0 + 2 ≤ 12; decide
      | some r =>
        have h1 := h r (List.mem_of_getElem? e)
        have h2 : r.count 0 ≤ r.length := List.count_le_length ..
        show r.count 0 + 2 ≤ 12
        omega
    have := flat_le _ 12 (cutsU rows i) hc
    show ((cutsU rows i).flatMap _).length ≤ _
    rw [Nat.pow_succ]
    exact Nat.le_trans this (Nat.mul_le_mul_right 12 ih)
theorem w_cuts {rows : List (List Int)} {S : Sto} {R : DK} (h4 : rows.length ≤ 4) (h10 : ∀ r ∈ rows, r.length ≤ 10) (k : ∀ f S', SG S S' → S' f = some (.lst ((cutsU rows rows.length).map cutD')) → R (.ref f) S') : dFn 6 B_law_cuts_850b [hisD rows] S R := by
  have c12 : ∀ i, i ≤ 4 → (cutsU rows i).length ≤ 20736 := fun i hi => Nat.le_trans (cutsU_len h10 i) (Nat.le_trans (Nat.pow_le_pow_right (by decide) hi) (by decide))
  refine ⟨rfl, rfl, fun f0 nf0 => ?_⟩
  have sg0 : SG S (S.put f0 (.lst [.tup []])) := .new nf0
  have hf0 : (S.put f0 (.lst [.tup []])) f0 = some (.lst ((cutsU rows 0).map cutD')) := Sto.same
  generalize S.put f0 (.lst [.tup []]) = S1 at sg0 hf0 ⊢
  refine ⟨_, rfl, _, rfl, fun i env S' => i ≤ rows.length ∧ ∃ (f : Addr) (x2 x3 x4 : Option D), env = [some (hisD rows), some (.ref f), x2, x3, x4, none] ∧ SG S S' ∧ S' f = some (.lst ((cutsU rows i).map cutD')), ⟨Nat.zero_le _, f0, _, _, _, rfl, sg0, hf0⟩, fun _ _ _ _ _ => True.intro, ?_, ?_⟩
  · rintro i d env S2 hd ⟨hi0, f, x2, x3, x4, rfl, sg2, hf2⟩
    have hd : (rows.map rowD)[i]? = some d := hd
    rw [List.getElem?_map] at hd
    obtain ⟨row, hrow, rfl⟩ := Option.map_eq_some_iff.mp hd
    have hi := (List.getElem?_eq_some_iff.mp hrow).1
    have hg' : rows.getD i [] = row := by rw [List.getD_eq_getElem?_getD, hrow]; rfl
    have hr := h10 row (List.mem_of_getElem? hrow)
    have hc : row.count 0 ≤ row.length := List.count_le_length ..
    refine ⟨rfl, fun g ng => ?_⟩
    have gS : S g = none := SG.none sg2 ng
    have fg : f ≠ g := fun z => by rw [← z, hf2] at ng; cases ng
    have sgg : SG S2 (S2.put g (.lst [])) := .new ng
    have hg : (S2.put g (.lst [])) g = some (.lst ((((cutsU rows i).take 0).flatMap fun c => (List.range (row.count 0 + 2)).map fun n => c ++ [n]).map cutD')) := Sto.same
    have hf3 := sgg _ _ (fun z => z) hf2
    have sg3 := sg2.trans sgg
    generalize S2.put g (.lst []) = S3 at sgg hg hf3 sg3 ⊢
    refine ⟨_, rfl, _, ⟨_, hf3, rfl⟩, fun j env S' => j ≤ (cutsU rows i).length ∧ ∃ (x4 : Option D), env = [some (hisD rows), some (.ref f), some (rowD row), some (.ref g), x4, none] ∧ SG S S' ∧ S' f = some (.lst ((cutsU rows i).map cutD')) ∧ S' g = some (.lst ((((cutsU rows i).take j).flatMap fun c => (List.range (row.count 0 + 2)).map fun n => c ++ [n]).map cutD')),
      ⟨Nat.zero_le _, _, rfl, sg3, hf3, hg⟩, fun j env S' _ h => ?_, ?_, ?_⟩
    · obtain ⟨_, _, _, _, hf, _⟩ := h
      exact hf
    · rintro j d env S4 hd ⟨hj0, x4, rfl, sg4, hf4, hg4⟩
      have hd : ((cutsU rows i).map cutD')[j]? = some d := hd
      rw [List.getElem?_map] at hd
      obtain ⟨c, hcj, rfl⟩ := Option.map_eq_some_iff.mp hd
      have hj := (List.getElem?_eq_some_iff.mp hcj).1
      have cl := cutsU_each i c (List.mem_of_getElem? hcj)
      refine ⟨_, rfl, ⟨rfl, _, seqOf_lst hg4, noTup _⟩, _, rfl, ⟨_, rfl⟩, row, 0, rfl, rfl, (((row.count 0 : Nat) : Int) + 2), rfl, by omega, by omega, ?_⟩
      refine lc_mapE (List.range (row.count 0 + 2)) (fun n : Nat => .int (0 + (n : Int))) (by show rgD 0 (((row.count 0 : Nat) : Int) + 2).toNat = _; rw [show (((row.count 0 : Nat) : Int) + 2).toNat = row.count 0 + 2 by omega]; rfl) (fun n : Nat => some (cutD' (c ++ [n]))) (by rw [List.length_range]; omega) (fun _ _ => True.intro) (fun n _ S5 sg5 K Kn hk _ => turn_y ⟨_, rfl, _, rfl, rfl, ?_, ?_⟩) fun p S5 np sg5 hp => ?_
      · rw [natD_len, cl]
        show i + 1 ≤ 100000
        omega
      · refine hk _ ?_ _ (.refl _)
        unfold cutD' natD
        rw [List.map_append]
        show some (D.tup (_ ++ [.int (n : Int)])) = some (D.tup (_ ++ [.int (0 + (n : Int))]))
        rw [Int.zero_add]
      · have e : ((List.range (row.count 0 + 2)).filterMap fun n => some (cutD' (c ++ [n]))) = ((List.range (row.count 0 + 2)).map fun n => c ++ [n]).map cutD' := by
          rw [fm_map, List.map_map]
          rfl
        rw [e] at hp
        have hlen2 : (((cutsU rows i).take j).flatMap fun c => (List.range (row.count 0 + 2)).map fun n => c ++ [n]).length ≤ 20736 := by
          have h1 := flat_le (fun c => (List.range (row.count 0 + 2)).map fun n => c ++ [n]) 12 ((cutsU rows i).take j) fun c _ => by rw [List.length_map, List.length_range]; omega
          have h2 : ((cutsU rows i).take j).length ≤ 1728 := by
            have h3 := cutsU_len h10 i
            have h5 : 12 ^ i ≤ 12 ^ 3 := Nat.pow_le_pow_right (by decide) (by omega)
            rw [List.length_take]
            have : 12 ^ 3 = 1728 := by decide
            omega
          have := Nat.mul_le_mul_right 12 h2
          omega
        refine ⟨g, p, _, _, rfl, rfl, sg5 _ _ (fun z => z) hg4, hp, ?_, hj, _, rfl, SG.keepP gS sg4 sg5, (Sto.ne fg).trans (sg5 _ _ (fun z => z) hf4), ?_⟩
        · rw [List.length_map, List.length_map, List.length_map, List.length_range]
          omega
        · rw [Sto.same, ← List.map_append, take_map hcj, List.flatMap_append]
          simp
    · rintro env S4 ⟨hj0, x4, rfl, sg4, hf4, hg4⟩
      have hlen : ((cutsU rows i).map cutD').length = (cutsU rows i).length := List.length_map ..
      have hg4 : S4 g = some (.lst ((((cutsU rows i).take ((cutsU rows i).map cutD').length).flatMap fun c => (List.range (row.count 0 + 2)).map fun n => c ++ [n]).map cutD')) := hg4
      rw [hlen, List.take_length] at hg4
      refine ⟨_, rfl, hi, g, _, _, _, rfl, sg4, ?_⟩
      rw [hg4]
      show _ = some (Ob.lst (((cutsU rows i).flatMap fun c => (List.range ((rows.getD i []).count 0 + 2)).map fun n => c ++ [n]).map cutD'))
      rw [hg']
  · rintro env S2 ⟨hi0, f, x2, x3, x4, rfl, sg2, hf2⟩
    have hlen : (rowsD rows).length = rows.length := List.length_map ..
    have hf2 : S2 f = some (.lst ((cutsU rows (rowsD rows).length).map cutD')) := hf2
    rw [hlen] at hf2
    exact ⟨_, rfl, k f S2 sg2 hf2⟩
end Sv

set_option maxHeartbeats 400000
/-! Over data: texts of lines and histories. -/
namespace Sv
open PySem PySem.Spec PyProof.Rows L2
theorem w_same {cs : List Nat} {S : Sto} {R : DK} (h6 : cs.length ≤ 100) (h : ∀ c ∈ cs, c ≤ 1000) (q : R (.bl true) S) : dFn 2 B_law_same_7705 [.tup (natD cs), .tup (natD cs)] S R := by
  refine ⟨_, rfl, _, _, rfl, py_nat cs, nat_text h6 h, _, rfl, _, _, rfl, py_nat cs, nat_text h6 h, ?_⟩
  show R (.bl (decide (_ = _) ^^ false)) S
  rw [decide_eq_true rfl]
  exact q
end Sv

set_option maxHeartbeats 400000
/-! Over data: the places of a cut. -/
namespace Sv
open PySem L2
theorem zip_rng {α β : Type} {g : α → D} {h : β → D} {xs : List α} {ys : List β} {n : Nat} (a : α) (b : β) (h1 : xs.length = n) (h2 : ys.length = n) : zipD (xs.map g) (ys.map h) = (List.range n).map fun p => D.tup [g (xs.getD p a), h (ys.getD p b)] := by
  apply List.ext_getElem?
  intro i
  unfold zipD
  rw [List.getElem?_zipWith, List.getElem?_map, List.getElem?_map, List.getElem?_map]
  rcases Nat.lt_or_ge i n with z | z
  · have e1 : xs[i]? = some xs[i] := List.getElem?_eq_getElem (by omega)
    have e2 : ys[i]? = some ys[i] := List.getElem?_eq_getElem (by omega)
    rw [List.getElem?_range z, e1, e2]
    show some (D.tup [g xs[i], h ys[i]]) = some (D.tup [g (xs.getD i a), h (ys.getD i b)])
    rw [List.getD_eq_getElem?_getD, List.getD_eq_getElem?_getD, e1, e2]
    rfl
  · rw [List.getElem?_eq_none (l := xs) (by omega), List.getElem?_eq_none (l := List.range n) (by rw [List.length_range]; exact z)]
    rfl
/-- the places of a cut's states -/
def cutP (rows : List (List Int)) (cs : List Nat) : List Int := (List.range rows.length).map fun p => (places (rows.getD p [])).getD (cs.getD p 0) 0
theorem w_lplaces {rows : List (List Int)} {cs : List Nat} {S : Sto} {R : DK} (hr : rows.length ≤ 100) (hl : ∀ r ∈ rows, r.length ≤ 900) (hc : cs.length = rows.length) (hb : ∀ (p : Nat) (row : List Int) (c : Nat), rows[p]? = some row → cs[p]? = some c → c ≤ row.count 0 + 1)
    (k : ∀ t S', SG S S' → S' t = some (.lst (intsD (cutP rows cs))) → R (.ref t) S') : dFn 4 B_law_places_b8ae [hisD rows, .tup (natD cs)] S R := by
  refine ⟨_, rfl, _, rfl, _, _, .inl ⟨rfl, ?_⟩⟩
  refine lc_mapE (List.range rows.length) (fun p => D.tup [rowD (rows.getD p []), .int ((cs.getD p 0 : Nat) : Int)]) (zip_rng (g := rowD) (h := fun c : Nat => D.int (c : Int)) [] 0 rfl hc) (fun p => some (D.int ((places (rows.getD p [])).getD (cs.getD p 0) 0))) (by rw [List.length_range]; omega) (fun _ _ => True.intro) (fun p hp S1 sg K Kn hk _ => ?_) fun t S1 nt sg ht => ?_
  · have hp := List.mem_range.mp hp
    obtain ⟨row, hrow⟩ := row_of hp
    obtain ⟨c, hcp⟩ : ∃ c, cs[p]? = some c := ⟨_, List.getElem?_eq_getElem (by omega)⟩
    have e1 : rows.getD p [] = row := by rw [List.getD_eq_getElem?_getD, hrow]; rfl
    have e2 : cs.getD p 0 = c := by rw [List.getD_eq_getElem?_getD, hcp]; rfl
    rw [e1, e2] at hk ⊢
    have hcb := hb p row c hrow hcp
    have hx : (places row)[c]? = some ((places row).getD c 0) := by
      rw [List.getD_eq_getElem?_getD, List.getElem?_eq_getElem (show c < (places row).length by rw [places_len]; omega)]
      rfl
    refine ⟨_, rfl, .inl (.inl rfl), _, _, rfl, _, _, rfl, rfl, ?_⟩
    refine yesS ?_
    exact ⟨_, rfl, rfl, w_spots (hl row (List.mem_of_getElem? hrow)) fun t S2 sg2 ht => ⟨_, rfl, _, _, _, seqOf_lst ht, rfl, atI_nat (ints_at hx), hk _ rfl _ sg2⟩⟩
  · rw [fm_map] at ht
    refine k t S1 sg ?_
    rw [ht]
    unfold cutP intsD
    rw [List.map_map]
    rfl
end Sv

set_option maxHeartbeats 800000
set_option autoImplicit false
/-! Over data: the law's own letters, and which lines fit. -/
namespace Sv
open PySem PySem.Spec PyProof.Rows L2
def AtL (rows : List (List Int)) (p i : Nat) (e : Int) : Prop := ∃ row, rows[p]? = some row ∧ row[i]? = some e
theorem sent_ofL {many most : Nat} {rows : List (List Int)} (h : Good many most rows) {q j : Nat} {m : Int} (hm : 0 < m) (h1 : AtL rows q j (0 - m)) : ∃ p i, AtL rows p i m := by
  obtain ⟨c, nm, o, u, k, _, _, hp, g, _⟩ := h
  obtain ⟨row, h2, h3⟩ := h1
  have h4 : (0 - m) ∈ rows.flatten := List.mem_flatten.mpr ⟨row, List.mem_of_getElem? h2, List.mem_of_getElem? h3⟩
  have h5 : m ∈ negs rows.flatten := List.mem_map.mpr ⟨0 - m, List.mem_filter.mpr ⟨h4, decide_eq_true (by omega)⟩, by omega⟩
  have h6 := (g.once hp).2.mem_iff.mp (List.mem_append_left _ h5)
  have h7 := (g.once hp).1.mem_iff.mpr h6
  obtain ⟨r, hr, hmr⟩ := List.mem_flatten.mp (List.mem_filter.mp h7).1
  obtain ⟨p, hp1⟩ := List.getElem?_of_mem hr
  obtain ⟨i, hi⟩ := List.getElem?_of_mem hmr
  exact ⟨p, i, r, hp1, hi⟩
theorem cnt_monoL (row : List Int) {i j : Nat} (h : i ≤ j) : (row.take i).count 0 ≤ (row.take j).count 0 := by
  have : row.take i = (row.take j).take i := by rw [List.take_take, Nat.min_eq_left h]
  rw [this]
  exact List.Sublist.count_le _ (List.take_sublist _ _)
theorem place_le {row : List Int} {n i : Nat} {e : Int} (hn : n ≤ row.count 0 + 1) (h : row[i]? = some e) (he : e ≠ 0) : (places row).getD n 0 ≤ (i : Int) ↔ n ≤ (row.take i).count 0 := by
  have hi := (List.getElem?_eq_some_iff.mp h).1
  have hl := zerU_len row row.length (Nat.le_refl _)
  rw [List.take_length] at hl
  unfold places
  cases n with
  | zero => exact ⟨fun _ => Nat.zero_le _, fun _ => by show (0 : Int) ≤ i; omega⟩
  | succ n =>
    rw [List.getD_cons_succ, List.getD_eq_getElem?_getD]
    rcases Nat.lt_or_ge n (zerU row.length row).length with z | z
    · rw [List.getElem?_append_left z]
      have hx := List.getElem?_eq_getElem z
      generalize (zerU row.length row)[n] = x at hx
      obtain ⟨j, hj, rfl, h0, hc⟩ := (zer_at row _ (Nat.le_refl _) n x).mp hx
      rw [hx]
      show (j : Int) ≤ i ↔ _
      have hne : j ≠ i := fun y => by
        subst y
        rw [h] at h0
        exact he (Option.some.inj h0)
      constructor
      · intro hle
        have h1 := cnt_monoL row (show j + 1 ≤ i by omega)
        rw [take_map h0, List.count_append, hc] at h1
        have : List.count (0 : Int) [0] = 1 := rfl
        omega
      · intro hle
        rcases Nat.lt_or_ge i j with y | y
        · have h1 := cnt_monoL row (show i ≤ j by omega)
          omega
        · omega
    · have en : n = (zerU row.length row).length := by omega
      subst en
      rw [List.getElem?_append_right (Nat.le_refl _), Nat.sub_self]
      show ((row.length : Nat) : Int) ≤ i ↔ _
      have h1 := cnt_monoL row (show i ≤ row.length by omega)
      rw [List.take_length] at h1
      omega
abbrev LetR := Nat × Nat × Nat × Nat × Int
def ltD (x : LetR) : List D := [.int (x.1 : Int), .int (x.2.1 : Int), .int (x.2.2.1 : Int), .int (x.2.2.2.1 : Int), .int x.2.2.2.2]
def LetAt (rows : List (List Int)) (x : LetR) : Prop := 0 < x.2.2.2.2 ∧ AtL rows x.1 x.2.1 x.2.2.2.2 ∧ AtL rows x.2.2.1 x.2.2.2.1 (0 - x.2.2.2.2)
structure LetS (S : Sto) (f : Addr) (as : List Addr) (Ls : List LetR) : Prop where
  len : as.length = Ls.length
  fx : S f = some (.lst (as.map D.ref))
  at' : ∀ (k : Nat) (a : Addr) (x : LetR), as[k]? = some a → Ls[k]? = some x → S a = some (.lst (ltD x))
  off : ∀ a ∈ as, a ≠ f
theorem LetS.keep {S S' : Sto} {f : Addr} {as : List Addr} {Ls : List LetR} (h : LetS S f as Ls) (sg : SG S S') : LetS S' f as Ls := ⟨h.len, sg _ _ (fun z => z) h.fx, fun k a x h1 h2 => sg _ _ (fun z => z) (h.at' k a x h1 h2), h.off⟩
/-- all receipts before a place have letters -/
def LetTo (rows : List (List Int)) (Ls : List LetR) (P : Nat → Nat → Prop) : Prop := (∀ x ∈ Ls, LetAt rows x) ∧ ∀ (p i : Nat) (m : Int), P p i → 0 < m → AtL rows p i (0 - m) → ∃ x ∈ Ls, x.2.2.1 = p ∧ x.2.2.2.1 = i ∧ x.2.2.2.2 = m
theorem w_letters {rows : List (List Int)} {many most : Nat} {S : Sto} {R : DK} (hG : Good many most rows) (h6 : many ≤ 6) (h60 : most ≤ 60)
    (q : ∀ (f : Addr) (as : List Addr) (Ls : List LetR) (S' : Sto), SG S S' → LetS S' f as Ls → Ls.length ≤ 400 → LetTo rows Ls (fun _ _ => True) → R (.ref f) S') : dFn 8 B_law_letters_6581 [.tup (rowsD rows)] S R := by
  have rl := hG.len
  have r60 := hG.row60 h60
  refine ⟨rfl, fun f nf => ?_⟩
  have sg1 : SG S (S.put f (.lst [])) := .new nf
  have L1 : LetS (S.put f (.lst [])) f [] [] := ⟨rfl, Sto.same, fun k a x h => (nomatch h), fun a h => (nomatch h)⟩
  generalize S.put f (.lst []) = S1 at sg1 L1 ⊢
  refine ⟨_, rfl, _, _, rfl, rfl, fun p env S' => p ≤ rows.length ∧ ∃ (as : List Addr) (Ls : List LetR) (x2 x3 x4 x5 x6 : Option D), env = [some (.tup (rowsD rows)), some (.ref f), x2, x3, x4, x5, x6, none] ∧ SG S S' ∧ LetS S' f as Ls ∧ Ls.length ≤ 60 * p ∧ LetTo rows Ls (fun p' _ => p' < p),
    ⟨Nat.zero_le _, [], [], _, _, _, _, _, rfl, sg1, L1, Nat.zero_le _, ⟨fun x h => (nomatch h), fun p' i m h => absurd h (Nat.not_lt_zero _)⟩⟩, fun _ _ _ _ _ => True.intro, ?_, ?_⟩
  · rintro p e0 env S2 he ⟨hp0, as, Ls, x2, x3, x4, x5, x6, rfl, sg2, L2', hlen, hto⟩
    have he : (enD (rowsD rows))[p]? = some e0 := he
    unfold enD rowsD at he
    rw [List.getElem?_mapIdx, List.getElem?_map, Option.map_map] at he
    obtain ⟨row, hrow, rfl⟩ := Option.map_eq_some_iff.mp he
    have hp := (List.getElem?_eq_some_iff.mp hrow).1
    have hr6 := r60 row (List.mem_of_getElem? hrow)
    refine ⟨_, rfl, .inl (.inl rfl), _, _, rfl, _, _, rfl, rfl, ?_⟩
    refine ⟨_, rfl, _, _, rfl, rfl, fun i env S' => i ≤ row.length ∧ ∃ (as : List Addr) (Ls : List LetR) (x4 x5 x6 : Option D), env = [some (.tup (rowsD rows)), some (.ref f), some (.int (p : Int)), some (rowD row), x4, x5, x6, none] ∧ SG S S' ∧ LetS S' f as Ls ∧ Ls.length ≤ 60 * p + i ∧ LetTo rows Ls (fun p' i' => p' < p ∨ (p' = p ∧ i' < i)),
      ⟨Nat.zero_le _, as, Ls, _, _, _, rfl, sg2, L2', hlen, hto.1, fun p' i m h => hto.2 p' i m (h.elim id fun z => absurd z.2 (Nat.not_lt_zero _))⟩, fun _ _ _ _ _ => True.intro, ?_, ?_⟩
    · rintro i e1 env S3 he ⟨hi0, as, Ls, x4, x5, x6, rfl, sg3, L3, hlen, hto⟩
      have he : (enD (intsD row))[i]? = some e1 := he
      unfold enD at he
      rw [List.getElem?_mapIdx] at he
      obtain ⟨y, hy, rfl⟩ := Option.map_eq_some_iff.mp he
      unfold intsD at hy
      rw [List.getElem?_map] at hy
      obtain ⟨ev, hev, rfl⟩ := Option.map_eq_some_iff.mp hy
      have hi := (List.getElem?_eq_some_iff.mp hev).1
      refine ⟨_, rfl, .inl (.inl rfl), _, _, rfl, _, _, rfl, rfl, ?_⟩
      refine ⟨_, rfl, _, rfl, iteB (fun hc => ?_) (fun hc => ?_)⟩
      · have hc : decide (ev < 0) = true := hc
        have hneg := of_decide_eq_true hc
        have rdl : (rowsD rows).length = rows.length := List.length_map ..
        refine ⟨_, rfl, _, _, rfl, rfl, (rows.length : Int), by rw [rdl], by omega, by omega, ?_⟩
        refine lc_mapE (List.range rows.length) (fun n : Nat => .int (0 + (n : Int))) (by show rgD 0 (rows.length : Int).toNat = _; rw [Int.toNat_natCast]; rfl)
          (fun n : Nat => if decide ((0 - ev) ∈ rows.getD n []) = true then some (D.int (n : Int)) else none) (by rw [List.length_range]; omega) (fun _ _ => True.intro)
          (fun n hn S4 sg K Kn hk hkn => turn_n ?_) fun t S4 nt sg4 ht => ?_
        · have hn := List.mem_range.mp hn
          obtain ⟨rn, hrn⟩ := row_of hn
          have hrd : (rowsD rows)[n]? = some (rowD rn) := by
            unfold rowsD
            rw [List.getElem?_map, hrn]
            rfl
          have eg : rows.getD n [] = rn := by rw [List.getD_eq_getElem?_getD, hrn]; rfl
          rw [eg] at hk hkn
          rw [Int.zero_add]
          refine ⟨_, rfl, _, rfl, _, rfl, _, (n : Int), _, rfl, rfl, atI_nat hrd, _, _, .int _, .inr (.tup (pys_ints rn)), rfl, shaped_tup _, shaped_lst _, _, rfl, ?_⟩
          have ea : ((rn.map PyData.int).any fun z => PyData.eqv z (.int (0 - ev))) = decide ((0 - ev) ∈ rn) := any_int rn _
          rw [ea, xor_ff]
          exact iteB (fun c => ⟨_, rfl, hk _ (if_pos c) _ (.refl _)⟩) (fun c => hkn (if_neg (by rw [show decide ((0 - ev) ∈ rn) = false from c]; exact Bool.false_ne_true)) _ (.refl _))
        · rw [fm_ite (fun n : Nat => D.int (n : Int)) (fun n => decide ((0 - ev) ∈ rows.getD n []))] at ht
          obtain ⟨s0, i0, hs⟩ := sent_ofL hG (m := 0 - ev) (by omega) (q := p) (j := i) ⟨row, hrow, by rw [show (0 : Int) - (0 - ev) = ev by omega]; exact hev⟩
          have hs0 : s0 ∈ (List.range rows.length).filter fun n => decide ((0 - ev) ∈ rows.getD n []) := by
            obtain ⟨rs, h1, h2⟩ := hs
            refine List.mem_filter.mpr ⟨List.mem_range.mpr (List.getElem?_eq_some_iff.mp h1).1, decide_eq_true ?_⟩
            rw [List.getD_eq_getElem?_getD, h1]
            exact List.mem_of_getElem? h2
          have hall : ∀ n ∈ (List.range rows.length).filter fun n => decide ((0 - ev) ∈ rows.getD n []), n < rows.length ∧ (0 - ev) ∈ rows.getD n [] := fun n hn => ⟨List.mem_range.mp (List.mem_filter.mp hn).1, of_decide_eq_true (List.mem_filter.mp hn).2⟩
          generalize ((List.range rows.length).filter fun n => decide ((0 - ev) ∈ rows.getD n [])) = ps at ht hs0 hall
          cases ps with
          | nil => exact nomatch hs0
          | cons s ps =>
            obtain ⟨hsl, hsm⟩ := hall s List.mem_cons_self
            obtain ⟨rs, hrs⟩ := row_of hsl
            have hrd : (rowsD rows)[s]? = some (rowD rs) := by
              unfold rowsD
              rw [List.getElem?_map, hrs]
              rfl
            have eg : rows.getD s [] = rs := by rw [List.getD_eq_getElem?_getD, hrs]; rfl
            rw [eg] at hsm
            have L4 := L3.keep sg4
            refine ⟨_, ((0 : Nat) : Int), _, seqOf_lst ht, rfl, atI_nat (i := 0) (d := D.int (s : Int)) rfl, ?_⟩
            refine ⟨_, rfl, ⟨rfl, _, seqOf_lst L4.fx, noTup _⟩, _, rfl, _, rfl, _, rfl, _, (s : Int), _, rfl, rfl, atI_nat hrd, ⟨_, rfl⟩, _, rfl, rs, 0 - ev, rfl, rfl, hsm, _, rfl, _, rfl, _, rfl, rfl, fun a na => ?_⟩
            have sga : SG S4 (S4.put a (.lst (ltD (s, rs.idxOf (0 - ev), p, i, 0 - ev)))) := .new na
            have ha : (S4.put a (.lst (ltD (s, rs.idxOf (0 - ev), p, i, 0 - ev)))) a = some (.lst (ltD (s, rs.idxOf (0 - ev), p, i, 0 - ev))) := Sto.same
            have L5 := L4.keep sga
            have af : a ≠ f := fun z => by rw [z, L4.fx] at na; cases na
            have nal : ∀ b ∈ as, b ≠ a := fun b hb z => by
              obtain ⟨k, hk⟩ := List.getElem?_of_mem hb
              obtain ⟨x, hx⟩ : ∃ x, Ls[k]? = some x := ⟨_, List.getElem?_eq_getElem (by rw [← L4.len]; exact (List.getElem?_eq_some_iff.mp hk).1)⟩
              have := L4.at' k b x hk hx
              rw [z, na] at this
              cases this
            refine ⟨f, _, .ref a, rfl, rfl, L5.fx, by rw [List.length_map, L5.len]; have : 60 * p ≤ 60 * 6 := Nat.mul_le_mul_left _ (by omega); omega, hi, as ++ [a], Ls ++ [(s, rs.idxOf (0 - ev), p, i, 0 - ev)], _, _, _, rfl, SG.keepP nf ((sg3.trans sg4).trans sga) (.refl _), ⟨by rw [List.length_append, List.length_append, L5.len]; rfl, by rw [Sto.same, List.map_append]; rfl, fun k b x h1 h2 => ?_, fun b hb => ?_⟩, by rw [List.length_append]; show _ + 1 ≤ _; omega, fun x hx => ?_, fun p' i' m hP hm hat => ?_⟩
            · rcases Nat.lt_or_ge k as.length with z | z
              · rw [List.getElem?_append_left z] at h1
                rw [List.getElem?_append_left (by rw [← L5.len]; exact z)] at h2
                exact (Sto.ne (L5.off b (List.mem_of_getElem? h1))).trans (L5.at' k b x h1 h2)
              · rw [List.getElem?_append_right z] at h1
                rw [List.getElem?_append_right (by rw [← L5.len]; exact z), ← L5.len] at h2
                have k0 : k - as.length = 0 := by
                  have := (List.getElem?_eq_some_iff.mp h1).1
                  have : k - as.length < 1 := this
                  omega
                rw [k0] at h1 h2
                cases h1
                cases h2
                exact (Sto.ne af).trans ha
            · rcases List.mem_append.mp hb with z | z
              · exact L5.off b z
              · rw [List.mem_singleton.mp z]
                exact af
            · rcases List.mem_append.mp hx with z | z
              · exact hto.1 x z
              · rw [List.mem_singleton.mp z]
                refine ⟨by show 0 < 0 - ev; omega, ⟨rs, hrs, ?_⟩, row, hrow, by show row[i]? = some (0 - (0 - ev)); rw [show (0 : Int) - (0 - ev) = ev by omega]; exact hev⟩
                have hix := List.idxOf_lt_length_iff.mpr hsm
                show rs[rs.idxOf (0 - ev)]? = some (0 - ev)
                rw [List.getElem?_eq_getElem hix, List.getElem_idxOf hix]
            · by_cases hh : p' < p ∨ (p' = p ∧ i' < i)
              · obtain ⟨x, hx, h1⟩ := hto.2 p' i' m hh hm hat
                exact ⟨x, List.mem_append_left _ hx, h1⟩
              · have e1 : p' = p := by omega
                have e2 : i' = i := by omega
                subst e1 e2
                refine ⟨_, List.mem_append_right _ List.mem_cons_self, rfl, rfl, ?_⟩
                obtain ⟨r2, g1, g2⟩ := hat
                rw [hrow] at g1
                cases g1
                rw [hev] at g2
                have := Option.some.inj g2
                show 0 - ev = m
                omega
      · have hc : decide (ev < 0) = false := hc
        have hnn := of_decide_eq_false hc
        refine ⟨hi, as, Ls, _, _, _, rfl, sg3, L3, by omega, hto.1, fun p' i' m hP hm hat => ?_⟩
        by_cases hh : p' < p ∨ (p' = p ∧ i' < i)
        · exact hto.2 p' i' m hh hm hat
        · have e1 : p' = p := by omega
          have e2 : i' = i := by omega
          subst e1 e2
          obtain ⟨r2, g1, g2⟩ := hat
          rw [hrow] at g1
          cases g1
          rw [hev] at g2
          have := Option.some.inj g2
          omega
    · rintro env S3 ⟨hi0, as, Ls, x4, x5, x6, rfl, sg3, L3, hlen, hto⟩
      have hto : LetTo rows Ls (fun p' i' => p' < p ∨ (p' = p ∧ i' < (enD (intsD row)).length)) := hto
      have hlen : Ls.length ≤ 60 * p + (enD (intsD row)).length := hlen
      rw [enD_len, intsD_len] at hto hlen
      refine ⟨hp, as, Ls, _, _, _, _, _, rfl, sg3, L3, by omega, hto.1, fun p' i m h hm hat => hto.2 p' i m ?_ hm hat⟩
      have h : p' < p + 1 := h
      by_cases z : p' < p
      · exact .inl z
      · have : p' = p := by omega
        subst this
        obtain ⟨r2, g1, g2⟩ := hat
        rw [hrow] at g1
        cases g1
        exact .inr ⟨rfl, (List.getElem?_eq_some_iff.mp g2).1⟩
  · rintro env S2 ⟨hp0, as, Ls, x2, x3, x4, x5, x6, rfl, sg2, L2', hlen, hto⟩
    have hto : LetTo rows Ls (fun p' _ => p' < (enD (rowsD rows)).length) := hto
    have hlen : Ls.length ≤ 60 * (enD (rowsD rows)).length := hlen
    have el : (enD (rowsD rows)).length = rows.length := by rw [enD_len]; exact List.length_map ..
    rw [el] at hto hlen
    have : 60 * rows.length ≤ 60 * 6 := Nat.mul_le_mul_left _ (by omega)
    exact ⟨_, rfl, q f as Ls S2 sg2 L2' (by omega) ⟨hto.1, fun p i m _ hm hat => hto.2 p i m (by obtain ⟨r, g, _⟩ := hat; exact (List.getElem?_eq_some_iff.mp g).1) hm hat⟩⟩
end Sv

set_option maxHeartbeats 800000
set_option autoImplicit false
/-! Over data: which lines fit, and what is left of the lines. -/
namespace Sv
open PySem PySem.Spec PyProof.Rows L2
def OkL (rows : List (List Int)) (cs : List Nat) (x : LetR) : Prop := ((rows.getD x.2.2.1 []).take x.2.2.2.1).count 0 < cs.getD x.2.2.1 0 → ((rows.getD x.1 []).take x.2.1).count 0 < cs.getD x.1 0
theorem getDN_of {cs : List Nat} {p c : Nat} (h : cs[p]? = some c) : cs.getD p 0 = c := by
  rw [List.getD_eq_getElem?_getD, h]
  rfl
theorem rowsDL {rows : List (List Int)} {p : Nat} {row : List Int} (h : rows[p]? = some row) : rows.getD p [] = row := by
  rw [List.getD_eq_getElem?_getD, h]
  rfl
theorem fits_iff {rows : List (List Int)} {many most : Nat} (hG : Good many most rows) {Ls : List LetR} (hL : LetTo rows Ls (fun _ _ => True)) {cs : List Nat} (hc : cs.length = rows.length) : (∀ x ∈ Ls, OkL rows cs x) ↔ ConsL rows cs := by
  constructor
  · intro h m p k p' k' c c' hm h1 h2 h3 h4 hlt
    obtain ⟨row, i, g1, g2, g3⟩ := hap_inv h2
    obtain ⟨x, hx, e1, e2, e3⟩ := hL.2 p' i m True.intro hm ⟨row, g1, g2⟩
    obtain ⟨x0, ⟨rs, a1, a2⟩, _⟩ := hL.1 x hx
    have hh := hG.hap_at a1 a2 (by omega)
    rw [e3, h1] at hh
    obtain ⟨b1, b2⟩ := Prod.mk.inj (Option.some.inj hh)
    have := h x hx
    unfold OkL at this
    rw [e1, e2, rowsDL g1, ← g3, getDN_of h4, rowsDL a1, ← b2, ← b1, getDN_of h3] at this
    exact this hlt
  · intro h x hx hlt
    obtain ⟨x0, ⟨rs, a1, a2⟩, ⟨rr, b1, b2⟩⟩ := hL.1 x hx
    have h1 := hG.hap_at a1 a2 (by omega)
    have h2 := hG.hap_at b1 b2 (by omega)
    obtain ⟨c, hc1⟩ : ∃ c, cs[x.1]? = some c := ⟨_, List.getElem?_eq_getElem (by rw [hc]; exact (List.getElem?_eq_some_iff.mp a1).1)⟩
    obtain ⟨c', hc2⟩ : ∃ c, cs[x.2.2.1]? = some c := ⟨_, List.getElem?_eq_getElem (by rw [hc]; exact (List.getElem?_eq_some_iff.mp b1).1)⟩
    rw [rowsDL b1, getDN_of hc2] at hlt
    rw [rowsDL a1, getDN_of hc1]
    exact h _ _ _ _ _ _ _ x0 h1 h2 hc1 hc2 hlt
theorem cutP_at {rows : List (List Int)} {cs : List Nat} {p c : Nat} {row : List Int} (h : rows[p]? = some row) (hc : cs[p]? = some c) : (cutP rows cs)[p]? = some ((places row).getD c 0) := by
  unfold cutP
  rw [List.getElem?_map, List.getElem?_range (List.getElem?_eq_some_iff.mp h).1]
  show some ((places (rows.getD p [])).getD (cs.getD p 0) 0) = _
  rw [rowsDL h, getDN_of hc]
theorem w_fits {rows : List (List Int)} {many most : Nat} {cs : List Nat} {S : Sto} {R : DK} (hG : Good many most rows) (h6 : many ≤ 6) (h60 : most ≤ 60) (hc : cs.length = rows.length) (hb : ∀ (p : Nat) (row : List Int) (c : Nat), rows[p]? = some row → cs[p]? = some c → c ≤ row.count 0 + 1)
    (q : ∀ b S', SG S S' → (b = true ↔ ConsL rows cs) → R (.bl b) S') : dFn 8 B_law_fits_b0d3 [.tup (rowsD rows), .tup (natD cs)] S R := by
  have rl := hG.len
  have r60 := hG.row60 h60
  refine ⟨_, rfl, _, rfl, rfl, w_lplaces (by omega) (fun r hr => Nat.le_trans (r60 r hr) (by decide)) hc hb fun t S1 sg1 ht => ?_⟩
  refine ⟨_, rfl, rfl, w_letters hG h6 h60 fun f as Ls S2 sg2 hL hlen hto => ?_⟩
  have ht2 := sg2 _ _ (fun z => z) ht
  refine ⟨_, ⟨_, hL.fx, rfl⟩, fun i env S' => i ≤ as.length ∧ ∃ (x3 x4 x5 x6 x7 : Option D), env = [some (.tup (rowsD rows)), some (.tup (natD cs)), some (.ref t), x3, x4, x5, x6, x7] ∧ SG S S' ∧ S' t = some (.lst (intsD (cutP rows cs))) ∧ LetS S' f as Ls ∧ ∀ x ∈ Ls.take i, OkL rows cs x,
    ⟨Nat.zero_le _, _, _, _, _, _, rfl, sg1.trans sg2, ht2, hL, fun x h => (nomatch h)⟩, fun i env S' _ h => ?_, ?_, ?_⟩
  · obtain ⟨_, _, _, _, _, _, _, _, _, h, _⟩ := h
    exact h.fx
  · rintro i d env S3 hd ⟨hi0, x3, x4, x5, x6, x7, rfl, sg3, ht3, hL3, hok⟩
    have hd : (as.map D.ref)[i]? = some d := hd
    rw [List.getElem?_map] at hd
    obtain ⟨a, ha, rfl⟩ := Option.map_eq_some_iff.mp hd
    have hi := (List.getElem?_eq_some_iff.mp ha).1
    obtain ⟨x, hx⟩ : ∃ x, Ls[i]? = some x := ⟨_, List.getElem?_eq_getElem (by rw [← hL3.len]; exact hi)⟩
    have hax := hL3.at' i a x ha hx
    have tk := take_map hx
    obtain ⟨x0, ⟨rs, a1, a2⟩, ⟨rr, b1, b2⟩⟩ := hto.1 x (List.mem_of_getElem? hx)
    obtain ⟨c, hc1⟩ : ∃ c, cs[x.1]? = some c := ⟨_, List.getElem?_eq_getElem (by rw [hc]; exact (List.getElem?_eq_some_iff.mp a1).1)⟩
    obtain ⟨c', hc2⟩ : ∃ c, cs[x.2.2.1]? = some c := ⟨_, List.getElem?_eq_getElem (by rw [hc]; exact (List.getElem?_eq_some_iff.mp b1).1)⟩
    have p1 := place_le (hb _ _ _ a1 hc1) a2 (by omega)
    have p2 := place_le (hb _ _ _ b1 hc2) b2 (by omega)
    have ok : OkL rows cs x ↔ ((x.2.2.2.1 : Int) < (places rr).getD c' 0 → ¬ (places rs).getD c 0 ≤ (x.2.1 : Int)) := by
      unfold OkL
      rw [rowsDL b1, getDN_of hc2, rowsDL a1, getDN_of hc1, p1]
      have : ((x.2.2.2.1 : Int) < (places rr).getD c' 0) ↔ (rr.take x.2.2.2.1).count 0 < c' := by
        constructor
        · intro h
          refine Nat.lt_of_not_le fun z => ?_
          have := p2.mpr z
          omega
        · intro h
          refine Int.lt_of_not_ge fun z => ?_
          have := p2.mp z
          omega
      rw [this]
      constructor
      · intro h g
        have := h g
        omega
      · intro h g
        have := h g
        omega
    have next : OkL rows cs x → ∀ y ∈ Ls.take (i + 1), OkL rows cs y := fun h y hy => by
      rw [tk] at hy
      rcases List.mem_append.mp hy with z | z
      · exact hok y z
      · rw [List.mem_singleton.mp z]
        exact h
    refine ⟨ltD x, rfl, .inr ⟨_, rfl, hax⟩, _, _, rfl, _, _, rfl, _, _, rfl, _, _, rfl, _, _, rfl, rfl, ?_⟩
    refine ⟨_, rfl, _, rfl, _, rfl, _, (x.2.2.1 : Int), _, seqOf_lst ht3, rfl, atI_nat (ints_at (cutP_at b1 hc2)), _, rfl, iteB (fun h1 => ?_) (fun h1 => ?_)⟩
    · have h1 := of_decide_eq_true h1
      refine ⟨_, rfl, _, rfl, _, rfl, _, (x.1 : Int), _, seqOf_lst ht3, rfl, atI_nat (ints_at (cutP_at a1 hc1)), _, rfl, iteB (fun h2 => ?_) (fun h2 => ?_)⟩
      · have h2 := of_decide_eq_true h2
        exact q false S3 sg3 ⟨(fun z => nomatch z), fun z => absurd h2 (ok.mp ((fits_iff hG hto hc).mpr z x (List.mem_of_getElem? hx)) h1)⟩
      · have h2 := of_decide_eq_false h2
        exact ⟨hi, _, _, _, _, _, rfl, sg3, ht3, hL3, next (ok.mpr fun _ => h2)⟩
    · have h1 := of_decide_eq_false h1
      exact ⟨hi, _, _, _, _, _, rfl, sg3, ht3, hL3, next (ok.mpr fun z => absurd z h1)⟩
  · rintro env S3 ⟨hi0, x3, x4, x5, x6, x7, rfl, sg3, ht3, hL3, hok⟩
    have hok : ∀ x ∈ Ls.take (as.map D.ref).length, OkL rows cs x := hok
    rw [List.length_map, hL3.len, List.take_length] at hok
    exact q true S3 sg3 ⟨fun _ => (fits_iff hG hto hc).mp hok, fun _ => rfl⟩
end Sv

set_option maxHeartbeats 1000000
set_option autoImplicit false
/-! k39 -/
namespace Sv
open PySem PySem.Spec PyProof.Rows L2
noncomputable def goodL (rows : List (List Int)) : List (List Nat) := (cutsU rows rows.length).filter (consB rows)
theorem good_mem {rows : List (List Int)} {c : List Nat} : c ∈ goodL rows ↔ (c.length = rows.length ∧ LeL c (prs rows)) ∧ ConsL rows c := by
  unfold goodL
  rw [List.mem_filter, cutsU_lines, consB_iff]
theorem fall_good (rows : List (List Int)) (fs : List Int) : fallL rows fs ∈ goodL rows := by
  refine good_mem.mpr ⟨⟨fall_len rows fs, fun i x y h1 h2 => ?_⟩, (fall_low rows fs).cons⟩
  have hi := (List.getElem?_eq_some_iff.mp h2).1
  have hi : i < rows.length := by
    unfold prs at hi
    rw [List.length_map] at hi
    exact hi
  obtain ⟨row, hrow⟩ := row_of hi
  have h3 := tops_at (fs := fs) hrow
  have h4 := (fall_low rows fs).le i x _ h1 h3
  rw [prsA hrow] at h2
  cases h2
  split at h4 <;> omega
def maxL39 (n : Nat) (a b : List Nat) : List Nat := (List.range n).map fun p => max (a.getD p 0) (b.getD p 0)
theorem max39_at {n p x y : Nat} {a b : List Nat} (hp : p < n) (ha : a[p]? = some x) (hb : b[p]? = some y) : (maxL39 n a b)[p]? = some (max x y) := by
  unfold maxL39
  rw [List.getElem?_map, List.getElem?_range hp]
  show some (max (a.getD p 0) (b.getD p 0)) = _
  rw [getDN_of ha, getDN_of hb]
theorem max39_len (n : Nat) (a b : List Nat) : (maxL39 n a b).length = n := by
  unfold maxL39
  rw [List.length_map, List.length_range]
theorem zipW_rng {xs ys : List Nat} {n : Nat} (h1 : xs.length = n) (h2 : ys.length = n) : zipW (natD xs) (natD ys) = (List.range n).map fun p => D.wtup [.int ((xs.getD p 0 : Nat) : Int), .int ((ys.getD p 0 : Nat) : Int)] := by
  apply List.ext_getElem?
  intro i
  unfold zipW natD
  rw [List.getElem?_zipWith, List.getElem?_map, List.getElem?_map, List.getElem?_map]
  rcases Nat.lt_or_ge i n with z | z
  · have e1 : xs[i]? = some xs[i] := List.getElem?_eq_getElem (by omega)
    have e2 : ys[i]? = some ys[i] := List.getElem?_eq_getElem (by omega)
    rw [List.getElem?_range z, e1, e2]
    show some (D.wtup [D.int ((xs[i] : Nat) : Int), D.int ((ys[i] : Nat) : Int)]) = some (D.wtup [D.int ((xs.getD i 0 : Nat) : Int), D.int ((ys.getD i 0 : Nat) : Int)])
    rw [getDN_of e1, getDN_of e2]
  · rw [List.getElem?_eq_none (l := xs) (by omega), List.getElem?_eq_none (l := List.range n) (by rw [List.length_range]; exact z)]
    rfl
theorem w_due39 {rows : List (List Int)} {fs : List Int} {g : Addr} {S : Sto} {R : DK} (hl : rows.length ≤ 1000) (hg : S g = some (.lst ((goodL rows).map cutD'))) (q : ∀ S', SG S S' → R (.tup (natD (fallL rows fs))) S') : dFn 9 B_law_due_8e3c [.tup (rowsD rows), .tup (intsD fs), .ref g] S R := by
  have el : (rowsD rows).length = rows.length := List.length_map ..
  have tl := tops_len rows fs
  have fl := fall_len rows fs
  refine ⟨_, rfl, _, rfl, rfl, w_tops hl fun p S1 sg1 hp => ⟨rfl, fun b nb => ⟨_, rfl, _, _, rfl, rfl, [.int 0], Sto.same, by omega, by omega, by decide, fun f nf => ⟨rfl, _, rfl, .inl (.inl rfl), _, _, rfl, _, _, rfl, rfl, ?_⟩⟩⟩⟩
  have e0 : (List.replicate ((rowsD rows).length : Int).toNat [D.int 0]).flatten = natD (List.replicate rows.length 0) := by
    rw [el, Int.toNat_natCast, flat_rep]
    unfold natD
    rw [List.map_replicate]
    rfl
  have sgb : SG S1 (S1.put b (.lst [.int 0])) := .new nb
  have sgf := sgb.trans (SK.new (o := .lst (List.replicate ((rowsD rows).length : Int).toNat [D.int 0]).flatten) nf)
  have hf2 : ((S1.put b (.lst [.int 0])).put f (.lst (List.replicate ((rowsD rows).length : Int).toNat [D.int 0]).flatten)) f = some (.lst (natD (List.replicate rows.length 0))) := by rw [Sto.same, e0]
  have hp2 := sgf _ _ (fun z => z) hp
  have sg2 := sg1.trans sgf
  generalize (S1.put b (.lst [.int 0])).put f (.lst (List.replicate ((rowsD rows).length : Int).toNat [D.int 0]).flatten) = S2 at hf2 hp2 sg2 ⊢
  have hg2 := sg2 _ _ (fun z => z) hg
  refine ⟨_, rfl, _, ⟨_, hg2, rfl⟩, fun j env S' => j ≤ (goodL rows).length ∧ ∃ (f : Addr) (F : List Nat) (x5 : Option D), env = [some (.tup (rowsD rows)), some (.tup (intsD fs)), some (.ref g), some (.ref p), some (.ref f), x5, none, none, none] ∧ SG S S' ∧ S' g = some (.lst ((goodL rows).map cutD')) ∧ S' p = some (.lst (natD (tops rows fs))) ∧ S' f = some (.lst (natD F)) ∧ F.length = rows.length ∧ LeL F (fallL rows fs) ∧ ∀ c ∈ (goodL rows).take j, LeL c (tops rows fs) → LeL c F,
    ⟨Nat.zero_le _, f, _, _, rfl, sg2, hg2, hp2, hf2, List.length_replicate .., fun i x y h1 h2 => ?_, fun c h => (nomatch h)⟩, fun j env S' _ h => ?_, ?_, ?_⟩
  · rw [List.getElem?_replicate] at h1
    split at h1
    · cases h1
      exact Nat.zero_le _
    · cases h1
  · obtain ⟨_, _, _, _, _, _, h, _⟩ := h
    exact h
  · rintro j d env S3 hd ⟨hj0, f, F, x5, rfl, sg3, hg3, hp3, hf3, Fl, Fle, Fmax⟩
    have hd : ((goodL rows).map cutD')[j]? = some d := hd
    rw [List.getElem?_map] at hd
    obtain ⟨c, hc, rfl⟩ := Option.map_eq_some_iff.mp hd
    have hj := (List.getElem?_eq_some_iff.mp hc).1
    obtain ⟨⟨cl, cle⟩, ccons⟩ := good_mem.mp (List.mem_of_getElem? hc)
    have tk := take_map hc
    refine ⟨_, rfl, _, rfl, _, _, p, rfl, hp3, lc_mapE (List.range rows.length) (fun k => D.tup [.int ((c.getD k 0 : Nat) : Int), .int (((tops rows fs).getD k 0 : Nat) : Int)]) (zip_rng (g := fun x : Nat => D.int (x : Int)) (h := fun x : Nat => D.int (x : Int)) 0 0 cl tl) (fun k => if decide ((tops rows fs).getD k 0 < c.getD k 0) = true then some (D.int 1) else none) (by rw [List.length_range]; omega) (fun S' sg => sg _ _ (fun z => z) hp3) (fun k hk S4 sg4 K Kn hky hkn => ?_) fun r S4 nr sg4 hr => ?_⟩
    · refine ⟨_, rfl, .inl (.inl rfl), _, _, rfl, _, _, rfl, rfl, _, rfl, _, rfl, _, rfl, iteB (fun h => ?_) (fun h => ?_)⟩
      · have h := of_decide_eq_true h
        exact hky _ (if_pos (decide_eq_true (by omega))) _ (.refl _)
      · have h := of_decide_eq_false h
        exact hkn (if_neg (by rw [decide_eq_false (by omega)]; exact Bool.false_ne_true)) _ (.refl _)
    rw [fm_ite (fun _ : Nat => D.int 1) (fun k => decide ((tops rows fs).getD k 0 < c.getD k 0))] at hr
    have er : ((List.range rows.length).filter fun k => decide ((tops rows fs).getD k 0 < c.getD k 0)).map (fun _ => D.int 1) = intsD (((List.range rows.length).filter fun k => decide ((tops rows fs).getD k 0 < c.getD k 0)).map fun _ => 1) := by
      unfold intsD
      rw [List.map_map]
      rfl
    rw [er] at hr
    refine ⟨rfl, fun u nu => ?_⟩
    have sgu : SG S4 (S4.put u (.lst [])) := .new nu
    refine ⟨_, _, .lst (sgu _ _ (fun z => z) hr) (pys_ints _), .lst Sto.same .nil, shaped_ints _, by decide +kernel, _, rfl, ?_⟩
    rw [eqv_nil, xor_ff, List.isEmpty_map, List.isEmpty_map]
    have sg35 := sg4.trans sgu
    generalize S4.put u (.lst []) = S5 at sg35 ⊢
    have hg5 := sg35 _ _ (fun z => z) hg3
    have hp5 := sg35 _ _ (fun z => z) hp3
    have hf5 := sg35 _ _ (fun z => z) hf3
    have sg05 := sg3.trans sg35
    have key : ((List.range rows.length).filter fun k => decide ((tops rows fs).getD k 0 < c.getD k 0)).isEmpty = true ↔ LeL c (tops rows fs) := by
      rw [List.isEmpty_iff, List.filter_eq_nil_iff]
      constructor
      · intro h i x y h1 h2
        have := h i (List.mem_range.mpr (by rw [← cl]; exact (List.getElem?_eq_some_iff.mp h1).1))
        rw [getDN_of h1, getDN_of h2, decide_eq_true_iff] at this
        omega
      · intro h i hi
        have hi := List.mem_range.mp hi
        obtain ⟨x, hx⟩ : ∃ x, c[i]? = some x := ⟨_, List.getElem?_eq_getElem (by omega)⟩
        obtain ⟨y, hy⟩ : ∃ y, (tops rows fs)[i]? = some y := ⟨_, List.getElem?_eq_getElem (by omega)⟩
        have := h i x y hx hy
        rw [getDN_of hx, getDN_of hy, decide_eq_true_iff]
        omega
    refine iteB (fun h => ?_) (fun h => ?_)
    · have hct := key.mp h
      have hcf : LeL c (fallL rows fs) := (fall_low rows fs).top c (by rw [cl, tl]) hct ccons
      refine ⟨_, rfl, _, rfl, _, _, f, rfl, hf5, by rw [natD_len, natD_len]; omega, lc_mapE (List.range rows.length) (fun k => D.wtup [.int ((F.getD k 0 : Nat) : Int), .int ((c.getD k 0 : Nat) : Int)]) (zipW_rng Fl cl) (fun k => some (D.int ((max (F.getD k 0) (c.getD k 0) : Nat) : Int))) (by rw [List.length_range]; omega) (fun S' sg => ⟨sg _ _ (fun z => z) hf5, by rw [natD_len, natD_len]; omega⟩) (fun k hk S6 sg6 K Kn hky hkn => turn_y ⟨_, rfl, _, [((F.getD k 0 : Nat) : Int), ((c.getD k 0 : Nat) : Int)], rfl, rfl, (show 0 < 2 by decide), fun m hm hy => ?_⟩) fun v S6 nv sg6 hv => ?_⟩
      · have h1 := hy _ List.mem_cons_self
        have h2 := hy _ (List.mem_cons_of_mem _ List.mem_cons_self)
        have em : m = ((max (F.getD k 0) (c.getD k 0) : Nat) : Int) := by
          rcases List.mem_cons.mp hm with z | z
          · omega
          · have := List.mem_singleton.mp z
            omega
        rw [em]
        exact hky _ rfl _ (.refl _)
      · rw [fm_map] at hv
        have ev : (List.range rows.length).map (fun k => D.int ((max (F.getD k 0) (c.getD k 0) : Nat) : Int)) = natD (maxL39 rows.length F c) := by
          unfold natD maxL39
          rw [List.map_map]
          rfl
        rw [ev] at hv
        refine ⟨hj, v, maxL39 rows.length F c, _, rfl, sg05.trans sg6, sg6 _ _ (fun z => z) hg5, sg6 _ _ (fun z => z) hp5, hv, max39_len .., fun i x y h1 h2 => ?_, fun c' hc' hle i x y h1 h2 => ?_⟩
        · have hi : i < rows.length := by rw [← fl]; exact (List.getElem?_eq_some_iff.mp h2).1
          obtain ⟨a, ha⟩ : ∃ x, F[i]? = some x := ⟨_, List.getElem?_eq_getElem (by omega)⟩
          obtain ⟨b, hb⟩ : ∃ x, c[i]? = some x := ⟨_, List.getElem?_eq_getElem (by omega)⟩
          rw [max39_at hi ha hb] at h1
          cases h1
          have := Fle i a y ha h2
          have := hcf i b y hb h2
          omega
        · have hi : i < rows.length := by
            have := (List.getElem?_eq_some_iff.mp h2).1
            rw [max39_len] at this
            exact this
          obtain ⟨a, ha⟩ : ∃ x, F[i]? = some x := ⟨_, List.getElem?_eq_getElem (by omega)⟩
          obtain ⟨b, hb⟩ : ∃ x, c[i]? = some x := ⟨_, List.getElem?_eq_getElem (by omega)⟩
          rw [max39_at hi ha hb] at h2
          cases h2
          rw [tk] at hc'
          rcases List.mem_append.mp hc' with z | z
          · have := Fmax c' z hle i x a h1 ha
            omega
          · rw [List.mem_singleton.mp z, hb] at h1
            cases h1
            omega
    · refine ⟨hj, f, F, _, rfl, sg05, hg5, hp5, hf5, Fl, Fle, fun c' hc' hle => ?_⟩
      rw [tk] at hc'
      rcases List.mem_append.mp hc' with z | z
      · exact Fmax c' z hle
      · rw [List.mem_singleton.mp z] at hle
        have := key.mpr hle
        rw [h] at this
        cases this
  · rintro env S3 ⟨hj0, f, F, x5, rfl, sg3, hg3, hp3, hf3, Fl, Fle, Fmax⟩
    have Fmax : ∀ c ∈ (goodL rows).take ((goodL rows).map cutD').length, LeL c (tops rows fs) → LeL c F := Fmax
    rw [List.length_map, List.take_length] at Fmax
    have hle := Fmax _ (fall_good rows fs) (fall_low rows fs).le
    have eF : F = fallL rows fs := by
      refine List.ext_getElem? fun i => ?_
      rcases Nat.lt_or_ge i rows.length with z | z
      · obtain ⟨a, ha⟩ : ∃ x, F[i]? = some x := ⟨_, List.getElem?_eq_getElem (by omega)⟩
        obtain ⟨b, hb⟩ : ∃ x, (fallL rows fs)[i]? = some x := ⟨_, List.getElem?_eq_getElem (by omega)⟩
        have h1 := Fle i a b ha hb
        have h2 := hle i b a hb ha
        rw [ha, hb]
        exact congrArg some (by omega)
      · rw [List.getElem?_eq_none (by omega), List.getElem?_eq_none (by omega)]
    rw [eF] at hf3
    exact ⟨_, rfl, _, _, rfl, seqOf_lst hf3, fun ys z => (nomatch z), q S3 sg3⟩
def castR (cs : List (List Nat)) : List (List Int) := cs.map fun c => c.map fun (x : Nat) => (x : Int)
theorem cast_rows (cs : List (List Nat)) : cs.map cutD' = rowsD (castR cs) := by
  unfold rowsD castR
  rw [List.map_map]
  refine List.map_congr_left fun c _ => ?_
  show D.tup (natD c) = D.tup (intsD (c.map fun (x : Nat) => (x : Int)))
  rw [natD_ints]
theorem pys_rows39 {S : Sto} : ∀ rs : List (List Int), Pys S (rowsD rs) (rs.map fun r => PyData.tuple (r.map PyData.int))
  | [] => .nil
  | r :: rs => .cons (.tup (pys_ints r)) (pys_rows39 rs)
theorem list_shaped39 (rs : List (List Int)) : SeqAt.shaped (.list (rs.map fun r => PyData.tuple (r.map PyData.int))) = true := by
  have h1 := rows_lay rs
  have h2 := rows_depth rs
  show (PyData.canLay0 (.list _) && decide (PyData.depth (.list _) ≤ 64)) = true
  simp only [PyData.canLay0, PyData.depth, h1, Bool.true_and]
  exact decide_eq_true (by omega)
theorem due_in {rows : List (List Int)} {fs : List Int} : ((castR (goodL rows)).map fun r => PyData.tuple (r.map PyData.int)).any (fun z => PyData.eqv z (.tuple (((fallL rows fs).map fun (x : Nat) => (x : Int)).map PyData.int))) = true := by
  rw [List.any_eq_true]
  refine ⟨_, List.mem_map.mpr ⟨_, List.mem_map.mpr ⟨fallL rows fs, fall_good rows fs, rfl⟩, rfl⟩, ?_⟩
  have := eqv_shaped (shaped_tup ((fallL rows fs).map fun (x : Nat) => (x : Int)))
  rw [xor_tt, Bool.not_eq_false'] at this
  exact this
theorem law_k39 (ns : List Int) (hl : ns.length ≤ 63) : dFn 10 B_law_1742 [.rol (intsD ns)] (fun _ => none) (fun d _ => d = .bl true) := by
  refine ⟨_, rfl, rfl, w_deck hl fun st big S1 D1 sg1 _ _ => ?_⟩
  refine ⟨6, rfl, by decide, by decide, fun i env S => Deck st big S ∧ ∃ (x2 x3 x4 x5 x6 x7 : Option D), env = [some (.rol (intsD ns)), some (.ref st), x2, x3, x4, x5, x6, x7, none, none], ⟨D1, _, _, _, _, _, _, rfl⟩, fun _ _ _ _ _ => True.intro, ?_, fun env S _ => rfl⟩
  rintro i d env S2 hd ⟨D2, x2, x3, x4, x5, x6, x7, rfl⟩
  refine ⟨_, rfl, rfl, w_history (many := 4) (most := 10) D2 (by decide) (by decide) (by decide) (by decide) fun rows S3 hG D3 k3 => ?_⟩
  have hG : Good 4 10 rows := hG
  have rl := hG.len
  have r60 := hG.row60 (by decide : 10 ≤ 60)
  have r10 : ∀ r ∈ rows, r.length ≤ 10 := fun r hr => by
    obtain ⟨j, hj⟩ := List.getElem?_of_mem hr
    exact (hG.row hj).1
  have tx : Text (rPy rows) := rows_text (by omega) fun r hr => by
    obtain ⟨j, hj⟩ := List.getElem?_of_mem hr
    have := hG.row hj
    exact ⟨by omega, this.2⟩
  have c12 : (cutsU rows rows.length).length ≤ 100000 := Nat.le_trans (cutsU_len r10 _) (Nat.le_trans (Nat.pow_le_pow_right (by decide) (show rows.length ≤ 4 by omega)) (by decide))
  refine ⟨_, rfl, _, _, rfl, py_rows rows, tx, _, rfl, rfl, w_cuts (by omega) r10 fun f S4 sg4 hf => ⟨_, ⟨_, hf, rfl⟩, ?_⟩⟩
  have D4 := D3.keep sg4
  refine lc_mapE (cutsU rows rows.length) cutD' rfl (fun c => if consB rows c = true then some (cutD' c) else none) c12 (fun S' sg => sg _ _ (fun z => z) hf) (fun c hc S5 sg5 K Kn hky hkn => turn_n ?_) fun g S5 ng sg5 hg => ?_
  · obtain ⟨cl, cle⟩ := cutsU_lines.mp hc
    refine ⟨_, rfl, _, rfl, rfl, w_fits hG (by decide) (by decide) cl (fun p row x h1 h2 => cle p x _ h2 (prsA h1)) fun b S6 sg6 hb => ⟨_, rfl, ?_⟩⟩
    have e : consB rows c = b := by rw [Bool.eq_iff_iff, consB_iff, hb]
    rw [e] at hky hkn
    exact iteB (fun h => ⟨_, rfl, hky _ (if_pos h) _ sg6⟩) (fun h => hkn (if_neg (by rw [h]; exact Bool.false_ne_true)) _ sg6)
  rw [fm_ite cutD' (consB rows)] at hg
  have hg : S5 g = some (.lst ((goodL rows).map cutD')) := hg
  have D5 := D4.keep sg5
  have g12 := D4.fresh ng
  refine ⟨rfl, _, rfl, .inl (.inl rfl), _, _, rfl, _, _, rfl, rfl, ?_⟩
  -- who fails
  refine ⟨rfl, _, rfl, _, rfl, rfl, w_lost D5 rl.1 (by omega) fun fs1 S6 fl1 fb1 D6 k6 => ⟨rfl, fun a na => ?_⟩⟩
  have hg6 := k6 _ _ (nDP g12) hg
  have sga : SG S6 (S6.put a (.lst [.tup [], .tup (intsD fs1)])) := .new na
  have ha : (S6.put a (.lst [.tup [], .tup (intsD fs1)])) a = _ := Sto.same
  have D7 := D6.keep sga
  have hg7 := sga _ _ (fun z => z) hg6
  generalize S6.put a (.lst [.tup [], .tup (intsD fs1)]) = S7 at ha D7 hg7 ⊢
  have rdl : (rowsD rows).length = rows.length := List.length_map ..
  refine ⟨_, rfl, _, _, rfl, rfl, ((rows.length : Nat) : Int), by rw [rdl], by omega, by omega, ?_⟩
  refine lc_mapE (List.range rows.length) (fun n : Nat => .int (0 + (n : Int))) (by show rgD 0 ((rows.length : Int)).toNat = _; rw [Int.toNat_natCast]; rfl) (fun n : Nat => some (D.tup (intsD [0 + (n : Int)]))) (by rw [List.length_range]; omega) (fun _ _ => True.intro) (fun n _ S12 sg12 K Kn hk _ => turn_y ⟨_, rfl, rfl, hk _ rfl _ (.refl _)⟩) fun p S8 np sg8 hp => ?_
  rw [fm_map] at hp
  refine ⟨_, _, sg8 _ _ (fun z => z) ha, hp, ?_, fun q nq => ?_⟩
  · rw [List.length_map, List.length_range]
    show 2 + _ ≤ 100000
    omega
  obtain ⟨FS, hFS⟩ : ∃ FS : List (List Int), FS = [] :: fs1 :: (List.range rows.length).map fun n : Nat => [0 + (n : Int)] := ⟨_, rfl⟩
  have hitems : ([.tup [], .tup (intsD fs1)] ++ (List.range rows.length).map fun n : Nat => D.tup (intsD [0 + (n : Int)])) = FS.map fun fs => D.tup (intsD fs) := by
    rw [hFS, List.map_cons, List.map_cons, List.map_map]
    rfl
  have hok : ∀ fs ∈ FS, fs.length ≤ 6 := fun fs hfs => by
    rw [hFS] at hfs
    rcases List.mem_cons.mp hfs with rfl | hfs
    · exact Nat.zero_le _
    · rcases List.mem_cons.mp hfs with rfl | hfs
      · exact fl1
      · obtain ⟨n, h1, rfl⟩ := List.mem_map.mp hfs
        show 1 ≤ 6
        decide
  rw [hitems]
  have sgq : SG S8 (S8.put q (.lst (FS.map fun fs => D.tup (intsD fs)))) := .new nq
  have hq : (S8.put q (.lst (FS.map fun fs => D.tup (intsD fs)))) q = _ := Sto.same
  have D9 := (D7.keep sg8).keep sgq
  have hg9 := (sg8.trans sgq) _ _ (fun z => z) hg7
  generalize S8.put q (.lst (FS.map fun fs => D.tup (intsD fs))) = S9 at hq D9 hg9 ⊢
  refine ⟨_, ⟨_, hq, rfl⟩, fun j env S => Deck st big S ∧ S q = some (.lst (FS.map fun fs => D.tup (intsD fs))) ∧ S g = some (.lst ((goodL rows).map cutD')) ∧ ∃ (x6 x7 : Option D), env = [some (.rol (intsD ns)), some (.ref st), some d, some (hisD rows), some (.str (rPy rows).shown), some (.ref g), x6, x7, none, none],
    ⟨D9, hq, hg9, _, _, rfl⟩, fun _ _ _ _ h => h.2.1, ?_, ?_⟩
  · rintro j e env S14 he ⟨D14, hq14, hg14, x6, x7, rfl⟩
    have he : (FS.map fun fs => D.tup (intsD fs))[j]? = some e := he
    rw [List.getElem?_map] at he
    obtain ⟨fs, hfs, rfl⟩ := Option.map_eq_some_iff.mp he
    have fl := hok fs (List.mem_of_getElem? hfs)
    refine ⟨_, rfl, _, rfl, _, rfl, rfl, w_due39 (by omega) hg14 fun S15 sg15 => ?_⟩
    have hg15 := sg15 _ _ (fun z => z) hg14
    have hg15' := hg15
    rw [cast_rows] at hg15'
    refine ⟨_, rfl, _, rfl, _, _, py_nat _, .inl (.lst hg15' (pys_rows39 _)), shaped_tup _, rPy_shaped _, list_shaped39 _, _, rfl, ?_⟩
    rw [due_in]
    refine goF ?_
    have sm : ∀ c ∈ fallL rows fs, c ≤ 1000 := fun c hc => by
      obtain ⟨k, hk⟩ := List.getElem?_of_mem hc
      have hk2 : k < rows.length := by rw [← fall_len rows fs]; exact (List.getElem?_eq_some_iff.mp hk).1
      obtain ⟨row, hrow⟩ := row_of hk2
      have h1 := (good_mem.mp (fall_good rows fs)).1.2 k c _ hk (prsA hrow)
      have h2 := r60 row (List.mem_of_getElem? hrow)
      have h3 : row.count 0 ≤ row.length := List.count_le_length ..
      omega
    have l100 : (fallL rows fs).length ≤ 100 := by rw [fall_len]; omega
    refine ⟨_, rfl, _, rfl, rfl, w_fallen hG (by decide) (by decide) fl fun S16 sg16 => ⟨_, rfl, rfl, w_same l100 sm ⟨_, rfl, goF ?_⟩⟩⟩
    refine ⟨_, rfl, _, rfl, rfl, w_fallen hG (by decide) (by decide) fl fun S17 sg17 => ⟨_, rfl, rfl, w_same l100 sm ⟨_, rfl, goF ?_⟩⟩⟩
    refine ⟨_, rfl, _, _, rfl, py_rows rows, tx, _, rfl, ?_⟩
    dsimp only [rEqq]
    refine ⟨_, rfl, ?_⟩
    rw [decide_eq_true rfl]
    refine goF ?_
    have sgx := (sg15.trans sg16).trans sg17
    exact ⟨D14.keep sgx, sgx _ _ (fun z => z) hq14, sgx _ _ (fun z => z) hg14, _, _, rfl⟩
  · rintro env S14 ⟨D14, hq14, hg14, x6, x7, rfl⟩
    exact ⟨D14, _, _, _, _, _, _, rfl⟩
end Sv

namespace Sv
open PySem PySem.Spec PyProof.Rows L2
set_option maxHeartbeats 4000000 in
theorem all_mk {l : PySem.W.OpenLaw} {w : World} {K : PySem.W.Frag} {h : Heap} {mg : Str → Option Value} {fa f0 f1 f2 f3 f4 f5 f6 f7 f8 f9 f10 f11 f12 f13 f14 f15 f16 f17 f18 f19 f20 f21 f22 f23 f24 : Addr} (X : K.In h) (G : h.Ns mainGlobals mg) (hfa : mg "law" = some (.ref fa))
    {od0 an0 od1 an1 od2 an2 od3 an3 od4 an4 od5 an5 od6 an6 od7 an7 od8 an8 od9 an9 od10 an10 od11 an11 od12 an12 od13 an13 od14 an14 od15 an15 od16 an16 od17 an17 od18 an18 od19 an19 od20 an20 od21 an21 od22 an22 od23 an23 od24 an24 : Option Addr} {sl0 sl1 sl2 sl3 sl4 sl5 sl6 sl7 sl8 sl9 sl10 sl11 sl12 sl13 sl14 sl15 sl16 sl17 sl18 sl19 sl20 sl21 sl22 sl23 sl24 : Array (Option Value)} {oc0 kV0 dc0 pm0 cd0 ct0 oc1 kV1 dc1 pm1 cd1 ct1 oc2 kV2 dc2 pm2 cd2 ct2 oc3 kV3 dc3 pm3 cd3 ct3 oc4 kV4 dc4 pm4 cd4 ct4 oc5 kV5 dc5 pm5 cd5 ct5 oc6 kV6 dc6 pm6 cd6 ct6 oc7 kV7 dc7 pm7 cd7 ct7 oc8 kV8 dc8 pm8 cd8 ct8 oc9 kV9 dc9 pm9 cd9 ct9 oc10 kV10 dc10 pm10 cd10 ct10 oc11 kV11 dc11 pm11 cd11 ct11 oc12 kV12 dc12 pm12 cd12 ct12 oc13 kV13 dc13 pm13 cd13 ct13 oc14 kV14 dc14 pm14 cd14 ct14 oc15 kV15 dc15 pm15 cd15 ct15 oc16 kV16 dc16 pm16 cd16 ct16 oc17 kV17 dc17 pm17 cd17 ct17 oc18 kV18 dc18 pm18 cd18 ct18 oc19 kV19 dc19 pm19 cd19 ct19 oc20 kV20 dc20 pm20 cd20 ct20 oc21 kV21 dc21 pm21 cd21 ct21 oc22 kV22 dc22 pm22 cd22 ct22 oc23 kV23 dc23 pm23 cd23 ct23 oc24 kV24 dc24 pm24 cd24 ct24 : Value}
    (a0 : PySem.W.nsIn K mainGlobals "_law_next" = some (some (.ref f0))) (l0 : K.lookup f0 = some ⟨oc0, od0, .func (PySem.W.fnOf "_law_next" "_law_next" (defArgs s__law_next) (defBody s__law_next) (defScope s__law_next) .none kV0 dc0 pm0 an0 cd0 ct0), sl0⟩) (c0 : PySem.W.codeIn K cd0 "_law_next" = true) (k0 : PySem.W.keepIn K (.ref f0) = true)
    (a1 : PySem.W.nsIn K mainGlobals "_law_lost" = some (some (.ref f1))) (l1 : K.lookup f1 = some ⟨oc1, od1, .func (PySem.W.fnOf "_law_lost" "_law_lost" (defArgs s__law_lost) (defBody s__law_lost) (defScope s__law_lost) .none kV1 dc1 pm1 an1 cd1 ct1), sl1⟩) (c1 : PySem.W.codeIn K cd1 "_law_lost" = true) (k1 : PySem.W.keepIn K (.ref f1) = true)
    (a2 : PySem.W.nsIn K mainGlobals "_law_same" = some (some (.ref f2))) (l2 : K.lookup f2 = some ⟨oc2, od2, .func (PySem.W.fnOf "_law_same" "_law_same" (defArgs s__law_same) (defBody s__law_same) (defScope s__law_same) .none kV2 dc2 pm2 an2 cd2 ct2), sl2⟩) (c2 : PySem.W.codeIn K cd2 "_law_same" = true) (k2 : PySem.W.keepIn K (.ref f2) = true)
    (a3 : PySem.W.nsIn K mainGlobals "is_orphan" = some (some (.ref f3))) (l3 : K.lookup f3 = some ⟨oc3, od3, .func (PySem.W.fnOf "is_orphan" "is_orphan" (defArgs s_is_orphan) (defBody s_is_orphan) (defScope s_is_orphan) .none kV3 dc3 pm3 an3 cd3 ct3), sl3⟩) (c3 : PySem.W.codeIn K cd3 "is_orphan" = true) (k3 : PySem.W.keepIn K (.ref f3) = true)
    (a4 : PySem.W.nsIn K mainGlobals "lowered" = some (some (.ref f4))) (l4 : K.lookup f4 = some ⟨oc4, od4, .func (PySem.W.fnOf "lowered" "lowered" (defArgs s_lowered) (defBody s_lowered) (defScope s_lowered) .none kV4 dc4 pm4 an4 cd4 ct4), sl4⟩) (c4 : PySem.W.codeIn K cd4 "lowered" = true) (k4 : PySem.W.keepIn K (.ref f4) = true)
    (a5 : PySem.W.nsIn K mainGlobals "happened_at" = some (some (.ref f5))) (l5 : K.lookup f5 = some ⟨oc5, od5, .func (PySem.W.fnOf "happened_at" "happened_at" (defArgs s_happened_at) (defBody s_happened_at) (defScope s_happened_at) .none kV5 dc5 pm5 an5 cd5 ct5), sl5⟩) (c5 : PySem.W.codeIn K cd5 "happened_at" = true) (k5 : PySem.W.keepIn K (.ref f5) = true)
    (a6 : PySem.W.nsIn K mainGlobals "trips_of" = some (some (.ref f6))) (l6 : K.lookup f6 = some ⟨oc6, od6, .func (PySem.W.fnOf "trips_of" "trips_of" (defArgs s_trips_of) (defBody s_trips_of) (defScope s_trips_of) .none kV6 dc6 pm6 an6 cd6 ct6), sl6⟩) (c6 : PySem.W.codeIn K cd6 "trips_of" = true) (k6 : PySem.W.keepIn K (.ref f6) = true)
    (a7 : PySem.W.nsIn K mainGlobals "state_numbers" = some (some (.ref f7))) (l7 : K.lookup f7 = some ⟨oc7, od7, .func (PySem.W.fnOf "state_numbers" "state_numbers" (defArgs s_state_numbers) (defBody s_state_numbers) (defScope s_state_numbers) .none kV7 dc7 pm7 an7 cd7 ct7), sl7⟩) (c7 : PySem.W.codeIn K cd7 "state_numbers" = true) (k7 : PySem.W.keepIn K (.ref f7) = true)
    (a8 : PySem.W.nsIn K mainGlobals "fall_back" = some (some (.ref f8))) (l8 : K.lookup f8 = some ⟨oc8, od8, .func (PySem.W.fnOf "fall_back" "fall_back" (defArgs s_fall_back) (defBody s_fall_back) (defScope s_fall_back) .none kV8 dc8 pm8 an8 cd8 ct8), sl8⟩) (c8 : PySem.W.codeIn K cd8 "fall_back" = true) (k8 : PySem.W.keepIn K (.ref f8) = true)
    (a9 : PySem.W.nsIn K mainGlobals "_law_fallen" = some (some (.ref f9))) (l9 : K.lookup f9 = some ⟨oc9, od9, .func (PySem.W.fnOf "_law_fallen" "_law_fallen" (defArgs s__law_fallen) (defBody s__law_fallen) (defScope s__law_fallen) .none kV9 dc9 pm9 an9 cd9 ct9), sl9⟩) (c9 : PySem.W.codeIn K cd9 "_law_fallen" = true) (k9 : PySem.W.keepIn K (.ref f9) = true)
    (a10 : PySem.W.nsIn K mainGlobals "_law_tops" = some (some (.ref f10))) (l10 : K.lookup f10 = some ⟨oc10, od10, .func (PySem.W.fnOf "_law_tops" "_law_tops" (defArgs s__law_tops) (defBody s__law_tops) (defScope s__law_tops) .none kV10 dc10 pm10 an10 cd10 ct10), sl10⟩) (c10 : PySem.W.codeIn K cd10 "_law_tops" = true) (k10 : PySem.W.keepIn K (.ref f10) = true)
    (a11 : PySem.W.nsIn K mainGlobals "_law_due" = some (some (.ref f11))) (l11 : K.lookup f11 = some ⟨oc11, od11, .func (PySem.W.fnOf "_law_due" "_law_due" (defArgs s__law_due) (defBody s__law_due) (defScope s__law_due) .none kV11 dc11 pm11 an11 cd11 ct11), sl11⟩) (c11 : PySem.W.codeIn K cd11 "_law_due" = true) (k11 : PySem.W.keepIn K (.ref f11) = true)
    (a12 : PySem.W.nsIn K mainGlobals "_law_cuts" = some (some (.ref f12))) (l12 : K.lookup f12 = some ⟨oc12, od12, .func (PySem.W.fnOf "_law_cuts" "_law_cuts" (defArgs s__law_cuts) (defBody s__law_cuts) (defScope s__law_cuts) .none kV12 dc12 pm12 an12 cd12 ct12), sl12⟩) (c12 : PySem.W.codeIn K cd12 "_law_cuts" = true) (k12 : PySem.W.keepIn K (.ref f12) = true)
    (a13 : PySem.W.nsIn K mainGlobals "_law_letters" = some (some (.ref f13))) (l13 : K.lookup f13 = some ⟨oc13, od13, .func (PySem.W.fnOf "_law_letters" "_law_letters" (defArgs s__law_letters) (defBody s__law_letters) (defScope s__law_letters) .none kV13 dc13 pm13 an13 cd13 ct13), sl13⟩) (c13 : PySem.W.codeIn K cd13 "_law_letters" = true) (k13 : PySem.W.keepIn K (.ref f13) = true)
    (a14 : PySem.W.nsIn K mainGlobals "_law_spots" = some (some (.ref f14))) (l14 : K.lookup f14 = some ⟨oc14, od14, .func (PySem.W.fnOf "_law_spots" "_law_spots" (defArgs s__law_spots) (defBody s__law_spots) (defScope s__law_spots) .none kV14 dc14 pm14 an14 cd14 ct14), sl14⟩) (c14 : PySem.W.codeIn K cd14 "_law_spots" = true) (k14 : PySem.W.keepIn K (.ref f14) = true)
    (a15 : PySem.W.nsIn K mainGlobals "_law_places" = some (some (.ref f15))) (l15 : K.lookup f15 = some ⟨oc15, od15, .func (PySem.W.fnOf "_law_places" "_law_places" (defArgs s__law_places) (defBody s__law_places) (defScope s__law_places) .none kV15 dc15 pm15 an15 cd15 ct15), sl15⟩) (c15 : PySem.W.codeIn K cd15 "_law_places" = true) (k15 : PySem.W.keepIn K (.ref f15) = true)
    (a16 : PySem.W.nsIn K mainGlobals "_law_fits" = some (some (.ref f16))) (l16 : K.lookup f16 = some ⟨oc16, od16, .func (PySem.W.fnOf "_law_fits" "_law_fits" (defArgs s__law_fits) (defBody s__law_fits) (defScope s__law_fits) .none kV16 dc16 pm16 an16 cd16 ct16), sl16⟩) (c16 : PySem.W.codeIn K cd16 "_law_fits" = true) (k16 : PySem.W.keepIn K (.ref f16) = true)
    (a17 : PySem.W.nsIn K mainGlobals "_law_one" = some (some (.ref f17))) (l17 : K.lookup f17 = some ⟨oc17, od17, .func (PySem.W.fnOf "_law_one" "_law_one" (defArgs s__law_one) (defBody s__law_one) (defScope s__law_one) .none kV17 dc17 pm17 an17 cd17 ct17), sl17⟩) (c17 : PySem.W.codeIn K cd17 "_law_one" = true) (k17 : PySem.W.keepIn K (.ref f17) = true)
    (a18 : PySem.W.nsIn K mainGlobals "_law_grown" = some (some (.ref f18))) (l18 : K.lookup f18 = some ⟨oc18, od18, .func (PySem.W.fnOf "_law_grown" "_law_grown" (defArgs s__law_grown) (defBody s__law_grown) (defScope s__law_grown) .none kV18 dc18 pm18 an18 cd18 ct18), sl18⟩) (c18 : PySem.W.codeIn K cd18 "_law_grown" = true) (k18 : PySem.W.keepIn K (.ref f18) = true)
    (a19 : PySem.W.nsIn K mainGlobals "_law_shuffled" = some (some (.ref f19))) (l19 : K.lookup f19 = some ⟨oc19, od19, .func (PySem.W.fnOf "_law_shuffled" "_law_shuffled" (defArgs s__law_shuffled) (defBody s__law_shuffled) (defScope s__law_shuffled) .none kV19 dc19 pm19 an19 cd19 ct19), sl19⟩) (c19 : PySem.W.codeIn K cd19 "_law_shuffled" = true) (k19 : PySem.W.keepIn K (.ref f19) = true)
    (a20 : PySem.W.nsIn K mainGlobals "_law_begun" = some (some (.ref f20))) (l20 : K.lookup f20 = some ⟨oc20, od20, .func (PySem.W.fnOf "_law_begun" "_law_begun" (defArgs s__law_begun) (defBody s__law_begun) (defScope s__law_begun) .none kV20 dc20 pm20 an20 cd20 ct20), sl20⟩) (c20 : PySem.W.codeIn K cd20 "_law_begun" = true) (k20 : PySem.W.keepIn K (.ref f20) = true)
    (a21 : PySem.W.nsIn K mainGlobals "_law_domino" = some (some (.ref f21))) (l21 : K.lookup f21 = some ⟨oc21, od21, .func (PySem.W.fnOf "_law_domino" "_law_domino" (defArgs s__law_domino) (defBody s__law_domino) (defScope s__law_domino) .none kV21 dc21 pm21 an21 cd21 ct21), sl21⟩) (c21 : PySem.W.codeIn K cd21 "_law_domino" = true) (k21 : PySem.W.keepIn K (.ref f21) = true)
    (a22 : PySem.W.nsIn K mainGlobals "_law_history" = some (some (.ref f22))) (l22 : K.lookup f22 = some ⟨oc22, od22, .func (PySem.W.fnOf "_law_history" "_law_history" (defArgs s__law_history) (defBody s__law_history) (defScope s__law_history) .none kV22 dc22 pm22 an22 cd22 ct22), sl22⟩) (c22 : PySem.W.codeIn K cd22 "_law_history" = true) (k22 : PySem.W.keepIn K (.ref f22) = true)
    (a23 : PySem.W.nsIn K mainGlobals "_law_deck" = some (some (.ref f23))) (l23 : K.lookup f23 = some ⟨oc23, od23, .func (PySem.W.fnOf "_law_deck" "_law_deck" (defArgs s__law_deck) (defBody s__law_deck) (defScope s__law_deck) .none kV23 dc23 pm23 an23 cd23 ct23), sl23⟩) (c23 : PySem.W.codeIn K cd23 "_law_deck" = true) (k23 : PySem.W.keepIn K (.ref f23) = true)
    (a24 : PySem.W.nsIn K mainGlobals "law" = some (some (.ref f24))) (l24 : K.lookup f24 = some ⟨oc24, od24, .func (PySem.W.fnOf "law" "law" (defArgs s_law) (defBody s_law) (defScope s_law) .none kV24 dc24 pm24 an24 cd24 ct24), sl24⟩) (c24 : PySem.W.codeIn K cd24 "law" = true) (k24 : PySem.W.keepIn K (.ref f24) = true)
    (z0 : PySem.W.nsIn K mainGlobals "int" = some none) (z1 : PySem.W.nsIn K mainGlobals "range" = some none) (z2 : PySem.W.nsIn K mainGlobals "len" = some none) (z3 : PySem.W.nsIn K mainGlobals "tuple" = some none) (z4 : PySem.W.nsIn K mainGlobals "repr" = some none) (z5 : PySem.W.nsIn K mainGlobals "list" = some none) (z6 : PySem.W.nsIn K mainGlobals "enumerate" = some none) (z7 : PySem.W.nsIn K mainGlobals "sorted" = some none) (z8 : PySem.W.nsIn K mainGlobals "zip" = some none) (z9 : PySem.W.nsIn K mainGlobals "max" = some none) (z10 : PySem.W.nsIn K mainGlobals "abs" = some none) :
    ∃ fd : FuncData, (∀ (s : Shared) (v : Value), BindsTo s fd ⟨[v], []⟩ [("_law_script", v)]) ∧ ∀ base : Heap, K.In base → base.Ns mainGlobals mg → FnG l.prog w K mg base 5 fa fd ["_law_script"] (spLawD K) := by
  have e := hfa.symm.trans (PySem.W.mg_of X G a24)
  cases e
  have F0 := fun_mk (st := s__law_next) l0 c0 k0
  have F1 := fun_mk (st := s__law_lost) l1 c1 k1
  have F2 := fun_mk (st := s__law_same) l2 c2 k2
  have F3 := fun_mk (st := s_is_orphan) l3 c3 k3
  have F4 := fun_mk (st := s_lowered) l4 c4 k4
  have F5 := fun_mk (st := s_happened_at) l5 c5 k5
  have F6 := fun_mk (st := s_trips_of) l6 c6 k6
  have F7 := fun_mk (st := s_state_numbers) l7 c7 k7
  have F8 := fun_mk (st := s_fall_back) l8 c8 k8
  have F9 := fun_mk (st := s__law_fallen) l9 c9 k9
  have F10 := fun_mk (st := s__law_tops) l10 c10 k10
  have F11 := fun_mk (st := s__law_due) l11 c11 k11
  have F12 := fun_mk (st := s__law_cuts) l12 c12 k12
  have F13 := fun_mk (st := s__law_letters) l13 c13 k13
  have F14 := fun_mk (st := s__law_spots) l14 c14 k14
  have F15 := fun_mk (st := s__law_places) l15 c15 k15
  have F16 := fun_mk (st := s__law_fits) l16 c16 k16
  have F17 := fun_mk (st := s__law_one) l17 c17 k17
  have F18 := fun_mk (st := s__law_grown) l18 c18 k18
  have F19 := fun_mk (st := s__law_shuffled) l19 c19 k19
  have F20 := fun_mk (st := s__law_begun) l20 c20 k20
  have F21 := fun_mk (st := s__law_domino) l21 c21 k21
  have F22 := fun_mk (st := s__law_history) l22 c22 k22
  have F23 := fun_mk (st := s__law_deck) l23 c23 k23
  have F24 := fun_mk (st := s_law) l24 c24 k24
  refine ⟨(PySem.W.fnOf "law" "law" (defArgs s_law) (defBody s_law) (defScope s_law) .none kV24 dc24 pm24 an24 cd24 ct24), fun s v => .of_eq rfl, fun base _ _ => ?_⟩
  have D__law_next : DFo l.prog w K mg base 1 "_law_next" 2 (dFn 4 B_law_next_74a4) := .mk' (der__law_next F0 (PySem.W.mg_none_of X G z0)) (PySem.W.mg_of X G a0) F0.kp (F0.binds (ps := ["_law_deck_here", "_law_many"]) fun _ _ _ _ _ _ us hl => match us, hl with | [_, _], _ => rfl)
  have D__law_lost : DFo l.prog w K mg base 2 "_law_lost" 2 (dFn 3 B_law_lost_0080) := .mk' (der__law_lost F1 D__law_next (PySem.W.mg_none_of X G z1) (PySem.W.mg_none_of X G z2) (PySem.W.mg_none_of X G z3)) (PySem.W.mg_of X G a1) F1.kp (F1.binds (ps := ["_law_deck_here", "_law_rows"]) fun _ _ _ _ _ _ us hl => match us, hl with | [_, _], _ => rfl)
  have D__law_same : DFn l.prog w K mg base 1 "_law_same" 2 (dFn 2 B_law_same_7705) := .mk' (der__law_same F2 (PySem.W.mg_none_of X G z4)) (PySem.W.mg_of X G a2) F2.kp (F2.binds (ps := ["_law_found", "_law_due_here"]) fun _ _ _ _ _ _ us hl => match us, hl with | [_, _], _ => rfl)
  have D_is_orphan : DFo l.prog w K mg base 1 "is_orphan" 2 (dFn 6 B_is_orphan_8604) := .mk' (der_is_orphan F3 ) (PySem.W.mg_of X G a3) F3.kp (F3.binds (ps := ["trip", "line"]) fun _ _ _ _ _ _ us hl => match us, hl with | [_, _], _ => rfl)
  have D_lowered : DFo l.prog w K mg base 2 "lowered" 2 (dFn 7 B_lowered_c6aa) := .mk' (der_lowered F4 D_is_orphan (PySem.W.mg_none_of X G z3) (PySem.W.mg_none_of X G z5)) (PySem.W.mg_of X G a4) F4.kp (F4.binds (ps := ["trips", "high"]) fun _ _ _ _ _ _ us hl => match us, hl with | [_, _], _ => rfl)
  have D_happened_at : DFo l.prog w K mg base 1 "happened_at" 2 (dFn 6 B_happened_at_e85f) := .mk' (der_happened_at F5 (PySem.W.mg_none_of X G z6)) (PySem.W.mg_of X G a5) F5.kp (F5.binds (ps := ["history", "event"]) fun _ _ _ _ _ _ us hl => match us, hl with | [_, _], _ => rfl)
  have D_trips_of : DFo l.prog w K mg base 2 "trips_of" 1 (dFn 5 B_trips_of_ea9a) := .mk' (der_trips_of F6 D_happened_at (PySem.W.mg_none_of X G z7)) (PySem.W.mg_of X G a6) F6.kp (F6.binds (ps := ["history"]) fun _ _ _ _ _ _ us hl => match us, hl with | [_], _ => rfl)
  have D_state_numbers : DFo l.prog w K mg base 1 "state_numbers" 1 (dFn 2 B_state_numbers_78d0) := .mk' (der_state_numbers F7 (PySem.W.mg_none_of X G z3)) (PySem.W.mg_of X G a7) F7.kp (F7.binds (ps := ["history"]) fun _ _ _ _ _ _ us hl => match us, hl with | [_], _ => rfl)
  have D_fall_back : DFs l.prog w K mg base 3 "fall_back" (dFnS 1 5 B_fall_back_94df) := .mk' (der_fall_back F8 D_lowered D_trips_of D_state_numbers (PySem.W.mg_none_of X G z6) (fun us rest hl => StX.bind_star1 (B := fun us => bindArgs (PySem.W.fnOf "fall_back" "fall_back" (defArgs s_fall_back) (defBody s_fall_back) (defScope s_fall_back) .none kV8 dc8 pm8 an8 cd8 ct8) ⟨us, []⟩) (fun _ => rfl) (fun _ _ _ => rfl) us rest hl)) (PySem.W.mg_of X G a8) F8.kp
  have D__law_fallen : DFo l.prog w K mg base 4 "_law_fallen" 2 (dFn 2 B_law_fallen_e0f3) := .mk' (der__law_fallen F9 D_fall_back (PySem.W.mg_none_of X G z2)) (PySem.W.mg_of X G a9) F9.kp (F9.binds (ps := ["_law_rows", "_law_lost_here"]) fun _ _ _ _ _ _ us hl => match us, hl with | [_, _], _ => rfl)
  have D__law_tops : DFo l.prog w K mg base 1 "_law_tops" 2 (dFn 4 B_law_tops_eaaa) := .mk' (der__law_tops F10 (PySem.W.mg_none_of X G z6) (PySem.W.mg_none_of X G z0)) (PySem.W.mg_of X G a10) F10.kp (F10.binds (ps := ["_law_rows", "_law_lost_here"]) fun _ _ _ _ _ _ us hl => match us, hl with | [_, _], _ => rfl)
  have D__law_due : DFo l.prog w K mg base 2 "_law_due" 3 (dFn 9 B_law_due_8e3c) := .mk' (der__law_due F11 D__law_tops (PySem.W.mg_none_of X G z3) (PySem.W.mg_none_of X G z8) (PySem.W.mg_none_of X G z9) (PySem.W.mg_none_of X G z2)) (PySem.W.mg_of X G a11) F11.kp (F11.binds (ps := ["_law_rows", "_law_lost_here", "_law_good"]) fun _ _ _ _ _ _ us hl => match us, hl with | [_, _, _], _ => rfl)
  have D__law_cuts : DFo l.prog w K mg base 1 "_law_cuts" 1 (dFn 6 B_law_cuts_850b) := .mk' (der__law_cuts F12 (PySem.W.mg_none_of X G z1)) (PySem.W.mg_of X G a12) F12.kp (F12.binds (ps := ["_law_rows"]) fun _ _ _ _ _ _ us hl => match us, hl with | [_], _ => rfl)
  have D__law_letters : DFo l.prog w K mg base 1 "_law_letters" 1 (dFn 8 B_law_letters_6581) := .mk' (der__law_letters F13 (PySem.W.mg_none_of X G z6) (PySem.W.mg_none_of X G z2) (PySem.W.mg_none_of X G z1)) (PySem.W.mg_of X G a13) F13.kp (F13.binds (ps := ["_law_rows"]) fun _ _ _ _ _ _ us hl => match us, hl with | [_], _ => rfl)
  have D__law_spots : DFo l.prog w K mg base 1 "_law_spots" 1 (dFn 3 B_law_spots_60b5) := .mk' (der__law_spots F14 (PySem.W.mg_none_of X G z6) (PySem.W.mg_none_of X G z2)) (PySem.W.mg_of X G a14) F14.kp (F14.binds (ps := ["_law_row"]) fun _ _ _ _ _ _ us hl => match us, hl with | [_], _ => rfl)
  have D__law_places : DFo l.prog w K mg base 2 "_law_places" 2 (dFn 4 B_law_places_b8ae) := .mk' (der__law_places F15 D__law_spots (PySem.W.mg_none_of X G z8)) (PySem.W.mg_of X G a15) F15.kp (F15.binds (ps := ["_law_rows", "_law_cut"]) fun _ _ _ _ _ _ us hl => match us, hl with | [_, _], _ => rfl)
  have D__law_fits : DFo l.prog w K mg base 3 "_law_fits" 2 (dFn 8 B_law_fits_b0d3) := .mk' (der__law_fits F16 D__law_letters D__law_places) (PySem.W.mg_of X G a16) F16.kp (F16.binds (ps := ["_law_rows", "_law_cut"]) fun _ _ _ _ _ _ us hl => match us, hl with | [_, _], _ => rfl)
  have D__law_one : DFo l.prog w K mg base 2 "_law_one" 2 (dFn 2 B_law_one_4842) := .mk' (der__law_one F17 D__law_next (PySem.W.mg_none_of X G z2)) (PySem.W.mg_of X G a17) F17.kp (F17.binds (ps := ["_law_deck_here", "_law_items"]) fun _ _ _ _ _ _ us hl => match us, hl with | [_, _], _ => rfl)
  have D__law_grown : DFo l.prog w K mg base 3 "_law_grown" 2 (dFn 14 B_law_grown_680b) := .mk' (der__law_grown F18 D__law_one D__law_next (PySem.W.mg_none_of X G z2)) (PySem.W.mg_of X G a18) F18.kp (F18.binds (ps := ["_law_deck_here", "_law_state"]) fun _ _ _ _ _ _ us hl => match us, hl with | [_, _], _ => rfl)
  have D__law_shuffled : DFo l.prog w K mg base 2 "_law_shuffled" 2 (dFn 4 B_law_shuffled_c6aa) := .mk' (der__law_shuffled F19 D__law_next (PySem.W.mg_none_of X G z2) (PySem.W.mg_none_of X G z5)) (PySem.W.mg_of X G a19) F19.kp (F19.binds (ps := ["_law_deck_here", "_law_items"]) fun _ _ _ _ _ _ us hl => match us, hl with | [_, _], _ => rfl)
  have D__law_begun : DFo l.prog w K mg base 3 "_law_begun" 2 (dFn 3 B_law_begun_2a66) := .mk' (der__law_begun F20 D__law_next D__law_shuffled (PySem.W.mg_none_of X G z5) (PySem.W.mg_none_of X G z1)) (PySem.W.mg_of X G a20) F20.kp (F20.binds (ps := ["_law_deck_here", "_law_many"]) fun _ _ _ _ _ _ us hl => match us, hl with | [_, _], _ => rfl)
  have D__law_domino : DFo l.prog w K mg base 2 "_law_domino" 2 (dFn 5 B_law_domino_a8d9) := .mk' (der__law_domino F21 D__law_next (PySem.W.mg_none_of X G z9) (PySem.W.mg_none_of X G z1)) (PySem.W.mg_of X G a21) F21.kp (F21.binds (ps := ["_law_deck_here", "_law_most"]) fun _ _ _ _ _ _ us hl => match us, hl with | [_, _], _ => rfl)
  have D__law_history : DFo l.prog w K mg base 4 "_law_history" 3 (dFn 5 B_law_history_9bf0) := .mk' (der__law_history F22 D__law_next D__law_grown D__law_begun D__law_domino (PySem.W.mg_none_of X G z1)) (PySem.W.mg_of X G a22) F22.kp (F22.binds (ps := ["_law_deck_here", "_law_many", "_law_most"]) fun _ _ _ _ _ _ us hl => match us, hl with | [_, _, _], _ => rfl)
  have D__law_deck : DFo l.prog w K mg base 1 "_law_deck" 1 (dFn 2 B_law_deck_74a9) := .mk' (der__law_deck F23 (PySem.W.mg_none_of X G z2) (PySem.W.mg_none_of X G z10)) (PySem.W.mg_of X G a23) F23.kp (F23.binds (ps := ["_law_script"]) fun _ _ _ _ _ _ us hl => match us, hl with | [_], _ => rfl)
  exact (der_law F24 D__law_lost D__law_same D__law_fallen D__law_due D__law_cuts D__law_fits D__law_history D__law_deck (PySem.W.mg_none_of X G z1) (PySem.W.mg_none_of X G z2) (PySem.W.mg_none_of X G z4)).lawD rfl law_k39
end Sv

open PySem PySem.W PyProof.Rows in
set_option maxRecDepth 100000 in
set_option maxHeartbeats 0 in
theorem PySem.Challenge.cw_savelines_k39_fall_back_by_search_holds : PySem.Challenge.rw_savelines_k39_fall_back_by_search.Holds := by
  w_on; o_law; k_head; (case hw => w_witness2)
  k_fill
  refine Sv.walkG (l := PySem.Challenge.rw_savelines_k39_fall_back_by_search) (n := 63) (k := 5) (x := "_law_script") (sp := Sv.spLawD) rfl (by decide) rfl ⟨rfl, by decide, by decide⟩ (fun w h Y => PySem.W.kIn_of Y) ?F (fun K H a ns hl hO hS => ⟨a, ns, rfl, hO, hS, hl, fun _ => rfl⟩)
  case F =>
    intro w mg fa h KX G hmg
    refine' Sv.all_mk KX G hmg ?a0 ?l0 ?c0 ?k0 ?a1 ?l1 ?c1 ?k1 ?a2 ?l2 ?c2 ?k2 ?a3 ?l3 ?c3 ?k3 ?a4 ?l4 ?c4 ?k4 ?a5 ?l5 ?c5 ?k5 ?a6 ?l6 ?c6 ?k6 ?a7 ?l7 ?c7 ?k7 ?a8 ?l8 ?c8 ?k8 ?a9 ?l9 ?c9 ?k9 ?a10 ?l10 ?c10 ?k10 ?a11 ?l11 ?c11 ?k11 ?a12 ?l12 ?c12 ?k12 ?a13 ?l13 ?c13 ?k13 ?a14 ?l14 ?c14 ?k14 ?a15 ?l15 ?c15 ?k15 ?a16 ?l16 ?c16 ?k16 ?a17 ?l17 ?c17 ?k17 ?a18 ?l18 ?c18 ?k18 ?a19 ?l19 ?c19 ?k19 ?a20 ?l20 ?c20 ?k20 ?a21 ?l21 ?c21 ?k21 ?a22 ?l22 ?c22 ?k22 ?a23 ?l23 ?c23 ?k23 ?a24 ?l24 ?c24 ?k24 ?z0 ?z1 ?z2 ?z3 ?z4 ?z5 ?z6 ?z7 ?z8 ?z9 ?z10
    (case a0 => k_is)
    (case l0 => k_is)
    (case c0 => k_is)
    (case k0 => k_is)
    (case a1 => k_is)
    (case l1 => k_is)
    (case c1 => k_is)
    (case k1 => k_is)
    (case a2 => k_is)
    (case l2 => k_is)
    (case c2 => k_is)
    (case k2 => k_is)
    (case a3 => k_is)
    (case l3 => k_is)
    (case c3 => k_is)
    (case k3 => k_is)
    (case a4 => k_is)
    (case l4 => k_is)
    (case c4 => k_is)
    (case k4 => k_is)
    (case a5 => k_is)
    (case l5 => k_is)
    (case c5 => k_is)
    (case k5 => k_is)
    (case a6 => k_is)
    (case l6 => k_is)
    (case c6 => k_is)
    (case k6 => k_is)
    (case a7 => k_is)
    (case l7 => k_is)
    (case c7 => k_is)
    (case k7 => k_is)
    (case a8 => k_is)
    (case l8 => k_is)
    (case c8 => k_is)
    (case k8 => k_is)
    (case a9 => k_is)
    (case l9 => k_is)
    (case c9 => k_is)
    (case k9 => k_is)
    (case a10 => k_is)
    (case l10 => k_is)
    (case c10 => k_is)
    (case k10 => k_is)
    (case a11 => k_is)
    (case l11 => k_is)
    (case c11 => k_is)
    (case k11 => k_is)
    (case a12 => k_is)
    (case l12 => k_is)
    (case c12 => k_is)
    (case k12 => k_is)
    (case a13 => k_is)
    (case l13 => k_is)
    (case c13 => k_is)
    (case k13 => k_is)
    (case a14 => k_is)
    (case l14 => k_is)
    (case c14 => k_is)
    (case k14 => k_is)
    (case a15 => k_is)
    (case l15 => k_is)
    (case c15 => k_is)
    (case k15 => k_is)
    (case a16 => k_is)
    (case l16 => k_is)
    (case c16 => k_is)
    (case k16 => k_is)
    (case a17 => k_is)
    (case l17 => k_is)
    (case c17 => k_is)
    (case k17 => k_is)
    (case a18 => k_is)
    (case l18 => k_is)
    (case c18 => k_is)
    (case k18 => k_is)
    (case a19 => k_is)
    (case l19 => k_is)
    (case c19 => k_is)
    (case k19 => k_is)
    (case a20 => k_is)
    (case l20 => k_is)
    (case c20 => k_is)
    (case k20 => k_is)
    (case a21 => k_is)
    (case l21 => k_is)
    (case c21 => k_is)
    (case k21 => k_is)
    (case a22 => k_is)
    (case l22 => k_is)
    (case c22 => k_is)
    (case k22 => k_is)
    (case a23 => k_is)
    (case l23 => k_is)
    (case c23 => k_is)
    (case k23 => k_is)
    (case a24 => k_is)
    (case l24 => k_is)
    (case c24 => k_is)
    (case k24 => k_is)
    (case z0 => k_is)
    (case z1 => k_is)
    (case z2 => k_is)
    (case z3 => k_is)
    (case z4 => k_is)
    (case z5 => k_is)
    (case z6 => k_is)
    (case z7 => k_is)
    (case z8 => k_is)
    (case z9 => k_is)
    (case z10 => k_is)
