import PyProof.Rows.All
import Wide.All
import OpenK.AllK
import Wide.FinOn
import PyProof.EqAt
import PyProof.EqKinds
import PyProof.TupleCall
import HandS.ForMost
import HandS.Conv
import HandS.Style
import HandS.Deep
import KE.DataFind
import PyProof.ReprRoads
import KE.GoesEnum
import HandS.Star
import HandS.Iter
import HandS.IsInst
import HandS.Strs
import HandS.Zip
import HandS.Walk
import HandS.Comp
import HandS.DictComp
import HandS.RaiseMore
import PyProof.CallFns
import HandS.TupMul
import HandS.TupAny
import KE.GoesMore
import PyProof.ZipIter
import HandS.Zip0
import HandS.List
import HandS.TupSets
import HandS.SetBool
import PyProof.P3In
import PyProof.Rows.InDataRows
import HandS.NoneIn
import PySem.Challenge.RW_savelines_k43_needed_and_deletable_state
set_option Elab.async false
set_option linter.all false
set_option maxRecDepth 100000
/-! repr where nothing of repr is under way: promises that know the guards; text of data; more of tuples. -/
namespace Sv
open PySem PySem.Spec PyProof.Rows L2

/-- a def's promise for calls made where no repr runs -/
structure FnG (P : Program) (w : World) (K : PySem.W.Frag) (mg : Str → Option Value) (base : Heap)
    (k : Nat) (f : Addr) (fd : FuncData) (ps : List Str) (sp : Sp) : Prop where
  len : ∀ vs H Q E, sp vs H Q E → vs.length = ps.length
  run : ∀ (A : Around), A.guards = some [] →
    ∀ (outer : List Env) (s : Shared) (H : Hp) (args : Args) (us : List Value) (vs : List V) (Q : VK) (E : XK),
    Room k A → Env0 P w K mg base A outer s H → BindsTo s fd args (ps.zip us) → Vals vs us → sp vs H Q E →
    codeAny (model P w) A (.call (.ref f) args) (CR CX0 outer P w H s Q E) s

section
variable {P : Program} {w : World} {K : PySem.W.Frag} {mg : Str → Option Value} {base : Heap}

theorem FnG.ofOk {k : Nat} {f : Addr} {fd : FuncData} {ps : List Str} {sp : Sp}
    (F : FnOk P w K mg base CX0 k f fd ps sp) : FnG P w K mg base k f fd ps sp :=
  ⟨F.len, fun A _ outer s H args us vs Q E => F.run A outer s H args us vs Q E⟩

/-- the def's body, where no repr runs -/
theorem okG {x qual : Str} {st : Stmt} {f : Addr} {fd : FuncData} {N ps : List Str} {k : Nat} {sp : Sp}
    (F : Fun K x qual st f fd) (S : FnScope N ps (defScope st)) (len : ∀ vs H Q E, sp vs H Q E → vs.length = ps.length)
    (hbody : ∀ (cdv : Value) (A : Around) (outer : List Env) (s : Shared) (H : Hp) (vs : List V) (Q : VK) (E : XK),
      A.guards = some [] → Room k (A.deeper (envOfC qual (defScope st) s.heap.objs.size f cdv)) → sp vs H Q E →
      ∃ t, PSs (cxOf CX0 P w K mg base N qual (defScope st) f cdv A outer s H E).nox (defBody st) t ∧
        t { nx := fun _ H' => Q .non H', rt := Q } (start N vs) H) :
    FnG P w K mg base (k + 1) f fd ps sp := by
  obtain ⟨oc, od, kV, doc, pm, an, cdv, ct, osl, rfl, lk, hcd⟩ := F.ex
  refine ⟨len, fun A hg outer s H args us vs Q E hr e0 hb r hsp => ?_⟩
  have hl := len vs H Q E hsp
  have KX : K.In s.heap := e0.mod.kin.keeps fun b o e => And.left (e0.bs b o e)
  have lim := e0.mod.nolimit.keeps fun b o e => And.left (e0.bs b o e)
  have hkind : ∀ y ∈ ps.zip us, (defScope st).names.lookup y.1 = some .local ∨
      ((defScope st).names.lookup y.1 = some .cell ∧
        ((cellsFrom (s.heap.objs.size + 1) (defScope st).names []).lookup y.1).isSome = true) := by
    rintro ⟨n, v⟩ hy
    cases S.par n (List.of_mem_zip hy).1 with
    | inl q => exact Or.inl q
    | inr q => exact Or.inr ⟨q, PySem.W.cellsFrom_some _ _ _ (Or.inl q)⟩
  refine codeAny_call_function hr.depth (KX _ _ lk) rfl S.co S.gen rfl (PySem.W.codeRec_of KX hcd) (hb _ _ _ _ ?_)
  refine wpAny_newFunctionEnv_cells S.kind hkind fun env he s1 X1 => ?_
  subst he
  refine ⟨lim.keeps X1.toInCall.keep, codeAny_func ?_⟩
  obtain ⟨t, ht0, hq⟩ := hbody cdv A outer s H vs Q E hg (hr.deeper _) hsp
  have ht := ht0.nox
  have I0 := inv_start (CX := CX0) (E := E) S hr.hd e0 hl r X1
  refine wpAny_mono (ht.run [] s1 (start N vs) H _ I0 hq) (fun fl s' hs => ?_) (fun e s' hs => hs)
  cases fl with
  | ret u =>
    obtain ⟨v, σ', H', J, rv, q⟩ := hs
    exact ⟨v, H', J.os, J.bare, J.base, J.hok, rv, q⟩
  | next =>
    obtain ⟨σ', H', J, q⟩ := hs
    exact ⟨V.non, H', J.os, J.bare, J.base, J.hok, rfl, q⟩
  | brk =>
    obtain ⟨σ', H', J, q⟩ := hs
    exact q.elim
  | cont =>
    obtain ⟨σ', H', J, q⟩ := hs
    exact q.elim
end

section
variable {X : Cx} {k : Nat} {f : Addr} {fd : FuncData} {ps : List Str} {sp : Sp} {dvs : List V} {ds : List Value}
  {E : XK} {x : Str} {p pos : Pos} {e : Expr} {es : List Expr} {t : TA}

/-- f(e, ..) of such a def -/
theorem pe_callG (F : FnG X.prog X.w X.K X.mg X.base k f fd ps sp) (hgd : X.A.guards = some []) (hr : Room k X.A) (hg : Gl X x)
    (hm : X.mg x = some (.ref f)) (hk : PySem.W.keepIn X.K (.ref f) = true) (hb : Binds X.K fd ps ds) (hd : Vals dvs ds)
    (hx : Passes CX0 X E) (ha : PA X (e :: es) t) (hdb : (x == ("__debug__" : Str)) = false := by decide)
    (he : starEach (e :: es) X.env = (false, eval e X.env) :: starEach es X.env := by rfl)
    (hpl : (backTo pos (starEach es X.env)).any (·.1) = false := by rfl) :
    PE X (.Call (.Name x p) (e :: es) [] pos) (tCall sp dvs E t) := by
  refine ⟨fun pins s σ H Q I h => wpAny_Call_Name_kw (ld_glob I hg hm ?_ hdb)⟩
  refine PySem.W.callWith_K (h₀ := X.base) I.ok.mod.kin hk
    (thn (ha.run pos pins s σ H _ I h) fun us s1 ⟨vs, H1, I1, r, q⟩ => ⟨I1.kIn, ?_⟩) he hpl
  have r2 : Vals (vs ++ dvs) (us ++ ds) := r.append hd
  have hl : (us ++ ds).length = ps.length := r2.length.symm.trans (F.len _ _ _ _ q)
  refine wpAny_call (codeAny_mono (F.run X.A hgd X.stack s1 H1 ⟨us, []⟩ (us ++ ds) (vs ++ dvs) Q E hr I1.env0
    (hb s1 us I1.kIn hl) r2 q) fun res s' hq => ?_)
  cases res with
  | error e => exact hx pins σ H1 s1 e s' I1 hq
  | ok fl =>
    cases fl with
    | ret u => exact I1.after hq
    | next => exact hq.elim
    | brk => exact hq.elim
    | cont => exact hq.elim
end

/-! ### the text of data -/
section
variable {X : Cx}
def Shown (K : PySem.W.Frag) (H : Hp) (v : V) (d : PyData) : Prop :=
  Dp K H v d ∧ isDisplay d = true ∧ d.showable = true ∧ d.hasDict = false ∧ d.depth ≤ 60 ∧ d.shown.length ≤ sizeLine
/-- repr(x) of lists and tuples -/
theorem call_repr (hgd : X.A.guards = some []) (hu : X.A.units + 64 < cLine) : CallR X (.builtin "repr")
    (fun xs H Q => ∃ v d, xs = [v] ∧ Shown X.K H v d ∧ Q (.str d.shown) H) := by
  intro pins s σ H xs us Q I r h
  obtain ⟨v, d, rfl, ⟨hd, h1, h2, h3, h4, h5⟩, q⟩ := h
  obtain ⟨u, rfl, ru⟩ := vals1 r
  obtain ⟨as, R⟩ := Dp.reads I d v u hd ru
  obtain ⟨a, rfl⟩ := isRef_of_reads R h1
  refine repr_of_reads' R h2 (PyData.noDict_hsm h3) hgd (by omega) (fun _ _ e => e) (fun h' tk1 tk2 hk => ?_) h5
  exact ⟨.str _, H, I.kept (t' := tk2) hk, ⟨tk1, rfl⟩, q⟩
end

/-! ### tuples -/
section
variable {X : Cx}
/-- t + u, the left one empty: the right one itself -/
theorem op_catE : OpR X (binaryOp .Add) (fun x y H Q => ∃ a b ys, x = .ref a ∧ y = .ref b ∧ SqT X.K H a [] ∧ SqT X.K H b ys ∧ ys ≠ [] ∧ Q (.ref b) H) := by
  intro pins s σ H x y v u Q I rx ry h
  obtain ⟨a, b, ys, rfl, rfl, ha, hb, hy, q⟩ := h
  cases rx
  cases ry
  obtain ⟨its, r1, p1, _⟩ := I.tuple ha
  obtain ⟨its2, r2, p2, _⟩ := I.tuple hb
  have e1 : its = [] := r1.nil_iff.mpr rfl
  subst e1
  obtain ⟨⟨c1, d1, t1, l1⟩, o1, h1, n1, g1⟩ := id p1
  obtain ⟨⟨c2, d2, t2, l2⟩, o2, h2, n2, g2⟩ := id p2
  simp only at h1 g1 h2 g2
  subst h1 g1 h2 g2
  exact concat_meets ⟨_, o1, rfl⟩ ⟨_, o2, rfl⟩ noFill_tuple_add seq_tuple_add PySem.F.slot_tuple_add PySem.F.entry_tuple_add
    (PySem.F.args_tuple_add_2 _ _) (tuple_addW0 a b _ _ n1 n2 d1 d2 l1 l2 (by rfl)) ⟨o1, o2, ⟨.ref b, H, I, rfl, q⟩⟩
end

/-! ### tuples that are known to bear no dict (their methods may be called) -/
def TupN (H : Hp) (a : Addr) (xs : List V) : Prop := ∃ o : Obj, H a = some (.frz o (.tup xs)) ∧ o.dict = none
theorem TupN.sqT {K : PySem.W.Frag} {H : Hp} {a : Addr} {xs : List V} (h : TupN H a xs) : SqT K H a xs := by
  obtain ⟨o, h, _⟩ := h
  exact .inl (.inr ⟨o, h⟩)
theorem TupN.same {H H' : Hp} {a : Addr} {xs : List V} (h : TupN H a xs) (e : ∀ b o, H b = some o → H' b = some o) : TupN H' a xs := by
  obtain ⟨o, h, d⟩ := h
  exact ⟨o, e _ _ h, d⟩
theorem TupN.new {H : Hp} {p : Addr} {o : Obj} {xs : List V} (d : o.dict = none) : TupN (upd H p (.frz o (.tup xs))) p xs := ⟨o, upd_same, d⟩
section
variable {X : Cx} {es : List Expr} {t : TA} {pos : Pos}
def tTupF (t : TA) : TE := fun σ H Q => t σ H fun xs H1 => xs.length ≤ sizeLine ∧ ∀ (p : Addr) (o : Obj), H1 p = none → o.dict = none → Q (.ref p) (upd H1 p (.frz o (.tup xs)))
theorem pe_tupF {x1} (h : PA X es t) : PE X (.Tuple es x1 pos) (tTupF t) := by
  refine ⟨fun pins s σ H Q I hq => ?_⟩
  refine wpAny_Tuple_spliced (thn (h.run pos pins s σ H _ I hq) fun us s1 ⟨xs, H1, I1, r, z, q⟩ => ⟨r.length ▸ z, ?_⟩)
  have hf : H1 s1.heap.objs.size = none := I1.hok.fresh (Nat.le_refl _)
  have hg := Heap.get?_push_size s1.heap (o := { cls := .type "tuple", data := .seq us.toArray }) rfl
  refine ⟨.ref s1.heap.objs.size, _, I1.laid (t' := s1.toks) (o := .frz { cls := .type "tuple", data := .seq us.toArray } (.tup xs)) (fun b u e => Heap.get?_push_of_some _ e) (Nat.le_refl _) ?_, rfl, q _ _ hf rfl⟩
  exact ⟨hg, z, us, r, ⟨_, hg, rfl, _, rfl⟩⟩
/-- t + u, none of both empty -/
theorem op_catF : OpR X (binaryOp .Add) (fun x y H Q => ∃ a b xs ys, x = .ref a ∧ y = .ref b ∧ SqT X.K H a xs ∧ SqT X.K H b ys ∧ xs ≠ [] ∧ ys ≠ [] ∧ xs.length + ys.length ≤ sizeLine ∧
    ∀ (p : Addr) (o : Obj), H p = none → o.dict = none → Q (.ref p) (upd H p (.frz o (.tup (xs ++ ys))))) := by
  intro pins s σ H x y v u Q I rx ry h
  obtain ⟨a, b, xs, ys, rfl, rfl, ha, hb, hx, hy, hz, q⟩ := h
  cases rx
  cases ry
  obtain ⟨its, r1, p1, _⟩ := I.tuple ha
  obtain ⟨its2, r2, p2, _⟩ := I.tuple hb
  have hl : its.length + its2.length ≤ sizeLine := by rw [← r1.length, ← r2.length]; exact hz
  refine HT.cat_tup p1 p2 (fun z => hx (r1.nil_iff.mp z)) (fun z => absurd (r2.nil_iff.mp z) hy) (fun _ => ?_) hl
  have hg := Heap.get?_push_size s.heap (o := { cls := .type "tuple", data := .seq (its ++ its2).toArray }) rfl
  refine ⟨.ref s.heap.objs.size, _, I.laid (t' := s.toks) (o := .frz { cls := .type "tuple", data := .seq (its ++ its2).toArray } (.tup (xs ++ ys))) (fun b ob q => Heap.get?_push_of_some _ q) (Nat.le_refl _) ?_, rfl, q _ _ (I.hok.fresh (Nat.le_refl _)) rfl⟩
  exact ⟨hg, by rw [List.length_append]; exact hz, _, r1.append r2, ⟨_, hg, rfl, _, rfl⟩⟩
/-- a method of such a tuple, called with arguments -/
def tTM (r : V → List V → Hp → VK → Prop) (to : TE) (t : TA) : TE := fun σ H Q => to σ H fun x H1 => (∃ p xs, x = .ref p ∧ TupN H1 p xs) ∧ t σ H1 fun vs H2 => r x vs H2 Q
theorem pe_tm {name : Str} {id : String} {o e : Expr} {to : TE} {r : V → List V → Hp → VK → Prop} {apos cpos : Pos} (slot : Slot "tuple" name id) (hty : typeOf (.builtin id) = pure (.type "method_descriptor")) (hm : MtR X id r) (ho : PE X o to) (ha : PA X (e :: es) t)
    (hbase : attributeBase o name X.env (eval o X.env) = eval o X.env := by rfl)
    (hfew : ((backTo cpos (starEach (e :: es) X.env)).all (fun x => !x.1) && (backToKw cpos (keywordEach [] X.env)).all (fun x => x.1.isSome)
      && decide ((e :: es).length + ([] : List Keyword).length + (if ([] : List Keyword).isEmpty then 0 else 1) < 30)) = true := by rfl)
    (hline : (apos.endLine == cpos.line) = true := by rfl) (hs : starEach (e :: es) X.env = (false, eval e X.env) :: starEach es X.env := by rfl) (hplain : (backTo cpos (starEach es X.env)).any (·.1) = false := by rfl) :
    PE X (.Call (.Attribute o name apos) (e :: es) [] cpos) (tTM r to t) := by
  refine ⟨fun pins s σ H Q I h => ?_⟩
  refine wpAny_Call_method_late hbase hfew hline rfl (thn (ho.run pins s σ H _ I h) fun v s1 ⟨x, H1, I1, r1, ty, q1⟩ => ?_)
  obtain ⟨p, xs, rfl, ob, hob, hdi⟩ := ty
  cases r1
  obtain ⟨g1, hz, its, rv, ot, g2, hc, _⟩ := I1.hok p _ hob
  obtain rfl : ot = ob := Option.some.inj (g2.symm.trans g1)
  refine ⟨"tuple", id, PySem.F.plainAttrs_tuple, slot, hty, ⟨ot, g1, hc⟩, fun a e => ?_, ?_⟩
  · cases e
    exact ⟨ot, g1, hdi⟩
  have hA := ha.run cpos pins s1 σ H1 _ I1 q1
  rw [hs] at hA ⊢
  refine Calls.callWith_builtin (by show (false || (backTo cpos (starEach es X.env)).any (·.1)) = false; rw [hplain] <;> rfl) (Calls.evalArgs_plain ?_)
  exact thn hA fun us s2 ⟨vs, H2, I2, r2, q2⟩ => hm pins s2 σ H2 (.ref p) vs (.ref p) us Q I2 rfl r2 q2
end

/-! ### list.remove of data -/
section
variable {X : Cx}
def rRemD (K : PySem.W.Frag) : V → List V → Hp → VK → Prop := fun x args H Q => ∃ (l : Addr) (y : V) (d : PyData) (xs : List V) (ds : List PyData) (j : Nat),
  x = .ref l ∧ args = [y] ∧ H l = some (.lst xs) ∧ DpAll K H xs ds ∧ Dp K H y d ∧ PyData.plainAll ds = true ∧ d.plain = true ∧ d.depth ≤ 60 ∧
  SeqAt.dataPlace ds d = some j ∧ Q .non (upd H l (.lst (xs.eraseIdx j)))
theorem mt_removeD (hu : X.A.units + 64 < cLine) : MtR X "list.remove" (rRemD X.K) := by
  intro pins s σ H x args v us Q I rx ra h
  obtain ⟨l, y, d, xs, ds, j, rfl, rfl, hH, hds, hd, p1, p2, p3, hj, q⟩ := h
  cases rx
  obtain ⟨u, rfl, ru⟩ := vals1 ra
  obtain ⟨z, its, n, r, hl, e⟩ := I.lstM hH
  obtain ⟨as, R1⟩ := Dp.readsAll I ds xs its hds r
  obtain ⟨bs, R2⟩ := Dp.reads I d y u hd ru
  refine SeqAt.remove_list_data (vs := its.toArray) ⟨_, e, rfl, n, rfl⟩ R1 R2 p1 p2 (by omega) hj (by rw [List.size_toArray, ← hl]; exact z) ?_
  refine ⟨.non, _, I.lset (its' := its.eraseIdx j) (t' := s.toks) hH e ?_ (r.eraseIdx j) ?_, rfl, q⟩
  · show its.toArray.eraseIdxIfInBounds j = (its.eraseIdx j).toArray
    rw [List.eraseIdxIfInBounds_toArray]
  · have := List.length_eraseIdx_le xs j
    omega
end

/-! ### data of ints -/
def iD (ns : List Int) : List PyData := ns.map PyData.int
section
variable {K : PySem.W.Frag} {H : Hp}
theorem dp_ints : ∀ ns : List Int, DpAll K H (ns.map V.int) (iD ns)
  | [] => .nil
  | n :: r => .cons (.int n) (dp_ints r)
theorem dp_lst {a : Addr} {ns : List Int} (h : SqL K H a (ns.map V.int)) : Dp K H (.ref a) (.list (iD ns)) := .lst h (dp_ints ns)
theorem dp_tup {a : Addr} {ns : List Int} (h : SqT K H a (ns.map V.int)) : Dp K H (.ref a) (.tuple (iD ns)) := .tup h (dp_ints ns)
theorem dp_nil {a : Addr} (h : SqL K H a []) : Dp K H (.ref a) (.list []) := .lst h .nil
end
theorem iD_lay : ∀ ns : List Int, PyData.canLayAll0 (iD ns) = true
  | [] => by simp [iD, PyData.canLayAll0]
  | n :: r => by
    have h := iD_lay r
    simp only [iD, List.map_cons, PyData.canLayAll0, PyData.canLay0] at h ⊢
    rw [h]
    rfl
theorem iD_depth : ∀ ns : List Int, PyData.depthAll (iD ns) = 0
  | [] => by simp [iD, PyData.depthAll]
  | n :: r => by
    have h := iD_depth r
    simp only [iD, List.map_cons, PyData.depthAll, PyData.depth] at h ⊢
    rw [h]
    rfl
theorem shaped_lst (ns : List Int) : SeqAt.shaped (.list (iD ns)) = true := by
  have h1 := iD_lay ns
  have h2 := iD_depth ns
  show (PyData.canLay0 (.list (iD ns)) && decide (PyData.depth (.list (iD ns)) ≤ 64)) = true
  simp only [PyData.canLay0, PyData.depth, h1, h2, Bool.true_and]
  decide
theorem shaped_tup (ns : List Int) : SeqAt.shaped (.tuple (iD ns)) = true := by
  have h1 := iD_lay ns
  have h2 := iD_depth ns
  show (PyData.canLay0 (.tuple (iD ns)) && decide (PyData.depth (.tuple (iD ns)) ≤ 64)) = true
  simp only [PyData.canLay0, PyData.depth, h1, h2, Bool.true_and]
  decide
theorem shaped_nil : SeqAt.shaped (.list []) = true := by decide +kernel
theorem eqv_nil (ds : List PyData) : PyData.eqv (.list ds) (.list []) = ds.isEmpty := by
  cases ds <;> simp [PyData.eqv, PyData.eqvAll]
/-! ### what a def leaves that only adds objects and turns two -/
def Kp (a b : Addr) (H H' : Hp) : Prop := ∀ c o, c ≠ a → c ≠ b → H c = some o → H' c = some o
theorem Kp.refl {a b : Addr} (H : Hp) : Kp a b H H := fun _ _ _ _ h => h
theorem Kp.trans {a b : Addr} {H H1 H2 : Hp} (x : Kp a b H H1) (y : Kp a b H1 H2) : Kp a b H H2 := fun c o h1 h2 h => y c o h1 h2 (x c o h1 h2 h)
theorem Kp.of {a b : Addr} {H H' : Hp} (h : Same H H') : Kp a b H H' := fun c o _ _ e => h c o e
theorem Kp.new {a b : Addr} {H : Hp} {p : Addr} {o : HO} (h : H p = none) : Kp a b H (upd H p o) := fun c u _ _ e => by
  rw [upd_ne (ne_of_none e h)]
  exact e
theorem Kp.put {a b : Addr} {H : Hp} {p : Addr} {o : HO} (h : p = a ∨ p = b) : Kp a b H (upd H p o) := fun c u h1 h2 e => by
  rw [upd_ne (by rcases h with rfl | rfl <;> assumption)]
  exact e
theorem Same.new {H : Hp} {p : Addr} {o : HO} (h : H p = none) : Same H (upd H p o) := fun c u e => by
  rw [upd_ne (ne_of_none e h)]
  exact e
end Sv

/-! enumerate over a tuple; count in a tuple of ints. -/
namespace PySem
open Sem (wp)
set_option maxHeartbeats 1000000 in
theorem sv_enum_new {v : Value} {o : Obj} {H : Heap → Prop} (B : Begins v o H) :
    Meets (Builtin.«enumerate.__new__» ⟨[.type "enumerate", v], []⟩)
      (fun _ R s => H s.heap ∧ R (.ok (.ret (.ref (s.heap.push o).objs.size)))
        { s with heap := Heap.push (Heap.push s.heap o) { cls := .type "enumerate", data := .fields #[.none, .bool false, .ref s.heap.objs.size, rawInt 0, .none, .none] } }) := by
  refine .of_wp fun prog w A R s h => ?_
  obtain ⟨hp, g, d, tk, os⟩ := s
  obtain ⟨h1, h⟩ := h
  have hsub := sub_enumerate
  have q1 : ∀ {A' : Around} {E' : Value → Shared → Prop} {Q' : Value → Shared → Prop},
      Q' (.ref hp.objs.size) ⟨hp.push o, g, d, tk, os⟩ → wpAny (model prog w) A' (pyIter v) Q' E' ⟨hp, g, d, tk, os⟩ :=
    fun q => B.iter prog w _ _ ⟨hp, g, d, tk, os⟩ _ h1 q
  wp_walk using q1
  refine wpAny_stack_any fun st => wpAny_pure ?_
  split
  · rename_i c _ _ _ _ _
    cases hcc : (c == Value.type "enumerate") <;> (wp_walk using q1; exact ⟨_, rfl, h⟩)
  · wp_walk using q1
    exact ⟨_, rfl, h⟩
section
variable {prog : Program} {w : World} {A : Around} {E : Value → Shared → Prop} {s : Shared}
theorem sv_enum_call {v : Value} {o : Obj} {H : Heap → Prop} {Q : Value → Shared → Prop} (B : Begins v o H) (h1 : H s.heap)
    (h : ∀ h', IsEnum h' (s.heap.objs.size + 1) s.heap.objs.size 0 .none → h'.get? s.heap.objs.size = some o →
      (∀ b u, s.heap.get? b = some u → h'.get? b = some u) → Q (.ref (s.heap.objs.size + 1)) { s with heap := h' }) :
    wpAny (model prog w) A (call (.type "enumerate") [v]) Q E s := by
  refine callType_new F.called_enumerate (by decide) (F.typeCall_enumerate_1 _) (F.newCall_enumerate_1 _)
    (fun obj => F.args_object_init_2 obj _) F.entry_enumerate_new (sv_enum_new B) ⟨h1, ?_⟩
  have hz : (s.heap.push o).objs.size = s.heap.objs.size + 1 := Heap.size_push ..
  show _ ∧ _
  rw [hz]
  have he := Heap.get?_push_size (s.heap.push o)
    (o := { cls := .type "enumerate", data := .fields #[.none, .bool false, .ref s.heap.objs.size, rawInt 0, .none, .none] }) rfl
  rw [hz] at he
  exact ⟨⟨_, he, rfl⟩, h _ he (Heap.get?_push_of_some _ (Heap.get?_push_size _ B.free))
    fun b u x => Heap.get?_push_of_some _ (Heap.get?_push_of_some _ x)⟩
end
end PySem
namespace Sv
open PySem PySem.Spec PyProof.Rows L2
/-- a tuple's items, each in a new pair with its number -/
def Itte (K : PySem.W.Frag) (a : Addr) (xs : List V) : It where
  go := fun i H => SqT K H a xs ∧ i < xs.length
  yld := fun i H v H' => ∃ T x, v = .ref T ∧ H T = none ∧ H' = upd H T (.tup [.int (i : Nat), x]) ∧ xs[i]? = some x
  stop := fun i H => SqT K H a xs ∧ i = xs.length
theorem turn_etup {P : Program} {w : World} {K : PySem.W.Frag} {elts : List Expr} {kk : Nat} {tpos : Pos} (a e it : Addr) (xs : List V) :
    Turn P w K (.Tuple elts kk tpos) (Itte K a xs) [e, it] e
      (fun i h => (∃ old, IsEnum h e it ((i : Nat) : Int) old) ∧ h.IsTupleIter it a i ∧ e ≠ it ∧ a ≠ it ∧ a ≠ e) where
  mem := by simp
  obj := fun i h st b hb => by
    obtain ⟨⟨old, he⟩, ⟨o, ho, hc, hd⟩, _⟩ := st
    rcases (show b = e ∨ b = it by simpa using hb) with rfl | rfl
    · exact ⟨_, he, fun v q => nomatch q⟩
    · exact ⟨o, ho, fun v q => by rw [hd] at q; cases q⟩
  keep := fun i h h' st k => by
    obtain ⟨⟨old, he⟩, hi, hr⟩ := st
    exact ⟨⟨old, k e (by simp) _ he⟩, hi.at fun o q => k it (by simp) o q, hr⟩
  item := by
    intro X hP hw hK hc i pins s σ H E I hf st hg
    subst hP hw hK
    obtain ⟨⟨old, he⟩, hit, hne, hai, hae⟩ := st
    obtain ⟨hq, hi⟩ := hg
    obtain ⟨its, rv, p, hz⟩ := I.tuple hq
    have hlen := rv.length
    have hel : e < s.heap.objs.size := Heap.lt_size he
    have hil : it < s.heap.objs.size := by
      obtain ⟨_, q, _⟩ := hit
      exact Heap.lt_size q
    have D : Draws X.prog X.w X.A.in1 it [it, a] its.toArray.size (fun i v => its.toArray[i]? = some v)
        (fun i h => h.IsTupleIter it a i ∧ h.IsTuple a its.toArray) := Draws.tuple (A := X.A.in1) (show X.A.in1.handled = none from I.ok.hd hc) it a hai its.toArray
    refine wpAny_pyNext_enum_itemD D he ⟨hit, p⟩ (by rw [List.size_toArray]; omega) hne (by simp [hne, Ne.symm hae]) fun u h' tk hPu ho hst hT hsz hk => ?_
    refine ⟨_, rfl, wpAny_letOwnedTupleGo_enum (s := { s with heap := h', toks := tk + 1 }) ho fun h'' he' sb => ?_⟩
    obtain ⟨x, hx⟩ : ∃ x, xs[i]? = some x := ⟨_, List.getElem?_eq_getElem hi⟩
    obtain ⟨u', hu', ru⟩ := rv.get hx
    have hPu' : its[i]? = some u := by simpa using hPu
    obtain rfl : u' = u := Option.some.inj (hu'.symm.trans hPu')
    have hT2 : h''.get? s.heap.objs.size = some { cls := .type "tuple", data := .seq #[.int i tk, u'] } := (sb.2 _ (Nat.ne_of_gt hel)).trans hT
    have new : ObjOk X.prog X.w (upd H s.heap.objs.size (.tup [.int (i : Nat), x])) h'' s.heap.objs.size (.tup [.int (i : Nat), x]) := by
      refine ⟨?_, [.int i tk, u'], .cons ⟨_, rfl⟩ (.cons ru .nil), ⟨_, hT2, rfl, _, rfl⟩⟩
      show 2 ≤ sizeLine
      decide
    have I1 : Inv X pins σ (upd H s.heap.objs.size (.tup [.int (i : Nat), x])) { s with heap := h'', toks := tk + 1 } := by
      refine I.turnedNew (ch := [e, it]) (fun b ob hb q => ?_) hf (Nat.le_refl _) new
      have nb : b ≠ e ∧ b ≠ it := by simpa using hb
      exact (sb.2 b nb.1).trans (hk b ob nb.1 nb.2 q)
    refine ⟨.ref s.heap.objs.size, _, I1, rfl, ⟨_, x, rfl, I.hok.fresh (Nat.le_refl _), rfl, hx⟩,
      ⟨⟨u', ?_⟩, hst.1.at fun o q => (sb.2 it (Ne.symm hne)).trans q, hne, hai, hae⟩, fun b hb => ?_⟩
    · have e1 : ((i + 1 : Nat) : Int) = (i : Int) + 1 := by omega
      rw [e1]
      exact he'
    · have hb' : b < s.heap.objs.size := by
        rcases (show b = e ∨ b = it by simpa using hb) with rfl | rfl <;> assumption
      rw [upd_ne (Nat.ne_of_lt hb')]
      exact (hf b hb).1
  done := by
    intro X hP hw hK hc i pins s σ H E I hf st hg
    subst hP hw hK
    obtain ⟨⟨old, he⟩, hit, hne, hai, hae⟩ := st
    obtain ⟨hq, hi⟩ := hg
    obtain ⟨its, rv, p, hz⟩ := I.tuple hq
    have hlen := rv.length
    obtain ⟨f0, f1, f2, f3, f4, f5⟩ := hf it (by simp)
    have D : Draws X.prog X.w X.A.in1 it [it, a] its.toArray.size (fun i v => its.toArray[i]? = some v)
        (fun i h => h.IsTupleIter it a i ∧ h.IsTuple a its.toArray) := Draws.tuple (A := X.A.in1) (show X.A.in1.handled = none from I.ok.hd hc) it a hai its.toArray
    have hi2 : i = its.toArray.size := by
      rw [List.size_toArray]
      omega
    have hit2 : s.heap.IsTupleIter it a its.toArray.size := hi2 ▸ hit
    exact wpAny_pyNext_enum_endD D he ⟨hit2, p⟩ fun h' eb => ⟨rfl, I.turned (t' := s.toks) (fun b o hb q => eb b o hb q) f0 f1 f3 f4 f5⟩
  self := fun A i s Q E st h => by
    obtain ⟨⟨_, he⟩, _⟩ := st
    exact wpAny_pyIter_enum he h
def iEnumT (K : PySem.W.Frag) (ta : TA) : TI := fun σ H R => ta σ H fun vs H1 => ∃ a xs, vs = [.ref a] ∧ SqT K H1 a xs ∧ R (Itte K a xs) H1
/-- for i, x in enumerate(t), t a tuple -/
theorem pi_enumT {X : Cx} {e : Expr} {ta : TA} {p pos tpos : Pos} {elts : List Expr} {kk : Nat} (hg : Gl X "enumerate") (hm : X.mg "enumerate" = none) (ha : PA X [e] ta)
    (hs : starEach [e] X.env = [(false, eval e X.env)] := by rfl) : PI X (.Tuple elts kk tpos) (.Call (.Name "enumerate" p) [e] [] pos) (iEnumT X.K ta) := by
  refine ⟨fun pins s σ H R I h => ?_⟩
  refine Call_ (ld_blt I hg hm boot_enumerate (PyProof.Rows.callWith_type1 (thn (ha.run pos pins s σ H _ I h) fun us s1 ⟨vs, H1, I1, r1, q1⟩ => ?_) hs rfl))
  obtain ⟨a, xs, rfl, hq, q⟩ := q1
  obtain ⟨u, rfl, ru⟩ := vals1 r1
  cases ru
  obtain ⟨its, rv, p', hz⟩ := I1.tuple hq
  have hal : a < s1.heap.objs.size := by
    obtain ⟨o, ho, _⟩ := id p'
    exact Heap.lt_size ho
  refine sv_enum_call (begins_tuple a its.toArray) p' fun h' he hit hk => wpAny_pyIter_enum he ?_
  have I2 : Inv X pins σ H1 { s1 with heap := h' } := I1.kept (t' := s1.toks) hk
  refine ⟨s1.heap.objs.size + 1, [s1.heap.objs.size + 1, s1.heap.objs.size], _, _, H1, rfl, I2, turn_etup a (s1.heap.objs.size + 1) s1.heap.objs.size xs,
    ⟨⟨.none, he⟩, ⟨_, hit, rfl, rfl⟩, Nat.succ_ne_self _, Nat.ne_of_lt hal, Nat.ne_of_lt (Nat.lt_succ_of_lt hal)⟩, fun b hb => ?_, q⟩
  have hle : s1.heap.objs.size ≤ b := by
    rcases (show b = s1.heap.objs.size + 1 ∨ b = s1.heap.objs.size by simpa using hb) with rfl | rfl
    · exact Nat.le_succ _
    · exact Nat.le_refl _
  exact I1.fpOk hle (I1.hok.fresh hle)
/-- the comprehension over it -/
theorem lc_etup {K : PySem.W.Frag} {a : Addr} {xs : List V} {g : TG} {tt : TT} {te : TE} {vs : List Nat} {σ : L2.St} {H1 : Hp} {D : Addr} {Qd : Hp → Prop} (Pv : Nat → Hp → Prop) (h0 : Pv 0 (upd H1 D (.lst [])))
    (hl : ∀ i H, i ≤ xs.length → Pv i H → SqT K H a xs)
    (hs : ∀ i x T H, xs[i]? = some x → Pv i H → H T = none → g (.ref T) (wipe σ vs) (upd H T (.tup [.int (i : Nat), x])) fun σ2 H2 => wipe σ2 vs = wipe σ vs ∧ tt σ2 H2 fun b H3 =>
      if b = true then te σ2 H3 fun y H4 => ∃ acc, H4 D = some (.lst acc) ∧ acc.length < sizeLine ∧ Pv (i + 1) (upd H4 D (.lst (acc ++ [y]))) else Pv (i + 1) H3) (hd : ∀ H, Pv xs.length H → Qd H) :
    ∃ W : Nat → Nat → Hp → Prop, (∃ m, W 0 m (upd H1 D (.lst []))) ∧ ∀ i m H, W i m H →
      ((Itte K a xs).stop i H ∧ Qd H) ∨ ((Itte K a xs).go i H ∧ ∃ Nx : Hp → Prop, (∀ H', Nx H' → ∃ m', m' < m ∧ W (i + 1) m' H') ∧ ∀ x H', (Itte K a xs).yld i H x H' → g x (wipe σ vs) H' fun σ2 H2 => wipe σ2 vs = wipe σ vs ∧ tt σ2 H2 fun b H3 =>
        if b = true then te σ2 H3 fun y H4 => ∃ acc, H4 D = some (.lst acc) ∧ acc.length < sizeLine ∧ Nx (upd H4 D (.lst (acc ++ [y]))) else Nx H3) := by
  refine ⟨fun i m H => m = xs.length - i ∧ i ≤ xs.length ∧ Pv i H, ⟨xs.length, by simp, Nat.zero_le _, h0⟩, ?_⟩
  rintro i m H ⟨rfl, hi, p⟩
  have q := hl i H hi p
  by_cases hlt : i < xs.length
  · refine .inr ⟨⟨q, hlt⟩, Pv (i + 1), fun H' p' => ⟨xs.length - (i + 1), by omega, rfl, hlt, p'⟩, fun x H' y => ?_⟩
    obtain ⟨T, z, rfl, nT, rfl, hz⟩ := y
    exact hs i z T H hz p nT
  · have e : i = xs.length := by omega
    subst e
    exact .inl ⟨⟨q, rfl⟩, hd H p⟩
theorem for_etup {K : PySem.W.Frag} {a : Addr} {xs : List V} {g : TG} {tb : TS} {D : Ends} {σ : L2.St} {H : Hp} (Pv : Nat → L2.St → Hp → Prop) (h0 : Pv 0 σ H) (hl : ∀ i σ H, i ≤ xs.length → Pv i σ H → SqT K H a xs)
    (hs : ∀ i x T σ H, xs[i]? = some x → Pv i σ H → H T = none → g (.ref T) σ (upd H T (.tup [.int (i : Nat), x])) fun σ2 H2 => tb { D with nx := Pv (i + 1), ct := Pv (i + 1), bk := D.nx } σ2 H2) (hd : ∀ σ H, Pv xs.length σ H → D.nx σ H) :
    ∃ W : Nat → Nat → L2.St → Hp → Prop, (∃ m, W 0 m σ H) ∧ ∀ i m σ H, W i m σ H →
      ((Itte K a xs).stop i H ∧ D.nx σ H) ∨ ((Itte K a xs).go i H ∧ ∃ N : L2.St → Hp → Prop, (∀ σ' H', N σ' H' → ∃ m', m' < m ∧ W (i + 1) m' σ' H') ∧ ∀ x H', (Itte K a xs).yld i H x H' → g x σ H' fun σ2 H2 => tb { D with nx := N, ct := N, bk := D.nx } σ2 H2) := by
  refine ⟨fun i m σ H => m = xs.length - i ∧ i ≤ xs.length ∧ Pv i σ H, ⟨xs.length, by simp, Nat.zero_le _, h0⟩, ?_⟩
  rintro i m σ H ⟨rfl, hi, p⟩
  have q := hl i σ H hi p
  by_cases hlt : i < xs.length
  · refine .inr ⟨⟨q, hlt⟩, Pv (i + 1), fun σ' H' p' => ⟨xs.length - (i + 1), by omega, rfl, hlt, p'⟩, fun x H' y => ?_⟩
    obtain ⟨T, z, rfl, nT, rfl, hz⟩ := y
    exact hs i z T σ H hz p nT
  · have e : i = xs.length := by omega
    subst e
    exact .inl ⟨⟨q, rfl⟩, hd σ H p⟩
def rLenS (K : PySem.W.Frag) : List V → Hp → VK → Prop := fun xs H Q => ∃ p ys, xs = [.ref p] ∧ (SqL K H p ys ∨ SqT K H p ys) ∧ Q (.int ys.length) H
theorem call_len_s {X : Cx} : CallR X (.builtin "len") (rLenS X.K) := call_len_seq
/-- a comprehension's block that reads no name from around it -/
theorem blkOk_nf {N : List Str} {sc scope : Scope} {own : List (Str × Nat)} (h : blkC N { kind := .function, names := [], isGenerator := false, isCoroutine := false } scope own = true) (hf : (scope.names.all fun y => decide (y.2 ≠ .free)) = true) : BlkOk N sc scope own := by
  have b := blkOk_by h
  exact ⟨b.kind, b.uniq, b.ix, fun y hy e => absurd e (of_decide_eq_true (List.all_eq_true.mp hf y hy)), b.own⟩
section
variable {X : Cx}
def rTcount (K : PySem.W.Frag) : V → List V → Hp → VK → Prop := fun x args H Q => ∃ (p : Addr) (ns : List Int) (k : Int), x = .ref p ∧ args = [.int k] ∧ SqT K H p (ns.map V.int) ∧ Q (.int (ns.count k : Nat)) H
/-- t.count(k), t a tuple of ints -/
theorem mt_tcount (hu : X.A.units + 64 < cLine) : MtR X "tuple.count" (rTcount X.K) := by
  intro pins s σ H x args v us Q I rx ra h
  obtain ⟨p, ns, k, rfl, rfl, hs, q⟩ := h
  cases rx
  obtain ⟨u, rfl, ru⟩ := vals1 ra
  obtain ⟨t, rfl⟩ := ru
  obtain ⟨its, rv, p1, hz⟩ := I.tuple hs
  obtain ⟨as, R1⟩ := Dp.readsAll I (iD ns) (ns.map V.int) its (dp_ints ns) rv
  have hpl : ∀ ns : List Int, PyData.plainAll (iD ns) = true := by
    intro ns
    induction ns with
    | nil => rfl
    | cons n r ih => exact ih
  have hcnt : ((iD ns).countP fun y => PyData.eqv y (.int k)) = ns.count k := by
    clear R1 rv hs hz q
    induction ns with
    | nil => rfl
    | cons n r ih =>
      have e : PyData.eqv (.int n) (.int k) = (n == k) := by simp only [PyData.eqv]
      simp only [iD, List.map_cons, List.countP_cons, List.count_cons] at ih ⊢
      rw [ih, e]
  refine SeqAt.count_tuple_data (vs := its.toArray) p1 R1 (Reads.int k t) (hpl ns) rfl ?_ ?_
  · have : min (PyData.depthAll (iD ns)) (PyData.int k).depth ≤ 0 := Nat.min_le_right _ _
    omega
  · rw [hcnt]
    exact ⟨.int (ns.count k : Nat), H, I.tok _, ⟨_, rfl⟩, q⟩
end
end Sv

/-! more of tuples of ints: index, slices; kinds of values. -/
namespace Sv
open PySem PySem.Spec PyProof.Rows L2
theorem idx_lt : ∀ {ns : List Int} {k : Int} {m : Nat}, m < ns.idxOf k → ns[m]? ≠ some k
  | [], k, m, h => by simp at h
  | n :: r, k, m, h => by
    rw [List.idxOf_cons] at h
    by_cases e : n = k
    · subst e
      simp at h
    · have e1 : (n == k) = false := beq_eq_false_iff_ne.mpr e
      rw [e1] at h
      cases m with
      | zero => exact fun z => e (Option.some.inj z)
      | succ m => exact fun z => idx_lt (ns := r) (m := m) (by simpa using h) z
theorem flat_ints (ns : List Int) : (ns.map V.int).all flatV = true := by
  rw [List.all_map]
  exact List.all_eq_true.mpr fun _ _ => rfl
theorem in_ints {ns : List Int} {k : Int} : inV (.int k) (ns.map V.int) = decide (k ∈ ns) := by
  unfold inV
  induction ns with
  | nil => rfl
  | cons n r ih =>
    rw [List.map_cons, List.any_cons, ih]
    show ((n == k) || decide (k ∈ r)) = decide (k ∈ n :: r)
    by_cases h : n = k
    · subst h
      simp
    · have h1 : (n == k) = false := beq_eq_false_iff_ne.mpr h
      rw [h1, Bool.false_or]
      simp [Ne.symm h]
section
variable {X : Cx}
def rTindex (K : PySem.W.Frag) : V → List V → Hp → VK → Prop := fun x args H Q => ∃ (p : Addr) (ns : List Int) (k : Int), x = .ref p ∧ args = [.int k] ∧ SqT K H p (ns.map V.int) ∧ k ∈ ns ∧ Q (.int (ns.idxOf k : Nat)) H
/-- t.index(k), k in t -/
theorem mt_tindex : MtR X "tuple.index" (rTindex X.K) := by
  intro pins s σ H x args v us Q I rx ra h
  obtain ⟨p, ns, k, rfl, rfl, hs, hk, q⟩ := h
  cases rx
  obtain ⟨u, rfl, ru⟩ := vals1 ra
  obtain ⟨t, rfl⟩ := ru
  obtain ⟨its, rv, ⟨⟨cls, dd, dt, sl⟩, ho, hc, n, hd⟩, hz⟩ := I.tuple hs
  simp only at hc hd
  subst hc hd
  have hlen : its.length = ns.length := by rw [← rv.length, List.length_map]
  have hj : ns.idxOf k < ns.length := List.idxOf_lt_length_iff.mpr hk
  have at' : ∀ (m : Nat) (hm : m < its.toArray.size), ∃ t' : Tok, ∃ hm2 : m < ns.length, its.toArray[m] = Value.int ns[m] t' := by
    intro m hm
    have hm2 : m < ns.length := by
      rw [List.size_toArray] at hm
      omega
    obtain ⟨w, hw, t', hw'⟩ := rv.get (i := m) (x := .int ns[m]) (at_map' (List.getElem?_eq_getElem hm2))
    refine ⟨t', hm2, ?_⟩
    have e := (List.getElem?_eq_some_iff.mp hw).2
    rw [← hw', ← e]
    simp
  refine call_meets PySem.F.slot_tuple_index ⟨_, ho, rfl⟩ PySem.F.entry_tuple_index (PySem.F.args_tuple_index_2 _ _)
    (TI.tuple_indexAt p its.toArray n dd sl (.int k t) (eqU (.int k)) (ns.idxOf k) (by rw [List.size_toArray]; omega) ?_ ?_)
    ⟨ho, fun w hw => mem_eqAt (x := .int k) ⟨t, rfl⟩ rfl rv (flat_ints ns) w (by simpa using hw), ⟨.int (ns.idxOf k : Nat), H, I.tok _, ⟨_, rfl⟩, q⟩⟩
  · obtain ⟨t', h2, h3⟩ := at' (ns.idxOf k) (by rw [List.size_toArray]; omega)
    rw [h3]
    show (ns[ns.idxOf k] == k) = true
    rw [beq_iff_eq]
    exact List.getElem_idxOf h2
  · intro m hm hmj
    obtain ⟨t', h2, h3⟩ := at' m hm
    rw [h3]
    show (ns[m] == k) = false
    refine beq_eq_false_iff_ne.mpr fun z => idx_lt hmj ?_
    rw [List.getElem?_eq_getElem h2, z]
where
  at_map' {ns : List Int} {m : Nat} {x : Int} (h : ns[m]? = some x) : (ns.map V.int)[m]? = some (.int x) := by
    rw [List.getElem?_map, h]
    rfl
/-- t[lo:hi], not the whole, known to bear no dict -/
def rSlTF (K : PySem.W.Frag) : V → Option Int → Option Int → Hp → VK → Prop := fun x lo hi H Q => ∃ a xs, x = .ref a ∧ SqT K H a xs ∧
  ¬ (HT.sIx xs.length 0 lo = 0 ∧ HT.sIx xs.length xs.length hi = xs.length) ∧ ∀ (p : Addr) (o : Obj), H p = none → o.dict = none → Q (.ref p) (upd H p (.frz o (.tup (cutV xs lo hi))))
theorem sl_tupF : SlR X (rSlTF X.K) := by
  intro pins s σ H x v vl vu lo hi sl Q I rx hs pl pu h
  obtain ⟨a, xs, rfl, hx, hw, q⟩ := h
  cases rx
  obtain ⟨its, r, ht, hz⟩ := I.tuple hx
  have hlen : its.toArray.size = xs.length := by
    rw [List.size_toArray]
    exact r.length.symm
  refine ⟨"tuple", _, PyProof.Rows.slot_tuple_getitem.lookup, ht.typeIs, ?_⟩
  have hnot : ¬ (HT.sIx its.toArray.size 0 lo = 0 ∧ HT.sIx its.toArray.size its.toArray.size hi = its.toArray.size) := by rwa [hlen]
  refine HT.getItem_tuple_cut ht hs pl pu hnot ?_ (hlen ▸ hz)
  rw [hlen]
  have hg := Heap.get?_push_size s.heap (o := { cls := .type "tuple", data := .seq ((its.toArray.toList.drop (HT.sIx xs.length 0 lo)).take (HT.sIx xs.length xs.length hi - HT.sIx xs.length 0 lo)).toArray }) rfl
  refine ⟨.ref s.heap.objs.size, _, I.laid (t' := s.toks) (o := .frz _ (.tup (cutV xs lo hi))) (fun b ob q => Heap.get?_push_of_some _ q) (Nat.le_refl _) ⟨hg, ?_⟩, rfl, q _ _ (I.hok.fresh (Nat.le_refl _)) rfl⟩
  exact ⟨Nat.le_trans (cutV_length xs lo hi) hz, _, (r.drop (HT.sIx xs.length 0 lo)).take (HT.sIx xs.length xs.length hi - HT.sIx xs.length 0 lo), ⟨_, hg, rfl, _, rfl⟩⟩
end
theorem cut_to {xs : List V} {i : Nat} (h : i ≤ xs.length) : cutV xs none (some (i : Int)) = xs.take i := by
  unfold cutV
  rw [HT.sIx_none, HT.sIx_nat, Nat.min_eq_left h]
  rfl
theorem cut_from {xs : List V} {i : Nat} (h : i ≤ xs.length) : cutV xs (some (i : Int)) none = xs.drop i := by
  unfold cutV
  rw [HT.sIx_none, HT.sIx_nat, Nat.min_eq_left h]
  exact List.take_of_length_le (by rw [List.length_drop]; omega)
/-! ### kinds of values -/
inductive Kn (K : PySem.W.Frag) (H : Hp) : V → Prop
  | non : Kn K H .non
  | bl (b : Bool) : Kn K H (.bl b)
  | int (i : Int) : Kn K H (.int i)
  | str (x : Str) : Kn K H (.str x)
  | lst {a : Addr} {xs : List V} (e : H a = some (.lst xs)) : Kn K H (.ref a)
  | tup {a : Addr} {xs : List V} (e : H a = some (.tup xs)) : Kn K H (.ref a)
  | ftup {a : Addr} {o : Obj} {xs : List V} (e : H a = some (.frz o (.tup xs))) : Kn K H (.ref a)
  | dK {a : Addr} {kvs : List (Key × V)} (e : H a = some (.dK kvs)) : Kn K H (.ref a)
theorem Kn.same {K : PySem.W.Frag} {H H' : Hp} {v : V} (h : Kn K H v) (e : ∀ b o, H b = some o → H' b = some o) : Kn K H' v := by
  cases h with
  | non => exact .non
  | bl b => exact .bl b
  | int i => exact .int i
  | str x => exact .str x
  | lst h => exact .lst (e _ _ h)
  | tup h => exact .tup (e _ _ h)
  | ftup h => exact .ftup (e _ _ h)
  | dK h => exact .dK (e _ _ h)
def isI : V → Bool
  | .int _ => true
  | .bl _ => true
  | _ => false
def isB : V → Bool
  | .bl _ => true
  | _ => false
theorem Kn.isInt {K : PySem.W.Frag} {H : Hp} {v : V} (h : Kn K H v) : ∃ t, TyX K H v t ∧ PySem.W.kitOne K t (.type "int") = some (isI v) := by
  cases h with
  | non => exact ⟨_, .base .non, kit_ty (by decide +kernel)⟩
  | bl b => exact ⟨_, .base (.bl b), kit_ty (by show kitB "bool" "int" = some true; decide +kernel)⟩
  | int i => exact ⟨_, .base (.int i), kit_ty (by show kitB "int" "int" = some true; decide +kernel)⟩
  | str x => exact ⟨_, .base (.str x), kit_ty (by show kitB "str" "int" = some false; decide +kernel)⟩
  | lst h => exact ⟨_, .base (.lst h), kit_ty (by show kitB "list" "int" = some false; decide +kernel)⟩
  | tup h => exact ⟨_, .base (.tup h), kit_ty (by show kitB "tuple" "int" = some false; decide +kernel)⟩
  | ftup h => exact ⟨_, .fTuple h, kit_ty (by show kitB "tuple" "int" = some false; decide +kernel)⟩
  | dK h => exact ⟨_, .base (.dK h), kit_ty (by show kitB "dict" "int" = some false; decide +kernel)⟩
theorem Kn.isBool {K : PySem.W.Frag} {H : Hp} {v : V} (h : Kn K H v) : ∃ t, TyX K H v t ∧ PySem.W.kitOne K t (.type "bool") = some (isB v) := by
  cases h with
  | non => exact ⟨_, .base .non, kit_ty (by decide +kernel)⟩
  | bl b => exact ⟨_, .base (.bl b), kit_ty (by show kitB "bool" "bool" = some true; decide +kernel)⟩
  | int i => exact ⟨_, .base (.int i), kit_ty (by show kitB "int" "bool" = some false; decide +kernel)⟩
  | str x => exact ⟨_, .base (.str x), kit_ty (by show kitB "str" "bool" = some false; decide +kernel)⟩
  | lst h => exact ⟨_, .base (.lst h), kit_ty (by show kitB "list" "bool" = some false; decide +kernel)⟩
  | tup h => exact ⟨_, .base (.tup h), kit_ty (by show kitB "tuple" "bool" = some false; decide +kernel)⟩
  | ftup h => exact ⟨_, .fTuple h, kit_ty (by show kitB "tuple" "bool" = some false; decide +kernel)⟩
  | dK h => exact ⟨_, .base (.dK h), kit_ty (by show kitB "dict" "bool" = some false; decide +kernel)⟩
/-- a number from lo to hi -/
def numIn (v : V) (lo hi : Int) : Bool := match v with
  | .int i => decide (lo ≤ i) && decide (i ≤ hi)
  | _ => false
def spNum (K : PySem.W.Frag) : Sp := fun vs H Q _ => ∃ (v : V) (lo hi : Int), vs = [v, .int lo, .int hi] ∧ Kn K H v ∧ Q (.bl (numIn v lo hi)) H
end Sv

/-! tuple(a list): a tuple that is known to bear no dict. -/
namespace Sv
open PySem PySem.Spec PyProof.Rows L2
section
variable {X : Cx}
def rTupF (K : PySem.W.Frag) : List V → Hp → VK → Prop := fun xs H Q => ∃ p ys, xs = [.ref p] ∧ SqL K H p ys ∧ ∀ (l : Addr) (o : Obj), H l = none → o.dict = none → Q (.ref l) (upd H l (.frz o (.tup ys)))
theorem call_tupleF : CallR X (.type "tuple") (rTupF X.K) := by
  intro pins s σ H xs us Q I r h
  obtain ⟨p, ys, rfl, hq, q⟩ := h
  obtain ⟨u, rfl, rx⟩ := vals1 r
  cases rx
  obtain ⟨its, r', pl, hz⟩ := I.list hq
  have hlen := r'.length
  refine call_tuple_list pl.isList (fun h' kp => ?_) (by simp only [List.size_toArray] <;> omega)
  have I1 : Inv X pins σ H { s with heap := h' } := I.kept (t' := s.toks) kp
  have hg := Heap.get?_push_size h' (o := { cls := .type "tuple", data := .seq its.toArray }) rfl
  refine ⟨.ref h'.objs.size, _, I1.laid (t' := s.toks) (o := .frz { cls := .type "tuple", data := .seq its.toArray } (.tup ys)) (fun b o e => Heap.get?_push_of_some _ e) (Nat.le_refl _) ?_, rfl, q _ _ (I1.hok.fresh (Nat.le_refl _)) rfl⟩
  exact ⟨hg, hz, its, r', ⟨_, hg, rfl, _, rfl⟩⟩
end
theorem nodup_at {α : Type} {x : α} : ∀ {l : List α} {i j : Nat}, l.Nodup → l[i]? = some x → l[j]? = some x → i = j
  | [], i, j, _, h, _ => by simp at h
  | a :: r, 0, 0, _, _, _ => rfl
  | a :: r, 0, j + 1, h, h1, h2 => by
    have e : a = x := Option.some.inj h1
    subst e
    exact absurd (List.mem_of_getElem? (show r[j]? = some a from h2)) (List.nodup_cons.mp h).1
  | a :: r, i + 1, 0, h, h1, h2 => by
    have e : a = x := Option.some.inj h2
    subst e
    exact absurd (List.mem_of_getElem? (show r[i]? = some a from h1)) (List.nodup_cons.mp h).1
  | a :: r, i + 1, j + 1, h, h1, h2 => by rw [nodup_at (List.nodup_cons.mp h).2 (show r[i]? = some x from h1) (show r[j]? = some x from h2)]
end Sv
namespace Sv
open PySem PySem.Spec PyProof.Rows L2
theorem walk_zipT {K : PySem.W.Frag} {a b : Addr} {xs ys : List V} {n : Nat} (hn : n = min xs.length ys.length) : Walk (RZ.ItzT K a b) n (fun H => SqT K H a xs ∧ SqT K H b ys) (YPair (fun i => xs[i]?) (fun i => ys[i]?)) := by
  subst hn
  refine ⟨fun i _ hi q => ?_, fun _ q => ⟨xs, ys, q.1, q.2, by omega⟩, fun i H v H' _ q y => ?_⟩
  · have h1 : i < xs.length := by omega
    have h2 : i < ys.length := by omega
    exact ⟨xs, ys, xs[i], ys[i], q.1, q.2, by simp [h1], by simp [h2]⟩
  · obtain ⟨T, x, z, h1, h2, h3, h4, h5⟩ := y
    exact ⟨T, x, z, h1, h2, h3, h4 xs q.1, h5 ys q.2⟩
end Sv

/-! a comprehension with two for: the walks of both. -/
namespace Sv
open PySem PySem.Spec PyProof.Rows L2
section
variable {J : It} {n : Nat} {G : Hp → Prop} {Y : Nat → Hp → V → Hp → Prop}
/-- the outer one -/
theorem lc2_out (w : Walk J n G Y) {g : TG} {tt : TT} {wi1 : TI} {g1 : TG} {tt1 : TT} {te : TE} {vs vs1 : List Nat} {σ : L2.St} {H1 : Hp} {D : Addr} {Qd : Hp → Prop} (Pv : Nat → Hp → Prop) (h0 : Pv 0 (upd H1 D (.lst []))) (hG : ∀ i H, i ≤ n → Pv i H → G H)
    (hs : ∀ i x H H', i < n → Pv i H → Y i H x H' → g x (wipe σ vs) H' fun σ2 H2 => wipe σ2 vs = wipe σ vs ∧ tt σ2 H2 fun b H3 =>
      if b = true then wi1 σ2 H3 fun J1 H4 => ∃ W1 : Nat → Nat → Hp → Prop, (∃ m, W1 0 m H4) ∧ ∀ j k H, W1 j k H →
        (J1.stop j H ∧ Pv (i + 1) H) ∨ (J1.go j H ∧ ∃ Nx1 : Hp → Prop, (∀ H', Nx1 H' → ∃ k', k' < k ∧ W1 (j + 1) k' H') ∧ ∀ x H', J1.yld j H x H' → g1 x (wipe σ2 vs1) H' fun σ3 H5 => wipe σ3 vs1 = wipe σ2 vs1 ∧ tt1 σ3 H5 fun b H6 =>
          if b = true then te σ3 H6 fun y H7 => ∃ acc, H7 D = some (.lst acc) ∧ acc.length < sizeLine ∧ Nx1 (upd H7 D (.lst (acc ++ [y]))) else Nx1 H6)
      else Pv (i + 1) H3) (hd : ∀ H, Pv n H → Qd H) :
    ∃ W : Nat → Nat → Hp → Prop, (∃ m, W 0 m (upd H1 D (.lst []))) ∧ ∀ i m H, W i m H →
      (J.stop i H ∧ Qd H) ∨ (J.go i H ∧ ∃ Nx : Hp → Prop, (∀ H', Nx H' → ∃ m', m' < m ∧ W (i + 1) m' H') ∧ ∀ x H', J.yld i H x H' → g x (wipe σ vs) H' fun σ2 H2 => wipe σ2 vs = wipe σ vs ∧ tt σ2 H2 fun b H3 =>
        if b = true then wi1 σ2 H3 fun J1 H4 => ∃ W1 : Nat → Nat → Hp → Prop, (∃ m, W1 0 m H4) ∧ ∀ j k H, W1 j k H →
          (J1.stop j H ∧ Nx H) ∨ (J1.go j H ∧ ∃ Nx1 : Hp → Prop, (∀ H', Nx1 H' → ∃ k', k' < k ∧ W1 (j + 1) k' H') ∧ ∀ x H', J1.yld j H x H' → g1 x (wipe σ2 vs1) H' fun σ3 H5 => wipe σ3 vs1 = wipe σ2 vs1 ∧ tt1 σ3 H5 fun b H6 =>
            if b = true then te σ3 H6 fun y H7 => ∃ acc, H7 D = some (.lst acc) ∧ acc.length < sizeLine ∧ Nx1 (upd H7 D (.lst (acc ++ [y]))) else Nx1 H6)
        else Nx H3) := by
  refine ⟨fun i m H => m = n - i ∧ i ≤ n ∧ Pv i H, ⟨n, by simp, Nat.zero_le _, h0⟩, ?_⟩
  rintro i m H ⟨rfl, hi, p⟩
  have q := hG i H hi p
  by_cases hlt : i < n
  · refine .inr ⟨w.goes i H hlt q, Pv (i + 1), fun H' p' => ⟨n - (i + 1), by omega, rfl, hlt, p'⟩, fun x H' y => hs i x H H' hlt p (w.yields i H x H' hlt q y)⟩
  · have e : i = n := by omega
    subst e
    exact .inl ⟨w.stops H q, hd H p⟩
/-- the inner one -/
theorem lc2_in (w : Walk J n G Y) {g1 : TG} {tt1 : TT} {te : TE} {vs1 : List Nat} {σ2 : L2.St} {H4 : Hp} {D : Addr} {R : Hp → Prop} (Pv : Nat → Hp → Prop) (h0 : Pv 0 H4) (hG : ∀ i H, i ≤ n → Pv i H → G H)
    (hs : ∀ i x H H', i < n → Pv i H → Y i H x H' → g1 x (wipe σ2 vs1) H' fun σ3 H5 => wipe σ3 vs1 = wipe σ2 vs1 ∧ tt1 σ3 H5 fun b H6 =>
      if b = true then te σ3 H6 fun y H7 => ∃ acc, H7 D = some (.lst acc) ∧ acc.length < sizeLine ∧ Pv (i + 1) (upd H7 D (.lst (acc ++ [y]))) else Pv (i + 1) H6) (hd : ∀ H, Pv n H → R H) :
    ∃ W1 : Nat → Nat → Hp → Prop, (∃ m, W1 0 m H4) ∧ ∀ j k H, W1 j k H →
      (J.stop j H ∧ R H) ∨ (J.go j H ∧ ∃ Nx1 : Hp → Prop, (∀ H', Nx1 H' → ∃ k', k' < k ∧ W1 (j + 1) k' H') ∧ ∀ x H', J.yld j H x H' → g1 x (wipe σ2 vs1) H' fun σ3 H5 => wipe σ3 vs1 = wipe σ2 vs1 ∧ tt1 σ3 H5 fun b H6 =>
        if b = true then te σ3 H6 fun y H7 => ∃ acc, H7 D = some (.lst acc) ∧ acc.length < sizeLine ∧ Nx1 (upd H7 D (.lst (acc ++ [y]))) else Nx1 H6) := by
  refine ⟨fun i m H => m = n - i ∧ i ≤ n ∧ Pv i H, ⟨n, by simp, Nat.zero_le _, h0⟩, ?_⟩
  rintro i m H ⟨rfl, hi, p⟩
  have q := hG i H hi p
  by_cases hlt : i < n
  · refine .inr ⟨w.goes i H hlt q, Pv (i + 1), fun H' p' => ⟨n - (i + 1), by omega, rfl, hlt, p'⟩, fun x H' y => hs i x H H' hlt p (w.yields i H x H' hlt q y)⟩
  · have e : i = n := by omega
    subst e
    exact .inl ⟨w.stops H q, hd H p⟩
end
end Sv

/-! repr of a bool; a dict comprehension over any walk. -/
namespace Sv
open PySem PySem.Spec PyProof.Rows L2
section
variable {X : Cx}
def bText (b : Bool) : Str := if b then "True" else "False"
theorem call_repr_bl : CallR X (.builtin "repr") (fun xs H Q => ∃ b, xs = [.bl b] ∧ Q (.str (bText b)) H) := by
  intro pins s σ H xs us Q I r h
  obtain ⟨b, rfl, q⟩ := h
  obtain ⟨u, rfl, ru⟩ := vals1 r
  cases ru
  exact PySem.P.repr_of_bool ⟨.str _, H, I.tok _, ⟨_, rfl⟩, q⟩
end
section
variable {J : It} {n : Nat} {G : Hp → Prop} {Y : Nat → Hp → V → Hp → Prop}
theorem dc_it (w : Walk J n G Y) {g : TG} {tt : TT} {tk tv : TE} {vs : List Nat} {σ : L2.St} {H1 : Hp} {D : Addr} {Qd : Hp → Prop} (Pv : Nat → Hp → Prop) (h0 : Pv 0 (upd H1 D (.dK []))) (hG : ∀ i H, i ≤ n → Pv i H → G H)
    (hs : ∀ i x H H', i < n → Pv i H → Y i H x H' → g x (wipe σ vs) H' fun σ2 H2 => wipe σ2 vs = wipe σ vs ∧ tt σ2 H2 fun b H3 =>
      if b = true then tk σ2 H3 fun y H4 => tv σ2 H4 fun z H5 => ∃ kvs k, y = kV k ∧ H5 D = some (.dK kvs) ∧ kvs.length < sizeLine ∧ Pv (i + 1) (upd H5 D (.dK (putK kvs k z))) else Pv (i + 1) H3) (hd : ∀ H, Pv n H → Qd H) :
    ∃ W : Nat → Nat → Hp → Prop, (∃ m, W 0 m (upd H1 D (.dK []))) ∧ ∀ i m H, W i m H →
      (J.stop i H ∧ Qd H) ∨ (J.go i H ∧ ∃ Nx : Hp → Prop, (∀ H', Nx H' → ∃ m', m' < m ∧ W (i + 1) m' H') ∧ ∀ x H', J.yld i H x H' → g x (wipe σ vs) H' fun σ2 H2 => wipe σ2 vs = wipe σ vs ∧ tt σ2 H2 fun b H3 =>
        if b = true then tk σ2 H3 fun y H4 => tv σ2 H4 fun z H5 => ∃ kvs k, y = kV k ∧ H5 D = some (.dK kvs) ∧ kvs.length < sizeLine ∧ Nx (upd H5 D (.dK (putK kvs k z))) else Nx H3) := by
  refine ⟨fun i m H => m = n - i ∧ i ≤ n ∧ Pv i H, ⟨n, by simp, Nat.zero_le _, h0⟩, ?_⟩
  rintro i m H ⟨rfl, hi, p⟩
  have q := hG i H hi p
  by_cases hlt : i < n
  · refine .inr ⟨w.goes i H hlt q, Pv (i + 1), fun H' p' => ⟨n - (i + 1), by omega, rfl, hlt, p'⟩, fun x H' y => hs i x H H' hlt p (w.yields i H x H' hlt q y)⟩
  · have e : i = n := by omega
    subst e
    exact .inl ⟨w.stops H q, hd H p⟩
end
theorem valV_none {κ : Type} [DecidableEq κ] : ∀ {kvs : List (κ × V)} {k : κ}, (∀ p ∈ kvs, p.1 ≠ k) → valV kvs k = none
  | [], _, _ => rfl
  | p :: r, k, h => by
    have h1 := h p List.mem_cons_self
    have h2 := valV_none (kvs := r) (k := k) fun q hq => h q (List.mem_cons_of_mem _ hq)
    unfold valV at h2 ⊢
    rw [List.find?_cons, decide_eq_false h1]
    exact h2
theorem valV_at {κ : Type} [DecidableEq κ] : ∀ {kvs : List (κ × V)} {i : Nat} {k : κ} {v : V}, (kvs.map (·.1)).Nodup → kvs[i]? = some (k, v) → valV kvs k = some v
  | [], i, _, _, _, h => by simp at h
  | p :: r, 0, k, v, _, h => by
    obtain rfl : p = (k, v) := Option.some.inj h
    unfold valV
    rw [List.find?_cons, decide_eq_true rfl]
    rfl
  | p :: r, i + 1, k, v, hn, h => by
    rw [List.map_cons] at hn
    obtain ⟨n1, n2⟩ := List.nodup_cons.mp hn
    have h2 : r[i]? = some (k, v) := h
    have hne : p.1 ≠ k := fun z => n1 (z ▸ List.mem_map.mpr ⟨(k, v), List.mem_of_getElem? h2, rfl⟩)
    have ih := valV_at (kvs := r) (i := i) n2 h2
    unfold valV at ih ⊢
    rw [List.find?_cons, decide_eq_false hne]
    exact ih
end Sv

set_option maxHeartbeats 4000000
/-! tuple * 1: the same tuple. -/
namespace Sv
open PySem PySem.Spec PyProof.Rows L2
theorem tuple_mulW1 (l : Addr) (items : Array Value) (n : Nat) (dd : Option Addr) (sl : Array (Option Value)) (u : Tok) (c1 : (items.isEmpty || (1 : Int) == 1) = true) :
    Meets (Builtin.«tuple.__mul__» ⟨[.ref l, .int 1 u], []⟩) (fun _ R s => s.heap.get? l = some { cls := .type "tuple", dict := dd, data := .seq items n, slots := sl } ∧ R (.ok (.ret (Value.ref l))) s) :=
  .of_wp fun prog w A R s h => by
    obtain ⟨hp, g, d, tk, os⟩ := s
    obtain ⟨hl, h⟩ := h
    have f1 := AutoSeq1.idx_int
    wp_walk using wpAny_loadPart' hl
    repeat (first
      | (refine wpAny_ite_true (decide_eq_true c1) ?_; wp_walk using wpAny_loadPart' hl)
      | (refine wpAny_ite_false (decide_eq_false (by decide)) ?_; wp_walk using wpAny_loadPart' hl))
    exact ⟨_, rfl, h⟩
section
variable {X : Cx}
def rRep1 (K : PySem.W.Frag) : R2 := fun x y H Q => ∃ l xs, x = .ref l ∧ y = .int 1 ∧ SqT K H l xs ∧ Q (.ref l) H
theorem op_rep1 : OpR X (binaryOp .Mult) (rRep1 X.K) := by
  intro pins s σ H x y v u Q I rx ry h
  obtain ⟨l, xs, rfl, rfl, hT, q⟩ := h
  cases rx
  obtain ⟨t, rfl⟩ := ry
  obtain ⟨its, r, ⟨⟨cls, dd, data, sl⟩, ho, hc, n, hd⟩, hs⟩ := I.tuple hT
  simp only at hc hd
  subst hc hd
  refine wpAny_binaryOp_repeat_ref (T := "tuple") (U := "int") (by decide) ⟨_, ho, rfl⟩ (fun s' => typeIs_int s' 1 t) noFill_tuple_mul F.fills_int_mul F.slot_int_rmul repeat_tuple F.slot_int_index.lookup
    (call_meets F.slot_int_rmul (typeIs_int s 1 t) F.entry_int_rmul (F.args_int_rmul_2 _ _) (int_rmul_tuple 1 t l its.toArray n dd sl)
      ⟨ho, rfl, ⟨_, ho, rfl⟩, call_meets F.slot_tuple_mul ⟨_, ho, rfl⟩ F.entry_tuple_mul (F.args_tuple_mul_2 _ _) (tuple_mulW1 l its.toArray n dd sl t (by simp)) ⟨ho, ?_⟩⟩)
  exact ⟨.ref l, H, I, rfl, q⟩
def rRepA (K : PySem.W.Frag) : R2 := fun x y H Q => rRepT K x y H Q ∨ rRep1 K x y H Q
theorem op_repA : OpR X (binaryOp .Mult) (rRepA X.K) := OpR.or op_repT op_rep1
end
/-- a tuple of zeros -/
theorem rep_zeros {K : PySem.W.Frag} {H : Hp} {l : Addr} {c : Nat} {Q : VK} (h : SqT K H l [.int 0]) (h1 : 1 ≤ c) (h6 : c ≤ 6) (q : ∀ (H' : Hp) (p : Addr), Same H H' → SqT K H' p (List.replicate c (.int 0)) → Q (.ref p) H') : rRepA K (.ref l) (.int c) H Q := by
  by_cases e : c = 1
  · subst e
    exact .inr ⟨l, _, rfl, rfl, h, q H l (Same.refl H) h⟩
  · refine .inl ⟨l, c, _, rfl, rfl, h, by simp, by omega, by omega, by simp, fun p np => q _ p (Same.new np) ?_⟩
    have : (List.replicate ((c : Int)).toNat [V.int 0]).flatten = List.replicate c (.int 0) := by
      rw [Int.toNat_natCast]
      clear h q
      induction c with
      | zero => rfl
      | succ n ih =>
        rw [List.replicate_succ, List.flatten_cons, List.replicate_succ]
        by_cases h0 : n = 0
        · subst h0; rfl
        · have : (List.replicate n [V.int 0]).flatten = List.replicate n (.int 0) := by
            clear ih
            induction n with
            | zero => rfl
            | succ m ihm => rw [List.replicate_succ, List.flatten_cons, List.replicate_succ]; rcases Nat.eq_zero_or_pos m with z | z
                            · subst z; rfl
                            · rw [ihm (by omega) (by omega) (by omega) (by omega)]; rfl
          rw [this]; rfl
    rw [this]
    exact .inl (.inl upd_same)
end Sv

/-! data with lists that are not sys.modules, and with small dicts: repr of it. -/
namespace Sv
open PySem PySem.Spec PyProof.Rows L2
mutual
inductive DX (N : Addr → Prop) (K : PySem.W.Frag) (H : Hp) : V → PyData → Prop
  | non : DX N K H .non .none
  | bl (b : Bool) : DX N K H (.bl b) (.bool b)
  | int (i : Int) : DX N K H (.int i) (.int i)
  | str (x : Str) : DX N K H (.str x) (.str x)
  | lst {a : Addr} {xs : List V} {ds : List PyData} : H a = some (.lst xs) → N a → DXs N K H xs ds → DX N K H (.ref a) (.list ds)
  | tup {a : Addr} {xs : List V} {ds : List PyData} : (H a = some (.tup xs) ∨ ∃ o, H a = some (.frz o (.tup xs))) → DXs N K H xs ds → DX N K H (.ref a) (.tuple ds)
  | d0 {a : Addr} : H a = some (.dK []) → DX N K H (.ref a) (.dict [])
  | d1 {a : Addr} {k : Str} {i : Int} : H a = some (.dK [(Sum.inr k, .int i)]) → DX N K H (.ref a) (.dict [(.str k, .int i)])
inductive DXs (N : Addr → Prop) (K : PySem.W.Frag) (H : Hp) : List V → List PyData → Prop
  | nil : DXs N K H [] []
  | cons {v : V} {vs : List V} {d : PyData} {ds : List PyData} : DX N K H v d → DXs N K H vs ds → DXs N K H (v :: vs) (d :: ds)
end
mutual
/-- wherever lists, tuples and dicts stay -/
theorem DX.keep {N : Addr → Prop} {K : PySem.W.Frag} {H H' : Hp} (e : ∀ (a : Addr) (xs : List V), N a → H a = some (.lst xs) → H' a = some (.lst xs)) (e2 : ∀ (a : Addr) (xs : List V), (H a = some (.tup xs) ∨ ∃ o, H a = some (.frz o (.tup xs))) → (H' a = some (.tup xs) ∨ ∃ o, H' a = some (.frz o (.tup xs))))
    (e3 : ∀ (a : Addr) (kvs : List (Key × V)), H a = some (.dK kvs) → H' a = some (.dK kvs)) : ∀ {v : V} {d : PyData}, DX N K H v d → DX N K H' v d
  | _, _, .non => .non
  | _, _, .bl b => .bl b
  | _, _, .int i => .int i
  | _, _, .str x => .str x
  | _, _, .lst h n hs => .lst (e _ _ n h) n (DXs.keep e e2 e3 hs)
  | _, _, .tup h hs => .tup (e2 _ _ h) (DXs.keep e e2 e3 hs)
  | _, _, .d0 h => .d0 (e3 _ _ h)
  | _, _, .d1 h => .d1 (e3 _ _ h)
theorem DXs.keep {N : Addr → Prop} {K : PySem.W.Frag} {H H' : Hp} (e : ∀ (a : Addr) (xs : List V), N a → H a = some (.lst xs) → H' a = some (.lst xs)) (e2 : ∀ (a : Addr) (xs : List V), (H a = some (.tup xs) ∨ ∃ o, H a = some (.frz o (.tup xs))) → (H' a = some (.tup xs) ∨ ∃ o, H' a = some (.frz o (.tup xs))))
    (e3 : ∀ (a : Addr) (kvs : List (Key × V)), H a = some (.dK kvs) → H' a = some (.dK kvs)) : ∀ {vs : List V} {ds : List PyData}, DXs N K H vs ds → DXs N K H' vs ds
  | _, _, .nil => .nil
  | _, _, .cons h hs => .cons (DX.keep e e2 e3 h) (DXs.keep e e2 e3 hs)
end
theorem DX.kp {K : PySem.W.Frag} {H H' : Hp} {a b : Addr} {N : Addr → Prop} {v : V} {d : PyData} (h : DX N K H v d) (e : Kp a b H H') (ha : ¬ N a) (hb : ¬ N b) (la : ∃ xs, H a = some (.lst xs)) (lb : ∃ xs, H b = some (.lst xs)) : DX N K H' v d := by
  obtain ⟨xa, la⟩ := la
  obtain ⟨xb, lb⟩ := lb
  refine h.keep (fun c xs hc q => e _ _ (fun z => ha (z ▸ hc)) (fun z => hb (z ▸ hc)) q) (fun c xs q => q.elim (fun q => .inl (e _ _ (ne_of q la (by intro z; cases z)) (ne_of q lb (by intro z; cases z)) q)) fun ⟨o, q⟩ => .inr ⟨o, e _ _ (ne_of q la (by intro z; cases z)) (ne_of q lb (by intro z; cases z)) q⟩)
    (fun c xs q => e _ _ (ne_of q la (by intro z; cases z)) (ne_of q lb (by intro z; cases z)) q)
mutual
theorem DX.weak {N M : Addr → Prop} {K : PySem.W.Frag} {H : Hp} (e : ∀ (a : Addr) (xs : List V), H a = some (.lst xs) → N a → M a) : ∀ {v : V} {d : PyData}, DX N K H v d → DX M K H v d
  | _, _, .non => .non
  | _, _, .bl b => .bl b
  | _, _, .int i => .int i
  | _, _, .str x => .str x
  | _, _, .lst h n hs => .lst h (e _ _ h n) (DXs.weak e hs)
  | _, _, .tup h hs => .tup h (DXs.weak e hs)
  | _, _, .d0 h => .d0 h
  | _, _, .d1 h => .d1 h
theorem DXs.weak {N M : Addr → Prop} {K : PySem.W.Frag} {H : Hp} (e : ∀ (a : Addr) (xs : List V), H a = some (.lst xs) → N a → M a) : ∀ {vs : List V} {ds : List PyData}, DXs N K H vs ds → DXs M K H vs ds
  | _, _, .nil => .nil
  | _, _, .cons h hs => .cons (DX.weak e h) (DXs.weak e hs)
end
theorem DX.same {N : Addr → Prop} {K : PySem.W.Frag} {H H' : Hp} {v : V} {d : PyData} (h : DX N K H v d) (e : Same H H') : DX N K H' v d := h.keep (fun a xs _ q => e _ _ q) (fun a xs q => q.elim (fun q => .inl (e _ _ q)) fun ⟨o, q⟩ => .inr ⟨o, e _ _ q⟩) (fun a xs q => e _ _ q)
theorem DXs.same {N : Addr → Prop} {K : PySem.W.Frag} {H H' : Hp} {v : List V} {d : List PyData} (h : DXs N K H v d) (e : Same H H') : DXs N K H' v d := h.keep (fun a xs _ q => e _ _ q) (fun a xs q => q.elim (fun q => .inl (e _ _ q)) fun ⟨o, q⟩ => .inr ⟨o, e _ _ q⟩) (fun a xs q => e _ _ q)
theorem DXs.len {N : Addr → Prop} {K : PySem.W.Frag} {H : Hp} : ∀ {vs : List V} {ds : List PyData}, DXs N K H vs ds → vs.length = ds.length
  | _, _, .nil => rfl
  | _, _, .cons _ hs => by rw [List.length_cons, List.length_cons, DXs.len hs]
theorem DXs.at {N : Addr → Prop} {K : PySem.W.Frag} {H : Hp} : ∀ {vs : List V} {ds : List PyData}, DXs N K H vs ds → ∀ {i : Nat} {v : V}, vs[i]? = some v → ∃ d, ds[i]? = some d ∧ DX N K H v d
  | _, _, .nil, i, v, h => by simp at h
  | _, _, .cons (d := d) h1 h2, 0, v, h => by
    cases h
    exact ⟨d, rfl, h1⟩
  | _, _, .cons h1 h2, i + 1, v, h => DXs.at h2 (i := i) h
theorem DXs.append {N : Addr → Prop} {K : PySem.W.Frag} {H : Hp} : ∀ {vs : List V} {ds : List PyData} {ws : List V} {es : List PyData}, DXs N K H vs ds → DXs N K H ws es → DXs N K H (vs ++ ws) (ds ++ es)
  | _, _, _, _, .nil, h => h
  | _, _, _, _, .cons h1 h2, h => .cons h1 (DXs.append h2 h)
theorem DXs.ints {N : Addr → Prop} {K : PySem.W.Frag} {H : Hp} : ∀ ns : List Int, DXs N K H (ns.map V.int) (iD ns)
  | [] => .nil
  | n :: r => .cons (.int n) (DXs.ints r)
theorem DX.kn {N : Addr → Prop} {K : PySem.W.Frag} {H : Hp} {v : V} {d : PyData} (h : DX N K H v d) : Kn K H v := by
  cases h with
  | non => exact .non
  | bl b => exact .bl b
  | int i => exact .int i
  | str x => exact .str x
  | lst h _ _ => exact .lst h
  | tup h _ =>
    rcases h with h | ⟨o, h⟩
    · exact .tup h
    · exact .ftup h
  | d0 h => exact .dK h
  | d1 h => exact .dK h
def tupOf : PyData → Bool
  | .tuple _ => true
  | _ => false
theorem DX.isTup {N : Addr → Prop} {K : PySem.W.Frag} {H : Hp} {v : V} {d : PyData} (h : DX N K H v d) : ∃ t, TyX K H v t ∧ PySem.W.kitOne K t (.type "tuple") = some (tupOf d) := by
  cases h with
  | non => exact ⟨_, .base .non, kit_ty (by decide +kernel)⟩
  | bl b => exact ⟨_, .base (.bl b), kit_ty (by show kitB "bool" "tuple" = some false; decide +kernel)⟩
  | int i => exact ⟨_, .base (.int i), kit_ty (by show kitB "int" "tuple" = some false; decide +kernel)⟩
  | str x => exact ⟨_, .base (.str x), kit_ty (by show kitB "str" "tuple" = some false; decide +kernel)⟩
  | lst h _ _ => exact ⟨_, .base (.lst h), kit_ty (by show kitB "list" "tuple" = some false; decide +kernel)⟩
  | tup h _ =>
    rcases h with h | ⟨o, h⟩
    · exact ⟨_, .base (.tup h), kit_ty (by show kitB "tuple" "tuple" = some true; decide +kernel)⟩
    · exact ⟨_, .fTuple h, kit_ty (by show kitB "tuple" "tuple" = some true; decide +kernel)⟩
  | d0 h => exact ⟨_, .base (.dK h), kit_ty (by show kitB "dict" "tuple" = some false; decide +kernel)⟩
  | d1 h => exact ⟨_, .base (.dK h), kit_ty (by show kitB "dict" "tuple" = some false; decide +kernel)⟩
theorem DX.tupInv {N : Addr → Prop} {K : PySem.W.Frag} {H : Hp} {v : V} {ds : List PyData} (h : DX N K H v (.tuple ds)) : ∃ a xs, v = .ref a ∧ SqT K H a xs ∧ DXs N K H xs ds := by
  cases h with
  | tup h hs => exact ⟨_, _, rfl, .inl h, hs⟩
/-- a number from lo to hi, told of data -/
def numD (d : PyData) (lo hi : Int) : Bool := match d with
  | .int i => decide (lo ≤ i) && decide (i ≤ hi)
  | _ => false
theorem DX.num {N : Addr → Prop} {K : PySem.W.Frag} {H : Hp} {v : V} {d : PyData} (h : DX N K H v d) (lo hi : Int) : numIn v lo hi = numD d lo hi := by
  cases h <;> rfl
section
variable {X : Cx} {pins : List (Addr × Obj)} {σ : L2.St} {H : Hp} {s : Shared} {N : Addr → Prop}
mutual
theorem DX.reads (hN : ∀ a, N a → a ≠ sysModules) (I : Inv X pins σ H s) : ∀ (d : PyData) (v : V) (u : Value), DX N X.K H v d → RelV v u → ∃ as, Reads s.heap u d as ∧ sysModules ∉ as
  | .none, _, _, h, r => by
    cases h
    cases r
    exact ⟨_, Reads.none, List.not_mem_nil⟩
  | .bool b, _, _, h, r => by
    cases h
    cases r
    exact ⟨_, Reads.bool b, List.not_mem_nil⟩
  | .int i, _, _, h, r => by
    cases h
    obtain ⟨t, rfl⟩ := r
    exact ⟨_, Reads.int i t, List.not_mem_nil⟩
  | .str x, _, _, h, r => by
    cases h
    obtain ⟨t, rfl⟩ := r
    exact ⟨_, Reads.str x t, List.not_mem_nil⟩
  | .list ds, _, _, h, r => by
    cases h with
    | lst hs hn ha =>
      cases r
      obtain ⟨its, rv, ⟨o, n, ho, hc, _, hd⟩, _⟩ := I.list (.of hs)
      obtain ⟨as, hr, hm⟩ := DXs.reads hN I ds _ its ha rv
      exact ⟨_, Reads.list ho hc hd hr, fun z => (List.mem_cons.mp z).elim (fun z => hN _ hn z.symm) hm⟩
  | .tuple ds, _, _, h, r => by
    cases h with
    | tup hs ha =>
      cases r
      obtain ⟨its, rv, ⟨o, ho, hc, n, hd⟩, _⟩ := I.tuple (.inl hs)
      obtain ⟨as, hr, hm⟩ := DXs.reads hN I ds _ its ha rv
      exact ⟨_, Reads.tuple ho hc hd hr, hm⟩
  | .dict kvs, _, _, h, r => by
    cases h with
    | d0 hs =>
      cases r
      obtain ⟨_, hn, vs, kv, o, es, ep, ho, ⟨hc, _, _⟩, hd, _, hp, _⟩ := I.hok _ _ hs
      cases kv
      have he : es.toList = [] := by
        generalize es.toList = l at hp
        cases hp
        rfl
      refine ⟨_, Reads.dict (as := []) (bs := []) ho hc hd (by rw [he]; exact .nil) (by rw [he]; exact .nil), fun z => ?_⟩
      have hz := List.mem_singleton.mp (by simpa using z)
      rw [hz] at hn
      simp at hn
    | @d1 _ k i hs =>
      cases r
      obtain ⟨_, hn, vs, kv, o, es, ep, ho, ⟨hc, _, _⟩, hd, _, hp, _⟩ := I.hok _ _ hs
      obtain ⟨u, t, rfl, rfl⟩ : ∃ (u : Value) (t : Tok), vs = [(Sum.inr k, u)] ∧ u = .int i t := by
        match vs, kv with
        | [(k', u)], .cons ⟨e1, t, e2⟩ .nil => exact ⟨u, t, by rw [show (Sum.inr k : Key) = k' from e1], e2⟩
      generalize hl : es.toList = l at hp
      cases hp with
      | @cons e _ _ _ p1 p2 p3 =>
        cases p3
        obtain ⟨hh, key, val⟩ := e
        have p2' : val = Value.int i t := p2
        subst p2'
        have p1' : keyIs (Sum.inr k) key = true := p1
        obtain ⟨i', t', z, _⟩ | ⟨x, t', z, rfl⟩ := keyIs_shape p1'
        · cases z
        · cases z
          refine ⟨_, Reads.dict (as := [] ++ []) (bs := [] ++ []) ho hc hd (by rw [hl]; exact .cons (.str _ _) .nil) (by rw [hl]; exact .cons (.int _ _) .nil), fun z => ?_⟩
          have hz := List.mem_singleton.mp (by simpa using z)
          rw [hz] at hn
          simp at hn
theorem DXs.reads (hN : ∀ a, N a → a ≠ sysModules) (I : Inv X pins σ H s) : ∀ (ds : List PyData) (vs : List V) (us : List Value), DXs N X.K H vs ds → Vals vs us → ∃ as, ReadsAll s.heap us ds as ∧ sysModules ∉ as
  | [], _, _, h, r => by
    cases h
    cases r
    exact ⟨_, ReadsAll.nil, List.not_mem_nil⟩
  | d :: ds, _, _, h, r => by
    cases h with
    | cons h1 h2 =>
      cases r with
      | cons r1 r2 =>
        obtain ⟨as, q1, m1⟩ := DX.reads hN I d _ _ h1 r1
        obtain ⟨bs, q2, m2⟩ := DXs.reads hN I ds _ _ h2 r2
        exact ⟨_, ReadsAll.cons q1 q2, fun z => (List.mem_append.mp z).elim m1 m2⟩
end
end
/-- data whose text can be shown -/
structure FineX (n W : Nat) (d : PyData) : Prop where
  dep : d.depth ≤ n
  wei : d.weight ≤ W
  sho : d.showable = true
  lea : d.leavesShort 40 = true
structure FineXs (n W : Nat) (ds : List PyData) : Prop where
  dep : PyData.depthAll ds ≤ n
  wei : PyData.weightAll ds ≤ W
  sho : PyData.showableAll ds = true
  lea : PyData.leavesShortAll 40 ds = true
theorem FineX.mono {n W m U : Nat} {d : PyData} (h : FineX n W d) (e : n ≤ m) (e2 : W ≤ U) : FineX m U d := ⟨Nat.le_trans h.dep e, Nat.le_trans h.wei e2, h.sho, h.lea⟩
theorem FineXs.mono {n W m U : Nat} {d : List PyData} (h : FineXs n W d) (e : n ≤ m) (e2 : W ≤ U) : FineXs m U d := ⟨Nat.le_trans h.dep e, Nat.le_trans h.wei e2, h.sho, h.lea⟩
theorem finex_nil : FineXs 0 0 [] := ⟨Nat.le_refl _, Nat.le_refl _, rfl, rfl⟩
theorem finex_cons {n W U : Nat} {d : PyData} {ds : List PyData} (h : FineX n W d) (hs : FineXs n U ds) : FineXs n (W + 1 + U) (d :: ds) := by
  refine ⟨?_, ?_, ?_, ?_⟩
  · simp only [PyData.depthAll]
    exact Nat.max_le.mpr ⟨h.dep, hs.dep⟩
  · have h1 := h.wei
    have h2 := hs.wei
    simp only [PyData.weightAll]
    omega
  · simp only [PyData.showableAll, h.sho, hs.sho, Bool.and_self]
  · simp only [PyData.leavesShortAll, h.lea, hs.lea, Bool.and_self]
theorem finex_list {n W : Nat} {ds : List PyData} (h : FineXs n W ds) : FineX (n + 1) W (.list ds) := by
  have h1 := h.dep
  refine ⟨by simp only [PyData.depth]; omega, h.wei, ?_, ?_⟩
  · simp only [PyData.showable, h.sho]
  · simp only [PyData.leavesShort, h.lea]
theorem finex_tuple {n W : Nat} {ds : List PyData} (h : FineXs n W ds) : FineX (n + 1) W (.tuple ds) := by
  have h1 := h.dep
  refine ⟨by simp only [PyData.depth]; omega, h.wei, ?_, ?_⟩
  · simp only [PyData.showable, h.sho]
  · simp only [PyData.leavesShort, h.lea]
theorem finex_all {n W : Nat} : ∀ {ds : List PyData}, (∀ d ∈ ds, FineX n W d) → FineXs n ((W + 1) * ds.length) ds
  | [], _ => finex_nil.mono (Nat.zero_le _) (Nat.zero_le _)
  | d :: ds, h => by
    have q := finex_cons (h d List.mem_cons_self) (finex_all fun x hx => h x (List.mem_cons_of_mem _ hx))
    refine q.mono (Nat.le_refl _) ?_
    rw [List.length_cons, Nat.mul_add, Nat.mul_one]
    omega
theorem FineX.len {n W : Nat} {d : PyData} (h : FineX n W d) (hW : W ≤ 300000) : d.shown.length ≤ sizeLine := by
  have q := PyData.shown_le 40 (by decide) d h.lea
  have := h.wei
  rw [sizeLine_eq]
  omega
section
variable {X : Cx}
def ShownX (N : Addr → Prop) (K : PySem.W.Frag) (H : Hp) (v : V) (d : PyData) : Prop := (∀ a, N a → a ≠ sysModules) ∧ DX N K H v d ∧ isDisplay d = true ∧ d.showable = true ∧ d.depth ≤ 60 ∧ d.shown.length ≤ sizeLine
theorem FineX.shown {N : Addr → Prop} {K : PySem.W.Frag} {H : Hp} {v : V} {n W : Nat} {d : PyData} (h : FineX n W d) (hn : n ≤ 60) (hW : W ≤ 300000) (hN : ∀ a, N a → a ≠ sysModules) (hd : DX N K H v d) (hi : isDisplay d = true) : ShownX N K H v d :=
  ⟨hN, hd, hi, h.sho, Nat.le_trans h.dep hn, h.len hW⟩
theorem call_reprX (hgd : X.A.guards = some []) (hu : X.A.units + 64 < cLine) : CallR X (.builtin "repr") (fun xs H Q => ∃ N v d, xs = [v] ∧ ShownX N X.K H v d ∧ Q (.str d.shown) H) := by
  intro pins s σ H xs us Q I r h
  obtain ⟨N, v, d, rfl, ⟨hN, hd, h1, h2, h4, h5⟩, q⟩ := h
  obtain ⟨u, rfl, ru⟩ := vals1 r
  obtain ⟨as, R, hm⟩ := DX.reads hN I d v u hd ru
  obtain ⟨a, rfl⟩ := isRef_of_reads R h1
  refine repr_of_reads' R h2 (fun _ => hm) hgd (by omega) (fun _ _ e => e) (fun h' tk1 tk2 hk => ?_) h5
  exact ⟨.str _, H, I.kept (t' := tk2) hk, ⟨tk1, rfl⟩, q⟩
/-- a list display, told that it is not sys.modules -/
def tLstS (t : TA) : TE := fun σ H Q => t σ H fun xs H1 => xs.length ≤ sizeLine ∧ ∀ p, H1 p = none → p ≠ sysModules → Q (.ref p) (upd H1 p (.lst xs))
theorem pe_lstS {es : List Expr} {t : TA} {pos : Pos} (h : PA X es t) : PE X (.List es pos) (tLstS t) := by
  refine ⟨fun pins s σ H Q I hq => ?_⟩
  refine wpAny_List_spliced (thn (h.run pos pins s σ H _ I hq) fun us s1 ⟨xs, H1, I1, r, z, q⟩ => ⟨by rw [← r.length]; exact z, ?_⟩)
  have hf : H1 s1.heap.objs.size = none := I1.hok.fresh (Nat.le_refl _)
  refine ⟨.ref s1.heap.objs.size, upd H1 s1.heap.objs.size (.lst xs), I1.laid (t' := s1.toks) (fun b u e => Heap.get?_push_of_some _ e) (Nat.le_refl _) ?_, rfl, q _ hf (Ne.symm (Nat.ne_of_lt I1.big))⟩
  exact ⟨z, us, 0, r, Heap.get?_push_size _ rfl⟩
/-- list(x), told that it is not sys.modules -/
def rListS (K : PySem.W.Frag) : List V → Hp → VK → Prop := fun xs H Q => ∃ p ys, xs = [.ref p] ∧ (SqL K H p ys ∨ SqT K H p ys) ∧ ∀ l, H l = none → l ≠ sysModules → Q (.ref l) (upd H l (.lst ys))
theorem call_listS : CallR X (.type "list") (rListS X.K) := by
  intro pins s σ H xs us Q I r h
  obtain ⟨p, ys, rfl, hq, q⟩ := h
  obtain ⟨u, rfl, rx⟩ := vals1 r
  cases rx
  have fin : ∀ (its : List Value), Vals ys its → ys.length ≤ sizeLine → ∀ (h' : Heap) (c' : Nat), (∀ b o', s.heap.get? b = some o' → h'.get? b = some o') →
      h'.get? s.heap.objs.size = some { cls := .type "list", dict := none, data := .seq its.toArray c', slots := #[] } → EP X pins σ Q (.ref s.heap.objs.size) { s with heap := h' } := fun its r' hz h' c' kp e =>
    ⟨.ref s.heap.objs.size, _, I.laid (t' := s.toks) kp (Nat.le_refl _) (show ObjOk X.prog X.w _ h' _ (.lst ys) from ⟨hz, its, c', r', e⟩), rfl, q _ (I.hok.fresh (Nat.le_refl _)) (Ne.symm (Nat.ne_of_lt I.big))⟩
  rcases hq with hq | hq
  · obtain ⟨its, r', pl, hz⟩ := I.list hq
    have hlen := r'.length
    obtain ⟨o, ho, hc, n, hd⟩ := pl.isList
    exact call_list_seq p (.inl rfl) ho hc hd (fun h' c' kp e => fin its r' hz h' c' kp e) (by simp only [List.size_toArray] <;> omega)
  · obtain ⟨its, r', pl, hz⟩ := I.tuple hq
    have hlen := r'.length
    obtain ⟨o, ho, hc, n, hd⟩ := pl
    exact call_list_seq p (.inr rfl) ho hc hd (fun h' c' kp e => fin its r' hz h' c' kp e) (by simp only [List.size_toArray] <;> omega)
end
end Sv

/-! + and cuts of any tuples, told once for all. -/
namespace Sv
open PySem PySem.Spec PyProof.Rows L2
def TupT (H : Hp) (a : Addr) (xs : List V) : Prop := H a = some (.tup xs) ∨ ∃ o, H a = some (.frz o (.tup xs))
theorem TupT.sqT {K : PySem.W.Frag} {H : Hp} {a : Addr} {xs : List V} (h : TupT H a xs) : SqT K H a xs := .inl h
theorem TupT.same {H H' : Hp} {a : Addr} {xs : List V} (h : TupT H a xs) (e : Same H H') : TupT H' a xs := h.elim (fun q => .inl (e _ _ q)) fun ⟨o, q⟩ => .inr ⟨o, e _ _ q⟩
theorem slA {K : PySem.W.Frag} {H : Hp} {a : Addr} {xs : List V} {lo hi : Option Int} {Q : VK} (h : TupT H a xs) (q : ∀ (H' : Hp) (p : Addr), Same H H' → TupT H' p (cutV xs lo hi) → Q (.ref p) H') : rSlA K (.ref a) lo hi H Q := by
  refine ⟨a, xs, rfl, h.sqT, fun z => ?_, fun _ p np => q _ p (Same.new np) (.inl upd_same)⟩
  refine q H a (Same.refl H) ?_
  have e : cutV xs lo hi = xs := by
    unfold cutV
    rw [z.1, z.2, List.drop_zero, Nat.sub_zero, List.take_length]
  rw [e]
  exact h
theorem catA {K : PySem.W.Frag} {H : Hp} {a b : Addr} {xs ys : List V} {Q : VK} (ha : TupT H a xs) (hb : TupT H b ys) (hl : xs.length + ys.length ≤ 1000) (q : ∀ (H' : Hp) (p : Addr), Same H H' → TupT H' p (xs ++ ys) → Q (.ref p) H') : L2.rCatA K (.ref a) (.ref b) H Q := by
  refine ⟨a, b, xs, ys, rfl, rfl, ha.sqT, hb.sqT, Nat.le_of_lt (small1000 (by omega)), fun z => q H b (Same.refl H) (by rw [z]; exact hb), fun _ z => q H a (Same.refl H) (by rw [z, List.append_nil]; exact ha), fun _ _ p np => q _ p (Same.new np) (.inl upd_same)⟩
theorem cut_last (xs : List V) : cutV xs none (some (-1)) = xs.take (xs.length - 1) := by
  unfold cutV
  have e : HT.sIx xs.length xs.length (some (-1)) = xs.length - 1 := by
    show (if (-1 : Int) < 0 then (-1 + (xs.length : Int)).toNat else min (-1 : Int).toNat xs.length) = _
    rw [if_pos (by decide)]
    omega
  rw [HT.sIx_none, e, List.drop_zero, Nat.sub_zero]
end Sv

/-! a value that is changed no more, from here on -/
namespace Sv
open PySem PySem.Spec PyProof.Rows L2
def tFrz (t : TE) : TE := fun σ H Q => t σ H fun v H1 => ∃ d u, v = .ref d ∧ H1 d = some u ∧ Mut (some u) ∧ ∀ od, Q v (upd H1 d (.frz od u))
theorem pe_frz {X : Cx} {e : Expr} {t : TE} (h : PE X e t) : PE X e (tFrz t) := by
  refine ⟨fun pins s σ H Q I hw => ?_⟩
  refine thn (h.run pins s σ H _ I hw) fun v s1 ⟨x, H1, I1, r, d, u, ex, hd, mu, q⟩ => ?_
  obtain ⟨od, I2⟩ := I1.lock hd mu
  exact ⟨x, _, I2, r, q od⟩
end Sv

/-! zip of a tuple and a list. -/
namespace Sv
open PySem PySem.Spec PyProof.Rows L2
/-- the tuple at a and the list at b, side by side in new pairs -/
def ItzM (K : PySem.W.Frag) (a b : Addr) : It where
  go := fun i H => ∃ (xs ys : List V), SqT K H a xs ∧ SqL K H b ys ∧ i < xs.length ∧ i < ys.length
  yld := fun i H v H' => ∃ T x y, v = .ref T ∧ H T = none ∧ H' = upd H T (.tup [x, y]) ∧ (∀ xs, SqT K H a xs → xs[i]? = some x) ∧ ∀ ys, SqL K H b ys → ys[i]? = some y
  stop := fun i H => ∃ (xs ys : List V), SqT K H a xs ∧ SqL K H b ys ∧ i ≤ xs.length ∧ i ≤ ys.length ∧ (i = xs.length ∨ i = ys.length)
theorem turn_zipM {P : Program} {w : World} {K : PySem.W.Frag} {elts : List Expr} {kk : Nat} {tpos : Pos} {a b z TI TO i1 i2 : Addr} (S : ZipSep2 z TI TO i1 i2 [i1, a] [i2, b]) (na : a ≠ i1) (nb : b ≠ i2) :
    Turn P w K (.Tuple elts kk tpos) (ItzM K a b) [z, TI, TO, i1, i2] z
      (fun i g => IsZip g z TI TO .none ∧ IsTupOf2 g TI (.ref i1) (.ref i2) ∧ (∃ u v, IsTupOf2 g TO u v) ∧ g.IsTupleIter i1 a i ∧ g.IsListIter i2 b i) where
  mem := by simp
  obj := fun i g st c hc => by
    obtain ⟨gz, gI, ⟨u, v, gO⟩, ⟨p1, e1, _, d1⟩, ⟨p2, e2, _, d2⟩⟩ := st
    rcases (show c = z ∨ c = TI ∨ c = TO ∨ c = i1 ∨ c = i2 by simpa using hc) with r | r | r | r | r <;> rw [r]
    · exact ⟨_, gz, fun _ n => nomatch n⟩
    · exact ⟨_, gI, fun _ n => nomatch n⟩
    · exact ⟨_, gO, fun _ n => nomatch n⟩
    · exact ⟨p1, e1, fun _ n => by rw [d1] at n; cases n⟩
    · exact ⟨p2, e2, fun _ n => by rw [d2] at n; cases n⟩
  keep := fun i g g' st k => by
    obtain ⟨gz, gI, ⟨u, v, gO⟩, j1, j2⟩ := st
    exact ⟨k z (by simp) _ gz, k TI (by simp) _ gI, ⟨u, v, k TO (by simp) _ gO⟩, j1.at fun o n => k i1 (by simp) o n, j2.at fun o n => k i2 (by simp) o n⟩
  item := by
    intro X hP hw hK hc i pins s σ H E I hf st hg
    subst hP hw hK
    obtain ⟨gz, gI, ⟨u0, v0, gO⟩, j1, j2⟩ := st
    obtain ⟨xs, ys, qa, qb, la, lb⟩ := hg
    obtain ⟨ia, va, pa, _⟩ := I.tuple qa
    obtain ⟨ib, vb, pb, _⟩ := I.list qb
    have na1 := va.length
    have nb1 := vb.length
    have zl : z < s.heap.objs.size := Heap.lt_size gz
    have hd1 : X.A.in1.handled = none := I.ok.hd hc
    have D1 := Draws.tuple (prog := X.prog) (w := X.w) (A := X.A.in1) hd1 i1 a na ia.toArray
    have D2 := Draws.list (prog := X.prog) (w := X.w) (A := X.A.in1) hd1 i2 b nb ib.toArray
    refine wpAny_pyNext_zipD2_item S D1 D2 gz gI gO ⟨j1, pa⟩ ⟨j2, pb.isList⟩ (by rw [List.size_toArray]; omega) (by rw [List.size_toArray]; omega) fun y1 y2 g' tk h1 h2 gz' gO' st1 st2 gT gsz gk => ?_
    refine ⟨_, rfl, wpAny_letOwnedTupleGo_zip (s := { s with heap := g', toks := tk }) gz' fun g2 gz2 sb => ?_⟩
    obtain ⟨x, hx⟩ : ∃ x, xs[i]? = some x := ⟨_, List.getElem?_eq_getElem la⟩
    obtain ⟨y, hy⟩ : ∃ y, ys[i]? = some y := ⟨_, List.getElem?_eq_getElem lb⟩
    obtain ⟨w1, hw1, r1⟩ := va.get hx
    obtain ⟨w2, hw2, r2⟩ := vb.get hy
    obtain rfl : w1 = y1 := Option.some.inj (hw1.symm.trans (by simpa using h1))
    obtain rfl : w2 = y2 := Option.some.inj (hw2.symm.trans (by simpa using h2))
    have gT2 : g2.get? s.heap.objs.size = some { cls := .type "tuple", data := .seq #[w1, w2] } := (sb.2 _ (Nat.ne_of_gt zl)).trans gT
    have fresh : ObjOk X.prog X.w (upd H s.heap.objs.size (.tup [x, y])) g2 s.heap.objs.size (.tup [x, y]) := by
      refine ⟨?_, [w1, w2], .cons r1 (.cons r2 .nil), ⟨_, gT2, rfl, _, rfl⟩⟩
      show 2 ≤ sizeLine
      decide
    have J : Inv X pins σ (upd H s.heap.objs.size (.tup [x, y])) { s with heap := g2, toks := tk } := by
      refine I.turnedNew (ch := [z, TI, TO, i1, i2]) (fun c o hb n => ?_) hf (Nat.le_refl _) fresh
      have nn : c ≠ z ∧ c ≠ TI ∧ c ≠ TO ∧ c ≠ i1 ∧ c ≠ i2 := by simpa using hb
      exact (sb.2 c nn.1).trans (gk c o nn.1 nn.2.2.1 nn.2.2.2.1 nn.2.2.2.2 n)
    have zi1 := S.zi1
    have zi2 := S.zi2
    refine ⟨.ref s.heap.objs.size, _, J, rfl, ⟨_, x, y, rfl, I.hok.fresh (Nat.le_refl _), rfl, fun l hl => by rw [I.tuple_inj hl qa]; exact hx, fun l hl => ?_⟩, ⟨gz2, ?_, ⟨w1, w2, ?_⟩, ?_, ?_⟩, fun c hcm => ?_⟩
    · rw [I.list_inj hl qb]
      exact hy
    · exact (sb.2 _ S.TIz).trans (gk _ _ S.TIz S.TITO S.TIi1 S.TIi2 gI)
    · exact (sb.2 _ S.TOz).trans gO'
    · exact st1.1.at fun o n => (sb.2 _ zi1.symm).trans n
    · exact st2.1.at fun o n => (sb.2 _ zi2.symm).trans n
    · have lt : c < s.heap.objs.size := by
        rcases (show c = z ∨ c = TI ∨ c = TO ∨ c = i1 ∨ c = i2 by simpa using hcm) with r | r | r | r | r <;> rw [r]
        · exact zl
        · exact Heap.lt_size gI
        · exact Heap.lt_size gO
        · obtain ⟨_, e1, _⟩ := j1; exact Heap.lt_size e1
        · obtain ⟨_, e2, _⟩ := j2; exact Heap.lt_size e2
      rw [upd_ne (Nat.ne_of_lt lt)]
      exact (hf c hcm).1
  done := by
    intro X hP hw hK hc i pins s σ H E I hf st hg
    subst hP hw hK
    obtain ⟨gz, gI, ⟨u0, v0, gO⟩, j1, j2⟩ := st
    obtain ⟨xs, ys, qa, qb, la, lb, hend⟩ := hg
    obtain ⟨ia, va, pa, _⟩ := I.tuple qa
    obtain ⟨ib, vb, pb, _⟩ := I.list qb
    have na1 := va.length
    have nb1 := vb.length
    have hd1 : X.A.in1.handled = none := I.ok.hd hc
    have D1 := Draws.tuple (prog := X.prog) (w := X.w) (A := X.A.in1) hd1 i1 a na ia.toArray
    have D2 := Draws.list (prog := X.prog) (w := X.w) (A := X.A.in1) hd1 i2 b nb ib.toArray
    exact wpAny_pyNext_zipD2_end S D1 D2 gz gI gO ⟨j1, pa⟩ ⟨j2, pb.isList⟩ (by rw [List.size_toArray]; omega) (by rw [List.size_toArray]; omega) (by rw [List.size_toArray, List.size_toArray]; omega) fun g' tk gk =>
      ⟨rfl, I.turnedL (t' := tk) (ch := [z, TI, TO, i1, i2]) (fun c o hb n => by
        have nn : c ≠ z ∧ c ≠ TI ∧ c ≠ TO ∧ c ≠ i1 ∧ c ≠ i2 := by simpa using hb
        exact gk c o nn.1 nn.2.2.1 nn.2.2.2.1 nn.2.2.2.2 n) hf⟩
  self := fun A i s Q E st h => wpAny_pyIter_zip st.1 h
def iZipM (K : PySem.W.Frag) (ta : TA) : TI := fun σ H R => ta σ H fun vs H1 => ∃ a b xs ys, vs = [.ref a, .ref b] ∧ SqT K H1 a xs ∧ SqL K H1 b ys ∧ R (ItzM K a b) H1
theorem pi_zipM {X : Cx} {e e2 : Expr} {ta : TA} {p pos tpos : Pos} {elts : List Expr} {kk : Nat} (hg : Gl X "zip") (hm : X.mg "zip" = none) (ha : PA X [e, e2] ta)
    (hs : starEach [e, e2] X.env = (false, eval e X.env) :: starEach [e2] X.env := by rfl) (hpl : (backTo pos (starEach [e2] X.env)).any (·.1) = false := by rfl) :
    PI X (.Tuple elts kk tpos) (.Call (.Name "zip" p) [e, e2] [] pos) (iZipM X.K ta) := by
  refine ⟨fun pins s σ H R I h => ?_⟩
  refine Call_ (ld_blt I hg hm PyProof.Rows.boot_zip (PyProof.Rows.callWith_type1 (thn (ha.run pos pins s σ H _ I h) fun us s1 ⟨vs, H1, I1, r1, q1⟩ => ?_) hs hpl))
  obtain ⟨a, b, xs, ys, rfl, qa, qb, q1⟩ := q1
  obtain ⟨u1, u2, rfl, ru1, ru2⟩ : ∃ u1 u2, us = [u1, u2] ∧ RelV (.ref a) u1 ∧ RelV (.ref b) u2 := by
    cases r1 with
    | cons r rr =>
      cases rr with
      | cons r' rr =>
        cases rr
        exact ⟨_, _, rfl, r, r'⟩
  cases ru1
  cases ru2
  obtain ⟨ia, va, pa, _⟩ := I1.tuple qa
  obtain ⟨ib, vb, pb, _⟩ := I1.list qb
  have al : a < s1.heap.objs.size := by
    obtain ⟨o, ho, _⟩ := id pa
    exact Heap.lt_size ho
  have bl : b < s1.heap.objs.size := pb.lt
  refine zip_begins2 (begins_tuple a ia.toArray) (begins_list b ib.toArray) pa pb.isList fun g gz gI gO g1 g2 gsz gk => wpAny_pyIter_zip gz ?_
  have J : Inv X pins σ H1 { s1 with heap := g } := I1.kept (t' := s1.toks) gk
  have S : ZipSep2 (s1.heap.objs.size + 4) (s1.heap.objs.size + 2) (s1.heap.objs.size + 3) s1.heap.objs.size (s1.heap.objs.size + 1) [s1.heap.objs.size, a] [s1.heap.objs.size + 1, b] :=
    zip_sep2 (fun c hc => by rw [List.mem_singleton.mp hc]; exact al) (fun c hc => by rw [List.mem_singleton.mp hc]; exact bl)
  refine ⟨s1.heap.objs.size + 4, [s1.heap.objs.size + 4, s1.heap.objs.size + 2, s1.heap.objs.size + 3, s1.heap.objs.size, s1.heap.objs.size + 1], _, _, H1, rfl, J, turn_zipM S (Nat.ne_of_lt al) (Nat.ne_of_lt (Nat.lt_succ_of_lt bl)),
    ⟨gz, gI, ⟨_, _, gO⟩, ⟨_, g1, rfl, rfl⟩, ⟨_, g2, rfl, rfl⟩⟩, fun c hc => ?_, q1⟩
  have hle : s1.heap.objs.size ≤ c := by
    rcases (show c = s1.heap.objs.size + 4 ∨ c = s1.heap.objs.size + 2 ∨ c = s1.heap.objs.size + 3 ∨ c = s1.heap.objs.size ∨ c = s1.heap.objs.size + 1 by simpa using hc) with r | r | r | r | r <;> rw [r]
    · exact Nat.le_add_right _ _
    · exact Nat.le_add_right _ _
    · exact Nat.le_add_right _ _
    · exact Nat.le_refl _
    · exact Nat.le_add_right _ _
  exact I1.fpOk hle (I1.hok.fresh hle)
theorem walk_zipM {K : PySem.W.Frag} {a b : Addr} {xs ys : List V} {n : Nat} (hn : n = min xs.length ys.length) : Walk (ItzM K a b) n (fun H => SqT K H a xs ∧ SqL K H b ys) (YPair (fun i => xs[i]?) (fun i => ys[i]?)) := by
  subst hn
  refine ⟨fun i _ hi q => ⟨xs, ys, q.1, q.2, by omega, by omega⟩, fun _ q => ⟨xs, ys, q.1, q.2, by omega, by omega, by omega⟩, fun i H v H' _ q y => ?_⟩
  obtain ⟨T, x, u, h1, h2, h3, h4, h5⟩ := y
  exact ⟨T, x, u, h1, h2, h3, h4 xs q.1, h5 ys q.2⟩
end Sv

set_option maxHeartbeats 1000000
/-! zip over any number of tuples, one name as its target -/
namespace Sv
open PySem
theorem forIn_to {M : Model} {A : Around} {E : Value → Shared → Prop} {α β : Type} {f : α → β → Sem (ForInStep β)} (I : List α → β → Shared → Prop) {Q : β → Shared → Prop} (hs : ∀ x l b s, I (x :: l) b s → wpAny M A (f x b) (fun r s' => ∃ b', r = .yield b' ∧ I l b' s') E s)
    (hd : ∀ b s, I [] b s → Q b s) : ∀ (l : List α) (b : β) (s : Shared), I l b s → wpAny M A (forIn l b f) Q E s
  | [], b, s, h0 => by
    rw [List.forIn_nil]
    exact wpAny_pure (hd b s h0)
  | x :: l, b, s, h0 => by
    rw [List.forIn_cons]
    refine wpAny_bind (wpAny_mono (hs x l b s h0) (fun r s' h => ?_) fun _ _ z => z)
    obtain ⟨b', rfl, h1⟩ := h
    exact forIn_to I hs hd l b' s' h1
theorem wpAny_alive {M : Model} {A : Around} {E : Value → Shared → Prop} {s : Shared} {a : Addr} {Q : Option Obj → Shared → Prop} (h : Q (s.heap.get? a) s) : wpAny M A (loadIfAlive a) Q E s := fun _ _ _ => h
abbrev ZpO (f0 f1 : Value) (TI TO : Addr) : Obj := { cls := .type "zip", data := .fields #[f0, f1, .bool false, .ref TI, .ref TO] }
abbrev IsZp (h : Heap) (z TI TO : Addr) (f0 f1 : Value) : Prop := h.get? z = some (ZpO f0 f1 TI TO)
abbrev TpO (vs : Array Value) : Obj := { cls := .type "tuple", data := .seq vs }
abbrev IsTp (h : Heap) (T : Addr) (vs : Array Value) : Prop := h.get? T = some (TpO vs)
/-- the zip object z with its iterators' tuple TI, its own tuple TO, at turn i -/
structure ZAt (h : Heap) (z TI TO : Addr) (its ls : List Addr) (i : Nat) : Prop where
  zp : ∃ f0 f1, IsZp h z TI TO f0 f1 ∧ (f0 = .none ∨ ∃ a : Nat, f0 = rawInt a)
  ti : IsTp h TI (its.map Value.ref).toArray
  to : ∃ vs, IsTp h TO vs ∧ vs.size = its.length
  it : ∀ (j : Nat) (a l : Addr), its[j]? = some a → ls[j]? = some l → h.IsTupleIter a l i
structure ZDist (z TI TO : Addr) (its ls : List Addr) : Prop where
  nd : (z :: TI :: TO :: its).Nodup
  away : ∀ l ∈ ls, l ∉ z :: TI :: TO :: its
  len : its.length = ls.length
  ne : its ≠ []
  sm : its.length ≤ 1000
section
variable {prog : Program} {w : World} {A : Around} {E : Value → Shared → Prop} {s : Shared}
theorem sb_refl {a : Addr} {h : Heap} : Heap.SameBut a h h := ⟨rfl, fun _ _ => rfl⟩
theorem zfree_ok {z TI TO : Addr} {f0 f1 : Value} {Q : Bool → Shared → Prop} (hz : IsZp s.heap z TI TO f0 f1) (hf : f0 = .none ∨ ∃ a : Nat, f0 = rawInt a)
    (h : ∀ b h' f1', IsZp h' z TI TO f0 f1' → Heap.SameBut z s.heap h' → Q b { s with heap := h' }) : wpAny (model prog w) A (Builtin.SmallTypes.ownedTupleIsFree (.ref z)) Q E s := by
  unfold Builtin.SmallTypes.ownedTupleIsFree
  refine wpAny_bind (wpAny_field hz rfl (x := f0) rfl ?_)
  rcases hf with rfl | ⟨a, rfl⟩
  · exact wpAny_pure (h true s.heap f1 hz sb_refl)
  · show wpAny _ _ (loadIfAlive _ >>= _) _ _ _
    refine wpAny_bind (wpAny_alive ?_)
    split
    · exact wpAny_pure (h true s.heap f1 hz sb_refl)
    · refine wpAny_bind (wpAny_field hz rfl (x := f1) rfl ?_)
      split
      · refine wpAny_bind (wpAny_setField_rec hz (by simp) fun h₁ hz₁ hs₁ => ?_)
        exact wpAny_pure (h false h₁ _ hz₁ hs₁)
      · exact wpAny_pure (h false s.heap f1 hz sb_refl)
end
end Sv

set_option maxHeartbeats 1000000
namespace Sv
open PySem
section
variable {prog : Program} {w : World} {A : Around} {E : Value → Shared → Prop} {s : Shared}
theorem ZDist.itz {z TI TO : Addr} {its ls : List Addr} (D : ZDist z TI TO its ls) {j : Nat} {a : Addr} (h : its[j]? = some a) : a ≠ z ∧ a ≠ TI ∧ a ≠ TO := by
  have m := List.mem_of_getElem? h
  have n := D.nd
  simp only [List.nodup_cons, List.mem_cons, not_or] at n
  exact ⟨fun e => n.1.2.2 (e ▸ m), fun e => n.2.1.2 (e ▸ m), fun e => n.2.2.1 (e ▸ m)⟩
theorem ZDist.zT {z TI TO : Addr} {its ls : List Addr} (D : ZDist z TI TO its ls) : TI ≠ z ∧ TO ≠ z ∧ TI ≠ TO := by
  have n := D.nd
  simp only [List.nodup_cons, List.mem_cons, not_or] at n
  exact ⟨fun e => n.1.1 e.symm, fun e => n.1.2.1 e.symm, n.2.1.1⟩
theorem ZDist.inj {z TI TO : Addr} {its ls : List Addr} (D : ZDist z TI TO its ls) {i j : Nat} {a : Addr} (h : its[i]? = some a) (g : its[j]? = some a) : i = j := by
  have n := D.nd
  simp only [List.nodup_cons] at n
  have n3 := n.2.2.2
  have hi := (List.getElem?_eq_some_iff.mp h).1
  exact (List.getElem?_inj hi n3).mp (h.trans g.symm)
/-- the loop that fills z's own tuple, k done -/
structure ZFill (h h' : Heap) (z TI TO : Addr) (its ls : List Addr) (us : List Value) (i k : Nat) : Prop where
  zp : ∃ f1, IsZp h' z TI TO .ellipsis f1
  ti : IsTp h' TI (its.map Value.ref).toArray
  to : ∃ vs, IsTp h' TO vs ∧ vs.size = its.length ∧ ∀ j, j < k → vs[j]? = us[j]?
  it : ∀ (j : Nat) (a l : Addr), its[j]? = some a → ls[j]? = some l → h'.IsTupleIter a l (if j < k then i + 1 else i)
  sz : h'.objs.size = h.objs.size
  kp : ∀ c o, c ∉ z :: TO :: its → h.get? c = some o → h'.get? c = some o
/-- the loop that draws the items beside it, k done -/
structure ZDraw (h h' : Heap) (z TI TO : Addr) (its ls : List Addr) (us : List Value) (i k : Nat) : Prop where
  zp : ∃ f0 f1, IsZp h' z TI TO f0 f1 ∧ (f0 = .none ∨ ∃ a : Nat, f0 = rawInt a)
  ti : IsTp h' TI (its.map Value.ref).toArray
  to : ∃ vs, IsTp h' TO vs ∧ vs.size = its.length
  it : ∀ (j : Nat) (a l : Addr), its[j]? = some a → ls[j]? = some l → h'.IsTupleIter a l (if j < k then i + 1 else i)
  sz : h'.objs.size = h.objs.size
  kp : ∀ c o, c ∉ z :: TO :: its → h.get? c = some o → h'.get? c = some o
theorem drop_cons {α : Type} {l : List α} {k : Nat} {x : α} {r : List α} (h : x :: r = l.drop k) : l[k]? = some x ∧ r = l.drop (k + 1) := by
  have hk : k < l.length := by
    rcases Nat.lt_or_ge k l.length with h1 | h1
    · exact h1
    · rw [List.drop_eq_nil_of_le h1] at h
      cases h
  rw [List.drop_eq_getElem_cons hk] at h
  cases h
  exact ⟨List.getElem?_eq_getElem hk, rfl⟩
theorem zx_at {its : List Addr} {k k' : Nat} {x : Value} (h : (its.map Value.ref).toArray.toList.zipIdx[k]? = some (x, k')) : ∃ a, its[k']? = some a ∧ x = .ref a ∧ k = k' := by
  rw [List.getElem?_zipIdx] at h
  simp only [List.toList_toArray, List.getElem?_map, Nat.zero_add, Option.map_map, Option.map_eq_some_iff, Function.comp, Prod.mk.injEq] at h
  obtain ⟨a, h1, h2, h3⟩ := h
  subst h3
  exact ⟨a, h1, h2.symm, rfl⟩
theorem zpn_item {z TI TO : Addr} {its ls : List Addr} {i : Nat} {us : List Value} {Q : Value → Shared → Prop} (D : ZDist z TI TO its ls) (st : ZAt s.heap z TI TO its ls i)
    (hu : us.length = its.length) (hx : ∀ (j : Nat) (l : Addr) (u : Value), ls[j]? = some l → us[j]? = some u → ∃ xs, s.heap.IsTuple l xs ∧ xs[i]? = some u)
    (hQ : ∀ h', ZAt h' z TI TO its ls (i + 1) → IsTp h' s.heap.objs.size us.toArray → (∀ c o, c ∉ z :: TO :: its → s.heap.get? c = some o → h'.get? c = some o) → Q (.ref s.heap.objs.size) { s with heap := h' }) :
    wpAny (model prog w) A (Builtin.«zip.__next__» ⟨[.ref z], []⟩) (fun fin s' => ∃ v, fin = .done (.ret v) ∧ Q v s') E s := by
  obtain ⟨⟨f0, f1, hz0, hf⟩, hTI, ⟨vs0, hTO, hvs⟩, hit⟩ := st
  obtain ⟨tz1, tz2, tz3⟩ := D.zT
  have hfree : ∀ c o, s.heap.get? c = some o → c ≠ s.heap.objs.size := fun c o e => Nat.ne_of_lt (Heap.lt_size e)
  show wpAny _ _ (field (.ref z) 2 >>= _) _ _ _
  refine wpAny_bind (wpAny_field hz0 rfl (x := .bool false) rfl ?_)
  show wpAny _ _ (field (.ref z) 3 >>= _) _ _ _
  refine wpAny_bind (wpAny_field hz0 rfl (x := .ref TI) rfl ?_)
  refine wpAny_bind (wpAny_seqItems hTI rfl ?_)
  obtain ⟨i0, r0, hi0⟩ : ∃ i0 r0, its = i0 :: r0 := by
    cases its with
    | nil => exact absurd rfl D.ne
    | cons a r => exact ⟨a, r, rfl⟩
  dsimp only
  rw [if_neg (show ¬ ((its.map Value.ref).toArray.isEmpty = true) by rw [hi0]; simp)]
  refine wpAny_bind (zfree_ok hz0 hf fun b h0 f1' hz1 hs0 => ?_)
  have hTI1 : IsTp h0 TI (its.map Value.ref).toArray := hs0.extBut _ _ tz1 hTI
  have hTO1 : IsTp h0 TO vs0 := hs0.extBut _ _ tz2 hTO
  have hit1 : ∀ (j : Nat) (a l : Addr), its[j]? = some a → ls[j]? = some l → h0.IsTupleIter a l i := fun j a l e1 e2 => (hit j a l e1 e2).extBut hs0.extBut (D.itz e1).1
  have kp0 : ∀ c o, c ∉ z :: TO :: its → s.heap.get? c = some o → h0.get? c = some o := fun c o hc e => hs0.extBut _ _ (fun q => hc (by simp [q])) e
  have hx0 : ∀ (h' : Heap), (∀ c o, c ∉ z :: TO :: its → s.heap.get? c = some o → h'.get? c = some o) → ∀ (j : Nat) (l : Addr) (u : Value), ls[j]? = some l → us[j]? = some u → ∃ xs, h'.IsTuple l xs ∧ xs[i]? = some u := fun h' kp j l u e1 e2 => by
    obtain ⟨xs, ⟨o, ho, r⟩, hi⟩ := hx j l u e1 e2
    have hl := D.away l (List.mem_of_getElem? e1)
    exact ⟨xs, ⟨o, kp _ _ (fun q => hl (by rcases List.mem_cons.mp q with q | q; · simp [q]
                                           rcases List.mem_cons.mp q with q | q; · simp [q]
                                           · simp [q])) ho, r⟩, hi⟩
  have tis : ∀ c, c = TI → c ∉ z :: TO :: its := fun c e q => by
    subst e
    rcases List.mem_cons.mp q with q | q
    · exact tz1 q
    rcases List.mem_cons.mp q with q | q
    · exact tz3 q
    · have n := D.nd
      simp only [List.nodup_cons, List.mem_cons, not_or] at n
      exact n.2.1.2 q
  cases b with
  | true =>
    simp only [if_true]
    refine wpAny_bind (wpAny_rule ?_)
    refine wpAny_bind (wpAny_field hz1 rfl (x := .ref TO) rfl ?_)
    refine wpAny_bind (wpAny_setField_rec hz1 (by simp) fun h₁ hz₁ hs₁ => ?_)
    replace hz₁ : IsZp h₁ z TI TO .ellipsis f1' := hz₁
    have F0 : ZFill s.heap h₁ z TI TO its ls us i 0 := {
      zp := ⟨f1', hz₁⟩
      ti := hs₁.extBut _ _ tz1 hTI1
      to := ⟨vs0, hs₁.extBut _ _ tz2 hTO1, hvs, fun j hj => absurd hj (Nat.not_lt_zero _)⟩
      it := fun j a l e1 e2 => by
        rw [if_neg (Nat.not_lt_zero _)]
        exact (hit1 j a l e1 e2).extBut hs₁.extBut (D.itz e1).1
      sz := hs₁.1.trans hs0.1
      kp := fun c o hc e => hs₁.extBut _ _ (fun q => hc (by simp [q])) (kp0 c o hc e) }
    refine wpAny_bind (forIn_to (I := fun r b s' => b = ⟨none, ⟨⟩⟩ ∧ ∃ k h', s' = { s with heap := h' } ∧ r = ((its.map Value.ref).toArray.toList.zipIdx).drop k ∧ k ≤ its.length ∧ ZFill s.heap h' z TI TO its ls us i k) ?_ ?_ _ _ _ ⟨rfl, 0, h₁, rfl, rfl, Nat.zero_le _, F0⟩)
    · rintro ⟨x, k'⟩ l b s' ⟨rfl, k, h', rfl, hr, hk, F⟩
      obtain ⟨e1, e2⟩ := drop_cons hr
      obtain ⟨a, ha, rfl, rfl⟩ := zx_at e1
      have hkl := (List.getElem?_eq_some_iff.mp ha).1
      obtain ⟨l1, hl1⟩ : ∃ l1, ls[k]? = some l1 := ⟨_, List.getElem?_eq_getElem (by rw [← D.len]; exact hkl)⟩
      obtain ⟨u1, hu1⟩ : ∃ u1, us[k]? = some u1 := ⟨_, List.getElem?_eq_getElem (by rw [hu]; exact hkl)⟩
      obtain ⟨xs, hT, hxi⟩ := hx0 h' F.kp k l1 u1 hl1 hu1
      have hI := F.it k a l1 ha hl1
      rw [if_neg (Nat.lt_irrefl _)] at hI
      obtain ⟨az, aTI, aTO⟩ := D.itz ha
      obtain ⟨f1'', hz2⟩ := F.zp
      obtain ⟨vs, hv, hvz, hvj⟩ := F.to
      refine wpAny_bind (wpAny_onRaise ?_)
      show wpAny _ _ (Builtin.SmallTypes.nextOf (.ref a) >>= _) _ _ _
      refine wpAny_bind (RZ.nextOf_tuple_item hI hT hxi fun h₂ h1₂ hs₂ => wpAny_pure ?_)
      have hv2 : IsTp h₂ TO vs := hs₂.extBut _ _ (Ne.symm aTO) hv
      refine wpAny_bind (wpAny_seqItems hv2 rfl ?_)
      refine wpAny_bind (wpAny_updateSeq hv2 rfl ?_ (by rw [hvz, sizeLine_eq]; have := D.sm; omega) (by rw [Array.size_setIfInBounds, hvz, sizeLine_eq]; have := D.sm; omega))
      have hs₃ : Heap.SameBut TO h₂ (h₂.update TO (Obj.mapSeq fun y => y.setIfInBounds k u1)) := Heap.SameBut.update ..
      have hv3 : IsTp (h₂.update TO (Obj.mapSeq fun y => y.setIfInBounds k u1)) TO (vs.setIfInBounds k u1) := by
        have z := Heap.get?_update_self (Obj.mapSeq fun y => y.setIfInBounds k u1) hv2 rfl
        exact z.trans (by simp [Obj.mapSeq])
      generalize h₂.update TO (Obj.mapSeq fun y => y.setIfInBounds k u1) = h₃ at hs₃ hv3 ⊢
      refine wpAny_bind (wpAny_letGo (wpAny_pure ⟨_, rfl, rfl, k + 1, h₃, rfl, e2, hkl, ?_⟩))
      exact {
        zp := ⟨f1'', hs₃.extBut _ _ (Ne.symm tz2) (hs₂.extBut _ _ (Ne.symm az) hz2)⟩
        ti := hs₃.extBut _ _ tz3 (hs₂.extBut _ _ (Ne.symm aTI) F.ti)
        to := ⟨_, hv3, by rw [Array.size_setIfInBounds, hvz], fun j hj => by
          rw [Array.getElem?_setIfInBounds]
          by_cases hjk : k = j
          · subst hjk
            rw [if_pos rfl, if_pos (by rw [hvz]; exact hkl), hu1]
          · rw [if_neg hjk]
            exact hvj j (by omega)⟩
        it := fun j b l2 g1 g2 => by
          by_cases hjk : j = k
          · subst hjk
            rw [ha] at g1
            rw [hl1] at g2
            cases g1
            cases g2
            rw [if_pos (Nat.lt_succ_self _)]
            exact h1₂.extBut hs₃.extBut aTO
          · have g3 := F.it j b l2 g1 g2
            have g4 : (if j < k then i + 1 else i) = (if j < k + 1 then i + 1 else i) := by
              by_cases g5 : j < k
              · rw [if_pos g5, if_pos (by omega)]
              · rw [if_neg g5, if_neg (by omega)]
            rw [g4] at g3
            have ba : b ≠ a := fun q => hjk (D.inj g1 (q ▸ ha))
            exact (g3.extBut hs₂.extBut ba).extBut hs₃.extBut (D.itz g1).2.2
        sz := (hs₃.1.trans hs₂.1).trans F.sz
        kp := fun c o hc e => hs₃.extBut _ _ (fun q => hc (by simp [q])) (hs₂.extBut _ _ (fun q => hc (by rw [q]; simp [List.mem_of_getElem? ha])) (F.kp c o hc e)) }
    · rintro b s' ⟨rfl, k, h', rfl, hr, hk, F⟩
      have hkn : k = its.length := by
        have := congrArg List.length hr
        simp at this
        omega
      subst hkn
      obtain ⟨f1'', hz2⟩ := F.zp
      obtain ⟨vs, hv, hvz, hvj⟩ := F.to
      have evs : vs.toList = us := by
        apply List.ext_getElem?
        intro j
        rw [Array.getElem?_toList]
        by_cases hj : j < its.length
        · exact hvj j hj
        · rw [Array.getElem?_eq_none (by omega), List.getElem?_eq_none (by omega)]
      dsimp only
      refine wpAny_bind (wpAny_seqItems hv rfl ?_)
      refine wpAny_bind (wpAny_newTuple ?_ (by rw [Array.length_toList, hvz, sizeLine_eq]; have := D.sm; omega))
      show wpAny _ _ (Builtin.SmallTypes.ownedTupleHandOut (.ref z) (.ref h'.objs.size) >>= _) _ _ _
      refine wpAny_bind ?_
      unfold Builtin.SmallTypes.ownedTupleHandOut
      have hz₆ : IsZp (h'.push { cls := .type "tuple", data := .seq vs.toList.toArray }) z TI TO .ellipsis f1'' := Heap.get?_push_of_some _ hz2
      refine wpAny_bind (wpAny_setField_rec hz₆ (by simp) fun h₇ hz₇ hs₇ => ?_)
      replace hz₇ : IsZp h₇ z TI TO (rawInt h'.objs.size) f1'' := hz₇
      refine wpAny_setField_rec hz₇ (by simp) fun h₈ hz₈ hs₈ => ?_
      replace hz₈ : IsZp h₈ z TI TO (rawInt h'.objs.size) (.bool false) := hz₈
      have up : ∀ c o, c ≠ z → h'.get? c = some o → h₈.get? c = some o := fun c o c1 e => hs₈.extBut _ _ c1 (hs₇.extBut _ _ c1 (Heap.get?_push_of_some _ e))
      have hzlt : z < h'.objs.size := Heap.lt_size hz2
      have hT8 : IsTp h₈ h'.objs.size us.toArray := by
        rw [← evs]
        exact hs₈.extBut _ _ (Nat.ne_of_gt hzlt) (hs₇.extBut _ _ (Nat.ne_of_gt hzlt) (Heap.get?_push_size _ rfl))
      refine wpAny_pure ⟨_, rfl, ?_⟩
      show Q (.ref h'.objs.size) _
      rw [F.sz]
      rw [F.sz] at hT8
      refine hQ h₈ ⟨⟨_, _, hz₈, .inr ⟨_, rfl⟩⟩, up _ _ tz1 F.ti, ⟨vs, up _ _ tz2 hv, hvz⟩, fun j b l2 g1 g2 => ?_⟩ hT8 fun c o hc e => up c o (fun q => hc (by simp [q])) (F.kp c o hc e)
      have g3 := F.it j b l2 g1 g2
      rw [if_pos (List.getElem?_eq_some_iff.mp g1).1] at g3
      exact g3.at fun o e => up b o (D.itz g1).1 e
  | false =>
    simp only [Bool.false_eq_true, if_false]
    have F0 : ZDraw s.heap h0 z TI TO its ls us i 0 := {
      zp := ⟨f0, f1', hz1, hf⟩
      ti := hTI1
      to := ⟨vs0, hTO1, hvs⟩
      it := fun j a l e1 e2 => by
        rw [if_neg (Nat.not_lt_zero _)]
        exact hit1 j a l e1 e2
      sz := hs0.1
      kp := kp0 }
    rw [← Array.forIn_toList]
    refine wpAny_bind (forIn_to (I := fun r b s' => ∃ k h', b = (none, (us.take k).toArray) ∧ s' = { s with heap := h' } ∧ r = ((its.map Value.ref).toArray.toList).drop k ∧ k ≤ its.length ∧ ZDraw s.heap h' z TI TO its ls us i k) ?_ ?_ _ _ _ ⟨0, h0, by rw [List.take_zero], rfl, rfl, Nat.zero_le _, F0⟩)
    · rintro x l b s' ⟨k, h', rfl, rfl, hr, hk, F⟩
      obtain ⟨e1, e2⟩ := drop_cons hr
      obtain ⟨a, ha, rfl⟩ : ∃ a, its[k]? = some a ∧ x = .ref a := by
        simp only [List.toList_toArray, List.getElem?_map, Option.map_eq_some_iff] at e1
        obtain ⟨a, h1, h2⟩ := e1
        exact ⟨a, h1, h2.symm⟩
      have hkl := (List.getElem?_eq_some_iff.mp ha).1
      obtain ⟨l1, hl1⟩ : ∃ l1, ls[k]? = some l1 := ⟨_, List.getElem?_eq_getElem (by rw [← D.len]; exact hkl)⟩
      obtain ⟨u1, hu1⟩ : ∃ u1, us[k]? = some u1 := ⟨_, List.getElem?_eq_getElem (by rw [hu]; exact hkl)⟩
      obtain ⟨xs, hT, hxi⟩ := hx0 h' F.kp k l1 u1 hl1 hu1
      have hI := F.it k a l1 ha hl1
      rw [if_neg (Nat.lt_irrefl _)] at hI
      obtain ⟨az, aTI, aTO⟩ := D.itz ha
      obtain ⟨g0, g1, hz2, hg⟩ := F.zp
      obtain ⟨vs, hv, hvz⟩ := F.to
      refine wpAny_bind (wpAny_holding ?_)
      show wpAny _ _ (Builtin.SmallTypes.nextOf (.ref a) >>= _) _ _ _
      refine wpAny_bind (RZ.nextOf_tuple_item hI hT hxi fun h₂ h1₂ hs₂ => wpAny_pure ?_)
      refine wpAny_pure ⟨_, rfl, k + 1, h₂, ?_, rfl, e2, hkl, ?_⟩
      · dsimp only
        rw [List.take_add_one, hu1, List.push_toArray]
        rfl
      exact {
        zp := ⟨g0, g1, hs₂.extBut _ _ (Ne.symm az) hz2, hg⟩
        ti := hs₂.extBut _ _ (Ne.symm aTI) F.ti
        to := ⟨_, hs₂.extBut _ _ (Ne.symm aTO) hv, hvz⟩
        it := fun j b l2 g1 g2 => by
          by_cases hjk : j = k
          · subst hjk
            rw [ha] at g1
            rw [hl1] at g2
            cases g1
            cases g2
            rw [if_pos (Nat.lt_succ_self _)]
            exact h1₂
          · have g3 := F.it j b l2 g1 g2
            have g4 : (if j < k then i + 1 else i) = (if j < k + 1 then i + 1 else i) := by
              by_cases g5 : j < k
              · rw [if_pos g5, if_pos (by omega)]
              · rw [if_neg g5, if_neg (by omega)]
            rw [g4] at g3
            have ba : b ≠ a := fun q => hjk (D.inj g1 (q ▸ ha))
            exact g3.extBut hs₂.extBut ba
        sz := hs₂.1.trans F.sz
        kp := fun c o hc e => hs₂.extBut _ _ (fun q => hc (by rw [q]; simp [List.mem_of_getElem? ha])) (F.kp c o hc e) }
    · rintro b s' ⟨k, h', rfl, rfl, hr, hk, F⟩
      have hkn : k = its.length := by
        have := congrArg List.length hr
        simp at this
        omega
      subst hkn
      obtain ⟨g0, g1, hz2, hg⟩ := F.zp
      obtain ⟨vs, hv, hvz⟩ := F.to
      have eus : us.take its.length = us := by rw [← hu, List.take_length]
      dsimp only
      refine wpAny_bind (wpAny_newTuple ?_ (by rw [eus, hu, sizeLine_eq]; have := D.sm; omega))
      have hzlt : z < h'.objs.size := Heap.lt_size hz2
      have up : ∀ c o, h'.get? c = some o → (h'.push { cls := .type "tuple", data := .seq (us.take its.length).toArray.toList.toArray }).get? c = some o := fun c o e => Heap.get?_push_of_some _ e
      have hT8 : IsTp (h'.push { cls := .type "tuple", data := .seq (us.take its.length).toArray.toList.toArray }) h'.objs.size us.toArray := by
        rw [eus]
        exact Heap.get?_push_size _ rfl
      refine wpAny_pure ⟨_, rfl, ?_⟩
      show Q (.ref h'.objs.size) _
      rw [F.sz]
      rw [F.sz] at hT8
      refine hQ _ ⟨⟨_, _, up _ _ hz2, hg⟩, up _ _ F.ti, ⟨vs, up _ _ hv, hvz⟩, fun j b l2 g1 g2 => ?_⟩ hT8 fun c o hc e => up c o (F.kp c o hc e)
      have g3 := F.it j b l2 g1 g2
      rw [if_pos (List.getElem?_eq_some_iff.mp g1).1] at g3
      exact g3.at fun o e => up b o e
end
end Sv

set_option maxHeartbeats 1000000
/-! least and greatest of a tuple of ints -/
namespace Sv
open PySem PySem.Spec PyProof.Rows L2
section
variable {prog : Program} {w : World} {A : Around} {E : Value → Shared → Prop} {s : Shared} {l : Addr} {its : List Value} {ns : List Int}
theorem iter_tup {xs : Array Value} {Q : Value → Shared → Prop} (hl : s.heap.IsTuple l xs)
    (h : ∀ s2 : Shared, s2 = { s with heap := s.heap.push { cls := .type "tuple_iterator", data := .fields #[.ref l, .int 0 0] } } → (s2.heap.IsTupleIter s.heap.objs.size l 0 ∧ s2.heap.IsTuple l xs) → (∀ b ∈ [s.heap.objs.size, l], b < s2.heap.objs.size) → l ≠ s.heap.objs.size → Q (.ref s.heap.objs.size) s2) :
    wpAny (model prog w) A (pyIter (.ref l)) Q E s := by
  have hlt : l < s.heap.objs.size := by
    obtain ⟨_, e, _⟩ := hl
    exact Heap.lt_size e
  have hl' := hl
  obtain ⟨o, ho, r⟩ := hl'
  refine wpAny_pyIter_tuple hl (h _ rfl ⟨⟨_, Heap.get?_push_size _ rfl, rfl, rfl⟩, ⟨o, Heap.get?_push_of_some _ ho, r⟩⟩ (fun b hb => ?_) (Nat.ne_of_lt hlt))
  show b < (s.heap.push _).objs.size
  rw [Heap.size_push]
  simp only [List.mem_cons, List.not_mem_nil, or_false] at hb
  rcases hb with rfl | rfl
  · exact Nat.lt_succ_self _
  · exact Nat.lt_succ_of_lt hlt
theorem old_tup {o0 : Obj} {h' : Heap} (hk : ∀ b o, b ∉ [s.heap.objs.size] → (s.heap.push o0).get? b = some o → h'.get? b = some o) : ∀ b o, s.heap.get? b = some o → h'.get? b = some o := fun b o e =>
  hk b o (fun hm => absurd (List.mem_singleton.mp hm ▸ Heap.lt_size e) (Nat.lt_irrefl _)) (Heap.get?_push_of_some _ e)
theorem ints_arr (hi : IntsAre its ns) : ∃ xs : Array (Int × Tok), its.toArray = intItems xs ∧ xs.size = ns.length ∧ ∀ i, i < ns.length → ns[i]? = some (numAt xs i) := by
  obtain ⟨xs, e⟩ := hi.allInts.items
  have hn : numsOf (intItems xs).toList = ns := by rw [← e]; exact hi.numsOf
  rw [nums_intItems] at hn
  subst hn
  refine ⟨xs, e, by rw [List.length_map, Array.length_toList], fun i hi => ?_⟩
  rw [List.length_map, Array.length_toList] at hi
  rw [List.getElem?_map, Array.getElem?_toList]
  unfold numAt
  rw [Array.getElem?_eq_getElem hi]
  rfl
theorem max_rawT (hh : A.handled = none) (hl : s.heap.IsTuple l its.toArray) (hi : IntsAre its ns) (hne : 0 < ns.length) {Q : Value → Shared → Prop}
    (h : ∀ h' tk M t', (∀ b o, s.heap.get? b = some o → h'.get? b = some o) → M ∈ ns → (∀ a, a ∈ ns → a ≤ M) → Q (.int M t') { s with heap := h', toks := tk }) : wpAny (model prog w) A (call (.builtin "max") [.ref l]) Q E s := by
  obtain ⟨xs, e, hsz, hat⟩ := ints_arr hi
  rw [e] at hl
  refine call_max_walk (iter_tup hl fun s₂ e st hfp hlI => ?_)
  subst e
  refine ⟨_, _, _, _, _, _, _, rfl, Walks.tuple (A := A.in1) hh _ l hlI (intItems xs), st, hfp, by simpa [intItems, hsz] using hne, CmpOf.ints_gt (numAt xs) (fun _ _ => intItems_at), fun v h' tk hP hk => ?_⟩
  obtain ⟨t, rfl⟩ := intItems_at hP
  obtain ⟨h1, h2⟩ := argBest_gt (numAt xs) ((intItems xs).size - 1)
  have hs2 : (intItems xs).size = ns.length := by simp [intItems, hsz]
  rw [hs2] at h1 h2 ⊢
  refine h h' tk _ t (old_tup hk) (List.mem_of_getElem? (hat _ (by omega))) fun a ha => ?_
  obtain ⟨j, hj⟩ := List.getElem?_of_mem ha
  have hjl := (List.getElem?_eq_some_iff.mp hj).1
  obtain rfl : numAt xs j = a := Option.some.inj ((hat j hjl).symm.trans hj)
  exact h2 j (by omega)
theorem min_rawT (hh : A.handled = none) (hl : s.heap.IsTuple l its.toArray) (hi : IntsAre its ns) (hne : 0 < ns.length) {Q : Value → Shared → Prop}
    (h : ∀ h' tk M t', (∀ b o, s.heap.get? b = some o → h'.get? b = some o) → M ∈ ns → (∀ a, a ∈ ns → M ≤ a) → Q (.int M t') { s with heap := h', toks := tk }) : wpAny (model prog w) A (call (.builtin "min") [.ref l]) Q E s := by
  obtain ⟨xs, e, hsz, hat⟩ := ints_arr hi
  rw [e] at hl
  refine call_min_walk (iter_tup hl fun s₂ e st hfp hlI => ?_)
  subst e
  refine ⟨_, _, _, _, _, _, _, rfl, Walks.tuple (A := A.in1) hh _ l hlI (intItems xs), st, hfp, by simpa [intItems, hsz] using hne, CmpOf.ints_lt (numAt xs) (fun _ _ => intItems_at), fun v h' tk hP hk => ?_⟩
  obtain ⟨t, rfl⟩ := intItems_at hP
  obtain ⟨h1, h2⟩ := argBest_lt (numAt xs) ((intItems xs).size - 1)
  have hs2 : (intItems xs).size = ns.length := by simp [intItems, hsz]
  rw [hs2] at h1 h2 ⊢
  refine h h' tk _ t (old_tup hk) (List.mem_of_getElem? (hat _ (by omega))) fun a ha => ?_
  obtain ⟨j, hj⟩ := List.getElem?_of_mem ha
  have hjl := (List.getElem?_eq_some_iff.mp hj).1
  obtain rfl : numAt xs j = a := Option.some.inj ((hat j hjl).symm.trans hj)
  exact h2 j (by omega)
end
section
variable {X : Cx}
def rMaxT (K : PySem.W.Frag) : List V → Hp → VK → Prop := fun vs H Q => ∃ (a : Addr) (ns : List Int), vs = [V.ref a] ∧ SqT K H a (ns.map V.int) ∧ 0 < ns.length ∧ ∀ m, m ∈ ns → (∀ y, y ∈ ns → y ≤ m) → Q (.int m) H
def rMinT (K : PySem.W.Frag) : List V → Hp → VK → Prop := fun vs H Q => ∃ (a : Addr) (ns : List Int), vs = [V.ref a] ∧ SqT K H a (ns.map V.int) ∧ 0 < ns.length ∧ ∀ m, m ∈ ns → (∀ y, y ∈ ns → m ≤ y) → Q (.int m) H
theorem cr_maxT (hc : X.calm = true) : CallR X (.builtin "max") (rMaxT X.K) := by
  intro pins s σ H vs us Q I r h
  obtain ⟨a, ns, rfl, hs, hne, q⟩ := h
  obtain ⟨its, rv, hl, _⟩ := I.tuple hs
  rw [Vals.ref1 r]
  exact max_rawT (I.ok.hd hc) hl rv.ints hne fun h' tk m t' hk h1 h2 => ⟨.int _, H, I.kept hk, ⟨_, rfl⟩, q m h1 h2⟩
theorem cr_minT (hc : X.calm = true) : CallR X (.builtin "min") (rMinT X.K) := by
  intro pins s σ H vs us Q I r h
  obtain ⟨a, ns, rfl, hs, hne, q⟩ := h
  obtain ⟨its, rv, hl, _⟩ := I.tuple hs
  rw [Vals.ref1 r]
  exact min_rawT (I.ok.hd hc) hl rv.ints hne fun h' tk m t' hk h1 h2 => ⟨.int _, H, I.kept hk, ⟨_, rfl⟩, q m h1 h2⟩
end
end Sv

set_option maxHeartbeats 1000000
namespace Sv
open PySem
section
variable {prog : Program} {w : World} {A : Around} {E : Value → Shared → Prop} {s : Shared}
/-- the first of the tuples is at its end -/
theorem zpn_end {z TI TO : Addr} {its ls : List Addr} {i : Nat} {l0 : Addr} {xs : Array Value} {Q : PySem.Fin → Shared → Prop} (hh : A.handled = none) (D : ZDist z TI TO its ls) (st : ZAt s.heap z TI TO its ls i)
    (hl0 : ls[0]? = some l0) (hT : s.heap.IsTuple l0 xs) (hx : xs[i]? = none)
    (hE : ∀ h' e, (∀ c o, c ∉ z :: TO :: its → s.heap.get? c = some o → h'.get? c = some o) → (∃ o, h'.get? e = some o ∧ o.cls = .type "StopIteration") → E (.ref e) { s with heap := h' }) :
    wpAny (model prog w) A (Builtin.«zip.__next__» ⟨[.ref z], []⟩) Q E s := by
  obtain ⟨⟨f0, f1, hz0, hf⟩, hTI, ⟨vs0, hTO, hvs⟩, hit⟩ := st
  obtain ⟨tz1, tz2, tz3⟩ := D.zT
  show wpAny _ _ (field (.ref z) 2 >>= _) _ _ _
  refine wpAny_bind (wpAny_field hz0 rfl (x := .bool false) rfl ?_)
  show wpAny _ _ (field (.ref z) 3 >>= _) _ _ _
  refine wpAny_bind (wpAny_field hz0 rfl (x := .ref TI) rfl ?_)
  refine wpAny_bind (wpAny_seqItems hTI rfl ?_)
  obtain ⟨i0, r0, hi0⟩ : ∃ i0 r0, its = i0 :: r0 := by
    cases its with
    | nil => exact absurd rfl D.ne
    | cons a r => exact ⟨a, r, rfl⟩
  dsimp only
  rw [if_neg (show ¬ ((its.map Value.ref).toArray.isEmpty = true) by rw [hi0]; simp)]
  refine wpAny_bind (zfree_ok hz0 hf fun b h0 f1' hz1 hs0 => ?_)
  have ha : its[0]? = some i0 := by rw [hi0]; rfl
  obtain ⟨az, aTI, aTO⟩ := D.itz ha
  have hI0 : h0.IsTupleIter i0 l0 i := (hit 0 i0 l0 ha hl0).extBut hs0.extBut az
  have lz : l0 ≠ z := fun q => D.away l0 (List.mem_of_getElem? hl0) (by simp [q])
  have hT0 : h0.IsTuple l0 xs := by
    obtain ⟨o, ho, r⟩ := hT
    exact ⟨o, hs0.extBut _ _ lz ho, r⟩
  cases b with
  | true =>
    simp only [if_true]
    refine wpAny_bind (wpAny_rule ?_)
    refine wpAny_bind (wpAny_field hz1 rfl (x := .ref TO) rfl ?_)
    refine wpAny_bind (wpAny_setField_rec hz1 (by simp) fun h₁ hz₁ hs₁ => ?_)
    replace hz₁ : IsZp h₁ z TI TO .ellipsis f1' := hz₁
    refine wpAny_bind ?_
    rw [hi0]
    simp only [List.map_cons, List.zipIdx_cons, List.forIn_cons]
    refine wpAny_bind (wpAny_bind (wpAny_onRaise ?_))
    show wpAny _ _ (Builtin.SmallTypes.nextOf (.ref i0) >>= _) _ _ _
    have hT1 : h₁.IsTuple l0 xs := by
      obtain ⟨o, ho, r⟩ := hT0
      exact ⟨o, hs₁.extBut _ _ lz ho, r⟩
    refine wpAny_bind (RZ.nextOf_tuple_end hh (hI0.extBut hs₁.extBut az) hT1 hx fun h₂ e hs₂ he => ?_)
    obtain ⟨oe, hoe, hce⟩ := he
    have hz₂ : IsZp h₂ z TI TO .ellipsis f1' := hs₂ _ _ (Ne.symm az) hz₁
    have hez : e ≠ z := fun x => by subst x; rw [hz₂] at hoe; cases hoe; simp at hce
    refine wpAny_setField_rec hz₂ (by simp) fun h₃ _ hs₃ => hE h₃ e (fun c o hc x => hs₃.extBut _ _ (fun q => hc (by simp [q])) (hs₂ _ _ (fun q => hc (by rw [q]; simp [hi0])) (hs₁.extBut _ _ (fun q => hc (by simp [q])) (hs0.extBut _ _ (fun q => hc (by simp [q])) x)))) ⟨oe, hs₃.extBut _ _ hez hoe, hce⟩
  | false =>
    simp only [Bool.false_eq_true, if_false]
    rw [← Array.forIn_toList]
    refine wpAny_bind ?_
    rw [hi0]
    simp only [List.map_cons, List.forIn_cons]
    refine wpAny_bind (wpAny_bind (wpAny_holding ?_))
    show wpAny _ _ (Builtin.SmallTypes.nextOf (.ref i0) >>= _) _ _ _
    refine wpAny_bind (RZ.nextOf_tuple_end hh hI0 hT0 hx fun h₂ e hs₂ he => ?_)
    exact hE h₂ e (fun c o hc x => hs₂ _ _ (fun q => hc (by rw [q]; simp [hi0])) (hs0.extBut _ _ (fun q => hc (by simp [q])) x)) he
theorem pyNext_zpn_item {z TI TO : Addr} {its ls : List Addr} {i : Nat} {us : List Value} {Q : Option Value → Shared → Prop} (D : ZDist z TI TO its ls) (st : ZAt s.heap z TI TO its ls i)
    (hu : us.length = its.length) (hx : ∀ (j : Nat) (l : Addr) (u : Value), ls[j]? = some l → us[j]? = some u → ∃ xs, s.heap.IsTuple l xs ∧ xs[i]? = some u)
    (hQ : ∀ h', ZAt h' z TI TO its ls (i + 1) → IsTp h' s.heap.objs.size us.toArray → (∀ c o, c ∉ z :: TO :: its → s.heap.get? c = some o → h'.get? c = some o) → Q (some (.ref s.heap.objs.size)) { s with heap := h' }) :
    wpAny (model prog w) A (pyNext (.ref z)) Q E s := by
  obtain ⟨f0, f1, hz, _⟩ := st.zp
  have hT : s.TypeIs (.ref z) "zip" := ⟨_, hz, rfl⟩
  unfold pyNext
  exact wpAny_bind (wpAny_attempt (wpAny_callSpecial?_slot (name := Str.ofString "__next__") hT F.slot_zip_next
    (wpAny_call_entry F.slot_zip_next hT F.entry_zip_next (zpn_item D st hu hx fun h' a1 a2 a3 => wpAny_pure (hQ h' a1 a2 a3)) (F.args_zip_next_1 _))))
theorem pyNext_zpn_end {z TI TO : Addr} {its ls : List Addr} {i : Nat} {l0 : Addr} {xs : Array Value} {Q : Option Value → Shared → Prop} (hh : A.handled = none) (D : ZDist z TI TO its ls) (st : ZAt s.heap z TI TO its ls i)
    (hl0 : ls[0]? = some l0) (hT : s.heap.IsTuple l0 xs) (hx : xs[i]? = none) (hQ : ∀ h', (∀ c o, c ∉ z :: TO :: its → s.heap.get? c = some o → h'.get? c = some o) → Q none { s with heap := h' }) :
    wpAny (model prog w) A (pyNext (.ref z)) Q E s := by
  obtain ⟨f0, f1, hz, _⟩ := st.zp
  have hTy : s.TypeIs (.ref z) "zip" := ⟨_, hz, rfl⟩
  unfold pyNext
  refine wpAny_bind (wpAny_attempt (wpAny_callSpecial?_slot (name := Str.ofString "__next__") hTy F.slot_zip_next
    (wpAny_call_entry F.slot_zip_next hTy F.entry_zip_next (zpn_end hh D st hl0 hT hx fun h' e hk he => ?_) (F.args_zip_next_1 _))))
  obtain ⟨o, ho, hc⟩ := he
  refine wpAny_bind (wpAny_isInstance (T := "StopIteration") (b := true) ⟨o, ho, hc⟩ isSubtype_stop ?_)
  exact wpAny_pure (hQ _ hk)
theorem pyIter_zpn {z TI TO : Addr} {its ls : List Addr} {i : Nat} {Q : Value → Shared → Prop} (st : ZAt s.heap z TI TO its ls i) (h : Q (.ref z) s) : wpAny (model prog w) A (pyIter (.ref z)) Q E s := by
  obtain ⟨f0, f1, hz, _⟩ := st.zp
  have hT : s.TypeIs (.ref z) "zip" := ⟨_, hz, rfl⟩
  refine wpAny_pyIter_slot hT F.slot_zip_iter (wpAny_call_entry F.slot_zip_iter hT F.entry_zip_iter ?_ (F.args_zip_iter_1 _))
  show wpAny _ _ (ret (.ref z)) _ _ s
  exact wpAny_pure ⟨_, rfl, "zip", _, hT, F.slot_zip_next.lookup, h⟩
end
/-! ### zip(a, .., z) -/
theorem zn_type : ∀ (vs : List Value), 1 ≤ vs.length → vs.length ≤ 5 → checkTypeCall "zip" ⟨vs, []⟩ = pure ()
  | [_], _, _ => by kernel_rfl
  | [_, _], _, _ => by kernel_rfl
  | [_, _, _], _, _ => by kernel_rfl
  | [_, _, _, _], _, _ => by kernel_rfl
  | [_, _, _, _, _], _, _ => by kernel_rfl
  | [], h, _ => absurd h (by decide)
  | _ :: _ :: _ :: _ :: _ :: _ :: _, _, h => by simp at h
theorem zn_new : ∀ (vs : List Value), 1 ≤ vs.length → vs.length ≤ 5 → checkBuiltinCall "zip.__new__" ⟨.type "zip" :: vs, []⟩ = pure ()
  | [_], _, _ => by kernel_rfl
  | [_, _], _, _ => by kernel_rfl
  | [_, _, _], _, _ => by kernel_rfl
  | [_, _, _, _], _, _ => by kernel_rfl
  | [_, _, _, _, _], _, _ => by kernel_rfl
  | [], h, _ => absurd h (by decide)
  | _ :: _ :: _ :: _ :: _ :: _ :: _, _, h => by simp at h
theorem zn_init (obj : Value) : ∀ (vs : List Value), 1 ≤ vs.length → vs.length ≤ 5 → argsOk "object.__init__" ⟨obj :: vs, []⟩
  | [_], _, _ => by
    unfold argsOk
    rw [signature?_of (id := "object.__init__")
      (n := "__tini__".toList) (o := "tcejbo".toList)
      (by kernel_rfl) F.owner_object]
    kernel_rfl
  | [_, _], _, _ => by
    unfold argsOk
    rw [signature?_of (id := "object.__init__")
      (n := "__tini__".toList) (o := "tcejbo".toList)
      (by kernel_rfl) F.owner_object]
    kernel_rfl
  | [_, _, _], _, _ => by
    unfold argsOk
    rw [signature?_of (id := "object.__init__")
      (n := "__tini__".toList) (o := "tcejbo".toList)
      (by kernel_rfl) F.owner_object]
    kernel_rfl
  | [_, _, _, _], _, _ => by
    unfold argsOk
    rw [signature?_of (id := "object.__init__")
      (n := "__tini__".toList) (o := "tcejbo".toList)
      (by kernel_rfl) F.owner_object]
    kernel_rfl
  | [_, _, _, _, _], _, _ => by
    unfold argsOk
    rw [signature?_of (id := "object.__init__")
      (n := "__tini__".toList) (o := "tcejbo".toList)
      (by kernel_rfl) F.owner_object]
    kernel_rfl
  | [], h, _ => absurd h (by decide)
  | _ :: _ :: _ :: _ :: _ :: _ :: _, _, h => by simp at h
end Sv

set_option maxHeartbeats 1000000
namespace Sv
open PySem
theorem zn_class (vs : List Value) : Builtin.SmallTypes.newClass "zip" ⟨.type "zip" :: vs, []⟩ = pure (.type "zip", vs) := by
  unfold Builtin.SmallTypes.newClass
  simp only [isType, sub_zip, pure_bind, Bool.not_true, Bool.false_eq_true, if_false]
/-- the iterators made so far -/
structure ZIts (h h' : Heap) (ls : List Addr) (k : Nat) : Prop where
  sz : h'.objs.size = h.objs.size + k
  kp : ∀ c o, h.get? c = some o → h'.get? c = some o
  it : ∀ (j : Nat) (l : Addr), j < k → ls[j]? = some l → h'.IsTupleIter (h.objs.size + j) l 0
def zits (n k : Nat) : List Addr := (List.range k).map fun j => n + j
theorem zits_at {n k j : Nat} {a : Addr} (h : (zits n k)[j]? = some a) : j < k ∧ a = n + j := by
  unfold zits at h
  simp only [List.getElem?_map, Option.map_eq_some_iff] at h
  obtain ⟨i, h1, h2⟩ := h
  obtain ⟨h3, h4⟩ := List.getElem?_eq_some_iff.mp h1
  rw [List.length_range] at h3
  rw [List.getElem_range] at h4
  subst h4
  exact ⟨h3, h2.symm⟩
theorem zits_mem {n k : Nat} {a : Addr} (h : a ∈ zits n k) : n ≤ a ∧ a < n + k := by
  obtain ⟨j, hj⟩ := List.getElem?_of_mem h
  obtain ⟨h1, h2⟩ := zits_at hj
  subst h2
  exact ⟨Nat.le_add_right _ _, Nat.add_lt_add_left h1 _⟩
theorem zits_len (n k : Nat) : (zits n k).length = k := by
  unfold zits
  rw [List.length_map, List.length_range]
theorem zits_nodup (n k : Nat) : (zits n k).Nodup := by
  unfold zits
  rw [List.Nodup, List.pairwise_map]
  exact List.nodup_range.imp fun h e => h (Nat.add_left_cancel e)
theorem meets_zn (ls : List Addr) (h1 : 1 ≤ ls.length) (h5 : ls.length ≤ 5) :
    Meets (Builtin.«zip.__new__» ⟨.type "zip" :: ls.map Value.ref, []⟩) (fun _ R s => (∀ l ∈ ls, ∃ xs, s.heap.IsTuple l xs) ∧ ∀ h' z TI TO its, ZDist z TI TO its ls → ZAt h' z TI TO its ls 0 → (∀ c ∈ z :: TI :: TO :: its, s.heap.objs.size ≤ c) →
      (∀ c o, s.heap.get? c = some o → h'.get? c = some o) → R (.ok (.ret (.ref z))) { s with heap := h' }) :=
  .of_wp fun prog w A R s h => by
    obtain ⟨hp, h⟩ := h
    unfold Builtin.«zip.__new__»
    refine wpAny_bind (wpAny_of_eq (zn_class _) ?_)
    dsimp only
    rw [if_neg (by decide)]
    refine wpAny_bind ?_
    unfold Builtin.SmallTypes.iterAll
    refine wpAny_bind (forIn_to (I := fun r b s' => ∃ k h', b = ((zits s.heap.objs.size k).map Value.ref).toArray ∧ s' = { s with heap := h' } ∧ r = (ls.map Value.ref).drop k ∧ k ≤ ls.length ∧ ZIts s.heap h' ls k) ?_ ?_ _ _ _ ⟨0, s.heap, rfl, rfl, rfl, Nat.zero_le _, rfl, fun _ _ e => e, fun j _ hj => absurd hj (Nat.not_lt_zero _)⟩)
    · rintro x l b s' ⟨k, h', rfl, rfl, hr, hk, F⟩
      obtain ⟨e1, e2⟩ := drop_cons hr
      obtain ⟨a, ha, rfl⟩ : ∃ a, ls[k]? = some a ∧ x = .ref a := by
        simp only [List.getElem?_map, Option.map_eq_some_iff] at e1
        obtain ⟨a, h1, h2⟩ := e1
        exact ⟨a, h1, h2.symm⟩
      have hkl := (List.getElem?_eq_some_iff.mp ha).1
      obtain ⟨xs, o, ho, hr2⟩ := hp a (List.mem_of_getElem? ha)
      refine wpAny_bind (wpAny_holding (wpAny_pyIter_tuple (items := xs) ⟨o, F.kp _ _ ho, hr2⟩ ?_))
      refine wpAny_pure ⟨_, rfl, k + 1, _, ?_, rfl, e2, hkl, ?_, fun c o e => Heap.get?_push_of_some _ (F.kp c o e), fun j l2 hj g => ?_⟩
      · unfold zits
        rw [List.range_succ, List.map_append, List.map_append, List.push_toArray]
        show _ = (_ ++ [Value.ref (s.heap.objs.size + k)]).toArray
        rw [← F.sz]
      · rw [Heap.size_push, F.sz]
        rfl
      · by_cases hjk : j = k
        · subst hjk
          rw [ha] at g
          cases g
          rw [← F.sz]
          exact ⟨_, Heap.get?_push_size _ rfl, rfl, rfl⟩
        · exact (F.it j l2 (by omega) g).at fun o e => Heap.get?_push_of_some _ e
    · rintro b s' ⟨k, h', rfl, rfl, hr, hk, F⟩
      have hkn : k = ls.length := by
        have := congrArg List.length hr
        simp at this
        omega
      subst hkn
      have hzl := zits_len s.heap.objs.size ls.length
      refine wpAny_pure ?_
      show wpAny _ _ (newTuple ((zits s.heap.objs.size ls.length).map Value.ref) >>= _) _ _ _
      generalize hits : zits s.heap.objs.size ls.length = its at hzl ⊢
      refine wpAny_bind (wpAny_newTuple ?_ (by rw [List.length_map, hzl, sizeLine_eq]; omega))
      show wpAny _ _ (newTuple ((its.map Value.ref).map fun _ => Value.none) >>= _) _ _ _
      refine wpAny_bind (wpAny_newTuple ?_ (by rw [List.length_map, List.length_map, hzl, sizeLine_eq]; omega))
      refine wpAny_bind ?_
      unfold Builtin.SmallTypes.newRecord
      show wpAny _ _ (newObj (.type "zip") (.fields #[.none, .bool false, .bool false, .ref h'.objs.size, .ref (h'.push (TpO (its.map Value.ref).toArray)).objs.size])) _ _ _
      refine wpAny_newObj_type ?_
      refine wpAny_pure ⟨_, rfl, ?_⟩
      dsimp only
      have z1 : (h'.push (TpO (its.map Value.ref).toArray)).objs.size = h'.objs.size + 1 := Heap.size_push ..
      have z2 : ((h'.push (TpO (its.map Value.ref).toArray)).push (TpO ((its.map Value.ref).map fun _ => Value.none).toArray)).objs.size = h'.objs.size + 2 := by rw [Heap.size_push, z1]
      have k1 : ∀ c o, h'.get? c = some o → (h'.push (TpO (its.map Value.ref).toArray)).get? c = some o := fun c o e => Heap.get?_push_of_some _ e
      have g1 : IsTp (h'.push (TpO (its.map Value.ref).toArray)) h'.objs.size (its.map Value.ref).toArray := Heap.get?_push_size _ rfl
      generalize h'.push (TpO (its.map Value.ref).toArray) = h2 at z1 z2 k1 g1 ⊢
      have k2 : ∀ c o, h2.get? c = some o → (h2.push (TpO ((its.map Value.ref).map fun _ => Value.none).toArray)).get? c = some o := fun c o e => Heap.get?_push_of_some _ e
      have g2 : IsTp (h2.push (TpO ((its.map Value.ref).map fun _ => Value.none).toArray)) h2.objs.size ((its.map Value.ref).map fun _ => Value.none).toArray := Heap.get?_push_size _ rfl
      generalize h2.push (TpO ((its.map Value.ref).map fun _ => Value.none).toArray) = h3 at z2 k2 g2 ⊢
      have k3 : ∀ c o, h3.get? c = some o → (h3.push (ZpO .none (.bool false) h'.objs.size h2.objs.size)).get? c = some o := fun c o e => Heap.get?_push_of_some _ e
      have g3 : IsZp (h3.push (ZpO .none (.bool false) h'.objs.size h2.objs.size)) h3.objs.size h'.objs.size h2.objs.size .none (.bool false) := Heap.get?_push_size _ rfl
      have fsz := F.sz
      have kf := F.kp
      have fit := F.it
      have rng : ∀ c ∈ its, s.heap.objs.size ≤ c ∧ c < h'.objs.size := fun c hc => by
        rw [← hits] at hc
        rw [fsz]
        exact zits_mem hc
      have lrg : ∀ l ∈ ls, l < s.heap.objs.size := fun l hl => by
        obtain ⟨xs, o, ho, _⟩ := hp l hl
        exact Heap.lt_size ho
      refine h (h3.push (ZpO .none (.bool false) h'.objs.size h2.objs.size)) h3.objs.size h'.objs.size h2.objs.size its ⟨?_, ?_, hzl, ?_, by rw [hzl]; omega⟩ ⟨⟨_, _, g3, .inl rfl⟩, k3 _ _ (k2 _ _ g1), ⟨_, k3 _ _ g2, by simp⟩, ?_⟩ ?_ fun c o e => k3 _ _ (k2 _ _ (k1 _ _ (kf _ _ e)))
      · have ne1 : ∀ {a b : Nat}, a ≠ b → (a : Addr) ≠ b := fun h => h
        simp only [List.nodup_cons, List.mem_cons, not_or]
        refine ⟨⟨ne1 (by omega), ne1 (by omega), fun q => absurd (rng _ q).2 (Nat.not_lt.mpr (by omega))⟩, ⟨ne1 (by omega), fun q => absurd (rng _ q).2 (Nat.not_lt.mpr (by omega))⟩, fun q => absurd (rng _ q).2 (Nat.not_lt.mpr (by omega)), by rw [← hits]; exact zits_nodup _ _⟩
      · intro l hl q
        have h1 : (l : Nat) < s.heap.objs.size := lrg l hl
        simp only [List.mem_cons] at q
        rcases q with q | q | q | q
        · exact absurd h1 (Nat.not_lt.mpr (by rw [q]; omega))
        · exact absurd h1 (Nat.not_lt.mpr (by rw [q]; omega))
        · exact absurd h1 (Nat.not_lt.mpr (by rw [q]; omega))
        · exact absurd h1 (Nat.not_lt.mpr (rng _ q).1)
      · intro q
        rw [q, List.length_nil] at hzl
        omega
      · intro j a l e1 e2
        rw [← hits] at e1
        obtain ⟨h1, rfl⟩ := zits_at e1
        exact (fit j l h1 e2).at fun o e => k3 _ _ (k2 _ _ (k1 _ _ e))
      · intro c hc
        simp only [List.mem_cons] at hc
        rcases hc with q | q | q | q
        · rw [q]; show (s.heap.objs.size : Nat) ≤ h3.objs.size; omega
        · rw [q]; show (s.heap.objs.size : Nat) ≤ h'.objs.size; omega
        · rw [q]; show (s.heap.objs.size : Nat) ≤ h2.objs.size; omega
        · exact (rng _ q).1
section
variable {prog : Program} {w : World} {A : Around} {E : Value → Shared → Prop} {s : Shared}
theorem call_zn {ls : List Addr} {Q : Value → Shared → Prop} (h1 : 1 ≤ ls.length) (h5 : ls.length ≤ 5) (hp : ∀ l ∈ ls, ∃ xs, s.heap.IsTuple l xs)
    (h : ∀ h' z TI TO its, ZDist z TI TO its ls → ZAt h' z TI TO its ls 0 → (∀ c ∈ z :: TI :: TO :: its, s.heap.objs.size ≤ c) → (∀ c o, s.heap.get? c = some o → h'.get? c = some o) → Q (.ref z) { s with heap := h' }) :
    wpAny (model prog w) A (call (.type "zip") (ls.map Value.ref)) Q E s := by
  have e : (ls.map Value.ref).length = ls.length := List.length_map ..
  refine callType_new F.called_zip (by decide) (zn_type _ (by omega) (by omega)) (zn_new _ (by omega) (by omega)) (fun obj => zn_init obj _ (by omega) (by omega)) F.entry_zip_new (meets_zn ls h1 h5) ⟨hp, fun h' z TI TO its D st hc kp => ?_⟩
  obtain ⟨f0, f1, hz, _⟩ := st.zp
  exact ⟨⟨_, hz, rfl⟩, h h' z TI TO its D st hc kp⟩
end
end Sv

set_option maxHeartbeats 1000000
/-! for x in zip(*rows); calls of a def with *args -/
namespace Sv
open PySem PySem.Spec PyProof.Rows L2
/-- the items of the tuples at one place, in a new tuple -/
def ItzN (K : PySem.W.Frag) (ls : List Addr) : It :=
  ⟨fun i H => ∃ ys : List V, ys.length = ls.length ∧ ∀ (j : Nat) (l : Addr) (y : V), ls[j]? = some l → ys[j]? = some y → ∃ xs, SqT K H l xs ∧ xs[i]? = some y,
    fun i H v H' => ∃ T ys, v = .ref T ∧ H T = none ∧ H' = upd H T (.tup ys) ∧ ys.length = ls.length ∧ ∀ (j : Nat) (l : Addr) (y : V), ls[j]? = some l → ys[j]? = some y → ∀ xs, SqT K H l xs → xs[i]? = some y,
    fun i H => ∃ l xs, ls[0]? = some l ∧ SqT K H l xs ∧ xs.length ≤ i⟩
theorem vals_pick {X : Cx} {pins : List (Addr × Obj)} {σ : L2.St} {H : Hp} {s : Shared} (I : Inv X pins σ H s) (i : Nat) : ∀ (ls : List Addr) (ys : List V), ys.length = ls.length → (∀ (j : Nat) (l : Addr) (y : V), ls[j]? = some l → ys[j]? = some y → ∃ xs, SqT X.K H l xs ∧ xs[i]? = some y) →
    ∃ us, Vals ys us ∧ ∀ (j : Nat) (l : Addr) (u : Value), ls[j]? = some l → us[j]? = some u → ∃ xs, s.heap.IsTuple l xs ∧ xs[i]? = some u
  | [], [], _, _ => ⟨[], .nil, fun j l u e _ => by simp at e⟩
  | l :: ls, y :: ys, hl, h => by
    obtain ⟨us, r, q⟩ := vals_pick I i ls ys (by simpa using hl) fun j l y e1 e2 => h (j + 1) l y e1 e2
    obtain ⟨xs, hT, hx⟩ := h 0 l y rfl rfl
    obtain ⟨its, rv, p, _⟩ := I.tuple hT
    obtain ⟨u, hu, ru⟩ := rv.get hx
    refine ⟨u :: us, .cons ru r, fun j l' u' e1 e2 => ?_⟩
    cases j with
    | zero =>
      cases e1
      cases e2
      exact ⟨_, p, by simpa using hu⟩
    | succ j => exact q j l' u' e1 e2
  | [], _ :: _, hl, _ => by simp at hl
  | _ :: _, [], hl, _ => by simp at hl
theorem turn_zipN {P : Program} {w : World} {K : PySem.W.Frag} {x : Str} {tp : Pos} {z TI TO : Addr} {its ls : List Addr} (D : ZDist z TI TO its ls) :
    Turn P w K (.Name x tp) (ItzN K ls) (z :: TI :: TO :: its) z (fun i h => ZAt h z TI TO its ls i) where
  mem := by simp
  obj := fun i h st c hc => by
    obtain ⟨⟨f0, f1, hz, _⟩, hTI, ⟨vs, hTO, _⟩, hit⟩ := st
    simp only [List.mem_cons] at hc
    rcases hc with q | q | q | q
    · rw [q]; exact ⟨_, hz, fun v q => nomatch q⟩
    · rw [q]; exact ⟨_, hTI, fun v q => nomatch q⟩
    · rw [q]; exact ⟨_, hTO, fun v q => nomatch q⟩
    · obtain ⟨j, hj⟩ := List.getElem?_of_mem q
      have hjl := (List.getElem?_eq_some_iff.mp hj).1
      obtain ⟨o, e, _, d⟩ := hit j c _ hj (List.getElem?_eq_getElem (by rw [← D.len]; exact hjl))
      exact ⟨o, e, fun v q => by rw [d] at q; cases q⟩
  keep := fun i h h' st k => by
    obtain ⟨⟨f0, f1, hz, hf⟩, hTI, ⟨vs, hTO, hvs⟩, hit⟩ := st
    exact ⟨⟨f0, f1, k z (by simp) _ hz, hf⟩, k TI (by simp) _ hTI, ⟨vs, k TO (by simp) _ hTO, hvs⟩, fun j a l e1 e2 => (hit j a l e1 e2).at fun o q => k a (by simp [List.mem_of_getElem? e1]) o q⟩
  item := by
    intro X hP hw hK hc i pins s σ H E I hf st hg
    subst hP hw hK
    obtain ⟨ys, hyl, hy⟩ := hg
    obtain ⟨us, rv, hu⟩ := vals_pick I i ls ys hyl hy
    have hul : us.length = its.length := by rw [← rv.length, hyl, D.len]
    have sub : ∀ c, c ∈ z :: TO :: its → c ∈ z :: TI :: TO :: its := fun c hc => by
      simp only [List.mem_cons] at hc ⊢
      rcases hc with q | q | q
      · exact .inl q
      · exact .inr (.inr (.inl q))
      · exact .inr (.inr (.inr q))
    refine pyNext_zpn_item D st hul hu fun h' st' hT kp => ?_
    refine ⟨_, rfl, ?_⟩
    show wpAny _ _ (pure ()) _ _ _
    refine wpAny_pure ?_
    have hsm := D.sm
    have new : ObjOk X.prog X.w (upd H s.heap.objs.size (.tup ys)) h' s.heap.objs.size (.tup ys) :=
      ⟨by rw [hyl, ← D.len, sizeLine_eq]; omega, us, rv, ⟨_, hT, rfl, _, rfl⟩⟩
    refine ⟨.ref s.heap.objs.size, _, I.turnedNew (t' := s.toks) (ch := z :: TI :: TO :: its) (fun c o hb q => kp c o (fun q' => hb (sub c q')) q) hf (Nat.le_refl _) new, rfl, ⟨_, ys, rfl, I.hok.fresh (Nat.le_refl _), rfl, hyl, fun j l y e1 e2 xs hT => by
      obtain ⟨xs', hT', hx'⟩ := hy j l y e1 e2
      rw [I.tuple_inj hT hT']
      exact hx'⟩, st', fun c hcm => ?_⟩
    obtain ⟨o, ho, _⟩ : ∃ o, s.heap.get? c = some o ∧ True := by
      obtain ⟨⟨f0, f1, hz, hf⟩, hTI, ⟨vs, hTO, hvs⟩, hit⟩ := st
      simp only [List.mem_cons] at hcm
      rcases hcm with q | q | q | q
      · rw [q]; exact ⟨_, hz, trivial⟩
      · rw [q]; exact ⟨_, hTI, trivial⟩
      · rw [q]; exact ⟨_, hTO, trivial⟩
      · obtain ⟨j, hj⟩ := List.getElem?_of_mem q
        have hjl := (List.getElem?_eq_some_iff.mp hj).1
        obtain ⟨o, e, _, d⟩ := hit j c _ hj (List.getElem?_eq_getElem (by rw [← D.len]; exact hjl))
        exact ⟨o, e, trivial⟩
    rw [upd_ne (Nat.ne_of_lt (Heap.lt_size ho))]
    exact (hf c hcm).1
  done := by
    intro X hP hw hK hc i pins s σ H E I hf st hg
    subst hP hw hK
    obtain ⟨l, xs, hl, hT, hle⟩ := hg
    obtain ⟨its', rv, p, _⟩ := I.tuple hT
    have hlen := rv.length
    refine pyNext_zpn_end (I.ok.hd hc) D st hl p (by simp; omega) fun h' hk => ⟨rfl, I.turnedL (t' := s.toks) (ch := z :: TI :: TO :: its) (fun c o hb q => hk c o (fun q' => hb ?_) q) hf⟩
    simp only [List.mem_cons] at q' ⊢
    rcases q' with q | q | q
    · exact .inl q
    · exact .inr (.inr (.inl q))
    · exact .inr (.inr (.inr q))
  self := fun A i s Q E st h => pyIter_zpn st h
theorem callWith_typeS {M : Model} {A : Around} {E : Value → Shared → Prop} {s : Shared} {pos : Pos} {T : String} {args : List (Bool × Sem Value)} {Q : Value → Shared → Prop} (hst : args.any (·.1) = true)
    (h : wpAny M A (evalArgs (.type T) true args []) (fun a s₁ => wpAny M A (call (.type T) a.pos a.kw) Q E s₁) E s) : wpAny M A (callWith pos (.type T) [] args []) Q E s := by
  unfold callWith
  refine wpAny_bind (wpAny_holding (wpAny_mono h (fun a s₁ h₁ => wpAny_bind (wpAny_standAt ?_)) fun _ _ x => x))
  simp only [hst, Bool.true_or]
  refine wpAny_bind (wpAny_pure ?_)
  exact wpAny_bind (wpAny_mono (wpAny_operating h₁) (fun r s₂ hr => wpAny_bind (wpAny_holding (wpAny_point (wpAny_pure hr)))) fun _ _ x => x)
def iZipS (K : PySem.W.Frag) (te : TE) : TI := fun σ H R => te σ H fun v H1 => ∃ (a : Addr) (ls : List Addr), v = .ref a ∧ SqT K H1 a (ls.map V.ref) ∧ 1 ≤ ls.length ∧ ls.length ≤ 5 ∧ (∀ l ∈ ls, ∃ xs, SqT K H1 l xs) ∧ R (ItzN K ls) H1
theorem vals_refs : ∀ {ls : List Addr} {us : List Value}, Vals (ls.map V.ref) us → us = ls.map Value.ref
  | [], _, .nil => rfl
  | l :: ls, _, .cons r rr => by
    cases r
    rw [vals_refs rr]
    rfl
theorem pi_zipS {X : Cx} {e : Expr} {te : TE} {x : Str} {p pos tp sp_ : Pos} (hg : Gl X "zip") (hm : X.mg "zip" = none) (he : PE X e te)
    (hst : starEach [.Starred e sp_] X.env = [(true, eval e X.env)] := by rfl) : PI X (.Name x tp) (.Call (.Name "zip" p) [.Starred e sp_] [] pos) (iZipS X.K te) := by
  refine ⟨fun pins s σ H R I h => ?_⟩
  refine Call_ (ld_blt I hg hm PyProof.Rows.boot_zip ?_)
  rw [hst]
  refine callWith_typeS rfl (PySem.W.ks_lone (thn (he.run pins s σ H _ I h) fun v s1 ⟨y, H1, I1, ry, a, ls, ey, hT, h1, h5, hl, q⟩ => ?_))
  subst ey
  obtain rfl : v = Value.ref a := ry
  refine StX.star_any I1 (.inl hT) fun us s2 I2 rv => ?_
  obtain rfl := vals_refs rv
  have hp : ∀ l ∈ ls, ∃ xs, s2.heap.IsTuple l xs := fun l hl' => by
    obtain ⟨xs, hx⟩ := hl l hl'
    obtain ⟨its, _, p, _⟩ := I2.tuple hx
    exact ⟨_, p⟩
  refine call_zn h1 h5 hp fun h' z TI TO its D st hc kp => pyIter_zpn st ?_
  have I3 : Inv X pins σ H1 { s2 with heap := h' } := I2.kept (t' := s2.toks) kp
  exact ⟨z, z :: TI :: TO :: its, _, _, H1, rfl, I3, turn_zipN D, st, fun c hcm => by
    have hle := hc c hcm
    have f := I2.fpOk hle (I2.hok.fresh hle)
    exact f, q⟩
/-- the places of the rows: rows as long as n -/
theorem walk_zipN {K : PySem.W.Frag} {ls : List Addr} {n : Nat} {cols : Nat → List V} (hc : ∀ i, i < n → (cols i).length = ls.length) (h1 : 1 ≤ ls.length) :
    Walk (ItzN K ls) n (fun H => ∀ (j : Nat) (l : Addr), ls[j]? = some l → ∃ xs, SqT K H l xs ∧ xs.length = n ∧ ∀ i, i < n → xs[i]? = (cols i)[j]?) (fun i H v H' => ∃ T, v = .ref T ∧ H T = none ∧ H' = upd H T (.tup (cols i))) := by
  refine ⟨fun i H hi q => ⟨cols i, hc i hi, fun j l y e1 e2 => ?_⟩, fun H q => ?_, fun i H v H' hi q y => ?_⟩
  · obtain ⟨xs, hT, hl, hx⟩ := q j l e1
    exact ⟨xs, hT, (hx i hi).trans e2⟩
  · obtain ⟨l, hl⟩ : ∃ l, ls[0]? = some l := ⟨_, List.getElem?_eq_getElem (by omega)⟩
    obtain ⟨xs, hT, hlen, _⟩ := q 0 l hl
    exact ⟨l, xs, hl, hT, by omega⟩
  · obtain ⟨T, ys, rfl, nT, rfl, hyl, hy⟩ := y
    have e : ys = cols i := by
      apply List.ext_getElem?
      intro j
      by_cases hj : j < ls.length
      · have hl := List.getElem?_eq_getElem hj
        have hyj := List.getElem?_eq_getElem (l := ys) (i := j) (by omega)
        obtain ⟨xs', hT', _, hx'⟩ := q j _ hl
        rw [hyj, ← hx' i hi]
        exact (hy j _ _ hl hyj xs' hT').symm
      · rw [List.getElem?_eq_none (by omega), List.getElem?_eq_none (by rw [hc i hi]; omega)]
    subst e
    exact ⟨T, rfl, nT, rfl⟩
section
variable {X : Cx} {CX : CXT} {k : Nat} {f : Addr} {sp : Sp} {E : XK} {x : Str} {e : Expr} {es : List Expr} {t : TA} {p pos : Pos}
/-- x(e, ..), x a def of the module told by FnR -/
theorem pe_callN (F : FnR X.prog X.w X.K X.mg X.base CX k f sp) (hr : Room k X.A) (hk : PySem.W.keepIn X.K (.ref f) = true) (hg : Gl X x) (hm : X.mg x = some (.ref f)) (hx : Passes CX X E) (ha : PA X (e :: es) t) (hd : (x == ("__debug__" : Str)) = false := by decide)
    (he : starEach (e :: es) X.env = (false, eval e X.env) :: starEach es X.env := by rfl) (hpl : (backTo pos (starEach es X.env)).any (·.1) = false := by rfl) :
    PE X (.Call (.Name x p) (e :: es) [] pos) (fun σ H Q => t σ H fun vs H1 => sp vs H1 Q E) := by
  refine ⟨fun pins s σ H Q I h => ?_⟩
  refine wpAny_Call_Name_kw (ld_glob I hg hm ?_ hd)
  refine PySem.W.callWith_K (h₀ := X.base) I.ok.mod.kin hk (thn (ha.run pos pins s σ H _ I h) fun us s1 ⟨vs, H1, I1, r, q⟩ => ⟨I1.kIn, ?_⟩) he hpl
  exact wpAny_call (run_fnR F hr hx I1 r q)
end
/-- a def with one parameter, *v -/
def BStar (fd : FuncData) (pv : Str) : Prop := ∀ rest : List Value, bindArgs fd ⟨rest, []⟩ = (newTuple rest >>= fun t => pure [(pv, t)])
theorem Fun.star {P : Program} {w : World} {K : PySem.W.Frag} {mg : Str → Option Value} {base : Heap} {x qual : Str} {st : Stmt} {f : Addr} {fd : FuncData} {N : List Str} {pv : Str} {k : Nat} {sp : Sp} (F : Fun K x qual st f fd) (S : FnScope N [pv] (defScope st)) (hb : BStar fd pv)
    (hbody : ∀ (cdv : Value) (A : Around) (outer : List Env) (s : Shared) (H : Hp) (vs : List V) (Q : VK) (E : XK), Room k (A.deeper (envOfC qual (defScope st) s.heap.objs.size f cdv)) → sp vs H Q E →
      ∃ t, PSs (cxOf CX0 P w K mg base N qual (defScope st) f cdv A outer s H E).nox (defBody st) t ∧ t { nx := fun _ H' => Q .non H', rt := Q } (L2.start N vs) H) :
    FnR P w K mg base CX0 (k + 1) f (fun vs H Q E => vs.length ≤ sizeLine ∧ ∀ p, H p = Option.none → sp [V.ref p] (upd H p (.tup vs)) Q E) := by
  obtain ⟨oc, od, kV, doc, pm, an, cdv, ct, osl, rfl, lk, hcd⟩ := F.ex
  have G := StX.fn_star (P := P) (w := w) (mg := mg) (base := base) (CX := CX0) (ps := []) (pv := pv) (k := k) (sp := sp) lk hcd S StX.cxUp_none (fun us rest hl => by
      cases us with
      | nil => exact hb rest
      | cons a r => simp at hl) (fun A outer s H vs Q E hr hsp => by
    obtain ⟨t, h, q⟩ := hbody cdv A outer s H vs Q E hr hsp
    exact ⟨t, h.nox, q⟩)
  exact G.imp fun vs H Q E h => ⟨[], vs, rfl, rfl, h.1, fun p np => h.2 p np⟩
end Sv

set_option maxHeartbeats 1000000
/-! for x in zip(a, b); t[::-1] of a tuple -/
namespace L2
namespace HT
open PySem PySem.Spec PyProof.Rows
section
variable {prog : Program} {w : World} {A : Around} {E : Value → Shared → Prop} {s : Shared}
theorem sliceApplied_rev {sl : Addr} {vl vu vs : Value} {n : Nat} {Q : Int × Int × Nat → Shared → Prop} (hs : s.heap.IsSliceOf sl vl vu vs) (pl : IsPart vl none) (pu : IsPart vu none) (ps : IsPart vs (some (-1)))
    (h : Q (((n : Int) - 1), -1, n) s) : wpAny (model prog w) A (Builtin.Slice.sliceApplied (.ref sl) (pure (n : Int))) Q E s := by
  obtain ⟨os, hos, hcs, hds⟩ := id hs
  unfold Builtin.Slice.sliceApplied Builtin.Slice.sliceFields
  refine wpAny_bind (wpAny_bind (wpAny_field hos hds (x := vl) rfl (wpAny_bind (wpAny_field hos hds (x := vu) rfl (wpAny_bind (wpAny_field hos hds (x := vs) rfl (wpAny_pure ?_)))))))
  refine wpAny_bind (_root_.HT.slicePart_ ps ?_)
  show wpAny _ _ (if ((-1 : Int) == 0) = true then _ else _) _ _ s
  rw [if_neg (by decide)]
  refine wpAny_bind (_root_.HT.slicePart_ pl (wpAny_bind (_root_.HT.slicePart_ pu (wpAny_bind (wpAny_pure ?_)))))
  show wpAny _ _ (match Builtin.Slice.sliceAdjust none none (-1) (n : Int) with | (lo, hi) => pure (lo, (-1 : Int), Builtin.Slice.slicePlaces lo hi (-1))) _ _ s
  have e1 : Builtin.Slice.sliceAdjust none none (-1) (n : Int) = ((n : Int) - 1, -1) := rfl
  have e2 : Builtin.Slice.slicePlaces ((n : Int) - 1) (-1) (-1) = n := by
    unfold Builtin.Slice.slicePlaces
    rw [if_neg (by decide)]
    split
    · rw [show (-(-1) : Int) = 1 from rfl, Int.ediv_one]
      omega
    · omega
  rw [e1]
  show wpAny _ _ (pure ((n : Int) - 1, (-1 : Int), Builtin.Slice.slicePlaces ((n : Int) - 1) (-1) (-1))) _ _ s
  rw [e2]
  exact wpAny_pure h
theorem pick_rev (xs : Array Value) : ((List.range xs.size).filterMap fun (m : Nat) => xs[((xs.size : Int) - 1 + (m : Int) * (-1)).toNat]?).toArray = xs.toList.reverse.toArray := by
  congr 1
  have e : (List.range xs.size).filterMap (fun (m : Nat) => xs[((xs.size : Int) - 1 + (m : Int) * (-1)).toNat]?) = ((List.range xs.size).map fun k => xs.size - 1 - k).filterMap (xs[·]?) := by
    rw [List.filterMap_map]
    congr 1
    funext m
    show xs[((xs.size : Int) - 1 + (m : Int) * (-1)).toNat]? = xs[xs.size - 1 - m]?
    rw [show ((xs.size : Int) - 1 + (m : Int) * (-1)).toNat = xs.size - 1 - m by omega]
  rw [e, PySem.W.krv_range, List.filterMap_reverse, PySem.W.krv_all]
theorem getItem_tuple_rev {t sl : Addr} {items : Array Value} {vl vu vs : Value} {Q : Value → Shared → Prop} (ht : IsTup s.heap t items) (hs : s.heap.IsSliceOf sl vl vu vs) (pl : IsPart vl none) (pu : IsPart vu none) (ps : IsPart vs (some (-1)))
    (h : Q (.ref s.heap.objs.size) { s with heap := s.heap.push { cls := .type "tuple", data := .seq items.toList.reverse.toArray } })
    (hsz : items.size ≤ sizeLine) : wpAny (model prog w) A (getItem (.ref t) (.ref sl)) Q E s := by
  have htake : sizeOk (.seq items.toList.reverse.toArray) := by
    show items.toList.reverse.toArray.size ≤ sizeLine
    rw [List.size_toArray, List.length_reverse, Array.length_toList]
    exact hsz
  obtain ⟨os, hos, hcs, hds⟩ := id hs
  have hTs : s.TypeIs (.ref sl) "slice" := ⟨os, hos, hcs⟩
  unfold getItem
  try with_reducible refine wpAny_holding ?_
  first | refine wpAny_bind (wpAny_pure ?_) | skip
  refine wpAny_bind (wpAny_sequenceKey ht.typeIs (by decide) ?_)
  refine wpAny_bind (wpAny_callSpecial?_slot (name := Str.ofString "__getitem__") ht.typeIs PyProof.Rows.slot_tuple_getitem
    (wpAny_call_entry PyProof.Rows.slot_tuple_getitem ht.typeIs entry_tuple_getitem ?_ (args_tuple_getitem _ _)))
  show wpAny _ _ (Builtin.Tuple.tupleItemsOf (.ref t) >>= _) _ _ s
  refine wpAny_bind (tupleItemsOf_ ht ?_)
  refine wpAny_bind (wpAny_typeOf hTs ?_)
  rw [if_pos (by decide)]
  refine wpAny_bind (sliceApplied_rev hs pl pu ps ?_)
  have hno : ¬ (((items.size : Int) - 1 == 0 && (-1 : Int) == 1 && items.size == items.size) = true) := by
    intro q
    rw [Bool.and_eq_true, Bool.and_eq_true] at q
    exact absurd q.1.2 (by decide)
  show wpAny _ _ (if ((items.size : Int) - 1 == 0 && (-1 : Int) == 1 && items.size == items.size) = true then _ else _) _ _ s
  rw [if_neg hno, pick_rev]
  first
    | exact wpAny_bind (m := Builtin.Tuple.tupleExact _) (wpAny_newObj_type (wpAny_pure ⟨_, rfl, wpAny_pure h⟩) htake)
    | exact wpAny_bind (m := Builtin.Tuple.tupleExact _) (wpAny_newObj_type (wpAny_bind (wpAny_pure (wpAny_pure ⟨_, rfl, wpAny_pure h⟩))) htake)
    | exact wpAny_bind (wpAny_bind (m := Builtin.Tuple.tupleExact _) (wpAny_newObj_type (wpAny_pure (wpAny_pure ⟨_, rfl, wpAny_pure h⟩)) htake))
    | exact wpAny_bind (wpAny_bind (m := Builtin.Tuple.tupleExact _) (wpAny_newObj_type (wpAny_pure ⟨_, rfl, wpAny_pure h⟩) htake))
end
end HT
end L2
namespace Sv
open PySem PySem.Spec PyProof.Rows L2
/-! ### t[::-1] -/
section
variable {X : Cx}
def tRevT (K : PySem.W.Frag) (te : TE) : TE := fun σ H Q => te σ H fun x H1 => ∃ a xs, x = .ref a ∧ SqT K H1 a xs ∧ ∀ p, H1 p = none → Q (.ref p) (upd H1 p (.tup xs.reverse))
theorem pe_revT {e : Expr} {te : TE} {k : Nat} {p1 p2 p3 pos : Pos} (he : PE X e te) : PE X (.Subscript e (.Slice none none (some (.UnaryOp .USub (.Constant (.int 1) k p1) p2)) p3) pos) (tRevT X.K te) := by
  refine ⟨fun pins s σ H Q I h => ?_⟩
  refine Subscript_ (thn (he.run pins s σ H _ I h) fun v s1 ⟨x, H1, I1, r1, q1⟩ => ?_)
  obtain ⟨a, xs, ex, hx, q⟩ := q1
  subst ex
  cases r1
  have hst : PO X (some (.UnaryOp .USub (.Constant (.int 1) k p1) p2)) (tPart (tUn (rU fun i => .int (-i)) (tC (.int 1)))) := po_some (pe_un un_neg pe_int)
  refine wpAny_Slice (thn (po_none.run pins s1 σ H1 (fun o H2 => o = none ∧ H2 = H1) I1 ⟨rfl, rfl⟩) fun vl s2 ⟨l, H2, I2, pl, el, e2⟩ => ?_)
  subst el e2
  refine thn (po_none.run pins s2 σ H2 (fun o H3 => o = none ∧ H3 = H2) I2 ⟨rfl, rfl⟩) fun vu s3 ⟨u, H3, I3, pu, eu, e3⟩ => ?_
  subst eu e3
  refine thn (hst.run pins s3 σ H3 (fun o H4 => o = some (-1) ∧ H4 = H3) I3 ⟨1, rfl, -1, rfl, rfl, rfl⟩) fun vs s4 ⟨o, H4, I4, ps, eo, e4⟩ => ?_
  subst eo e4
  have I5 : Inv X pins σ H4 { s4 with heap := s4.heap.push { cls := .type "slice", data := .fields #[vl, vu, vs] } } := I4.kept (t' := s4.toks) fun b ob q => Heap.get?_push_of_some _ q
  obtain ⟨its, r, ht, hz⟩ := I5.tuple hx
  have hlen := r.length
  show wpAny (model X.prog X.w) X.A (subscriptTail e (.Slice none none (some (.UnaryOp .USub (.Constant (.int 1) k p1) p2)) p3) (.ref a) (.ref s4.heap.objs.size)) (EP X pins σ Q) X.xe { s4 with heap := s4.heap.push { cls := .type "slice", data := .fields #[vl, vu, vs] } }
  refine tail_any (ops := [.ref a, .ref s4.heap.objs.size]) ht.typeIs PyProof.Rows.slot_tuple_getitem.lookup ?_ (by with_unfolding_all rfl)
  refine HT.getItem_tuple_rev ht (Heap.IsSliceOf.new _ vl vu vs) pl pu ps ?_ (by rw [List.size_toArray]; omega)
  refine ⟨.ref _, _, I5.laid (t' := s4.toks) (o := .tup xs.reverse) (fun b ob q => Heap.get?_push_of_some _ q) (Nat.le_refl _) ?_, rfl, q _ (I5.hok.fresh (Nat.le_refl _))⟩
  exact ⟨by rw [List.length_reverse]; exact hz, _, r.reverse, _, Heap.get?_push_size _ rfl, rfl, 0, rfl⟩
end
/-! ### for x in zip(a, b), both tuples -/
def iZip2N (K : PySem.W.Frag) (ta : TA) : TI := fun σ H R => ta σ H fun vs H1 => ∃ a b, vs = [.ref a, .ref b] ∧ (∃ xs, SqT K H1 a xs) ∧ (∃ ys, SqT K H1 b ys) ∧ R (ItzN K [a, b]) H1
theorem pi_zip2N {X : Cx} {e e2 : Expr} {ta : TA} {x : Str} {p pos tp : Pos} (hg : Gl X "zip") (hm : X.mg "zip" = none) (ha : PA X [e, e2] ta)
    (hs : starEach [e, e2] X.env = (false, eval e X.env) :: starEach [e2] X.env := by rfl) (hpl : (backTo pos (starEach [e2] X.env)).any (·.1) = false := by rfl) :
    PI X (.Name x tp) (.Call (.Name "zip" p) [e, e2] [] pos) (iZip2N X.K ta) := by
  refine ⟨fun pins s σ H R I h => ?_⟩
  refine Call_ (ld_blt I hg hm PyProof.Rows.boot_zip (PyProof.Rows.callWith_type1 (thn (ha.run pos pins s σ H _ I h) fun us s1 ⟨vs, H1, I1, r1, q1⟩ => ?_) hs hpl))
  obtain ⟨a, b, rfl, ⟨xs, qa⟩, ⟨ys, qb⟩, q1⟩ := q1
  obtain ⟨u1, u2, rfl, ru1, ru2⟩ : ∃ u1 u2, us = [u1, u2] ∧ RelV (.ref a) u1 ∧ RelV (.ref b) u2 := by
    cases r1 with
    | cons r rr =>
      cases rr with
      | cons r' rr =>
        cases rr
        exact ⟨_, _, rfl, r, r'⟩
  cases ru1
  cases ru2
  have hp : ∀ l ∈ [a, b], ∃ xs, s1.heap.IsTuple l xs := fun l hl' => by
    simp only [List.mem_cons, List.not_mem_nil, or_false] at hl'
    rcases hl' with rfl | rfl
    · obtain ⟨its, _, p, _⟩ := I1.tuple qa
      exact ⟨_, p⟩
    · obtain ⟨its, _, p, _⟩ := I1.tuple qb
      exact ⟨_, p⟩
  refine call_zn (ls := [a, b]) (Nat.le_add_left 1 1) (Nat.le_add_left 2 3) hp fun h' z TI TO its D st hc kp => pyIter_zpn st ?_
  have I3 : Inv X pins σ H1 { s1 with heap := h' } := I1.kept (t' := s1.toks) kp
  exact ⟨z, z :: TI :: TO :: its, _, _, H1, rfl, I3, turn_zipN D, st, fun c hcm => by
    have hle := hc c hcm
    have f := I1.fpOk hle (I1.hok.fresh hle)
    exact f, q1⟩
/-! ### a call of a def told by FnR, for comprehensions -/
def tCallN (sp : Sp) (E : XK) (t : TA) : TE := fun σ H Q => t σ H fun vs H1 => sp vs H1 Q E
section
variable {X : Cx} {CX : CXT} {k : Nat} {f : Addr} {sp : Sp} {E : XK} {x : Str} {e : Expr} {es : List Expr} {t : TA} {p pos : Pos}
theorem pe_callM (F : FnR X.prog X.w X.K X.mg X.base CX k f sp) (hr : Room k X.A) (hk : PySem.W.keepIn X.K (.ref f) = true) (hg : Gl X x) (hm : X.mg x = some (.ref f)) (hx : Passes CX X E) (ha : PA X (e :: es) t) (hd : (x == ("__debug__" : Str)) = false := by decide)
    (he : starEach (e :: es) X.env = (false, eval e X.env) :: starEach es X.env := by rfl) (hpl : (backTo pos (starEach es X.env)).any (·.1) = false := by rfl) :
    PE X (.Call (.Name x p) (e :: es) [] pos) (tCallN sp E t) := pe_callN F hr hk hg hm hx ha hd he hpl
end
end Sv

set_option maxHeartbeats 1000000
/-! {(.., ..) for .. in .. for .. in ..}: a set comprehension of two clauses, its members tuples of ints -/
namespace Sv
open PySem PySem.Spec PyProof.Rows L2
abbrev No : Value → Shared → Prop := fun _ _ => False
/-- the tests of a clause -/
abbrev tst (cs : List Expr) (en : Env) : Sem Bool := forIn cs true fun c b => if b = true then do let z ← isTrue c en (eval c en); pure (ForInStep.yield z) else pure (ForInStep.yield b)
abbrev sx (el ta ia tb ib : Expr) (ca cb : List Expr) (sc : Scope) (ps : Pos) : Expr := .SetComp el [⟨ta, ia, ca, 0⟩, ⟨tb, ib, cb, 0⟩] sc ps
theorem sx_turn0 (el ta ia tb ib : Expr) (ca cb : List Expr) (sc : Scope) (ps : Pos) (j acc : Value) (en : Env) : compTurn (sx el ta ia tb ib ca cb sc ps) 0 j acc en = (standAt ia.pos >>= fun _ => pyNext j >>= fun r => match r with
      | none => pure (.done .next)
      | some v => letOwnedTupleGo ta j v >>= fun _ => assign ta en v >>= fun _ => tst ca en >>= fun z => (if z = true then (eval ib en >>= fun x => standAt ib.pos >>= fun _ => foldedSetIterable ib en x >>= fun y => holding [y] (pyIter y) >>= fun k =>
          runOwn (.compStart (sx el ta ia tb ib ca cb sc ps) 1 k acc en) en >>= fun _ => again (.compLoop (sx el ta ia tb ib ca cb sc ps) 0 j acc en)) else again (.compLoop (sx el ta ia tb ib ca cb sc ps) 0 j acc en))) := by rfl
theorem sx_turn1 (el ta ia tb ib : Expr) (ca cb : List Expr) (sc : Scope) (ps : Pos) (j acc : Value) (en : Env) : compTurn (sx el ta ia tb ib ca cb sc ps) 1 j acc en = (standAt ib.pos >>= fun _ => pyNext j >>= fun r => match r with
      | none => pure (.done .next)
      | some v => letOwnedTupleGo tb j v >>= fun _ => assign tb en v >>= fun _ => tst cb en >>= fun z => (if z = true then ((eval el en >>= fun x => standAt el.pos >>= fun _ => call (.builtin "set.add") [acc, x] >>= fun _ => pure ()) >>= fun _ => again (.compLoop (sx el ta ia tb ib ca cb sc ps) 1 j acc en))
          else again (.compLoop (sx el ta ia tb ib ca cb sc ps) 1 j acc en))) := by rfl
section
variable {prog : Program} {w : World} {A : Around} {R : Result → Shared → Prop} {s : Shared} {el ta ia tb ib : Expr} {ca cb : List Expr} {sc : Scope} {ps : Pos} {j acc : Value} {en : Env}
theorem no_mono {α : Type} {m : Sem α} {Q Q' : α → Shared → Prop} {E : Value → Shared → Prop} (h : wpAny (model prog w) A m Q No s) (q : ∀ a s', Q a s' → Q' a s') : wpAny (model prog w) A m Q' E s := wpAny_mono h q fun _ _ z => z.elim
theorem sx_loop0 (hs : ∀ x, foldedSetIterable ib en x = pure x) (I : Nat → Shared → Prop)
    (one : ∀ n s, I n s → wpAny (model prog w) A (pyNext j) (fun r s1 => match r with
      | none => R (.ok .next) s1
      | some v => wpAny (model prog w) A (letOwnedTupleGo ta j v) (fun _ s2 => wpAny (model prog w) A (assign ta en v) (fun _ s3 => wpAny (model prog w) A (tst ca en) (fun z s4 =>
          if z = true then wpAny (model prog w) A (eval ib en) (fun x s5 => wpAny (model prog w) A (pyIter x) (fun k s6 => codeAny (model prog w) A (.compStart (sx el ta ia tb ib ca cb sc ps) 1 k acc en) (fun r s7 => match r with
            | .ok _ => ∃ m, m < n ∧ I m s7
            | .error _ => False) s6) No s5) No s4
          else ∃ m, m < n ∧ I m s4) No s3) No s2) No s1) No s) (n : Nat) (h : I n s) :
    codeAny (model prog w) A (.compLoop (sx el ta ia tb ib ca cb sc ps) 0 j acc en) R s := by
  refine codeAny_loop rfl I (fun n s y => ?_) n h
  show wpAny _ A ((compTurn (sx el ta ia tb ib ca cb sc ps) 0 j acc en).onRaise (fun x => do noteFrame x en; theTreesLotGoes x)) _ _ s
  refine wpAny_noted ?_
  rw [sx_turn0]
  refine wpAny_bind (wpAny_standAt (wpAny_bind (no_mono (one n s y) fun r s1 h1 => ?_)))
  cases r with
  | none => exact wpAny_pure h1
  | some v =>
    refine wpAny_bind (no_mono h1 fun _ s2 h2 => wpAny_bind (no_mono h2 fun _ s3 h3 => wpAny_bind (no_mono h3 fun z s4 h4 => ?_)))
    cases z with
    | false => exact wpAny_pure ⟨rfl, h4⟩
    | true =>
      refine wpAny_bind (no_mono h4 fun x s5 h5 => wpAny_bind (wpAny_standAt (wpAny_bind (wpAny_of_eq (hs x) (wpAny_bind (wpAny_holding (no_mono h5 fun k s6 h6 => ?_)))))))
      refine wpAny_bind (wpAny_runOwn ?_)
      rw [Around.mark_none]
      refine codeAny_mono h6 fun r s7 h7 => ?_
      cases r with
      | ok f => exact wpAny_pure ⟨rfl, h7⟩
      | error e => exact h7.elim
theorem sx_loop1 (I : Nat → Shared → Prop)
    (one : ∀ n s, I n s → wpAny (model prog w) A (pyNext j) (fun r s1 => match r with
      | none => R (.ok .next) s1
      | some v => wpAny (model prog w) A (letOwnedTupleGo tb j v) (fun _ s2 => wpAny (model prog w) A (assign tb en v) (fun _ s3 => wpAny (model prog w) A (tst cb en) (fun z s4 =>
          if z = true then wpAny (model prog w) A (eval el en) (fun x s5 => wpAny (model prog w) A (call (.builtin "set.add") [acc, x]) (fun _ s6 => ∃ m, m < n ∧ I m s6) No s5) No s4
          else ∃ m, m < n ∧ I m s4) No s3) No s2) No s1) No s) (n : Nat) (h : I n s) :
    codeAny (model prog w) A (.compLoop (sx el ta ia tb ib ca cb sc ps) 1 j acc en) R s := by
  refine codeAny_loop rfl I (fun n s y => ?_) n h
  show wpAny _ A ((compTurn (sx el ta ia tb ib ca cb sc ps) 1 j acc en).onRaise (fun x => do noteFrame x en; theTreesLotGoes x)) _ _ s
  refine wpAny_noted ?_
  rw [sx_turn1]
  refine wpAny_bind (wpAny_standAt (wpAny_bind (no_mono (one n s y) fun r s1 h1 => ?_)))
  cases r with
  | none => exact wpAny_pure h1
  | some v =>
    refine wpAny_bind (no_mono h1 fun _ s2 h2 => wpAny_bind (no_mono h2 fun _ s3 h3 => wpAny_bind (no_mono h3 fun z s4 h4 => ?_)))
    cases z with
    | false => exact wpAny_pure ⟨rfl, h4⟩
    | true => exact wpAny_bind (wpAny_bind (no_mono h4 fun x s5 h5 => wpAny_bind (wpAny_standAt (wpAny_bind (no_mono h5 fun _ s6 h6 => wpAny_pure (wpAny_pure ⟨rfl, h6⟩))))))
theorem sx_start1 (h0 : codeAny (model prog w) A (.compLoop (sx el ta ia tb ib ca cb sc ps) 1 j acc en) R s)
    (h : wpAny (model prog w) A (pyIter j) (fun k s1 => codeAny (model prog w) A (.compLoop (sx el ta ia tb ib ca cb sc ps) 1 k acc en) R s1) No s) :
    codeAny (model prog w) A (.compStart (sx el ta ia tb ib ca cb sc ps) 1 j acc en) R s := by
  refine codeAny_of_tree ?_
  show wpAny _ _ ((compStart (sx el ta ia tb ib ca cb sc ps) 1 j acc en).onRaise (fun x => do noteFrame x en; standAt theWindowsPlace)) _ _ s
  refine wpAny_notedAt ?_
  unfold compStart
  show wpAny _ _ (ask >>= _) _ _ s
  refine wpAny_bind (wpAny_askSetting (wpAny_ite ?_))
  split
  · first
      | exact wpAny_pure (And.intro rfl h0)
      | exact wpAny_bind (wpAny_pure (wpAny_pure (And.intro rfl h0)))
  · refine wpAny_bind (wpAny_rule ?_)
    show wpAny _ _ (standAt ib.pos >>= _) _ _ s
    exact wpAny_bind (wpAny_standAt (wpAny_bind (no_mono h fun k s1 h1 => wpAny_pure (And.intro rfl h1))))
/-- found.add((..)) -/
theorem setT_add {a x : Addr} {L : List (Addr × List Int)} {es : Array (Int × Value)} {ep : Nat} {t : SetTable} {k : List Int} {E : Value → Shared → Prop} {Q : Value → Shared → Prop} (Rt : SetTR prog w s.heap a L es ep t) (hx : IsT prog w s.heap k x) (hu : A.units + 64 < cLine) (few : L.length + 1 < 64)
    (q : ∀ h' L', Heap.SameBut a s.heap h' → SetT0 prog w h' a L' → (k ∈ L.map (·.2) → L' = L) → (k ∉ L.map (·.2) → L'.Perm ((x, k) :: L)) → Q .none { s with heap := h', toks := s.toks + (k.length + 1) }) :
    wpAny (model prog w) A (call (.builtin "set.add") [.ref a, .ref x]) Q E s := by
  obtain ⟨o, ho, hex, hd⟩ := id Rt.ob
  have hty : s.TypeIs (.ref a) "set" := ⟨o, ho, hex.1⟩
  refine wpAny_call_entry F.slot_set_add hty F.entry_set_add ?_ (F.args_set_add_2 _ _)
  unfold Builtin.«set.add» Builtin.Frozenset.oneOther
  simp only [List.isEmpty_nil, bind_assoc]
  unfold Builtin.Frozenset.addrOf setAdd
  refine wpAny_bind (wpAny_pure ?_)
  try dsimp only
  refine wpAny_bind (wpAny_pure ?_)
  try dsimp only
  have hu1 : A.in1.units < cLine := by
    show A.units + 1 < cLine
    omega
  refine wpAny_bind (wpAny_holding (wpAny_bind (wpAny_pyHash_tuple hu1 hx ?_)))
  refine add_at (s := { s with toks := s.toks + (k.length + 1) }) Rt hx hu1 few fun b h' L' es' ep' t' sb Rn c1 c2 => ?_
  show wpAny _ _ (ret Value.none) _ _ _
  exact wpAny_pure ⟨_, rfl, q h' L' sb Rn.t0 c1 c2⟩
end
section
variable {X : Cx}
theorem addT_ok {pins : List (Addr × Obj)} {σ : L2.St} {H : Hp} {s : Shared} {E : Value → Shared → Prop} {D x : Addr} {L : List (Addr × List Int)} {k : List Int} {Q : Value → Shared → Prop} (I : Inv X pins σ H s) (hu : X.A.units + 64 < cLine) (hD : H D = some (SetTO X.prog X.w D L)) (hL : ∀ p ∈ L, SqT X.K H p.1 (p.2.map V.int)) (hx : SqT X.K H x (k.map V.int)) (few : L.length + 1 < 64)
    (q : ∀ L' s', (k ∈ L.map (·.2) → L' = L) → (k ∉ L.map (·.2) → L'.Perm ((x, k) :: L)) → Inv X pins σ (upd H D (SetTO X.prog X.w D L')) s' → Q .none s') : wpAny (model X.prog X.w) X.A (call (.builtin "set.add") [.ref D, .ref x]) Q E s := by
  have R0 : SetT0 X.prog X.w s.heap D L := (I.hok D _ hD).1
  obtain ⟨es, ep, t, Rt⟩ := R0.full fun p hp => I.isT (hL p hp)
  refine setT_add Rt (I.isT hx) hu few fun h' L' sb Rn c1 c2 => ?_
  have there : ∃ u, h'.get? D = some u := by
    obtain ⟨_, _, _, ⟨o, ho, _⟩, _⟩ := Rn.ex
    exact ⟨o, ho⟩
  exact q L' _ c1 c2 (I.write (e := D) (t' := s.toks + (k.length + 1)) (by rw [hD]; trivial) (.inl rfl) (fun b u hb g => (sb.2 b hb).trans g) there (setTO_new Rn))
end
/-! ### one turn of a block's loop -/
section
variable {B : Cx} {tg : Expr} {J : It} {fp : List Addr} {it : Addr} {tn : Nat → Heap → Prop} {pins : List (Addr × Obj)} {σ τ : L2.St} {H : Hp} {s s0 : Shared} {i : Nat} {g : TG} {cs : List Expr} {tt : TT}
theorem loop_back (T : Turn B.prog B.w B.K tg J fp it tn) (I : Inv B (pins ++ pinsAt fp s0.heap) τ H s) (st : tn i s0.heap) (hl : σ.length = τ.length) (hk : ∀ (j : Nat) v, σ[j]? = some (some v) → τ[j]? = some (some v)) :
    Inv B pins σ H s ∧ tn i s.heap ∧ ∀ b ∈ fp, H b = none := by
  have same : ∀ b ∈ fp, ∀ o, s0.heap.get? b = some o → s.heap.get? b = some o ∧ H b = none := fun b hb o e => by
    have z := I.pin (b, o) (List.mem_append_right _ (List.mem_append_right _ (mem_pinsAt hb e)))
    exact ⟨z.1, z.2.1⟩
  refine ⟨I.unpinned.weak hl hk, T.keep _ _ _ st fun b hb o e => (same b hb o e).1, fun b hb => ?_⟩
  obtain ⟨o, e, _⟩ := T.obj _ _ st b hb
  exact (same b hb o e).2
theorem loop_step {Kp : L2.St → Prop} {Qq : L2.St → Bool → Hp → Prop} (hx : B.xe = No) (hc : B.calm = true) (T : Turn B.prog B.w B.K tg J fp it tn) (I : Inv B pins σ H s) (ok : ∀ b ∈ fp, FpOk B pins H b) (st : tn i s.heap) (go : J.go i H) (pg : PG B tg g) (pt : PTs B cs tt)
    (next : ∀ x H', J.yld i H x H' → g x σ H' fun σ2 H2 => Kp σ2 ∧ tt σ2 H2 fun b H3 => Qq σ2 b H3) :
    wpAny (model B.prog B.w) B.A (pyNext (.ref it)) (fun r s1 => ∃ v, r = some v ∧ wpAny (model B.prog B.w) B.A (letOwnedTupleGo tg (.ref it) v) (fun _ s2 => wpAny (model B.prog B.w) B.A (assign tg B.env v) (fun _ s3 =>
      wpAny (model B.prog B.w) B.A (tst cs B.env) (fun z s4 => ∃ (σ2 : L2.St) (H4 : Hp) (s7 : Shared), Inv B (pins ++ pinsAt fp s7.heap) σ2 H4 s4 ∧ Kp σ2 ∧ Qq σ2 z H4 ∧ tn (i + 1) s7.heap) No s3) No s2) No s1) No s := by
  refine no_mono (T.item B rfl rfl rfl hc i pins s σ H _ I ok st go) fun r s1 h1 => ?_
  obtain ⟨v, rfl, h1⟩ := h1
  refine ⟨v, rfl, no_mono h1 fun _ s2 h2 => ?_⟩
  obtain ⟨x, H2, I2, rx, yx, st2, free2⟩ := h2
  have ok2 : ∀ b ∈ fp, FpOk B pins H2 b := fun b hb => ⟨free2 b hb, (ok b hb).2⟩
  have run := pg.run _ s2 σ H2 x v _ (I2.pinned ok2 (T.obj _ _ st2)) rx (next x H2 yx)
  rw [hx] at run
  refine no_mono run fun _ s3 h3 => ?_
  obtain ⟨σ3, H3, I3, k3, q3⟩ := h3
  have run4 := pt.run _ s3 σ3 H3 _ I3 q3
  rw [hx] at run4
  refine no_mono run4 fun z s4 h4 => ?_
  obtain ⟨H4, I4, q4⟩ := h4
  exact ⟨σ3, H4, s2, I4, k3, q4, st2⟩
end
/-! ### the comprehension -/
section
variable {X : Cx}
/-- D: the new set; a member is a new or an old tuple, its place among the members is left open -/
def tSc2 (P : Program) (w : World) (K : PySem.W.Frag) (wi : TI) (g : TG) (tt : TT) (wj : TI) (gj : TG) (tj : TT) (te : TE) (vs us : List Nat) : TE := fun σ H Q => wi σ H fun J H1 => ∀ D, H1 D = none → ∃ W : Nat → Nat → Hp → Prop, (∃ m, W 0 m (upd H1 D (SetTO P w D []))) ∧ ∀ i m H, W i m H →
  (J.stop i H ∧ Q (.ref D) H) ∨ (J.go i H ∧ ∃ N : Hp → Prop, (∀ H', N H' → ∃ m', m' < m ∧ W (i + 1) m' H') ∧ ∀ x H', J.yld i H x H' → g x (wipe σ vs) H' fun σ2 H2 => wipe σ2 vs = wipe σ vs ∧ tt σ2 H2 fun b H3 =>
    if b = true then wj σ2 H3 fun J1 H4 => ∃ U : Nat → Nat → Hp → Prop, (∃ m, U 0 m H4) ∧ ∀ j k H, U j k H →
      (J1.stop j H ∧ N H) ∨ (J1.go j H ∧ ∃ M : Hp → Prop, (∀ H', M H' → ∃ k', k' < k ∧ U (j + 1) k' H') ∧ ∀ x H', J1.yld j H x H' → gj x (wipe σ2 us) H' fun σ3 H5 => wipe σ3 us = wipe σ2 us ∧ tj σ3 H5 fun b H6 =>
        if b = true then te σ3 H6 fun y H7 => ∃ (a : Addr) (ns : List Int) (L : List (Addr × List Int)), y = .ref a ∧ SqT K H7 a (ns.map L2.V.int) ∧ H7 D = some (SetTO P w D L) ∧ (∀ p ∈ L, SqT K H7 p.1 (p.2.map L2.V.int)) ∧ L.length + 1 < 64 ∧
          ∀ L', (ns ∈ L.map (·.2) → L' = L) → (ns ∉ L.map (·.2) → L'.Perm ((a, ns) :: L)) → M (upd H7 D (SetTO P w D L')) else M H6)
    else N H3)
theorem pe_sc2 {el ta ia tb ib : Expr} {ca cb : List Expr} {scope : Scope} {own : List (Str × Nat)} {us : List Nat} {pos : Pos} {wi wj : TI} {g gj : TG} {tt tj : TT} {te : TE} (hc : X.calm = true) (hu : X.A.units + 64 < cLine) (hN : X.N.Nodup) (hi : PI X ta ia wi) (ok : BlkOk X.N X.env.scope scope own) (hv : ∀ i ∈ us, i ∈ own.map (·.2))
    (hg : ∀ (s : Shared) (H : Hp) (C : Addr) (cl : List (Str × Addr)) (fp : List Addr), PG (X.blk s H scope (compEnvC scope cl C X.env) fp) ta g) (ht : ∀ (s : Shared) (H : Hp) (C : Addr) (cl : List (Str × Addr)) (fp : List Addr), PTs (X.blk s H scope (compEnvC scope cl C X.env) fp) ca tt)
    (hj : ∀ (s : Shared) (H : Hp) (C : Addr) (cl : List (Str × Addr)) (fp : List Addr), PI (X.blk s H scope (compEnvC scope cl C X.env) fp) tb ib wj)
    (hgj : ∀ (s : Shared) (H : Hp) (C : Addr) (cl : List (Str × Addr)) (fp : List Addr), PG (X.blk s H scope (compEnvC scope cl C X.env) fp) tb gj) (htj : ∀ (s : Shared) (H : Hp) (C : Addr) (cl : List (Str × Addr)) (fp : List Addr), PTs (X.blk s H scope (compEnvC scope cl C X.env) fp) cb tj)
    (he : ∀ (s : Shared) (H : Hp) (C : Addr) (cl : List (Str × Addr)) (fp : List Addr), PE (X.blk s H scope (compEnvC scope cl C X.env) fp) el te) (hs : ∀ x, foldedSetIterable ia X.env x = pure x := by intro _; rfl) (hsj : ∀ en x, foldedSetIterable ib en x = pure x := by intro _ _; rfl) :
    PE X (.SetComp el [⟨ta, ia, ca, 0⟩, ⟨tb, ib, cb, 0⟩] scope pos) (tSc2 X.prog X.w X.K wi g tt wj gj tj te (own.map (·.2)) us) := by
  refine ⟨fun pins s σ H Q I h => ?_⟩
  rw [PpSet.eval_SetComp]
  have fr : ∀ y ∈ scope.names, y.2 = .free → ∃ c, X.env.cells.lookup y.1 = some c := fun y hy e => (ok.free y hy e).elim (fun z => I.ok.has _ (.inl z)) fun z => I.ok.has _ (.inr z)
  refine wpAny_comprehension_free (use := none) rfl hs (closure_ok fr) ok.kind (fun y hy e => by rw [ok.uniq y hy, e]) (thn (hi.run pins s σ H _ I h) fun v s1 h1 => thn h1 fun u s2 h2 => ?_)
  obtain ⟨it, fp, tn, J, H2, rfl, I2, T, st2, f2, q⟩ := h2
  refine PpSet.newSet_ok (newEnv_comp ?_)
  obtain ⟨D, hD⟩ : ∃ D, D = s2.heap.objs.size := ⟨_, rfl⟩
  have hDn : H2 D = none := I2.hok.fresh (Nat.le_of_eq hD.symm)
  obtain ⟨W, ⟨m0, w0⟩, turn⟩ := q D hDn
  obtain ⟨s3, hs3⟩ : ∃ s3 : Shared, s3 = { s2 with heap := s2.heap.push { cls := .type "set", dict := none, data := .set #[] 0 (.fresh 0 0 (!X.w.params.followText "set-order")) } } := ⟨_, rfl⟩
  have heap3 : s3.heap = s2.heap.push { cls := .type "set", dict := none, data := .set #[] 0 (.fresh 0 0 (!X.w.params.followText "set-order")) } := by rw [hs3]
  have old3 : ∀ b o, s2.heap.get? b = some o → s3.heap.get? b = some o := fun b o e => by rw [heap3]; exact Heap.get?_push_of_some _ e
  have I3 : Inv X pins σ (upd H2 D (SetTO X.prog X.w D [])) s3 := by
    rw [hs3]
    refine I2.laid (t' := s2.toks) (fun b o e => Heap.get?_push_of_some _ e) (Nat.le_of_eq hD.symm) (setTO_new (SetTR.t0 (setTR_fresh ?_)))
    rw [hD]
    exact Heap.get?_push_size _ rfl
  obtain ⟨H3, hH3⟩ : ∃ H3, H3 = upd H2 D (SetTO X.prog X.w D []) := ⟨_, rfl⟩
  rw [← hH3] at I3 w0
  have f3 : ∀ b ∈ fp, FpOk X pins H3 b ∧ b < s3.heap.objs.size := fun b hb => by
    obtain ⟨o, e, _⟩ := T.obj _ _ st2 b hb
    have lt : b < s2.heap.objs.size := Heap.lt_size e
    refine ⟨⟨?_, (f2 b hb).2⟩, by rw [heap3, Heap.size_push]; exact Nat.lt_succ_of_lt lt⟩
    rw [hH3, upd_ne (by rw [hD]; exact Nat.ne_of_lt lt)]
    exact (f2 b hb).1
  have st3 : tn 0 s3.heap := T.keep _ _ _ st2 fun b _ o e => old3 b o e
  have I4 := block_start I3 ok hN f3
  obtain ⟨ce, hce⟩ : ∃ ce, ce = compEnvC scope (cellsFrom (s3.heap.objs.size + 1) scope.names (cloFrom X.env.cells scope.names [])) s3.heap.objs.size X.env := ⟨_, rfl⟩
  obtain ⟨s4, hs4⟩ : ∃ s4 : Shared, s4 = { s3 with heap := pushCells (s3.heap.push { cls := .type "dict", data := .dict #[] }) scope.names } := ⟨_, rfl⟩
  have pg : PG (X.blk s3 H3 scope ce fp) ta g := by rw [hce]; exact hg _ _ _ _ _
  have pt : PTs (X.blk s3 H3 scope ce fp) ca tt := by rw [hce]; exact ht _ _ _ _ _
  have pj : PI (X.blk s3 H3 scope ce fp) tb ib wj := by rw [hce]; exact hj _ _ _ _ _
  have pgj : PG (X.blk s3 H3 scope ce fp) tb gj := by rw [hce]; exact hgj _ _ _ _ _
  have ptj : PTs (X.blk s3 H3 scope ce fp) cb tj := by rw [hce]; exact htj _ _ _ _ _
  have pe : PE (X.blk s3 H3 scope ce fp) el te := by rw [hce]; exact he _ _ _ _ _
  have cl : ce.locals = s3.heap.objs.size := by rw [hce]; rfl
  have st4 : tn 0 s4.heap := T.keep _ _ _ st3 fun b _ o e => by rw [hs4]; exact pushCells_keeps _ _ _ _ (Heap.get?_push_of_some _ e)
  rw [← hce, ← hs4] at I4
  rw [← hs3, ← hD]
  show codeAny _ _ (.compStart (sx el ta ia tb ib ca cb scope pos) 0 (.ref it) (.ref D) (compEnvC scope (cellsFrom (s3.heap.objs.size + 1) scope.names (cloFrom X.env.cells scope.names [])) s3.heap.objs.size X.env)) (compPost (model X.prog X.w) X.A X.xe none (EP X pins σ Q) (.ref D) s3.heap.objs.size) { s3 with heap := pushCells (s3.heap.push { cls := .type "dict", data := .dict #[] }) scope.names }
  rw [← hce, ← hs4]
  have away : ∀ {τ : L2.St} {G : Hp} {s' : Shared}, Inv (X.blk s3 H3 scope ce fp) [] τ G s' → (∀ b ∈ fp, G b = none) → ∀ b ∈ fp, FpOk (X.blk s3 H3 scope ce fp) [] G b := fun {τ G s'} J' n b hb =>
    ⟨n b hb, (J'.ok.exf b hb).1, J'.ok.exfs b hb, .inl hb, fun x c e => (J'.ok.exf b hb).2 x c e, fun p hp => absurd (show p ∈ ([] : List (Addr × Obj)) ++ [] from hp) (by simp)⟩
  have loop : codeAny (model X.prog X.w) X.A (.compLoop (sx el ta ia tb ib ca cb scope pos) 0 (.ref it) (.ref D) ce) (compPost (model X.prog X.w) X.A X.xe none (EP X pins σ Q) (.ref D) s3.heap.objs.size) s4 := by
    refine sx_loop0 (hsj ce) (fun n s' => ∃ i G, Inv (X.blk s3 H3 scope ce fp) [] (wipe σ (own.map (·.2))) G s' ∧ tn i s'.heap ∧ (∀ b ∈ fp, G b = none) ∧ W i n G) ?_ m0 ⟨0, H3, I4, st4, fun b hb => (f3 b hb).1.1, w0⟩
    rintro n s5 ⟨i, G, I5, st5, n5, w5⟩
    rcases turn i n G w5 with ⟨stop, fine⟩ | ⟨go, N, less, next⟩
    · refine no_mono (T.done (X.blk s3 H3 scope ce fp) rfl rfl rfl hc i [] s5 _ G _ I5 (away I5 n5) st5 stop) fun r s6 h6 => ?_
      obtain ⟨rfl, I6⟩ := h6
      have I7 : Inv X pins σ G s6 := I3.call' (ch := fp) I6.os I6.base I6.hok I6.bare fun b hb => ⟨(f3 b hb).1.2.2.2.1, (f3 b hb).1.2.1, (f3 b hb).1.2.2.2.2.1, (f3 b hb).1.2.2.2.2.2⟩
      have nC : G s3.heap.objs.size = none := by
        rw [← cl]
        exact I6.free
      obtain ⟨m, ns, _⟩ := I6.loc
      have ns : s6.heap.Ns ce.locals m := ns
      rw [cl] at ns
      obtain ⟨c0, c1, c2, c3, c4, c5⟩ : FpOk X pins G s3.heap.objs.size := I3.fpOk (Nat.le_refl _) nC
      exact ⟨m, ns, fun h' sb => ⟨.ref D, G, I7.turned (t' := s6.toks) (fun b o hb e => (sb.2 b hb).trans e) c0 c1 c3 c4 c5, rfl, fine⟩⟩
    · have one := loop_step (B := X.blk s3 H3 scope ce fp) rfl hc T I5 (away I5 n5) st5 go pg pt next
      refine no_mono one fun r s6 h6 => ?_
      obtain ⟨v, rfl, h6⟩ := h6
      refine no_mono h6 fun _ s7 h7 => no_mono h7 fun _ s8 h8 => no_mono h8 fun z s9 h9 => ?_
      obtain ⟨σ2, H4, s0, I9, k9, q9, st9⟩ := h9
      have len9 : (wipe σ (own.map (·.2))).length = σ2.length := by rw [← k9, wipe_length]
      have sub9 : ∀ (j : Nat) v, (wipe σ (own.map (·.2)))[j]? = some (some v) → σ2[j]? = some (some v) := fun j v e => by
        rw [← k9] at e
        exact (wipe_some e).1
      have back : ∀ {τ : L2.St} {s' : Shared} {G' : Hp}, Inv (X.blk s3 H3 scope ce fp) ([] ++ pinsAt fp s0.heap) τ G' s' → (wipe σ (own.map (·.2))).length = τ.length → (∀ (j : Nat) v, (wipe σ (own.map (·.2)))[j]? = some (some v) → τ[j]? = some (some v)) → N G' →
          ∃ m, m < n ∧ ∃ i G, Inv (X.blk s3 H3 scope ce fp) [] (wipe σ (own.map (·.2))) G s' ∧ tn i s'.heap ∧ (∀ b ∈ fp, G b = none) ∧ W i m G := fun {τ s' G'} J' hl hk y => by
        obtain ⟨m', lt, wn⟩ := less G' y
        obtain ⟨b1, b2, b3⟩ := loop_back (B := X.blk s3 H3 scope ce fp) T J' st9 hl hk
        exact ⟨m', lt, i + 1, G', b1, b2, b3, wn⟩
      cases z with
      | false => exact back I9 len9 sub9 q9
      | true =>
        have q9 : wj σ2 H4 _ := q9
        have runj := pj.run _ s9 σ2 H4 _ I9 q9
        refine no_mono runj fun xv s10 h10 => no_mono h10 fun itv s11 h11 => ?_
        obtain ⟨it1, fp1, tn1, J1, H11, rfl, I11, T1, st11, f11, U, ⟨m1, u1⟩, turn1⟩ := h11
        have loop1 : codeAny (model X.prog X.w) X.A (.compLoop (sx el ta ia tb ib ca cb scope pos) 1 (.ref it1) (.ref D) ce) (fun r s' => match r with
            | .ok _ => ∃ m, m < n ∧ ∃ i G, Inv (X.blk s3 H3 scope ce fp) [] (wipe σ (own.map (·.2))) G s' ∧ tn i s'.heap ∧ (∀ b ∈ fp, G b = none) ∧ W i m G
            | .error _ => False) s11 := by
          have away1 : ∀ {G' : Hp}, (∀ b ∈ fp1, G' b = none) → ∀ b ∈ fp1, FpOk (X.blk s3 H3 scope ce fp) ([] ++ pinsAt fp s0.heap) G' b := fun y b hb => ⟨y b hb, (f11 b hb).2⟩
          refine sx_loop1 (fun k s' => ∃ j G', Inv (X.blk s3 H3 scope ce fp) ([] ++ pinsAt fp s0.heap) (wipe σ2 us) G' s' ∧ tn1 j s'.heap ∧ (∀ b ∈ fp1, G' b = none) ∧ U j k G') ?_ m1 ⟨0, H11, I11.weak (wipe_length _ _) (fun j v e => (wipe_some e).1), st11, fun b hb => (f11 b hb).1, u1⟩
          rintro k s12 ⟨j, H12, I12, st12, n12, u12⟩
          rcases turn1 j k H12 u12 with ⟨stop1, y1⟩ | ⟨go1, M, less1, next1⟩
          · refine no_mono (T1.done (X.blk s3 H3 scope ce fp) rfl rfl rfl hc j _ s12 _ H12 _ I12 (away1 n12) st12 stop1) fun r s13 h13 => ?_
            obtain ⟨rfl, I13⟩ := h13
            refine back I13 (len9.trans (wipe_length σ2 us).symm) (fun j v e => ?_) y1
            rw [← k9] at e
            obtain ⟨e1, e2⟩ := wipe_some e
            rw [wipe_out fun y => e2 (hv j y)]
            exact e1
          · have one1 := loop_step (B := X.blk s3 H3 scope ce fp) rfl hc T1 I12 (away1 n12) st12 go1 pgj ptj next1
            refine no_mono one1 fun r s13 h13 => ?_
            obtain ⟨v1, rfl, h13⟩ := h13
            refine no_mono h13 fun _ s14 h14 => no_mono h14 fun _ s15 h15 => no_mono h15 fun z1 s16 h16 => ?_
            obtain ⟨σ3, H5, s17, I16, k16, q16, st16⟩ := h16
            have back1 : ∀ {s' : Shared} {G' : Hp}, Inv (X.blk s3 H3 scope ce fp) (([] ++ pinsAt fp s0.heap) ++ pinsAt fp1 s17.heap) σ3 G' s' → M G' → ∃ m, m < k ∧ ∃ j G', Inv (X.blk s3 H3 scope ce fp) ([] ++ pinsAt fp s0.heap) (wipe σ2 us) G' s' ∧ tn1 j s'.heap ∧ (∀ b ∈ fp1, G' b = none) ∧ U j m G' := fun {s' G'} J' y => by
              obtain ⟨m', lt, wn⟩ := less1 G' y
              obtain ⟨b1, b2, b3⟩ := loop_back (B := X.blk s3 H3 scope ce fp) (σ := wipe σ2 us) T1 J' st16 (by rw [← k16, wipe_length]) (fun j v e => by rw [← k16] at e; exact (wipe_some e).1)
              exact ⟨m', lt, j + 1, G', b1, b2, b3, wn⟩
            cases z1 with
            | false => exact back1 I16 q16
            | true =>
              have q16 : te σ3 H5 _ := q16
              have rune := pe.run _ s16 σ3 H5 _ I16 q16
              refine no_mono rune fun x s18 h18 => ?_
              obtain ⟨y, H18, I18, rx, a, ns, L, rfl, ha, hDL, hL, few, last⟩ := h18
              obtain rfl : x = Value.ref a := rx
              exact addT_ok (X := X.blk s3 H3 scope ce fp) I18 hu hDL hL ha few fun L' s19 c1 c2 I19 => back1 I19 (last L' c1 c2)
        exact sx_start1 loop1 (T1.self X.A 0 _ _ _ st11 loop1)
  exact PpSet.codeAny_compStart_set loop (T.self X.A 0 _ _ _ st4 loop)
end
end Sv

set_option maxHeartbeats 1000000
/-! walks of clauses; a tuple in a tuple; lists that are ordered by a number -/
namespace Sv
open PySem PySem.Spec PyProof.Rows L2
/-- what a clause's walk gives, whatever its turn asks -/
theorem w_it {J : It} {n : Nat} {G : Hp → Prop} {Y : Nat → Hp → L2.V → Hp → Prop} (w : Walk J n G Y) {Qd : Hp → Prop} {Body : (Hp → Prop) → L2.V → Hp → Prop} {H0 : Hp} (Pv : Nat → Hp → Prop) (h0 : Pv 0 H0) (hG : ∀ i H, i ≤ n → Pv i H → G H)
    (hs : ∀ i x H H', i < n → Pv i H → Y i H x H' → Body (Pv (i + 1)) x H') (hd : ∀ H, Pv n H → Qd H) :
    ∃ W : Nat → Nat → Hp → Prop, (∃ m, W 0 m H0) ∧ ∀ i m H, W i m H → (J.stop i H ∧ Qd H) ∨ (J.go i H ∧ ∃ N : Hp → Prop, (∀ H', N H' → ∃ m', m' < m ∧ W (i + 1) m' H') ∧ ∀ x H', J.yld i H x H' → Body N x H') := by
  refine ⟨fun i m H => m = n - i ∧ i ≤ n ∧ Pv i H, ⟨n, (Nat.sub_zero n).symm, Nat.zero_le n, h0⟩, fun i m H z => ?_⟩
  obtain ⟨rfl, hi, p⟩ := z
  by_cases hlt : i < n
  · exact .inr ⟨w.goes i H hlt (hG i H hi p), Pv (i + 1), fun H' p' => ⟨n - (i + 1), by omega, rfl, hlt, p'⟩, fun x H' y => hs i x H H' hlt p (w.yields i H x H' hlt (hG i H hi p) y)⟩
  · obtain rfl : i = n := by omega
    exact .inl ⟨w.stops H (hG i H hi p), hd H p⟩
theorem walk_etup {K : PySem.W.Frag} {a : Addr} {xs : List L2.V} : Walk (Itte K a xs) xs.length (fun H => SqT K H a xs) (YPair (fun i => some (.int (i : Nat))) (fun i => xs[i]?)) :=
  ⟨fun _ _ hi q => ⟨q, hi⟩, fun _ q => ⟨q, rfl⟩, fun i H v H' hi q y => by
    obtain ⟨T, x, h1, h2, h3, h4⟩ := y
    exact ⟨T, .int (i : Nat), x, h1, h2, h3, rfl, h4⟩⟩
def rNotInT (K : PySem.W.Frag) : R2 := fun x y H Q => ∃ d ds, Dp K H x d ∧ Dp K H y (.tuple ds) ∧ SeqAt.shaped d = true ∧ SeqAt.shaped (.tuple ds) = true ∧ Q (.bl (!ds.any fun z => PyData.eqv z d)) H
/-- x not in t, t a tuple of data -/
theorem op_notInT {X : Cx} (hu : X.A.units + 65 < cLine) : OpR X (compareOp .NotIn) (rNotInT X.K) := by
  intro pins s σ H x y v u Q I rx ry h
  obtain ⟨d, ds, hd, he, sd, se, q⟩ := h
  obtain ⟨as, ra⟩ := Dp.reads I d x v hd rx
  obtain ⟨bs, rb⟩ := Dp.reads I (.tuple ds) y u he ry
  exact SeqAt.notIn_tuple_reads rb ra (SeqAt.canLay_of_shaped se) (SeqAt.canLay_of_shaped sd) (room_in_shaped sd hu) ⟨.bl _, H, I, rfl, q⟩
/-- lists that rise by a number are told by their members -/
theorem rise_eq {α : Type} (f : α → Int) : ∀ (l r : List α), l.Pairwise (fun a b => f a < f b) → r.Pairwise (fun a b => f a < f b) → (∀ x, x ∈ l ↔ x ∈ r) → l = r
  | [], [], _, _, _ => rfl
  | [], b :: r, _, _, h => absurd ((h b).mpr List.mem_cons_self) List.not_mem_nil
  | a :: l, [], _, _, h => absurd ((h a).mp List.mem_cons_self) List.not_mem_nil
  | a :: l, b :: r, h1, h2, h => by
    obtain ⟨p1, q1⟩ := List.pairwise_cons.mp h1
    obtain ⟨p2, q2⟩ := List.pairwise_cons.mp h2
    have e : a = b := by
      rcases List.mem_cons.mp ((h a).mp List.mem_cons_self) with z | z
      · exact z
      · rcases List.mem_cons.mp ((h b).mpr List.mem_cons_self) with y | y
        · exact y.symm
        · have := p2 a z
          have := p1 b y
          omega
    subst e
    congr 1
    refine rise_eq f l r q1 q2 fun x => ⟨fun z => ?_, fun z => ?_⟩
    · rcases List.mem_cons.mp ((h x).mp (List.mem_cons_of_mem _ z)) with y | y
      · subst y
        exact absurd (p1 _ z) (Int.lt_irrefl _)
      · exact y
    · rcases List.mem_cons.mp ((h x).mpr (List.mem_cons_of_mem _ z)) with y | y
      · subst y
        exact absurd (p2 _ z) (Int.lt_irrefl _)
      · exact y
/-- pairs by one number -/
def pc (x : Int × Int) : Int := x.1 * 64 + x.2
def pk (x : Int × Int) : List Int := [x.1, x.2]
theorem pk_inj {x y : Int × Int} (h : pk x = pk y) : x = y := by
  obtain ⟨a, b⟩ := x
  obtain ⟨c, d⟩ := y
  unfold pk at h
  simp only [List.cons.injEq, and_true] at h
  rw [h.1, h.2]
theorem code_pk (x : Int × Int) : TS.code 64 (pk x) = pc x := code_pair x.1 x.2
/-- what sorted(set) gives, the members pairs of small numbers -/
theorem rise_of {L : List (Addr × List Int)} (nd : (L.map (·.2)).Nodup) (pw : L.Pairwise (fun q r => TS.code 64 q.2 ≤ TS.code 64 r.2)) (hp : ∀ q ∈ L, ∃ x : Int × Int, q.2 = pk x ∧ 0 ≤ x.2 ∧ x.2 < 64) :
    ∃ us : List (Int × Int), L.map (·.2) = us.map pk ∧ us.Pairwise (fun a b => pc a < pc b) := by
  induction L with
  | nil => exact ⟨[], rfl, .nil⟩
  | cons q L ih =>
    obtain ⟨n1, n2⟩ := List.nodup_cons.mp nd
    obtain ⟨p1, p2⟩ := List.pairwise_cons.mp pw
    obtain ⟨us, e, r⟩ := ih n2 p2 fun q hq => hp q (List.mem_cons_of_mem _ hq)
    obtain ⟨x, hx, hx0, hx1⟩ := hp q List.mem_cons_self
    refine ⟨x :: us, by rw [List.map_cons, List.map_cons, hx, e], List.pairwise_cons.mpr ⟨fun y hy => ?_, r⟩⟩
    have hy' : pk y ∈ L.map (·.2) := by
      rw [e]
      exact List.mem_map_of_mem hy
    obtain ⟨q', hq', ey⟩ := List.mem_map.mp hy'
    obtain ⟨z, hz, hz0, hz1⟩ := hp q' (List.mem_cons_of_mem _ hq')
    obtain rfl : z = y := pk_inj (hz.symm.trans ey)
    have h1 := p1 q' hq'
    rw [hx, hz, code_pk, code_pk] at h1
    have ne : x ≠ z := fun e2 => n1 (by show q.2 ∈ _; rw [hx, e2]; exact hy')
    rcases Int.lt_or_eq_of_le h1 with h2 | h2
    · exact h2
    · refine absurd ?_ ne
      unfold pc at h2
      have e1 : x.1 = z.1 := by omega
      have e2 : x.2 = z.2 := by omega
      exact Prod.ext e1 e2
theorem any_pD {α : Type} (l : List α) (f : α → Bool) : l.any f = decide (∃ x ∈ l, f x = true) := by
  rw [Bool.eq_iff_iff]
  simp
end Sv

namespace Sv
open PySem PySem.Spec PyProof.Rows L2
/-! ### the law's draws: places in the text -/
def topS (i : Nat) : Stmt := PySem.Challenge.pw_savelines_k43_needed_and_deletable_state.main.body.getD i (.Pass ⟨0, 0, 0, 0⟩)
abbrev sState : Stmt := topS 14
abbrev sDraw : Stmt := topS 15
theorem scState : FnScope ["_law_script", "_law_cell"] ["_law_script"] (defScope sState) := ⟨rfl, rfl, rfl, by decide +kernel, rfl, by decide +kernel, by decide +kernel⟩
abbrev nDraw : List Str := ["_law_deck_here", "_law_many", "_law_cell", "_law_digit"]
theorem scDraw : FnScope nDraw ["_law_deck_here", "_law_many"] (defScope sDraw) := ⟨rfl, rfl, rfl, by decide +kernel, rfl, by decide +kernel, by decide +kernel⟩
theorem ixn {n j : Nat} (hj : j < n) : ixN n (j : Int) = some j := by
  unfold ixN
  rw [if_pos (Int.natCast_nonneg j), if_pos (Int.ofNat_lt.mpr hj), Int.toNat_natCast]
/-- the draws' state: its list of four, the cells that are left; at most n mixed draws so far -/
def StAt (H : Hp) (st big cel : Addr) (n : Nat) : Prop := st ≠ big ∧ st ≠ cel ∧ cel = big ∧ n ≤ 1000000 ∧ ∃ (bs : List Int) (cb : Int × Int) (k : Int),
  H st = some (.lst [.ref big, .int cb.1, .int k, .int cb.2]) ∧ H big = some (.lst (bs.map V.int)) ∧ H cel = some (.lst (bs.map V.int)) ∧
  (∀ b ∈ bs, 0 ≤ b) ∧ 0 ≤ cb.1 ∧ 0 ≤ k ∧ k ≤ n ∧ 0 ≤ cb.2 ∧ cb.2 < 1099511627776 ∧ bs.length ≤ 63
theorem StAt.same {H H' : Hp} {st big cel : Addr} {n : Nat} (h : StAt H st big cel n) (e : Same H H') : StAt H' st big cel n := by
  obtain ⟨h1, h2, h3, hn, bs, cb, k, a, b, c, r⟩ := h
  exact ⟨h1, h2, h3, hn, bs, cb, k, e _ _ a, e _ _ b, e _ _ c, r⟩
theorem StAt.le {H : Hp} {st big cel : Addr} {n m : Nat} (h : StAt H st big cel n) (e : n ≤ m) (em : m ≤ 1000000) : StAt H st big cel m := by
  obtain ⟨h1, h2, h3, hn, bs, cb, k, a, b, c, q1, q2, q3, q4, r⟩ := h
  exact ⟨h1, h2, h3, em, bs, cb, k, a, b, c, q1, q2, q3, Int.le_trans q4 (Int.ofNat_le.mpr e), r⟩
theorem StAt.tup {K : PySem.W.Frag} {H H' : Hp} {st big cel : Addr} {n : Nat} (h : StAt H st big cel n) (e : Kp st big H H') {a : Addr} {xs : List V} (q : SqT K H a xs) : SqT K H' a xs := by
  obtain ⟨h1, h2, h3, hn, bs, cs, k, ha, hb, hc, r⟩ := h
  rcases q with (q | ⟨o, q⟩) | q
  · exact .inl (.inl (e _ _ (ne_of q ha (by intro z; cases z)) (ne_of q hb (by intro z; cases z)) q))
  · exact .inl (.inr ⟨o, e _ _ (ne_of q ha (by intro z; cases z)) (ne_of q hb (by intro z; cases z)) q⟩)
  · exact .inr q
theorem StAt.tupN {H H' : Hp} {st big cel : Addr} {n : Nat} (h : StAt H st big cel n) (e : Kp st big H H') {a : Addr} {xs : List V} (q : TupN H a xs) : TupN H' a xs := by
  obtain ⟨h1, h2, h3, hn, bs, cs, k, ha, hb, hc, r⟩ := h
  obtain ⟨o, q, d⟩ := q
  exact ⟨o, e _ _ (ne_of q ha (by intro z; cases z)) (ne_of q hb (by intro z; cases z)) q, d⟩
theorem StAt.ne {H : Hp} {st big cel : Addr} {n : Nat} (h : StAt H st big cel n) {p : Addr} (q : H p = none) : st ≠ p ∧ big ≠ p ∧ cel ≠ p := by
  obtain ⟨h1, h2, h3, hn, bs, cs, k, ha, hb, hc, r⟩ := h
  exact ⟨ne_of_none ha q, ne_of_none hb q, ne_of_none hc q⟩
def spDraw : Sp := fun vs H Q _ => ∃ (st big cel : Addr) (n : Nat) (m : Int), vs = [.ref st, .int m] ∧ 0 < m ∧ m < 1000000 ∧ StAt H st big cel n ∧ n < 1000000 ∧
  ∀ (H' : Hp) (v : Int), 0 ≤ v → v < m → StAt H' st big cel (n + 1) → Kp st big H H' → Q (.int v) H'
theorem sz {n : Nat} (h : n ≤ 1000) : n ≤ sizeLine := Nat.le_of_lt (small1000 h)
theorem iteB {b : Bool} {A B : Prop} (h1 : b = true → A) (h2 : b = false → B) : if b = true then A else B := by
  cases b with
  | true => exact iteT (h1 rfl)
  | false => exact iteF (h2 rfl)
theorem while_st {c : TT} {tb : TS} {D : Ends} {σ : L2.St} {H : Hp} (Pv : L2.St → Hp → Prop) (μ : L2.St → Hp → Nat) (h0 : Pv σ H) (hx : ∀ σ H, Pv σ H → D.nx σ H)
    (hs : ∀ σ H, Pv σ H → c σ H fun b H1 => Pv σ H1 ∧ (b = true → tb { D with nx := fun σ' H' => Pv σ' H' ∧ μ σ' H' < μ σ H, ct := fun σ' H' => Pv σ' H' ∧ μ σ' H' < μ σ H, bk := D.nx } σ H1))
    (mono : ∀ σ H Q Q', (∀ b H1, Q b H1 → Q' b H1) → c σ H Q → c σ H Q') : tWhile c tb D σ H :=
  while_by Pv μ h0 (fun σ H p => mono σ H _ _ (fun b H1 ⟨q, r⟩ => by
    cases b with
    | false => exact iteF (hx σ H1 q)
    | true => exact iteT (r rfl)) (hs σ H p)) mono
section
variable {P : Program} {w : World} {K : PySem.W.Frag} {mg : Str → Option Value} {base : Heap}
theorem ok_draw {f : Addr} {fd : FuncData} (F : Fun K "_law_next" "_law_next" sDraw f fd) (mi : mg "int" = none) : FnOk P w K mg base CX0 1 f fd ["_law_deck_here", "_law_many"] spDraw := by
  refine F.ok scDraw (fun vs H Q E h => ?_) (fun cdv A outer s H vs Q E hr h => ?_)
  · obtain ⟨st, big, cel, n, m, rfl, _⟩ := h
    rfl
  · obtain ⟨st, big, cel, n, m, rfl, m0, m1, hS, hn, q⟩ := h
    have nd := scDraw.nd
    refine ⟨_, pss_cons (ps_while PassesOwn.never
        (PW.pt (pw_and (pt_cmpR op_eq (pe_ix ix_list (pv 0) pe_int (fun _ _ => rfl)) pe_int (nomark _)) (pw_and1 (pt_cmpR (op_neD hr.units) (pe_ix ix_list (pv 0) pe_int (fun _ _ => rfl)) (pe_lst pa_nil) (nomark _)))))
        (pss_cons (ps_set (i := 2) nd rfl (.inl rfl) (pe_bm PySem.F.plainAttrs_list PySem.F.slot_list_pop PySem.F.type_list_pop mt_popAt (pe_ix ix_list (pv 0) pe_int (fun _ _ => rfl)) (pa_cons pe_int pa_nil)))
        (pss_cons (ps_asg (pe_op op_mod (pe_op op_add (pe_op op_add (pe_op op_mul (pe_ix ix_list (pv 0) pe_int (fun _ _ => rfl)) pe_int) (pv 2)) pe_int) pe_int) (pg_sub (pv 0) pe_int set_list))
        (pss_one (ps_asg (pe_op op_mul (pv 2) (pe_callTy call_int1 (by rfl) mi (by decide +kernel) (pa_cons (pe_cmpR op_ge (pv 2) (pe_op op_pow pe_int pe_int) (nomark _)) pa_nil))) (pg_sub (pv 0) pe_int set_list))))))
      (pss_cons (ps_if (pt_cmpR op_gt (pe_ix ix_list (pv 0) pe_int (fun _ _ => rfl)) pe_int (nomark _))
          (pss_cons (ps_set (i := 3) nd rfl (.inl rfl) (pe_op op_mod (pe_ix ix_list (pv 0) pe_int (fun _ _ => rfl)) (pv 1)))
          (pss_cons (ps_asg (pe_op op_fdiv (pe_ix ix_list (pv 0) pe_int (fun _ _ => rfl)) (pv 1)) (pg_sub (pv 0) pe_int set_list))
          (pss_one (ps_ret (pv 3))))) pss_nil)
      (pss_cons (ps_asg (pe_op op_add (pe_ix ix_list (pv 0) pe_int (fun _ _ => rfl)) pe_int) (pg_sub (pv 0) pe_int set_list))
      (pss_cons (ps_asg (pe_op op_mod (pe_op op_add (pe_op op_add (pe_op op_mul (pe_ix ix_list (pv 0) pe_int (fun _ _ => rfl)) pe_int)
          (pe_op op_mul pe_int (pe_ix ix_list (pv 0) pe_int (fun _ _ => rfl)))) pe_int) pe_int) (pg_sub (pv 0) pe_int set_list))
      (pss_one (ps_ret (pe_op op_mod (pe_op op_fdiv (pe_op op_mod (pe_op op_mul (pe_ix ix_list (pv 0) pe_int (fun _ _ => rfl)) (pe_ix ix_list (pv 0) pe_int (fun _ _ => rfl))) pe_int) pe_int) (pv 1))))))), ?_⟩
    obtain ⟨n1, n2, n3, hn', bs, cb, k, ha, hb, hc, q1, q2, q3, q4, q5, q6, q7⟩ := hS
    subst n3
    refine while_st (fun σ H1 => ∃ (bs : List Int) (cb : Int × Int) (x2 : Option V), σ = [some (.ref st), some (.int m), x2, none] ∧ H1 st = some (.lst [.ref cel, .int cb.1, .int k, .int cb.2]) ∧
        H1 cel = some (.lst (bs.map V.int)) ∧ (∀ b ∈ bs, 0 ≤ b) ∧ 0 ≤ cb.1 ∧ 0 ≤ cb.2 ∧ cb.2 < 1099511627776 ∧ bs.length ≤ 63 ∧ Kp st cel H H1)
      (fun σ H1 => match H1 cel with | some (.lst xs) => xs.length | _ => 0) ⟨bs, cb, none, rfl, ha, hb, q1, q2, q5, q6, q7, .refl H⟩ ?_ ?_ ?_
    · rintro σ H1 ⟨bs, cb, x2, rfl, a1, b1, p1, p2, p3, p4, p5, kp⟩
      have sA : SqL K H1 st [.ref cel, .int cb.1, .int k, .int cb.2] := SqL.of a1
      have cn : cel ≠ st := fun z => n2 z.symm
      refine ⟨.ref st, rfl, st, _, 1, _, rfl, rfl, sA, atI_nat (j := 1) rfl, _, _, rfl, rfl, _, rfl, ite2 (fun e => ?_) (fun e => ?_)⟩
      · have e0 : 0 < cb.1 := of_decide_eq_true e
        refine ⟨.ref st, rfl, st, _, 1, _, rfl, rfl, sA, atI_nat (j := 1) rfl, .int m, rfl, _, _, rfl, rfl, m0, ?_⟩
        refine ⟨.ref st, rfl, st, _, 1, _, rfl, rfl, sA, atI_nat (j := 1) rfl, .int m, rfl, _, _, rfl, rfl, ⟨m0, by omega⟩, .ref st, rfl, st, _, 1, 1, rfl, rfl, a1, rfl, ?_⟩
        refine ⟨.int (cb.1 % m), rfl, q _ _ (Int.emod_nonneg _ (by omega)) (Int.emod_lt_of_pos _ m0) ⟨n2, n2, rfl, by omega, bs, (cb.1 / m, cb.2), k, upd_same, by rw [upd_ne cn]; exact b1, by rw [upd_ne cn]; exact b1, p1, Int.ediv_nonneg (by omega) (by omega), q3, by omega, p3, p4, p5⟩ (kp.trans (.put (.inl rfl)))⟩
      · have kb : 0 ≤ k + 1 ∧ k + 1 ≤ 1000001 := by omega
        refine ⟨.ref st, rfl, st, _, 2, _, rfl, rfl, sA, atI_nat (j := 2) rfl, k, 1, rfl, rfl, .ref st, rfl, st, _, 2, 2, rfl, rfl, a1, rfl, ?_⟩
        generalize hH3 : upd H1 st (.lst ([V.ref cel, V.int cb.1, V.int k, V.int cb.2].set 2 (V.int (k + 1)))) = H3
        have a3 : H3 st = some (.lst [V.ref cel, V.int cb.1, V.int (k + 1), V.int cb.2]) := by
          rw [← hH3]
          exact upd_same
        have b3 : H3 cel = some (.lst (bs.map V.int)) := by
          rw [← hH3, upd_ne cn]
          exact b1
        have k3 : Kp st cel H H3 := by
          rw [← hH3]
          exact kp.trans (.put (.inl rfl))
        have S3 := SqL.of (K := K) a3
        refine ⟨.ref st, rfl, st, _, 3, _, rfl, rfl, S3, atI_nat (j := 3) rfl, _, _, rfl, rfl, .inr ⟨by decide, by decide⟩, .ref st, rfl, st, _, 2, _, rfl, rfl, S3, atI_nat (j := 2) rfl,
          _, _, rfl, rfl, .inl ⟨by decide, by decide⟩, _, _, rfl, rfl, _, _, rfl, rfl, _, _, rfl, rfl, (show (0 : Int) < 2147483647 by decide), .ref st, rfl, st, _, 3, 3, rfl, rfl, a3, rfl, ?_⟩
        dsimp only
        generalize hmx : cb.2 * 69621 + 30011 * (k + 1) + 12345 = mx
        have f0 : 0 ≤ mx % 2147483647 := Int.emod_nonneg _ (by decide)
        have f1 : mx % 2147483647 < 2147483647 := Int.emod_lt_of_pos _ (by decide)
        generalize mx % 2147483647 = my at f0 f1 ⊢
        have a4 : (upd H3 st (.lst ([V.ref cel, V.int cb.1, V.int (k + 1), V.int cb.2].set 3 (V.int my)))) st = some (.lst [.ref cel, .int cb.1, .int (k + 1), .int my]) := upd_same
        have b4 : (upd H3 st (.lst ([V.ref cel, V.int cb.1, V.int (k + 1), V.int cb.2].set 3 (V.int my)))) cel = some (.lst (bs.map V.int)) := by
          rw [upd_ne cn]
          exact b3
        have k4 : Kp st cel H (upd H3 st (.lst ([V.ref cel, V.int cb.1, V.int (k + 1), V.int cb.2].set 3 (V.int my)))) := k3.trans (.put (.inl rfl))
        generalize upd H3 st (.lst ([V.ref cel, V.int cb.1, V.int (k + 1), V.int cb.2].set 3 (V.int my))) = H4 at a4 b4 k4 ⊢
        have S4 := SqL.of (K := K) a4
        refine ⟨.ref st, rfl, st, _, 3, _, rfl, rfl, S4, atI_nat (j := 3) rfl, .ref st, rfl, st, _, 3, _, rfl, rfl, S4, atI_nat (j := 3) rfl, _, _, rfl, rfl, .inl ⟨by omega, by omega⟩, _, _, rfl, rfl, (show (0 : Int) < 2147483629 by decide), _, _, rfl, rfl, ⟨by decide, by decide⟩, .int m, rfl, _, m, rfl, rfl, m0, ?_⟩
        refine q H4 _ (Int.emod_nonneg _ (by omega)) (Int.emod_lt_of_pos _ m0) ⟨n2, n2, rfl, by omega, bs, (cb.1, my), k + 1, a4, b4, b4, p1, p2, by omega, by omega, f0, by omega, p5⟩ k4
    · rintro σ H1 ⟨bs, cb, x2, rfl, a1, b1, p1, p2, p3, p4, p5, kp⟩
      have sA : SqL K H1 st [.ref cel, .int cb.1, .int k, .int cb.2] := SqL.of a1
      have sB : SqL K H1 cel (bs.map V.int) := SqL.of b1
      refine ⟨.ref st, rfl, st, _, 1, _, rfl, rfl, sA, atI_nat (j := 1) rfl, rfl, _, rfl, iteB (fun e => ?_) fun e => ⟨⟨bs, cb, x2, rfl, a1, b1, p1, p2, p3, p4, p5, kp⟩, fun z => nomatch z⟩⟩
      have e0 : cb.1 = 0 := V.int.inj (of_decide_eq_true e)
      refine ⟨.ref st, rfl, st, _, 0, _, rfl, rfl, sA, atI_nat (j := 0) rfl, sz (Nat.zero_le _), fun e ne => ?_⟩
      have sm : Same H1 (upd H1 e (.lst [])) := Same.new ne
      have a2 := sm _ _ a1
      have b2 := sm _ _ b1
      refine ⟨_, _, dp_lst (sm.seq sB), dp_nil (SqL.of upd_same), shaped_lst bs, shaped_nil, _, rfl, ⟨bs, cb, x2, rfl, a2, b2, p1, p2, p3, p4, p5, kp.trans (.new ne)⟩, ?_⟩
      generalize upd H1 e (.lst []) = H2 at sm a2 b2 ⊢
      intro hne
      cases bs with
      | nil => rw [eqv_nil] at hne; cases hne
      | cons b r =>
        have hb0 : 0 ≤ b := p1 b List.mem_cons_self
        refine ⟨.ref st, rfl, st, _, 0, .ref cel, rfl, rfl, SqL.of a2, atI_nat (j := 0) rfl, .inl ⟨rfl, _, SqL.of b2⟩, cel, _, 0, 0, .int b, rfl, rfl, b2, by decide, by decide, ?_, rfl, ?_⟩
        · exact seqIndex_of (by decide) (by simp)
        have a3 : (upd H2 cel (.lst (r.map V.int))) st = some (.lst [.ref cel, .int cb.1, .int k, .int cb.2]) := by
          rw [upd_ne n2]
          exact a2
        have b3 : (upd H2 cel (.lst (r.map V.int))) cel = some (.lst (r.map V.int)) := upd_same
        have k3 : Kp st cel H (upd H2 cel (.lst (r.map V.int))) := (kp.trans (.of sm)).trans (.put (.inr rfl))
        show gName 2 (V.int b) _ (upd H2 cel (.lst (r.map V.int))) _
        generalize upd H2 cel (.lst (r.map V.int)) = H3 at a3 b3 k3 ⊢
        have S3 := SqL.of (K := K) a3
        have cn : cel ≠ st := fun z => n2 z.symm
        refine ⟨.ref st, rfl, st, _, 3, _, rfl, rfl, S3, atI_nat (j := 3) rfl, _, _, rfl, rfl, .inr ⟨by decide, by decide⟩, .int b, rfl, _, _, rfl, rfl, _, _, rfl, rfl, _, _, rfl, rfl, (show (0 : Int) < 2147483647 by decide), .ref st, rfl, st, _, 3, 3, rfl, rfl, a3, rfl, ?_⟩
        dsimp only
        generalize hbl : (cb.2 * 48271 + b + 7) % 2147483647 = bl
        have g0 : 0 ≤ bl := by rw [← hbl]; exact Int.emod_nonneg _ (by decide)
        have g1 : bl < 2147483647 := by rw [← hbl]; exact Int.emod_lt_of_pos _ (by decide)
        have a4 : (upd H3 st (.lst ([V.ref cel, V.int cb.1, V.int k, V.int cb.2].set 3 (V.int bl)))) st = some (.lst [.ref cel, .int cb.1, .int k, .int bl]) := upd_same
        have b4 : (upd H3 st (.lst ([V.ref cel, V.int cb.1, V.int k, V.int cb.2].set 3 (V.int bl)))) cel = some (.lst (r.map V.int)) := by
          rw [upd_ne cn]
          exact b3
        have k4 : Kp st cel H (upd H3 st (.lst ([V.ref cel, V.int cb.1, V.int k, V.int cb.2].set 3 (V.int bl)))) := k3.trans (.put (.inl rfl))
        generalize upd H3 st (.lst ([V.ref cel, V.int cb.1, V.int k, V.int cb.2].set 3 (V.int bl))) = H4 at a4 b4 k4 ⊢
        refine ⟨.int b, rfl, .int b, rfl, _, _, rfl, rfl, ⟨by decide, by decide, by decide⟩, _, _, rfl, rfl, .inr ⟨_, rfl, ?_⟩⟩
        generalize hf : (if decide (b ≥ 10 ^ (18 : Int).toNat) = true then (1 : Int) else 0) = f
        have hf1 : f = 0 ∨ f = 1 := by
          rw [← hf]
          split <;> simp
        refine ⟨b, f, rfl, rfl, .inr ⟨by omega, by omega⟩, .ref st, rfl, st, _, 1, 1, rfl, rfl, a4, rfl, ?_⟩
        refine ⟨⟨r, (b * f, bl), some (.int b), rfl, upd_same, by rw [upd_ne cn]; exact b4, fun z hz => p1 z (List.mem_cons_of_mem _ hz), ?_, g0, by omega, by rw [List.length_cons] at p5; omega, k4.trans (.put (.inl rfl))⟩, ?_⟩
        · rcases hf1 with h | h <;> rw [h] <;> omega
        · have e5 : (upd H4 st (.lst ([V.ref cel, V.int cb.1, V.int k, V.int bl].set 1 (V.int (b * f))))) cel = some (.lst (r.map V.int)) := by rw [upd_ne cn]; exact b4
          simp only [e5, b1]
          simp
    · rintro σ H1 Q1 Q2 hQ ⟨v1, e1, p, xs, i, v, h2, h3, h4, h5, h6, kk, hk, h7⟩
      refine ⟨v1, e1, p, xs, i, v, h2, h3, h4, h5, h6, kk, hk, ?_⟩
      cases kk with
      | false => exact iteF (hQ _ _ (by rw [if_neg Bool.false_ne_true] at h7; exact h7))
      | true =>
        rw [if_pos rfl] at h7
        obtain ⟨v1, e1, p, xs, i, v, h2, h3, h4, h5, h7⟩ := h7
        refine iteT ⟨v1, e1, p, xs, i, v, h2, h3, h4, h5, h7.1, fun e ne => ?_⟩
        obtain ⟨d1, d2, g1, g2, g3, g4, c, g5, g6⟩ := h7.2 e ne
        exact ⟨d1, d2, g1, g2, g3, g4, c, g5, hQ _ _ g6⟩
end

end Sv

namespace Sv
open PySem PySem.Spec PyProof.Rows L2
theorem yesT {σ : L2.St} {H : Hp} {A B : Hp → Prop} (h : A H) : tYes σ H (fun b H3 => if b = true then A H3 else B H3) := by
  show (if true = true then A H else B H)
  rw [if_pos rfl]
  exact h
theorem Same.put {H H' : Hp} {p : Addr} {o : HO} (h : H p = none) (e : Same H H') : Same H (upd H' p o) := fun c u q => by
  rw [upd_ne (ne_of_none q h)]
  exact e _ _ q
def absI (n : Int) : Int := if n < 0 then -n else n
theorem absI_nn (n : Int) : 0 ≤ absI n := by
  unfold absI
  split <;> omega
theorem cut_toM {xs : List V} (i : Nat) : cutV xs none (some (i : Int)) = xs.take i := by
  unfold cutV
  rw [HT.sIx_none, HT.sIx_nat]
  by_cases h : i ≤ xs.length
  · rw [Nat.min_eq_left h]
    rfl
  · rw [Nat.min_eq_right (by omega), List.take_of_length_le (i := i) (by omega)]
    show (xs.drop 0).take (xs.length - 0) = xs
    rw [List.drop_zero, Nat.sub_zero, List.take_length]
def spState (K : PySem.W.Frag) : Sp := fun vs H Q _ => ∃ (a : Addr) (ns : List Int), vs = [.ref a] ∧ SqL K H a (ns.map V.int) ∧ ns.length ≤ 63 ∧
  ∀ (H' : Hp) (st big cel : Addr), StAt H' st big cel 0 → Same H H' → H st = none → H big = none → H cel = none → Q (.ref st) H'
section
variable {P : Program} {w : World} {K : PySem.W.Frag} {mg : Str → Option Value} {base : Heap}
theorem ok_state {f : Addr} {fd : FuncData} (F : Fun K "_law_deck" "_law_deck" sState f fd) (ml : mg "len" = none) (ma : mg "abs" = none) : FnOk P w K mg base CX0 1 f fd ["_law_script"] (spState K) := by
  refine F.ok scState (fun vs H Q E h => ?_) (fun cdv A outer s H vs Q E hr h => ?_)
  · obtain ⟨a, ns, rfl, _⟩ := h
    rfl
  · obtain ⟨a, ns, rfl, hS, hlen, q⟩ := h
    refine ⟨_, pss_one (ps_ret (pe_lst (pa_cons (pe_lc (own := [("_law_cell", 1)]) (g := gName 1) (by rfl) scState.nd (pi_list (pe_slice sl_list (pv 0) po_none (po_some pe_int)))
          (blkOk_by (own := [("_law_cell", 1)]) (N := ["_law_script", "_law_cell"]) (sc := defScope sState) (by decide +kernel))
          (fun _ _ _ _ _ => pg_name (i := 1) scState.nd rfl (Or.inl rfl)) (fun _ _ _ _ _ => pts_nil)
          (fun _ _ _ _ _ => pe_callB call_abs (by rfl) ma (by decide +kernel) (pa_cons (pv 1) pa_nil)))
        (pa_cons pe_int (pa_cons pe_int (pa_cons (pe_op op_add pe_int (pe_op op_mul pe_int (pe_callB call_len_seq (by rfl) ml PySem.boot_len (pa_cons (pv 0) pa_nil)))) pa_nil)))))), ?_⟩
    refine ⟨.ref a, rfl, 63, rfl, a, _, rfl, hS, fun c nc => ?_⟩
    have hct : cutV (ns.map V.int) none (some 63) = ns.map V.int := by
      have := cut_toM (xs := ns.map V.int) 63
      rw [List.take_of_length_le (by rw [List.length_map]; exact hlen)] at this
      exact this
    rw [hct]
    have s1 : Same H (upd H c (.lst (ns.map V.int))) := Same.new nc
    have hc1 : (upd H c (.lst (ns.map V.int))) c = some (.lst (ns.map V.int)) := upd_same
    generalize upd H c (.lst (ns.map V.int)) = H1 at s1 hc1 ⊢
    refine ⟨c, rfl, ⟨_, SqL.of hc1⟩, fun D nD => ?_⟩
    refine lc_list (K := K) (a := c) (xs := ns.map V.int) (fun i H' => Same H1 H' ∧ H' D = some (.lst ((ns.take i).map fun n => V.int (absI n))))
      ⟨Same.new nD, upd_same⟩ (fun i H' _ p => p.1.seq (SqL.of hc1)) (fun i x H' hx p => ?_) (fun H2 p => ?_)
    · obtain ⟨n, hn, rfl⟩ : ∃ n, ns[i]? = some n ∧ V.int n = x := by
        rw [List.getElem?_map] at hx
        cases e : ns[i]? with
        | none => rw [e] at hx; cases hx
        | some n => rw [e] at hx; exact ⟨n, rfl, Option.some.inj hx⟩
      refine ⟨rfl, ?_⟩
      refine yesT ?_
      refine ⟨_, rfl, n, rfl, _, p.2, ?_, Same.put nD p.1, ?_⟩
      · rw [List.length_map, List.length_take]
        exact Nat.lt_of_le_of_lt (Nat.min_le_right _ _) (small1000 (by omega))
      · rw [upd_same, List.take_add_one, hn, List.map_append]
        rfl
    · obtain ⟨s2, hD⟩ := p
      rw [List.length_map, List.take_length] at hD
      have ecs : (ns.map fun n => V.int (absI n)) = (ns.map absI).map V.int := by rw [List.map_map]; rfl
      rw [ecs] at hD
      refine ⟨.ref a, rfl, a, _, rfl, .inl (s2.seq (s1.seq hS)), _, _, rfl, rfl, .inl ⟨by decide, by decide⟩, _, _, rfl, rfl, sz (by show 4 ≤ 1000; decide), fun st nst => ?_⟩
      have s3 := Same.new (o := .lst [V.ref D, V.int 0, V.int 0, V.int (11 + 37 * ((ns.map V.int).length : Int))]) nst
      have Dst : st ≠ D := fun z => by rw [z, hD] at nst; cases nst
      refine q _ st D D ⟨Dst, Dst, rfl, by decide, ns.map absI, (0, 11 + 37 * ((ns.map V.int).length : Int)), 0, upd_same, s3 _ _ hD, s3 _ _ hD, ?_, Int.le_refl _, Int.le_refl _, Int.le_refl _, ?_, ?_, ?_⟩ ((s1.trans s2).trans s3) ((s1.trans s2).free nst) (s1.free nD) (s1.free nD)
      · intro b hb
        obtain ⟨m, _, rfl⟩ := List.mem_map.mp hb
        exact absI_nn m
      · show (0 : Int) ≤ 11 + 37 * ((ns.map V.int).length : Int)
        omega
      · show 11 + 37 * ((ns.map V.int).length : Int) < 1099511627776
        rw [List.length_map]
        omega
      · rw [List.length_map]
        exact hlen
end

end Sv

namespace Sv
open PySem PySem.Spec PyProof.Rows L2
abbrev sMixed : Stmt := topS 17
abbrev nMixed : List Str := ["_law_deck_here", "_law_items", "_law_left", "_law_found"]
theorem scMixed : FnScope nMixed ["_law_deck_here", "_law_items"] (defScope sMixed) := ⟨rfl, rfl, rfl, by decide +kernel, rfl, by decide +kernel, by decide +kernel⟩
theorem gN {i : Nat} {v : V} {σ : L2.St} {H : Hp} {Q : L2.St → Hp → Prop} (h : Q (σ.set i (some v)) H) : gName i v σ H Q := h
theorem ifS {c : TT} {t u : TS} {D : Ends} {σ : L2.St} {H : Hp} (h : c σ H fun b H1 => if b = true then t D σ H1 else u D σ H1) : tIfS c t u D σ H := h
theorem asgS {te : TE} {g : TG} {D : Ends} {σ : L2.St} {H : Hp} (h : te σ H fun x H1 => g x σ H1 D.nx) : tAsg te g D σ H := h
theorem seqS {t u : TS} {D : Ends} {σ : L2.St} {H : Hp} (h : t { D with nx := u D } σ H) : tSeq t u D σ H := h
theorem Kp.put' {a b : Addr} {H H1 : Hp} {p : Addr} {o : HO} (h : H p = none) (e : Kp a b H H1) : Kp a b H (upd H1 p o) := fun c u h1 h2 q => by
  rw [upd_ne (ne_of_none q h)]
  exact e _ _ h1 h2 q
theorem erase_perm {α : Type} : ∀ (l : List α) (i : Nat) (x : α), l[i]? = some x → (x :: l.eraseIdx i).Perm l
  | [], i, x, h => by simp at h
  | a :: r, 0, x, h => by
    have e : a = x := Option.some.inj h
    subst e
    exact .refl _
  | a :: r, i + 1, x, h => (List.Perm.swap a x _).trans ((erase_perm r i x h).cons a)
theorem eraseIdx_map {α β : Type} (f : α → β) : ∀ (l : List α) (i : Nat), (l.map f).eraseIdx i = (l.eraseIdx i).map f
  | [], _ => rfl
  | _ :: _, 0 => rfl
  | a :: r, i + 1 => by
    show f a :: (r.map f).eraseIdx i = f a :: (r.eraseIdx i).map f
    rw [eraseIdx_map f r i]
theorem at_map {α β : Type} {f : α → β} {l : List α} {i : Nat} {x : α} (h : l[i]? = some x) : (l.map f)[i]? = some (f x) := by
  rw [List.getElem?_map, h]
  rfl
theorem of_at_map {α β : Type} {f : α → β} {l : List α} {i : Nat} {y : β} (h : (l.map f)[i]? = some y) : ∃ x, l[i]? = some x ∧ f x = y := by
  rw [List.getElem?_map] at h
  cases e : l[i]? with
  | none => rw [e] at h; cases h
  | some x => rw [e] at h; exact ⟨x, rfl, Option.some.inj h⟩
theorem pe_bmK {X : Cx} {K : PySem.W.Frag} {T : String} {name : Str} {id : String} {r : V → List V → Hp → VK → Prop} {o e : Expr} {es : List Expr} {apos cpos : Pos} {to : TE} {t : TA} (hK : X.K = K) (pa : PlainAttrs T) (slot : Slot T name id) (hty : typeOf (.builtin id) = pure (.type "method_descriptor")) (hm : MtR X id r) (ho : PE X o to) (ha : PA X (e :: es) t)
    (hbase : attributeBase o name X.env (eval o X.env) = eval o X.env := by rfl)
    (hfew : ((backTo cpos (starEach (e :: es) X.env)).all (fun x => !x.1) && (backToKw cpos (keywordEach [] X.env)).all (fun x => x.1.isSome)
      && decide ((e :: es).length + ([] : List Keyword).length + (if ([] : List Keyword).isEmpty then 0 else 1) < 30)) = true := by rfl)
    (hline : (apos.endLine == cpos.line) = true := by rfl) (hs : starEach (e :: es) X.env = (false, eval e X.env) :: starEach es X.env := by rfl) (hplain : (backTo cpos (starEach es X.env)).any (·.1) = false := by rfl) :
    PE X (.Call (.Attribute o name apos) (e :: es) [] cpos) (tBM K T r to t) := hK ▸ pe_bm pa slot hty hm ho ha hbase hfew hline hs hplain
def spMixed (K : PySem.W.Frag) : Sp := fun vs H Q _ => ∃ (st big cel a : Addr) (n : Nat) (ns : List Int), vs = [.ref st, .ref a] ∧ (SqL K H a (ns.map V.int) ∨ SqT K H a (ns.map V.int)) ∧ ns.length ≤ 1000 ∧
  StAt H st big cel n ∧ n + ns.length ≤ 1000000 ∧
  ∀ (H' : Hp) (t : Addr) (ms : List Int), H t = none → H' t = some (.lst (ms.map V.int)) → ms.Perm ns → StAt H' st big cel (n + ns.length) → Kp st big H H' → Q (.ref t) H'
section
variable {P : Program} {w : World} {K : PySem.W.Frag} {mg : Str → Option Value} {base : Heap}
theorem ok_mixed {f fD : Addr} {fd fdD : FuncData} (F : Fun K "_law_shuffled" "_law_shuffled" sMixed f fd) (FD : Fun K "_law_next" "_law_next" sDraw fD fdD) (bD : Binds K fdD ["_law_deck_here", "_law_many"] [])
    (gD : mg "_law_next" = some (.ref fD)) (ml : mg "len" = none) (mli : mg "list" = none) (mi : mg "int" = none) : FnOk P w K mg base CX0 2 f fd ["_law_deck_here", "_law_items"] (spMixed K) := by
  have GD : FnOk P w K mg base CX0 1 fD fdD ["_law_deck_here", "_law_many"] spDraw := ok_draw FD mi
  refine F.ok scMixed (fun vs H Q E h => ?_) (fun cdv A outer s H vs Q E hr h => ?_)
  · obtain ⟨st, big, cel, a, n, ns, rfl, _⟩ := h
    rfl
  · obtain ⟨st, big, cel, a, n, ns, rfl, hA, hlen, hS, hn, q⟩ := h
    have nd := scMixed.nd
    refine ⟨_, pss_cons (ps_set (i := 2) nd rfl (.inl rfl) (pe_callTy call_list_of (by rfl) mli (by decide +kernel) (pa_cons (pv 1) pa_nil)))
      (pss_cons (ps_set (i := 3) nd rfl (.inl rfl) (pe_lst pa_nil))
      (pss_cons (ps_while PassesOwn.never (pt_cmpR (op_neD hr.units) (pv 2) (pe_lst pa_nil) (nomark _))
        (pss_one (ps_expr (pe_bm PySem.F.plainAttrs_list PySem.F.slot_list_append PySem.F.type_list_append mt_append (pv 3)
          (pa_cons (pe_bm PySem.F.plainAttrs_list PySem.F.slot_list_pop PySem.F.type_list_pop mt_popAt (pv 2)
            (pa_cons (pe_call GD hr (by rfl) gD FD.kp bD .nil pass0 (pa_cons (pv 0) (pa_cons (pe_callB call_len_seq (by rfl) ml PySem.boot_len (pa_cons (pv 2) pa_nil)) pa_nil))) pa_nil)) pa_nil)))))
      (pss_one (ps_ret (pv 3))))), ?_⟩
    refine ⟨.ref a, rfl, a, _, rfl, hA, fun l nl => ?_⟩
    have sl : Same H (upd H l (.lst (ns.map V.int))) := Same.new nl
    have snel := hS.ne nl
    refine ⟨sz (Nat.zero_le _), fun D nD => ?_⟩
    have nD0 : H D = none := sl.free nD
    have sneD := hS.ne nD0
    have lD : l ≠ D := fun z => by
      rw [← z, upd_same] at nD
      cases nD
    have hl0 : (upd (upd H l (.lst (ns.map V.int))) D (.lst [])) l = some (.lst (ns.map V.int)) := by rw [upd_ne lD, upd_same]
    have hD0 : (upd (upd H l (.lst (ns.map V.int))) D (.lst [])) D = some (.lst (([] : List Int).map V.int)) := upd_same
    have hS0 : StAt (upd (upd H l (.lst (ns.map V.int))) D (.lst [])) st big cel n := (hS.same sl).same (Same.new nD)
    have k0 : Kp st big H (upd (upd H l (.lst (ns.map V.int))) D (.lst [])) := Kp.put' nD0 (Kp.put' nl (.refl H))
    generalize upd (upd H l (.lst (ns.map V.int))) D (.lst []) = H0 at hl0 hD0 hS0 k0 ⊢
    refine gN ?_
    dsimp only [gName, tSeq, tAsg, tC]
    obtain ⟨W, hW⟩ : ∃ W : Nat → L2.St → Hp → Prop, W = fun m σ H' => ∃ (ls fs : List Int), σ = [some (.ref st), some (.ref a), some (.ref l), some (.ref D)] ∧ H' l = some (.lst (ls.map V.int)) ∧ H' D = some (.lst (fs.map V.int)) ∧ (fs ++ ls).Perm ns ∧ StAt H' st big cel (n + fs.length) ∧ Kp st big H H' ∧ m = ls.length := ⟨_, rfl⟩
    refine ⟨W, ⟨_, by rw [hW]; exact ⟨ns, [], rfl, hl0, hD0, .refl _, hS0, k0, rfl⟩⟩, fun m σ H1 z => ?_⟩
    rw [hW] at z
    obtain ⟨ls, fs, rfl, hl, hD, hp, hS1, kp, hm⟩ := z
    have hpl := hp.length_eq
    rw [List.length_append] at hpl
    refine ⟨.ref l, rfl, sz (Nat.zero_le _), fun e ne => ?_⟩
    have se : Same H1 (upd H1 e (.lst [])) := Same.new ne
    have hl2 := se _ _ hl
    have hD2 := se _ _ hD
    have hS2 := hS1.same se
    have kp2 := kp.trans (.of se)
    refine ⟨_, _, dp_lst (SqL.of hl2), dp_nil (SqL.of upd_same), shaped_lst ls, shaped_nil, _, rfl, ?_⟩
    generalize upd H1 e (.lst []) = H2 at hl2 hD2 hS2 kp2 ⊢
    rw [eqv_nil]
    cases ls with
    | nil =>
      refine iteF ?_
      rw [List.append_nil] at hp
      rw [List.length_nil, Nat.add_zero] at hpl
      rw [hpl] at hS2
      exact ⟨.ref D, rfl, q _ D fs nD0 hD2 hp hS2 kp2⟩
    | cons b r =>
      refine iteT ⟨fun σ' H'' => ∃ m', m' < m ∧ W m' σ' H'', fun _ _ z => z, ?_⟩
      have hbl : (b :: r).length ≤ 1000 := by omega
      refine ⟨.ref D, rfl, .inl ⟨rfl, _, SqL.of hD2⟩, .ref l, rfl, .inl ⟨rfl, _, SqL.of hl2⟩, .ref st, rfl, .ref l, rfl, l, _, rfl, .inl (SqL.of hl2), st, big, cel, n + fs.length, _, rfl, ?_, ?_, hS2, by rw [List.length_cons] at hpl; omega, fun H3 v v0 v1 hS3 k3 => ?_⟩
      · rw [List.length_map, List.length_cons]
        omega
      · rw [List.length_map]
        omega
      rw [List.length_map] at v1
      obtain ⟨i, rfl⟩ : ∃ i : Nat, v = (i : Int) := ⟨v.toNat, (Int.toNat_of_nonneg v0).symm⟩
      have hi : i < (b :: r).length := by omega
      have hl3 := k3 _ _ snel.1.symm snel.2.1.symm hl2
      have hD3 := k3 _ _ sneD.1.symm sneD.2.1.symm hD2
      have hat := List.getElem?_eq_getElem hi
      refine ⟨l, _, i, i, _, rfl, rfl, hl3, by omega, by omega, ?_, at_map hat, ?_⟩
      · have e := seqIndex_of (k := (i : Int)) (n := (List.map V.int (b :: r)).length) (by omega) (by rw [List.length_map]; omega)
        rw [e, Int.toNat_natCast]
      · rw [eraseIdx_map]
        refine ⟨D, _, _, rfl, rfl, by rw [upd_ne lD.symm]; exact hD3, ?_, ?_⟩
        · rw [List.length_map]
          exact small1000 (by omega)
        refine ⟨((b :: r).eraseIdx i).length, ?_, ?_⟩
        · rw [List.length_eraseIdx, if_pos hi, hm]
          omega
        rw [hW]
        refine ⟨(b :: r).eraseIdx i, fs ++ [(b :: r)[i]], rfl, ?_, ?_, ?_, ?_, ?_, rfl⟩
        · rw [upd_ne lD]
          exact upd_same
        · rw [upd_same, List.map_append]
          rfl
        · rw [List.append_assoc]
          exact ((erase_perm _ _ _ hat).append_left fs).trans hp
        · obtain ⟨h1, h2, h3, h4, bs, cs, k, d1, d2, d3, d4⟩ := hS3
          rw [List.length_append, List.length_singleton, ← Nat.add_assoc]
          refine ⟨h1, h2, h3, h4, bs, cs, k, ?_, ?_, ?_, d4⟩
          · rw [upd_ne sneD.1, upd_ne snel.1]
            exact d1
          · rw [upd_ne sneD.2.1, upd_ne snel.2.1]
            exact d2
          · rw [upd_ne sneD.2.2, upd_ne snel.2.2]
            exact d3
        · exact Kp.put' nD0 (Kp.put' nl (kp2.trans k3))
end

end Sv

namespace Sv
open PySem PySem.Spec PyProof.Rows L2
abbrev sPick : Stmt := topS 19
theorem scPick : FnScope ["_law_deck_here", "_law_items"] ["_law_deck_here", "_law_items"] (defScope sPick) := ⟨rfl, rfl, rfl, by decide +kernel, rfl, by decide +kernel, by decide +kernel⟩
/-- items[draw] of a list or a tuple -/
def spPick (K : PySem.W.Frag) : Sp := fun vs H Q _ => ∃ (st big cel a : Addr) (n : Nat) (xs : List V), vs = [.ref st, .ref a] ∧ a ≠ st ∧ a ≠ big ∧ SqL K H a xs ∧ xs ≠ [] ∧ xs.length < 1000000 ∧
  StAt H st big cel n ∧ n < 1000000 ∧ ∀ (H' : Hp) (i : Nat) (v : V), xs[i]? = some v → StAt H' st big cel (n + 1) → Kp st big H H' → Q v H'
section
variable {P : Program} {w : World} {K : PySem.W.Frag} {mg : Str → Option Value} {base : Heap}
theorem ok_pick {f fD : Addr} {fd fdD : FuncData} (F : Fun K "_law_one" "_law_one" sPick f fd) (FD : Fun K "_law_next" "_law_next" sDraw fD fdD) (bD : Binds K fdD ["_law_deck_here", "_law_many"] [])
    (gD : mg "_law_next" = some (.ref fD)) (ml : mg "len" = none) (mi : mg "int" = none) : FnOk P w K mg base CX0 2 f fd ["_law_deck_here", "_law_items"] (spPick K) := by
  have GD : FnOk P w K mg base CX0 1 fD fdD ["_law_deck_here", "_law_many"] spDraw := ok_draw FD mi
  refine F.ok scPick (fun vs H Q E h => ?_) (fun cdv A outer s H vs Q E hr h => ?_)
  · obtain ⟨st, big, cel, a, n, ns, rfl, _⟩ := h
    rfl
  · obtain ⟨st, big, cel, a, n, xs, rfl, a1, a2, hA, hne, hlen, hS, hn, q⟩ := h
    refine ⟨_, pss_one (ps_ret (pe_ix ix_list (pv 1) (pe_call GD hr (by rfl) gD FD.kp bD .nil pass0 (pa_cons (pv 0) (pa_cons (pe_callB call_len_seq (by rfl) ml PySem.boot_len (pa_cons (pv 1) pa_nil)) pa_nil))) (fun _ _ => rfl))), ?_⟩
    have hp : 0 < xs.length := List.length_pos_iff.mpr hne
    refine ⟨.ref a, rfl, .ref st, rfl, .ref a, rfl, a, _, rfl, .inl hA, st, big, cel, n, _, rfl, by omega, by omega, hS, hn, fun H3 v v0 v1 hS3 k3 => ?_⟩
    obtain ⟨i, rfl⟩ : ∃ i : Nat, v = (i : Int) := ⟨v.toNat, (Int.toNat_of_nonneg v0).symm⟩
    have hi : i < xs.length := by omega
    have hat := List.getElem?_eq_getElem hi
    have hA3 : SqL K H3 a xs := by
      rcases hA with (h | ⟨o, h⟩) | h
      · exact .inl (.inl (k3 _ _ a1 a2 h))
      · exact .inl (.inr ⟨o, k3 _ _ a1 a2 h⟩)
      · exact .inr h
    exact ⟨a, _, i, _, rfl, rfl, hA3, atI_nat hat, q H3 i _ hat hS3 k3⟩
end

end Sv

namespace Sv
open PySem PySem.Spec PyProof.Rows L2
/-! ### histories, grown event by event -/
inductive Grown (c : Nat) (nm : List Int) : List (List Int) → List (Int × Int) → Nat → Nat → Prop
  | start : Grown c nm (List.replicate c []) [] 0 0
  | skip {r o u k} : Grown c nm r o u k → Grown c nm r o u (k + 1)
  | save {r o u k p row} : Grown c nm r o u k → r[p]? = some row → Grown c nm (r.set p (row ++ [0])) o u (k + 1)
  | send {r o u k p row m} : Grown c nm r o u k → r[p]? = some row → nm[u]? = some m → Grown c nm (r.set p (row ++ [m])) (o ++ [(m, (p : Int))]) (u + 1) (k + 1)
  | recv {r o u k row j m q} {p : Nat} : Grown c nm r o u k → r[p]? = some row → o[j]? = some (m, q) → q ≠ (p : Int) → Grown c nm (r.set p (row ++ [0 - m])) (o.eraseIdx j) u (k + 1)
def names24 : List Int := (List.range 24).map fun (i : Nat) => (1 : Int) + (i : Nat)
/-- the rows of a history that the law may draw: at most `many` rows, `most` events -/
def Good (many most : Nat) (rows : List (List Int)) : Prop := ∃ (c : Nat) (nm : List Int) (o : List (Int × Int)) (u k : Nat), 1 ≤ c ∧ c ≤ many ∧ nm.Perm names24 ∧ Grown c nm rows o u k ∧ k ≤ most
theorem Grown.len {c : Nat} {nm : List Int} {r : List (List Int)} {o : List (Int × Int)} {u k : Nat} (h : Grown c nm r o u k) : r.length = c := by
  induction h with
  | start => exact List.length_replicate ..
  | skip _ ih => exact ih
  | save _ _ ih => rw [List.length_set]; exact ih
  | send _ _ _ ih => rw [List.length_set]; exact ih
  | recv _ _ _ _ ih => rw [List.length_set]; exact ih
theorem sum_len_set {r : List (List Int)} {p : Nat} {row : List Int} {v : Int} (h : r[p]? = some row) : ((r.set p (row ++ [v])).map List.length).sum = (r.map List.length).sum + 1 := by
  induction r generalizing p with
  | nil => simp at h
  | cons a r ih =>
    cases p with
    | zero =>
      have e : a = row := Option.some.inj h
      subst e
      simp only [List.set_cons_zero, List.map_cons, List.sum_cons, List.length_append, List.length_singleton]
      omega
    | succ p =>
      have := ih (p := p) h
      simp only [List.set_cons_succ, List.map_cons, List.sum_cons, this]
      omega
theorem Grown.events {c : Nat} {nm : List Int} {r : List (List Int)} {o : List (Int × Int)} {u k : Nat} (h : Grown c nm r o u k) : (r.map List.length).sum ≤ k := by
  induction h with
  | start => simp
  | skip _ ih => omega
  | save _ h ih => rw [sum_len_set h]; omega
  | send _ h _ ih => rw [sum_len_set h]; omega
  | recv _ h _ _ ih => rw [sum_len_set h]; omega
theorem Grown.opens_le {c : Nat} {nm : List Int} {r : List (List Int)} {o : List (Int × Int)} {u k : Nat} (h : Grown c nm r o u k) : o.length ≤ k := by
  induction h with
  | start => exact Nat.le_refl _
  | skip _ ih => omega
  | save _ _ ih => omega
  | send _ _ _ ih => rw [List.length_append, List.length_singleton]; omega
  | recv _ _ _ _ ih =>
    rw [List.length_eraseIdx]
    split <;> omega
theorem len_le_sum {r : List (List Int)} {p : Nat} {row : List Int} (h : r[p]? = some row) : row.length ≤ (r.map List.length).sum := by
  induction r generalizing p with
  | nil => simp at h
  | cons a r ih =>
    cases p with
    | zero =>
      have e : a = row := Option.some.inj h
      subst e
      simp only [List.map_cons, List.sum_cons]
      omega
    | succ p =>
      have := ih (p := p) h
      simp only [List.map_cons, List.sum_cons]
      omega
/-! ### rows and pairs in the heap -/
def Rows (K : PySem.W.Frag) (H : Hp) (refs : List Addr) (rows : List (List Int)) : Prop := refs.length = rows.length ∧ ∀ (i : Nat) (a : Addr) (row : List Int), refs[i]? = some a → rows[i]? = some row → TupN H a (row.map V.int)
def Opens (K : PySem.W.Frag) (H : Hp) (refs : List Addr) (o : List (Int × Int)) : Prop := refs.length = o.length ∧ ∀ (i : Nat) (a : Addr) (p : Int × Int), refs[i]? = some a → o[i]? = some p → SqT K H a [.int p.1, .int p.2]
def TupK (K : PySem.W.Frag) (H H' : Hp) : Prop := (∀ (a : Addr) (xs : List V), SqT K H a xs → SqT K H' a xs) ∧ ∀ (a : Addr) (xs : List V), TupN H a xs → TupN H' a xs
theorem TupK.of {K : PySem.W.Frag} {H H' : Hp} (h : Same H H') : TupK K H H' := ⟨fun a xs q => by
  rcases q with (q | ⟨o, q⟩) | q
  · exact .inl (.inl (h _ _ q))
  · exact .inl (.inr ⟨o, h _ _ q⟩)
  · exact .inr q, fun a xs q => q.same h⟩
theorem TupK.put {K : PySem.W.Frag} {H : Hp} {l : Addr} {xs : List V} {o : HO} (h : H l = some (.lst xs)) : TupK K H (upd H l o) := ⟨fun a ys q => by
  rcases q with (q | ⟨o, q⟩) | q
  · exact .inl (.inl (by rw [upd_ne (ne_of q h (by intro z; cases z))]; exact q))
  · exact .inl (.inr ⟨o, by rw [upd_ne (ne_of q h (by intro z; cases z))]; exact q⟩)
  · exact .inr q, fun a ys q => by
  obtain ⟨o, q, d⟩ := q
  exact ⟨o, by rw [upd_ne (ne_of q h (by intro z; cases z))]; exact q, d⟩⟩
theorem StAt.tupK {K : PySem.W.Frag} {H H' : Hp} {st big cel : Addr} {n : Nat} (h : StAt H st big cel n) (e : Kp st big H H') : TupK K H H' := ⟨fun _ _ q => h.tup e q, fun _ _ q => h.tupN e q⟩
theorem Rows.keep {K : PySem.W.Frag} {H H' : Hp} {refs : List Addr} {rows : List (List Int)} (h : Rows K H refs rows) (e : TupK K H H') : Rows K H' refs rows := ⟨h.1, fun i a row h1 h2 => e.2 _ _ (h.2 i a row h1 h2)⟩
theorem Opens.keep {K : PySem.W.Frag} {H H' : Hp} {refs : List Addr} {o : List (Int × Int)} (h : Opens K H refs o) (e : TupK K H H') : Opens K H' refs o := ⟨h.1, fun i a row h1 h2 => e.1 _ _ (h.2 i a row h1 h2)⟩
theorem Rows.set {K : PySem.W.Frag} {H : Hp} {refs : List Addr} {rows : List (List Int)} (h : Rows K H refs rows) (p : Nat) {a : Addr} {row : List Int} (q : TupN H a (row.map V.int)) : Rows K H (refs.set p a) (rows.set p row) := by
  refine ⟨by rw [List.length_set, List.length_set]; exact h.1, fun i b r h1 h2 => ?_⟩
  by_cases e : p = i
  · subst e
    rw [List.getElem?_set] at h1 h2
    rw [if_pos rfl] at h1 h2
    split at h1
    · split at h2
      · cases h1; cases h2; exact q
      · cases h2
    · cases h1
  · rw [List.getElem?_set_ne e] at h1 h2
    exact h.2 i b r h1 h2
theorem Opens.snoc {K : PySem.W.Frag} {H : Hp} {refs : List Addr} {o : List (Int × Int)} (h : Opens K H refs o) {a : Addr} {p : Int × Int} (q : SqT K H a [.int p.1, .int p.2]) : Opens K H (refs ++ [a]) (o ++ [p]) := by
  refine ⟨by rw [List.length_append, List.length_append, h.1]; rfl, fun i b r h1 h2 => ?_⟩
  by_cases e : i < refs.length
  · rw [List.getElem?_append_left e] at h1
    rw [List.getElem?_append_left (by rw [← h.1]; exact e)] at h2
    exact h.2 i b r h1 h2
  · rw [List.getElem?_append_right (by omega)] at h1
    rw [List.getElem?_append_right (by rw [← h.1]; omega), ← h.1] at h2
    generalize i - refs.length = j at h1 h2
    cases j with
    | zero => cases h1; cases h2; exact q
    | succ j => simp at h1
theorem at_erase {α : Type} : ∀ (l : List α) (j i : Nat), (l.eraseIdx j)[i]? = if i < j then l[i]? else l[i + 1]? := fun l j i => List.getElem?_eraseIdx ..
theorem Opens.erase {K : PySem.W.Frag} {H : Hp} {refs : List Addr} {o : List (Int × Int)} (h : Opens K H refs o) (j : Nat) : Opens K H (refs.eraseIdx j) (o.eraseIdx j) := by
  refine ⟨by rw [List.length_eraseIdx, List.length_eraseIdx, h.1], fun i b r h1 h2 => ?_⟩
  rw [at_erase] at h1 h2
  split at h1 <;> rename_i e
  · rw [if_pos e] at h2
    exact h.2 i b r h1 h2
  · rw [if_neg e] at h2
    exact h.2 (i + 1) b r h1 h2
/-! ### the pairs as data -/
def pD (p : Int × Int) : PyData := .tuple [.int p.1, .int p.2]
theorem pD_eqv (a b : Int × Int) : PyData.eqv (pD a) (pD b) = decide (a = b) := by
  obtain ⟨x, y⟩ := a
  obtain ⟨z, w⟩ := b
  have e : PyData.eqv (pD (x, y)) (pD (z, w)) = ((x == z) && ((y == w) && true)) := by simp only [pD, PyData.eqv, PyData.eqvAll]
  rw [e, Bool.and_true]
  by_cases h1 : x = z
  · by_cases h2 : y = w
    · subst h1 h2
      simp
    · have : (y == w) = false := beq_eq_false_iff_ne.mpr h2
      rw [this, Bool.and_false]
      exact (decide_eq_false fun q => h2 (Prod.mk.inj q).2).symm
  · have : (x == z) = false := beq_eq_false_iff_ne.mpr h1
    rw [this, Bool.false_and]
    exact (decide_eq_false fun q => h1 (Prod.mk.inj q).1).symm
theorem pD_plain : ∀ o : List (Int × Int), PyData.plainAll (o.map pD) = true
  | [] => rfl
  | p :: r => by
    have h := pD_plain r
    show (PyData.plain (pD p) && PyData.plainAll (r.map pD)) = true
    rw [h]
    rfl
theorem pD_lay : ∀ o : List (Int × Int), PyData.canLayAll0 (o.map pD) = true
  | [] => by simp [PyData.canLayAll0]
  | p :: r => by
    have h := pD_lay r
    simp only [List.map_cons, PyData.canLayAll0, h, pD, PyData.canLay0, Bool.and_self]
theorem pD_depth : ∀ o : List (Int × Int), PyData.depthAll (o.map pD) ≤ 1
  | [] => by simp [PyData.depthAll]
  | p :: r => by
    have h := pD_depth r
    have h2 : (pD p).depth = 1 := by simp [pD, PyData.depth, PyData.depthAll]
    simp only [List.map_cons, PyData.depthAll]
    omega
theorem shaped_pairs (o : List (Int × Int)) : SeqAt.shaped (.list (o.map pD)) = true := by
  have h1 := pD_lay o
  have h2 := pD_depth o
  show (PyData.canLay0 (.list (o.map pD)) && decide (PyData.depth (.list (o.map pD)) ≤ 64)) = true
  simp only [PyData.canLay0, PyData.depth, h1, Bool.true_and]
  exact decide_eq_true (by omega)
theorem Opens.dp {K : PySem.W.Frag} {H : Hp} : ∀ {refs : List Addr} {o : List (Int × Int)}, Opens K H refs o → DpAll K H (refs.map V.ref) (o.map pD)
  | [], [], _ => .nil
  | [], _ :: _, h => absurd h.1 (by simp)
  | _ :: _, [], h => absurd h.1 (by simp)
  | a :: r, p :: o, h => .cons (.tup (h.2 0 a p rfl rfl) (.cons (.int _) (.cons (.int _) .nil)))
      (Opens.dp ⟨by simpa using h.1, fun i b q h1 h2 => h.2 (i + 1) b q h1 h2⟩)
theorem place_of_mem {o : List (Int × Int)} {p : Int × Int} (h : p ∈ o) : ∃ j, SeqAt.dataPlace (o.map pD) (pD p) = some j ∧ o[j]? = some p := by
  induction o with
  | nil => cases h
  | cons a r ih =>
    unfold SeqAt.dataPlace at ih ⊢
    rw [List.map_cons, List.findIdx?_cons, pD_eqv]
    by_cases e : a = p
    · subst e
      exact ⟨0, by rw [decide_eq_true rfl]; rfl, rfl⟩
    · rw [decide_eq_false e]
      rcases List.mem_cons.mp h with z | z
      · exact absurd z.symm e
      · obtain ⟨j, h1, h2⟩ := ih z
        exact ⟨j + 1, by rw [h1]; rfl, h2⟩
/-! ### a tuple and one item more -/
def rCatA (K : PySem.W.Frag) : R2 := fun x y H Q => (∃ a b xs ys, x = .ref a ∧ y = .ref b ∧ SqT K H a xs ∧ SqT K H b ys ∧ xs ≠ [] ∧ ys ≠ [] ∧ xs.length + ys.length ≤ sizeLine ∧
    ∀ (p : Addr) (o : Obj), H p = none → o.dict = none → Q (.ref p) (upd H p (.frz o (.tup (xs ++ ys))))) ∨ (∃ a b ys, x = .ref a ∧ y = .ref b ∧ SqT K H a [] ∧ SqT K H b ys ∧ ys ≠ [] ∧ Q (.ref b) H)
section
variable {X : Cx}
theorem op_catA : OpR X (binaryOp .Add) (rCatA X.K) := OpR.or op_catF op_catE
end
theorem cat_one {K : PySem.W.Frag} {H : Hp} {a b : Addr} {row : List Int} {v : Int} {Q : VK} (ha : SqT K H a (row.map V.int)) (hb : TupN H b [.int v]) (hl : row.length ≤ 900)
    (q : ∀ (H' : Hp) (p : Addr), Same H H' → TupN H' p ((row ++ [v]).map V.int) → Q (.ref p) H') : rCatA K (.ref a) (.ref b) H Q := by
  by_cases h0 : row = []
  · subst h0
    exact .inr ⟨a, b, _, rfl, rfl, ha, hb.sqT, by simp, q H b (.refl H) hb⟩
  · refine .inl ⟨a, b, _, _, rfl, rfl, ha, hb.sqT, fun z => h0 (List.map_eq_nil_iff.mp z), by simp, ?_, fun p o np d => ?_⟩
    · rw [List.length_map, List.length_singleton]
      exact sz (by omega)
    · refine q _ p (Same.new np) ?_
      rw [List.map_append]
      exact TupN.new d

end Sv

namespace Sv
open PySem PySem.Spec PyProof.Rows L2
/-! ### tests whose answer is left open -/
section
variable {σ : L2.St} {H : Hp}
def AnyT (t : TT) (σ : L2.St) (H : Hp) : Prop := ∀ Q : Bool → Hp → Prop, (∀ b, Q b H) → t σ H Q
theorem any_and {ta tb : TT} (ha : AnyT ta σ H) (hb : AnyT tb σ H) : AnyT (tAnd ta tb) σ H := fun Q q => ha _ fun b => by
  cases b with
  | true => exact iteT (hb Q q)
  | false => exact iteF (q false)
theorem any_or {ta tb : TT} (ha : AnyT ta σ H) (hb : AnyT tb σ H) : AnyT (tOr ta tb) σ H := fun Q q => ha _ fun b => by
  cases b with
  | true => exact iteT (q true)
  | false => exact iteF (hb Q q)
theorem or_open {ta tb : TT} {Q : Bool → Hp → Prop} (ha : AnyT ta σ H) (hb : AnyT tb σ H) (q : ∀ b, Q b H) : tOr ta tb σ H Q := any_or ha hb Q q
theorem or_then {ta tb : TT} {Q : Bool → Hp → Prop} (I : Bool → Hp → Prop) (ha : AnyT ta σ H) (h1 : I true H) (hb : ∀ Q' : Bool → Hp → Prop, (∀ b H', I b H' → Q' b H') → tb σ H Q') (q : ∀ b H', I b H' → Q b H') : tOr ta tb σ H Q := ha _ fun b => by
  cases b with
  | true => exact iteT (q true H h1)
  | false => exact iteF (hb Q q)
theorem if_open {tA : TT} {ta tb : TE} {Q : VK} (I : V → Hp → Prop) (hA : AnyT tA σ H) (ha : ∀ Q' : VK, (∀ v H', I v H' → Q' v H') → ta σ H Q') (hb : ∀ Q' : VK, (∀ v H', I v H' → Q' v H') → tb σ H Q') (q : ∀ v H', I v H' → Q v H') : tIf tA ta tb σ H Q := hA _ fun b => by
  cases b with
  | true => exact iteT (ha Q q)
  | false => exact iteF (hb Q q)
end
theorem if_dec {σ : L2.St} {H : Hp} {tA : TT} {ta tb : TE} {Q : VK} (c : Bool) (I : V → Hp → Prop) (hA : ∀ Q : Bool → Hp → Prop, Q c H → tA σ H Q) (ha : c = true → ∀ Q' : VK, (∀ v H', I v H' → Q' v H') → ta σ H Q') (hb : c = false → ∀ Q' : VK, (∀ v H', I v H' → Q' v H') → tb σ H Q') (q : ∀ v H', I v H' → Q v H') : tIf tA ta tb σ H Q := hA _ (by
  cases c with
  | true => exact iteT (ha rfl Q q)
  | false => exact iteF (hb rfl Q q))
theorem flat_rep {α : Type} (x : α) : ∀ n : Nat, (List.replicate n [x]).flatten = List.replicate n x
  | 0 => rfl
  | n + 1 => by rw [List.replicate_succ, List.flatten_cons, flat_rep x n]; rfl
theorem rg24 : rgV 1 25 = names24.map V.int := by
  unfold rgV names24
  rw [List.map_map]
  rfl
theorem names24_len : names24.length = 24 := by decide +kernel
theorem names24_at {u : Nat} (h : u < 24) : names24[u]? = some ((u : Int) + 1) := by
  unfold names24
  rw [List.getElem?_map, List.getElem?_range h]
  show some (1 + (u : Int)) = some ((u : Int) + 1)
  rw [Int.add_comm]
theorem TupK.trans {K : PySem.W.Frag} {H H1 H2 : Hp} (x : TupK K H H1) (y : TupK K H1 H2) : TupK K H H2 := ⟨fun a xs q => y.1 a xs (x.1 a xs q), fun a xs q => y.2 a xs (x.2 a xs q)⟩
theorem tst_use {t : TT} {σ : L2.St} {H : Hp} {Q : Bool → Hp → Prop} (I : Bool → Hp → Prop) (h : ∀ Q' : Bool → Hp → Prop, (∀ b H', I b H' → Q' b H') → t σ H Q') (q : ∀ b H', I b H' → Q b H') : t σ H Q := h Q q
theorem drop_rev {nm : List Int} {u : Nat} {m : Int} (h : nm[u]? = some m) : (nm.drop u).reverse = (nm.drop (u + 1)).reverse ++ [m] := by
  obtain ⟨hu, rfl⟩ := List.getElem?_eq_some_iff.mp h
  rw [List.drop_eq_getElem_cons hu, List.reverse_cons]
theorem rep_any {K : PySem.W.Frag} {H : Hp} {l : Addr} {v : V} {c : Nat} {Q : VK} (h : SqT K H l [v]) (hT : TupT H l [v]) (h1 : 1 ≤ c) (h6 : c ≤ 6) (q : ∀ (H' : Hp) (p : Addr), Same H H' → TupT H' p (List.replicate c v) → Q (.ref p) H') : rRepA K (.ref l) (.int c) H Q := by
  by_cases e : c = 1
  · subst e
    exact .inr ⟨l, _, rfl, rfl, h, q H l (Same.refl H) hT⟩
  · refine .inl ⟨l, c, _, rfl, rfl, h, by simp, by omega, by omega, by simp, fun p np => q _ p (Same.new np) ?_⟩
    rw [Int.toNat_natCast, flat_rep]
    exact .inl upd_same
/-! ### the state of a history that grows -/
abbrev GP (K : PySem.W.Frag) (H : Hp) (st big t R N O : Addr) (refs orefs : List Addr) (nm : List Int) (rows : List (List Int)) (o : List (Int × Int)) (u : Nat) (sh : Int) : Prop :=
  H t = some (.lst [.ref R, .ref N, .ref O, .int sh]) ∧ TupT H R (refs.map V.ref) ∧ Rows K H refs rows ∧ H N = some (.lst ((nm.drop u).map V.int)) ∧ H O = some (.lst (orefs.map V.ref)) ∧ Opens K H orefs o ∧
    (t ≠ st ∧ t ≠ big) ∧ (N ≠ st ∧ N ≠ big) ∧ (O ≠ st ∧ O ≠ big)
def GSt (K : PySem.W.Frag) (H : Hp) (st big t : Addr) (nm : List Int) (rows : List (List Int)) (o : List (Int × Int)) (u : Nat) (sh : Int) : Prop :=
  ∃ (R N O : Addr) (refs orefs : List Addr), GP K H st big t R N O refs orefs nm rows o u sh
theorem TupT.kp {H H' : Hp} {st big cel : Addr} {n : Nat} (h : StAt H st big cel n) (e : Kp st big H H') {a : Addr} {xs : List V} (q : TupT H a xs) : TupT H' a xs := by
  obtain ⟨h1, h2, h3, hn, bs, cs, k, ha, hb, hc, r⟩ := h
  rcases q with q | ⟨o, q⟩
  · exact .inl (e _ _ (ne_of q ha (by intro z; cases z)) (ne_of q hb (by intro z; cases z)) q)
  · exact .inr ⟨o, e _ _ (ne_of q ha (by intro z; cases z)) (ne_of q hb (by intro z; cases z)) q⟩
theorem GP.kp {K : PySem.W.Frag} {H H' : Hp} {st big cel t R N O : Addr} {refs orefs : List Addr} {n : Nat} {nm : List Int} {rows : List (List Int)} {o : List (Int × Int)} {u : Nat} {sh : Int} (h : GP K H st big t R N O refs orefs nm rows o u sh) (s : StAt H st big cel n) (e : Kp st big H H') : GP K H' st big t R N O refs orefs nm rows o u sh := by
  obtain ⟨a1, a2, a3, a4, a5, a6, a7, a8, a9⟩ := h
  have tk := s.tupK (K := K) e
  exact ⟨e _ _ a7.1 a7.2 a1, a2.kp s e, a3.keep tk, e _ _ a8.1 a8.2 a4, e _ _ a9.1 a9.2 a5, a6.keep tk, a7, a8, a9⟩
theorem GSt.kp {K : PySem.W.Frag} {H H' : Hp} {st big cel t : Addr} {n : Nat} {nm : List Int} {rows : List (List Int)} {o : List (Int × Int)} {u : Nat} {sh : Int} (h : GSt K H st big t nm rows o u sh) (s : StAt H st big cel n) (e : Kp st big H H') : GSt K H' st big t nm rows o u sh := by
  obtain ⟨R, N, O, refs, orefs, h⟩ := h
  exact ⟨R, N, O, refs, orefs, GP.kp h s e⟩
theorem stm_use {t : TS} {D : Ends} {σ : L2.St} {H : Hp} (I : L2.St → Hp → Prop) (h : ∀ D' : Ends, (∀ σ H, I σ H → D'.nx σ H) → t D' σ H) (q : ∀ σ H, I σ H → D.nx σ H) : t D σ H := h D q
abbrev sBegun : Stmt := topS 18
abbrev nBegun : List Str := ["_law_deck_here", "_law_many", "_law_rows"]
theorem scBegun : FnScope nBegun ["_law_deck_here", "_law_many"] (defScope sBegun) := ⟨rfl, rfl, rfl, by decide +kernel, rfl, by decide +kernel, by decide +kernel⟩
def spBegun (K : PySem.W.Frag) : Sp := fun vs H Q _ => ∃ (st big cel : Addr) (n many : Nat), vs = [.ref st, .int many] ∧ 1 ≤ many ∧ many ≤ 6 ∧ StAt H st big cel n ∧ n + 30 ≤ 1000000 ∧
  ∀ (H' : Hp) (t : Addr) (c : Nat) (nm : List Int) (sh : Int), GSt K H' st big t nm (List.replicate c []) [] 0 sh → 1 ≤ c → c ≤ many → nm.Perm names24 → 1 ≤ sh → StAt H' st big cel (n + 30) → Kp st big H H' → Q (.ref t) H'
section
variable {P : Program} {w : World} {K : PySem.W.Frag} {mg : Str → Option Value} {base : Heap}
theorem ok_begun {f fD fM : Addr} {fd fdD fdM : FuncData} (F : Fun K "_law_begun" "_law_begun" sBegun f fd) (FD : Fun K "_law_next" "_law_next" sDraw fD fdD) (bD : Binds K fdD ["_law_deck_here", "_law_many"] [])
    (gD : mg "_law_next" = some (.ref fD)) (FM : Fun K "_law_shuffled" "_law_shuffled" sMixed fM fdM) (bM : Binds K fdM ["_law_deck_here", "_law_items"] []) (gM : mg "_law_shuffled" = some (.ref fM))
    (ml : mg "len" = none) (mli : mg "list" = none) (mra : mg "range" = none) (mi : mg "int" = none) : FnOk P w K mg base CX0 3 f fd ["_law_deck_here", "_law_many"] (spBegun K) := by
  have GD : FnOk P w K mg base CX0 1 fD fdD ["_law_deck_here", "_law_many"] spDraw := ok_draw FD mi
  have GM : FnOk P w K mg base CX0 2 fM fdM ["_law_deck_here", "_law_items"] (spMixed K) := ok_mixed FM FD bD gD ml mli mi
  refine F.ok scBegun (fun vs H Q E h => ?_) (fun cdv A outer s H vs Q E hr h => ?_)
  · obtain ⟨st, big, cel, n, many, rfl, _⟩ := h
    rfl
  · obtain ⟨st, big, cel, n, many, rfl, hm1, hm6, hS, hn, q⟩ := h
    have hr1 : Room 1 _ := hr.mono (by decide)
    have nd := scBegun.nd
    refine ⟨_, pss_cons (ps_set (i := 2) nd rfl (.inl rfl) (pe_op op_repA (pe_tup (pa_cons (pe_tupF pa_nil) pa_nil)) (pe_op op_add pe_int (pe_call GD hr1 (by rfl) gD FD.kp bD .nil pass0 (pa_cons (pv 0) (pa_cons (pv 1) pa_nil))))))
      (pss_one (ps_ret (pe_lst (pa_cons (pv 2) (pa_cons (pe_call GM hr (by rfl) gM FM.kp bM .nil pass0 (pa_cons (pv 0) (pa_cons (pe_listRg rfl (by rfl) mli (prg_2 (by rfl) mra pe_int pe_int)) pa_nil)))
        (pa_cons (pe_lst pa_nil) (pa_cons (pe_op op_add pe_int (pe_call GD hr1 (by rfl) gD FD.kp bD .nil pass0 (pa_cons (pv 0) (pa_cons pe_int pa_nil)))) pa_nil))))))), ?_⟩
    refine ⟨sz (Nat.zero_le _), fun e0 ob0 ne0 de0 => ⟨sz (by show 1 ≤ 1000; decide), fun e1 ne1 => ?_⟩⟩
    have s1 : Same H (upd H e0 (.frz ob0 (.tup []))) := Same.new ne0
    have s2 := s1.trans (Same.new (o := .tup [V.ref e0]) ne1)
    have hE2 : TupN (upd (upd H e0 (.frz ob0 (.tup []))) e1 (.tup [V.ref e0])) e0 (([] : List Int).map V.int) := TupN.same (TupN.new de0) (Same.new (o := .tup [V.ref e0]) ne1)
    have h12 : TupT (upd (upd H e0 (.frz ob0 (.tup []))) e1 (.tup [V.ref e0])) e1 [V.ref e0] := .inl upd_same
    generalize upd (upd H e0 (.frz ob0 (.tup []))) e1 (.tup [V.ref e0]) = H2 at s2 hE2 h12 ⊢
    have hS2 := hS.same s2
    refine ⟨.ref st, rfl, .int many, rfl, st, big, cel, n, many, rfl, by omega, by omega, hS2, by omega, fun H3 cv c0 c1 hS3 k3 => ⟨_, _, rfl, rfl, ?_⟩⟩
    obtain ⟨c', rfl⟩ : ∃ c' : Nat, cv = (c' : Int) := ⟨cv.toNat, (Int.toNat_of_nonneg c0).symm⟩
    obtain ⟨c, hc⟩ : ∃ c : Nat, c = c' + 1 := ⟨_, rfl⟩
    have ec : (1 : Int) + (c' : Int) = (c : Int) := by omega
    have hcm : c ≤ many := by omega
    show rRepA K (V.ref e1) (V.int ((1 : Int) + (c' : Int))) H3 _
    rw [ec]
    have h13 := h12.kp hS2 k3
    have hE3 := hS2.tupN k3 hE2
    refine rep_any h13.sqT h13 (by omega) (by omega) fun H4 R s4 hR4 => ?_
    have hE4 := hE3.same s4
    have hS4 := hS3.same s4
    have k24 : Kp st big H H4 := ((Kp.of s2).trans k3).trans (.of s4)
    refine gN ?_
    dsimp only
    refine ⟨.ref R, rfl, .ref st, rfl, 1, 25, rfl, rfl, RgOk.of_le (by decide) (by decide) (by decide) (by decide), fun l nl => ?_⟩
    refine ⟨st, big, cel, l, n + 1, names24, rfl, .inl (SqL.of (by rw [upd_same, rg24])), by rw [names24_len]; omega, hS4.same (Same.new nl), by rw [names24_len]; omega, fun H5 N ms nN hN pm hS5 k5 => ?_⟩
    rw [names24_len] at hS5
    have k45 : Kp st big H4 H5 := (Kp.new nl).trans k5
    have hR5 := hR4.kp hS4 k45
    have hE5 := hS4.tupN k45 hE4
    have nN4 : H4 N = none := (Same.new nl).free nN
    have neN := hS4.ne nN4
    refine ⟨sz (Nat.zero_le _), fun O nO => ?_⟩
    have s6 : Same H5 (upd H5 O (.lst [])) := Same.new nO
    have neO := hS5.ne nO
    have hR6 := hR5.same s6
    have hE6 := hE5.same s6
    have hN6 := s6 _ _ hN
    have hO6 : (upd H5 O (.lst [])) O = some (.lst (([] : List Addr).map V.ref)) := upd_same
    have hS6 := hS5.same s6
    have k6 : Kp st big H (upd H5 O (.lst [])) := (k24.trans k45).trans (.of s6)
    generalize upd H5 O (.lst []) = H6 at hR6 hE6 hN6 hO6 hS6 k6 ⊢
    refine ⟨.ref st, rfl, st, big, cel, _, 3, rfl, by decide, by decide, hS6, by omega, fun H7 sv v0 v1 hS7 k7 => ⟨_, _, rfl, rfl, sz (by show 4 ≤ 1000; decide), fun t nt => ?_⟩⟩
    have s8 : Same H7 (upd H7 t (.lst [.ref R, .ref N, .ref O, .int (1 + sv)])) := Same.new nt
    have net := hS7.ne nt
    have k8 : Kp st big H6 (upd H7 t (.lst [.ref R, .ref N, .ref O, .int (1 + sv)])) := k7.trans (.of s8)
    refine q _ t c ms (1 + sv) ⟨R, N, O, List.replicate c e0, [], upd_same, ?_, ⟨by rw [List.length_replicate, List.length_replicate], fun i a row h1 h2 => ?_⟩, ?_, k8 _ _ neO.1.symm neO.2.1.symm hO6, ⟨rfl, fun i a p h1 h2 => by simp at h1⟩, ⟨net.1.symm, net.2.1.symm⟩, ⟨neN.1.symm, neN.2.1.symm⟩, ⟨neO.1.symm, neO.2.1.symm⟩⟩ (by omega) hcm pm (by omega) ((hS7.same s8).le (by omega) (by omega)) (k6.trans k8)
    · rw [List.map_replicate]
      exact hR6.kp hS6 k8
    · rw [(List.mem_replicate.mp (List.mem_of_getElem? h1)).2, (List.mem_replicate.mp (List.mem_of_getElem? h2)).2]
      exact hS6.tupN k8 hE6
    · rw [List.drop_zero]
      exact k8 _ _ neN.1.symm neN.2.1.symm hN6
end

end Sv

namespace Sv
open PySem PySem.Spec PyProof.Rows L2
theorem filter_erase {α : Type} [DecidableEq α] : ∀ {l : List α} {j : Nat} {x : α}, l.Nodup → l[j]? = some x → l.filter (fun y => !decide (y = x)) = l.eraseIdx j
  | [], j, x, _, h => by simp at h
  | a :: r, 0, x, hn, h => by
    obtain rfl : a = x := Option.some.inj h
    have hr := (List.nodup_cons.mp hn).1
    rw [List.filter_cons_of_neg (by simp), List.eraseIdx_cons_zero]
    refine List.filter_eq_self.mpr fun y hy => ?_
    have : y ≠ a := fun z => hr (z ▸ hy)
    simp [this]
  | a :: r, j + 1, x, hn, h => by
    have hx : x ∈ r := List.mem_of_getElem? (i := j) h
    have ne : a ≠ x := fun z => (List.nodup_cons.mp hn).1 (z ▸ hx)
    rw [List.filter_cons_of_pos (by simp [ne]), List.eraseIdx_cons_succ, filter_erase (List.nodup_cons.mp hn).2 h]
theorem Grown.nodup {c : Nat} {nm : List Int} {r : List (List Int)} {o : List (Int × Int)} {u k : Nat} (h : Grown c nm r o u k) (hn : nm.Nodup) : (o.map (·.1)).Nodup ∧ ∀ x ∈ o, x.1 ∈ nm.take u := by
  induction h with
  | start => exact ⟨List.nodup_nil, fun x z => nomatch z⟩
  | skip _ ih => exact ih
  | save _ _ ih => exact ih
  | @send r o u k p row m g h hu ih =>
    have tk : nm.take (u + 1) = nm.take u ++ [m] := by
      rw [List.take_add_one, hu]
      rfl
    have hnot : m ∉ nm.take u := fun z => by
      have h2 : (nm.take (u + 1)).Nodup := hn.sublist (List.take_sublist _ _)
      rw [tk] at h2
      exact (List.nodup_append.mp h2).2.2 m z m (List.mem_singleton.mpr rfl) rfl
    refine ⟨?_, fun x hx => ?_⟩
    · rw [List.map_append]
      refine List.nodup_append.mpr ⟨ih.1, (by simp), fun a ha b hb => ?_⟩
      rw [List.mem_singleton.mp hb]
      obtain ⟨y, hy, rfl⟩ := List.mem_map.mp ha
      intro z
      have h3 := ih.2 y hy
      rw [show y.1 = m from z] at h3
      exact hnot h3
    · rw [tk]
      rcases List.mem_append.mp hx with z | z
      · exact List.mem_append_left _ (ih.2 x z)
      · rw [List.mem_singleton.mp z]
        exact List.mem_append_right _ (List.mem_singleton.mpr rfl)
  | @recv r o u k row j m q p g h hj _ ih =>
    refine ⟨ih.1.sublist ((List.eraseIdx_sublist _ _).map _), fun x hx => ih.2 x ((List.eraseIdx_sublist _ _).subset hx)⟩
theorem nodup_of_map {α β : Type} (f : α → β) {l : List α} (h : (l.map f).Nodup) : l.Nodup := (List.pairwise_map.mp h).imp fun n z => n (by rw [z])
theorem pD_shaped (p : Int × Int) : SeqAt.shaped (pD p) = true := shaped_tup [p.1, p.2]
theorem SqT.dpp {K : PySem.W.Frag} {H : Hp} {a : Addr} {p : Int × Int} (h : SqT K H a [.int p.1, .int p.2]) : Dp K H (.ref a) (pD p) := .tup h (.cons (.int _) (.cons (.int _) .nil))
theorem names_nd : names24.Nodup := by decide +kernel
theorem set_cat {α : Type} {l : List α} {p : Nat} {x : α} (hp : p < l.length) : (l.take p ++ [x]) ++ l.drop (p + 1) = l.set p x := by
  rw [List.set_eq_take_append_cons_drop, if_pos hp, List.append_assoc]
  rfl
theorem cut_fromM {xs : List V} (i : Nat) : cutV xs (some (i : Int)) none = xs.drop i := by
  unfold cutV
  rw [HT.sIx_none, HT.sIx_nat]
  by_cases h : i ≤ xs.length
  · rw [Nat.min_eq_left h]
    exact List.take_of_length_le (by rw [List.length_drop]; exact Nat.le_refl _)
  · rw [Nat.min_eq_right (by omega), List.drop_length, List.drop_eq_nil_of_le (by omega), List.take_nil]
abbrev sGrown : Stmt := topS 20
abbrev nGrown : List Str := ["_law_deck_here", "_law_state", "_law_rows", "_law_names", "_law_waiting", "_law_share", "_law_process", "_law_way", "_law_pair", "_law_ready", "_law_event", "_law_left", "_law_longer", "_law_one_here"]
theorem scGrown : FnScope nGrown ["_law_deck_here", "_law_state"] (defScope sGrown) := ⟨rfl, rfl, rfl, by decide +kernel, rfl, by decide +kernel, by decide +kernel⟩
def spGrown (K : PySem.W.Frag) : Sp := fun vs H Q _ => ∃ (st big cel t : Addr) (n c : Nat) (nm : List Int) (rows : List (List Int)) (o : List (Int × Int)) (u k : Nat) (sh : Int), vs = [.ref st, .ref t] ∧ StAt H st big cel n ∧ n + 4 ≤ 1000000 ∧
  GSt K H st big t nm rows o u sh ∧ Grown c nm rows o u k ∧ nm.Perm names24 ∧ 1 ≤ c ∧ c ≤ 6 ∧ k ≤ 100 ∧
  ∀ (H' : Hp) (t' : Addr) (rows' : List (List Int)) (o' : List (Int × Int)) (u' : Nat), GSt K H' st big t' nm rows' o' u' sh → Grown c nm rows' o' u' (k + 1) → StAt H' st big cel (n + 4) → Kp st big H H' → Q (.ref t') H'
section
variable {P : Program} {w : World} {K : PySem.W.Frag} {mg : Str → Option Value} {base : Heap}
set_option maxHeartbeats 4000000 in
theorem ok_grown {f fD fO : Addr} {fd fdD fdO : FuncData} (F : Fun K "_law_grown" "_law_grown" sGrown f fd) (FD : Fun K "_law_next" "_law_next" sDraw fD fdD) (bD : Binds K fdD ["_law_deck_here", "_law_many"] [])
    (gD : mg "_law_next" = some (.ref fD)) (FO : Fun K "_law_one" "_law_one" sPick fO fdO) (bO : Binds K fdO ["_law_deck_here", "_law_items"] []) (gO : mg "_law_one" = some (.ref fO))
    (ml : mg "len" = none) (mi : mg "int" = none) : FnOk P w K mg base CX0 3 f fd ["_law_deck_here", "_law_state"] (spGrown K) := by
  have GD : FnOk P w K mg base CX0 1 fD fdD ["_law_deck_here", "_law_many"] spDraw := ok_draw FD mi
  have GO : FnOk P w K mg base CX0 2 fO fdO ["_law_deck_here", "_law_items"] (spPick K) := ok_pick FO FD bD gD ml mi
  refine F.ok scGrown (fun vs H Q E h => ?_) (fun cdv A outer s H vs Q E hr h => ?_)
  · obtain ⟨st, big, cel, t, n, c, nm, rows, o, u, k, sh, rfl, _⟩ := h
    rfl
  · obtain ⟨st, big, cel, t, n, c, nm, rows, o, u, k, sh, rfl, hS, hn, hG, hg, hp24, hc1, hc6, hk, q⟩ := h
    have hr1 : Room 1 _ := hr.mono (by decide)
    have hu : (A.deeper (envOfC "_law_grown" (defScope sGrown) s.heap.objs.size f cdv)).units + 64 < cLine := hr.units
    have nd := scGrown.nd
    refine ⟨_, pss_cons (ps_asg (pv 1) (pg_unl rfl (pgs_cons (pg_name (i := 2) nd rfl (.inl rfl)) (pgs_cons (pg_name (i := 3) nd rfl (.inl rfl)) (pgs_cons (pg_name (i := 4) nd rfl (.inl rfl)) (pgs_cons (pg_name (i := 5) nd rfl (.inl rfl)) pgs_nil))))))
      (pss_cons (ps_asg (pe_tup (pa_cons (pe_call GD hr1 (by rfl) gD FD.kp bD .nil pass0 (pa_cons (pv 0) (pa_cons (pe_callB call_len_seq (by rfl) ml PySem.boot_len (pa_cons (pv 2) pa_nil)) pa_nil)))
          (pa_cons (pe_call GD hr1 (by rfl) gD FD.kp bD .nil pass0 (pa_cons (pv 0) (pa_cons pe_int pa_nil))) pa_nil))) (pg_tup rfl (pgs_cons (pg_name (i := 6) nd rfl (.inr rfl)) (pgs_cons (pg_name (i := 7) nd rfl (.inl rfl)) pgs_nil))))
      (pss_cons (ps_setLc (i := 9) (own := [("_law_pair", 8)]) (g := gName 8) (by rfl) nd rfl rfl (sw_true rfl rfl rfl (by decide +kernel)) (pi_list (pv 4))
            (blkOk_by (own := [("_law_pair", 8)]) (N := nGrown) (sc := defScope sGrown) (by decide +kernel))
            (fun _ _ _ _ _ => pg_name (i := 8) nd rfl (Or.inl rfl))
            (fun _ _ _ _ _ => pts_one (pt_cmpR op_ne (pe_ix (r := rIxT K) ix_tup (pv 8) pe_int (fun _ _ => rfl)) (pv 6) (nomark _)))
            (fun _ _ _ _ _ => pv 8))
      (pss_cons (ps_par (i := 10) (j := 11) (by rfl) nd rfl rfl (by decide) rfl rfl (pa_cons pe_int (pa_cons (pv 3) pa_nil)) (by rfl))
      (pss_cons (ps_if (PW.pt (pw_and (pt_cmpR op_ge (pv 7) (pv 5) (nomark _)) (pw_and (pt_cmpR op_eq (pe_op op_mod (pv 7) pe_int) pe_int (nomark _)) (pw_and1 (pt_cmpR (op_neD hu) (pv 9) (pe_lst pa_nil) (nomark _))))))
          (pss_cons (ps_set (i := 8) nd rfl (.inr rfl) (pe_call GO hr (by rfl) gO FO.kp bO .nil pass0 (pa_cons (pv 0) (pa_cons (pv 9) pa_nil))))
          (pss_one (ps_par (i := 10) (j := 4) (by rfl) nd rfl rfl (by decide) rfl rfl (pa_cons (pe_op op_sub pe_int (pe_ix ix_tup (pv 8) pe_int (fun _ _ => rfl)))
            (pa_cons (pe_lc (own := [("_law_one_here", 13)]) (g := gName 13) (by rfl) nd (pi_list (pv 4))
              (blkOk_by (own := [("_law_one_here", 13)]) (N := nGrown) (sc := defScope sGrown) (by decide +kernel))
              (fun _ _ _ _ _ => pg_name (i := 13) nd rfl (Or.inl rfl))
              (fun _ _ _ _ _ => pts_one (pt_cmpR (r := rNeD K) (op_neD hu) (pv 13) (pv 8) (nomark _)))
              (fun _ _ _ _ _ => pv 13)) pa_nil)) (by rfl))))
          (pss_one (ps_if (PW.pt (pw_and (pt_cmpR op_ge (pv 7) (pv 5) (nomark _)) (pw_and1 (pt_cmpR (op_neD hu) (pv 3) (pe_lst pa_nil) (nomark _)))))
            (pss_cons (ps_par (i := 10) (j := 11) (by rfl) nd rfl rfl (by decide) rfl rfl (pa_cons (pe_ix ix_list (pv 3) pe_int (fun _ _ => rfl)) (pa_cons (pe_slice sl_list (pv 3) (po_some pe_int) po_none) pa_nil)) (by rfl))
            (pss_one (ps_set (i := 4) nd rfl (.inl rfl) (pe_op op_cat (pv 4) (pe_lst (pa_cons (pe_tup (pa_cons (pv 10) (pa_cons (pv 6) pa_nil))) pa_nil))))))
            pss_nil)))
      (pss_cons (ps_set (i := 12) nd rfl (.inl rfl) (pe_tup (pa_cons (pe_op op_catA (pe_ix ix_tup (pv 2) (pv 6) (fun _ _ => rfl)) (pe_tupF (pa_cons (pv 10) pa_nil))) pa_nil)))
      (pss_one (ps_ret (pe_lst (pa_cons (pe_op L2.op_catA (pe_op L2.op_catA (pe_slice sl_tupA (pv 2) po_none (po_some (pv 6))) (pv 12)) (pe_slice sl_tupA (pv 2) (po_some (pe_op op_add (pv 6) pe_int)) po_none))
        (pa_cons (pv 11) (pa_cons (pv 4) (pa_cons (pv 5) pa_nil)))))))))))), ?_⟩
    obtain ⟨R, N, O, refs, orefs, G0⟩ := hG
    have hlc := hg.len
    have hev := hg.events
    have hgo := hg.opens_le
    have hrl : refs.length = c := G0.2.2.1.1.trans hlc
    have hnd := (hg.nodup (hp24.nodup_iff.mpr names_nd))
    have hond := nodup_of_map _ hnd.1
    refine ⟨.ref t, rfl, t, _, rfl, SqL.of G0.1, rfl, _, _, rfl, _, _, rfl, _, _, rfl, _, _, rfl, rfl, ?_⟩
    refine ⟨.ref st, rfl, .ref R, rfl, R, _, rfl, .inr G0.2.1.sqT, st, big, cel, n, _, rfl, by rw [List.length_map]; omega, by rw [List.length_map]; omega, hS, by omega, fun H1 pv p0 p1 hS1 k1 => ?_⟩
    refine ⟨.ref st, rfl, st, big, cel, _, 6, rfl, by decide, by decide, hS1, by omega, fun H2 wy w0 w1 hS2 k2 => ⟨sz (by show 2 ≤ 1000; decide), fun T nT => ?_⟩⟩
    rw [List.length_map] at p1
    obtain ⟨p, rfl⟩ : ∃ p : Nat, pv = (p : Int) := ⟨pv.toNat, (Int.toNat_of_nonneg p0).symm⟩
    have hp : p < rows.length := by omega
    have hpr : p < refs.length := by omega
    obtain ⟨row, hrow⟩ : ∃ row, rows[p]? = some row := ⟨_, List.getElem?_eq_getElem hp⟩
    obtain ⟨a, ha⟩ : ∃ a, refs[p]? = some a := ⟨_, List.getElem?_eq_getElem hpr⟩
    have hrl9 : row.length ≤ 900 := by
      have := len_le_sum hrow
      omega
    have s3 : Same H2 (upd H2 T (.tup [.int (p : Int), .int wy])) := Same.new nT
    refine ⟨T, _, rfl, .inl (.inl upd_same), rfl, _, _, rfl, _, _, rfl, rfl, ?_⟩
    have G3 := ((GP.kp G0 hS k1).kp hS1 k2).kp hS2 (.of s3)
    have hS3 := hS2.same s3
    have k3 : Kp st big H (upd H2 T (.tup [.int (p : Int), .int wy])) := (k1.trans k2).trans (.of s3)
    generalize upd H2 T (.tup [.int (p : Int), .int wy]) = H3 at G3 hS3 k3 ⊢
    -- ready
    refine ⟨.ref O, rfl, O, rfl, ⟨_, SqL.of G3.2.2.2.2.1⟩, fun D nD => ?_⟩
    refine lc_list (K := K) (a := O) (xs := orefs.map V.ref) (fun j H' => Same H3 H' ∧ ∃ (rr : List Addr) (ps : List (Int × Int)), H' D = some (.lst (rr.map V.ref)) ∧ Opens K H3 rr ps ∧ rr.length ≤ j ∧ ∀ x ∈ ps, x ∈ o ∧ x.2 ≠ (p : Int))
      ⟨Same.new nD, [], [], upd_same, ⟨rfl, fun _ _ _ z _ => by simp at z⟩, Nat.le_refl _, fun _ z => (nomatch z)⟩ (fun j H' _ z => z.1.seq (SqL.of G3.2.2.2.2.1)) (fun j x H' hx z => ?_) (fun H' z => ?_)
    · obtain ⟨o', ho, rfl⟩ := of_at_map hx
      obtain ⟨sm, rr, ps, hD, hop, hl, hps⟩ := z
      have hj : j < orefs.length := (List.getElem?_eq_some_iff.mp ho).1
      have hol : orefs.length = o.length := G3.2.2.2.2.2.1.1
      obtain ⟨pr, hpr'⟩ : ∃ pr, o[j]? = some pr := ⟨_, List.getElem?_eq_getElem (by omega)⟩
      have hsq := G3.2.2.2.2.2.1.2 j o' pr ho hpr'
      refine ⟨rfl, .ref o', rfl, o', _, 1, _, rfl, rfl, (TupK.of sm).1 _ _ hsq, atI_nat (j := 1) rfl, _, rfl, rfl, _, rfl, ite2 (fun e => ?_) (fun _ => ?_)⟩
      · refine ⟨_, rfl, _, hD, ?_, Same.put nD sm, rr ++ [o'], ps ++ [pr], ?_, hop.snoc hsq, ?_, ?_⟩
        · rw [List.length_map]
          exact small1000 (by omega)
        · rw [upd_same, List.map_append]
          rfl
        · rw [List.length_append, List.length_singleton]
          omega
        · intro x hx
          rcases List.mem_append.mp hx with hx | hx
          · exact hps x hx
          · rw [List.mem_singleton.mp hx]
            refine ⟨List.mem_of_getElem? hpr', fun z => ?_⟩
            rw [z, decide_eq_true rfl] at e
            cases e
      · exact ⟨sm, rr, ps, hD, hop, Nat.le_succ_of_le hl, hps⟩
    obtain ⟨sm, rr, ps, hD, hop, hl, hps⟩ := z
    rw [List.length_map] at hl
    have hol : orefs.length = o.length := G3.2.2.2.2.2.1.1
    have neD := hS3.ne nD
    have G4 := GP.kp G3 hS3 (.of sm)
    have hS4 := hS3.same sm
    have k4 : Kp st big H H' := k3.trans (.of sm)
    have hop4 := hop.keep (K := K) (.of sm)
    clear G0 G3 hS1 hS2 hS3 k1 k2 k3 hop sm
    refine gN ?_
    dsimp only
    refine ⟨.ref N, rfl, _, _, rfl, ?_⟩
    dsimp only
    refine seqS (stm_use (t := tIfS _ _ _) (fun σ H6 => ∃ (ev : Int) (Lf W : Addr) (u' : Nat) (o' : List (Int × Int)) (orefs' : List Addr) (x8 x12 x13 : Option V), σ = [some (.ref st), some (.ref t), some (.ref R), some (.ref N), some (.ref W), some (.int sh), some (.int p), some (.int wy), x8, some (.ref D), some (.int ev), some (.ref Lf), x12, x13] ∧
        StAt H6 st big cel (n + 3) ∧ Kp st big H H6 ∧ TupT H6 R (refs.map V.ref) ∧ Rows K H6 refs rows ∧ H6 Lf = some (.lst ((nm.drop u').map V.int)) ∧ H6 W = some (.lst (orefs'.map V.ref)) ∧ Opens K H6 orefs' o' ∧ (Lf ≠ st ∧ Lf ≠ big) ∧ (W ≠ st ∧ W ≠ big) ∧ Grown c nm (rows.set p (row ++ [ev])) o' u' (k + 1)) (fun D' qD => ?_) (fun σ H6 z => ?_))
    · refine ifS ?_
      refine tst_use (fun b H'' => GP K H'' st big t R N O refs orefs nm rows o u sh ∧ StAt H'' st big cel (n + 2) ∧ Kp st big H H'' ∧ H'' D = some (.lst (rr.map V.ref)) ∧ Opens K H'' rr ps ∧ (b = true → rr ≠ [])) (fun Q' qq => ?_) (fun b H11 hI => ?_)
      · have no : Q' false H' := qq false _ ⟨G4, hS4.le (by omega) (by omega), k4, hD, hop4, fun z => nomatch z⟩
        refine ⟨_, rfl, _, rfl, _, _, rfl, rfl, _, rfl, iteB (fun _ => ?_) (fun _ => no)⟩
        refine ⟨_, rfl, _, _, rfl, rfl, (show (0 : Int) < 2 by decide), rfl, _, rfl, iteB (fun _ => ?_) (fun _ => no)⟩
        refine ⟨.ref D, rfl, sz (Nat.zero_le _), fun e1 ne1 => ?_⟩
        have sa := Same.new (o := .lst []) ne1
        refine ⟨_, _, .lst (SqL.of (sa _ _ hD)) ((hop4.keep (.of sa)).dp), dp_nil (SqL.of upd_same), shaped_pairs ps, shaped_nil, _, rfl, qq _ _ ⟨GP.kp G4 hS4 (.of sa), (hS4.same sa).le (by omega) (by omega), k4.trans (.of sa), sa _ _ hD, hop4.keep (.of sa), fun z => ?_⟩⟩
        rw [eqv_nil] at z
        rintro rfl
        have : ps = [] := List.length_eq_zero_iff.mp hop4.1.symm
        subst this
        cases z
      obtain ⟨G11, hS11, k11, hD11, hop11, hrr⟩ := hI
      clear G4 hS4 k4 hD hop4
      cases b with
      | true =>
        refine iteT ?_
        have hrr := hrr rfl
        refine ⟨.ref st, rfl, .ref D, rfl, st, big, cel, D, _, rr.map V.ref, rfl, neD.1.symm, neD.2.1.symm, SqL.of hD11, (fun z => hrr (List.map_eq_nil_iff.mp z)), by rw [List.length_map]; omega, hS11, by omega, fun H12 i v hv hS12 k12 => ?_⟩
        obtain ⟨o', ho', rfl⟩ := of_at_map hv
        have G12 := GP.kp G11 hS11 k12
        have hop12 := hop11.keep (hS11.tupK k12)
        obtain ⟨pr, hpr'⟩ : ∃ pr, ps[i]? = some pr := ⟨_, List.getElem?_eq_getElem (by rw [← hop12.1]; exact (List.getElem?_eq_some_iff.mp ho').1)⟩
        obtain ⟨hmem, hne⟩ := hps pr (List.mem_of_getElem? hpr')
        have hsq := hop12.2 i o' pr ho' hpr'
        obtain ⟨j', hj'⟩ := List.getElem?_of_mem hmem
        refine gN ?_
        dsimp only
        refine ⟨.ref o', rfl, o', _, 0, _, rfl, rfl, hsq, atI_nat (j := 0) rfl, _, _, rfl, rfl, ?_⟩
        refine ⟨.ref O, rfl, O, rfl, ⟨_, SqL.of G12.2.2.2.2.1⟩, fun D2 nD2 => ?_⟩
        refine lc_list (K := K) (a := O) (xs := orefs.map V.ref) (fun j H' => Same H12 H' ∧ ∃ rr2 : List Addr, H' D2 = some (.lst (rr2.map V.ref)) ∧ rr2.length ≤ j ∧ Opens K H12 rr2 ((o.take j).filter fun y => !decide (y = pr)))
          ⟨Same.new nD2, [], upd_same, Nat.le_refl _, ⟨rfl, fun _ _ _ z _ => by simp at z⟩⟩ (fun j H' _ z => z.1.seq (SqL.of G12.2.2.2.2.1)) (fun j x H' hx z => ?_) (fun H' z => ?_)
        · obtain ⟨o2, ho2, rfl⟩ := of_at_map hx
          obtain ⟨sm, rr2, hD2, hl2, hop2⟩ := z
          have hj : j < orefs.length := (List.getElem?_eq_some_iff.mp ho2).1
          obtain ⟨pr2, hpr2⟩ : ∃ pr, o[j]? = some pr := ⟨_, List.getElem?_eq_getElem (by omega)⟩
          have hsq2 := G12.2.2.2.2.2.1.2 j o2 pr2 ho2 hpr2
          have tk : (o.take (j + 1)).filter (fun y => !decide (y = pr)) = (o.take j).filter (fun y => !decide (y = pr)) ++ (if pr2 = pr then [] else [pr2]) := by
            rw [List.take_add_one, hpr2, List.filter_append]
            congr 1
            by_cases e : pr2 = pr
            · rw [if_pos e]
              exact List.filter_cons_of_neg (by simp [e])
            · rw [if_neg e]
              exact List.filter_cons_of_pos (by simp [e])
          refine ⟨rfl, .ref o2, rfl, .ref o', rfl, pD pr2, pD pr, SqT.dpp ((TupK.of sm).1 _ _ hsq2), SqT.dpp ((TupK.of sm).1 _ _ hsq), pD_shaped _, pD_shaped _, _, rfl, ?_⟩
          rw [pD_eqv]
          by_cases e : pr2 = pr
          · rw [decide_eq_true e]
            refine iteF ⟨sm, rr2, hD2, Nat.le_succ_of_le hl2, ?_⟩
            rw [tk, if_pos e, List.append_nil]
            exact hop2
          · rw [decide_eq_false e]
            refine iteT ⟨_, rfl, _, hD2, ?_, Same.put nD2 sm, rr2 ++ [o2], ?_, ?_, ?_⟩
            · rw [List.length_map]
              exact small1000 (by omega)
            · rw [upd_same, List.map_append]
              rfl
            · rw [List.length_append, List.length_singleton]
              omega
            · rw [tk, if_neg e]
              exact hop2.snoc hsq2
        · obtain ⟨sm, rr2, hD2, hl2, hop2⟩ := z
          rw [List.length_map, hol, List.take_length, filter_erase hond hj'] at hop2
          have G13 := GP.kp G12 hS12 (.of sm)
          have ne2 := hS12.ne nD2
          refine ⟨_, _, rfl, qD _ _ ⟨0 - pr.1, N, D2, u, o.eraseIdx j', rr2, _, _, _, rfl, (hS12.same sm).le (by omega) (by omega), (k11.trans k12).trans (.of sm), G13.2.1, G13.2.2.1, G13.2.2.2.1, hD2, hop2.keep (.of sm), G13.2.2.2.2.2.2.2.1, ⟨ne2.1.symm, ne2.2.1.symm⟩, .recv hg hrow hj' hne⟩⟩
      | false =>
        refine iteF (ifS ?_)
        refine tst_use (fun b H'' => GP K H'' st big t R N O refs orefs nm rows o u sh ∧ StAt H'' st big cel (n + 3) ∧ Kp st big H H'' ∧ (b = true → u < nm.length)) (fun Q' qq => ?_) (fun b H12 hI => ?_)
        · have hS11' := hS11.le (m := n + 3) (by omega) (by omega)
          refine ⟨_, rfl, _, rfl, _, _, rfl, rfl, _, rfl, iteB (fun _ => ?_) (fun _ => qq false _ ⟨G11, hS11', k11, fun z => nomatch z⟩)⟩
          refine ⟨.ref N, rfl, sz (Nat.zero_le _), fun e2 ne2 => ?_⟩
          have sb := Same.new (o := .lst []) ne2
          have G12 := GP.kp G11 hS11 (.of sb)
          refine ⟨_, _, dp_lst (SqL.of G12.2.2.2.1), dp_nil (SqL.of upd_same), shaped_lst _, shaped_nil, _, rfl, qq _ _ ⟨G12, hS11'.same sb, k11.trans (.of sb), fun z => ?_⟩⟩
          rw [eqv_nil] at z
          rcases Nat.lt_or_ge u nm.length with h | h
          · exact h
          · rw [List.drop_eq_nil_of_le h] at z
            cases z
        obtain ⟨G12, hS12, k12, hu'⟩ := hI
        cases b with
        | true =>
          have hul := hu' rfl
          obtain ⟨m, hm⟩ : ∃ m, nm[u]? = some m := ⟨_, List.getElem?_eq_getElem hul⟩
          have e0 : ((nm.drop u).map V.int)[0]? = some (V.int m) := by rw [List.getElem?_map, List.getElem?_drop, Nat.add_zero, hm]; rfl
          refine iteT ?_
          refine ⟨.ref N, rfl, N, _, 0, _, rfl, rfl, SqL.of G12.2.2.2.1, atI_nat (j := 0) e0, .ref N, rfl, 1, rfl, N, _, rfl, SqL.of G12.2.2.2.1, fun Lf nLf => ⟨_, _, rfl, ?_⟩⟩
          have e1 : cutV ((nm.drop u).map V.int) (some 1) none = (nm.drop (u + 1)).map V.int := by
            have := cut_fromM (xs := (nm.drop u).map V.int) 1
            rw [← List.map_drop, List.drop_drop] at this
            exact this
          rw [e1]
          have s13 : Same H12 (upd H12 Lf (.lst ((nm.drop (u + 1)).map V.int))) := Same.new nLf
          have neL := hS12.ne nLf
          have G13 := GP.kp G12 hS12 (.of s13)
          have hS13 := hS12.same s13
          have hL13 : (upd H12 Lf (.lst ((nm.drop (u + 1)).map V.int))) Lf = some (.lst ((nm.drop (u + 1)).map V.int)) := upd_same
          generalize upd H12 Lf (.lst ((nm.drop (u + 1)).map V.int)) = H13 at s13 G13 hS13 hL13 ⊢
          refine ⟨.ref O, rfl, .int m, rfl, .int p, rfl, sz (by show 2 ≤ 1000; decide), fun T2 nT2 => ⟨sz (by show 1 ≤ 1000; decide), fun L9 nL9 => ?_⟩⟩
          have s14 := (Same.new (o := .tup [V.int m, V.int p]) nT2).trans (Same.new (o := .lst [V.ref T2]) nL9)
          have hT2 := Same.new (o := .lst [V.ref T2]) nL9 _ _ (upd_same (H := H13) (a := T2) (o := .tup [V.int m, V.int p]))
          have h9 : (upd (upd H13 T2 (.tup [V.int m, V.int p])) L9 (.lst [V.ref T2])) L9 = some (.lst [V.ref T2]) := upd_same
          generalize upd (upd H13 T2 (.tup [V.int m, V.int p])) L9 (.lst [V.ref T2]) = H14 at s14 hT2 h9 ⊢
          have G14 := GP.kp G13 hS13 (.of s14)
          have hS14 := hS13.same s14
          refine ⟨O, L9, _, _, rfl, rfl, G14.2.2.2.2.1, h9, ?_, fun W nW => ?_⟩
          · rw [List.length_map]
            exact sz (by show orefs.length + 1 ≤ 1000; omega)
          have s15 : Same H14 (upd H14 W (.lst (orefs.map V.ref ++ [V.ref T2]))) := Same.new nW
          have neW := hS14.ne nW
          have G15 := GP.kp G14 hS14 (.of s15)
          refine qD _ _ ⟨m, Lf, W, u + 1, o ++ [(m, (p : Int))], orefs ++ [T2], _, _, _, rfl, hS14.same s15, ((k12.trans (.of s13)).trans (.of s14)).trans (.of s15), G15.2.1, G15.2.2.1, s15 _ _ (s14 _ _ hL13), ?_, G15.2.2.2.2.2.1.snoc (.inl (.inl (s15 _ _ hT2))), ⟨neL.1.symm, neL.2.1.symm⟩, ⟨neW.1.symm, neW.2.1.symm⟩, .send hg hrow hm⟩
          rw [upd_same, List.map_append]
          rfl
        | false =>
          refine iteF ?_
          exact qD _ _ ⟨0, N, O, u, o, orefs, _, _, _, rfl, hS12, k12, G12.2.1, G12.2.2.1, G12.2.2.2.1, G12.2.2.2.2.1, G12.2.2.2.2.2.1, G12.2.2.2.2.2.2.2.1, G12.2.2.2.2.2.2.2.2, .save hg hrow⟩
    · obtain ⟨ev, Lf, W, u', o', orefs', x8, x12, x13, rfl, hS6, k6, hR6, hRo6, hL6, hW6, hop6, neL, neW, hg6⟩ := z
      refine ⟨.ref R, rfl, .int p, rfl, R, _, p, .ref a, rfl, rfl, hR6.sqT, atI_nat (at_map ha), .int ev, rfl, sz (by show 1 ≤ 1000; decide), fun T2 ob2 nT2 dT2 => ?_⟩
      have s7 := Same.new (o := .frz ob2 (.tup [V.int ev])) nT2
      have hRo7 := hRo6.keep (K := K) (.of s7)
      refine cat_one (K := K) (hRo7.2 p a row ha hrow).sqT (TupN.new dT2) hrl9 fun H8 t2 s8 ht2 => ⟨sz (by show 1 ≤ 1000; decide), fun LG nLG => ?_⟩
      have s9 : Same H8 (upd H8 LG (.tup [V.ref t2])) := Same.new nLG
      have s69 := (s7.trans s8).trans s9
      have hLG : TupT (upd H8 LG (.tup [V.ref t2])) LG [V.ref t2] := .inl upd_same
      have ht9 := ht2.same s9
      generalize upd H8 LG (.tup [V.ref t2]) = H9 at s9 s69 hLG ht9 ⊢
      refine gN ?_
      dsimp only
      refine ⟨.ref R, rfl, .int p, rfl, p, rfl, slA (hR6.same s69) fun H10 q1 s10 h1 => ⟨.ref LG, rfl, catA h1 (hLG.same s10) ?_ fun H11 q2 s11 h2 => ?_⟩⟩
      · rw [cut_toM, List.length_take, List.length_map]
        show min p refs.length + 1 ≤ 1000
        omega
      refine ⟨.ref R, rfl, .int p, rfl, _, _, rfl, rfl, (p : Int) + 1, rfl, ?_⟩
      dsimp only [tNoPart]
      refine slA (hR6.same ((s69.trans s10).trans s11)) fun H12 q3 s12 h3 => catA (h2.same s12) h3 ?_ fun H13 q4 s13 h4 => ?_
      · have e1 : cutV (refs.map V.ref) (some ((p : Int) + 1)) none = (refs.map V.ref).drop (p + 1) := cut_fromM (p + 1)
        rw [cut_toM, e1, List.length_append, List.length_take, List.length_map, List.length_drop, List.length_map]
        show min p refs.length + 1 + (refs.length - (p + 1)) ≤ 1000
        omega
      have e1 : cutV (refs.map V.ref) (some ((p : Int) + 1)) none = (refs.map V.ref).drop (p + 1) := cut_fromM (p + 1)
      rw [cut_toM, e1, set_cat (by rw [List.length_map]; exact hpr), ← List.map_set] at h4
      have s613 := (((s69.trans s10).trans s11).trans s12).trans s13
      refine ⟨.ref Lf, rfl, .ref W, rfl, .int sh, rfl, sz (by show 4 ≤ 1000; decide), fun t' nt' => ?_⟩
      have s14 : Same H13 (upd H13 t' (.lst [.ref q4, .ref Lf, .ref W, .int sh])) := Same.new nt'
      have s614 := s613.trans s14
      have net := (hS6.same s613).ne nt'
      refine q _ t' _ o' u' ⟨q4, Lf, W, refs.set p t2, orefs', upd_same, h4.same s14, (hRo6.keep (.of s614)).set p (ht9.same ((((s10.trans s11).trans s12).trans s13).trans s14)), s614 _ _ hL6, s614 _ _ hW6, hop6.keep (.of s614), ⟨net.1.symm, net.2.1.symm⟩, neL, neW⟩ hg6 ((hS6.same s614).le (by omega) (by omega)) (k6.trans (.of s614))
end

end Sv

namespace Sv
open PySem PySem.Spec PyProof.Rows L2
theorem stm_useR {t : TS} {D : Ends} {σ : L2.St} {H : Hp} (I : L2.St → Hp → Prop) (h : ∀ nx', (∀ σ H, I σ H → nx' σ H) → t { D with nx := nx' } σ H) (q : ∀ σ H, I σ H → D.nx σ H) : t D σ H := h D.nx q
theorem cat_more {K : PySem.W.Frag} {H : Hp} {a b : Addr} {row ys : List Int} {Q : VK} (ha : TupN H a (row.map V.int)) (hb : TupN H b (ys.map V.int)) (hy : ys ≠ []) (hl : row.length + ys.length ≤ 900)
    (q : ∀ (H' : Hp) (p : Addr), Same H H' → TupN H' p ((row ++ ys).map V.int) → Q (.ref p) H') : rCatA K (.ref a) (.ref b) H Q := by
  by_cases h0 : row = []
  · subst h0
    exact .inr ⟨a, b, _, rfl, rfl, ha.sqT, hb.sqT, (fun z => hy (List.map_eq_nil_iff.mp z)), q H b (.refl H) hb⟩
  · refine .inl ⟨a, b, _, _, rfl, rfl, ha.sqT, hb.sqT, fun z => h0 (List.map_eq_nil_iff.mp z), (fun z => hy (List.map_eq_nil_iff.mp z)), ?_, fun p o np d => ?_⟩
    · rw [List.length_map, List.length_map]
      exact sz (by omega)
    · refine q _ p (Same.new np) ?_
      rw [List.map_append]
      exact TupN.new d
/-! ### dominoes -/
def dOnes : Nat → List Int
  | 0 => []
  | k + 1 => dOnes k ++ [0 - (2 * (k : Int) + 1), 0, 2 * (k : Int) + 2]
def dOthers : Nat → List Int
  | 0 => []
  | k + 1 => dOthers k ++ [2 * (k : Int) + 1, 0 - (2 * (k : Int) + 2), 0]
theorem dOnes_len : ∀ k, (dOnes k).length = 3 * k
  | 0 => rfl
  | k + 1 => by
    show (dOnes k ++ [_, _, _]).length = _
    rw [List.length_append, dOnes_len k]
    show 3 * k + 3 = _
    omega
theorem dOthers_len : ∀ k, (dOthers k).length = 3 * k
  | 0 => rfl
  | k + 1 => by
    show (dOthers k ++ [_, _, _]).length = _
    rw [List.length_append, dOthers_len k]
    show 3 * k + 3 = _
    omega
theorem dGrown : ∀ k : Nat, k ≤ 12 → Grown 2 names24 [dOnes k, dOthers k] [] (2 * k) (6 * k)
  | 0, _ => .start
  | k + 1, h => by
    have ih := dGrown k (by omega)
    have e1 : names24[2 * k]? = some (2 * (k : Int) + 1) := by
      rw [names24_at (by omega)]
      congr 1
    have e2 : names24[2 * k + 1]? = some (2 * (k : Int) + 2) := by
      rw [names24_at (by omega)]
      congr 1
    have g1 := Grown.send (p := 1) ih rfl e1
    have g2 := Grown.recv (p := 0) (j := 0) g1 rfl rfl (by decide)
    have g3 := Grown.save (p := 0) g2 rfl
    have g4 := Grown.send (p := 0) g3 rfl e2
    have g5 := Grown.recv (p := 1) (j := 0) g4 rfl rfl (by decide)
    have g6 := Grown.save (p := 1) g5 rfl
    have a1 : dOnes (k + 1) = ((dOnes k ++ [0 - (2 * (k : Int) + 1)]) ++ [0]) ++ [2 * (k : Int) + 2] := by
      show dOnes k ++ [_, _, _] = _
      rw [List.append_assoc, List.append_assoc]
      rfl
    have a2 : dOthers (k + 1) = ((dOthers k ++ [2 * (k : Int) + 1]) ++ [0 - (2 * (k : Int) + 2)]) ++ [0] := by
      show dOthers k ++ [_, _, _] = _
      rw [List.append_assoc, List.append_assoc]
      rfl
    rw [a1, a2]
    exact g6
abbrev sDomino : Stmt := topS 16
abbrev nDomino : List Str := ["_law_deck_here", "_law_most", "_law_ones", "_law_others", "_law_k"]
theorem scDomino : FnScope nDomino ["_law_deck_here", "_law_most"] (defScope sDomino) := ⟨rfl, rfl, rfl, by decide +kernel, rfl, by decide +kernel, by decide +kernel⟩
def spDomino (K : PySem.W.Frag) : Sp := fun vs H Q _ => ∃ (st big cel : Addr) (n most : Nat), vs = [.ref st, .int most] ∧ 6 ≤ most ∧ most ≤ 60 ∧ StAt H st big cel n ∧ n + 1 ≤ 1000000 ∧
  ∀ (H' : Hp) (t : Addr) (refs : List Addr) (rows : List (List Int)), TupT H' t (refs.map V.ref) → Rows K H' refs rows → Good 2 most rows → StAt H' st big cel (n + 1) → Kp st big H H' → Q (.ref t) H'
section
variable {P : Program} {w : World} {K : PySem.W.Frag} {mg : Str → Option Value} {base : Heap}
theorem ok_domino {f fD : Addr} {fd fdD : FuncData} (F : Fun K "_law_domino" "_law_domino" sDomino f fd) (FD : Fun K "_law_next" "_law_next" sDraw fD fdD) (bD : Binds K fdD ["_law_deck_here", "_law_many"] [])
    (gD : mg "_law_next" = some (.ref fD)) (mra : mg "range" = none) (mma : mg "max" = none) (mi : mg "int" = none) : FnOk P w K mg base CX0 2 f fd ["_law_deck_here", "_law_most"] (spDomino K) := by
  have GD : FnOk P w K mg base CX0 1 fD fdD ["_law_deck_here", "_law_many"] spDraw := ok_draw FD mi
  refine F.ok scDomino (fun vs H Q E h => ?_) (fun cdv A outer s H vs Q E hr h => ?_)
  · obtain ⟨st, big, cel, n, most, rfl, _⟩ := h
    rfl
  · obtain ⟨st, big, cel, n, most, rfl, hm6, hm60, hS, hn, q⟩ := h
    have nd := scDomino.nd
    refine ⟨_, pss_cons (ps_asg (pe_tup (pa_cons (pe_tupF pa_nil) (pa_cons (pe_tupF pa_nil) pa_nil))) (pg_tup rfl (pgs_cons (pg_name (i := 2) nd rfl (.inl rfl)) (pgs_cons (pg_name (i := 3) nd rfl (.inl rfl)) pgs_nil))))
      (pss_cons (ps_for PassesOwn.never rfl (pi_range1 (by rfl) mra (pa_cons (pe_op op_add pe_int (pe_call GD hr (by rfl) gD FD.kp bD .nil pass0 (pa_cons (pv 0) (pa_cons (pe_callB (call_max2 rfl) (by rfl) mma (by decide +kernel) (pa_cons pe_int (pa_cons (pe_op op_fdiv (pv 1) pe_int) pa_nil))) pa_nil)))) pa_nil)) (pg_name (i := 4) nd rfl (.inl rfl))
        (pss_cons (ps_set (i := 2) nd rfl (.inl rfl) (pe_op op_catA (pv 2) (pe_tupF (pa_cons (pe_op op_sub pe_int (pe_op op_add (pe_op op_mul pe_int (pv 4)) pe_int)) (pa_cons pe_int (pa_cons (pe_op op_add (pe_op op_mul pe_int (pv 4)) pe_int) pa_nil))))))
        (pss_one (ps_set (i := 3) nd rfl (.inl rfl) (pe_op op_catA (pv 3) (pe_tupF (pa_cons (pe_op op_add (pe_op op_mul pe_int (pv 4)) pe_int) (pa_cons (pe_op op_sub pe_int (pe_op op_add (pe_op op_mul pe_int (pv 4)) pe_int)) (pa_cons pe_int pa_nil)))))))))
      (pss_one (ps_ret (pe_tup (pa_cons (pv 2) (pa_cons (pv 3) pa_nil)))))), ?_⟩
    refine ⟨sz (Nat.zero_le _), fun e0 ob0 ne0 de0 => ⟨sz (Nat.zero_le _), fun e1 ob1 ne1 de1 => ⟨sz (by show 2 ≤ 1000; decide), fun T nT => ⟨T, _, rfl, .inl (.inl upd_same), rfl, _, _, rfl, _, _, rfl, rfl, ?_⟩⟩⟩⟩
    have s1 : Same H (upd H e0 (.frz ob0 (.tup []))) := Same.new ne0
    have s2 := (s1.trans (Same.new (o := .frz ob1 (.tup [])) ne1)).trans (Same.new (o := .tup [.ref e0, .ref e1]) nT)
    have h0 : TupN (upd (upd (upd H e0 (.frz ob0 (.tup []))) e1 (.frz ob1 (.tup []))) T (.tup [.ref e0, .ref e1])) e0 ((dOnes 0).map V.int) := TupN.same (TupN.same (TupN.new de0) (Same.new (o := .frz ob1 (.tup [])) ne1)) (Same.new (o := .tup [.ref e0, .ref e1]) nT)
    have h1 : TupN (upd (upd (upd H e0 (.frz ob0 (.tup []))) e1 (.frz ob1 (.tup []))) T (.tup [.ref e0, .ref e1])) e1 ((dOthers 0).map V.int) := TupN.same (TupN.new de1) (Same.new (o := .tup [.ref e0, .ref e1]) nT)
    generalize upd (upd (upd H e0 (.frz ob0 (.tup []))) e1 (.frz ob1 (.tup []))) T (.tup [.ref e0, .ref e1]) = H2 at s2 h0 h1 ⊢
    have hS2 := hS.same s2
    obtain ⟨mm, hmm, hm0, hm9⟩ : ∃ mm : Int, mm = (if (1 : Int) < (most : Int) / 6 then (most : Int) / 6 else 1) ∧ 0 < mm ∧ 6 * mm ≤ most := ⟨_, rfl, by split <;> omega, by split <;> omega⟩
    refine ⟨.ref st, rfl, _, rfl, _, _, rfl, rfl, ⟨by decide, by decide⟩, _, _, rfl, ?_⟩
    rw [← hmm]
    refine ⟨st, big, cel, n, mm, rfl, hm0, by omega, hS2, by omega, fun H3 v v0 v1 hS3 k3 => ⟨_, _, rfl, rfl, _, rfl, by omega, by omega, ?_⟩⟩
    obtain ⟨r, hr'⟩ : ∃ r : Nat, (1 : Int) + v = (r : Int) := ⟨(1 + v).toNat, by omega⟩
    have hr6 : 6 * r ≤ most := by omega
    rw [hr', Int.toNat_natCast]
    refine for_range (lo := 0) (n := r) (fun i σ H4 => ∃ (a b : Addr) (x4 : Option V), σ = [some (.ref st), some (.int most), some (.ref a), some (.ref b), x4] ∧ StAt H4 st big cel (n + 1) ∧ Kp st big H H4 ∧ TupN H4 a ((dOnes i).map V.int) ∧ TupN H4 b ((dOthers i).map V.int))
      ⟨e0, e1, none, rfl, hS3, (Kp.of s2).trans k3, hS2.tupN k3 h0, hS2.tupN k3 h1⟩ ?_ ?_
    · rintro i σ H4 hi ⟨a, b, x4, rfl, hS4, k4, ha, hb⟩
      have ei : (0 : Int) + (i : Nat) = (i : Int) := by omega
      rw [ei]
      have hl1 := dOnes_len i
      have hl2 := dOthers_len i
      refine ⟨.ref a, rfl, _, rfl, _, _, rfl, rfl, .inl ⟨by decide, by decide⟩, _, _, rfl, rfl, _, _, rfl, rfl, _, rfl, _, _, rfl, rfl, .inl ⟨by decide, by decide⟩, _, _, rfl, rfl, sz (by show 3 ≤ 1000; decide), fun T2 ob2 nT2 dT2 => ?_⟩
      have s5 := Same.new (o := .frz ob2 (.tup [V.int (0 - (2 * (i : Int) + 1)), V.int 0, V.int (2 * (i : Int) + 2)])) nT2
      refine cat_more (K := K) (ha.same s5) (ys := [0 - (2 * (i : Int) + 1), 0, 2 * (i : Int) + 2]) (TupN.new dT2) (by simp) (by simp; omega) fun H6 a2 s6 ha2 => gN ?_
      have hb6 := (hb.same s5).same s6
      have s56 := s5.trans s6
      refine ⟨.ref b, rfl, _, rfl, _, _, rfl, rfl, .inl ⟨by decide, by decide⟩, _, _, rfl, rfl, _, rfl, _, _, rfl, rfl, .inl ⟨by decide, by decide⟩, _, _, rfl, rfl, _, _, rfl, rfl, sz (by show 3 ≤ 1000; decide), fun T3 ob3 nT3 dT3 => ?_⟩
      have s7 := Same.new (o := .frz ob3 (.tup [V.int (2 * (i : Int) + 1), V.int (0 - (2 * (i : Int) + 2)), V.int 0])) nT3
      refine cat_more (K := K) (hb6.same s7) (ys := [2 * (i : Int) + 1, 0 - (2 * (i : Int) + 2), 0]) (TupN.new dT3) (by simp) (by simp; omega) fun H8 b2 s8 hb2 => gN ?_
      have s78 := s7.trans s8
      exact ⟨a2, b2, _, rfl, (hS4.same s56).same s78, (k4.trans (.of s56)).trans (.of s78), ha2.same s78, hb2⟩
    · rintro σ H4 ⟨a, b, x4, rfl, hS4, k4, ha, hb⟩
      refine ⟨.ref a, rfl, .ref b, rfl, sz (by show 2 ≤ 1000; decide), fun t nt => ?_⟩
      have s5 : Same H4 (upd H4 t (.tup [.ref a, .ref b])) := Same.new nt
      refine q _ t [a, b] [dOnes r, dOthers r] (.inl upd_same) ⟨rfl, fun i c row h1 h2 => ?_⟩ ⟨2, names24, [], 2 * r, 6 * r, by omega, by omega, .refl _, dGrown r (by omega), hr6⟩ (hS4.same s5) (k4.trans (.of s5))
      match i, h1, h2 with
      | 0, h1, h2 =>
        cases h1
        cases h2
        exact ha.same s5
      | 1, h1, h2 =>
        cases h1
        cases h2
        exact hb.same s5
      | i + 2, h1, _ => simp at h1
end
abbrev sHist : Stmt := topS 21
abbrev nHist : List Str := ["_law_deck_here", "_law_many", "_law_most", "_law_state", "_law_k"]
theorem scHist : FnScope nHist ["_law_deck_here", "_law_many", "_law_most"] (defScope sHist) := ⟨rfl, rfl, rfl, by decide +kernel, rfl, by decide +kernel, by decide +kernel⟩
def spHist (K : PySem.W.Frag) : Sp := fun vs H Q _ => ∃ (st big cel : Addr) (n many most : Nat), vs = [.ref st, .int many, .int most] ∧ 1 ≤ many ∧ many ≤ 6 ∧ 6 ≤ most ∧ most ≤ 60 ∧ StAt H st big cel n ∧ n + 300 ≤ 1000000 ∧
  ∀ (H' : Hp) (t : Addr) (refs : List Addr) (rows : List (List Int)), TupT H' t (refs.map V.ref) → Rows K H' refs rows → Good many most rows → StAt H' st big cel (n + 300) → Kp st big H H' → Q (.ref t) H'
section
variable {P : Program} {w : World} {K : PySem.W.Frag} {mg : Str → Option Value} {base : Heap}
theorem ok_hist {f fD fM fO fB fG fDo : Addr} {fd fdD fdM fdO fdB fdG fdDo : FuncData} (F : Fun K "_law_history" "_law_history" sHist f fd) (FD : Fun K "_law_next" "_law_next" sDraw fD fdD) (bD : Binds K fdD ["_law_deck_here", "_law_many"] [])
    (gD : mg "_law_next" = some (.ref fD)) (FM : Fun K "_law_shuffled" "_law_shuffled" sMixed fM fdM) (bM : Binds K fdM ["_law_deck_here", "_law_items"] []) (gM : mg "_law_shuffled" = some (.ref fM))
    (FO : Fun K "_law_one" "_law_one" sPick fO fdO) (bO : Binds K fdO ["_law_deck_here", "_law_items"] []) (gO : mg "_law_one" = some (.ref fO))
    (FB : Fun K "_law_begun" "_law_begun" sBegun fB fdB) (bB : Binds K fdB ["_law_deck_here", "_law_many"] []) (gB : mg "_law_begun" = some (.ref fB))
    (FG : Fun K "_law_grown" "_law_grown" sGrown fG fdG) (bG : Binds K fdG ["_law_deck_here", "_law_state"] []) (gG : mg "_law_grown" = some (.ref fG))
    (FDo : Fun K "_law_domino" "_law_domino" sDomino fDo fdDo) (bDo : Binds K fdDo ["_law_deck_here", "_law_most"] []) (gDo : mg "_law_domino" = some (.ref fDo))
    (ml : mg "len" = none) (mli : mg "list" = none) (mra : mg "range" = none) (mma : mg "max" = none) (mi : mg "int" = none) : FnOk P w K mg base CX0 4 f fd ["_law_deck_here", "_law_many", "_law_most"] (spHist K) := by
  have GD : FnOk P w K mg base CX0 1 fD fdD ["_law_deck_here", "_law_many"] spDraw := ok_draw FD mi
  have GB : FnOk P w K mg base CX0 3 fB fdB ["_law_deck_here", "_law_many"] (spBegun K) := ok_begun FB FD bD gD FM bM gM ml mli mra mi
  have GG : FnOk P w K mg base CX0 3 fG fdG ["_law_deck_here", "_law_state"] (spGrown K) := ok_grown FG FD bD gD FO bO gO ml mi
  have GDo : FnOk P w K mg base CX0 2 fDo fdDo ["_law_deck_here", "_law_most"] (spDomino K) := ok_domino FDo FD bD gD mra mma mi
  refine F.ok scHist (fun vs H Q E h => ?_) (fun cdv A outer s H vs Q E hr h => ?_)
  · obtain ⟨st, big, cel, n, many, most, rfl, _⟩ := h
    rfl
  · obtain ⟨st, big, cel, n, many, most, rfl, hm1, hm6, ho6, ho60, hS, hn, q⟩ := h
    have nd := scHist.nd
    have hr1 : Room 1 _ := hr.mono (by decide)
    have hr2 : Room 2 _ := hr.mono (by decide)
    refine ⟨_, pss_cons (ps_if (PW.pt (pw_and (pt_cmpR op_gt (pv 1) pe_int (nomark _)) (pw_and1 (pt_cmpR op_eq (pe_call GD hr1 (by rfl) gD FD.kp bD .nil pass0 (pa_cons (pv 0) (pa_cons pe_int pa_nil))) pe_int (nomark _)))))
        (pss_one (ps_ret (pe_call GDo hr2 (by rfl) gDo FDo.kp bDo .nil pass0 (pa_cons (pv 0) (pa_cons (pv 2) pa_nil))))) pss_nil)
      (pss_cons (ps_set (i := 3) nd rfl (.inl rfl) (pe_call GB hr (by rfl) gB FB.kp bB .nil pass0 (pa_cons (pv 0) (pa_cons (pv 1) pa_nil))))
      (pss_cons (ps_for PassesOwn.never rfl (pi_range1 (by rfl) mra (pa_cons (pe_call GD hr1 (by rfl) gD FD.kp bD .nil pass0 (pa_cons (pv 0) (pa_cons (pe_op op_add (pv 2) pe_int) pa_nil))) pa_nil)) (pg_name (i := 4) nd rfl (.inl rfl))
        (pss_one (ps_set (i := 3) nd rfl (.inl rfl) (pe_call GG hr (by rfl) gG FG.kp bG .nil pass0 (pa_cons (pv 0) (pa_cons (pv 3) pa_nil))))))
      (pss_one (ps_ret (pe_ix ix_list (pv 3) pe_int (fun _ _ => rfl)))))), ?_⟩
    refine seqS (stm_useR (t := tIfS _ _ _) (fun σ H1 => σ = [some (.ref st), some (.int many), some (.int most), none, none] ∧ StAt H1 st big cel (n + 1) ∧ Kp st big H H1) (fun nx' qn => ?_) (fun σ H1 z => ?_))
    · refine ifS ⟨_, rfl, _, _, rfl, rfl, _, rfl, iteB (fun e => ?_) (fun _ => qn _ _ ⟨rfl, hS.le (by omega) (by omega), .refl H⟩)⟩
      have hm2 : (1 : Int) < (many : Int) := of_decide_eq_true e
      refine ⟨.ref st, rfl, st, big, cel, _, 6, rfl, by decide, by decide, hS, by omega, fun H1 v v0 v1 hS1 k1 => ⟨rfl, _, rfl, iteB (fun _ => ?_) (fun _ => qn _ _ ⟨rfl, hS1, k1⟩)⟩⟩
      refine ⟨.ref st, rfl, .int most, rfl, st, big, cel, _, most, rfl, ho6, ho60, hS1, by omega, fun H2 t refs rows ht hR hG hS2 k2 => ?_⟩
      obtain ⟨c, nm, o, u, k, z1, z2, z3⟩ := hG
      exact q H2 t refs rows ht hR ⟨c, nm, o, u, k, z1, by omega, z3⟩ (hS2.le (by omega) (by omega)) (k1.trans k2)
    · obtain ⟨rfl, hS1, k1⟩ := z
      refine ⟨.ref st, rfl, .int many, rfl, st, big, cel, _, many, rfl, hm1, hm6, hS1, by omega, fun H2 t c nm sh hG2 hc1 hcm hnm hsh hS2 k2 => gN ?_⟩
      refine ⟨.ref st, rfl, .int most, rfl, _, _, rfl, rfl, st, big, cel, _, _, rfl, by omega, by omega, hS2, by omega, fun H3 v v0 v1 hS3 k3 => ⟨_, rfl, by omega, by omega, ?_⟩⟩
      obtain ⟨r, rfl⟩ : ∃ r : Nat, v = (r : Int) := ⟨v.toNat, (Int.toNat_of_nonneg v0).symm⟩
      have hG3 := hG2.kp hS2 k3
      rw [Int.toNat_natCast]
      refine for_range (lo := 0) (n := r) (fun i σ H4 => ∃ (t : Addr) (x4 : Option V) (rows : List (List Int)) (o : List (Int × Int)) (u : Nat), σ = [some (.ref st), some (.int many), some (.int most), some (.ref t), x4] ∧ StAt H4 st big cel (n + 32 + 4 * i) ∧ Kp st big H H4 ∧ GSt K H4 st big t nm rows o u sh ∧ Grown c nm rows o u i)
        ⟨t, none, _, _, _, rfl, hS3.le (by omega) (by omega), (k1.trans k2).trans k3, hG3, .start⟩ ?_ ?_
      · rintro i σ H4 hi ⟨t, x4, rows, o, u, rfl, hS4, k4, hG4, hg⟩
        refine ⟨.ref st, rfl, .ref t, rfl, st, big, cel, t, _, c, nm, rows, o, u, i, sh, rfl, hS4, by omega, hG4, hg, hnm, hc1, by omega, by omega, fun H5 t' rows' o' u' hG5 hg5 hS5 k5 => ?_⟩
        exact ⟨t', _, rows', o', u', rfl, hS5.le (by omega) (by omega), k4.trans k5, hG5, hg5⟩
      · rintro σ H4 ⟨t, x4, rows, o, u, rfl, hS4, k4, hG4, hg⟩
        obtain ⟨R, N, O, refs, orefs, G⟩ := hG4
        refine ⟨.ref t, rfl, t, _, 0, _, rfl, rfl, SqL.of G.1, atI_nat (j := 0) rfl, ?_⟩
        exact q H4 R refs rows G.2.1 G.2.2.1 ⟨c, nm, o, u, r, hc1, hcm, hnm, hg, by omega⟩ (hS4.le (by omega) (by omega)) k4
end

end Sv

namespace Sv
open PySem PySem.Spec PyProof.Rows L2
/-! ### data whose text is short -/
structure Fine (n W : Nat) (d : PyData) : Prop where
  dep : d.depth ≤ n
  wei : d.weight ≤ W
  lay : d.canLay0 = true
  sho : d.showable = true
  ish : d.intsShort 40 = true
structure FineAll (n W : Nat) (ds : List PyData) : Prop where
  dep : PyData.depthAll ds ≤ n
  wei : PyData.weightAll ds ≤ W
  lay : PyData.canLayAll0 ds = true
  sho : PyData.showableAll ds = true
  ish : PyData.intsShortAll 40 ds = true
theorem fine_int {i : Int} (h : i.natAbs < 10 ^ 30) : Fine 0 101 (.int i) := by
  have hl : i.natAbs ≠ 0 → i.natAbs.log2 < 100 := fun h0 => (Nat.log2_lt h0).mpr (Nat.lt_trans h (by decide +kernel))
  have hl2 : i.natAbs.log2 < 1920 := by
    by_cases h0 : i.natAbs = 0
    · rw [h0]; decide
    · exact Nat.lt_trans (hl h0) (by decide)
  refine ⟨Nat.le_refl _, ?_, rfl, decide_eq_true hl2, decide_eq_true ?_⟩
  · simp only [PyData.weight]
    split
    · exact Nat.zero_le _
    · rename_i h0
      have : i.natAbs ≠ 0 := fun z => h0 (by rw [beq_iff_eq]; omega)
      have := hl this
      omega
  · have e := int_text_length_le10 (a := i) (k := 30) (by decide) h
    show (Str.ofString (toString i)).length ≤ 40
    rw [PySem.ofString_length]
    omega
theorem fine_none : Fine 0 101 .none := ⟨Nat.le_refl _, Nat.zero_le _, rfl, rfl, rfl⟩
theorem fine_bool (b : Bool) : Fine 0 101 (.bool b) := ⟨Nat.le_refl _, Nat.zero_le _, rfl, rfl, rfl⟩
theorem Fine.mono {n W m U : Nat} {d : PyData} (h : Fine n W d) (e : n ≤ m) (e2 : W ≤ U) : Fine m U d := ⟨Nat.le_trans h.dep e, Nat.le_trans h.wei e2, h.lay, h.sho, h.ish⟩
theorem FineAll.mono {n W m U : Nat} {d : List PyData} (h : FineAll n W d) (e : n ≤ m) (e2 : W ≤ U) : FineAll m U d := ⟨Nat.le_trans h.dep e, Nat.le_trans h.wei e2, h.lay, h.sho, h.ish⟩
theorem fine_nil : FineAll 0 0 [] := ⟨Nat.le_refl _, Nat.le_refl _, rfl, rfl, rfl⟩
theorem fine_cons {n W U : Nat} {d : PyData} {ds : List PyData} (h : Fine n W d) (hs : FineAll n U ds) : FineAll n (W + 1 + U) (d :: ds) := by
  refine ⟨?_, ?_, ?_, ?_, ?_⟩
  · simp only [PyData.depthAll]
    exact Nat.max_le.mpr ⟨h.dep, hs.dep⟩
  · have h1 := h.wei
    have h2 := hs.wei
    simp only [PyData.weightAll]
    omega
  · simp only [PyData.canLayAll0, h.lay, hs.lay, Bool.and_self]
  · simp only [PyData.showableAll, h.sho, hs.sho, Bool.and_self]
  · simp only [PyData.intsShortAll, h.ish, hs.ish, Bool.and_self]
theorem fine_list {n W : Nat} {ds : List PyData} (h : FineAll n W ds) : Fine (n + 1) W (.list ds) := by
  have h1 := h.dep
  refine ⟨by simp only [PyData.depth]; omega, h.wei, ?_, ?_, ?_⟩
  · simp only [PyData.canLay0, h.lay]
  · simp only [PyData.showable, h.sho]
  · simp only [PyData.intsShort, h.ish]
theorem fine_tuple {n W : Nat} {ds : List PyData} (h : FineAll n W ds) : Fine (n + 1) W (.tuple ds) := by
  have h1 := h.dep
  refine ⟨by simp only [PyData.depth]; omega, h.wei, ?_, ?_, ?_⟩
  · simp only [PyData.canLay0, h.lay]
  · simp only [PyData.showable, h.sho]
  · simp only [PyData.intsShort, h.ish]
theorem fine_all {n W : Nat} : ∀ {ds : List PyData}, (∀ d ∈ ds, Fine n W d) → FineAll n ((W + 1) * ds.length) ds
  | [], _ => fine_nil.mono (Nat.zero_le _) (Nat.zero_le _)
  | d :: ds, h => by
    have q := fine_cons (h d List.mem_cons_self) (fine_all fun x hx => h x (List.mem_cons_of_mem _ hx))
    refine q.mono (Nat.le_refl _) ?_
    rw [List.length_cons, Nat.mul_add, Nat.mul_one]
    omega
theorem fine_ints {ns : List Int} (h : ∀ n ∈ ns, n.natAbs < 10 ^ 30) : FineAll 0 (102 * ns.length) (iD ns) := by
  have q := fine_all (n := 0) (W := 101) (ds := iD ns) fun d hd => by
    obtain ⟨n, hn, rfl⟩ := List.mem_map.mp hd
    exact fine_int (h n hn)
  unfold iD at q ⊢
  rw [List.length_map] at q
  exact q
theorem Fine.len {n W : Nat} {d : PyData} (h : Fine n W d) (hW : W ≤ 300000) : d.shown.length ≤ sizeLine := by
  have q := PyData.shown_le 40 (by decide) d (PyData.leavesShort_of_canLay0 40 d h.lay h.ish)
  have := h.wei
  rw [sizeLine_eq]
  omega
theorem Fine.shown {K : PySem.W.Frag} {H : Hp} {v : V} {n W : Nat} {d : PyData} (h : Fine n W d) (hn : n ≤ 60) (hW : W ≤ 300000) (hd : Dp K H v d) (hi : isDisplay d = true) : Shown K H v d :=
  ⟨hd, hi, h.sho, PyData.hasDict_of_canLay d h.lay, Nat.le_trans h.dep hn, h.len hW⟩
theorem Fine.shaped {n W : Nat} {d : PyData} (h : Fine n W d) (hn : n ≤ 60) : SeqAt.shaped d = true := by
  have := h.dep
  show (d.canLay0 && decide (d.depth ≤ 64)) = true
  rw [h.lay, Bool.true_and]
  exact decide_eq_true (by omega)
/-! ### the rows as data -/
def rD (rows : List (List Int)) : PyData := .tuple (rows.map fun r => .tuple (iD r))
theorem Rows.dpAll {K : PySem.W.Frag} {H : Hp} : ∀ {refs : List Addr} {rows : List (List Int)}, Rows K H refs rows → DpAll K H (refs.map V.ref) (rows.map fun r => .tuple (iD r))
  | [], [], _ => .nil
  | [], _ :: _, h => absurd h.1 (by simp)
  | _ :: _, [], h => absurd h.1 (by simp)
  | a :: r, p :: o, h => .cons (dp_tup (h.2 0 a p rfl rfl).sqT) (Rows.dpAll ⟨by simpa using h.1, fun i b q h1 h2 => h.2 (i + 1) b q h1 h2⟩)
theorem Rows.dp {K : PySem.W.Frag} {H : Hp} {t : Addr} {refs : List Addr} {rows : List (List Int)} (h : Rows K H refs rows) (ht : SqT K H t (refs.map V.ref)) : Dp K H (.ref t) (rD rows) := .tup ht h.dpAll
theorem Grown.small {c : Nat} {nm : List Int} {r : List (List Int)} {o : List (Int × Int)} {u k : Nat} (h : Grown c nm r o u k) (hn : nm.Perm names24) :
    (∀ row ∈ r, ∀ e ∈ row, -24 ≤ e ∧ e ≤ 24) ∧ ∀ p ∈ o, 1 ≤ p.1 ∧ p.1 ≤ 24 := by
  have setl : ∀ {r : List (List Int)} {p : Nat} {row : List Int} {v : Int}, (∀ row ∈ r, ∀ e ∈ row, -24 ≤ e ∧ e ≤ 24) → r[p]? = some row → -24 ≤ v → v ≤ 24 → ∀ row' ∈ r.set p (row ++ [v]), ∀ e ∈ row', -24 ≤ e ∧ e ≤ 24 := by
    intro r p row v h1 h2 h3 h4 row' hr e he
    rcases List.mem_or_eq_of_mem_set hr with z | rfl
    · exact h1 _ z e he
    · rcases List.mem_append.mp he with z | z
      · exact h1 _ (List.mem_of_getElem? h2) e z
      · rw [List.mem_singleton.mp z]
        exact ⟨h3, h4⟩
  have hm : ∀ m ∈ nm, 1 ≤ m ∧ m ≤ 24 := by
    intro m h1
    have h2 := hn.mem_iff.mp h1
    obtain ⟨i, hi, rfl⟩ := List.mem_map.mp h2
    have := List.mem_range.mp hi
    omega
  induction h with
  | start =>
    refine ⟨fun row hr e he => ?_, fun p hp => (nomatch hp)⟩
    rw [(List.mem_replicate.mp hr).2] at he
    exact (nomatch he)
  | skip _ ih => exact ih
  | save _ h ih => exact ⟨setl ih.1 h (by decide) (by decide), ih.2⟩
  | send _ h hu ih =>
    have := hm _ (List.mem_of_getElem? hu)
    refine ⟨setl ih.1 h (by omega) (by omega), fun p hp => ?_⟩
    rcases List.mem_append.mp hp with z | z
    · exact ih.2 p z
    · rw [List.mem_singleton.mp z]
      exact this
  | recv _ h hj _ ih =>
    have := ih.2 _ (List.mem_of_getElem? hj)
    exact ⟨setl ih.1 h (by omega) (by omega), fun p hp => ih.2 p (List.mem_of_mem_eraseIdx hp)⟩
theorem Good.len {many most : Nat} {rows : List (List Int)} (h : Good many most rows) : 1 ≤ rows.length ∧ rows.length ≤ many := by
  obtain ⟨c, nm, o, u, k, h1, h2, h3, h4, h5⟩ := h
  rw [h4.len]
  exact ⟨h1, h2⟩
theorem Good.events {many most : Nat} {rows : List (List Int)} (h : Good many most rows) : (rows.map List.length).sum ≤ most := by
  obtain ⟨c, nm, o, u, k, h1, h2, h3, h4, h5⟩ := h
  exact Nat.le_trans h4.events h5
theorem Good.row {many most : Nat} {rows : List (List Int)} (h : Good many most rows) {i : Nat} {row : List Int} (e : rows[i]? = some row) : row.length ≤ most ∧ ∀ x ∈ row, -24 ≤ x ∧ x ≤ 24 := by
  obtain ⟨c, nm, o, u, k, h1, h2, h3, h4, h5⟩ := id h
  exact ⟨Nat.le_trans (len_le_sum e) h.events, (h4.small h3).1 row (List.mem_of_getElem? e)⟩
theorem Good.fine {many most : Nat} {rows : List (List Int)} (h : Good many most rows) (h1 : many ≤ 6) (h2 : most ≤ 60) : Fine 2 40000 (rD rows) := by
  have q := fine_all (n := 1) (W := 6120) (ds := rows.map fun r => PyData.tuple (iD r)) fun d hd => by
    obtain ⟨r, hr, rfl⟩ := List.mem_map.mp hd
    obtain ⟨i, hi⟩ := List.getElem?_of_mem hr
    obtain ⟨h3, h4⟩ := h.row hi
    refine (fine_tuple (fine_ints fun n hn => ?_)).mono (Nat.le_refl _) (by omega)
    have := h4 n hn
    have : n.natAbs ≤ 24 := by omega
    exact Nat.lt_of_le_of_lt this (by decide)
  rw [List.length_map] at q
  have := h.len
  exact (fine_tuple q).mono (Nat.le_refl _) (by omega)

end Sv

namespace Sv
open PySem PySem.Spec PyProof.Rows L2
/-! ### where messages are sent and received -/
theorem Rows.at {K : PySem.W.Frag} {H : Hp} {refs : List Addr} {rows : List (List Int)} (h : Rows K H refs rows) {p : Nat} {row : List Int} (e : rows[p]? = some row) : ∃ a, refs[p]? = some a ∧ TupN H a (row.map V.int) := by
  have hp : p < refs.length := by
    rw [h.1]
    exact (List.getElem?_eq_some_iff.mp e).1
  exact ⟨_, List.getElem?_eq_getElem hp, h.2 p _ row (List.getElem?_eq_getElem hp) e⟩
def hapFrom (e : Int) : Nat → List (List Int) → Option (Nat × Nat)
  | _, [] => none
  | p, r :: rs => if e ∈ r then some (p, (r.take (r.idxOf e)).count 0) else hapFrom e (p + 1) rs
def hap (rows : List (List Int)) (e : Int) : Option (Nat × Nat) := hapFrom e 0 rows
theorem hapFrom_none {e : Int} : ∀ {rs : List (List Int)} {p : Nat}, (∀ (j : Nat) (r : List Int), rs[j]? = some r → e ∉ r) → hapFrom e p rs = none
  | [], _, _ => rfl
  | r :: rs, p, h => by
    unfold hapFrom
    rw [if_neg (h 0 r rfl)]
    exact hapFrom_none fun j r' hr => h (j + 1) r' hr
theorem hapFrom_some {e : Int} : ∀ {rs : List (List Int)} {p i : Nat} {row : List Int}, (∀ (j : Nat) (r : List Int), j < i → rs[j]? = some r → e ∉ r) → rs[i]? = some row → e ∈ row → hapFrom e p rs = some (p + i, (row.take (row.idxOf e)).count 0)
  | [], _, i, _, _, h, _ => by simp at h
  | r :: rs, p, 0, row, _, h, he => by
    obtain rfl : r = row := Option.some.inj h
    unfold hapFrom
    rw [if_pos he]
    rfl
  | r :: rs, p, i + 1, row, hn, h, he => by
    unfold hapFrom
    rw [if_neg (hn 0 r (Nat.succ_pos _) rfl), hapFrom_some (i := i) (fun j r' hj hr => hn (j + 1) r' (Nat.succ_lt_succ hj) hr) h he]
    have : p + 1 + i = p + (i + 1) := by omega
    rw [this]
def HapV (H : Hp) (v : V) : Option (Nat × Nat) → Prop
  | none => v = .non
  | some (p, k) => ∃ t, v = .ref t ∧ H t = some (.tup [.int p, .int k])
theorem HapV.same {H H' : Hp} {v : V} {o : Option (Nat × Nat)} (h : HapV H v o) (e : Same H H') : HapV H' v o := by
  match o, h with
  | none, h => exact h
  | some (p, k), ⟨t, h1, h2⟩ => exact ⟨t, h1, e _ _ h2⟩
def hapD : Option (Nat × Nat) → PyData
  | none => .none
  | some (p, k) => .tuple [.int p, .int k]
theorem HapV.dp {K : PySem.W.Frag} {H : Hp} {v : V} {o : Option (Nat × Nat)} (h : HapV H v o) : Dp K H v (hapD o) := by
  match o, h with
  | none, h =>
    cases (show v = .non from h)
    exact .non
  | some (p, k), ⟨t, h1, h2⟩ =>
    subst h1
    exact .tup (.inl (.inl h2)) (.cons (.int _) (.cons (.int _) .nil))
/-- a process and an interval that are small -/
def HapS (o : Option (Nat × Nat)) : Prop := ∀ p k, o = some (p, k) → p ≤ 1000 ∧ k ≤ 1000
theorem hapD_fine {o : Option (Nat × Nat)} (h : HapS o) : Fine 1 300 (hapD o) := by
  match o, h with
  | none, _ => exact fine_none.mono (by decide) (by decide)
  | some (p, k), h =>
    obtain ⟨h1, h2⟩ := h p k rfl
    have f : ∀ n : Nat, n ≤ 1000 → Fine 0 101 (.int (n : Int)) := fun n hn => fine_int (by
      have : ((n : Int)).natAbs = n := Int.natAbs_natCast n
      rw [this]
      exact Nat.lt_of_le_of_lt hn (by decide))
    exact (fine_tuple (fine_cons (f p h1) (fine_cons (f k h2) (fine_nil.mono (Nat.le_refl _) (Nat.le_refl _))))).mono (Nat.le_refl _) (by decide)
theorem hapFrom_small {e : Int} : ∀ {rs : List (List Int)} {p : Nat}, (∀ r ∈ rs, r.length ≤ 1000) → p + rs.length ≤ 1000 → HapS (hapFrom e p rs)
  | [], _, _, _ => fun p k h => (nomatch h)
  | r :: rs, p, h, hl => by
    unfold hapFrom
    rw [List.length_cons] at hl
    split
    · intro p' k' h'
      cases h'
      refine ⟨by omega, Nat.le_trans (List.count_le_length ..) ?_⟩
      rw [List.length_take]
      exact Nat.le_trans (Nat.min_le_right _ _) (h r List.mem_cons_self)
    · exact hapFrom_small (fun r' hr => h r' (List.mem_cons_of_mem _ hr)) (by omega)
theorem Good.hapS {many most : Nat} {rows : List (List Int)} (h : Good many most rows) (h1 : many ≤ 6) (h2 : most ≤ 60) (e : Int) : HapS (hap rows e) := by
  refine hapFrom_small (fun r hr => ?_) (by have := h.len; omega)
  obtain ⟨i, hi⟩ := List.getElem?_of_mem hr
  have := (h.row hi).1
  omega

end Sv

namespace Sv
open PySem PySem.Spec PyProof.Rows L2
abbrev sHap : Stmt := topS 3
theorem scHap : FnScope ["history", "event", "process", "row", "interval", "other"] ["history", "event"] (defScope sHap) := ⟨rfl, rfl, rfl, by decide +kernel, rfl, by decide +kernel, by decide +kernel⟩
def spHap (K : PySem.W.Frag) : Sp := fun vs H Q _ => ∃ (a : Addr) (refs : List Addr) (rows : List (List Int)) (e : Int), vs = [.ref a, .int e] ∧ SqT K H a (refs.map V.ref) ∧ Rows K H refs rows ∧ (∀ r ∈ rows, r.length ≤ 1000) ∧
  ∀ (H' : Hp) (v : V), Same H H' → HapV H' v (hap rows e) → Q v H'
section
variable {P : Program} {w : World} {K : PySem.W.Frag} {mg : Str → Option Value} {base : Heap}
theorem ok_hap {f : Addr} {fd : FuncData} (F : Fun K "happened_at" "happened_at" sHap f fd) (men : mg "enumerate" = none) : FnOk P w K mg base CX0 1 f fd ["history", "event"] (spHap K) := by
  refine F.ok scHap (fun vs H Q E h => ?_) (fun cdv A outer s H vs Q E hr h => ?_)
  · obtain ⟨a, refs, rows, e, rfl, _⟩ := h
    rfl
  · obtain ⟨a, refs, rows, e, rfl, hA, hR, hl, q⟩ := h
    have nd := scHap.nd
    refine ⟨_, pss_cons (ps_for PassesOwn.never rfl (pi_enumT (by rfl) men (pa_cons (pv 0) pa_nil)) (pg_tup rfl (pgs_cons (pg_name (i := 2) nd rfl (.inl rfl)) (pgs_cons (pg_name (i := 3) nd rfl (.inl rfl)) pgs_nil)))
        (pss_cons (ps_set (i := 4) nd rfl (.inl rfl) pe_int)
        (pss_one (ps_for PassesOwn.never rfl (pi_tup (pv 3)) (pg_name (i := 5) nd rfl (.inl rfl))
          (pss_cons (ps_if (pt_cmpR op_eq (pv 5) (pv 1) (nomark _)) (pss_one (ps_ret (pe_tup (pa_cons (pv 2) (pa_cons (pv 4) pa_nil))))) pss_nil)
          (pss_one (ps_if (pt_cmpR op_eq (pv 5) pe_int (nomark _)) (pss_one (ps_aug (i := 4) nd rfl (.inl rfl) pe_int ip_add)) pss_nil)))))))
      (pss_one (ps_ret pe_non)), ?_⟩
    refine ⟨.ref a, rfl, a, _, rfl, hA, ?_⟩
    refine for_etup (K := K) (a := a) (xs := refs.map V.ref) (fun i σ H' => ∃ x2 x3 x4 x5 : Option V, σ = [some (.ref a), some (.int e), x2, x3, x4, x5] ∧ Same H H' ∧ ∀ (j : Nat) (r : List Int), j < i → rows[j]? = some r → e ∉ r)
      ⟨_, _, _, _, rfl, Same.refl H, fun j r z _ => absurd z (Nat.not_lt_zero _)⟩ (fun i σ H' _ ⟨_, _, _, _, _, sm, _⟩ => (TupK.of sm).1 _ _ hA) ?_ ?_
    · rintro i x T σ H' hx ⟨x2, x3, x4, x5, rfl, sm, hno⟩ nT
      obtain ⟨r, hr', rfl⟩ := of_at_map hx
      have hi : i < rows.length := by
        rw [← hR.1]
        exact (List.getElem?_eq_some_iff.mp hr').1
      have hrow := List.getElem?_eq_getElem hi
      have hln := hl _ (List.mem_of_getElem? hrow)
      have sT := sm.trans (Same.new (o := .tup [V.int (i : Nat), V.ref r]) nT)
      have hrT := (hR.2 i r _ hr' hrow).same sT
      generalize rows[i] = row at hrow hln hrT
      refine ⟨T, _, rfl, .inl (.inl upd_same), rfl, _, _, rfl, _, _, rfl, rfl, ?_⟩
      generalize upd H' T (.tup [V.int (i : Nat), V.ref r]) = H2 at sT hrT ⊢
      refine ⟨_, rfl, r, rfl, ⟨_, hrT.sqT⟩, ?_⟩
      refine for_tup (K := K) (a := r) (xs := row.map V.int) (fun j σ H' => ∃ x5 : Option V, σ = [some (.ref a), some (.int e), some (.int (i : Nat)), some (.ref r), some (.int ((row.take j).count 0 : Nat)), x5] ∧ H' = H2 ∧ e ∉ row.take j)
        ⟨_, rfl, rfl, List.not_mem_nil⟩ (fun j σ H' _ ⟨_, _, e2, _⟩ => e2 ▸ hrT.sqT) ?_ ?_
      · rintro j x σ H' hx ⟨x5, rfl, rfl, hn⟩
        obtain ⟨z, hz, rfl⟩ := of_at_map hx
        have hj : j < row.length := (List.getElem?_eq_some_iff.mp hz).1
        have htk : row.take (j + 1) = row.take j ++ [z] := by
          rw [List.take_add_one, hz]
          rfl
        refine ⟨_, rfl, _, rfl, rfl, _, rfl, ?_⟩
        rw [dec_int]
        refine ite2 (fun h1 => ?_) (fun h1 => ?_)
        · obtain rfl : z = e := by simpa using h1
          refine ⟨_, rfl, _, rfl, sz (by show 2 ≤ 1000; decide), fun t nt => ?_⟩
          refine q _ _ (sT.trans (Same.new nt)) ?_
          have hm : z ∈ row := List.mem_of_getElem? hz
          have hix : row.idxOf z = j := by
            have hk := List.idxOf_lt_length_iff.mpr hm
            have hg : row[row.idxOf z] = z := List.getElem_idxOf hk
            rcases Nat.lt_trichotomy (row.idxOf z) j with h | h | h
            · exact absurd (List.mem_take_iff_getElem.mpr ⟨row.idxOf z, by omega, hg⟩) hn
            · exact h
            · have := List.not_of_lt_findIdx (xs := row) (p := (· == z)) (i := j) h
              have hzz : row[j] = z := (List.getElem?_eq_some_iff.mp hz).2
              simp [hzz] at this
          have hh : hap rows z = some (0 + i, (row.take (row.idxOf z)).count 0) := hapFrom_some hno hrow hm
          rw [hh, Nat.zero_add, hix]
          exact ⟨t, rfl, upd_same⟩
        · have hze : z ≠ e := by simpa using h1
          refine ⟨_, rfl, rfl, _, rfl, ?_⟩
          rw [dec_int]
          have hn2 : e ∉ row.take (j + 1) := by
            rw [htk, List.mem_append, List.mem_singleton]
            rintro (h | h)
            · exact hn h
            · exact hze h.symm
          refine ite2 (fun h2 => ?_) (fun h2 => ?_)
          · obtain rfl : z = 0 := by simpa using h2
            refine ⟨_, rfl, _, _, rfl, rfl, some (.int 0), ?_, rfl, hn2⟩
            rw [htk, List.count_append, List.count_singleton_self]
            rfl
          · have hz0 : z ≠ 0 := by simpa using h2
            refine ⟨some (.int z), ?_, rfl, hn2⟩
            rw [htk, List.count_append, List.count_singleton, if_neg (by simpa using hz0), Nat.add_zero]
            rfl
      · rintro σ H' ⟨x5, rfl, rfl, hn⟩
        refine ⟨_, _, _, _, rfl, sT, fun j r' hj hr2 => ?_⟩
        by_cases hji : j = i
        · subst hji
          obtain rfl := Option.some.inj (hrow.symm.trans hr2)
          rw [List.length_map, List.take_length] at hn
          exact hn
        · exact hno j r' (by omega) hr2
    · rintro σ H' ⟨x2, x3, x4, x5, rfl, sm, hno⟩
      refine q H' _ sm ?_
      have hh : hap rows e = none := hapFrom_none fun j r' hr2 => hno j r' (by
        rw [List.length_map, hR.1]
        exact (List.getElem?_eq_some_iff.mp hr2).1) hr2
      rw [hh]
      rfl
end

end Sv

namespace Sv
open PySem PySem.Spec PyProof.Rows L2
theorem names_pos {nm : List Int} (hn : nm.Perm names24) : ∀ m ∈ nm, 1 ≤ m ∧ m ≤ 24 := by
  intro m h1
  have h2 := hn.mem_iff.mp h1
  obtain ⟨i, hi, rfl⟩ := List.mem_map.mp h2
  have := List.mem_range.mp hi
  omega
/-! ### every message once -/
theorem flat_set {r : List (List Int)} {p : Nat} {row : List Int} {v : Int} (h : r[p]? = some row) : (r.set p (row ++ [v])).flatten.Perm (v :: r.flatten) := by
  induction r generalizing p with
  | nil => simp at h
  | cons a r ih =>
    cases p with
    | zero =>
      obtain rfl : a = row := Option.some.inj h
      simp only [List.set_cons_zero, List.flatten_cons, List.append_assoc, List.singleton_append]
      exact List.perm_middle
    | succ p =>
      simp only [List.set_cons_succ, List.flatten_cons]
      exact ((ih (p := p) h).append_left a).trans List.perm_middle
theorem unerase_perm {α : Type} : ∀ {o : List α} {j : Nat} {x : α}, o[j]? = some x → (x :: o.eraseIdx j).Perm o
  | [], j, _, h => by simp at h
  | a :: o, 0, x, h => by
    obtain rfl : a = x := Option.some.inj h
    exact .refl _
  | a :: o, j + 1, x, h => by
    rw [List.eraseIdx_cons_succ]
    exact (List.Perm.swap a x _).trans ((unerase_perm (o := o) (j := j) h).cons a)
def poss (l : List Int) : List Int := l.filter fun e => decide (0 < e)
def negs (l : List Int) : List Int := (l.filter fun e => decide (e < 0)).map fun e => -e
theorem Grown.once {c : Nat} {nm : List Int} {r : List (List Int)} {o : List (Int × Int)} {u k : Nat} (h : Grown c nm r o u k) (hn : nm.Perm names24) :
    (poss r.flatten).Perm (nm.take u) ∧ (negs r.flatten ++ o.map (·.1)).Perm (nm.take u) := by
  induction h with
  | start =>
    have e : (List.replicate c ([] : List Int)).flatten = [] := by simp
    rw [e]
    exact ⟨.refl _, .refl _⟩
  | skip _ ih => exact ih
  | save _ h ih =>
    have p := flat_set (v := 0) h
    exact ⟨(p.filter _).trans ih.1, (((p.filter _).map _).append_right _).trans ih.2⟩
  | @send r o u k p row m g h hu ih =>
    have q := flat_set (v := m) h
    have hm := names_pos hn _ (List.mem_of_getElem? hu)
    have tk : nm.take (u + 1) = nm.take u ++ [m] := by
      rw [List.take_add_one, hu]
      rfl
    rw [tk]
    have h1 : poss (m :: r.flatten) = m :: poss r.flatten := List.filter_cons_of_pos (decide_eq_true (by omega))
    have h2 : negs (m :: r.flatten) = negs r.flatten := by
      unfold negs
      rw [List.filter_cons_of_neg (by rw [decide_eq_false (show ¬ m < 0 by omega)]; exact Bool.false_ne_true)]
    refine ⟨(q.filter _).trans ?_, (((q.filter _).map _).append_right _).trans ?_⟩
    · show (poss (m :: r.flatten)).Perm _
      rw [h1]
      exact (ih.1.cons m).trans (List.perm_append_singleton m _).symm
    · show (negs (m :: r.flatten) ++ _).Perm _
      rw [h2, List.map_append, ← List.append_assoc]
      exact ih.2.append_right _
  | @recv r o u k row j m q p g h hj _ ih =>
    have w := flat_set (v := 0 - m) h
    have hm := (g.small hn).2 _ (List.mem_of_getElem? hj)
    have h1 : poss ((0 - m) :: r.flatten) = poss r.flatten := List.filter_cons_of_neg (by rw [decide_eq_false (show ¬ 0 < 0 - m by simp only at hm; omega)]; exact Bool.false_ne_true)
    have h2 : negs ((0 - m) :: r.flatten) = m :: negs r.flatten := by
      have d : decide (0 - m < 0) = true := decide_eq_true (by simp only at hm; omega)
      have e1 : -(0 - m) = m := by omega
      unfold negs
      simp only [List.filter_cons, d, if_true, List.map_cons, e1]
    refine ⟨(w.filter _).trans ?_, (((w.filter _).map _).append_right _).trans ?_⟩
    · show (poss ((0 - m) :: r.flatten)).Perm _
      rw [h1]
      exact ih.1
    · show (negs ((0 - m) :: r.flatten) ++ _).Perm _
      rw [h2]
      have e := (unerase_perm hj).map Prod.fst
      refine List.Perm.trans ?_ ((e.append_left _).trans ih.2)
      exact List.perm_middle.symm
theorem names_nodup : names24.Nodup := by decide
theorem Grown.count {c : Nat} {nm : List Int} {r : List (List Int)} {o : List (Int × Int)} {u k : Nat} (h : Grown c nm r o u k) (hn : nm.Perm names24) {e : Int} (he : e ≠ 0) : r.flatten.count e ≤ 1 := by
  obtain ⟨h1, h2⟩ := h.once hn
  have nt : (nm.take u).Nodup := ((hn.nodup_iff).mpr names_nodup).sublist (List.take_sublist _ _)
  by_cases hp : 0 < e
  · have n1 : (poss r.flatten).Nodup := h1.nodup_iff.mpr nt
    have := List.nodup_iff_count.mp n1 e
    unfold poss at this
    rw [List.count_filter (p := fun e : Int => decide (0 < e)) (decide_eq_true hp)] at this
    exact this
  · have n2 : (negs r.flatten).Nodup := (h2.nodup_iff.mpr nt).sublist (List.sublist_append_left _ _)
    have hlt : e < 0 := by omega
    have n3 : (r.flatten.filter fun e => decide (e < 0)).Nodup := by
      unfold negs at n2
      exact (List.pairwise_map.mp n2).imp fun h z => h (by rw [z])
    have := List.nodup_iff_count.mp n3 e
    rw [List.count_filter (p := fun e : Int => decide (e < 0)) (decide_eq_true hlt)] at this
    exact this
theorem count_at : ∀ {r : List (List Int)} {i : Nat} {row : List Int} {e : Int}, r[i]? = some row → row.count e ≤ r.flatten.count e
  | [], i, _, _, h => by simp at h
  | a :: r, 0, row, e, h => by
    obtain rfl : a = row := Option.some.inj h
    rw [List.flatten_cons, List.count_append]
    omega
  | a :: r, i + 1, row, e, h => by
    have := count_at (r := r) (i := i) (e := e) h
    rw [List.flatten_cons, List.count_append]
    omega
theorem count_two : ∀ {r : List (List Int)} {i j : Nat} {a b : List Int} {e : Int}, i < j → r[i]? = some a → r[j]? = some b → e ∈ a → e ∈ b → 2 ≤ r.flatten.count e
  | [], i, _, _, _, _, _, h, _, _, _ => by simp at h
  | x :: r, 0, j + 1, a, b, e, _, h1, h2, h3, h4 => by
    obtain rfl : x = a := Option.some.inj h1
    have h5 := count_at (r := r) (i := j) (e := e) h2
    have h6 := List.count_pos_iff.mpr h3
    have h7 := List.count_pos_iff.mpr h4
    rw [List.flatten_cons, List.count_append]
    omega
  | x :: r, i + 1, j + 1, a, b, e, hij, h1, h2, h3, h4 => by
    have := count_two (r := r) (i := i) (j := j) (Nat.lt_of_succ_lt_succ hij) h1 h2 h3 h4
    rw [List.flatten_cons, List.count_append]
    omega
theorem idx_once : ∀ {row : List Int} {i : Nat} {e : Int}, row[i]? = some e → row.count e ≤ 1 → row.idxOf e = i
  | [], i, _, h, _ => by simp at h
  | a :: r, 0, e, h, _ => by
    obtain rfl : a = e := Option.some.inj h
    exact List.idxOf_cons_self
  | a :: r, i + 1, e, h, hc => by
    have h1 : e ∈ r := List.mem_of_getElem? (i := i) h
    have h2 := List.count_pos_iff.mpr h1
    have hne : a ≠ e := fun z => by
      subst z
      rw [List.count_cons_self] at hc
      omega
    rw [List.count_cons_of_ne hne] at hc
    rw [List.idxOf_cons, idx_once (row := r) (i := i) h hc, beq_false_of_ne hne]
    rfl
/-- where an event of a message happened -/
theorem Good.hap_at {many most : Nat} {rows : List (List Int)} (h : Good many most rows) {p i : Nat} {row : List Int} {e : Int} (h1 : rows[p]? = some row) (h2 : row[i]? = some e) (he : e ≠ 0) : hap rows e = some (p, (row.take i).count 0) := by
  obtain ⟨c, nm, o, u, k, _, _, hp, g, _⟩ := h
  have hc := g.count hp he
  have hm := List.mem_of_getElem? h2
  have h3 := hapFrom_some (e := e) (p := 0) (rs := rows) (i := p) (row := row) (fun j r hj hr hr2 => ?_) h1 hm
  · unfold hap
    rw [h3, Nat.zero_add, idx_once h2 (Nat.le_trans (count_at h1) hc)]
  · have := count_two hj hr h1 hr2 hm
    omega

end Sv

namespace Sv
open PySem PySem.Spec PyProof.Rows L2
/-- where an event stands first -/
def spotFrom (e : Int) : Nat → List (List Int) → Option (Nat × Nat)
  | _, [] => none
  | p, r :: rs => if e ∈ r then some (p, r.idxOf e) else spotFrom e (p + 1) rs
theorem spotFrom_none {e : Int} : ∀ {rs : List (List Int)} {p : Nat}, (∀ (j : Nat) (r : List Int), rs[j]? = some r → e ∉ r) → spotFrom e p rs = none
  | [], _, _ => rfl
  | r :: rs, p, h => by
    unfold spotFrom
    rw [if_neg (h 0 r rfl)]
    exact spotFrom_none fun j r' hr => h (j + 1) r' hr
theorem spotFrom_some {e : Int} : ∀ {rs : List (List Int)} {p i : Nat} {row : List Int}, (∀ (j : Nat) (r : List Int), j < i → rs[j]? = some r → e ∉ r) → rs[i]? = some row → e ∈ row → spotFrom e p rs = some (p + i, row.idxOf e)
  | [], _, i, _, _, h, _ => by simp at h
  | r :: rs, p, 0, row, _, h, he => by
    obtain rfl : r = row := Option.some.inj h
    unfold spotFrom
    rw [if_pos he]
    rfl
  | r :: rs, p, i + 1, row, hn, h, he => by
    unfold spotFrom
    rw [if_neg (hn 0 r (Nat.succ_pos _) rfl), spotFrom_some (i := i) (fun j r' hj hr => hn (j + 1) r' (Nat.succ_lt_succ hj) hr) h he]
    have : p + 1 + i = p + (i + 1) := by omega
    rw [this]
theorem spot_hap {e : Int} : ∀ {rs : List (List Int)} {p : Nat}, (spotFrom e p rs = none ∧ hapFrom e p rs = none) ∨ ∃ j row, rs[j]? = some row ∧ e ∈ row ∧ spotFrom e p rs = some (p + j, row.idxOf e) ∧ hapFrom e p rs = some (p + j, (row.take (row.idxOf e)).count 0)
  | [], _ => .inl ⟨rfl, rfl⟩
  | r :: rs, p => by
    unfold spotFrom hapFrom
    by_cases h : e ∈ r
    · rw [if_pos h, if_pos h]
      exact .inr ⟨0, r, rfl, h, rfl, rfl⟩
    · rw [if_neg h, if_neg h]
      rcases spot_hap (e := e) (rs := rs) (p := p + 1) with q | ⟨j, row, h1, h2, h3, h4⟩
      · exact .inl q
      · refine .inr ⟨j + 1, row, h1, h2, ?_, ?_⟩
        · rw [h3]; congr 2; omega
        · rw [h4]; congr 2; omega
theorem idx_first {e : Int} {r : List Int} {j : Nat} (h : ∀ m, m < j → r[m]? ≠ some e) (he : r[j]? = some e) : r.idxOf e = j := by
  have hm : e ∈ r := List.mem_of_getElem? he
  have hl := List.idxOf_lt_length_iff.mpr hm
  have h1 : r[r.idxOf e]? = some e := by rw [List.getElem?_eq_getElem hl, List.getElem_idxOf hl]
  rcases Nat.lt_trichotomy (r.idxOf e) j with h2 | h2 | h2
  · exact absurd h1 (h _ h2)
  · exact h2
  · exact absurd he (idx_lt h2)

end Sv

namespace Sv
open PySem PySem.Spec PyProof.Rows L2
def sentM (rows : List (List Int)) (m : Int) : Bool := (hap rows m).isSome
/-! ### the messages that are sent, in order -/
theorem perm_sorted_eq : ∀ {a b : List Int}, a.Perm b → a.Pairwise (· ≤ ·) → b.Pairwise (· ≤ ·) → a = b
  | [], b, h, _, _ => h.nil_eq
  | x :: a, [], h, _, _ => absurd h.length_eq (by simp)
  | x :: a, y :: b, h, h1, h2 => by
    obtain ⟨p1, q1⟩ := List.pairwise_cons.mp h1
    obtain ⟨p2, q2⟩ := List.pairwise_cons.mp h2
    have e : x = y := by
      have m1 : x ∈ y :: b := h.mem_iff.mp List.mem_cons_self
      have m2 : y ∈ x :: a := h.mem_iff.mpr List.mem_cons_self
      rcases List.mem_cons.mp m1 with z | z
      · exact z
      · rcases List.mem_cons.mp m2 with z2 | z2
        · exact z2.symm
        · have := p2 x z
          have := p1 y z2
          omega
    subst e
    rw [perm_sorted_eq h.cons_inv q1 q2]
theorem names_sorted : names24.Pairwise (· ≤ ·) := by decide +kernel
theorem names_mem {m : Int} : m ∈ names24 ↔ 1 ≤ m ∧ m ≤ 24 := by
  unfold names24
  rw [List.mem_map]
  constructor
  · rintro ⟨i, hi, rfl⟩
    have := List.mem_range.mp hi
    omega
  · intro h
    exact ⟨(m - 1).toNat, List.mem_range.mpr (by omega), by omega⟩
def sentL (rows : List (List Int)) : List Int := names24.filter (sentM rows)
theorem Good.sent {many most : Nat} {rows : List (List Int)} (h : Good many most rows) : (poss rows.flatten).Perm (sentL rows) := by
  obtain ⟨c, nm, o, u, k, h1, h2, hp, g, h5⟩ := id h
  have nt : (nm.take u).Nodup := ((hp.nodup_iff).mpr names_nodup).sublist (List.take_sublist _ _)
  have n1 : (poss rows.flatten).Nodup := (g.once hp).1.nodup_iff.mpr nt
  have n2 : (sentL rows).Nodup := names_nodup.sublist List.filter_sublist
  refine (List.perm_ext_iff_of_nodup n1 n2).mpr fun m => ?_
  unfold poss sentL
  rw [List.mem_filter, List.mem_filter, names_mem]
  constructor
  · rintro ⟨hm, hpos⟩
    obtain ⟨row, hr, hmr⟩ := List.mem_flatten.mp hm
    obtain ⟨p, hp1⟩ := List.getElem?_of_mem hr
    obtain ⟨i, hi⟩ := List.getElem?_of_mem hmr
    have hb := (h.row hp1).2 m hmr
    have h0 : 0 < m := of_decide_eq_true hpos
    refine ⟨by omega, ?_⟩
    unfold sentM
    rw [h.hap_at hp1 hi (by omega)]
    rfl
  · rintro ⟨hm, hs⟩
    refine ⟨?_, decide_eq_true (by omega)⟩
    rcases spot_hap (e := m) (rs := rows) (p := 0) with ⟨_, z⟩ | ⟨p, row, z1, z2, _⟩
    · unfold sentM hap at hs
      rw [z] at hs
      cases hs
    · exact List.mem_flatten.mpr ⟨row, List.mem_of_getElem? z1, z2⟩
theorem sentL_sorted (rows : List (List Int)) : (sentL rows).Pairwise (· ≤ ·) := names_sorted.sublist List.filter_sublist
/-! ### the messages that are received, in order -/
def recvM (rows : List (List Int)) (m : Int) : Bool := (hap rows (0 - m)).isSome
def recvL (rows : List (List Int)) : List Int := names24.filter (recvM rows)
theorem recvL_sorted (rows : List (List Int)) : (recvL rows).Pairwise (· ≤ ·) := names_sorted.sublist List.filter_sublist
theorem recvL_nodup (rows : List (List Int)) : (recvL rows).Nodup := names_nodup.sublist List.filter_sublist
theorem recvL_len (rows : List (List Int)) : (recvL rows).length ≤ 24 := by
  have := List.length_filter_le (recvM rows) names24
  have h24 : names24.length = 24 := by decide +kernel
  unfold recvL
  omega
theorem Good.recv {many most : Nat} {rows : List (List Int)} (h : Good many most rows) : (negs rows.flatten).Perm (recvL rows) := by
  obtain ⟨c, nm, o, u, k, h1, h2, hp, g, h5⟩ := id h
  have nt : (nm.take u).Nodup := ((hp.nodup_iff).mpr names_nodup).sublist (List.take_sublist _ _)
  have n1 : (negs rows.flatten).Nodup := ((g.once hp).2.nodup_iff.mpr nt).sublist (List.sublist_append_left _ _)
  refine (List.perm_ext_iff_of_nodup n1 (recvL_nodup rows)).mpr fun m => ?_
  unfold negs recvL
  rw [List.mem_map, List.mem_filter, names_mem]
  constructor
  · rintro ⟨e, he, rfl⟩
    obtain ⟨hm, hneg⟩ := List.mem_filter.mp he
    obtain ⟨row, hr, hmr⟩ := List.mem_flatten.mp hm
    obtain ⟨p, hp1⟩ := List.getElem?_of_mem hr
    obtain ⟨i, hi⟩ := List.getElem?_of_mem hmr
    have hb := (h.row hp1).2 e hmr
    have h0 : e < 0 := of_decide_eq_true hneg
    refine ⟨by omega, ?_⟩
    unfold recvM
    rw [show (0 : Int) - -e = e by omega, h.hap_at hp1 hi (by omega)]
    rfl
  · rintro ⟨hm, hs⟩
    refine ⟨0 - m, List.mem_filter.mpr ⟨?_, decide_eq_true (by omega)⟩, by omega⟩
    rcases spot_hap (e := 0 - m) (rs := rows) (p := 0) with ⟨_, z⟩ | ⟨p, row, z1, z2, _⟩
    · unfold recvM hap at hs
      rw [z] at hs
      cases hs
    · exact List.mem_flatten.mpr ⟨row, List.mem_of_getElem? z1, z2⟩
theorem Good.recv_sent {many most : Nat} {rows : List (List Int)} (h : Good many most rows) {m : Int} (hm : m ∈ recvL rows) : sentM rows m = true := by
  obtain ⟨c, nm, o, u, k, h1, h2, hp, g, h5⟩ := id h
  have h6 := h.recv.mem_iff.mpr hm
  have h7 := (g.once hp).2.mem_iff.mp (List.mem_append_left _ h6)
  have h8 := h.sent.mem_iff.mp ((g.once hp).1.mem_iff.mpr h7)
  exact (List.mem_filter.mp h8).2
/-- the dict of the trips -/
def Trips (H : Hp) (kvs : List (Key × V)) (ms : List Int) (rows : List (List Int)) : Prop := kvs.map (·.1) = ms.map Sum.inl ∧ ∀ (i : Nat) (m : Int), ms[i]? = some m → ∃ (t s r : Addr) (p k p' k' : Nat), kvs[i]? = some (Sum.inl m, .ref t) ∧
  H t = some (.tup [.ref s, .ref r]) ∧ H s = some (.tup [.int p, .int k]) ∧ H r = some (.tup [.int p', .int k']) ∧ hap rows m = some (p, k) ∧ hap rows (0 - m) = some (p', k')
theorem Trips.same {H H' : Hp} {kvs : List (Key × V)} {ms : List Int} {rows : List (List Int)} (h : Trips H kvs ms rows) (e : Same H H') : Trips H' kvs ms rows := ⟨h.1, fun i m hm => by
  obtain ⟨t, s, r, p, k, p', k', a1, a2, a3, a4, a5⟩ := h.2 i m hm
  exact ⟨t, s, r, p, k, p', k', a1, e _ _ a2, e _ _ a3, e _ _ a4, a5⟩⟩

end Sv

namespace Sv
open PySem PySem.Spec PyProof.Rows L2
abbrev sTrips : Stmt := topS 5
abbrev nTrips : List Str := ["history", "messages", "row", "event", "message"]
theorem scTrips : FnScope nTrips ["history"] (defScope sTrips) := ⟨rfl, rfl, rfl, by decide +kernel, rfl, by decide +kernel, by decide +kernel⟩
def spTrips (K : PySem.W.Frag) : Sp := fun vs H Q _ => ∃ (a : Addr) (refs : List Addr) (rows : List (List Int)) (many most : Nat), vs = [.ref a] ∧ SqT K H a (refs.map V.ref) ∧ Rows K H refs rows ∧ Good many most rows ∧ many ≤ 6 ∧ most ≤ 60 ∧
  ∀ (H' : Hp) (D : Addr) (kvs : List (Key × V)), Same H H' → H D = none → H' D = some (.dK kvs) → Trips H' kvs (recvL rows) rows → Q (.ref D) H'
section
variable {P : Program} {w : World} {K : PySem.W.Frag} {mg : Str → Option Value} {base : Heap}
theorem ok_trips {f fH : Addr} {fd fdH : FuncData} (F : Fun K "trips_of" "trips_of" sTrips f fd) (FH : Fun K "happened_at" "happened_at" sHap fH fdH) (bH : Binds K fdH ["history", "event"] []) (gH : mg "happened_at" = some (.ref fH))
    (men : mg "enumerate" = none) (mso : mg "sorted" = none) : FnOk P w K mg base CX0 2 f fd ["history"] (spTrips K) := by
  have GH : FnOk P w K mg base CX0 1 fH fdH ["history", "event"] (spHap K) := ok_hap FH men
  refine F.ok scTrips (fun vs H Q E h => ?_) (fun cdv A outer s H vs Q E hr h => ?_)
  · obtain ⟨a, refs, rows, many, most, rfl, _⟩ := h
    rfl
  · obtain ⟨a, refs, rows, many, most, rfl, hA, hR, hG, hm6, hm60, q⟩ := h
    have nd := scTrips.nd
    refine ⟨_, pss_cons (ps_set (i := 1) nd rfl (.inl rfl) (pe_callB cr_sorted (by rfl) mso (by decide +kernel) (pa_cons (pe_lc2 (own := [("row", 2), ("event", 3)]) (vs1 := [3]) (wi1 := iTup K (tVar 2)) (g := gName 2) (g1 := gName 3) (by rfl) nd (pi_tup (pv 0))
          (blkOk_by (own := [("row", 2), ("event", 3)]) (N := nTrips) (sc := defScope sTrips) (by decide +kernel)) (by decide)
          (fun _ _ _ _ _ => pg_name (i := 2) nd rfl (Or.inl rfl)) (fun _ _ _ _ _ => pts_nil) (fun _ _ _ _ _ => pi_tup (pv 2)) (fun _ _ _ _ _ => pg_name (i := 3) nd rfl (Or.inl rfl))
          (fun _ _ _ _ _ => pts_one (pt_cmpR op_lt (pv 3) pe_int (nomark _))) (fun _ _ _ _ _ => pe_un un_neg (pv 3))) pa_nil)))
      (pss_one (ps_ret (pe_dc (own := [("message", 4)]) (g := gName 4) (by rfl) nd (pi_list (pv 1))
          (blkOk_by (own := [("message", 4)]) (N := nTrips) (sc := defScope sTrips) (by decide +kernel)) (fun _ _ _ _ _ => pg_name (i := 4) nd rfl (Or.inl rfl)) (fun _ _ _ _ _ => pts_nil)
          (fun _ _ _ _ _ => pv 4)
          (fun _ _ _ _ _ => pe_tup (pa_cons (pe_call GH hr (by rfl) gH FH.kp bH .nil pass0 (pa_cons (pv 0) (pa_cons (pv 4) pa_nil))) (pa_cons (pe_call GH hr (by rfl) gH FH.kp bH .nil pass0 (pa_cons (pv 0) (pa_cons (pe_un un_neg (pv 4)) pa_nil))) pa_nil)))))), ?_⟩
    have h60 : ∀ r ∈ rows, r.length ≤ 60 := fun r hr => by
      obtain ⟨i, hi⟩ := List.getElem?_of_mem hr
      have := (hG.row hi).1
      omega
    have h1000 : ∀ r ∈ rows, r.length ≤ 1000 := fun r hr => by have := h60 r hr; omega
    have hlen : ∀ l : List Int, l.length ≤ 60 → (negs l).length ≤ 60 := fun l hl => by
      unfold negs
      rw [List.length_map]
      exact Nat.le_trans (List.length_filter_le ..) hl
    have htot : rows.flatten.length ≤ 60 := by
      rw [List.length_flatten]
      have := hG.events
      omega
    have htk : ∀ (i j : Nat) (row : List Int), rows[i]? = some row → ((rows.take i).flatten ++ row.take j).length ≤ 60 := fun i j row hr => by
      have e : rows.take (i + 1) = rows.take i ++ [row] := by
        rw [List.take_add_one, hr]
        rfl
      have h1 : ((rows.take (i + 1)).flatten).length ≤ rows.flatten.length := by
        conv => rhs; rw [← List.take_append_drop (i + 1) rows]
        rw [List.flatten_append, List.length_append]
        omega
      rw [e, List.flatten_append, List.length_append] at h1
      rw [List.length_append, List.length_take]
      simp only [List.flatten_cons, List.flatten_nil, List.append_nil] at h1
      omega
    refine ⟨.ref a, rfl, a, rfl, ⟨_, hA⟩, fun D nD => ?_⟩
    refine lc2_out (walk_tup (K := K) (a := a) (xs := refs.map V.ref)) (fun i H' => Same H H' ∧ H' D = some (.lst ((negs (rows.take i).flatten).map V.int))) ⟨Same.new nD, upd_same⟩ (fun i H' _ z => (TupK.of z.1).1 _ _ hA)
      (fun i x H' H'' hi z y => ?_) (fun H1 z => ?_)
    · obtain ⟨rfl, hx⟩ := y
      obtain ⟨r, hr', rfl⟩ := of_at_map hx
      have hir : i < rows.length := by
        rw [← hR.1]
        exact (List.getElem?_eq_some_iff.mp hr').1
      have hrow := List.getElem?_eq_getElem hir
      generalize rows[i] = row at hrow
      have hrT := (hR.2 i r row hr' hrow).same z.1
      have e1 : (rows.take (i + 1)).flatten = (rows.take i).flatten ++ row := by
        rw [List.take_add_one, hrow, List.flatten_append]
        simp
      refine ⟨rfl, yesT ⟨.ref r, rfl, r, rfl, ⟨_, hrT.sqT⟩, ?_⟩⟩
      refine lc2_in (walk_tup (K := K) (a := r) (xs := row.map V.int)) (fun j H3 => Same H H3 ∧ H3 D = some (.lst ((negs ((rows.take i).flatten ++ row.take j)).map V.int))) ⟨z.1, by rw [List.take_zero, List.append_nil]; exact z.2⟩
        (fun j H3 _ y => ((hR.2 i r row hr' hrow).same y.1).sqT) (fun j x H3 H4 hj y hY => ?_) (fun H3 y => ?_)
      · obtain ⟨rfl, hx⟩ := hY
        obtain ⟨v, hv, rfl⟩ := of_at_map hx
        have e2 : negs ((rows.take i).flatten ++ row.take (j + 1)) = negs ((rows.take i).flatten ++ row.take j) ++ (if v < 0 then [-v] else []) := by
          unfold negs
          rw [List.take_add_one, hv, ← List.append_assoc, List.filter_append, List.map_append]
          congr 1
          by_cases hp : v < 0
          · rw [if_pos hp]
            have : (List.filter (fun e => decide (e < 0)) (some v).toList) = [v] := List.filter_cons_of_pos (decide_eq_true hp)
            rw [this]
            rfl
          · rw [if_neg hp]
            have : (List.filter (fun e => decide (e < 0)) (some v).toList) = [] := List.filter_cons_of_neg (by rw [decide_eq_false hp]; exact Bool.false_ne_true)
            rw [this]
            rfl
        refine ⟨rfl, _, rfl, _, _, rfl, rfl, _, rfl, ite2 (fun e => ?_) (fun e => ?_)⟩
        · have e0 : v < 0 := of_decide_eq_true e
          refine ⟨_, rfl, _, rfl, _, y.2, ?_, Same.put nD y.1, ?_⟩
          · rw [List.length_map]
            have := hlen _ (htk i j row hrow)
            exact small1000 (by omega)
          · rw [upd_same, e2, if_pos e0, List.map_append]
            rfl
        · have e0 : ¬ v < 0 := fun w => e (decide_eq_true w)
          refine ⟨y.1, ?_⟩
          rw [e2, if_neg e0, List.append_nil]
          exact y.2
      · rw [List.length_map, List.take_length, ← e1] at y
        exact y
    obtain ⟨sm1, hD⟩ := z
    rw [List.length_map, hR.1, List.take_length] at hD
    refine ⟨D, _, rfl, SqL.of hD, ?_, fun ns' S0 hp hs nS => ?_⟩
    · have := hlen _ htot
      omega
    have hns : ns' = recvL rows := perm_sorted_eq (hp.trans hG.recv) hs (recvL_sorted rows)
    subst hns
    have s2 := sm1.trans (Same.new (o := .lst ((recvL rows).map V.int)) nS)
    have hS : (upd H1 S0 (.lst ((recvL rows).map V.int))) S0 = some (.lst ((recvL rows).map V.int)) := upd_same
    generalize upd H1 S0 (.lst ((recvL rows).map V.int)) = H2 at s2 hS ⊢
    refine ⟨.ref S0, rfl, S0, rfl, ⟨_, SqL.of hS⟩, fun E nE => ?_⟩
    have hsl := recvL_len rows
    refine dc_it (walk_list (K := K) (a := S0) (xs := (recvL rows).map V.int)) (fun j H' => Same H2 H' ∧ ∃ kvs, H' E = some (.dK kvs) ∧ Trips H' kvs ((recvL rows).take j) rows) ⟨Same.new nE, [], upd_same, rfl, fun i m z => by simp at z⟩ (fun j H' _ z => z.1.seq (SqL.of hS))
      (fun j x H' H'' hj z y => ?_) (fun H' z => ?_)
    · obtain ⟨rfl, hx⟩ := y
      obtain ⟨m, hm, rfl⟩ := of_at_map hx
      obtain ⟨sm, kvs, hE, hK⟩ := z
      have sA := s2.trans sm
      have hjl : j < (recvL rows).length := (List.getElem?_eq_some_iff.mp hm).1
      have hmem := List.mem_of_getElem? hm
      have em : -m = 0 - m := by omega
      refine ⟨rfl, yesT ⟨_, rfl, ?_⟩⟩
      refine ⟨.ref a, rfl, _, rfl, a, refs, rows, m, rfl, (TupK.of sA).1 _ _ hA, hR.keep (.of sA), h1000, fun H3 v s3 hv => ?_⟩
      have sA3 := sA.trans s3
      refine ⟨.ref a, rfl, _, rfl, _, rfl, a, refs, rows, -m, rfl, (TupK.of sA3).1 _ _ hA, hR.keep (.of sA3), h1000, fun H4 v2 s4 hv2 => ⟨sz (by show 2 ≤ 1000; decide), fun t nt => ?_⟩⟩
      rw [em] at hv2
      have hv := hv.same s4
      have s5 : Same H4 (upd H4 t (.tup [v, v2])) := Same.new nt
      have s35 := (s3.trans s4).trans s5
      have hs1 := hG.recv_sent hmem
      have hr1 := (List.mem_filter.mp hmem).2
      cases e1 : hap rows m with
      | none => unfold sentM at hs1; rw [e1] at hs1; cases hs1
      | some o1 =>
        cases e2 : hap rows (0 - m) with
        | none => unfold recvM at hr1; rw [e2] at hr1; cases hr1
        | some o2 =>
          obtain ⟨p, k⟩ := o1
          obtain ⟨p', k'⟩ := o2
          rw [e1] at hv
          rw [e2] at hv2
          obtain ⟨s, rfl, hs⟩ := hv
          obtain ⟨r, rfl, hr⟩ := hv2
          have hkl : kvs.length = j := by
            have := congrArg List.length hK.1
            rw [List.length_map, List.length_map, List.length_take] at this
            omega
          have hnew : valV kvs (Sum.inl m : Key) = none := valV_none fun p hp z => by
            have h1 : p.1 ∈ kvs.map (·.1) := List.mem_map.mpr ⟨p, hp, rfl⟩
            rw [hK.1, z] at h1
            obtain ⟨m', hm', h2⟩ := List.mem_map.mp h1
            obtain rfl : m' = m := Sum.inl.inj h2
            obtain ⟨i, hi⟩ := List.getElem?_of_mem hm'
            have hi2 : i < j := by
              have := (List.getElem?_eq_some_iff.mp hi).1
              rw [List.length_take] at this
              omega
            rw [List.getElem?_take_of_lt hi2] at hi
            have := nodup_at (recvL_nodup rows) hi hm
            omega
          refine ⟨kvs, Sum.inl m, rfl, s35 _ _ hE, small1000 (by omega), Same.put nE (sm.trans s35), _, upd_same, ?_⟩
          rw [putK_new _ hnew, List.take_add_one, hm]
          have nE2 : ∀ {b : Addr} {o : HO}, (upd H4 t (.tup [.ref s, .ref r])) b = some o → (∀ z, o ≠ .dK z) → (upd (upd H4 t (.tup [.ref s, .ref r])) E (.dK (kvs ++ [(Sum.inl m, V.ref t)]))) b = some o := fun {b o} h1 h2 => by
            rw [upd_ne (fun z => by
              have := s35 _ _ hE
              rw [← z, h1] at this
              exact h2 _ (Option.some.inj this))]
            exact h1
          refine ⟨by rw [List.map_append, List.map_append, hK.1]; rfl, fun i m' h1 => ?_⟩
          by_cases hi : i < j
          · have hl : i < ((recvL rows).take j).length := by rw [List.length_take]; omega
            rw [List.getElem?_append_left hl] at h1
            obtain ⟨t1, s1, r1, p1, k1, p2, k2, a1, a2, a3, a4, a5⟩ := hK.2 i m' h1
            exact ⟨t1, s1, r1, p1, k1, p2, k2, by rw [List.getElem?_append_left (by omega)]; exact a1, nE2 (s35 _ _ a2) (by intro z q; cases q), nE2 (s35 _ _ a3) (by intro z q; cases q), nE2 (s35 _ _ a4) (by intro z q; cases q), a5⟩
          · have hl : ((recvL rows).take j).length = j := by rw [List.length_take]; omega
            rw [List.getElem?_append_right (by omega), hl] at h1
            have hij : i = j := by
              have := (List.getElem?_eq_some_iff.mp h1).1
              simp at this
              omega
            subst hij
            rw [Nat.sub_self] at h1
            obtain rfl : m = m' := Option.some.inj h1
            refine ⟨t, s, r, p, k, p', k', ?_, nE2 upd_same (by intro z q; cases q), nE2 (s5 _ _ hs) (by intro z q; cases q), nE2 (s5 _ _ hr) (by intro z q; cases q), e1, e2⟩
            rw [List.getElem?_append_right (by omega), hkl, Nat.sub_self]
            rfl
    · obtain ⟨sm, kvs, hE, hK⟩ := z
      rw [List.length_map, List.take_length] at hK
      exact q H' E kvs (s2.trans sm) (s2.free nE) hE hK
end

end Sv

namespace Sv
open PySem PySem.Spec PyProof.Rows L2
/-! ### lines and the greatest consistent one below -/
def natV (cs : List Nat) : List V := cs.map fun (c : Nat) => V.int (c : Int)
def LeL (a b : List Nat) : Prop := ∀ (i x y : Nat), a[i]? = some x → b[i]? = some y → x ≤ y
/-- no message is received before the line and sent behind it -/
def ConsL (rows : List (List Int)) (cs : List Nat) : Prop := ∀ (m : Int) (p k p' k' c c' : Nat), 0 < m → hap rows m = some (p, k) → hap rows (0 - m) = some (p', k') → cs[p]? = some c → cs[p']? = some c' → k' < c' → k < c
structure Dn (rows : List (List Int)) (high cs : List Nat) : Prop where
  len : cs.length = high.length
  le : LeL cs high
  top : ∀ L : List Nat, L.length = high.length → LeL L high → ConsL rows L → LeL L cs
structure IsLow (rows : List (List Int)) (high cs : List Nat) : Prop extends Dn rows high cs where
  cons : ConsL rows cs
theorem LeL.refl (a : List Nat) : LeL a a := fun i x y h1 h2 => by rw [h1] at h2; rw [Option.some.inj h2]; exact Nat.le_refl _
theorem Dn.start (rows : List (List Int)) (high : List Nat) : Dn rows high high := ⟨rfl, .refl _, fun _ _ h _ => h⟩
theorem IsLow.unique {rows : List (List Int)} {high a b : List Nat} (ha : IsLow rows high a) (hb : IsLow rows high b) : a = b := by
  apply List.ext_getElem (ha.len.trans hb.len.symm)
  intro i h1 h2
  have e1 := List.getElem?_eq_getElem h1
  have e2 := List.getElem?_eq_getElem h2
  exact Nat.le_antisymm (hb.top a ha.len ha.le ha.cons i _ _ e1 e2) (ha.top b hb.len hb.le hb.cons i _ _ e2 e1)
theorem Dn.step {rows : List (List Int)} {high cs : List Nat} (h : Dn rows high cs) {m : Int} {p k p' k' c c' : Nat} (hm : 0 < m) (h1 : hap rows m = some (p, k)) (h2 : hap rows (0 - m) = some (p', k')) (h3 : cs[p]? = some c) (h4 : cs[p']? = some c') (h5 : k' < c') (h6 : c ≤ k) : Dn rows high (cs.set p' k') := by
  refine ⟨by rw [List.length_set]; exact h.len, fun i x y g1 g2 => ?_, fun L l1 l2 l3 i x y g1 g2 => ?_⟩
  · rw [List.getElem?_set] at g1
    split at g1
    · rename_i e
      subst e
      split at g1
      · obtain rfl := Option.some.inj g1
        have := h.le _ _ _ h4 g2
        omega
      · cases g1
    · exact h.le _ _ _ g1 g2
  · have hl := h.top L l1 l2 l3
    rw [List.getElem?_set] at g2
    split at g2
    · rename_i e
      subst e
      split at g2
      · obtain rfl := Option.some.inj g2
        have hpl : p < L.length := by
          rw [l1, ← h.len]
          exact (List.getElem?_eq_some_iff.mp h3).1
        have hp := List.getElem?_eq_getElem hpl
        have h7 := hl _ _ _ hp h3
        rcases Nat.lt_or_ge k' x with z | z
        · have := l3 m p k p' k' _ x hm h1 h2 hp g1 z
          omega
        · exact z
      · cases g2
    · exact hl _ _ _ g1 g2
theorem sum_set {cs : List Nat} {p c k : Nat} (h : cs[p]? = some c) : (cs.set p k).sum + c = cs.sum + k := by
  induction cs generalizing p with
  | nil => simp at h
  | cons a r ih =>
    cases p with
    | zero =>
      obtain rfl : a = c := Option.some.inj h
      simp only [List.set_cons_zero, List.sum_cons]
      omega
    | succ p =>
      have := ih (p := p) h
      simp only [List.set_cons_succ, List.sum_cons]
      omega
theorem Good.recv_mem {many most : Nat} {rows : List (List Int)} (h : Good many most rows) {m : Int} {x : Nat × Nat} (hm : 0 < m) (hx : hap rows (0 - m) = some x) : m ∈ recvL rows := by
  refine List.mem_filter.mpr ⟨names_mem.mpr ?_, by unfold recvM; rw [hx]; rfl⟩
  rcases spot_hap (e := 0 - m) (rs := rows) (p := 0) with ⟨_, z⟩ | ⟨p, row, z1, z2, _⟩
  · unfold hap at hx
    rw [z] at hx
    cases hx
  · have := (h.row z1).2 _ z2
    omega
theorem Good.hap_lt {rows : List (List Int)} {e : Int} {p k : Nat} (h : hap rows e = some (p, k)) : p < rows.length := by
  rcases spot_hap (e := e) (rs := rows) (p := 0) with ⟨_, z⟩ | ⟨p', row, z1, z2, _, z4⟩
  · unfold hap at h
    rw [z] at h
    cases h
  · unfold hap at h
    rw [z4, Nat.zero_add] at h
    cases h
    exact (List.getElem?_eq_some_iff.mp z1).1
abbrev sIsOrph : Stmt := topS 7
abbrev sLowered : Stmt := topS 8
abbrev sNums : Stmt := topS 1
abbrev nIsOrph : List Str := ["trip", "line", "sender", "sent", "receiver", "received"]
abbrev nLowered : List Str := ["trips", "high", "numbers", "changed", "trip", "receiver", "received"]
abbrev nNums : List Str := ["history", "row"]
theorem scIsOrph : FnScope nIsOrph ["trip", "line"] (defScope sIsOrph) := ⟨rfl, rfl, rfl, by decide +kernel, rfl, by decide +kernel, by decide +kernel⟩
theorem scLowered : FnScope nLowered ["trips", "high"] (defScope sLowered) := ⟨rfl, rfl, rfl, by decide +kernel, rfl, by decide +kernel, by decide +kernel⟩
theorem scNums : FnScope nNums ["history"] (defScope sNums) := ⟨rfl, rfl, rfl, by decide +kernel, rfl, by decide +kernel, by decide +kernel⟩
def prs (rows : List (List Int)) : List Nat := rows.map fun r => r.count 0 + 1
def spNums (K : PySem.W.Frag) : Sp := fun vs H Q _ => ∃ (a : Addr) (refs : List Addr) (rows : List (List Int)), vs = [.ref a] ∧ SqT K H a (refs.map V.ref) ∧ Rows K H refs rows ∧ rows.length ≤ 100 ∧
  ∀ (H' : Hp) (t : Addr), Same H H' → H' t = some (.tup (natV (prs rows))) → Q (.ref t) H'
def spIsOrph (K : PySem.W.Frag) : Sp := fun vs H Q _ => ∃ (t s r b : Addr) (cs : List Nat) (p k p' k' c c' : Nat), vs = [.ref t, .ref b] ∧ H t = some (.tup [.ref s, .ref r]) ∧ H s = some (.tup [.int p, .int k]) ∧ H r = some (.tup [.int p', .int k']) ∧
  SqL K H b (natV cs) ∧ cs[p]? = some c ∧ cs[p']? = some c' ∧ Q (.bl (decide (k' < c') && decide (c ≤ k))) H
def spLowered (K : PySem.W.Frag) : Sp := fun vs H Q _ => ∃ (D h : Addr) (od : Obj) (kvs : List (Key × V)) (rows : List (List Int)) (many most : Nat) (high : List Nat), vs = [.ref D, .ref h] ∧ H D = some (.frz od (.dK kvs)) ∧ Trips H kvs (recvL rows) rows ∧
  Good many most rows ∧ many ≤ 6 ∧ most ≤ 60 ∧ SqL K H h (natV high) ∧ high.length = rows.length ∧ ∀ (H' : Hp) (t : Addr) (cs : List Nat), Same H H' → IsLow rows high cs → H' t = some (.tup (natV cs)) → Q (.ref t) H'
section
variable {P : Program} {w : World} {K : PySem.W.Frag} {mg : Str → Option Value} {base : Heap}
theorem ok_nums {f : Addr} {fd : FuncData} (F : Fun K "state_numbers" "state_numbers" sNums f fd) (mtu : mg "tuple" = none) : FnOk P w K mg base CX0 1 f fd ["history"] (spNums K) := by
  refine F.ok scNums (fun vs H Q E h => ?_) (fun cdv A outer s H vs Q E hr h => ?_)
  · obtain ⟨a, refs, rows, rfl, _⟩ := h
    rfl
  · obtain ⟨a, refs, rows, rfl, hA, hR, hl, q⟩ := h
    refine ⟨_, pss_one (ps_ret (pe_callTy call_tuple_of (by rfl) mtu (by decide +kernel) (pa_cons
      (pe_lc (own := [("row", 1)]) (g := gName 1) (by rfl) scNums.nd (pi_tup (pv 0)) (blkOk_by (own := [("row", 1)]) (N := nNums) (sc := defScope sNums) (by decide +kernel))
        (fun _ _ _ _ _ => pg_name (i := 1) scNums.nd rfl (Or.inl rfl)) (fun _ _ _ _ _ => pts_nil)
        (fun _ _ _ _ _ => pe_op op_add (pe_tm (r := rTcount K) PySem.F.slot_tuple_count PySem.F.type_tuple_count (mt_tcount hr.units) (pv 1) (pa_cons pe_int pa_nil)) pe_int)) pa_nil))), ?_⟩
    refine ⟨.ref a, rfl, a, rfl, ⟨_, hA⟩, fun d nd => ?_⟩
    refine lc_tup (K := K) (a := a) (xs := refs.map V.ref) (fun i H1 => Same H H1 ∧ H1 d = some (.lst (natV (prs (rows.take i))))) ⟨Same.new nd, upd_same⟩ (fun i H1 _ z => (TupK.of z.1).1 _ _ hA) (fun i x H1 hx z => ?_) (fun H1 z => ?_)
    · obtain ⟨r, hr', rfl⟩ := of_at_map hx
      have hi : i < rows.length := by
        rw [← hR.1]
        exact (List.getElem?_eq_some_iff.mp hr').1
      have hrow := List.getElem?_eq_getElem hi
      have ht := (hR.2 i r _ hr' hrow).same z.1
      refine ⟨rfl, ?_⟩
      refine yesT ?_
      refine ⟨.ref r, rfl, ⟨r, _, rfl, ht⟩, r, rows[i], 0, rfl, rfl, ht.sqT, _, _, rfl, rfl, _, z.2, ?_, Same.put nd z.1, ?_⟩
      · rw [natV, prs, List.map_map, List.length_map, List.length_take]
        exact small1000 (by omega)
      · rw [upd_same, List.take_add_one, hrow]
        simp only [natV, prs, List.map_append, Option.toList, List.map_cons, List.map_nil]
        rfl
    · have h2 := z.2
      rw [List.length_map, hR.1, List.take_length] at h2
      refine ⟨d, _, rfl, .inl ⟨SqL.of h2, fun t nt => ?_⟩⟩
      exact q _ t (z.1.trans (Same.new nt)) upd_same
theorem ok_isorph {f : Addr} {fd : FuncData} (F : Fun K "is_orphan" "is_orphan" sIsOrph f fd) : FnOk P w K mg base CX0 1 f fd ["trip", "line"] (spIsOrph K) := by
  refine F.ok scIsOrph (fun vs H Q E h => ?_) (fun cdv A outer s H vs Q E hr h => ?_)
  · obtain ⟨t, s, r, b, cs, p, k, p', k', c, c', rfl, _⟩ := h
    rfl
  · obtain ⟨t, s, r, b, cs, p, k, p', k', c, c', rfl, ht, hs, hr', hB, hp, hp', q⟩ := h
    have nd := scIsOrph.nd
    refine ⟨_, pss_cons (ps_asg (pv 0) (pg_tup rfl (pgs_cons (pg_tup rfl (pgs_cons (pg_name (i := 2) nd rfl (.inl rfl)) (pgs_cons (pg_name (i := 3) nd rfl (.inl rfl)) pgs_nil)))
        (pgs_cons (pg_tup rfl (pgs_cons (pg_name (i := 4) nd rfl (.inl rfl)) (pgs_cons (pg_name (i := 5) nd rfl (.inl rfl)) pgs_nil))) pgs_nil))))
      (pss_one (ps_ret (pe_and (pe_cmpR op_lt (pv 5) (pe_ix ix_list (pv 1) (pv 4) (fun _ _ => rfl)) (nomark _)) (pe_one (pe_cmpR op_ge (pv 3) (pe_ix ix_list (pv 1) (pv 2) (fun _ _ => rfl)) (nomark _)))))), ?_⟩
    have e1 : decide (c ≤ k) = decide ((k : Int) ≥ ((c : Nat) : Int)) := by
      by_cases z : c ≤ k
      · rw [decide_eq_true z, decide_eq_true (by omega)]
      · rw [decide_eq_false z, decide_eq_false (by omega)]
    have e2 : decide (k' < c') = decide ((k' : Int) < ((c' : Nat) : Int)) := by
      by_cases z : k' < c'
      · rw [decide_eq_true z, decide_eq_true (by omega)]
      · rw [decide_eq_false z, decide_eq_false (by omega)]
    rw [e1, e2] at q
    refine ⟨.ref t, rfl, t, _, rfl, .inl (.inl ht), rfl, _, _, rfl, s, _, rfl, .inl (.inl hs), rfl, _, _, rfl, _, _, rfl, rfl, _, _, rfl, r, _, rfl, .inl (.inl hr'), rfl, _, _, rfl, _, _, rfl, rfl, rfl, ?_⟩
    refine ⟨_, rfl, .ref b, rfl, _, rfl, b, _, p', _, rfl, rfl, hB, atI_nat (at_map hp'), _, _, rfl, rfl, _, rfl, ite2 (fun g1 => ?_) (fun g1 => ?_)⟩
    · rw [g1, Bool.true_and] at q
      exact ⟨_, rfl, .ref b, rfl, _, rfl, b, _, p, _, rfl, rfl, hB, atI_nat (at_map hp), _, _, rfl, rfl, q⟩
    · rw [Bool.eq_false_iff.mpr g1, Bool.false_and] at q
      exact q
theorem ok_lowered {f fI : Addr} {fd fdI : FuncData} (F : Fun K "lowered" "lowered" sLowered f fd) (FI : Fun K "is_orphan" "is_orphan" sIsOrph fI fdI) (bI : Binds K fdI ["trip", "line"] []) (gI : mg "is_orphan" = some (.ref fI))
    (mli : mg "list" = none) (mtu : mg "tuple" = none) : FnOk P w K mg base CX0 2 f fd ["trips", "high"] (spLowered K) := by
  have GI : FnOk P w K mg base CX0 1 fI fdI ["trip", "line"] (spIsOrph K) := ok_isorph FI
  refine F.ok scLowered (fun vs H Q E h => ?_) (fun cdv A outer s H vs Q E hr h => ?_)
  · obtain ⟨D, h, od, kvs, rows, many, most, high, rfl, _⟩ := h
    rfl
  · obtain ⟨D, h, od, kvs, rows, many, most, high, rfl, hD, hK, hG, hm6, hm60, hh, hhl, q⟩ := h
    have nd := scLowered.nd
    refine ⟨_, pss_cons (ps_set (i := 2) nd rfl (.inl rfl) (pe_callTy call_list_of (by rfl) mli (by decide +kernel) (pa_cons (pv 1) pa_nil)))
      (pss_cons (ps_set (i := 3) nd rfl (.inl rfl) pe_bl)
      (pss_cons (ps_while PassesOwn.never (pt_val (pv 3))
        (pss_cons (ps_set (i := 3) nd rfl (.inl rfl) pe_bl)
        (pss_one (ps_for PassesOwn.never rfl (pi_values (pv 0)) (pg_name (i := 4) nd rfl (.inl rfl))
          (pss_one (ps_if (pt_val (pe_call GI hr (by rfl) gI FI.kp bI .nil pass0 (pa_cons (pv 4) (pa_cons (pv 2) pa_nil))))
            (pss_cons (ps_asg (pe_ix ix_tup (pv 4) pe_int (fun _ _ => rfl)) (pg_tup rfl (pgs_cons (pg_name (i := 5) nd rfl (.inl rfl)) (pgs_cons (pg_name (i := 6) nd rfl (.inl rfl)) pgs_nil))))
            (pss_cons (ps_asg (pv 6) (pg_sub (pv 2) (pv 5) set_list))
            (pss_one (ps_set (i := 3) nd rfl (.inl rfl) pe_bl)))) pss_nil))))))
      (pss_one (ps_ret (pe_callTy call_tuple_of (by rfl) mtu (by decide +kernel) (pa_cons (pv 2) pa_nil)))))), ?_⟩
    have hkl : kvs.length = (recvL rows).length := by
      have := congrArg List.length hK.1
      rwa [List.length_map, List.length_map] at this
    refine ⟨.ref h, rfl, h, _, rfl, .inl hh, fun l nl => ?_⟩
    have s1 : Same H (upd H l (.lst (natV high))) := Same.new nl
    have hl1 : (upd H l (.lst (natV high))) l = some (.lst (natV high)) := upd_same
    generalize upd H l (.lst (natV high)) = H1 at s1 hl1 ⊢
    dsimp only [gName, tSeq, tAsg, tC]
    obtain ⟨W, hW⟩ : ∃ W : Nat → L2.St → Hp → Prop, W = fun m σ H' => ∃ (cs : List Nat) (b : Bool) (x4 x5 x6 : Option V), σ = [some (.ref D), some (.ref h), some (.ref l), some (.bl b), x4, x5, x6] ∧ Same H H' ∧ H' l = some (.lst (natV cs)) ∧ Dn rows high cs ∧ (b = false → ConsL rows cs) ∧ m = 2 * cs.sum + (if b = true then 1 else 0) := ⟨_, rfl⟩
    refine ⟨W, ⟨_, by rw [hW]; exact ⟨high, true, _, _, _, rfl, s1, hl1, .start _ _, (fun z => nomatch z), rfl⟩⟩, fun m σ H' z => ?_⟩
    rw [hW] at z
    obtain ⟨cs, b, x4, x5, x6, rfl, sm, hl, hdn, hb, hm⟩ := z
    refine ⟨.bl b, rfl, b, rfl, ?_⟩
    cases b with
    | false =>
      refine iteF ?_
      refine ⟨.ref l, rfl, l, _, rfl, .inl ⟨SqL.of hl, fun t nt => ?_⟩⟩
      exact q _ t cs (sm.trans (Same.new nt)) ⟨hdn, hb rfl⟩ upd_same
    | true =>
      rw [if_pos rfl] at hm
      refine iteT ⟨fun σ' H'' => ∃ m', m' < m ∧ W m' σ' H'', fun _ _ z => z, ?_⟩
      refine ⟨.ref D, rfl, D, od, kvs, rfl, sm _ _ hD, ?_⟩
      refine for_it (walk_values (d := D) (o := od) (kvs := kvs)) (fun j σ H'' => ∃ (c1 : List Nat) (b1 : Bool) (x4 x5 x6 : Option V), σ = [some (.ref D), some (.ref h), some (.ref l), some (.bl b1), x4, x5, x6] ∧ Same H H'' ∧ H'' l = some (.lst (natV c1)) ∧ Dn rows high c1 ∧
          ((b1 = true ∧ c1.sum < cs.sum) ∨ (b1 = false ∧ c1 = cs ∧ ∀ (i : Nat) (m : Int), i < j → (recvL rows)[i]? = some m → ∀ (p k p' k' c c' : Nat), hap rows m = some (p, k) → hap rows (0 - m) = some (p', k') → cs[p]? = some c → cs[p']? = some c' → k' < c' → k < c)))
        ⟨cs, false, _, _, _, rfl, sm, hl, hdn, .inr ⟨rfl, rfl, fun i m z => absurd z (Nat.not_lt_zero _)⟩⟩ (fun j σ H'' _ z => by
          obtain ⟨c1, b1, x4, x5, x6, rfl, s2, _⟩ := z
          exact s2 _ _ hD) ?_ ?_
      · rintro j x σ H2 H3 hj ⟨c1, b1, x4, x5, x6, rfl, s2, hl2, hd2, hor⟩ y
        obtain ⟨rfl, key, hk⟩ := y
        have hjr : j < (recvL rows).length := by rw [← hkl]; exact hj
        have hmm := List.getElem?_eq_getElem hjr
        generalize (recvL rows)[j] = mm at hmm
        have hmem := names_mem.mp (List.mem_filter.mp (List.mem_of_getElem? hmm)).1
        obtain ⟨t, sd, rc, p, k, p', k', a1, a2, a3, a4, a5, a6⟩ := (hK.same s2).2 j mm hmm
        rw [hk] at a1
        cases a1
        have hp : p < c1.length := by rw [hd2.len, hhl]; exact Good.hap_lt a5
        have hp' : p' < c1.length := by rw [hd2.len, hhl]; exact Good.hap_lt a6
        have hc := List.getElem?_eq_getElem hp
        have hc' := List.getElem?_eq_getElem hp'
        generalize c1[p] = c at hc
        generalize c1[p'] = c' at hc'
        refine gN ?_
        dsimp only
        refine ⟨.ref t, rfl, .ref l, rfl, t, sd, rc, l, c1, p, k, p', k', c, c', rfl, a2, a3, a4, SqL.of hl2, hc, hc', _, rfl, iteB (fun g => ?_) (fun g => ?_)⟩
        · have g1 : k' < c' := of_decide_eq_true (Bool.and_eq_true_iff.mp g).1
          have g2 : c ≤ k := of_decide_eq_true (Bool.and_eq_true_iff.mp g).2
          refine ⟨.ref t, rfl, t, _, 1, _, rfl, rfl, .inl (.inl a2), atI_nat (j := 1) rfl, rc, _, rfl, .inl (.inl a4), rfl, _, _, rfl, _, _, rfl, rfl, ?_⟩
          refine ⟨_, rfl, .ref l, rfl, _, rfl, l, _, p', p', rfl, rfl, hl2, ixn (by rw [natV, List.length_map]; exact hp'), ?_⟩
          have e : (natV c1).set p' (V.int k') = natV (c1.set p' k') := by rw [natV, natV, List.map_set]
          rw [e]
          have hs := sum_set (k := k') hc'
          refine ⟨c1.set p' k', true, _, _, _, rfl, Same.put nl s2, upd_same, hd2.step (by omega) a5 a6 hc hc' g1 g2, .inl ⟨rfl, ?_⟩⟩
          rcases hor with ⟨_, z⟩ | ⟨_, rfl, _⟩
          · omega
          · omega
        · refine ⟨c1, b1, _, _, _, rfl, s2, hl2, hd2, ?_⟩
          rcases hor with z | ⟨z1, rfl, z3⟩
          · exact .inl z
          · refine .inr ⟨z1, rfl, fun i m hi hm2 q1 w1 q2 w2 d d' u1 u2 u3 u4 u5 => ?_⟩
            by_cases e : i = j
            · subst e
              obtain rfl := Option.some.inj (hmm.symm.trans hm2)
              rw [a5] at u1
              rw [a6] at u2
              cases u1
              cases u2
              obtain rfl := Option.some.inj (hc.symm.trans u3)
              obtain rfl := Option.some.inj (hc'.symm.trans u4)
              rw [decide_eq_true u5, Bool.true_and] at g
              have := of_decide_eq_false g
              omega
            · exact z3 i m (by omega) hm2 q1 w1 q2 w2 d d' u1 u2 u3 u4 u5
      · rintro σ H2 ⟨c1, b1, x4, x5, x6, rfl, s2, hl2, hd2, hor⟩
        rw [hW]
        rcases hor with ⟨rfl, z⟩ | ⟨rfl, rfl, z3⟩
        · exact ⟨2 * c1.sum + 1, by omega, c1, true, _, _, _, rfl, s2, hl2, hd2, (fun z => nomatch z), rfl⟩
        · refine ⟨2 * c1.sum, by omega, c1, false, _, _, _, rfl, s2, hl2, hd2, fun _ m p k p' k' c c' hm0 u1 u2 u3 u4 u5 => ?_, rfl⟩
          obtain ⟨i, hi⟩ := List.getElem?_of_mem (hG.recv_mem hm0 u2)
          exact z3 i m (by rw [hkl]; exact (List.getElem?_eq_some_iff.mp hi).1) hi p k p' k' c c' u1 u2 u3 u4 u5
end

end Sv

namespace Sv
open PySem PySem.Spec PyProof.Rows L2
theorem Trips.frz {H : Hp} {kvs kvs' : List (Key × V)} {ms : List Int} {rows : List (List Int)} {D : Addr} {u : HO} (h : Trips H kvs ms rows) (hD : H D = some (.dK kvs')) : Trips (upd H D u) kvs ms rows := ⟨h.1, fun i m hm => by
  obtain ⟨t, s, r, p, k, p', k', a1, a2, a3, a4, a5⟩ := h.2 i m hm
  have up : ∀ {c : Addr} {xs : List V}, H c = some (.tup xs) → (upd H D u) c = some (.tup xs) := fun {c xs} q => by rw [upd_ne (ne_of q hD (by intro z; cases z))]; exact q
  exact ⟨t, s, r, p, k, p', k', a1, up a2, up a3, up a4, a5⟩⟩
/-- a def with one parameter and *v -/
def BStar1 (fd : FuncData) (p1 pv : Str) : Prop := ∀ us rest : List Value, us.length = [p1].length → bindArgs fd ⟨us ++ rest, []⟩ = (newTuple rest >>= fun t => pure ([p1].zip us ++ [(pv, t)]))
theorem Fun.star1 {P : Program} {w : World} {K : PySem.W.Frag} {mg : Str → Option Value} {base : Heap} {x qual : Str} {st : Stmt} {f : Addr} {fd : FuncData} {N : List Str} {p1 pv : Str} {k : Nat} {sp : Sp} (F : Fun K x qual st f fd) (S : FnScope N [p1, pv] (defScope st)) (hb : BStar1 fd p1 pv)
    (hbody : ∀ (cdv : Value) (A : Around) (outer : List Env) (s : Shared) (H : Hp) (vs : List V) (Q : VK) (E : XK), Room k (A.deeper (envOfC qual (defScope st) s.heap.objs.size f cdv)) → sp vs H Q E →
      ∃ t, PSs (cxOf CX0 P w K mg base N qual (defScope st) f cdv A outer s H E).nox (defBody st) t ∧ t { nx := fun _ H' => Q .non H', rt := Q } (L2.start N vs) H) :
    FnR P w K mg base CX0 (k + 1) f (fun vs H Q E => ∃ a rest, vs = a :: rest ∧ rest.length ≤ sizeLine ∧ ∀ p, H p = Option.none → sp [a, V.ref p] (upd H p (.tup rest)) Q E) := by
  obtain ⟨oc, od, kV, doc, pm, an, cdv, ct, osl, rfl, lk, hcd⟩ := F.ex
  have G := StX.fn_star (P := P) (w := w) (mg := mg) (base := base) (CX := CX0) (ps := [p1]) (pv := pv) (k := k) (sp := sp) lk hcd S StX.cxUp_none hb (fun A outer s H vs Q E hr hsp => by
    obtain ⟨t, h, q⟩ := hbody cdv A outer s H vs Q E hr hsp
    exact ⟨t, h.nox, q⟩)
  exact G.imp fun vs H Q E ⟨a, rest, h1, h2, h3⟩ => ⟨[a], rest, h1, rfl, h2, h3⟩
/-- the greatest numbers that are left if these fail -/
def tops (rows : List (List Int)) (fs : List Int) : List Nat := rows.mapIdx fun i r => r.count 0 + (if decide ((i : Int) ∈ fs) = true then 0 else 1)
theorem tops_at {rows : List (List Int)} {fs : List Int} {i : Nat} {r : List Int} (h : rows[i]? = some r) : (tops rows fs)[i]? = some (r.count 0 + (if decide ((i : Int) ∈ fs) = true then 0 else 1)) := by
  unfold tops
  rw [List.getElem?_mapIdx, h]
  rfl
theorem tops_len (rows : List (List Int)) (fs : List Int) : (tops rows fs).length = rows.length := by
  unfold tops
  rw [List.length_mapIdx]
abbrev sFall : Stmt := topS 10
abbrev nFall : List Str := ["history", "failed", "high", "process", "present"]
theorem scFall : FnScope nFall ["history", "failed"] (defScope sFall) := ⟨rfl, rfl, rfl, by decide +kernel, rfl, by decide +kernel, by decide +kernel⟩
def spFall1 (K : PySem.W.Frag) : Sp := fun vs H Q _ => ∃ (a b : Addr) (refs : List Addr) (rows : List (List Int)) (many most : Nat) (fs : List Int), vs = [.ref a, .ref b] ∧ SqT K H a (refs.map V.ref) ∧ Rows K H refs rows ∧ Good many most rows ∧ many ≤ 6 ∧ most ≤ 60 ∧
  SqT K H b (fs.map V.int) ∧ ∀ (H' : Hp) (t : Addr) (cs : List Nat), Same H H' → IsLow rows (tops rows fs) cs → H' t = some (.tup (natV cs)) → Q (.ref t) H'
def spFall (K : PySem.W.Frag) : Sp := fun vs H Q _ => ∃ (a : Addr) (refs : List Addr) (rows : List (List Int)) (many most : Nat) (fs : List Int), vs = .ref a :: fs.map V.int ∧ SqT K H a (refs.map V.ref) ∧ Rows K H refs rows ∧ Good many most rows ∧ many ≤ 6 ∧ most ≤ 60 ∧
  fs.length ≤ 100 ∧ ∀ (H' : Hp) (t : Addr) (cs : List Nat), Same H H' → IsLow rows (tops rows fs) cs → H' t = some (.tup (natV cs)) → Q (.ref t) H'
section
variable {P : Program} {w : World} {K : PySem.W.Frag} {mg : Str → Option Value} {base : Heap}
theorem ok_fall {f fN fL fT fH fI : Addr} {fd fdN fdL fdT fdH fdI : FuncData} (F : Fun K "fall_back" "fall_back" sFall f fd) (hb : BStar1 fd "history" "failed")
    (FN : Fun K "state_numbers" "state_numbers" sNums fN fdN) (bN : Binds K fdN ["history"] []) (gN' : mg "state_numbers" = some (.ref fN))
    (FL : Fun K "lowered" "lowered" sLowered fL fdL) (bL : Binds K fdL ["trips", "high"] []) (gL : mg "lowered" = some (.ref fL))
    (FT : Fun K "trips_of" "trips_of" sTrips fT fdT) (bT : Binds K fdT ["history"] []) (gT : mg "trips_of" = some (.ref fT))
    (FH : Fun K "happened_at" "happened_at" sHap fH fdH) (bH : Binds K fdH ["history", "event"] []) (gH : mg "happened_at" = some (.ref fH)) (FI : Fun K "is_orphan" "is_orphan" sIsOrph fI fdI) (bI : Binds K fdI ["trip", "line"] []) (gI : mg "is_orphan" = some (.ref fI))
    (men : mg "enumerate" = none) (mso : mg "sorted" = none) (mtu : mg "tuple" = none) (mli : mg "list" = none) : FnR P w K mg base CX0 3 f (spFall K) := by
  have GT : FnOk P w K mg base CX0 2 fT fdT ["history"] (spTrips K) := ok_trips FT FH bH gH men mso
  have GL : FnOk P w K mg base CX0 2 fL fdL ["trips", "high"] (spLowered K) := ok_lowered FL FI bI gI mli mtu
  have GN : FnOk P w K mg base CX0 1 fN fdN ["history"] (spNums K) := ok_nums FN mtu
  refine (Fun.star1 (sp := spFall1 K) F scFall hb fun cdv A outer s H vs Q E hr h => ?_).imp fun vs H Q E h => ?_
  · obtain ⟨a, b, refs, rows, many, most, fs, rfl, hA, hR, hG, hm6, hm60, hB, q⟩ := h
    have nd := scFall.nd
    have hr1 : Room 1 _ := hr.mono (by decide)
    refine ⟨_, pss_cons (ps_setLc (i := 2) (own := [("process", 3), ("present", 4)]) (g := gTup K 2 (gCons (gName 3) (gCons (gName 4) gNil))) (by rfl) nd rfl rfl (sw_true rfl rfl rfl (by decide +kernel)) (pi_enumT (by rfl) men (pa_cons (pe_call GN hr1 (by rfl) gN' FN.kp bN .nil pass0 (pa_cons (pv 0) pa_nil)) pa_nil))
        (blkOk_by (own := [("process", 3), ("present", 4)]) (N := nFall) (sc := defScope sFall) (by decide +kernel))
        (fun _ _ _ _ _ => pg_tup rfl (pgs_cons (pg_name (i := 3) nd rfl (Or.inl rfl)) (pgs_cons (pg_name (i := 4) nd rfl (Or.inl rfl)) pgs_nil)))
        (fun _ _ _ _ _ => pts_nil) (fun _ _ _ _ _ => pe_ifExp (pt_cmpR (r := rIn K false) op_in_seq (pv 3) (pv 1) (by rfl)) (pe_op op_sub (pv 4) pe_int) (pv 4)))
      (pss_one (ps_ret (pe_call GL hr (by rfl) gL FL.kp bL .nil pass0 (pa_cons (pe_frz (pe_call GT hr (by rfl) gT FT.kp bT .nil pass0 (pa_cons (pv 0) pa_nil))) (pa_cons (pv 2) pa_nil))))), ?_⟩
    have hl6 := hG.len
    refine ⟨.ref a, rfl, a, refs, rows, rfl, hA, hR, by omega, fun H1 t s1 ht => ⟨t, _, rfl, .inl (.inl ht), fun D nD => ?_⟩⟩
    refine lc_etup (K := K) (a := t) (xs := natV (prs rows)) (fun j H' => Same H1 H' ∧ H' D = some (.lst (natV ((tops rows fs).take j)))) ⟨Same.new nD, upd_same⟩ (fun j H' _ z => .inl (.inl (z.1 _ _ ht))) (fun j x T H' hx z nT => ?_) (fun H' z => ?_)
    · obtain ⟨c, hc, rfl⟩ := of_at_map hx
      obtain ⟨row, hrow, rfl⟩ := of_at_map hc
      obtain ⟨sm, hD⟩ := z
      have hj : j < rows.length := (List.getElem?_eq_some_iff.mp hrow).1
      have sT : Same H' (upd H' T (.tup [.int (j : Nat), .int ((row.count 0 + 1 : Nat) : Int)])) := Same.new nT
      have sA := (s1.trans sm).trans sT
      refine ⟨T, _, rfl, .inl (.inl upd_same), rfl, _, _, rfl, _, _, rfl, rfl, rfl, ?_⟩
      have e1 := tops_at (fs := fs) hrow
      have tk : natV ((tops rows fs).take (j + 1)) = natV ((tops rows fs).take j) ++ [V.int ((row.count 0 + (if decide ((j : Int) ∈ fs) = true then 0 else 1) : Nat) : Int)] := by
        rw [List.take_add_one, e1, natV, natV, List.map_append]
        rfl
      have hlen : (natV ((tops rows fs).take j)).length < sizeLine := by
        rw [natV, List.length_map, List.length_take]
        exact small1000 (by omega)
      refine ⟨.int (j : Nat), rfl, .ref b, rfl, b, _, rfl, .inr ((TupK.of sA).1 _ _ hB), rfl, flat_ints _, _, rfl, ?_⟩
      rw [if_neg Bool.false_ne_true, in_ints]
      refine iteB (fun g => ?_) (fun g => ?_)
      · rw [if_pos g] at tk
        refine ⟨_, rfl, _, _, rfl, rfl, _, sT _ _ hD, hlen, Same.put nD (sm.trans sT), ?_⟩
        have e2 : ((row.count 0 + 1 : Nat) : Int) - 1 = ((row.count 0 + 0 : Nat) : Int) := by omega
        rw [upd_same, tk]
        show some (HO.lst (_ ++ [V.int (((row.count 0 + 1 : Nat) : Int) - 1)])) = _
        rw [e2]
      · rw [if_neg (by rw [g]; exact Bool.false_ne_true)] at tk
        refine ⟨_, rfl, _, sT _ _ hD, hlen, Same.put nD (sm.trans sT), ?_⟩
        rw [upd_same, tk]
    · obtain ⟨sm, hD⟩ := z
      have el : (natV (prs rows)).length = (tops rows fs).length := by rw [natV, List.length_map, prs, List.length_map, tops_len]
      rw [el, List.take_length] at hD
      have sA := s1.trans sm
      refine gN ?_
      dsimp only
      refine ⟨.ref a, rfl, a, refs, rows, many, most, rfl, (TupK.of sA).1 _ _ hA, hR.keep (.of sA), hG, hm6, hm60, fun H3 DT kvs s3 nDT hDT hK => ?_⟩
      refine ⟨DT, .dK kvs, rfl, hDT, trivial, fun od => ?_⟩
      have s4 : Same H' (upd H3 DT (.frz od (.dK kvs))) := Same.put nDT s3
      refine ⟨.ref D, rfl, DT, D, od, kvs, rows, many, most, tops rows fs, rfl, upd_same, hK.frz hDT, hG, hm6, hm60, SqL.of (s4 _ _ hD), tops_len _ _, fun H5 t2 cs s5 hlow ht2 => ?_⟩
      exact q H5 t2 cs ((sA.trans s4).trans s5) hlow ht2
  · obtain ⟨a, refs, rows, many, most, fs, rfl, hA, hR, hG, hm6, hm60, hf, q⟩ := h
    refine ⟨_, _, rfl, by rw [List.length_map]; exact sz (by omega), fun p np => ?_⟩
    have s1 : Same H (upd H p (.tup (fs.map V.int))) := Same.new np
    exact ⟨a, p, refs, rows, many, most, fs, rfl, (TupK.of s1).1 _ _ hA, hR.keep (.of s1), hG, hm6, hm60, .inl (.inl upd_same), fun H' t cs s2 h1 h2 => q H' t cs (s1.trans s2) h1 h2⟩
end

end Sv

namespace Sv
open PySem PySem.Spec PyProof.Rows L2
/-! ### states of a row -/
def zerU (n : Nat) (row : List Int) : List Int := ((List.range n).filter fun j => decide (row[j]? = some 0)).map fun (j : Nat) => (j : Int)
def places (row : List Int) : List Int := 0 :: (zerU row.length row ++ [(row.length : Int)])
theorem zerU_succ (n : Nat) (row : List Int) : zerU (n + 1) row = zerU n row ++ (if row[n]? = some 0 then [(n : Int)] else []) := by
  unfold zerU
  rw [List.range_succ, List.filter_append, List.map_append]
  congr 1
  by_cases h : row[n]? = some 0
  · rw [if_pos h, List.filter_cons_of_pos (by rw [h]; rfl)]
    rfl
  · rw [if_neg h, List.filter_cons_of_neg (by rw [decide_eq_false h]; exact Bool.false_ne_true)]
    rfl
theorem zerU_len (row : List Int) : ∀ n, n ≤ row.length → (zerU n row).length = (row.take n).count 0
  | 0, _ => by simp [zerU]
  | n + 1, h => by
    rw [zerU_succ, List.length_append, zerU_len row n (by omega), List.take_add_one, List.count_append]
    congr 1
    have e := List.getElem?_eq_getElem (show n < row.length by omega)
    rw [e]
    by_cases h0 : row[n] = 0
    · rw [if_pos (by rw [h0]), h0]
      rfl
    · rw [if_neg (fun z => h0 (Option.some.inj z))]
      simp [h0]
theorem zerU_mem {n : Nat} {row : List Int} {x : Int} (h : x ∈ zerU n row) : 0 ≤ x ∧ x < n := by
  unfold zerU at h
  obtain ⟨j, hj, rfl⟩ := List.mem_map.mp h
  have := List.mem_range.mp (List.mem_filter.mp hj).1
  omega
theorem zerU_sorted (n : Nat) (row : List Int) : (zerU n row).Pairwise (· ≤ ·) := by
  unfold zerU
  rw [List.pairwise_map]
  refine ((List.pairwise_lt_range (n := n)).filter _).imp ?_
  intro a b h
  omega
theorem places_len (row : List Int) : (places row).length = row.count 0 + 2 := by
  unfold places
  rw [List.length_cons, List.length_append, zerU_len row row.length (Nat.le_refl _), List.take_length, List.length_singleton]
theorem places_sorted (row : List Int) : (places row).Pairwise (· ≤ ·) := by
  unfold places
  refine List.pairwise_cons.mpr ⟨fun x hx => ?_, List.pairwise_append.mpr ⟨zerU_sorted _ _, List.pairwise_singleton _ _, fun x hx y hy => ?_⟩⟩
  · rcases List.mem_append.mp hx with h | h
    · exact (zerU_mem h).1
    · rw [List.mem_singleton.mp h]
      exact Int.natCast_nonneg _
  · rw [List.mem_singleton.mp hy]
    exact Int.le_of_lt (zerU_mem hx).2
theorem places_mem {row : List Int} {x : Int} (h : x ∈ places row) : 0 ≤ x ∧ x ≤ row.length := by
  rcases List.mem_cons.mp h with rfl | h
  · omega
  · rcases List.mem_append.mp h with h | h
    · have := zerU_mem h
      omega
    · rw [List.mem_singleton.mp h]
      omega
theorem count_le_len (row : List Int) : row.count 0 ≤ row.length := List.count_le_length ..
/-! ### an event between two places -/
theorem zerU_split (n : Nat) (row : List Int) : ∀ d, ∃ rest, zerU (n + d) row = zerU n row ++ rest ∧ ∀ x ∈ rest, ∃ j : Nat, x = (j : Int) ∧ n ≤ j ∧ row[j]? = some 0
  | 0 => ⟨[], by rw [List.append_nil]; rfl, fun _ z => (nomatch z)⟩
  | d + 1 => by
    obtain ⟨rest, h1, h2⟩ := zerU_split n row d
    refine ⟨rest ++ (if row[n + d]? = some 0 then [((n + d : Nat) : Int)] else []), by rw [← Nat.add_assoc, zerU_succ, h1, List.append_assoc], fun x hx => ?_⟩
    rcases List.mem_append.mp hx with z | z
    · exact h2 x z
    · split at z
      · rename_i h3
        rw [List.mem_singleton.mp z]
        exact ⟨n + d, rfl, by omega, h3⟩
      · cases z
theorem place_between {row : List Int} {i : Nat} {e : Int} (h : row[i]? = some e) (he : e ≠ 0) : ∃ x y : Int, (places row)[(row.take i).count 0]? = some x ∧ (places row)[(row.take i).count 0 + 1]? = some y ∧ x ≤ (i : Int) ∧ (i : Int) < y := by
  have hi : i < row.length := (List.getElem?_eq_some_iff.mp h).1
  obtain ⟨rest, h1, h2⟩ := zerU_split i row (row.length - i)
  have e1 : i + (row.length - i) = row.length := by omega
  rw [e1] at h1
  have hl := zerU_len row i (by omega)
  have ep : places row = (0 :: zerU i row) ++ (rest ++ [(row.length : Int)]) := by
    unfold places
    rw [h1, List.append_assoc]
    rfl
  have hk : (row.take i).count 0 < (0 :: zerU i row).length := by
    rw [List.length_cons, hl]
    exact Nat.lt_succ_self _
  obtain ⟨x, hx⟩ : ∃ x, (0 :: zerU i row)[(row.take i).count 0]? = some x := ⟨_, List.getElem?_eq_getElem hk⟩
  have hx1 : x ≤ (i : Int) := by
    rcases List.mem_cons.mp (List.mem_of_getElem? hx) with rfl | z
    · exact Int.natCast_nonneg _
    · exact Int.le_of_lt (zerU_mem z).2
  have hk2 : (0 :: zerU i row).length = (row.take i).count 0 + 1 := by rw [List.length_cons, hl]
  obtain ⟨y, hy⟩ : ∃ y, (rest ++ [(row.length : Int)])[0]? = some y := by
    cases rest with
    | nil => exact ⟨_, rfl⟩
    | cons a l => exact ⟨_, rfl⟩
  have hy1 : (i : Int) < y := by
    rcases List.mem_append.mp (List.mem_of_getElem? hy) with z | z
    · obtain ⟨j, rfl, h3, h4⟩ := h2 y z
      have : j ≠ i := fun w => by
        subst w
        rw [h] at h4
        exact he (Option.some.inj h4)
      omega
    · rw [List.mem_singleton.mp z]
      omega
  refine ⟨x, y, ?_, ?_, hx1, hy1⟩
  · rw [ep, List.getElem?_append_left hk]
    exact hx
  · rw [ep, List.getElem?_append_right (by omega), hk2, Nat.sub_self]
    exact hy
theorem place_last (row : List Int) : (places row)[row.count 0 + 1]? = some (row.length : Int) := by
  have hl := zerU_len row row.length (Nat.le_refl _)
  rw [List.take_length] at hl
  unfold places
  rw [List.getElem?_cons_succ, List.getElem?_append_right (by omega), hl, Nat.sub_self]
  rfl
theorem mono_at {l : List Int} (h : l.Pairwise (· ≤ ·)) {i j : Nat} {a b : Int} (hij : i ≤ j) (ha : l[i]? = some a) (hb : l[j]? = some b) : a ≤ b := by
  rcases Nat.lt_or_eq_of_le hij with h1 | rfl
  · obtain ⟨i1, rfl⟩ := List.getElem?_eq_some_iff.mp ha
    obtain ⟨j1, rfl⟩ := List.getElem?_eq_some_iff.mp hb
    exact List.pairwise_iff_getElem.mp h i j i1 j1 h1
  · rw [ha] at hb
    rw [Option.some.inj hb]
    exact Int.le_refl _
theorem bef_place {row : List Int} {i c : Nat} {e x : Int} (h : row[i]? = some e) (he : e ≠ 0) (hx : (places row)[c]? = some x) : decide ((i : Int) < x) = decide ((row.take i).count 0 < c) := by
  obtain ⟨a, b, h1, h2, h3, h4⟩ := place_between h he
  by_cases hc : (row.take i).count 0 < c
  · have := mono_at (places_sorted row) (show (row.take i).count 0 + 1 ≤ c from hc) h2 hx
    rw [decide_eq_true hc, decide_eq_true (by omega)]
  · have := mono_at (places_sorted row) (show c ≤ (row.take i).count 0 by omega) hx h1
    rw [decide_eq_false hc, decide_eq_false (by omega)]
/-! ### the received messages -/
structure Ms where
  m : Int
  p : Nat
  i : Nat
  q : Nat
  j : Nat
def msV (x : Ms) : List V := [.int x.m, .int x.p, .int x.i, .int x.q, .int x.j]
def At (rows : List (List Int)) (p i : Nat) (e : Int) : Prop := ∃ row, rows[p]? = some row ∧ row[i]? = some e
structure MsgAt (rows : List (List Int)) (x : Ms) : Prop where
  pos : 0 < x.m
  sent : At rows x.p x.i x.m
  got : At rows x.q x.j (0 - x.m)
theorem Good.sent_of {many most : Nat} {rows : List (List Int)} (h : Good many most rows) {q j : Nat} {m : Int} (hm : 0 < m) (h1 : At rows q j (0 - m)) : ∃ p i, At rows p i m := by
  obtain ⟨c, nm, o, u, k, _, _, hp, g, _⟩ := h
  obtain ⟨row, h2, h3⟩ := h1
  have h4 : (0 - m) ∈ rows.flatten := List.mem_flatten.mpr ⟨row, List.mem_of_getElem? h2, List.mem_of_getElem? h3⟩
  have h5 : m ∈ negs rows.flatten := List.mem_map.mpr ⟨0 - m, List.mem_filter.mpr ⟨h4, decide_eq_true (by omega)⟩, by omega⟩
  have h6 := (g.once hp).2.mem_iff.mp (List.mem_append_left _ h5)
  have h7 := (g.once hp).1.mem_iff.mpr h6
  obtain ⟨r, hr, hmr⟩ := List.mem_flatten.mp (List.mem_filter.mp h7).1
  obtain ⟨p, hp1⟩ := List.getElem?_of_mem hr
  obtain ⟨i, hi⟩ := List.getElem?_of_mem hmr
  exact ⟨p, i, r, hp1, hi⟩
theorem Good.at_once {many most : Nat} {rows : List (List Int)} (h : Good many most rows) {p i p' i' : Nat} {e : Int} (he : e ≠ 0) (h1 : At rows p i e) (h2 : At rows p' i' e) : p = p' ∧ i = i' := by
  obtain ⟨c, nm, o, u, k, _, _, hp, g, _⟩ := h
  have hc := g.count hp he
  obtain ⟨r, a1, a2⟩ := h1
  obtain ⟨r', b1, b2⟩ := h2
  have m1 := List.mem_of_getElem? a2
  have m2 := List.mem_of_getElem? b2
  have e1 : p = p' := by
    rcases Nat.lt_trichotomy p p' with z | z | z
    · have := count_two z a1 b1 m1 m2; omega
    · exact z
    · have := count_two z b1 a1 m2 m1; omega
  subst e1
  obtain rfl : r = r' := Option.some.inj (a1.symm.trans b1)
  have hle := Nat.le_trans (count_at a1) hc
  exact ⟨rfl, (idx_once a2 hle).symm.trans (idx_once b2 hle)⟩
theorem MsgAt.hap1 {many most : Nat} {rows : List (List Int)} {x : Ms} (h : MsgAt rows x) (hG : Good many most rows) : ∃ row, rows[x.p]? = some row ∧ row[x.i]? = some x.m ∧ hap rows x.m = some (x.p, (row.take x.i).count 0) := by
  obtain ⟨row, h1, h2⟩ := h.sent
  have := h.pos
  exact ⟨row, h1, h2, hG.hap_at h1 h2 (by omega)⟩
theorem MsgAt.hap2 {many most : Nat} {rows : List (List Int)} {x : Ms} (h : MsgAt rows x) (hG : Good many most rows) : ∃ row, rows[x.q]? = some row ∧ row[x.j]? = some (0 - x.m) ∧ hap rows (0 - x.m) = some (x.q, (row.take x.j).count 0) := by
  obtain ⟨row, h1, h2⟩ := h.got
  have := h.pos
  exact ⟨row, h1, h2, hG.hap_at h1 h2 (by omega)⟩
def lV (x : Ms) : List V := [.int x.p, .int x.i, .int x.q, .int x.j, .int x.m]
abbrev Te := Addr × Ms
def tr (ts : List Te) : List V := ts.map fun t => V.ref t.1
structure LTbl (H : Hp) (rows : List (List Int)) (ts : List Te) : Prop where
  sq : ∀ t ∈ ts, H t.1 = some (.lst (lV t.2))
  ok : ∀ t ∈ ts, MsgAt rows t.2
theorem LTbl.same {H H' : Hp} {rows : List (List Int)} {ts : List Te} (h : LTbl H rows ts) (e : Same H H') : LTbl H' rows ts := ⟨fun t ht => e _ _ (h.sq t ht), h.ok⟩
theorem LTbl.put {H : Hp} {rows : List (List Int)} {ts : List Te} (h : LTbl H rows ts) {F : Addr} {o : HO} (e : ∀ t ∈ ts, t.1 ≠ F) : LTbl (upd H F o) rows ts := ⟨fun t ht => by rw [upd_ne (e t ht)]; exact h.sq t ht, h.ok⟩
theorem LTbl.snoc {H : Hp} {rows : List (List Int)} {ts : List Te} {t : Te} (h : LTbl H rows ts) (h1 : H t.1 = some (.lst (lV t.2))) (h2 : MsgAt rows t.2) : LTbl H rows (ts ++ [t]) := ⟨fun x hx => by
  rcases List.mem_append.mp hx with z | z
  · exact h.sq x z
  · rw [List.mem_singleton.mp z]; exact h1, fun x hx => by
  rcases List.mem_append.mp hx with z | z
  · exact h.ok x z
  · rw [List.mem_singleton.mp z]; exact h2⟩
abbrev sLost : Stmt := topS 0
abbrev sTops : Stmt := topS 22
abbrev sLetters : Stmt := topS 23
abbrev sSpots : Stmt := topS 24
abbrev sPlaces : Stmt := topS 25
abbrev nLost : List Str := ["_law_deck_here", "_law_rows", "_law_k"]
abbrev nTops : List Str := ["_law_rows", "_law_lost", "_law_process", "_law_row"]
abbrev nLetters : List Str := ["_law_rows", "_law_found", "_law_receiver", "_law_row", "_law_index", "_law_event", "_law_sender", "_law_process"]
abbrev nSpots : List Str := ["_law_row", "_law_index", "_law_event"]
abbrev nPlaces : List Str := ["_law_rows", "_law_cut", "_law_row", "_law_number"]
theorem scTops : FnScope nTops ["_law_rows", "_law_lost"] (defScope sTops) := ⟨rfl, rfl, rfl, by decide +kernel, rfl, by decide +kernel, by decide +kernel⟩
theorem scLetters : FnScope nLetters ["_law_rows"] (defScope sLetters) := ⟨rfl, rfl, rfl, by decide +kernel, rfl, by decide +kernel, by decide +kernel⟩
theorem scSpots : FnScope nSpots ["_law_row"] (defScope sSpots) := ⟨rfl, rfl, rfl, by decide +kernel, rfl, by decide +kernel, by decide +kernel⟩
theorem scPlaces : FnScope nPlaces ["_law_rows", "_law_cut"] (defScope sPlaces) := ⟨rfl, rfl, rfl, by decide +kernel, rfl, by decide +kernel, by decide +kernel⟩
def spTops (K : PySem.W.Frag) : Sp := fun vs H Q _ => ∃ (a b : Addr) (refs : List Addr) (rows : List (List Int)) (fs : List Int), vs = [.ref a, .ref b] ∧ SqT K H a (refs.map V.ref) ∧ Rows K H refs rows ∧ rows.length ≤ 100 ∧ SqT K H b (fs.map V.int) ∧
  ∀ (H' : Hp) (l : Addr), Same H H' → H l = none → H' l = some (.lst (natV (tops rows fs))) → Q (.ref l) H'
def spLetters (K : PySem.W.Frag) : Sp := fun vs H Q _ => ∃ (a : Addr) (refs : List Addr) (rows : List (List Int)) (many most : Nat), vs = [.ref a] ∧ SqT K H a (refs.map V.ref) ∧ Rows K H refs rows ∧ Good many most rows ∧ many ≤ 6 ∧ most ≤ 60 ∧
  ∀ (H' : Hp) (l : Addr) (ts : List Te), Same H H' → H l = none → H' l = some (.lst (tr ts)) → LTbl H' rows ts → (∀ t ∈ ts, H t.1 = none) → ts.length ≤ 60 → (∀ (q j : Nat) (m : Int), 0 < m → At rows q j (0 - m) → ∃ t ∈ ts, t.2.m = m) → Q (.ref l) H'
def spSpots (K : PySem.W.Frag) : Sp := fun vs H Q _ => ∃ (a : Addr) (row : List Int), vs = [.ref a] ∧ SqT K H a (row.map V.int) ∧ row.length ≤ 900 ∧
  ∀ (H' : Hp) (l : Addr), Same H H' → H' l = some (.lst ((places row).map V.int)) → Q (.ref l) H'
def spPlaces (K : PySem.W.Frag) : Sp := fun vs H Q _ => ∃ (a b : Addr) (refs : List Addr) (rows : List (List Int)) (cs : List Nat), vs = [.ref a, .ref b] ∧ SqT K H a (refs.map V.ref) ∧ Rows K H refs rows ∧ rows.length ≤ 100 ∧ (∀ r ∈ rows, r.length ≤ 900) ∧
  SqL K H b (natV cs) ∧ cs.length = rows.length ∧ (∀ (i c : Nat) (row : List Int), cs[i]? = some c → rows[i]? = some row → c ≤ row.count 0 + 1) ∧
  ∀ (H' : Hp) (l : Addr) (ps : List Int), Same H H' → H l = none → H' l = some (.lst (ps.map V.int)) → (∀ (i c : Nat) (row : List Int) (x : Int), rows[i]? = some row → cs[i]? = some c → (places row)[c]? = some x → ps[i]? = some x) → Q (.ref l) H'
section
variable {P : Program} {w : World} {K : PySem.W.Frag} {mg : Str → Option Value} {base : Heap}
theorem ok_tops {f : Addr} {fd : FuncData} (F : Fun K "_law_tops" "_law_tops" sTops f fd) (men : mg "enumerate" = none) (mi : mg "int" = none) : FnOk P w K mg base CX0 1 f fd ["_law_rows", "_law_lost"] (spTops K) := by
  refine F.ok scTops (fun vs H Q E h => ?_) (fun cdv A outer s H vs Q E hr h => ?_)
  · obtain ⟨a, b, refs, rows, fs, rfl, _⟩ := h
    rfl
  · obtain ⟨a, b, refs, rows, fs, rfl, hA, hR, hl, hB, q⟩ := h
    have nd := scTops.nd
    refine ⟨_, pss_one (ps_ret (pe_lc (own := [("_law_process", 2), ("_law_row", 3)]) (g := gTup K 2 (gCons (gName 2) (gCons (gName 3) gNil))) (by rfl) nd (pi_enumT (by rfl) men (pa_cons (pv 0) pa_nil))
        (blkOk_by (own := [("_law_process", 2), ("_law_row", 3)]) (N := nTops) (sc := defScope sTops) (by decide +kernel))
        (fun _ _ _ _ _ => pg_tup rfl (pgs_cons (pg_name (i := 2) nd rfl (Or.inl rfl)) (pgs_cons (pg_name (i := 3) nd rfl (Or.inl rfl)) pgs_nil)))
        (fun _ _ _ _ _ => pts_nil) (fun _ _ _ _ _ => pe_op op_sub (pe_op op_add (pe_tm (r := rTcount K) PySem.F.slot_tuple_count PySem.F.type_tuple_count (mt_tcount hr.units) (pv 3) (pa_cons pe_int pa_nil)) pe_int)
          (pe_callTy call_int1 (by rfl) mi (by decide +kernel) (pa_cons (pe_cmpR (r := rIn K false) op_in_seq (pv 2) (pv 1) (by rfl)) pa_nil))))), ?_⟩
    refine ⟨.ref a, rfl, a, _, rfl, hA, fun D nD => ?_⟩
    refine lc_etup (K := K) (a := a) (xs := refs.map V.ref) (fun j H' => Same H H' ∧ H' D = some (.lst (natV ((tops rows fs).take j)))) ⟨Same.new nD, upd_same⟩ (fun j H' _ z => (TupK.of z.1).1 _ _ hA) (fun j x T H' hx z nT => ?_) (fun H' z => ?_)
    · obtain ⟨r, hr', rfl⟩ := of_at_map hx
      obtain ⟨sm, hD⟩ := z
      have hj : j < rows.length := by
        rw [← hR.1]
        exact (List.getElem?_eq_some_iff.mp hr').1
      have hrow := List.getElem?_eq_getElem hj
      generalize rows[j] = row at hrow
      have sT : Same H' (upd H' T (.tup [.int (j : Nat), .ref r])) := Same.new nT
      have sA := sm.trans sT
      have ht := (hR.2 j r _ hr' hrow).same sA
      refine ⟨T, _, rfl, .inl (.inl upd_same), rfl, _, _, rfl, _, _, rfl, rfl, rfl, yesT ?_⟩
      refine ⟨.ref r, rfl, ⟨r, _, rfl, ht⟩, r, row, 0, rfl, rfl, ht.sqT, _, _, rfl, rfl, .int (j : Nat), rfl, .ref b, rfl, b, _, rfl, .inr ((TupK.of sA).1 _ _ hB), rfl, flat_ints _, .inr ⟨_, rfl, ?_⟩⟩
      rw [if_neg Bool.false_ne_true, in_ints]
      have tk : natV ((tops rows fs).take (j + 1)) = natV ((tops rows fs).take j) ++ [V.int ((row.count 0 + (if decide ((j : Int) ∈ fs) = true then 0 else 1) : Nat) : Int)] := by
        rw [List.take_add_one, tops_at (fs := fs) hrow, natV, natV, List.map_append]
        rfl
      refine ⟨_, _, rfl, rfl, _, sT _ _ hD, ?_, Same.put nD sA, ?_⟩
      · rw [natV, List.length_map, List.length_take]
        exact small1000 (by omega)
      · rw [upd_same, tk]
        have e : ((row.count 0 : Nat) : Int) + 1 - (if decide ((j : Int) ∈ fs) = true then 1 else 0) = ((row.count 0 + (if decide ((j : Int) ∈ fs) = true then 0 else 1) : Nat) : Int) := by
          split <;> omega
        rw [← e]
    · obtain ⟨sm, hD⟩ := z
      rw [List.length_map, hR.1, ← tops_len rows fs, List.take_length] at hD
      exact q H' D sm nD hD
theorem ok_spots {f : Addr} {fd : FuncData} (F : Fun K "_law_spots" "_law_spots" sSpots f fd) (men : mg "enumerate" = none) (ml : mg "len" = none) : FnOk P w K mg base CX0 1 f fd ["_law_row"] (spSpots K) := by
  refine F.ok scSpots (fun vs H Q E h => ?_) (fun cdv A outer s H vs Q E hr h => ?_)
  · obtain ⟨a, row, rfl, _⟩ := h
    rfl
  · obtain ⟨a, row, rfl, hA, hl, q⟩ := h
    have nd := scSpots.nd
    refine ⟨_, pss_one (ps_ret (pe_op op_cat (pe_op op_cat (pe_lst (pa_cons pe_int pa_nil)) (pe_lc (own := [("_law_index", 1), ("_law_event", 2)]) (g := gTup K 2 (gCons (gName 1) (gCons (gName 2) gNil))) (by rfl) nd (pi_enumT (by rfl) men (pa_cons (pv 0) pa_nil))
        (blkOk_by (own := [("_law_index", 1), ("_law_event", 2)]) (N := nSpots) (sc := defScope sSpots) (by decide +kernel))
        (fun _ _ _ _ _ => pg_tup rfl (pgs_cons (pg_name (i := 1) nd rfl (Or.inl rfl)) (pgs_cons (pg_name (i := 2) nd rfl (Or.inl rfl)) pgs_nil)))
        (fun _ _ _ _ _ => pts_one (pt_cmpR op_eq (pv 2) pe_int (nomark _))) (fun _ _ _ _ _ => pv 1))) (pe_lst (pa_cons (pe_callB call_len_seq (by rfl) ml PySem.boot_len (pa_cons (pv 0) pa_nil)) pa_nil)))), ?_⟩
    refine ⟨sz (by show 1 ≤ 1000; decide), fun L1 n1 => ?_⟩
    have s1 : Same H (upd H L1 (.lst [.int 0])) := Same.new n1
    have h1 : (upd H L1 (.lst [.int 0])) L1 = some (.lst [.int 0]) := upd_same
    generalize upd H L1 (.lst [.int 0]) = H1 at s1 h1 ⊢
    refine ⟨.ref a, rfl, a, _, rfl, (TupK.of s1).1 _ _ hA, fun d nd' => ?_⟩
    refine lc_etup (K := K) (a := a) (xs := row.map V.int) (fun i H2 => Same H1 H2 ∧ H2 d = some (.lst ((zerU i row).map V.int))) ⟨Same.new nd', upd_same⟩ (fun i H2 _ z => (TupK.of (s1.trans z.1)).1 _ _ hA) (fun i x T H2 hx z nT => ?_) (fun H2 z => ?_)
    · obtain ⟨n, hn, rfl⟩ := of_at_map hx
      have hi : i < row.length := (List.getElem?_eq_some_iff.mp hn).1
      have sT : Same H2 (upd H2 T (.tup [.int (i : Nat), .int n])) := Same.new nT
      have zl : (zerU i row).length ≤ i := by
        rw [zerU_len row i (by omega)]
        exact Nat.le_trans (List.count_le_length ..) (by rw [List.length_take]; exact Nat.min_le_left _ _)
      refine ⟨T, _, rfl, .inl (.inl upd_same), rfl, _, _, rfl, _, _, rfl, rfl, rfl, _, rfl, rfl, _, rfl, ite2 (fun e => ?_) (fun e => ?_)⟩
      · have e0 : n = 0 := V.int.inj (of_decide_eq_true e)
        refine ⟨_, rfl, _, sT _ _ z.2, ?_, Same.put nd' (z.1.trans sT), ?_⟩
        · rw [List.length_map]
          exact small1000 (by omega)
        · rw [upd_same, zerU_succ, if_pos (by rw [hn, e0]), List.map_append]
          rfl
      · have e0 : n ≠ 0 := fun z => e (decide_eq_true (congrArg V.int z))
        refine ⟨z.1.trans sT, ?_⟩
        rw [zerU_succ, if_neg (by rw [hn]; exact fun z => e0 (Option.some.inj z)), List.append_nil]
        exact sT _ _ z.2
    · obtain ⟨s2, h2⟩ := z
      rw [List.length_map] at h2
      have zl := zerU_len row row.length (Nat.le_refl _)
      rw [List.take_length] at zl
      have zc := count_le_len row
      refine ⟨L1, d, _, _, rfl, rfl, s2 _ _ h1, h2, ?_, fun g1 ng1 => ?_⟩
      · rw [List.length_map]
        exact sz (by show 1 + (zerU row.length row).length ≤ 1000; omega)
      have s3 : Same H2 (upd H2 g1 (.lst ([.int 0] ++ (zerU row.length row).map V.int))) := Same.new ng1
      have h3 : (upd H2 g1 (.lst ([.int 0] ++ (zerU row.length row).map V.int))) g1 = some (.lst ([.int 0] ++ (zerU row.length row).map V.int)) := upd_same
      generalize upd H2 g1 (.lst ([.int 0] ++ (zerU row.length row).map V.int)) = H3 at s3 h3 ⊢
      have s13 := (s1.trans s2).trans s3
      refine ⟨.ref a, rfl, a, _, rfl, .inr ((TupK.of s13).1 _ _ hA), sz (by show 1 ≤ 1000; decide), fun L2 n2 => ?_⟩
      rw [List.length_map]
      have s4 : Same H3 (upd H3 L2 (.lst [.int (row.length : Nat)])) := Same.new n2
      refine ⟨g1, L2, _, _, rfl, rfl, s4 _ _ h3, upd_same, ?_, fun g2 ng2 => ?_⟩
      · rw [List.length_append, List.length_map]
        exact sz (by show 1 + (zerU row.length row).length + 1 ≤ 1000; omega)
      refine q _ g2 ((s13.trans s4).trans (Same.new ng2)) ?_
      rw [upd_same]
      unfold places
      rw [List.map_cons, List.map_append]
      rfl
theorem ok_places {f fS : Addr} {fd fdS : FuncData} (F : Fun K "_law_places" "_law_places" sPlaces f fd) (FS : Fun K "_law_spots" "_law_spots" sSpots fS fdS) (bS : Binds K fdS ["_law_row"] []) (gS : mg "_law_spots" = some (.ref fS)) (men : mg "enumerate" = none) (ml : mg "len" = none) (mzi : mg "zip" = none) :
    FnOk P w K mg base CX0 2 f fd ["_law_rows", "_law_cut"] (spPlaces K) := by
  have GS : FnOk P w K mg base CX0 1 fS fdS ["_law_row"] (spSpots K) := ok_spots FS men ml
  refine F.ok scPlaces (fun vs H Q E h => ?_) (fun cdv A outer s H vs Q E hr h => ?_)
  · obtain ⟨a, b, refs, rows, cs, rfl, _⟩ := h
    rfl
  · obtain ⟨a, b, refs, rows, cs, rfl, hA, hR, hl, h900, hB, hcl, hok, q⟩ := h
    have nd := scPlaces.nd
    refine ⟨_, pss_one (ps_ret (pe_lc (own := [("_law_row", 2), ("_law_number", 3)]) (g := gTup K 2 (gCons (gName 2) (gCons (gName 3) gNil))) (by rfl) nd (pi_zipM (by rfl) mzi (pa_cons (pv 0) (pa_cons (pv 1) pa_nil)))
        (blkOk_by (own := [("_law_row", 2), ("_law_number", 3)]) (N := nPlaces) (sc := defScope sPlaces) (by decide +kernel))
        (fun _ _ _ _ _ => pg_tup rfl (pgs_cons (pg_name (i := 2) nd rfl (Or.inl rfl)) (pgs_cons (pg_name (i := 3) nd rfl (Or.inl rfl)) pgs_nil)))
        (fun _ _ _ _ _ => pts_nil) (fun _ _ _ _ _ => pe_ix (r := rIxL K) ix_list (pe_call GS hr (by rfl) gS FS.kp bS .nil pass0 (pa_cons (pv 2) pa_nil)) (pv 3) (fun _ _ => rfl)))), ?_⟩
    refine ⟨.ref a, rfl, .ref b, rfl, a, b, _, _, rfl, hA, hB, fun D nD => ?_⟩
    have hrl : refs.length = rows.length := hR.1
    refine lc_it (walk_zipM (K := K) (a := a) (b := b) (xs := refs.map V.ref) (ys := natV cs) rfl) (fun j H' => Same H H' ∧ ∃ ps : List Int, H' D = some (.lst (ps.map V.int)) ∧ ps.length = j ∧ ∀ (i c : Nat) (row : List Int) (x : Int), i < j → rows[i]? = some row → cs[i]? = some c → (places row)[c]? = some x → ps[i]? = some x)
      ⟨Same.new nD, [], upd_same, rfl, fun i c row x z => absurd z (Nat.not_lt_zero _)⟩ (fun j H' _ z => ⟨(TupK.of z.1).1 _ _ hA, z.1.seq hB⟩) (fun j v H' H'' hj z y => ?_) (fun H' z => ?_)
    · obtain ⟨T, x, y, rfl, nT, rfl, hx, hy⟩ := y
      obtain ⟨r, hr', rfl⟩ := of_at_map hx
      obtain ⟨c, hc, rfl⟩ := of_at_map hy
      obtain ⟨sm, ps, hD, hpl, hps⟩ := z
      have hj' : j < rows.length := by
        rw [← hrl]
        exact (List.getElem?_eq_some_iff.mp hr').1
      have hrow := List.getElem?_eq_getElem hj'
      generalize rows[j] = row at hrow
      have sT : Same H' (upd H' T (.tup [.ref r, .int c])) := Same.new nT
      have sA := sm.trans sT
      refine ⟨T, _, rfl, .inl (.inl upd_same), rfl, _, _, rfl, _, _, rfl, rfl, rfl, yesT ?_⟩
      have hcc := hok j c row hc hrow
      obtain ⟨x, hpx⟩ : ∃ x, (places row)[c]? = some x := ⟨_, List.getElem?_eq_getElem (by rw [places_len]; omega)⟩
      refine ⟨.ref r, rfl, r, row, rfl, ((hR.2 j r row hr' hrow).same sA).sqT, h900 _ (List.mem_of_getElem? hrow), fun H3 l s3 hl3 => ?_⟩
      refine ⟨_, rfl, l, _, c, _, rfl, rfl, SqL.of hl3, atI_nat (at_map hpx), ?_⟩
      refine ⟨_, s3 _ _ (sT _ _ hD), ?_, Same.put nD (sA.trans s3), ps ++ [x], ?_, by rw [List.length_append, hpl]; rfl, fun i c' row' x' hi g1 g2 g3 => ?_⟩
      · rw [List.length_map]
        exact small1000 (by omega)
      · rw [upd_same, List.map_append]
        rfl
      · by_cases e : i = j
        · subst e
          obtain rfl := Option.some.inj (hrow.symm.trans g1)
          obtain rfl := Option.some.inj (hc.symm.trans g2)
          rw [hpx] at g3
          rw [List.getElem?_append_right (by omega), hpl, Nat.sub_self]
          exact g3
        · rw [List.getElem?_append_left (by omega)]
          exact hps i c' row' x' (by omega) g1 g2 g3
    · obtain ⟨sm, ps, hD, hpl, hps⟩ := z
      have hmin : min (refs.map V.ref).length (natV cs).length = rows.length := by
        rw [List.length_map, natV, List.length_map]
        omega
      rw [hmin] at hps
      exact q H' D ps sm nD hD fun i c row x g1 g2 g3 => hps i c row x (List.getElem?_eq_some_iff.mp g1).1 g1 g2 g3
end

end Sv

namespace Sv
open PySem PySem.Spec PyProof.Rows L2
section
variable {P : Program} {w : World} {K : PySem.W.Frag} {mg : Str → Option Value} {base : Heap}
theorem ok_letters {f : Addr} {fd : FuncData} (F : Fun K "_law_letters" "_law_letters" sLetters f fd) (men : mg "enumerate" = none) (ml : mg "len" = none) (mra : mg "range" = none) : FnOk P w K mg base CX0 1 f fd ["_law_rows"] (spLetters K) := by
  refine F.ok scLetters (fun vs H Q E h => ?_) (fun cdv A outer s H vs Q E hr h => ?_)
  · obtain ⟨a, refs, rows, many, most, rfl, _⟩ := h
    rfl
  · obtain ⟨a, refs, rows, many, most, rfl, hA, hR, hG, hm6, hm60, q⟩ := h
    have nd := scLetters.nd
    refine ⟨_, pss_cons (ps_set (i := 1) nd rfl (.inl rfl) (pe_lst pa_nil))
      (pss_cons (ps_for PassesOwn.never rfl (pi_enumT (by rfl) men (pa_cons (pv 0) pa_nil)) (pg_tup rfl (pgs_cons (pg_name (i := 2) nd rfl (.inl rfl)) (pgs_cons (pg_name (i := 3) nd rfl (.inl rfl)) pgs_nil)))
        (pss_one (ps_for PassesOwn.never rfl (pi_enumT (by rfl) men (pa_cons (pv 3) pa_nil)) (pg_tup rfl (pgs_cons (pg_name (i := 4) nd rfl (.inl rfl)) (pgs_cons (pg_name (i := 5) nd rfl (.inr rfl)) pgs_nil)))
          (pss_one (ps_if (pt_cmpR op_lt (pv 5) pe_int (nomark _))
            (pss_cons (ps_set (i := 6) nd rfl (.inl rfl) (pe_ix ix_list (pe_lc (own := [("_law_process", 7)]) (g := gName 7) (by rfl) nd (pi_range1 (by rfl) mra (pa_cons (pe_callB call_len_seq (by rfl) ml PySem.boot_len (pa_cons (pv 0) pa_nil)) pa_nil))
                (blkOk_by (own := [("_law_process", 7)]) (N := nLetters) (sc := defScope sLetters) (by decide +kernel)) (fun _ _ _ _ _ => pg_name (i := 7) nd rfl (Or.inl rfl))
                (fun _ _ _ _ _ => pts_one (pt_cmpR (r := rIn K false) op_in_seq (pe_op op_sub pe_int (pv 5)) (pe_ix (r := rIxT K) ix_tup (pv 0) (pv 7) (fun _ _ => rfl)) (by rfl))) (fun _ _ _ _ _ => pv 7)) pe_int (fun _ _ => rfl)))
            (pss_one (ps_expr (pe_bm PySem.F.plainAttrs_list PySem.F.slot_list_append PySem.F.type_list_append mt_append (pv 1)
              (pa_cons (pe_lst (pa_cons (pv 6) (pa_cons (pe_tm PySem.F.slot_tuple_index PySem.F.type_tuple_index mt_tindex (pe_ix ix_tup (pv 0) (pv 6) (fun _ _ => rfl)) (pa_cons (pe_op op_sub pe_int (pv 5)) pa_nil))
                (pa_cons (pv 2) (pa_cons (pv 4) (pa_cons (pe_op op_sub pe_int (pv 5)) pa_nil)))))) pa_nil))))) pss_nil)))))
      (pss_one (ps_ret (pv 1)))), ?_⟩
    have h60 : ∀ r ∈ rows, r.length ≤ 60 := fun r hr => by
      obtain ⟨i, hi⟩ := List.getElem?_of_mem hr
      have := (hG.row hi).1
      omega
    have hlen := hG.len
    have htot : rows.flatten.length ≤ 60 := by
      rw [List.length_flatten]
      have := hG.events
      omega
    have hlr : refs.length = rows.length := hR.1
    refine ⟨sz (Nat.zero_le _), fun F0 nF => ?_⟩
    have s1 : Same H (upd H F0 (.lst [])) := Same.new nF
    have hF1 : (upd H F0 (.lst [])) F0 = some (.lst []) := upd_same
    show gName 1 (V.ref F0) _ (upd H F0 (.lst [])) _
    generalize upd H F0 (.lst []) = H1 at s1 hF1 ⊢
    refine ⟨.ref a, rfl, a, _, rfl, (TupK.of s1).1 _ _ hA, ?_⟩
    refine for_etup (K := K) (a := a) (xs := refs.map V.ref) (fun i σ H' => ∃ (x2 x3 x4 x5 x6 x7 : Option V) (ts : List Te), σ = [some (.ref a), some (.ref F0), x2, x3, x4, x5, x6, x7] ∧ Same H H' ∧ H' F0 = some (.lst (tr ts)) ∧ LTbl H' rows ts ∧ (∀ t ∈ ts, t.1 ≠ F0 ∧ H t.1 = none) ∧
        ts.length ≤ (rows.take i).flatten.length ∧ ∀ (q j : Nat) (m : Int), q < i → 0 < m → At rows q j (0 - m) → ∃ t ∈ ts, t.2.m = m)
      ⟨_, _, _, _, _, _, [], rfl, s1, hF1, ⟨fun t h => (nomatch h), fun t h => (nomatch h)⟩, (fun t h => (nomatch h)), Nat.zero_le _, fun q j m z => absurd z (Nat.not_lt_zero _)⟩ (fun i σ H' _ ⟨_, _, _, _, _, _, _, _, sm, _⟩ => (TupK.of sm).1 _ _ hA) ?_ ?_
    · rintro i x T σ H3 hx ⟨x2, x3, x4, x5, x6, x7, ts, rfl, s3, hF3, hT3, hn3, hl3, hc3⟩ nT
      obtain ⟨r, hr', rfl⟩ := of_at_map hx
      have hi : i < rows.length := by
        rw [← hlr]
        exact (List.getElem?_eq_some_iff.mp hr').1
      have hrow := List.getElem?_eq_getElem hi
      generalize hrw : rows[i] = row at hrow
      have sT : Same H3 (upd H3 T (.tup [V.int (i : Nat), V.ref r])) := Same.new nT
      have s4 := s3.trans sT
      refine ⟨T, _, rfl, .inl (.inl upd_same), rfl, _, _, rfl, _, _, rfl, rfl, ?_⟩
      have hF4 := sT _ _ hF3
      have hT4 := hT3.same sT
      generalize upd H3 T (.tup [V.int (i : Nat), V.ref r]) = H4 at s4 hF4 hT4 ⊢
      have hrT : ∀ {H' : Hp}, Same H H' → SqT K H' r (row.map V.int) := fun e => ((hR.2 i r row hr' hrow).same e).sqT
      refine ⟨.ref r, rfl, r, _, rfl, hrT s4, ?_⟩
      have e1 : (rows.take (i + 1)).flatten = (rows.take i).flatten ++ row := by
        rw [List.take_add_one, hrow, List.flatten_append]
        simp
      have hle1 : ((rows.take (i + 1)).flatten).length ≤ 60 := by
        have h1 : ((rows.take (i + 1)).flatten).length ≤ rows.flatten.length := by
          conv => rhs; rw [← List.take_append_drop (i + 1) rows]
          rw [List.flatten_append, List.length_append]
          omega
        omega
      rw [e1, List.length_append] at hle1
      refine for_etup (K := K) (a := r) (xs := row.map V.int) (fun j σ H' => ∃ (x4 x5 x6 x7 : Option V) (ts : List Te), σ = [some (.ref a), some (.ref F0), some (.int (i : Nat)), some (.ref r), x4, x5, x6, x7] ∧ Same H H' ∧ H' F0 = some (.lst (tr ts)) ∧ LTbl H' rows ts ∧ (∀ t ∈ ts, t.1 ≠ F0 ∧ H t.1 = none) ∧
          ts.length ≤ (rows.take i).flatten.length + j ∧ (∀ (q j : Nat) (m : Int), q < i → 0 < m → At rows q j (0 - m) → ∃ t ∈ ts, t.2.m = m) ∧ ∀ (j' : Nat) (m : Int), j' < j → 0 < m → row[j']? = some (0 - m) → ∃ t ∈ ts, t.2.m = m)
        ⟨_, _, _, _, ts, rfl, s4, hF4, hT4, hn3, by omega, hc3, fun j' m z => absurd z (Nat.not_lt_zero _)⟩ (fun j σ H' _ ⟨_, _, _, _, _, _, sm, _⟩ => hrT sm) ?_ ?_
      · rintro j x T2 σ H5 hx2 ⟨x4, x5, x6, x7, ts, rfl, s5, hF5, hT5, hn5, hl5, hc5, hd5⟩ nT2
        obtain ⟨e, he, rfl⟩ := of_at_map hx2
        have hj : j < row.length := (List.getElem?_eq_some_iff.mp he).1
        have sT2 : Same H5 (upd H5 T2 (.tup [V.int (j : Nat), V.int e])) := Same.new nT2
        refine ⟨T2, _, rfl, .inl (.inl upd_same), rfl, _, _, rfl, _, _, rfl, rfl, ?_⟩
        have s6 := s5.trans sT2
        have hF6 := sT2 _ _ hF5
        have hT6 := hT5.same sT2
        generalize upd H5 T2 (.tup [V.int (j : Nat), V.int e]) = H6 at s6 hF6 hT6 ⊢
        refine ⟨_, rfl, _, _, rfl, rfl, _, rfl, iteB (fun g => ?_) (fun g => ?_)⟩
        · have e0 : e < 0 := of_decide_eq_true g
          obtain ⟨m, hm⟩ : ∃ m : Int, m = 0 - e := ⟨_, rfl⟩
          have em : e = 0 - m := by omega
          have hm0 : 0 < m := by omega
          have hgot : At rows i j (0 - m) := ⟨row, hrow, by rw [← em]; exact he⟩
          obtain ⟨ps, is, hsent⟩ := hG.sent_of hm0 hgot
          subst hm
          -- the sender
          refine ⟨.ref a, rfl, a, _, rfl, .inr ((TupK.of s6).1 _ _ hA), _, rfl, ?_, ?_, fun D nD => ?_⟩
          · exact Int.natCast_nonneg _
          · rw [List.length_map]
            omega
          rw [List.length_map, Int.toNat_natCast]
          refine lc_range (lo := 0) (n := refs.length) (fun k H' => Same H6 H' ∧ ∃ cs : List Nat, H' D = some (.lst (natV cs)) ∧ cs.length ≤ k ∧ (∀ c ∈ cs, ∃ rw' : List Int, rows[c]? = some rw' ∧ (0 - e) ∈ rw') ∧ ∀ (p : Nat) (rw' : List Int), p < k → rows[p]? = some rw' → (0 - e) ∈ rw' → cs ≠ [])
            ⟨Same.new nD, [], upd_same, Nat.le_refl _, (fun c z => (nomatch z)), fun p rw' z => absurd z (Nat.not_lt_zero _)⟩ (fun k H7 hk z => ?_) (fun H7 z => ?_)
          · obtain ⟨sm, cs, hD, hcl, hcs, hne⟩ := z
            have ek : (0 : Int) + (k : Nat) = (k : Int) := by omega
            rw [ek]
            have hk' : k < rows.length := by omega
            have hrk := List.getElem?_eq_getElem hk'
            generalize rows[k] = rk at hrk
            obtain ⟨ak, hak⟩ : ∃ ak, refs[k]? = some ak := ⟨_, List.getElem?_eq_getElem hk⟩
            have s67 := s6.trans sm
            have hTk := (hR.2 k ak rk hak hrk).same s67
            refine ⟨rfl, _, rfl, _, _, rfl, rfl, .ref a, rfl, .int k, rfl, a, _, k, .ref ak, rfl, rfl, (TupK.of s67).1 _ _ hA, atI_nat (at_map hak), ak, _, rfl, .inr hTk.sqT, rfl, flat_ints _, _, rfl, ?_⟩
            rw [if_neg Bool.false_ne_true, in_ints]
            refine iteB (fun g2 => ?_) (fun g2 => ?_)
            · have hin : (0 - e) ∈ rk := of_decide_eq_true g2
              refine ⟨_, rfl, _, hD, ?_, Same.put nD sm, cs ++ [k], ?_, by rw [List.length_append, List.length_singleton]; omega, fun c hc => ?_, fun p rw' hp g3 g4 z => ?_⟩
              · rw [natV, List.length_map]
                exact small1000 (by omega)
              · rw [upd_same, natV, natV, List.map_append]
                rfl
              · rcases List.mem_append.mp hc with z | z
                · exact hcs c z
                · rw [List.mem_singleton.mp z]
                  exact ⟨rk, hrk, hin⟩
              · simp at z
            · have hnin : (0 - e) ∉ rk := of_decide_eq_false g2
              refine ⟨sm, cs, hD, Nat.le_succ_of_le hcl, hcs, fun p rw' hp g3 g4 => ?_⟩
              by_cases z : p = k
              · subst z
                obtain rfl := Option.some.inj (hrk.symm.trans g3)
                exact absurd g4 hnin
              · exact hne p rw' (by omega) g3 g4
          obtain ⟨sm, cs, hD, hcl, hcs, hne⟩ := z
          obtain ⟨rs, hrs1, hrs2⟩ := id hsent
          have hcne := hne ps rs (by rw [hlr]; exact (List.getElem?_eq_some_iff.mp hrs1).1) hrs1 (List.mem_of_getElem? hrs2)
          obtain ⟨p, rest, rfl⟩ := List.exists_cons_of_ne_nil hcne
          obtain ⟨rp, hrp, hmp⟩ := hcs p List.mem_cons_self
          have s7 := s6.trans sm
          have hF7 := sm _ _ hF6
          have hT7 := hT6.same sm
          refine ⟨D, _, 0, _, rfl, rfl, SqL.of hD, atI_nat (j := 0) rfl, ?_⟩
          have hpl : p < refs.length := by rw [hlr]; exact (List.getElem?_eq_some_iff.mp hrp).1
          obtain ⟨ap, hap⟩ : ∃ ap, refs[p]? = some ap := ⟨_, List.getElem?_eq_getElem hpl⟩
          have hTp := (hR.2 p ap rp hap hrp).same s7
          refine gN ?_
          dsimp only
          refine ⟨.ref F0, rfl, .inl ⟨rfl, _, SqL.of hF7⟩, .int p, rfl, .ref a, rfl, .int p, rfl, a, _, p, .ref ap, rfl, rfl, (TupK.of s7).1 _ _ hA, atI_nat (at_map hap), ⟨ap, _, rfl, hTp⟩, _, rfl, _, _, rfl, rfl, ?_⟩
          refine ⟨ap, rp, (0 - e), rfl, rfl, hTp.sqT, hmp, .int (i : Nat), rfl, .int (j : Nat), rfl, _, rfl, _, _, rfl, rfl, sz (by show 5 ≤ 1000; decide), fun L nL => ?_⟩
          have s8 : Same H7 (upd H7 L (.lst [.int p, .int (rp.idxOf (0 - e) : Nat), .int (i : Nat), .int (j : Nat), .int (0 - e)])) := Same.new nL
          have hL8 : (upd H7 L (.lst [.int p, .int (rp.idxOf (0 - e) : Nat), .int (i : Nat), .int (j : Nat), .int (0 - e)])) L = some (.lst (lV ⟨(0 - e), p, rp.idxOf (0 - e), i, j⟩)) := upd_same
          have hF8 := s8 _ _ hF7
          have hT8 := hT7.same s8
          have nLF : L ≠ F0 := fun z => by rw [z, hF7] at nL; cases nL
          generalize upd H7 L (.lst [.int p, .int (rp.idxOf (0 - e) : Nat), .int (i : Nat), .int (j : Nat), .int (0 - e)]) = H8 at s8 hL8 hF8 hT8 ⊢
          have hms : MsgAt rows ⟨(0 - e), p, rp.idxOf (0 - e), i, j⟩ := by
            refine ⟨hm0, ⟨rp, hrp, ?_⟩, hgot⟩
            have hl := List.idxOf_lt_length_iff.mpr hmp
            show rp[rp.idxOf (0 - e)]? = some (0 - e)
            rw [List.getElem?_eq_getElem hl, List.getElem_idxOf hl]
          refine ⟨F0, _, _, rfl, rfl, hF8, ?_, ?_⟩
          · rw [tr, List.length_map]
            exact small1000 (by omega)
          refine ⟨_, _, _, _, ts ++ [(L, ⟨(0 - e), p, rp.idxOf (0 - e), i, j⟩)], rfl, Same.put nF (s7.trans s8), ?_, (hT8.put fun t ht => (hn5 t ht).1).snoc (t := (L, ⟨(0 - e), p, rp.idxOf (0 - e), i, j⟩)) (by rw [upd_ne nLF]; exact hL8) hms, fun t ht => ?_, by rw [List.length_append, List.length_singleton]; omega, fun q2 j2 m2 g1 g2 g3 => ?_, fun j2 m2 g1 g2 g3 => ?_⟩
          · rw [upd_same, tr, tr, List.map_append]
            rfl
          · rcases List.mem_append.mp ht with z | z
            · exact hn5 t z
            · rw [List.mem_singleton.mp z]
              exact ⟨nLF, s7.free nL⟩
          · obtain ⟨t, ht, e3⟩ := hc5 q2 j2 m2 g1 g2 g3
            exact ⟨t, List.mem_append_left _ ht, e3⟩
          · by_cases z : j2 = j
            · subst z
              have := Option.some.inj (he.symm.trans g3)
              exact ⟨_, List.mem_append_right _ (List.mem_singleton.mpr rfl), by show (0 - e) = m2; omega⟩
            · obtain ⟨t, ht, e3⟩ := hd5 j2 m2 (by omega) g2 g3
              exact ⟨t, List.mem_append_left _ ht, e3⟩
        · have e0 : ¬ e < 0 := of_decide_eq_false g
          refine ⟨_, _, _, _, ts, rfl, s6, hF6, hT6, hn5, by omega, hc5, fun j2 m2 g1 g2 g3 => ?_⟩
          by_cases z : j2 = j
          · subst z
            have := Option.some.inj (he.symm.trans g3)
            omega
          · exact hd5 j2 m2 (by omega) g2 g3
      · rintro σ H5 ⟨x4, x5, x6, x7, ts, rfl, s5, hF5, hT5, hn5, hl5, hc5, hd5⟩
        rw [List.length_map] at hl5 hd5
        refine ⟨_, _, _, _, _, _, ts, rfl, s5, hF5, hT5, hn5, by rw [e1, List.length_append]; exact hl5, fun q2 j2 m2 g1 g2 g3 => ?_⟩
        by_cases z : q2 = i
        · subst z
          obtain ⟨row', b1, b2⟩ := g3
          obtain rfl : row = row' := Option.some.inj (hrow.symm.trans b1)
          exact hd5 j2 m2 (List.getElem?_eq_some_iff.mp b2).1 g2 b2
        · exact hc5 q2 j2 m2 (by omega) g2 g3
    · rintro σ H3 ⟨x2, x3, x4, x5, x6, x7, ts, rfl, s3, hF3, hT3, hn3, hl3, hc3⟩
      rw [List.length_map, hlr, List.take_length] at hl3
      refine ⟨.ref F0, rfl, q H3 F0 ts s3 nF hF3 hT3 (fun t ht => (hn3 t ht).2) (by omega) fun q2 j2 m2 g1 g2 => ?_⟩
      obtain ⟨row, b1, b2⟩ := id g2
      exact hc3 q2 j2 m2 (by rw [List.length_map, hlr]; exact (List.getElem?_eq_some_iff.mp b1).1) g1 g2
end

end Sv

namespace Sv
open PySem PySem.Spec PyProof.Rows L2
theorem Dn.stepM {rows : List (List Int)} {high cs c1 : List Nat} (h : Dn rows high c1) (hle : LeL c1 cs) {m : Int} {p k p' k' c d : Nat} (hm : 0 < m) (h1 : hap rows m = some (p, k)) (h2 : hap rows (0 - m) = some (p', k')) (h3 : cs[p]? = some c) (h6 : c ≤ k) (h4 : c1[p']? = some d) (hp : p < c1.length) : Dn rows high (c1.set p' (min d k')) := by
  refine ⟨by rw [List.length_set]; exact h.len, fun i x y g1 g2 => ?_, fun L l1 l2 l3 i x y g1 g2 => ?_⟩
  · rw [List.getElem?_set] at g1
    split at g1
    · rename_i e
      subst e
      split at g1
      · obtain rfl := Option.some.inj g1
        have := h.le _ _ _ h4 g2
        omega
      · cases g1
    · exact h.le _ _ _ g1 g2
  · have hl := h.top L l1 l2 l3
    rw [List.getElem?_set] at g2
    split at g2
    · rename_i e
      subst e
      split at g2
      · obtain rfl := Option.some.inj g2
        have hpl : p < L.length := by rw [l1, ← h.len]; exact hp
        have e1 := List.getElem?_eq_getElem hpl
        have e2 := List.getElem?_eq_getElem hp
        have h7 := hl _ _ _ e1 e2
        have h8 := hle _ _ _ e2 h3
        have h9 := hl _ _ _ g1 h4
        rcases Nat.lt_or_ge k' x with z | z
        · have := l3 m p k p' k' _ x hm h1 h2 e1 g1 z
          omega
        · omega
      · cases g2
    · exact hl _ _ _ g1 g2
theorem LeL.set {a b : List Nat} (h : LeL a b) {p d k : Nat} (hd : a[p]? = some d) (hk : k ≤ d) : LeL (a.set p k) b := fun i x y g1 g2 => by
  rw [List.getElem?_set] at g1
  split at g1
  · rename_i e
    subst e
    split at g1
    · obtain rfl := Option.some.inj g1
      have := h _ _ _ hd g2
      omega
    · cases g1
  · exact h _ _ _ g1 g2
theorem Dn.ok {rows : List (List Int)} {fs : List Int} {cs : List Nat} (h : Dn rows (tops rows fs) cs) (i c : Nat) (row : List Int) (h1 : cs[i]? = some c) (h2 : rows[i]? = some row) : c ≤ row.count 0 + 1 := by
  have := h.le _ _ _ h1 (tops_at (fs := fs) h2)
  split at this <;> omega
abbrev sSunk : Stmt := topS 26
abbrev nSunk : List Str := ["_law_rows", "_law_lost", "_law_cut", "_law_letters_here", "_law_is_open", "_law_spots_here", "_law_sender", "_law_start", "_law_receiver", "_law_finish", "_law_message"]
theorem scSunk : FnScope nSunk ["_law_rows", "_law_lost"] (defScope sSunk) := ⟨rfl, rfl, rfl, by decide +kernel, rfl, by decide +kernel, by decide +kernel⟩
def spSunk (K : PySem.W.Frag) : Sp := fun vs H Q _ => ∃ (a b : Addr) (refs : List Addr) (rows : List (List Int)) (many most : Nat) (fs : List Int), vs = [.ref a, .ref b] ∧ SqT K H a (refs.map V.ref) ∧ Rows K H refs rows ∧ Good many most rows ∧ many ≤ 6 ∧ most ≤ 60 ∧ SqT K H b (fs.map V.int) ∧
  ∀ (H' : Hp) (t : Addr) (cs : List Nat), Same H H' → IsLow rows (tops rows fs) cs → H' t = some (.tup (natV cs)) → Q (.ref t) H'
section
variable {P : Program} {w : World} {K : PySem.W.Frag} {mg : Str → Option Value} {base : Heap}
set_option maxHeartbeats 1000000 in
theorem ok_sunk {f fT fL fP fS : Addr} {fd fdT fdL fdP fdS : FuncData} (F : Fun K "_law_sunk" "_law_sunk" sSunk f fd) (FT : Fun K "_law_tops" "_law_tops" sTops fT fdT) (bT : Binds K fdT ["_law_rows", "_law_lost"] []) (gT : mg "_law_tops" = some (.ref fT))
    (FL : Fun K "_law_letters" "_law_letters" sLetters fL fdL) (bL : Binds K fdL ["_law_rows"] []) (gL : mg "_law_letters" = some (.ref fL)) (FP : Fun K "_law_places" "_law_places" sPlaces fP fdP) (bP : Binds K fdP ["_law_rows", "_law_cut"] []) (gP : mg "_law_places" = some (.ref fP))
    (FS : Fun K "_law_spots" "_law_spots" sSpots fS fdS) (bS : Binds K fdS ["_law_row"] []) (gS : mg "_law_spots" = some (.ref fS))
    (men : mg "enumerate" = none) (mi : mg "int" = none) (ml : mg "len" = none) (mra : mg "range" = none) (mzi : mg "zip" = none) (mmi : mg "min" = none) (mtu : mg "tuple" = none) : FnOk P w K mg base CX0 3 f fd ["_law_rows", "_law_lost"] (spSunk K) := by
  have GT : FnOk P w K mg base CX0 1 fT fdT ["_law_rows", "_law_lost"] (spTops K) := ok_tops FT men mi
  have GL : FnOk P w K mg base CX0 1 fL fdL ["_law_rows"] (spLetters K) := ok_letters FL men ml mra
  have GP : FnOk P w K mg base CX0 2 fP fdP ["_law_rows", "_law_cut"] (spPlaces K) := ok_places FP FS bS gS men ml mzi
  refine F.ok scSunk (fun vs H Q E h => ?_) (fun cdv A outer s H vs Q E hr h => ?_)
  · obtain ⟨a, b, refs, rows, many, most, fs, rfl, _⟩ := h
    rfl
  · obtain ⟨a, b, refs, rows, many, most, fs, rfl, hA, hR, hG, hm6, hm60, hB, q⟩ := h
    have nd := scSunk.nd
    have hr1 : Room 1 _ := hr.mono (by decide)
    refine ⟨_, pss_cons (ps_par3 (i := 2) (j := 3) (l := 4) (by rfl) nd rfl rfl rfl (by decide) (by decide) (by decide) rfl rfl rfl (pa_cons (pe_call GT hr1 (by rfl) gT FT.kp bT .nil pass0 (pa_cons (pv 0) (pa_cons (pv 1) pa_nil))) (pa_cons (pe_call GL hr1 (by rfl) gL FL.kp bL .nil pass0 (pa_cons (pv 0) pa_nil)) (pa_cons pe_bl pa_nil))) (by rfl))
      (pss_cons (ps_while PassesOwn.never (pt_val (pv 4))
        (pss_cons (ps_par (i := 4) (j := 5) (by rfl) nd rfl rfl (by decide) rfl rfl (pa_cons pe_bl (pa_cons (pe_call GP hr (by rfl) gP FP.kp bP .nil pass0 (pa_cons (pv 0) (pa_cons (pv 2) pa_nil))) pa_nil)) (by rfl))
        (pss_one (ps_for PassesOwn.never rfl (pi_list (pv 3)) (pg_unl rfl (pgs_cons (pg_name (i := 6) nd rfl (.inl rfl)) (pgs_cons (pg_name (i := 7) nd rfl (.inl rfl)) (pgs_cons (pg_name (i := 8) nd rfl (.inl rfl)) (pgs_cons (pg_name (i := 9) nd rfl (.inl rfl)) (pgs_cons (pg_name (i := 10) nd rfl (.inl rfl)) pgs_nil))))))
          (pss_one (ps_if (PW.pt (pw_and (pt_cmpR op_lt (pv 9) (pe_ix ix_list (pv 5) (pv 8) (fun _ _ => rfl)) (nomark _)) (pw_and1 (pt_cmpR op_ge (pv 7) (pe_ix ix_list (pv 5) (pv 6) (fun _ _ => rfl)) (nomark _)))))
            (pss_cons (ps_asg (pe_callB (call_min2 rfl) (by rfl) mmi (by decide +kernel) (pa_cons (pe_ix ix_list (pv 2) (pv 8) (fun _ _ => rfl)) (pa_cons (pe_tm PySem.F.slot_tuple_count PySem.F.type_tuple_count (mt_tcount hr.units)
                (pe_slice sl_tupF (pe_ix ix_tup (pv 0) (pv 8) (fun _ _ => rfl)) po_none (po_some (pv 9))) (pa_cons pe_int pa_nil)) pa_nil))) (pg_sub (pv 2) (pv 8) set_list))
            (pss_one (ps_set (i := 4) nd rfl (.inl rfl) pe_bl))) pss_nil))))))
      (pss_one (ps_ret (pe_callTy call_tuple_of (by rfl) mtu (by decide +kernel) (pa_cons (pv 2) pa_nil))))), ?_⟩
    have h60 : ∀ r ∈ rows, r.length ≤ 60 := fun r hr => by
      obtain ⟨i, hi⟩ := List.getElem?_of_mem hr
      have := (hG.row hi).1
      omega
    have hlen := hG.len
    have hlr : refs.length = rows.length := hR.1
    obtain ⟨high, hhigh⟩ : ∃ high, high = tops rows fs := ⟨_, rfl⟩
    have hhl : high.length = rows.length := by rw [hhigh]; exact tops_len _ _
    refine ⟨.ref a, rfl, .ref b, rfl, a, b, refs, rows, fs, rfl, hA, hR, by omega, hB, fun H1 l s1 nl hl1 => ?_⟩
    rw [← hhigh] at hl1
    refine ⟨.ref a, rfl, a, refs, rows, many, most, rfl, (TupK.of s1).1 _ _ hA, hR.keep (.of s1), hG, hm6, hm60, fun H2 L ts s2 nL hL2 hT2 hf2 htl hcomp => ⟨_, _, _, rfl, ?_⟩⟩
    have Ll : L ≠ l := fun z => by rw [z, hl1] at nL; cases nL
    have tl : ∀ t ∈ ts, t.1 ≠ l := fun t ht z => by have := hf2 t ht; rw [z, hl1] at this; cases this
    have s12 := s1.trans s2
    dsimp only [gName, tSeq, tAsg, tC, tPar]
    obtain ⟨W, hW⟩ : ∃ W : Nat → L2.St → Hp → Prop, W = fun m σ H' => ∃ (cs : List Nat) (b0 : Bool) (x5 x6 x7 x8 x9 x10 : Option V), σ = [some (.ref a), some (.ref b), some (.ref l), some (.ref L), some (.bl b0), x5, x6, x7, x8, x9, x10] ∧ Same H H' ∧ H' l = some (.lst (natV cs)) ∧ H' L = some (.lst (tr ts)) ∧ LTbl H' rows ts ∧ Dn rows high cs ∧ (b0 = false → ConsL rows cs) ∧ m = 2 * cs.sum + (if b0 = true then 1 else 0) := ⟨_, rfl⟩
    refine ⟨W, ⟨_, by rw [hW]; exact ⟨high, true, _, _, _, _, _, _, rfl, s12, s2 _ _ hl1, hL2, hT2, .start _ _, (fun z => nomatch z), rfl⟩⟩, fun m σ H' z => ?_⟩
    rw [hW] at z
    obtain ⟨cs, b0, x5, x6, x7, x8, x9, x10, rfl, sm, hl, hL, hT, hdn, hb, hm⟩ := z
    refine ⟨.bl b0, rfl, b0, rfl, ?_⟩
    cases b0 with
    | false =>
      refine iteF ?_
      refine ⟨.ref l, rfl, l, _, rfl, .inl ⟨SqL.of hl, fun t nt => ?_⟩⟩
      exact q _ t cs (sm.trans (Same.new nt)) (by rw [← hhigh]; exact ⟨hdn, hb rfl⟩) upd_same
    | true =>
      rw [if_pos rfl] at hm
      have hdok : ∀ (i c : Nat) (row : List Int), cs[i]? = some c → rows[i]? = some row → c ≤ row.count 0 + 1 := by
        rw [hhigh] at hdn
        exact hdn.ok
      refine iteT ⟨fun σ' H'' => ∃ m', m' < m ∧ W m' σ' H'', fun _ _ z => z, ?_⟩
      refine ⟨.ref a, rfl, .ref l, rfl, a, l, refs, rows, cs, rfl, (TupK.of sm).1 _ _ hA, hR.keep (.of sm), by omega, (fun r hr => by have := h60 r hr; omega), SqL.of hl, hdn.len.trans hhl, hdok, fun H3 S ps s3 nS hS3 hps => ⟨_, _, rfl, ?_⟩⟩
      have hl3 := s3 _ _ hl
      have hL3 := s3 _ _ hL
      have hT3 := hT.same s3
      have Sl : S ≠ l := fun z => by rw [z, hl] at nS; cases nS
      have s03 := sm.trans s3
      refine ⟨.ref L, rfl, L, rfl, ⟨_, SqL.of hL3⟩, ?_⟩
      refine for_list (K := K) (a := L) (xs := tr ts) (fun j σ H'' => ∃ (c1 : List Nat) (b1 : Bool) (x6 x7 x8 x9 x10 : Option V), σ = [some (.ref a), some (.ref b), some (.ref l), some (.ref L), some (.bl b1), some (.ref S), x6, x7, x8, x9, x10] ∧ Same H H'' ∧ H'' l = some (.lst (natV c1)) ∧ H'' L = some (.lst (tr ts)) ∧ H'' S = some (.lst (ps.map V.int)) ∧ LTbl H'' rows ts ∧ Dn rows high c1 ∧ LeL c1 cs ∧
          ((b1 = true ∧ c1.sum < cs.sum) ∨ (b1 = false ∧ c1 = cs ∧ ∀ (i : Nat) (t : Te), i < j → ts[i]? = some t → ∀ (p k p' k' c c' : Nat), hap rows t.2.m = some (p, k) → hap rows (0 - t.2.m) = some (p', k') → cs[p]? = some c → cs[p']? = some c' → k' < c' → k < c)))
        ⟨cs, false, _, _, _, _, _, rfl, s03, hl3, hL3, hS3, hT3, hdn, .refl _, .inr ⟨rfl, rfl, fun i t z => absurd z (Nat.not_lt_zero _)⟩⟩ (fun j σ H'' _ z => by
          obtain ⟨c1, b1, x6, x7, x8, x9, x10, rfl, s4, _, z4, _⟩ := z
          exact SqL.of z4) ?_ ?_
      · rintro j v σ H4 hv ⟨c1, b1, x6, x7, x8, x9, x10, rfl, s4, hl4, hL4, hS4, hT4, hd4, hle4, hor⟩
        obtain ⟨t, ht, rfl⟩ := of_at_map hv
        have htm := List.mem_of_getElem? ht
        have hms := hT4.ok t htm
        have hm0 := hms.pos
        obtain ⟨r1, a1, a2, a3⟩ := hms.hap1 hG
        obtain ⟨r2, b1', b2, b3⟩ := hms.hap2 hG
        have hp : t.2.p < rows.length := (List.getElem?_eq_some_iff.mp a1).1
        have hq : t.2.q < rows.length := (List.getElem?_eq_some_iff.mp b1').1
        have hcl := hdn.len.trans hhl
        obtain ⟨c, hc⟩ : ∃ c, cs[t.2.p]? = some c := ⟨_, List.getElem?_eq_getElem (by omega)⟩
        obtain ⟨c', hc'⟩ : ∃ c', cs[t.2.q]? = some c' := ⟨_, List.getElem?_eq_getElem (by omega)⟩
        obtain ⟨d, hd'⟩ : ∃ d, c1[t.2.q]? = some d := ⟨_, List.getElem?_eq_getElem (by rw [hd4.len]; omega)⟩
        obtain ⟨x, hx⟩ : ∃ x, (places r1)[c]? = some x := ⟨_, List.getElem?_eq_getElem (by rw [places_len]; have := hdok _ _ _ hc a1; omega)⟩
        obtain ⟨y, hy⟩ : ∃ y, (places r2)[c']? = some y := ⟨_, List.getElem?_eq_getElem (by rw [places_len]; have := hdok _ _ _ hc' b1'; omega)⟩
        have px := hps _ _ _ _ a1 hc hx
        have py := hps _ _ _ _ b1' hc' hy
        have ex := bef_place a2 (by omega) hx
        have ey := bef_place b2 (by omega) hy
        obtain ⟨a2r, ha2r⟩ : ∃ ar, refs[t.2.q]? = some ar := ⟨_, List.getElem?_eq_getElem (by omega)⟩
        have hTr := (hR.2 t.2.q a2r r2 ha2r b1').same s4
        refine ⟨t.1, _, rfl, SqL.of (hT4.sq t htm), rfl, _, _, rfl, _, _, rfl, _, _, rfl, _, _, rfl, _, _, rfl, rfl, ?_⟩
        obtain ⟨k, hk⟩ : ∃ k, k = (r1.take t.2.i).count 0 := ⟨_, rfl⟩
        obtain ⟨k', hk'⟩ : ∃ k', k' = (r2.take t.2.j).count 0 := ⟨_, rfl⟩
        rw [← hk] at a3 ex
        rw [← hk'] at b3 ey
        have skip : ¬ (k' < c' ∧ c ≤ k) → ((b1 = true ∧ c1.sum < cs.sum) ∨ (b1 = false ∧ c1 = cs ∧ ∀ (i : Nat) (t : Te), i < j + 1 → ts[i]? = some t → ∀ (p k p' k' c c' : Nat), hap rows t.2.m = some (p, k) → hap rows (0 - t.2.m) = some (p', k') → cs[p]? = some c → cs[p']? = some c' → k' < c' → k < c)) := fun hno => by
          rcases hor with z | ⟨z1, rfl, z3⟩
          · exact .inl z
          · refine .inr ⟨z1, rfl, fun i2 t2 hi ht2 q1 w1 q2 w2 d1 d2 u1 u2 u3 u4 u5 => ?_⟩
            by_cases e : i2 = j
            · subst e
              obtain rfl := Option.some.inj (ht.symm.trans ht2)
              rw [a3] at u1
              rw [b3] at u2
              cases u1
              cases u2
              obtain rfl := Option.some.inj (hc.symm.trans u3)
              obtain rfl := Option.some.inj (hc'.symm.trans u4)
              rcases Nat.lt_or_ge k c with g | g
              · exact g
              · exact absurd ⟨u5, g⟩ hno
            · exact z3 i2 t2 (by omega) ht2 q1 w1 q2 w2 d1 d2 u1 u2 u3 u4 u5
        refine ⟨.int t.2.j, rfl, .ref S, rfl, .int t.2.q, rfl, S, _, t.2.q, .int y, rfl, rfl, SqL.of hS4, atI_nat (at_map py), _, _, rfl, rfl, _, rfl, iteB (fun g1 => ?_) (fun g1 => ?_)⟩
        · have g1' : k' < c' := of_decide_eq_true (ey ▸ g1)
          refine ⟨.int t.2.i, rfl, .ref S, rfl, .int t.2.p, rfl, S, _, t.2.p, .int x, rfl, rfl, SqL.of hS4, atI_nat (at_map px), _, _, rfl, rfl, _, rfl, iteB (fun g2 => ?_) (fun g2 => ?_)⟩
          · have g2' : c ≤ k := by
              have h1 : x ≤ (t.2.i : Int) := of_decide_eq_true g2
              have h2 : decide (k < c) = false := by rw [← ex]; exact decide_eq_false (by omega)
              have := of_decide_eq_false h2
              omega
            have hj2 : t.2.j < r2.length := (List.getElem?_eq_some_iff.mp b2).1
            refine ⟨.ref l, rfl, .int t.2.q, rfl, l, _, t.2.q, .int d, rfl, rfl, SqL.of hl4, atI_nat (at_map hd'), .ref a, rfl, .int t.2.q, rfl, a, _, t.2.q, .ref a2r, rfl, rfl, (TupK.of s4).1 _ _ hA, atI_nat (at_map ha2r), .int t.2.j, rfl, t.2.j, rfl, a2r, _, rfl, hTr.sqT, ?_, fun pp oo np dn => ?_⟩
            · rw [HT.sIx_none, HT.sIx_nat, List.length_map]
              intro z
              omega
            rw [cut_to (by rw [List.length_map]; exact Nat.le_of_lt hj2), ← List.map_take]
            have s5 : Same H4 (upd H4 pp (.frz oo (.tup ((r2.take t.2.j).map V.int)))) := Same.new np
            have hN := TupN.new (H := H4) (p := pp) (xs := (r2.take t.2.j).map V.int) dn
            have hl5 := s5 _ _ hl4
            have hL5 := s5 _ _ hL4
            have hS5 := s5 _ _ hS4
            have hT5 := hT4.same s5
            generalize upd H4 pp (.frz oo (.tup ((r2.take t.2.j).map V.int))) = H5 at s5 hN hl5 hL5 hS5 hT5 ⊢
            refine ⟨⟨pp, _, rfl, hN⟩, pp, r2.take t.2.j, 0, rfl, rfl, hN.sqT, _, _, rfl, .ref l, rfl, .int t.2.q, rfl, l, _, t.2.q, t.2.q, rfl, rfl, hl5, ixn (by rw [natV, List.length_map, hd4.len]; omega), ?_⟩
            rw [← hk']
            have em : (if ((k' : Nat) : Int) < ((d : Nat) : Int) then ((k' : Nat) : Int) else ((d : Nat) : Int)) = ((min d k' : Nat) : Int) := by
              split <;> omega
            rw [em]
            have e : (natV c1).set t.2.q (V.int ((min d k' : Nat) : Int)) = natV (c1.set t.2.q (min d k')) := by rw [natV, natV, List.map_set]
            rw [e]
            have hs := sum_set (k := min d k') hd'
            refine ⟨c1.set t.2.q (min d k'), true, _, _, _, _, _, rfl, Same.put nl (s4.trans s5), upd_same, by rw [upd_ne Ll]; exact hL5, by rw [upd_ne Sl]; exact hS5, hT5.put tl, hd4.stepM hle4 hm0 a3 b3 hc g2' hd' (by rw [hd4.len]; omega), hle4.set hd' (Nat.min_le_left _ _), .inl ⟨rfl, ?_⟩⟩
            rcases hor with ⟨_, z⟩ | ⟨_, rfl, _⟩
            · omega
            · obtain rfl := Option.some.inj (hc'.symm.trans hd')
              omega
          · refine ⟨c1, b1, _, _, _, _, _, rfl, s4, hl4, hL4, hS4, hT4, hd4, hle4, skip fun z => ?_⟩
            have h1 : ¬ x ≤ (t.2.i : Int) := of_decide_eq_false g2
            have h2 : decide (k < c) = true := by rw [← ex]; exact decide_eq_true (by omega)
            have := of_decide_eq_true h2
            omega
        · refine ⟨c1, b1, _, _, _, _, _, rfl, s4, hl4, hL4, hS4, hT4, hd4, hle4, skip fun z => ?_⟩
          have := of_decide_eq_false (ey ▸ g1)
          omega
      · rintro σ H4 ⟨c1, b1, x6, x7, x8, x9, x10, rfl, s4, hl4, hL4, hS4, hT4, hd4, hle4, hor⟩
        rw [hW]
        rcases hor with ⟨rfl, z⟩ | ⟨rfl, rfl, z3⟩
        · exact ⟨2 * c1.sum + 1, by omega, c1, true, _, _, _, _, _, _, rfl, s4, hl4, hL4, hT4, hd4, (fun z => nomatch z), rfl⟩
        · refine ⟨2 * c1.sum, by omega, c1, false, _, _, _, _, _, _, rfl, s4, hl4, hL4, hT4, hd4, fun _ m p k p' k' c c' hm0 u1 u2 u3 u4 u5 => ?_, rfl⟩
          rcases spot_hap (e := 0 - m) (rs := rows) (p := 0) with ⟨_, z⟩ | ⟨p2, row, z1, z2, _⟩
          · unfold hap at u2
            rw [z] at u2
            cases u2
          · obtain ⟨j2, hj2⟩ := List.getElem?_of_mem z2
            obtain ⟨t, ht, e3⟩ := hcomp p2 j2 m hm0 ⟨row, z1, hj2⟩
            obtain ⟨i, hi⟩ := List.getElem?_of_mem ht
            rw [← e3] at u1 u2
            exact z3 i t (by rw [tr, List.length_map]; exact (List.getElem?_eq_some_iff.mp hi).1) hi p k p' k' c c' u1 u2 u3 u4 u5
end

end Sv

namespace Sv
open PySem PySem.Spec PyProof.Rows L2
/-! ### _law_same -/
abbrev sSame : Stmt := topS 28
theorem scSame : FnScope ["_law_found", "_law_due"] ["_law_found", "_law_due"] (defScope sSame) := ⟨rfl, rfl, rfl, by decide +kernel, rfl, by decide +kernel, by decide +kernel⟩
def spSame (K : PySem.W.Frag) : Sp := fun vs H Q _ => ∃ (x y : V) (d : PyData), vs = [x, y] ∧ Shown K H x d ∧ Shown K H y d ∧ Q (.bl true) H
section
variable {P : Program} {w : World} {K : PySem.W.Frag} {mg : Str → Option Value} {base : Heap}
theorem ok_same {f : Addr} {fd : FuncData} (F : Fun K "_law_same" "_law_same" sSame f fd) (mre : mg "repr" = none) : FnG P w K mg base 1 f fd ["_law_found", "_law_due"] (spSame K) := by
  refine okG F scSame (fun vs H Q E h => ?_) (fun cdv A outer s H vs Q E hg hr h => ?_)
  · obtain ⟨x, y, d, rfl, _⟩ := h
    rfl
  · obtain ⟨x, y, d, rfl, h1, h2, q⟩ := h
    refine ⟨_, pss_one (ps_ret (pe_cmpR op_eq (pe_callB (call_repr hg hr.units) (by rfl) mre (by decide +kernel) (pa_cons (pv 0) pa_nil)) (pe_callB (call_repr hg hr.units) (by rfl) mre (by decide +kernel) (pa_cons (pv 1) pa_nil)) (nomark _))), ?_⟩
    refine ⟨_, rfl, _, d, rfl, h1, _, rfl, _, d, rfl, h2, rfl, ?_⟩
    rw [decide_eq_true rfl]
    exact q
end

end Sv

namespace Sv
open PySem PySem.Spec PyProof.Rows L2
/-! ### all states -/
theorem TupK.putE {K : PySem.W.Frag} {H : Hp} {D : Addr} {P : Program} {w : World} {L : List (Addr × List Int)} {o : HO} (h : H D = some (SetTO P w D L)) : TupK K H (upd H D o) := by
  have ne : ∀ {a : Addr} {ob : HO}, H a = some ob → (∀ φ, ob ≠ .ext φ) → a ≠ D := fun {a ob} e n z => by
    rw [z, h] at e
    exact n _ (Option.some.inj e).symm
  refine ⟨fun a ys q => ?_, fun a ys q => ?_⟩
  · rcases q with (q | ⟨o, q⟩) | q
    · exact .inl (.inl (by rw [upd_ne (ne q (fun _ z => by cases z))]; exact q))
    · exact .inl (.inr ⟨o, by rw [upd_ne (ne q (fun _ z => by cases z))]; exact q⟩)
    · exact .inr q
  · obtain ⟨o, q, d⟩ := q
    exact ⟨o, by rw [upd_ne (ne q (fun _ z => by cases z))]; exact q, d⟩
def rowU (p j : Nat) : List (Int × Int) := (List.range j).map fun (n : Nat) => ((p : Int), (n : Int))
def allU (rows : List (List Int)) (i : Nat) : List (Int × Int) := (List.range i).flatMap fun p => rowU p (((prs rows)[p]?).getD 0 + 1)
theorem rowU_succ (p j : Nat) : rowU p (j + 1) = rowU p j ++ [((p : Int), (j : Int))] := by
  unfold rowU
  rw [List.range_succ, List.map_append]
  rfl
theorem rowU_len (p j : Nat) : (rowU p j).length = j := by
  unfold rowU
  rw [List.length_map, List.length_range]
theorem allU_succ (rows : List (List Int)) (i : Nat) : allU rows (i + 1) = allU rows i ++ rowU i (((prs rows)[i]?).getD 0 + 1) := by
  unfold allU
  rw [List.range_succ, List.flatMap_append]
  simp
theorem prsA {rows : List (List Int)} {p : Nat} {row : List Int} (h : rows[p]? = some row) : (prs rows)[p]? = some (row.count 0 + 1) := by
  unfold prs
  rw [List.getElem?_map, h]
  rfl
theorem prs_le {rows : List (List Int)} (h60 : ∀ r ∈ rows, r.length ≤ 60) (p : Nat) : ((prs rows)[p]?).getD 0 ≤ 61 := by
  by_cases h : p < rows.length
  · have hr := List.getElem?_eq_getElem h
    rw [prsA hr]
    have h1 := h60 _ (List.getElem_mem h)
    have h2 := count_le_len rows[p]
    show rows[p].count 0 + 1 ≤ 61
    omega
  · rw [List.getElem?_eq_none (by unfold prs; rw [List.length_map]; omega)]
    exact Nat.zero_le _
theorem allU_len {rows : List (List Int)} (h60 : ∀ r ∈ rows, r.length ≤ 60) : ∀ i, (allU rows i).length ≤ 62 * i
  | 0 => Nat.zero_le _
  | i + 1 => by
    have h1 := allU_len h60 i
    have h2 := prs_le h60 i
    rw [allU_succ, List.length_append, rowU_len]
    omega
abbrev sAll : Stmt := topS 2
abbrev sNeeded : Stmt := topS 11
abbrev sDelet : Stmt := topS 12
abbrev nAll : List Str := ["history", "process", "present", "number"]
abbrev nNeeded : List Str := ["history", "presents", "failed", "process", "number"]
abbrev nDelet : List Str := ["history", "presents", "needed", "state"]
theorem scAll : FnScope nAll ["history"] (defScope sAll) := ⟨rfl, rfl, rfl, by decide +kernel, rfl, by decide +kernel, by decide +kernel⟩
theorem scNeeded : FnScope nNeeded ["history"] (defScope sNeeded) := ⟨rfl, rfl, rfl, by decide +kernel, rfl, by decide +kernel, by decide +kernel⟩
theorem scDelet : FnScope nDelet ["history"] (defScope sDelet) := ⟨rfl, rfl, rfl, by decide +kernel, rfl, by decide +kernel, by decide +kernel⟩
def spAll (K : PySem.W.Frag) : Sp := fun vs H Q _ => ∃ (a : Addr) (refs : List Addr) (rows : List (List Int)), vs = [.ref a] ∧ SqT K H a (refs.map V.ref) ∧ Rows K H refs rows ∧ rows.length ≤ 6 ∧ (∀ r ∈ rows, r.length ≤ 60) ∧
  ∀ (H' : Hp) (l : Addr) (qs : List Addr), Same H H' → H l = none → H' l = some (.lst (qs.map V.ref)) → Opens K H' qs (allU rows rows.length) → Q (.ref l) H'
/-- a state that is needed when f fails -/
def NeedAt (rows : List (List Int)) (f p n : Nat) : Prop := ∃ cs : List Nat, IsLow rows (tops rows [(f : Int)]) cs ∧ cs[p]? = some n ∧ n < ((prs rows)[p]?).getD 0
def NeedL (rows : List (List Int)) (us : List (Int × Int)) : Prop := us.length < 64 ∧ us.Pairwise (fun a b => pc a < pc b) ∧ ∀ x, x ∈ us ↔ ∃ f p n : Nat, f < rows.length ∧ NeedAt rows f p n ∧ x = ((p : Int), (n : Int))
theorem NeedL.unique {rows : List (List Int)} {us vs : List (Int × Int)} (h : NeedL rows us) (g : NeedL rows vs) : us = vs := rise_eq pc us vs h.2.1 g.2.1 fun x => (h.2.2 x).trans (g.2.2 x).symm
theorem NeedAt.lt {rows : List (List Int)} {f p n : Nat} (h : NeedAt rows f p n) : p < rows.length := by
  obtain ⟨cs, h1, h2, _⟩ := h
  have := (List.getElem?_eq_some_iff.mp h2).1
  rw [h1.len, tops_len] at this
  exact this
def spNeeded (K : PySem.W.Frag) : Sp := fun vs H Q _ => ∃ (a : Addr) (refs : List Addr) (rows : List (List Int)) (many most : Nat), vs = [.ref a] ∧ SqT K H a (refs.map V.ref) ∧ Rows K H refs rows ∧ Good many most rows ∧ many ≤ 6 ∧ most ≤ 60 ∧
  ∀ (H' : Hp) (t : Addr) (us : List (Int × Int)) (qs : List Addr), Same H H' → NeedL rows us → H' t = some (.tup (qs.map V.ref)) → Opens K H' qs us → Q (.ref t) H'
def spDelet (K : PySem.W.Frag) : Sp := fun vs H Q _ => ∃ (a : Addr) (refs : List Addr) (rows : List (List Int)) (many most : Nat), vs = [.ref a] ∧ SqT K H a (refs.map V.ref) ∧ Rows K H refs rows ∧ Good many most rows ∧ many ≤ 6 ∧ most ≤ 60 ∧
  ∀ (H' : Hp) (t : Addr) (us : List (Int × Int)) (qs : List Addr), Same H H' → NeedL rows us → H' t = some (.tup (qs.map V.ref)) → Opens K H' qs ((allU rows rows.length).filter fun x => decide (x.2 < ((((prs rows)[x.1.toNat]?).getD 0 : Nat) : Int)) && decide (x ∉ us)) → Q (.ref t) H'
/-- the members of the set that is being made -/
def SetOk (K : PySem.W.Frag) (H : Hp) (L : List (Addr × List Int)) (S : Int × Int → Prop) : Prop := (∀ q ∈ L, SqT K H q.1 (q.2.map V.int)) ∧ ∀ ns, ns ∈ L.map (·.2) ↔ ∃ x, S x ∧ ns = pk x
theorem SetOk.keep {K : PySem.W.Frag} {H H' : Hp} {L : List (Addr × List Int)} {S : Int × Int → Prop} (h : SetOk K H L S) (e : TupK K H H') : SetOk K H' L S := ⟨fun q hq => e.1 _ _ (h.1 q hq), h.2⟩
theorem SetOk.mono {K : PySem.W.Frag} {H : Hp} {L : List (Addr × List Int)} {S S' : Int × Int → Prop} (h : SetOk K H L S) (e : ∀ x, S x ↔ S' x) : SetOk K H L S' := ⟨h.1, fun ns => by
  rw [h.2]
  exact ⟨fun ⟨x, z1, z2⟩ => ⟨x, (e x).mp z1, z2⟩, fun ⟨x, z1, z2⟩ => ⟨x, (e x).mpr z1, z2⟩⟩⟩
theorem SetOk.add {K : PySem.W.Frag} {H : Hp} {L L' : List (Addr × List Int)} {S : Int × Int → Prop} (h : SetOk K H L S) {a : Addr} {x : Int × Int} (ha : SqT K H a ((pk x).map V.int)) (c1 : pk x ∈ L.map (·.2) → L' = L) (c2 : pk x ∉ L.map (·.2) → L'.Perm ((a, pk x) :: L)) :
    SetOk K H L' (fun y => S y ∨ y = x) ∧ L'.length ≤ L.length + 1 := by
  by_cases hm : pk x ∈ L.map (·.2)
  · obtain rfl := c1 hm
    refine ⟨⟨h.1, fun ns => ?_⟩, Nat.le_succ _⟩
    rw [h.2]
    constructor
    · rintro ⟨y, z1, z2⟩
      exact ⟨y, .inl z1, z2⟩
    · rintro ⟨y, z1, z2⟩
      rcases z1 with z1 | rfl
      · exact ⟨y, z1, z2⟩
      · rw [z2]
        exact (h.2 _).mp hm
  · have pm := c2 hm
    refine ⟨⟨fun q hq => ?_, fun ns => ?_⟩, by rw [pm.length_eq]; exact Nat.le_refl _⟩
    · rcases List.mem_cons.mp (pm.mem_iff.mp hq) with rfl | z
      · exact ha
      · exact h.1 q z
    · rw [(pm.map (·.2)).mem_iff, List.map_cons, List.mem_cons, h.2]
      constructor
      · rintro (rfl | ⟨y, z1, z2⟩)
        · exact ⟨x, .inr rfl, rfl⟩
        · exact ⟨y, .inl z1, z2⟩
      · rintro ⟨y, z1 | rfl, z2⟩
        · exact .inr ⟨y, z1, z2⟩
        · exact .inl z2
/-- sorted(the set) -/
theorem need_sorted {K : PySem.W.Frag} {H : Hp} {rows : List (List Int)} {L L' : List (Addr × List Int)} (h60 : ∀ r ∈ rows, r.length ≤ 60) (h : SetOk K H L (fun x => ∃ f p n : Nat, f < rows.length ∧ NeedAt rows f p n ∧ x = ((p : Int), (n : Int))))
    (pm : L'.Perm L) (nd : (L'.map (·.2)).Nodup) (few : L'.length < 64) (pw : L'.Pairwise (fun q r => TS.code 64 q.2 ≤ TS.code 64 r.2)) : ∃ us, NeedL rows us ∧ Opens K H (L'.map (·.1)) us := by
  obtain ⟨us, e, r⟩ := rise_of nd pw fun q hq => by
    obtain ⟨x, ⟨f, p, n, _, hn, rfl⟩, hx⟩ := (h.2 q.2).mp (List.mem_map_of_mem (pm.mem_iff.mp hq))
    obtain ⟨cs, _, _, h3⟩ := hn
    have := prs_le h60 p
    exact ⟨_, hx, Int.natCast_nonneg _, by show (n : Int) < 64; omega⟩
  have el : us.length = L'.length := by
    have := congrArg List.length e
    rw [List.length_map, List.length_map] at this
    exact this.symm
  refine ⟨us, ⟨by omega, r, fun x => ?_⟩, by rw [List.length_map]; exact el.symm, fun i a p h1 h2 => ?_⟩
  · have e1 : x ∈ us ↔ pk x ∈ L'.map (·.2) := by
      rw [e, List.mem_map]
      exact ⟨fun z => ⟨x, z, rfl⟩, fun ⟨y, z1, z2⟩ => pk_inj z2 ▸ z1⟩
    rw [e1, (pm.map (·.2)).mem_iff, h.2]
    exact ⟨fun ⟨y, z1, z2⟩ => pk_inj z2 ▸ z1, fun z => ⟨x, z, rfl⟩⟩
  · obtain ⟨q, hq, rfl⟩ := of_at_map h1
    have h3 : (L'.map (·.2))[i]? = some q.2 := at_map hq
    rw [e, List.getElem?_map, h2] at h3
    have h4 := Option.some.inj h3
    have h5 := h.1 q (pm.mem_iff.mp (List.mem_of_getElem? hq))
    rw [← h4] at h5
    exact h5
section
variable {P : Program} {w : World} {K : PySem.W.Frag} {mg : Str → Option Value} {base : Heap}
theorem ok_all {f fN : Addr} {fd fdN : FuncData} (F : Fun K "all_states" "all_states" sAll f fd) (FN : Fun K "state_numbers" "state_numbers" sNums fN fdN) (bN : Binds K fdN ["history"] []) (gN' : mg "state_numbers" = some (.ref fN)) (men : mg "enumerate" = none) (mra : mg "range" = none) (mtu : mg "tuple" = none) :
    FnOk P w K mg base CX0 2 f fd ["history"] (spAll K) := by
  have GN : FnOk P w K mg base CX0 1 fN fdN ["history"] (spNums K) := ok_nums FN mtu
  refine F.ok scAll (fun vs H Q E h => ?_) (fun cdv A outer s H vs Q E hr h => ?_)
  · obtain ⟨a, refs, rows, rfl, _⟩ := h
    rfl
  · obtain ⟨a, refs, rows, rfl, hA, hR, h6, h60, q⟩ := h
    have nd := scAll.nd
    refine ⟨_, pss_one (ps_ret (pe_lc2 (own := [("process", 1), ("present", 2), ("number", 3)]) (vs1 := [3]) (g := gTup K 2 (gCons (gName 1) (gCons (gName 2) gNil))) (g1 := gName 3) (wi1 := iRng1 (tCons (tOp (rI0 fun i j => .int (i + j)) (tVar 2) (tC (.int 1))) tNil)) (by rfl) nd (pi_enumT (by rfl) men (pa_cons (pe_call GN hr (by rfl) gN' FN.kp bN .nil pass0 (pa_cons (pv 0) pa_nil)) pa_nil))
        (blkOk_by (own := [("process", 1), ("present", 2), ("number", 3)]) (N := nAll) (sc := defScope sAll) (by decide +kernel)) (by decide)
        (fun _ _ _ _ _ => pg_tup rfl (pgs_cons (pg_name (i := 1) nd rfl (Or.inl rfl)) (pgs_cons (pg_name (i := 2) nd rfl (Or.inl rfl)) pgs_nil)))
        (fun _ _ _ _ _ => pts_nil) (fun _ _ _ _ _ => pi_range1 (by rfl) mra (pa_cons (pe_op op_add (pv 2) pe_int) pa_nil)) (fun _ _ _ _ _ => pg_name (i := 3) nd rfl (Or.inl rfl)) (fun _ _ _ _ _ => pts_nil)
        (fun _ _ _ _ _ => pe_tup (pa_cons (pv 1) (pa_cons (pv 3) pa_nil))))), ?_⟩
    refine ⟨.ref a, rfl, a, refs, rows, rfl, hA, hR, by omega, fun H1 t s1 ht => ⟨t, _, rfl, .inl (.inl ht), fun D nD => ?_⟩⟩
    refine w_it (walk_etup (K := K) (a := t) (xs := natV (prs rows))) (fun i H' => Same H1 H' ∧ ∃ qs : List Addr, H' D = some (.lst (qs.map V.ref)) ∧ Opens K H' qs (allU rows i)) ⟨Same.new nD, [], upd_same, rfl, fun _ _ _ z => by simp at z⟩ (fun i H' _ z => .inl (.inl (z.1 _ _ ht))) (fun i x H2 H3 hi z y => ?_) (fun H' z => ?_)
    · obtain ⟨T, x0, y0, rfl, nT, rfl, hx0, hy0⟩ := y
      obtain rfl := Option.some.inj hx0
      obtain ⟨pz, hpz, rfl⟩ := of_at_map hy0
      obtain ⟨row, hrow, rfl⟩ := of_at_map hpz
      obtain ⟨sm, qs, hD, hop⟩ := z
      have hir : i < rows.length := (List.getElem?_eq_some_iff.mp hrow).1
      have h60r := h60 _ (List.mem_of_getElem? hrow)
      have hcr := count_le_len row
      have sT : Same H2 (upd H2 T (.tup [.int (i : Nat), .int ((row.count 0 + 1 : Nat) : Int)])) := Same.new nT
      refine ⟨T, _, rfl, .inl (.inl upd_same), rfl, _, _, rfl, _, _, rfl, rfl, rfl, yesT ?_⟩
      have hD3 := sT _ _ hD
      have hop3 := hop.keep (K := K) (.of sT)
      have s3 := sm.trans sT
      generalize upd H2 T (.tup [.int (i : Nat), .int ((row.count 0 + 1 : Nat) : Int)]) = H3 at s3 hD3 hop3 ⊢
      refine ⟨.int ((row.count 0 + 1 : Nat) : Int), rfl, _, _, rfl, rfl, _, rfl, by omega, by omega, ?_⟩
      have e2 : (((row.count 0 + 1 : Nat) : Int) + 1).toNat = row.count 0 + 1 + 1 := by omega
      rw [e2]
      refine w_it (walk_range (lo := 0) (n := row.count 0 + 1 + 1)) (fun j H' => Same H1 H' ∧ ∃ qs : List Addr, H' D = some (.lst (qs.map V.ref)) ∧ Opens K H' qs (allU rows i ++ rowU i j)) ⟨s3, qs, hD3, by rw [show rowU i 0 = [] from rfl, List.append_nil]; exact hop3⟩ (fun _ _ _ _ => trivial) (fun j x H4 H5 hj z y => ?_) (fun H4 z => ?_)
      · obtain ⟨rfl, hx⟩ := y
        obtain rfl : x = .int (j : Nat) := hx.trans (congrArg V.int (Int.zero_add _))
        obtain ⟨sm, qs, hD, hop⟩ := z
        refine ⟨rfl, yesT ⟨_, rfl, _, rfl, sz (by show 2 ≤ 1000; decide), fun T2 nT2 => ?_⟩⟩
        have s5 : Same H5 (upd H5 T2 (.tup [.int (i : Nat), .int (j : Nat)])) := Same.new nT2
        have hD5 := s5 _ _ hD
        have hop5 := hop.keep (K := K) (.of s5)
        have hT2 : (upd H5 T2 (.tup [.int (i : Nat), .int (j : Nat)])) T2 = some (.tup [.int (i : Nat), .int (j : Nat)]) := upd_same
        have s15 := sm.trans s5
        generalize upd H5 T2 (.tup [.int (i : Nat), .int (j : Nat)]) = H6 at hD5 hop5 hT2 s15 ⊢
        have hql : qs.length = (allU rows i ++ rowU i j).length := hop.1
        have hal := allU_len h60 i
        rw [List.length_append, rowU_len] at hql
        refine ⟨_, hD5, ?_, Same.put nD s15, qs ++ [T2], ?_, ?_⟩
        · rw [List.length_map]
          exact small1000 (by omega)
        · rw [upd_same, List.map_append]
          rfl
        · have tp := TupK.put (K := K) (o := .lst (qs.map V.ref ++ [V.ref T2])) hD5
          rw [rowU_succ, ← List.append_assoc]
          exact (hop5.keep tp).snoc (p := ((i : Int), (j : Int))) (tp.1 _ _ (.inl (.inl hT2)))
      · obtain ⟨sm, qs, hD, hop⟩ := z
        refine ⟨sm, qs, hD, ?_⟩
        rw [allU_succ, prsA hrow]
        exact hop
    · obtain ⟨sm, qs, hD, hop⟩ := z
      have el : (natV (prs rows)).length = rows.length := by rw [natV, List.length_map, prs, List.length_map]
      rw [el] at hop
      exact q H' D qs (s1.trans sm) (s1.free nD) hD hop
set_option maxHeartbeats 4000000 in
theorem ok_needed {f fB fN fL fT fH fI : Addr} {fd fdB fdN fdL fdT fdH fdI : FuncData} (F : Fun K "needed_states" "needed_states" sNeeded f fd) (FB : Fun K "fall_back" "fall_back" sFall fB fdB) (bB : BStar1 fdB "history" "failed") (gB : mg "fall_back" = some (.ref fB))
    (FN : Fun K "state_numbers" "state_numbers" sNums fN fdN) (bN : Binds K fdN ["history"] []) (gN' : mg "state_numbers" = some (.ref fN))
    (FL : Fun K "lowered" "lowered" sLowered fL fdL) (bL : Binds K fdL ["trips", "high"] []) (gL : mg "lowered" = some (.ref fL))
    (FT : Fun K "trips_of" "trips_of" sTrips fT fdT) (bT : Binds K fdT ["history"] []) (gT : mg "trips_of" = some (.ref fT))
    (FH : Fun K "happened_at" "happened_at" sHap fH fdH) (bH : Binds K fdH ["history", "event"] []) (gH : mg "happened_at" = some (.ref fH)) (FI : Fun K "is_orphan" "is_orphan" sIsOrph fI fdI) (bI : Binds K fdI ["trip", "line"] []) (gI : mg "is_orphan" = some (.ref fI))
    (men : mg "enumerate" = none) (mso : mg "sorted" = none) (mtu : mg "tuple" = none) (mli : mg "list" = none) (ml : mg "len" = none) (mra : mg "range" = none) : FnOk P w K mg base CX0 4 f fd ["history"] (spNeeded K) := by
  have GB : FnR P w K mg base CX0 3 fB (spFall K) := ok_fall FB bB FN bN gN' FL bL gL FT bT gT FH bH gH FI bI gI men mso mtu mli
  have GN : FnOk P w K mg base CX0 1 fN fdN ["history"] (spNums K) := ok_nums FN mtu
  refine F.ok scNeeded (fun vs H Q E h => ?_) (fun cdv A outer s H vs Q E hr h => ?_)
  · obtain ⟨a, refs, rows, many, most, rfl, _⟩ := h
    rfl
  · obtain ⟨a, refs, rows, many, most, rfl, hA, hR, hG, hm6, hm60, q⟩ := h
    have nd := scNeeded.nd
    have hr1 : Room 1 _ := hr.mono (by decide)
    refine ⟨_, pss_cons (ps_set (i := 1) nd rfl (.inr rfl) (pe_call GN hr1 (by rfl) gN' FN.kp bN .nil pass0 (pa_cons (pv 0) pa_nil)))
      (pss_one (ps_ret (pe_callTy call_tuple_of (by rfl) mtu (by decide +kernel) (pa_cons (pe_callB (cr_sortedT rfl) (by rfl) mso (by decide +kernel) (pa_cons
        (pe_sc2 (own := [("failed", 2), ("process", 3), ("number", 4)]) (us := [3, 4]) (g := gName 2) (gj := gTup K 2 (gCons (gName 3) (gCons (gName 4) gNil))) (wj := iEnumT K (tCons (tCallN (spFall K) E0 (tCons (tVar 0) (tCons (tVar 2) tNil))) tNil)) (by rfl) hr.units nd (pi_range1 (by rfl) mra (pa_cons (pe_callB call_len_seq (by rfl) ml PySem.boot_len (pa_cons (pv 0) pa_nil)) pa_nil))
          (blkOk_by (own := [("failed", 2), ("process", 3), ("number", 4)]) (N := nNeeded) (sc := defScope sNeeded) (by decide +kernel)) (by decide)
          (fun _ _ _ _ _ => pg_name (i := 2) nd rfl (Or.inl rfl)) (fun _ _ _ _ _ => pts_nil)
          (fun _ _ _ _ _ => pi_enumT (by rfl) men (pa_cons (pe_callM GB hr FB.kp (by rfl) gB pass0 (pa_cons (pv 0) (pa_cons (pv 2) pa_nil))) pa_nil))
          (fun _ _ _ _ _ => pg_tup rfl (pgs_cons (pg_name (i := 3) nd rfl (Or.inl rfl)) (pgs_cons (pg_name (i := 4) nd rfl (Or.inl rfl)) pgs_nil)))
          (fun _ _ _ _ _ => pts_one (pt_cmpR op_lt (pv 4) (pe_ix (r := rIxT K) ix_tup (pv 1) (pv 3) (fun _ _ => rfl)) (nomark _)))
          (fun _ _ _ _ _ => pe_tup (pa_cons (pv 3) (pa_cons (pv 4) pa_nil)))) pa_nil)) pa_nil)))), ?_⟩
    have h6 := hG.len
    have hlr : refs.length = rows.length := hR.1
    have h60 : ∀ r ∈ rows, r.length ≤ 60 := fun r hr => by
      obtain ⟨i, hi⟩ := List.getElem?_of_mem hr
      have := (hG.row hi).1
      omega
    refine ⟨.ref a, rfl, a, refs, rows, rfl, hA, hR, by omega, fun H1 t s1 ht => gN ?_⟩
    dsimp only
    have hA1 := (TupK.of (K := K) s1).1 _ _ hA
    refine ⟨.ref a, rfl, a, _, rfl, .inr hA1, _, rfl, by omega, by rw [List.length_map]; omega, fun D nD => ?_⟩
    rw [List.length_map, Int.toNat_natCast]
    refine w_it (walk_range (lo := 0) (n := refs.length)) (fun i H' => Same H1 H' ∧ ∃ L : List (Addr × List Int), H' D = some (SetTO P w D L) ∧ SetOk K H' L (fun x => ∃ f p n : Nat, f < i ∧ NeedAt rows f p n ∧ x = ((p : Int), (n : Int))) ∧ L.length ≤ i * rows.length)
      ⟨Same.new nD, [], upd_same, ⟨fun q z => (nomatch z), fun ns => ⟨fun z => by simp at z, fun ⟨x, ⟨f, p, n, z, _⟩, _⟩ => absurd z (Nat.not_lt_zero _)⟩⟩, Nat.zero_le _⟩ (fun _ _ _ _ => trivial) (fun i x H2 H3 hi z y => ?_) (fun H2 z => ?_)
    · obtain ⟨rfl, hx⟩ := y
      obtain rfl : x = .int (i : Nat) := hx.trans (congrArg V.int (Int.zero_add _))
      obtain ⟨s3, L, hD3, hL3, hll⟩ := z
      refine ⟨rfl, yesT ⟨.ref a, rfl, _, rfl, a, refs, rows, many, most, [(i : Int)], rfl, (TupK.of s3).1 _ _ hA1, hR.keep (.of (s1.trans s3)), hG, hm6, hm60, by show 1 ≤ 100; decide, fun H4 u cs s4 hlow hu => ⟨u, _, rfl, .inl (.inl hu), ?_⟩⟩⟩
      have hcl : cs.length = rows.length := hlow.len.trans (tops_len _ _)
      have hD4 := s4 _ _ hD3
      have s14 := s3.trans s4
      have uD : u ≠ D := fun z => by
        rw [z, hD4] at hu
        exact nomatch (show HO.ext _ = HO.tup _ from Option.some.inj hu)
      refine w_it (walk_etup (K := K) (a := u) (xs := natV cs)) (fun j H' => Same H1 H' ∧ H' u = some (.tup (natV cs)) ∧ ∃ L : List (Addr × List Int), H' D = some (SetTO P w D L) ∧ SetOk K H' L (fun x => (∃ f p n : Nat, f < i ∧ NeedAt rows f p n ∧ x = ((p : Int), (n : Int))) ∨ ∃ p n : Nat, p < j ∧ NeedAt rows i p n ∧ x = ((p : Int), (n : Int))) ∧ L.length ≤ i * rows.length + j)
        ⟨s14, hu, L, hD4, (hL3.keep (.of s4)).mono fun x => ⟨.inl, fun z => z.elim id fun ⟨p, n, z, _⟩ => absurd z (Nat.not_lt_zero _)⟩, hll⟩ (fun j H' _ z => .inl (.inl z.2.1)) (fun j x H5 H6 hj z y => ?_) (fun H5 z => ?_)
      · obtain ⟨T, x0, y0, rfl, nT, rfl, hx0, hy0⟩ := y
        obtain rfl := Option.some.inj hx0
        obtain ⟨c, hc, rfl⟩ := of_at_map hy0
        obtain ⟨s5, hu5, L, hD5, hL5, hll⟩ := z
        have hjr : j < rows.length := by
          rw [← hcl]
          exact (List.getElem?_eq_some_iff.mp hc).1
        have hrow := List.getElem?_eq_getElem hjr
        generalize rows[j] = row at hrow
        have hpr := prsA hrow
        have sT : Same H5 (upd H5 T (.tup [.int (j : Nat), .int (c : Nat)])) := Same.new nT
        refine ⟨T, _, rfl, .inl (.inl upd_same), rfl, _, _, rfl, _, _, rfl, rfl, rfl, ?_⟩
        have s6 := s5.trans sT
        have hu6 := sT _ _ hu5
        have hD6 := sT _ _ hD5
        have hL6 := hL5.keep (K := K) (.of sT)
        have ht6 : SqT K (upd H5 T (.tup [.int (j : Nat), .int (c : Nat)])) t (natV (prs rows)) := .inl (.inl (s6 _ _ ht))
        generalize upd H5 T (.tup [.int (j : Nat), .int (c : Nat)]) = H6 at s6 hu6 hD6 hL6 ht6 ⊢
        refine ⟨.int (c : Nat), rfl, .ref t, rfl, .int (j : Nat), rfl, t, _, j, .int ((row.count 0 + 1 : Nat) : Int), rfl, rfl, ht6, atI_nat (at_map hpr), _, _, rfl, rfl, _, rfl, iteB (fun g => ?_) (fun g => ?_)⟩
        · have g1 : c < row.count 0 + 1 := by
            have : ((c : Nat) : Int) < ((row.count 0 + 1 : Nat) : Int) := of_decide_eq_true g
            omega
          have hn : NeedAt rows i j c := ⟨cs, hlow, hc, by rw [hpr]; exact g1⟩
          refine ⟨_, rfl, _, rfl, sz (by show 2 ≤ 1000; decide), fun T2 nT2 => ?_⟩
          have s7 : Same H6 (upd H6 T2 (.tup [.int (j : Nat), .int (c : Nat)])) := Same.new nT2
          have hT2 : SqT K (upd H6 T2 (.tup [.int (j : Nat), .int (c : Nat)])) T2 ((pk ((j : Int), (c : Int))).map V.int) := .inl (.inl upd_same)
          have s17 := s6.trans s7
          have hu7 := s7 _ _ hu6
          have hD7 := s7 _ _ hD6
          have hL7 := hL6.keep (K := K) (.of s7)
          generalize upd H6 T2 (.tup [.int (j : Nat), .int (c : Nat)]) = H7 at hT2 s17 hu7 hD7 hL7 ⊢
          have hmul : i * rows.length ≤ 5 * 6 := Nat.mul_le_mul (by omega) (by omega)
          refine ⟨T2, pk ((j : Int), (c : Int)), L, rfl, hT2, hD7, hL7.1, by omega, fun L' c1 c2 => ?_⟩
          obtain ⟨a1, a2⟩ := hL7.add hT2 c1 c2
          refine ⟨Same.put nD s17, by rw [upd_ne uD]; exact hu7, L', upd_same, (a1.keep (TupK.putE hD7)).mono fun x => ?_, by omega⟩
          constructor
          · rintro ((z | ⟨p, n, z1, z2, z3⟩) | rfl)
            · exact .inl z
            · exact .inr ⟨p, n, by omega, z2, z3⟩
            · exact .inr ⟨j, c, by omega, hn, rfl⟩
          · rintro (z | ⟨p, n, z1, z2, rfl⟩)
            · exact .inl (.inl z)
            · by_cases e : p = j
              · subst e
                obtain ⟨cs', l1, l2, _⟩ := z2
                obtain rfl := hlow.unique l1
                obtain rfl := Option.some.inj (hc.symm.trans l2)
                exact .inr rfl
              · exact .inl (.inr ⟨p, n, by omega, z2, rfl⟩)
        · have g1 : ¬ c < row.count 0 + 1 := by
            have : ¬ ((c : Nat) : Int) < ((row.count 0 + 1 : Nat) : Int) := of_decide_eq_false g
            omega
          refine ⟨s6, hu6, L, hD6, hL6.mono fun x => ?_, by omega⟩
          constructor
          · rintro (z | ⟨p, n, z1, z2, z3⟩)
            · exact .inl z
            · exact .inr ⟨p, n, by omega, z2, z3⟩
          · rintro (z | ⟨p, n, z1, z2, rfl⟩)
            · exact .inl z
            · by_cases e : p = j
              · subst e
                obtain ⟨cs', l1, l2, l3⟩ := z2
                obtain rfl := hlow.unique l1
                obtain rfl := Option.some.inj (hc.symm.trans l2)
                rw [hpr] at l3
                exact absurd l3 g1
              · exact .inr ⟨p, n, by omega, z2, rfl⟩
      · obtain ⟨s5, hu5, L, hD5, hL5, hll⟩ := z
        have el : (natV cs).length = rows.length := by rw [natV, List.length_map, hcl]
        rw [el] at hL5 hll
        refine ⟨s5, L, hD5, hL5.mono fun x => ?_, by rw [Nat.succ_mul]; exact hll⟩
        constructor
        · rintro (⟨f, p, n, z1, z2, z3⟩ | ⟨p, n, z1, z2, z3⟩)
          · exact ⟨f, p, n, by omega, z2, z3⟩
          · exact ⟨i, p, n, by omega, z2, z3⟩
        · rintro ⟨f, p, n, z1, z2, z3⟩
          by_cases e : f = i
          · subst e
            exact .inr ⟨p, n, z2.lt, z2, z3⟩
          · exact .inl ⟨f, p, n, by omega, z2, z3⟩
    · obtain ⟨s2, L, hD2, hL2, hll⟩ := z
      rw [hlr] at hL2
      refine ⟨D, L, 2, 64, rfl, hD2, hL2.1, by decide, fun x hx => ?_, fun L' l pm hnd few pw nl => ?_⟩
      · obtain ⟨y, ⟨f, p, n, hf, ⟨cs, l1, l2, l3⟩, rfl⟩, e⟩ := (hL2.2 x.2).mp (List.mem_map_of_mem hx)
        have l4 : p < rows.length := NeedAt.lt ⟨cs, l1, l2, l3⟩
        have l5 := prs_le h60 p
        rw [e]
        refine ⟨rfl, fun m hm => ?_⟩
        unfold pk at hm
        simp only [List.mem_cons, List.not_mem_nil, or_false] at hm
        rcases hm with rfl | rfl <;> constructor <;> omega
      · obtain ⟨us, hus, hop⟩ := need_sorted h60 hL2 pm hnd few pw
        have s3 : Same H2 (upd H2 l (.lst (L'.map fun q => V.ref q.1))) := Same.new nl
        refine ⟨l, _, rfl, .inl ⟨SqL.of upd_same, fun t' nt' => ?_⟩⟩
        have s4 : Same (upd H2 l (.lst (L'.map fun q => V.ref q.1))) (upd (upd H2 l (.lst (L'.map fun q => V.ref q.1))) t' (.tup (L'.map fun q => V.ref q.1))) := Same.new nt'
        refine q _ t' us (L'.map (·.1)) ((s1.trans s2).trans (s3.trans s4)) hus ?_ ((hop.keep (.of s3)).keep (.of s4))
        rw [upd_same, List.map_map]
        rfl
end

end Sv

namespace Sv
open PySem PySem.Spec PyProof.Rows L2
/-! ### the states that can be deleted -/
theorem pDs_shaped (us : List (Int × Int)) : SeqAt.shaped (.tuple (us.map pD)) = true := by
  have h1 := pD_lay us
  have h2 := pD_depth us
  show (PyData.canLay0 (.tuple (us.map pD)) && decide (PyData.depth (.tuple (us.map pD)) ≤ 64)) = true
  simp only [PyData.canLay0, PyData.depth, h1, Bool.true_and]
  exact decide_eq_true (by omega)
theorem pDl_shaped (us : List (Int × Int)) : SeqAt.shaped (.list (us.map pD)) = true := by
  have h1 := pD_lay us
  have h2 := pD_depth us
  show (PyData.canLay0 (.list (us.map pD)) && decide (PyData.depth (.list (us.map pD)) ≤ 64)) = true
  simp only [PyData.canLay0, PyData.depth, h1, Bool.true_and]
  exact decide_eq_true (by omega)
theorem any_us (us : List (Int × Int)) (x : Int × Int) : ((us.map pD).any fun z => PyData.eqv z (pD x)) = decide (x ∈ us) := by
  rw [List.any_map, Bool.eq_iff_iff, List.any_eq_true, decide_eq_true_eq]
  constructor
  · rintro ⟨y, hy, e⟩
    have e : PyData.eqv (pD y) (pD x) = true := e
    rw [pD_eqv] at e
    rw [← of_decide_eq_true e]
    exact hy
  · intro h
    refine ⟨x, h, ?_⟩
    show PyData.eqv (pD x) (pD x) = true
    rw [pD_eqv]
    exact decide_eq_true rfl
theorem pD_dp {K : PySem.W.Frag} {H : Hp} {r : Addr} {x : Int × Int} (h : SqT K H r [.int x.1, .int x.2]) : Dp K H (.ref r) (pD x) := .tup h (.cons (.int _) (.cons (.int _) .nil))
/-- the pairs of states that are not present and not in us, of the first i processes -/
def restU (rows : List (List Int)) (us : List (Int × Int)) (i : Nat) : List (Int × Int) := (List.range i).flatMap fun p => (rowU p (((prs rows)[p]?).getD 0)).filter fun x => decide (x ∉ us)
theorem restU_succ (rows : List (List Int)) (us : List (Int × Int)) (i : Nat) : restU rows us (i + 1) = restU rows us i ++ (rowU i (((prs rows)[i]?).getD 0)).filter fun x => decide (x ∉ us) := by
  unfold restU
  rw [List.range_succ, List.flatMap_append]
  simp
theorem restU_len {rows : List (List Int)} (us : List (Int × Int)) (h60 : ∀ r ∈ rows, r.length ≤ 60) : ∀ i, (restU rows us i).length ≤ 61 * i
  | 0 => Nat.zero_le _
  | i + 1 => by
    have h1 := restU_len us h60 i
    have h2 := prs_le h60 i
    have h3 := List.length_filter_le (fun x => decide (x ∉ us)) (rowU i (((prs rows)[i]?).getD 0))
    rw [rowU_len] at h3
    rw [restU_succ, List.length_append]
    omega
theorem allU_rest (rows : List (List Int)) (us : List (Int × Int)) : ∀ i, (allU rows i).filter (fun x => decide (x.2 < ((((prs rows)[x.1.toNat]?).getD 0 : Nat) : Int)) && decide (x ∉ us)) = restU rows us i
  | 0 => rfl
  | i + 1 => by
    rw [allU_succ, restU_succ, List.filter_append, allU_rest rows us i]
    congr 1
    generalize hP : ((prs rows)[i]?).getD 0 = P
    rw [rowU_succ, List.filter_append, List.filter_cons_of_neg (by simp [hP]), List.filter_nil, List.append_nil]
    refine List.filter_congr fun x hx => ?_
    unfold rowU at hx
    obtain ⟨n, hn, rfl⟩ := List.mem_map.mp hx
    have h1 := List.mem_range.mp hn
    show (decide ((n : Int) < ((((prs rows)[(i : Int).toNat]?).getD 0 : Nat) : Int)) && _) = _
    rw [Int.toNat_natCast, hP, decide_eq_true (by omega), Bool.true_and]
theorem allU_mem {rows : List (List Int)} {i : Nat} {x : Int × Int} (h : x ∈ allU rows i) : ∃ p n : Nat, p < i ∧ x = ((p : Int), (n : Int)) := by
  unfold allU at h
  obtain ⟨p, hp, hx⟩ := List.mem_flatMap.mp h
  unfold rowU at hx
  obtain ⟨n, _, rfl⟩ := List.mem_map.mp hx
  exact ⟨p, n, List.mem_range.mp hp, rfl⟩
theorem filter_stepA {α : Type} {l : List α} {j : Nat} {x : α} (h : l[j]? = some x) (f : α → Bool) : (l.take (j + 1)).filter f = (l.take j).filter f ++ (if f x = true then [x] else []) := by
  rw [List.take_add_one, h, List.filter_append]
  congr 1
  by_cases e : f x = true
  · rw [if_pos e]
    exact List.filter_cons_of_pos e
  · rw [if_neg e]
    exact List.filter_cons_of_neg e
theorem hu65 {A : Around} {k : Nat} (hr : Room k A) : A.units + 65 < cLine := by have := hr.un; omega
abbrev sLneed : Stmt := topS 27
abbrev nLneed : List Str := ["_law_rows", "_law_found", "_law_process", "_law_cut", "_law_own", "_law_number"]
theorem scLneed : FnScope nLneed ["_law_rows"] (defScope sLneed) := ⟨rfl, rfl, rfl, by decide +kernel, rfl, by decide +kernel, by decide +kernel⟩
/-- as needed_states, a list -/
def spLneed (K : PySem.W.Frag) : Sp := fun vs H Q _ => ∃ (a : Addr) (refs : List Addr) (rows : List (List Int)) (many most : Nat), vs = [.ref a] ∧ SqT K H a (refs.map V.ref) ∧ Rows K H refs rows ∧ Good many most rows ∧ many ≤ 6 ∧ most ≤ 60 ∧
  ∀ (H' : Hp) (t : Addr) (us : List (Int × Int)) (qs : List Addr), Same H H' → H t = none → NeedL rows us → H' t = some (.lst (qs.map V.ref)) → Opens K H' qs us → Q (.ref t) H'
section
variable {P : Program} {w : World} {K : PySem.W.Frag} {mg : Str → Option Value} {base : Heap}
set_option maxHeartbeats 4000000 in
theorem ok_delet {f fA fE fB fN fL fT fH fI : Addr} {fd fdA fdE fdB fdN fdL fdT fdH fdI : FuncData} (F : Fun K "deletable_states" "deletable_states" sDelet f fd) (FA : Fun K "all_states" "all_states" sAll fA fdA) (bA : Binds K fdA ["history"] []) (gA : mg "all_states" = some (.ref fA))
    (FE : Fun K "needed_states" "needed_states" sNeeded fE fdE) (bE : Binds K fdE ["history"] []) (gE : mg "needed_states" = some (.ref fE)) (FB : Fun K "fall_back" "fall_back" sFall fB fdB) (bB : BStar1 fdB "history" "failed") (gB : mg "fall_back" = some (.ref fB))
    (FN : Fun K "state_numbers" "state_numbers" sNums fN fdN) (bN : Binds K fdN ["history"] []) (gN' : mg "state_numbers" = some (.ref fN))
    (FL : Fun K "lowered" "lowered" sLowered fL fdL) (bL : Binds K fdL ["trips", "high"] []) (gL : mg "lowered" = some (.ref fL))
    (FT : Fun K "trips_of" "trips_of" sTrips fT fdT) (bT : Binds K fdT ["history"] []) (gT : mg "trips_of" = some (.ref fT))
    (FH : Fun K "happened_at" "happened_at" sHap fH fdH) (bH : Binds K fdH ["history", "event"] []) (gH : mg "happened_at" = some (.ref fH)) (FI : Fun K "is_orphan" "is_orphan" sIsOrph fI fdI) (bI : Binds K fdI ["trip", "line"] []) (gI : mg "is_orphan" = some (.ref fI))
    (men : mg "enumerate" = none) (mso : mg "sorted" = none) (mtu : mg "tuple" = none) (mli : mg "list" = none) (ml : mg "len" = none) (mra : mg "range" = none) : FnOk P w K mg base CX0 5 f fd ["history"] (spDelet K) := by
  have GA : FnOk P w K mg base CX0 2 fA fdA ["history"] (spAll K) := ok_all FA FN bN gN' men mra mtu
  have GE : FnOk P w K mg base CX0 4 fE fdE ["history"] (spNeeded K) := ok_needed FE FB bB gB FN bN gN' FL bL gL FT bT gT FH bH gH FI bI gI men mso mtu mli ml mra
  have GN : FnOk P w K mg base CX0 1 fN fdN ["history"] (spNums K) := ok_nums FN mtu
  refine F.ok scDelet (fun vs H Q E h => ?_) (fun cdv A outer s H vs Q E hr h => ?_)
  · obtain ⟨a, refs, rows, many, most, rfl, _⟩ := h
    rfl
  · obtain ⟨a, refs, rows, many, most, rfl, hA, hR, hG, hm6, hm60, q⟩ := h
    have nd := scDelet.nd
    have hr1 : Room 1 _ := hr.mono (by decide)
    have hr2 : Room 2 _ := hr.mono (by decide)
    have hv := hu65 hr
    refine ⟨_, pss_cons (ps_set (i := 1) nd rfl (.inr rfl) (pe_call GN hr1 (by rfl) gN' FN.kp bN .nil pass0 (pa_cons (pv 0) pa_nil)))
      (pss_cons (ps_set (i := 2) nd rfl (.inr rfl) (pe_call GE hr (by rfl) gE FE.kp bE .nil pass0 (pa_cons (pv 0) pa_nil)))
      (pss_one (ps_ret (pe_callTy call_tuple_of (by rfl) mtu (by decide +kernel) (pa_cons (pe_lc (own := [("state", 3)]) (g := gName 3) (by rfl) nd (pi_list (pe_call GA hr2 (by rfl) gA FA.kp bA .nil pass0 (pa_cons (pv 0) pa_nil)))
        (blkOk_by (own := [("state", 3)]) (N := nDelet) (sc := defScope sDelet) (by decide +kernel)) (fun _ _ _ _ _ => pg_name (i := 3) nd rfl (Or.inl rfl))
        (fun _ _ _ _ _ => pts_one (PW.pt (pw_and (pt_cmpR op_lt (pe_ix (r := rIxT K) ix_tup (pv 3) pe_int (fun _ _ => rfl)) (pe_ix (r := rIxT K) ix_tup (pv 1) (pe_ix (r := rIxT K) ix_tup (pv 3) pe_int (fun _ _ => rfl)) (fun _ _ => rfl)) (nomark _))
          (pw_and1 (pt_cmpR (r := rNotInT K) (op_notInT hv) (pv 3) (pv 2) (by rfl))))))
        (fun _ _ _ _ _ => pv 3)) pa_nil))))), ?_⟩
    have h6 := hG.len
    have h60 : ∀ r ∈ rows, r.length ≤ 60 := fun r hr => by
      obtain ⟨i, hi⟩ := List.getElem?_of_mem hr
      have := (hG.row hi).1
      omega
    refine ⟨.ref a, rfl, a, refs, rows, rfl, hA, hR, by omega, fun H1 t s1 ht => gN ?_⟩
    dsimp only
    refine ⟨.ref a, rfl, a, refs, rows, many, most, rfl, (TupK.of s1).1 _ _ hA, hR.keep (.of s1), hG, hm6, hm60, fun H2 u us ur s2 hus hu hop => gN ?_⟩
    dsimp only
    have s12 := s1.trans s2
    refine ⟨.ref a, rfl, a, refs, rows, rfl, (TupK.of s12).1 _ _ hA, hR.keep (.of s12), by omega, h60, fun H3 l qs s3 nl hl hall => ⟨l, rfl, ⟨_, SqL.of hl⟩, fun D nD => ?_⟩⟩
    have ht3 := s3 _ _ (s2 _ _ ht)
    have hu3 := s3 _ _ hu
    have hop3 := hop.keep (K := K) (.of s3)
    obtain ⟨f1, hf1⟩ : ∃ f1 : Int × Int → Bool, f1 = fun x => decide (x.2 < ((((prs rows)[x.1.toNat]?).getD 0 : Nat) : Int)) && decide (x ∉ us) := ⟨_, rfl⟩
    replace q := fun (H' : Hp) (t : Addr) (qs : List Addr) => q H' t us qs
    rw [← hf1] at q
    refine lc_list (K := K) (a := l) (xs := qs.map V.ref) (fun j H' => Same H3 H' ∧ ∃ rs : List Addr, H' D = some (.lst (rs.map V.ref)) ∧ Opens K H' rs (((allU rows rows.length).take j).filter f1)) ⟨Same.new nD, [], upd_same, rfl, fun _ _ _ z => by simp at z⟩ (fun j H' _ z => SqL.of (z.1 _ _ hl)) (fun j v H' hv' z => ?_) (fun H' z => ?_)
    · obtain ⟨r, hr', rfl⟩ := of_at_map hv'
      obtain ⟨sm, rs, hD, hrs⟩ := z
      have hjl : j < (allU rows rows.length).length := by
        rw [← hall.1]
        exact (List.getElem?_eq_some_iff.mp hr').1
      have hx := List.getElem?_eq_getElem hjl
      generalize (allU rows rows.length)[j] = x at hx
      obtain ⟨p, n, hp, rfl⟩ := allU_mem (List.mem_of_getElem? hx)
      have hT : SqT K H' r [.int (p : Nat), .int (n : Nat)] := (TupK.of (K := K) sm).1 _ _ (hall.2 j r _ hr' hx)
      have hrow := List.getElem?_eq_getElem hp
      generalize rows[p] = row at hrow
      have hpr := prsA hrow
      have hst := filter_stepA hx f1
      have ef : f1 ((p : Int), (n : Int)) = (decide ((n : Int) < ((row.count 0 + 1 : Nat) : Int)) && decide (((p : Int), (n : Int)) ∉ us)) := by
        rw [hf1]
        show (decide ((n : Int) < ((((prs rows)[(p : Int).toNat]?).getD 0 : Nat) : Int)) && _) = _
        rw [Int.toNat_natCast, hpr]
        rfl
      have no : f1 ((p : Int), (n : Int)) = false → Same H3 H' ∧ ∃ rs : List Addr, H' D = some (.lst (rs.map V.ref)) ∧ Opens K H' rs (((allU rows rows.length).take (j + 1)).filter f1) := fun e => by
        rw [hst, if_neg (by rw [e]; exact Bool.false_ne_true), List.append_nil]
        exact ⟨sm, rs, hD, hrs⟩
      refine ⟨rfl, .ref r, rfl, r, _, 1, _, rfl, rfl, hT, atI_nat (j := 1) rfl, .ref t, rfl, .ref r, rfl, r, _, 0, _, rfl, rfl, hT, atI_nat (j := 0) rfl, t, _, p, .int ((row.count 0 + 1 : Nat) : Int), rfl, rfl, .inl (.inl (sm _ _ ht3)), atI_nat (at_map hpr), _, _, rfl, rfl, _, rfl, iteB (fun g => ?_) (fun g => ?_)⟩
      · have g : decide ((n : Int) < ((row.count 0 + 1 : Nat) : Int)) = true := g
        rw [g, Bool.true_and] at ef
        refine ⟨.ref r, rfl, .ref u, rfl, pD ((p : Int), (n : Int)), us.map pD, pD_dp hT, .tup (.inl (.inl (sm _ _ hu3))) (hop3.keep (K := K) (.of sm)).dp, pD_shaped _, pDs_shaped us, _, rfl, ?_⟩
        rw [any_us]
        refine iteB (fun g2 => ?_) (fun g2 => ?_)
        · have g3 : decide (((p : Int), (n : Int)) ∉ us) = true := by simpa using g2
          rw [g3] at ef
          have hal := allU_len h60 rows.length
          have hrl := List.length_filter_le f1 ((allU rows rows.length).take j)
          rw [List.length_take] at hrl
          have hrs1 : rs.length = _ := hrs.1
          refine ⟨.ref r, rfl, _, hD, ?_, Same.put nD sm, rs ++ [r], ?_, ?_⟩
          · rw [List.length_map]
            exact small1000 (by omega)
          · rw [upd_same, List.map_append]
            rfl
          · rw [hst, if_pos ef]
            have tp := TupK.put (K := K) (o := .lst (rs.map V.ref ++ [V.ref r])) hD
            exact (hrs.keep tp).snoc (p := ((p : Int), (n : Int))) (tp.1 _ _ hT)
        · refine no ?_
          rw [ef]
          simpa using g2
      · have g : decide ((n : Int) < ((row.count 0 + 1 : Nat) : Int)) = false := g
        refine no ?_
        rw [ef, g, Bool.false_and]
    · obtain ⟨sm, rs, hD, hrs⟩ := z
      rw [List.length_map, hall.1, List.take_length] at hrs
      refine ⟨D, _, rfl, .inl ⟨SqL.of hD, fun t' nt' => ?_⟩⟩
      have s5 : Same H' (upd H' t' (.tup (rs.map V.ref))) := Same.new nt'
      exact q _ t' rs ((s12.trans s3).trans (sm.trans s5)) hus upd_same (hrs.keep (.of s5))
end

end Sv

namespace Sv
open PySem PySem.Spec PyProof.Rows L2
theorem Opens.app {K : PySem.W.Frag} {H : Hp} {fr dr : List Addr} {xs ys : List (Int × Int)} (h : Opens K H fr xs) (g : Opens K H dr ys) : Opens K H (fr ++ dr) (xs ++ ys) := by
  refine ⟨by rw [List.length_append, List.length_append, h.1, g.1], fun i a p h1 h2 => ?_⟩
  have hl : fr.length = xs.length := h.1
  by_cases e : i < fr.length
  · rw [List.getElem?_append_left e] at h1
    rw [List.getElem?_append_left (by omega)] at h2
    exact h.2 i a p h1 h2
  · rw [List.getElem?_append_right (by omega)] at h1
    rw [List.getElem?_append_right (by omega), ← hl] at h2
    exact g.2 _ a p h1 h2
theorem TupK.same_lst {K : PySem.W.Frag} {H : Hp} {l : Addr} {xs : List V} {o : HO} (h : H l = some (.lst xs)) : TupK K H (upd H l o) := TupK.put h
section
variable {P : Program} {w : World} {K : PySem.W.Frag} {mg : Str → Option Value} {base : Heap}
set_option maxHeartbeats 4000000 in
theorem ok_lneed {f fSu fTo fLe fPl fSp : Addr} {fd fdSu fdTo fdLe fdPl fdSp : FuncData} (F : Fun K "_law_needed" "_law_needed" sLneed f fd) (FSu : Fun K "_law_sunk" "_law_sunk" sSunk fSu fdSu) (bSu : Binds K fdSu ["_law_rows", "_law_lost"] []) (gSu : mg "_law_sunk" = some (.ref fSu))
    (FTo : Fun K "_law_tops" "_law_tops" sTops fTo fdTo) (bTo : Binds K fdTo ["_law_rows", "_law_lost"] []) (gTo : mg "_law_tops" = some (.ref fTo))
    (FLe : Fun K "_law_letters" "_law_letters" sLetters fLe fdLe) (bLe : Binds K fdLe ["_law_rows"] []) (gLe : mg "_law_letters" = some (.ref fLe)) (FPl : Fun K "_law_places" "_law_places" sPlaces fPl fdPl) (bPl : Binds K fdPl ["_law_rows", "_law_cut"] []) (gPl : mg "_law_places" = some (.ref fPl))
    (FSp : Fun K "_law_spots" "_law_spots" sSpots fSp fdSp) (bSp : Binds K fdSp ["_law_row"] []) (gSp : mg "_law_spots" = some (.ref fSp))
    (men : mg "enumerate" = none) (mi : mg "int" = none) (ml : mg "len" = none) (mra : mg "range" = none) (mzi : mg "zip" = none) (mmi : mg "min" = none) (mtu : mg "tuple" = none) (mso : mg "sorted" = none) (mse : mg "set" = none) : FnOk P w K mg base CX0 4 f fd ["_law_rows"] (spLneed K) := by
  have GSu : FnOk P w K mg base CX0 3 fSu fdSu ["_law_rows", "_law_lost"] (spSunk K) := ok_sunk FSu FTo bTo gTo FLe bLe gLe FPl bPl gPl FSp bSp gSp men mi ml mra mzi mmi mtu
  refine F.ok scLneed (fun vs H Q E h => ?_) (fun cdv A outer s H vs Q E hr h => ?_)
  · obtain ⟨a, refs, rows, many, most, rfl, _⟩ := h
    rfl
  · obtain ⟨a, refs, rows, many, most, rfl, hA, hR, hG, hm6, hm60, q⟩ := h
    have nd := scLneed.nd
    refine ⟨_, pss_cons (ps_set (i := 1) nd rfl (.inl rfl) (pe_lst pa_nil))
      (pss_cons (ps_for PassesOwn.never rfl (pi_range1 (by rfl) mra (pa_cons (pe_callB call_len_seq (by rfl) ml PySem.boot_len (pa_cons (pv 0) pa_nil)) pa_nil)) (pg_name (i := 2) nd rfl (.inl rfl))
        (pss_cons (ps_set (i := 3) nd rfl (.inl rfl) (pe_call GSu hr (by rfl) gSu FSu.kp bSu .nil pass0 (pa_cons (pv 0) (pa_cons (pe_tup (pa_cons (pv 2) pa_nil)) pa_nil))))
        (pss_one (ps_expr (pe_bm PySem.F.plainAttrs_list PySem.F.slot_list_extend PySem.F.type_list_extend mt_extend (pv 1) (pa_cons
          (pe_lc (own := [("_law_own", 4), ("_law_number", 5)]) (g := gTup K 2 (gCons (gName 4) (gCons (gName 5) gNil))) (by rfl) nd (pi_enumT (by rfl) men (pa_cons (pv 3) pa_nil))
            (blkOk_by (own := [("_law_own", 4), ("_law_number", 5)]) (N := nLneed) (sc := defScope sLneed) (by decide +kernel))
            (fun _ _ _ _ _ => pg_tup rfl (pgs_cons (pg_name (i := 4) nd rfl (Or.inl rfl)) (pgs_cons (pg_name (i := 5) nd rfl (Or.inl rfl)) pgs_nil)))
            (fun _ _ _ _ _ => pts_one (pt_cmpR op_le (pv 5) (pe_tm (r := rTcount K) PySem.F.slot_tuple_count PySem.F.type_tuple_count (mt_tcount hr.units) (pe_ix (r := rIxT K) ix_tup (pv 0) (pv 4) (fun _ _ => rfl)) (pa_cons pe_int pa_nil)) (nomark _)))
            (fun _ _ _ _ _ => pe_tup (pa_cons (pv 4) (pa_cons (pv 5) pa_nil)))) pa_nil))))))
      (pss_one (ps_ret (pe_callB (cr_sortedT rfl) (by rfl) mso (by decide +kernel) (pa_cons (pe_callTy (cr_setOfT rfl hr.units) (by rfl) mse (by decide +kernel) (pa_cons (pv 1) pa_nil)) pa_nil))))), ?_⟩
    have h6 := hG.len
    have hlr : refs.length = rows.length := hR.1
    have h60 : ∀ r ∈ rows, r.length ≤ 60 := fun r hr => by
      obtain ⟨i, hi⟩ := List.getElem?_of_mem hr
      have := (hG.row hi).1
      omega
    refine ⟨sz (Nat.zero_le _), fun F0 nF => gN ?_⟩
    dsimp only
    have s1 : Same H (upd H F0 (.lst [])) := Same.new nF
    have hF1 : (upd H F0 (.lst [])) F0 = some (.lst []) := upd_same
    generalize upd H F0 (.lst []) = H1 at s1 hF1 ⊢
    refine ⟨.ref a, rfl, a, _, rfl, .inr ((TupK.of s1).1 _ _ hA), _, rfl, by omega, by rw [List.length_map]; omega, ?_⟩
    rw [List.length_map, Int.toNat_natCast]
    refine for_range (lo := 0) (n := refs.length) (fun i σ H' => ∃ (x2 x3 x4 x5 : Option V) (fr : List Addr) (xs : List (Int × Int)), σ = [some (.ref a), some (.ref F0), x2, x3, x4, x5] ∧ Same H H' ∧ H' F0 = some (.lst (fr.map V.ref)) ∧ Opens K H' fr xs ∧ xs.length ≤ i * rows.length ∧ ∀ x, x ∈ xs ↔ ∃ f p n : Nat, f < i ∧ NeedAt rows f p n ∧ x = ((p : Int), (n : Int)))
      ⟨_, _, _, _, [], [], rfl, s1, hF1, ⟨rfl, fun _ _ _ z => by simp at z⟩, Nat.zero_le _, fun x => ⟨fun z => (nomatch z), fun ⟨f, p, n, z, _⟩ => absurd z (Nat.not_lt_zero _)⟩⟩ ?_ ?_
    · rintro i σ H2 hi ⟨x2, x3, x4, x5, fr, xs, rfl, s2, hF2, hop2, hxl, hxs⟩
      have ei : (0 : Int) + (i : Nat) = (i : Int) := Int.zero_add _
      rw [ei]
      refine ⟨.ref a, rfl, _, rfl, sz (by show 1 ≤ 1000; decide), fun p1 np1 => ?_⟩
      have s3 : Same H2 (upd H2 p1 (.tup [.int (i : Nat)])) := Same.new np1
      have hp1 : SqT K (upd H2 p1 (.tup [.int (i : Nat)])) p1 ([(i : Int)].map V.int) := .inl (.inl upd_same)
      have hF3 := s3 _ _ hF2
      have hop3 := hop2.keep (K := K) (.of s3)
      have s03 := s2.trans s3
      generalize upd H2 p1 (.tup [.int (i : Nat)]) = H3 at s03 hp1 hF3 hop3 ⊢
      refine ⟨a, p1, refs, rows, many, most, [(i : Int)], rfl, (TupK.of s03).1 _ _ hA, hR.keep (.of s03), hG, hm6, hm60, hp1, fun H4 u cs s4 hlow hu => gN ?_⟩
      dsimp only
      have hcl : cs.length = rows.length := hlow.len.trans (tops_len _ _)
      have s04 := s03.trans s4
      have hF4 := s4 _ _ hF3
      have hop4 := hop3.keep (K := K) (.of s4)
      have hA4 := (TupK.of (K := K) s04).1 _ _ hA
      refine ⟨.ref F0, rfl, .inl ⟨rfl, _, SqL.of hF4⟩, .ref u, rfl, u, _, rfl, .inl (.inl hu), fun D nD => ?_⟩
      refine lc_etup (K := K) (a := u) (xs := natV cs) (fun j H' => Same H4 H' ∧ ∃ (dr : List Addr) (ys : List (Int × Int)), H' D = some (.lst (dr.map V.ref)) ∧ Opens K H' dr ys ∧ ys.length ≤ j ∧ ∀ x, x ∈ ys ↔ ∃ p n : Nat, p < j ∧ NeedAt rows i p n ∧ x = ((p : Int), (n : Int)))
        ⟨Same.new nD, [], [], upd_same, ⟨rfl, fun _ _ _ z => by simp at z⟩, Nat.le_refl _, fun x => ⟨fun z => (nomatch z), fun ⟨p, n, z, _⟩ => absurd z (Nat.not_lt_zero _)⟩⟩ (fun j H' _ z => .inl (.inl (z.1 _ _ hu))) (fun j x T H' hx z nT => ?_) (fun H5 z => ?_)
      · obtain ⟨c, hc, rfl⟩ := of_at_map hx
        obtain ⟨sm, dr, ys, hD, hdo, hyl, hys⟩ := z
        have hjr : j < rows.length := by
          rw [← hcl]
          exact (List.getElem?_eq_some_iff.mp hc).1
        have hrow := List.getElem?_eq_getElem hjr
        generalize rows[j] = row at hrow
        have hpr := prsA hrow
        obtain ⟨r, hr'⟩ : ∃ r, refs[j]? = some r := ⟨_, List.getElem?_eq_getElem (by omega)⟩
        have sT : Same H' (upd H' T (.tup [.int (j : Nat), .int (c : Nat)])) := Same.new nT
        have sA := sm.trans sT
        have hD6 := sT _ _ hD
        have hdo6 := hdo.keep (K := K) (.of sT)
        refine ⟨T, _, rfl, .inl (.inl upd_same), rfl, _, _, rfl, _, _, rfl, rfl, rfl, ?_⟩
        have ht := (hR.2 j r row hr' hrow).same (s04.trans sA)
        have hA6 := (TupK.of (K := K) sA).1 _ _ hA4
        generalize upd H' T (.tup [.int (j : Nat), .int (c : Nat)]) = H6 at sA hD6 hdo6 ht hA6 ⊢
        refine ⟨.int (c : Nat), rfl, .ref a, rfl, .int (j : Nat), rfl, a, _, j, .ref r, rfl, rfl, hA6, atI_nat (at_map hr'), ⟨r, _, rfl, ht⟩, r, row, 0, rfl, rfl, ht.sqT, _, _, rfl, rfl, _, rfl, iteB (fun g => ?_) (fun g => ?_)⟩
        · have g1 : c < row.count 0 + 1 := by
            have : ((c : Nat) : Int) ≤ ((row.count 0 : Nat) : Int) := of_decide_eq_true g
            omega
          have hn : NeedAt rows i j c := ⟨cs, hlow, hc, by rw [hpr]; exact g1⟩
          refine ⟨_, rfl, _, rfl, sz (by show 2 ≤ 1000; decide), fun T2 nT2 => ?_⟩
          have s7 : Same H6 (upd H6 T2 (.tup [.int (j : Nat), .int (c : Nat)])) := Same.new nT2
          have hT2 : SqT K (upd H6 T2 (.tup [.int (j : Nat), .int (c : Nat)])) T2 [.int (j : Nat), .int (c : Nat)] := .inl (.inl upd_same)
          have hD7 := s7 _ _ hD6
          have hdo7 := hdo6.keep (K := K) (.of s7)
          have sB := sA.trans s7
          generalize upd H6 T2 (.tup [.int (j : Nat), .int (c : Nat)]) = H7 at hT2 hD7 hdo7 sB ⊢
          have hdl : dr.length = ys.length := hdo.1
          refine ⟨_, hD7, ?_, Same.put nD sB, dr ++ [T2], ys ++ [((j : Int), (c : Int))], ?_, ?_, by rw [List.length_append]; exact Nat.succ_le_succ hyl, fun x => ?_⟩
          · rw [List.length_map]
            exact small1000 (by omega)
          · rw [upd_same, List.map_append]
            rfl
          · have tp := TupK.put (K := K) (o := .lst (dr.map V.ref ++ [V.ref T2])) hD7
            exact (hdo7.keep tp).snoc (p := ((j : Int), (c : Int))) (tp.1 _ _ hT2)
          · rw [List.mem_append, hys, List.mem_singleton]
            constructor
            · rintro (⟨p, n, z1, z2, z3⟩ | rfl)
              · exact ⟨p, n, by omega, z2, z3⟩
              · exact ⟨j, c, by omega, hn, rfl⟩
            · rintro ⟨p, n, z1, z2, rfl⟩
              by_cases e : p = j
              · subst e
                obtain ⟨cs', l1, l2, _⟩ := z2
                obtain rfl := hlow.unique l1
                obtain rfl := Option.some.inj (hc.symm.trans l2)
                exact .inr rfl
              · exact .inl ⟨p, n, by omega, z2, rfl⟩
        · have g1 : ¬ c < row.count 0 + 1 := by
            have : ¬ ((c : Nat) : Int) ≤ ((row.count 0 : Nat) : Int) := of_decide_eq_false g
            omega
          refine ⟨sA, dr, ys, hD6, hdo6, by omega, fun x => ?_⟩
          rw [hys]
          constructor
          · rintro ⟨p, n, z1, z2, z3⟩
            exact ⟨p, n, by omega, z2, z3⟩
          · rintro ⟨p, n, z1, z2, rfl⟩
            by_cases e : p = j
            · subst e
              obtain ⟨cs', l1, l2, l3⟩ := z2
              obtain rfl := hlow.unique l1
              obtain rfl := Option.some.inj (hc.symm.trans l2)
              rw [hpr] at l3
              exact absurd l3 g1
            · exact ⟨p, n, by omega, z2, rfl⟩
      · obtain ⟨sm, dr, ys, hD, hdo, hyl, hys⟩ := z
        have el : (natV cs).length = rows.length := by rw [natV, List.length_map, hcl]
        rw [el] at hyl hys
        have hF5 := sm _ _ hF4
        have hop5 := hop4.keep (K := K) (.of sm)
        have hfl : fr.length = xs.length := hop2.1
        have hdl : dr.length = ys.length := hdo.1
        have hmul : i * rows.length ≤ 5 * 6 := Nat.mul_le_mul (by omega) (by omega)
        refine ⟨F0, D, _, _, rfl, rfl, hF5, hD, ?_, ?_⟩
        · rw [List.length_map, List.length_map]
          exact sz (by omega)
        have tp := TupK.put (K := K) (o := .lst (fr.map V.ref ++ dr.map V.ref)) hF5
        refine ⟨_, _, _, _, fr ++ dr, xs ++ ys, rfl, Same.put nF (s04.trans sm), ?_, (hop5.keep tp).app (hdo.keep tp), by rw [List.length_append, Nat.succ_mul]; omega, fun x => ?_⟩
        · rw [upd_same, List.map_append]
        · rw [List.mem_append, hxs, hys]
          constructor
          · rintro (⟨f, p, n, z1, z2, z3⟩ | ⟨p, n, z1, z2, z3⟩)
            · exact ⟨f, p, n, by omega, z2, z3⟩
            · exact ⟨i, p, n, by omega, z2, z3⟩
          · rintro ⟨f, p, n, z1, z2, z3⟩
            by_cases e : f = i
            · subst e
              exact .inr ⟨p, n, z2.lt, z2, z3⟩
            · exact .inl ⟨f, p, n, by omega, z2, z3⟩
    · rintro σ H2 ⟨x2, x3, x4, x5, fr, xs, rfl, s2, hF2, hop2, hxl, hxs⟩
      rw [hlr] at hxs hxl
      have hfl : fr.length = xs.length := hop2.1
      have hmul : rows.length * rows.length ≤ 6 * 6 := Nat.mul_le_mul (by omega) (by omega)
      obtain ⟨ks, hks⟩ : ∃ ks : List (Addr × List Int), ks = (fr.zip xs).map fun q => (q.1, pk q.2) := ⟨_, rfl⟩
      have hk1 : (ks.map fun p => V.ref p.1) = fr.map V.ref := by
        rw [hks, List.map_map]
        have e : ((fun p : Addr × List Int => V.ref p.1) ∘ fun q : Addr × (Int × Int) => (q.1, pk q.2)) = V.ref ∘ Prod.fst := rfl
        rw [e, ← List.map_map, List.map_fst_zip (by omega)]
      have hk2 : ∀ p ∈ ks, SqT K H2 p.1 (p.2.map V.int) := fun p hp => by
        rw [hks] at hp
        obtain ⟨q', hq', rfl⟩ := List.mem_map.mp hp
        obtain ⟨i, hi⟩ := List.getElem?_of_mem hq'
        rw [List.getElem?_zip_eq_some] at hi
        exact hop2.2 i _ _ hi.1 hi.2
      have hk3 : ∀ ns, ns ∈ ks.map (·.2) ↔ ∃ x, x ∈ xs ∧ ns = pk x := fun ns => by
        have e : ks.map (·.2) = xs.map pk := by
          rw [hks, List.map_map]
          have e : ((fun p : Addr × List Int => p.2) ∘ fun q : Addr × (Int × Int) => (q.1, pk q.2)) = pk ∘ Prod.snd := rfl
          rw [e, ← List.map_map, List.map_snd_zip (by omega)]
        rw [e, List.mem_map]
        exact ⟨fun ⟨x, z1, z2⟩ => ⟨x, z1, z2.symm⟩, fun ⟨x, z1, z2⟩ => ⟨x, z1, z2.symm⟩⟩
      have hkl : ks.length = xs.length := by rw [hks, List.length_map, List.length_zip]; omega
      refine ⟨.ref F0, rfl, F0, ks, rfl, by rw [hk1]; exact SqL.of hF2, hk2, by omega, fun D L nD hL1 hL2 => ?_⟩
      have s3 : Same H2 (upd H2 D (SetTO P w D L)) := Same.new nD
      have hSet : SetOk K (upd H2 D (SetTO P w D L)) L (fun x => ∃ f p n : Nat, f < rows.length ∧ NeedAt rows f p n ∧ x = ((p : Int), (n : Int))) := by
        refine ⟨fun q hq => (TupK.of s3).1 _ _ (hk2 q (hL1 q hq)), fun ns => ?_⟩
        have e1 : ns ∈ L.map (·.2) ↔ ns ∈ ks.map (·.2) := by
          constructor
          · intro z
            obtain ⟨p, hp, rfl⟩ := List.mem_map.mp z
            exact List.mem_map_of_mem (hL1 p hp)
          · intro z
            obtain ⟨p, hp, rfl⟩ := List.mem_map.mp z
            exact hL2 p hp
        rw [e1, hk3]
        exact ⟨fun ⟨x, z1, z2⟩ => ⟨x, (hxs x).mp z1, z2⟩, fun ⟨x, z1, z2⟩ => ⟨x, (hxs x).mpr z1, z2⟩⟩
      refine ⟨D, L, 2, 64, rfl, upd_same, hSet.1, by decide, fun x hx => ?_, fun L' l pm hnd few pw nl => ?_⟩
      · obtain ⟨y, ⟨f, p, n, hf, ⟨cs, l1, l2, l3⟩, rfl⟩, e⟩ := (hSet.2 x.2).mp (List.mem_map_of_mem hx)
        have l4 : p < rows.length := NeedAt.lt ⟨cs, l1, l2, l3⟩
        have l5 := prs_le h60 p
        rw [e]
        refine ⟨rfl, fun m hm => ?_⟩
        unfold pk at hm
        simp only [List.mem_cons, List.not_mem_nil, or_false] at hm
        rcases hm with rfl | rfl <;> constructor <;> omega
      · obtain ⟨us, hus, hop⟩ := need_sorted h60 hSet pm hnd few pw
        have s4 : Same (upd H2 D (SetTO P w D L)) (upd (upd H2 D (SetTO P w D L)) l (.lst (L'.map fun q => V.ref q.1))) := Same.new nl
        refine q _ l us (L'.map fun q : Addr × List Int => q.1) ((s2.trans s3).trans s4) ((s2.trans s3).free nl) hus ?_ (hop.keep (.of s4))
        rw [upd_same, List.map_map]
        rfl
end

end Sv

namespace Sv
open PySem PySem.Spec PyProof.Rows L2
abbrev sLaw : Stmt := topS 29
abbrev nLaw : List Str := ["_law_script", "_law_deck_here", "_law_turn", "_law_rows", "_law_kept", "_law_due", "_law_rest", "_law_process", "_law_row", "_law_again", "_law_k"]
theorem scLaw : FnScope nLaw ["_law_script"] (defScope sLaw) := ⟨rfl, rfl, rfl, by decide +kernel, rfl, by decide +kernel, by decide +kernel⟩
def spLaw (K : PySem.W.Frag) : Sp := fun vs H Q _ => ∃ (a : Addr) (ns : List Int), vs = [.ref a] ∧ SqL K H a (ns.map V.int) ∧ ns.length ≤ 63 ∧ ∀ H', Q (.bl true) H'
theorem small30 {n : Int} (h0 : 0 ≤ n) (h : n ≤ 61) : n.natAbs < 10 ^ 30 := Nat.lt_of_le_of_lt (show n.natAbs ≤ 61 by omega) (by decide)
theorem pairs_fine {us : List (Int × Int)} {B : Nat} (hl : us.length ≤ B) (h : ∀ p ∈ us, p.1.natAbs < 10 ^ 30 ∧ p.2.natAbs < 10 ^ 30) : Fine 2 (205 * B) (.tuple (us.map pD)) := by
  have h1 : FineAll 1 ((204 + 1) * (us.map pD).length) (us.map pD) := fine_all fun d hd => by
    obtain ⟨p, hp, rfl⟩ := List.mem_map.mp hd
    obtain ⟨a, b⟩ := h p hp
    exact (fine_tuple (fine_cons (fine_int a) (fine_cons (fine_int b) fine_nil))).mono (Nat.le_refl _) (by decide)
  rw [List.length_map] at h1
  exact (fine_tuple h1).mono (Nat.le_refl _) (Nat.mul_le_mul_left _ hl)
def twoQ (us rs : List (Int × Int)) : PyData := .list [.tuple (us.map pD), .tuple (rs.map pD)]
theorem twoQ_fine {us rs : List (Int × Int)} (hu : us.length ≤ 64) (hr : rs.length ≤ 366) (h : ∀ p ∈ us, p.1.natAbs < 10 ^ 30 ∧ p.2.natAbs < 10 ^ 30) (g : ∀ p ∈ rs, p.1.natAbs < 10 ^ 30 ∧ p.2.natAbs < 10 ^ 30) : Fine 3 200000 (twoQ us rs) :=
  (fine_list (fine_cons (pairs_fine hu h) (fine_cons (pairs_fine hr g) (fine_nil.mono (Nat.zero_le _) (Nat.le_refl _))))).mono (Nat.le_refl _) (by decide)
theorem twoQ_shown {K : PySem.W.Frag} {H : Hp} {e t u : Addr} {us rs : List (Int × Int)} {q1 q2 : List Addr} (hf : Fine 3 200000 (twoQ us rs)) (h1 : H e = some (.lst [.ref t, .ref u])) (h2 : SqT K H t (q1.map V.ref)) (h3 : SqT K H u (q2.map V.ref)) (o1 : Opens K H q1 us) (o2 : Opens K H q2 rs) : Shown K H (.ref e) (twoQ us rs) :=
  hf.shown (by decide) (by decide) (.lst (SqL.of h1) (.cons (.tup h2 o1.dp) (.cons (.tup h3 o2.dp) .nil))) rfl
theorem need_small {rows : List (List Int)} {us : List (Int × Int)} (h6 : rows.length ≤ 6) (h60 : ∀ r ∈ rows, r.length ≤ 60) (h : NeedL rows us) : ∀ p ∈ us, p.1.natAbs < 10 ^ 30 ∧ p.2.natAbs < 10 ^ 30 := fun x hx => by
  obtain ⟨f, p, n, hf, hn, rfl⟩ := (h.2.2 x).mp hx
  have l4 := hn.lt
  obtain ⟨cs, l1, l2, l3⟩ := hn
  have l5 := prs_le h60 p
  exact ⟨small30 (Int.natCast_nonneg _) (by show (p : Int) ≤ 61; omega), small30 (Int.natCast_nonneg _) (by show (n : Int) ≤ 61; omega)⟩
theorem rest_small {rows : List (List Int)} (us : List (Int × Int)) {i : Nat} (h6 : i ≤ 6) (h60 : ∀ r ∈ rows, r.length ≤ 60) : ∀ p ∈ restU rows us i, p.1.natAbs < 10 ^ 30 ∧ p.2.natAbs < 10 ^ 30 := fun x hx => by
  unfold restU at hx
  obtain ⟨p, hp, hx⟩ := List.mem_flatMap.mp hx
  have hp := List.mem_range.mp hp
  have h1 := (List.mem_filter.mp hx).1
  unfold rowU at h1
  obtain ⟨n, hn, rfl⟩ := List.mem_map.mp h1
  have hn := List.mem_range.mp hn
  have l5 := prs_le h60 p
  exact ⟨small30 (Int.natCast_nonneg _) (by show (p : Int) ≤ 61; omega), small30 (Int.natCast_nonneg _) (by show (n : Int) ≤ 61; omega)⟩
section
variable {P : Program} {w : World} {K : PySem.W.Frag} {mg : Str → Option Value} {base : Heap}
set_option maxHeartbeats 4000000 in
theorem ok_law {f fS fD fDo fM fBe fO fGr fHi fTo fLe fSp fPl fSu fN fH fT fI fL fB fSa fA fE fDe fNe : Addr} {fd fdS fdD fdDo fdM fdBe fdO fdGr fdHi fdTo fdLe fdSp fdPl fdSu fdN fdH fdT fdI fdL fdB fdSa fdA fdE fdDe fdNe : FuncData} (F : Fun K "law" "law" sLaw f fd)
    (FS : Fun K "_law_deck" "_law_deck" sState fS fdS) (bS : Binds K fdS ["_law_script"] []) (gS : mg "_law_deck" = some (.ref fS))
    (FD : Fun K "_law_next" "_law_next" sDraw fD fdD) (bD : Binds K fdD ["_law_deck_here", "_law_many"] []) (gD : mg "_law_next" = some (.ref fD))
    (FDo : Fun K "_law_domino" "_law_domino" sDomino fDo fdDo) (bDo : Binds K fdDo ["_law_deck_here", "_law_most"] []) (gDo : mg "_law_domino" = some (.ref fDo))
    (FM : Fun K "_law_shuffled" "_law_shuffled" sMixed fM fdM) (bM : Binds K fdM ["_law_deck_here", "_law_items"] []) (gM : mg "_law_shuffled" = some (.ref fM))
    (FBe : Fun K "_law_begun" "_law_begun" sBegun fBe fdBe) (bBe : Binds K fdBe ["_law_deck_here", "_law_many"] []) (gBe : mg "_law_begun" = some (.ref fBe))
    (FO : Fun K "_law_one" "_law_one" sPick fO fdO) (bO : Binds K fdO ["_law_deck_here", "_law_items"] []) (gO : mg "_law_one" = some (.ref fO))
    (FGr : Fun K "_law_grown" "_law_grown" sGrown fGr fdGr) (bGr : Binds K fdGr ["_law_deck_here", "_law_state"] []) (gGr : mg "_law_grown" = some (.ref fGr))
    (FHi : Fun K "_law_history" "_law_history" sHist fHi fdHi) (bHi : Binds K fdHi ["_law_deck_here", "_law_many", "_law_most"] []) (gHi : mg "_law_history" = some (.ref fHi))
    (FTo : Fun K "_law_tops" "_law_tops" sTops fTo fdTo) (bTo : Binds K fdTo ["_law_rows", "_law_lost"] []) (gTo : mg "_law_tops" = some (.ref fTo))
    (FLe : Fun K "_law_letters" "_law_letters" sLetters fLe fdLe) (bLe : Binds K fdLe ["_law_rows"] []) (gLe : mg "_law_letters" = some (.ref fLe))
    (FSp : Fun K "_law_spots" "_law_spots" sSpots fSp fdSp) (bSp : Binds K fdSp ["_law_row"] []) (gSp : mg "_law_spots" = some (.ref fSp))
    (FPl : Fun K "_law_places" "_law_places" sPlaces fPl fdPl) (bPl : Binds K fdPl ["_law_rows", "_law_cut"] []) (gPl : mg "_law_places" = some (.ref fPl))
    (FSu : Fun K "_law_sunk" "_law_sunk" sSunk fSu fdSu) (bSu : Binds K fdSu ["_law_rows", "_law_lost"] []) (gSu : mg "_law_sunk" = some (.ref fSu))
    (FN : Fun K "state_numbers" "state_numbers" sNums fN fdN) (bN : Binds K fdN ["history"] []) (gN' : mg "state_numbers" = some (.ref fN))
    (FH : Fun K "happened_at" "happened_at" sHap fH fdH) (bH : Binds K fdH ["history", "event"] []) (gH : mg "happened_at" = some (.ref fH))
    (FT : Fun K "trips_of" "trips_of" sTrips fT fdT) (bT : Binds K fdT ["history"] []) (gT : mg "trips_of" = some (.ref fT))
    (FI : Fun K "is_orphan" "is_orphan" sIsOrph fI fdI) (bI : Binds K fdI ["trip", "line"] []) (gI : mg "is_orphan" = some (.ref fI))
    (FL : Fun K "lowered" "lowered" sLowered fL fdL) (bL : Binds K fdL ["trips", "high"] []) (gL : mg "lowered" = some (.ref fL))
    (FB : Fun K "fall_back" "fall_back" sFall fB fdB) (bB : BStar1 fdB "history" "failed") (gB : mg "fall_back" = some (.ref fB))
    (FSa : Fun K "_law_same" "_law_same" sSame fSa fdSa) (bSa : Binds K fdSa ["_law_found", "_law_due"] []) (gSa : mg "_law_same" = some (.ref fSa))
    (FA : Fun K "all_states" "all_states" sAll fA fdA) (bA : Binds K fdA ["history"] []) (gA : mg "all_states" = some (.ref fA))
    (FE : Fun K "needed_states" "needed_states" sNeeded fE fdE) (bE : Binds K fdE ["history"] []) (gE : mg "needed_states" = some (.ref fE))
    (FDe : Fun K "deletable_states" "deletable_states" sDelet fDe fdDe) (bDe : Binds K fdDe ["history"] []) (gDe : mg "deletable_states" = some (.ref fDe))
    (FNe : Fun K "_law_needed" "_law_needed" sLneed fNe fdNe) (bNe : Binds K fdNe ["_law_rows"] []) (gNe : mg "_law_needed" = some (.ref fNe))
    (ml : mg "len" = none) (mli : mg "list" = none) (mtu : mg "tuple" = none) (mra : mg "range" = none) (mab : mg "abs" = none) (mre : mg "repr" = none) (men : mg "enumerate" = none) (mzi : mg "zip" = none) (mmi : mg "min" = none) (mma : mg "max" = none) (mso : mg "sorted" = none) (mi : mg "int" = none) (mse : mg "set" = none) :
    FnG P w K mg base 6 f fd ["_law_script"] (spLaw K) := by
  have GS : FnOk P w K mg base CX0 1 fS fdS ["_law_script"] (spState K) := ok_state FS ml mab
  have GHi : FnOk P w K mg base CX0 4 fHi fdHi ["_law_deck_here", "_law_many", "_law_most"] (spHist K) := ok_hist FHi FD bD gD FM bM gM FO bO gO FBe bBe gBe FGr bGr gGr FDo bDo gDo ml mli mra mma mi
  have GE : FnOk P w K mg base CX0 4 fE fdE ["history"] (spNeeded K) := ok_needed FE FB bB gB FN bN gN' FL bL gL FT bT gT FH bH gH FI bI gI men mso mtu mli ml mra
  have GDe : FnOk P w K mg base CX0 5 fDe fdDe ["history"] (spDelet K) := ok_delet FDe FA bA gA FE bE gE FB bB gB FN bN gN' FL bL gL FT bT gT FH bH gH FI bI gI men mso mtu mli ml mra
  have GNe : FnOk P w K mg base CX0 4 fNe fdNe ["_law_rows"] (spLneed K) := ok_lneed FNe FSu bSu gSu FTo bTo gTo FLe bLe gLe FPl bPl gPl FSp bSp gSp men mi ml mra mzi mmi mtu mso mse
  have GSa : FnG P w K mg base 1 fSa fdSa ["_law_found", "_law_due"] (spSame K) := ok_same FSa mre
  refine okG F scLaw (fun vs H Q E h => ?_) (fun cdv A outer s H vs Q E hg hr h => ?_)
  · obtain ⟨a, ns, rfl, _⟩ := h
    rfl
  · obtain ⟨a, ns, rfl, hS, hlen, q⟩ := h
    have nd := scLaw.nd
    have hr1 : Room 1 _ := hr.mono (by decide)
    have hr4 : Room 4 _ := hr.mono (by decide)
    have hv := hu65 hr
    refine ⟨_, pss_cons (ps_set (i := 1) nd rfl (.inl rfl) (pe_call GS hr1 (by rfl) gS FS.kp bS .nil pass0 (pa_cons (pv 0) pa_nil)))
      (pss_cons (ps_for PassesOwn.never rfl (pi_range1 (by rfl) mra (pa_cons pe_int pa_nil)) (pg_name (i := 2) nd rfl (.inl rfl))
        (pss_cons (ps_set (i := 3) nd rfl (.inl rfl) (pe_call GHi hr4 (by rfl) gHi FHi.kp bHi .nil pass0 (pa_cons (pv 1) (pa_cons pe_int (pa_cons pe_int pa_nil)))))
        (pss_cons (ps_asg (pe_tup (pa_cons (pe_callB (call_repr hg hr.units) (by rfl) mre (by decide +kernel) (pa_cons (pv 3) pa_nil)) (pa_cons (pe_call GNe hr4 (by rfl) gNe FNe.kp bNe .nil pass0 (pa_cons (pv 3) pa_nil)) (pa_cons (pe_lst pa_nil) pa_nil))))
            (pg_tup rfl (pgs_cons (pg_name (i := 4) nd rfl (.inl rfl)) (pgs_cons (pg_name (i := 5) nd rfl (.inr rfl)) (pgs_cons (pg_name (i := 6) nd rfl (.inl rfl)) pgs_nil)))))
        (pss_cons (ps_for PassesOwn.never rfl (pi_enumT (by rfl) men (pa_cons (pv 3) pa_nil)) (pg_tup rfl (pgs_cons (pg_name (i := 7) nd rfl (.inr rfl)) (pgs_cons (pg_name (i := 8) nd rfl (.inl rfl)) pgs_nil)))
          (pss_one (ps_expr (pe_bm PySem.F.plainAttrs_list PySem.F.slot_list_extend PySem.F.type_list_extend mt_extend (pv 6) (pa_cons
            (pe_lc (own := [("_law_k", 10)]) (g := gName 10) (by rfl) nd (pi_range1 (by rfl) mra (pa_cons (pe_op op_add (pe_tm (r := rTcount K) PySem.F.slot_tuple_count PySem.F.type_tuple_count (mt_tcount hr.units) (pv 8) (pa_cons pe_int pa_nil)) pe_int) pa_nil))
              (blkOk_by (own := [("_law_k", 10)]) (N := nLaw) (sc := defScope sLaw) (by decide +kernel)) (fun _ _ _ _ _ => pg_name (i := 10) nd rfl (Or.inl rfl))
              (fun _ _ _ _ _ => pts_one (pt_cmpR (r := rNotInD K) (op_notInD hv) (pe_tup (pa_cons (pv 7) (pa_cons (pv 10) pa_nil))) (pv 5) (by rfl)))
              (fun _ _ _ _ _ => pe_tup (pa_cons (pv 7) (pa_cons (pv 10) pa_nil)))) pa_nil)))))
        (pss_cons (ps_for PassesOwn.never rfl (pi_range1 (by rfl) mra (pa_cons pe_int pa_nil)) (pg_name (i := 9) nd rfl (.inl rfl))
          (pss_one (ps_if (pt_not (pt_val (pe_callG GSa hg hr1 (by rfl) gSa FSa.kp bSa .nil pass0 (pa_cons (pe_lst (pa_cons (pe_call GE hr4 (by rfl) gE FE.kp bE .nil pass0 (pa_cons (pv 3) pa_nil)) (pa_cons (pe_call GDe hr (by rfl) gDe FDe.kp bDe .nil pass0 (pa_cons (pv 3) pa_nil)) pa_nil)))
              (pa_cons (pe_lst (pa_cons (pe_callTy call_tuple_of (by rfl) mtu (by decide +kernel) (pa_cons (pv 5) pa_nil)) (pa_cons (pe_callTy call_tuple_of (by rfl) mtu (by decide +kernel) (pa_cons (pv 6) pa_nil)) pa_nil))) pa_nil))))) (pss_one (ps_ret pe_bl)) pss_nil)))
        (pss_one (ps_if (pt_cmpR op_ne (pe_callB (call_repr hg hr.units) (by rfl) mre (by decide +kernel) (pa_cons (pv 3) pa_nil)) (pv 4) (nomark _)) (pss_one (ps_ret pe_bl)) pss_nil)))))))
      (pss_one (ps_ret pe_bl))), ?_⟩
    refine ⟨.ref a, rfl, a, ns, rfl, hS, hlen, fun H1 st big cel hS1 sm1 _ _ _ => gN ?_⟩
    dsimp only
    refine ⟨8, rfl, by decide, by decide, ?_⟩
    refine for_range (lo := 0) (n := 8) (fun i σ H' => ∃ (x2 x3 x4 x5 x6 x7 x8 x9 x10 : Option V), σ = [some (.ref a), some (.ref st), x2, x3, x4, x5, x6, x7, x8, x9, x10] ∧ StAt H' st big cel (1000 * i))
      ⟨_, _, _, _, _, _, _, _, _, rfl, hS1⟩ ?_ (fun σ H' _ => q H')
    rintro i σ H2 hi ⟨x2, x3, x4, x5, x6, x7, x8, x9, x10, rfl, hS2⟩
    refine ⟨.ref st, rfl, st, big, cel, _, 6, 40, rfl, by decide, by decide, by decide, by decide, hS2, by omega, fun H3 t refs rows ht hR hG hS3 k3 => gN ?_⟩
    dsimp only
    have h6 := hG.len
    have hlr : refs.length = rows.length := hR.1
    have h60 : ∀ r ∈ rows, r.length ≤ 60 := fun r hr => by
      obtain ⟨i, hi⟩ := List.getElem?_of_mem hr
      have := (hG.row hi).1
      omega
    have hrd : ∀ {H' : Hp}, TupT H' t (refs.map V.ref) → Rows K H' refs rows → Shown K H' (.ref t) (rD rows) := fun h1 h2 => (hG.fine (by decide) (by decide)).shown (by decide) (by decide) (h2.dp h1.sqT) rfl
    refine ⟨.ref t, rfl, _, rD rows, rfl, hrd ht hR, .ref t, rfl, t, refs, rows, 6, 40, rfl, ht.sqT, hR, hG, by decide, by decide, fun H4 u us ur s4 nu hus hu hop => ⟨sz (Nat.zero_le _), fun R nR => ⟨sz (by show 3 ≤ 1000; decide), fun T nT => ?_⟩⟩⟩
    have s5 : Same H4 (upd H4 R (.lst [])) := Same.new nR
    have s6 : Same (upd H4 R (.lst [])) (upd (upd H4 R (.lst [])) T (.tup [.str (rD rows).shown, .ref u, .ref R])) := Same.new nT
    have hR6 : (upd (upd H4 R (.lst [])) T (.tup [.str (rD rows).shown, .ref u, .ref R])) R = some (.lst []) := s6 _ _ upd_same
    have hu6 := s6 _ _ (s5 _ _ hu)
    have hop6 := (hop.keep (K := K) (.of s5)).keep (K := K) (.of s6)
    have s06 := s4.trans (s5.trans s6)
    have nR0 : H3 R = none := s4.free nR
    refine ⟨T, _, rfl, .inl (.inl upd_same), rfl, _, _, rfl, _, _, rfl, _, _, rfl, rfl, ?_⟩
    have ht6 := ht.same s06
    have hR06 := hR.keep (K := K) (.of s06)
    have hS6 := hS3.same s06
    have uR : u ≠ R := fun z => by rw [z] at hu; rw [hu] at nR; cases nR
    generalize upd (upd H4 R (.lst [])) T (.tup [.str (rD rows).shown, .ref u, .ref R]) = H6 at s6 hR6 hu6 hop6 s06 ht6 hR06 hS6 ⊢
    -- the others
    refine ⟨.ref t, rfl, t, _, rfl, ht6.sqT, ?_⟩
    refine for_etup (K := K) (a := t) (xs := refs.map V.ref) (fun j σ H' => ∃ (y7 y8 y9 y10 : Option V) (rr : List Addr), σ = [some (.ref a), some (.ref st), some (.int (0 + (i : Int))), some (.ref t), some (.str (rD rows).shown), some (.ref u), some (.ref R), y7, y8, y9, y10] ∧ Same H3 H' ∧ H' R = some (.lst (rr.map V.ref)) ∧ H' u = some (.lst (ur.map V.ref)) ∧ Opens K H' ur us ∧ Opens K H' rr (restU rows us j))
      ⟨_, _, _, _, [], rfl, s06, hR6, hu6, hop6, ⟨rfl, fun _ _ _ z => by simp at z⟩⟩ (fun j σ H' _ ⟨_, _, _, _, _, _, z, _⟩ => (ht.same z).sqT) ?_ ?_
    · rintro j x T2 σ H7 hx ⟨y7, y8, y9, y10, rr, rfl, s7, hR7, hu7, hop7, hrr7⟩ nT2
      obtain ⟨r, hr', rfl⟩ := of_at_map hx
      have hjr : j < rows.length := by
        rw [← hlr]
        exact (List.getElem?_eq_some_iff.mp hr').1
      have hrow := List.getElem?_eq_getElem hjr
      generalize rows[j] = row at hrow
      have hpr := prsA hrow
      have h60r := h60 _ (List.mem_of_getElem? hrow)
      have hcr := count_le_len row
      have sT : Same H7 (upd H7 T2 (.tup [V.int (j : Nat), V.ref r])) := Same.new nT2
      refine ⟨T2, _, rfl, .inl (.inl upd_same), rfl, _, _, rfl, _, _, rfl, rfl, ?_⟩
      have s8 := s7.trans sT
      have hR8 := sT _ _ hR7
      have hu8 := sT _ _ hu7
      have hop8 := hop7.keep (K := K) (.of sT)
      have hrr8 := hrr7.keep (K := K) (.of sT)
      generalize upd H7 T2 (.tup [V.int (j : Nat), V.ref r]) = H8 at s8 hR8 hu8 hop8 hrr8 ⊢
      have htr := (hR.2 j r row hr' hrow).same s8
      refine ⟨.ref R, rfl, .inl ⟨rfl, _, SqL.of hR8⟩, .ref r, rfl, ⟨r, _, rfl, htr⟩, r, row, 0, rfl, rfl, htr.sqT, _, _, rfl, rfl, _, rfl, by omega, by omega, fun D nD => ?_⟩
      have e2 : (((row.count 0 : Nat) : Int) + 1).toNat = row.count 0 + 1 := by omega
      rw [e2]
      refine lc_range (lo := 0) (n := row.count 0 + 1) (fun k H' => Same H8 H' ∧ ∃ dr : List Addr, H' D = some (.lst (dr.map V.ref)) ∧ Opens K H' dr ((rowU j k).filter fun x => decide (x ∉ us))) ⟨Same.new nD, [], upd_same, ⟨rfl, fun _ _ _ z => by simp at z⟩⟩ (fun k H' hk z => ?_) (fun H9 z => ?_)
      · obtain ⟨sm, dr, hD, hdo⟩ := z
        have ek : (0 : Int) + (k : Nat) = (k : Int) := Int.zero_add _
        rw [ek]
        have hst : (rowU j (k + 1)).filter (fun x => decide (x ∉ us)) = (rowU j k).filter (fun x => decide (x ∉ us)) ++ (if decide (((j : Int), (k : Int)) ∉ us) = true then [((j : Int), (k : Int))] else []) := by
          rw [rowU_succ, List.filter_append]
          congr 1
          by_cases e : decide (((j : Int), (k : Int)) ∉ us) = true
          · rw [if_pos e]
            exact List.filter_cons_of_pos e
          · rw [if_neg e]
            exact List.filter_cons_of_neg e
        refine ⟨rfl, _, rfl, _, rfl, sz (by show 2 ≤ 1000; decide), fun T3 nT3 => ?_⟩
        have s9 : Same H' (upd H' T3 (.tup [.int (j : Nat), .int (k : Nat)])) := Same.new nT3
        have hT3 : SqT K (upd H' T3 (.tup [.int (j : Nat), .int (k : Nat)])) T3 [.int (j : Nat), .int (k : Nat)] := .inl (.inl upd_same)
        have hD9 := s9 _ _ hD
        have hdo9 := hdo.keep (K := K) (.of s9)
        have sB := sm.trans s9
        generalize upd H' T3 (.tup [.int (j : Nat), .int (k : Nat)]) = H9 at hT3 hD9 hdo9 sB ⊢
        refine ⟨.ref u, rfl, pD ((j : Int), (k : Int)), us.map pD, pD_dp hT3, .lst (SqL.of (sB _ _ hu8)) (hop8.keep (K := K) (.of sB)).dp, pD_shaped _, pDl_shaped us, _, rfl, ?_⟩
        rw [any_us]
        have hdl : dr.length = _ := hdo.1
        have hfl := List.length_filter_le (fun x => decide (x ∉ us)) (rowU j k)
        rw [rowU_len] at hfl
        refine iteB (fun g2 => ?_) (fun g2 => ?_)
        · have g3 : decide (((j : Int), (k : Int)) ∉ us) = true := by simpa using g2
          refine ⟨_, rfl, _, rfl, sz (by show 2 ≤ 1000; decide), fun T4 nT4 => ?_⟩
          have s10 : Same H9 (upd H9 T4 (.tup [.int (j : Nat), .int (k : Nat)])) := Same.new nT4
          have hT4 : SqT K (upd H9 T4 (.tup [.int (j : Nat), .int (k : Nat)])) T4 [.int (j : Nat), .int (k : Nat)] := .inl (.inl upd_same)
          have hD10 := s10 _ _ hD9
          have hdo10 := hdo9.keep (K := K) (.of s10)
          have sC := sB.trans s10
          generalize upd H9 T4 (.tup [.int (j : Nat), .int (k : Nat)]) = H10 at hT4 hD10 hdo10 sC ⊢
          refine ⟨_, hD10, ?_, Same.put nD sC, dr ++ [T4], ?_, ?_⟩
          · rw [List.length_map]
            exact small1000 (by omega)
          · rw [upd_same, List.map_append]
            rfl
          · rw [hst, if_pos g3]
            have tp := TupK.put (K := K) (o := .lst (dr.map V.ref ++ [V.ref T4])) hD10
            exact (hdo10.keep tp).snoc (p := ((j : Int), (k : Int))) (tp.1 _ _ hT4)
        · have g3 : ¬ decide (((j : Int), (k : Int)) ∉ us) = true := by simpa using g2
          rw [hst, if_neg g3, List.append_nil]
          exact ⟨sB, dr, hD9, hdo9⟩
      · obtain ⟨sm, dr, hD, hdo⟩ := z
        have hR9 := sm _ _ hR8
        have hu9 := sm _ _ hu8
        have hrr9 := hrr8.keep (K := K) (.of sm)
        have hop9 := hop8.keep (K := K) (.of sm)
        have hrl : rr.length = _ := hrr7.1
        have hdl : dr.length = _ := hdo.1
        have hre := restU_len us h60 j
        have hfl := List.length_filter_le (fun x => decide (x ∉ us)) (rowU j (row.count 0 + 1))
        rw [rowU_len] at hfl
        refine ⟨R, D, _, _, rfl, rfl, hR9, hD, ?_, ?_⟩
        · rw [List.length_map, List.length_map]
          exact sz (by omega)
        have tp := TupK.put (K := K) (o := .lst (rr.map V.ref ++ dr.map V.ref)) hR9
        refine ⟨_, _, _, _, rr ++ dr, rfl, Same.put nR0 (s8.trans sm), ?_, by rw [upd_ne uR]; exact hu9, hop9.keep tp, ?_⟩
        · rw [upd_same, List.map_append]
        · rw [restU_succ, hpr]
          exact (hrr9.keep tp).app (hdo.keep tp)
    · rintro σ H7 ⟨y7, y8, y9, y10, rr, rfl, s7, hR7, hu7, hop7, hrr7⟩
      rw [List.length_map, hlr] at hrr7
      refine ⟨2, rfl, by decide, by decide, ?_⟩
      refine for_range (lo := 0) (n := 2) (fun j σ H' => ∃ y9 : Option V, σ = [some (.ref a), some (.ref st), some (.int (0 + (i : Int))), some (.ref t), some (.str (rD rows).shown), some (.ref u), some (.ref R), y7, y8, y9, y10] ∧ Same H7 H')
        ⟨_, rfl, Same.refl H7⟩ ?_ ?_
      · rintro j σ H8 hj ⟨y9, rfl, s8⟩
        have s38 := s7.trans s8
        refine ⟨.ref t, rfl, t, refs, rows, 6, 40, rfl, (ht.same s38).sqT, hR.keep (.of s38), hG, by decide, by decide, fun H9 e us1 er s9 hus1 he heo => ?_⟩
        obtain rfl := hus.unique hus1
        have s39 := s38.trans s9
        refine ⟨.ref t, rfl, t, refs, rows, 6, 40, rfl, (ht.same s39).sqT, hR.keep (.of s39), hG, by decide, by decide, fun H10 d us2 dr s10 hus2 hd hdo => ⟨sz (by show 2 ≤ 1000; decide), fun l1 nl1 => ?_⟩⟩
        obtain rfl := hus.unique hus2
        rw [allU_rest] at hdo
        have s11 : Same H10 (upd H10 l1 (.lst [.ref e, .ref d])) := Same.new nl1
        have hl1 : (upd H10 l1 (.lst [.ref e, .ref d])) l1 = some (.lst [.ref e, .ref d]) := upd_same
        generalize upd H10 l1 (.lst [.ref e, .ref d]) = H11 at s11 hl1 ⊢
        have s811 := (s8.trans s9).trans (s10.trans s11)
        refine ⟨.ref u, rfl, u, _, rfl, .inl ⟨SqL.of (s811 _ _ hu7), fun u1 nu1 => ?_⟩⟩
        have s12 : Same H11 (upd H11 u1 (.tup (ur.map V.ref))) := Same.new nu1
        have hu1 : (upd H11 u1 (.tup (ur.map V.ref))) u1 = some (.tup (ur.map V.ref)) := upd_same
        generalize upd H11 u1 (.tup (ur.map V.ref)) = H12 at s12 hu1 ⊢
        have s812 := s811.trans s12
        refine ⟨.ref R, rfl, R, _, rfl, .inl ⟨SqL.of (s812 _ _ hR7), fun u2 nu2 => ⟨sz (by show 2 ≤ 1000; decide), fun l2 nl2 => ?_⟩⟩⟩
        have s13 : Same H12 (upd H12 u2 (.tup (rr.map V.ref))) := Same.new nu2
        have hu2 : (upd H12 u2 (.tup (rr.map V.ref))) u2 = some (.tup (rr.map V.ref)) := upd_same
        generalize upd H12 u2 (.tup (rr.map V.ref)) = H13 at s13 hu2 nl2 ⊢
        have s14 : Same H13 (upd H13 l2 (.lst [.ref u1, .ref u2])) := Same.new nl2
        have hl2 : (upd H13 l2 (.lst [.ref u1, .ref u2])) l2 = some (.lst [.ref u1, .ref u2]) := upd_same
        generalize upd H13 l2 (.lst [.ref u1, .ref u2]) = H14 at s14 hl2 ⊢
        have hf := twoQ_fine (us := us) (rs := restU rows us rows.length) (Nat.le_of_lt hus.1) (by have := restU_len us h60 rows.length; omega) (need_small h6.2 h60 hus) (rest_small us h6.2 h60)
        have s7e : Same H7 H14 := (s812.trans s13).trans s14
        have s1014 : Same H10 H14 := ((s11.trans s12).trans s13).trans s14
        have s914 : Same H9 H14 := s10.trans s1014
        refine ⟨_, _, twoQ us (restU rows us rows.length), rfl, twoQ_shown hf (s14 _ _ (s13 _ _ (s12 _ _ hl1))) (.inl (.inl (s914 _ _ he))) (.inl (.inl (s1014 _ _ hd))) (heo.keep (.of s914)) (hdo.keep (.of s1014)),
          twoQ_shown hf hl2 (.inl (.inl (s14 _ _ (s13 _ _ hu1)))) (.inl (.inl (s14 _ _ hu2))) (hop7.keep (.of s7e)) (hrr7.keep (.of s7e)), _, rfl, ?_⟩
        exact iteF ⟨_, rfl, s7e⟩
      · rintro σ H8 ⟨y9, rfl, s8⟩
        have s38 := s7.trans s8
        refine ⟨.ref t, rfl, _, rD rows, rfl, hrd (ht.same s38) (hR.keep (.of s38)), _, rfl, rfl, _, rfl, iteNS rfl ?_⟩
        exact ⟨_, _, _, _, _, _, _, _, _, rfl, (hS3.same s38).le (by omega) (by omega)⟩
end

end Sv

/-! the end of a row whose law calls repr: the head's call is made where no repr runs -/
namespace Sv
open PySem PySem.Spec PyProof.Rows L2
section
variable {P : Program} {w : World} {K : PySem.W.Frag} {mg mb : Str → Option Value} {k : Nat} {fa a : Addr} {fd : FuncData} {x : Str} {sp : Sp}
  {s₁ : Shared} {vs : List Value} {ns : List Int}
/-- from one abstract heap that tracks nothing but the script -/
theorem headG_core (H : Hp) (KX : K.In s₁.heap) (hns : s₁.heap.Ns mainGlobals mg) (hb : s₁.heap.Ns builtinsNs mb)
    (hbb : ∀ y : Str, y ≠ "__name__" → mb y = bootBuiltins y) (hlim : s₁.heap.NoLimit) (hg : s₁.gens = #[])
    (ha : s₁.heap.get? a = some { cls := .type "list", data := .seq vs.toArray }) (hr : Room k callerA)
    (F : ∀ base : Heap, K.In base → base.Ns mainGlobals mg → FnG P w K mg base k fa fd [x] sp)
    (hbind : ∀ (s : Shared) (u : Value), BindsTo s fd ⟨[u], []⟩ [(x, u)])
    (hO : Only H) (hsp : sp [.ref a] H (fun v _ => v = .bl true) fun _ _ _ => False)
    (hok : HOk P w H s₁.heap) (hA : ∀ b, H b ≠ none → b = a) (hK : H a ≠ none → K.lookup a = none) :
    codeAny (model P w) callerA (.call (.ref fa) ⟨[.ref a], []⟩)
      (fun r s' => r = .ok (.ret (.bool true)) ∧ OldK s₁.heap s'.heap ∧ s'.os = s₁.os ∧ AllBare s'.gens) s₁ := by
  have tr : ∀ {b : Addr} {u : HO}, H b = some u → b = a := fun {b u} q => hA b (by rw [q]; exact Option.some_ne_none u)
  have under : ∀ {b : Addr} {o : Obj}, s₁.heap.get? b = some o → H b = none → (hidT s₁.heap H).get? b = some o := fun e n => hidT_get e n
  have dictN : ∀ {b : Addr} {o : Obj} {es : Array DictEntry} {ep : Nat}, s₁.heap.get? b = some o → o.data = .dict es ep → H b = none := by
    intro b o es ep e d
    rcases hH : H b with _ | u
    · rfl
    · have eb := tr hH
      rw [eb, ha] at e
      rw [← Option.some.inj e] at d
      exact absurd d (by intro z; cases z)
  have nsK : ∀ {b : Addr} {m : Str → Option Value}, s₁.heap.Ns b m → (hidT s₁.heap H).Ns b m := by
    rintro b m ⟨o, es, ep, e, d, r⟩
    exact ⟨o, es, ep, under e (dictN e d), d, r⟩
  have hKb : K.In (hidT s₁.heap H) := by
    intro b o e
    refine under (KX b o e) ?_
    rcases hH : H b with _ | u
    · rfl
    · have eb := tr hH
      rw [eb] at e hH
      rw [hK (by rw [hH]; exact Option.some_ne_none u)] at e
      cases e
  have hM : Mod K mg (hidT s₁.heap H) := by
    obtain ⟨mc, l1, l2⟩ := hlim
    exact ⟨hKb, nsK hns, ⟨mb, nsK hb, hbb⟩, ⟨mc, nsK l1, l2⟩⟩
  have e0 : Env0 P w K mg (hidT s₁.heap H) callerA [] s₁ H := by
    refine ⟨rfl, hM, fun b o e => of_hidT e, Nat.le_of_eq (hidT_size _ _), trivial, fun b hb => ?_, hok, .of_eq hg⟩
    exact absurd (show b ∈ ([] : List Addr) from hb) List.not_mem_nil
  have hrun := (F _ hKb (nsK hns)).run callerA rfl [] s₁ H ⟨[.ref a], []⟩ [.ref a] [.ref a] _ _ hr e0 (hbind s₁ (.ref a)) (.cons rfl .nil) hsp
  refine codeAny_mono hrun fun r s' h => ?_
  match r, h with
  | .error e, h => exact absurd h id
  | .ok .next, h => exact absurd h id
  | .ok .brk, h => exact absurd h id
  | .ok .cont, h => exact absurd h id
  | .ok (.ret u), h =>
    obtain ⟨v, H', os, bare, un, hok', r', q⟩ := h
    obtain rfl : v = .bl true := q
    obtain rfl : u = Value.bool true := r'
    refine ⟨rfl, OldK.of_keep fun b o e => ?_, os, bare⟩
    rcases hO b with z | ⟨ob, xs, z⟩
    · exact un.keep b o e z (fun m => absurd (show b ∈ ([] : List Addr) from m) List.not_mem_nil) List.not_mem_nil
    · obtain ⟨e1, _⟩ := hok b _ z
      obtain ⟨e2, _⟩ := hok' b _ (un.frzs b ob _ z)
      rw [← e, e1]
      exact e2
theorem headG (KX : K.In s₁.heap) (hns : s₁.heap.Ns mainGlobals mg) (hb : s₁.heap.Ns builtinsNs mb)
    (hbb : ∀ y : Str, y ≠ "__name__" → mb y = bootBuiltins y) (hlim : s₁.heap.NoLimit) (hg : s₁.gens = #[])
    (ha : s₁.heap.get? a = some { cls := .type "list", data := .seq vs.toArray }) (hi : IntsAre vs ns) (hl : ns.length ≤ sizeLine) (hr : Room k callerA)
    (F : ∀ base : Heap, K.In base → base.Ns mainGlobals mg → FnG P w K mg base k fa fd [x] sp)
    (hbind : ∀ (s : Shared) (u : Value), BindsTo s fd ⟨[u], []⟩ [(x, u)])
    (hsp : ∀ H : Hp, Only H → SqL K H a (ns.map V.int) → sp [.ref a] H (fun v _ => v = .bl true) fun _ _ _ => False) :
    codeAny (model P w) callerA (.call (.ref fa) ⟨[.ref a], []⟩)
      (fun r s' => r = .ok (.ret (.bool true)) ∧ OldK s₁.heap s'.heap ∧ s'.os = s₁.os ∧ AllBare s'.gens) s₁ := by
  have rv := vals_ints hi
  rcases hk : K.lookup a with _ | o
  · have hE : ∀ b, (if b = a then some (HO.frz { cls := .type "list", data := .seq vs.toArray } (.lst (ns.map V.int))) else none) ≠ none → b = a := by
      intro b z
      by_cases hb : b = a
      · exact hb
      · rw [if_neg hb] at z
        exact absurd rfl z
    have hO : Only fun b => if b = a then some (HO.frz { cls := .type "list", data := .seq vs.toArray } (.lst (ns.map V.int))) else none := by
      intro b
      by_cases hb : b = a
      · exact .inr ⟨_, _, if_pos hb⟩
      · exact .inl (if_neg hb)
    refine headG_core _ KX hns hb hbb hlim hg ha hr F hbind hO (hsp _ hO (.inl (.inr ⟨_, if_pos rfl⟩))) (fun b u z => ?_) hE fun _ => hk
    have hba : b = a := hE b (by rw [z]; exact Option.some_ne_none u)
    subst hba
    obtain rfl := Option.some.inj ((if_pos rfl).symm.trans z)
    exact ⟨ha, by rw [List.length_map]; exact hl, vs, _, rv, ha⟩
  · have e := KX a o hk
    obtain rfl := Option.some.inj (ha.symm.trans e)
    have hO : Only fun _ => none := fun _ => .inl rfl
    refine headG_core (fun _ => none) KX hns hb hbb hlim hg ha hr F hbind hO (hsp _ hO (.inr ⟨_, vs.toArray, _, hk, rfl, rfl, rfl, ?_, by simpa using rv⟩))
      (fun b u z => absurd (show (none : Option HO) = some u from z) (by intro q; cases q)) (fun b z => absurd rfl z) fun z => absurd rfl z
    rw [List.size_toArray, hi.length]
    exact hl
end
/-- the goal that the head leaves -/
theorem walkG {l : PySem.W.OpenLaw} {n k : Nat} {q : Program} {loose : List Str} {XP : (Str → Option Value) → Heap → Prop} {YP : World → Heap → Prop}
    {d : DefRec} {K : Params → PySem.W.Frag} {sp : PySem.W.Frag → Sp} {x : Str}
    (hn : l.most = some n) (hn2 : n ≤ sizeLine) (hdf : d.params.defaults = []) (hr : Room k callerA)
    (hY : ∀ (w : World) (h : Heap), YP w h → (K w.params).In h)
    (F : ∀ (w : World) (mg : Str → Option Value) (fa : Addr) (h : Heap), (K w.params).In h → h.Ns mainGlobals mg → mg d.name = some (.ref fa) →
      ∃ fd : FuncData, (∀ (s : Shared) (u : Value), BindsTo s fd ⟨[u], []⟩ [(x, u)]) ∧
        ∀ base : Heap, (K w.params).In base → base.Ns mainGlobals mg → FnG l.prog w (K w.params) mg base k fa fd [x] (sp (K w.params)))
    (hsp : ∀ (K : PySem.W.Frag) (H : Hp) (a : Addr) (ns : List Int), ns.length ≤ n → Only H → SqL K H a (ns.map V.int) → sp K [.ref a] H (fun v _ => v = .bl true) fun _ _ _ => False) :
    PySem.W.WalkO q loose XP YP l.row.toRowW d [] (fun f vs => PySem.call f vs) := by
  refine Att.attach_call hn hdf fun w s₀ s₁ mg mb fa o pm cd doc a vs ns G Y ho hd hcd hmg hobj hints hlen hg => ?_
  obtain ⟨fd, hbd, hF⟩ := F w mg fa _ (hY w _ Y) G.T.g hmg
  exact headG (hY w _ Y) G.T.g G.T.b G.T.builtins G.T.nolimit hg hobj hints (Nat.le_trans hlen hn2) hr hF hbd fun H h1 h2 => hsp _ H a ns hlen h1 h2
end Sv

namespace Sv
open PySem PySem.Spec PyProof.Rows L2
theorem all_mk {l : PySem.W.OpenLaw} {w : World} {K : PySem.W.Frag} {h : Heap} {mg : Str → Option Value} {fa f0 f1 f2 f3 f4 f5 f6 f7 f8 f9 f10 f11 f12 f13 f14 f15 f16 f17 f18 f19 f20 f21 f22 f23 f24 : Addr} (X : K.In h) (G : h.Ns mainGlobals mg) (hfa : mg "law" = some (.ref fa))
    {od0 an0 od1 an1 od2 an2 od3 an3 od4 an4 od5 an5 od6 an6 od7 an7 od8 an8 od9 an9 od10 an10 od11 an11 od12 an12 od13 an13 od14 an14 od15 an15 od16 an16 od17 an17 od18 an18 od19 an19 od20 an20 od21 an21 od22 an22 od23 an23 od24 an24 : Option Addr} {sl0 sl1 sl2 sl3 sl4 sl5 sl6 sl7 sl8 sl9 sl10 sl11 sl12 sl13 sl14 sl15 sl16 sl17 sl18 sl19 sl20 sl21 sl22 sl23 sl24 : Array (Option Value)} {oc0 kV0 dc0 pm0 cd0 ct0 oc1 kV1 dc1 pm1 cd1 ct1 oc2 kV2 dc2 pm2 cd2 ct2 oc3 kV3 dc3 pm3 cd3 ct3 oc4 kV4 dc4 pm4 cd4 ct4 oc5 kV5 dc5 pm5 cd5 ct5 oc6 kV6 dc6 pm6 cd6 ct6 oc7 kV7 dc7 pm7 cd7 ct7 oc8 kV8 dc8 pm8 cd8 ct8 oc9 kV9 dc9 pm9 cd9 ct9 oc10 kV10 dc10 pm10 cd10 ct10 oc11 kV11 dc11 pm11 cd11 ct11 oc12 kV12 dc12 pm12 cd12 ct12 oc13 kV13 dc13 pm13 cd13 ct13 oc14 kV14 dc14 pm14 cd14 ct14 oc15 kV15 dc15 pm15 cd15 ct15 oc16 kV16 dc16 pm16 cd16 ct16 oc17 kV17 dc17 pm17 cd17 ct17 oc18 kV18 dc18 pm18 cd18 ct18 oc19 kV19 dc19 pm19 cd19 ct19 oc20 kV20 dc20 pm20 cd20 ct20 oc21 kV21 dc21 pm21 cd21 ct21 oc22 kV22 dc22 pm22 cd22 ct22 oc23 kV23 dc23 pm23 cd23 ct23 oc24 kV24 dc24 pm24 cd24 ct24 : Value}
    (a0 : PySem.W.nsIn K mainGlobals "_law_deck" = some (some (.ref f0))) (l0 : K.lookup f0 = some ⟨oc0, od0, .func (PySem.W.fnOf "_law_deck" "_law_deck" (defArgs sState) (defBody sState) (defScope sState) .none kV0 dc0 pm0 an0 cd0 ct0), sl0⟩) (c0 : PySem.W.codeIn K cd0 "_law_deck" = true) (k0 : PySem.W.keepIn K (.ref f0) = true)
    (a1 : PySem.W.nsIn K mainGlobals "_law_next" = some (some (.ref f1))) (l1 : K.lookup f1 = some ⟨oc1, od1, .func (PySem.W.fnOf "_law_next" "_law_next" (defArgs sDraw) (defBody sDraw) (defScope sDraw) .none kV1 dc1 pm1 an1 cd1 ct1), sl1⟩) (c1 : PySem.W.codeIn K cd1 "_law_next" = true) (k1 : PySem.W.keepIn K (.ref f1) = true)
    (a2 : PySem.W.nsIn K mainGlobals "_law_domino" = some (some (.ref f2))) (l2 : K.lookup f2 = some ⟨oc2, od2, .func (PySem.W.fnOf "_law_domino" "_law_domino" (defArgs sDomino) (defBody sDomino) (defScope sDomino) .none kV2 dc2 pm2 an2 cd2 ct2), sl2⟩) (c2 : PySem.W.codeIn K cd2 "_law_domino" = true) (k2 : PySem.W.keepIn K (.ref f2) = true)
    (a3 : PySem.W.nsIn K mainGlobals "_law_shuffled" = some (some (.ref f3))) (l3 : K.lookup f3 = some ⟨oc3, od3, .func (PySem.W.fnOf "_law_shuffled" "_law_shuffled" (defArgs sMixed) (defBody sMixed) (defScope sMixed) .none kV3 dc3 pm3 an3 cd3 ct3), sl3⟩) (c3 : PySem.W.codeIn K cd3 "_law_shuffled" = true) (k3 : PySem.W.keepIn K (.ref f3) = true)
    (a4 : PySem.W.nsIn K mainGlobals "_law_begun" = some (some (.ref f4))) (l4 : K.lookup f4 = some ⟨oc4, od4, .func (PySem.W.fnOf "_law_begun" "_law_begun" (defArgs sBegun) (defBody sBegun) (defScope sBegun) .none kV4 dc4 pm4 an4 cd4 ct4), sl4⟩) (c4 : PySem.W.codeIn K cd4 "_law_begun" = true) (k4 : PySem.W.keepIn K (.ref f4) = true)
    (a5 : PySem.W.nsIn K mainGlobals "_law_one" = some (some (.ref f5))) (l5 : K.lookup f5 = some ⟨oc5, od5, .func (PySem.W.fnOf "_law_one" "_law_one" (defArgs sPick) (defBody sPick) (defScope sPick) .none kV5 dc5 pm5 an5 cd5 ct5), sl5⟩) (c5 : PySem.W.codeIn K cd5 "_law_one" = true) (k5 : PySem.W.keepIn K (.ref f5) = true)
    (a6 : PySem.W.nsIn K mainGlobals "_law_grown" = some (some (.ref f6))) (l6 : K.lookup f6 = some ⟨oc6, od6, .func (PySem.W.fnOf "_law_grown" "_law_grown" (defArgs sGrown) (defBody sGrown) (defScope sGrown) .none kV6 dc6 pm6 an6 cd6 ct6), sl6⟩) (c6 : PySem.W.codeIn K cd6 "_law_grown" = true) (k6 : PySem.W.keepIn K (.ref f6) = true)
    (a7 : PySem.W.nsIn K mainGlobals "_law_history" = some (some (.ref f7))) (l7 : K.lookup f7 = some ⟨oc7, od7, .func (PySem.W.fnOf "_law_history" "_law_history" (defArgs sHist) (defBody sHist) (defScope sHist) .none kV7 dc7 pm7 an7 cd7 ct7), sl7⟩) (c7 : PySem.W.codeIn K cd7 "_law_history" = true) (k7 : PySem.W.keepIn K (.ref f7) = true)
    (a8 : PySem.W.nsIn K mainGlobals "_law_tops" = some (some (.ref f8))) (l8 : K.lookup f8 = some ⟨oc8, od8, .func (PySem.W.fnOf "_law_tops" "_law_tops" (defArgs sTops) (defBody sTops) (defScope sTops) .none kV8 dc8 pm8 an8 cd8 ct8), sl8⟩) (c8 : PySem.W.codeIn K cd8 "_law_tops" = true) (k8 : PySem.W.keepIn K (.ref f8) = true)
    (a9 : PySem.W.nsIn K mainGlobals "_law_letters" = some (some (.ref f9))) (l9 : K.lookup f9 = some ⟨oc9, od9, .func (PySem.W.fnOf "_law_letters" "_law_letters" (defArgs sLetters) (defBody sLetters) (defScope sLetters) .none kV9 dc9 pm9 an9 cd9 ct9), sl9⟩) (c9 : PySem.W.codeIn K cd9 "_law_letters" = true) (k9 : PySem.W.keepIn K (.ref f9) = true)
    (a10 : PySem.W.nsIn K mainGlobals "_law_spots" = some (some (.ref f10))) (l10 : K.lookup f10 = some ⟨oc10, od10, .func (PySem.W.fnOf "_law_spots" "_law_spots" (defArgs sSpots) (defBody sSpots) (defScope sSpots) .none kV10 dc10 pm10 an10 cd10 ct10), sl10⟩) (c10 : PySem.W.codeIn K cd10 "_law_spots" = true) (k10 : PySem.W.keepIn K (.ref f10) = true)
    (a11 : PySem.W.nsIn K mainGlobals "_law_places" = some (some (.ref f11))) (l11 : K.lookup f11 = some ⟨oc11, od11, .func (PySem.W.fnOf "_law_places" "_law_places" (defArgs sPlaces) (defBody sPlaces) (defScope sPlaces) .none kV11 dc11 pm11 an11 cd11 ct11), sl11⟩) (c11 : PySem.W.codeIn K cd11 "_law_places" = true) (k11 : PySem.W.keepIn K (.ref f11) = true)
    (a12 : PySem.W.nsIn K mainGlobals "_law_sunk" = some (some (.ref f12))) (l12 : K.lookup f12 = some ⟨oc12, od12, .func (PySem.W.fnOf "_law_sunk" "_law_sunk" (defArgs sSunk) (defBody sSunk) (defScope sSunk) .none kV12 dc12 pm12 an12 cd12 ct12), sl12⟩) (c12 : PySem.W.codeIn K cd12 "_law_sunk" = true) (k12 : PySem.W.keepIn K (.ref f12) = true)
    (a13 : PySem.W.nsIn K mainGlobals "state_numbers" = some (some (.ref f13))) (l13 : K.lookup f13 = some ⟨oc13, od13, .func (PySem.W.fnOf "state_numbers" "state_numbers" (defArgs sNums) (defBody sNums) (defScope sNums) .none kV13 dc13 pm13 an13 cd13 ct13), sl13⟩) (c13 : PySem.W.codeIn K cd13 "state_numbers" = true) (k13 : PySem.W.keepIn K (.ref f13) = true)
    (a14 : PySem.W.nsIn K mainGlobals "happened_at" = some (some (.ref f14))) (l14 : K.lookup f14 = some ⟨oc14, od14, .func (PySem.W.fnOf "happened_at" "happened_at" (defArgs sHap) (defBody sHap) (defScope sHap) .none kV14 dc14 pm14 an14 cd14 ct14), sl14⟩) (c14 : PySem.W.codeIn K cd14 "happened_at" = true) (k14 : PySem.W.keepIn K (.ref f14) = true)
    (a15 : PySem.W.nsIn K mainGlobals "trips_of" = some (some (.ref f15))) (l15 : K.lookup f15 = some ⟨oc15, od15, .func (PySem.W.fnOf "trips_of" "trips_of" (defArgs sTrips) (defBody sTrips) (defScope sTrips) .none kV15 dc15 pm15 an15 cd15 ct15), sl15⟩) (c15 : PySem.W.codeIn K cd15 "trips_of" = true) (k15 : PySem.W.keepIn K (.ref f15) = true)
    (a16 : PySem.W.nsIn K mainGlobals "is_orphan" = some (some (.ref f16))) (l16 : K.lookup f16 = some ⟨oc16, od16, .func (PySem.W.fnOf "is_orphan" "is_orphan" (defArgs sIsOrph) (defBody sIsOrph) (defScope sIsOrph) .none kV16 dc16 pm16 an16 cd16 ct16), sl16⟩) (c16 : PySem.W.codeIn K cd16 "is_orphan" = true) (k16 : PySem.W.keepIn K (.ref f16) = true)
    (a17 : PySem.W.nsIn K mainGlobals "lowered" = some (some (.ref f17))) (l17 : K.lookup f17 = some ⟨oc17, od17, .func (PySem.W.fnOf "lowered" "lowered" (defArgs sLowered) (defBody sLowered) (defScope sLowered) .none kV17 dc17 pm17 an17 cd17 ct17), sl17⟩) (c17 : PySem.W.codeIn K cd17 "lowered" = true) (k17 : PySem.W.keepIn K (.ref f17) = true)
    (a18 : PySem.W.nsIn K mainGlobals "fall_back" = some (some (.ref f18))) (l18 : K.lookup f18 = some ⟨oc18, od18, .func (PySem.W.fnOf "fall_back" "fall_back" (defArgs sFall) (defBody sFall) (defScope sFall) .none kV18 dc18 pm18 an18 cd18 ct18), sl18⟩) (c18 : PySem.W.codeIn K cd18 "fall_back" = true) (k18 : PySem.W.keepIn K (.ref f18) = true)
    (a19 : PySem.W.nsIn K mainGlobals "_law_same" = some (some (.ref f19))) (l19 : K.lookup f19 = some ⟨oc19, od19, .func (PySem.W.fnOf "_law_same" "_law_same" (defArgs sSame) (defBody sSame) (defScope sSame) .none kV19 dc19 pm19 an19 cd19 ct19), sl19⟩) (c19 : PySem.W.codeIn K cd19 "_law_same" = true) (k19 : PySem.W.keepIn K (.ref f19) = true)
    (a20 : PySem.W.nsIn K mainGlobals "all_states" = some (some (.ref f20))) (l20 : K.lookup f20 = some ⟨oc20, od20, .func (PySem.W.fnOf "all_states" "all_states" (defArgs sAll) (defBody sAll) (defScope sAll) .none kV20 dc20 pm20 an20 cd20 ct20), sl20⟩) (c20 : PySem.W.codeIn K cd20 "all_states" = true) (k20 : PySem.W.keepIn K (.ref f20) = true)
    (a21 : PySem.W.nsIn K mainGlobals "needed_states" = some (some (.ref f21))) (l21 : K.lookup f21 = some ⟨oc21, od21, .func (PySem.W.fnOf "needed_states" "needed_states" (defArgs sNeeded) (defBody sNeeded) (defScope sNeeded) .none kV21 dc21 pm21 an21 cd21 ct21), sl21⟩) (c21 : PySem.W.codeIn K cd21 "needed_states" = true) (k21 : PySem.W.keepIn K (.ref f21) = true)
    (a22 : PySem.W.nsIn K mainGlobals "deletable_states" = some (some (.ref f22))) (l22 : K.lookup f22 = some ⟨oc22, od22, .func (PySem.W.fnOf "deletable_states" "deletable_states" (defArgs sDelet) (defBody sDelet) (defScope sDelet) .none kV22 dc22 pm22 an22 cd22 ct22), sl22⟩) (c22 : PySem.W.codeIn K cd22 "deletable_states" = true) (k22 : PySem.W.keepIn K (.ref f22) = true)
    (a23 : PySem.W.nsIn K mainGlobals "_law_needed" = some (some (.ref f23))) (l23 : K.lookup f23 = some ⟨oc23, od23, .func (PySem.W.fnOf "_law_needed" "_law_needed" (defArgs sLneed) (defBody sLneed) (defScope sLneed) .none kV23 dc23 pm23 an23 cd23 ct23), sl23⟩) (c23 : PySem.W.codeIn K cd23 "_law_needed" = true) (k23 : PySem.W.keepIn K (.ref f23) = true)
    (a24 : PySem.W.nsIn K mainGlobals "law" = some (some (.ref f24))) (l24 : K.lookup f24 = some ⟨oc24, od24, .func (PySem.W.fnOf "law" "law" (defArgs sLaw) (defBody sLaw) (defScope sLaw) .none kV24 dc24 pm24 an24 cd24 ct24), sl24⟩) (c24 : PySem.W.codeIn K cd24 "law" = true) (k24 : PySem.W.keepIn K (.ref f24) = true)
    (z0 : PySem.W.nsIn K mainGlobals "len" = some none) (z1 : PySem.W.nsIn K mainGlobals "list" = some none) (z2 : PySem.W.nsIn K mainGlobals "tuple" = some none) (z3 : PySem.W.nsIn K mainGlobals "range" = some none) (z4 : PySem.W.nsIn K mainGlobals "abs" = some none) (z5 : PySem.W.nsIn K mainGlobals "repr" = some none) (z6 : PySem.W.nsIn K mainGlobals "enumerate" = some none) (z7 : PySem.W.nsIn K mainGlobals "zip" = some none) (z8 : PySem.W.nsIn K mainGlobals "min" = some none) (z9 : PySem.W.nsIn K mainGlobals "max" = some none) (z10 : PySem.W.nsIn K mainGlobals "sorted" = some none) (z11 : PySem.W.nsIn K mainGlobals "int" = some none) (z12 : PySem.W.nsIn K mainGlobals "set" = some none) :
    ∃ fd : FuncData, (∀ (s : Shared) (v : Value), BindsTo s fd ⟨[v], []⟩ [("_law_script", v)]) ∧ ∀ base : Heap, K.In base → base.Ns mainGlobals mg → FnG l.prog w K mg base 6 fa fd ["_law_script"] (spLaw K) := by
  have e := hfa.symm.trans (PySem.W.mg_of X G a24)
  cases e
  have F0 := fun_mk (st := sState) l0 c0 k0
  have b0 := F0.binds (ps := ["_law_script"]) fun _ _ _ _ _ _ us hl => match us, hl with | [_], _ => rfl
  have F1 := fun_mk (st := sDraw) l1 c1 k1
  have b1 := F1.binds (ps := ["_law_deck_here", "_law_many"]) fun _ _ _ _ _ _ us hl => match us, hl with | [_, _], _ => rfl
  have F2 := fun_mk (st := sDomino) l2 c2 k2
  have b2 := F2.binds (ps := ["_law_deck_here", "_law_most"]) fun _ _ _ _ _ _ us hl => match us, hl with | [_, _], _ => rfl
  have F3 := fun_mk (st := sMixed) l3 c3 k3
  have b3 := F3.binds (ps := ["_law_deck_here", "_law_items"]) fun _ _ _ _ _ _ us hl => match us, hl with | [_, _], _ => rfl
  have F4 := fun_mk (st := sBegun) l4 c4 k4
  have b4 := F4.binds (ps := ["_law_deck_here", "_law_many"]) fun _ _ _ _ _ _ us hl => match us, hl with | [_, _], _ => rfl
  have F5 := fun_mk (st := sPick) l5 c5 k5
  have b5 := F5.binds (ps := ["_law_deck_here", "_law_items"]) fun _ _ _ _ _ _ us hl => match us, hl with | [_, _], _ => rfl
  have F6 := fun_mk (st := sGrown) l6 c6 k6
  have b6 := F6.binds (ps := ["_law_deck_here", "_law_state"]) fun _ _ _ _ _ _ us hl => match us, hl with | [_, _], _ => rfl
  have F7 := fun_mk (st := sHist) l7 c7 k7
  have b7 := F7.binds (ps := ["_law_deck_here", "_law_many", "_law_most"]) fun _ _ _ _ _ _ us hl => match us, hl with | [_, _, _], _ => rfl
  have F8 := fun_mk (st := sTops) l8 c8 k8
  have b8 := F8.binds (ps := ["_law_rows", "_law_lost"]) fun _ _ _ _ _ _ us hl => match us, hl with | [_, _], _ => rfl
  have F9 := fun_mk (st := sLetters) l9 c9 k9
  have b9 := F9.binds (ps := ["_law_rows"]) fun _ _ _ _ _ _ us hl => match us, hl with | [_], _ => rfl
  have F10 := fun_mk (st := sSpots) l10 c10 k10
  have b10 := F10.binds (ps := ["_law_row"]) fun _ _ _ _ _ _ us hl => match us, hl with | [_], _ => rfl
  have F11 := fun_mk (st := sPlaces) l11 c11 k11
  have b11 := F11.binds (ps := ["_law_rows", "_law_cut"]) fun _ _ _ _ _ _ us hl => match us, hl with | [_, _], _ => rfl
  have F12 := fun_mk (st := sSunk) l12 c12 k12
  have b12 := F12.binds (ps := ["_law_rows", "_law_lost"]) fun _ _ _ _ _ _ us hl => match us, hl with | [_, _], _ => rfl
  have F13 := fun_mk (st := sNums) l13 c13 k13
  have b13 := F13.binds (ps := ["history"]) fun _ _ _ _ _ _ us hl => match us, hl with | [_], _ => rfl
  have F14 := fun_mk (st := sHap) l14 c14 k14
  have b14 := F14.binds (ps := ["history", "event"]) fun _ _ _ _ _ _ us hl => match us, hl with | [_, _], _ => rfl
  have F15 := fun_mk (st := sTrips) l15 c15 k15
  have b15 := F15.binds (ps := ["history"]) fun _ _ _ _ _ _ us hl => match us, hl with | [_], _ => rfl
  have F16 := fun_mk (st := sIsOrph) l16 c16 k16
  have b16 := F16.binds (ps := ["trip", "line"]) fun _ _ _ _ _ _ us hl => match us, hl with | [_, _], _ => rfl
  have F17 := fun_mk (st := sLowered) l17 c17 k17
  have b17 := F17.binds (ps := ["trips", "high"]) fun _ _ _ _ _ _ us hl => match us, hl with | [_, _], _ => rfl
  have F18 := fun_mk (st := sFall) l18 c18 k18
  have b18 : BStar1 (PySem.W.fnOf "fall_back" "fall_back" (defArgs sFall) (defBody sFall) (defScope sFall) .none kV18 dc18 pm18 an18 cd18 ct18) "history" "failed" := fun us rest hl => StX.bind_star1 (B := fun us => bindArgs (PySem.W.fnOf "fall_back" "fall_back" (defArgs sFall) (defBody sFall) (defScope sFall) .none kV18 dc18 pm18 an18 cd18 ct18) ⟨us, []⟩) (fun _ => rfl) (fun _ _ _ => rfl) us rest hl
  have F19 := fun_mk (st := sSame) l19 c19 k19
  have b19 := F19.binds (ps := ["_law_found", "_law_due"]) fun _ _ _ _ _ _ us hl => match us, hl with | [_, _], _ => rfl
  have F20 := fun_mk (st := sAll) l20 c20 k20
  have b20 := F20.binds (ps := ["history"]) fun _ _ _ _ _ _ us hl => match us, hl with | [_], _ => rfl
  have F21 := fun_mk (st := sNeeded) l21 c21 k21
  have b21 := F21.binds (ps := ["history"]) fun _ _ _ _ _ _ us hl => match us, hl with | [_], _ => rfl
  have F22 := fun_mk (st := sDelet) l22 c22 k22
  have b22 := F22.binds (ps := ["history"]) fun _ _ _ _ _ _ us hl => match us, hl with | [_], _ => rfl
  have F23 := fun_mk (st := sLneed) l23 c23 k23
  have b23 := F23.binds (ps := ["_law_rows"]) fun _ _ _ _ _ _ us hl => match us, hl with | [_], _ => rfl
  have F24 := fun_mk (st := sLaw) l24 c24 k24
  exact ⟨PySem.W.fnOf "law" "law" (defArgs sLaw) (defBody sLaw) (defScope sLaw) .none kV24 dc24 pm24 an24 cd24 ct24, fun s v => .of_eq rfl, fun base _ _ => ok_law F24 F0 b0 (PySem.W.mg_of X G a0) F1 b1 (PySem.W.mg_of X G a1) F2 b2 (PySem.W.mg_of X G a2) F3 b3 (PySem.W.mg_of X G a3) F4 b4 (PySem.W.mg_of X G a4) F5 b5 (PySem.W.mg_of X G a5) F6 b6 (PySem.W.mg_of X G a6) F7 b7 (PySem.W.mg_of X G a7) F8 b8 (PySem.W.mg_of X G a8) F9 b9 (PySem.W.mg_of X G a9) F10 b10 (PySem.W.mg_of X G a10) F11 b11 (PySem.W.mg_of X G a11) F12 b12 (PySem.W.mg_of X G a12) F13 b13 (PySem.W.mg_of X G a13) F14 b14 (PySem.W.mg_of X G a14) F15 b15 (PySem.W.mg_of X G a15) F16 b16 (PySem.W.mg_of X G a16) F17 b17 (PySem.W.mg_of X G a17) F18 b18 (PySem.W.mg_of X G a18) F19 b19 (PySem.W.mg_of X G a19) F20 b20 (PySem.W.mg_of X G a20) F21 b21 (PySem.W.mg_of X G a21) F22 b22 (PySem.W.mg_of X G a22) F23 b23 (PySem.W.mg_of X G a23) (PySem.W.mg_none_of X G z0) (PySem.W.mg_none_of X G z1) (PySem.W.mg_none_of X G z2) (PySem.W.mg_none_of X G z3) (PySem.W.mg_none_of X G z4) (PySem.W.mg_none_of X G z5) (PySem.W.mg_none_of X G z6) (PySem.W.mg_none_of X G z7) (PySem.W.mg_none_of X G z8) (PySem.W.mg_none_of X G z9) (PySem.W.mg_none_of X G z10) (PySem.W.mg_none_of X G z11) (PySem.W.mg_none_of X G z12)⟩
end Sv

open PySem PySem.W PyProof.Rows in
set_option maxRecDepth 100000 in
set_option maxHeartbeats 0 in
theorem PySem.Challenge.cw_savelines_k43_needed_and_deletable_state_holds : PySem.Challenge.rw_savelines_k43_needed_and_deletable_state.Holds := by
  w_on; o_law; k_head; (case hw => w_witness2)
  k_fill
  refine Sv.walkG (l := PySem.Challenge.rw_savelines_k43_needed_and_deletable_state) (n := 63) (k := 6) (x := "_law_script") (sp := Sv.spLaw) rfl (by decide) rfl ⟨rfl, by decide, by decide⟩ (fun w h Y => PySem.W.kIn_of Y) ?F (fun K H a ns hl _ hS => ⟨a, ns, rfl, hS, hl, fun _ => rfl⟩)
  case F =>
    intro w mg fa h KX G hmg
    refine' Sv.all_mk KX G hmg ?a0 ?l0 ?c0 ?k0 ?a1 ?l1 ?c1 ?k1 ?a2 ?l2 ?c2 ?k2 ?a3 ?l3 ?c3 ?k3 ?a4 ?l4 ?c4 ?k4 ?a5 ?l5 ?c5 ?k5 ?a6 ?l6 ?c6 ?k6 ?a7 ?l7 ?c7 ?k7 ?a8 ?l8 ?c8 ?k8 ?a9 ?l9 ?c9 ?k9 ?a10 ?l10 ?c10 ?k10 ?a11 ?l11 ?c11 ?k11 ?a12 ?l12 ?c12 ?k12 ?a13 ?l13 ?c13 ?k13 ?a14 ?l14 ?c14 ?k14 ?a15 ?l15 ?c15 ?k15 ?a16 ?l16 ?c16 ?k16 ?a17 ?l17 ?c17 ?k17 ?a18 ?l18 ?c18 ?k18 ?a19 ?l19 ?c19 ?k19 ?a20 ?l20 ?c20 ?k20 ?a21 ?l21 ?c21 ?k21 ?a22 ?l22 ?c22 ?k22 ?a23 ?l23 ?c23 ?k23 ?a24 ?l24 ?c24 ?k24 ?z0 ?z1 ?z2 ?z3 ?z4 ?z5 ?z6 ?z7 ?z8 ?z9 ?z10 ?z11 ?z12
    (case a0 => k_is)
    (case l0 => k_is)
    (case c0 => k_is)
    (case k0 => k_is)
    (case a1 => k_is)
    (case l1 => k_is)
    (case c1 => k_is)
    (case k1 => k_is)
    (case a2 => k_is)
    (case l2 => k_is)
    (case c2 => k_is)
    (case k2 => k_is)
    (case a3 => k_is)
    (case l3 => k_is)
    (case c3 => k_is)
    (case k3 => k_is)
    (case a4 => k_is)
    (case l4 => k_is)
    (case c4 => k_is)
    (case k4 => k_is)
    (case a5 => k_is)
    (case l5 => k_is)
    (case c5 => k_is)
    (case k5 => k_is)
    (case a6 => k_is)
    (case l6 => k_is)
    (case c6 => k_is)
    (case k6 => k_is)
    (case a7 => k_is)
    (case l7 => k_is)
    (case c7 => k_is)
    (case k7 => k_is)
    (case a8 => k_is)
    (case l8 => k_is)
    (case c8 => k_is)
    (case k8 => k_is)
    (case a9 => k_is)
    (case l9 => k_is)
    (case c9 => k_is)
    (case k9 => k_is)
    (case a10 => k_is)
    (case l10 => k_is)
    (case c10 => k_is)
    (case k10 => k_is)
    (case a11 => k_is)
    (case l11 => k_is)
    (case c11 => k_is)
    (case k11 => k_is)
    (case a12 => k_is)
    (case l12 => k_is)
    (case c12 => k_is)
    (case k12 => k_is)
    (case a13 => k_is)
    (case l13 => k_is)
    (case c13 => k_is)
    (case k13 => k_is)
    (case a14 => k_is)
    (case l14 => k_is)
    (case c14 => k_is)
    (case k14 => k_is)
    (case a15 => k_is)
    (case l15 => k_is)
    (case c15 => k_is)
    (case k15 => k_is)
    (case a16 => k_is)
    (case l16 => k_is)
    (case c16 => k_is)
    (case k16 => k_is)
    (case a17 => k_is)
    (case l17 => k_is)
    (case c17 => k_is)
    (case k17 => k_is)
    (case a18 => k_is)
    (case l18 => k_is)
    (case c18 => k_is)
    (case k18 => k_is)
    (case a19 => k_is)
    (case l19 => k_is)
    (case c19 => k_is)
    (case k19 => k_is)
    (case a20 => k_is)
    (case l20 => k_is)
    (case c20 => k_is)
    (case k20 => k_is)
    (case a21 => k_is)
    (case l21 => k_is)
    (case c21 => k_is)
    (case k21 => k_is)
    (case a22 => k_is)
    (case l22 => k_is)
    (case c22 => k_is)
    (case k22 => k_is)
    (case a23 => k_is)
    (case l23 => k_is)
    (case c23 => k_is)
    (case k23 => k_is)
    (case a24 => k_is)
    (case l24 => k_is)
    (case c24 => k_is)
    (case k24 => k_is)
    (case z0 => k_is)
    (case z1 => k_is)
    (case z2 => k_is)
    (case z3 => k_is)
    (case z4 => k_is)
    (case z5 => k_is)
    (case z6 => k_is)
    (case z7 => k_is)
    (case z8 => k_is)
    (case z9 => k_is)
    (case z10 => k_is)
    (case z11 => k_is)
    (case z12 => k_is)
