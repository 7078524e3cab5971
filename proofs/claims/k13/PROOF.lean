import PyProof.Rows.All
import Wide.All
import OpenK.AllK
import Wide.FinOn
import PyProof.EqAt
import PyProof.EqKinds
import PyProof.TupleCall
import HandS.ForMost
import HandS.Conv
import HandS.Style
import HandS.Deep
import KE.DataFind
import PyProof.ReprRoads
import KE.GoesEnum
import HandS.Star
import HandS.Iter
import HandS.IsInst
import HandS.Strs
import HandS.Zip
import HandS.Walk
import HandS.Comp
import HandS.DictComp
import HandS.RaiseMore
import PyProof.CallFns
import HandS.TupMul
import HandS.TupAny
import PySem.Challenge.RW_savelines_k13_lines_judged
set_option Elab.async false
set_option linter.all false
set_option maxRecDepth 100000
/-! repr where nothing of repr is under way: promises that know the guards; text of data; more of tuples. -/
namespace Sv
open PySem PySem.Spec PyProof.Rows L2

/-- a def's promise for calls made where no repr runs -/
structure FnG (P : Program) (w : World) (K : PySem.W.Frag) (mg : Str → Option Value) (base : Heap)
    (k : Nat) (f : Addr) (fd : FuncData) (ps : List Str) (sp : Sp) : Prop where
  len : ∀ vs H Q E, sp vs H Q E → vs.length = ps.length
  run : ∀ (A : Around), A.guards = some [] →
    ∀ (outer : List Env) (s : Shared) (H : Hp) (args : Args) (us : List Value) (vs : List V) (Q : VK) (E : XK),
    Room k A → Env0 P w K mg base A outer s H → BindsTo s fd args (ps.zip us) → Vals vs us → sp vs H Q E →
    codeAny (model P w) A (.call (.ref f) args) (CR CX0 outer P w H s Q E) s

section
variable {P : Program} {w : World} {K : PySem.W.Frag} {mg : Str → Option Value} {base : Heap}

theorem FnG.ofOk {k : Nat} {f : Addr} {fd : FuncData} {ps : List Str} {sp : Sp}
    (F : FnOk P w K mg base CX0 k f fd ps sp) : FnG P w K mg base k f fd ps sp :=
  ⟨F.len, fun A _ outer s H args us vs Q E => F.run A outer s H args us vs Q E⟩

/-- the def's body, where no repr runs -/
theorem okG {x qual : Str} {st : Stmt} {f : Addr} {fd : FuncData} {N ps : List Str} {k : Nat} {sp : Sp}
    (F : Fun K x qual st f fd) (S : FnScope N ps (defScope st)) (len : ∀ vs H Q E, sp vs H Q E → vs.length = ps.length)
    (hbody : ∀ (cdv : Value) (A : Around) (outer : List Env) (s : Shared) (H : Hp) (vs : List V) (Q : VK) (E : XK),
      A.guards = some [] → Room k (A.deeper (envOfC qual (defScope st) s.heap.objs.size f cdv)) → sp vs H Q E →
      ∃ t, PSs (cxOf CX0 P w K mg base N qual (defScope st) f cdv A outer s H E).nox (defBody st) t ∧
        t { nx := fun _ H' => Q .non H', rt := Q } (start N vs) H) :
    FnG P w K mg base (k + 1) f fd ps sp := by
  obtain ⟨oc, od, kV, doc, pm, an, cdv, ct, osl, rfl, lk, hcd⟩ := F.ex
  refine ⟨len, fun A hg outer s H args us vs Q E hr e0 hb r hsp => ?_⟩
  have hl := len vs H Q E hsp
  have KX : K.In s.heap := e0.mod.kin.keeps fun b o e => And.left (e0.bs b o e)
  have lim := e0.mod.nolimit.keeps fun b o e => And.left (e0.bs b o e)
  have hkind : ∀ y ∈ ps.zip us, (defScope st).names.lookup y.1 = some .local ∨
      ((defScope st).names.lookup y.1 = some .cell ∧
        ((cellsFrom (s.heap.objs.size + 1) (defScope st).names []).lookup y.1).isSome = true) := by
    rintro ⟨n, v⟩ hy
    cases S.par n (List.of_mem_zip hy).1 with
    | inl q => exact Or.inl q
    | inr q => exact Or.inr ⟨q, PySem.W.cellsFrom_some _ _ _ (Or.inl q)⟩
  refine codeAny_call_function hr.depth (KX _ _ lk) rfl S.co S.gen rfl (PySem.W.codeRec_of KX hcd) (hb _ _ _ _ ?_)
  refine wpAny_newFunctionEnv_cells S.kind hkind fun env he s1 X1 => ?_
  subst he
  refine ⟨lim.keeps X1.toInCall.keep, codeAny_func ?_⟩
  obtain ⟨t, ht0, hq⟩ := hbody cdv A outer s H vs Q E hg (hr.deeper _) hsp
  have ht := ht0.nox
  have I0 := inv_start (CX := CX0) (E := E) S hr.hd e0 hl r X1
  refine wpAny_mono (ht.run [] s1 (start N vs) H _ I0 hq) (fun fl s' hs => ?_) (fun e s' hs => hs)
  cases fl with
  | ret u =>
    obtain ⟨v, σ', H', J, rv, q⟩ := hs
    exact ⟨v, H', J.os, J.bare, J.base, J.hok, rv, q⟩
  | next =>
    obtain ⟨σ', H', J, q⟩ := hs
    exact ⟨V.non, H', J.os, J.bare, J.base, J.hok, rfl, q⟩
  | brk =>
    obtain ⟨σ', H', J, q⟩ := hs
    exact q.elim
  | cont =>
    obtain ⟨σ', H', J, q⟩ := hs
    exact q.elim
end

section
variable {X : Cx} {k : Nat} {f : Addr} {fd : FuncData} {ps : List Str} {sp : Sp} {dvs : List V} {ds : List Value}
  {E : XK} {x : Str} {p pos : Pos} {e : Expr} {es : List Expr} {t : TA}

/-- f(e, ..) of such a def -/
theorem pe_callG (F : FnG X.prog X.w X.K X.mg X.base k f fd ps sp) (hgd : X.A.guards = some []) (hr : Room k X.A) (hg : Gl X x)
    (hm : X.mg x = some (.ref f)) (hk : PySem.W.keepIn X.K (.ref f) = true) (hb : Binds X.K fd ps ds) (hd : Vals dvs ds)
    (hx : Passes CX0 X E) (ha : PA X (e :: es) t) (hdb : (x == ("__debug__" : Str)) = false := by decide)
    (he : starEach (e :: es) X.env = (false, eval e X.env) :: starEach es X.env := by rfl)
    (hpl : (backTo pos (starEach es X.env)).any (·.1) = false := by rfl) :
    PE X (.Call (.Name x p) (e :: es) [] pos) (tCall sp dvs E t) := by
  refine ⟨fun pins s σ H Q I h => wpAny_Call_Name_kw (ld_glob I hg hm ?_ hdb)⟩
  refine PySem.W.callWith_K (h₀ := X.base) I.ok.mod.kin hk
    (thn (ha.run pos pins s σ H _ I h) fun us s1 ⟨vs, H1, I1, r, q⟩ => ⟨I1.kIn, ?_⟩) he hpl
  have r2 : Vals (vs ++ dvs) (us ++ ds) := r.append hd
  have hl : (us ++ ds).length = ps.length := r2.length.symm.trans (F.len _ _ _ _ q)
  refine wpAny_call (codeAny_mono (F.run X.A hgd X.stack s1 H1 ⟨us, []⟩ (us ++ ds) (vs ++ dvs) Q E hr I1.env0
    (hb s1 us I1.kIn hl) r2 q) fun res s' hq => ?_)
  cases res with
  | error e => exact hx pins σ H1 s1 e s' I1 hq
  | ok fl =>
    cases fl with
    | ret u => exact I1.after hq
    | next => exact hq.elim
    | brk => exact hq.elim
    | cont => exact hq.elim
end

/-! ### the text of data -/
section
variable {X : Cx}
def Shown (K : PySem.W.Frag) (H : Hp) (v : V) (d : PyData) : Prop :=
  Dp K H v d ∧ isDisplay d = true ∧ d.showable = true ∧ d.hasDict = false ∧ d.depth ≤ 60 ∧ d.shown.length ≤ sizeLine
/-- repr(x) of lists and tuples -/
theorem call_repr (hgd : X.A.guards = some []) (hu : X.A.units + 64 < cLine) : CallR X (.builtin "repr")
    (fun xs H Q => ∃ v d, xs = [v] ∧ Shown X.K H v d ∧ Q (.str d.shown) H) := by
  intro pins s σ H xs us Q I r h
  obtain ⟨v, d, rfl, ⟨hd, h1, h2, h3, h4, h5⟩, q⟩ := h
  obtain ⟨u, rfl, ru⟩ := vals1 r
  obtain ⟨as, R⟩ := Dp.reads I d v u hd ru
  obtain ⟨a, rfl⟩ := isRef_of_reads R h1
  refine repr_of_reads' R h2 (PyData.noDict_hsm h3) hgd (by omega) (fun _ _ e => e) (fun h' tk1 tk2 hk => ?_) h5
  exact ⟨.str _, H, I.kept (t' := tk2) hk, ⟨tk1, rfl⟩, q⟩
end

/-! ### tuples -/
section
variable {X : Cx}
/-- t + u, the left one empty: the right one itself -/
theorem op_catE : OpR X (binaryOp .Add) (fun x y H Q => ∃ a b ys, x = .ref a ∧ y = .ref b ∧ SqT X.K H a [] ∧ SqT X.K H b ys ∧ ys ≠ [] ∧ Q (.ref b) H) := by
  intro pins s σ H x y v u Q I rx ry h
  obtain ⟨a, b, ys, rfl, rfl, ha, hb, hy, q⟩ := h
  cases rx
  cases ry
  obtain ⟨its, r1, p1, _⟩ := I.tuple ha
  obtain ⟨its2, r2, p2, _⟩ := I.tuple hb
  have e1 : its = [] := r1.nil_iff.mpr rfl
  subst e1
  obtain ⟨⟨c1, d1, t1, l1⟩, o1, h1, n1, g1⟩ := id p1
  obtain ⟨⟨c2, d2, t2, l2⟩, o2, h2, n2, g2⟩ := id p2
  simp only at h1 g1 h2 g2
  subst h1 g1 h2 g2
  exact concat_meets ⟨_, o1, rfl⟩ ⟨_, o2, rfl⟩ noFill_tuple_add seq_tuple_add PySem.F.slot_tuple_add PySem.F.entry_tuple_add
    (PySem.F.args_tuple_add_2 _ _) (tuple_addW0 a b _ _ n1 n2 d1 d2 l1 l2 (by rfl)) ⟨o1, o2, ⟨.ref b, H, I, rfl, q⟩⟩
end

/-! ### tuples that are known to bear no dict (their methods may be called) -/
def TupN (H : Hp) (a : Addr) (xs : List V) : Prop := ∃ o : Obj, H a = some (.frz o (.tup xs)) ∧ o.dict = none
theorem TupN.sqT {K : PySem.W.Frag} {H : Hp} {a : Addr} {xs : List V} (h : TupN H a xs) : SqT K H a xs := by
  obtain ⟨o, h, _⟩ := h
  exact .inl (.inr ⟨o, h⟩)
theorem TupN.same {H H' : Hp} {a : Addr} {xs : List V} (h : TupN H a xs) (e : ∀ b o, H b = some o → H' b = some o) : TupN H' a xs := by
  obtain ⟨o, h, d⟩ := h
  exact ⟨o, e _ _ h, d⟩
theorem TupN.new {H : Hp} {p : Addr} {o : Obj} {xs : List V} (d : o.dict = none) : TupN (upd H p (.frz o (.tup xs))) p xs := ⟨o, upd_same, d⟩
section
variable {X : Cx} {es : List Expr} {t : TA} {pos : Pos}
def tTupF (t : TA) : TE := fun σ H Q => t σ H fun xs H1 => xs.length ≤ sizeLine ∧ ∀ (p : Addr) (o : Obj), H1 p = none → o.dict = none → Q (.ref p) (upd H1 p (.frz o (.tup xs)))
theorem pe_tupF {x1} (h : PA X es t) : PE X (.Tuple es x1 pos) (tTupF t) := by
  refine ⟨fun pins s σ H Q I hq => ?_⟩
  refine wpAny_Tuple_spliced (thn (h.run pos pins s σ H _ I hq) fun us s1 ⟨xs, H1, I1, r, z, q⟩ => ⟨r.length ▸ z, ?_⟩)
  have hf : H1 s1.heap.objs.size = none := I1.hok.fresh (Nat.le_refl _)
  have hg := Heap.get?_push_size s1.heap (o := { cls := .type "tuple", data := .seq us.toArray }) rfl
  refine ⟨.ref s1.heap.objs.size, _, I1.laid (t' := s1.toks) (o := .frz { cls := .type "tuple", data := .seq us.toArray } (.tup xs)) (fun b u e => Heap.get?_push_of_some _ e) (Nat.le_refl _) ?_, rfl, q _ _ hf rfl⟩
  exact ⟨hg, z, us, r, ⟨_, hg, rfl, _, rfl⟩⟩
/-- t + u, none of both empty -/
theorem op_catF : OpR X (binaryOp .Add) (fun x y H Q => ∃ a b xs ys, x = .ref a ∧ y = .ref b ∧ SqT X.K H a xs ∧ SqT X.K H b ys ∧ xs ≠ [] ∧ ys ≠ [] ∧ xs.length + ys.length ≤ sizeLine ∧
    ∀ (p : Addr) (o : Obj), H p = none → o.dict = none → Q (.ref p) (upd H p (.frz o (.tup (xs ++ ys))))) := by
  intro pins s σ H x y v u Q I rx ry h
  obtain ⟨a, b, xs, ys, rfl, rfl, ha, hb, hx, hy, hz, q⟩ := h
  cases rx
  cases ry
  obtain ⟨its, r1, p1, _⟩ := I.tuple ha
  obtain ⟨its2, r2, p2, _⟩ := I.tuple hb
  have hl : its.length + its2.length ≤ sizeLine := by rw [← r1.length, ← r2.length]; exact hz
  refine HT.cat_tup p1 p2 (fun z => hx (r1.nil_iff.mp z)) (fun z => absurd (r2.nil_iff.mp z) hy) (fun _ => ?_) hl
  have hg := Heap.get?_push_size s.heap (o := { cls := .type "tuple", data := .seq (its ++ its2).toArray }) rfl
  refine ⟨.ref s.heap.objs.size, _, I.laid (t' := s.toks) (o := .frz { cls := .type "tuple", data := .seq (its ++ its2).toArray } (.tup (xs ++ ys))) (fun b ob q => Heap.get?_push_of_some _ q) (Nat.le_refl _) ?_, rfl, q _ _ (I.hok.fresh (Nat.le_refl _)) rfl⟩
  exact ⟨hg, by rw [List.length_append]; exact hz, _, r1.append r2, ⟨_, hg, rfl, _, rfl⟩⟩
/-- a method of such a tuple, called with arguments -/
def tTM (r : V → List V → Hp → VK → Prop) (to : TE) (t : TA) : TE := fun σ H Q => to σ H fun x H1 => (∃ p xs, x = .ref p ∧ TupN H1 p xs) ∧ t σ H1 fun vs H2 => r x vs H2 Q
theorem pe_tm {name : Str} {id : String} {o e : Expr} {to : TE} {r : V → List V → Hp → VK → Prop} {apos cpos : Pos} (slot : Slot "tuple" name id) (hty : typeOf (.builtin id) = pure (.type "method_descriptor")) (hm : MtR X id r) (ho : PE X o to) (ha : PA X (e :: es) t)
    (hbase : attributeBase o name X.env (eval o X.env) = eval o X.env := by rfl)
    (hfew : ((backTo cpos (starEach (e :: es) X.env)).all (fun x => !x.1) && (backToKw cpos (keywordEach [] X.env)).all (fun x => x.1.isSome)
      && decide ((e :: es).length + ([] : List Keyword).length + (if ([] : List Keyword).isEmpty then 0 else 1) < 30)) = true := by rfl)
    (hline : (apos.endLine == cpos.line) = true := by rfl) (hs : starEach (e :: es) X.env = (false, eval e X.env) :: starEach es X.env := by rfl) (hplain : (backTo cpos (starEach es X.env)).any (·.1) = false := by rfl) :
    PE X (.Call (.Attribute o name apos) (e :: es) [] cpos) (tTM r to t) := by
  refine ⟨fun pins s σ H Q I h => ?_⟩
  refine wpAny_Call_method_late hbase hfew hline rfl (thn (ho.run pins s σ H _ I h) fun v s1 ⟨x, H1, I1, r1, ty, q1⟩ => ?_)
  obtain ⟨p, xs, rfl, ob, hob, hdi⟩ := ty
  cases r1
  obtain ⟨g1, hz, its, rv, ot, g2, hc, _⟩ := I1.hok p _ hob
  obtain rfl : ot = ob := Option.some.inj (g2.symm.trans g1)
  refine ⟨"tuple", id, PySem.F.plainAttrs_tuple, slot, hty, ⟨ot, g1, hc⟩, fun a e => ?_, ?_⟩
  · cases e
    exact ⟨ot, g1, hdi⟩
  have hA := ha.run cpos pins s1 σ H1 _ I1 q1
  rw [hs] at hA ⊢
  refine Calls.callWith_builtin (by show (false || (backTo cpos (starEach es X.env)).any (·.1)) = false; rw [hplain] <;> rfl) (Calls.evalArgs_plain ?_)
  exact thn hA fun us s2 ⟨vs, H2, I2, r2, q2⟩ => hm pins s2 σ H2 (.ref p) vs (.ref p) us Q I2 rfl r2 q2
end

/-! ### list.remove of data -/
section
variable {X : Cx}
def rRemD (K : PySem.W.Frag) : V → List V → Hp → VK → Prop := fun x args H Q => ∃ (l : Addr) (y : V) (d : PyData) (xs : List V) (ds : List PyData) (j : Nat),
  x = .ref l ∧ args = [y] ∧ H l = some (.lst xs) ∧ DpAll K H xs ds ∧ Dp K H y d ∧ PyData.plainAll ds = true ∧ d.plain = true ∧ d.depth ≤ 60 ∧
  SeqAt.dataPlace ds d = some j ∧ Q .non (upd H l (.lst (xs.eraseIdx j)))
theorem mt_removeD (hu : X.A.units + 64 < cLine) : MtR X "list.remove" (rRemD X.K) := by
  intro pins s σ H x args v us Q I rx ra h
  obtain ⟨l, y, d, xs, ds, j, rfl, rfl, hH, hds, hd, p1, p2, p3, hj, q⟩ := h
  cases rx
  obtain ⟨u, rfl, ru⟩ := vals1 ra
  obtain ⟨z, its, n, r, hl, e⟩ := I.lstM hH
  obtain ⟨as, R1⟩ := Dp.readsAll I ds xs its hds r
  obtain ⟨bs, R2⟩ := Dp.reads I d y u hd ru
  refine SeqAt.remove_list_data (vs := its.toArray) ⟨_, e, rfl, n, rfl⟩ R1 R2 p1 p2 (by omega) hj (by rw [List.size_toArray, ← hl]; exact z) ?_
  refine ⟨.non, _, I.lset (its' := its.eraseIdx j) (t' := s.toks) hH e ?_ (r.eraseIdx j) ?_, rfl, q⟩
  · show its.toArray.eraseIdxIfInBounds j = (its.eraseIdx j).toArray
    rw [List.eraseIdxIfInBounds_toArray]
  · have := List.length_eraseIdx_le xs j
    omega
end

/-! ### data of ints -/
def iD (ns : List Int) : List PyData := ns.map PyData.int
section
variable {K : PySem.W.Frag} {H : Hp}
theorem dp_ints : ∀ ns : List Int, DpAll K H (ns.map V.int) (iD ns)
  | [] => .nil
  | n :: r => .cons (.int n) (dp_ints r)
theorem dp_lst {a : Addr} {ns : List Int} (h : SqL K H a (ns.map V.int)) : Dp K H (.ref a) (.list (iD ns)) := .lst h (dp_ints ns)
theorem dp_tup {a : Addr} {ns : List Int} (h : SqT K H a (ns.map V.int)) : Dp K H (.ref a) (.tuple (iD ns)) := .tup h (dp_ints ns)
theorem dp_nil {a : Addr} (h : SqL K H a []) : Dp K H (.ref a) (.list []) := .lst h .nil
end
theorem iD_lay : ∀ ns : List Int, PyData.canLayAll0 (iD ns) = true
  | [] => by simp [iD, PyData.canLayAll0]
  | n :: r => by
    have h := iD_lay r
    simp only [iD, List.map_cons, PyData.canLayAll0, PyData.canLay0] at h ⊢
    rw [h]
    rfl
theorem iD_depth : ∀ ns : List Int, PyData.depthAll (iD ns) = 0
  | [] => by simp [iD, PyData.depthAll]
  | n :: r => by
    have h := iD_depth r
    simp only [iD, List.map_cons, PyData.depthAll, PyData.depth] at h ⊢
    rw [h]
    rfl
theorem shaped_lst (ns : List Int) : SeqAt.shaped (.list (iD ns)) = true := by
  have h1 := iD_lay ns
  have h2 := iD_depth ns
  show (PyData.canLay0 (.list (iD ns)) && decide (PyData.depth (.list (iD ns)) ≤ 64)) = true
  simp only [PyData.canLay0, PyData.depth, h1, h2, Bool.true_and]
  decide
theorem shaped_tup (ns : List Int) : SeqAt.shaped (.tuple (iD ns)) = true := by
  have h1 := iD_lay ns
  have h2 := iD_depth ns
  show (PyData.canLay0 (.tuple (iD ns)) && decide (PyData.depth (.tuple (iD ns)) ≤ 64)) = true
  simp only [PyData.canLay0, PyData.depth, h1, h2, Bool.true_and]
  decide
theorem shaped_nil : SeqAt.shaped (.list []) = true := by decide +kernel
theorem eqv_nil (ds : List PyData) : PyData.eqv (.list ds) (.list []) = ds.isEmpty := by
  cases ds <;> simp [PyData.eqv, PyData.eqvAll]
/-! ### what a def leaves that only adds objects and turns two -/
def Kp (a b : Addr) (H H' : Hp) : Prop := ∀ c o, c ≠ a → c ≠ b → H c = some o → H' c = some o
theorem Kp.refl {a b : Addr} (H : Hp) : Kp a b H H := fun _ _ _ _ h => h
theorem Kp.trans {a b : Addr} {H H1 H2 : Hp} (x : Kp a b H H1) (y : Kp a b H1 H2) : Kp a b H H2 := fun c o h1 h2 h => y c o h1 h2 (x c o h1 h2 h)
theorem Kp.of {a b : Addr} {H H' : Hp} (h : Same H H') : Kp a b H H' := fun c o _ _ e => h c o e
theorem Kp.new {a b : Addr} {H : Hp} {p : Addr} {o : HO} (h : H p = none) : Kp a b H (upd H p o) := fun c u _ _ e => by
  rw [upd_ne (ne_of_none e h)]
  exact e
theorem Kp.put {a b : Addr} {H : Hp} {p : Addr} {o : HO} (h : p = a ∨ p = b) : Kp a b H (upd H p o) := fun c u h1 h2 e => by
  rw [upd_ne (by rcases h with rfl | rfl <;> assumption)]
  exact e
theorem Same.new {H : Hp} {p : Addr} {o : HO} (h : H p = none) : Same H (upd H p o) := fun c u e => by
  rw [upd_ne (ne_of_none e h)]
  exact e
end Sv

/-! enumerate over a tuple; count in a tuple of ints. -/
namespace PySem
open Sem (wp)
set_option maxHeartbeats 1000000 in
theorem sv_enum_new {v : Value} {o : Obj} {H : Heap → Prop} (B : Begins v o H) :
    Meets (Builtin.«enumerate.__new__» ⟨[.type "enumerate", v], []⟩)
      (fun _ R s => H s.heap ∧ R (.ok (.ret (.ref (s.heap.push o).objs.size)))
        { s with heap := Heap.push (Heap.push s.heap o) { cls := .type "enumerate", data := .fields #[.none, .bool false, .ref s.heap.objs.size, rawInt 0, .none, .none] } }) := by
  refine .of_wp fun prog w A R s h => ?_
  obtain ⟨hp, g, d, tk, os⟩ := s
  obtain ⟨h1, h⟩ := h
  have hsub := sub_enumerate
  have q1 : ∀ {A' : Around} {E' : Value → Shared → Prop} {Q' : Value → Shared → Prop},
      Q' (.ref hp.objs.size) ⟨hp.push o, g, d, tk, os⟩ → wpAny (model prog w) A' (pyIter v) Q' E' ⟨hp, g, d, tk, os⟩ :=
    fun q => B.iter prog w _ _ ⟨hp, g, d, tk, os⟩ _ h1 q
  wp_walk using q1
  refine wpAny_stack_any fun st => wpAny_pure ?_
  split
  · rename_i c _ _ _ _ _
    cases hcc : (c == Value.type "enumerate") <;> (wp_walk using q1; exact ⟨_, rfl, h⟩)
  · wp_walk using q1
    exact ⟨_, rfl, h⟩
section
variable {prog : Program} {w : World} {A : Around} {E : Value → Shared → Prop} {s : Shared}
theorem sv_enum_call {v : Value} {o : Obj} {H : Heap → Prop} {Q : Value → Shared → Prop} (B : Begins v o H) (h1 : H s.heap)
    (h : ∀ h', IsEnum h' (s.heap.objs.size + 1) s.heap.objs.size 0 .none → h'.get? s.heap.objs.size = some o →
      (∀ b u, s.heap.get? b = some u → h'.get? b = some u) → Q (.ref (s.heap.objs.size + 1)) { s with heap := h' }) :
    wpAny (model prog w) A (call (.type "enumerate") [v]) Q E s := by
  refine callType_new F.called_enumerate (by decide) (F.typeCall_enumerate_1 _) (F.newCall_enumerate_1 _)
    (fun obj => F.args_object_init_2 obj _) F.entry_enumerate_new (sv_enum_new B) ⟨h1, ?_⟩
  have hz : (s.heap.push o).objs.size = s.heap.objs.size + 1 := Heap.size_push ..
  show _ ∧ _
  rw [hz]
  have he := Heap.get?_push_size (s.heap.push o)
    (o := { cls := .type "enumerate", data := .fields #[.none, .bool false, .ref s.heap.objs.size, rawInt 0, .none, .none] }) rfl
  rw [hz] at he
  exact ⟨⟨_, he, rfl⟩, h _ he (Heap.get?_push_of_some _ (Heap.get?_push_size _ B.free))
    fun b u x => Heap.get?_push_of_some _ (Heap.get?_push_of_some _ x)⟩
end
end PySem
namespace Sv
open PySem PySem.Spec PyProof.Rows L2
/-- a tuple's items, each in a new pair with its number -/
def Itte (K : PySem.W.Frag) (a : Addr) (xs : List V) : It where
  go := fun i H => SqT K H a xs ∧ i < xs.length
  yld := fun i H v H' => ∃ T x, v = .ref T ∧ H T = none ∧ H' = upd H T (.tup [.int (i : Nat), x]) ∧ xs[i]? = some x
  stop := fun i H => SqT K H a xs ∧ i = xs.length
theorem turn_etup {P : Program} {w : World} {K : PySem.W.Frag} {elts : List Expr} {kk : Nat} {tpos : Pos} (a e it : Addr) (xs : List V) :
    Turn P w K (.Tuple elts kk tpos) (Itte K a xs) [e, it] e
      (fun i h => (∃ old, IsEnum h e it ((i : Nat) : Int) old) ∧ h.IsTupleIter it a i ∧ e ≠ it ∧ a ≠ it ∧ a ≠ e) where
  mem := by simp
  obj := fun i h st b hb => by
    obtain ⟨⟨old, he⟩, ⟨o, ho, hc, hd⟩, _⟩ := st
    rcases (show b = e ∨ b = it by simpa using hb) with rfl | rfl
    · exact ⟨_, he, fun v q => nomatch q⟩
    · exact ⟨o, ho, fun v q => by rw [hd] at q; cases q⟩
  keep := fun i h h' st k => by
    obtain ⟨⟨old, he⟩, hi, hr⟩ := st
    exact ⟨⟨old, k e (by simp) _ he⟩, hi.at fun o q => k it (by simp) o q, hr⟩
  item := by
    intro X hP hw hK hc i pins s σ H E I hf st hg
    subst hP hw hK
    obtain ⟨⟨old, he⟩, hit, hne, hai, hae⟩ := st
    obtain ⟨hq, hi⟩ := hg
    obtain ⟨its, rv, p, hz⟩ := I.tuple hq
    have hlen := rv.length
    have hel : e < s.heap.objs.size := Heap.lt_size he
    have hil : it < s.heap.objs.size := by
      obtain ⟨_, q, _⟩ := hit
      exact Heap.lt_size q
    have D : Draws X.prog X.w X.A.in1 it [it, a] its.toArray.size (fun i v => its.toArray[i]? = some v)
        (fun i h => h.IsTupleIter it a i ∧ h.IsTuple a its.toArray) := Draws.tuple (A := X.A.in1) (show X.A.in1.handled = none from I.ok.hd hc) it a hai its.toArray
    refine wpAny_pyNext_enum_itemD D he ⟨hit, p⟩ (by rw [List.size_toArray]; omega) hne (by simp [hne, Ne.symm hae]) fun u h' tk hPu ho hst hT hsz hk => ?_
    refine ⟨_, rfl, wpAny_letOwnedTupleGo_enum (s := { s with heap := h', toks := tk + 1 }) ho fun h'' he' sb => ?_⟩
    obtain ⟨x, hx⟩ : ∃ x, xs[i]? = some x := ⟨_, List.getElem?_eq_getElem hi⟩
    obtain ⟨u', hu', ru⟩ := rv.get hx
    have hPu' : its[i]? = some u := by simpa using hPu
    obtain rfl : u' = u := Option.some.inj (hu'.symm.trans hPu')
    have hT2 : h''.get? s.heap.objs.size = some { cls := .type "tuple", data := .seq #[.int i tk, u'] } := (sb.2 _ (Nat.ne_of_gt hel)).trans hT
    have new : ObjOk X.prog X.w (upd H s.heap.objs.size (.tup [.int (i : Nat), x])) h'' s.heap.objs.size (.tup [.int (i : Nat), x]) := by
      refine ⟨?_, [.int i tk, u'], .cons ⟨_, rfl⟩ (.cons ru .nil), ⟨_, hT2, rfl, _, rfl⟩⟩
      show 2 ≤ sizeLine
      decide
    have I1 : Inv X pins σ (upd H s.heap.objs.size (.tup [.int (i : Nat), x])) { s with heap := h'', toks := tk + 1 } := by
      refine I.turnedNew (ch := [e, it]) (fun b ob hb q => ?_) hf (Nat.le_refl _) new
      have nb : b ≠ e ∧ b ≠ it := by simpa using hb
      exact (sb.2 b nb.1).trans (hk b ob nb.1 nb.2 q)
    refine ⟨.ref s.heap.objs.size, _, I1, rfl, ⟨_, x, rfl, I.hok.fresh (Nat.le_refl _), rfl, hx⟩,
      ⟨⟨u', ?_⟩, hst.1.at fun o q => (sb.2 it (Ne.symm hne)).trans q, hne, hai, hae⟩, fun b hb => ?_⟩
    · have e1 : ((i + 1 : Nat) : Int) = (i : Int) + 1 := by omega
      rw [e1]
      exact he'
    · have hb' : b < s.heap.objs.size := by
        rcases (show b = e ∨ b = it by simpa using hb) with rfl | rfl <;> assumption
      rw [upd_ne (Nat.ne_of_lt hb')]
      exact (hf b hb).1
  done := by
    intro X hP hw hK hc i pins s σ H E I hf st hg
    subst hP hw hK
    obtain ⟨⟨old, he⟩, hit, hne, hai, hae⟩ := st
    obtain ⟨hq, hi⟩ := hg
    obtain ⟨its, rv, p, hz⟩ := I.tuple hq
    have hlen := rv.length
    obtain ⟨f0, f1, f2, f3, f4, f5⟩ := hf it (by simp)
    have D : Draws X.prog X.w X.A.in1 it [it, a] its.toArray.size (fun i v => its.toArray[i]? = some v)
        (fun i h => h.IsTupleIter it a i ∧ h.IsTuple a its.toArray) := Draws.tuple (A := X.A.in1) (show X.A.in1.handled = none from I.ok.hd hc) it a hai its.toArray
    have hi2 : i = its.toArray.size := by
      rw [List.size_toArray]
      omega
    have hit2 : s.heap.IsTupleIter it a its.toArray.size := hi2 ▸ hit
    exact wpAny_pyNext_enum_endD D he ⟨hit2, p⟩ fun h' eb => ⟨rfl, I.turned (t' := s.toks) (fun b o hb q => eb b o hb q) f0 f1 f3 f4 f5⟩
  self := fun A i s Q E st h => by
    obtain ⟨⟨_, he⟩, _⟩ := st
    exact wpAny_pyIter_enum he h
def iEnumT (K : PySem.W.Frag) (ta : TA) : TI := fun σ H R => ta σ H fun vs H1 => ∃ a xs, vs = [.ref a] ∧ SqT K H1 a xs ∧ R (Itte K a xs) H1
/-- for i, x in enumerate(t), t a tuple -/
theorem pi_enumT {X : Cx} {e : Expr} {ta : TA} {p pos tpos : Pos} {elts : List Expr} {kk : Nat} (hg : Gl X "enumerate") (hm : X.mg "enumerate" = none) (ha : PA X [e] ta)
    (hs : starEach [e] X.env = [(false, eval e X.env)] := by rfl) : PI X (.Tuple elts kk tpos) (.Call (.Name "enumerate" p) [e] [] pos) (iEnumT X.K ta) := by
  refine ⟨fun pins s σ H R I h => ?_⟩
  refine Call_ (ld_blt I hg hm boot_enumerate (PyProof.Rows.callWith_type1 (thn (ha.run pos pins s σ H _ I h) fun us s1 ⟨vs, H1, I1, r1, q1⟩ => ?_) hs rfl))
  obtain ⟨a, xs, rfl, hq, q⟩ := q1
  obtain ⟨u, rfl, ru⟩ := vals1 r1
  cases ru
  obtain ⟨its, rv, p', hz⟩ := I1.tuple hq
  have hal : a < s1.heap.objs.size := by
    obtain ⟨o, ho, _⟩ := id p'
    exact Heap.lt_size ho
  refine sv_enum_call (begins_tuple a its.toArray) p' fun h' he hit hk => wpAny_pyIter_enum he ?_
  have I2 : Inv X pins σ H1 { s1 with heap := h' } := I1.kept (t' := s1.toks) hk
  refine ⟨s1.heap.objs.size + 1, [s1.heap.objs.size + 1, s1.heap.objs.size], _, _, H1, rfl, I2, turn_etup a (s1.heap.objs.size + 1) s1.heap.objs.size xs,
    ⟨⟨.none, he⟩, ⟨_, hit, rfl, rfl⟩, Nat.succ_ne_self _, Nat.ne_of_lt hal, Nat.ne_of_lt (Nat.lt_succ_of_lt hal)⟩, fun b hb => ?_, q⟩
  have hle : s1.heap.objs.size ≤ b := by
    rcases (show b = s1.heap.objs.size + 1 ∨ b = s1.heap.objs.size by simpa using hb) with rfl | rfl
    · exact Nat.le_succ _
    · exact Nat.le_refl _
  exact I1.fpOk hle (I1.hok.fresh hle)
/-- the comprehension over it -/
theorem lc_etup {K : PySem.W.Frag} {a : Addr} {xs : List V} {g : TG} {tt : TT} {te : TE} {vs : List Nat} {σ : L2.St} {H1 : Hp} {D : Addr} {Qd : Hp → Prop} (Pv : Nat → Hp → Prop) (h0 : Pv 0 (upd H1 D (.lst [])))
    (hl : ∀ i H, i ≤ xs.length → Pv i H → SqT K H a xs)
    (hs : ∀ i x T H, xs[i]? = some x → Pv i H → H T = none → g (.ref T) (wipe σ vs) (upd H T (.tup [.int (i : Nat), x])) fun σ2 H2 => wipe σ2 vs = wipe σ vs ∧ tt σ2 H2 fun b H3 =>
      if b = true then te σ2 H3 fun y H4 => ∃ acc, H4 D = some (.lst acc) ∧ acc.length < sizeLine ∧ Pv (i + 1) (upd H4 D (.lst (acc ++ [y]))) else Pv (i + 1) H3) (hd : ∀ H, Pv xs.length H → Qd H) :
    ∃ W : Nat → Nat → Hp → Prop, (∃ m, W 0 m (upd H1 D (.lst []))) ∧ ∀ i m H, W i m H →
      ((Itte K a xs).stop i H ∧ Qd H) ∨ ((Itte K a xs).go i H ∧ ∃ Nx : Hp → Prop, (∀ H', Nx H' → ∃ m', m' < m ∧ W (i + 1) m' H') ∧ ∀ x H', (Itte K a xs).yld i H x H' → g x (wipe σ vs) H' fun σ2 H2 => wipe σ2 vs = wipe σ vs ∧ tt σ2 H2 fun b H3 =>
        if b = true then te σ2 H3 fun y H4 => ∃ acc, H4 D = some (.lst acc) ∧ acc.length < sizeLine ∧ Nx (upd H4 D (.lst (acc ++ [y]))) else Nx H3) := by
  refine ⟨fun i m H => m = xs.length - i ∧ i ≤ xs.length ∧ Pv i H, ⟨xs.length, by simp, Nat.zero_le _, h0⟩, ?_⟩
  rintro i m H ⟨rfl, hi, p⟩
  have q := hl i H hi p
  by_cases hlt : i < xs.length
  · refine .inr ⟨⟨q, hlt⟩, Pv (i + 1), fun H' p' => ⟨xs.length - (i + 1), by omega, rfl, hlt, p'⟩, fun x H' y => ?_⟩
    obtain ⟨T, z, rfl, nT, rfl, hz⟩ := y
    exact hs i z T H hz p nT
  · have e : i = xs.length := by omega
    subst e
    exact .inl ⟨⟨q, rfl⟩, hd H p⟩
theorem for_etup {K : PySem.W.Frag} {a : Addr} {xs : List V} {g : TG} {tb : TS} {D : Ends} {σ : L2.St} {H : Hp} (Pv : Nat → L2.St → Hp → Prop) (h0 : Pv 0 σ H) (hl : ∀ i σ H, i ≤ xs.length → Pv i σ H → SqT K H a xs)
    (hs : ∀ i x T σ H, xs[i]? = some x → Pv i σ H → H T = none → g (.ref T) σ (upd H T (.tup [.int (i : Nat), x])) fun σ2 H2 => tb { D with nx := Pv (i + 1), ct := Pv (i + 1), bk := D.nx } σ2 H2) (hd : ∀ σ H, Pv xs.length σ H → D.nx σ H) :
    ∃ W : Nat → Nat → L2.St → Hp → Prop, (∃ m, W 0 m σ H) ∧ ∀ i m σ H, W i m σ H →
      ((Itte K a xs).stop i H ∧ D.nx σ H) ∨ ((Itte K a xs).go i H ∧ ∃ N : L2.St → Hp → Prop, (∀ σ' H', N σ' H' → ∃ m', m' < m ∧ W (i + 1) m' σ' H') ∧ ∀ x H', (Itte K a xs).yld i H x H' → g x σ H' fun σ2 H2 => tb { D with nx := N, ct := N, bk := D.nx } σ2 H2) := by
  refine ⟨fun i m σ H => m = xs.length - i ∧ i ≤ xs.length ∧ Pv i σ H, ⟨xs.length, by simp, Nat.zero_le _, h0⟩, ?_⟩
  rintro i m σ H ⟨rfl, hi, p⟩
  have q := hl i σ H hi p
  by_cases hlt : i < xs.length
  · refine .inr ⟨⟨q, hlt⟩, Pv (i + 1), fun σ' H' p' => ⟨xs.length - (i + 1), by omega, rfl, hlt, p'⟩, fun x H' y => ?_⟩
    obtain ⟨T, z, rfl, nT, rfl, hz⟩ := y
    exact hs i z T σ H hz p nT
  · have e : i = xs.length := by omega
    subst e
    exact .inl ⟨⟨q, rfl⟩, hd σ H p⟩
def rLenS (K : PySem.W.Frag) : List V → Hp → VK → Prop := fun xs H Q => ∃ p ys, xs = [.ref p] ∧ (SqL K H p ys ∨ SqT K H p ys) ∧ Q (.int ys.length) H
theorem call_len_s {X : Cx} : CallR X (.builtin "len") (rLenS X.K) := call_len_seq
/-- a comprehension's block that reads no name from around it -/
theorem blkOk_nf {N : List Str} {sc scope : Scope} {own : List (Str × Nat)} (h : blkC N { kind := .function, names := [], isGenerator := false, isCoroutine := false } scope own = true) (hf : (scope.names.all fun y => decide (y.2 ≠ .free)) = true) : BlkOk N sc scope own := by
  have b := blkOk_by h
  exact ⟨b.kind, b.uniq, b.ix, fun y hy e => absurd e (of_decide_eq_true (List.all_eq_true.mp hf y hy)), b.own⟩
section
variable {X : Cx}
def rTcount (K : PySem.W.Frag) : V → List V → Hp → VK → Prop := fun x args H Q => ∃ (p : Addr) (ns : List Int) (k : Int), x = .ref p ∧ args = [.int k] ∧ SqT K H p (ns.map V.int) ∧ Q (.int (ns.count k : Nat)) H
/-- t.count(k), t a tuple of ints -/
theorem mt_tcount (hu : X.A.units + 64 < cLine) : MtR X "tuple.count" (rTcount X.K) := by
  intro pins s σ H x args v us Q I rx ra h
  obtain ⟨p, ns, k, rfl, rfl, hs, q⟩ := h
  cases rx
  obtain ⟨u, rfl, ru⟩ := vals1 ra
  obtain ⟨t, rfl⟩ := ru
  obtain ⟨its, rv, p1, hz⟩ := I.tuple hs
  obtain ⟨as, R1⟩ := Dp.readsAll I (iD ns) (ns.map V.int) its (dp_ints ns) rv
  have hpl : ∀ ns : List Int, PyData.plainAll (iD ns) = true := by
    intro ns
    induction ns with
    | nil => rfl
    | cons n r ih => exact ih
  have hcnt : ((iD ns).countP fun y => PyData.eqv y (.int k)) = ns.count k := by
    clear R1 rv hs hz q
    induction ns with
    | nil => rfl
    | cons n r ih =>
      have e : PyData.eqv (.int n) (.int k) = (n == k) := by simp only [PyData.eqv]
      simp only [iD, List.map_cons, List.countP_cons, List.count_cons] at ih ⊢
      rw [ih, e]
  refine SeqAt.count_tuple_data (vs := its.toArray) p1 R1 (Reads.int k t) (hpl ns) rfl ?_ ?_
  · have : min (PyData.depthAll (iD ns)) (PyData.int k).depth ≤ 0 := Nat.min_le_right _ _
    omega
  · rw [hcnt]
    exact ⟨.int (ns.count k : Nat), H, I.tok _, ⟨_, rfl⟩, q⟩
end
end Sv

/-! more of tuples of ints: index, slices; kinds of values. -/
namespace Sv
open PySem PySem.Spec PyProof.Rows L2
theorem idx_lt : ∀ {ns : List Int} {k : Int} {m : Nat}, m < ns.idxOf k → ns[m]? ≠ some k
  | [], k, m, h => by simp at h
  | n :: r, k, m, h => by
    rw [List.idxOf_cons] at h
    by_cases e : n = k
    · subst e
      simp at h
    · have e1 : (n == k) = false := beq_eq_false_iff_ne.mpr e
      rw [e1] at h
      cases m with
      | zero => exact fun z => e (Option.some.inj z)
      | succ m => exact fun z => idx_lt (ns := r) (m := m) (by simpa using h) z
theorem flat_ints (ns : List Int) : (ns.map V.int).all flatV = true := by
  rw [List.all_map]
  exact List.all_eq_true.mpr fun _ _ => rfl
theorem in_ints {ns : List Int} {k : Int} : inV (.int k) (ns.map V.int) = decide (k ∈ ns) := by
  unfold inV
  induction ns with
  | nil => rfl
  | cons n r ih =>
    rw [List.map_cons, List.any_cons, ih]
    show ((n == k) || decide (k ∈ r)) = decide (k ∈ n :: r)
    by_cases h : n = k
    · subst h
      simp
    · have h1 : (n == k) = false := beq_eq_false_iff_ne.mpr h
      rw [h1, Bool.false_or]
      simp [Ne.symm h]
section
variable {X : Cx}
def rTindex (K : PySem.W.Frag) : V → List V → Hp → VK → Prop := fun x args H Q => ∃ (p : Addr) (ns : List Int) (k : Int), x = .ref p ∧ args = [.int k] ∧ SqT K H p (ns.map V.int) ∧ k ∈ ns ∧ Q (.int (ns.idxOf k : Nat)) H
/-- t.index(k), k in t -/
theorem mt_tindex : MtR X "tuple.index" (rTindex X.K) := by
  intro pins s σ H x args v us Q I rx ra h
  obtain ⟨p, ns, k, rfl, rfl, hs, hk, q⟩ := h
  cases rx
  obtain ⟨u, rfl, ru⟩ := vals1 ra
  obtain ⟨t, rfl⟩ := ru
  obtain ⟨its, rv, ⟨⟨cls, dd, dt, sl⟩, ho, hc, n, hd⟩, hz⟩ := I.tuple hs
  simp only at hc hd
  subst hc hd
  have hlen : its.length = ns.length := by rw [← rv.length, List.length_map]
  have hj : ns.idxOf k < ns.length := List.idxOf_lt_length_iff.mpr hk
  have at' : ∀ (m : Nat) (hm : m < its.toArray.size), ∃ t' : Tok, ∃ hm2 : m < ns.length, its.toArray[m] = Value.int ns[m] t' := by
    intro m hm
    have hm2 : m < ns.length := by
      rw [List.size_toArray] at hm
      omega
    obtain ⟨w, hw, t', hw'⟩ := rv.get (i := m) (x := .int ns[m]) (at_map' (List.getElem?_eq_getElem hm2))
    refine ⟨t', hm2, ?_⟩
    have e := (List.getElem?_eq_some_iff.mp hw).2
    rw [← hw', ← e]
    simp
  refine call_meets PySem.F.slot_tuple_index ⟨_, ho, rfl⟩ PySem.F.entry_tuple_index (PySem.F.args_tuple_index_2 _ _)
    (TI.tuple_indexAt p its.toArray n dd sl (.int k t) (eqU (.int k)) (ns.idxOf k) (by rw [List.size_toArray]; omega) ?_ ?_)
    ⟨ho, fun w hw => mem_eqAt (x := .int k) ⟨t, rfl⟩ rfl rv (flat_ints ns) w (by simpa using hw), ⟨.int (ns.idxOf k : Nat), H, I.tok _, ⟨_, rfl⟩, q⟩⟩
  · obtain ⟨t', h2, h3⟩ := at' (ns.idxOf k) (by rw [List.size_toArray]; omega)
    rw [h3]
    show (ns[ns.idxOf k] == k) = true
    rw [beq_iff_eq]
    exact List.getElem_idxOf h2
  · intro m hm hmj
    obtain ⟨t', h2, h3⟩ := at' m hm
    rw [h3]
    show (ns[m] == k) = false
    refine beq_eq_false_iff_ne.mpr fun z => idx_lt hmj ?_
    rw [List.getElem?_eq_getElem h2, z]
where
  at_map' {ns : List Int} {m : Nat} {x : Int} (h : ns[m]? = some x) : (ns.map V.int)[m]? = some (.int x) := by
    rw [List.getElem?_map, h]
    rfl
/-- t[lo:hi], not the whole, known to bear no dict -/
def rSlTF (K : PySem.W.Frag) : V → Option Int → Option Int → Hp → VK → Prop := fun x lo hi H Q => ∃ a xs, x = .ref a ∧ SqT K H a xs ∧
  ¬ (HT.sIx xs.length 0 lo = 0 ∧ HT.sIx xs.length xs.length hi = xs.length) ∧ ∀ (p : Addr) (o : Obj), H p = none → o.dict = none → Q (.ref p) (upd H p (.frz o (.tup (cutV xs lo hi))))
theorem sl_tupF : SlR X (rSlTF X.K) := by
  intro pins s σ H x v vl vu lo hi sl Q I rx hs pl pu h
  obtain ⟨a, xs, rfl, hx, hw, q⟩ := h
  cases rx
  obtain ⟨its, r, ht, hz⟩ := I.tuple hx
  have hlen : its.toArray.size = xs.length := by
    rw [List.size_toArray]
    exact r.length.symm
  refine ⟨"tuple", _, PyProof.Rows.slot_tuple_getitem.lookup, ht.typeIs, ?_⟩
  have hnot : ¬ (HT.sIx its.toArray.size 0 lo = 0 ∧ HT.sIx its.toArray.size its.toArray.size hi = its.toArray.size) := by rwa [hlen]
  refine HT.getItem_tuple_cut ht hs pl pu hnot ?_ (hlen ▸ hz)
  rw [hlen]
  have hg := Heap.get?_push_size s.heap (o := { cls := .type "tuple", data := .seq ((its.toArray.toList.drop (HT.sIx xs.length 0 lo)).take (HT.sIx xs.length xs.length hi - HT.sIx xs.length 0 lo)).toArray }) rfl
  refine ⟨.ref s.heap.objs.size, _, I.laid (t' := s.toks) (o := .frz _ (.tup (cutV xs lo hi))) (fun b ob q => Heap.get?_push_of_some _ q) (Nat.le_refl _) ⟨hg, ?_⟩, rfl, q _ _ (I.hok.fresh (Nat.le_refl _)) rfl⟩
  exact ⟨Nat.le_trans (cutV_length xs lo hi) hz, _, (r.drop (HT.sIx xs.length 0 lo)).take (HT.sIx xs.length xs.length hi - HT.sIx xs.length 0 lo), ⟨_, hg, rfl, _, rfl⟩⟩
end
theorem cut_to {xs : List V} {i : Nat} (h : i ≤ xs.length) : cutV xs none (some (i : Int)) = xs.take i := by
  unfold cutV
  rw [HT.sIx_none, HT.sIx_nat, Nat.min_eq_left h]
  rfl
theorem cut_from {xs : List V} {i : Nat} (h : i ≤ xs.length) : cutV xs (some (i : Int)) none = xs.drop i := by
  unfold cutV
  rw [HT.sIx_none, HT.sIx_nat, Nat.min_eq_left h]
  exact List.take_of_length_le (by rw [List.length_drop]; omega)
/-! ### kinds of values -/
inductive Kn (K : PySem.W.Frag) (H : Hp) : V → Prop
  | non : Kn K H .non
  | bl (b : Bool) : Kn K H (.bl b)
  | int (i : Int) : Kn K H (.int i)
  | str (x : Str) : Kn K H (.str x)
  | lst {a : Addr} {xs : List V} (e : H a = some (.lst xs)) : Kn K H (.ref a)
  | tup {a : Addr} {xs : List V} (e : H a = some (.tup xs)) : Kn K H (.ref a)
  | ftup {a : Addr} {o : Obj} {xs : List V} (e : H a = some (.frz o (.tup xs))) : Kn K H (.ref a)
  | dK {a : Addr} {kvs : List (Key × V)} (e : H a = some (.dK kvs)) : Kn K H (.ref a)
theorem Kn.same {K : PySem.W.Frag} {H H' : Hp} {v : V} (h : Kn K H v) (e : ∀ b o, H b = some o → H' b = some o) : Kn K H' v := by
  cases h with
  | non => exact .non
  | bl b => exact .bl b
  | int i => exact .int i
  | str x => exact .str x
  | lst h => exact .lst (e _ _ h)
  | tup h => exact .tup (e _ _ h)
  | ftup h => exact .ftup (e _ _ h)
  | dK h => exact .dK (e _ _ h)
def isI : V → Bool
  | .int _ => true
  | .bl _ => true
  | _ => false
def isB : V → Bool
  | .bl _ => true
  | _ => false
theorem Kn.isInt {K : PySem.W.Frag} {H : Hp} {v : V} (h : Kn K H v) : ∃ t, TyX K H v t ∧ PySem.W.kitOne K t (.type "int") = some (isI v) := by
  cases h with
  | non => exact ⟨_, .base .non, kit_ty (by decide +kernel)⟩
  | bl b => exact ⟨_, .base (.bl b), kit_ty (by show kitB "bool" "int" = some true; decide +kernel)⟩
  | int i => exact ⟨_, .base (.int i), kit_ty (by show kitB "int" "int" = some true; decide +kernel)⟩
  | str x => exact ⟨_, .base (.str x), kit_ty (by show kitB "str" "int" = some false; decide +kernel)⟩
  | lst h => exact ⟨_, .base (.lst h), kit_ty (by show kitB "list" "int" = some false; decide +kernel)⟩
  | tup h => exact ⟨_, .base (.tup h), kit_ty (by show kitB "tuple" "int" = some false; decide +kernel)⟩
  | ftup h => exact ⟨_, .fTuple h, kit_ty (by show kitB "tuple" "int" = some false; decide +kernel)⟩
  | dK h => exact ⟨_, .base (.dK h), kit_ty (by show kitB "dict" "int" = some false; decide +kernel)⟩
theorem Kn.isBool {K : PySem.W.Frag} {H : Hp} {v : V} (h : Kn K H v) : ∃ t, TyX K H v t ∧ PySem.W.kitOne K t (.type "bool") = some (isB v) := by
  cases h with
  | non => exact ⟨_, .base .non, kit_ty (by decide +kernel)⟩
  | bl b => exact ⟨_, .base (.bl b), kit_ty (by show kitB "bool" "bool" = some true; decide +kernel)⟩
  | int i => exact ⟨_, .base (.int i), kit_ty (by show kitB "int" "bool" = some false; decide +kernel)⟩
  | str x => exact ⟨_, .base (.str x), kit_ty (by show kitB "str" "bool" = some false; decide +kernel)⟩
  | lst h => exact ⟨_, .base (.lst h), kit_ty (by show kitB "list" "bool" = some false; decide +kernel)⟩
  | tup h => exact ⟨_, .base (.tup h), kit_ty (by show kitB "tuple" "bool" = some false; decide +kernel)⟩
  | ftup h => exact ⟨_, .fTuple h, kit_ty (by show kitB "tuple" "bool" = some false; decide +kernel)⟩
  | dK h => exact ⟨_, .base (.dK h), kit_ty (by show kitB "dict" "bool" = some false; decide +kernel)⟩
/-- a number from lo to hi -/
def numIn (v : V) (lo hi : Int) : Bool := match v with
  | .int i => decide (lo ≤ i) && decide (i ≤ hi)
  | _ => false
def spNum (K : PySem.W.Frag) : Sp := fun vs H Q _ => ∃ (v : V) (lo hi : Int), vs = [v, .int lo, .int hi] ∧ Kn K H v ∧ Q (.bl (numIn v lo hi)) H
end Sv

/-! tuple(a list): a tuple that is known to bear no dict. -/
namespace Sv
open PySem PySem.Spec PyProof.Rows L2
section
variable {X : Cx}
def rTupF (K : PySem.W.Frag) : List V → Hp → VK → Prop := fun xs H Q => ∃ p ys, xs = [.ref p] ∧ SqL K H p ys ∧ ∀ (l : Addr) (o : Obj), H l = none → o.dict = none → Q (.ref l) (upd H l (.frz o (.tup ys)))
theorem call_tupleF : CallR X (.type "tuple") (rTupF X.K) := by
  intro pins s σ H xs us Q I r h
  obtain ⟨p, ys, rfl, hq, q⟩ := h
  obtain ⟨u, rfl, rx⟩ := vals1 r
  cases rx
  obtain ⟨its, r', pl, hz⟩ := I.list hq
  have hlen := r'.length
  refine call_tuple_list pl.isList (fun h' kp => ?_) (by simp only [List.size_toArray] <;> omega)
  have I1 : Inv X pins σ H { s with heap := h' } := I.kept (t' := s.toks) kp
  have hg := Heap.get?_push_size h' (o := { cls := .type "tuple", data := .seq its.toArray }) rfl
  refine ⟨.ref h'.objs.size, _, I1.laid (t' := s.toks) (o := .frz { cls := .type "tuple", data := .seq its.toArray } (.tup ys)) (fun b o e => Heap.get?_push_of_some _ e) (Nat.le_refl _) ?_, rfl, q _ _ (I1.hok.fresh (Nat.le_refl _)) rfl⟩
  exact ⟨hg, hz, its, r', ⟨_, hg, rfl, _, rfl⟩⟩
end
theorem nodup_at {α : Type} {x : α} : ∀ {l : List α} {i j : Nat}, l.Nodup → l[i]? = some x → l[j]? = some x → i = j
  | [], i, j, _, h, _ => by simp at h
  | a :: r, 0, 0, _, _, _ => rfl
  | a :: r, 0, j + 1, h, h1, h2 => by
    have e : a = x := Option.some.inj h1
    subst e
    exact absurd (List.mem_of_getElem? (show r[j]? = some a from h2)) (List.nodup_cons.mp h).1
  | a :: r, i + 1, 0, h, h1, h2 => by
    have e : a = x := Option.some.inj h2
    subst e
    exact absurd (List.mem_of_getElem? (show r[i]? = some a from h1)) (List.nodup_cons.mp h).1
  | a :: r, i + 1, j + 1, h, h1, h2 => by rw [nodup_at (List.nodup_cons.mp h).2 (show r[i]? = some x from h1) (show r[j]? = some x from h2)]
end Sv
namespace Sv
open PySem PySem.Spec PyProof.Rows L2
theorem walk_zipT {K : PySem.W.Frag} {a b : Addr} {xs ys : List V} {n : Nat} (hn : n = min xs.length ys.length) : Walk (RZ.ItzT K a b) n (fun H => SqT K H a xs ∧ SqT K H b ys) (YPair (fun i => xs[i]?) (fun i => ys[i]?)) := by
  subst hn
  refine ⟨fun i _ hi q => ?_, fun _ q => ⟨xs, ys, q.1, q.2, by omega⟩, fun i H v H' _ q y => ?_⟩
  · have h1 : i < xs.length := by omega
    have h2 : i < ys.length := by omega
    exact ⟨xs, ys, xs[i], ys[i], q.1, q.2, by simp [h1], by simp [h2]⟩
  · obtain ⟨T, x, z, h1, h2, h3, h4, h5⟩ := y
    exact ⟨T, x, z, h1, h2, h3, h4 xs q.1, h5 ys q.2⟩
end Sv

/-! a comprehension with two for: the walks of both. -/
namespace Sv
open PySem PySem.Spec PyProof.Rows L2
section
variable {J : It} {n : Nat} {G : Hp → Prop} {Y : Nat → Hp → V → Hp → Prop}
/-- the outer one -/
theorem lc2_out (w : Walk J n G Y) {g : TG} {tt : TT} {wi1 : TI} {g1 : TG} {tt1 : TT} {te : TE} {vs vs1 : List Nat} {σ : L2.St} {H1 : Hp} {D : Addr} {Qd : Hp → Prop} (Pv : Nat → Hp → Prop) (h0 : Pv 0 (upd H1 D (.lst []))) (hG : ∀ i H, i ≤ n → Pv i H → G H)
    (hs : ∀ i x H H', i < n → Pv i H → Y i H x H' → g x (wipe σ vs) H' fun σ2 H2 => wipe σ2 vs = wipe σ vs ∧ tt σ2 H2 fun b H3 =>
      if b = true then wi1 σ2 H3 fun J1 H4 => ∃ W1 : Nat → Nat → Hp → Prop, (∃ m, W1 0 m H4) ∧ ∀ j k H, W1 j k H →
        (J1.stop j H ∧ Pv (i + 1) H) ∨ (J1.go j H ∧ ∃ Nx1 : Hp → Prop, (∀ H', Nx1 H' → ∃ k', k' < k ∧ W1 (j + 1) k' H') ∧ ∀ x H', J1.yld j H x H' → g1 x (wipe σ2 vs1) H' fun σ3 H5 => wipe σ3 vs1 = wipe σ2 vs1 ∧ tt1 σ3 H5 fun b H6 =>
          if b = true then te σ3 H6 fun y H7 => ∃ acc, H7 D = some (.lst acc) ∧ acc.length < sizeLine ∧ Nx1 (upd H7 D (.lst (acc ++ [y]))) else Nx1 H6)
      else Pv (i + 1) H3) (hd : ∀ H, Pv n H → Qd H) :
    ∃ W : Nat → Nat → Hp → Prop, (∃ m, W 0 m (upd H1 D (.lst []))) ∧ ∀ i m H, W i m H →
      (J.stop i H ∧ Qd H) ∨ (J.go i H ∧ ∃ Nx : Hp → Prop, (∀ H', Nx H' → ∃ m', m' < m ∧ W (i + 1) m' H') ∧ ∀ x H', J.yld i H x H' → g x (wipe σ vs) H' fun σ2 H2 => wipe σ2 vs = wipe σ vs ∧ tt σ2 H2 fun b H3 =>
        if b = true then wi1 σ2 H3 fun J1 H4 => ∃ W1 : Nat → Nat → Hp → Prop, (∃ m, W1 0 m H4) ∧ ∀ j k H, W1 j k H →
          (J1.stop j H ∧ Nx H) ∨ (J1.go j H ∧ ∃ Nx1 : Hp → Prop, (∀ H', Nx1 H' → ∃ k', k' < k ∧ W1 (j + 1) k' H') ∧ ∀ x H', J1.yld j H x H' → g1 x (wipe σ2 vs1) H' fun σ3 H5 => wipe σ3 vs1 = wipe σ2 vs1 ∧ tt1 σ3 H5 fun b H6 =>
            if b = true then te σ3 H6 fun y H7 => ∃ acc, H7 D = some (.lst acc) ∧ acc.length < sizeLine ∧ Nx1 (upd H7 D (.lst (acc ++ [y]))) else Nx1 H6)
        else Nx H3) := by
  refine ⟨fun i m H => m = n - i ∧ i ≤ n ∧ Pv i H, ⟨n, by simp, Nat.zero_le _, h0⟩, ?_⟩
  rintro i m H ⟨rfl, hi, p⟩
  have q := hG i H hi p
  by_cases hlt : i < n
  · refine .inr ⟨w.goes i H hlt q, Pv (i + 1), fun H' p' => ⟨n - (i + 1), by omega, rfl, hlt, p'⟩, fun x H' y => hs i x H H' hlt p (w.yields i H x H' hlt q y)⟩
  · have e : i = n := by omega
    subst e
    exact .inl ⟨w.stops H q, hd H p⟩
/-- the inner one -/
theorem lc2_in (w : Walk J n G Y) {g1 : TG} {tt1 : TT} {te : TE} {vs1 : List Nat} {σ2 : L2.St} {H4 : Hp} {D : Addr} {R : Hp → Prop} (Pv : Nat → Hp → Prop) (h0 : Pv 0 H4) (hG : ∀ i H, i ≤ n → Pv i H → G H)
    (hs : ∀ i x H H', i < n → Pv i H → Y i H x H' → g1 x (wipe σ2 vs1) H' fun σ3 H5 => wipe σ3 vs1 = wipe σ2 vs1 ∧ tt1 σ3 H5 fun b H6 =>
      if b = true then te σ3 H6 fun y H7 => ∃ acc, H7 D = some (.lst acc) ∧ acc.length < sizeLine ∧ Pv (i + 1) (upd H7 D (.lst (acc ++ [y]))) else Pv (i + 1) H6) (hd : ∀ H, Pv n H → R H) :
    ∃ W1 : Nat → Nat → Hp → Prop, (∃ m, W1 0 m H4) ∧ ∀ j k H, W1 j k H →
      (J.stop j H ∧ R H) ∨ (J.go j H ∧ ∃ Nx1 : Hp → Prop, (∀ H', Nx1 H' → ∃ k', k' < k ∧ W1 (j + 1) k' H') ∧ ∀ x H', J.yld j H x H' → g1 x (wipe σ2 vs1) H' fun σ3 H5 => wipe σ3 vs1 = wipe σ2 vs1 ∧ tt1 σ3 H5 fun b H6 =>
        if b = true then te σ3 H6 fun y H7 => ∃ acc, H7 D = some (.lst acc) ∧ acc.length < sizeLine ∧ Nx1 (upd H7 D (.lst (acc ++ [y]))) else Nx1 H6) := by
  refine ⟨fun i m H => m = n - i ∧ i ≤ n ∧ Pv i H, ⟨n, by simp, Nat.zero_le _, h0⟩, ?_⟩
  rintro i m H ⟨rfl, hi, p⟩
  have q := hG i H hi p
  by_cases hlt : i < n
  · refine .inr ⟨w.goes i H hlt q, Pv (i + 1), fun H' p' => ⟨n - (i + 1), by omega, rfl, hlt, p'⟩, fun x H' y => hs i x H H' hlt p (w.yields i H x H' hlt q y)⟩
  · have e : i = n := by omega
    subst e
    exact .inl ⟨w.stops H q, hd H p⟩
end
end Sv

/-! repr of a bool; a dict comprehension over any walk. -/
namespace Sv
open PySem PySem.Spec PyProof.Rows L2
section
variable {X : Cx}
def bText (b : Bool) : Str := if b then "True" else "False"
theorem call_repr_bl : CallR X (.builtin "repr") (fun xs H Q => ∃ b, xs = [.bl b] ∧ Q (.str (bText b)) H) := by
  intro pins s σ H xs us Q I r h
  obtain ⟨b, rfl, q⟩ := h
  obtain ⟨u, rfl, ru⟩ := vals1 r
  cases ru
  exact PySem.P.repr_of_bool ⟨.str _, H, I.tok _, ⟨_, rfl⟩, q⟩
end
section
variable {J : It} {n : Nat} {G : Hp → Prop} {Y : Nat → Hp → V → Hp → Prop}
theorem dc_it (w : Walk J n G Y) {g : TG} {tt : TT} {tk tv : TE} {vs : List Nat} {σ : L2.St} {H1 : Hp} {D : Addr} {Qd : Hp → Prop} (Pv : Nat → Hp → Prop) (h0 : Pv 0 (upd H1 D (.dK []))) (hG : ∀ i H, i ≤ n → Pv i H → G H)
    (hs : ∀ i x H H', i < n → Pv i H → Y i H x H' → g x (wipe σ vs) H' fun σ2 H2 => wipe σ2 vs = wipe σ vs ∧ tt σ2 H2 fun b H3 =>
      if b = true then tk σ2 H3 fun y H4 => tv σ2 H4 fun z H5 => ∃ kvs k, y = kV k ∧ H5 D = some (.dK kvs) ∧ kvs.length < sizeLine ∧ Pv (i + 1) (upd H5 D (.dK (putK kvs k z))) else Pv (i + 1) H3) (hd : ∀ H, Pv n H → Qd H) :
    ∃ W : Nat → Nat → Hp → Prop, (∃ m, W 0 m (upd H1 D (.dK []))) ∧ ∀ i m H, W i m H →
      (J.stop i H ∧ Qd H) ∨ (J.go i H ∧ ∃ Nx : Hp → Prop, (∀ H', Nx H' → ∃ m', m' < m ∧ W (i + 1) m' H') ∧ ∀ x H', J.yld i H x H' → g x (wipe σ vs) H' fun σ2 H2 => wipe σ2 vs = wipe σ vs ∧ tt σ2 H2 fun b H3 =>
        if b = true then tk σ2 H3 fun y H4 => tv σ2 H4 fun z H5 => ∃ kvs k, y = kV k ∧ H5 D = some (.dK kvs) ∧ kvs.length < sizeLine ∧ Nx (upd H5 D (.dK (putK kvs k z))) else Nx H3) := by
  refine ⟨fun i m H => m = n - i ∧ i ≤ n ∧ Pv i H, ⟨n, by simp, Nat.zero_le _, h0⟩, ?_⟩
  rintro i m H ⟨rfl, hi, p⟩
  have q := hG i H hi p
  by_cases hlt : i < n
  · refine .inr ⟨w.goes i H hlt q, Pv (i + 1), fun H' p' => ⟨n - (i + 1), by omega, rfl, hlt, p'⟩, fun x H' y => hs i x H H' hlt p (w.yields i H x H' hlt q y)⟩
  · have e : i = n := by omega
    subst e
    exact .inl ⟨w.stops H q, hd H p⟩
end
theorem valV_none {κ : Type} [DecidableEq κ] : ∀ {kvs : List (κ × V)} {k : κ}, (∀ p ∈ kvs, p.1 ≠ k) → valV kvs k = none
  | [], _, _ => rfl
  | p :: r, k, h => by
    have h1 := h p List.mem_cons_self
    have h2 := valV_none (kvs := r) (k := k) fun q hq => h q (List.mem_cons_of_mem _ hq)
    unfold valV at h2 ⊢
    rw [List.find?_cons, decide_eq_false h1]
    exact h2
theorem valV_at {κ : Type} [DecidableEq κ] : ∀ {kvs : List (κ × V)} {i : Nat} {k : κ} {v : V}, (kvs.map (·.1)).Nodup → kvs[i]? = some (k, v) → valV kvs k = some v
  | [], i, _, _, _, h => by simp at h
  | p :: r, 0, k, v, _, h => by
    obtain rfl : p = (k, v) := Option.some.inj h
    unfold valV
    rw [List.find?_cons, decide_eq_true rfl]
    rfl
  | p :: r, i + 1, k, v, hn, h => by
    rw [List.map_cons] at hn
    obtain ⟨n1, n2⟩ := List.nodup_cons.mp hn
    have h2 : r[i]? = some (k, v) := h
    have hne : p.1 ≠ k := fun z => n1 (z ▸ List.mem_map.mpr ⟨(k, v), List.mem_of_getElem? h2, rfl⟩)
    have ih := valV_at (kvs := r) (i := i) n2 h2
    unfold valV at ih ⊢
    rw [List.find?_cons, decide_eq_false hne]
    exact ih
end Sv

/-! data with lists that are not sys.modules, and with small dicts: repr of it. -/
namespace Sv
open PySem PySem.Spec PyProof.Rows L2
mutual
inductive DX (N : Addr → Prop) (K : PySem.W.Frag) (H : Hp) : V → PyData → Prop
  | non : DX N K H .non .none
  | bl (b : Bool) : DX N K H (.bl b) (.bool b)
  | int (i : Int) : DX N K H (.int i) (.int i)
  | str (x : Str) : DX N K H (.str x) (.str x)
  | lst {a : Addr} {xs : List V} {ds : List PyData} : H a = some (.lst xs) → N a → DXs N K H xs ds → DX N K H (.ref a) (.list ds)
  | tup {a : Addr} {xs : List V} {ds : List PyData} : (H a = some (.tup xs) ∨ ∃ o, H a = some (.frz o (.tup xs))) → DXs N K H xs ds → DX N K H (.ref a) (.tuple ds)
  | d0 {a : Addr} : H a = some (.dK []) → DX N K H (.ref a) (.dict [])
  | d1 {a : Addr} {k : Str} {i : Int} : H a = some (.dK [(Sum.inr k, .int i)]) → DX N K H (.ref a) (.dict [(.str k, .int i)])
inductive DXs (N : Addr → Prop) (K : PySem.W.Frag) (H : Hp) : List V → List PyData → Prop
  | nil : DXs N K H [] []
  | cons {v : V} {vs : List V} {d : PyData} {ds : List PyData} : DX N K H v d → DXs N K H vs ds → DXs N K H (v :: vs) (d :: ds)
end
mutual
/-- wherever lists, tuples and dicts stay -/
theorem DX.keep {N : Addr → Prop} {K : PySem.W.Frag} {H H' : Hp} (e : ∀ (a : Addr) (xs : List V), N a → H a = some (.lst xs) → H' a = some (.lst xs)) (e2 : ∀ (a : Addr) (xs : List V), (H a = some (.tup xs) ∨ ∃ o, H a = some (.frz o (.tup xs))) → (H' a = some (.tup xs) ∨ ∃ o, H' a = some (.frz o (.tup xs))))
    (e3 : ∀ (a : Addr) (kvs : List (Key × V)), H a = some (.dK kvs) → H' a = some (.dK kvs)) : ∀ {v : V} {d : PyData}, DX N K H v d → DX N K H' v d
  | _, _, .non => .non
  | _, _, .bl b => .bl b
  | _, _, .int i => .int i
  | _, _, .str x => .str x
  | _, _, .lst h n hs => .lst (e _ _ n h) n (DXs.keep e e2 e3 hs)
  | _, _, .tup h hs => .tup (e2 _ _ h) (DXs.keep e e2 e3 hs)
  | _, _, .d0 h => .d0 (e3 _ _ h)
  | _, _, .d1 h => .d1 (e3 _ _ h)
theorem DXs.keep {N : Addr → Prop} {K : PySem.W.Frag} {H H' : Hp} (e : ∀ (a : Addr) (xs : List V), N a → H a = some (.lst xs) → H' a = some (.lst xs)) (e2 : ∀ (a : Addr) (xs : List V), (H a = some (.tup xs) ∨ ∃ o, H a = some (.frz o (.tup xs))) → (H' a = some (.tup xs) ∨ ∃ o, H' a = some (.frz o (.tup xs))))
    (e3 : ∀ (a : Addr) (kvs : List (Key × V)), H a = some (.dK kvs) → H' a = some (.dK kvs)) : ∀ {vs : List V} {ds : List PyData}, DXs N K H vs ds → DXs N K H' vs ds
  | _, _, .nil => .nil
  | _, _, .cons h hs => .cons (DX.keep e e2 e3 h) (DXs.keep e e2 e3 hs)
end
theorem DX.kp {K : PySem.W.Frag} {H H' : Hp} {a b : Addr} {N : Addr → Prop} {v : V} {d : PyData} (h : DX N K H v d) (e : Kp a b H H') (ha : ¬ N a) (hb : ¬ N b) (la : ∃ xs, H a = some (.lst xs)) (lb : ∃ xs, H b = some (.lst xs)) : DX N K H' v d := by
  obtain ⟨xa, la⟩ := la
  obtain ⟨xb, lb⟩ := lb
  refine h.keep (fun c xs hc q => e _ _ (fun z => ha (z ▸ hc)) (fun z => hb (z ▸ hc)) q) (fun c xs q => q.elim (fun q => .inl (e _ _ (ne_of q la (by intro z; cases z)) (ne_of q lb (by intro z; cases z)) q)) fun ⟨o, q⟩ => .inr ⟨o, e _ _ (ne_of q la (by intro z; cases z)) (ne_of q lb (by intro z; cases z)) q⟩)
    (fun c xs q => e _ _ (ne_of q la (by intro z; cases z)) (ne_of q lb (by intro z; cases z)) q)
mutual
theorem DX.weak {N M : Addr → Prop} {K : PySem.W.Frag} {H : Hp} (e : ∀ (a : Addr) (xs : List V), H a = some (.lst xs) → N a → M a) : ∀ {v : V} {d : PyData}, DX N K H v d → DX M K H v d
  | _, _, .non => .non
  | _, _, .bl b => .bl b
  | _, _, .int i => .int i
  | _, _, .str x => .str x
  | _, _, .lst h n hs => .lst h (e _ _ h n) (DXs.weak e hs)
  | _, _, .tup h hs => .tup h (DXs.weak e hs)
  | _, _, .d0 h => .d0 h
  | _, _, .d1 h => .d1 h
theorem DXs.weak {N M : Addr → Prop} {K : PySem.W.Frag} {H : Hp} (e : ∀ (a : Addr) (xs : List V), H a = some (.lst xs) → N a → M a) : ∀ {vs : List V} {ds : List PyData}, DXs N K H vs ds → DXs M K H vs ds
  | _, _, .nil => .nil
  | _, _, .cons h hs => .cons (DX.weak e h) (DXs.weak e hs)
end
theorem DX.same {N : Addr → Prop} {K : PySem.W.Frag} {H H' : Hp} {v : V} {d : PyData} (h : DX N K H v d) (e : Same H H') : DX N K H' v d := h.keep (fun a xs _ q => e _ _ q) (fun a xs q => q.elim (fun q => .inl (e _ _ q)) fun ⟨o, q⟩ => .inr ⟨o, e _ _ q⟩) (fun a xs q => e _ _ q)
theorem DXs.same {N : Addr → Prop} {K : PySem.W.Frag} {H H' : Hp} {v : List V} {d : List PyData} (h : DXs N K H v d) (e : Same H H') : DXs N K H' v d := h.keep (fun a xs _ q => e _ _ q) (fun a xs q => q.elim (fun q => .inl (e _ _ q)) fun ⟨o, q⟩ => .inr ⟨o, e _ _ q⟩) (fun a xs q => e _ _ q)
theorem DXs.len {N : Addr → Prop} {K : PySem.W.Frag} {H : Hp} : ∀ {vs : List V} {ds : List PyData}, DXs N K H vs ds → vs.length = ds.length
  | _, _, .nil => rfl
  | _, _, .cons _ hs => by rw [List.length_cons, List.length_cons, DXs.len hs]
theorem DXs.at {N : Addr → Prop} {K : PySem.W.Frag} {H : Hp} : ∀ {vs : List V} {ds : List PyData}, DXs N K H vs ds → ∀ {i : Nat} {v : V}, vs[i]? = some v → ∃ d, ds[i]? = some d ∧ DX N K H v d
  | _, _, .nil, i, v, h => by simp at h
  | _, _, .cons (d := d) h1 h2, 0, v, h => by
    cases h
    exact ⟨d, rfl, h1⟩
  | _, _, .cons h1 h2, i + 1, v, h => DXs.at h2 (i := i) h
theorem DXs.append {N : Addr → Prop} {K : PySem.W.Frag} {H : Hp} : ∀ {vs : List V} {ds : List PyData} {ws : List V} {es : List PyData}, DXs N K H vs ds → DXs N K H ws es → DXs N K H (vs ++ ws) (ds ++ es)
  | _, _, _, _, .nil, h => h
  | _, _, _, _, .cons h1 h2, h => .cons h1 (DXs.append h2 h)
theorem DXs.ints {N : Addr → Prop} {K : PySem.W.Frag} {H : Hp} : ∀ ns : List Int, DXs N K H (ns.map V.int) (iD ns)
  | [] => .nil
  | n :: r => .cons (.int n) (DXs.ints r)
theorem DX.kn {N : Addr → Prop} {K : PySem.W.Frag} {H : Hp} {v : V} {d : PyData} (h : DX N K H v d) : Kn K H v := by
  cases h with
  | non => exact .non
  | bl b => exact .bl b
  | int i => exact .int i
  | str x => exact .str x
  | lst h _ _ => exact .lst h
  | tup h _ =>
    rcases h with h | ⟨o, h⟩
    · exact .tup h
    · exact .ftup h
  | d0 h => exact .dK h
  | d1 h => exact .dK h
def tupOf : PyData → Bool
  | .tuple _ => true
  | _ => false
theorem DX.isTup {N : Addr → Prop} {K : PySem.W.Frag} {H : Hp} {v : V} {d : PyData} (h : DX N K H v d) : ∃ t, TyX K H v t ∧ PySem.W.kitOne K t (.type "tuple") = some (tupOf d) := by
  cases h with
  | non => exact ⟨_, .base .non, kit_ty (by decide +kernel)⟩
  | bl b => exact ⟨_, .base (.bl b), kit_ty (by show kitB "bool" "tuple" = some false; decide +kernel)⟩
  | int i => exact ⟨_, .base (.int i), kit_ty (by show kitB "int" "tuple" = some false; decide +kernel)⟩
  | str x => exact ⟨_, .base (.str x), kit_ty (by show kitB "str" "tuple" = some false; decide +kernel)⟩
  | lst h _ _ => exact ⟨_, .base (.lst h), kit_ty (by show kitB "list" "tuple" = some false; decide +kernel)⟩
  | tup h _ =>
    rcases h with h | ⟨o, h⟩
    · exact ⟨_, .base (.tup h), kit_ty (by show kitB "tuple" "tuple" = some true; decide +kernel)⟩
    · exact ⟨_, .fTuple h, kit_ty (by show kitB "tuple" "tuple" = some true; decide +kernel)⟩
  | d0 h => exact ⟨_, .base (.dK h), kit_ty (by show kitB "dict" "tuple" = some false; decide +kernel)⟩
  | d1 h => exact ⟨_, .base (.dK h), kit_ty (by show kitB "dict" "tuple" = some false; decide +kernel)⟩
theorem DX.tupInv {N : Addr → Prop} {K : PySem.W.Frag} {H : Hp} {v : V} {ds : List PyData} (h : DX N K H v (.tuple ds)) : ∃ a xs, v = .ref a ∧ SqT K H a xs ∧ DXs N K H xs ds := by
  cases h with
  | tup h hs => exact ⟨_, _, rfl, .inl h, hs⟩
/-- a number from lo to hi, told of data -/
def numD (d : PyData) (lo hi : Int) : Bool := match d with
  | .int i => decide (lo ≤ i) && decide (i ≤ hi)
  | _ => false
theorem DX.num {N : Addr → Prop} {K : PySem.W.Frag} {H : Hp} {v : V} {d : PyData} (h : DX N K H v d) (lo hi : Int) : numIn v lo hi = numD d lo hi := by
  cases h <;> rfl
section
variable {X : Cx} {pins : List (Addr × Obj)} {σ : L2.St} {H : Hp} {s : Shared} {N : Addr → Prop}
mutual
theorem DX.reads (hN : ∀ a, N a → a ≠ sysModules) (I : Inv X pins σ H s) : ∀ (d : PyData) (v : V) (u : Value), DX N X.K H v d → RelV v u → ∃ as, Reads s.heap u d as ∧ sysModules ∉ as
  | .none, _, _, h, r => by
    cases h
    cases r
    exact ⟨_, Reads.none, List.not_mem_nil⟩
  | .bool b, _, _, h, r => by
    cases h
    cases r
    exact ⟨_, Reads.bool b, List.not_mem_nil⟩
  | .int i, _, _, h, r => by
    cases h
    obtain ⟨t, rfl⟩ := r
    exact ⟨_, Reads.int i t, List.not_mem_nil⟩
  | .str x, _, _, h, r => by
    cases h
    obtain ⟨t, rfl⟩ := r
    exact ⟨_, Reads.str x t, List.not_mem_nil⟩
  | .list ds, _, _, h, r => by
    cases h with
    | lst hs hn ha =>
      cases r
      obtain ⟨its, rv, ⟨o, n, ho, hc, _, hd⟩, _⟩ := I.list (.of hs)
      obtain ⟨as, hr, hm⟩ := DXs.reads hN I ds _ its ha rv
      exact ⟨_, Reads.list ho hc hd hr, fun z => (List.mem_cons.mp z).elim (fun z => hN _ hn z.symm) hm⟩
  | .tuple ds, _, _, h, r => by
    cases h with
    | tup hs ha =>
      cases r
      obtain ⟨its, rv, ⟨o, ho, hc, n, hd⟩, _⟩ := I.tuple (.inl hs)
      obtain ⟨as, hr, hm⟩ := DXs.reads hN I ds _ its ha rv
      exact ⟨_, Reads.tuple ho hc hd hr, hm⟩
  | .dict kvs, _, _, h, r => by
    cases h with
    | d0 hs =>
      cases r
      obtain ⟨_, hn, vs, kv, o, es, ep, ho, ⟨hc, _, _⟩, hd, _, hp, _⟩ := I.hok _ _ hs
      cases kv
      have he : es.toList = [] := by
        generalize es.toList = l at hp
        cases hp
        rfl
      refine ⟨_, Reads.dict (as := []) (bs := []) ho hc hd (by rw [he]; exact .nil) (by rw [he]; exact .nil), fun z => ?_⟩
      have hz := List.mem_singleton.mp (by simpa using z)
      rw [hz] at hn
      simp at hn
    | @d1 _ k i hs =>
      cases r
      obtain ⟨_, hn, vs, kv, o, es, ep, ho, ⟨hc, _, _⟩, hd, _, hp, _⟩ := I.hok _ _ hs
      obtain ⟨u, t, rfl, rfl⟩ : ∃ (u : Value) (t : Tok), vs = [(Sum.inr k, u)] ∧ u = .int i t := by
        match vs, kv with
        | [(k', u)], .cons ⟨e1, t, e2⟩ .nil => exact ⟨u, t, by rw [show (Sum.inr k : Key) = k' from e1], e2⟩
      generalize hl : es.toList = l at hp
      cases hp with
      | @cons e _ _ _ p1 p2 p3 =>
        cases p3
        obtain ⟨hh, key, val⟩ := e
        have p2' : val = Value.int i t := p2
        subst p2'
        have p1' : keyIs (Sum.inr k) key = true := p1
        obtain ⟨i', t', z, _⟩ | ⟨x, t', z, rfl⟩ := keyIs_shape p1'
        · cases z
        · cases z
          refine ⟨_, Reads.dict (as := [] ++ []) (bs := [] ++ []) ho hc hd (by rw [hl]; exact .cons (.str _ _) .nil) (by rw [hl]; exact .cons (.int _ _) .nil), fun z => ?_⟩
          have hz := List.mem_singleton.mp (by simpa using z)
          rw [hz] at hn
          simp at hn
theorem DXs.reads (hN : ∀ a, N a → a ≠ sysModules) (I : Inv X pins σ H s) : ∀ (ds : List PyData) (vs : List V) (us : List Value), DXs N X.K H vs ds → Vals vs us → ∃ as, ReadsAll s.heap us ds as ∧ sysModules ∉ as
  | [], _, _, h, r => by
    cases h
    cases r
    exact ⟨_, ReadsAll.nil, List.not_mem_nil⟩
  | d :: ds, _, _, h, r => by
    cases h with
    | cons h1 h2 =>
      cases r with
      | cons r1 r2 =>
        obtain ⟨as, q1, m1⟩ := DX.reads hN I d _ _ h1 r1
        obtain ⟨bs, q2, m2⟩ := DXs.reads hN I ds _ _ h2 r2
        exact ⟨_, ReadsAll.cons q1 q2, fun z => (List.mem_append.mp z).elim m1 m2⟩
end
end
/-- data whose text can be shown -/
structure FineX (n W : Nat) (d : PyData) : Prop where
  dep : d.depth ≤ n
  wei : d.weight ≤ W
  sho : d.showable = true
  lea : d.leavesShort 40 = true
structure FineXs (n W : Nat) (ds : List PyData) : Prop where
  dep : PyData.depthAll ds ≤ n
  wei : PyData.weightAll ds ≤ W
  sho : PyData.showableAll ds = true
  lea : PyData.leavesShortAll 40 ds = true
theorem FineX.mono {n W m U : Nat} {d : PyData} (h : FineX n W d) (e : n ≤ m) (e2 : W ≤ U) : FineX m U d := ⟨Nat.le_trans h.dep e, Nat.le_trans h.wei e2, h.sho, h.lea⟩
theorem FineXs.mono {n W m U : Nat} {d : List PyData} (h : FineXs n W d) (e : n ≤ m) (e2 : W ≤ U) : FineXs m U d := ⟨Nat.le_trans h.dep e, Nat.le_trans h.wei e2, h.sho, h.lea⟩
theorem finex_nil : FineXs 0 0 [] := ⟨Nat.le_refl _, Nat.le_refl _, rfl, rfl⟩
theorem finex_cons {n W U : Nat} {d : PyData} {ds : List PyData} (h : FineX n W d) (hs : FineXs n U ds) : FineXs n (W + 1 + U) (d :: ds) := by
  refine ⟨?_, ?_, ?_, ?_⟩
  · simp only [PyData.depthAll]
    exact Nat.max_le.mpr ⟨h.dep, hs.dep⟩
  · have h1 := h.wei
    have h2 := hs.wei
    simp only [PyData.weightAll]
    omega
  · simp only [PyData.showableAll, h.sho, hs.sho, Bool.and_self]
  · simp only [PyData.leavesShortAll, h.lea, hs.lea, Bool.and_self]
theorem finex_list {n W : Nat} {ds : List PyData} (h : FineXs n W ds) : FineX (n + 1) W (.list ds) := by
  have h1 := h.dep
  refine ⟨by simp only [PyData.depth]; omega, h.wei, ?_, ?_⟩
  · simp only [PyData.showable, h.sho]
  · simp only [PyData.leavesShort, h.lea]
theorem finex_tuple {n W : Nat} {ds : List PyData} (h : FineXs n W ds) : FineX (n + 1) W (.tuple ds) := by
  have h1 := h.dep
  refine ⟨by simp only [PyData.depth]; omega, h.wei, ?_, ?_⟩
  · simp only [PyData.showable, h.sho]
  · simp only [PyData.leavesShort, h.lea]
theorem finex_all {n W : Nat} : ∀ {ds : List PyData}, (∀ d ∈ ds, FineX n W d) → FineXs n ((W + 1) * ds.length) ds
  | [], _ => finex_nil.mono (Nat.zero_le _) (Nat.zero_le _)
  | d :: ds, h => by
    have q := finex_cons (h d List.mem_cons_self) (finex_all fun x hx => h x (List.mem_cons_of_mem _ hx))
    refine q.mono (Nat.le_refl _) ?_
    rw [List.length_cons, Nat.mul_add, Nat.mul_one]
    omega
theorem FineX.len {n W : Nat} {d : PyData} (h : FineX n W d) (hW : W ≤ 300000) : d.shown.length ≤ sizeLine := by
  have q := PyData.shown_le 40 (by decide) d h.lea
  have := h.wei
  rw [sizeLine_eq]
  omega
section
variable {X : Cx}
def ShownX (N : Addr → Prop) (K : PySem.W.Frag) (H : Hp) (v : V) (d : PyData) : Prop := (∀ a, N a → a ≠ sysModules) ∧ DX N K H v d ∧ isDisplay d = true ∧ d.showable = true ∧ d.depth ≤ 60 ∧ d.shown.length ≤ sizeLine
theorem FineX.shown {N : Addr → Prop} {K : PySem.W.Frag} {H : Hp} {v : V} {n W : Nat} {d : PyData} (h : FineX n W d) (hn : n ≤ 60) (hW : W ≤ 300000) (hN : ∀ a, N a → a ≠ sysModules) (hd : DX N K H v d) (hi : isDisplay d = true) : ShownX N K H v d :=
  ⟨hN, hd, hi, h.sho, Nat.le_trans h.dep hn, h.len hW⟩
theorem call_reprX (hgd : X.A.guards = some []) (hu : X.A.units + 64 < cLine) : CallR X (.builtin "repr") (fun xs H Q => ∃ N v d, xs = [v] ∧ ShownX N X.K H v d ∧ Q (.str d.shown) H) := by
  intro pins s σ H xs us Q I r h
  obtain ⟨N, v, d, rfl, ⟨hN, hd, h1, h2, h4, h5⟩, q⟩ := h
  obtain ⟨u, rfl, ru⟩ := vals1 r
  obtain ⟨as, R, hm⟩ := DX.reads hN I d v u hd ru
  obtain ⟨a, rfl⟩ := isRef_of_reads R h1
  refine repr_of_reads' R h2 (fun _ => hm) hgd (by omega) (fun _ _ e => e) (fun h' tk1 tk2 hk => ?_) h5
  exact ⟨.str _, H, I.kept (t' := tk2) hk, ⟨tk1, rfl⟩, q⟩
/-- a list display, told that it is not sys.modules -/
def tLstS (t : TA) : TE := fun σ H Q => t σ H fun xs H1 => xs.length ≤ sizeLine ∧ ∀ p, H1 p = none → p ≠ sysModules → Q (.ref p) (upd H1 p (.lst xs))
theorem pe_lstS {es : List Expr} {t : TA} {pos : Pos} (h : PA X es t) : PE X (.List es pos) (tLstS t) := by
  refine ⟨fun pins s σ H Q I hq => ?_⟩
  refine wpAny_List_spliced (thn (h.run pos pins s σ H _ I hq) fun us s1 ⟨xs, H1, I1, r, z, q⟩ => ⟨by rw [← r.length]; exact z, ?_⟩)
  have hf : H1 s1.heap.objs.size = none := I1.hok.fresh (Nat.le_refl _)
  refine ⟨.ref s1.heap.objs.size, upd H1 s1.heap.objs.size (.lst xs), I1.laid (t' := s1.toks) (fun b u e => Heap.get?_push_of_some _ e) (Nat.le_refl _) ?_, rfl, q _ hf (Ne.symm (Nat.ne_of_lt I1.big))⟩
  exact ⟨z, us, 0, r, Heap.get?_push_size _ rfl⟩
/-- list(x), told that it is not sys.modules -/
def rListS (K : PySem.W.Frag) : List V → Hp → VK → Prop := fun xs H Q => ∃ p ys, xs = [.ref p] ∧ (SqL K H p ys ∨ SqT K H p ys) ∧ ∀ l, H l = none → l ≠ sysModules → Q (.ref l) (upd H l (.lst ys))
theorem call_listS : CallR X (.type "list") (rListS X.K) := by
  intro pins s σ H xs us Q I r h
  obtain ⟨p, ys, rfl, hq, q⟩ := h
  obtain ⟨u, rfl, rx⟩ := vals1 r
  cases rx
  have fin : ∀ (its : List Value), Vals ys its → ys.length ≤ sizeLine → ∀ (h' : Heap) (c' : Nat), (∀ b o', s.heap.get? b = some o' → h'.get? b = some o') →
      h'.get? s.heap.objs.size = some { cls := .type "list", dict := none, data := .seq its.toArray c', slots := #[] } → EP X pins σ Q (.ref s.heap.objs.size) { s with heap := h' } := fun its r' hz h' c' kp e =>
    ⟨.ref s.heap.objs.size, _, I.laid (t' := s.toks) kp (Nat.le_refl _) (show ObjOk X.prog X.w _ h' _ (.lst ys) from ⟨hz, its, c', r', e⟩), rfl, q _ (I.hok.fresh (Nat.le_refl _)) (Ne.symm (Nat.ne_of_lt I.big))⟩
  rcases hq with hq | hq
  · obtain ⟨its, r', pl, hz⟩ := I.list hq
    have hlen := r'.length
    obtain ⟨o, ho, hc, n, hd⟩ := pl.isList
    exact call_list_seq p (.inl rfl) ho hc hd (fun h' c' kp e => fin its r' hz h' c' kp e) (by simp only [List.size_toArray] <;> omega)
  · obtain ⟨its, r', pl, hz⟩ := I.tuple hq
    have hlen := r'.length
    obtain ⟨o, ho, hc, n, hd⟩ := pl
    exact call_list_seq p (.inr rfl) ho hc hd (fun h' c' kp e => fin its r' hz h' c' kp e) (by simp only [List.size_toArray] <;> omega)
end
end Sv

set_option maxHeartbeats 4000000
/-! tuple * 1: the same tuple. -/
namespace Sv
open PySem PySem.Spec PyProof.Rows L2
theorem tuple_mulW1 (l : Addr) (items : Array Value) (n : Nat) (dd : Option Addr) (sl : Array (Option Value)) (u : Tok) (c1 : (items.isEmpty || (1 : Int) == 1) = true) :
    Meets (Builtin.«tuple.__mul__» ⟨[.ref l, .int 1 u], []⟩) (fun _ R s => s.heap.get? l = some { cls := .type "tuple", dict := dd, data := .seq items n, slots := sl } ∧ R (.ok (.ret (Value.ref l))) s) :=
  .of_wp fun prog w A R s h => by
    obtain ⟨hp, g, d, tk, os⟩ := s
    obtain ⟨hl, h⟩ := h
    have f1 := AutoSeq1.idx_int
    wp_walk using wpAny_loadPart' hl
    repeat (first
      | (refine wpAny_ite_true (decide_eq_true c1) ?_; wp_walk using wpAny_loadPart' hl)
      | (refine wpAny_ite_false (decide_eq_false (by decide)) ?_; wp_walk using wpAny_loadPart' hl))
    exact ⟨_, rfl, h⟩
section
variable {X : Cx}
def rRep1 (K : PySem.W.Frag) : R2 := fun x y H Q => ∃ l xs, x = .ref l ∧ y = .int 1 ∧ SqT K H l xs ∧ Q (.ref l) H
theorem op_rep1 : OpR X (binaryOp .Mult) (rRep1 X.K) := by
  intro pins s σ H x y v u Q I rx ry h
  obtain ⟨l, xs, rfl, rfl, hT, q⟩ := h
  cases rx
  obtain ⟨t, rfl⟩ := ry
  obtain ⟨its, r, ⟨⟨cls, dd, data, sl⟩, ho, hc, n, hd⟩, hs⟩ := I.tuple hT
  simp only at hc hd
  subst hc hd
  refine wpAny_binaryOp_repeat_ref (T := "tuple") (U := "int") (by decide) ⟨_, ho, rfl⟩ (fun s' => typeIs_int s' 1 t) noFill_tuple_mul F.fills_int_mul F.slot_int_rmul repeat_tuple F.slot_int_index.lookup
    (call_meets F.slot_int_rmul (typeIs_int s 1 t) F.entry_int_rmul (F.args_int_rmul_2 _ _) (int_rmul_tuple 1 t l its.toArray n dd sl)
      ⟨ho, rfl, ⟨_, ho, rfl⟩, call_meets F.slot_tuple_mul ⟨_, ho, rfl⟩ F.entry_tuple_mul (F.args_tuple_mul_2 _ _) (tuple_mulW1 l its.toArray n dd sl t (by simp)) ⟨ho, ?_⟩⟩)
  exact ⟨.ref l, H, I, rfl, q⟩
def rRepA (K : PySem.W.Frag) : R2 := fun x y H Q => rRepT K x y H Q ∨ rRep1 K x y H Q
theorem op_repA : OpR X (binaryOp .Mult) (rRepA X.K) := OpR.or op_repT op_rep1
end
/-- a tuple of zeros -/
theorem rep_zeros {K : PySem.W.Frag} {H : Hp} {l : Addr} {c : Nat} {Q : VK} (h : SqT K H l [.int 0]) (h1 : 1 ≤ c) (h6 : c ≤ 6) (q : ∀ (H' : Hp) (p : Addr), Same H H' → SqT K H' p (List.replicate c (.int 0)) → Q (.ref p) H') : rRepA K (.ref l) (.int c) H Q := by
  by_cases e : c = 1
  · subst e
    exact .inr ⟨l, _, rfl, rfl, h, q H l (Same.refl H) h⟩
  · refine .inl ⟨l, c, _, rfl, rfl, h, by simp, by omega, by omega, by simp, fun p np => q _ p (Same.new np) ?_⟩
    have : (List.replicate ((c : Int)).toNat [V.int 0]).flatten = List.replicate c (.int 0) := by
      rw [Int.toNat_natCast]
      clear h q
      induction c with
      | zero => rfl
      | succ n ih =>
        rw [List.replicate_succ, List.flatten_cons, List.replicate_succ]
        by_cases h0 : n = 0
        · subst h0; rfl
        · have : (List.replicate n [V.int 0]).flatten = List.replicate n (.int 0) := by
            clear ih
            induction n with
            | zero => rfl
            | succ m ihm => rw [List.replicate_succ, List.flatten_cons, List.replicate_succ]; rcases Nat.eq_zero_or_pos m with z | z
                            · subst z; rfl
                            · rw [ihm (by omega) (by omega) (by omega) (by omega)]; rfl
          rw [this]; rfl
    rw [this]
    exact .inl (.inl upd_same)
end Sv

/-! + and cuts of any tuples, told once for all. -/
namespace Sv
open PySem PySem.Spec PyProof.Rows L2
def TupT (H : Hp) (a : Addr) (xs : List V) : Prop := H a = some (.tup xs) ∨ ∃ o, H a = some (.frz o (.tup xs))
theorem TupT.sqT {K : PySem.W.Frag} {H : Hp} {a : Addr} {xs : List V} (h : TupT H a xs) : SqT K H a xs := .inl h
theorem TupT.same {H H' : Hp} {a : Addr} {xs : List V} (h : TupT H a xs) (e : Same H H') : TupT H' a xs := h.elim (fun q => .inl (e _ _ q)) fun ⟨o, q⟩ => .inr ⟨o, e _ _ q⟩
theorem slA {K : PySem.W.Frag} {H : Hp} {a : Addr} {xs : List V} {lo hi : Option Int} {Q : VK} (h : TupT H a xs) (q : ∀ (H' : Hp) (p : Addr), Same H H' → TupT H' p (cutV xs lo hi) → Q (.ref p) H') : rSlA K (.ref a) lo hi H Q := by
  refine ⟨a, xs, rfl, h.sqT, fun z => ?_, fun _ p np => q _ p (Same.new np) (.inl upd_same)⟩
  refine q H a (Same.refl H) ?_
  have e : cutV xs lo hi = xs := by
    unfold cutV
    rw [z.1, z.2, List.drop_zero, Nat.sub_zero, List.take_length]
  rw [e]
  exact h
theorem catA {K : PySem.W.Frag} {H : Hp} {a b : Addr} {xs ys : List V} {Q : VK} (ha : TupT H a xs) (hb : TupT H b ys) (hl : xs.length + ys.length ≤ 1000) (q : ∀ (H' : Hp) (p : Addr), Same H H' → TupT H' p (xs ++ ys) → Q (.ref p) H') : L2.rCatA K (.ref a) (.ref b) H Q := by
  refine ⟨a, b, xs, ys, rfl, rfl, ha.sqT, hb.sqT, Nat.le_of_lt (small1000 (by omega)), fun z => q H b (Same.refl H) (by rw [z]; exact hb), fun _ z => q H a (Same.refl H) (by rw [z, List.append_nil]; exact ha), fun _ _ p np => q _ p (Same.new np) (.inl upd_same)⟩
theorem cut_last (xs : List V) : cutV xs none (some (-1)) = xs.take (xs.length - 1) := by
  unfold cutV
  have e : HT.sIx xs.length xs.length (some (-1)) = xs.length - 1 := by
    show (if (-1 : Int) < 0 then (-1 + (xs.length : Int)).toNat else min (-1 : Int).toNat xs.length) = _
    rw [if_pos (by decide)]
    omega
  rw [HT.sIx_none, e, List.drop_zero, Nat.sub_zero]
end Sv

namespace Sv
open PySem PySem.Spec PyProof.Rows L2
/-! ### the law's draws: places in the text -/
def topS (i : Nat) : Stmt := PySem.Challenge.pw_savelines_k13_lines_judged.main.body.getD i (.Pass ⟨0, 0, 0, 0⟩)
abbrev sState : Stmt := topS 8
abbrev sDraw : Stmt := topS 9
theorem scState : FnScope ["_law_script", "_law_cells", "_law_cell"] ["_law_script"] (defScope sState) := ⟨rfl, rfl, rfl, by decide +kernel, rfl, by decide +kernel, by decide +kernel⟩
theorem scDraw : FnScope ["_law_deck_here", "_law_many", "_law_rest", "_law_turn", "_law_cell", "_law_mixed"] ["_law_deck_here", "_law_many"] (defScope sDraw) := ⟨rfl, rfl, rfl, by decide +kernel, rfl, by decide +kernel, by decide +kernel⟩

theorem ixn {n j : Nat} (hj : j < n) : ixN n (j : Int) = some j := by
  unfold ixN
  rw [if_pos (Int.natCast_nonneg j), if_pos (Int.ofNat_lt.mpr hj), Int.toNat_natCast]
/-- the draws' state: its list, the large cells, all cells, at most n draws so far -/
def StAt (H : Hp) (st big cel : Addr) (n : Nat) : Prop := st ≠ big ∧ st ≠ cel ∧ big ≠ cel ∧ n ≤ 1000000 ∧ ∃ (bs cs : List Int) (k : Int),
  H st = some (.lst [.ref big, .ref cel, .int k]) ∧ H big = some (.lst (bs.map V.int)) ∧ H cel = some (.lst (cs.map V.int)) ∧
  (∀ b ∈ bs, 0 ≤ b) ∧ (∀ c ∈ cs, 0 ≤ c) ∧ cs ≠ [] ∧ 0 ≤ k ∧ k ≤ n ∧ bs.length ≤ 63 ∧ cs.length ≤ 64
theorem StAt.same {H H' : Hp} {st big cel : Addr} {n : Nat} (h : StAt H st big cel n) (e : Same H H') : StAt H' st big cel n := by
  obtain ⟨h1, h2, h3, hn, bs, cs, k, a, b, c, r⟩ := h
  exact ⟨h1, h2, h3, hn, bs, cs, k, e _ _ a, e _ _ b, e _ _ c, r⟩
theorem StAt.le {H : Hp} {st big cel : Addr} {n m : Nat} (h : StAt H st big cel n) (e : n ≤ m) (em : m ≤ 1000000) : StAt H st big cel m := by
  obtain ⟨h1, h2, h3, hn, bs, cs, k, a, b, c, q1, q2, q3, q4, q5, r⟩ := h
  exact ⟨h1, h2, h3, em, bs, cs, k, a, b, c, q1, q2, q3, q4, Int.le_trans q5 (Int.ofNat_le.mpr e), r⟩
theorem StAt.tup {K : PySem.W.Frag} {H H' : Hp} {st big cel : Addr} {n : Nat} (h : StAt H st big cel n) (e : Kp st big H H') {a : Addr} {xs : List V} (q : SqT K H a xs) : SqT K H' a xs := by
  obtain ⟨h1, h2, h3, hn, bs, cs, k, ha, hb, hc, r⟩ := h
  rcases q with (q | ⟨o, q⟩) | q
  · exact .inl (.inl (e _ _ (ne_of q ha (by intro z; cases z)) (ne_of q hb (by intro z; cases z)) q))
  · exact .inl (.inr ⟨o, e _ _ (ne_of q ha (by intro z; cases z)) (ne_of q hb (by intro z; cases z)) q⟩)
  · exact .inr q
theorem StAt.tupN {H H' : Hp} {st big cel : Addr} {n : Nat} (h : StAt H st big cel n) (e : Kp st big H H') {a : Addr} {xs : List V} (q : TupN H a xs) : TupN H' a xs := by
  obtain ⟨h1, h2, h3, hn, bs, cs, k, ha, hb, hc, r⟩ := h
  obtain ⟨o, q, d⟩ := q
  exact ⟨o, e _ _ (ne_of q ha (by intro z; cases z)) (ne_of q hb (by intro z; cases z)) q, d⟩
theorem StAt.ne {H : Hp} {st big cel : Addr} {n : Nat} (h : StAt H st big cel n) {p : Addr} (q : H p = none) : st ≠ p ∧ big ≠ p ∧ cel ≠ p := by
  obtain ⟨h1, h2, h3, hn, bs, cs, k, ha, hb, hc, r⟩ := h
  exact ⟨ne_of_none ha q, ne_of_none hb q, ne_of_none hc q⟩

def spDraw : Sp := fun vs H Q _ => ∃ (st big cel : Addr) (n : Nat) (m : Int), vs = [.ref st, .int m] ∧ 0 < m ∧ m < 1000000 ∧ StAt H st big cel n ∧ n < 1000000 ∧
  ∀ (H' : Hp) (v : Int), 0 ≤ v → v < m → StAt H' st big cel (n + 1) → Kp st big H H' → Q (.int v) H'
section
variable {P : Program} {w : World} {K : PySem.W.Frag} {mg : Str → Option Value} {base : Heap}
theorem ok_draw {f : Addr} {fd : FuncData} (F : Fun K "_law_next" "_law_next" sDraw f fd) (ml : mg "len" = none) : FnOk P w K mg base CX0 1 f fd ["_law_deck_here", "_law_many"] spDraw := by
  refine F.ok scDraw (fun vs H Q E h => ?_) (fun cdv A outer s H vs Q E hr h => ?_)
  · obtain ⟨st, big, cel, n, m, rfl, _⟩ := h
    rfl
  · obtain ⟨st, big, cel, n, m, rfl, m0, m1, hS, hn, q⟩ := h
    have pl : ∀ (i : Int) (j : Nat) (p : Pos), PlainIx (.Constant (.int i) j p) := fun _ _ _ _ _ => rfl
    refine ⟨_, pss_cons (ps_while PassesOwn.never
        (pt_cmpR (op_neD hr.units) (pe_ix ix_list (pv 0) pe_int (fun _ _ => rfl)) (pe_lst pa_nil) (nomark _))
        (pss_cons (ps_set (i := 2) scDraw.nd rfl (.inl rfl) (pe_ix ix_list (pe_ix ix_list (pv 0) pe_int (fun _ _ => rfl)) pe_int (fun _ _ => rfl)))
        (pss_cons (ps_if (pt_cmpR op_gt (pv 2) pe_int (nomark _))
            (pss_cons (ps_asg (pe_op op_fdiv (pv 2) (pv 1)) (pg_sub (pe_ix ix_list (pv 0) pe_int (fun _ _ => rfl)) pe_int set_list))
            (pss_one (ps_ret (pe_op op_mod (pv 2) (pv 1))))) pss_nil)
        (pss_one (ps_expr (pe_bm PySem.F.plainAttrs_list PySem.F.slot_list_pop PySem.F.type_list_pop mt_popAt (pe_ix ix_list (pv 0) pe_int (fun _ _ => rfl)) (pa_cons pe_int pa_nil)))))))
      (pss_cons (ps_set (i := 3) scDraw.nd rfl (.inl rfl) (pe_op op_add (pe_ix ix_list (pv 0) pe_int (fun _ _ => rfl)) pe_int))
      (pss_cons (ps_asg (pv 3) (pg_sub (pv 0) pe_int set_list))
      (pss_cons (ps_set (i := 4) scDraw.nd rfl (.inl rfl) (pe_op op_mod (pe_ix ix_list (pe_ix ix_list (pv 0) pe_int (fun _ _ => rfl)) (pe_op op_mod (pv 3) (pe_callB call_len_seq (by rfl) ml PySem.boot_len (pa_cons (pe_ix ix_list (pv 0) pe_int (fun _ _ => rfl)) pa_nil))) (fun _ _ => rfl)) pe_int))
      (pss_cons (ps_set (i := 5) scDraw.nd rfl (.inl rfl) (pe_op op_mod (pe_op op_add (pe_op op_add (pe_op op_mul (pv 4) (pe_op op_add pe_int (pe_op op_mul pe_int (pv 3)))) (pe_op op_mul (pe_op op_mul pe_int (pv 3)) (pv 3))) pe_int) pe_int))
      (pss_one (ps_ret (pe_op op_mod (pe_op op_fdiv (pe_op op_mod (pe_op op_mul (pv 5) (pv 5)) pe_int) pe_int) (pv 1)))))))), ?_⟩
    obtain ⟨n1, n2, n3, hn', bs, cs, k, ha, hb, hc, q1, q2, q3, q4, q5, q6, q7⟩ := hS
    refine while_by (fun σ H1 => ∃ (bs : List Int) (x2 : Option V), σ = [some (.ref st), some (.int m), x2, none, none, none] ∧ H1 st = some (.lst [.ref big, .ref cel, .int k]) ∧
        H1 big = some (.lst (bs.map V.int)) ∧ H1 cel = some (.lst (cs.map V.int)) ∧ (∀ b ∈ bs, 0 ≤ b) ∧ bs.length ≤ 63 ∧ Kp st big H H1)
      (fun σ H1 => match H1 big with | some (.lst xs) => xs.length | _ => 0) ⟨bs, none, rfl, ha, hb, hc, q1, q6, .refl H⟩ ?_ ?_
    · rintro σ H1 ⟨bs, x2, rfl, a1, b1, c1, p1, p2, kp⟩
      -- the test
      have sA : SqL K H1 st [.ref big, .ref cel, .int k] := SqL.of a1
      have sB : SqL K H1 big (bs.map V.int) := SqL.of b1
      refine ⟨_, rfl, st, _, 0, _, rfl, rfl, sA, atI_nat (j := 0) rfl, Nat.zero_le _, fun e ne => ?_⟩
      have sm : Same H1 (upd H1 e (.lst [])) := Same.new ne
      have a2 := sm _ _ a1
      have b2 := sm _ _ b1
      have c2 := sm _ _ c1
      refine ⟨_, _, dp_lst (sm.seq sB), dp_nil (SqL.of upd_same), shaped_lst bs, shaped_nil, _, rfl, ?_⟩
      rw [eqv_nil]
      cases bs with
      | nil =>
        refine iteF ?_
        -- st[2] = st[2] + 1
        refine ⟨_, rfl, st, _, 2, _, rfl, rfl, SqL.of a2, atI_nat (j := 2) rfl, k, 1, rfl, rfl, _, rfl, _, rfl, st, _, 2, 2, rfl, rfl, a2, rfl, ?_⟩
        generalize hH3 : upd (upd H1 e (.lst [])) st (.lst ([V.ref big, V.ref cel, V.int k].set 2 (V.int (k + 1)))) = H3
        have a3 : H3 st = some (.lst [V.ref big, V.ref cel, V.int (k + 1)]) := by
          rw [← hH3]
          exact upd_same
        have b3 : H3 big = some (.lst (([] : List Int).map V.int)) := by
          rw [← hH3, upd_ne n1.symm]
          exact b2
        have c3 : H3 cel = some (.lst (cs.map V.int)) := by
          rw [← hH3, upd_ne n2.symm]
          exact c2
        have k3 : Kp st big H H3 := by
          rw [← hH3]
          exact (kp.trans (.new ne)).trans (.put (.inl rfl))
        have S3 := SqL.of (K := K) a3
        have C3 := SqL.of (K := K) c3
        have hl : 0 < cs.length := List.length_pos_iff.mpr q3
        have r0 : 0 ≤ (k + 1) % (cs.length : Int) := Int.emod_nonneg _ (by omega)
        have r1 : (k + 1) % (cs.length : Int) < (cs.length : Int) := Int.emod_lt_of_pos _ (by omega)
        obtain ⟨j, hj⟩ : ∃ j : Nat, (k + 1) % (cs.length : Int) = (j : Int) := ⟨_, (Int.toNat_of_nonneg r0).symm⟩
        have hjl : j < cs.length := by omega
        have hat : atI (cs.map V.int) ((k + 1) % (((cs.map V.int).length : Nat) : Int)) = some (V.int cs[j]) := by
          rw [List.length_map, hj]
          refine atI_nat ?_
          rw [List.getElem?_map, List.getElem?_eq_getElem hjl]
          rfl
        have hc0 : 0 ≤ cs[j] := q2 _ (List.getElem_mem hjl)
        -- cell
        refine ⟨.ref st, rfl, st, _, 1, .ref cel, rfl, rfl, S3, atI_nat (j := 1) rfl, _, rfl,
          .ref st, rfl, st, _, 1, .ref cel, rfl, rfl, S3, atI_nat (j := 1) rfl, cel, _, rfl, .inl C3, _, _, rfl, rfl, (by rw [List.length_map]; omega), cel, _, _, _, rfl, rfl, C3, hat, _, _, rfl, rfl, (show (0 : Int) < 2147483647 by decide), ?_⟩
        have e0 : 0 ≤ cs[j] % 2147483647 := Int.emod_nonneg _ (by decide)
        have e1 : cs[j] % 2147483647 < 2147483647 := Int.emod_lt_of_pos _ (by decide)
        generalize hcell : cs[j] % 2147483647 = cell at e0 e1 ⊢
        have kb : 0 ≤ k + 1 ∧ k + 1 ≤ 1000001 := by omega
        -- the mixture
        refine ⟨_, rfl, _, rfl, _, _, rfl, rfl, .inl ⟨by decide, by decide⟩, _, _, rfl, rfl, _, _, rfl, rfl, .inl ⟨by omega, by omega⟩, _, rfl, _, _, rfl, rfl, .inl ⟨by decide, by decide⟩, _, rfl, _, _, rfl, rfl, .inr ⟨by omega, by omega⟩, _, _, rfl, rfl, _, _, rfl, rfl, _, _, rfl, rfl, (show (0 : Int) < 2147483629 by decide), ?_⟩
        generalize hmx : cell * (69621 + 48271 * (k + 1)) + 30011 * (k + 1) * (k + 1) + 19 = mx
        have f0 : 0 ≤ mx % 2147483629 := Int.emod_nonneg _ (by decide)
        have f1 : mx % 2147483629 < 2147483629 := Int.emod_lt_of_pos _ (by decide)
        generalize mx % 2147483629 = my at f0 f1 ⊢
        refine ⟨_, rfl, _, rfl, _, _, rfl, rfl, .inl ⟨by omega, by omega⟩, _, _, rfl, rfl, (show (0 : Int) < 2147483587 by decide), _, _, rfl, rfl, ⟨by decide, by decide⟩, _, rfl, _, m, rfl, rfl, m0, ?_⟩
        refine q H3 _ (Int.emod_nonneg _ (by omega)) (Int.emod_lt_of_pos _ m0) ⟨n1, n2, n3, by omega, [], cs, k + 1, a3, b3, c3, fun _ z => (nomatch z), q2, q3, by omega, by omega, Nat.zero_le _, q7⟩ k3
      | cons b r =>
        refine iteT ?_
        have hb0 : 0 ≤ b := p1 b List.mem_cons_self
        refine ⟨.ref st, rfl, st, _, 0, .ref big, rfl, rfl, SqL.of a2, atI_nat (j := 0) rfl, big, _, 0, .int b, rfl, rfl, SqL.of b2, atI_nat (j := 0) rfl, ?_⟩
        refine ⟨_, rfl, b, 0, rfl, rfl, _, rfl, ite2 (fun hb1 => ?_) (fun hb1 => ?_)⟩
        · -- a digit
          refine ⟨_, rfl, _, rfl, b, m, rfl, rfl, ⟨m0, by omega⟩, .ref st, rfl, st, _, 0, .ref big, rfl, rfl, SqL.of a2, atI_nat (j := 0) rfl, big, _, 0, 0, rfl, rfl, b2, ixn (j := 0) (by simp), ?_⟩
          refine ⟨_, rfl, _, rfl, b, m, rfl, rfl, m0, ?_⟩
          refine q _ _ (Int.emod_nonneg _ (by omega)) (Int.emod_lt_of_pos _ m0) ⟨n1, n2, n3, by omega, (b / m) :: r, cs, k, ?_, ?_, ?_, ?_, q2, q3, q4, by omega, p2, q7⟩ ((kp.trans (.new ne)).trans (.put (.inr rfl)))
          · rw [upd_ne n1]
            exact a2
          · exact upd_same
          · rw [upd_ne n3.symm]
            exact c2
          · intro z hz
            rcases List.mem_cons.mp hz with rfl | hz
            · exact Int.ediv_nonneg hb0 (by omega)
            · exact p1 z (List.mem_cons_of_mem _ hz)
        · -- a number used up
          refine ⟨.ref st, rfl, st, _, 0, .ref big, rfl, rfl, SqL.of a2, atI_nat (j := 0) rfl, .inl ⟨rfl, _, SqL.of b2⟩, big, _, 0, 0, .int b, rfl, rfl, b2, (by decide), (by decide), ?_, rfl, ⟨r, _, rfl, ?_, upd_same, ?_, fun z hz => p1 z (List.mem_cons_of_mem _ hz), ?_, (kp.trans (.new ne)).trans (.put (.inr rfl))⟩, ?_⟩
          · exact seqIndex_of (by decide) (by simp)
          · rw [upd_ne n1]
            exact a2
          · rw [upd_ne n3.symm]
            exact c2
          · rw [List.length_cons] at p2
            omega
          · simp only [upd_same, b1]
            simp
    · rintro σ H1 Q1 Q2 hQ ⟨v1, e1, p, xs, i, v, h2, h3, h4, h5, h6, h7⟩
      refine ⟨v1, e1, p, xs, i, v, h2, h3, h4, h5, h6, fun e ne => ?_⟩
      obtain ⟨d1, d2, g1, g2, g3, g4, c, g5, g6⟩ := h7 e ne
      exact ⟨d1, d2, g1, g2, g3, g4, c, g5, hQ _ _ g6⟩
end

end Sv

namespace Sv
open PySem PySem.Spec PyProof.Rows L2
theorem sz {n : Nat} (h : n ≤ 1000) : n ≤ sizeLine := Nat.le_of_lt (small1000 h)
theorem yesT {σ : L2.St} {H : Hp} {A B : Hp → Prop} (h : A H) : tYes σ H (fun b H3 => if b = true then A H3 else B H3) := by
  show (if true = true then A H else B H)
  rw [if_pos rfl]
  exact h
theorem Same.put {H H' : Hp} {p : Addr} {o : HO} (h : H p = none) (e : Same H H') : Same H (upd H' p o) := fun c u q => by
  rw [upd_ne (ne_of_none q h)]
  exact e _ _ q
def absI (n : Int) : Int := if n < 0 then -n else n
theorem absI_nn (n : Int) : 0 ≤ absI n := by
  unfold absI
  split <;> omega
def spState (K : PySem.W.Frag) : Sp := fun vs H Q _ => ∃ (a : Addr) (ns : List Int), vs = [.ref a] ∧ SqL K H a (ns.map V.int) ∧ ns.length ≤ 63 ∧
  ∀ (H' : Hp) (st big cel : Addr), StAt H' st big cel 0 → Same H H' → H st = none → H big = none → H cel = none → Q (.ref st) H'
section
variable {P : Program} {w : World} {K : PySem.W.Frag} {mg : Str → Option Value} {base : Heap}
theorem ok_state {f : Addr} {fd : FuncData} (F : Fun K "_law_deck" "_law_deck" sState f fd) (ml : mg "len" = none) (ma : mg "abs" = none) : FnOk P w K mg base CX0 1 f fd ["_law_script"] (spState K) := by
  refine F.ok scState (fun vs H Q E h => ?_) (fun cdv A outer s H vs Q E hr h => ?_)
  · obtain ⟨a, ns, rfl, _⟩ := h
    rfl
  · obtain ⟨a, ns, rfl, hS, hlen, q⟩ := h
    refine ⟨_, pss_cons (ps_setLc (i := 1) (own := [("_law_cell", 2)]) (g := gName 2) (by rfl) scState.nd rfl rfl (sw_true rfl rfl rfl (by decide +kernel)) (pi_list (pv 0))
        (blkOk_by (own := [("_law_cell", 2)]) (N := ["_law_script", "_law_cells", "_law_cell"]) (sc := defScope sState) (by decide +kernel))
        (fun _ _ _ _ _ => pg_name (i := 2) scState.nd rfl (Or.inl rfl)) (fun _ _ _ _ _ => pts_nil)
        (fun _ _ _ _ _ => pe_callB call_abs (by rfl) ma (by decide +kernel) (pa_cons (pv 2) pa_nil)))
      (pss_one (ps_ret (pe_lst (pa_cons (pe_lc (own := [("_law_cell", 2)]) (g := gName 2) (by rfl) scState.nd (pi_list (pv 1))
          (blkOk_by (own := [("_law_cell", 2)]) (N := ["_law_script", "_law_cells", "_law_cell"]) (sc := defScope sState) (by decide +kernel))
          (fun _ _ _ _ _ => pg_name (i := 2) scState.nd rfl (Or.inl rfl))
          (fun _ _ _ _ _ => pts_one (pt_cmpR op_ge (pv 2) (pe_op op_pow pe_int pe_int) (nomark _)))
          (fun _ _ _ _ _ => pv 2))
        (pa_cons (pe_op op_cat (pv 1) (pe_lst (pa_cons (pe_op op_add (pe_callB call_len_seq (by rfl) ml PySem.boot_len (pa_cons (pv 1) pa_nil)) pe_int) pa_nil)))
        (pa_cons pe_int pa_nil)))))), ?_⟩
    refine ⟨_, rfl, a, rfl, ⟨_, hS⟩, fun c nc => ?_⟩
    refine lc_list (K := K) (a := a) (xs := ns.map V.int) (fun i H1 => Same H H1 ∧ H1 c = some (.lst ((ns.take i).map fun n => V.int (absI n))))
      ⟨Same.new nc, upd_same⟩ (fun i H1 _ p => p.1.seq hS) (fun i x H1 hx p => ?_) (fun H1 p => ?_)
    · obtain ⟨n, hn, rfl⟩ : ∃ n, ns[i]? = some n ∧ V.int n = x := by
        rw [List.getElem?_map] at hx
        cases e : ns[i]? with
        | none => rw [e] at hx; cases hx
        | some n => rw [e] at hx; exact ⟨n, rfl, Option.some.inj hx⟩
      refine ⟨rfl, ?_⟩
      refine yesT ?_
      refine ⟨_, rfl, n, rfl, _, p.2, ?_, Same.put nc p.1, ?_⟩
      · rw [List.length_map, List.length_take]
        exact Nat.lt_of_le_of_lt (Nat.min_le_right _ _) (small1000 (by omega))
      · rw [upd_same, List.take_add_one, hn, List.map_append]
        rfl
    · obtain ⟨sm, hc⟩ := p
      rw [List.length_map, List.take_length] at hc
      have hC : SqL K H1 c (ns.map fun n => V.int (absI n)) := SqL.of hc
      -- the large cells
      refine ⟨_, rfl, c, rfl, ⟨_, hC⟩, fun d nd => ?_⟩
      have ecs : (ns.map fun n => V.int (absI n)) = (ns.map absI).map V.int := by rw [List.map_map]; rfl
      refine lc_list (K := K) (a := c) (xs := (ns.map absI).map V.int) (fun i H2 => Same H1 H2 ∧ ∃ bs : List Int, H2 d = some (.lst (bs.map V.int)) ∧ bs.length ≤ i ∧ ∀ b ∈ bs, 0 ≤ b)
        ⟨Same.new nd, [], upd_same, Nat.le_refl _, fun _ z => (nomatch z)⟩ (fun i H2 _ p => ecs ▸ p.1.seq hC) (fun i x H2 hx p => ?_) (fun H2 p => ?_)
      · obtain ⟨n, hn, rfl⟩ : ∃ n, (ns.map absI)[i]? = some n ∧ V.int n = x := by
          rw [List.getElem?_map] at hx
          cases e : (ns.map absI)[i]? with
          | none => rw [e] at hx; cases hx
          | some n => rw [e] at hx; exact ⟨n, rfl, Option.some.inj hx⟩
        have hi : i < ns.length := by
          have := (List.getElem?_eq_some_iff.mp hn).1
          rw [List.length_map] at this
          exact this
        have hn0 : 0 ≤ n := by
          have := List.mem_of_getElem? hn
          obtain ⟨m, _, rfl⟩ := List.mem_map.mp this
          exact absI_nn m
        obtain ⟨sm2, bs, hb, hl, h0⟩ := p
        refine ⟨rfl, _, rfl, _, _, rfl, rfl, ⟨by decide, by decide, by decide⟩, _, _, rfl, rfl, _, rfl, ite2 (fun _ => ?_) (fun _ => ?_)⟩
        · refine ⟨_, rfl, _, hb, ?_, Same.put nd sm2, bs ++ [n], ?_, ?_, ?_⟩
          · rw [List.length_map]
            exact small1000 (by omega)
          · rw [upd_same, List.map_append]
            rfl
          · rw [List.length_append, List.length_singleton]
            omega
          · intro b hb
            rcases List.mem_append.mp hb with hb | hb
            · exact h0 b hb
            · rw [List.mem_singleton.mp hb]
              exact hn0
        · exact ⟨sm2, bs, hb, Nat.le_succ_of_le hl, h0⟩
      · obtain ⟨sm2, bs, hb, hl, h0⟩ := p
        rw [List.length_map, List.length_map] at hl
        have c2 := sm2 _ _ hc
        refine ⟨_, rfl, _, rfl, c, _, rfl, .inl (SqL.of c2), _, _, rfl, rfl, sz (by show 1 ≤ 1000; decide), fun e ne => ?_⟩
        have s3 : Same H2 (upd H2 e (.lst [V.int (((ns.map fun n => V.int (absI n)).length : Int) + 3)])) := Same.new ne
        refine ⟨c, e, _, _, rfl, rfl, s3 _ _ c2, upd_same, ?_, fun g ng => ?_⟩
        · rw [List.length_map, List.length_singleton]
          exact Nat.le_of_lt (small1000 (by omega))
        · have s4 := s3.trans (Same.new (o := .lst ((ns.map fun n => V.int (absI n)) ++ [V.int (((ns.map fun n => V.int (absI n)).length : Int) + 3)])) ng)
          refine ⟨sz (by show 3 ≤ 1000; decide), fun st nst => ?_⟩
          have s5 := s4.trans (Same.new (o := .lst [V.ref d, V.ref g, V.int 0]) nst)
          have dg : d ≠ g := ne_of_none (s3 _ _ hb) ng
          refine q _ st d g ⟨(ne_of_none (s4 _ _ hb) nst).symm, fun z => ?_, dg, by decide, bs, ns.map absI ++ [((ns.length : Int) + 3)], 0, upd_same, s5 _ _ hb, ?_, h0, ?_, by simp, Int.le_refl _, Int.le_refl _, by omega, ?_⟩
            ((sm.trans sm2).trans s5) ((sm.trans sm2).trans s4 |>.free nst) ((sm.free nd)) ((sm.trans sm2).trans s3 |>.free ng)
          · rw [z, upd_same] at nst
            cases nst
          · rw [upd_ne (fun z => by rw [← z, upd_same] at nst; cases nst), upd_same, List.map_append, ← ecs]
            simp
          · intro b hb
            rcases List.mem_append.mp hb with hb | hb
            · obtain ⟨m, _, rfl⟩ := List.mem_map.mp hb
              exact absI_nn m
            · rw [List.mem_singleton.mp hb]
              omega
          · rw [List.length_append, List.length_map, List.length_singleton]
            omega
end

end Sv

namespace Sv
open PySem PySem.Spec PyProof.Rows L2
abbrev sMixed : Stmt := topS 11
abbrev sPick : Stmt := topS 10
theorem scMixed : FnScope ["_law_deck_here", "_law_items", "_law_left", "_law_found"] ["_law_deck_here", "_law_items"] (defScope sMixed) := ⟨rfl, rfl, rfl, by decide +kernel, rfl, by decide +kernel, by decide +kernel⟩
theorem scPick : FnScope ["_law_deck_here", "_law_items"] ["_law_deck_here", "_law_items"] (defScope sPick) := ⟨rfl, rfl, rfl, by decide +kernel, rfl, by decide +kernel, by decide +kernel⟩
theorem Kp.put' {a b : Addr} {H H1 : Hp} {p : Addr} {o : HO} (h : H p = none) (e : Kp a b H H1) : Kp a b H (upd H1 p o) := fun c u h1 h2 q => by
  rw [upd_ne (ne_of_none q h)]
  exact e _ _ h1 h2 q
theorem erase_perm {α : Type} : ∀ (l : List α) (i : Nat) (x : α), l[i]? = some x → (x :: l.eraseIdx i).Perm l
  | [], i, x, h => by simp at h
  | a :: r, 0, x, h => by
    have e : a = x := Option.some.inj h
    subst e
    exact .refl _
  | a :: r, i + 1, x, h => (List.Perm.swap a x _).trans ((erase_perm r i x h).cons a)
theorem eraseIdx_map {α β : Type} (f : α → β) : ∀ (l : List α) (i : Nat), (l.map f).eraseIdx i = (l.eraseIdx i).map f
  | [], _ => rfl
  | _ :: _, 0 => rfl
  | a :: r, i + 1 => by
    show f a :: (r.map f).eraseIdx i = f a :: (r.eraseIdx i).map f
    rw [eraseIdx_map f r i]
theorem at_map {α β : Type} {f : α → β} {l : List α} {i : Nat} {x : α} (h : l[i]? = some x) : (l.map f)[i]? = some (f x) := by
  rw [List.getElem?_map, h]
  rfl
theorem of_at_map {α β : Type} {f : α → β} {l : List α} {i : Nat} {y : β} (h : (l.map f)[i]? = some y) : ∃ x, l[i]? = some x ∧ f x = y := by
  rw [List.getElem?_map] at h
  cases e : l[i]? with
  | none => rw [e] at h; cases h
  | some x => rw [e] at h; exact ⟨x, rfl, Option.some.inj h⟩
def spMixed (K : PySem.W.Frag) : Sp := fun vs H Q _ => ∃ (st big cel a : Addr) (n : Nat) (ns : List Int), vs = [.ref st, .ref a] ∧ (SqL K H a (ns.map V.int) ∨ SqT K H a (ns.map V.int)) ∧ ns.length ≤ 1000 ∧
  StAt H st big cel n ∧ n + ns.length ≤ 1000000 ∧
  ∀ (H' : Hp) (t : Addr) (ms : List Int), H t = none → H' t = some (.lst (ms.map V.int)) → ms.Perm ns → StAt H' st big cel (n + ns.length) → Kp st big H H' → Q (.ref t) H'
/-- items[draw] of a list or a tuple -/
def spPick (K : PySem.W.Frag) : Sp := fun vs H Q _ => ∃ (st big cel a : Addr) (n : Nat) (xs : List V), vs = [.ref st, .ref a] ∧ a ≠ st ∧ a ≠ big ∧ SqL K H a xs ∧ xs ≠ [] ∧ xs.length < 1000000 ∧
  StAt H st big cel n ∧ n < 1000000 ∧ ∀ (H' : Hp) (i : Nat) (v : V), xs[i]? = some v → StAt H' st big cel (n + 1) → Kp st big H H' → Q v H'
section
variable {P : Program} {w : World} {K : PySem.W.Frag} {mg : Str → Option Value} {base : Heap}
theorem ok_mixed {f fD : Addr} {fd fdD : FuncData} (F : Fun K "_law_order" "_law_order" sMixed f fd) (FD : Fun K "_law_next" "_law_next" sDraw fD fdD) (bD : Binds K fdD ["_law_deck_here", "_law_many"] [])
    (gD : mg "_law_next" = some (.ref fD)) (ml : mg "len" = none) (mli : mg "list" = none) : FnOk P w K mg base CX0 2 f fd ["_law_deck_here", "_law_items"] (spMixed K) := by
  have GD : FnOk P w K mg base CX0 1 fD fdD ["_law_deck_here", "_law_many"] spDraw := ok_draw FD ml
  refine F.ok scMixed (fun vs H Q E h => ?_) (fun cdv A outer s H vs Q E hr h => ?_)
  · obtain ⟨st, big, cel, a, n, ns, rfl, _⟩ := h
    rfl
  · obtain ⟨st, big, cel, a, n, ns, rfl, hA, hlen, hS, hn, q⟩ := h
    refine ⟨_, pss_cons (ps_par (i := 2) (j := 3) (by rfl) scMixed.nd rfl rfl (by decide) rfl rfl (pa_cons (pe_callTy call_list_of (by rfl) mli (by decide +kernel) (pa_cons (pv 1) pa_nil)) (pa_cons (pe_lst pa_nil) pa_nil)) (by rfl))
      (pss_cons (ps_while PassesOwn.never (pt_cmpR (op_neD hr.units) (pv 2) (pe_lst pa_nil) (nomark _))
        (pss_one (ps_expr (pe_bm PySem.F.plainAttrs_list PySem.F.slot_list_append PySem.F.type_list_append mt_append (pv 3)
          (pa_cons (pe_bm PySem.F.plainAttrs_list PySem.F.slot_list_pop PySem.F.type_list_pop mt_popAt (pv 2)
            (pa_cons (pe_call GD hr (by rfl) gD FD.kp bD .nil pass0 (pa_cons (pv 0) (pa_cons (pe_callB call_len_seq (by rfl) ml PySem.boot_len (pa_cons (pv 2) pa_nil)) pa_nil))) pa_nil)) pa_nil)))))
      (pss_one (ps_ret (pv 3)))), ?_⟩
    refine ⟨.ref a, rfl, a, _, rfl, hA, fun l nl => ⟨sz (Nat.zero_le _), fun g ng => ?_⟩⟩
    have sl : Same H (upd H l (.lst (ns.map V.int))) := Same.new nl
    have ng0 : H g = none := sl.free ng
    have lg : l ≠ g := fun z => by
      rw [← z, upd_same] at ng
      cases ng
    have snel := hS.ne nl
    have sneg := hS.ne ng0
    refine ⟨_, _, rfl, ?_⟩
    refine while_by (fun σ H1 => ∃ (ls fs : List Int), σ = [some (.ref st), some (.ref a), some (.ref l), some (.ref g)] ∧ H1 l = some (.lst (ls.map V.int)) ∧ H1 g = some (.lst (fs.map V.int)) ∧
        (fs ++ ls).Perm ns ∧ StAt H1 st big cel (n + fs.length) ∧ Kp st big H H1)
      (fun σ H1 => match H1 l with | some (.lst xs) => xs.length | _ => 0) ⟨ns, [], rfl, ?_, upd_same, .refl _, ?_, ?_⟩ ?_ ?_
    · rw [upd_ne lg]
      exact upd_same
    · exact (hS.same sl).same (Same.new ng)
    · exact Kp.put' ng0 (Kp.put' nl (.refl H))
    · rintro σ H1 ⟨ls, fs, rfl, hl, hg, hp, hS1, kp⟩
      have hpl := hp.length_eq
      rw [List.length_append] at hpl
      refine ⟨.ref l, rfl, sz (Nat.zero_le _), fun e ne => ?_⟩
      have sm : Same H1 (upd H1 e (.lst [])) := Same.new ne
      have hl2 := sm _ _ hl
      have hg2 := sm _ _ hg
      have hS2 := hS1.same sm
      refine ⟨_, _, dp_lst (SqL.of hl2), dp_nil (SqL.of upd_same), shaped_lst ls, shaped_nil, _, rfl, ?_⟩
      rw [eqv_nil]
      generalize hH2 : upd H1 e (.lst []) = H2 at hl2 hg2 hS2 sm ⊢
      have kp2 : Kp st big H H2 := kp.trans (.of sm)
      cases ls with
      | nil =>
        refine iteF ?_
        rw [List.append_nil] at hp
        refine ⟨.ref g, rfl, ?_⟩
        refine q _ g fs ng0 hg2 hp ?_ kp2
        rw [← hp.length_eq]
        exact hS2
      | cons b r =>
        refine iteT ?_
        rw [List.length_cons] at hpl
        refine ⟨.ref g, rfl, .inl ⟨rfl, _, SqL.of hg2⟩, .ref l, rfl, .inl ⟨rfl, _, SqL.of hl2⟩, .ref st, rfl, .ref l, rfl, l, _, rfl, .inl (SqL.of hl2),
          st, big, cel, n + fs.length, _, rfl, ?_, ?_, hS2, by omega, fun H3 v v0 v1 hS3 k3 => ?_⟩
        · rw [List.length_map, List.length_cons]
          omega
        · rw [List.length_map, List.length_cons]
          omega
        · rw [List.length_map] at v1
          obtain ⟨i, rfl⟩ : ∃ i : Nat, v = (i : Int) := ⟨v.toNat, (Int.toNat_of_nonneg v0).symm⟩
          have hi : i < (b :: r).length := by omega
          have hl3 := k3 _ _ snel.1.symm snel.2.1.symm hl2
          have hg3 := k3 _ _ sneg.1.symm sneg.2.1.symm hg2
          have hat := List.getElem?_eq_getElem hi
          refine ⟨l, _, i, i, _, rfl, rfl, hl3, by omega, by rw [List.length_cons] at hi; omega, ?_, at_map hat, ?_⟩
          · have e := seqIndex_of (k := (i : Int)) (n := (List.map V.int (b :: r)).length) (by omega) (by rw [List.length_map]; omega)
            rw [e, Int.toNat_natCast]
          · rw [eraseIdx_map]
            refine ⟨g, fs.map V.int, _, rfl, rfl, ?_, ?_, ⟨(b :: r).eraseIdx i, fs ++ [(b :: r)[i]], rfl, ?_, ?_, ?_, ?_, ?_⟩, ?_⟩
            · rw [upd_ne lg.symm]
              exact hg3
            · rw [List.length_map]
              exact Nat.lt_of_le_of_lt (by omega : fs.length ≤ 1000) (by decide)
            · rw [upd_ne lg]
              exact upd_same
            · rw [upd_same, List.map_append]
              rfl
            · rw [List.append_assoc]
              exact ((erase_perm _ _ _ hat).append_left fs).trans hp
            · have st3 : StAt H3 st big cel (n + (fs ++ [(b :: r)[i]]).length) := by
                rw [List.length_append, List.length_singleton, ← Nat.add_assoc]
                exact hS3
              obtain ⟨h1, h2, h3, h4, bs, cs, k, d1, d2, d3, d4⟩ := st3
              refine ⟨h1, h2, h3, h4, bs, cs, k, ?_, ?_, ?_, d4⟩
              · rw [upd_ne sneg.1, upd_ne snel.1]
                exact d1
              · rw [upd_ne sneg.2.1, upd_ne snel.2.1]
                exact d2
              · rw [upd_ne sneg.2.2, upd_ne snel.2.2]
                exact d3
            · exact Kp.put' ng0 (Kp.put' nl (kp2.trans k3))
            · have e1 : (upd (upd H3 l (.lst (((b :: r).eraseIdx i).map V.int))) g (.lst (List.map V.int fs ++ [V.int (b :: r)[i]]))) l = some (.lst (((b :: r).eraseIdx i).map V.int)) := by
                rw [upd_ne lg]
                exact upd_same
              simp only [e1, hl, List.length_map]
              have := List.length_eraseIdx_of_lt hi
              rw [this, List.length_cons]
              omega
    · rintro σ H1 Q1 Q2 hQ ⟨v1, e1, z1, h7⟩
      refine ⟨v1, e1, z1, fun e ne => ?_⟩
      obtain ⟨d1, d2, g1, g2, g3, g4, c, g5, g6⟩ := h7 e ne
      exact ⟨d1, d2, g1, g2, g3, g4, c, g5, hQ _ _ g6⟩
theorem ok_pick {f fD : Addr} {fd fdD : FuncData} (F : Fun K "_law_pick" "_law_pick" sPick f fd) (FD : Fun K "_law_next" "_law_next" sDraw fD fdD) (bD : Binds K fdD ["_law_deck_here", "_law_many"] [])
    (gD : mg "_law_next" = some (.ref fD)) (ml : mg "len" = none) : FnOk P w K mg base CX0 2 f fd ["_law_deck_here", "_law_items"] (spPick K) := by
  have GD : FnOk P w K mg base CX0 1 fD fdD ["_law_deck_here", "_law_many"] spDraw := ok_draw FD ml
  refine F.ok scPick (fun vs H Q E h => ?_) (fun cdv A outer s H vs Q E hr h => ?_)
  · obtain ⟨st, big, cel, a, n, ns, rfl, _⟩ := h
    rfl
  · obtain ⟨st, big, cel, a, n, xs, rfl, a1, a2, hA, hne, hlen, hS, hn, q⟩ := h
    refine ⟨_, pss_one (ps_ret (pe_ix ix_list (pv 1) (pe_call GD hr (by rfl) gD FD.kp bD .nil pass0 (pa_cons (pv 0) (pa_cons (pe_callB call_len_seq (by rfl) ml PySem.boot_len (pa_cons (pv 1) pa_nil)) pa_nil))) (fun _ _ => rfl))), ?_⟩
    have hp : 0 < xs.length := List.length_pos_iff.mpr hne
    refine ⟨.ref a, rfl, .ref st, rfl, .ref a, rfl, a, _, rfl, .inl hA, st, big, cel, n, _, rfl, by omega, by omega, hS, hn, fun H3 v v0 v1 hS3 k3 => ?_⟩
    obtain ⟨i, rfl⟩ : ∃ i : Nat, v = (i : Int) := ⟨v.toNat, (Int.toNat_of_nonneg v0).symm⟩
    have hi : i < xs.length := by omega
    have hat := List.getElem?_eq_getElem hi
    have hA3 : SqL K H3 a xs := by
      rcases hA with (h | ⟨o, h⟩) | h
      · exact .inl (.inl (k3 _ _ a1 a2 h))
      · exact .inl (.inr ⟨o, k3 _ _ a1 a2 h⟩)
      · exact .inr h
    exact ⟨a, _, i, _, rfl, rfl, hA3, atI_nat hat, q H3 i _ hat hS3 k3⟩
end

end Sv

namespace Sv
open PySem PySem.Spec PyProof.Rows L2
/-! ### histories, grown event by event -/
inductive Grown (c : Nat) (nm : List Int) : List (List Int) → List (Int × Int) → Nat → Nat → Prop
  | start : Grown c nm (List.replicate c []) [] 0 0
  | skip {r o u k} : Grown c nm r o u k → Grown c nm r o u (k + 1)
  | save {r o u k p row} : Grown c nm r o u k → r[p]? = some row → Grown c nm (r.set p (row ++ [0])) o u (k + 1)
  | send {r o u k p row m} : Grown c nm r o u k → r[p]? = some row → nm[u]? = some m → Grown c nm (r.set p (row ++ [m])) (o ++ [(m, (p : Int))]) (u + 1) (k + 1)
  | recv {r o u k row j m q} {p : Nat} : Grown c nm r o u k → r[p]? = some row → o[j]? = some (m, q) → q ≠ (p : Int) → Grown c nm (r.set p (row ++ [0 - m])) (o.eraseIdx j) u (k + 1)
def names24 : List Int := (List.range 24).map fun (i : Nat) => (1 : Int) + (i : Nat)
/-- the rows of a history that the law may draw: at most `many` rows, `most` events -/
def Good (many most : Nat) (rows : List (List Int)) : Prop := ∃ (c : Nat) (nm : List Int) (o : List (Int × Int)) (u k : Nat), 1 ≤ c ∧ c ≤ many ∧ nm.Perm names24 ∧ Grown c nm rows o u k ∧ k ≤ most
theorem Grown.len {c : Nat} {nm : List Int} {r : List (List Int)} {o : List (Int × Int)} {u k : Nat} (h : Grown c nm r o u k) : r.length = c := by
  induction h with
  | start => exact List.length_replicate ..
  | skip _ ih => exact ih
  | save _ _ ih => rw [List.length_set]; exact ih
  | send _ _ _ ih => rw [List.length_set]; exact ih
  | recv _ _ _ _ ih => rw [List.length_set]; exact ih
theorem sum_len_set {r : List (List Int)} {p : Nat} {row : List Int} {v : Int} (h : r[p]? = some row) : ((r.set p (row ++ [v])).map List.length).sum = (r.map List.length).sum + 1 := by
  induction r generalizing p with
  | nil => simp at h
  | cons a r ih =>
    cases p with
    | zero =>
      have e : a = row := Option.some.inj h
      subst e
      simp only [List.set_cons_zero, List.map_cons, List.sum_cons, List.length_append, List.length_singleton]
      omega
    | succ p =>
      have := ih (p := p) h
      simp only [List.set_cons_succ, List.map_cons, List.sum_cons, this]
      omega
theorem Grown.events {c : Nat} {nm : List Int} {r : List (List Int)} {o : List (Int × Int)} {u k : Nat} (h : Grown c nm r o u k) : (r.map List.length).sum ≤ k := by
  induction h with
  | start => simp
  | skip _ ih => omega
  | save _ h ih => rw [sum_len_set h]; omega
  | send _ h _ ih => rw [sum_len_set h]; omega
  | recv _ h _ _ ih => rw [sum_len_set h]; omega
theorem Grown.opens_le {c : Nat} {nm : List Int} {r : List (List Int)} {o : List (Int × Int)} {u k : Nat} (h : Grown c nm r o u k) : o.length ≤ k := by
  induction h with
  | start => exact Nat.le_refl _
  | skip _ ih => omega
  | save _ _ ih => omega
  | send _ _ _ ih => rw [List.length_append, List.length_singleton]; omega
  | recv _ _ _ _ ih =>
    rw [List.length_eraseIdx]
    split <;> omega
theorem len_le_sum {r : List (List Int)} {p : Nat} {row : List Int} (h : r[p]? = some row) : row.length ≤ (r.map List.length).sum := by
  induction r generalizing p with
  | nil => simp at h
  | cons a r ih =>
    cases p with
    | zero =>
      have e : a = row := Option.some.inj h
      subst e
      simp only [List.map_cons, List.sum_cons]
      omega
    | succ p =>
      have := ih (p := p) h
      simp only [List.map_cons, List.sum_cons]
      omega
/-! ### rows and pairs in the heap -/
def Rows (K : PySem.W.Frag) (H : Hp) (refs : List Addr) (rows : List (List Int)) : Prop := refs.length = rows.length ∧ ∀ (i : Nat) (a : Addr) (row : List Int), refs[i]? = some a → rows[i]? = some row → TupN H a (row.map V.int)
def Opens (K : PySem.W.Frag) (H : Hp) (refs : List Addr) (o : List (Int × Int)) : Prop := refs.length = o.length ∧ ∀ (i : Nat) (a : Addr) (p : Int × Int), refs[i]? = some a → o[i]? = some p → SqT K H a [.int p.1, .int p.2]
def TupK (K : PySem.W.Frag) (H H' : Hp) : Prop := (∀ (a : Addr) (xs : List V), SqT K H a xs → SqT K H' a xs) ∧ ∀ (a : Addr) (xs : List V), TupN H a xs → TupN H' a xs
theorem TupK.of {K : PySem.W.Frag} {H H' : Hp} (h : Same H H') : TupK K H H' := ⟨fun a xs q => by
  rcases q with (q | ⟨o, q⟩) | q
  · exact .inl (.inl (h _ _ q))
  · exact .inl (.inr ⟨o, h _ _ q⟩)
  · exact .inr q, fun a xs q => q.same h⟩
theorem TupK.put {K : PySem.W.Frag} {H : Hp} {l : Addr} {xs : List V} {o : HO} (h : H l = some (.lst xs)) : TupK K H (upd H l o) := ⟨fun a ys q => by
  rcases q with (q | ⟨o, q⟩) | q
  · exact .inl (.inl (by rw [upd_ne (ne_of q h (by intro z; cases z))]; exact q))
  · exact .inl (.inr ⟨o, by rw [upd_ne (ne_of q h (by intro z; cases z))]; exact q⟩)
  · exact .inr q, fun a ys q => by
  obtain ⟨o, q, d⟩ := q
  exact ⟨o, by rw [upd_ne (ne_of q h (by intro z; cases z))]; exact q, d⟩⟩
theorem StAt.tupK {K : PySem.W.Frag} {H H' : Hp} {st big cel : Addr} {n : Nat} (h : StAt H st big cel n) (e : Kp st big H H') : TupK K H H' := ⟨fun _ _ q => h.tup e q, fun _ _ q => h.tupN e q⟩
theorem Rows.keep {K : PySem.W.Frag} {H H' : Hp} {refs : List Addr} {rows : List (List Int)} (h : Rows K H refs rows) (e : TupK K H H') : Rows K H' refs rows := ⟨h.1, fun i a row h1 h2 => e.2 _ _ (h.2 i a row h1 h2)⟩
theorem Opens.keep {K : PySem.W.Frag} {H H' : Hp} {refs : List Addr} {o : List (Int × Int)} (h : Opens K H refs o) (e : TupK K H H') : Opens K H' refs o := ⟨h.1, fun i a row h1 h2 => e.1 _ _ (h.2 i a row h1 h2)⟩
theorem Rows.set {K : PySem.W.Frag} {H : Hp} {refs : List Addr} {rows : List (List Int)} (h : Rows K H refs rows) (p : Nat) {a : Addr} {row : List Int} (q : TupN H a (row.map V.int)) : Rows K H (refs.set p a) (rows.set p row) := by
  refine ⟨by rw [List.length_set, List.length_set]; exact h.1, fun i b r h1 h2 => ?_⟩
  by_cases e : p = i
  · subst e
    rw [List.getElem?_set] at h1 h2
    rw [if_pos rfl] at h1 h2
    split at h1
    · split at h2
      · cases h1; cases h2; exact q
      · cases h2
    · cases h1
  · rw [List.getElem?_set_ne e] at h1 h2
    exact h.2 i b r h1 h2
theorem Opens.snoc {K : PySem.W.Frag} {H : Hp} {refs : List Addr} {o : List (Int × Int)} (h : Opens K H refs o) {a : Addr} {p : Int × Int} (q : SqT K H a [.int p.1, .int p.2]) : Opens K H (refs ++ [a]) (o ++ [p]) := by
  refine ⟨by rw [List.length_append, List.length_append, h.1]; rfl, fun i b r h1 h2 => ?_⟩
  by_cases e : i < refs.length
  · rw [List.getElem?_append_left e] at h1
    rw [List.getElem?_append_left (by rw [← h.1]; exact e)] at h2
    exact h.2 i b r h1 h2
  · rw [List.getElem?_append_right (by omega)] at h1
    rw [List.getElem?_append_right (by rw [← h.1]; omega), ← h.1] at h2
    generalize i - refs.length = j at h1 h2
    cases j with
    | zero => cases h1; cases h2; exact q
    | succ j => simp at h1
theorem at_erase {α : Type} : ∀ (l : List α) (j i : Nat), (l.eraseIdx j)[i]? = if i < j then l[i]? else l[i + 1]? := fun l j i => List.getElem?_eraseIdx ..
theorem Opens.erase {K : PySem.W.Frag} {H : Hp} {refs : List Addr} {o : List (Int × Int)} (h : Opens K H refs o) (j : Nat) : Opens K H (refs.eraseIdx j) (o.eraseIdx j) := by
  refine ⟨by rw [List.length_eraseIdx, List.length_eraseIdx, h.1], fun i b r h1 h2 => ?_⟩
  rw [at_erase] at h1 h2
  split at h1 <;> rename_i e
  · rw [if_pos e] at h2
    exact h.2 i b r h1 h2
  · rw [if_neg e] at h2
    exact h.2 (i + 1) b r h1 h2
/-! ### the pairs as data -/
def pD (p : Int × Int) : PyData := .tuple [.int p.1, .int p.2]
theorem pD_eqv (a b : Int × Int) : PyData.eqv (pD a) (pD b) = decide (a = b) := by
  obtain ⟨x, y⟩ := a
  obtain ⟨z, w⟩ := b
  have e : PyData.eqv (pD (x, y)) (pD (z, w)) = ((x == z) && ((y == w) && true)) := by simp only [pD, PyData.eqv, PyData.eqvAll]
  rw [e, Bool.and_true]
  by_cases h1 : x = z
  · by_cases h2 : y = w
    · subst h1 h2
      simp
    · have : (y == w) = false := beq_eq_false_iff_ne.mpr h2
      rw [this, Bool.and_false]
      exact (decide_eq_false fun q => h2 (Prod.mk.inj q).2).symm
  · have : (x == z) = false := beq_eq_false_iff_ne.mpr h1
    rw [this, Bool.false_and]
    exact (decide_eq_false fun q => h1 (Prod.mk.inj q).1).symm
theorem pD_plain : ∀ o : List (Int × Int), PyData.plainAll (o.map pD) = true
  | [] => rfl
  | p :: r => by
    have h := pD_plain r
    show (PyData.plain (pD p) && PyData.plainAll (r.map pD)) = true
    rw [h]
    rfl
theorem pD_lay : ∀ o : List (Int × Int), PyData.canLayAll0 (o.map pD) = true
  | [] => by simp [PyData.canLayAll0]
  | p :: r => by
    have h := pD_lay r
    simp only [List.map_cons, PyData.canLayAll0, h, pD, PyData.canLay0, Bool.and_self]
theorem pD_depth : ∀ o : List (Int × Int), PyData.depthAll (o.map pD) ≤ 1
  | [] => by simp [PyData.depthAll]
  | p :: r => by
    have h := pD_depth r
    have h2 : (pD p).depth = 1 := by simp [pD, PyData.depth, PyData.depthAll]
    simp only [List.map_cons, PyData.depthAll]
    omega
theorem shaped_pairs (o : List (Int × Int)) : SeqAt.shaped (.list (o.map pD)) = true := by
  have h1 := pD_lay o
  have h2 := pD_depth o
  show (PyData.canLay0 (.list (o.map pD)) && decide (PyData.depth (.list (o.map pD)) ≤ 64)) = true
  simp only [PyData.canLay0, PyData.depth, h1, Bool.true_and]
  exact decide_eq_true (by omega)
theorem Opens.dp {K : PySem.W.Frag} {H : Hp} : ∀ {refs : List Addr} {o : List (Int × Int)}, Opens K H refs o → DpAll K H (refs.map V.ref) (o.map pD)
  | [], [], _ => .nil
  | [], _ :: _, h => absurd h.1 (by simp)
  | _ :: _, [], h => absurd h.1 (by simp)
  | a :: r, p :: o, h => .cons (.tup (h.2 0 a p rfl rfl) (.cons (.int _) (.cons (.int _) .nil)))
      (Opens.dp ⟨by simpa using h.1, fun i b q h1 h2 => h.2 (i + 1) b q h1 h2⟩)
theorem place_of_mem {o : List (Int × Int)} {p : Int × Int} (h : p ∈ o) : ∃ j, SeqAt.dataPlace (o.map pD) (pD p) = some j ∧ o[j]? = some p := by
  induction o with
  | nil => cases h
  | cons a r ih =>
    unfold SeqAt.dataPlace at ih ⊢
    rw [List.map_cons, List.findIdx?_cons, pD_eqv]
    by_cases e : a = p
    · subst e
      exact ⟨0, by rw [decide_eq_true rfl]; rfl, rfl⟩
    · rw [decide_eq_false e]
      rcases List.mem_cons.mp h with z | z
      · exact absurd z.symm e
      · obtain ⟨j, h1, h2⟩ := ih z
        exact ⟨j + 1, by rw [h1]; rfl, h2⟩
/-! ### a tuple and one item more -/
def rCatA (K : PySem.W.Frag) : R2 := fun x y H Q => (∃ a b xs ys, x = .ref a ∧ y = .ref b ∧ SqT K H a xs ∧ SqT K H b ys ∧ xs ≠ [] ∧ ys ≠ [] ∧ xs.length + ys.length ≤ sizeLine ∧
    ∀ (p : Addr) (o : Obj), H p = none → o.dict = none → Q (.ref p) (upd H p (.frz o (.tup (xs ++ ys))))) ∨ (∃ a b ys, x = .ref a ∧ y = .ref b ∧ SqT K H a [] ∧ SqT K H b ys ∧ ys ≠ [] ∧ Q (.ref b) H)
section
variable {X : Cx}
theorem op_catA : OpR X (binaryOp .Add) (rCatA X.K) := OpR.or op_catF op_catE
end
theorem cat_one {K : PySem.W.Frag} {H : Hp} {a b : Addr} {row : List Int} {v : Int} {Q : VK} (ha : SqT K H a (row.map V.int)) (hb : TupN H b [.int v]) (hl : row.length ≤ 900)
    (q : ∀ (H' : Hp) (p : Addr), Same H H' → TupN H' p ((row ++ [v]).map V.int) → Q (.ref p) H') : rCatA K (.ref a) (.ref b) H Q := by
  by_cases h0 : row = []
  · subst h0
    exact .inr ⟨a, b, _, rfl, rfl, ha, hb.sqT, by simp, q H b (.refl H) hb⟩
  · refine .inl ⟨a, b, _, _, rfl, rfl, ha, hb.sqT, fun z => h0 (List.map_eq_nil_iff.mp z), by simp, ?_, fun p o np d => ?_⟩
    · rw [List.length_map, List.length_singleton]
      exact sz (by omega)
    · refine q _ p (Same.new np) ?_
      rw [List.map_append]
      exact TupN.new d

end Sv

namespace Sv
open PySem PySem.Spec PyProof.Rows L2
abbrev sRows : Stmt := topS 12
abbrev nRows : List Str := ["_law_deck_here", "_law_count", "_law_many", "_law_found", "_law_away", "_law_names", "_law_saves", "_law_turn", "_law_process", "_law_way", "_law_pair", "_law_near", "_law_k", "_law_row"]
theorem scRows : FnScope nRows ["_law_deck_here", "_law_count", "_law_many"] (defScope sRows) := ⟨rfl, rfl, rfl, by decide +kernel, rfl, by decide +kernel, by decide +kernel⟩
def spRows (K : PySem.W.Frag) : Sp := fun vs H Q _ => ∃ (st big cel : Addr) (n c many : Nat), vs = [.ref st, .int c, .int many] ∧ 1 ≤ c ∧ c ≤ 6 ∧ many ≤ 60 ∧ StAt H st big cel n ∧ n + 300 ≤ 1000000 ∧
  ∀ (H' : Hp) (t : Addr) (refs : List Addr) (rows : List (List Int)), H t = none → H' t = some (.tup (refs.map V.ref)) → Rows K H' refs rows → Good c many rows → rows.length = c → StAt H' st big cel (n + 300) → Kp st big H H' → Q (.ref t) H'
/-- rows that are lists -/
def RL (H : Hp) (ls : List Addr) (rows : List (List Int)) : Prop := ls.length = rows.length ∧ ∀ (i : Nat) (a : Addr) (row : List Int), ls[i]? = some a → rows[i]? = some row → H a = some (.lst (row.map V.int))
def RA (H0 : Hp) (st big cel F A N : Addr) (ls : List Addr) : Prop := (F :: A :: N :: ls).Nodup ∧ ∀ p ∈ F :: A :: N :: ls, p ≠ st ∧ p ≠ big ∧ p ≠ cel ∧ H0 p = none
def RI (K : PySem.W.Frag) (H0 H1 : Hp) (st big cel F A N : Addr) (ls : List Addr) (rows : List (List Int)) (orefs : List Addr) (opens : List (Int × Int)) (ns : List Int) (n : Nat) : Prop :=
  StAt H1 st big cel n ∧ Kp st big H0 H1 ∧ H1 F = some (.lst (ls.map V.ref)) ∧ H1 A = some (.lst (orefs.map V.ref)) ∧ H1 N = some (.lst (ns.map V.int)) ∧ RL H1 ls rows ∧ Opens K H1 orefs opens
section
variable {K : PySem.W.Frag} {H0 H1 H2 : Hp} {st big cel F A N : Addr} {ls : List Addr} {rows : List (List Int)} {orefs : List Addr} {opens : List (Int × Int)} {ns : List Int} {n m : Nat}
theorem RL.keep (h : RL H1 ls rows) (e : ∀ (a : Addr) (o : HO), a ∈ ls → H1 a = some o → H2 a = some o) : RL H2 ls rows := ⟨h.1, fun i a row h1 h2 => e _ _ (List.mem_of_getElem? h1) (h.2 i a row h1 h2)⟩
theorem RI.same (h : RI K H0 H1 st big cel F A N ls rows orefs opens ns n) (e : Same H1 H2) : RI K H0 H2 st big cel F A N ls rows orefs opens ns n := by
  obtain ⟨a1, a2, a3, a4, a5, a6, a7⟩ := h
  exact ⟨a1.same e, a2.trans (.of e), e _ _ a3, e _ _ a4, e _ _ a5, a6.keep fun a o _ => e a o, a7.keep (.of e)⟩
theorem RI.le (h : RI K H0 H1 st big cel F A N ls rows orefs opens ns n) (e : n ≤ m) (em : m ≤ 1000000) : RI K H0 H1 st big cel F A N ls rows orefs opens ns m := ⟨h.1.le e em, h.2⟩
theorem RI.draw (C : RA H0 st big cel F A N ls) (h : RI K H0 H1 st big cel F A N ls rows orefs opens ns n) (e : Kp st big H1 H2) (s : StAt H2 st big cel m) : RI K H0 H2 st big cel F A N ls rows orefs opens ns m := by
  obtain ⟨a1, a2, a3, a4, a5, a6, a7⟩ := h
  have k : ∀ p ∈ F :: A :: N :: ls, ∀ o, H1 p = some o → H2 p = some o := fun p hp o q => e _ _ (C.2 p hp).1 (C.2 p hp).2.1 q
  exact ⟨s, a2.trans e, k _ (by simp) _ a3, k _ (by simp) _ a4, k _ (by simp) _ a5, a6.keep fun a o ha => k a (by simp [ha]) o, a7.keep (a1.tupK e)⟩
theorem RA.st_put (C : RA H0 st big cel F A N ls) {p : Addr} (hp : p ∈ F :: A :: N :: ls) {o : HO} (h : StAt H1 st big cel n) : StAt (upd H1 p o) st big cel n := by
  obtain ⟨h1, h2, h3, hn, bs, cs, kk, ha, hb, hc, r⟩ := h
  obtain ⟨c1, c2, c3, c4⟩ := C.2 p hp
  exact ⟨h1, h2, h3, hn, bs, cs, kk, by rw [upd_ne c1.symm]; exact ha, by rw [upd_ne c2.symm]; exact hb, by rw [upd_ne c3.symm]; exact hc, r⟩
/-- one row longer -/
theorem RI.row (C : RA H0 st big cel F A N ls) (h : RI K H0 H1 st big cel F A N ls rows orefs opens ns n) {p : Nat} {a : Addr} {row row' : List Int} (ha : ls[p]? = some a) (hr : rows[p]? = some row) {xs : List V} (ex : xs = row'.map V.int) :
    RI K H0 (upd H1 a (.lst xs)) st big cel F A N ls (rows.set p row') orefs opens ns n := by
  subst ex
  obtain ⟨a1, a2, a3, a4, a5, a6, a7⟩ := h
  have hm := List.mem_of_getElem? ha
  have hm' : a ∈ F :: A :: N :: ls := by simp [hm]
  have nd := C.1
  have nF : F ≠ a := fun z => (List.nodup_cons.mp nd).1 (by rw [z]; simp [hm])
  have nd2 := (List.nodup_cons.mp nd).2
  have nA : A ≠ a := fun z => (List.nodup_cons.mp nd2).1 (by rw [z]; simp [hm])
  have nd3 := (List.nodup_cons.mp nd2).2
  have nN : N ≠ a := fun z => (List.nodup_cons.mp nd3).1 (by rw [z]; exact hm)
  have nd4 := (List.nodup_cons.mp nd3).2
  refine ⟨C.st_put hm' a1, Kp.put' (C.2 a hm').2.2.2 a2, by rw [upd_ne nF]; exact a3, by rw [upd_ne nA]; exact a4, by rw [upd_ne nN]; exact a5, ⟨by rw [List.length_set]; exact a6.1, fun i b r h1 h2 => ?_⟩, a7.keep (TupK.put (a6.2 p a row ha hr))⟩
  by_cases e : p = i
  · subst e
    rw [List.getElem?_set] at h2
    rw [if_pos rfl] at h2
    split at h2
    · cases h2
      obtain rfl : a = b := Option.some.inj (ha.symm.trans h1)
      exact upd_same
    · cases h2
  · rw [List.getElem?_set_ne e] at h2
    have : b ≠ a := fun z => by
      subst z
      exact e (nodup_at nd4 ha h1)
    rw [upd_ne this]
    exact a6.2 i b r h1 h2
theorem RI.opensP (C : RA H0 st big cel F A N ls) (h : RI K H0 H1 st big cel F A N ls rows orefs opens ns n) {orefs' : List Addr} {opens' : List (Int × Int)} (q : Opens K H1 orefs' opens') {xs : List V} (ex : xs = orefs'.map V.ref) :
    RI K H0 (upd H1 A (.lst xs)) st big cel F A N ls rows orefs' opens' ns n := by
  subst ex
  obtain ⟨a1, a2, a3, a4, a5, a6, a7⟩ := h
  have hm' : A ∈ F :: A :: N :: ls := by simp
  have nd := C.1
  have nF : F ≠ A := fun z => (List.nodup_cons.mp nd).1 (by rw [z]; simp)
  have nd2 := (List.nodup_cons.mp nd).2
  have nN : N ≠ A := fun z => (List.nodup_cons.mp nd2).1 (by rw [z]; simp)
  refine ⟨C.st_put hm' a1, Kp.put' (C.2 A hm').2.2.2 a2, by rw [upd_ne nF]; exact a3, upd_same, by rw [upd_ne nN]; exact a5, a6.keep fun a o ha q => ?_, q.keep (.put a4)⟩
  rw [upd_ne (fun z => (List.nodup_cons.mp nd2).1 (by rw [← z]; simp [ha]))]
  exact q
theorem RI.names (C : RA H0 st big cel F A N ls) (h : RI K H0 H1 st big cel F A N ls rows orefs opens ns n) {ns' : List Int} {xs : List V} (ex : xs = ns'.map V.int) :
    RI K H0 (upd H1 N (.lst xs)) st big cel F A N ls rows orefs opens ns' n := by
  subst ex
  obtain ⟨a1, a2, a3, a4, a5, a6, a7⟩ := h
  have hm' : N ∈ F :: A :: N :: ls := by simp
  have nd := C.1
  have nF : F ≠ N := fun z => (List.nodup_cons.mp nd).1 (by rw [z]; simp)
  have nd2 := (List.nodup_cons.mp nd).2
  have nA : A ≠ N := fun z => (List.nodup_cons.mp nd2).1 (by rw [z]; simp)
  have nd3 := (List.nodup_cons.mp nd2).2
  refine ⟨C.st_put hm' a1, Kp.put' (C.2 N hm').2.2.2 a2, by rw [upd_ne nF]; exact a3, by rw [upd_ne nA]; exact a4, upd_same, a6.keep fun a o ha q => ?_, a7.keep (.put a5)⟩
  rw [upd_ne (fun z => (List.nodup_cons.mp nd3).1 (by rw [← z]; exact ha))]
  exact q
end
theorem drop_rev {nm : List Int} {u : Nat} {m : Int} (h : nm[u]? = some m) : (nm.drop u).reverse = (nm.drop (u + 1)).reverse ++ [m] := by
  obtain ⟨hu, rfl⟩ := List.getElem?_eq_some_iff.mp h
  rw [List.drop_eq_getElem_cons hu, List.reverse_cons]
theorem gN {i : Nat} {v : V} {σ : L2.St} {H : Hp} {Q : L2.St → Hp → Prop} (h : Q (σ.set i (some v)) H) : gName i v σ H Q := h
theorem ifS {c : TT} {t u : TS} {D : Ends} {σ : L2.St} {H : Hp} (h : c σ H fun b H1 => if b = true then t D σ H1 else u D σ H1) : tIfS c t u D σ H := h
theorem and_get {ta tb : TT} {σ : L2.St} {H : Hp} {Q : Bool → Hp → Prop} (J : Bool → Hp → Prop) (ha : ∀ Q' : Bool → Hp → Prop, (∀ b H', J b H' → Q' b H') → ta σ H Q') (hb : ∀ H', J true H' → ∀ Q' : Bool → Hp → Prop, (∀ b, Q' b H') → tb σ H' Q')
    (q1 : ∀ H', J true H' → Q true H') (q0 : ∀ b H', J b H' → Q false H') : tAnd ta tb σ H Q := ha _ fun b H' j => by
  cases b with
  | true => exact iteT (hb H' j Q fun b => by
      cases b with
      | true => exact q1 H' j
      | false => exact q0 true H' j)
  | false => exact iteF (q0 false H' j)
theorem Rows.snoc {K : PySem.W.Frag} {H : Hp} {refs : List Addr} {o : List (List Int)} (h : Rows K H refs o) {a : Addr} {p : List Int} (q : TupN H a (p.map V.int)) : Rows K H (refs ++ [a]) (o ++ [p]) := by
  refine ⟨by rw [List.length_append, List.length_append, h.1]; rfl, fun i b r h1 h2 => ?_⟩
  by_cases e : i < refs.length
  · rw [List.getElem?_append_left e] at h1
    rw [List.getElem?_append_left (by rw [← h.1]; exact e)] at h2
    exact h.2 i b r h1 h2
  · rw [List.getElem?_append_right (by omega)] at h1
    rw [List.getElem?_append_right (by rw [← h.1]; omega), ← h.1] at h2
    generalize i - refs.length = j at h1 h2
    cases j with
    | zero => cases h1; cases h2; exact q
    | succ j => simp at h1
theorem rg24 : rgV 1 25 = names24.map V.int := by
  unfold rgV names24
  rw [List.map_map]
  rfl
theorem names24_len : names24.length = 24 := by decide +kernel
section
variable {P : Program} {w : World} {K : PySem.W.Frag} {mg : Str → Option Value} {base : Heap}
theorem ok_rows {f fD fM fP : Addr} {fd fdD fdM fdP : FuncData} (F : Fun K "_law_rows" "_law_rows" sRows f fd) (FD : Fun K "_law_next" "_law_next" sDraw fD fdD) (bD : Binds K fdD ["_law_deck_here", "_law_many"] [])
    (gD : mg "_law_next" = some (.ref fD)) (FM : Fun K "_law_order" "_law_order" sMixed fM fdM) (bM : Binds K fdM ["_law_deck_here", "_law_items"] []) (gM : mg "_law_order" = some (.ref fM))
    (FP : Fun K "_law_pick" "_law_pick" sPick fP fdP) (bP : Binds K fdP ["_law_deck_here", "_law_items"] []) (gP : mg "_law_pick" = some (.ref fP))
    (ml : mg "len" = none) (mli : mg "list" = none) (mtu : mg "tuple" = none) (mra : mg "range" = none) : FnOk P w K mg base CX0 3 f fd ["_law_deck_here", "_law_count", "_law_many"] (spRows K) := by
  have GD : FnOk P w K mg base CX0 1 fD fdD ["_law_deck_here", "_law_many"] spDraw := ok_draw FD ml
  have GM : FnOk P w K mg base CX0 2 fM fdM ["_law_deck_here", "_law_items"] (spMixed K) := ok_mixed FM FD bD gD ml mli
  have GP : FnOk P w K mg base CX0 2 fP fdP ["_law_deck_here", "_law_items"] (spPick K) := ok_pick FP FD bD gD ml
  refine F.ok scRows (fun vs H Q E h => ?_) (fun cdv A outer s H vs Q E hr h => ?_)
  · obtain ⟨st, big, cel, n, c, many, rfl, _⟩ := h
    rfl
  · obtain ⟨st, big, cel, n, c, many, rfl, hc1, hc6, hmo, hS, hn, q⟩ := h
    have hr1 : Room 1 _ := hr.mono (by decide)
    have nd := scRows.nd
    refine ⟨_, pss_cons (ps_par3 (i := 3) (j := 4) (l := 5) (by rfl) nd rfl rfl rfl (by decide) (by decide) (by decide) rfl rfl rfl (pa_cons (pe_lc (own := [("_law_k", 12)]) (g := gName 12) (by rfl) nd (pi_range1 (by rfl) mra (pa_cons (pv 1) pa_nil))
            (blkOk_by (own := [("_law_k", 12)]) (N := nRows) (sc := defScope sRows) (by decide +kernel)) (fun _ _ _ _ _ => pg_name (i := 12) nd rfl (Or.inl rfl)) (fun _ _ _ _ _ => pts_nil) (fun _ _ _ _ _ => pe_lst pa_nil))
          (pa_cons (pe_lst pa_nil) (pa_cons (pe_call GM hr (by rfl) gM FM.kp bM .nil pass0 (pa_cons (pv 0) (pa_cons (pe_listRg rfl (by rfl) mli (prg_2 (by rfl) mra pe_int pe_int)) pa_nil))) pa_nil))) (by rfl))
      (pss_cons (ps_set (i := 6) nd rfl (.inl rfl) (pe_ix ix_list (pe_lst (pa_cons pe_int (pa_cons pe_int (pa_cons pe_int (pa_cons pe_int pa_nil))))) (pe_call GD hr1 (by rfl) gD FD.kp bD .nil pass0 (pa_cons (pv 0) (pa_cons pe_int pa_nil))) (fun _ _ => rfl)))
      (pss_cons (ps_for PassesOwn.never rfl (pi_range1 (by rfl) mra (pa_cons (pe_call GD hr1 (by rfl) gD FD.kp bD .nil pass0 (pa_cons (pv 0) (pa_cons (pe_op op_add (pv 2) pe_int) pa_nil))) pa_nil)) (pg_name (i := 7) nd rfl (.inl rfl))
        (pss_cons (ps_asg (pe_tup (pa_cons (pe_call GD hr1 (by rfl) gD FD.kp bD .nil pass0 (pa_cons (pv 0) (pa_cons (pv 1) pa_nil))) (pa_cons (pe_call GD hr1 (by rfl) gD FD.kp bD .nil pass0 (pa_cons (pv 0) (pa_cons pe_int pa_nil))) pa_nil)))
            (pg_tup rfl (pgs_cons (pg_name (i := 8) nd rfl (.inr rfl)) (pgs_cons (pg_name (i := 9) nd rfl (.inl rfl)) pgs_nil))))
        (pss_cons (ps_setLc (i := 11) (own := [("_law_pair", 10)]) (g := gName 10) (by rfl) nd rfl rfl (sw_true rfl rfl rfl (by decide +kernel)) (pi_list (pv 4))
            (blkOk_by (own := [("_law_pair", 10)]) (N := nRows) (sc := defScope sRows) (by decide +kernel))
            (fun _ _ _ _ _ => pg_name (i := 10) nd rfl (Or.inl rfl))
            (fun _ _ _ _ _ => pts_one (pt_cmpR op_ne (pe_ix (r := rIxT K) ix_tup (pv 10) pe_int (fun _ _ => rfl)) (pv 8) (nomark _)))
            (fun _ _ _ _ _ => pv 10))
        (pss_one (ps_if (pt_cmpR op_lt (pv 9) (pv 6) (nomark _))
          (pss_one (ps_expr (pe_bm PySem.F.plainAttrs_list PySem.F.slot_list_append PySem.F.type_list_append mt_append (pe_ix ix_list (pv 3) (pv 8) (fun _ _ => rfl)) (pa_cons pe_int pa_nil))))
          (pss_one (ps_if (PW.pt (pw_and (pt_cmpR (op_neD hr.units) (pv 11) (pe_lst pa_nil) (nomark _)) (pw_and1 (pt_cmpR op_lt (pv 9) pe_int (nomark _)))))
            (pss_cons (ps_set (i := 10) nd rfl (.inl rfl) (pe_call GP hr (by rfl) gP FP.kp bP .nil pass0 (pa_cons (pv 0) (pa_cons (pv 11) pa_nil))))
            (pss_cons (ps_expr (pe_bm PySem.F.plainAttrs_list PySem.F.slot_list_remove PySem.F.type_list_remove (mt_removeD hr.units) (pv 4) (pa_cons (pv 10) pa_nil)))
            (pss_one (ps_expr (pe_bm PySem.F.plainAttrs_list PySem.F.slot_list_append PySem.F.type_list_append mt_append (pe_ix ix_list (pv 3) (pv 8) (fun _ _ => rfl)) (pa_cons (pe_op op_sub pe_int (pe_ix ix_tup (pv 10) pe_int (fun _ _ => rfl))) pa_nil))))))
            (pss_one (ps_if (pt_cmpR (op_neD hr.units) (pv 5) (pe_lst pa_nil) (nomark _))
              (pss_cons (ps_expr (pe_bm PySem.F.plainAttrs_list PySem.F.slot_list_append PySem.F.type_list_append mt_append (pv 4) (pa_cons (pe_tup (pa_cons (pe_ix ix_list (pv 5) (pe_un un_neg pe_int) (fun _ _ => rfl)) (pa_cons (pv 8) pa_nil))) pa_nil)))
              (pss_one (ps_expr (pe_bm PySem.F.plainAttrs_list PySem.F.slot_list_append PySem.F.type_list_append mt_append (pe_ix ix_list (pv 3) (pv 8) (fun _ _ => rfl)) (pa_cons (pe_bm0 PySem.F.plainAttrs_list PySem.F.slot_list_pop PySem.F.type_list_pop mt_pop (pv 5)) pa_nil)))))
              pss_nil)))))))))
      (pss_one (ps_ret (pe_callTy call_tuple_of (by rfl) mtu (by decide +kernel) (pa_cons (pe_lc (own := [("_law_row", 13)]) (g := gName 13) (by rfl) nd (pi_list (pv 3))
            (blkOk_by (own := [("_law_row", 13)]) (N := nRows) (sc := defScope sRows) (by decide +kernel)) (fun _ _ _ _ _ => pg_name (i := 13) nd rfl (Or.inl rfl)) (fun _ _ _ _ _ => pts_nil)
            (fun _ _ _ _ _ => pe_callTy (r := rTupF K) call_tupleF (by rfl) mtu (by decide +kernel) (pa_cons (pv 13) pa_nil))) pa_nil)))))), ?_⟩
    -- the rows
    refine ⟨.int c, rfl, _, rfl, by omega, by omega, fun F0 nF => ?_⟩
    rw [Int.toNat_natCast]
    refine lc_range (lo := 0) (n := c) (fun k H' => Same H H' ∧ ∃ ls : List Addr, H' F0 = some (.lst (ls.map V.ref)) ∧ ls.length = k ∧ ls.Nodup ∧ ∀ a ∈ ls, H a = none ∧ a ≠ F0 ∧ H' a = some (.lst []))
      ⟨Same.new nF, [], upd_same, rfl, List.nodup_nil, fun _ z => (nomatch z)⟩ (fun k H' hk z => ?_) (fun H1 z => ?_)
    · obtain ⟨sm, ls, hF, hl, hnd, hls⟩ := z
      refine ⟨rfl, yesT ⟨sz (Nat.zero_le _), fun a na => ?_⟩⟩
      have s1 : Same H' (upd H' a (.lst [])) := Same.new na
      have aF : a ≠ F0 := fun z => by rw [z, hF] at na; cases na
      refine ⟨_, s1 _ _ hF, by rw [List.length_map]; exact small1000 (by omega), Same.put nF (sm.trans s1), ls ++ [a], ?_, by rw [List.length_append, hl]; rfl, ?_, ?_⟩
      · rw [upd_same, List.map_append]
        rfl
      · refine List.nodup_append.mpr ⟨hnd, List.pairwise_singleton _ _, fun x hx y hy => ?_⟩
        rw [List.mem_singleton.mp hy]
        intro z
        have := (hls x hx).2.2
        rw [z, na] at this
        cases this
      · intro b hb
        rcases List.mem_append.mp hb with hb | hb
        · obtain ⟨b1, b2, b3⟩ := hls b hb
          exact ⟨b1, b2, by rw [upd_ne b2]; exact s1 _ _ b3⟩
        · rw [List.mem_singleton.mp hb]
          exact ⟨sm.free na, aF, by rw [upd_ne aF]; exact upd_same⟩
    obtain ⟨sm1, ls, hF, hl, hnd, hls⟩ := z
    -- away, names
    refine ⟨sz (Nat.zero_le _), fun A0 nA => ?_⟩
    have s2 : Same H1 (upd H1 A0 (.lst [])) := Same.new nA
    refine ⟨.ref st, rfl, 1, 25, rfl, rfl, RgOk.of_le (by decide) (by decide) (by decide) (by decide), fun l nl => ?_⟩
    have s3 := s2.trans (Same.new (o := .lst (rgV 1 25)) nl)
    have s13 := sm1.trans s3
    have hA2 : (upd (upd H1 A0 (.lst [])) l (.lst (rgV 1 25))) A0 = some (.lst (([] : List Addr).map V.ref)) := Same.new (o := .lst (rgV 1 25)) nl _ _ upd_same
    refine ⟨st, big, cel, l, n, names24, rfl, .inl (SqL.of (by rw [upd_same, rg24])), by rw [names24_len]; omega, hS.same s13, by rw [names24_len]; omega, fun H2 N ms nN hN pm hS2 k2 => ?_⟩
    rw [names24_len] at hS2
    refine ⟨_, _, _, rfl, ?_⟩
    have s4 : Same H2 H2 := Same.refl H2
    -- they stand apart
    have neF := (hS.ne nF)
    have neA := ((hS.same sm1).ne nA)
    have hnl : H A0 = none := sm1.free nA
    have hNn : H N = none := s13.free nN
    have neN := (hS.same s13).ne nN
    have C : RA H st big cel F0 A0 N ls := by
      refine ⟨List.nodup_cons.mpr ⟨fun z => ?_, List.nodup_cons.mpr ⟨fun z => ?_, List.nodup_cons.mpr ⟨fun z => ?_, hnd⟩⟩⟩, fun p hp => ?_⟩
      · rcases List.mem_cons.mp z with z | z
        · rw [z, nA] at hF; cases hF
        · rcases List.mem_cons.mp z with z | z
          · have := s3 _ _ hF
            rw [z, nN] at this; cases this
          · exact (hls _ z).2.1 rfl
      · rcases List.mem_cons.mp z with z | z
        · rw [← z, hA2] at nN; cases nN
        · have := (hls _ z).2.2
          rw [nA] at this; cases this
      · have := s3 _ _ (hls _ z).2.2
        rw [nN] at this; cases this
      · rcases List.mem_cons.mp hp with rfl | hp
        · exact ⟨neF.1.symm, neF.2.1.symm, neF.2.2.symm, nF⟩
        · rcases List.mem_cons.mp hp with rfl | hp
          · exact ⟨neA.1.symm, neA.2.1.symm, neA.2.2.symm, hnl⟩
          · rcases List.mem_cons.mp hp with rfl | hp
            · exact ⟨neN.1.symm, neN.2.1.symm, neN.2.2.symm, hNn⟩
            · have := hS.ne (hls p hp).1
              exact ⟨this.1.symm, this.2.1.symm, this.2.2.symm, (hls p hp).1⟩
    have k12 : Kp st big H H2 := (Kp.of s13).trans k2
    have kk : ∀ (p : Addr) (o : HO), p ∈ F0 :: A0 :: N :: ls → (upd (upd H1 A0 (.lst [])) l (.lst (rgV 1 25))) p = some o → H2 p = some o := fun p o hp h => k2 _ _ (C.2 p hp).1 (C.2 p hp).2.1 h
    obtain ⟨nm, hnm⟩ : ∃ nm : List Int, nm = ms.reverse := ⟨_, rfl⟩
    have hms : ms = (nm.drop 0).reverse := by rw [hnm, List.drop_zero, List.reverse_reverse]
    have nmp : nm.Perm names24 := by
      rw [hnm]
      exact (List.reverse_perm ms).trans pm
    have I2 : RI K H H2 st big cel F0 A0 N ls (List.replicate c []) [] [] (nm.drop 0).reverse (n + 24) := by
      refine ⟨hS2.same s4, k12.trans (.of s4), s4 _ _ (kk _ _ (by simp) (s3 _ _ hF)), s4 _ _ (kk _ _ (by simp) hA2), ?_, ⟨by rw [hl, List.length_replicate], fun i a row h1 h2 => ?_⟩, ⟨rfl, fun i a p h1 h2 => by simp at h1⟩⟩
      · rw [← hms]
        exact s4 _ _ hN
      · have hm := List.mem_of_getElem? h1
        rw [(List.mem_replicate.mp (List.mem_of_getElem? h2)).2]
        exact s4 _ _ (kk _ _ (by simp [hm]) (s3 _ _ (hls a hm).2.2))
    -- saves
    refine ⟨sz (by show 4 ≤ 1000; decide), fun L nL => ?_⟩
    have I3 := I2.same (Same.new (o := .lst [V.int 1, V.int 2, V.int 0, V.int 4]) nL)
    refine ⟨.ref st, rfl, st, big, cel, _, 4, rfl, by decide, by decide, I3.1, by omega, fun H4 v v0 v1 hS4 k4 => ?_⟩
    have nL' := I2.1.ne nL
    have hL4 : H4 L = some (.lst [V.int 1, V.int 2, V.int 0, V.int 4]) := k4 _ _ nL'.1.symm nL'.2.1.symm upd_same
    have I4 := I3.draw C k4 hS4
    obtain ⟨sv, hsv⟩ : ∃ sv : Int, atI [V.int 1, V.int 2, V.int 0, V.int 4] v = some (V.int sv) := by
      have : v = 0 ∨ v = 1 ∨ v = 2 ∨ v = 3 := by omega
      rcases this with rfl | rfl | rfl | rfl
      · exact ⟨1, rfl⟩
      · exact ⟨2, rfl⟩
      · exact ⟨0, rfl⟩
      · exact ⟨4, rfl⟩
    refine ⟨L, _, v, _, rfl, rfl, SqL.of hL4, hsv, ?_⟩
    -- the turns
    refine ⟨.ref st, rfl, .int many, rfl, _, _, rfl, rfl, st, big, cel, _, _, rfl, by omega, by omega, I4.1, by omega, fun H5 tn tn0 tn1 hS5 k5 => ⟨_, rfl, by omega, by omega, ?_⟩⟩
    obtain ⟨t, rfl⟩ : ∃ t : Nat, tn = (t : Int) := ⟨tn.toNat, (Int.toNat_of_nonneg tn0).symm⟩
    have htm : t ≤ many := by omega
    have I5 := I4.draw C k5 hS5
    rw [Int.toNat_natCast]
    refine for_range (lo := 0) (n := t) (fun i σ H6 => ∃ (orefs : List Addr) (rows : List (List Int)) (opens : List (Int × Int)) (u k : Nat) (x7 x8 x9 x10 x11 x12 x13 : Option V),
        σ = [some (.ref st), some (.int c), some (.int many), some (.ref F0), some (.ref A0), some (.ref N), some (.int sv), x7, x8, x9, x10, x11, x12, x13] ∧
        RI K H H6 st big cel F0 A0 N ls rows orefs opens (nm.drop u).reverse (n + 27 + 3 * i) ∧ Grown c nm rows opens u k ∧ k ≤ i)
      ⟨_, _, _, 0, 0, _, _, _, _, _, _, _, rfl, I5.le (by omega) (by omega), .start, Nat.le_refl _⟩ ?_ ?_
    · rintro i σ H6 hi ⟨orefs, rows, opens, u, k, x7, x8, x9, x10, x11, x12, x13, rfl, I6, g, hk⟩
      have hlc := g.len
      have hev := g.events
      have hgo := g.opens_le
      -- process, way
      refine ⟨.ref st, rfl, .int c, rfl, st, big, cel, _, (c : Int), rfl, by omega, by omega, I6.1, by omega, fun H7 pv p0 p1 hS7 k7 => ?_⟩
      refine ⟨.ref st, rfl, st, big, cel, _, 7, rfl, by decide, by decide, hS7, by omega, fun H8 wy w0 w1 hS8 k8 => ⟨sz (by show 2 ≤ 1000; decide), fun T1 nT1 => ⟨T1, _, rfl, .inl (.inl upd_same), rfl, _, _, rfl, _, _, rfl, rfl, ?_⟩⟩⟩
      have I8 := ((I6.draw C k7 hS7).draw C k8 hS8).same (Same.new (o := .tup [V.int pv, V.int wy]) nT1)
      generalize upd H8 T1 (.tup [V.int pv, V.int wy]) = H9 at I8 ⊢
      obtain ⟨p, rfl⟩ : ∃ p : Nat, pv = (p : Int) := ⟨pv.toNat, (Int.toNat_of_nonneg p0).symm⟩
      have hp : p < rows.length := by omega
      obtain ⟨row, hrow⟩ : ∃ row, rows[p]? = some row := ⟨_, List.getElem?_eq_getElem hp⟩
      have hpr : p < ls.length := by rw [I8.2.2.2.2.2.1.1]; exact hp
      obtain ⟨a, ha⟩ : ∃ a, ls[p]? = some a := ⟨_, List.getElem?_eq_getElem hpr⟩
      have hrl : row.length ≤ 900 := by
        have := len_le_sum hrow
        omega
      have hO9 := I8.2.2.2.1
      have hOl := I8.2.2.2.2.2.2.1
      -- near
      refine ⟨.ref A0, rfl, A0, rfl, ⟨_, SqL.of hO9⟩, fun D nD => ?_⟩
      refine lc_list (K := K) (a := A0) (xs := orefs.map V.ref) (fun j H' => Same H9 H' ∧ ∃ (rr : List Addr) (ps : List (Int × Int)), H' D = some (.lst (rr.map V.ref)) ∧ Opens K H9 rr ps ∧ rr.length ≤ j ∧ ∀ x ∈ ps, x ∈ opens ∧ x.2 ≠ (p : Int))
        ⟨Same.new nD, [], [], upd_same, ⟨rfl, fun _ _ _ z _ => by simp at z⟩, Nat.le_refl _, fun _ z => (nomatch z)⟩ (fun j H' _ z => z.1.seq (SqL.of hO9)) (fun j x H' hx z => ?_) (fun H' z => ?_)
      · obtain ⟨o', ho, rfl⟩ := of_at_map hx
        obtain ⟨sm, rr, ps, hD, hop, hl, hps⟩ := z
        have hj : j < orefs.length := (List.getElem?_eq_some_iff.mp ho).1
        obtain ⟨pr, hpr'⟩ : ∃ pr, opens[j]? = some pr := ⟨_, List.getElem?_eq_getElem (by rw [← hOl]; exact hj)⟩
        have hsq := I8.2.2.2.2.2.2.2 j o' pr ho hpr'
        refine ⟨rfl, .ref o', rfl, o', _, 1, _, rfl, rfl, (TupK.of sm).1 _ _ hsq, atI_nat (j := 1) rfl, _, rfl, rfl, _, rfl, ite2 (fun e => ?_) (fun _ => ?_)⟩
        · refine ⟨_, rfl, _, hD, ?_, Same.put nD sm, rr ++ [o'], ps ++ [pr], ?_, hop.snoc hsq, ?_, ?_⟩
          · rw [List.length_map]
            exact small1000 (by omega)
          · rw [upd_same, List.map_append]
            rfl
          · rw [List.length_append, List.length_singleton]
            omega
          · intro x hx
            rcases List.mem_append.mp hx with hx | hx
            · exact hps x hx
            · rw [List.mem_singleton.mp hx]
              refine ⟨List.mem_of_getElem? hpr', fun z => ?_⟩
              rw [z, decide_eq_true rfl] at e
              cases e
        · exact ⟨sm, rr, ps, hD, hop, Nat.le_succ_of_le hl, hps⟩
      obtain ⟨sm, rr, ps, hD, hop, hl2, hps⟩ := z
      rw [List.length_map] at hl2
      have I9 := I8.same sm
      have hop9 := hop.keep (.of sm)
      have hDst := I8.1.ne nD
      clear hO9
      have len1 : ∀ {r : List Int}, r.length ≤ 900 → (List.map V.int r).length < sizeLine := fun {r} h => by
        rw [List.length_map]
        exact Nat.lt_of_le_of_lt (by omega : r.length ≤ 1000) (by decide)
      -- the ways
      refine gN ?_
      dsimp only
      refine ifS ⟨_, rfl, _, rfl, _, _, rfl, rfl, _, rfl, ite2 (fun _ => ?_) (fun _ => ?_)⟩
      · -- a save
        have hra := I9.2.2.2.2.2.1.2 p a row ha hrow
        refine ⟨.ref F0, rfl, _, rfl, F0, _, p, .ref a, rfl, rfl, SqL.of I9.2.2.1, atI_nat (at_map ha), .inl ⟨rfl, _, SqL.of hra⟩, a, _, _, rfl, rfl, hra, len1 hrl, ?_⟩
        exact ⟨_, _, _, u, k + 1, _, _, _, _, _, _, _, rfl, (I9.row C ha hrow (row' := row ++ [0]) (by rw [List.map_append]; rfl)).le (by omega) (by omega), .save g hrow, by omega⟩
      · refine ifS (and_get (fun b H'' => RI K H H'' st big cel F0 A0 N ls rows orefs opens (nm.drop u).reverse (n + 27 + 3 * i + 2) ∧ H'' D = some (.lst (rr.map V.ref)) ∧ Opens K H'' rr ps ∧ (b = true → ps ≠ []))
          (fun Q' q' => ⟨.ref D, rfl, sz (Nat.zero_le _), fun e ne => ⟨_, _, .lst (SqL.of (Same.new ne _ _ hD)) ((hop9.keep (.of (Same.new ne))).dp), dp_nil (SqL.of upd_same), shaped_pairs ps, shaped_nil, _, rfl, q' _ _ ⟨I9.same (Same.new ne), Same.new ne _ _ hD, hop9.keep (.of (Same.new ne)), fun z => ?_⟩⟩⟩)
          (fun H'' _ Q' q' => ⟨_, rfl, _, _, rfl, rfl, _, rfl, q' _⟩) (fun H10 hI => iteT ?_) (fun b H10 hI => iteF ?_))
        · rw [eqv_nil] at z
          rintro rfl
          cases z
        · -- a receipt
          obtain ⟨I10, hD10, hop10, hps0⟩ := hI
          have hrr : rr ≠ [] := fun z => hps0 rfl (List.length_eq_zero_iff.mp (by rw [← hop10.1, z]; rfl))
          refine ⟨.ref st, rfl, .ref D, rfl, st, big, cel, D, _, _, rfl, hDst.1.symm, hDst.2.1.symm, SqL.of hD10, fun z => hrr (List.map_eq_nil_iff.mp z), by rw [List.length_map]; omega, I10.1, by omega, fun H11 j v hv hS' k' => ?_⟩
          obtain ⟨o', ho', rfl⟩ := of_at_map hv
          have tk : TupK K H10 H11 := I10.1.tupK k'
          have I11 := I10.draw C k' hS'
          have hj : j < rr.length := (List.getElem?_eq_some_iff.mp ho').1
          obtain ⟨pr, hpr'⟩ : ∃ pr, ps[j]? = some pr := ⟨_, List.getElem?_eq_getElem (by rw [← hop.1]; exact hj)⟩
          obtain ⟨hmem, hne⟩ := hps pr (List.mem_of_getElem? hpr')
          have hsq := (hop10.keep tk).2 j o' pr ho' hpr'
          obtain ⟨j', hj', hat⟩ := place_of_mem hmem
          refine ⟨.ref A0, rfl, .inl ⟨rfl, _, SqL.of I11.2.2.2.1⟩, .ref o', rfl, A0, _, pD pr, _, opens.map pD, j', rfl, rfl, I11.2.2.2.1, I11.2.2.2.2.2.2.dp, .tup hsq (.cons (.int _) (.cons (.int _) .nil)), pD_plain opens, rfl, ?_, hj', ?_⟩
          · have : (pD pr).depth = 1 := by simp [pD, PyData.depth, PyData.depthAll]
            omega
          have I12 := I11.opensP C (I11.2.2.2.2.2.2.erase j') (xs := (orefs.map V.ref).eraseIdx j') (eraseIdx_map _ _ _)
          have hsq12 := (TupK.put (o := .lst ((orefs.map V.ref).eraseIdx j')) I11.2.2.2.1).1 _ _ hsq
          have hra := I12.2.2.2.2.2.1.2 p a row ha hrow
          refine ⟨.ref F0, rfl, _, rfl, F0, _, p, .ref a, rfl, rfl, SqL.of I12.2.2.1, atI_nat (at_map ha), .inl ⟨rfl, _, SqL.of hra⟩, .ref o', rfl, o', _, 0, _, rfl, rfl, hsq12, atI_nat (j := 0) rfl, _, _, rfl, rfl, a, _, _, rfl, rfl, hra, len1 hrl, ?_⟩
          exact ⟨_, _, _, u, k + 1, _, _, _, _, _, _, _, rfl, (I12.row C ha hrow (row' := row ++ [0 - pr.1]) (by rw [List.map_append]; rfl)).le (by omega) (by omega), .recv g hrow hat hne, by omega⟩
        · -- a sending
          obtain ⟨I10, _⟩ := hI
          refine ifS ⟨.ref N, rfl, sz (Nat.zero_le _), fun e2 ne2 => ⟨_, _, dp_lst (SqL.of (Same.new ne2 _ _ I10.2.2.2.2.1)), dp_nil (SqL.of upd_same), shaped_lst _, shaped_nil, _, rfl, ?_⟩⟩
          rw [eqv_nil]
          have I11 := I10.same (Same.new (o := .lst []) ne2)
          generalize upd H10 e2 (.lst []) = H11 at I11 ⊢
          cases hu : nm[u]? with
          | none =>
            have hz : (nm.drop u).reverse = [] := by
              rw [List.drop_eq_nil_of_le (List.getElem?_eq_none_iff.mp hu)]
              rfl
            rw [hz]
            refine iteF ?_
            exact ⟨_, _, _, u, k, _, _, _, _, _, _, _, rfl, I11.le (by omega) (by omega), g, by omega⟩
          | some m =>
            have e := drop_rev hu
            have hz : (iD (nm.drop u).reverse).isEmpty = false := by rw [e]; simp [iD]
            rw [hz]
            refine iteT ?_
            have hN := I11.2.2.2.2.1
            rw [e, List.map_append] at hN
            have hul : ((nm.drop (u + 1)).reverse.map V.int ++ [V.int m])[((nm.drop (u + 1)).reverse.map V.int ++ [V.int m]).length - 1]? = some (V.int m) := by simp
            refine ⟨.ref A0, rfl, .inl ⟨rfl, _, SqL.of I11.2.2.2.1⟩, .ref N, rfl, 1, rfl, N, _, -1, .int m, rfl, rfl, SqL.of hN, atI_last _ _, _, rfl, sz (by show 2 ≤ 1000; decide), fun T3 nT3 => ?_⟩
            have s12 : Same H11 (upd H11 T3 (.tup [V.int m, V.int p])) := Same.new nT3
            have I12 := I11.same s12
            refine ⟨A0, _, _, rfl, rfl, I12.2.2.2.1, ?_, ?_⟩
            · rw [List.length_map]
              exact small1000 (by omega)
            have I13 := I12.opensP C (I12.2.2.2.2.2.2.snoc (a := T3) (p := (m, (p : Int))) (.inl (.inl upd_same))) (xs := orefs.map V.ref ++ [V.ref T3]) (by rw [List.map_append]; rfl)
            have hra := I13.2.2.2.2.2.1.2 p a row ha hrow
            have hN13 := I13.2.2.2.2.1
            rw [e, List.map_append] at hN13
            refine ⟨.ref F0, rfl, _, rfl, F0, _, p, .ref a, rfl, rfl, SqL.of I13.2.2.1, atI_nat (at_map ha), .inl ⟨rfl, _, SqL.of hra⟩, .ref N, rfl, .inl ⟨rfl, _, SqL.of hN13⟩, N, _, .int m, rfl, rfl, hN13, hul, ?_⟩
            have I14 := I13.names C (ns' := (nm.drop (u + 1)).reverse) (xs := (List.map V.int (nm.drop (u + 1)).reverse ++ List.map V.int [m]).dropLast) (List.dropLast_concat ..)
            have hra14 := I14.2.2.2.2.2.1.2 p a row ha hrow
            refine ⟨a, _, _, rfl, rfl, hra14, len1 hrl, ?_⟩
            exact ⟨_, _, _, u + 1, k + 1, _, _, _, _, _, _, _, rfl, (I14.row C ha hrow (row' := row ++ [m]) (by rw [List.map_append]; rfl)).le (by omega) (by omega), .send g hrow hu, by omega⟩
    · rintro σ H6 ⟨orefs, rows, opens, u, k, x7, x8, x9, x10, x11, x12, x13, rfl, I6, g, hk⟩
      obtain ⟨a1, a2, a3, a4, a5, a6, a7⟩ := id I6
      have hlc := g.len
      have hev := g.events
      refine ⟨.ref F0, rfl, F0, rfl, ⟨_, SqL.of a3⟩, fun D nD => ?_⟩
      refine lc_list (K := K) (a := F0) (xs := ls.map V.ref) (fun j H' => Same H6 H' ∧ ∃ ts : List Addr, H' D = some (.lst (ts.map V.ref)) ∧ ts.length = j ∧ Rows K H' ts (rows.take j))
        ⟨Same.new nD, [], upd_same, rfl, ⟨by simp, fun i a r h1 _ => by simp at h1⟩⟩ (fun j H' _ z => z.1.seq (SqL.of a3)) (fun j x H' hx z => ?_) (fun H' z => ?_)
      · obtain ⟨a, ha, rfl⟩ := of_at_map hx
        obtain ⟨sm, ts, hD, hl3, hR⟩ := z
        have hj : j < ls.length := (List.getElem?_eq_some_iff.mp ha).1
        have hjr : j < rows.length := by rw [← a6.1]; exact hj
        have hrow := List.getElem?_eq_getElem hjr
        refine ⟨rfl, yesT ⟨.ref a, rfl, a, _, rfl, SqL.of (sm _ _ (a6.2 j a _ ha hrow)), fun T o nT d => ?_⟩⟩
        have s1 : Same H' (upd H' T (.frz o (.tup (rows[j].map V.int)))) := Same.new nT
        refine ⟨_, s1 _ _ hD, ?_, Same.put nD (sm.trans s1), ts ++ [T], ?_, by rw [List.length_append, hl3]; rfl, ?_⟩
        · rw [List.length_map]
          exact small1000 (by omega)
        · rw [upd_same, List.map_append]
          rfl
        · rw [List.take_add_one, hrow]
          exact ((hR.keep (.of s1)).snoc (TupN.new d)).keep (.put (s1 _ _ hD))
      obtain ⟨sm, ts, hD, hl3, hR⟩ := z
      rw [List.length_map, a6.1, List.take_length] at hR
      refine ⟨D, _, rfl, .inl ⟨SqL.of hD, fun z nz => ?_⟩⟩
      have s7 : Same H' (upd H' z (.tup (ts.map V.ref))) := Same.new nz
      have zst := (a1.same sm).ne nz
      refine q _ z ts rows ?_ upd_same (hR.keep (.of s7)) ⟨c, nm, opens, u, k, by omega, by omega, nmp, g, by omega⟩ hlc (((a1.same sm).same s7).le (by omega) (by omega)) ((a2.trans (.of sm)).trans (.of s7))
      cases e : H z with
      | none => rfl
      | some o => rw [(a2.trans (.of sm)) _ _ zst.1.symm zst.2.1.symm e] at nz; cases nz
end

end Sv

namespace Sv
open PySem PySem.Spec PyProof.Rows L2
/-! ### data whose text is short -/
structure Fine (n W : Nat) (d : PyData) : Prop where
  dep : d.depth ≤ n
  wei : d.weight ≤ W
  lay : d.canLay0 = true
  sho : d.showable = true
  ish : d.intsShort 40 = true
structure FineAll (n W : Nat) (ds : List PyData) : Prop where
  dep : PyData.depthAll ds ≤ n
  wei : PyData.weightAll ds ≤ W
  lay : PyData.canLayAll0 ds = true
  sho : PyData.showableAll ds = true
  ish : PyData.intsShortAll 40 ds = true
theorem fine_int {i : Int} (h : i.natAbs < 10 ^ 30) : Fine 0 101 (.int i) := by
  have hl : i.natAbs ≠ 0 → i.natAbs.log2 < 100 := fun h0 => (Nat.log2_lt h0).mpr (Nat.lt_trans h (by decide +kernel))
  have hl2 : i.natAbs.log2 < 1920 := by
    by_cases h0 : i.natAbs = 0
    · rw [h0]; decide
    · exact Nat.lt_trans (hl h0) (by decide)
  refine ⟨Nat.le_refl _, ?_, rfl, decide_eq_true hl2, decide_eq_true ?_⟩
  · simp only [PyData.weight]
    split
    · exact Nat.zero_le _
    · rename_i h0
      have : i.natAbs ≠ 0 := fun z => h0 (by rw [beq_iff_eq]; omega)
      have := hl this
      omega
  · have e := int_text_length_le10 (a := i) (k := 30) (by decide) h
    show (Str.ofString (toString i)).length ≤ 40
    rw [PySem.ofString_length]
    omega
theorem fine_none : Fine 0 101 .none := ⟨Nat.le_refl _, Nat.zero_le _, rfl, rfl, rfl⟩
theorem fine_bool (b : Bool) : Fine 0 101 (.bool b) := ⟨Nat.le_refl _, Nat.zero_le _, rfl, rfl, rfl⟩
theorem Fine.mono {n W m U : Nat} {d : PyData} (h : Fine n W d) (e : n ≤ m) (e2 : W ≤ U) : Fine m U d := ⟨Nat.le_trans h.dep e, Nat.le_trans h.wei e2, h.lay, h.sho, h.ish⟩
theorem FineAll.mono {n W m U : Nat} {d : List PyData} (h : FineAll n W d) (e : n ≤ m) (e2 : W ≤ U) : FineAll m U d := ⟨Nat.le_trans h.dep e, Nat.le_trans h.wei e2, h.lay, h.sho, h.ish⟩
theorem fine_nil : FineAll 0 0 [] := ⟨Nat.le_refl _, Nat.le_refl _, rfl, rfl, rfl⟩
theorem fine_cons {n W U : Nat} {d : PyData} {ds : List PyData} (h : Fine n W d) (hs : FineAll n U ds) : FineAll n (W + 1 + U) (d :: ds) := by
  refine ⟨?_, ?_, ?_, ?_, ?_⟩
  · simp only [PyData.depthAll]
    exact Nat.max_le.mpr ⟨h.dep, hs.dep⟩
  · have h1 := h.wei
    have h2 := hs.wei
    simp only [PyData.weightAll]
    omega
  · simp only [PyData.canLayAll0, h.lay, hs.lay, Bool.and_self]
  · simp only [PyData.showableAll, h.sho, hs.sho, Bool.and_self]
  · simp only [PyData.intsShortAll, h.ish, hs.ish, Bool.and_self]
theorem fine_list {n W : Nat} {ds : List PyData} (h : FineAll n W ds) : Fine (n + 1) W (.list ds) := by
  have h1 := h.dep
  refine ⟨by simp only [PyData.depth]; omega, h.wei, ?_, ?_, ?_⟩
  · simp only [PyData.canLay0, h.lay]
  · simp only [PyData.showable, h.sho]
  · simp only [PyData.intsShort, h.ish]
theorem fine_tuple {n W : Nat} {ds : List PyData} (h : FineAll n W ds) : Fine (n + 1) W (.tuple ds) := by
  have h1 := h.dep
  refine ⟨by simp only [PyData.depth]; omega, h.wei, ?_, ?_, ?_⟩
  · simp only [PyData.canLay0, h.lay]
  · simp only [PyData.showable, h.sho]
  · simp only [PyData.intsShort, h.ish]
theorem fine_all {n W : Nat} : ∀ {ds : List PyData}, (∀ d ∈ ds, Fine n W d) → FineAll n ((W + 1) * ds.length) ds
  | [], _ => fine_nil.mono (Nat.zero_le _) (Nat.zero_le _)
  | d :: ds, h => by
    have q := fine_cons (h d List.mem_cons_self) (fine_all fun x hx => h x (List.mem_cons_of_mem _ hx))
    refine q.mono (Nat.le_refl _) ?_
    rw [List.length_cons, Nat.mul_add, Nat.mul_one]
    omega
theorem fine_ints {ns : List Int} (h : ∀ n ∈ ns, n.natAbs < 10 ^ 30) : FineAll 0 (102 * ns.length) (iD ns) := by
  have q := fine_all (n := 0) (W := 101) (ds := iD ns) fun d hd => by
    obtain ⟨n, hn, rfl⟩ := List.mem_map.mp hd
    exact fine_int (h n hn)
  unfold iD at q ⊢
  rw [List.length_map] at q
  exact q
theorem Fine.len {n W : Nat} {d : PyData} (h : Fine n W d) (hW : W ≤ 300000) : d.shown.length ≤ sizeLine := by
  have q := PyData.shown_le 40 (by decide) d (PyData.leavesShort_of_canLay0 40 d h.lay h.ish)
  have := h.wei
  rw [sizeLine_eq]
  omega
theorem Fine.shown {K : PySem.W.Frag} {H : Hp} {v : V} {n W : Nat} {d : PyData} (h : Fine n W d) (hn : n ≤ 60) (hW : W ≤ 300000) (hd : Dp K H v d) (hi : isDisplay d = true) : Shown K H v d :=
  ⟨hd, hi, h.sho, PyData.hasDict_of_canLay d h.lay, Nat.le_trans h.dep hn, h.len hW⟩
theorem Fine.shaped {n W : Nat} {d : PyData} (h : Fine n W d) (hn : n ≤ 60) : SeqAt.shaped d = true := by
  have := h.dep
  show (d.canLay0 && decide (d.depth ≤ 64)) = true
  rw [h.lay, Bool.true_and]
  exact decide_eq_true (by omega)
/-! ### the rows as data -/
def rD (rows : List (List Int)) : PyData := .tuple (rows.map fun r => .tuple (iD r))
theorem Rows.dpAll {K : PySem.W.Frag} {H : Hp} : ∀ {refs : List Addr} {rows : List (List Int)}, Rows K H refs rows → DpAll K H (refs.map V.ref) (rows.map fun r => .tuple (iD r))
  | [], [], _ => .nil
  | [], _ :: _, h => absurd h.1 (by simp)
  | _ :: _, [], h => absurd h.1 (by simp)
  | a :: r, p :: o, h => .cons (dp_tup (h.2 0 a p rfl rfl).sqT) (Rows.dpAll ⟨by simpa using h.1, fun i b q h1 h2 => h.2 (i + 1) b q h1 h2⟩)
theorem Rows.dp {K : PySem.W.Frag} {H : Hp} {t : Addr} {refs : List Addr} {rows : List (List Int)} (h : Rows K H refs rows) (ht : SqT K H t (refs.map V.ref)) : Dp K H (.ref t) (rD rows) := .tup ht h.dpAll
theorem Grown.small {c : Nat} {nm : List Int} {r : List (List Int)} {o : List (Int × Int)} {u k : Nat} (h : Grown c nm r o u k) (hn : nm.Perm names24) :
    (∀ row ∈ r, ∀ e ∈ row, -24 ≤ e ∧ e ≤ 24) ∧ ∀ p ∈ o, 1 ≤ p.1 ∧ p.1 ≤ 24 := by
  have setl : ∀ {r : List (List Int)} {p : Nat} {row : List Int} {v : Int}, (∀ row ∈ r, ∀ e ∈ row, -24 ≤ e ∧ e ≤ 24) → r[p]? = some row → -24 ≤ v → v ≤ 24 → ∀ row' ∈ r.set p (row ++ [v]), ∀ e ∈ row', -24 ≤ e ∧ e ≤ 24 := by
    intro r p row v h1 h2 h3 h4 row' hr e he
    rcases List.mem_or_eq_of_mem_set hr with z | rfl
    · exact h1 _ z e he
    · rcases List.mem_append.mp he with z | z
      · exact h1 _ (List.mem_of_getElem? h2) e z
      · rw [List.mem_singleton.mp z]
        exact ⟨h3, h4⟩
  have hm : ∀ m ∈ nm, 1 ≤ m ∧ m ≤ 24 := by
    intro m h1
    have h2 := hn.mem_iff.mp h1
    obtain ⟨i, hi, rfl⟩ := List.mem_map.mp h2
    have := List.mem_range.mp hi
    omega
  induction h with
  | start =>
    refine ⟨fun row hr e he => ?_, fun p hp => (nomatch hp)⟩
    rw [(List.mem_replicate.mp hr).2] at he
    exact (nomatch he)
  | skip _ ih => exact ih
  | save _ h ih => exact ⟨setl ih.1 h (by decide) (by decide), ih.2⟩
  | send _ h hu ih =>
    have := hm _ (List.mem_of_getElem? hu)
    refine ⟨setl ih.1 h (by omega) (by omega), fun p hp => ?_⟩
    rcases List.mem_append.mp hp with z | z
    · exact ih.2 p z
    · rw [List.mem_singleton.mp z]
      exact this
  | recv _ h hj _ ih =>
    have := ih.2 _ (List.mem_of_getElem? hj)
    exact ⟨setl ih.1 h (by omega) (by omega), fun p hp => ih.2 p (List.mem_of_mem_eraseIdx hp)⟩
theorem Good.len {many most : Nat} {rows : List (List Int)} (h : Good many most rows) : 1 ≤ rows.length ∧ rows.length ≤ many := by
  obtain ⟨c, nm, o, u, k, h1, h2, h3, h4, h5⟩ := h
  rw [h4.len]
  exact ⟨h1, h2⟩
theorem Good.events {many most : Nat} {rows : List (List Int)} (h : Good many most rows) : (rows.map List.length).sum ≤ most := by
  obtain ⟨c, nm, o, u, k, h1, h2, h3, h4, h5⟩ := h
  exact Nat.le_trans h4.events h5
theorem Good.row {many most : Nat} {rows : List (List Int)} (h : Good many most rows) {i : Nat} {row : List Int} (e : rows[i]? = some row) : row.length ≤ most ∧ ∀ x ∈ row, -24 ≤ x ∧ x ≤ 24 := by
  obtain ⟨c, nm, o, u, k, h1, h2, h3, h4, h5⟩ := id h
  exact ⟨Nat.le_trans (len_le_sum e) h.events, (h4.small h3).1 row (List.mem_of_getElem? e)⟩
theorem Good.fine {many most : Nat} {rows : List (List Int)} (h : Good many most rows) (h1 : many ≤ 6) (h2 : most ≤ 60) : Fine 2 40000 (rD rows) := by
  have q := fine_all (n := 1) (W := 6120) (ds := rows.map fun r => PyData.tuple (iD r)) fun d hd => by
    obtain ⟨r, hr, rfl⟩ := List.mem_map.mp hd
    obtain ⟨i, hi⟩ := List.getElem?_of_mem hr
    obtain ⟨h3, h4⟩ := h.row hi
    refine (fine_tuple (fine_ints fun n hn => ?_)).mono (Nat.le_refl _) (by omega)
    have := h4 n hn
    have : n.natAbs ≤ 24 := by omega
    exact Nat.lt_of_le_of_lt this (by decide)
  rw [List.length_map] at q
  have := h.len
  exact (fine_tuple q).mono (Nat.le_refl _) (by omega)

end Sv

namespace Sv
open PySem PySem.Spec PyProof.Rows L2
/-! ### where messages are sent and received -/
theorem Rows.at {K : PySem.W.Frag} {H : Hp} {refs : List Addr} {rows : List (List Int)} (h : Rows K H refs rows) {p : Nat} {row : List Int} (e : rows[p]? = some row) : ∃ a, refs[p]? = some a ∧ TupN H a (row.map V.int) := by
  have hp : p < refs.length := by
    rw [h.1]
    exact (List.getElem?_eq_some_iff.mp e).1
  exact ⟨_, List.getElem?_eq_getElem hp, h.2 p _ row (List.getElem?_eq_getElem hp) e⟩
def hapFrom (e : Int) : Nat → List (List Int) → Option (Nat × Nat)
  | _, [] => none
  | p, r :: rs => if e ∈ r then some (p, (r.take (r.idxOf e)).count 0) else hapFrom e (p + 1) rs
def hap (rows : List (List Int)) (e : Int) : Option (Nat × Nat) := hapFrom e 0 rows
theorem hapFrom_none {e : Int} : ∀ {rs : List (List Int)} {p : Nat}, (∀ (j : Nat) (r : List Int), rs[j]? = some r → e ∉ r) → hapFrom e p rs = none
  | [], _, _ => rfl
  | r :: rs, p, h => by
    unfold hapFrom
    rw [if_neg (h 0 r rfl)]
    exact hapFrom_none fun j r' hr => h (j + 1) r' hr
theorem hapFrom_some {e : Int} : ∀ {rs : List (List Int)} {p i : Nat} {row : List Int}, (∀ (j : Nat) (r : List Int), j < i → rs[j]? = some r → e ∉ r) → rs[i]? = some row → e ∈ row → hapFrom e p rs = some (p + i, (row.take (row.idxOf e)).count 0)
  | [], _, i, _, _, h, _ => by simp at h
  | r :: rs, p, 0, row, _, h, he => by
    obtain rfl : r = row := Option.some.inj h
    unfold hapFrom
    rw [if_pos he]
    rfl
  | r :: rs, p, i + 1, row, hn, h, he => by
    unfold hapFrom
    rw [if_neg (hn 0 r (Nat.succ_pos _) rfl), hapFrom_some (i := i) (fun j r' hj hr => hn (j + 1) r' (Nat.succ_lt_succ hj) hr) h he]
    have : p + 1 + i = p + (i + 1) := by omega
    rw [this]
def HapV (H : Hp) (v : V) : Option (Nat × Nat) → Prop
  | none => v = .non
  | some (p, k) => ∃ t, v = .ref t ∧ H t = some (.tup [.int p, .int k])
theorem HapV.same {H H' : Hp} {v : V} {o : Option (Nat × Nat)} (h : HapV H v o) (e : Same H H') : HapV H' v o := by
  match o, h with
  | none, h => exact h
  | some (p, k), ⟨t, h1, h2⟩ => exact ⟨t, h1, e _ _ h2⟩
def hapD : Option (Nat × Nat) → PyData
  | none => .none
  | some (p, k) => .tuple [.int p, .int k]
theorem HapV.dp {K : PySem.W.Frag} {H : Hp} {v : V} {o : Option (Nat × Nat)} (h : HapV H v o) : Dp K H v (hapD o) := by
  match o, h with
  | none, h =>
    cases (show v = .non from h)
    exact .non
  | some (p, k), ⟨t, h1, h2⟩ =>
    subst h1
    exact .tup (.inl (.inl h2)) (.cons (.int _) (.cons (.int _) .nil))
/-- a process and an interval that are small -/
def HapS (o : Option (Nat × Nat)) : Prop := ∀ p k, o = some (p, k) → p ≤ 1000 ∧ k ≤ 1000
theorem hapD_fine {o : Option (Nat × Nat)} (h : HapS o) : Fine 1 300 (hapD o) := by
  match o, h with
  | none, _ => exact fine_none.mono (by decide) (by decide)
  | some (p, k), h =>
    obtain ⟨h1, h2⟩ := h p k rfl
    have f : ∀ n : Nat, n ≤ 1000 → Fine 0 101 (.int (n : Int)) := fun n hn => fine_int (by
      have : ((n : Int)).natAbs = n := Int.natAbs_natCast n
      rw [this]
      exact Nat.lt_of_le_of_lt hn (by decide))
    exact (fine_tuple (fine_cons (f p h1) (fine_cons (f k h2) (fine_nil.mono (Nat.le_refl _) (Nat.le_refl _))))).mono (Nat.le_refl _) (by decide)
theorem hapFrom_small {e : Int} : ∀ {rs : List (List Int)} {p : Nat}, (∀ r ∈ rs, r.length ≤ 1000) → p + rs.length ≤ 1000 → HapS (hapFrom e p rs)
  | [], _, _, _ => fun p k h => (nomatch h)
  | r :: rs, p, h, hl => by
    unfold hapFrom
    rw [List.length_cons] at hl
    split
    · intro p' k' h'
      cases h'
      refine ⟨by omega, Nat.le_trans (List.count_le_length ..) ?_⟩
      rw [List.length_take]
      exact Nat.le_trans (Nat.min_le_right _ _) (h r List.mem_cons_self)
    · exact hapFrom_small (fun r' hr => h r' (List.mem_cons_of_mem _ hr)) (by omega)
theorem Good.hapS {many most : Nat} {rows : List (List Int)} (h : Good many most rows) (h1 : many ≤ 6) (h2 : most ≤ 60) (e : Int) : HapS (hap rows e) := by
  refine hapFrom_small (fun r hr => ?_) (by have := h.len; omega)
  obtain ⟨i, hi⟩ := List.getElem?_of_mem hr
  have := (h.row hi).1
  omega

end Sv

namespace Sv
open PySem PySem.Spec PyProof.Rows L2
abbrev sIsnum : Stmt := topS 1
abbrev sNum : Stmt := topS 2
theorem scIsnum : FnScope ["value"] ["value"] (defScope sIsnum) := ⟨rfl, rfl, rfl, by decide +kernel, rfl, by decide +kernel, by decide +kernel⟩
theorem scNum : FnScope ["value", "low", "high"] ["value", "low", "high"] (defScope sNum) := ⟨rfl, rfl, rfl, by decide +kernel, rfl, by decide +kernel, by decide +kernel⟩
section
variable {P : Program} {w : World} {K : PySem.W.Frag} {mg : Str → Option Value} {base : Heap}
def spIsnum (K : PySem.W.Frag) : Sp := fun vs H Q _ => ∃ v : V, vs = [v] ∧ Kn K H v ∧ Q (.bl (isI v && !isB v)) H
theorem ok_isnum {f : Addr} {fd : FuncData} (F : Fun K "is_number" "is_number" sIsnum f fd) (mis : mg "isinstance" = none) (mint : mg "int" = none) (mbo : mg "bool" = none) : FnOk P w K mg base CX0 1 f fd ["value"] (spIsnum K) := by
  refine F.ok scIsnum (fun vs H Q E h => ?_) (fun cdv A outer s H vs Q E hr h => ?_)
  · obtain ⟨v, rfl, _⟩ := h
    rfl
  · obtain ⟨v, rfl, hk, q⟩ := h
    refine ⟨_, pss_one (ps_ret (pe_and (pe_callB call_isi (by rfl) mis (by decide +kernel) (pa_cons (pv 0) (pa_cons (pe_bltn (v := .ty "int") (by rfl) mint (by decide +kernel) rfl) pa_nil)))
      (pe_one (pe_not (pe_callB call_isi (by rfl) mis (by decide +kernel) (pa_cons (pv 0) (pa_cons (pe_bltn (v := .ty "bool") (by rfl) mbo (by decide +kernel) rfl) pa_nil))))))), ?_⟩
    obtain ⟨t1, ty1, k1⟩ := hk.isInt
    obtain ⟨t2, ty2, k2⟩ := hk.isBool
    refine ⟨v, rfl, v, .ty "int", t1, _, isI v, rfl, .ty "int", ty1, k1, isI v, rfl, ite2 (fun h1 => ?_) (fun h1 => ?_)⟩
    · rw [h1, Bool.true_and] at q
      exact ⟨v, rfl, v, .ty "bool", t2, _, isB v, rfl, .ty "bool", ty2, k2, isB v, rfl, q⟩
    · have e : isI v = false := Bool.eq_false_iff.mpr h1
      rw [e, Bool.false_and] at q
      exact q
theorem ok_num {f fI : Addr} {fd fdI : FuncData} (F : Fun K "is_number_within" "is_number_within" sNum f fd) (FI : Fun K "is_number" "is_number" sIsnum fI fdI) (bI : Binds K fdI ["value"] []) (gI : mg "is_number" = some (.ref fI))
    (mis : mg "isinstance" = none) (mint : mg "int" = none) (mbo : mg "bool" = none) : FnOk P w K mg base CX0 2 f fd ["value", "low", "high"] (spNum K) := by
  have GI : FnOk P w K mg base CX0 1 fI fdI ["value"] (spIsnum K) := ok_isnum FI mis mint mbo
  refine F.ok scNum (fun vs H Q E h => ?_) (fun cdv A outer s H vs Q E hr h => ?_)
  · obtain ⟨v, lo, hi, rfl, _⟩ := h
    rfl
  · obtain ⟨v, lo, hi, rfl, hk, q⟩ := h
    refine ⟨_, pss_one (ps_ret (pe_and (pe_call GI hr (by rfl) gI FI.kp bI .nil pass0 (pa_cons (pv 0) pa_nil)) (pe_one (pe_chain op_le op_le (pv 1) (pv 0) (pv 2))))), ?_⟩
    refine ⟨v, rfl, v, rfl, hk, _, rfl, ite2 (fun h1 => ?_) (fun h1 => ?_)⟩
    · obtain ⟨i, rfl⟩ : ∃ i, v = .int i := by
        cases v with
        | int i => exact ⟨i, rfl⟩
        | bl b => cases h1
        | _ => cases h1
      refine ⟨_, rfl, _, rfl, lo, i, rfl, rfl, decide (lo ≤ i), rfl, ite2 (fun h3 => ?_) (fun h3 => ?_)⟩
      · refine ⟨_, rfl, i, hi, rfl, rfl, ?_⟩
        have : numIn (.int i) lo hi = decide (i ≤ hi) := by
          show (decide (lo ≤ i) && decide (i ≤ hi)) = _
          rw [h3, Bool.true_and]
        rw [this] at q
        exact q
      · have : numIn (.int i) lo hi = false := by
          show (decide (lo ≤ i) && decide (i ≤ hi)) = _
          rw [Bool.eq_false_iff.mpr h3, Bool.false_and]
        rw [this] at q
        exact q
    · have : numIn v lo hi = false := by
        cases v with
        | int i => exact absurd rfl h1
        | _ => rfl
      rw [this] at q
      exact q
end

end Sv

namespace Sv
open PySem PySem.Spec PyProof.Rows L2
abbrev sNums : Stmt := topS 4
abbrev nNums : List Str := ["history", "row"]
theorem scNums : FnScope nNums ["history"] (defScope sNums) := ⟨rfl, rfl, rfl, by decide +kernel, rfl, by decide +kernel, by decide +kernel⟩
def numsOf (rows : List (List Int)) : List Int := rows.map fun r => ((r.count 0 : Nat) : Int) + 1
def spNums (K : PySem.W.Frag) : Sp := fun vs H Q _ => ∃ (a : Addr) (refs : List Addr) (rows : List (List Int)), vs = [.ref a] ∧ SqT K H a (refs.map V.ref) ∧ Rows K H refs rows ∧ rows.length ≤ 100 ∧
  ∀ (H' : Hp) (t : Addr), Same H H' → H t = none → H' t = some (.tup ((numsOf rows).map V.int)) → Q (.ref t) H'
section
variable {P : Program} {w : World} {K : PySem.W.Frag} {mg : Str → Option Value} {base : Heap}
theorem ok_nums {f : Addr} {fd : FuncData} (F : Fun K "state_numbers" "state_numbers" sNums f fd) (mtu : mg "tuple" = none) : FnOk P w K mg base CX0 1 f fd ["history"] (spNums K) := by
  refine F.ok scNums (fun vs H Q E h => ?_) (fun cdv A outer s H vs Q E hr h => ?_)
  · obtain ⟨a, refs, rows, rfl, _⟩ := h
    rfl
  · obtain ⟨a, refs, rows, rfl, hA, hR, hl, q⟩ := h
    refine ⟨_, pss_one (ps_ret (pe_callTy call_tuple_of (by rfl) mtu (by decide +kernel) (pa_cons
      (pe_lc (own := [("row", 1)]) (g := gName 1) (by rfl) scNums.nd (pi_tup (pv 0)) (blkOk_by (own := [("row", 1)]) (N := nNums) (sc := defScope sNums) (by decide +kernel))
        (fun _ _ _ _ _ => pg_name (i := 1) scNums.nd rfl (Or.inl rfl)) (fun _ _ _ _ _ => pts_nil)
        (fun _ _ _ _ _ => pe_op op_add (pe_tm (r := rTcount K) PySem.F.slot_tuple_count PySem.F.type_tuple_count (mt_tcount hr.units) (pv 1) (pa_cons pe_int pa_nil)) pe_int)) pa_nil))), ?_⟩
    refine ⟨.ref a, rfl, a, rfl, ⟨_, hA⟩, fun d nd => ?_⟩
    refine lc_tup (K := K) (a := a) (xs := refs.map V.ref) (fun i H1 => Same H H1 ∧ H1 d = some (.lst ((numsOf (rows.take i)).map V.int))) ⟨Same.new nd, upd_same⟩ (fun i H1 _ z => (TupK.of z.1).1 _ _ hA) (fun i x H1 hx z => ?_) (fun H1 z => ?_)
    · obtain ⟨r, hr', rfl⟩ := of_at_map hx
      have hi : i < rows.length := by
        rw [← hR.1]
        exact (List.getElem?_eq_some_iff.mp hr').1
      have hrow := List.getElem?_eq_getElem hi
      have ht := (hR.2 i r _ hr' hrow).same z.1
      refine ⟨rfl, ?_⟩
      refine yesT ?_
      refine ⟨.ref r, rfl, ⟨r, _, rfl, ht⟩, r, rows[i], 0, rfl, rfl, ht.sqT, _, _, rfl, rfl, _, z.2, ?_, Same.put nd z.1, ?_⟩
      · rw [numsOf, List.map_map, List.length_map, List.length_take]
        exact small1000 (by omega)
      · rw [upd_same, List.take_add_one, hrow]
        simp only [numsOf, List.map_append, Option.toList, List.map_cons, List.map_nil]
    · have h2 := z.2
      rw [List.length_map, hR.1, List.take_length] at h2
      refine ⟨d, _, rfl, .inl ⟨SqL.of h2, fun t nt => ?_⟩⟩
      exact q _ t (z.1.trans (Same.new nt)) (z.1.free nt) upd_same
end

end Sv

namespace Sv
open PySem PySem.Spec PyProof.Rows L2
abbrev sCut : Stmt := topS 13
abbrev nCut : List Str := ["_law_deck_here", "_law_rows_here", "_law_way", "_law_found", "_law_row", "_law_most", "_law_number", "_law_near"]
theorem scCut : FnScope nCut ["_law_deck_here", "_law_rows_here"] (defScope sCut) := ⟨rfl, rfl, rfl, by decide +kernel, rfl, by decide +kernel, by decide +kernel⟩
def CutOk (rows : List (List Int)) (cs : List Nat) : Prop := cs.length = rows.length ∧ ∀ (i c : Nat) (row : List Int), cs[i]? = some c → rows[i]? = some row → c ≤ row.count 0 + 1
def natV (cs : List Nat) : List V := cs.map fun (c : Nat) => V.int (c : Int)
def spCut (K : PySem.W.Frag) : Sp := fun vs H Q _ => ∃ (st big cel t : Addr) (n : Nat) (refs : List Addr) (rows : List (List Int)), vs = [.ref st, .ref t] ∧ SqT K H t (refs.map V.ref) ∧ Rows K H refs rows ∧ rows.length ≤ 6 ∧ (∀ r ∈ rows, r.length ≤ 60) ∧
  StAt H st big cel n ∧ n + 20 ≤ 1000000 ∧ ∀ (H' : Hp) (p : Addr) (cs : List Nat), H p = none → H' p = some (.tup (natV cs)) → CutOk rows cs → StAt H' st big cel (n + 20) → Kp st big H H' → Q (.ref p) H'
section
variable {P : Program} {w : World} {K : PySem.W.Frag} {mg : Str → Option Value} {base : Heap}
theorem ok_cut {f fD : Addr} {fd fdD : FuncData} (F : Fun K "_law_cut" "_law_cut" sCut f fd) (FD : Fun K "_law_next" "_law_next" sDraw fD fdD) (bD : Binds K fdD ["_law_deck_here", "_law_many"] [])
    (gD : mg "_law_next" = some (.ref fD)) (ml : mg "len" = none) (mmi : mg "min" = none) (mtu : mg "tuple" = none) : FnOk P w K mg base CX0 2 f fd ["_law_deck_here", "_law_rows_here"] (spCut K) := by
  have GD : FnOk P w K mg base CX0 1 fD fdD ["_law_deck_here", "_law_many"] spDraw := ok_draw FD ml
  refine F.ok scCut (fun vs H Q E h => ?_) (fun cdv A outer s H vs Q E hr h => ?_)
  · obtain ⟨st, big, cel, t, n, refs, rows, rfl, _⟩ := h
    rfl
  · obtain ⟨st, big, cel, t, n, refs, rows, rfl, hA, hR, hlr, hrow60, hS, hn, q⟩ := h
    have nd := scCut.nd
    refine ⟨_, pss_cons (ps_par (i := 2) (j := 3) (by rfl) nd rfl rfl (by decide) rfl rfl (pa_cons (pe_call GD hr (by rfl) gD FD.kp bD .nil pass0 (pa_cons (pv 0) (pa_cons pe_int pa_nil))) (pa_cons (pe_lst pa_nil) pa_nil)) (by rfl))
      (pss_cons (ps_for PassesOwn.never rfl (pi_tup (pv 1)) (pg_name (i := 4) nd rfl (.inl rfl))
        (pss_cons (ps_set (i := 5) nd rfl (.inl rfl) (pe_op op_add (pe_tm (r := rTcount K) PySem.F.slot_tuple_count PySem.F.type_tuple_count (mt_tcount hr.units) (pv 4) (pa_cons pe_int pa_nil)) pe_int))
        (pss_cons (ps_set (i := 6) nd rfl (.inl rfl) (pe_call GD hr (by rfl) gD FD.kp bD .nil pass0 (pa_cons (pv 0) (pa_cons (pe_op op_add (pv 5) pe_int) pa_nil))))
        (pss_cons (ps_set (i := 7) nd rfl (.inl rfl) (pe_call GD hr (by rfl) gD FD.kp bD .nil pass0 (pa_cons (pv 0) (pa_cons (pe_op op_add (pe_callB (call_min2 rfl) (by rfl) mmi (by decide +kernel) (pa_cons (pv 5) (pa_cons pe_int pa_nil))) pe_int) pa_nil))))
        (pss_one (ps_expr (pe_bm PySem.F.plainAttrs_list PySem.F.slot_list_append PySem.F.type_list_append mt_append (pv 3)
          (pa_cons (pe_ix ix_list (pe_lst (pa_cons (pv 6) (pa_cons (pe_op op_sub (pv 5) (pv 7)) (pa_cons (pv 7) pa_nil)))) (pv 2) (fun _ _ => rfl)) pa_nil))))))))
      (pss_one (ps_ret (pe_callTy call_tuple_of (by rfl) mtu (by decide +kernel) (pa_cons (pv 3) pa_nil))))), ?_⟩
    refine ⟨.ref st, rfl, st, big, cel, n, 3, rfl, by decide, by decide, hS, by omega, fun H1 wy w0 w1 hS1 k1 => ⟨sz (Nat.zero_le _), fun F0 nF => ⟨_, _, rfl, ?_⟩⟩⟩
    have neF := hS1.ne nF
    have nF0 : H F0 = none := by
      cases e : H F0 with
      | none => rfl
      | some o => rw [k1 _ _ neF.1.symm neF.2.1.symm e] at nF; cases nF
    have s1 : Same H1 (upd H1 F0 (.lst [])) := Same.new nF
    refine ⟨.ref t, rfl, t, rfl, ⟨_, (hS.tupK (k1.trans (.of s1))).1 _ _ hA⟩, ?_⟩
    refine for_tup (K := K) (a := t) (xs := refs.map V.ref) (fun i σ H' => ∃ (cs : List Nat) (x4 x5 x6 x7 : Option V), σ = [some (.ref st), some (.ref t), some (.int wy), some (.ref F0), x4, x5, x6, x7] ∧ H' F0 = some (.lst (natV cs)) ∧ cs.length = i ∧
        (∀ (j c : Nat) (row : List Int), cs[j]? = some c → rows[j]? = some row → c ≤ row.count 0 + 1) ∧ StAt H' st big cel (n + 1 + 2 * i) ∧ Kp st big H H')
      ⟨[], _, _, _, _, rfl, upd_same, rfl, fun j c row z => by simp at z, hS1.same s1, k1.trans (.of s1)⟩ (fun i σ H' _ ⟨_, _, _, _, _, _, _, _, _, _, kp⟩ => (hS.tupK kp).1 _ _ hA) ?_ ?_
    · rintro i x σ H' hx ⟨cs, x4, x5, x6, x7, rfl, hF, hl, hc, hS', kp⟩
      obtain ⟨r, hr', rfl⟩ := of_at_map hx
      have hi : i < rows.length := by
        rw [← hR.1]
        exact (List.getElem?_eq_some_iff.mp hr').1
      have hrow := List.getElem?_eq_getElem hi
      have h60 := hrow60 _ (List.mem_of_getElem? hrow)
      generalize rows[i] = row at hrow h60
      have hc0 := List.count_le_length (a := (0 : Int)) (l := row)
      have ht := (hR.keep (hS.tupK kp)).2 i r row hr' hrow
      refine ⟨.ref r, rfl, ⟨r, _, rfl, ht⟩, r, row, 0, rfl, rfl, ht.sqT, _, _, rfl, rfl, ?_⟩
      refine ⟨.ref st, rfl, _, rfl, _, _, rfl, rfl, st, big, cel, _, _, rfl, by omega, by omega, hS', by omega, fun H2 nu nu0 nu1 hS2 k2 => ?_⟩
      refine ⟨.ref st, rfl, _, rfl, _, _, rfl, _, _, rfl, rfl, st, big, cel, _, _, rfl, ?_, ?_, hS2, by omega, fun H3 ne ne0 ne1 hS3 k3 => ?_⟩
      · split <;> omega
      · split <;> omega
      have hne : ne ≤ (row.count 0 : Nat) + 1 ∧ ne ≤ 2 := by
        split at ne1 <;> omega
      have hF3 := k3 _ _ neF.1.symm neF.2.1.symm (k2 _ _ neF.1.symm neF.2.1.symm hF)
      obtain ⟨c, hat, hcl⟩ : ∃ c : Nat, atI [V.int nu, V.int (((row.count 0 : Nat) : Int) + 1 - ne), V.int ne] wy = some (V.int (c : Int)) ∧ c ≤ row.count 0 + 1 := by
        have : wy = 0 ∨ wy = 1 ∨ wy = 2 := by omega
        rcases this with rfl | rfl | rfl
        · refine ⟨nu.toNat, ?_, by omega⟩
          rw [Int.toNat_of_nonneg nu0]
          rfl
        · refine ⟨(((row.count 0 : Nat) : Int) + 1 - ne).toNat, ?_, by omega⟩
          rw [Int.toNat_of_nonneg (by omega)]
          rfl
        · refine ⟨ne.toNat, ?_, by omega⟩
          rw [Int.toNat_of_nonneg ne0]
          rfl
      refine ⟨.ref F0, rfl, .inl ⟨rfl, _, SqL.of hF3⟩, _, rfl, _, rfl, _, rfl, _, _, rfl, rfl, _, rfl, sz (by show 3 ≤ 1000; decide), fun L nL => ?_⟩
      have s4 : Same H3 (upd H3 L (.lst [V.int nu, V.int (((row.count 0 : Nat) : Int) + 1 - ne), V.int ne])) := Same.new nL
      refine ⟨_, rfl, L, _, wy, _, rfl, rfl, SqL.of upd_same, hat, F0, _, _, rfl, rfl, s4 _ _ hF3, ?_, ?_⟩
      · rw [natV, List.length_map]
        exact small1000 (by omega)
      · have S4 := hS3.same s4
        obtain ⟨h1, h2, h3, h4, bs, cs', kk, d1, d2, d3, d4⟩ := S4
        refine ⟨cs ++ [c], _, _, _, _, rfl, ?_, by rw [List.length_append, hl]; rfl, fun j c' row' e1 e2 => ?_, StAt.le (n := n + 1 + 2 * i + 1 + 1) ⟨h1, h2, h3, h4, bs, cs', kk, ?_, ?_, ?_, d4⟩ (by omega) (by omega), Kp.put' nF0 (((kp.trans k2).trans k3).trans (.of s4))⟩
        · rw [upd_same, natV, natV, List.map_append]
          rfl
        · by_cases hj : j < cs.length
          · rw [List.getElem?_append_left hj] at e1
            exact hc j c' row' e1 e2
          · rw [List.getElem?_append_right (by omega)] at e1
            have hj2 : j = i := by
              have := (List.getElem?_eq_some_iff.mp e1).1
              simp at this
              omega
            subst hj2
            rw [hl, Nat.sub_self] at e1
            obtain rfl : c = c' := Option.some.inj e1
            obtain rfl := Option.some.inj (hrow.symm.trans e2)
            exact hcl
        · rw [upd_ne neF.1]
          exact d1
        · rw [upd_ne neF.2.1]
          exact d2
        · rw [upd_ne neF.2.2]
          exact d3
    · rintro σ H' ⟨cs, x4, x5, x6, x7, rfl, hF, hl, hc, hS', kp⟩
      rw [List.length_map, hR.1] at hl
      refine ⟨.ref F0, rfl, F0, _, rfl, .inl ⟨SqL.of hF, fun p np => ?_⟩⟩
      have s7 : Same H' (upd H' p (.tup (natV cs))) := Same.new np
      have nep := hS'.ne np
      refine q _ p cs ?_ upd_same ⟨hl, hc⟩ ((hS'.same s7).le (by rw [List.length_map, hR.1]; omega) (by omega)) (kp.trans (.of s7))
      cases e : H p with
      | none => rfl
      | some o => rw [kp _ _ nep.1.symm nep.2.1.symm e] at np; cases np
end

end Sv

namespace Sv
open PySem PySem.Spec PyProof.Rows L2
theorem Fine.x {n W : Nat} {d : PyData} (h : Fine n W d) : FineX n W d := ⟨h.dep, h.wei, h.sho, PyData.leavesShort_of_canLay0 40 _ h.lay h.ish⟩
/-- what a tuple holds is little -/
def small (d : PyData) : Prop := ∀ ds, d = .tuple ds → ds.length ≤ 10
/-- a list that was not yet there -/
def fr (H : Hp) (a : Addr) : Prop := a ≠ sysModules ∧ H a = none
theorem fr_sys {H : Hp} : ∀ a, fr H a → a ≠ sysModules := fun a h => h.1
theorem StAt.nfr {st big cel : Addr} {n : Nat} {H : Hp} (hS : StAt H st big cel n) : ¬ fr H st ∧ ¬ fr H big := by
  obtain ⟨_, _, _, _, bs, cs, k, ha, hb, _⟩ := hS
  exact ⟨fun z => (by rw [z.2] at ha; cases ha), fun z => (by rw [z.2] at hb; cases hb)⟩
theorem back {st big cel a : Addr} {n : Nat} {H H' : Hp} (hS : StAt H' st big cel n) (e : Kp st big H H') (na : H' a = none) : H a = none := by
  have := hS.ne na
  cases q : H a with
  | none => rfl
  | some o => rw [e _ _ this.1.symm this.2.1.symm q] at na; cases na
theorem DX.st {N : Addr → Prop} {K : PySem.W.Frag} {H H' : Hp} {st big cel : Addr} {n : Nat} {v : V} {d : PyData} (h : DX N K H v d) (hS : StAt H st big cel n) (hN : ¬ N st ∧ ¬ N big) (e : Kp st big H H') : DX N K H' v d := by
  obtain ⟨_, _, _, _, bs, cs, k, ha, hb, _⟩ := hS
  exact h.kp e hN.1 hN.2 ⟨_, ha⟩ ⟨_, hb⟩
/-- a value of any kind, ready to be shown -/
def Vl (N : Addr → Prop) (K : PySem.W.Frag) (H : Hp) (v : V) : Prop := ∃ d, DX N K H v d ∧ FineX 3 1000 d ∧ small d
theorem Vl.same {N : Addr → Prop} {K : PySem.W.Frag} {H H' : Hp} {v : V} (h : Vl N K H v) (e : Same H H') : Vl N K H' v := by
  obtain ⟨d, h1, h2⟩ := h
  exact ⟨d, h1.same e, h2⟩
theorem Vl.st {N : Addr → Prop} {st big cel : Addr} {n : Nat} {K : PySem.W.Frag} {H H' : Hp} {v : V} (h : Vl N K H v) (hS : StAt H st big cel n) (hN : ¬ N st ∧ ¬ N big) (e : Kp st big H H') : Vl N K H' v := by
  obtain ⟨d, h1, h2⟩ := h
  exact ⟨d, h1.st hS hN e, h2⟩
theorem finex_int {i : Int} (h : i.natAbs < 10 ^ 30) : FineX 3 1000 (.int i) := (fine_int h).x.mono (by decide) (by decide)
theorem small_not {d : PyData} (h : tupOf d = false) : small d := fun ds e => by
  rw [e] at h
  cases h
abbrev sOdd : Stmt := topS 14
theorem scOdd : FnScope ["_law_deck_here", "_law_items"] ["_law_deck_here"] (defScope sOdd) := ⟨rfl, rfl, rfl, by decide +kernel, rfl, by decide +kernel, by decide +kernel⟩
def spOdd (K : PySem.W.Frag) : Sp := fun vs H Q _ => ∃ (st big cel : Addr) (n : Nat), vs = [.ref st] ∧ StAt H st big cel n ∧ n + 1 ≤ 1000000 ∧
  ∀ (H' : Hp) (v : V), Vl (fr H) K H' v → StAt H' st big cel (n + 1) → Kp st big H H' → Q v H'
section
variable {P : Program} {w : World} {K : PySem.W.Frag} {mg : Str → Option Value} {base : Heap}
theorem ok_odd {f fD : Addr} {fd fdD : FuncData} (F : Fun K "_law_odd" "_law_odd" sOdd f fd) (FD : Fun K "_law_next" "_law_next" sDraw fD fdD) (bD : Binds K fdD ["_law_deck_here", "_law_many"] [])
    (gD : mg "_law_next" = some (.ref fD)) (ml : mg "len" = none) : FnOk P w K mg base CX0 2 f fd ["_law_deck_here"] (spOdd K) := by
  have GD : FnOk P w K mg base CX0 1 fD fdD ["_law_deck_here", "_law_many"] spDraw := ok_draw FD ml
  refine F.ok scOdd (fun vs H Q E h => ?_) (fun cdv A outer s H vs Q E hr h => ?_)
  · obtain ⟨st, big, cel, n, rfl, _⟩ := h
    rfl
  · obtain ⟨st, big, cel, n, rfl, hS, hn, q⟩ := h
    have nd := scOdd.nd
    refine ⟨_, pss_cons (ps_set (i := 1) nd rfl (.inl rfl) (pe_lst (pa_cons pe_non (pa_cons pe_bl (pa_cons pe_bl (pa_cons (pe_un un_neg pe_int) (pa_cons pe_int (pa_cons pe_int (pa_cons pe_int
        (pa_cons (pe_op op_pow pe_int pe_int) (pa_cons pe_str (pa_cons pe_str (pa_cons pe_str (pa_cons (pe_tup pa_nil) (pa_cons (pe_lstS pa_nil) (pa_cons pe_dnewK (pa_cons (pe_tup (pa_cons pe_int pa_nil))
        (pa_cons (pe_lstS (pa_cons pe_int pa_nil)) (pa_cons (pe_tup (pa_cons pe_bl pa_nil)) pa_nil)))))))))))))))))))
      (pss_one (ps_ret (pe_ix ix_list (pe_op op_cat (pv 1) (pe_lst (pa_cons (pe_tup (pa_cons pe_int (pa_cons pe_int pa_nil))) (pa_cons (pe_tup (pa_cons pe_int (pa_cons pe_bl pa_nil)))
          (pa_cons (pe_tup (pa_cons (pe_tup (pa_cons pe_int (pa_cons pe_int pa_nil))) pa_nil)) (pa_cons (pe_disp (pps_cons pe_str pe_int pps_nil) (by rfl) (by rfl) (fun z => by cases z) (by decide)) pa_nil))))))
        (pe_call GD hr (by rfl) gD FD.kp bD .nil pass0 (pa_cons (pv 0) (pa_cons pe_int pa_nil))) (fun _ _ => rfl)))), ?_⟩
    refine ⟨1, rfl, _, _, rfl, rfl, ⟨by decide, by decide, by decide⟩, ?_⟩

    refine ⟨sz (by show 0 ≤ 1000; decide), fun p1 n1 => ?_⟩
    have s1 : Same H (upd H p1 (.tup [])) := Same.new n1
    have e1 : (upd H p1 (.tup [])) p1 = some (.tup []) := upd_same
    generalize upd H p1 (.tup []) = H1 at s1 e1 ⊢
    refine ⟨sz (by show 0 ≤ 1000; decide), fun p2 n2 b2 => ?_⟩
    have s2 : Same H1 (upd H1 p2 (.lst [])) := Same.new n2
    have e2 : (upd H1 p2 (.lst [])) p2 = some (.lst []) := upd_same
    generalize upd H1 p2 (.lst []) = H2 at s2 e2 ⊢
    intro p3 n3
    have s3 : Same H2 (upd H2 p3 (.dK [])) := Same.new n3
    have e3 : (upd H2 p3 (.dK [])) p3 = some (.dK []) := upd_same
    generalize upd H2 p3 (.dK []) = H3 at s3 e3 ⊢
    refine ⟨sz (by show 1 ≤ 1000; decide), fun p4 n4 => ?_⟩
    have s4 : Same H3 (upd H3 p4 (.tup [.int 0])) := Same.new n4
    have e4 : (upd H3 p4 (.tup [.int 0])) p4 = some (.tup [.int 0]) := upd_same
    generalize upd H3 p4 (.tup [.int 0]) = H4 at s4 e4 ⊢
    refine ⟨sz (by show 1 ≤ 1000; decide), fun p5 n5 b5 => ?_⟩
    have s5 : Same H4 (upd H4 p5 (.lst [.int 0])) := Same.new n5
    have e5 : (upd H4 p5 (.lst [.int 0])) p5 = some (.lst [.int 0]) := upd_same
    generalize upd H4 p5 (.lst [.int 0]) = H5 at s5 e5 ⊢
    refine ⟨sz (by show 1 ≤ 1000; decide), fun p6 n6 => ?_⟩
    have s6 : Same H5 (upd H5 p6 (.tup [.bl true])) := Same.new n6
    have e6 : (upd H5 p6 (.tup [.bl true])) p6 = some (.tup [.bl true]) := upd_same
    generalize upd H5 p6 (.tup [.bl true]) = H6 at s6 e6 ⊢
    refine ⟨sz (by show 17 ≤ 1000; decide), fun L nL => ?_⟩
    generalize hxs : ([V.non, V.bl true, V.bl false, V.int (-1), V.int 0, V.int 1, V.int 2, V.int (10 ^ (29 : Int).toNat), V.str "", V.str "0", V.str "line", V.ref p1, V.ref p2, V.ref p3, V.ref p4, V.ref p5, V.ref p6] : List V) = xs
    have s7 : Same H6 (upd H6 L (.lst xs)) := Same.new nL
    have e7 : (upd H6 L (.lst xs)) L = some (.lst xs) := upd_same
    refine ⟨_, rfl, ?_⟩
    generalize upd H6 L (.lst xs) = H7 at s7 e7 ⊢
    refine ⟨sz (by show 2 ≤ 1000; decide), fun p8 n8 => ?_⟩
    have s8 : Same H7 (upd H7 p8 (.tup [.int 0, .int 0])) := Same.new n8
    have e8 : (upd H7 p8 (.tup [.int 0, .int 0])) p8 = some (.tup [.int 0, .int 0]) := upd_same
    generalize upd H7 p8 (.tup [.int 0, .int 0]) = H8 at s8 e8 ⊢
    refine ⟨sz (by show 2 ≤ 1000; decide), fun p9 n9 => ?_⟩
    have s9 : Same H8 (upd H8 p9 (.tup [.int 0, .bl true])) := Same.new n9
    have e9 : (upd H8 p9 (.tup [.int 0, .bl true])) p9 = some (.tup [.int 0, .bl true]) := upd_same
    generalize upd H8 p9 (.tup [.int 0, .bl true]) = H9 at s9 e9 ⊢
    refine ⟨sz (by show 2 ≤ 1000; decide), fun p10 n10 => ?_⟩
    have s10 : Same H9 (upd H9 p10 (.tup [.int 0, .int 0])) := Same.new n10
    have e10 : (upd H9 p10 (.tup [.int 0, .int 0])) p10 = some (.tup [.int 0, .int 0]) := upd_same
    generalize upd H9 p10 (.tup [.int 0, .int 0]) = H10 at s10 e10 ⊢
    refine ⟨sz (by show 1 ≤ 1000; decide), fun p11 n11 => ?_⟩
    have s11 : Same H10 (upd H10 p11 (.tup [.ref p10])) := Same.new n11
    have e11 : (upd H10 p11 (.tup [.ref p10])) p11 = some (.tup [.ref p10]) := upd_same
    generalize upd H10 p11 (.tup [.ref p10]) = H11 at s11 e11 ⊢
    intro p12 n12
    refine ⟨upd_same, [(Sum.inr "a", V.int 0)], rfl, by decide, ?_⟩
    rw [upd_upd]
    have s12 : Same H11 (upd H11 p12 (.dK (mergeK [] [(Sum.inr "a", V.int 0)]))) := Same.new n12
    have e12 : (upd H11 p12 (.dK (mergeK [] [(Sum.inr "a", V.int 0)]))) p12 = some (.dK [(Sum.inr "a", V.int 0)]) := upd_same
    generalize upd H11 p12 (.dK (mergeK [] [(Sum.inr "a", V.int 0)])) = H12 at s12 e12 ⊢
    refine ⟨sz (by show 4 ≤ 1000; decide), fun L2 nL2 => ?_⟩
    have s13 : Same H12 (upd H12 L2 (.lst [.ref p8, .ref p9, .ref p11, .ref p12])) := Same.new nL2
    have e13 : (upd H12 L2 (.lst [.ref p8, .ref p9, .ref p11, .ref p12])) L2 = some (.lst [.ref p8, .ref p9, .ref p11, .ref p12]) := upd_same
    generalize upd H12 L2 (.lst [.ref p8, .ref p9, .ref p11, .ref p12]) = H13 at s13 e13 ⊢
    have f12 := s12.trans s13
    have f11 := s11.trans f12
    have f10 := s10.trans f11
    have f9 := s9.trans f10
    have f8 := s8.trans f9
    have hxl : xs.length = 17 := by rw [← hxs]; rfl
    refine ⟨L, L2, _, _, rfl, rfl, f8 _ _ e7, e13, sz (by rw [hxl]; show 17 + 4 ≤ 1000; decide), fun L3 nL3 => ?_⟩
    have s14 : Same H13 (upd H13 L3 (.lst (xs ++ [.ref p8, .ref p9, .ref p11, .ref p12]))) := Same.new nL3
    have e14 : (upd H13 L3 (.lst (xs ++ [.ref p8, .ref p9, .ref p11, .ref p12]))) L3 = some (.lst (xs ++ [.ref p8, .ref p9, .ref p11, .ref p12])) := upd_same
    generalize upd H13 L3 (.lst (xs ++ [.ref p8, .ref p9, .ref p11, .ref p12])) = H14 at s14 e14 ⊢
    have g13 := s13.trans s14
    have g12 := s12.trans g13
    have g11 := s11.trans g12
    have g10 := s10.trans g11
    have g9 := s9.trans g10
    have g8 := s8.trans g9
    have g7 := s7.trans g8
    have g6 := s6.trans g7
    have g5 := s5.trans g6
    have g4 := s4.trans g5
    have g3 := s3.trans g4
    have g2 := s2.trans g3
    have g1 := s1.trans g2
    have S1 := hS.same s1
    have S4 := S1.same (s2.trans (s3.trans s4))
    have z0 : FineX 3 1000 (.int 0) := finex_int (by decide)
    have tb : FineX 3 1000 (.bool true) := ⟨Nat.zero_le _, Nat.zero_le _, rfl, rfl⟩
    have up : ∀ {ds : List PyData}, FineXs 0 900 ds → FineX 3 1000 (.tuple ds) := fun h => (finex_tuple h).mono (by decide) (by decide)
    have i0 : FineX 0 101 (.int 0) := (fine_int (by decide)).x
    have ib : FineX 0 101 (.bool true) := ⟨Nat.le_refl _, Nat.zero_le _, rfl, rfl⟩
    have n0 : FineXs 0 0 [] := finex_nil
    have k1 : Vl (fr H) K H14 (.ref p1) := ⟨.tuple [], .tup (.inl (g2 _ _ e1)) .nil, up (n0.mono (by decide) (by decide)), fun ds e => by cases e; decide⟩
    have k2 : Vl (fr H) K H14 (.ref p2) := ⟨.list [], .lst (g3 _ _ e2) ⟨b2, s1.free n2⟩ .nil, (finex_list n0).mono (by decide) (by decide), small_not rfl⟩
    have k3 : Vl (fr H) K H14 (.ref p3) := ⟨.dict [], .d0 (g4 _ _ e3), ⟨by decide +kernel, by decide +kernel, rfl, rfl⟩, small_not rfl⟩
    have k4 : Vl (fr H) K H14 (.ref p4) := ⟨.tuple [.int 0], .tup (.inl (g5 _ _ e4)) (.cons (.int 0) .nil), up ((finex_cons i0 n0).mono (by decide) (by decide)), fun ds e => by cases e; decide⟩
    have k5 : Vl (fr H) K H14 (.ref p5) := ⟨.list [.int 0], .lst (g6 _ _ e5) ⟨b5, (s1.trans (s2.trans (s3.trans s4))).free n5⟩ (.cons (.int 0) .nil), (finex_list (finex_cons i0 n0)).mono (by decide) (by decide), small_not rfl⟩
    have k6 : Vl (fr H) K H14 (.ref p6) := ⟨.tuple [.bool true], .tup (.inl (g7 _ _ e6)) (.cons (.bl true) .nil), up ((finex_cons ib n0).mono (by decide) (by decide)), fun ds e => by cases e; decide⟩
    have k8 : Vl (fr H) K H14 (.ref p8) := ⟨.tuple [.int 0, .int 0], .tup (.inl (g9 _ _ e8)) (.cons (.int 0) (.cons (.int 0) .nil)), up ((finex_cons i0 (finex_cons i0 n0)).mono (by decide) (by decide)), fun ds e => by cases e; decide⟩
    have k9 : Vl (fr H) K H14 (.ref p9) := ⟨.tuple [.int 0, .bool true], .tup (.inl (g10 _ _ e9)) (.cons (.int 0) (.cons (.bl true) .nil)), up ((finex_cons i0 (finex_cons ib n0)).mono (by decide) (by decide)), fun ds e => by cases e; decide⟩
    have k11 : Vl (fr H) K H14 (.ref p11) := ⟨.tuple [.tuple [.int 0, .int 0]], .tup (.inl (g12 _ _ e11)) (.cons (.tup (.inl (g11 _ _ e10)) (.cons (.int 0) (.cons (.int 0) .nil))) .nil),
      (finex_tuple (finex_cons (finex_tuple (finex_cons i0 (finex_cons i0 n0))) (finex_nil.mono (m := 1) (U := 0) (by decide) (by decide)))).mono (by decide) (by decide), fun ds e => by cases e; decide⟩
    have k12 : Vl (fr H) K H14 (.ref p12) := ⟨.dict [(.str "a", .int 0)], .d1 (g13 _ _ e12), ⟨by decide +kernel, by decide +kernel, by decide +kernel, by decide +kernel⟩, small_not rfl⟩
    have all : ∀ v ∈ xs ++ [V.ref p8, V.ref p9, V.ref p11, V.ref p12], Vl (fr H) K H14 v := by
      intro v hv
      rcases List.mem_append.mp hv with hv | hv
      · rw [← hxs] at hv
        simp only [List.mem_cons, List.not_mem_nil, or_false] at hv
        rcases hv with rfl | rfl | rfl | rfl | rfl | rfl | rfl | rfl | rfl | rfl | rfl | rfl | rfl | rfl | rfl | rfl | rfl
        · exact ⟨_, .non, ⟨Nat.zero_le _, Nat.zero_le _, rfl, rfl⟩, small_not rfl⟩
        · exact ⟨_, .bl _, ⟨Nat.zero_le _, Nat.zero_le _, rfl, rfl⟩, small_not rfl⟩
        · exact ⟨_, .bl _, ⟨Nat.zero_le _, Nat.zero_le _, rfl, rfl⟩, small_not rfl⟩
        · exact ⟨_, .int _, finex_int (by decide), small_not rfl⟩
        · exact ⟨_, .int _, finex_int (by decide), small_not rfl⟩
        · exact ⟨_, .int _, finex_int (by decide), small_not rfl⟩
        · exact ⟨_, .int _, finex_int (by decide), small_not rfl⟩
        · exact ⟨_, .int _, finex_int (by decide), small_not rfl⟩
        · exact ⟨_, .str _, ⟨by decide +kernel, by decide +kernel, by decide +kernel, by decide +kernel⟩, small_not rfl⟩
        · exact ⟨_, .str _, ⟨by decide +kernel, by decide +kernel, by decide +kernel, by decide +kernel⟩, small_not rfl⟩
        · exact ⟨_, .str _, ⟨by decide +kernel, by decide +kernel, by decide +kernel, by decide +kernel⟩, small_not rfl⟩
        · exact k1
        · exact k2
        · exact k3
        · exact k4
        · exact k5
        · exact k6
      · simp only [List.mem_cons, List.not_mem_nil, or_false] at hv
        rcases hv with rfl | rfl | rfl | rfl
        · exact k8
        · exact k9
        · exact k11
        · exact k12
    have S14 := hS.same g1
    have nL3' := (hS.same (s1.trans (s2.trans (s3.trans (s4.trans (s5.trans (s6.trans (s7.trans f8)))))))).ne nL3
    refine ⟨.ref st, rfl, st, big, cel, n, 21, rfl, by decide, by decide, S14, by omega, fun H' v v0 v1 hS' k' => ?_⟩
    obtain ⟨i, rfl⟩ : ∃ i : Nat, v = (i : Int) := ⟨v.toNat, (Int.toNat_of_nonneg v0).symm⟩
    have hzl : (xs ++ [V.ref p8, V.ref p9, V.ref p11, V.ref p12]).length = 21 := by rw [List.length_append, hxl]; rfl
    have hi : i < (xs ++ [V.ref p8, V.ref p9, V.ref p11, V.ref p12]).length := by rw [hzl]; omega
    have hat := List.getElem?_eq_getElem hi
    refine ⟨L3, _, i, _, rfl, rfl, SqL.of (k' _ _ nL3'.1.symm nL3'.2.1.symm e14), atI_nat hat, ?_⟩
    exact q H' _ ((all _ (List.mem_of_getElem? hat)).st S14 hS.nfr k') hS' ((Kp.of g1).trans k')
end

end Sv

namespace Sv
open PySem PySem.Spec PyProof.Rows L2
/-- the same of somewhat more -/
def Vm (N : Addr → Prop) (K : PySem.W.Frag) (H : Hp) (v : V) : Prop := ∃ d, DX N K H v d ∧ FineX 5 20000 d ∧ small d
theorem Vl.m {N : Addr → Prop} {K : PySem.W.Frag} {H : Hp} {v : V} (h : Vl N K H v) : Vm N K H v := by
  obtain ⟨d, h1, h2, h3⟩ := h
  exact ⟨d, h1, h2.mono (by decide) (by decide), h3⟩
theorem Vm.same {N : Addr → Prop} {K : PySem.W.Frag} {H H' : Hp} {v : V} (h : Vm N K H v) (e : Same H H') : Vm N K H' v := by
  obtain ⟨d, h1, h2⟩ := h
  exact ⟨d, h1.same e, h2⟩
theorem Vm.weak {N M : Addr → Prop} {K : PySem.W.Frag} {H : Hp} {v : V} (h : Vm N K H v) (e : ∀ (a : Addr) (xs : List V), H a = some (.lst xs) → N a → M a) : Vm M K H v := by
  obtain ⟨d, h1, h2⟩ := h
  exact ⟨d, h1.weak e, h2⟩
theorem Vl.weak {N M : Addr → Prop} {K : PySem.W.Frag} {H : Hp} {v : V} (h : Vl N K H v) (e : ∀ (a : Addr) (xs : List V), H a = some (.lst xs) → N a → M a) : Vl M K H v := by
  obtain ⟨d, h1, h2⟩ := h
  exact ⟨d, h1.weak e, h2⟩
theorem Vm.st {N : Addr → Prop} {st big cel : Addr} {n : Nat} {K : PySem.W.Frag} {H H' : Hp} {v : V} (h : Vm N K H v) (hS : StAt H st big cel n) (hN : ¬ N st ∧ ¬ N big) (e : Kp st big H H') : Vm N K H' v := by
  obtain ⟨d, h1, h2⟩ := h
  exact ⟨d, h1.st hS hN e, h2⟩
theorem TupT.st {H H' : Hp} {st big cel a : Addr} {n : Nat} {xs : List V} (h : TupT H a xs) (hS : StAt H st big cel n) (e : Kp st big H H') : TupT H' a xs := by
  obtain ⟨_, _, _, _, bs, cs, k, ha, hb, _⟩ := hS
  exact h.elim (fun q => .inl (e _ _ (ne_of q ha (by intro z; cases z)) (ne_of q hb (by intro z; cases z)) q)) fun ⟨o, q⟩ => .inr ⟨o, e _ _ (ne_of q ha (by intro z; cases z)) (ne_of q hb (by intro z; cases z)) q⟩
theorem mkTup {N : Addr → Prop} {K : PySem.W.Frag} {H : Hp} {a : Addr} {xs : List V} {ds : List PyData} (h : TupT H a xs) (hs : DXs N K H xs ds) (hf : ∀ d ∈ ds, FineX 3 1000 d) (hl : ds.length ≤ 10) : Vm N K H (.ref a) :=
  ⟨.tuple ds, .tup h hs, (finex_tuple (finex_all hf)).mono (by decide) (by omega), fun ds' e => by cases e; exact hl⟩
theorem str_small {x : Int} (h0 : 0 ≤ x) (h1 : x ≤ 100) : FineX 3 1000 (.str (toString x)) := by
  have all : ((List.range 101).all fun n => decide ((PyData.str (Str.ofString (toString ((n : Nat) : Int)))).depth ≤ 3) && (decide ((PyData.str (Str.ofString (toString ((n : Nat) : Int)))).weight ≤ 1000) && ((PyData.str (Str.ofString (toString ((n : Nat) : Int)))).showable && (PyData.str (Str.ofString (toString ((n : Nat) : Int)))).leavesShort 40))) = true := by decide +kernel
  obtain ⟨n, rfl⟩ : ∃ n : Nat, x = (n : Int) := ⟨x.toNat, (Int.toNat_of_nonneg h0).symm⟩
  have := List.all_eq_true.mp all n (List.mem_range.mpr (by omega))
  simp only [Bool.and_eq_true, decide_eq_true_eq] at this
  exact ⟨this.1, this.2.1, this.2.2.1, this.2.2.2⟩
theorem log_small {x : Int} (h0 : 0 ≤ x) (h1 : x ≤ 100) : x.natAbs.log2 < 1920 := by
  by_cases e : x.natAbs = 0
  · rw [e]; decide
  · exact Nat.lt_trans ((Nat.log2_lt e).mpr (by have : x.natAbs ≤ 100 := by omega
                                                exact Nat.lt_of_le_of_lt this (by decide : 100 < 2 ^ 7))) (by decide)
theorem finex_ints {ns : List Int} (h : ∀ x ∈ ns, 0 ≤ x ∧ x ≤ 200) : ∀ d ∈ iD ns, FineX 3 1000 d := fun d hd => by
  obtain ⟨x, hx, rfl⟩ := List.mem_map.mp hd
  have := h x hx
  exact finex_int (Nat.lt_of_le_of_lt (by omega : x.natAbs ≤ 200) (by decide))
abbrev sChanged : Stmt := topS 15
abbrev nChanged : List Str := ["_law_deck_here", "_law_value", "_law_place", "_law_way", "_law_number", "_law_part", "_law_some"]
theorem scChanged : FnScope nChanged ["_law_deck_here", "_law_value"] (defScope sChanged) := ⟨rfl, rfl, rfl, by decide +kernel, rfl, by decide +kernel, by decide +kernel⟩
def spChanged (K : PySem.W.Frag) : Sp := fun vs H Q _ => ∃ (st big cel v : Addr) (n : Nat) (ns : List Int), vs = [.ref st, .ref v] ∧ TupT H v (ns.map V.int) ∧ 1 ≤ ns.length ∧ ns.length ≤ 6 ∧ (∀ x ∈ ns, 0 ≤ x ∧ x ≤ 100) ∧ StAt H st big cel n ∧ n + 4 ≤ 1000000 ∧
  ∀ (H' : Hp) (u : V), Vm (fr H) K H' u → StAt H' st big cel (n + 4) → Kp st big H H' → Q u H'
section
variable {P : Program} {w : World} {K : PySem.W.Frag} {mg : Str → Option Value} {base : Heap}
theorem ok_changed {f fD fO : Addr} {fd fdD fdO : FuncData} (F : Fun K "_law_changed" "_law_changed" sChanged f fd) (FD : Fun K "_law_next" "_law_next" sDraw fD fdD) (bD : Binds K fdD ["_law_deck_here", "_law_many"] [])
    (gD : mg "_law_next" = some (.ref fD)) (FO : Fun K "_law_odd" "_law_odd" sOdd fO fdO) (bO : Binds K fdO ["_law_deck_here"] []) (gO : mg "_law_odd" = some (.ref fO)) (ml : mg "len" = none) (mli : mg "list" = none) (mst : mg "str" = none) :
    FnOk P w K mg base CX0 3 f fd ["_law_deck_here", "_law_value"] (spChanged K) := by
  have GD : FnOk P w K mg base CX0 1 fD fdD ["_law_deck_here", "_law_many"] spDraw := ok_draw FD ml
  have GO : FnOk P w K mg base CX0 2 fO fdO ["_law_deck_here"] (spOdd K) := ok_odd FO FD bD gD ml
  refine F.ok scChanged (fun vs H Q E h => ?_) (fun cdv A outer s H vs Q E hr h => ?_)
  · obtain ⟨st, big, cel, v, n, ns, rfl, _⟩ := h
    rfl
  · obtain ⟨st, big, cel, v, n, ns, rfl, hv, hl1, hl6, hx, hS, hn, q⟩ := h
    have nd := scChanged.nd
    have hr1 : Room 1 _ := hr.mono (by decide)
    refine ⟨_, pss_cons (ps_par (i := 2) (j := 3) (by rfl) nd rfl rfl (by decide) rfl rfl (pa_cons (pe_call GD hr1 (by rfl) gD FD.kp bD .nil pass0 (pa_cons (pv 0) (pa_cons (pe_callB call_len_seq (by rfl) ml PySem.boot_len (pa_cons (pv 1) pa_nil)) pa_nil)))
          (pa_cons (pe_call GD hr1 (by rfl) gD FD.kp bD .nil pass0 (pa_cons (pv 0) (pa_cons pe_int pa_nil))) pa_nil)) (by rfl))
      (pss_cons (ps_set (i := 4) nd rfl (.inl rfl) (pe_ix ix_tup (pv 1) (pv 2) (fun _ _ => rfl)))
      (pss_cons (ps_set (i := 5) nd rfl (.inl rfl) (pe_ix ix_list (pe_lst (pa_cons (pe_op op_add (pv 4) pe_int) (pa_cons (pe_op op_sub (pv 4) pe_int) (pa_cons (pe_cmpR op_eq (pv 4) pe_int (nomark _))
          (pa_cons (pe_callTy call_str_int (by rfl) mst (by decide +kernel) (pa_cons (pv 4) pa_nil)) (pa_cons pe_non (pa_cons (pe_tup (pa_cons (pv 4) pa_nil)) (pa_cons (pe_op op_add (pv 4) pe_int) pa_nil)))))))) (pv 3) (fun _ _ => rfl)))
      (pss_cons (ps_set (i := 6) nd rfl (.inl rfl) (pe_lst (pa_cons (pe_op L2.op_catA (pe_op L2.op_catA (pe_slice sl_tupA (pv 1) po_none (po_some (pv 2))) (pe_tup (pa_cons (pv 5) pa_nil))) (pe_slice sl_tupA (pv 1) (po_some (pe_op op_add (pv 2) pe_int)) po_none))
          (pa_cons (pe_slice sl_tupA (pv 1) po_none (po_some (pe_un un_neg pe_int))) (pa_cons (pe_op L2.op_catA (pv 1) (pe_tup (pa_cons pe_int pa_nil))) (pa_cons (pe_callTy call_listS (by rfl) mli (by decide +kernel) (pa_cons (pv 1) pa_nil)) (pa_cons (pe_tup (pa_cons (pv 1) pa_nil)) pa_nil)))))))
      (pss_one (ps_ret (pe_ix ix_list (pe_op op_cat (pv 6) (pe_lst (pa_cons (pe_op L2.op_catA (pe_op L2.op_catA (pe_slice sl_tupA (pv 1) po_none (po_some (pv 2))) (pe_tup (pa_cons (pe_call GO hr (by rfl) gO FO.kp bO .nil pass0 (pa_cons (pv 0) pa_nil)) pa_nil)))
            (pe_slice sl_tupA (pv 1) (po_some (pe_op op_add (pv 2) pe_int)) po_none)) pa_nil)))
          (pe_call GD hr1 (by rfl) gD FD.kp bD .nil pass0 (pa_cons (pv 0) (pa_cons pe_int pa_nil))) (fun _ _ => rfl))))))), ?_⟩
    have hnl : (ns.map V.int).length = ns.length := List.length_map ..
    refine ⟨.ref st, rfl, .ref v, rfl, v, _, rfl, .inr hv.sqT, st, big, cel, n, _, rfl, by rw [hnl]; omega, by rw [hnl]; omega, hS, by omega, fun H1 pl p0 p1 hS1 k1 => ?_⟩
    refine ⟨.ref st, rfl, st, big, cel, _, 7, rfl, by decide, by decide, hS1, by omega, fun H2 wy w0 w1 hS2 k2 => ⟨_, _, rfl, ?_⟩⟩
    obtain ⟨p, rfl⟩ : ∃ p : Nat, pl = (p : Int) := ⟨pl.toNat, (Int.toNat_of_nonneg p0).symm⟩
    have hp : p < ns.length := by omega
    have hat := List.getElem?_eq_getElem hp
    have hxx := hx _ (List.getElem_mem hp)
    generalize ns[p] = x at hat hxx
    have k12 := k1.trans k2
    have hv2 := hv.st hS k12
    -- the part
    refine ⟨.ref v, rfl, .int p, rfl, v, _, p, _, rfl, rfl, hv2.sqT, atI_nat (at_map hat), ?_⟩
    refine ⟨_, rfl, _, _, rfl, rfl, _, rfl, _, _, rfl, rfl, _, rfl, rfl, _, rfl, _, rfl, log_small hxx.1 hxx.2, _, rfl, sz (by show 1 ≤ 1000; decide), fun q1 nq1 => ⟨_, rfl, _, _, rfl, rfl, sz (by show 7 ≤ 1000; decide), fun Lp nLp => ?_⟩⟩
    have s3 : Same H2 (upd H2 q1 (.tup [.int x])) := Same.new nq1
    have e3 : (upd H2 q1 (.tup [.int x])) q1 = some (.tup [.int x]) := upd_same
    have s4 := Same.new (o := .lst [V.int (x + 1), V.int (x - 1), V.bl (decide (V.int x = V.int 1)), V.str (toString x), V.non, V.ref q1, V.int (x + 9)]) nLp
    refine ⟨.int wy, rfl, ?_⟩
    obtain ⟨part, hpa, hPart⟩ : ∃ part, atI [V.int (x + 1), V.int (x - 1), V.bl (decide (V.int x = V.int 1)), V.str (toString x), V.non, V.ref q1, V.int (x + 9)] wy = some part ∧
        Vl (fr H) K (upd (upd H2 q1 (.tup [.int x])) Lp (.lst [V.int (x + 1), V.int (x - 1), V.bl (decide (V.int x = V.int 1)), V.str (toString x), V.non, V.ref q1, V.int (x + 9)])) part := by
      have si : ∀ {i : Int}, -1 ≤ i → i ≤ 200 → FineX 3 1000 (.int i) := fun h1 h2 => finex_int (Nat.lt_of_le_of_lt (by omega : _ ≤ 200) (by decide))
      have : wy = 0 ∨ wy = 1 ∨ wy = 2 ∨ wy = 3 ∨ wy = 4 ∨ wy = 5 ∨ wy = 6 := by omega
      rcases this with rfl | rfl | rfl | rfl | rfl | rfl | rfl
      · exact ⟨_, rfl, _, .int _, si (by omega) (by omega), small_not rfl⟩
      · exact ⟨_, rfl, _, .int _, si (by omega) (by omega), small_not rfl⟩
      · exact ⟨_, rfl, _, .bl _, ⟨Nat.zero_le _, Nat.zero_le _, rfl, rfl⟩, small_not rfl⟩
      · exact ⟨_, rfl, _, .str _, str_small hxx.1 hxx.2, small_not rfl⟩
      · exact ⟨_, rfl, _, .non, ⟨Nat.zero_le _, Nat.zero_le _, rfl, rfl⟩, small_not rfl⟩
      · exact ⟨_, rfl, .tuple [.int x], .tup (.inl (s4 _ _ e3)) (.cons (.int x) .nil), (finex_tuple (finex_cons (fine_int (Nat.lt_of_le_of_lt (by omega : x.natAbs ≤ 200) (by decide))).x finex_nil)).mono (by decide) (by decide), fun ds e => by cases e; show 1 ≤ 10; decide⟩
      · exact ⟨_, rfl, _, .int _, si (by omega) (by omega), small_not rfl⟩
    refine ⟨Lp, _, wy, part, rfl, rfl, SqL.of upd_same, hpa, ?_⟩
    have s24 := s3.trans s4
    generalize upd (upd H2 q1 (.tup [.int x])) Lp (.lst [V.int (x + 1), V.int (x - 1), V.bl (decide (V.int x = V.int 1)), V.str (toString x), V.non, V.ref q1, V.int (x + 9)]) = H4 at s24 hPart ⊢
    have hS4 := hS2.same s24
    have hv4 := hv2.same s24
    have ct : cutV (ns.map V.int) none (some (p : Int)) = (ns.take p).map V.int := by rw [cut_to (by rw [hnl]; omega), List.map_take]
    have cd : cutV (ns.map V.int) (some ((p : Int) + 1)) none = (ns.drop (p + 1)).map V.int := by
      rw [show (p : Int) + 1 = ((p + 1 : Nat) : Int) by omega, cut_from (by rw [hnl]; omega), List.map_drop]
    have cl : cutV (ns.map V.int) none (some (-1)) = (ns.take (ns.length - 1)).map V.int := by rw [cut_last, hnl, List.map_take]
    have lt : (ns.take p).length ≤ 6 := by rw [List.length_take]; omega
    have ld : (ns.drop (p + 1)).length ≤ 6 := by rw [List.length_drop]; omega
    have ht : ∀ d ∈ iD (ns.take p), FineX 3 1000 d := finex_ints fun x h => by have := hx x (List.mem_of_mem_take h); omega
    have hd : ∀ d ∈ iD (ns.drop (p + 1)), FineX 3 1000 d := finex_ints fun x h => by have := hx x (List.mem_of_mem_drop h); omega
    have hns : ∀ d ∈ iD ns, FineX 3 1000 d := finex_ints fun x h => by have := hx x h; omega
    have lD : ∀ l : List Int, (iD l).length = l.length := fun l => List.length_map ..
    -- the middle of a tuple changed
    have mid : ∀ {H' : Hp} {a : Addr} {u : V}, TupT H' a (((ns.take p).map V.int ++ [u]) ++ (ns.drop (p + 1)).map V.int) → Vl (fr H) K H' u → Vm (fr H) K H' (.ref a) := fun h hu => by
      obtain ⟨d, h1, h2, h3⟩ := hu
      refine mkTup h (((DXs.ints _).append (.cons h1 .nil)).append (DXs.ints _)) (fun d' hd' => ?_) (by rw [List.length_append, List.length_append, lD, lD, List.length_singleton]; rw [List.length_take, List.length_drop]; omega)
      rcases List.mem_append.mp hd' with hd' | hd'
      · rcases List.mem_append.mp hd' with hd' | hd'
        · exact ht _ hd'
        · rw [List.mem_singleton.mp hd']
          exact h2
      · exact hd _ hd'
    -- some, one
    refine ⟨.ref v, rfl, _, rfl, _, rfl, slA hv4 fun H5 a1 s5 h1 => ?_⟩
    rw [ct] at h1
    refine ⟨_, rfl, sz (by show 1 ≤ 1000; decide), fun t2 nt2 => ?_⟩
    have s6 : Same H5 (upd H5 t2 (.tup [part])) := Same.new nt2
    refine catA (h1.same s6) (.inl upd_same) (by rw [List.length_map, List.length_singleton]; omega) fun H6 a2 s7 h2 => ?_
    have s46 := s5.trans (s6.trans s7)
    refine ⟨.ref v, rfl, _, rfl, _, _, rfl, rfl, _, rfl, ?_⟩
    dsimp only [tNoPart]
    refine slA (hv4.same s46) fun H7 a3 s8 h3 => ?_
    rw [cd] at h3
    refine catA (h2.same s8) h3 (by rw [List.length_append, List.length_map, List.length_map, List.length_singleton]; omega) fun H8 a4 s9 h4 => ?_
    have s48 := s46.trans (s8.trans s9)
    have v1 := mid h4 (hPart.same s48)
    -- two
    refine ⟨.ref v, rfl, 1, rfl, _, rfl, slA (hv4.same s48) fun H9 a5 s10 h5 => ?_⟩
    rw [cl] at h5
    have s49 := s48.trans s10
    have v2 : Vm (fr H) K H9 (.ref a5) := mkTup h5 (DXs.ints _) (finex_ints fun x h => by have := hx x (List.mem_of_mem_take h); omega) (by rw [lD, List.length_take]; omega)
    -- three
    refine ⟨.ref v, rfl, sz (by show 1 ≤ 1000; decide), fun t3 nt3 => ?_⟩
    have s11 : Same H9 (upd H9 t3 (.tup [.int 0])) := Same.new nt3
    refine catA ((hv4.same s49).same s11) (.inl upd_same) (by rw [hnl, List.length_singleton]; omega) fun H10 a6 s12 h6 => ?_
    have s910 := s11.trans s12
    have s410 := s49.trans s910
    have v3 : Vm (fr H) K H10 (.ref a6) := mkTup h6 ((DXs.ints ns).append (.cons (.int 0) .nil)) (fun d hd' => by
      rcases List.mem_append.mp hd' with hd' | hd'
      · exact hns _ hd'
      · rw [List.mem_singleton.mp hd']
        exact finex_int (by decide)) (by rw [List.length_append, lD, List.length_singleton]; omega)
    -- four
    refine ⟨.ref v, rfl, v, _, rfl, .inr (hv4.same s410).sqT, fun l nl bl => ?_⟩
    have s13 : Same H10 (upd H10 l (.lst (ns.map V.int))) := Same.new nl
    have v4 : Vm (fr H) K (upd H10 l (.lst (ns.map V.int))) (.ref l) := ⟨.list (iD ns), .lst upd_same ⟨bl, back (hS4.same s410) (k12.trans (.of (s24.trans s410))) nl⟩ (DXs.ints ns), (finex_list (finex_all hns)).mono (by decide) (by rw [lD]; omega), small_not rfl⟩
    generalize upd H10 l (.lst (ns.map V.int)) = H11 at s13 v4 ⊢
    have s411 := s410.trans s13
    -- five
    refine ⟨.ref v, rfl, sz (by show 1 ≤ 1000; decide), fun t5 nt5 => ?_⟩
    have s14 : Same H11 (upd H11 t5 (.tup [.ref v])) := Same.new nt5
    have v5 : Vm (fr H) K (upd H11 t5 (.tup [.ref v])) (.ref t5) := ⟨.tuple [.tuple (iD ns)], .tup (.inl upd_same) (.cons (.tup (hv4.same (s411.trans s14)) (DXs.ints ns)) .nil),
      (finex_tuple (finex_cons (finex_tuple (finex_all hns)) (finex_nil.mono (m := 4) (U := 0) (by decide) (by decide)))).mono (by decide) (by rw [lD]; omega), fun ds e => by cases e; show 1 ≤ 10; decide⟩
    generalize upd H11 t5 (.tup [.ref v]) = H12 at s14 v5 ⊢
    refine ⟨sz (by show 5 ≤ 1000; decide), fun S nS => ?_⟩
    have s15 : Same H12 (upd H12 S (.lst [.ref a4, .ref a5, .ref a6, .ref l, .ref t5])) := Same.new nS
    have eS : (upd H12 S (.lst [.ref a4, .ref a5, .ref a6, .ref l, .ref t5])) S = some (.lst [.ref a4, .ref a5, .ref a6, .ref l, .ref t5]) := upd_same
    have nSs := (hS4.same (s411.trans s14)).ne nS
    generalize upd H12 S (.lst [.ref a4, .ref a5, .ref a6, .ref l, .ref t5]) = H13 at s15 eS ⊢
    have s413 := s411.trans (s14.trans s15)
    have s1213 := s14.trans s15
    have s1113 := s13.trans s1213
    have all5 : ∀ u ∈ [V.ref a4, V.ref a5, V.ref a6, V.ref l, V.ref t5], Vm (fr H) K H13 u := fun u hu => by
      simp only [List.mem_cons, List.not_mem_nil, or_false] at hu
      rcases hu with rfl | rfl | rfl | rfl | rfl
      · exact v1.same (s10.trans (s910.trans s1113))
      · exact v2.same (s910.trans s1113)
      · exact v3.same s1113
      · exact v4.same s1213
      · exact v5.same s15
    have hS13 := hS4.same s413
    have hv13 := hv4.same s413
    -- six
    refine ⟨.ref S, rfl, .ref v, rfl, _, rfl, _, rfl, slA hv13 fun H14 b1 s16 g1 => ?_⟩
    rw [ct] at g1
    refine ⟨.ref st, rfl, st, big, cel, _, rfl, hS13.same s16, by omega, fun H15 vo hvo hS15 k15 => ⟨sz (by show 1 ≤ 1000; decide), fun t6 nt6 => ?_⟩⟩
    have s17 : Same H15 (upd H15 t6 (.tup [vo])) := Same.new nt6
    refine catA ((g1.st (hS13.same s16) k15).same s17) (.inl upd_same) (by rw [List.length_map, List.length_singleton]; omega) fun H16 b2 s18 g2 => ?_
    have s1516 := s17.trans s18
    have k1316 : Kp st big H13 H16 := ((Kp.of s16).trans k15).trans (.of s1516)
    refine ⟨.ref v, rfl, _, rfl, _, _, rfl, rfl, _, rfl, ?_⟩
    dsimp only [tNoPart]
    refine slA (hv13.st hS13 k1316) fun H17 b3 s19 g3 => ?_
    rw [cd] at g3
    refine catA (g2.same s19) g3 (by rw [List.length_append, List.length_map, List.length_map, List.length_singleton]; omega) fun H18 b4 s20 g4 => ?_
    have s1518 := s1516.trans (s19.trans s20)
    have hvo : Vl (fr H) K H15 vo := hvo.weak fun a xs _ h => ⟨h.1, back (hS13.same s16) (k12.trans (.of (s24.trans (s413.trans s16)))) h.2⟩
    have v6 := mid g4 (hvo.same s1518)
    refine ⟨sz (by show 1 ≤ 1000; decide), fun S2 nS2 => ?_⟩
    have s21 : Same H18 (upd H18 S2 (.lst [.ref b4])) := Same.new nS2
    have k1319 : Kp st big H13 (upd H18 S2 (.lst [.ref b4])) := (k1316.trans (.of (s19.trans s20))).trans (.of s21)
    have eS' := k1319 _ _ nSs.1.symm nSs.2.1.symm eS
    have S19 := (hS15.same s1518).same s21
    have eS2 : (upd H18 S2 (.lst [.ref b4])) S2 = some (.lst [.ref b4]) := upd_same
    have v6' := v6.same s21
    generalize upd H18 S2 (.lst [.ref b4]) = H19 at k1319 eS' S19 eS2 v6' ⊢
    refine ⟨S, S2, _, _, rfl, rfl, eS', eS2, sz (by show 5 + 1 ≤ 1000; decide), fun S3 nS3 => ?_⟩
    have s22 : Same H19 (upd H19 S3 (.lst ([.ref a4, .ref a5, .ref a6, .ref l, .ref t5] ++ [.ref b4]))) := Same.new nS3
    have eS3 : (upd H19 S3 (.lst ([.ref a4, .ref a5, .ref a6, .ref l, .ref t5] ++ [.ref b4]))) S3 = some (.lst [.ref a4, .ref a5, .ref a6, .ref l, .ref t5, .ref b4]) := upd_same
    have nS3' := S19.ne nS3
    generalize upd H19 S3 (.lst ([.ref a4, .ref a5, .ref a6, .ref l, .ref t5] ++ [.ref b4])) = H20 at s22 eS3 ⊢
    have all6 : ∀ u ∈ [V.ref a4, V.ref a5, V.ref a6, V.ref l, V.ref t5, V.ref b4], Vm (fr H) K H20 u := fun u hu => by
      have h6 : u ∈ [V.ref a4, V.ref a5, V.ref a6, V.ref l, V.ref t5] ∨ u = V.ref b4 := by
        simp only [List.mem_cons, List.not_mem_nil, or_false] at hu ⊢
        rcases hu with h | h | h | h | h | h
        · exact .inl (.inl h)
        · exact .inl (.inr (.inl h))
        · exact .inl (.inr (.inr (.inl h)))
        · exact .inl (.inr (.inr (.inr (.inl h))))
        · exact .inl (.inr (.inr (.inr (.inr h))))
        · exact .inr h
      rcases h6 with h6 | rfl
      · exact ((all5 u h6).st hS13 hS.nfr k1319).same s22
      · exact v6'.same s22
    refine ⟨.ref st, rfl, st, big, cel, _, 6, rfl, by decide, by decide, S19.same s22, by omega, fun H' z z0 z1 hS' k' => ?_⟩
    obtain ⟨i, rfl⟩ : ∃ i : Nat, z = (i : Int) := ⟨z.toNat, (Int.toNat_of_nonneg z0).symm⟩
    have hi : i < [V.ref a4, V.ref a5, V.ref a6, V.ref l, V.ref t5, V.ref b4].length := by show i < 6; omega
    have hat2 := List.getElem?_eq_getElem hi
    refine ⟨S3, _, i, _, rfl, rfl, SqL.of (k' _ _ nS3'.1.symm nS3'.2.1.symm eS3), atI_nat hat2, ?_⟩
    exact q H' _ ((all6 _ (List.mem_of_getElem? hat2)).st (S19.same s22) hS.nfr k') (hS'.le (by omega) (by omega)) ((((k12.trans (.of (s24.trans s413))).trans k1319).trans (.of s22)).trans k')
end

end Sv

namespace Sv
open PySem PySem.Spec PyProof.Rows L2
def bits (ds : List PyData) (rows : List (List Int)) : List Bool := List.zipWith (fun d (row : List Int) => numD d 0 (((row.count 0 : Nat) : Int) + 1)) ds rows
/-- whether data is a line of such rows -/
def lineB (rows : List (List Int)) (d : PyData) : Bool := match d with
  | .tuple ds => decide (ds.length = rows.length) && (bits ds rows).all id
  | _ => false
theorem lineB_not {rows : List (List Int)} {d : PyData} (h : tupOf d = false) : lineB rows d = false := by
  cases d with
  | tuple ds => cases h
  | _ => rfl
theorem bits_at {ds : List PyData} {rows : List (List Int)} {i : Nat} {d : PyData} {row : List Int} (h1 : ds[i]? = some d) (h2 : rows[i]? = some row) : (bits ds rows)[i]? = some (numD d 0 (((row.count 0 : Nat) : Int) + 1)) := by
  unfold bits
  rw [List.getElem?_zipWith, h1, h2]
theorem bits_len {ds : List PyData} {rows : List (List Int)} (h : ds.length = rows.length) : (bits ds rows).length = rows.length := by
  unfold bits
  rw [List.length_zipWith, h]
  exact Nat.min_self _
abbrev sIsLine : Stmt := topS 6
abbrev sIsCut : Stmt := topS 16
abbrev nIsLine : List Str := ["history", "value", "presents", "number", "present"]
abbrev nIsCut : List Str := ["_law_rows_here", "_law_value", "_law_row", "_law_number"]
theorem scIsLine : FnScope nIsLine ["history", "value"] (defScope sIsLine) := ⟨rfl, rfl, rfl, by decide +kernel, rfl, by decide +kernel, by decide +kernel⟩
theorem scIsCut : FnScope nIsCut ["_law_rows_here", "_law_value"] (defScope sIsCut) := ⟨rfl, rfl, rfl, by decide +kernel, rfl, by decide +kernel, by decide +kernel⟩
def spIsLine (K : PySem.W.Frag) : Sp := fun vs H Q _ => ∃ (a : Addr) (v : V) (refs : List Addr) (rows : List (List Int)) (N : Addr → Prop) (d : PyData), vs = [.ref a, v] ∧ SqT K H a (refs.map V.ref) ∧ Rows K H refs rows ∧ rows.length ≤ 100 ∧ DX N K H v d ∧
  ∀ H', Same H H' → Q (.bl (lineB rows d)) H'
theorem nums_at {rows : List (List Int)} {p : Nat} {row : List Int} (h : rows[p]? = some row) : (numsOf rows)[p]? = some (((row.count 0 : Nat) : Int) + 1) := by
  unfold numsOf
  rw [List.getElem?_map, h]
  rfl
section
variable {P : Program} {w : World} {K : PySem.W.Frag} {mg : Str → Option Value} {base : Heap}
theorem ok_isline {f fN fNu fI : Addr} {fd fdN fdNu fdI : FuncData} (F : Fun K "is_line" "is_line" sIsLine f fd) (FN : Fun K "state_numbers" "state_numbers" sNums fN fdN) (bN : Binds K fdN ["history"] []) (gN : mg "state_numbers" = some (.ref fN))
    (FNu : Fun K "is_number_within" "is_number_within" sNum fNu fdNu) (bNu : Binds K fdNu ["value", "low", "high"] []) (gNu : mg "is_number_within" = some (.ref fNu)) (FI : Fun K "is_number" "is_number" sIsnum fI fdI) (bI : Binds K fdI ["value"] []) (gI : mg "is_number" = some (.ref fI))
    (ml : mg "len" = none) (mtu : mg "tuple" = none) (mis : mg "isinstance" = none) (mint : mg "int" = none) (mbo : mg "bool" = none) (mzi : mg "zip" = none) (mal : mg "all" = none) : FnOk P w K mg base CX0 3 f fd ["history", "value"] (spIsLine K) := by
  have GN : FnOk P w K mg base CX0 1 fN fdN ["history"] (spNums K) := ok_nums FN mtu
  have GNu : FnOk P w K mg base CX0 2 fNu fdNu ["value", "low", "high"] (spNum K) := ok_num FNu FI bI gI mis mint mbo
  refine F.ok scIsLine (fun vs H Q E h => ?_) (fun cdv A outer s H vs Q E hr h => ?_)
  · obtain ⟨a, v, refs, rows, N, d, rfl, _⟩ := h
    rfl
  · obtain ⟨a, v, refs, rows, N, d, rfl, hA, hR, hl, hv, q⟩ := h
    have nd := scIsLine.nd
    have hr1 : Room 1 _ := hr.mono (by decide)
    refine ⟨_, pss_cons (ps_if (PW.pt (pw_or (pt_not (pt_val (pe_callB call_isi (by rfl) mis (by decide +kernel) (pa_cons (pv 1) (pa_cons (pe_bltn (v := .ty "tuple") (by rfl) mtu (by decide +kernel) rfl) pa_nil)))))
          (pw_or1 (pt_cmpR op_ne (pe_callB call_len_seq (by rfl) ml PySem.boot_len (pa_cons (pv 1) pa_nil)) (pe_callB call_len_seq (by rfl) ml PySem.boot_len (pa_cons (pv 0) pa_nil)) (nomark _))))) (pss_one (ps_ret pe_bl)) pss_nil)
      (pss_cons (ps_set (i := 2) nd rfl (.inl rfl) (pe_call GN hr1 (by rfl) gN FN.kp bN .nil pass0 (pa_cons (pv 0) pa_nil)))
      (pss_one (ps_ret (pe_callB (cr_all rfl) (by rfl) mal (by decide +kernel) (pa_cons (pe_lc (own := [("number", 3), ("present", 4)]) (g := gTup K 2 (gCons (gName 3) (gCons (gName 4) gNil))) (by rfl) nd (RZ.pi_zipA (by rfl) mzi (pa_cons (pv 1) (pa_cons (pv 2) pa_nil)))
          (blkOk_by (own := [("number", 3), ("present", 4)]) (N := nIsLine) (sc := defScope sIsLine) (by decide +kernel))
          (fun _ _ _ _ _ => pg_tup rfl (pgs_cons (pg_name (i := 3) nd rfl (Or.inl rfl)) (pgs_cons (pg_name (i := 4) nd rfl (Or.inl rfl)) pgs_nil)))
          (fun _ _ _ _ _ => pts_nil) (fun _ _ _ _ _ => pe_call GNu hr (by rfl) gNu FNu.kp bNu .nil pass0 (pa_cons (pv 3) (pa_cons pe_int (pa_cons (pv 4) pa_nil))))) pa_nil))))), ?_⟩
    obtain ⟨t1, ty1, k1⟩ := hv.isTup
    refine ifS ⟨v, rfl, v, .ty "tuple", t1, _, tupOf d, rfl, .ty "tuple", ty1, k1, tupOf d, rfl, ?_⟩
    cases hd : tupOf d with
    | false =>
      refine iteT (iteT ?_)
      rw [lineB_not hd] at q
      exact q H (Same.refl H)
    | true =>
      refine iteF ?_
      cases d with
      | tuple ds =>
        obtain ⟨p, xs, rfl, hP, hs⟩ := hv.tupInv
        have hxl := hs.len
        have hal : (refs.map V.ref).length = rows.length := by rw [List.length_map, hR.1]
        refine ⟨.ref p, rfl, p, _, rfl, .inr hP, .ref a, rfl, a, _, rfl, .inr hA, rfl, _, rfl, ite2 (fun h1 => ?_) (fun h1 => ?_)⟩
        · have e : lineB rows (.tuple ds) = false := by
            have : ds.length ≠ rows.length := fun z => by
              rw [hxl, hal, z] at h1
              rw [decide_eq_true rfl] at h1
              cases h1
            show (decide (ds.length = rows.length) && (bits ds rows).all id) = false
            rw [decide_eq_false this, Bool.false_and]
          rw [e] at q
          exact q H (Same.refl H)
        · have hln : ds.length = rows.length := by
            rw [hxl, hal] at h1
            by_cases z : ds.length = rows.length
            · exact z
            · exact absurd (by rw [decide_eq_false (fun y => z (by have := V.int.inj y; omega))]; rfl) h1
          refine ⟨.ref a, rfl, a, refs, rows, rfl, hA, hR, hl, fun H1 t s1 nt ht => ?_⟩
          have hT : SqT K H1 t ((numsOf rows).map V.int) := .inl (.inl ht)
          have hP1 := (TupK.of s1).1 _ _ hP
          have hmin : min xs.length ((numsOf rows).map V.int).length = rows.length := by
            rw [List.length_map, numsOf, List.length_map, hxl, hln]
            exact Nat.min_self _
          refine ⟨.ref p, rfl, .ref t, rfl, p, t, _, _, rfl, .inr ⟨hP1, hT, fun D nD => ?_⟩⟩
          refine lc_it (walk_zipT (K := K) (a := p) (b := t) (xs := xs) (ys := (numsOf rows).map V.int) hmin.symm) (fun i H' => Same H1 H' ∧ H' D = some (.lst (((bits ds rows).take i).map V.bl))) ⟨Same.new nD, upd_same⟩
            (fun i H' _ z => ⟨(TupK.of z.1).1 _ _ hP1, (TupK.of z.1).1 _ _ hT⟩) (fun i u H' H'' hi z y => ?_) (fun H2 z => ?_)
          · obtain ⟨T, x1, x2, rfl, nT, rfl, e1, e2⟩ := y
            have hrow := List.getElem?_eq_getElem hi
            obtain ⟨y2, hy2, rfl⟩ := of_at_map e2
            rw [nums_at hrow] at hy2
            cases hy2
            obtain ⟨d1, hd1, hx1⟩ := hs.at e1
            have sT : Same H' (upd H' T (.tup [x1, .int (((rows[i].count 0 : Nat) : Int) + 1)])) := Same.new nT
            have hx2 := hx1.same (s1.trans (z.1.trans sT))
            refine ⟨T, _, rfl, .inl (.inl upd_same), rfl, _, _, rfl, _, _, rfl, rfl, rfl, yesT ⟨_, rfl, _, rfl, x1, 0, _, rfl, hx2.kn, ?_⟩⟩
            refine ⟨_, sT _ _ z.2, ?_, Same.put nD (z.1.trans sT), ?_⟩
            · rw [List.length_map, List.length_take]
              exact small1000 (by omega)
            · rw [upd_same, List.take_add_one, bits_at hd1 hrow, hx2.num, List.map_append]
              rfl
          · obtain ⟨s2, hD⟩ := z
            rw [← bits_len hln, List.take_length] at hD
            refine ⟨D, _, rfl, SqL.of hD, ?_⟩
            have e : lineB rows (.tuple ds) = (bits ds rows).all id := by
              show (decide (ds.length = rows.length) && (bits ds rows).all id) = _
              rw [decide_eq_true hln, Bool.true_and]
            rw [e] at q
            exact q H2 (s1.trans s2)
      | _ => cases hd
theorem ok_iscut {f : Addr} {fd : FuncData} (F : Fun K "_law_is_cut" "_law_is_cut" sIsCut f fd)
    (ml : mg "len" = none) (mtu : mg "tuple" = none) (mis : mg "isinstance" = none) (mint : mg "int" = none) (mbo : mg "bool" = none) (mzi : mg "zip" = none) : FnOk P w K mg base CX0 1 f fd ["_law_rows_here", "_law_value"] (spIsLine K) := by
  refine F.ok scIsCut (fun vs H Q E h => ?_) (fun cdv A outer s H vs Q E hr h => ?_)
  · obtain ⟨a, v, refs, rows, N, d, rfl, _⟩ := h
    rfl
  · obtain ⟨a, v, refs, rows, N, d, rfl, hA, hR, hl, hv, q⟩ := h
    have nd := scIsCut.nd
    refine ⟨_, pss_cons (ps_if (PW.pt (pw_or (pt_not (pt_val (pe_callB call_isi (by rfl) mis (by decide +kernel) (pa_cons (pv 1) (pa_cons (pe_bltn (v := .ty "tuple") (by rfl) mtu (by decide +kernel) rfl) pa_nil)))))
          (pw_or1 (pt_cmpR op_ne (pe_callB call_len_seq (by rfl) ml PySem.boot_len (pa_cons (pv 1) pa_nil)) (pe_callB call_len_seq (by rfl) ml PySem.boot_len (pa_cons (pv 0) pa_nil)) (nomark _))))) (pss_one (ps_ret pe_bl)) pss_nil)
      (pss_cons (ps_for PassesOwn.never rfl (RZ.pi_zipA (by rfl) mzi (pa_cons (pv 0) (pa_cons (pv 1) pa_nil))) (pg_tup rfl (pgs_cons (pg_name (i := 2) nd rfl (.inl rfl)) (pgs_cons (pg_name (i := 3) nd rfl (.inl rfl)) pgs_nil)))
        (pss_one (ps_if (PW.pt (pw_or (pt_not (pt_val (pe_callB call_isi (by rfl) mis (by decide +kernel) (pa_cons (pv 3) (pa_cons (pe_bltn (v := .ty "int") (by rfl) mint (by decide +kernel) rfl) pa_nil)))))
            (pw_or (pt_val (pe_callB call_isi (by rfl) mis (by decide +kernel) (pa_cons (pv 3) (pa_cons (pe_bltn (v := .ty "bool") (by rfl) mbo (by decide +kernel) rfl) pa_nil))))
            (pw_or1 (pt_not (pt_chain op_le op_le pe_int (pv 3) (pe_op op_add (pe_tm (r := rTcount K) PySem.F.slot_tuple_count PySem.F.type_tuple_count (mt_tcount hr.units) (pv 2) (pa_cons pe_int pa_nil)) pe_int))))))) (pss_one (ps_ret pe_bl)) pss_nil)))
      (pss_one (ps_ret pe_bl))), ?_⟩
    obtain ⟨t1, ty1, k1⟩ := hv.isTup
    refine ifS ⟨v, rfl, v, .ty "tuple", t1, _, tupOf d, rfl, .ty "tuple", ty1, k1, tupOf d, rfl, ?_⟩
    cases hd : tupOf d with
    | false =>
      refine iteT (iteT ?_)
      rw [lineB_not hd] at q
      exact q H (Same.refl H)
    | true =>
      refine iteF ?_
      cases d with
      | tuple ds =>
        obtain ⟨p, xs, rfl, hP, hs⟩ := hv.tupInv
        have hxl := hs.len
        have hal : (refs.map V.ref).length = rows.length := by rw [List.length_map, hR.1]
        refine ⟨.ref p, rfl, p, _, rfl, .inr hP, .ref a, rfl, a, _, rfl, .inr hA, rfl, _, rfl, ite2 (fun h1 => ?_) (fun h1 => ?_)⟩
        · have e : lineB rows (.tuple ds) = false := by
            have : ds.length ≠ rows.length := fun z => by
              rw [hxl, hal, z] at h1
              rw [decide_eq_true rfl] at h1
              cases h1
            show (decide (ds.length = rows.length) && (bits ds rows).all id) = false
            rw [decide_eq_false this, Bool.false_and]
          rw [e] at q
          exact q H (Same.refl H)
        · have hln : ds.length = rows.length := by
            rw [hxl, hal] at h1
            by_cases z : ds.length = rows.length
            · exact z
            · exact absurd (by rw [decide_eq_false (fun y => z (by have := V.int.inj y; omega))]; rfl) h1
          have el : lineB rows (.tuple ds) = (bits ds rows).all id := by
            show (decide (ds.length = rows.length) && (bits ds rows).all id) = _
            rw [decide_eq_true hln, Bool.true_and]
          rw [el] at q
          refine ⟨.ref a, rfl, .ref p, rfl, a, p, _, _, rfl, .inr ⟨hA, hP, ?_⟩⟩
          refine RZ.for_zipT (K := K) (a := a) (b := p) (xs := refs.map V.ref) (ys := xs) (by rw [hal, hxl, hln]) (fun i σ H' => ∃ x2 x3 : Option V, σ = [some (.ref a), some (.ref p), x2, x3] ∧ Same H H' ∧ ((bits ds rows).take i).all id = true)
            ⟨_, _, rfl, Same.refl H, by rw [List.take_zero]; rfl⟩ (fun i σ H' ⟨_, _, _, sm, _⟩ => ⟨(TupK.of sm).1 _ _ hA, (TupK.of sm).1 _ _ hP⟩) ?_ ?_
          · rintro i x y T σ H' e1 e2 ⟨x2, x3, rfl, sm, hb⟩ nT
            obtain ⟨r, hr', rfl⟩ := of_at_map e1
            have hi : i < rows.length := by
              rw [← hR.1]
              exact (List.getElem?_eq_some_iff.mp hr').1
            have hrow := List.getElem?_eq_getElem hi
            generalize rows[i] = row at hrow
            obtain ⟨d1, hd1, hy1⟩ := hs.at e2
            have sT := sm.trans (Same.new (o := .tup [V.ref r, y]) nT)
            have hy := hy1.same sT
            have hrT := (hR.2 i r row hr' hrow).same sT
            have hbi := bits_at hd1 hrow
            rw [← hy.num] at hbi
            obtain ⟨t2, ty2, k2⟩ := hy.kn.isInt
            obtain ⟨t3, ty3, k3⟩ := hy.kn.isBool
            have no : numIn y 0 (((row.count 0 : Nat) : Int) + 1) = false → ∀ H', Same H H' → Q (.bl false) H' := fun z H' s => by
              have e : (bits ds rows).all id = false := by
                refine Bool.eq_false_iff.mpr fun w => ?_
                have := List.all_eq_true.mp w _ (List.mem_of_getElem? hbi)
                rw [z] at this
                cases this
              have q1 := q H' s
              rw [e] at q1
              exact q1
            refine ⟨T, _, rfl, .inl (.inl upd_same), rfl, _, _, rfl, _, _, rfl, rfl, ?_⟩
            generalize upd H' T (.tup [V.ref r, y]) = H1 at sT hy hrT ty2 ty3 ⊢
            have nxt : numIn y 0 (((row.count 0 : Nat) : Int) + 1) = true → ((bits ds rows).take (i + 1)).all id = true := fun z => by
              rw [List.take_add_one, hbi, List.all_append, hb, z]
              rfl
            refine ifS ⟨y, rfl, y, .ty "int", t2, _, isI y, rfl, .ty "int", ty2, k2, isI y, rfl, ?_⟩
            cases h2 : isI y with
            | false =>
              refine iteT (iteT ?_)
              exact no (by cases y <;> first | rfl | cases h2) H1 sT
            | true =>
              refine iteF ?_
              refine ⟨y, rfl, y, .ty "bool", t3, _, isB y, rfl, .ty "bool", ty3, k3, isB y, rfl, ?_⟩
              cases h3 : isB y with
              | true =>
                refine iteT (iteT ?_)
                exact no (by cases y <;> first | rfl | cases h3) H1 sT
              | false =>
                refine iteF ?_
                obtain ⟨n, rfl⟩ : ∃ n, y = .int n := by
                  cases y with
                  | int n => exact ⟨n, rfl⟩
                  | bl b => cases h3
                  | _ => cases h2
                have en : numIn (.int n) 0 (((row.count 0 : Nat) : Int) + 1) = (decide (0 ≤ n) && decide (n ≤ ((row.count 0 : Nat) : Int) + 1)) := rfl
                refine ⟨_, rfl, 0, n, rfl, rfl, decide (0 ≤ n), rfl, ite2 (fun h4 => ?_) (fun h4 => ?_)⟩
                · refine ⟨.ref r, rfl, ⟨r, _, rfl, hrT⟩, r, row, 0, rfl, rfl, hrT.sqT, _, _, rfl, rfl, n, _, rfl, rfl, _, rfl, ?_⟩
                  by_cases h5 : n ≤ ((row.count 0 : Nat) : Int) + 1
                  · rw [decide_eq_true h5]
                    refine iteF ?_
                    exact ⟨_, _, rfl, sT, nxt (by rw [en, h4, decide_eq_true h5]; rfl)⟩
                  · rw [decide_eq_false h5]
                    refine iteT ?_
                    exact no (by rw [en, decide_eq_false h5, Bool.and_false]) H1 sT
                · refine ⟨_, rfl, iteT ?_⟩
                  exact no (by rw [en, Bool.eq_false_iff.mpr h4, Bool.false_and]) H1 sT
          · rintro σ H' ⟨x2, x3, rfl, sm, hb⟩
            rw [hal, ← bits_len hln, List.take_length] at hb
            rw [hb] at q
            exact q H' sm
      | _ => cases hd
end

end Sv

namespace Sv
open PySem PySem.Spec PyProof.Rows L2
abbrev sLaw : Stmt := topS 17
abbrev nLaw : List Str := ["_law_script", "_law_deck_here", "_law_turn", "_law_rows_here", "_law_cut_here", "_law_present", "_law_values", "_law_k", "_law_value", "_law_before", "_law_row", "_law_number"]
theorem scLaw : FnScope nLaw ["_law_script"] (defScope sLaw) := ⟨rfl, rfl, rfl, by decide +kernel, rfl, by decide +kernel, by decide +kernel⟩
def spLaw (K : PySem.W.Frag) : Sp := fun vs H Q _ => ∃ (a : Addr) (ns : List Int), vs = [.ref a] ∧ SqL K H a (ns.map V.int) ∧ ns.length ≤ 63 ∧ ∀ H', Q (.bl true) H'
def natI (cs : List Nat) : List Int := cs.map fun (c : Nat) => (c : Int)
theorem natV_eq (cs : List Nat) : natV cs = (natI cs).map V.int := by
  unfold natV natI
  rw [List.map_map]
  rfl
def prs (rows : List (List Int)) : List Nat := rows.map fun r => r.count 0 + 1
theorem rep_zerosT {K : PySem.W.Frag} {H : Hp} {l : Addr} {c : Nat} {Q : VK} (h : TupT H l [.int 0]) (h1 : 1 ≤ c) (h6 : c ≤ 6) (q : ∀ (H' : Hp) (p : Addr), Same H H' → TupT H' p ((List.replicate c (0 : Int)).map V.int) → Q (.ref p) H') : rRepA K (.ref l) (.int c) H Q := by
  by_cases e : c = 1
  · subst e
    exact .inr ⟨l, _, rfl, rfl, h.sqT, q H l (Same.refl H) h⟩
  · refine .inl ⟨l, c, _, rfl, rfl, h.sqT, by simp, by omega, by omega, by simp, fun p np => q _ p (Same.new np) ?_⟩
    have : (List.replicate ((c : Int)).toNat [V.int 0]).flatten = (List.replicate c (0 : Int)).map V.int := by
      rw [Int.toNat_natCast, List.map_replicate]
      clear h q h1 h6 e
      induction c with
      | zero => rfl
      | succ n ih => rw [List.replicate_succ, List.flatten_cons, List.replicate_succ, ih]; rfl
    rw [this]
    exact .inl upd_same
theorem Rows.dxs {N : Addr → Prop} {K : PySem.W.Frag} {H : Hp} : ∀ {refs : List Addr} {rows : List (List Int)}, Rows K H refs rows → DXs N K H (refs.map V.ref) (rows.map fun r => .tuple (iD r))
  | [], [], _ => .nil
  | [], _ :: _, h => absurd h.1 (by simp)
  | _ :: _, [], h => absurd h.1 (by simp)
  | a :: r, p :: o, h => by
    obtain ⟨ob, h1, _⟩ := h.2 0 a p rfl rfl
    exact .cons (.tup (.inr ⟨ob, h1⟩) (DXs.ints p)) (Rows.dxs ⟨by simpa using h.1, fun i b q h1 h2 => h.2 (i + 1) b q h1 h2⟩)
theorem CutOk.small {rows : List (List Int)} {cs : List Nat} (h : CutOk rows cs) (h60 : ∀ r ∈ rows, r.length ≤ 60) : ∀ x ∈ natI cs, 0 ≤ x ∧ x ≤ 100 := fun n hn => by
  obtain ⟨c, hc, rfl⟩ := List.mem_map.mp hn
  obtain ⟨i, hi⟩ := List.getElem?_of_mem hc
  have hir : i < rows.length := by
    rw [← h.1]
    exact (List.getElem?_eq_some_iff.mp hi).1
  have hrow := List.getElem?_eq_getElem hir
  have h1 := h.2 i c _ hi hrow
  have h2 := h60 _ (List.mem_of_getElem? hrow)
  have h3 := List.count_le_length (a := (0 : Int)) (l := rows[i])
  omega
theorem prs_ok (rows : List (List Int)) : CutOk rows (prs rows) := ⟨List.length_map .., fun i c row h1 h2 => by
    unfold prs at h1
    rw [List.getElem?_map, h2] at h1
    rw [← Option.some.inj h1]
    exact Nat.le_refl _⟩
section
variable {P : Program} {w : World} {K : PySem.W.Frag} {mg : Str → Option Value} {base : Heap}
theorem intTup {N : Addr → Prop} {H : Hp} {a : Addr} {ns : List Int} (h : TupT H a (ns.map V.int)) (hx : ∀ x ∈ ns, 0 ≤ x ∧ x ≤ 200) (hl : ns.length ≤ 6) : Vm N K H (.ref a) :=
  mkTup h (DXs.ints ns) (finex_ints hx) (by rw [show (iD ns).length = ns.length from List.length_map ..]; omega)
theorem ok_law {f fS fR fD fM fP fC fO fCh fIl fN fNu fI fIc : Addr} {fd fdS fdR fdD fdM fdP fdC fdO fdCh fdIl fdN fdNu fdI fdIc : FuncData}
    (F : Fun K "law" "law" sLaw f fd) (FS : Fun K "_law_deck" "_law_deck" sState fS fdS) (bS : Binds K fdS ["_law_script"] []) (gS : mg "_law_deck" = some (.ref fS))
    (FR : Fun K "_law_rows" "_law_rows" sRows fR fdR) (bR : Binds K fdR ["_law_deck_here", "_law_count", "_law_many"] []) (gR : mg "_law_rows" = some (.ref fR))
    (FD : Fun K "_law_next" "_law_next" sDraw fD fdD) (bD : Binds K fdD ["_law_deck_here", "_law_many"] []) (gD : mg "_law_next" = some (.ref fD))
    (FM : Fun K "_law_order" "_law_order" sMixed fM fdM) (bM : Binds K fdM ["_law_deck_here", "_law_items"] []) (gM : mg "_law_order" = some (.ref fM))
    (FP : Fun K "_law_pick" "_law_pick" sPick fP fdP) (bP : Binds K fdP ["_law_deck_here", "_law_items"] []) (gP : mg "_law_pick" = some (.ref fP))
    (FC : Fun K "_law_cut" "_law_cut" sCut fC fdC) (bC : Binds K fdC ["_law_deck_here", "_law_rows_here"] []) (gC : mg "_law_cut" = some (.ref fC))
    (FO : Fun K "_law_odd" "_law_odd" sOdd fO fdO) (bO : Binds K fdO ["_law_deck_here"] []) (gO : mg "_law_odd" = some (.ref fO))
    (FCh : Fun K "_law_changed" "_law_changed" sChanged fCh fdCh) (bCh : Binds K fdCh ["_law_deck_here", "_law_value"] []) (gCh : mg "_law_changed" = some (.ref fCh))
    (FIl : Fun K "is_line" "is_line" sIsLine fIl fdIl) (bIl : Binds K fdIl ["history", "value"] []) (gIl : mg "is_line" = some (.ref fIl))
    (FN : Fun K "state_numbers" "state_numbers" sNums fN fdN) (bN : Binds K fdN ["history"] []) (gN : mg "state_numbers" = some (.ref fN))
    (FNu : Fun K "is_number_within" "is_number_within" sNum fNu fdNu) (bNu : Binds K fdNu ["value", "low", "high"] []) (gNu : mg "is_number_within" = some (.ref fNu)) (FI : Fun K "is_number" "is_number" sIsnum fI fdI) (bI : Binds K fdI ["value"] []) (gI : mg "is_number" = some (.ref fI))
    (FIc : Fun K "_law_is_cut" "_law_is_cut" sIsCut fIc fdIc) (bIc : Binds K fdIc ["_law_rows_here", "_law_value"] []) (gIc : mg "_law_is_cut" = some (.ref fIc))
    (ml : mg "len" = none) (mli : mg "list" = none) (mtu : mg "tuple" = none) (mra : mg "range" = none) (mab : mg "abs" = none) (mre : mg "repr" = none) (mzi : mg "zip" = none) (mmi : mg "min" = none) (mis : mg "isinstance" = none) (mint : mg "int" = none) (mbo : mg "bool" = none) (mal : mg "all" = none) (mst : mg "str" = none) :
    FnG P w K mg base 4 f fd ["_law_script"] (spLaw K) := by
  have GS : FnOk P w K mg base CX0 1 fS fdS ["_law_script"] (spState K) := ok_state FS ml mab
  have GR : FnOk P w K mg base CX0 3 fR fdR ["_law_deck_here", "_law_count", "_law_many"] (spRows K) := ok_rows FR FD bD gD FM bM gM FP bP gP ml mli mtu mra
  have GD : FnOk P w K mg base CX0 1 fD fdD ["_law_deck_here", "_law_many"] spDraw := ok_draw FD ml
  have GC : FnOk P w K mg base CX0 2 fC fdC ["_law_deck_here", "_law_rows_here"] (spCut K) := ok_cut FC FD bD gD ml mmi mtu
  have GO : FnOk P w K mg base CX0 2 fO fdO ["_law_deck_here"] (spOdd K) := ok_odd FO FD bD gD ml
  have GCh : FnOk P w K mg base CX0 3 fCh fdCh ["_law_deck_here", "_law_value"] (spChanged K) := ok_changed FCh FD bD gD FO bO gO ml mli mst
  have GIl : FnOk P w K mg base CX0 3 fIl fdIl ["history", "value"] (spIsLine K) := ok_isline FIl FN bN gN FNu bNu gNu FI bI gI ml mtu mis mint mbo mzi mal
  have GIc : FnOk P w K mg base CX0 1 fIc fdIc ["_law_rows_here", "_law_value"] (spIsLine K) := ok_iscut FIc ml mtu mis mint mbo mzi
  refine okG F scLaw (fun vs H Q E h => ?_) (fun cdv A outer s H vs Q E hg hr h => ?_)
  · obtain ⟨a, ns, rfl, _⟩ := h
    rfl
  · obtain ⟨a, ns, rfl, hS, hlen, q⟩ := h
    have nd := scLaw.nd
    have hr1 : Room 1 _ := hr.mono (by decide)
    have hr2 : Room 2 _ := hr.mono (by decide)
    refine ⟨_, pss_cons (ps_set (i := 1) nd rfl (.inl rfl) (pe_call GS hr1 (by rfl) gS FS.kp bS .nil pass0 (pa_cons (pv 0) pa_nil)))
      (pss_cons (ps_for PassesOwn.never rfl (pi_range1 (by rfl) mra (pa_cons pe_int pa_nil)) (pg_name (i := 2) nd rfl (.inl rfl))
        (pss_cons (ps_set (i := 3) nd rfl (.inl rfl) (pe_call GR hr (by rfl) gR FR.kp bR .nil pass0 (pa_cons (pv 1) (pa_cons (pe_op op_add pe_int (pe_call GD hr1 (by rfl) gD FD.kp bD .nil pass0 (pa_cons (pv 1) (pa_cons pe_int pa_nil)))) (pa_cons pe_int pa_nil)))))
        (pss_cons (ps_set (i := 4) nd rfl (.inl rfl) (pe_call GC hr2 (by rfl) gC FC.kp bC .nil pass0 (pa_cons (pv 1) (pa_cons (pv 3) pa_nil))))
        (pss_cons (ps_set (i := 5) nd rfl (.inl rfl) (pe_callTy call_tuple_of (by rfl) mtu (by decide +kernel) (pa_cons (pe_lc (own := [("_law_row", 10)]) (g := gName 10) (by rfl) nd (pi_tup (pv 3)) (blkOk_by (own := [("_law_row", 10)]) (N := nLaw) (sc := defScope sLaw) (by decide +kernel))
              (fun _ _ _ _ _ => pg_name (i := 10) nd rfl (Or.inl rfl)) (fun _ _ _ _ _ => pts_nil)
              (fun _ _ _ _ _ => pe_op op_add (pe_tm (r := rTcount K) PySem.F.slot_tuple_count PySem.F.type_tuple_count (mt_tcount hr.units) (pv 10) (pa_cons pe_int pa_nil)) pe_int)) pa_nil)))
        (pss_cons (ps_set (i := 6) nd rfl (.inl rfl) (pe_lst (pa_cons (pv 4) (pa_cons (pv 5) (pa_cons (pe_op op_repA (pe_tup (pa_cons pe_int pa_nil)) (pe_callB call_len_seq (by rfl) ml PySem.boot_len (pa_cons (pv 3) pa_nil)))
            (pa_cons (pe_call GO hr2 (by rfl) gO FO.kp bO .nil pass0 (pa_cons (pv 1) pa_nil))
            (pa_cons (pe_callTy call_tuple_of (by rfl) mtu (by decide +kernel) (pa_cons (pe_lc (own := [("_law_number", 11)]) (g := gName 11) (by rfl) nd (pi_tup (pv 5)) (blkOk_by (own := [("_law_number", 11)]) (N := nLaw) (sc := defScope sLaw) (by decide +kernel))
              (fun _ _ _ _ _ => pg_name (i := 11) nd rfl (Or.inl rfl)) (fun _ _ _ _ _ => pts_nil) (fun _ _ _ _ _ => pe_op op_add (pv 11) pe_int)) pa_nil)) pa_nil)))))))
        (pss_cons (ps_for PassesOwn.never rfl (pi_range1 (by rfl) mra (pa_cons pe_int pa_nil)) (pg_name (i := 7) nd rfl (.inl rfl))
          (pss_one (ps_expr (pe_bm PySem.F.plainAttrs_list PySem.F.slot_list_append PySem.F.type_list_append mt_append (pv 6) (pa_cons (pe_call GCh hr (by rfl) gCh FCh.kp bCh .nil pass0
            (pa_cons (pv 1) (pa_cons (pe_ix ix_list (pe_lst (pa_cons (pv 4) (pa_cons (pv 5) pa_nil))) (pe_op op_mod (pv 7) pe_int) (fun _ _ => rfl)) pa_nil))) pa_nil)))))
        (pss_one (ps_for PassesOwn.never rfl (pi_list (pv 6)) (pg_name (i := 8) nd rfl (.inl rfl))
          (pss_cons (ps_set (i := 9) nd rfl (.inl rfl) (pe_callB (call_reprX hg hr.units) (by rfl) mre (by decide +kernel) (pa_cons (pe_lstS (pa_cons (pv 3) (pa_cons (pv 8) pa_nil))) pa_nil)))
          (pss_one (ps_if (PW.pt (pw_or (pt_cmpR op_ne (pe_callB call_repr_bl (by rfl) mre (by decide +kernel) (pa_cons (pe_call GIl hr (by rfl) gIl FIl.kp bIl .nil pass0 (pa_cons (pv 3) (pa_cons (pv 8) pa_nil))) pa_nil))
                (pe_callB call_repr_bl (by rfl) mre (by decide +kernel) (pa_cons (pe_call GIc hr1 (by rfl) gIc FIc.kp bIc .nil pass0 (pa_cons (pv 3) (pa_cons (pv 8) pa_nil))) pa_nil)) (nomark _))
              (pw_or1 (pt_cmpR op_ne (pe_callB (call_reprX hg hr.units) (by rfl) mre (by decide +kernel) (pa_cons (pe_lstS (pa_cons (pv 3) (pa_cons (pv 8) pa_nil))) pa_nil)) (pv 9) (nomark _))))) (pss_one (ps_ret pe_bl)) pss_nil)))))))))))
      (pss_one (ps_ret pe_bl))), ?_⟩
    refine ⟨.ref a, rfl, a, ns, rfl, hS, hlen, fun H1 st big cel hS1 sm1 _ _ _ => ?_⟩
    refine ⟨6, rfl, by decide, by decide, ?_⟩
    refine for_range (lo := 0) (n := 6) (fun i σ H' => ∃ (x2 x3 x4 x5 x6 x7 x8 x9 x10 x11 : Option V), σ = [some (.ref a), some (.ref st), x2, x3, x4, x5, x6, x7, x8, x9, x10, x11] ∧ StAt H' st big cel (1000 * i))
      ⟨_, _, _, _, _, _, _, _, _, _, rfl, hS1⟩ ?_ (fun σ H' _ => q H')
    rintro i σ H2 hi ⟨x2, x3, x4, x5, x6, x7, x8, x9, x10, x11, rfl, hS2⟩
    refine ⟨.ref st, rfl, .ref st, rfl, st, big, cel, _, 6, rfl, by decide, by decide, hS2, by omega, fun H3 v v0 v1 hS3 k3 => ?_⟩
    obtain ⟨c, hc⟩ : ∃ c : Nat, (1 : Int) + v = (c : Int) := ⟨(1 + v).toNat, by omega⟩
    refine ⟨_, _, rfl, rfl, st, big, cel, _, c, 40, by show [V.ref st, V.int (1 + v), V.int 40] = _; rw [hc]; rfl, by omega, by omega, by decide, hS3, by omega, fun H4 t refs rows nt ht hR hG hlr hS4 k4 => ?_⟩
    have h60 : ∀ r ∈ rows, r.length ≤ 60 := fun r hr => by
      obtain ⟨j, hj⟩ := List.getElem?_of_mem hr
      have := (hG.row hj).1
      omega
    have htT : TupT H4 t (refs.map V.ref) := .inl ht
    have hl6 : rows.length ≤ 6 := by omega
    have hl1 : 1 ≤ rows.length := by omega
    -- cut
    refine ⟨.ref st, rfl, .ref t, rfl, st, big, cel, t, _, refs, rows, rfl, htT.sqT, hR, hl6, h60, hS4, by omega, fun H5 p cs np hp hC hS5 k5 => ?_⟩
    have hT5 := htT.st hS4 k5
    have hR5 := hR.keep (hS4.tupK (K := K) k5)
    have hP5 : TupT H5 p ((natI cs).map V.int) := natV_eq cs ▸ .inl hp
    have hcs := hC.small h60
    have hcl : (natI cs).length = rows.length := by rw [natI, List.length_map, hC.1]
    -- present
    refine ⟨.ref t, rfl, t, rfl, ⟨_, hT5.sqT⟩, fun D nD => ?_⟩
    refine lc_tup (K := K) (a := t) (xs := refs.map V.ref) (fun j H' => Same H5 H' ∧ H' D = some (.lst (((natI (prs rows)).take j).map V.int))) ⟨Same.new nD, upd_same⟩ (fun j H' _ z => (hT5.same z.1).sqT) (fun j x H' hx z => ?_) (fun H6 z => ?_)
    · obtain ⟨r, hr', rfl⟩ := of_at_map hx
      have hj : j < rows.length := by
        rw [← hR.1]
        exact (List.getElem?_eq_some_iff.mp hr').1
      have hrow := List.getElem?_eq_getElem hj
      have ht := (hR5.2 j r _ hr' hrow).same z.1
      refine ⟨rfl, yesT ⟨.ref r, rfl, ⟨r, _, rfl, ht⟩, r, rows[j], 0, rfl, rfl, ht.sqT, _, _, rfl, rfl, _, z.2, ?_, Same.put nD z.1, ?_⟩⟩
      · rw [List.length_map, List.length_take]
        exact small1000 (by omega)
      · have : (natI (prs rows))[j]? = some (((rows[j].count 0 : Nat) : Int) + 1) := by
          unfold natI prs
          rw [List.getElem?_map, List.getElem?_map, hrow]
          rfl
        rw [upd_same, List.take_add_one, this, List.map_append]
        rfl
    obtain ⟨s6, hD6⟩ := z
    have pl : (natI (prs rows)).length = rows.length := by unfold natI prs; rw [List.length_map, List.length_map]
    rw [List.length_map, hR.1, ← pl, List.take_length] at hD6
    refine ⟨D, _, rfl, .inl ⟨SqL.of hD6, fun p2 np2 => ?_⟩⟩
    have s7 : Same H6 (upd H6 p2 (.tup ((natI (prs rows)).map V.int))) := Same.new np2
    have hP2 : TupT (upd H6 p2 (.tup ((natI (prs rows)).map V.int))) p2 ((natI (prs rows)).map V.int) := .inl upd_same
    generalize upd H6 p2 (.tup ((natI (prs rows)).map V.int)) = H7 at s7 hP2 ⊢
    have s57 := s6.trans s7
    have hpr := (prs_ok rows).small h60
    -- zeros
    refine ⟨_, rfl, _, rfl, sz (by show 1 ≤ 1000; decide), fun z nz => ?_⟩
    have s8 : Same H7 (upd H7 z (.tup [.int 0])) := Same.new nz
    have hz : TupT (upd H7 z (.tup [.int 0])) z [.int 0] := .inl upd_same
    generalize upd H7 z (.tup [.int 0]) = H8 at s8 hz ⊢
    have s58 := s57.trans s8
    refine ⟨.ref t, rfl, t, _, rfl, .inr (hT5.same s58).sqT, ?_⟩
    rw [List.length_map, hR.1]
    refine rep_zerosT hz hl1 hl6 fun H9 p3 s9 hP3 => ?_
    have s59 := s58.trans s9
    have hS9 := hS5.same s59
    -- odd
    refine ⟨.ref st, rfl, st, big, cel, _, rfl, hS9, by omega, fun H10 vo hvo hS10 k10 => ?_⟩
    have k510 : Kp st big H5 H10 := (Kp.of s59).trans k10
    have hP2' := (hP2.same (s8.trans s9)).st hS9 k10
    have hT10 := hT5.st hS5 k510
    have hR10 := hR5.keep (hS5.tupK (K := K) k510)
    have hP10 := hP5.st hS5 k510
    have hP3' := hP3.st hS9 k10
    -- one more
    refine ⟨.ref p2, rfl, p2, rfl, ⟨_, hP2'.sqT⟩, fun D2 nD2 => ?_⟩
    refine lc_tup (K := K) (a := p2) (xs := (natI (prs rows)).map V.int) (fun j H' => Same H10 H' ∧ H' D2 = some (.lst ((((natI (prs rows)).map fun x => x + 1).take j).map V.int))) ⟨Same.new nD2, upd_same⟩ (fun j H' _ z => (hP2'.same z.1).sqT) (fun j x H' hx z => ?_) (fun H11 z => ?_)
    · obtain ⟨y, hy, rfl⟩ := of_at_map hx
      have hj : j < rows.length := by
        rw [← pl]
        exact (List.getElem?_eq_some_iff.mp hy).1
      refine ⟨rfl, yesT ⟨_, rfl, _, _, rfl, rfl, _, z.2, ?_, Same.put nD2 z.1, ?_⟩⟩
      · rw [List.length_map, List.length_take]
        exact small1000 (by omega)
      · rw [upd_same, List.take_add_one, List.getElem?_map, hy, List.map_append]
        rfl
    obtain ⟨s11, hD11⟩ := z
    have ml' : (((natI (prs rows)).map fun x => x + 1)).length = rows.length := by rw [List.length_map, pl]
    rw [List.length_map, pl, ← ml', List.take_length] at hD11
    refine ⟨D2, _, rfl, .inl ⟨SqL.of hD11, fun p4 np4 => ?_⟩⟩
    have s12 : Same H11 (upd H11 p4 (.tup (((natI (prs rows)).map fun x => x + 1).map V.int))) := Same.new np4
    have hP4 : TupT (upd H11 p4 (.tup (((natI (prs rows)).map fun x => x + 1).map V.int))) p4 (((natI (prs rows)).map fun x => x + 1).map V.int) := .inl upd_same
    generalize upd H11 p4 (.tup (((natI (prs rows)).map fun x => x + 1).map V.int)) = H12 at s12 hP4 ⊢
    have s1012 := s11.trans s12
    refine ⟨sz (by show 5 ≤ 1000; decide), fun L nL => ?_⟩
    have s13 : Same H12 (upd H12 L (.lst [.ref p, .ref p2, .ref p3, vo, .ref p4])) := Same.new nL
    have eL : (upd H12 L (.lst [.ref p, .ref p2, .ref p3, vo, .ref p4])) L = some (.lst [.ref p, .ref p2, .ref p3, vo, .ref p4]) := upd_same
    have nLs := (hS10.same s1012).ne nL
    have nL10 : H10 L = none := s1012.free nL
    generalize upd H12 L (.lst [.ref p, .ref p2, .ref p3, vo, .ref p4]) = H13 at s13 eL ⊢
    have s1013 := s1012.trans s13
    have hS13 := hS10.same s1013
    have hS12 := hS10.same s1012
    have hT12 := hT10.same s1012
    have hR12 := hR10.keep (K := K) (.of s1012)
    have hP12 := hP10.same s1012
    have hP212 := hP2'.same s1012
    have hP13 := hP10.same s1013
    have hP213 := hP2'.same s1013
    have wide : ∀ {ns : List Int}, (∀ x ∈ ns, 0 ≤ x ∧ x ≤ 100) → ∀ x ∈ ns, 0 ≤ x ∧ x ≤ 200 := fun h x hx => by have := h x hx; omega
    obtain ⟨N, hN⟩ : ∃ N : Addr → Prop, N = fun b => b ≠ sysModules ∧ b ≠ L ∧ b ≠ st ∧ b ≠ big := ⟨_, rfl⟩
    have nN : ¬ N st ∧ ¬ N big := by rw [hN]; exact ⟨fun z => z.2.2.1 rfl, fun z => z.2.2.2 rfl⟩
    have all : ∀ u ∈ [V.ref p, V.ref p2, V.ref p3, vo, V.ref p4], Vm N K H13 u := fun u hu => by
      simp only [List.mem_cons, List.not_mem_nil, or_false] at hu
      rcases hu with rfl | rfl | rfl | rfl | rfl
      · exact intTup hP13 (wide hcs) (by omega)
      · exact intTup hP213 (wide hpr) (by omega)
      · exact intTup (hP3'.same s1013) (fun x hx => by rw [(List.mem_replicate.mp hx).2]; omega) (by rw [List.length_replicate]; exact hl6)
      · refine (hvo.m.weak fun b xs hb z => ?_).same s1013
        have ne9 := hS9.ne z.2
        rw [hN]
        refine ⟨z.1, fun w => ?_, ne9.1.symm, ne9.2.1.symm⟩
        rw [w, nL10] at hb
        cases hb
      · exact intTup (hP4.same s13) (fun x hx => by
          obtain ⟨y, hy, rfl⟩ := List.mem_map.mp hx
          have := hpr y hy
          omega) (by omega)
    -- ten changed ones
    refine ⟨10, rfl, by decide, by decide, ?_⟩
    refine for_range (lo := 0) (n := 10) (fun j σ H' => ∃ (us : List V) (y7 y8 y9 y10 y11 : Option V), σ = [some (.ref a), some (.ref st), some (.int (0 + (i : Int))), some (.ref t), some (.ref p), some (.ref p2), some (.ref L), y7, y8, y9, y10, y11] ∧ H' L = some (.lst us) ∧ us.length = 5 + j ∧ (∀ u ∈ us, Vm N K H' u) ∧
        StAt H' st big cel (1000 * i + 330 + 4 * j) ∧ Kp st big H12 H')
      ⟨_, _, _, _, _, _, rfl, eL, rfl, all, hS13.le (by omega) (by omega), .of s13⟩ ?_ ?_
    · rintro j σ H14 hj ⟨us, y7, y8, y9, y10, y11, rfl, hL, hul, hus, hS14, k14⟩
      have nL13 : H14 L ≠ none := by rw [hL]; exact Option.some_ne_none _
      refine ⟨.ref L, rfl, .inl ⟨rfl, _, SqL.of hL⟩, .ref st, rfl, .ref p, rfl, .ref p2, rfl, sz (by show 2 ≤ 1000; decide), fun e ne => ?_⟩
      have s15 : Same H14 (upd H14 e (.lst [.ref p, .ref p2])) := Same.new ne
      have ee : (upd H14 e (.lst [.ref p, .ref p2])) e = some (.lst [.ref p, .ref p2]) := upd_same
      generalize upd H14 e (.lst [.ref p, .ref p2]) = H15 at s15 ee ⊢
      obtain ⟨pw, nsw, hat, hPw, hw1, hw2⟩ : ∃ (pw : Addr) (nsw : List Int), atI [V.ref p, V.ref p2] ((0 + (j : Int)) % 2) = some (.ref pw) ∧ TupT H12 pw (nsw.map V.int) ∧ (∀ x ∈ nsw, 0 ≤ x ∧ x ≤ 100) ∧ nsw.length = rows.length := by
        have : (0 + (j : Int)) % 2 = 0 ∨ (0 + (j : Int)) % 2 = 1 := by omega
        rcases this with z | z <;> rw [z]
        · exact ⟨p, _, rfl, hP12, hcs, hcl⟩
        · exact ⟨p2, _, rfl, hP212, hpr, pl⟩
      refine ⟨_, rfl, _, _, rfl, rfl, (show (0 : Int) < 2 by decide), e, _, _, .ref pw, rfl, rfl, SqL.of ee, hat, ?_⟩
      refine ⟨st, big, cel, pw, _, nsw, rfl, (hPw.st hS12 k14).same s15, by omega, by omega, hw1, hS14.same s15, by omega, fun H16 u hu hS16 k16 => ?_⟩
      have k1416 : Kp st big H14 H16 := (Kp.of s15).trans k16
      have hL16 := k1416 _ _ nLs.1.symm nLs.2.1.symm hL
      refine ⟨L, us, u, rfl, rfl, hL16, small1000 (by omega), ?_⟩
      have keepL : ∀ {z : V}, Vm N K H16 z → Vm N K (upd H16 L (.lst (us ++ [u]))) z := fun {z} h => by
        obtain ⟨d, h1, h2⟩ := h
        refine ⟨d, h1.keep (fun b xs hb q => ?_) (fun b xs q => ?_) (fun b xs q => ?_), h2⟩
        · rw [hN] at hb
          rw [upd_ne hb.2.1]
          exact q
        · exact q.elim (fun q => .inl (by rw [upd_ne (ne_of q hL16 (by intro z; cases z))]; exact q)) fun ⟨o, q⟩ => .inr ⟨o, by rw [upd_ne (ne_of q hL16 (by intro z; cases z))]; exact q⟩
        · rw [upd_ne (ne_of q hL16 (by intro z; cases z))]
          exact q
      have hu : Vm N K H16 u := hu.weak fun b xs hb z => by
        have ne15 := (hS14.same s15).ne z.2
        rw [hN]
        refine ⟨z.1, fun w => ?_, ne15.1.symm, ne15.2.1.symm⟩
        have := s15 _ _ hL
        rw [← w, z.2] at this
        cases this
      refine ⟨us ++ [u], _, _, _, _, _, rfl, upd_same, by rw [List.length_append, hul]; rfl, fun z hz => ?_, ?_, Kp.put' nL (k14.trans k1416)⟩
      · rcases List.mem_append.mp hz with hz | hz
        · exact keepL ((hus z hz).st hS14 nN k1416)
        · rw [List.mem_singleton.mp hz]
          exact keepL hu
      · obtain ⟨a1, a2, a3, hn, bs, cs', kk, ha, hb, hc, r⟩ := hS16
        exact ⟨a1, a2, a3, by omega, bs, cs', kk, by rw [upd_ne nLs.1]; exact ha, by rw [upd_ne nLs.2.1]; exact hb, by rw [upd_ne nLs.2.2]; exact hc, by
          obtain ⟨r1, r2, r3, r4, r5, r6⟩ := r
          exact ⟨r1, r2, r3, r4, by omega, r6⟩⟩
    · rintro σ H14 ⟨us, y7, y8, y9, y10, y11, rfl, hL, hul, hus, hS14, k14⟩
      have hT14 := hT12.st hS12 k14
      have hR14 := hR12.keep (hS12.tupK (K := K) k14)
      refine ⟨.ref L, rfl, L, rfl, ⟨_, SqL.of hL⟩, ?_⟩
      refine for_list (K := K) (a := L) (xs := us) (fun j σ H' => ∃ (y7 y8 y9 y10 y11 : Option V), σ = [some (.ref a), some (.ref st), some (.int (0 + (i : Int))), some (.ref t), some (.ref p), some (.ref p2), some (.ref L), y7, y8, y9, y10, y11] ∧ Same H14 H')
        ⟨_, _, _, _, _, rfl, Same.refl H14⟩ (fun j σ H' _ ⟨_, _, _, _, _, _, s⟩ => s.seq (SqL.of hL)) ?_ ?_
      · rintro j x σ H15 hx ⟨y7, y8, y9, y10, y11, rfl, s15⟩
        obtain ⟨d, hd, hf, hsm⟩ := hus x (List.mem_of_getElem? hx)
        have hfine : FineX 6 80000 (.list [rD rows, d]) := (finex_list (finex_cons ((hG.fine (by omega) (by decide)).x.mono (m := 5) (U := 40000) (by decide) (by decide)) (finex_cons hf (finex_nil.mono (m := 5) (U := 0) (by decide) (by decide))))).mono (by decide) (by decide)
        have sh : ∀ {H' : Hp} {e : Addr}, Same H14 H' → H' e = some (.lst [.ref t, x]) → e ≠ sysModules → ShownX (fun b => b ≠ sysModules) K H' (.ref e) (.list [rD rows, d]) := fun s h1 h2 =>
          hfine.shown (by decide) (by decide) (fun _ z => z) (.lst h1 h2 (.cons (.tup (hT14.same s) (Rows.dxs (hR14.keep (.of s)))) (.cons ((hd.same s).weak fun b _ _ z => by rw [hN] at z; exact z.1) .nil))) rfl
        refine ⟨.ref t, rfl, _, rfl, sz (by show 2 ≤ 1000; decide), fun e ne be => ?_⟩
        have s16 := s15.trans (Same.new (o := .lst [.ref t, x]) ne)
        refine ⟨_, _, _, rfl, sh s16 upd_same be, ?_⟩
        have s1516 : Same H15 (upd H15 e (.lst [.ref t, x])) := Same.new ne
        generalize upd H15 e (.lst [.ref t, x]) = H16 at s16 s1516 ⊢
        refine ⟨.ref t, rfl, _, rfl, t, x, refs, rows, N, d, rfl, (hT14.same s16).sqT, hR14.keep (.of s16), by omega, hd.same s16, fun H17 s17 => ?_⟩
        have s1417 := s16.trans s17
        refine ⟨_, rfl, .ref t, rfl, _, rfl, t, x, refs, rows, N, d, rfl, (hT14.same s1417).sqT, hR14.keep (.of s1417), by omega, hd.same s1417, fun H18 s18 => ⟨_, rfl, rfl, _, rfl, iteNS rfl ?_⟩⟩
        have s1418 := s1417.trans s18
        refine ⟨.ref t, rfl, _, rfl, sz (by show 2 ≤ 1000; decide), fun e2 ne2 be2 => ?_⟩
        have s19 := Same.new (H := H18) (o := .lst [.ref t, x]) ne2
        refine ⟨_, _, _, rfl, sh (s1418.trans s19) upd_same be2, _, rfl, rfl, _, rfl, iteNS rfl ?_⟩
        exact ⟨_, _, _, _, _, rfl, s1418.trans s19⟩
      · rintro σ H15 ⟨y7, y8, y9, y10, y11, rfl, s15⟩
        exact ⟨_, _, _, _, _, _, _, _, _, _, rfl, (hS14.same s15).le (by omega) (by omega)⟩
end

end Sv

/-! the end of a row whose law calls repr: the head's call is made where no repr runs -/
namespace Sv
open PySem PySem.Spec PyProof.Rows L2
section
variable {P : Program} {w : World} {K : PySem.W.Frag} {mg mb : Str → Option Value} {k : Nat} {fa a : Addr} {fd : FuncData} {x : Str} {sp : Sp}
  {s₁ : Shared} {vs : List Value} {ns : List Int}
/-- from one abstract heap that tracks nothing but the script -/
theorem headG_core (H : Hp) (KX : K.In s₁.heap) (hns : s₁.heap.Ns mainGlobals mg) (hb : s₁.heap.Ns builtinsNs mb)
    (hbb : ∀ y : Str, y ≠ "__name__" → mb y = bootBuiltins y) (hlim : s₁.heap.NoLimit) (hg : s₁.gens = #[])
    (ha : s₁.heap.get? a = some { cls := .type "list", data := .seq vs.toArray }) (hr : Room k callerA)
    (F : ∀ base : Heap, K.In base → base.Ns mainGlobals mg → FnG P w K mg base k fa fd [x] sp)
    (hbind : ∀ (s : Shared) (u : Value), BindsTo s fd ⟨[u], []⟩ [(x, u)])
    (hO : Only H) (hsp : sp [.ref a] H (fun v _ => v = .bl true) fun _ _ _ => False)
    (hok : HOk P w H s₁.heap) (hA : ∀ b, H b ≠ none → b = a) (hK : H a ≠ none → K.lookup a = none) :
    codeAny (model P w) callerA (.call (.ref fa) ⟨[.ref a], []⟩)
      (fun r s' => r = .ok (.ret (.bool true)) ∧ OldK s₁.heap s'.heap ∧ s'.os = s₁.os ∧ AllBare s'.gens) s₁ := by
  have tr : ∀ {b : Addr} {u : HO}, H b = some u → b = a := fun {b u} q => hA b (by rw [q]; exact Option.some_ne_none u)
  have under : ∀ {b : Addr} {o : Obj}, s₁.heap.get? b = some o → H b = none → (hidT s₁.heap H).get? b = some o := fun e n => hidT_get e n
  have dictN : ∀ {b : Addr} {o : Obj} {es : Array DictEntry} {ep : Nat}, s₁.heap.get? b = some o → o.data = .dict es ep → H b = none := by
    intro b o es ep e d
    rcases hH : H b with _ | u
    · rfl
    · have eb := tr hH
      rw [eb, ha] at e
      rw [← Option.some.inj e] at d
      exact absurd d (by intro z; cases z)
  have nsK : ∀ {b : Addr} {m : Str → Option Value}, s₁.heap.Ns b m → (hidT s₁.heap H).Ns b m := by
    rintro b m ⟨o, es, ep, e, d, r⟩
    exact ⟨o, es, ep, under e (dictN e d), d, r⟩
  have hKb : K.In (hidT s₁.heap H) := by
    intro b o e
    refine under (KX b o e) ?_
    rcases hH : H b with _ | u
    · rfl
    · have eb := tr hH
      rw [eb] at e hH
      rw [hK (by rw [hH]; exact Option.some_ne_none u)] at e
      cases e
  have hM : Mod K mg (hidT s₁.heap H) := by
    obtain ⟨mc, l1, l2⟩ := hlim
    exact ⟨hKb, nsK hns, ⟨mb, nsK hb, hbb⟩, ⟨mc, nsK l1, l2⟩⟩
  have e0 : Env0 P w K mg (hidT s₁.heap H) callerA [] s₁ H := by
    refine ⟨rfl, hM, fun b o e => of_hidT e, Nat.le_of_eq (hidT_size _ _), trivial, fun b hb => ?_, hok, .of_eq hg⟩
    exact absurd (show b ∈ ([] : List Addr) from hb) List.not_mem_nil
  have hrun := (F _ hKb (nsK hns)).run callerA rfl [] s₁ H ⟨[.ref a], []⟩ [.ref a] [.ref a] _ _ hr e0 (hbind s₁ (.ref a)) (.cons rfl .nil) hsp
  refine codeAny_mono hrun fun r s' h => ?_
  match r, h with
  | .error e, h => exact absurd h id
  | .ok .next, h => exact absurd h id
  | .ok .brk, h => exact absurd h id
  | .ok .cont, h => exact absurd h id
  | .ok (.ret u), h =>
    obtain ⟨v, H', os, bare, un, hok', r', q⟩ := h
    obtain rfl : v = .bl true := q
    obtain rfl : u = Value.bool true := r'
    refine ⟨rfl, OldK.of_keep fun b o e => ?_, os, bare⟩
    rcases hO b with z | ⟨ob, xs, z⟩
    · exact un.keep b o e z (fun m => absurd (show b ∈ ([] : List Addr) from m) List.not_mem_nil) List.not_mem_nil
    · obtain ⟨e1, _⟩ := hok b _ z
      obtain ⟨e2, _⟩ := hok' b _ (un.frzs b ob _ z)
      rw [← e, e1]
      exact e2
theorem headG (KX : K.In s₁.heap) (hns : s₁.heap.Ns mainGlobals mg) (hb : s₁.heap.Ns builtinsNs mb)
    (hbb : ∀ y : Str, y ≠ "__name__" → mb y = bootBuiltins y) (hlim : s₁.heap.NoLimit) (hg : s₁.gens = #[])
    (ha : s₁.heap.get? a = some { cls := .type "list", data := .seq vs.toArray }) (hi : IntsAre vs ns) (hl : ns.length ≤ sizeLine) (hr : Room k callerA)
    (F : ∀ base : Heap, K.In base → base.Ns mainGlobals mg → FnG P w K mg base k fa fd [x] sp)
    (hbind : ∀ (s : Shared) (u : Value), BindsTo s fd ⟨[u], []⟩ [(x, u)])
    (hsp : ∀ H : Hp, Only H → SqL K H a (ns.map V.int) → sp [.ref a] H (fun v _ => v = .bl true) fun _ _ _ => False) :
    codeAny (model P w) callerA (.call (.ref fa) ⟨[.ref a], []⟩)
      (fun r s' => r = .ok (.ret (.bool true)) ∧ OldK s₁.heap s'.heap ∧ s'.os = s₁.os ∧ AllBare s'.gens) s₁ := by
  have rv := vals_ints hi
  rcases hk : K.lookup a with _ | o
  · have hE : ∀ b, (if b = a then some (HO.frz { cls := .type "list", data := .seq vs.toArray } (.lst (ns.map V.int))) else none) ≠ none → b = a := by
      intro b z
      by_cases hb : b = a
      · exact hb
      · rw [if_neg hb] at z
        exact absurd rfl z
    have hO : Only fun b => if b = a then some (HO.frz { cls := .type "list", data := .seq vs.toArray } (.lst (ns.map V.int))) else none := by
      intro b
      by_cases hb : b = a
      · exact .inr ⟨_, _, if_pos hb⟩
      · exact .inl (if_neg hb)
    refine headG_core _ KX hns hb hbb hlim hg ha hr F hbind hO (hsp _ hO (.inl (.inr ⟨_, if_pos rfl⟩))) (fun b u z => ?_) hE fun _ => hk
    have hba : b = a := hE b (by rw [z]; exact Option.some_ne_none u)
    subst hba
    obtain rfl := Option.some.inj ((if_pos rfl).symm.trans z)
    exact ⟨ha, by rw [List.length_map]; exact hl, vs, _, rv, ha⟩
  · have e := KX a o hk
    obtain rfl := Option.some.inj (ha.symm.trans e)
    have hO : Only fun _ => none := fun _ => .inl rfl
    refine headG_core (fun _ => none) KX hns hb hbb hlim hg ha hr F hbind hO (hsp _ hO (.inr ⟨_, vs.toArray, _, hk, rfl, rfl, rfl, ?_, by simpa using rv⟩))
      (fun b u z => absurd (show (none : Option HO) = some u from z) (by intro q; cases q)) (fun b z => absurd rfl z) fun z => absurd rfl z
    rw [List.size_toArray, hi.length]
    exact hl
end
/-- the goal that the head leaves -/
theorem walkG {l : PySem.W.OpenLaw} {n k : Nat} {q : Program} {loose : List Str} {XP : (Str → Option Value) → Heap → Prop} {YP : World → Heap → Prop}
    {d : DefRec} {K : Params → PySem.W.Frag} {sp : PySem.W.Frag → Sp} {x : Str}
    (hn : l.most = some n) (hn2 : n ≤ sizeLine) (hdf : d.params.defaults = []) (hr : Room k callerA)
    (hY : ∀ (w : World) (h : Heap), YP w h → (K w.params).In h)
    (F : ∀ (w : World) (mg : Str → Option Value) (fa : Addr) (h : Heap), (K w.params).In h → h.Ns mainGlobals mg → mg d.name = some (.ref fa) →
      ∃ fd : FuncData, (∀ (s : Shared) (u : Value), BindsTo s fd ⟨[u], []⟩ [(x, u)]) ∧
        ∀ base : Heap, (K w.params).In base → base.Ns mainGlobals mg → FnG l.prog w (K w.params) mg base k fa fd [x] (sp (K w.params)))
    (hsp : ∀ (K : PySem.W.Frag) (H : Hp) (a : Addr) (ns : List Int), ns.length ≤ n → Only H → SqL K H a (ns.map V.int) → sp K [.ref a] H (fun v _ => v = .bl true) fun _ _ _ => False) :
    PySem.W.WalkO q loose XP YP l.row.toRowW d [] (fun f vs => PySem.call f vs) := by
  refine Att.attach_call hn hdf fun w s₀ s₁ mg mb fa o pm cd doc a vs ns G Y ho hd hcd hmg hobj hints hlen hg => ?_
  obtain ⟨fd, hbd, hF⟩ := F w mg fa _ (hY w _ Y) G.T.g hmg
  exact headG (hY w _ Y) G.T.g G.T.b G.T.builtins G.T.nolimit hg hobj hints (Nat.le_trans hlen hn2) hr hF hbd fun H h1 h2 => hsp _ H a ns hlen h1 h2
end Sv

namespace Sv
open PySem PySem.Spec PyProof.Rows L2
theorem all_mk {l : PySem.W.OpenLaw} {w : World} {K : PySem.W.Frag} {h : Heap} {mg : Str → Option Value} {fa f0 f1 f2 f3 f4 f5 f6 f7 f8 f9 f10 f11 f12 f13 : Addr} (X : K.In h) (G : h.Ns mainGlobals mg) (hfa : mg "law" = some (.ref fa))
    {od0 an0 od1 an1 od2 an2 od3 an3 od4 an4 od5 an5 od6 an6 od7 an7 od8 an8 od9 an9 od10 an10 od11 an11 od12 an12 od13 an13 : Option Addr} {sl0 sl1 sl2 sl3 sl4 sl5 sl6 sl7 sl8 sl9 sl10 sl11 sl12 sl13 : Array (Option Value)} {oc0 kV0 dc0 pm0 cd0 ct0 oc1 kV1 dc1 pm1 cd1 ct1 oc2 kV2 dc2 pm2 cd2 ct2 oc3 kV3 dc3 pm3 cd3 ct3 oc4 kV4 dc4 pm4 cd4 ct4 oc5 kV5 dc5 pm5 cd5 ct5 oc6 kV6 dc6 pm6 cd6 ct6 oc7 kV7 dc7 pm7 cd7 ct7 oc8 kV8 dc8 pm8 cd8 ct8 oc9 kV9 dc9 pm9 cd9 ct9 oc10 kV10 dc10 pm10 cd10 ct10 oc11 kV11 dc11 pm11 cd11 ct11 oc12 kV12 dc12 pm12 cd12 ct12 oc13 kV13 dc13 pm13 cd13 ct13 : Value}
    (a0 : PySem.W.nsIn K mainGlobals "_law_deck" = some (some (.ref f0))) (l0 : K.lookup f0 = some ⟨oc0, od0, .func (PySem.W.fnOf "_law_deck" "_law_deck" (defArgs sState) (defBody sState) (defScope sState) .none kV0 dc0 pm0 an0 cd0 ct0), sl0⟩) (c0 : PySem.W.codeIn K cd0 "_law_deck" = true) (k0 : PySem.W.keepIn K (.ref f0) = true)
    (a1 : PySem.W.nsIn K mainGlobals "_law_rows" = some (some (.ref f1))) (l1 : K.lookup f1 = some ⟨oc1, od1, .func (PySem.W.fnOf "_law_rows" "_law_rows" (defArgs sRows) (defBody sRows) (defScope sRows) .none kV1 dc1 pm1 an1 cd1 ct1), sl1⟩) (c1 : PySem.W.codeIn K cd1 "_law_rows" = true) (k1 : PySem.W.keepIn K (.ref f1) = true)
    (a2 : PySem.W.nsIn K mainGlobals "_law_next" = some (some (.ref f2))) (l2 : K.lookup f2 = some ⟨oc2, od2, .func (PySem.W.fnOf "_law_next" "_law_next" (defArgs sDraw) (defBody sDraw) (defScope sDraw) .none kV2 dc2 pm2 an2 cd2 ct2), sl2⟩) (c2 : PySem.W.codeIn K cd2 "_law_next" = true) (k2 : PySem.W.keepIn K (.ref f2) = true)
    (a3 : PySem.W.nsIn K mainGlobals "_law_order" = some (some (.ref f3))) (l3 : K.lookup f3 = some ⟨oc3, od3, .func (PySem.W.fnOf "_law_order" "_law_order" (defArgs sMixed) (defBody sMixed) (defScope sMixed) .none kV3 dc3 pm3 an3 cd3 ct3), sl3⟩) (c3 : PySem.W.codeIn K cd3 "_law_order" = true) (k3 : PySem.W.keepIn K (.ref f3) = true)
    (a4 : PySem.W.nsIn K mainGlobals "_law_pick" = some (some (.ref f4))) (l4 : K.lookup f4 = some ⟨oc4, od4, .func (PySem.W.fnOf "_law_pick" "_law_pick" (defArgs sPick) (defBody sPick) (defScope sPick) .none kV4 dc4 pm4 an4 cd4 ct4), sl4⟩) (c4 : PySem.W.codeIn K cd4 "_law_pick" = true) (k4 : PySem.W.keepIn K (.ref f4) = true)
    (a5 : PySem.W.nsIn K mainGlobals "_law_cut" = some (some (.ref f5))) (l5 : K.lookup f5 = some ⟨oc5, od5, .func (PySem.W.fnOf "_law_cut" "_law_cut" (defArgs sCut) (defBody sCut) (defScope sCut) .none kV5 dc5 pm5 an5 cd5 ct5), sl5⟩) (c5 : PySem.W.codeIn K cd5 "_law_cut" = true) (k5 : PySem.W.keepIn K (.ref f5) = true)
    (a6 : PySem.W.nsIn K mainGlobals "_law_odd" = some (some (.ref f6))) (l6 : K.lookup f6 = some ⟨oc6, od6, .func (PySem.W.fnOf "_law_odd" "_law_odd" (defArgs sOdd) (defBody sOdd) (defScope sOdd) .none kV6 dc6 pm6 an6 cd6 ct6), sl6⟩) (c6 : PySem.W.codeIn K cd6 "_law_odd" = true) (k6 : PySem.W.keepIn K (.ref f6) = true)
    (a7 : PySem.W.nsIn K mainGlobals "_law_changed" = some (some (.ref f7))) (l7 : K.lookup f7 = some ⟨oc7, od7, .func (PySem.W.fnOf "_law_changed" "_law_changed" (defArgs sChanged) (defBody sChanged) (defScope sChanged) .none kV7 dc7 pm7 an7 cd7 ct7), sl7⟩) (c7 : PySem.W.codeIn K cd7 "_law_changed" = true) (k7 : PySem.W.keepIn K (.ref f7) = true)
    (a8 : PySem.W.nsIn K mainGlobals "is_line" = some (some (.ref f8))) (l8 : K.lookup f8 = some ⟨oc8, od8, .func (PySem.W.fnOf "is_line" "is_line" (defArgs sIsLine) (defBody sIsLine) (defScope sIsLine) .none kV8 dc8 pm8 an8 cd8 ct8), sl8⟩) (c8 : PySem.W.codeIn K cd8 "is_line" = true) (k8 : PySem.W.keepIn K (.ref f8) = true)
    (a9 : PySem.W.nsIn K mainGlobals "state_numbers" = some (some (.ref f9))) (l9 : K.lookup f9 = some ⟨oc9, od9, .func (PySem.W.fnOf "state_numbers" "state_numbers" (defArgs sNums) (defBody sNums) (defScope sNums) .none kV9 dc9 pm9 an9 cd9 ct9), sl9⟩) (c9 : PySem.W.codeIn K cd9 "state_numbers" = true) (k9 : PySem.W.keepIn K (.ref f9) = true)
    (a10 : PySem.W.nsIn K mainGlobals "is_number_within" = some (some (.ref f10))) (l10 : K.lookup f10 = some ⟨oc10, od10, .func (PySem.W.fnOf "is_number_within" "is_number_within" (defArgs sNum) (defBody sNum) (defScope sNum) .none kV10 dc10 pm10 an10 cd10 ct10), sl10⟩) (c10 : PySem.W.codeIn K cd10 "is_number_within" = true) (k10 : PySem.W.keepIn K (.ref f10) = true)
    (a11 : PySem.W.nsIn K mainGlobals "is_number" = some (some (.ref f11))) (l11 : K.lookup f11 = some ⟨oc11, od11, .func (PySem.W.fnOf "is_number" "is_number" (defArgs sIsnum) (defBody sIsnum) (defScope sIsnum) .none kV11 dc11 pm11 an11 cd11 ct11), sl11⟩) (c11 : PySem.W.codeIn K cd11 "is_number" = true) (k11 : PySem.W.keepIn K (.ref f11) = true)
    (a12 : PySem.W.nsIn K mainGlobals "_law_is_cut" = some (some (.ref f12))) (l12 : K.lookup f12 = some ⟨oc12, od12, .func (PySem.W.fnOf "_law_is_cut" "_law_is_cut" (defArgs sIsCut) (defBody sIsCut) (defScope sIsCut) .none kV12 dc12 pm12 an12 cd12 ct12), sl12⟩) (c12 : PySem.W.codeIn K cd12 "_law_is_cut" = true) (k12 : PySem.W.keepIn K (.ref f12) = true)
    (a13 : PySem.W.nsIn K mainGlobals "law" = some (some (.ref f13))) (l13 : K.lookup f13 = some ⟨oc13, od13, .func (PySem.W.fnOf "law" "law" (defArgs sLaw) (defBody sLaw) (defScope sLaw) .none kV13 dc13 pm13 an13 cd13 ct13), sl13⟩) (c13 : PySem.W.codeIn K cd13 "law" = true) (k13 : PySem.W.keepIn K (.ref f13) = true)
    (z0 : PySem.W.nsIn K mainGlobals "len" = some none) (z1 : PySem.W.nsIn K mainGlobals "list" = some none) (z2 : PySem.W.nsIn K mainGlobals "tuple" = some none) (z3 : PySem.W.nsIn K mainGlobals "range" = some none) (z4 : PySem.W.nsIn K mainGlobals "abs" = some none) (z5 : PySem.W.nsIn K mainGlobals "repr" = some none) (z6 : PySem.W.nsIn K mainGlobals "zip" = some none) (z7 : PySem.W.nsIn K mainGlobals "min" = some none) (z8 : PySem.W.nsIn K mainGlobals "isinstance" = some none) (z9 : PySem.W.nsIn K mainGlobals "int" = some none) (z10 : PySem.W.nsIn K mainGlobals "bool" = some none) (z11 : PySem.W.nsIn K mainGlobals "all" = some none) (z12 : PySem.W.nsIn K mainGlobals "str" = some none) :
    ∃ fd : FuncData, (∀ (s : Shared) (v : Value), BindsTo s fd ⟨[v], []⟩ [("_law_script", v)]) ∧ ∀ base : Heap, K.In base → base.Ns mainGlobals mg → FnG l.prog w K mg base 4 fa fd ["_law_script"] (spLaw K) := by
  have e := hfa.symm.trans (PySem.W.mg_of X G a13)
  cases e
  have F0 := fun_mk (st := sState) l0 c0 k0
  have b0 := F0.binds (ps := ["_law_script"]) fun _ _ _ _ _ _ us hl => match us, hl with | [_], _ => rfl
  have F1 := fun_mk (st := sRows) l1 c1 k1
  have b1 := F1.binds (ps := ["_law_deck_here", "_law_count", "_law_many"]) fun _ _ _ _ _ _ us hl => match us, hl with | [_, _, _], _ => rfl
  have F2 := fun_mk (st := sDraw) l2 c2 k2
  have b2 := F2.binds (ps := ["_law_deck_here", "_law_many"]) fun _ _ _ _ _ _ us hl => match us, hl with | [_, _], _ => rfl
  have F3 := fun_mk (st := sMixed) l3 c3 k3
  have b3 := F3.binds (ps := ["_law_deck_here", "_law_items"]) fun _ _ _ _ _ _ us hl => match us, hl with | [_, _], _ => rfl
  have F4 := fun_mk (st := sPick) l4 c4 k4
  have b4 := F4.binds (ps := ["_law_deck_here", "_law_items"]) fun _ _ _ _ _ _ us hl => match us, hl with | [_, _], _ => rfl
  have F5 := fun_mk (st := sCut) l5 c5 k5
  have b5 := F5.binds (ps := ["_law_deck_here", "_law_rows_here"]) fun _ _ _ _ _ _ us hl => match us, hl with | [_, _], _ => rfl
  have F6 := fun_mk (st := sOdd) l6 c6 k6
  have b6 := F6.binds (ps := ["_law_deck_here"]) fun _ _ _ _ _ _ us hl => match us, hl with | [_], _ => rfl
  have F7 := fun_mk (st := sChanged) l7 c7 k7
  have b7 := F7.binds (ps := ["_law_deck_here", "_law_value"]) fun _ _ _ _ _ _ us hl => match us, hl with | [_, _], _ => rfl
  have F8 := fun_mk (st := sIsLine) l8 c8 k8
  have b8 := F8.binds (ps := ["history", "value"]) fun _ _ _ _ _ _ us hl => match us, hl with | [_, _], _ => rfl
  have F9 := fun_mk (st := sNums) l9 c9 k9
  have b9 := F9.binds (ps := ["history"]) fun _ _ _ _ _ _ us hl => match us, hl with | [_], _ => rfl
  have F10 := fun_mk (st := sNum) l10 c10 k10
  have b10 := F10.binds (ps := ["value", "low", "high"]) fun _ _ _ _ _ _ us hl => match us, hl with | [_, _, _], _ => rfl
  have F11 := fun_mk (st := sIsnum) l11 c11 k11
  have b11 := F11.binds (ps := ["value"]) fun _ _ _ _ _ _ us hl => match us, hl with | [_], _ => rfl
  have F12 := fun_mk (st := sIsCut) l12 c12 k12
  have b12 := F12.binds (ps := ["_law_rows_here", "_law_value"]) fun _ _ _ _ _ _ us hl => match us, hl with | [_, _], _ => rfl
  have F13 := fun_mk (st := sLaw) l13 c13 k13
  exact ⟨PySem.W.fnOf "law" "law" (defArgs sLaw) (defBody sLaw) (defScope sLaw) .none kV13 dc13 pm13 an13 cd13 ct13, fun s v => .of_eq rfl, fun base _ _ => ok_law F13 F0 b0 (PySem.W.mg_of X G a0) F1 b1 (PySem.W.mg_of X G a1) F2 b2 (PySem.W.mg_of X G a2) F3 b3 (PySem.W.mg_of X G a3) F4 b4 (PySem.W.mg_of X G a4) F5 b5 (PySem.W.mg_of X G a5) F6 b6 (PySem.W.mg_of X G a6) F7 b7 (PySem.W.mg_of X G a7) F8 b8 (PySem.W.mg_of X G a8) F9 b9 (PySem.W.mg_of X G a9) F10 b10 (PySem.W.mg_of X G a10) F11 b11 (PySem.W.mg_of X G a11) F12 b12 (PySem.W.mg_of X G a12) (PySem.W.mg_none_of X G z0) (PySem.W.mg_none_of X G z1) (PySem.W.mg_none_of X G z2) (PySem.W.mg_none_of X G z3) (PySem.W.mg_none_of X G z4) (PySem.W.mg_none_of X G z5) (PySem.W.mg_none_of X G z6) (PySem.W.mg_none_of X G z7) (PySem.W.mg_none_of X G z8) (PySem.W.mg_none_of X G z9) (PySem.W.mg_none_of X G z10) (PySem.W.mg_none_of X G z11) (PySem.W.mg_none_of X G z12)⟩
end Sv

open PySem PySem.W PyProof.Rows in
set_option maxRecDepth 100000 in
set_option maxHeartbeats 0 in
theorem PySem.Challenge.cw_savelines_k13_lines_judged_holds : PySem.Challenge.rw_savelines_k13_lines_judged.Holds := by
  w_on; o_law; k_head; (case hw => w_witness2)
  k_fill
  refine Sv.walkG (l := PySem.Challenge.rw_savelines_k13_lines_judged) (n := 63) (k := 4) (x := "_law_script") (sp := Sv.spLaw) rfl (by decide) rfl ⟨rfl, by decide, by decide⟩ (fun w h Y => PySem.W.kIn_of Y) ?F (fun K H a ns hl _ hS => ⟨a, ns, rfl, hS, hl, fun _ => rfl⟩)
  case F =>
    intro w mg fa h KX G hmg
    refine' Sv.all_mk KX G hmg ?a0 ?l0 ?c0 ?k0 ?a1 ?l1 ?c1 ?k1 ?a2 ?l2 ?c2 ?k2 ?a3 ?l3 ?c3 ?k3 ?a4 ?l4 ?c4 ?k4 ?a5 ?l5 ?c5 ?k5 ?a6 ?l6 ?c6 ?k6 ?a7 ?l7 ?c7 ?k7 ?a8 ?l8 ?c8 ?k8 ?a9 ?l9 ?c9 ?k9 ?a10 ?l10 ?c10 ?k10 ?a11 ?l11 ?c11 ?k11 ?a12 ?l12 ?c12 ?k12 ?a13 ?l13 ?c13 ?k13 ?z0 ?z1 ?z2 ?z3 ?z4 ?z5 ?z6 ?z7 ?z8 ?z9 ?z10 ?z11 ?z12
    (case a0 => k_is)
    (case l0 => k_is)
    (case c0 => k_is)
    (case k0 => k_is)
    (case a1 => k_is)
    (case l1 => k_is)
    (case c1 => k_is)
    (case k1 => k_is)
    (case a2 => k_is)
    (case l2 => k_is)
    (case c2 => k_is)
    (case k2 => k_is)
    (case a3 => k_is)
    (case l3 => k_is)
    (case c3 => k_is)
    (case k3 => k_is)
    (case a4 => k_is)
    (case l4 => k_is)
    (case c4 => k_is)
    (case k4 => k_is)
    (case a5 => k_is)
    (case l5 => k_is)
    (case c5 => k_is)
    (case k5 => k_is)
    (case a6 => k_is)
    (case l6 => k_is)
    (case c6 => k_is)
    (case k6 => k_is)
    (case a7 => k_is)
    (case l7 => k_is)
    (case c7 => k_is)
    (case k7 => k_is)
    (case a8 => k_is)
    (case l8 => k_is)
    (case c8 => k_is)
    (case k8 => k_is)
    (case a9 => k_is)
    (case l9 => k_is)
    (case c9 => k_is)
    (case k9 => k_is)
    (case a10 => k_is)
    (case l10 => k_is)
    (case c10 => k_is)
    (case k10 => k_is)
    (case a11 => k_is)
    (case l11 => k_is)
    (case c11 => k_is)
    (case k11 => k_is)
    (case a12 => k_is)
    (case l12 => k_is)
    (case c12 => k_is)
    (case k12 => k_is)
    (case a13 => k_is)
    (case l13 => k_is)
    (case c13 => k_is)
    (case k13 => k_is)
    (case z0 => k_is)
    (case z1 => k_is)
    (case z2 => k_is)
    (case z3 => k_is)
    (case z4 => k_is)
    (case z5 => k_is)
    (case z6 => k_is)
    (case z7 => k_is)
    (case z8 => k_is)
    (case z9 => k_is)
    (case z10 => k_is)
    (case z11 => k_is)
    (case z12 => k_is)
