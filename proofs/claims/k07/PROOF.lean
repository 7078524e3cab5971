import PyProof.Rows.All
import Wide.All
import OpenK.AllK
import Wide.FinOn
import PyProof.EqAt
import PyProof.EqKinds
import PyProof.TupleCall
import HandS.ForMost
import HandS.Conv
import HandS.Style
import HandS.Deep
import KE.DataFind
import PyProof.ReprRoads
import KE.GoesEnum
import HandS.Star
import HandS.Iter
import HandS.IsInst
import HandS.Strs
import HandS.GenList
import PySem.Challenge.RW_savelines_k07_whole_sendings_before_rece
set_option Elab.async false
set_option linter.all false
set_option maxRecDepth 100000
/-! repr where nothing of repr is under way: promises that know the guards; text of data; more of tuples. -/
namespace Sv
open PySem PySem.Spec PyProof.Rows L2

/-- a def's promise for calls made where no repr runs -/
structure FnG (P : Program) (w : World) (K : PySem.W.Frag) (mg : Str → Option Value) (base : Heap)
    (k : Nat) (f : Addr) (fd : FuncData) (ps : List Str) (sp : Sp) : Prop where
  len : ∀ vs H Q E, sp vs H Q E → vs.length = ps.length
  run : ∀ (A : Around), A.guards = some [] →
    ∀ (outer : List Env) (s : Shared) (H : Hp) (args : Args) (us : List Value) (vs : List V) (Q : VK) (E : XK),
    Room k A → Env0 P w K mg base A outer s H → BindsTo s fd args (ps.zip us) → Vals vs us → sp vs H Q E →
    codeAny (model P w) A (.call (.ref f) args) (CR CX0 outer P w H s Q E) s

section
variable {P : Program} {w : World} {K : PySem.W.Frag} {mg : Str → Option Value} {base : Heap}

theorem FnG.ofOk {k : Nat} {f : Addr} {fd : FuncData} {ps : List Str} {sp : Sp}
    (F : FnOk P w K mg base CX0 k f fd ps sp) : FnG P w K mg base k f fd ps sp :=
  ⟨F.len, fun A _ outer s H args us vs Q E => F.run A outer s H args us vs Q E⟩

/-- the def's body, where no repr runs -/
theorem okG {x qual : Str} {st : Stmt} {f : Addr} {fd : FuncData} {N ps : List Str} {k : Nat} {sp : Sp}
    (F : Fun K x qual st f fd) (S : FnScope N ps (defScope st)) (len : ∀ vs H Q E, sp vs H Q E → vs.length = ps.length)
    (hbody : ∀ (cdv : Value) (A : Around) (outer : List Env) (s : Shared) (H : Hp) (vs : List V) (Q : VK) (E : XK),
      A.guards = some [] → Room k (A.deeper (envOfC qual (defScope st) s.heap.objs.size f cdv)) → sp vs H Q E →
      ∃ t, PSs (cxOf CX0 P w K mg base N qual (defScope st) f cdv A outer s H E).nox (defBody st) t ∧
        t { nx := fun _ H' => Q .non H', rt := Q } (start N vs) H) :
    FnG P w K mg base (k + 1) f fd ps sp := by
  obtain ⟨oc, od, kV, doc, pm, an, cdv, ct, osl, rfl, lk, hcd⟩ := F.ex
  refine ⟨len, fun A hg outer s H args us vs Q E hr e0 hb r hsp => ?_⟩
  have hl := len vs H Q E hsp
  have KX : K.In s.heap := e0.mod.kin.keeps fun b o e => And.left (e0.bs b o e)
  have lim := e0.mod.nolimit.keeps fun b o e => And.left (e0.bs b o e)
  have hkind : ∀ y ∈ ps.zip us, (defScope st).names.lookup y.1 = some .local ∨
      ((defScope st).names.lookup y.1 = some .cell ∧
        ((cellsFrom (s.heap.objs.size + 1) (defScope st).names []).lookup y.1).isSome = true) := by
    rintro ⟨n, v⟩ hy
    cases S.par n (List.of_mem_zip hy).1 with
    | inl q => exact Or.inl q
    | inr q => exact Or.inr ⟨q, PySem.W.cellsFrom_some _ _ _ (Or.inl q)⟩
  refine codeAny_call_function hr.depth (KX _ _ lk) rfl S.co S.gen rfl (PySem.W.codeRec_of KX hcd) (hb _ _ _ _ ?_)
  refine wpAny_newFunctionEnv_cells S.kind hkind fun env he s1 X1 => ?_
  subst he
  refine ⟨lim.keeps X1.toInCall.keep, codeAny_func ?_⟩
  obtain ⟨t, ht0, hq⟩ := hbody cdv A outer s H vs Q E hg (hr.deeper _) hsp
  have ht := ht0.nox
  have I0 := inv_start (CX := CX0) (E := E) S hr.hd e0 hl r X1
  refine wpAny_mono (ht.run [] s1 (start N vs) H _ I0 hq) (fun fl s' hs => ?_) (fun e s' hs => hs)
  cases fl with
  | ret u =>
    obtain ⟨v, σ', H', J, rv, q⟩ := hs
    exact ⟨v, H', J.os, J.bare, J.base, J.hok, rv, q⟩
  | next =>
    obtain ⟨σ', H', J, q⟩ := hs
    exact ⟨V.non, H', J.os, J.bare, J.base, J.hok, rfl, q⟩
  | brk =>
    obtain ⟨σ', H', J, q⟩ := hs
    exact q.elim
  | cont =>
    obtain ⟨σ', H', J, q⟩ := hs
    exact q.elim
end

section
variable {X : Cx} {k : Nat} {f : Addr} {fd : FuncData} {ps : List Str} {sp : Sp} {dvs : List V} {ds : List Value}
  {E : XK} {x : Str} {p pos : Pos} {e : Expr} {es : List Expr} {t : TA}

/-- f(e, ..) of such a def -/
theorem pe_callG (F : FnG X.prog X.w X.K X.mg X.base k f fd ps sp) (hgd : X.A.guards = some []) (hr : Room k X.A) (hg : Gl X x)
    (hm : X.mg x = some (.ref f)) (hk : PySem.W.keepIn X.K (.ref f) = true) (hb : Binds X.K fd ps ds) (hd : Vals dvs ds)
    (hx : Passes CX0 X E) (ha : PA X (e :: es) t) (hdb : (x == ("__debug__" : Str)) = false := by decide)
    (he : starEach (e :: es) X.env = (false, eval e X.env) :: starEach es X.env := by rfl)
    (hpl : (backTo pos (starEach es X.env)).any (·.1) = false := by rfl) :
    PE X (.Call (.Name x p) (e :: es) [] pos) (tCall sp dvs E t) := by
  refine ⟨fun pins s σ H Q I h => wpAny_Call_Name_kw (ld_glob I hg hm ?_ hdb)⟩
  refine PySem.W.callWith_K (h₀ := X.base) I.ok.mod.kin hk
    (thn (ha.run pos pins s σ H _ I h) fun us s1 ⟨vs, H1, I1, r, q⟩ => ⟨I1.kIn, ?_⟩) he hpl
  have r2 : Vals (vs ++ dvs) (us ++ ds) := r.append hd
  have hl : (us ++ ds).length = ps.length := r2.length.symm.trans (F.len _ _ _ _ q)
  refine wpAny_call (codeAny_mono (F.run X.A hgd X.stack s1 H1 ⟨us, []⟩ (us ++ ds) (vs ++ dvs) Q E hr I1.env0
    (hb s1 us I1.kIn hl) r2 q) fun res s' hq => ?_)
  cases res with
  | error e => exact hx pins σ H1 s1 e s' I1 hq
  | ok fl =>
    cases fl with
    | ret u => exact I1.after hq
    | next => exact hq.elim
    | brk => exact hq.elim
    | cont => exact hq.elim
end

/-! ### the text of data -/
section
variable {X : Cx}
def Shown (K : PySem.W.Frag) (H : Hp) (v : V) (d : PyData) : Prop :=
  Dp K H v d ∧ isDisplay d = true ∧ d.showable = true ∧ d.hasDict = false ∧ d.depth ≤ 60 ∧ d.shown.length ≤ sizeLine
/-- repr(x) of lists and tuples -/
theorem call_repr (hgd : X.A.guards = some []) (hu : X.A.units + 64 < cLine) : CallR X (.builtin "repr")
    (fun xs H Q => ∃ v d, xs = [v] ∧ Shown X.K H v d ∧ Q (.str d.shown) H) := by
  intro pins s σ H xs us Q I r h
  obtain ⟨v, d, rfl, ⟨hd, h1, h2, h3, h4, h5⟩, q⟩ := h
  obtain ⟨u, rfl, ru⟩ := vals1 r
  obtain ⟨as, R⟩ := Dp.reads I d v u hd ru
  obtain ⟨a, rfl⟩ := isRef_of_reads R h1
  refine repr_of_reads' R h2 (PyData.noDict_hsm h3) hgd (by omega) (fun _ _ e => e) (fun h' tk1 tk2 hk => ?_) h5
  exact ⟨.str _, H, I.kept (t' := tk2) hk, ⟨tk1, rfl⟩, q⟩
end

/-! ### tuples -/
section
variable {X : Cx}
/-- t + u, the left one empty: the right one itself -/
theorem op_catE : OpR X (binaryOp .Add) (fun x y H Q => ∃ a b ys, x = .ref a ∧ y = .ref b ∧ SqT X.K H a [] ∧ SqT X.K H b ys ∧ ys ≠ [] ∧ Q (.ref b) H) := by
  intro pins s σ H x y v u Q I rx ry h
  obtain ⟨a, b, ys, rfl, rfl, ha, hb, hy, q⟩ := h
  cases rx
  cases ry
  obtain ⟨its, r1, p1, _⟩ := I.tuple ha
  obtain ⟨its2, r2, p2, _⟩ := I.tuple hb
  have e1 : its = [] := r1.nil_iff.mpr rfl
  subst e1
  obtain ⟨⟨c1, d1, t1, l1⟩, o1, h1, n1, g1⟩ := id p1
  obtain ⟨⟨c2, d2, t2, l2⟩, o2, h2, n2, g2⟩ := id p2
  simp only at h1 g1 h2 g2
  subst h1 g1 h2 g2
  exact concat_meets ⟨_, o1, rfl⟩ ⟨_, o2, rfl⟩ noFill_tuple_add seq_tuple_add PySem.F.slot_tuple_add PySem.F.entry_tuple_add
    (PySem.F.args_tuple_add_2 _ _) (tuple_addW0 a b _ _ n1 n2 d1 d2 l1 l2 (by rfl)) ⟨o1, o2, ⟨.ref b, H, I, rfl, q⟩⟩
end

/-! ### tuples that are known to bear no dict (their methods may be called) -/
def TupN (H : Hp) (a : Addr) (xs : List V) : Prop := ∃ o : Obj, H a = some (.frz o (.tup xs)) ∧ o.dict = none
theorem TupN.sqT {K : PySem.W.Frag} {H : Hp} {a : Addr} {xs : List V} (h : TupN H a xs) : SqT K H a xs := by
  obtain ⟨o, h, _⟩ := h
  exact .inl (.inr ⟨o, h⟩)
theorem TupN.same {H H' : Hp} {a : Addr} {xs : List V} (h : TupN H a xs) (e : ∀ b o, H b = some o → H' b = some o) : TupN H' a xs := by
  obtain ⟨o, h, d⟩ := h
  exact ⟨o, e _ _ h, d⟩
theorem TupN.new {H : Hp} {p : Addr} {o : Obj} {xs : List V} (d : o.dict = none) : TupN (upd H p (.frz o (.tup xs))) p xs := ⟨o, upd_same, d⟩
section
variable {X : Cx} {es : List Expr} {t : TA} {pos : Pos}
def tTupF (t : TA) : TE := fun σ H Q => t σ H fun xs H1 => xs.length ≤ sizeLine ∧ ∀ (p : Addr) (o : Obj), H1 p = none → o.dict = none → Q (.ref p) (upd H1 p (.frz o (.tup xs)))
theorem pe_tupF {x1} (h : PA X es t) : PE X (.Tuple es x1 pos) (tTupF t) := by
  refine ⟨fun pins s σ H Q I hq => ?_⟩
  refine wpAny_Tuple_spliced (thn (h.run pos pins s σ H _ I hq) fun us s1 ⟨xs, H1, I1, r, z, q⟩ => ⟨r.length ▸ z, ?_⟩)
  have hf : H1 s1.heap.objs.size = none := I1.hok.fresh (Nat.le_refl _)
  have hg := Heap.get?_push_size s1.heap (o := { cls := .type "tuple", data := .seq us.toArray }) rfl
  refine ⟨.ref s1.heap.objs.size, _, I1.laid (t' := s1.toks) (o := .frz { cls := .type "tuple", data := .seq us.toArray } (.tup xs)) (fun b u e => Heap.get?_push_of_some _ e) (Nat.le_refl _) ?_, rfl, q _ _ hf rfl⟩
  exact ⟨hg, z, us, r, ⟨_, hg, rfl, _, rfl⟩⟩
/-- t + u, none of both empty -/
theorem op_catF : OpR X (binaryOp .Add) (fun x y H Q => ∃ a b xs ys, x = .ref a ∧ y = .ref b ∧ SqT X.K H a xs ∧ SqT X.K H b ys ∧ xs ≠ [] ∧ ys ≠ [] ∧ xs.length + ys.length ≤ sizeLine ∧
    ∀ (p : Addr) (o : Obj), H p = none → o.dict = none → Q (.ref p) (upd H p (.frz o (.tup (xs ++ ys))))) := by
  intro pins s σ H x y v u Q I rx ry h
  obtain ⟨a, b, xs, ys, rfl, rfl, ha, hb, hx, hy, hz, q⟩ := h
  cases rx
  cases ry
  obtain ⟨its, r1, p1, _⟩ := I.tuple ha
  obtain ⟨its2, r2, p2, _⟩ := I.tuple hb
  have hl : its.length + its2.length ≤ sizeLine := by rw [← r1.length, ← r2.length]; exact hz
  refine HT.cat_tup p1 p2 (fun z => hx (r1.nil_iff.mp z)) (fun z => absurd (r2.nil_iff.mp z) hy) (fun _ => ?_) hl
  have hg := Heap.get?_push_size s.heap (o := { cls := .type "tuple", data := .seq (its ++ its2).toArray }) rfl
  refine ⟨.ref s.heap.objs.size, _, I.laid (t' := s.toks) (o := .frz { cls := .type "tuple", data := .seq (its ++ its2).toArray } (.tup (xs ++ ys))) (fun b ob q => Heap.get?_push_of_some _ q) (Nat.le_refl _) ?_, rfl, q _ _ (I.hok.fresh (Nat.le_refl _)) rfl⟩
  exact ⟨hg, by rw [List.length_append]; exact hz, _, r1.append r2, ⟨_, hg, rfl, _, rfl⟩⟩
/-- a method of such a tuple, called with arguments -/
def tTM (r : V → List V → Hp → VK → Prop) (to : TE) (t : TA) : TE := fun σ H Q => to σ H fun x H1 => (∃ p xs, x = .ref p ∧ TupN H1 p xs) ∧ t σ H1 fun vs H2 => r x vs H2 Q
theorem pe_tm {name : Str} {id : String} {o e : Expr} {to : TE} {r : V → List V → Hp → VK → Prop} {apos cpos : Pos} (slot : Slot "tuple" name id) (hty : typeOf (.builtin id) = pure (.type "method_descriptor")) (hm : MtR X id r) (ho : PE X o to) (ha : PA X (e :: es) t)
    (hbase : attributeBase o name X.env (eval o X.env) = eval o X.env := by rfl)
    (hfew : ((backTo cpos (starEach (e :: es) X.env)).all (fun x => !x.1) && (backToKw cpos (keywordEach [] X.env)).all (fun x => x.1.isSome)
      && decide ((e :: es).length + ([] : List Keyword).length + (if ([] : List Keyword).isEmpty then 0 else 1) < 30)) = true := by rfl)
    (hline : (apos.endLine == cpos.line) = true := by rfl) (hs : starEach (e :: es) X.env = (false, eval e X.env) :: starEach es X.env := by rfl) (hplain : (backTo cpos (starEach es X.env)).any (·.1) = false := by rfl) :
    PE X (.Call (.Attribute o name apos) (e :: es) [] cpos) (tTM r to t) := by
  refine ⟨fun pins s σ H Q I h => ?_⟩
  refine wpAny_Call_method_late hbase hfew hline rfl (thn (ho.run pins s σ H _ I h) fun v s1 ⟨x, H1, I1, r1, ty, q1⟩ => ?_)
  obtain ⟨p, xs, rfl, ob, hob, hdi⟩ := ty
  cases r1
  obtain ⟨g1, hz, its, rv, ot, g2, hc, _⟩ := I1.hok p _ hob
  obtain rfl : ot = ob := Option.some.inj (g2.symm.trans g1)
  refine ⟨"tuple", id, PySem.F.plainAttrs_tuple, slot, hty, ⟨ot, g1, hc⟩, fun a e => ?_, ?_⟩
  · cases e
    exact ⟨ot, g1, hdi⟩
  have hA := ha.run cpos pins s1 σ H1 _ I1 q1
  rw [hs] at hA ⊢
  refine Calls.callWith_builtin (by show (false || (backTo cpos (starEach es X.env)).any (·.1)) = false; rw [hplain] <;> rfl) (Calls.evalArgs_plain ?_)
  exact thn hA fun us s2 ⟨vs, H2, I2, r2, q2⟩ => hm pins s2 σ H2 (.ref p) vs (.ref p) us Q I2 rfl r2 q2
end

/-! ### list.remove of data -/
section
variable {X : Cx}
def rRemD (K : PySem.W.Frag) : V → List V → Hp → VK → Prop := fun x args H Q => ∃ (l : Addr) (y : V) (d : PyData) (xs : List V) (ds : List PyData) (j : Nat),
  x = .ref l ∧ args = [y] ∧ H l = some (.lst xs) ∧ DpAll K H xs ds ∧ Dp K H y d ∧ PyData.plainAll ds = true ∧ d.plain = true ∧ d.depth ≤ 60 ∧
  SeqAt.dataPlace ds d = some j ∧ Q .non (upd H l (.lst (xs.eraseIdx j)))
theorem mt_removeD (hu : X.A.units + 64 < cLine) : MtR X "list.remove" (rRemD X.K) := by
  intro pins s σ H x args v us Q I rx ra h
  obtain ⟨l, y, d, xs, ds, j, rfl, rfl, hH, hds, hd, p1, p2, p3, hj, q⟩ := h
  cases rx
  obtain ⟨u, rfl, ru⟩ := vals1 ra
  obtain ⟨z, its, n, r, hl, e⟩ := I.lstM hH
  obtain ⟨as, R1⟩ := Dp.readsAll I ds xs its hds r
  obtain ⟨bs, R2⟩ := Dp.reads I d y u hd ru
  refine SeqAt.remove_list_data (vs := its.toArray) ⟨_, e, rfl, n, rfl⟩ R1 R2 p1 p2 (by omega) hj (by rw [List.size_toArray, ← hl]; exact z) ?_
  refine ⟨.non, _, I.lset (its' := its.eraseIdx j) (t' := s.toks) hH e ?_ (r.eraseIdx j) ?_, rfl, q⟩
  · show its.toArray.eraseIdxIfInBounds j = (its.eraseIdx j).toArray
    rw [List.eraseIdxIfInBounds_toArray]
  · have := List.length_eraseIdx_le xs j
    omega
end

/-! ### data of ints -/
def iD (ns : List Int) : List PyData := ns.map PyData.int
section
variable {K : PySem.W.Frag} {H : Hp}
theorem dp_ints : ∀ ns : List Int, DpAll K H (ns.map V.int) (iD ns)
  | [] => .nil
  | n :: r => .cons (.int n) (dp_ints r)
theorem dp_lst {a : Addr} {ns : List Int} (h : SqL K H a (ns.map V.int)) : Dp K H (.ref a) (.list (iD ns)) := .lst h (dp_ints ns)
theorem dp_tup {a : Addr} {ns : List Int} (h : SqT K H a (ns.map V.int)) : Dp K H (.ref a) (.tuple (iD ns)) := .tup h (dp_ints ns)
theorem dp_nil {a : Addr} (h : SqL K H a []) : Dp K H (.ref a) (.list []) := .lst h .nil
end
theorem iD_lay : ∀ ns : List Int, PyData.canLayAll0 (iD ns) = true
  | [] => by simp [iD, PyData.canLayAll0]
  | n :: r => by
    have h := iD_lay r
    simp only [iD, List.map_cons, PyData.canLayAll0, PyData.canLay0] at h ⊢
    rw [h]
    rfl
theorem iD_depth : ∀ ns : List Int, PyData.depthAll (iD ns) = 0
  | [] => by simp [iD, PyData.depthAll]
  | n :: r => by
    have h := iD_depth r
    simp only [iD, List.map_cons, PyData.depthAll, PyData.depth] at h ⊢
    rw [h]
    rfl
theorem shaped_lst (ns : List Int) : SeqAt.shaped (.list (iD ns)) = true := by
  have h1 := iD_lay ns
  have h2 := iD_depth ns
  show (PyData.canLay0 (.list (iD ns)) && decide (PyData.depth (.list (iD ns)) ≤ 64)) = true
  simp only [PyData.canLay0, PyData.depth, h1, h2, Bool.true_and]
  decide
theorem shaped_tup (ns : List Int) : SeqAt.shaped (.tuple (iD ns)) = true := by
  have h1 := iD_lay ns
  have h2 := iD_depth ns
  show (PyData.canLay0 (.tuple (iD ns)) && decide (PyData.depth (.tuple (iD ns)) ≤ 64)) = true
  simp only [PyData.canLay0, PyData.depth, h1, h2, Bool.true_and]
  decide
theorem shaped_nil : SeqAt.shaped (.list []) = true := by decide +kernel
theorem eqv_nil (ds : List PyData) : PyData.eqv (.list ds) (.list []) = ds.isEmpty := by
  cases ds <;> simp [PyData.eqv, PyData.eqvAll]
/-! ### what a def leaves that only adds objects and turns two -/
def Kp (a b : Addr) (H H' : Hp) : Prop := ∀ c o, c ≠ a → c ≠ b → H c = some o → H' c = some o
theorem Kp.refl {a b : Addr} (H : Hp) : Kp a b H H := fun _ _ _ _ h => h
theorem Kp.trans {a b : Addr} {H H1 H2 : Hp} (x : Kp a b H H1) (y : Kp a b H1 H2) : Kp a b H H2 := fun c o h1 h2 h => y c o h1 h2 (x c o h1 h2 h)
theorem Kp.of {a b : Addr} {H H' : Hp} (h : Same H H') : Kp a b H H' := fun c o _ _ e => h c o e
theorem Kp.new {a b : Addr} {H : Hp} {p : Addr} {o : HO} (h : H p = none) : Kp a b H (upd H p o) := fun c u _ _ e => by
  rw [upd_ne (ne_of_none e h)]
  exact e
theorem Kp.put {a b : Addr} {H : Hp} {p : Addr} {o : HO} (h : p = a ∨ p = b) : Kp a b H (upd H p o) := fun c u h1 h2 e => by
  rw [upd_ne (by rcases h with rfl | rfl <;> assumption)]
  exact e
theorem Same.new {H : Hp} {p : Addr} {o : HO} (h : H p = none) : Same H (upd H p o) := fun c u e => by
  rw [upd_ne (ne_of_none e h)]
  exact e
end Sv

/-! enumerate over a tuple; count in a tuple of ints. -/
namespace PySem
open Sem (wp)
set_option maxHeartbeats 1000000 in
theorem sv_enum_new {v : Value} {o : Obj} {H : Heap → Prop} (B : Begins v o H) :
    Meets (Builtin.«enumerate.__new__» ⟨[.type "enumerate", v], []⟩)
      (fun _ R s => H s.heap ∧ R (.ok (.ret (.ref (s.heap.push o).objs.size)))
        { s with heap := Heap.push (Heap.push s.heap o) { cls := .type "enumerate", data := .fields #[.none, .bool false, .ref s.heap.objs.size, rawInt 0, .none, .none] } }) := by
  refine .of_wp fun prog w A R s h => ?_
  obtain ⟨hp, g, d, tk, os⟩ := s
  obtain ⟨h1, h⟩ := h
  have hsub := sub_enumerate
  have q1 : ∀ {A' : Around} {E' : Value → Shared → Prop} {Q' : Value → Shared → Prop},
      Q' (.ref hp.objs.size) ⟨hp.push o, g, d, tk, os⟩ → wpAny (model prog w) A' (pyIter v) Q' E' ⟨hp, g, d, tk, os⟩ :=
    fun q => B.iter prog w _ _ ⟨hp, g, d, tk, os⟩ _ h1 q
  wp_walk using q1
  refine wpAny_stack_any fun st => wpAny_pure ?_
  split
  · rename_i c _ _ _ _ _
    cases hcc : (c == Value.type "enumerate") <;> (wp_walk using q1; exact ⟨_, rfl, h⟩)
  · wp_walk using q1
    exact ⟨_, rfl, h⟩
section
variable {prog : Program} {w : World} {A : Around} {E : Value → Shared → Prop} {s : Shared}
theorem sv_enum_call {v : Value} {o : Obj} {H : Heap → Prop} {Q : Value → Shared → Prop} (B : Begins v o H) (h1 : H s.heap)
    (h : ∀ h', IsEnum h' (s.heap.objs.size + 1) s.heap.objs.size 0 .none → h'.get? s.heap.objs.size = some o →
      (∀ b u, s.heap.get? b = some u → h'.get? b = some u) → Q (.ref (s.heap.objs.size + 1)) { s with heap := h' }) :
    wpAny (model prog w) A (call (.type "enumerate") [v]) Q E s := by
  refine callType_new F.called_enumerate (by decide) (F.typeCall_enumerate_1 _) (F.newCall_enumerate_1 _)
    (fun obj => F.args_object_init_2 obj _) F.entry_enumerate_new (sv_enum_new B) ⟨h1, ?_⟩
  have hz : (s.heap.push o).objs.size = s.heap.objs.size + 1 := Heap.size_push ..
  show _ ∧ _
  rw [hz]
  have he := Heap.get?_push_size (s.heap.push o)
    (o := { cls := .type "enumerate", data := .fields #[.none, .bool false, .ref s.heap.objs.size, rawInt 0, .none, .none] }) rfl
  rw [hz] at he
  exact ⟨⟨_, he, rfl⟩, h _ he (Heap.get?_push_of_some _ (Heap.get?_push_size _ B.free))
    fun b u x => Heap.get?_push_of_some _ (Heap.get?_push_of_some _ x)⟩
end
end PySem
namespace Sv
open PySem PySem.Spec PyProof.Rows L2
/-- a tuple's items, each in a new pair with its number -/
def Itte (K : PySem.W.Frag) (a : Addr) (xs : List V) : It where
  go := fun i H => SqT K H a xs ∧ i < xs.length
  yld := fun i H v H' => ∃ T x, v = .ref T ∧ H T = none ∧ H' = upd H T (.tup [.int (i : Nat), x]) ∧ xs[i]? = some x
  stop := fun i H => SqT K H a xs ∧ i = xs.length
theorem turn_etup {P : Program} {w : World} {K : PySem.W.Frag} {elts : List Expr} {kk : Nat} {tpos : Pos} (a e it : Addr) (xs : List V) :
    Turn P w K (.Tuple elts kk tpos) (Itte K a xs) [e, it] e
      (fun i h => (∃ old, IsEnum h e it ((i : Nat) : Int) old) ∧ h.IsTupleIter it a i ∧ e ≠ it ∧ a ≠ it ∧ a ≠ e) where
  mem := by simp
  obj := fun i h st b hb => by
    obtain ⟨⟨old, he⟩, ⟨o, ho, hc, hd⟩, _⟩ := st
    rcases (show b = e ∨ b = it by simpa using hb) with rfl | rfl
    · exact ⟨_, he, fun v q => nomatch q⟩
    · exact ⟨o, ho, fun v q => by rw [hd] at q; cases q⟩
  keep := fun i h h' st k => by
    obtain ⟨⟨old, he⟩, hi, hr⟩ := st
    exact ⟨⟨old, k e (by simp) _ he⟩, hi.at fun o q => k it (by simp) o q, hr⟩
  item := by
    intro X hP hw hK hc i pins s σ H E I hf st hg
    subst hP hw hK
    obtain ⟨⟨old, he⟩, hit, hne, hai, hae⟩ := st
    obtain ⟨hq, hi⟩ := hg
    obtain ⟨its, rv, p, hz⟩ := I.tuple hq
    have hlen := rv.length
    have hel : e < s.heap.objs.size := Heap.lt_size he
    have hil : it < s.heap.objs.size := by
      obtain ⟨_, q, _⟩ := hit
      exact Heap.lt_size q
    have D : Draws X.prog X.w X.A.in1 it [it, a] its.toArray.size (fun i v => its.toArray[i]? = some v)
        (fun i h => h.IsTupleIter it a i ∧ h.IsTuple a its.toArray) := Draws.tuple (A := X.A.in1) (show X.A.in1.handled = none from I.ok.hd hc) it a hai its.toArray
    refine wpAny_pyNext_enum_itemD D he ⟨hit, p⟩ (by rw [List.size_toArray]; omega) hne (by simp [hne, Ne.symm hae]) fun u h' tk hPu ho hst hT hsz hk => ?_
    refine ⟨_, rfl, wpAny_letOwnedTupleGo_enum (s := { s with heap := h', toks := tk + 1 }) ho fun h'' he' sb => ?_⟩
    obtain ⟨x, hx⟩ : ∃ x, xs[i]? = some x := ⟨_, List.getElem?_eq_getElem hi⟩
    obtain ⟨u', hu', ru⟩ := rv.get hx
    have hPu' : its[i]? = some u := by simpa using hPu
    obtain rfl : u' = u := Option.some.inj (hu'.symm.trans hPu')
    have hT2 : h''.get? s.heap.objs.size = some { cls := .type "tuple", data := .seq #[.int i tk, u'] } := (sb.2 _ (Nat.ne_of_gt hel)).trans hT
    have new : ObjOk X.prog X.w (upd H s.heap.objs.size (.tup [.int (i : Nat), x])) h'' s.heap.objs.size (.tup [.int (i : Nat), x]) := by
      refine ⟨?_, [.int i tk, u'], .cons ⟨_, rfl⟩ (.cons ru .nil), ⟨_, hT2, rfl, _, rfl⟩⟩
      show 2 ≤ sizeLine
      decide
    have I1 : Inv X pins σ (upd H s.heap.objs.size (.tup [.int (i : Nat), x])) { s with heap := h'', toks := tk + 1 } := by
      refine I.turnedNew (ch := [e, it]) (fun b ob hb q => ?_) hf (Nat.le_refl _) new
      have nb : b ≠ e ∧ b ≠ it := by simpa using hb
      exact (sb.2 b nb.1).trans (hk b ob nb.1 nb.2 q)
    refine ⟨.ref s.heap.objs.size, _, I1, rfl, ⟨_, x, rfl, I.hok.fresh (Nat.le_refl _), rfl, hx⟩,
      ⟨⟨u', ?_⟩, hst.1.at fun o q => (sb.2 it (Ne.symm hne)).trans q, hne, hai, hae⟩, fun b hb => ?_⟩
    · have e1 : ((i + 1 : Nat) : Int) = (i : Int) + 1 := by omega
      rw [e1]
      exact he'
    · have hb' : b < s.heap.objs.size := by
        rcases (show b = e ∨ b = it by simpa using hb) with rfl | rfl <;> assumption
      rw [upd_ne (Nat.ne_of_lt hb')]
      exact (hf b hb).1
  done := by
    intro X hP hw hK hc i pins s σ H E I hf st hg
    subst hP hw hK
    obtain ⟨⟨old, he⟩, hit, hne, hai, hae⟩ := st
    obtain ⟨hq, hi⟩ := hg
    obtain ⟨its, rv, p, hz⟩ := I.tuple hq
    have hlen := rv.length
    obtain ⟨f0, f1, f2, f3, f4, f5⟩ := hf it (by simp)
    have D : Draws X.prog X.w X.A.in1 it [it, a] its.toArray.size (fun i v => its.toArray[i]? = some v)
        (fun i h => h.IsTupleIter it a i ∧ h.IsTuple a its.toArray) := Draws.tuple (A := X.A.in1) (show X.A.in1.handled = none from I.ok.hd hc) it a hai its.toArray
    have hi2 : i = its.toArray.size := by
      rw [List.size_toArray]
      omega
    have hit2 : s.heap.IsTupleIter it a its.toArray.size := hi2 ▸ hit
    exact wpAny_pyNext_enum_endD D he ⟨hit2, p⟩ fun h' eb => ⟨rfl, I.turned (t' := s.toks) (fun b o hb q => eb b o hb q) f0 f1 f3 f4 f5⟩
  self := fun A i s Q E st h => by
    obtain ⟨⟨_, he⟩, _⟩ := st
    exact wpAny_pyIter_enum he h
def iEnumT (K : PySem.W.Frag) (ta : TA) : TI := fun σ H R => ta σ H fun vs H1 => ∃ a xs, vs = [.ref a] ∧ SqT K H1 a xs ∧ R (Itte K a xs) H1
/-- for i, x in enumerate(t), t a tuple -/
theorem pi_enumT {X : Cx} {e : Expr} {ta : TA} {p pos tpos : Pos} {elts : List Expr} {kk : Nat} (hg : Gl X "enumerate") (hm : X.mg "enumerate" = none) (ha : PA X [e] ta)
    (hs : starEach [e] X.env = [(false, eval e X.env)] := by rfl) : PI X (.Tuple elts kk tpos) (.Call (.Name "enumerate" p) [e] [] pos) (iEnumT X.K ta) := by
  refine ⟨fun pins s σ H R I h => ?_⟩
  refine Call_ (ld_blt I hg hm boot_enumerate (PyProof.Rows.callWith_type1 (thn (ha.run pos pins s σ H _ I h) fun us s1 ⟨vs, H1, I1, r1, q1⟩ => ?_) hs rfl))
  obtain ⟨a, xs, rfl, hq, q⟩ := q1
  obtain ⟨u, rfl, ru⟩ := vals1 r1
  cases ru
  obtain ⟨its, rv, p', hz⟩ := I1.tuple hq
  have hal : a < s1.heap.objs.size := by
    obtain ⟨o, ho, _⟩ := id p'
    exact Heap.lt_size ho
  refine sv_enum_call (begins_tuple a its.toArray) p' fun h' he hit hk => wpAny_pyIter_enum he ?_
  have I2 : Inv X pins σ H1 { s1 with heap := h' } := I1.kept (t' := s1.toks) hk
  refine ⟨s1.heap.objs.size + 1, [s1.heap.objs.size + 1, s1.heap.objs.size], _, _, H1, rfl, I2, turn_etup a (s1.heap.objs.size + 1) s1.heap.objs.size xs,
    ⟨⟨.none, he⟩, ⟨_, hit, rfl, rfl⟩, Nat.succ_ne_self _, Nat.ne_of_lt hal, Nat.ne_of_lt (Nat.lt_succ_of_lt hal)⟩, fun b hb => ?_, q⟩
  have hle : s1.heap.objs.size ≤ b := by
    rcases (show b = s1.heap.objs.size + 1 ∨ b = s1.heap.objs.size by simpa using hb) with rfl | rfl
    · exact Nat.le_succ _
    · exact Nat.le_refl _
  exact I1.fpOk hle (I1.hok.fresh hle)
/-- the comprehension over it -/
theorem lc_etup {K : PySem.W.Frag} {a : Addr} {xs : List V} {g : TG} {tt : TT} {te : TE} {vs : List Nat} {σ : L2.St} {H1 : Hp} {D : Addr} {Qd : Hp → Prop} (Pv : Nat → Hp → Prop) (h0 : Pv 0 (upd H1 D (.lst [])))
    (hl : ∀ i H, i ≤ xs.length → Pv i H → SqT K H a xs)
    (hs : ∀ i x T H, xs[i]? = some x → Pv i H → H T = none → g (.ref T) (wipe σ vs) (upd H T (.tup [.int (i : Nat), x])) fun σ2 H2 => wipe σ2 vs = wipe σ vs ∧ tt σ2 H2 fun b H3 =>
      if b = true then te σ2 H3 fun y H4 => ∃ acc, H4 D = some (.lst acc) ∧ acc.length < sizeLine ∧ Pv (i + 1) (upd H4 D (.lst (acc ++ [y]))) else Pv (i + 1) H3) (hd : ∀ H, Pv xs.length H → Qd H) :
    ∃ W : Nat → Nat → Hp → Prop, (∃ m, W 0 m (upd H1 D (.lst []))) ∧ ∀ i m H, W i m H →
      ((Itte K a xs).stop i H ∧ Qd H) ∨ ((Itte K a xs).go i H ∧ ∃ Nx : Hp → Prop, (∀ H', Nx H' → ∃ m', m' < m ∧ W (i + 1) m' H') ∧ ∀ x H', (Itte K a xs).yld i H x H' → g x (wipe σ vs) H' fun σ2 H2 => wipe σ2 vs = wipe σ vs ∧ tt σ2 H2 fun b H3 =>
        if b = true then te σ2 H3 fun y H4 => ∃ acc, H4 D = some (.lst acc) ∧ acc.length < sizeLine ∧ Nx (upd H4 D (.lst (acc ++ [y]))) else Nx H3) := by
  refine ⟨fun i m H => m = xs.length - i ∧ i ≤ xs.length ∧ Pv i H, ⟨xs.length, by simp, Nat.zero_le _, h0⟩, ?_⟩
  rintro i m H ⟨rfl, hi, p⟩
  have q := hl i H hi p
  by_cases hlt : i < xs.length
  · refine .inr ⟨⟨q, hlt⟩, Pv (i + 1), fun H' p' => ⟨xs.length - (i + 1), by omega, rfl, hlt, p'⟩, fun x H' y => ?_⟩
    obtain ⟨T, z, rfl, nT, rfl, hz⟩ := y
    exact hs i z T H hz p nT
  · have e : i = xs.length := by omega
    subst e
    exact .inl ⟨⟨q, rfl⟩, hd H p⟩
theorem for_etup {K : PySem.W.Frag} {a : Addr} {xs : List V} {g : TG} {tb : TS} {D : Ends} {σ : L2.St} {H : Hp} (Pv : Nat → L2.St → Hp → Prop) (h0 : Pv 0 σ H) (hl : ∀ i σ H, i ≤ xs.length → Pv i σ H → SqT K H a xs)
    (hs : ∀ i x T σ H, xs[i]? = some x → Pv i σ H → H T = none → g (.ref T) σ (upd H T (.tup [.int (i : Nat), x])) fun σ2 H2 => tb { D with nx := Pv (i + 1), ct := Pv (i + 1), bk := D.nx } σ2 H2) (hd : ∀ σ H, Pv xs.length σ H → D.nx σ H) :
    ∃ W : Nat → Nat → L2.St → Hp → Prop, (∃ m, W 0 m σ H) ∧ ∀ i m σ H, W i m σ H →
      ((Itte K a xs).stop i H ∧ D.nx σ H) ∨ ((Itte K a xs).go i H ∧ ∃ N : L2.St → Hp → Prop, (∀ σ' H', N σ' H' → ∃ m', m' < m ∧ W (i + 1) m' σ' H') ∧ ∀ x H', (Itte K a xs).yld i H x H' → g x σ H' fun σ2 H2 => tb { D with nx := N, ct := N, bk := D.nx } σ2 H2) := by
  refine ⟨fun i m σ H => m = xs.length - i ∧ i ≤ xs.length ∧ Pv i σ H, ⟨xs.length, by simp, Nat.zero_le _, h0⟩, ?_⟩
  rintro i m σ H ⟨rfl, hi, p⟩
  have q := hl i σ H hi p
  by_cases hlt : i < xs.length
  · refine .inr ⟨⟨q, hlt⟩, Pv (i + 1), fun σ' H' p' => ⟨xs.length - (i + 1), by omega, rfl, hlt, p'⟩, fun x H' y => ?_⟩
    obtain ⟨T, z, rfl, nT, rfl, hz⟩ := y
    exact hs i z T σ H hz p nT
  · have e : i = xs.length := by omega
    subst e
    exact .inl ⟨⟨q, rfl⟩, hd σ H p⟩
def rLenS (K : PySem.W.Frag) : List V → Hp → VK → Prop := fun xs H Q => ∃ p ys, xs = [.ref p] ∧ (SqL K H p ys ∨ SqT K H p ys) ∧ Q (.int ys.length) H
theorem call_len_s {X : Cx} : CallR X (.builtin "len") (rLenS X.K) := call_len_seq
/-- a comprehension's block that reads no name from around it -/
theorem blkOk_nf {N : List Str} {sc scope : Scope} {own : List (Str × Nat)} (h : blkC N { kind := .function, names := [], isGenerator := false, isCoroutine := false } scope own = true) (hf : (scope.names.all fun y => decide (y.2 ≠ .free)) = true) : BlkOk N sc scope own := by
  have b := blkOk_by h
  exact ⟨b.kind, b.uniq, b.ix, fun y hy e => absurd e (of_decide_eq_true (List.all_eq_true.mp hf y hy)), b.own⟩
section
variable {X : Cx}
def rTcount (K : PySem.W.Frag) : V → List V → Hp → VK → Prop := fun x args H Q => ∃ (p : Addr) (ns : List Int) (k : Int), x = .ref p ∧ args = [.int k] ∧ SqT K H p (ns.map V.int) ∧ Q (.int (ns.count k : Nat)) H
/-- t.count(k), t a tuple of ints -/
theorem mt_tcount (hu : X.A.units + 64 < cLine) : MtR X "tuple.count" (rTcount X.K) := by
  intro pins s σ H x args v us Q I rx ra h
  obtain ⟨p, ns, k, rfl, rfl, hs, q⟩ := h
  cases rx
  obtain ⟨u, rfl, ru⟩ := vals1 ra
  obtain ⟨t, rfl⟩ := ru
  obtain ⟨its, rv, p1, hz⟩ := I.tuple hs
  obtain ⟨as, R1⟩ := Dp.readsAll I (iD ns) (ns.map V.int) its (dp_ints ns) rv
  have hpl : ∀ ns : List Int, PyData.plainAll (iD ns) = true := by
    intro ns
    induction ns with
    | nil => rfl
    | cons n r ih => exact ih
  have hcnt : ((iD ns).countP fun y => PyData.eqv y (.int k)) = ns.count k := by
    clear R1 rv hs hz q
    induction ns with
    | nil => rfl
    | cons n r ih =>
      have e : PyData.eqv (.int n) (.int k) = (n == k) := by simp only [PyData.eqv]
      simp only [iD, List.map_cons, List.countP_cons, List.count_cons] at ih ⊢
      rw [ih, e]
  refine SeqAt.count_tuple_data (vs := its.toArray) p1 R1 (Reads.int k t) (hpl ns) rfl ?_ ?_
  · have : min (PyData.depthAll (iD ns)) (PyData.int k).depth ≤ 0 := Nat.min_le_right _ _
    omega
  · rw [hcnt]
    exact ⟨.int (ns.count k : Nat), H, I.tok _, ⟨_, rfl⟩, q⟩
end
end Sv

/-! more of tuples of ints: index, slices; kinds of values. -/
namespace Sv
open PySem PySem.Spec PyProof.Rows L2
theorem idx_lt : ∀ {ns : List Int} {k : Int} {m : Nat}, m < ns.idxOf k → ns[m]? ≠ some k
  | [], k, m, h => by simp at h
  | n :: r, k, m, h => by
    rw [List.idxOf_cons] at h
    by_cases e : n = k
    · subst e
      simp at h
    · have e1 : (n == k) = false := beq_eq_false_iff_ne.mpr e
      rw [e1] at h
      cases m with
      | zero => exact fun z => e (Option.some.inj z)
      | succ m => exact fun z => idx_lt (ns := r) (m := m) (by simpa using h) z
theorem flat_ints (ns : List Int) : (ns.map V.int).all flatV = true := by
  rw [List.all_map]
  exact List.all_eq_true.mpr fun _ _ => rfl
theorem in_ints {ns : List Int} {k : Int} : inV (.int k) (ns.map V.int) = decide (k ∈ ns) := by
  unfold inV
  induction ns with
  | nil => rfl
  | cons n r ih =>
    rw [List.map_cons, List.any_cons, ih]
    show ((n == k) || decide (k ∈ r)) = decide (k ∈ n :: r)
    by_cases h : n = k
    · subst h
      simp
    · have h1 : (n == k) = false := beq_eq_false_iff_ne.mpr h
      rw [h1, Bool.false_or]
      simp [Ne.symm h]
section
variable {X : Cx}
def rTindex (K : PySem.W.Frag) : V → List V → Hp → VK → Prop := fun x args H Q => ∃ (p : Addr) (ns : List Int) (k : Int), x = .ref p ∧ args = [.int k] ∧ SqT K H p (ns.map V.int) ∧ k ∈ ns ∧ Q (.int (ns.idxOf k : Nat)) H
/-- t.index(k), k in t -/
theorem mt_tindex : MtR X "tuple.index" (rTindex X.K) := by
  intro pins s σ H x args v us Q I rx ra h
  obtain ⟨p, ns, k, rfl, rfl, hs, hk, q⟩ := h
  cases rx
  obtain ⟨u, rfl, ru⟩ := vals1 ra
  obtain ⟨t, rfl⟩ := ru
  obtain ⟨its, rv, ⟨⟨cls, dd, dt, sl⟩, ho, hc, n, hd⟩, hz⟩ := I.tuple hs
  simp only at hc hd
  subst hc hd
  have hlen : its.length = ns.length := by rw [← rv.length, List.length_map]
  have hj : ns.idxOf k < ns.length := List.idxOf_lt_length_iff.mpr hk
  have at' : ∀ (m : Nat) (hm : m < its.toArray.size), ∃ t' : Tok, ∃ hm2 : m < ns.length, its.toArray[m] = Value.int ns[m] t' := by
    intro m hm
    have hm2 : m < ns.length := by
      rw [List.size_toArray] at hm
      omega
    obtain ⟨w, hw, t', hw'⟩ := rv.get (i := m) (x := .int ns[m]) (at_map' (List.getElem?_eq_getElem hm2))
    refine ⟨t', hm2, ?_⟩
    have e := (List.getElem?_eq_some_iff.mp hw).2
    rw [← hw', ← e]
    simp
  refine call_meets PySem.F.slot_tuple_index ⟨_, ho, rfl⟩ PySem.F.entry_tuple_index (PySem.F.args_tuple_index_2 _ _)
    (TI.tuple_indexAt p its.toArray n dd sl (.int k t) (eqU (.int k)) (ns.idxOf k) (by rw [List.size_toArray]; omega) ?_ ?_)
    ⟨ho, fun w hw => mem_eqAt (x := .int k) ⟨t, rfl⟩ rfl rv (flat_ints ns) w (by simpa using hw), ⟨.int (ns.idxOf k : Nat), H, I.tok _, ⟨_, rfl⟩, q⟩⟩
  · obtain ⟨t', h2, h3⟩ := at' (ns.idxOf k) (by rw [List.size_toArray]; omega)
    rw [h3]
    show (ns[ns.idxOf k] == k) = true
    rw [beq_iff_eq]
    exact List.getElem_idxOf h2
  · intro m hm hmj
    obtain ⟨t', h2, h3⟩ := at' m hm
    rw [h3]
    show (ns[m] == k) = false
    refine beq_eq_false_iff_ne.mpr fun z => idx_lt hmj ?_
    rw [List.getElem?_eq_getElem h2, z]
where
  at_map' {ns : List Int} {m : Nat} {x : Int} (h : ns[m]? = some x) : (ns.map V.int)[m]? = some (.int x) := by
    rw [List.getElem?_map, h]
    rfl
/-- t[lo:hi], not the whole, known to bear no dict -/
def rSlTF (K : PySem.W.Frag) : V → Option Int → Option Int → Hp → VK → Prop := fun x lo hi H Q => ∃ a xs, x = .ref a ∧ SqT K H a xs ∧
  ¬ (HT.sIx xs.length 0 lo = 0 ∧ HT.sIx xs.length xs.length hi = xs.length) ∧ ∀ (p : Addr) (o : Obj), H p = none → o.dict = none → Q (.ref p) (upd H p (.frz o (.tup (cutV xs lo hi))))
theorem sl_tupF : SlR X (rSlTF X.K) := by
  intro pins s σ H x v vl vu lo hi sl Q I rx hs pl pu h
  obtain ⟨a, xs, rfl, hx, hw, q⟩ := h
  cases rx
  obtain ⟨its, r, ht, hz⟩ := I.tuple hx
  have hlen : its.toArray.size = xs.length := by
    rw [List.size_toArray]
    exact r.length.symm
  refine ⟨"tuple", _, PyProof.Rows.slot_tuple_getitem.lookup, ht.typeIs, ?_⟩
  have hnot : ¬ (HT.sIx its.toArray.size 0 lo = 0 ∧ HT.sIx its.toArray.size its.toArray.size hi = its.toArray.size) := by rwa [hlen]
  refine HT.getItem_tuple_cut ht hs pl pu hnot ?_ (hlen ▸ hz)
  rw [hlen]
  have hg := Heap.get?_push_size s.heap (o := { cls := .type "tuple", data := .seq ((its.toArray.toList.drop (HT.sIx xs.length 0 lo)).take (HT.sIx xs.length xs.length hi - HT.sIx xs.length 0 lo)).toArray }) rfl
  refine ⟨.ref s.heap.objs.size, _, I.laid (t' := s.toks) (o := .frz _ (.tup (cutV xs lo hi))) (fun b ob q => Heap.get?_push_of_some _ q) (Nat.le_refl _) ⟨hg, ?_⟩, rfl, q _ _ (I.hok.fresh (Nat.le_refl _)) rfl⟩
  exact ⟨Nat.le_trans (cutV_length xs lo hi) hz, _, (r.drop (HT.sIx xs.length 0 lo)).take (HT.sIx xs.length xs.length hi - HT.sIx xs.length 0 lo), ⟨_, hg, rfl, _, rfl⟩⟩
end
theorem cut_to {xs : List V} {i : Nat} (h : i ≤ xs.length) : cutV xs none (some (i : Int)) = xs.take i := by
  unfold cutV
  rw [HT.sIx_none, HT.sIx_nat, Nat.min_eq_left h]
  rfl
theorem cut_from {xs : List V} {i : Nat} (h : i ≤ xs.length) : cutV xs (some (i : Int)) none = xs.drop i := by
  unfold cutV
  rw [HT.sIx_none, HT.sIx_nat, Nat.min_eq_left h]
  exact List.take_of_length_le (by rw [List.length_drop]; omega)
/-! ### kinds of values -/
inductive Kn (K : PySem.W.Frag) (H : Hp) : V → Prop
  | non : Kn K H .non
  | bl (b : Bool) : Kn K H (.bl b)
  | int (i : Int) : Kn K H (.int i)
  | str (x : Str) : Kn K H (.str x)
  | lst {a : Addr} {xs : List V} (e : H a = some (.lst xs)) : Kn K H (.ref a)
  | tup {a : Addr} {xs : List V} (e : H a = some (.tup xs)) : Kn K H (.ref a)
  | ftup {a : Addr} {o : Obj} {xs : List V} (e : H a = some (.frz o (.tup xs))) : Kn K H (.ref a)
  | dK {a : Addr} {kvs : List (Key × V)} (e : H a = some (.dK kvs)) : Kn K H (.ref a)
theorem Kn.same {K : PySem.W.Frag} {H H' : Hp} {v : V} (h : Kn K H v) (e : ∀ b o, H b = some o → H' b = some o) : Kn K H' v := by
  cases h with
  | non => exact .non
  | bl b => exact .bl b
  | int i => exact .int i
  | str x => exact .str x
  | lst h => exact .lst (e _ _ h)
  | tup h => exact .tup (e _ _ h)
  | ftup h => exact .ftup (e _ _ h)
  | dK h => exact .dK (e _ _ h)
def isI : V → Bool
  | .int _ => true
  | .bl _ => true
  | _ => false
def isB : V → Bool
  | .bl _ => true
  | _ => false
theorem Kn.isInt {K : PySem.W.Frag} {H : Hp} {v : V} (h : Kn K H v) : ∃ t, TyX K H v t ∧ PySem.W.kitOne K t (.type "int") = some (isI v) := by
  cases h with
  | non => exact ⟨_, .base .non, kit_ty (by decide +kernel)⟩
  | bl b => exact ⟨_, .base (.bl b), kit_ty (by show kitB "bool" "int" = some true; decide +kernel)⟩
  | int i => exact ⟨_, .base (.int i), kit_ty (by show kitB "int" "int" = some true; decide +kernel)⟩
  | str x => exact ⟨_, .base (.str x), kit_ty (by show kitB "str" "int" = some false; decide +kernel)⟩
  | lst h => exact ⟨_, .base (.lst h), kit_ty (by show kitB "list" "int" = some false; decide +kernel)⟩
  | tup h => exact ⟨_, .base (.tup h), kit_ty (by show kitB "tuple" "int" = some false; decide +kernel)⟩
  | ftup h => exact ⟨_, .fTuple h, kit_ty (by show kitB "tuple" "int" = some false; decide +kernel)⟩
  | dK h => exact ⟨_, .base (.dK h), kit_ty (by show kitB "dict" "int" = some false; decide +kernel)⟩
theorem Kn.isBool {K : PySem.W.Frag} {H : Hp} {v : V} (h : Kn K H v) : ∃ t, TyX K H v t ∧ PySem.W.kitOne K t (.type "bool") = some (isB v) := by
  cases h with
  | non => exact ⟨_, .base .non, kit_ty (by decide +kernel)⟩
  | bl b => exact ⟨_, .base (.bl b), kit_ty (by show kitB "bool" "bool" = some true; decide +kernel)⟩
  | int i => exact ⟨_, .base (.int i), kit_ty (by show kitB "int" "bool" = some false; decide +kernel)⟩
  | str x => exact ⟨_, .base (.str x), kit_ty (by show kitB "str" "bool" = some false; decide +kernel)⟩
  | lst h => exact ⟨_, .base (.lst h), kit_ty (by show kitB "list" "bool" = some false; decide +kernel)⟩
  | tup h => exact ⟨_, .base (.tup h), kit_ty (by show kitB "tuple" "bool" = some false; decide +kernel)⟩
  | ftup h => exact ⟨_, .fTuple h, kit_ty (by show kitB "tuple" "bool" = some false; decide +kernel)⟩
  | dK h => exact ⟨_, .base (.dK h), kit_ty (by show kitB "dict" "bool" = some false; decide +kernel)⟩
/-- a number from lo to hi -/
def numIn (v : V) (lo hi : Int) : Bool := match v with
  | .int i => decide (lo ≤ i) && decide (i ≤ hi)
  | _ => false
def spNum (K : PySem.W.Frag) : Sp := fun vs H Q _ => ∃ (v : V) (lo hi : Int), vs = [v, .int lo, .int hi] ∧ Kn K H v ∧ Q (.bl (numIn v lo hi)) H
end Sv

namespace Sv
open PySem PySem.Spec PyProof.Rows L2
/-! ### the law's draws: places in the text -/
def topS (i : Nat) : Stmt := PySem.Challenge.pw_savelines_k07_whole_sendings_before_rece.main.body.getD i (.Pass ⟨0, 0, 0, 0⟩)
abbrev sState : Stmt := topS 14
abbrev sDraw : Stmt := topS 15
theorem scState : FnScope ["_law_script", "_law_cells", "_law_cell"] ["_law_script"] (defScope sState) := ⟨rfl, rfl, rfl, by decide +kernel, rfl, by decide +kernel, by decide +kernel⟩
theorem scDraw : FnScope ["_law_state_here", "_law_below", "_law_rest", "_law_cell", "_law_mixed_here"] ["_law_state_here", "_law_below"] (defScope sDraw) := ⟨rfl, rfl, rfl, by decide +kernel, rfl, by decide +kernel, by decide +kernel⟩

theorem ixn {n j : Nat} (hj : j < n) : ixN n (j : Int) = some j := by
  unfold ixN
  rw [if_pos (Int.natCast_nonneg j), if_pos (Int.ofNat_lt.mpr hj), Int.toNat_natCast]
/-- the draws' state: its list, the large cells, all cells, at most n draws so far -/
def StAt (H : Hp) (st big cel : Addr) (n : Nat) : Prop := st ≠ big ∧ st ≠ cel ∧ big ≠ cel ∧ n ≤ 1000000 ∧ ∃ (bs cs : List Int) (k : Int),
  H st = some (.lst [.ref big, .ref cel, .int k]) ∧ H big = some (.lst (bs.map V.int)) ∧ H cel = some (.lst (cs.map V.int)) ∧
  (∀ b ∈ bs, 0 ≤ b) ∧ (∀ c ∈ cs, 0 ≤ c) ∧ cs ≠ [] ∧ 0 ≤ k ∧ k ≤ n ∧ bs.length ≤ 63 ∧ cs.length ≤ 64
theorem StAt.same {H H' : Hp} {st big cel : Addr} {n : Nat} (h : StAt H st big cel n) (e : Same H H') : StAt H' st big cel n := by
  obtain ⟨h1, h2, h3, hn, bs, cs, k, a, b, c, r⟩ := h
  exact ⟨h1, h2, h3, hn, bs, cs, k, e _ _ a, e _ _ b, e _ _ c, r⟩
theorem StAt.le {H : Hp} {st big cel : Addr} {n m : Nat} (h : StAt H st big cel n) (e : n ≤ m) (em : m ≤ 1000000) : StAt H st big cel m := by
  obtain ⟨h1, h2, h3, hn, bs, cs, k, a, b, c, q1, q2, q3, q4, q5, r⟩ := h
  exact ⟨h1, h2, h3, em, bs, cs, k, a, b, c, q1, q2, q3, q4, Int.le_trans q5 (Int.ofNat_le.mpr e), r⟩
theorem StAt.tup {K : PySem.W.Frag} {H H' : Hp} {st big cel : Addr} {n : Nat} (h : StAt H st big cel n) (e : Kp st big H H') {a : Addr} {xs : List V} (q : SqT K H a xs) : SqT K H' a xs := by
  obtain ⟨h1, h2, h3, hn, bs, cs, k, ha, hb, hc, r⟩ := h
  rcases q with (q | ⟨o, q⟩) | q
  · exact .inl (.inl (e _ _ (ne_of q ha (by intro z; cases z)) (ne_of q hb (by intro z; cases z)) q))
  · exact .inl (.inr ⟨o, e _ _ (ne_of q ha (by intro z; cases z)) (ne_of q hb (by intro z; cases z)) q⟩)
  · exact .inr q
theorem StAt.tupN {H H' : Hp} {st big cel : Addr} {n : Nat} (h : StAt H st big cel n) (e : Kp st big H H') {a : Addr} {xs : List V} (q : TupN H a xs) : TupN H' a xs := by
  obtain ⟨h1, h2, h3, hn, bs, cs, k, ha, hb, hc, r⟩ := h
  obtain ⟨o, q, d⟩ := q
  exact ⟨o, e _ _ (ne_of q ha (by intro z; cases z)) (ne_of q hb (by intro z; cases z)) q, d⟩
theorem StAt.ne {H : Hp} {st big cel : Addr} {n : Nat} (h : StAt H st big cel n) {p : Addr} (q : H p = none) : st ≠ p ∧ big ≠ p ∧ cel ≠ p := by
  obtain ⟨h1, h2, h3, hn, bs, cs, k, ha, hb, hc, r⟩ := h
  exact ⟨ne_of_none ha q, ne_of_none hb q, ne_of_none hc q⟩

def spDraw : Sp := fun vs H Q _ => ∃ (st big cel : Addr) (n : Nat) (m : Int), vs = [.ref st, .int m] ∧ 0 < m ∧ m < 1000000 ∧ StAt H st big cel n ∧ n < 1000000 ∧
  ∀ (H' : Hp) (v : Int), 0 ≤ v → v < m → StAt H' st big cel (n + 1) → Kp st big H H' → Q (.int v) H'
section
variable {P : Program} {w : World} {K : PySem.W.Frag} {mg : Str → Option Value} {base : Heap}
theorem ok_draw {f : Addr} {fd : FuncData} (F : Fun K "_law_draw" "_law_draw" sDraw f fd) (ml : mg "len" = none) : FnOk P w K mg base CX0 1 f fd ["_law_state_here", "_law_below"] spDraw := by
  refine F.ok scDraw (fun vs H Q E h => ?_) (fun cdv A outer s H vs Q E hr h => ?_)
  · obtain ⟨st, big, cel, n, m, rfl, _⟩ := h
    rfl
  · obtain ⟨st, big, cel, n, m, rfl, m0, m1, hS, hn, q⟩ := h
    have pl : ∀ (i : Int) (j : Nat) (p : Pos), PlainIx (.Constant (.int i) j p) := fun _ _ _ _ _ => rfl
    refine ⟨_, pss_cons (ps_while PassesOwn.never
        (pt_cmpR (op_neD hr.units) (pe_ix ix_list (pv 0) pe_int (fun _ _ => rfl)) (pe_lst pa_nil) (nomark _))
        (pss_cons (ps_set (i := 2) scDraw.nd rfl (.inl rfl) (pe_ix ix_list (pe_ix ix_list (pv 0) pe_int (fun _ _ => rfl)) pe_int (fun _ _ => rfl)))
        (pss_cons (ps_if (pt_cmpR op_gt (pv 2) pe_int (nomark _))
            (pss_cons (ps_asg (pe_op op_fdiv (pv 2) (pv 1)) (pg_sub (pe_ix ix_list (pv 0) pe_int (fun _ _ => rfl)) pe_int set_list))
            (pss_one (ps_ret (pe_op op_mod (pv 2) (pv 1))))) pss_nil)
        (pss_one (ps_expr (pe_bm PySem.F.plainAttrs_list PySem.F.slot_list_pop PySem.F.type_list_pop mt_popAt (pe_ix ix_list (pv 0) pe_int (fun _ _ => rfl)) (pa_cons pe_int pa_nil)))))))
      (pss_cons (ps_asg (pe_op op_add (pe_ix ix_list (pv 0) pe_int (fun _ _ => rfl)) pe_int) (pg_sub (pv 0) pe_int set_list))
      (pss_cons (ps_set (i := 3) scDraw.nd rfl (.inl rfl) (pe_op op_mod (pe_ix ix_list (pe_ix ix_list (pv 0) pe_int (fun _ _ => rfl)) (pe_op op_mod (pe_ix ix_list (pv 0) pe_int (fun _ _ => rfl)) (pe_callB call_len_seq (by rfl) ml PySem.boot_len (pa_cons (pe_ix ix_list (pv 0) pe_int (fun _ _ => rfl)) pa_nil))) (fun _ _ => rfl)) pe_int))
      (pss_cons (ps_set (i := 4) scDraw.nd rfl (.inl rfl) (pe_op op_add (pe_op op_mul (pv 3) (pe_op op_add pe_int (pe_op op_mul pe_int (pe_ix ix_list (pv 0) pe_int (fun _ _ => rfl))))) pe_int))
      (pss_cons (ps_set (i := 4) scDraw.nd rfl (.inl rfl) (pe_op op_mod (pe_op op_add (pv 4) (pe_op op_mul (pe_op op_mul pe_int (pe_ix ix_list (pv 0) pe_int (fun _ _ => rfl))) (pe_ix ix_list (pv 0) pe_int (fun _ _ => rfl)))) pe_int))
      (pss_one (ps_ret (pe_op op_mod (pe_op op_fdiv (pe_op op_mod (pe_op op_mul (pv 4) (pv 4)) pe_int) pe_int) (pv 1)))))))), ?_⟩
    obtain ⟨n1, n2, n3, hn', bs, cs, k, ha, hb, hc, q1, q2, q3, q4, q5, q6, q7⟩ := hS
    refine while_by (fun σ H1 => ∃ (bs : List Int) (x2 : Option V), σ = [some (.ref st), some (.int m), x2, none, none] ∧ H1 st = some (.lst [.ref big, .ref cel, .int k]) ∧
        H1 big = some (.lst (bs.map V.int)) ∧ H1 cel = some (.lst (cs.map V.int)) ∧ (∀ b ∈ bs, 0 ≤ b) ∧ bs.length ≤ 63 ∧ Kp st big H H1)
      (fun σ H1 => match H1 big with | some (.lst xs) => xs.length | _ => 0) ⟨bs, none, rfl, ha, hb, hc, q1, q6, .refl H⟩ ?_ ?_
    · rintro σ H1 ⟨bs, x2, rfl, a1, b1, c1, p1, p2, kp⟩
      -- the test
      have sA : SqL K H1 st [.ref big, .ref cel, .int k] := SqL.of a1
      have sB : SqL K H1 big (bs.map V.int) := SqL.of b1
      refine ⟨_, rfl, st, _, 0, _, rfl, rfl, sA, atI_nat (j := 0) rfl, Nat.zero_le _, fun e ne => ?_⟩
      have sm : Same H1 (upd H1 e (.lst [])) := Same.new ne
      have a2 := sm _ _ a1
      have b2 := sm _ _ b1
      have c2 := sm _ _ c1
      refine ⟨_, _, dp_lst (sm.seq sB), dp_nil (SqL.of upd_same), shaped_lst bs, shaped_nil, _, rfl, ?_⟩
      rw [eqv_nil]
      cases bs with
      | nil =>
        refine iteF ?_
        -- st[2] = st[2] + 1
        refine ⟨_, rfl, st, _, 2, _, rfl, rfl, SqL.of a2, atI_nat (j := 2) rfl, k, 1, rfl, rfl, _, rfl, st, _, 2, 2, rfl, rfl, a2, rfl, ?_⟩
        generalize hH3 : upd (upd H1 e (.lst [])) st (.lst ([V.ref big, V.ref cel, V.int k].set 2 (V.int (k + 1)))) = H3
        have a3 : H3 st = some (.lst [V.ref big, V.ref cel, V.int (k + 1)]) := by
          rw [← hH3]
          exact upd_same
        have b3 : H3 big = some (.lst (([] : List Int).map V.int)) := by
          rw [← hH3, upd_ne n1.symm]
          exact b2
        have c3 : H3 cel = some (.lst (cs.map V.int)) := by
          rw [← hH3, upd_ne n2.symm]
          exact c2
        have k3 : Kp st big H H3 := by
          rw [← hH3]
          exact (kp.trans (.new ne)).trans (.put (.inl rfl))
        have S3 := SqL.of (K := K) a3
        have C3 := SqL.of (K := K) c3
        have hl : 0 < cs.length := List.length_pos_iff.mpr q3
        have r0 : 0 ≤ (k + 1) % (cs.length : Int) := Int.emod_nonneg _ (by omega)
        have r1 : (k + 1) % (cs.length : Int) < (cs.length : Int) := Int.emod_lt_of_pos _ (by omega)
        obtain ⟨j, hj⟩ : ∃ j : Nat, (k + 1) % (cs.length : Int) = (j : Int) := ⟨_, (Int.toNat_of_nonneg r0).symm⟩
        have hjl : j < cs.length := by omega
        have hat : atI (cs.map V.int) ((k + 1) % (((cs.map V.int).length : Nat) : Int)) = some (V.int cs[j]) := by
          rw [List.length_map, hj]
          refine atI_nat ?_
          rw [List.getElem?_map, List.getElem?_eq_getElem hjl]
          rfl
        have hc0 : 0 ≤ cs[j] := q2 _ (List.getElem_mem hjl)
        -- cell
        refine ⟨.ref st, rfl, st, _, 1, .ref cel, rfl, rfl, S3, atI_nat (j := 1) rfl, .ref st, rfl, st, _, 2, .int (k + 1), rfl, rfl, S3, atI_nat (j := 2) rfl,
          .ref st, rfl, st, _, 1, .ref cel, rfl, rfl, S3, atI_nat (j := 1) rfl, cel, _, rfl, .inl C3, _, _, rfl, rfl, (by rw [List.length_map]; omega), cel, _, _, _, rfl, rfl, C3, hat, _, _, rfl, rfl, (show (0 : Int) < 2147483629 by decide), ?_⟩
        have e0 : 0 ≤ cs[j] % 2147483629 := Int.emod_nonneg _ (by decide)
        have e1 : cs[j] % 2147483629 < 2147483629 := Int.emod_lt_of_pos _ (by decide)
        generalize hcell : cs[j] % 2147483629 = cell at e0 e1 ⊢
        have kb : 0 ≤ k + 1 ∧ k + 1 ≤ 1000001 := by omega
        -- the two mixtures
        refine ⟨_, rfl, .ref st, rfl, st, _, 2, .int (k + 1), rfl, rfl, S3, atI_nat (j := 2) rfl, _, _, rfl, rfl, .inl ⟨by decide, by decide⟩, _, _, rfl, rfl, _, _, rfl, rfl, .inl ⟨by omega, by omega⟩, _, _, rfl, rfl, ?_⟩
        generalize cell * (69621 + 2 * (k + 1)) + 30011 = mx
        refine ⟨_, rfl, .ref st, rfl, st, _, 2, .int (k + 1), rfl, rfl, S3, atI_nat (j := 2) rfl, _, _, rfl, rfl, .inl ⟨by decide, by decide⟩, .ref st, rfl, st, _, 2, .int (k + 1), rfl, rfl, S3, atI_nat (j := 2) rfl,
          _, _, rfl, rfl, .inr ⟨by omega, by omega⟩, _, _, rfl, rfl, _, _, rfl, rfl, (show (0 : Int) < 2147483587 by decide), ?_⟩
        have f0 : 0 ≤ (mx + 48271 * (k + 1) * (k + 1)) % 2147483587 := Int.emod_nonneg _ (by decide)
        have f1 : (mx + 48271 * (k + 1) * (k + 1)) % 2147483587 < 2147483587 := Int.emod_lt_of_pos _ (by decide)
        generalize (mx + 48271 * (k + 1) * (k + 1)) % 2147483587 = my at f0 f1 ⊢
        refine ⟨_, rfl, _, rfl, _, _, rfl, rfl, .inl ⟨by omega, by omega⟩, _, _, rfl, rfl, (show (0 : Int) < 2147483563 by decide), _, _, rfl, rfl, ⟨by decide, by decide⟩, _, rfl, _, m, rfl, rfl, m0, ?_⟩
        refine q H3 _ (Int.emod_nonneg _ (by omega)) (Int.emod_lt_of_pos _ m0) ⟨n1, n2, n3, by omega, [], cs, k + 1, a3, b3, c3, fun _ z => (nomatch z), q2, q3, by omega, by omega, Nat.zero_le _, q7⟩ k3
      | cons b r =>
        refine iteT ?_
        have hb0 : 0 ≤ b := p1 b List.mem_cons_self
        refine ⟨.ref st, rfl, st, _, 0, .ref big, rfl, rfl, SqL.of a2, atI_nat (j := 0) rfl, big, _, 0, .int b, rfl, rfl, SqL.of b2, atI_nat (j := 0) rfl, ?_⟩
        refine ⟨_, rfl, b, 0, rfl, rfl, _, rfl, ite2 (fun hb1 => ?_) (fun hb1 => ?_)⟩
        · -- a digit
          refine ⟨_, rfl, _, rfl, b, m, rfl, rfl, ⟨m0, by omega⟩, .ref st, rfl, st, _, 0, .ref big, rfl, rfl, SqL.of a2, atI_nat (j := 0) rfl, big, _, 0, 0, rfl, rfl, b2, ixn (j := 0) (by simp), ?_⟩
          refine ⟨_, rfl, _, rfl, b, m, rfl, rfl, m0, ?_⟩
          refine q _ _ (Int.emod_nonneg _ (by omega)) (Int.emod_lt_of_pos _ m0) ⟨n1, n2, n3, by omega, (b / m) :: r, cs, k, ?_, ?_, ?_, ?_, q2, q3, q4, by omega, p2, q7⟩ ((kp.trans (.new ne)).trans (.put (.inr rfl)))
          · rw [upd_ne n1]
            exact a2
          · exact upd_same
          · rw [upd_ne n3.symm]
            exact c2
          · intro z hz
            rcases List.mem_cons.mp hz with rfl | hz
            · exact Int.ediv_nonneg hb0 (by omega)
            · exact p1 z (List.mem_cons_of_mem _ hz)
        · -- a number used up
          refine ⟨.ref st, rfl, st, _, 0, .ref big, rfl, rfl, SqL.of a2, atI_nat (j := 0) rfl, .inl ⟨rfl, _, SqL.of b2⟩, big, _, 0, 0, .int b, rfl, rfl, b2, (by decide), (by decide), ?_, rfl, ⟨r, _, rfl, ?_, upd_same, ?_, fun z hz => p1 z (List.mem_cons_of_mem _ hz), ?_, (kp.trans (.new ne)).trans (.put (.inr rfl))⟩, ?_⟩
          · exact seqIndex_of (by decide) (by simp)
          · rw [upd_ne n1]
            exact a2
          · rw [upd_ne n3.symm]
            exact c2
          · rw [List.length_cons] at p2
            omega
          · simp only [upd_same, b1]
            simp
    · rintro σ H1 Q1 Q2 hQ ⟨v1, e1, p, xs, i, v, h2, h3, h4, h5, h6, h7⟩
      refine ⟨v1, e1, p, xs, i, v, h2, h3, h4, h5, h6, fun e ne => ?_⟩
      obtain ⟨d1, d2, g1, g2, g3, g4, c, g5, g6⟩ := h7 e ne
      exact ⟨d1, d2, g1, g2, g3, g4, c, g5, hQ _ _ g6⟩
end

end Sv

namespace Sv
open PySem PySem.Spec PyProof.Rows L2
theorem sz {n : Nat} (h : n ≤ 1000) : n ≤ sizeLine := Nat.le_of_lt (small1000 h)
theorem yesT {σ : L2.St} {H : Hp} {A B : Hp → Prop} (h : A H) : tYes σ H (fun b H3 => if b = true then A H3 else B H3) := by
  show (if true = true then A H else B H)
  rw [if_pos rfl]
  exact h
theorem Same.put {H H' : Hp} {p : Addr} {o : HO} (h : H p = none) (e : Same H H') : Same H (upd H' p o) := fun c u q => by
  rw [upd_ne (ne_of_none q h)]
  exact e _ _ q
def absI (n : Int) : Int := if n < 0 then -n else n
theorem absI_nn (n : Int) : 0 ≤ absI n := by
  unfold absI
  split <;> omega
def spState (K : PySem.W.Frag) : Sp := fun vs H Q _ => ∃ (a : Addr) (ns : List Int), vs = [.ref a] ∧ SqL K H a (ns.map V.int) ∧ ns.length ≤ 63 ∧
  ∀ (H' : Hp) (st big cel : Addr), StAt H' st big cel 0 → Same H H' → H st = none → H big = none → H cel = none → Q (.ref st) H'
section
variable {P : Program} {w : World} {K : PySem.W.Frag} {mg : Str → Option Value} {base : Heap}
theorem ok_state {f : Addr} {fd : FuncData} (F : Fun K "_law_state" "_law_state" sState f fd) (ml : mg "len" = none) (ma : mg "abs" = none) : FnOk P w K mg base CX0 1 f fd ["_law_script"] (spState K) := by
  refine F.ok scState (fun vs H Q E h => ?_) (fun cdv A outer s H vs Q E hr h => ?_)
  · obtain ⟨a, ns, rfl, _⟩ := h
    rfl
  · obtain ⟨a, ns, rfl, hS, hlen, q⟩ := h
    refine ⟨_, pss_cons (ps_setLc (i := 1) (own := [("_law_cell", 2)]) (g := gName 2) (by rfl) scState.nd rfl rfl (sw_true rfl rfl rfl (by decide +kernel)) (pi_list (pv 0))
        (blkOk_by (own := [("_law_cell", 2)]) (N := ["_law_script", "_law_cells", "_law_cell"]) (sc := defScope sState) (by decide +kernel))
        (fun _ _ _ _ _ => pg_name (i := 2) scState.nd rfl (Or.inl rfl)) (fun _ _ _ _ _ => pts_nil)
        (fun _ _ _ _ _ => pe_callB call_abs (by rfl) ma (by decide +kernel) (pa_cons (pv 2) pa_nil)))
      (pss_one (ps_ret (pe_lst (pa_cons (pe_lc (own := [("_law_cell", 2)]) (g := gName 2) (by rfl) scState.nd (pi_list (pv 1))
          (blkOk_by (own := [("_law_cell", 2)]) (N := ["_law_script", "_law_cells", "_law_cell"]) (sc := defScope sState) (by decide +kernel))
          (fun _ _ _ _ _ => pg_name (i := 2) scState.nd rfl (Or.inl rfl))
          (fun _ _ _ _ _ => pts_one (pt_cmpR op_ge (pv 2) (pe_op op_pow pe_int pe_int) (nomark _)))
          (fun _ _ _ _ _ => pv 2))
        (pa_cons (pe_op op_cat (pv 1) (pe_lst (pa_cons (pe_op op_add (pe_callB call_len_seq (by rfl) ml PySem.boot_len (pa_cons (pv 1) pa_nil)) pe_int) pa_nil)))
        (pa_cons pe_int pa_nil)))))), ?_⟩
    refine ⟨_, rfl, a, rfl, ⟨_, hS⟩, fun c nc => ?_⟩
    refine lc_list (K := K) (a := a) (xs := ns.map V.int) (fun i H1 => Same H H1 ∧ H1 c = some (.lst ((ns.take i).map fun n => V.int (absI n))))
      ⟨Same.new nc, upd_same⟩ (fun i H1 _ p => p.1.seq hS) (fun i x H1 hx p => ?_) (fun H1 p => ?_)
    · obtain ⟨n, hn, rfl⟩ : ∃ n, ns[i]? = some n ∧ V.int n = x := by
        rw [List.getElem?_map] at hx
        cases e : ns[i]? with
        | none => rw [e] at hx; cases hx
        | some n => rw [e] at hx; exact ⟨n, rfl, Option.some.inj hx⟩
      refine ⟨rfl, ?_⟩
      refine yesT ?_
      refine ⟨_, rfl, n, rfl, _, p.2, ?_, Same.put nc p.1, ?_⟩
      · rw [List.length_map, List.length_take]
        exact Nat.lt_of_le_of_lt (Nat.min_le_right _ _) (small1000 (by omega))
      · rw [upd_same, List.take_add_one, hn, List.map_append]
        rfl
    · obtain ⟨sm, hc⟩ := p
      rw [List.length_map, List.take_length] at hc
      have hC : SqL K H1 c (ns.map fun n => V.int (absI n)) := SqL.of hc
      -- the large cells
      refine ⟨_, rfl, c, rfl, ⟨_, hC⟩, fun d nd => ?_⟩
      have ecs : (ns.map fun n => V.int (absI n)) = (ns.map absI).map V.int := by rw [List.map_map]; rfl
      refine lc_list (K := K) (a := c) (xs := (ns.map absI).map V.int) (fun i H2 => Same H1 H2 ∧ ∃ bs : List Int, H2 d = some (.lst (bs.map V.int)) ∧ bs.length ≤ i ∧ ∀ b ∈ bs, 0 ≤ b)
        ⟨Same.new nd, [], upd_same, Nat.le_refl _, fun _ z => (nomatch z)⟩ (fun i H2 _ p => ecs ▸ p.1.seq hC) (fun i x H2 hx p => ?_) (fun H2 p => ?_)
      · obtain ⟨n, hn, rfl⟩ : ∃ n, (ns.map absI)[i]? = some n ∧ V.int n = x := by
          rw [List.getElem?_map] at hx
          cases e : (ns.map absI)[i]? with
          | none => rw [e] at hx; cases hx
          | some n => rw [e] at hx; exact ⟨n, rfl, Option.some.inj hx⟩
        have hi : i < ns.length := by
          have := (List.getElem?_eq_some_iff.mp hn).1
          rw [List.length_map] at this
          exact this
        have hn0 : 0 ≤ n := by
          have := List.mem_of_getElem? hn
          obtain ⟨m, _, rfl⟩ := List.mem_map.mp this
          exact absI_nn m
        obtain ⟨sm2, bs, hb, hl, h0⟩ := p
        refine ⟨rfl, _, rfl, _, _, rfl, rfl, ⟨by decide, by decide, by decide⟩, _, _, rfl, rfl, _, rfl, ite2 (fun _ => ?_) (fun _ => ?_)⟩
        · refine ⟨_, rfl, _, hb, ?_, Same.put nd sm2, bs ++ [n], ?_, ?_, ?_⟩
          · rw [List.length_map]
            exact small1000 (by omega)
          · rw [upd_same, List.map_append]
            rfl
          · rw [List.length_append, List.length_singleton]
            omega
          · intro b hb
            rcases List.mem_append.mp hb with hb | hb
            · exact h0 b hb
            · rw [List.mem_singleton.mp hb]
              exact hn0
        · exact ⟨sm2, bs, hb, Nat.le_succ_of_le hl, h0⟩
      · obtain ⟨sm2, bs, hb, hl, h0⟩ := p
        rw [List.length_map, List.length_map] at hl
        have c2 := sm2 _ _ hc
        refine ⟨_, rfl, _, rfl, c, _, rfl, .inl (SqL.of c2), _, _, rfl, rfl, sz (by show 1 ≤ 1000; decide), fun e ne => ?_⟩
        have s3 : Same H2 (upd H2 e (.lst [V.int (((ns.map fun n => V.int (absI n)).length : Int) + 7)])) := Same.new ne
        refine ⟨c, e, _, _, rfl, rfl, s3 _ _ c2, upd_same, ?_, fun g ng => ?_⟩
        · rw [List.length_map, List.length_singleton]
          exact Nat.le_of_lt (small1000 (by omega))
        · have s4 := s3.trans (Same.new (o := .lst ((ns.map fun n => V.int (absI n)) ++ [V.int (((ns.map fun n => V.int (absI n)).length : Int) + 7)])) ng)
          refine ⟨sz (by show 3 ≤ 1000; decide), fun st nst => ?_⟩
          have s5 := s4.trans (Same.new (o := .lst [V.ref d, V.ref g, V.int 0]) nst)
          have dg : d ≠ g := ne_of_none (s3 _ _ hb) ng
          refine q _ st d g ⟨(ne_of_none (s4 _ _ hb) nst).symm, fun z => ?_, dg, by decide, bs, ns.map absI ++ [((ns.length : Int) + 7)], 0, upd_same, s5 _ _ hb, ?_, h0, ?_, by simp, Int.le_refl _, Int.le_refl _, by omega, ?_⟩
            ((sm.trans sm2).trans s5) ((sm.trans sm2).trans s4 |>.free nst) ((sm.free nd)) ((sm.trans sm2).trans s3 |>.free ng)
          · rw [z, upd_same] at nst
            cases nst
          · rw [upd_ne (fun z => by rw [← z, upd_same] at nst; cases nst), upd_same, List.map_append, ← ecs]
            simp
          · intro b hb
            rcases List.mem_append.mp hb with hb | hb
            · obtain ⟨m, _, rfl⟩ := List.mem_map.mp hb
              exact absI_nn m
            · rw [List.mem_singleton.mp hb]
              omega
          · rw [List.length_append, List.length_map, List.length_singleton]
            omega
end

end Sv

namespace Sv
open PySem PySem.Spec PyProof.Rows L2
abbrev sMixed : Stmt := topS 16
abbrev sPick : Stmt := topS 17
theorem scMixed : FnScope ["_law_state_here", "_law_items", "_law_left", "_law_found"] ["_law_state_here", "_law_items"] (defScope sMixed) := ⟨rfl, rfl, rfl, by decide +kernel, rfl, by decide +kernel, by decide +kernel⟩
theorem scPick : FnScope ["_law_state_here", "_law_items"] ["_law_state_here", "_law_items"] (defScope sPick) := ⟨rfl, rfl, rfl, by decide +kernel, rfl, by decide +kernel, by decide +kernel⟩
theorem Kp.put' {a b : Addr} {H H1 : Hp} {p : Addr} {o : HO} (h : H p = none) (e : Kp a b H H1) : Kp a b H (upd H1 p o) := fun c u h1 h2 q => by
  rw [upd_ne (ne_of_none q h)]
  exact e _ _ h1 h2 q
theorem erase_perm {α : Type} : ∀ (l : List α) (i : Nat) (x : α), l[i]? = some x → (x :: l.eraseIdx i).Perm l
  | [], i, x, h => by simp at h
  | a :: r, 0, x, h => by
    have e : a = x := Option.some.inj h
    subst e
    exact .refl _
  | a :: r, i + 1, x, h => (List.Perm.swap a x _).trans ((erase_perm r i x h).cons a)
theorem eraseIdx_map {α β : Type} (f : α → β) : ∀ (l : List α) (i : Nat), (l.map f).eraseIdx i = (l.eraseIdx i).map f
  | [], _ => rfl
  | _ :: _, 0 => rfl
  | a :: r, i + 1 => by
    show f a :: (r.map f).eraseIdx i = f a :: (r.eraseIdx i).map f
    rw [eraseIdx_map f r i]
theorem at_map {α β : Type} {f : α → β} {l : List α} {i : Nat} {x : α} (h : l[i]? = some x) : (l.map f)[i]? = some (f x) := by
  rw [List.getElem?_map, h]
  rfl
theorem of_at_map {α β : Type} {f : α → β} {l : List α} {i : Nat} {y : β} (h : (l.map f)[i]? = some y) : ∃ x, l[i]? = some x ∧ f x = y := by
  rw [List.getElem?_map] at h
  cases e : l[i]? with
  | none => rw [e] at h; cases h
  | some x => rw [e] at h; exact ⟨x, rfl, Option.some.inj h⟩
def spMixed (K : PySem.W.Frag) : Sp := fun vs H Q _ => ∃ (st big cel a : Addr) (n : Nat) (ns : List Int), vs = [.ref st, .ref a] ∧ (SqL K H a (ns.map V.int) ∨ SqT K H a (ns.map V.int)) ∧ ns.length ≤ 1000 ∧
  StAt H st big cel n ∧ n + ns.length ≤ 1000000 ∧
  ∀ (H' : Hp) (t : Addr) (ms : List Int), H t = none → H' t = some (.tup (ms.map V.int)) → ms.Perm ns → StAt H' st big cel (n + ns.length) → Kp st big H H' → Q (.ref t) H'
/-- items[draw] of a list or a tuple -/
def spPick (K : PySem.W.Frag) : Sp := fun vs H Q _ => ∃ (st big cel a : Addr) (n : Nat) (xs : List V), vs = [.ref st, .ref a] ∧ a ≠ st ∧ a ≠ big ∧ SqL K H a xs ∧ xs ≠ [] ∧ xs.length < 1000000 ∧
  StAt H st big cel n ∧ n < 1000000 ∧ ∀ (H' : Hp) (i : Nat) (v : V), xs[i]? = some v → StAt H' st big cel (n + 1) → Kp st big H H' → Q v H'
section
variable {P : Program} {w : World} {K : PySem.W.Frag} {mg : Str → Option Value} {base : Heap}
theorem ok_mixed {f fD : Addr} {fd fdD : FuncData} (F : Fun K "_law_mixed" "_law_mixed" sMixed f fd) (FD : Fun K "_law_draw" "_law_draw" sDraw fD fdD) (bD : Binds K fdD ["_law_state_here", "_law_below"] [])
    (gD : mg "_law_draw" = some (.ref fD)) (ml : mg "len" = none) (mli : mg "list" = none) (mtu : mg "tuple" = none) : FnOk P w K mg base CX0 2 f fd ["_law_state_here", "_law_items"] (spMixed K) := by
  have GD : FnOk P w K mg base CX0 1 fD fdD ["_law_state_here", "_law_below"] spDraw := ok_draw FD ml
  refine F.ok scMixed (fun vs H Q E h => ?_) (fun cdv A outer s H vs Q E hr h => ?_)
  · obtain ⟨st, big, cel, a, n, ns, rfl, _⟩ := h
    rfl
  · obtain ⟨st, big, cel, a, n, ns, rfl, hA, hlen, hS, hn, q⟩ := h
    refine ⟨_, pss_cons (ps_par (i := 2) (j := 3) (by rfl) scMixed.nd rfl rfl (by decide) rfl rfl (pa_cons (pe_callTy call_list_of (by rfl) mli (by decide +kernel) (pa_cons (pv 1) pa_nil)) (pa_cons (pe_lst pa_nil) pa_nil)) (by rfl))
      (pss_cons (ps_while PassesOwn.never (pt_cmpR (op_neD hr.units) (pv 2) (pe_lst pa_nil) (nomark _))
        (pss_one (ps_expr (pe_bm PySem.F.plainAttrs_list PySem.F.slot_list_append PySem.F.type_list_append mt_append (pv 3)
          (pa_cons (pe_bm PySem.F.plainAttrs_list PySem.F.slot_list_pop PySem.F.type_list_pop mt_popAt (pv 2)
            (pa_cons (pe_call GD hr (by rfl) gD FD.kp bD .nil pass0 (pa_cons (pv 0) (pa_cons (pe_callB call_len_seq (by rfl) ml PySem.boot_len (pa_cons (pv 2) pa_nil)) pa_nil))) pa_nil)) pa_nil)))))
      (pss_one (ps_ret (pe_callTy call_tuple_of (by rfl) mtu (by decide +kernel) (pa_cons (pv 3) pa_nil))))), ?_⟩
    refine ⟨.ref a, rfl, a, _, rfl, hA, fun l nl => ⟨sz (Nat.zero_le _), fun g ng => ?_⟩⟩
    have sl : Same H (upd H l (.lst (ns.map V.int))) := Same.new nl
    have ng0 : H g = none := sl.free ng
    have lg : l ≠ g := fun z => by
      rw [← z, upd_same] at ng
      cases ng
    have snel := hS.ne nl
    have sneg := hS.ne ng0
    refine ⟨_, _, rfl, ?_⟩
    refine while_by (fun σ H1 => ∃ (ls fs : List Int), σ = [some (.ref st), some (.ref a), some (.ref l), some (.ref g)] ∧ H1 l = some (.lst (ls.map V.int)) ∧ H1 g = some (.lst (fs.map V.int)) ∧
        (fs ++ ls).Perm ns ∧ StAt H1 st big cel (n + fs.length) ∧ Kp st big H H1)
      (fun σ H1 => match H1 l with | some (.lst xs) => xs.length | _ => 0) ⟨ns, [], rfl, ?_, upd_same, .refl _, ?_, ?_⟩ ?_ ?_
    · rw [upd_ne lg]
      exact upd_same
    · exact (hS.same sl).same (Same.new ng)
    · exact Kp.put' ng0 (Kp.put' nl (.refl H))
    · rintro σ H1 ⟨ls, fs, rfl, hl, hg, hp, hS1, kp⟩
      have hpl := hp.length_eq
      rw [List.length_append] at hpl
      refine ⟨.ref l, rfl, sz (Nat.zero_le _), fun e ne => ?_⟩
      have sm : Same H1 (upd H1 e (.lst [])) := Same.new ne
      have hl2 := sm _ _ hl
      have hg2 := sm _ _ hg
      have hS2 := hS1.same sm
      refine ⟨_, _, dp_lst (SqL.of hl2), dp_nil (SqL.of upd_same), shaped_lst ls, shaped_nil, _, rfl, ?_⟩
      rw [eqv_nil]
      generalize hH2 : upd H1 e (.lst []) = H2 at hl2 hg2 hS2 sm ⊢
      have kp2 : Kp st big H H2 := kp.trans (.of sm)
      cases ls with
      | nil =>
        refine iteF ?_
        rw [List.append_nil] at hp
        refine ⟨.ref g, rfl, g, _, rfl, .inl ⟨SqL.of hg2, fun t nt => ?_⟩⟩
        refine q _ t fs ?_ upd_same hp ?_ (kp2.trans (.new nt))
        · cases q2 : H t with
          | none => rfl
          | some o =>
            have t1 : t ≠ st := fun z => (hS2.ne nt).1 z.symm
            have t2 : t ≠ big := fun z => (hS2.ne nt).2.1 z.symm
            rw [kp2 _ _ t1 t2 q2] at nt
            cases nt
        · rw [← hp.length_eq]
          exact hS2.same (Same.new nt)
      | cons b r =>
        refine iteT ?_
        rw [List.length_cons] at hpl
        refine ⟨.ref g, rfl, .inl ⟨rfl, _, SqL.of hg2⟩, .ref l, rfl, .inl ⟨rfl, _, SqL.of hl2⟩, .ref st, rfl, .ref l, rfl, l, _, rfl, .inl (SqL.of hl2),
          st, big, cel, n + fs.length, _, rfl, ?_, ?_, hS2, by omega, fun H3 v v0 v1 hS3 k3 => ?_⟩
        · rw [List.length_map, List.length_cons]
          omega
        · rw [List.length_map, List.length_cons]
          omega
        · rw [List.length_map] at v1
          obtain ⟨i, rfl⟩ : ∃ i : Nat, v = (i : Int) := ⟨v.toNat, (Int.toNat_of_nonneg v0).symm⟩
          have hi : i < (b :: r).length := by omega
          have hl3 := k3 _ _ snel.1.symm snel.2.1.symm hl2
          have hg3 := k3 _ _ sneg.1.symm sneg.2.1.symm hg2
          have hat := List.getElem?_eq_getElem hi
          refine ⟨l, _, i, i, _, rfl, rfl, hl3, by omega, by rw [List.length_cons] at hi; omega, ?_, at_map hat, ?_⟩
          · have e := seqIndex_of (k := (i : Int)) (n := (List.map V.int (b :: r)).length) (by omega) (by rw [List.length_map]; omega)
            rw [e, Int.toNat_natCast]
          · rw [eraseIdx_map]
            refine ⟨g, fs.map V.int, _, rfl, rfl, ?_, ?_, ⟨(b :: r).eraseIdx i, fs ++ [(b :: r)[i]], rfl, ?_, ?_, ?_, ?_, ?_⟩, ?_⟩
            · rw [upd_ne lg.symm]
              exact hg3
            · rw [List.length_map]
              exact Nat.lt_of_le_of_lt (by omega : fs.length ≤ 1000) (by decide)
            · rw [upd_ne lg]
              exact upd_same
            · rw [upd_same, List.map_append]
              rfl
            · rw [List.append_assoc]
              exact ((erase_perm _ _ _ hat).append_left fs).trans hp
            · have st3 : StAt H3 st big cel (n + (fs ++ [(b :: r)[i]]).length) := by
                rw [List.length_append, List.length_singleton, ← Nat.add_assoc]
                exact hS3
              obtain ⟨h1, h2, h3, h4, bs, cs, k, d1, d2, d3, d4⟩ := st3
              refine ⟨h1, h2, h3, h4, bs, cs, k, ?_, ?_, ?_, d4⟩
              · rw [upd_ne sneg.1, upd_ne snel.1]
                exact d1
              · rw [upd_ne sneg.2.1, upd_ne snel.2.1]
                exact d2
              · rw [upd_ne sneg.2.2, upd_ne snel.2.2]
                exact d3
            · exact Kp.put' ng0 (Kp.put' nl (kp2.trans k3))
            · have e1 : (upd (upd H3 l (.lst (((b :: r).eraseIdx i).map V.int))) g (.lst (List.map V.int fs ++ [V.int (b :: r)[i]]))) l = some (.lst (((b :: r).eraseIdx i).map V.int)) := by
                rw [upd_ne lg]
                exact upd_same
              simp only [e1, hl, List.length_map]
              have := List.length_eraseIdx_of_lt hi
              rw [this, List.length_cons]
              omega
    · rintro σ H1 Q1 Q2 hQ ⟨v1, e1, z1, h7⟩
      refine ⟨v1, e1, z1, fun e ne => ?_⟩
      obtain ⟨d1, d2, g1, g2, g3, g4, c, g5, g6⟩ := h7 e ne
      exact ⟨d1, d2, g1, g2, g3, g4, c, g5, hQ _ _ g6⟩
theorem ok_pick {f fD : Addr} {fd fdD : FuncData} (F : Fun K "_law_pick" "_law_pick" sPick f fd) (FD : Fun K "_law_draw" "_law_draw" sDraw fD fdD) (bD : Binds K fdD ["_law_state_here", "_law_below"] [])
    (gD : mg "_law_draw" = some (.ref fD)) (ml : mg "len" = none) : FnOk P w K mg base CX0 2 f fd ["_law_state_here", "_law_items"] (spPick K) := by
  have GD : FnOk P w K mg base CX0 1 fD fdD ["_law_state_here", "_law_below"] spDraw := ok_draw FD ml
  refine F.ok scPick (fun vs H Q E h => ?_) (fun cdv A outer s H vs Q E hr h => ?_)
  · obtain ⟨st, big, cel, a, n, ns, rfl, _⟩ := h
    rfl
  · obtain ⟨st, big, cel, a, n, xs, rfl, a1, a2, hA, hne, hlen, hS, hn, q⟩ := h
    refine ⟨_, pss_one (ps_ret (pe_ix ix_list (pv 1) (pe_call GD hr (by rfl) gD FD.kp bD .nil pass0 (pa_cons (pv 0) (pa_cons (pe_callB call_len_seq (by rfl) ml PySem.boot_len (pa_cons (pv 1) pa_nil)) pa_nil))) (fun _ _ => rfl))), ?_⟩
    have hp : 0 < xs.length := List.length_pos_iff.mpr hne
    refine ⟨.ref a, rfl, .ref st, rfl, .ref a, rfl, a, _, rfl, .inl hA, st, big, cel, n, _, rfl, by omega, by omega, hS, hn, fun H3 v v0 v1 hS3 k3 => ?_⟩
    obtain ⟨i, rfl⟩ : ∃ i : Nat, v = (i : Int) := ⟨v.toNat, (Int.toNat_of_nonneg v0).symm⟩
    have hi : i < xs.length := by omega
    have hat := List.getElem?_eq_getElem hi
    have hA3 : SqL K H3 a xs := by
      rcases hA with (h | ⟨o, h⟩) | h
      · exact .inl (.inl (k3 _ _ a1 a2 h))
      · exact .inl (.inr ⟨o, k3 _ _ a1 a2 h⟩)
      · exact .inr h
    exact ⟨a, _, i, _, rfl, rfl, hA3, atI_nat hat, q H3 i _ hat hS3 k3⟩
end

end Sv

namespace Sv
open PySem PySem.Spec PyProof.Rows L2
/-! ### histories, grown event by event -/
inductive Grown (c : Nat) (nm : List Int) : List (List Int) → List (Int × Int) → Nat → Nat → Prop
  | start : Grown c nm (List.replicate c []) [] 0 0
  | skip {r o u k} : Grown c nm r o u k → Grown c nm r o u (k + 1)
  | save {r o u k p row} : Grown c nm r o u k → r[p]? = some row → Grown c nm (r.set p (row ++ [0])) o u (k + 1)
  | send {r o u k p row m} : Grown c nm r o u k → r[p]? = some row → nm[u]? = some m → Grown c nm (r.set p (row ++ [m])) (o ++ [(m, (p : Int))]) (u + 1) (k + 1)
  | recv {r o u k row j m q} {p : Nat} : Grown c nm r o u k → r[p]? = some row → o[j]? = some (m, q) → q ≠ (p : Int) → Grown c nm (r.set p (row ++ [0 - m])) (o.eraseIdx j) u (k + 1)
def names24 : List Int := (List.range 24).map fun (i : Nat) => (1 : Int) + (i : Nat)
/-- the rows of a history that the law may draw: at most `many` rows, `most` events -/
def Good (many most : Nat) (rows : List (List Int)) : Prop := ∃ (c : Nat) (nm : List Int) (o : List (Int × Int)) (u k : Nat), 1 ≤ c ∧ c ≤ many ∧ nm.Perm names24 ∧ Grown c nm rows o u k ∧ k ≤ most
theorem Grown.len {c : Nat} {nm : List Int} {r : List (List Int)} {o : List (Int × Int)} {u k : Nat} (h : Grown c nm r o u k) : r.length = c := by
  induction h with
  | start => exact List.length_replicate ..
  | skip _ ih => exact ih
  | save _ _ ih => rw [List.length_set]; exact ih
  | send _ _ _ ih => rw [List.length_set]; exact ih
  | recv _ _ _ _ ih => rw [List.length_set]; exact ih
theorem sum_len_set {r : List (List Int)} {p : Nat} {row : List Int} {v : Int} (h : r[p]? = some row) : ((r.set p (row ++ [v])).map List.length).sum = (r.map List.length).sum + 1 := by
  induction r generalizing p with
  | nil => simp at h
  | cons a r ih =>
    cases p with
    | zero =>
      have e : a = row := Option.some.inj h
      subst e
      simp only [List.set_cons_zero, List.map_cons, List.sum_cons, List.length_append, List.length_singleton]
      omega
    | succ p =>
      have := ih (p := p) h
      simp only [List.set_cons_succ, List.map_cons, List.sum_cons, this]
      omega
theorem Grown.events {c : Nat} {nm : List Int} {r : List (List Int)} {o : List (Int × Int)} {u k : Nat} (h : Grown c nm r o u k) : (r.map List.length).sum ≤ k := by
  induction h with
  | start => simp
  | skip _ ih => omega
  | save _ h ih => rw [sum_len_set h]; omega
  | send _ h _ ih => rw [sum_len_set h]; omega
  | recv _ h _ _ ih => rw [sum_len_set h]; omega
theorem Grown.opens_le {c : Nat} {nm : List Int} {r : List (List Int)} {o : List (Int × Int)} {u k : Nat} (h : Grown c nm r o u k) : o.length ≤ k := by
  induction h with
  | start => exact Nat.le_refl _
  | skip _ ih => omega
  | save _ _ ih => omega
  | send _ _ _ ih => rw [List.length_append, List.length_singleton]; omega
  | recv _ _ _ _ ih =>
    rw [List.length_eraseIdx]
    split <;> omega
theorem len_le_sum {r : List (List Int)} {p : Nat} {row : List Int} (h : r[p]? = some row) : row.length ≤ (r.map List.length).sum := by
  induction r generalizing p with
  | nil => simp at h
  | cons a r ih =>
    cases p with
    | zero =>
      have e : a = row := Option.some.inj h
      subst e
      simp only [List.map_cons, List.sum_cons]
      omega
    | succ p =>
      have := ih (p := p) h
      simp only [List.map_cons, List.sum_cons]
      omega
/-! ### rows and pairs in the heap -/
def Rows (K : PySem.W.Frag) (H : Hp) (refs : List Addr) (rows : List (List Int)) : Prop := refs.length = rows.length ∧ ∀ (i : Nat) (a : Addr) (row : List Int), refs[i]? = some a → rows[i]? = some row → TupN H a (row.map V.int)
def Opens (K : PySem.W.Frag) (H : Hp) (refs : List Addr) (o : List (Int × Int)) : Prop := refs.length = o.length ∧ ∀ (i : Nat) (a : Addr) (p : Int × Int), refs[i]? = some a → o[i]? = some p → SqT K H a [.int p.1, .int p.2]
def TupK (K : PySem.W.Frag) (H H' : Hp) : Prop := (∀ (a : Addr) (xs : List V), SqT K H a xs → SqT K H' a xs) ∧ ∀ (a : Addr) (xs : List V), TupN H a xs → TupN H' a xs
theorem TupK.of {K : PySem.W.Frag} {H H' : Hp} (h : Same H H') : TupK K H H' := ⟨fun a xs q => by
  rcases q with (q | ⟨o, q⟩) | q
  · exact .inl (.inl (h _ _ q))
  · exact .inl (.inr ⟨o, h _ _ q⟩)
  · exact .inr q, fun a xs q => q.same h⟩
theorem TupK.put {K : PySem.W.Frag} {H : Hp} {l : Addr} {xs : List V} {o : HO} (h : H l = some (.lst xs)) : TupK K H (upd H l o) := ⟨fun a ys q => by
  rcases q with (q | ⟨o, q⟩) | q
  · exact .inl (.inl (by rw [upd_ne (ne_of q h (by intro z; cases z))]; exact q))
  · exact .inl (.inr ⟨o, by rw [upd_ne (ne_of q h (by intro z; cases z))]; exact q⟩)
  · exact .inr q, fun a ys q => by
  obtain ⟨o, q, d⟩ := q
  exact ⟨o, by rw [upd_ne (ne_of q h (by intro z; cases z))]; exact q, d⟩⟩
theorem StAt.tupK {K : PySem.W.Frag} {H H' : Hp} {st big cel : Addr} {n : Nat} (h : StAt H st big cel n) (e : Kp st big H H') : TupK K H H' := ⟨fun _ _ q => h.tup e q, fun _ _ q => h.tupN e q⟩
theorem Rows.keep {K : PySem.W.Frag} {H H' : Hp} {refs : List Addr} {rows : List (List Int)} (h : Rows K H refs rows) (e : TupK K H H') : Rows K H' refs rows := ⟨h.1, fun i a row h1 h2 => e.2 _ _ (h.2 i a row h1 h2)⟩
theorem Opens.keep {K : PySem.W.Frag} {H H' : Hp} {refs : List Addr} {o : List (Int × Int)} (h : Opens K H refs o) (e : TupK K H H') : Opens K H' refs o := ⟨h.1, fun i a row h1 h2 => e.1 _ _ (h.2 i a row h1 h2)⟩
theorem Rows.set {K : PySem.W.Frag} {H : Hp} {refs : List Addr} {rows : List (List Int)} (h : Rows K H refs rows) (p : Nat) {a : Addr} {row : List Int} (q : TupN H a (row.map V.int)) : Rows K H (refs.set p a) (rows.set p row) := by
  refine ⟨by rw [List.length_set, List.length_set]; exact h.1, fun i b r h1 h2 => ?_⟩
  by_cases e : p = i
  · subst e
    rw [List.getElem?_set] at h1 h2
    rw [if_pos rfl] at h1 h2
    split at h1
    · split at h2
      · cases h1; cases h2; exact q
      · cases h2
    · cases h1
  · rw [List.getElem?_set_ne e] at h1 h2
    exact h.2 i b r h1 h2
theorem Opens.snoc {K : PySem.W.Frag} {H : Hp} {refs : List Addr} {o : List (Int × Int)} (h : Opens K H refs o) {a : Addr} {p : Int × Int} (q : SqT K H a [.int p.1, .int p.2]) : Opens K H (refs ++ [a]) (o ++ [p]) := by
  refine ⟨by rw [List.length_append, List.length_append, h.1]; rfl, fun i b r h1 h2 => ?_⟩
  by_cases e : i < refs.length
  · rw [List.getElem?_append_left e] at h1
    rw [List.getElem?_append_left (by rw [← h.1]; exact e)] at h2
    exact h.2 i b r h1 h2
  · rw [List.getElem?_append_right (by omega)] at h1
    rw [List.getElem?_append_right (by rw [← h.1]; omega), ← h.1] at h2
    generalize i - refs.length = j at h1 h2
    cases j with
    | zero => cases h1; cases h2; exact q
    | succ j => simp at h1
theorem at_erase {α : Type} : ∀ (l : List α) (j i : Nat), (l.eraseIdx j)[i]? = if i < j then l[i]? else l[i + 1]? := fun l j i => List.getElem?_eraseIdx ..
theorem Opens.erase {K : PySem.W.Frag} {H : Hp} {refs : List Addr} {o : List (Int × Int)} (h : Opens K H refs o) (j : Nat) : Opens K H (refs.eraseIdx j) (o.eraseIdx j) := by
  refine ⟨by rw [List.length_eraseIdx, List.length_eraseIdx, h.1], fun i b r h1 h2 => ?_⟩
  rw [at_erase] at h1 h2
  split at h1 <;> rename_i e
  · rw [if_pos e] at h2
    exact h.2 i b r h1 h2
  · rw [if_neg e] at h2
    exact h.2 (i + 1) b r h1 h2
/-! ### the pairs as data -/
def pD (p : Int × Int) : PyData := .tuple [.int p.1, .int p.2]
theorem pD_eqv (a b : Int × Int) : PyData.eqv (pD a) (pD b) = decide (a = b) := by
  obtain ⟨x, y⟩ := a
  obtain ⟨z, w⟩ := b
  have e : PyData.eqv (pD (x, y)) (pD (z, w)) = ((x == z) && ((y == w) && true)) := by simp only [pD, PyData.eqv, PyData.eqvAll]
  rw [e, Bool.and_true]
  by_cases h1 : x = z
  · by_cases h2 : y = w
    · subst h1 h2
      simp
    · have : (y == w) = false := beq_eq_false_iff_ne.mpr h2
      rw [this, Bool.and_false]
      exact (decide_eq_false fun q => h2 (Prod.mk.inj q).2).symm
  · have : (x == z) = false := beq_eq_false_iff_ne.mpr h1
    rw [this, Bool.false_and]
    exact (decide_eq_false fun q => h1 (Prod.mk.inj q).1).symm
theorem pD_plain : ∀ o : List (Int × Int), PyData.plainAll (o.map pD) = true
  | [] => rfl
  | p :: r => by
    have h := pD_plain r
    show (PyData.plain (pD p) && PyData.plainAll (r.map pD)) = true
    rw [h]
    rfl
theorem pD_lay : ∀ o : List (Int × Int), PyData.canLayAll0 (o.map pD) = true
  | [] => by simp [PyData.canLayAll0]
  | p :: r => by
    have h := pD_lay r
    simp only [List.map_cons, PyData.canLayAll0, h, pD, PyData.canLay0, Bool.and_self]
theorem pD_depth : ∀ o : List (Int × Int), PyData.depthAll (o.map pD) ≤ 1
  | [] => by simp [PyData.depthAll]
  | p :: r => by
    have h := pD_depth r
    have h2 : (pD p).depth = 1 := by simp [pD, PyData.depth, PyData.depthAll]
    simp only [List.map_cons, PyData.depthAll]
    omega
theorem shaped_pairs (o : List (Int × Int)) : SeqAt.shaped (.list (o.map pD)) = true := by
  have h1 := pD_lay o
  have h2 := pD_depth o
  show (PyData.canLay0 (.list (o.map pD)) && decide (PyData.depth (.list (o.map pD)) ≤ 64)) = true
  simp only [PyData.canLay0, PyData.depth, h1, Bool.true_and]
  exact decide_eq_true (by omega)
theorem Opens.dp {K : PySem.W.Frag} {H : Hp} : ∀ {refs : List Addr} {o : List (Int × Int)}, Opens K H refs o → DpAll K H (refs.map V.ref) (o.map pD)
  | [], [], _ => .nil
  | [], _ :: _, h => absurd h.1 (by simp)
  | _ :: _, [], h => absurd h.1 (by simp)
  | a :: r, p :: o, h => .cons (.tup (h.2 0 a p rfl rfl) (.cons (.int _) (.cons (.int _) .nil)))
      (Opens.dp ⟨by simpa using h.1, fun i b q h1 h2 => h.2 (i + 1) b q h1 h2⟩)
theorem place_of_mem {o : List (Int × Int)} {p : Int × Int} (h : p ∈ o) : ∃ j, SeqAt.dataPlace (o.map pD) (pD p) = some j ∧ o[j]? = some p := by
  induction o with
  | nil => cases h
  | cons a r ih =>
    unfold SeqAt.dataPlace at ih ⊢
    rw [List.map_cons, List.findIdx?_cons, pD_eqv]
    by_cases e : a = p
    · subst e
      exact ⟨0, by rw [decide_eq_true rfl]; rfl, rfl⟩
    · rw [decide_eq_false e]
      rcases List.mem_cons.mp h with z | z
      · exact absurd z.symm e
      · obtain ⟨j, h1, h2⟩ := ih z
        exact ⟨j + 1, by rw [h1]; rfl, h2⟩
/-! ### a tuple and one item more -/
def rCatA (K : PySem.W.Frag) : R2 := fun x y H Q => (∃ a b xs ys, x = .ref a ∧ y = .ref b ∧ SqT K H a xs ∧ SqT K H b ys ∧ xs ≠ [] ∧ ys ≠ [] ∧ xs.length + ys.length ≤ sizeLine ∧
    ∀ (p : Addr) (o : Obj), H p = none → o.dict = none → Q (.ref p) (upd H p (.frz o (.tup (xs ++ ys))))) ∨ (∃ a b ys, x = .ref a ∧ y = .ref b ∧ SqT K H a [] ∧ SqT K H b ys ∧ ys ≠ [] ∧ Q (.ref b) H)
section
variable {X : Cx}
theorem op_catA : OpR X (binaryOp .Add) (rCatA X.K) := OpR.or op_catF op_catE
end
theorem cat_one {K : PySem.W.Frag} {H : Hp} {a b : Addr} {row : List Int} {v : Int} {Q : VK} (ha : SqT K H a (row.map V.int)) (hb : TupN H b [.int v]) (hl : row.length ≤ 900)
    (q : ∀ (H' : Hp) (p : Addr), Same H H' → TupN H' p ((row ++ [v]).map V.int) → Q (.ref p) H') : rCatA K (.ref a) (.ref b) H Q := by
  by_cases h0 : row = []
  · subst h0
    exact .inr ⟨a, b, _, rfl, rfl, ha, hb.sqT, by simp, q H b (.refl H) hb⟩
  · refine .inl ⟨a, b, _, _, rfl, rfl, ha, hb.sqT, fun z => h0 (List.map_eq_nil_iff.mp z), by simp, ?_, fun p o np d => ?_⟩
    · rw [List.length_map, List.length_singleton]
      exact sz (by omega)
    · refine q _ p (Same.new np) ?_
      rw [List.map_append]
      exact TupN.new d

end Sv

namespace Sv
open PySem PySem.Spec PyProof.Rows L2
abbrev sHist : Stmt := topS 18
abbrev nHist : List Str := ["_law_state_here", "_law_many", "_law_most", "_law_count", "_law_names", "_law_kind", "_law_rows", "_law_open_ones", "_law_used", "_law_turn", "_law_process", "_law_way", "_law_pair", "_law_ready", "_law_message"]
theorem scHist : FnScope nHist ["_law_state_here", "_law_many", "_law_most"] (defScope sHist) := ⟨rfl, rfl, rfl, by decide +kernel, rfl, by decide +kernel, by decide +kernel⟩
def spHist (K : PySem.W.Frag) : Sp := fun vs H Q _ => ∃ (st big cel : Addr) (n many most : Nat), vs = [.ref st, .int many, .int most] ∧ 1 ≤ many ∧ many ≤ 6 ∧ most ≤ 60 ∧ StAt H st big cel n ∧ n + 300 ≤ 1000000 ∧
  ∀ (H' : Hp) (t : Addr) (refs : List Addr) (rows : List (List Int)), H t = none → H' t = some (.tup (refs.map V.ref)) → Rows K H' refs rows → Good many most rows → StAt H' st big cel (n + 300) → Kp st big H H' → Q (.ref t) H'
/-- between two turns -/
def HInv (K : PySem.W.Frag) (H0 H1 : Hp) (st big cel R O N : Addr) (ms : List Int) (refs orefs : List Addr) (rows : List (List Int)) (opens : List (Int × Int)) (n : Nat) : Prop :=
  StAt H1 st big cel n ∧ Kp st big H0 H1 ∧ H1 R = some (.lst (refs.map V.ref)) ∧ H1 O = some (.lst (orefs.map V.ref)) ∧ H1 N = some (.tup (ms.map V.int)) ∧ Rows K H1 refs rows ∧ Opens K H1 orefs opens
structure HK (H0 : Hp) (st big cel R O : Addr) : Prop where
  r0 : H0 R = none
  o0 : H0 O = none
  ro : R ≠ O
  rs : R ≠ st
  rb : R ≠ big
  rc : R ≠ cel
  os : O ≠ st
  ob : O ≠ big
  oc : O ≠ cel
section
variable {K : PySem.W.Frag} {H0 H1 H2 : Hp} {st big cel R O N : Addr} {ms : List Int} {refs orefs : List Addr} {rows : List (List Int)} {opens : List (Int × Int)} {n m : Nat}
theorem HInv.same (h : HInv K H0 H1 st big cel R O N ms refs orefs rows opens n) (e : Same H1 H2) : HInv K H0 H2 st big cel R O N ms refs orefs rows opens n := by
  obtain ⟨a1, a2, a3, a4, a5, a6, a7⟩ := h
  exact ⟨a1.same e, a2.trans (.of e), e _ _ a3, e _ _ a4, e _ _ a5, a6.keep (.of e), a7.keep (.of e)⟩
theorem HInv.le (h : HInv K H0 H1 st big cel R O N ms refs orefs rows opens n) (e : n ≤ m) (em : m ≤ 1000000) : HInv K H0 H1 st big cel R O N ms refs orefs rows opens m := ⟨h.1.le e em, h.2⟩
theorem HInv.draw (C : HK H0 st big cel R O) (h : HInv K H0 H1 st big cel R O N ms refs orefs rows opens n) (e : Kp st big H1 H2) (s : StAt H2 st big cel m) : HInv K H0 H2 st big cel R O N ms refs orefs rows opens m := by
  obtain ⟨a1, a2, a3, a4, a5, a6, a7⟩ := h
  have t : TupK K H1 H2 := a1.tupK e
  obtain ⟨h1, h2, h3, hn, bs, cs, kk, ha, hb, hc, r⟩ := id a1
  exact ⟨s, a2.trans e, e _ _ C.rs C.rb a3, e _ _ C.os C.ob a4, e _ _ (ne_of a5 ha (by intro z; cases z)) (ne_of a5 hb (by intro z; cases z)) a5, a6.keep t, a7.keep t⟩
/-- another list in R's place -/
theorem HInv.rowsP (C : HK H0 st big cel R O) (h : HInv K H0 H1 st big cel R O N ms refs orefs rows opens n) (p : Nat) {a : Addr} {row : List Int} (q : TupN H1 a (row.map V.int)) :
    HInv K H0 (upd H1 R (.lst ((refs.map V.ref).set p (.ref a)))) st big cel R O N ms (refs.set p a) orefs (rows.set p row) opens n := by
  obtain ⟨a1, a2, a3, a4, a5, a6, a7⟩ := h
  have t : TupK K H1 (upd H1 R (.lst ((refs.map V.ref).set p (.ref a)))) := .put a3
  obtain ⟨h1, h2, h3, hn, bs, cs, kk, ha, hb, hc, r⟩ := id a1
  refine ⟨⟨h1, h2, h3, hn, bs, cs, kk, ?_, ?_, ?_, r⟩, Kp.put' C.r0 a2, ?_, ?_, ?_, (a6.set p q).keep t, a7.keep t⟩
  · rw [upd_ne C.rs.symm]; exact ha
  · rw [upd_ne C.rb.symm]; exact hb
  · rw [upd_ne C.rc.symm]; exact hc
  · rw [upd_same, List.map_set]
  · rw [upd_ne C.ro.symm]; exact a4
  · rw [upd_ne (ne_of a5 a3 (by intro z; cases z))]; exact a5
/-- another list in O's place -/
theorem HInv.opensP (C : HK H0 st big cel R O) (h : HInv K H0 H1 st big cel R O N ms refs orefs rows opens n) {orefs' : List Addr} {opens' : List (Int × Int)} (q : Opens K H1 orefs' opens') {xs : List V} (ex : xs = orefs'.map V.ref) :
    HInv K H0 (upd H1 O (.lst xs)) st big cel R O N ms refs orefs' rows opens' n := by
  subst ex
  obtain ⟨a1, a2, a3, a4, a5, a6, a7⟩ := h
  have t : TupK K H1 (upd H1 O (.lst (orefs'.map V.ref))) := .put a4
  obtain ⟨h1, h2, h3, hn, bs, cs, kk, ha, hb, hc, r⟩ := id a1
  refine ⟨⟨h1, h2, h3, hn, bs, cs, kk, ?_, ?_, ?_, r⟩, Kp.put' C.o0 a2, ?_, upd_same, ?_, a6.keep t, q.keep t⟩
  · rw [upd_ne C.os.symm]; exact ha
  · rw [upd_ne C.ob.symm]; exact hb
  · rw [upd_ne C.oc.symm]; exact hc
  · rw [upd_ne C.ro]; exact a3
  · rw [upd_ne (ne_of a5 a4 (by intro z; cases z))]; exact a5
end
theorem gN {i : Nat} {v : V} {σ : L2.St} {H : Hp} {Q : L2.St → Hp → Prop} (h : Q (σ.set i (some v)) H) : gName i v σ H Q := h
theorem ifS {c : TT} {t u : TS} {D : Ends} {σ : L2.St} {H : Hp} (h : c σ H fun b H1 => if b = true then t D σ H1 else u D σ H1) : tIfS c t u D σ H := h
theorem asgS {te : TE} {g : TG} {D : Ends} {σ : L2.St} {H : Hp} (h : te σ H fun x H1 => g x σ H1 D.nx) : tAsg te g D σ H := h
theorem seqS {t u : TS} {D : Ends} {σ : L2.St} {H : Hp} (h : t { D with nx := u D } σ H) : tSeq t u D σ H := h
/-! ### tests whose answer is left open -/
section
variable {σ : L2.St} {H : Hp}
def AnyT (t : TT) (σ : L2.St) (H : Hp) : Prop := ∀ Q : Bool → Hp → Prop, (∀ b, Q b H) → t σ H Q
theorem any_and {ta tb : TT} (ha : AnyT ta σ H) (hb : AnyT tb σ H) : AnyT (tAnd ta tb) σ H := fun Q q => ha _ fun b => by
  cases b with
  | true => exact iteT (hb Q q)
  | false => exact iteF (q false)
theorem any_or {ta tb : TT} (ha : AnyT ta σ H) (hb : AnyT tb σ H) : AnyT (tOr ta tb) σ H := fun Q q => ha _ fun b => by
  cases b with
  | true => exact iteT (q true)
  | false => exact iteF (hb Q q)
theorem or_open {ta tb : TT} {Q : Bool → Hp → Prop} (ha : AnyT ta σ H) (hb : AnyT tb σ H) (q : ∀ b, Q b H) : tOr ta tb σ H Q := any_or ha hb Q q
theorem or_then {ta tb : TT} {Q : Bool → Hp → Prop} (I : Bool → Hp → Prop) (ha : AnyT ta σ H) (h1 : I true H) (hb : ∀ Q' : Bool → Hp → Prop, (∀ b H', I b H' → Q' b H') → tb σ H Q') (q : ∀ b H', I b H' → Q b H') : tOr ta tb σ H Q := ha _ fun b => by
  cases b with
  | true => exact iteT (q true H h1)
  | false => exact iteF (hb Q q)
theorem if_open {tA : TT} {ta tb : TE} {Q : VK} (I : V → Hp → Prop) (hA : AnyT tA σ H) (ha : ∀ Q' : VK, (∀ v H', I v H' → Q' v H') → ta σ H Q') (hb : ∀ Q' : VK, (∀ v H', I v H' → Q' v H') → tb σ H Q') (q : ∀ v H', I v H' → Q v H') : tIf tA ta tb σ H Q := hA _ fun b => by
  cases b with
  | true => exact iteT (ha Q q)
  | false => exact iteF (hb Q q)
end
theorem if_dec {σ : L2.St} {H : Hp} {tA : TT} {ta tb : TE} {Q : VK} (c : Bool) (I : V → Hp → Prop) (hA : ∀ Q : Bool → Hp → Prop, Q c H → tA σ H Q) (ha : c = true → ∀ Q' : VK, (∀ v H', I v H' → Q' v H') → ta σ H Q') (hb : c = false → ∀ Q' : VK, (∀ v H', I v H' → Q' v H') → tb σ H Q') (q : ∀ v H', I v H' → Q v H') : tIf tA ta tb σ H Q := hA _ (by
  cases c with
  | true => exact iteT (ha rfl Q q)
  | false => exact iteF (hb rfl Q q))
theorem flat_rep {α : Type} (x : α) : ∀ n : Nat, (List.replicate n [x]).flatten = List.replicate n x
  | 0 => rfl
  | n + 1 => by rw [List.replicate_succ, List.flatten_cons, flat_rep x n]; rfl
theorem rg24 : rgV 1 25 = names24.map V.int := by
  unfold rgV names24
  rw [List.map_map]
  rfl
theorem names24_len : names24.length = 24 := by decide +kernel
theorem names24_at {u : Nat} (h : u < 24) : names24[u]? = some ((u : Int) + 1) := by
  unfold names24
  rw [List.getElem?_map, List.getElem?_range h]
  show some (1 + (u : Int)) = some ((u : Int) + 1)
  rw [Int.add_comm]
section
variable {P : Program} {w : World} {K : PySem.W.Frag} {mg : Str → Option Value} {base : Heap}
theorem ok_hist {f fD fM fP : Addr} {fd fdD fdM fdP : FuncData} (F : Fun K "_law_history" "_law_history" sHist f fd) (FD : Fun K "_law_draw" "_law_draw" sDraw fD fdD) (bD : Binds K fdD ["_law_state_here", "_law_below"] [])
    (gD : mg "_law_draw" = some (.ref fD)) (FM : Fun K "_law_mixed" "_law_mixed" sMixed fM fdM) (bM : Binds K fdM ["_law_state_here", "_law_items"] []) (gM : mg "_law_mixed" = some (.ref fM))
    (FP : Fun K "_law_pick" "_law_pick" sPick fP fdP) (bP : Binds K fdP ["_law_state_here", "_law_items"] []) (gP : mg "_law_pick" = some (.ref fP))
    (ml : mg "len" = none) (mli : mg "list" = none) (mtu : mg "tuple" = none) (mra : mg "range" = none) : FnOk P w K mg base CX0 3 f fd ["_law_state_here", "_law_many", "_law_most"] (spHist K) := by
  have GD : FnOk P w K mg base CX0 1 fD fdD ["_law_state_here", "_law_below"] spDraw := ok_draw FD ml
  have GM : FnOk P w K mg base CX0 2 fM fdM ["_law_state_here", "_law_items"] (spMixed K) := ok_mixed FM FD bD gD ml mli mtu
  have GP : FnOk P w K mg base CX0 2 fP fdP ["_law_state_here", "_law_items"] (spPick K) := ok_pick FP FD bD gD ml
  refine F.ok scHist (fun vs H Q E h => ?_) (fun cdv A outer s H vs Q E hr h => ?_)
  · obtain ⟨st, big, cel, n, many, most, rfl, _⟩ := h
    rfl
  · obtain ⟨st, big, cel, n, many, most, rfl, hm1, hm6, hmo, hS, hn, q⟩ := h
    have hr1 : Room 1 _ := hr.mono (by decide)
    have nd := scHist.nd
    refine ⟨_, pss_cons (ps_set (i := 3) nd rfl (.inl rfl) (pe_op op_add pe_int (pe_call GD hr1 (by rfl) gD FD.kp bD .nil pass0 (pa_cons (pv 0) (pa_cons (pv 1) pa_nil)))))
      (pss_cons (ps_set (i := 4) nd rfl (.inl rfl) (pe_call GM hr (by rfl) gM FM.kp bM .nil pass0 (pa_cons (pv 0) (pa_cons (pe_listRg rfl (by rfl) mli (prg_2 (by rfl) mra pe_int pe_int)) pa_nil))))
      (pss_cons (ps_asg (pe_tup (pa_cons (pe_call GD hr1 (by rfl) gD FD.kp bD .nil pass0 (pa_cons (pv 0) (pa_cons pe_int pa_nil)))
            (pa_cons (pe_op op_rep (pe_lst (pa_cons (pe_tupF pa_nil) pa_nil)) (pv 3)) (pa_cons (pe_lst pa_nil) (pa_cons pe_int pa_nil)))))
          (pg_tup rfl (pgs_cons (pg_name (i := 5) nd rfl (.inl rfl)) (pgs_cons (pg_name (i := 6) nd rfl (.inl rfl)) (pgs_cons (pg_name (i := 7) nd rfl (.inl rfl)) (pgs_cons (pg_name (i := 8) nd rfl (.inl rfl)) pgs_nil))))))
      (pss_cons (ps_for PassesOwn.never rfl (pi_range1 (by rfl) mra (pa_cons (pe_call GD hr1 (by rfl) gD FD.kp bD .nil pass0 (pa_cons (pv 0) (pa_cons (pe_op op_add (pv 2) pe_int) pa_nil))) pa_nil)) (pg_name (i := 9) nd rfl (.inl rfl))
        (pss_cons (ps_asg (pe_tup (pa_cons (pe_call GD hr1 (by rfl) gD FD.kp bD .nil pass0 (pa_cons (pv 0) (pa_cons (pv 3) pa_nil))) (pa_cons (pe_call GD hr1 (by rfl) gD FD.kp bD .nil pass0 (pa_cons (pv 0) (pa_cons pe_int pa_nil))) pa_nil)))
            (pg_tup rfl (pgs_cons (pg_name (i := 10) nd rfl (.inr rfl)) (pgs_cons (pg_name (i := 11) nd rfl (.inl rfl)) pgs_nil))))
        (pss_cons (ps_setLc (i := 13) (own := [("_law_pair", 12)]) (g := gName 12) (by rfl) nd rfl rfl (sw_true rfl rfl rfl (by decide +kernel)) (pi_list (pv 7))
            (blkOk_by (own := [("_law_pair", 12)]) (N := nHist) (sc := defScope sHist) (by decide +kernel))
            (fun _ _ _ _ _ => pg_name (i := 12) nd rfl (Or.inl rfl))
            (fun _ _ _ _ _ => pts_one (pt_cmpR op_ne (pe_ix (r := rIxT K) ix_tup (pv 12) pe_int (fun _ _ => rfl)) (pv 10) (nomark _)))
            (fun _ _ _ _ _ => pv 12))
        (pss_one (ps_if (PW.pt (pw_or (PW.pt (pw_and (pt_cmpR op_lt (pv 11) pe_int (nomark _)) (pw_and1 (pt_cmpR op_ne (pv 5) pe_int (nomark _))))) (pw_or1 (pt_cmpR op_eq (pv 11) pe_int (nomark _)))))
          (pss_one (ps_asg (pe_op op_catA (pe_ix ix_list (pv 6) (pv 10) (fun _ _ => rfl)) (pe_tupF (pa_cons pe_int pa_nil))) (pg_sub (pv 6) (pv 10) set_list)))
          (pss_one (ps_if (PW.pt (pw_or (PW.pt (pw_and (pt_cmpR op_lt (pv 11) pe_int (nomark _)) (pw_and1 (pt_cmpR op_lt (pv 8) pe_int (nomark _))))) (pw_or1 (pt_cmpR (op_eqD hr.units) (pv 13) (pe_lst pa_nil) (nomark _)))))
            (pss_one (ps_if (pt_cmpR op_lt (pv 8) pe_int (nomark _))
              (pss_cons (ps_set (i := 14) nd rfl (.inl rfl) (pe_ifExp (pt_cmpR op_eq (pv 5) pe_int (nomark _)) (pe_op op_add (pv 8) pe_int) (pe_ix ix_tup (pv 4) (pv 8) (fun _ _ => rfl))))
              (pss_cons (ps_asg (pe_op op_catA (pe_ix ix_list (pv 6) (pv 10) (fun _ _ => rfl)) (pe_tupF (pa_cons (pv 14) pa_nil))) (pg_sub (pv 6) (pv 10) set_list))
              (pss_cons (ps_expr (pe_bm PySem.F.plainAttrs_list PySem.F.slot_list_append PySem.F.type_list_append mt_append (pv 7) (pa_cons (pe_tup (pa_cons (pv 14) (pa_cons (pv 10) pa_nil))) pa_nil)))
              (pss_one (ps_set (i := 8) nd rfl (.inl rfl) (pe_op op_add (pv 8) pe_int))))))
              pss_nil))
            (pss_cons (ps_set (i := 12) nd rfl (.inl rfl) (pe_ifExp (pt_cmpR op_eq (pv 5) pe_int (nomark _)) (pe_ix ix_list (pv 13) pe_int (fun _ _ => rfl)) (pe_call GP hr (by rfl) gP FP.kp bP .nil pass0 (pa_cons (pv 0) (pa_cons (pv 13) pa_nil)))))
            (pss_cons (ps_expr (pe_bm PySem.F.plainAttrs_list PySem.F.slot_list_remove PySem.F.type_list_remove (mt_removeD hr.units) (pv 7) (pa_cons (pv 12) pa_nil)))
            (pss_one (ps_asg (pe_op op_catA (pe_ix ix_list (pv 6) (pv 10) (fun _ _ => rfl)) (pe_tupF (pa_cons (pe_op op_sub pe_int (pe_ix ix_tup (pv 12) pe_int (fun _ _ => rfl))) pa_nil))) (pg_sub (pv 6) (pv 10) set_list))))))))))))
      (pss_one (ps_ret (pe_callTy call_tuple_of (by rfl) mtu (by decide +kernel) (pa_cons (pv 6) pa_nil))))))), ?_⟩
    -- count
    refine ⟨.ref st, rfl, .int many, rfl, st, big, cel, n, many, rfl, by omega, by omega, hS, by omega, fun H1 cv c0 c1 hS1 k1 => ⟨_, _, rfl, rfl, ?_⟩⟩
    obtain ⟨c', rfl⟩ : ∃ c' : Nat, cv = (c' : Int) := ⟨cv.toNat, (Int.toNat_of_nonneg c0).symm⟩
    obtain ⟨c, hc⟩ : ∃ c : Nat, c = c' + 1 := ⟨_, rfl⟩
    have ec : (1 : Int) + (c' : Int) = (c : Int) := by omega
    have hcm : c ≤ many := by omega
    -- names
    refine ⟨.ref st, rfl, 1, 25, rfl, rfl, RgOk.of_le (by decide) (by decide) (by decide) (by decide), fun l nl => ?_⟩
    refine ⟨st, big, cel, l, n + 1, names24, rfl, .inl (SqL.of (by rw [upd_same, rg24])), by rw [names24_len]; omega, hS1.same (Same.new nl), by rw [names24_len]; omega, fun H2 N ms nN hN pm hS2 k2 => ?_⟩
    rw [names24_len] at hS2
    have k12 : Kp st big H H2 := (k1.trans (.new nl)).trans k2
    -- kind, rows, open ones, used
    refine ⟨.ref st, rfl, st, big, cel, _, 4, rfl, by decide, by decide, hS2, by omega, fun H3 kd kd0 kd4 hS3 k3 => ?_⟩
    have k13 := k12.trans k3
    have hN3 : H3 N = some (.tup (ms.map V.int)) := by
      obtain ⟨_, _, _, _, bs, cs, kk, ha, hb, _⟩ := hS2
      exact k3 _ _ (ne_of hN ha (by intro z; cases z)) (ne_of hN hb (by intro z; cases z)) hN
    refine ⟨sz (Nat.zero_le _), fun e0 ob0 ne0 de0 => ⟨sz (by show 1 ≤ 1000; decide), fun e1 ne1 => ?_⟩⟩
    have s1 : Same H3 (upd H3 e0 (.frz ob0 (.tup []))) := Same.new ne0
    have s2 := s1.trans (Same.new (o := .lst [V.ref e0]) ne1)
    refine ⟨_, rfl, e1, _, _, rfl, rfl, upd_same, by omega, by omega, ?_, fun R nR => ?_⟩
    · rw [List.length_singleton, ec, Int.toNat_natCast]
      exact sz (by omega)
    rw [ec, Int.toNat_natCast, flat_rep]
    have s3 := s2.trans (Same.new (o := .lst (List.replicate c (V.ref e0))) nR)
    refine ⟨sz (Nat.zero_le _), fun O nO => ?_⟩
    have s4 := s3.trans (Same.new (o := .lst []) nO)
    refine ⟨sz (by show 4 ≤ 1000; decide), fun T nT => ?_⟩
    have s5 := s4.trans (Same.new (o := .tup [V.int kd, V.ref R, V.ref O, V.int 0]) nT)
    refine ⟨T, _, rfl, .inl (.inl upd_same), rfl, _, _, rfl, _, _, rfl, _, _, rfl, _, _, rfl, rfl, ?_⟩
    have neR := (hS3.same s2).ne nR
    have neO := (hS3.same s3).ne nO
    have fr : ∀ {p : Addr}, p ≠ st → p ≠ big → H3 p = none → H p = none := fun {p} h1 h2 h3 => by
      cases e : H p with
      | none => rfl
      | some o => rw [k13 _ _ h1 h2 e] at h3; cases h3
    have C : HK H st big cel R O := ⟨fr neR.1.symm neR.2.1.symm (s2.free nR), fr neO.1.symm neO.2.1.symm (s3.free nO), (fun z => by rw [← z, upd_same] at nO; cases nO), neR.1.symm, neR.2.1.symm, neR.2.2.symm, neO.1.symm, neO.2.1.symm, neO.2.2.symm⟩
    generalize hH4 : upd (upd (upd (upd (upd H3 e0 (HO.frz ob0 (HO.tup []))) e1 (HO.lst [V.ref e0])) R (HO.lst (List.replicate c (V.ref e0)))) O (HO.lst [])) T (HO.tup [V.int kd, V.ref R, V.ref O, V.int 0]) = H4 at s5 ⊢
    have hR4 : H4 R = some (.lst ((List.replicate c e0).map V.ref)) := by
      rw [← hH4, upd_ne (fun z => by rw [← z, upd_ne C.ro, upd_same] at nT; cases nT), upd_ne C.ro, upd_same, List.map_replicate]
    have hO4 : H4 O = some (.lst (([] : List Addr).map V.ref)) := by
      rw [← hH4, upd_ne (fun z => by rw [← z, upd_same] at nT; cases nT), upd_same]
      rfl
    have he4 : TupN H4 e0 (([] : List Int).map V.int) := by
      rw [← hH4]
      exact TupN.same (TupN.new de0) ((((Same.new (o := .lst [V.ref e0]) ne1).trans (Same.new nR)).trans (Same.new nO)).trans (Same.new nT))
    have I4 : HInv K H H4 st big cel R O N ms (List.replicate c e0) [] (List.replicate c []) [] (n + 26) := by
      refine ⟨(hS3.same s5).le (by omega) (by omega), k13.trans (.of s5), hR4, hO4, s5 _ _ hN3, ⟨by rw [List.length_replicate, List.length_replicate], fun i a row h1 h2 => ?_⟩, ⟨rfl, fun i a p h1 h2 => by simp at h1⟩⟩
      rw [(List.mem_replicate.mp (List.mem_of_getElem? h1)).2, (List.mem_replicate.mp (List.mem_of_getElem? h2)).2]
      exact he4
    -- which names are given
    obtain ⟨nm, hnm⟩ : ∃ nm : List Int, nm = if kd = 0 then names24 else ms := ⟨_, rfl⟩
    have nmp : nm.Perm names24 := by
      rw [hnm]
      split
      · exact .refl _
      · exact pm
    -- the turns
    refine ⟨.ref st, rfl, .int most, rfl, _, _, rfl, rfl, st, big, cel, _, _, rfl, by omega, by omega, I4.1, by omega, fun H5 tn tn0 tn1 hS5 k5 => ⟨_, rfl, by omega, by omega, ?_⟩⟩
    obtain ⟨t, rfl⟩ : ∃ t : Nat, tn = (t : Int) := ⟨tn.toNat, (Int.toNat_of_nonneg tn0).symm⟩
    have htm : t ≤ most := by omega
    have I5 := I4.draw C k5 hS5
    rw [Int.toNat_natCast]
    refine for_range (lo := 0) (n := t) (fun i σ H6 => ∃ (refs orefs : List Addr) (rows : List (List Int)) (opens : List (Int × Int)) (u k : Nat) (x9 x10 x11 x12 x13 x14 : Option V),
        σ = [some (.ref st), some (.int many), some (.int most), some (.int c), some (.ref N), some (.int kd), some (.ref R), some (.ref O), some (.int u), x9, x10, x11, x12, x13, x14] ∧
        HInv K H H6 st big cel R O N ms refs orefs rows opens (n + 27 + 3 * i) ∧ Grown c nm rows opens u k ∧ k ≤ i)
      ⟨_, _, _, _, 0, 0, none, none, none, none, none, none, by rw [← ec]; rfl, I5, .start, Nat.le_refl _⟩ ?_ ?_
    · rintro i σ H6 hi ⟨refs, orefs, rows, opens, u, k, x9, x10, x11, x12, x13, x14, rfl, I6, g, hk⟩
      have hlc := g.len
      have hev := g.events
      -- process, way
      refine ⟨.ref st, rfl, .int c, rfl, st, big, cel, _, (c : Int), rfl, by omega, by omega, I6.1, by omega, fun H7 pv p0 p1 hS7 k7 => ?_⟩
      refine ⟨.ref st, rfl, st, big, cel, _, 6, rfl, by decide, by decide, hS7, by omega, fun H8 wy w0 w1 hS8 k8 => ⟨sz (by show 2 ≤ 1000; decide), fun T1 nT1 => ⟨T1, _, rfl, .inl (.inl upd_same), rfl, _, _, rfl, _, _, rfl, rfl, ?_⟩⟩⟩
      have I8 := ((I6.draw C k7 hS7).draw C k8 hS8).same (Same.new (o := .tup [V.int pv, V.int wy]) nT1)
      generalize upd H8 T1 (.tup [V.int pv, V.int wy]) = H9 at I8 ⊢
      obtain ⟨p, rfl⟩ : ∃ p : Nat, pv = (p : Int) := ⟨pv.toNat, (Int.toNat_of_nonneg p0).symm⟩
      have hp : p < rows.length := by omega
      obtain ⟨row, hrow⟩ : ∃ row, rows[p]? = some row := ⟨_, List.getElem?_eq_getElem hp⟩
      have hpr : p < refs.length := by rw [I8.2.2.2.2.2.1.1]; exact hp
      obtain ⟨a, ha⟩ : ∃ a, refs[p]? = some a := ⟨_, List.getElem?_eq_getElem hpr⟩
      have hrl : row.length ≤ 900 := by
        have := len_le_sum hrow
        omega
      have hO9 := I8.2.2.2.1
      have hOl := I8.2.2.2.2.2.2.1
      -- ready
      refine ⟨.ref O, rfl, O, rfl, ⟨_, SqL.of hO9⟩, fun D nD => ?_⟩
      refine lc_list (K := K) (a := O) (xs := orefs.map V.ref) (fun j H' => Same H9 H' ∧ ∃ (rr : List Addr) (ps : List (Int × Int)), H' D = some (.lst (rr.map V.ref)) ∧ Opens K H9 rr ps ∧ rr.length ≤ j ∧ ∀ x ∈ ps, x ∈ opens ∧ x.2 ≠ (p : Int))
        ⟨Same.new nD, [], [], upd_same, ⟨rfl, fun _ _ _ z _ => by simp at z⟩, Nat.le_refl _, fun _ z => (nomatch z)⟩ (fun j H' _ z => z.1.seq (SqL.of hO9)) (fun j x H' hx z => ?_) (fun H' z => ?_)
      · obtain ⟨o', ho, rfl⟩ := of_at_map hx
        obtain ⟨sm, rr, ps, hD, hop, hl, hps⟩ := z
        have hj : j < orefs.length := (List.getElem?_eq_some_iff.mp ho).1
        obtain ⟨pr, hpr'⟩ : ∃ pr, opens[j]? = some pr := ⟨_, List.getElem?_eq_getElem (by rw [← hOl]; exact hj)⟩
        have hsq := I8.2.2.2.2.2.2.2 j o' pr ho hpr'
        have hgo := g.opens_le
        refine ⟨rfl, .ref o', rfl, o', _, 1, _, rfl, rfl, (TupK.of sm).1 _ _ hsq, atI_nat (j := 1) rfl, _, rfl, rfl, _, rfl, ite2 (fun e => ?_) (fun _ => ?_)⟩
        · refine ⟨_, rfl, _, hD, ?_, Same.put nD sm, rr ++ [o'], ps ++ [pr], ?_, hop.snoc hsq, ?_, ?_⟩
          · rw [List.length_map]
            exact small1000 (by omega)
          · rw [upd_same, List.map_append]
            rfl
          · rw [List.length_append, List.length_singleton]
            omega
          · intro x hx
            rcases List.mem_append.mp hx with hx | hx
            · exact hps x hx
            · rw [List.mem_singleton.mp hx]
              refine ⟨List.mem_of_getElem? hpr', fun z => ?_⟩
              rw [z, decide_eq_true rfl] at e
              cases e
        · exact ⟨sm, rr, ps, hD, hop, Nat.le_succ_of_le hl, hps⟩
      obtain ⟨sm, rr, ps, hD, hop, hl, hps⟩ := z
      rw [List.length_map] at hl
      have hgo := g.opens_le
      have I9 := I8.same sm
      have hop9 := hop.keep (.of sm)
      have hDst := I8.1.ne nD
      clear hO9
      -- the ways
      refine gN ?_
      dsimp only
      refine ifS (or_open (any_and (fun Q q => ⟨_, rfl, _, _, rfl, rfl, _, rfl, q _⟩) (fun Q q => ⟨_, rfl, rfl, _, rfl, q _⟩)) (fun Q q => ⟨_, rfl, rfl, _, rfl, q _⟩) fun b => ?_)
      cases b with
      | true =>
        refine iteT ?_
        refine ⟨.ref R, rfl, .int p, rfl, R, _, p, .ref a, rfl, rfl, SqL.of I9.2.2.1, atI_nat (at_map ha), sz (by show 1 ≤ 1000; decide), fun T2 ob2 nT2 dT2 => ?_⟩
        have I10 := I9.same (Same.new (o := .frz ob2 (.tup [V.int 0])) nT2)
        refine cat_one (K := K) (I10.2.2.2.2.2.1.2 p a row ha hrow).sqT (TupN.new dT2) hrl fun H11 t2 sm2 ht => ?_
        have I11 := I10.same sm2
        refine ⟨.ref R, rfl, .int p, rfl, R, _, p, p, rfl, rfl, I11.2.2.1, ixn (by rw [List.length_map]; exact hpr), ?_⟩
        exact ⟨_, _, _, _, u, k + 1, _, _, _, _, _, _, rfl, (I11.rowsP C p ht).le (by omega) (by omega), .save g hrow, by omega⟩
      | false =>
        refine iteF ?_
        refine ifS (or_then (fun b H'' => Same H' H'' ∧ (b = false → rr ≠ [])) (any_and (fun Q q => ⟨_, rfl, _, _, rfl, rfl, _, rfl, q _⟩) (fun Q q => ⟨_, rfl, _, _, rfl, rfl, _, rfl, q _⟩)) ⟨Same.refl _, fun z => (nomatch z)⟩
          (fun Q' q' => ⟨.ref D, rfl, sz (Nat.zero_le _), fun e ne => ⟨_, _, .lst (SqL.of (Same.new ne _ _ hD)) ((hop9.keep (.of (Same.new ne))).dp), dp_nil (SqL.of upd_same), shaped_pairs ps, shaped_nil, _, rfl, q' _ _ ⟨Same.new ne, fun z => ?_⟩⟩⟩) (fun b H10 hI => ?_))
        · rw [eqv_nil] at z
          rintro rfl
          have : ps = [] := List.length_eq_zero_iff.mp hop.1.symm
          subst this
          cases z
        obtain ⟨sm10, hrr⟩ := hI
        have I10 := I9.same sm10
        have hD10 := sm10 _ _ hD
        have hop10 := hop9.keep (.of sm10)
        cases b with
        | true =>
          refine iteT ?_
          refine ⟨_, rfl, _, _, rfl, rfl, _, rfl, ite2 (fun hu => ?_) (fun _ => ?_)⟩
          · have hu24 : u < 24 := by
              have := of_decide_eq_true hu
              omega
            -- the message
            refine seqS (asgS (if_dec (decide (V.int kd = V.int 0)) (fun v H'' => H'' = H10 ∧ ∃ m, nm[u]? = some m ∧ v = .int m) (fun Q q => ⟨_, rfl, rfl, _, rfl, q⟩) (fun ek Q' q' => ⟨_, rfl, _, _, rfl, rfl, q' _ _ ⟨rfl, _, ?_, rfl⟩⟩)
              (fun ek Q' q' => ?_) (fun v H'' hI => ?_)))
            · have ek0 : kd = 0 := V.int.inj (of_decide_eq_true ek)
              rw [hnm, if_pos ek0]
              exact names24_at hu24
            · have ek0 : kd ≠ 0 := fun z => of_decide_eq_false ek (by rw [z])
              have hml : u < ms.length := by rw [pm.length_eq, names24_len]; exact hu24
              refine ⟨_, rfl, _, rfl, N, _, u, _, rfl, rfl, .inl (.inl I10.2.2.2.2.1), atI_nat (at_map (List.getElem?_eq_getElem hml)), q' _ _ ⟨rfl, _, ?_, rfl⟩⟩
              rw [hnm, if_neg ek0]
              exact List.getElem?_eq_getElem hml
            obtain ⟨rfl, m, hm, rfl⟩ := hI
            refine ⟨.ref R, rfl, .int p, rfl, R, _, p, .ref a, rfl, rfl, SqL.of I10.2.2.1, atI_nat (at_map ha), _, rfl, sz (by show 1 ≤ 1000; decide), fun T2 ob2 nT2 dT2 => ?_⟩
            have I11 := I10.same (Same.new (o := .frz ob2 (.tup [V.int m])) nT2)
            refine cat_one (K := K) (I11.2.2.2.2.2.1.2 p a row ha hrow).sqT (TupN.new dT2) hrl fun H12 t2 sm2 ht => ?_
            have I12 := I11.same sm2
            refine ⟨.ref R, rfl, .int p, rfl, R, _, p, p, rfl, rfl, I12.2.2.1, ixn (by rw [List.length_map]; exact hpr), ?_⟩
            have I13 := I12.rowsP C p ht
            refine ⟨.ref O, rfl, .inl ⟨rfl, _, SqL.of I13.2.2.2.1⟩, _, rfl, _, rfl, sz (by show 2 ≤ 1000; decide), fun T3 nT3 => ?_⟩
            have I14 := I13.same (Same.new (o := .tup [V.int m, V.int p]) nT3)
            refine ⟨O, _, _, rfl, rfl, I14.2.2.2.1, ?_, ?_⟩
            · rw [List.length_map]
              exact small1000 (by omega)
            · have I15 := I14.opensP C (I14.2.2.2.2.2.2.snoc (a := T3) (p := (m, (p : Int))) (.inl (.inl upd_same))) (xs := orefs.map V.ref ++ [V.ref T3]) (by rw [List.map_append]; rfl)
              refine ⟨_, rfl, _, _, rfl, rfl, ?_⟩
              exact ⟨_, _, _, _, u + 1, k + 1, _, _, _, _, _, _, rfl, I15.le (by omega) (by omega), .send g hrow hm, by omega⟩
          · exact ⟨_, _, _, _, u, k, _, _, _, _, _, _, rfl, I10.le (by omega) (by omega), g, by omega⟩
        | false =>
          refine iteF ?_
          have hrr := hrr rfl
          have hrl0 : 0 < rr.length := List.length_pos_iff.mpr hrr
          -- the pair
          refine seqS (asgS (if_open (fun v H'' => ∃ (j : Nat) (o' : Addr), v = .ref o' ∧ rr[j]? = some o' ∧ TupK K H10 H'' ∧ HInv K H H'' st big cel R O N ms refs orefs rows opens (n + 27 + 3 * i + 3)) (fun Q q => ⟨_, rfl, rfl, _, rfl, q _⟩)
            (fun Q' q' => ?_) (fun Q' q' => ?_) (fun v H11 hI => ?_)))
          · obtain ⟨o0, ho0⟩ : ∃ o0, rr[0]? = some o0 := ⟨_, List.getElem?_eq_getElem hrl0⟩
            exact ⟨.ref D, rfl, D, _, 0, .ref o0, rfl, rfl, SqL.of hD10, atI_nat (j := 0) (at_map ho0), q' _ _ ⟨0, o0, rfl, ho0, .of (Same.refl _), I10.le (by omega) (by omega)⟩⟩
          · refine ⟨.ref st, rfl, .ref D, rfl, st, big, cel, D, _, _, rfl, hDst.1.symm, hDst.2.1.symm, SqL.of hD10, ?_, ?_, I10.1, by omega, fun H'' j v hv hS' k' => ?_⟩
            · intro z
              exact hrr (List.map_eq_nil_iff.mp z)
            · rw [List.length_map]
              omega
            · obtain ⟨o', ho', rfl⟩ := of_at_map hv
              exact q' _ _ ⟨j, o', rfl, ho', I10.1.tupK k', I10.draw C k' hS'⟩
          obtain ⟨j, o', rfl, ho', tk, I11⟩ := hI
          have hj : j < rr.length := (List.getElem?_eq_some_iff.mp ho').1
          obtain ⟨pr, hpr'⟩ : ∃ pr, ps[j]? = some pr := ⟨_, List.getElem?_eq_getElem (by rw [← hop.1]; exact hj)⟩
          obtain ⟨hmem, hne⟩ := hps pr (List.mem_of_getElem? hpr')
          have hsq := (hop10.keep tk).2 j o' pr ho' hpr'
          obtain ⟨j', hj', hat⟩ := place_of_mem hmem
          -- it is received
          refine ⟨.ref O, rfl, .inl ⟨rfl, _, SqL.of I11.2.2.2.1⟩, .ref o', rfl, O, _, pD pr, _, opens.map pD, j', rfl, rfl, I11.2.2.2.1, I11.2.2.2.2.2.2.dp, .tup hsq (.cons (.int _) (.cons (.int _) .nil)), pD_plain opens, rfl, ?_, hj', ?_⟩
          · have : (pD pr).depth = 1 := by simp [pD, PyData.depth, PyData.depthAll]
            omega
          have I12 := I11.opensP C (I11.2.2.2.2.2.2.erase j') (xs := (orefs.map V.ref).eraseIdx j') (eraseIdx_map _ _ _)
          have hsq12 := (TupK.put (o := .lst ((orefs.map V.ref).eraseIdx j')) I11.2.2.2.1).1 _ _ hsq
          refine ⟨.ref R, rfl, .int p, rfl, R, _, p, .ref a, rfl, rfl, SqL.of I12.2.2.1, atI_nat (at_map ha), .ref o', rfl, o', _, 0, _, rfl, rfl, hsq12, atI_nat (j := 0) rfl, _, _, rfl, rfl, sz (by show 1 ≤ 1000; decide), fun T2 ob2 nT2 dT2 => ?_⟩
          have I13 := I12.same (Same.new (o := .frz ob2 (.tup [V.int (0 - pr.1)])) nT2)
          refine cat_one (K := K) (I13.2.2.2.2.2.1.2 p a row ha hrow).sqT (TupN.new dT2) hrl fun H14 t2 sm2 ht => ?_
          have I14 := I13.same sm2
          refine ⟨.ref R, rfl, .int p, rfl, R, _, p, p, rfl, rfl, I14.2.2.1, ixn (by rw [List.length_map]; exact hpr), ?_⟩
          exact ⟨_, _, _, _, u, k + 1, _, _, _, _, _, _, rfl, (I14.rowsP C p ht).le (by omega) (by omega), .recv g hrow hat hne, by omega⟩
    · rintro σ H6 ⟨refs, orefs, rows, opens, u, k, x9, x10, x11, x12, x13, x14, rfl, I6, g, hk⟩
      obtain ⟨a1, a2, a3, a4, a5, a6, a7⟩ := id I6
      refine ⟨.ref R, rfl, R, _, rfl, .inl ⟨SqL.of a3, fun z nz => ?_⟩⟩
      have s7 : Same H6 (upd H6 z (.tup (refs.map V.ref))) := Same.new nz
      have zst := a1.ne nz
      refine q _ z refs rows ?_ upd_same (a6.keep (.of s7)) ⟨c, nm, opens, u, k, by omega, hcm, nmp, g, by omega⟩ ((a1.same s7).le (by omega) (by omega)) (a2.trans (.of s7))
      cases e : H z with
      | none => rfl
      | some o => rw [a2 _ _ zst.1.symm zst.2.1.symm e] at nz; cases nz
end

end Sv

namespace Sv
open PySem PySem.Spec PyProof.Rows L2
/-! ### data whose text is short -/
structure Fine (n W : Nat) (d : PyData) : Prop where
  dep : d.depth ≤ n
  wei : d.weight ≤ W
  lay : d.canLay0 = true
  sho : d.showable = true
  ish : d.intsShort 40 = true
structure FineAll (n W : Nat) (ds : List PyData) : Prop where
  dep : PyData.depthAll ds ≤ n
  wei : PyData.weightAll ds ≤ W
  lay : PyData.canLayAll0 ds = true
  sho : PyData.showableAll ds = true
  ish : PyData.intsShortAll 40 ds = true
theorem fine_int {i : Int} (h : i.natAbs < 10 ^ 30) : Fine 0 101 (.int i) := by
  have hl : i.natAbs ≠ 0 → i.natAbs.log2 < 100 := fun h0 => (Nat.log2_lt h0).mpr (Nat.lt_trans h (by decide +kernel))
  have hl2 : i.natAbs.log2 < 1920 := by
    by_cases h0 : i.natAbs = 0
    · rw [h0]; decide
    · exact Nat.lt_trans (hl h0) (by decide)
  refine ⟨Nat.le_refl _, ?_, rfl, decide_eq_true hl2, decide_eq_true ?_⟩
  · simp only [PyData.weight]
    split
    · exact Nat.zero_le _
    · rename_i h0
      have : i.natAbs ≠ 0 := fun z => h0 (by rw [beq_iff_eq]; omega)
      have := hl this
      omega
  · have e := int_text_length_le10 (a := i) (k := 30) (by decide) h
    show (Str.ofString (toString i)).length ≤ 40
    rw [PySem.ofString_length]
    omega
theorem fine_none : Fine 0 101 .none := ⟨Nat.le_refl _, Nat.zero_le _, rfl, rfl, rfl⟩
theorem fine_bool (b : Bool) : Fine 0 101 (.bool b) := ⟨Nat.le_refl _, Nat.zero_le _, rfl, rfl, rfl⟩
theorem Fine.mono {n W m U : Nat} {d : PyData} (h : Fine n W d) (e : n ≤ m) (e2 : W ≤ U) : Fine m U d := ⟨Nat.le_trans h.dep e, Nat.le_trans h.wei e2, h.lay, h.sho, h.ish⟩
theorem FineAll.mono {n W m U : Nat} {d : List PyData} (h : FineAll n W d) (e : n ≤ m) (e2 : W ≤ U) : FineAll m U d := ⟨Nat.le_trans h.dep e, Nat.le_trans h.wei e2, h.lay, h.sho, h.ish⟩
theorem fine_nil : FineAll 0 0 [] := ⟨Nat.le_refl _, Nat.le_refl _, rfl, rfl, rfl⟩
theorem fine_cons {n W U : Nat} {d : PyData} {ds : List PyData} (h : Fine n W d) (hs : FineAll n U ds) : FineAll n (W + 1 + U) (d :: ds) := by
  refine ⟨?_, ?_, ?_, ?_, ?_⟩
  · simp only [PyData.depthAll]
    exact Nat.max_le.mpr ⟨h.dep, hs.dep⟩
  · have h1 := h.wei
    have h2 := hs.wei
    simp only [PyData.weightAll]
    omega
  · simp only [PyData.canLayAll0, h.lay, hs.lay, Bool.and_self]
  · simp only [PyData.showableAll, h.sho, hs.sho, Bool.and_self]
  · simp only [PyData.intsShortAll, h.ish, hs.ish, Bool.and_self]
theorem fine_list {n W : Nat} {ds : List PyData} (h : FineAll n W ds) : Fine (n + 1) W (.list ds) := by
  have h1 := h.dep
  refine ⟨by simp only [PyData.depth]; omega, h.wei, ?_, ?_, ?_⟩
  · simp only [PyData.canLay0, h.lay]
  · simp only [PyData.showable, h.sho]
  · simp only [PyData.intsShort, h.ish]
theorem fine_tuple {n W : Nat} {ds : List PyData} (h : FineAll n W ds) : Fine (n + 1) W (.tuple ds) := by
  have h1 := h.dep
  refine ⟨by simp only [PyData.depth]; omega, h.wei, ?_, ?_, ?_⟩
  · simp only [PyData.canLay0, h.lay]
  · simp only [PyData.showable, h.sho]
  · simp only [PyData.intsShort, h.ish]
theorem fine_all {n W : Nat} : ∀ {ds : List PyData}, (∀ d ∈ ds, Fine n W d) → FineAll n ((W + 1) * ds.length) ds
  | [], _ => fine_nil.mono (Nat.zero_le _) (Nat.zero_le _)
  | d :: ds, h => by
    have q := fine_cons (h d List.mem_cons_self) (fine_all fun x hx => h x (List.mem_cons_of_mem _ hx))
    refine q.mono (Nat.le_refl _) ?_
    rw [List.length_cons, Nat.mul_add, Nat.mul_one]
    omega
theorem fine_ints {ns : List Int} (h : ∀ n ∈ ns, n.natAbs < 10 ^ 30) : FineAll 0 (102 * ns.length) (iD ns) := by
  have q := fine_all (n := 0) (W := 101) (ds := iD ns) fun d hd => by
    obtain ⟨n, hn, rfl⟩ := List.mem_map.mp hd
    exact fine_int (h n hn)
  unfold iD at q ⊢
  rw [List.length_map] at q
  exact q
theorem Fine.len {n W : Nat} {d : PyData} (h : Fine n W d) (hW : W ≤ 300000) : d.shown.length ≤ sizeLine := by
  have q := PyData.shown_le 40 (by decide) d (PyData.leavesShort_of_canLay0 40 d h.lay h.ish)
  have := h.wei
  rw [sizeLine_eq]
  omega
theorem Fine.shown {K : PySem.W.Frag} {H : Hp} {v : V} {n W : Nat} {d : PyData} (h : Fine n W d) (hn : n ≤ 60) (hW : W ≤ 300000) (hd : Dp K H v d) (hi : isDisplay d = true) : Shown K H v d :=
  ⟨hd, hi, h.sho, PyData.hasDict_of_canLay d h.lay, Nat.le_trans h.dep hn, h.len hW⟩
theorem Fine.shaped {n W : Nat} {d : PyData} (h : Fine n W d) (hn : n ≤ 60) : SeqAt.shaped d = true := by
  have := h.dep
  show (d.canLay0 && decide (d.depth ≤ 64)) = true
  rw [h.lay, Bool.true_and]
  exact decide_eq_true (by omega)
/-! ### the rows as data -/
def rD (rows : List (List Int)) : PyData := .tuple (rows.map fun r => .tuple (iD r))
theorem Rows.dpAll {K : PySem.W.Frag} {H : Hp} : ∀ {refs : List Addr} {rows : List (List Int)}, Rows K H refs rows → DpAll K H (refs.map V.ref) (rows.map fun r => .tuple (iD r))
  | [], [], _ => .nil
  | [], _ :: _, h => absurd h.1 (by simp)
  | _ :: _, [], h => absurd h.1 (by simp)
  | a :: r, p :: o, h => .cons (dp_tup (h.2 0 a p rfl rfl).sqT) (Rows.dpAll ⟨by simpa using h.1, fun i b q h1 h2 => h.2 (i + 1) b q h1 h2⟩)
theorem Rows.dp {K : PySem.W.Frag} {H : Hp} {t : Addr} {refs : List Addr} {rows : List (List Int)} (h : Rows K H refs rows) (ht : SqT K H t (refs.map V.ref)) : Dp K H (.ref t) (rD rows) := .tup ht h.dpAll
theorem Grown.small {c : Nat} {nm : List Int} {r : List (List Int)} {o : List (Int × Int)} {u k : Nat} (h : Grown c nm r o u k) (hn : nm.Perm names24) :
    (∀ row ∈ r, ∀ e ∈ row, -24 ≤ e ∧ e ≤ 24) ∧ ∀ p ∈ o, 1 ≤ p.1 ∧ p.1 ≤ 24 := by
  have setl : ∀ {r : List (List Int)} {p : Nat} {row : List Int} {v : Int}, (∀ row ∈ r, ∀ e ∈ row, -24 ≤ e ∧ e ≤ 24) → r[p]? = some row → -24 ≤ v → v ≤ 24 → ∀ row' ∈ r.set p (row ++ [v]), ∀ e ∈ row', -24 ≤ e ∧ e ≤ 24 := by
    intro r p row v h1 h2 h3 h4 row' hr e he
    rcases List.mem_or_eq_of_mem_set hr with z | rfl
    · exact h1 _ z e he
    · rcases List.mem_append.mp he with z | z
      · exact h1 _ (List.mem_of_getElem? h2) e z
      · rw [List.mem_singleton.mp z]
        exact ⟨h3, h4⟩
  have hm : ∀ m ∈ nm, 1 ≤ m ∧ m ≤ 24 := by
    intro m h1
    have h2 := hn.mem_iff.mp h1
    obtain ⟨i, hi, rfl⟩ := List.mem_map.mp h2
    have := List.mem_range.mp hi
    omega
  induction h with
  | start =>
    refine ⟨fun row hr e he => ?_, fun p hp => (nomatch hp)⟩
    rw [(List.mem_replicate.mp hr).2] at he
    exact (nomatch he)
  | skip _ ih => exact ih
  | save _ h ih => exact ⟨setl ih.1 h (by decide) (by decide), ih.2⟩
  | send _ h hu ih =>
    have := hm _ (List.mem_of_getElem? hu)
    refine ⟨setl ih.1 h (by omega) (by omega), fun p hp => ?_⟩
    rcases List.mem_append.mp hp with z | z
    · exact ih.2 p z
    · rw [List.mem_singleton.mp z]
      exact this
  | recv _ h hj _ ih =>
    have := ih.2 _ (List.mem_of_getElem? hj)
    exact ⟨setl ih.1 h (by omega) (by omega), fun p hp => ih.2 p (List.mem_of_mem_eraseIdx hp)⟩
theorem Good.len {many most : Nat} {rows : List (List Int)} (h : Good many most rows) : 1 ≤ rows.length ∧ rows.length ≤ many := by
  obtain ⟨c, nm, o, u, k, h1, h2, h3, h4, h5⟩ := h
  rw [h4.len]
  exact ⟨h1, h2⟩
theorem Good.events {many most : Nat} {rows : List (List Int)} (h : Good many most rows) : (rows.map List.length).sum ≤ most := by
  obtain ⟨c, nm, o, u, k, h1, h2, h3, h4, h5⟩ := h
  exact Nat.le_trans h4.events h5
theorem Good.row {many most : Nat} {rows : List (List Int)} (h : Good many most rows) {i : Nat} {row : List Int} (e : rows[i]? = some row) : row.length ≤ most ∧ ∀ x ∈ row, -24 ≤ x ∧ x ≤ 24 := by
  obtain ⟨c, nm, o, u, k, h1, h2, h3, h4, h5⟩ := id h
  exact ⟨Nat.le_trans (len_le_sum e) h.events, (h4.small h3).1 row (List.mem_of_getElem? e)⟩
theorem Good.fine {many most : Nat} {rows : List (List Int)} (h : Good many most rows) (h1 : many ≤ 6) (h2 : most ≤ 60) : Fine 2 40000 (rD rows) := by
  have q := fine_all (n := 1) (W := 6120) (ds := rows.map fun r => PyData.tuple (iD r)) fun d hd => by
    obtain ⟨r, hr, rfl⟩ := List.mem_map.mp hd
    obtain ⟨i, hi⟩ := List.getElem?_of_mem hr
    obtain ⟨h3, h4⟩ := h.row hi
    refine (fine_tuple (fine_ints fun n hn => ?_)).mono (Nat.le_refl _) (by omega)
    have := h4 n hn
    have : n.natAbs ≤ 24 := by omega
    exact Nat.lt_of_le_of_lt this (by decide)
  rw [List.length_map] at q
  have := h.len
  exact (fine_tuple q).mono (Nat.le_refl _) (by omega)

end Sv

namespace Sv
open PySem PySem.Spec PyProof.Rows L2
/-! ### where messages are sent and received -/
theorem Rows.at {K : PySem.W.Frag} {H : Hp} {refs : List Addr} {rows : List (List Int)} (h : Rows K H refs rows) {p : Nat} {row : List Int} (e : rows[p]? = some row) : ∃ a, refs[p]? = some a ∧ TupN H a (row.map V.int) := by
  have hp : p < refs.length := by
    rw [h.1]
    exact (List.getElem?_eq_some_iff.mp e).1
  exact ⟨_, List.getElem?_eq_getElem hp, h.2 p _ row (List.getElem?_eq_getElem hp) e⟩
def hapFrom (e : Int) : Nat → List (List Int) → Option (Nat × Nat)
  | _, [] => none
  | p, r :: rs => if e ∈ r then some (p, (r.take (r.idxOf e)).count 0) else hapFrom e (p + 1) rs
def hap (rows : List (List Int)) (e : Int) : Option (Nat × Nat) := hapFrom e 0 rows
theorem hapFrom_none {e : Int} : ∀ {rs : List (List Int)} {p : Nat}, (∀ (j : Nat) (r : List Int), rs[j]? = some r → e ∉ r) → hapFrom e p rs = none
  | [], _, _ => rfl
  | r :: rs, p, h => by
    unfold hapFrom
    rw [if_neg (h 0 r rfl)]
    exact hapFrom_none fun j r' hr => h (j + 1) r' hr
theorem hapFrom_some {e : Int} : ∀ {rs : List (List Int)} {p i : Nat} {row : List Int}, (∀ (j : Nat) (r : List Int), j < i → rs[j]? = some r → e ∉ r) → rs[i]? = some row → e ∈ row → hapFrom e p rs = some (p + i, (row.take (row.idxOf e)).count 0)
  | [], _, i, _, _, h, _ => by simp at h
  | r :: rs, p, 0, row, _, h, he => by
    obtain rfl : r = row := Option.some.inj h
    unfold hapFrom
    rw [if_pos he]
    rfl
  | r :: rs, p, i + 1, row, hn, h, he => by
    unfold hapFrom
    rw [if_neg (hn 0 r (Nat.succ_pos _) rfl), hapFrom_some (i := i) (fun j r' hj hr => hn (j + 1) r' (Nat.succ_lt_succ hj) hr) h he]
    have : p + 1 + i = p + (i + 1) := by omega
    rw [this]
def HapV (H : Hp) (v : V) : Option (Nat × Nat) → Prop
  | none => v = .non
  | some (p, k) => ∃ t, v = .ref t ∧ H t = some (.tup [.int p, .int k])
theorem HapV.same {H H' : Hp} {v : V} {o : Option (Nat × Nat)} (h : HapV H v o) (e : Same H H') : HapV H' v o := by
  match o, h with
  | none, h => exact h
  | some (p, k), ⟨t, h1, h2⟩ => exact ⟨t, h1, e _ _ h2⟩
def hapD : Option (Nat × Nat) → PyData
  | none => .none
  | some (p, k) => .tuple [.int p, .int k]
theorem HapV.dp {K : PySem.W.Frag} {H : Hp} {v : V} {o : Option (Nat × Nat)} (h : HapV H v o) : Dp K H v (hapD o) := by
  match o, h with
  | none, h =>
    cases (show v = .non from h)
    exact .non
  | some (p, k), ⟨t, h1, h2⟩ =>
    subst h1
    exact .tup (.inl (.inl h2)) (.cons (.int _) (.cons (.int _) .nil))
/-- a process and an interval that are small -/
def HapS (o : Option (Nat × Nat)) : Prop := ∀ p k, o = some (p, k) → p ≤ 1000 ∧ k ≤ 1000
theorem hapD_fine {o : Option (Nat × Nat)} (h : HapS o) : Fine 1 300 (hapD o) := by
  match o, h with
  | none, _ => exact fine_none.mono (by decide) (by decide)
  | some (p, k), h =>
    obtain ⟨h1, h2⟩ := h p k rfl
    have f : ∀ n : Nat, n ≤ 1000 → Fine 0 101 (.int (n : Int)) := fun n hn => fine_int (by
      have : ((n : Int)).natAbs = n := Int.natAbs_natCast n
      rw [this]
      exact Nat.lt_of_le_of_lt hn (by decide))
    exact (fine_tuple (fine_cons (f p h1) (fine_cons (f k h2) (fine_nil.mono (Nat.le_refl _) (Nat.le_refl _))))).mono (Nat.le_refl _) (by decide)
theorem hapFrom_small {e : Int} : ∀ {rs : List (List Int)} {p : Nat}, (∀ r ∈ rs, r.length ≤ 1000) → p + rs.length ≤ 1000 → HapS (hapFrom e p rs)
  | [], _, _, _ => fun p k h => (nomatch h)
  | r :: rs, p, h, hl => by
    unfold hapFrom
    rw [List.length_cons] at hl
    split
    · intro p' k' h'
      cases h'
      refine ⟨by omega, Nat.le_trans (List.count_le_length ..) ?_⟩
      rw [List.length_take]
      exact Nat.le_trans (Nat.min_le_right _ _) (h r List.mem_cons_self)
    · exact hapFrom_small (fun r' hr => h r' (List.mem_cons_of_mem _ hr)) (by omega)
theorem Good.hapS {many most : Nat} {rows : List (List Int)} (h : Good many most rows) (h1 : many ≤ 6) (h2 : most ≤ 60) (e : Int) : HapS (hap rows e) := by
  refine hapFrom_small (fun r hr => ?_) (by have := h.len; omega)
  obtain ⟨i, hi⟩ := List.getElem?_of_mem hr
  have := (h.row hi).1
  omega
abbrev sIsnum : Stmt := topS 2
abbrev sNum : Stmt := topS 3
abbrev sHap : Stmt := topS 10
abbrev sSent : Stmt := topS 8
abbrev sRecd : Stmt := topS 9
theorem scIsnum : FnScope ["value"] ["value"] (defScope sIsnum) := ⟨rfl, rfl, rfl, by decide +kernel, rfl, by decide +kernel, by decide +kernel⟩
theorem scNum : FnScope ["value", "low", "high"] ["value", "low", "high"] (defScope sNum) := ⟨rfl, rfl, rfl, by decide +kernel, rfl, by decide +kernel, by decide +kernel⟩
theorem scHap : FnScope ["history", "event", "process", "row", "interval", "other"] ["history", "event"] (defScope sHap) := ⟨rfl, rfl, rfl, by decide +kernel, rfl, by decide +kernel, by decide +kernel⟩
theorem scSent : FnScope ["history", "message"] ["history", "message"] (defScope sSent) := ⟨rfl, rfl, rfl, by decide +kernel, rfl, by decide +kernel, by decide +kernel⟩
theorem scRecd : FnScope ["history", "message"] ["history", "message"] (defScope sRecd) := ⟨rfl, rfl, rfl, by decide +kernel, rfl, by decide +kernel, by decide +kernel⟩
def spHap (K : PySem.W.Frag) : Sp := fun vs H Q _ => ∃ (a : Addr) (refs : List Addr) (rows : List (List Int)) (e : Int), vs = [.ref a, .int e] ∧ SqT K H a (refs.map V.ref) ∧ Rows K H refs rows ∧ (∀ r ∈ rows, r.length ≤ 1000) ∧
  ∀ (H' : Hp) (v : V), Same H H' → HapV H' v (hap rows e) → Q v H'
/-- of a message: the event with the sign s -/
def msgAt (rows : List (List Int)) (m : V) (s : Int) : Option (Nat × Nat) := match m with
  | .int i => if 1 ≤ i ∧ i ≤ 24 then hap rows (s * i) else none
  | _ => none
def spMsg (s : Int) (K : PySem.W.Frag) : Sp := fun vs H Q _ => ∃ (a : Addr) (refs : List Addr) (rows : List (List Int)) (m : V), vs = [.ref a, m] ∧ SqT K H a (refs.map V.ref) ∧ Rows K H refs rows ∧ (∀ r ∈ rows, r.length ≤ 1000) ∧ Kn K H m ∧
  ∀ (H' : Hp) (v : V), Same H H' → HapV H' v (msgAt rows m s) → Q v H'
theorem msgAt_in {rows : List (List Int)} {i s : Int} (h : numIn (.int i) 1 24 = true) : msgAt rows (.int i) s = hap rows (s * i) := by
  show (if 1 ≤ i ∧ i ≤ 24 then hap rows (s * i) else none) = _
  rw [if_pos]
  simpa [numIn] using h
theorem msgAt_out {rows : List (List Int)} {m : V} {s : Int} (h : numIn m 1 24 = false) : msgAt rows m s = none := by
  cases m with
  | int i =>
    show (if 1 ≤ i ∧ i ≤ 24 then hap rows (s * i) else none) = _
    rw [if_neg]
    intro z
    have : numIn (.int i) 1 24 = true := by simp [numIn, z.1, z.2]
    rw [this] at h
    cases h
  | _ => rfl
section
variable {P : Program} {w : World} {K : PySem.W.Frag} {mg : Str → Option Value} {base : Heap}
/-- both texts of it -/
theorem num_body {nm : Str} {st : Stmt} {f : Addr} {fd : FuncData} {N : List Str} (F : Fun K nm nm st f fd) (S : FnScope N N (defScope st)) (hN : N.length = 3)
    (hb : ∀ (cdv : Value) (A : Around) (outer : List Env) (s : Shared) (H : Hp) (E : XK), PSs (cxOf CX0 P w K mg base N nm (defScope st) f cdv A outer s H E).nox (defBody st)
      (tRet (tAndV (tCB (rIsi K) (tCons (tVar 0) (tCons (tC (.ty "int")) tNil))) (tAndV (tNotV (tCB (rIsi K) (tCons (tVar 0) (tCons (tC (.ty "bool")) tNil)))) (tChain (rI0 fun i j => .bl (decide (i ≤ j))) (rI0 fun i j => .bl (decide (i ≤ j))) (tVar 1) (tVar 0) (tVar 2)))))) :
    FnOk P w K mg base CX0 1 f fd N (spNum K) := by
  refine F.ok S (fun vs H Q E h => ?_) (fun cdv A outer s H vs Q E hr h => ?_)
  · obtain ⟨v, lo, hi, rfl, _⟩ := h
    rw [hN]
    rfl
  · obtain ⟨v, lo, hi, rfl, hk, q⟩ := h
    refine ⟨_, hb cdv A outer s H E, ?_⟩
    have e0 : ∀ (i : Nat) (x : V), [v, V.int lo, V.int hi][i]? = some x → (L2.start N [v, V.int lo, V.int hi])[i]? = some (some x) := fun i x h => by
      unfold L2.start
      have hi : i < 3 := by
        have := (List.getElem?_eq_some_iff.mp h).1
        exact this
      rw [List.getElem?_append_left (by simpa using hi), List.getElem?_map, h]
      rfl
    obtain ⟨t1, ty1, k1⟩ := hk.isInt
    obtain ⟨t2, ty2, k2⟩ := hk.isBool
    refine ⟨v, e0 0 v rfl, v, .ty "int", t1, _, isI v, rfl, .ty "int", ty1, k1, isI v, rfl, ite2 (fun h1 => ?_) (fun h1 => ?_)⟩
    · refine ⟨v, e0 0 v rfl, v, .ty "bool", t2, _, isB v, rfl, .ty "bool", ty2, k2, isB v, rfl, !isB v, rfl, ite2 (fun h2 => ?_) (fun h2 => ?_)⟩
      · obtain ⟨i, rfl⟩ : ∃ i, v = .int i := by
          cases v with
          | int i => exact ⟨i, rfl⟩
          | bl b => cases h2
          | _ => cases h1
        refine ⟨_, e0 1 _ rfl, _, e0 0 _ rfl, lo, i, rfl, rfl, decide (lo ≤ i), rfl, ite2 (fun h3 => ?_) (fun h3 => ?_)⟩
        · refine ⟨_, e0 2 _ rfl, i, hi, rfl, rfl, ?_⟩
          have : numIn (.int i) lo hi = decide (i ≤ hi) := by
            show (decide (lo ≤ i) && decide (i ≤ hi)) = _
            rw [h3, Bool.true_and]
          rw [this] at q
          exact q
        · have : numIn (.int i) lo hi = false := by
            show (decide (lo ≤ i) && decide (i ≤ hi)) = _
            rw [Bool.eq_false_iff.mpr h3, Bool.false_and]
          rw [this] at q
          exact q
      · have : numIn v lo hi = false := by
          cases v with
          | int i => exact absurd rfl h2
          | _ => rfl
        rw [this] at q
        exact q
    · have : numIn v lo hi = false := by
        cases v with
        | int i => exact absurd rfl h1
        | _ => rfl
      rw [this] at q
      exact q
def spIsnum (K : PySem.W.Frag) : Sp := fun vs H Q _ => ∃ v : V, vs = [v] ∧ Kn K H v ∧ Q (.bl (isI v && !isB v)) H
theorem ok_isnum {f : Addr} {fd : FuncData} (F : Fun K "is_number" "is_number" sIsnum f fd) (mis : mg "isinstance" = none) (mint : mg "int" = none) (mbo : mg "bool" = none) : FnOk P w K mg base CX0 1 f fd ["value"] (spIsnum K) := by
  refine F.ok scIsnum (fun vs H Q E h => ?_) (fun cdv A outer s H vs Q E hr h => ?_)
  · obtain ⟨v, rfl, _⟩ := h
    rfl
  · obtain ⟨v, rfl, hk, q⟩ := h
    refine ⟨_, pss_one (ps_ret (pe_and (pe_callB call_isi (by rfl) mis (by decide +kernel) (pa_cons (pv 0) (pa_cons (pe_bltn (v := .ty "int") (by rfl) mint (by decide +kernel) rfl) pa_nil)))
      (pe_one (pe_not (pe_callB call_isi (by rfl) mis (by decide +kernel) (pa_cons (pv 0) (pa_cons (pe_bltn (v := .ty "bool") (by rfl) mbo (by decide +kernel) rfl) pa_nil))))))), ?_⟩
    obtain ⟨t1, ty1, k1⟩ := hk.isInt
    obtain ⟨t2, ty2, k2⟩ := hk.isBool
    refine ⟨v, rfl, v, .ty "int", t1, _, isI v, rfl, .ty "int", ty1, k1, isI v, rfl, ite2 (fun h1 => ?_) (fun h1 => ?_)⟩
    · rw [h1, Bool.true_and] at q
      exact ⟨v, rfl, v, .ty "bool", t2, _, isB v, rfl, .ty "bool", ty2, k2, isB v, rfl, q⟩
    · have e : isI v = false := Bool.eq_false_iff.mpr h1
      rw [e, Bool.false_and] at q
      exact q
theorem ok_num {f fI : Addr} {fd fdI : FuncData} (F : Fun K "is_number_within" "is_number_within" sNum f fd) (FI : Fun K "is_number" "is_number" sIsnum fI fdI) (bI : Binds K fdI ["value"] []) (gI : mg "is_number" = some (.ref fI))
    (mis : mg "isinstance" = none) (mint : mg "int" = none) (mbo : mg "bool" = none) : FnOk P w K mg base CX0 2 f fd ["value", "low", "high"] (spNum K) := by
  have GI : FnOk P w K mg base CX0 1 fI fdI ["value"] (spIsnum K) := ok_isnum FI mis mint mbo
  refine F.ok scNum (fun vs H Q E h => ?_) (fun cdv A outer s H vs Q E hr h => ?_)
  · obtain ⟨v, lo, hi, rfl, _⟩ := h
    rfl
  · obtain ⟨v, lo, hi, rfl, hk, q⟩ := h
    refine ⟨_, pss_one (ps_ret (pe_and (pe_call GI hr (by rfl) gI FI.kp bI .nil pass0 (pa_cons (pv 0) pa_nil)) (pe_one (pe_chain op_le op_le (pv 1) (pv 0) (pv 2))))), ?_⟩
    refine ⟨v, rfl, v, rfl, hk, _, rfl, ite2 (fun h1 => ?_) (fun h1 => ?_)⟩
    · obtain ⟨i, rfl⟩ : ∃ i, v = .int i := by
        cases v with
        | int i => exact ⟨i, rfl⟩
        | bl b => cases h1
        | _ => cases h1
      refine ⟨_, rfl, _, rfl, lo, i, rfl, rfl, decide (lo ≤ i), rfl, ite2 (fun h3 => ?_) (fun h3 => ?_)⟩
      · refine ⟨_, rfl, i, hi, rfl, rfl, ?_⟩
        have : numIn (.int i) lo hi = decide (i ≤ hi) := by
          show (decide (lo ≤ i) && decide (i ≤ hi)) = _
          rw [h3, Bool.true_and]
        rw [this] at q
        exact q
      · have : numIn (.int i) lo hi = false := by
          show (decide (lo ≤ i) && decide (i ≤ hi)) = _
          rw [Bool.eq_false_iff.mpr h3, Bool.false_and]
        rw [this] at q
        exact q
    · have : numIn v lo hi = false := by
        cases v with
        | int i => exact absurd rfl h1
        | _ => rfl
      rw [this] at q
      exact q
theorem ok_hap {f : Addr} {fd : FuncData} (F : Fun K "happened_at" "happened_at" sHap f fd) (men : mg "enumerate" = none) : FnOk P w K mg base CX0 1 f fd ["history", "event"] (spHap K) := by
  refine F.ok scHap (fun vs H Q E h => ?_) (fun cdv A outer s H vs Q E hr h => ?_)
  · obtain ⟨a, refs, rows, e, rfl, _⟩ := h
    rfl
  · obtain ⟨a, refs, rows, e, rfl, hA, hR, hl, q⟩ := h
    have nd := scHap.nd
    refine ⟨_, pss_cons (ps_for PassesOwn.never rfl (pi_enumT (by rfl) men (pa_cons (pv 0) pa_nil)) (pg_tup rfl (pgs_cons (pg_name (i := 2) nd rfl (.inl rfl)) (pgs_cons (pg_name (i := 3) nd rfl (.inl rfl)) pgs_nil)))
        (pss_cons (ps_set (i := 4) nd rfl (.inl rfl) pe_int)
        (pss_one (ps_for PassesOwn.never rfl (pi_tup (pv 3)) (pg_name (i := 5) nd rfl (.inl rfl))
          (pss_cons (ps_if (pt_cmpR op_eq (pv 5) (pv 1) (nomark _)) (pss_one (ps_ret (pe_tup (pa_cons (pv 2) (pa_cons (pv 4) pa_nil))))) pss_nil)
          (pss_one (ps_if (pt_cmpR op_eq (pv 5) pe_int (nomark _)) (pss_one (ps_aug (i := 4) nd rfl (.inl rfl) pe_int ip_add)) pss_nil)))))))
      (pss_one (ps_ret pe_non)), ?_⟩
    refine ⟨.ref a, rfl, a, _, rfl, hA, ?_⟩
    refine for_etup (K := K) (a := a) (xs := refs.map V.ref) (fun i σ H' => ∃ x2 x3 x4 x5 : Option V, σ = [some (.ref a), some (.int e), x2, x3, x4, x5] ∧ Same H H' ∧ ∀ (j : Nat) (r : List Int), j < i → rows[j]? = some r → e ∉ r)
      ⟨_, _, _, _, rfl, Same.refl H, fun j r z _ => absurd z (Nat.not_lt_zero _)⟩ (fun i σ H' _ ⟨_, _, _, _, _, sm, _⟩ => (TupK.of sm).1 _ _ hA) ?_ ?_
    · rintro i x T σ H' hx ⟨x2, x3, x4, x5, rfl, sm, hno⟩ nT
      obtain ⟨r, hr', rfl⟩ := of_at_map hx
      have hi : i < rows.length := by
        rw [← hR.1]
        exact (List.getElem?_eq_some_iff.mp hr').1
      have hrow := List.getElem?_eq_getElem hi
      have hln := hl _ (List.mem_of_getElem? hrow)
      have sT := sm.trans (Same.new (o := .tup [V.int (i : Nat), V.ref r]) nT)
      have hrT := (hR.2 i r _ hr' hrow).same sT
      generalize rows[i] = row at hrow hln hrT
      refine ⟨T, _, rfl, .inl (.inl upd_same), rfl, _, _, rfl, _, _, rfl, rfl, ?_⟩
      generalize upd H' T (.tup [V.int (i : Nat), V.ref r]) = H2 at sT hrT ⊢
      refine ⟨_, rfl, r, rfl, ⟨_, hrT.sqT⟩, ?_⟩
      refine for_tup (K := K) (a := r) (xs := row.map V.int) (fun j σ H' => ∃ x5 : Option V, σ = [some (.ref a), some (.int e), some (.int (i : Nat)), some (.ref r), some (.int ((row.take j).count 0 : Nat)), x5] ∧ H' = H2 ∧ e ∉ row.take j)
        ⟨_, rfl, rfl, List.not_mem_nil⟩ (fun j σ H' _ ⟨_, _, e2, _⟩ => e2 ▸ hrT.sqT) ?_ ?_
      · rintro j x σ H' hx ⟨x5, rfl, rfl, hn⟩
        obtain ⟨z, hz, rfl⟩ := of_at_map hx
        have hj : j < row.length := (List.getElem?_eq_some_iff.mp hz).1
        have htk : row.take (j + 1) = row.take j ++ [z] := by
          rw [List.take_add_one, hz]
          rfl
        refine ⟨_, rfl, _, rfl, rfl, _, rfl, ?_⟩
        rw [dec_int]
        refine ite2 (fun h1 => ?_) (fun h1 => ?_)
        · obtain rfl : z = e := by simpa using h1
          refine ⟨_, rfl, _, rfl, sz (by show 2 ≤ 1000; decide), fun t nt => ?_⟩
          refine q _ _ (sT.trans (Same.new nt)) ?_
          have hm : z ∈ row := List.mem_of_getElem? hz
          have hix : row.idxOf z = j := by
            have hk := List.idxOf_lt_length_iff.mpr hm
            have hg : row[row.idxOf z] = z := List.getElem_idxOf hk
            rcases Nat.lt_trichotomy (row.idxOf z) j with h | h | h
            · exact absurd (List.mem_take_iff_getElem.mpr ⟨row.idxOf z, by omega, hg⟩) hn
            · exact h
            · have := List.not_of_lt_findIdx (xs := row) (p := (· == z)) (i := j) h
              have hzz : row[j] = z := (List.getElem?_eq_some_iff.mp hz).2
              simp [hzz] at this
          have hh : hap rows z = some (0 + i, (row.take (row.idxOf z)).count 0) := hapFrom_some hno hrow hm
          rw [hh, Nat.zero_add, hix]
          exact ⟨t, rfl, upd_same⟩
        · have hze : z ≠ e := by simpa using h1
          refine ⟨_, rfl, rfl, _, rfl, ?_⟩
          rw [dec_int]
          have hn2 : e ∉ row.take (j + 1) := by
            rw [htk, List.mem_append, List.mem_singleton]
            rintro (h | h)
            · exact hn h
            · exact hze h.symm
          refine ite2 (fun h2 => ?_) (fun h2 => ?_)
          · obtain rfl : z = 0 := by simpa using h2
            refine ⟨_, rfl, _, _, rfl, rfl, some (.int 0), ?_, rfl, hn2⟩
            rw [htk, List.count_append, List.count_singleton_self]
            rfl
          · have hz0 : z ≠ 0 := by simpa using h2
            refine ⟨some (.int z), ?_, rfl, hn2⟩
            rw [htk, List.count_append, List.count_singleton, if_neg (by simpa using hz0), Nat.add_zero]
            rfl
      · rintro σ H' ⟨x5, rfl, rfl, hn⟩
        refine ⟨_, _, _, _, rfl, sT, fun j r' hj hr2 => ?_⟩
        by_cases hji : j = i
        · subst hji
          obtain rfl := Option.some.inj (hrow.symm.trans hr2)
          rw [List.length_map, List.take_length] at hn
          exact hn
        · exact hno j r' (by omega) hr2
    · rintro σ H' ⟨x2, x3, x4, x5, rfl, sm, hno⟩
      refine q H' _ sm ?_
      have hh : hap rows e = none := hapFrom_none fun j r' hr2 => hno j r' (by
        rw [List.length_map, hR.1]
        exact (List.getElem?_eq_some_iff.mp hr2).1) hr2
      rw [hh]
      rfl
theorem ok_sent {f fN fH : Addr} {fd fdN fdH : FuncData} (F : Fun K "sent_at" "sent_at" sSent f fd) (FN : Fun K "is_number_within" "is_number_within" sNum fN fdN) (bN : Binds K fdN ["value", "low", "high"] []) (gN : mg "is_number_within" = some (.ref fN))
    {fI : Addr} {fdI : FuncData} (FI : Fun K "is_number" "is_number" sIsnum fI fdI) (bI : Binds K fdI ["value"] []) (gI : mg "is_number" = some (.ref fI))
    (FH : Fun K "happened_at" "happened_at" sHap fH fdH) (bH : Binds K fdH ["history", "event"] []) (gH : mg "happened_at" = some (.ref fH)) (gM : ∃ t, mg "MAX_MESSAGES" = some (.int 24 t))
    (mis : mg "isinstance" = none) (mint : mg "int" = none) (mbo : mg "bool" = none) (men : mg "enumerate" = none) : FnOk P w K mg base CX0 3 f fd ["history", "message"] (spMsg 1 K) := by
  have GN : FnOk P w K mg base CX0 2 fN fdN ["value", "low", "high"] (spNum K) := ok_num FN FI bI gI mis mint mbo
  have GH : FnOk P w K mg base CX0 1 fH fdH ["history", "event"] (spHap K) := ok_hap FH men
  obtain ⟨tk, gM⟩ := gM
  refine F.ok scSent (fun vs H Q E h => ?_) (fun cdv A outer s H vs Q E hr h => ?_)
  · obtain ⟨a, refs, rows, m, rfl, _⟩ := h
    rfl
  · obtain ⟨a, refs, rows, m, rfl, hA, hR, hl, hk, q⟩ := h
    refine ⟨_, pss_cons (ps_if (pt_not (pt_val (pe_call GN hr (by rfl) gN FN.kp bN .nil pass0 (pa_cons (pv 1) (pa_cons pe_int (pa_cons (pe_glob (v := .int 24) (by rfl) gM ⟨_, rfl⟩) pa_nil)))))) (pss_one (ps_ret pe_non)) pss_nil)
      (pss_one (ps_ret (pe_call GH (hr.mono (by decide)) (by rfl) gH FH.kp bH .nil pass0 (pa_cons (pv 0) (pa_cons (pv 1) pa_nil))))), ?_⟩
    refine ⟨m, rfl, m, 1, 24, rfl, hk, _, rfl, ite2 (fun h1 => ?_) (fun h1 => ?_)⟩
    · refine q H _ (Same.refl H) ?_
      rw [msgAt_out (by simpa using h1)]
      rfl
    · have h2 : numIn m 1 24 = true := by simpa using h1
      obtain ⟨i, rfl⟩ : ∃ i, m = .int i := by
        cases m with
        | int i => exact ⟨i, rfl⟩
        | _ => cases h2
      rw [msgAt_in h2, Int.one_mul] at q
      exact ⟨.ref a, rfl, _, rfl, a, refs, rows, i, rfl, hA, hR, hl, q⟩
theorem ok_recd {f fN fH : Addr} {fd fdN fdH : FuncData} (F : Fun K "received_at" "received_at" sRecd f fd) (FN : Fun K "is_number_within" "is_number_within" sNum fN fdN) (bN : Binds K fdN ["value", "low", "high"] []) (gN : mg "is_number_within" = some (.ref fN))
    {fI : Addr} {fdI : FuncData} (FI : Fun K "is_number" "is_number" sIsnum fI fdI) (bI : Binds K fdI ["value"] []) (gI : mg "is_number" = some (.ref fI))
    (FH : Fun K "happened_at" "happened_at" sHap fH fdH) (bH : Binds K fdH ["history", "event"] []) (gH : mg "happened_at" = some (.ref fH)) (gM : ∃ t, mg "MAX_MESSAGES" = some (.int 24 t))
    (mis : mg "isinstance" = none) (mint : mg "int" = none) (mbo : mg "bool" = none) (men : mg "enumerate" = none) : FnOk P w K mg base CX0 3 f fd ["history", "message"] (spMsg (-1) K) := by
  have GN : FnOk P w K mg base CX0 2 fN fdN ["value", "low", "high"] (spNum K) := ok_num FN FI bI gI mis mint mbo
  have GH : FnOk P w K mg base CX0 1 fH fdH ["history", "event"] (spHap K) := ok_hap FH men
  obtain ⟨tk, gM⟩ := gM
  refine F.ok scRecd (fun vs H Q E h => ?_) (fun cdv A outer s H vs Q E hr h => ?_)
  · obtain ⟨a, refs, rows, m, rfl, _⟩ := h
    rfl
  · obtain ⟨a, refs, rows, m, rfl, hA, hR, hl, hk, q⟩ := h
    refine ⟨_, pss_cons (ps_if (pt_not (pt_val (pe_call GN hr (by rfl) gN FN.kp bN .nil pass0 (pa_cons (pv 1) (pa_cons pe_int (pa_cons (pe_glob (v := .int 24) (by rfl) gM ⟨_, rfl⟩) pa_nil)))))) (pss_one (ps_ret pe_non)) pss_nil)
      (pss_one (ps_ret (pe_call GH (hr.mono (by decide)) (by rfl) gH FH.kp bH .nil pass0 (pa_cons (pv 0) (pa_cons (pe_un un_neg (pv 1)) pa_nil))))), ?_⟩
    refine ⟨m, rfl, m, 1, 24, rfl, hk, _, rfl, ite2 (fun h1 => ?_) (fun h1 => ?_)⟩
    · refine q H _ (Same.refl H) ?_
      rw [msgAt_out (by simpa using h1)]
      rfl
    · have h2 : numIn m 1 24 = true := by simpa using h1
      obtain ⟨i, rfl⟩ : ∃ i, m = .int i := by
        cases m with
        | int i => exact ⟨i, rfl⟩
        | _ => cases h2
      have e1 : (-1 : Int) * i = -i := by omega
      rw [msgAt_in h2, e1] at q
      exact ⟨.ref a, rfl, _, rfl, _, rfl, a, refs, rows, -i, rfl, hA, hR, hl, q⟩
end

end Sv

namespace Sv
open PySem PySem.Spec PyProof.Rows L2
/-! ### states of a row -/
def zerU (n : Nat) (row : List Int) : List Int := ((List.range n).filter fun j => decide (row[j]? = some 0)).map fun (j : Nat) => (j : Int)
def places (row : List Int) : List Int := 0 :: (zerU row.length row ++ [(row.length : Int)])
theorem zerU_succ (n : Nat) (row : List Int) : zerU (n + 1) row = zerU n row ++ (if row[n]? = some 0 then [(n : Int)] else []) := by
  unfold zerU
  rw [List.range_succ, List.filter_append, List.map_append]
  congr 1
  by_cases h : row[n]? = some 0
  · rw [if_pos h, List.filter_cons_of_pos (by rw [h]; rfl)]
    rfl
  · rw [if_neg h, List.filter_cons_of_neg (by rw [decide_eq_false h]; exact Bool.false_ne_true)]
    rfl
theorem zerU_len (row : List Int) : ∀ n, n ≤ row.length → (zerU n row).length = (row.take n).count 0
  | 0, _ => by simp [zerU]
  | n + 1, h => by
    rw [zerU_succ, List.length_append, zerU_len row n (by omega), List.take_add_one, List.count_append]
    congr 1
    have e := List.getElem?_eq_getElem (show n < row.length by omega)
    rw [e]
    by_cases h0 : row[n] = 0
    · rw [if_pos (by rw [h0]), h0]
      rfl
    · rw [if_neg (fun z => h0 (Option.some.inj z))]
      simp [h0]
theorem zerU_mem {n : Nat} {row : List Int} {x : Int} (h : x ∈ zerU n row) : 0 ≤ x ∧ x < n := by
  unfold zerU at h
  obtain ⟨j, hj, rfl⟩ := List.mem_map.mp h
  have := List.mem_range.mp (List.mem_filter.mp hj).1
  omega
theorem zerU_sorted (n : Nat) (row : List Int) : (zerU n row).Pairwise (· ≤ ·) := by
  unfold zerU
  rw [List.pairwise_map]
  refine ((List.pairwise_lt_range (n := n)).filter _).imp ?_
  intro a b h
  omega
theorem places_len (row : List Int) : (places row).length = row.count 0 + 2 := by
  unfold places
  rw [List.length_cons, List.length_append, zerU_len row row.length (Nat.le_refl _), List.take_length, List.length_singleton]
theorem places_sorted (row : List Int) : (places row).Pairwise (· ≤ ·) := by
  unfold places
  refine List.pairwise_cons.mpr ⟨fun x hx => ?_, List.pairwise_append.mpr ⟨zerU_sorted _ _, List.pairwise_singleton _ _, fun x hx y hy => ?_⟩⟩
  · rcases List.mem_append.mp hx with h | h
    · exact (zerU_mem h).1
    · rw [List.mem_singleton.mp h]
      exact Int.natCast_nonneg _
  · rw [List.mem_singleton.mp hy]
    exact Int.le_of_lt (zerU_mem hx).2
theorem places_mem {row : List Int} {x : Int} (h : x ∈ places row) : 0 ≤ x ∧ x ≤ row.length := by
  rcases List.mem_cons.mp h with rfl | h
  · omega
  · rcases List.mem_append.mp h with h | h
    · have := zerU_mem h
      omega
    · rw [List.mem_singleton.mp h]
      omega
theorem count_le_len (row : List Int) : row.count 0 ≤ row.length := List.count_le_length ..
abbrev sNums : Stmt := topS 5
abbrev sPlaceOf : Stmt := topS 6
abbrev sPlaces : Stmt := topS 7
abbrev nNums : List Str := ["history", "row"]
abbrev nPlaces : List Str := ["row", "saves", "place", "event"]
theorem scNums : FnScope nNums ["history"] (defScope sNums) := ⟨rfl, rfl, rfl, by decide +kernel, rfl, by decide +kernel, by decide +kernel⟩
theorem scPlaceOf : FnScope ["history", "state", "process", "number", "places"] ["history", "state"] (defScope sPlaceOf) := ⟨rfl, rfl, rfl, by decide +kernel, rfl, by decide +kernel, by decide +kernel⟩
theorem scPlaces : FnScope nPlaces ["row"] (defScope sPlaces) := ⟨rfl, rfl, rfl, by decide +kernel, rfl, by decide +kernel, by decide +kernel⟩
def numsOf (rows : List (List Int)) : List Int := rows.map fun r => ((r.count 0 : Nat) : Int) + 1
def spNums (K : PySem.W.Frag) : Sp := fun vs H Q _ => ∃ (a : Addr) (refs : List Addr) (rows : List (List Int)), vs = [.ref a] ∧ SqT K H a (refs.map V.ref) ∧ Rows K H refs rows ∧ rows.length ≤ 100 ∧
  ∀ (H' : Hp) (t : Addr), Same H H' → H t = none → H' t = some (.tup ((numsOf rows).map V.int)) → Q (.ref t) H'
def spPlaces (K : PySem.W.Frag) : Sp := fun vs H Q _ => ∃ (a : Addr) (row : List Int), vs = [.ref a] ∧ SqT K H a (row.map V.int) ∧ row.length ≤ 900 ∧
  ∀ (H' : Hp) (l : Addr), Same H H' → H l = none → H' l = some (.lst ((places row).map V.int)) → Q (.ref l) H'
def spPlaceOf (K : PySem.W.Frag) : Sp := fun vs H Q _ => ∃ (a b : Addr) (refs : List Addr) (rows : List (List Int)) (p n : Nat) (row : List Int) (x : Int), vs = [.ref a, .ref b] ∧ SqT K H a (refs.map V.ref) ∧ Rows K H refs rows ∧
  SqT K H b [.int p, .int n] ∧ rows[p]? = some row ∧ row.length ≤ 900 ∧ (places row)[n]? = some x ∧ ∀ H', Same H H' → Q (.int x) H'
section
variable {P : Program} {w : World} {K : PySem.W.Frag} {mg : Str → Option Value} {base : Heap}
theorem ok_nums {f : Addr} {fd : FuncData} (F : Fun K "state_numbers" "state_numbers" sNums f fd) (mtu : mg "tuple" = none) : FnOk P w K mg base CX0 1 f fd ["history"] (spNums K) := by
  refine F.ok scNums (fun vs H Q E h => ?_) (fun cdv A outer s H vs Q E hr h => ?_)
  · obtain ⟨a, refs, rows, rfl, _⟩ := h
    rfl
  · obtain ⟨a, refs, rows, rfl, hA, hR, hl, q⟩ := h
    refine ⟨_, pss_one (ps_ret (pe_callTy call_tuple_of (by rfl) mtu (by decide +kernel) (pa_cons
      (pe_lc (own := [("row", 1)]) (g := gName 1) (by rfl) scNums.nd (pi_tup (pv 0)) (blkOk_by (own := [("row", 1)]) (N := nNums) (sc := defScope sNums) (by decide +kernel))
        (fun _ _ _ _ _ => pg_name (i := 1) scNums.nd rfl (Or.inl rfl)) (fun _ _ _ _ _ => pts_nil)
        (fun _ _ _ _ _ => pe_op op_add (pe_tm (r := rTcount K) PySem.F.slot_tuple_count PySem.F.type_tuple_count (mt_tcount hr.units) (pv 1) (pa_cons pe_int pa_nil)) pe_int)) pa_nil))), ?_⟩
    refine ⟨.ref a, rfl, a, rfl, ⟨_, hA⟩, fun d nd => ?_⟩
    refine lc_tup (K := K) (a := a) (xs := refs.map V.ref) (fun i H1 => Same H H1 ∧ H1 d = some (.lst ((numsOf (rows.take i)).map V.int))) ⟨Same.new nd, upd_same⟩ (fun i H1 _ z => (TupK.of z.1).1 _ _ hA) (fun i x H1 hx z => ?_) (fun H1 z => ?_)
    · obtain ⟨r, hr', rfl⟩ := of_at_map hx
      have hi : i < rows.length := by
        rw [← hR.1]
        exact (List.getElem?_eq_some_iff.mp hr').1
      have hrow := List.getElem?_eq_getElem hi
      have ht := (hR.2 i r _ hr' hrow).same z.1
      refine ⟨rfl, ?_⟩
      refine yesT ?_
      refine ⟨.ref r, rfl, ⟨r, _, rfl, ht⟩, r, rows[i], 0, rfl, rfl, ht.sqT, _, _, rfl, rfl, _, z.2, ?_, Same.put nd z.1, ?_⟩
      · rw [numsOf, List.map_map, List.length_map, List.length_take]
        exact small1000 (by omega)
      · rw [upd_same, List.take_add_one, hrow]
        simp only [numsOf, List.map_append, Option.toList, List.map_cons, List.map_nil]
    · have h2 := z.2
      rw [List.length_map, hR.1, List.take_length] at h2
      refine ⟨d, _, rfl, .inl ⟨SqL.of h2, fun t nt => ?_⟩⟩
      exact q _ t (z.1.trans (Same.new nt)) (z.1.free nt) upd_same
theorem ok_places {f : Addr} {fd : FuncData} (F : Fun K "state_places" "state_places" sPlaces f fd) (ml : mg "len" = none) (men : mg "enumerate" = none) : FnOk P w K mg base CX0 1 f fd ["row"] (spPlaces K) := by
  refine F.ok scPlaces (fun vs H Q E h => ?_) (fun cdv A outer s H vs Q E hr h => ?_)
  · obtain ⟨a, row, rfl, _⟩ := h
    rfl
  · obtain ⟨a, row, rfl, hA, hl, q⟩ := h
    have nd := scPlaces.nd
    refine ⟨_, pss_cons (ps_setLc (i := 1) (own := [("place", 2), ("event", 3)]) (g := gTup K 2 (gCons (gName 2) (gCons (gName 3) gNil))) (by rfl) nd rfl rfl (sw_true rfl rfl rfl (by decide +kernel)) (pi_enumT (by rfl) men (pa_cons (pv 0) pa_nil))
        (blkOk_by (own := [("place", 2), ("event", 3)]) (N := nPlaces) (sc := defScope sPlaces) (by decide +kernel))
        (fun _ _ _ _ _ => pg_tup rfl (pgs_cons (pg_name (i := 2) nd rfl (Or.inl rfl)) (pgs_cons (pg_name (i := 3) nd rfl (Or.inl rfl)) pgs_nil)))
        (fun _ _ _ _ _ => pts_one (pt_cmpR op_eq (pv 3) pe_int (nomark _))) (fun _ _ _ _ _ => pv 2))
      (pss_one (ps_ret (pe_lst (pa_cons pe_int (StX.pa_star (pv 1) (pa_cons (pe_callB call_len_seq (by rfl) ml PySem.boot_len (pa_cons (pv 0) pa_nil)) pa_nil)))))), ?_⟩
    refine ⟨.ref a, rfl, a, _, rfl, hA, fun d nd' => ?_⟩
    refine lc_etup (K := K) (a := a) (xs := row.map V.int) (fun i H1 => Same H H1 ∧ H1 d = some (.lst ((zerU i row).map V.int))) ⟨Same.new nd', upd_same⟩ (fun i H1 _ z => (TupK.of z.1).1 _ _ hA) (fun i x T H1 hx z nT => ?_) (fun H1 z => ?_)
    · obtain ⟨n, hn, rfl⟩ := of_at_map hx
      have hi : i < row.length := (List.getElem?_eq_some_iff.mp hn).1
      have sT : Same H1 (upd H1 T (.tup [.int (i : Nat), .int n])) := Same.new nT
      have zl : (zerU i row).length ≤ i := by
        rw [zerU_len row i (by omega)]
        exact Nat.le_trans (List.count_le_length ..) (by rw [List.length_take]; exact Nat.min_le_left _ _)
      refine ⟨T, _, rfl, .inl (.inl upd_same), rfl, _, _, rfl, _, _, rfl, rfl, rfl, _, rfl, rfl, _, rfl, ite2 (fun e => ?_) (fun e => ?_)⟩
      · have e0 : n = 0 := V.int.inj (of_decide_eq_true e)
        refine ⟨_, rfl, _, sT _ _ z.2, ?_, Same.put nd' (z.1.trans sT), ?_⟩
        · rw [List.length_map]
          exact small1000 (by omega)
        · rw [upd_same, zerU_succ, if_pos (by rw [hn, e0]), List.map_append]
          rfl
      · have e0 : n ≠ 0 := fun w => e (decide_eq_true (by rw [w]))
        refine ⟨z.1.trans sT, ?_⟩
        rw [zerU_succ, if_neg (by rw [hn]; exact fun w => e0 (Option.some.inj w)), List.append_nil]
        exact sT _ _ z.2
    · rw [List.length_map] at z
      have zl : (zerU row.length row).length ≤ row.length := by
        rw [zerU_len row row.length (Nat.le_refl _), List.take_length]
        exact List.count_le_length ..
      refine ⟨.ref d, rfl, d, _, rfl, .inr (SqL.of z.2), .ref a, rfl, a, _, rfl, .inr ((TupK.of z.1).1 _ _ hA), ?_, fun l nl => ?_⟩
      · rw [List.length_cons, List.length_append, List.length_map, List.length_singleton]
        exact sz (by omega)
      · refine q _ l (z.1.trans (Same.new nl)) (z.1.free nl) ?_
        rw [upd_same, places, List.map_cons, List.map_append, List.length_map]
        rfl
theorem ok_placeOf {f fS : Addr} {fd fdS : FuncData} (F : Fun K "place_of" "place_of" sPlaceOf f fd) (FS : Fun K "state_places" "state_places" sPlaces fS fdS) (bS : Binds K fdS ["row"] []) (gS : mg "state_places" = some (.ref fS)) (ml : mg "len" = none) (men : mg "enumerate" = none) :
    FnOk P w K mg base CX0 2 f fd ["history", "state"] (spPlaceOf K) := by
  have GS : FnOk P w K mg base CX0 1 fS fdS ["row"] (spPlaces K) := ok_places FS ml men
  refine F.ok scPlaceOf (fun vs H Q E h => ?_) (fun cdv A outer s H vs Q E hr h => ?_)
  · obtain ⟨a, b, refs, rows, p, n, row, x, rfl, _⟩ := h
    rfl
  · obtain ⟨a, b, refs, rows, p, n, row, x, rfl, hA, hR, hB, hp, hl, hx, q⟩ := h
    have nd := scPlaceOf.nd
    refine ⟨_, pss_cons (ps_asg (pv 1) (pg_tup rfl (pgs_cons (pg_name (i := 2) nd rfl (.inl rfl)) (pgs_cons (pg_name (i := 3) nd rfl (.inl rfl)) pgs_nil))))
      (pss_cons (ps_set (i := 4) nd rfl (.inl rfl) (pe_call GS hr (by rfl) gS FS.kp bS .nil pass0 (pa_cons (pe_ix ix_tup (pv 0) (pv 2) (fun _ _ => rfl)) pa_nil)))
      (pss_one (ps_ret (pe_ix ix_list (pv 4) (pv 3) (fun _ _ => rfl))))), ?_⟩
    obtain ⟨r, hr1, hr2⟩ := hR.at hp
    refine ⟨.ref b, rfl, b, _, rfl, hB, rfl, _, _, rfl, _, _, rfl, rfl, .ref a, rfl, .int p, rfl, a, _, p, .ref r, rfl, rfl, hA, atI_nat (at_map hr1), r, row, rfl, hr2.sqT, hl, fun H1 l sm nl hL => ?_⟩
    exact ⟨.ref l, rfl, .int n, rfl, l, _, n, .int x, rfl, rfl, SqL.of hL, atI_nat (at_map hx), q H1 sm⟩
end

end Sv

namespace Sv
open PySem PySem.Spec PyProof.Rows L2
abbrev sOrder : Stmt := topS 11
abbrev sReady : Stmt := topS 12
abbrev nOrder : List Str := ["history", "places", "happened", "process", "event"]
theorem scReady : FnScope ["history", "places", "happened", "process", "row", "event"] ["history", "places", "happened"] (defScope sReady) := ⟨rfl, rfl, rfl, by decide +kernel, rfl, by decide +kernel, by decide +kernel⟩
theorem scOrder : GScope nOrder ["history"] (defScope sOrder) := ⟨rfl, rfl, rfl, by decide +kernel, rfl, by decide +kernel, by decide +kernel⟩
/-! ### the order as a plain function -/
/-- the events that the places have passed -/
def seen : List (List Int) → List Nat → List Int
  | r :: rs, n :: ns => r.take n ++ seen rs ns
  | _, _ => []
/-- the process that goes on: the lowest whose next event need not wait; S: what happened -/
def goesFrom (S : List Int) : Nat → List (List Int) → List Nat → Option (Nat × Int)
  | p, r :: rs, n :: ns => match r[n]? with
    | some e => if 0 ≤ e ∨ -e ∈ S then some (p, e) else goesFrom S (p + 1) rs ns
    | none => goesFrom S (p + 1) rs ns
  | _, _, _ => none
def goes (rows : List (List Int)) (pl : List Nat) : Option (Nat × Int) := goesFrom (seen rows pl) 0 rows pl
def steps (rows : List (List Int)) : Nat → List Nat → List (Int × Int)
  | 0, _ => []
  | k + 1, pl => match goes rows pl with
    | some (p, e) => ((p : Int), e) :: steps rows k (pl.set p (pl.getD p 0 + 1))
    | none => []
def total (rows : List (List Int)) : Nat := (rows.map List.length).sum
def order (rows : List (List Int)) : List (Int × Int) := steps rows (total rows + 1) (List.replicate rows.length 0)
theorem goesFrom_some {S : List Int} : ∀ {rs : List (List Int)} {pl : List Nat} {q p : Nat} {e : Int}, goesFrom S q rs pl = some (p, e) → ∃ i r n, p = q + i ∧ rs[i]? = some r ∧ pl[i]? = some n ∧ r[n]? = some e ∧ (0 ≤ e ∨ -e ∈ S)
  | [], _, q, p, e, h => by simp [goesFrom] at h
  | _ :: _, [], q, p, e, h => by simp [goesFrom] at h
  | r :: rs, n :: ns, q, p, e, h => by
    unfold goesFrom at h
    have more : goesFrom S (q + 1) rs ns = some (p, e) → ∃ i r' n', p = q + i ∧ (r :: rs)[i]? = some r' ∧ (n :: ns)[i]? = some n' ∧ r'[n']? = some e ∧ (0 ≤ e ∨ -e ∈ S) := fun h => by
      obtain ⟨i, r', n', h1, h2, h3, h4, h5⟩ := goesFrom_some h
      exact ⟨i + 1, r', n', by omega, h2, h3, h4, h5⟩
    cases hr : r[n]? with
    | none =>
      rw [hr] at h
      exact more h
    | some x =>
      rw [hr] at h
      simp only at h
      split at h
      · rename_i hx
        cases h
        exact ⟨0, r, n, rfl, rfl, rfl, hr, hx⟩
      · exact more h
/-- with the same events happened, told by another list -/
theorem goesFrom_congr {S S' : List Int} (h : ∀ x, x ∈ S ↔ x ∈ S') : ∀ (rs : List (List Int)) (pl : List Nat) (q : Nat), goesFrom S q rs pl = goesFrom S' q rs pl
  | [], _, _ => by simp [goesFrom]
  | _ :: _, [], _ => by simp [goesFrom]
  | r :: rs, n :: ns, q => by
    unfold goesFrom
    rw [goesFrom_congr h rs ns (q + 1)]
    cases r[n]? with
    | none => rfl
    | some e => simp only [h (-e)]
/-- it skips those that must wait -/
theorem goesFrom_skip {S : List Int} : ∀ {rs : List (List Int)} {pl : List Nat} {q i : Nat} {r : List Int} {n : Nat} {e : Int}, (∀ (j : Nat) (r : List Int) (n : Nat), j < i → rs[j]? = some r → pl[j]? = some n → ∀ e, r[n]? = some e → ¬ (0 ≤ e ∨ -e ∈ S)) →
    rs[i]? = some r → pl[i]? = some n → r[n]? = some e → (0 ≤ e ∨ -e ∈ S) → goesFrom S q rs pl = some (q + i, e)
  | [], _, q, i, r, n, e, _, h, _, _, _ => by simp at h
  | _ :: _, [], q, i, r, n, e, _, _, h, _, _ => by simp at h
  | a :: rs, m :: ns, q, 0, r, n, e, hn, h1, h2, h3, h4 => by
    obtain rfl : a = r := Option.some.inj h1
    obtain rfl : m = n := Option.some.inj h2
    unfold goesFrom
    rw [h3]
    simp only
    rw [if_pos h4]
    rfl
  | a :: rs, m :: ns, q, i + 1, r, n, e, hn, h1, h2, h3, h4 => by
    have ih := goesFrom_skip (S := S) (rs := rs) (pl := ns) (q := q + 1) (i := i) (r := r) (n := n) (e := e) (fun j r n hj hr hp => hn (j + 1) r n (Nat.succ_lt_succ hj) hr hp) h1 h2 h3 h4
    have hq : q + 1 + i = q + (i + 1) := by omega
    rw [hq] at ih
    unfold goesFrom
    cases hr : a[m]? with
    | none => exact ih
    | some x =>
      simp only
      rw [if_neg (hn 0 a m (Nat.succ_pos _) rfl rfl x hr)]
      exact ih
theorem goesFrom_none {S : List Int} : ∀ {rs : List (List Int)} {pl : List Nat} {q : Nat}, (∀ (j : Nat) (r : List Int) (n : Nat), rs[j]? = some r → pl[j]? = some n → ∀ e, r[n]? = some e → ¬ (0 ≤ e ∨ -e ∈ S)) → goesFrom S q rs pl = none
  | [], _, _, _ => by simp [goesFrom]
  | _ :: _, [], _, _ => by simp [goesFrom]
  | a :: rs, m :: ns, q, hn => by
    have ih := goesFrom_none (S := S) (rs := rs) (pl := ns) (q := q + 1) (fun j r n hr hp => hn (j + 1) r n hr hp)
    unfold goesFrom
    cases hr : a[m]? with
    | none => exact ih
    | some x =>
      simp only
      rw [if_neg (hn 0 a m rfl rfl x hr)]
      exact ih
theorem seen_step : ∀ {rows : List (List Int)} {pl : List Nat} {p n : Nat} {r : List Int} {e : Int}, rows[p]? = some r → pl[p]? = some n → r[n]? = some e → ∀ x, x ∈ seen rows (pl.set p (n + 1)) ↔ x = e ∨ x ∈ seen rows pl
  | [], _, p, _, _, _, h, _, _ => by simp at h
  | _ :: _, [], p, _, _, _, _, h, _ => by simp at h
  | a :: rs, m :: ns, 0, n, r, e, h1, h2, h3 => fun x => by
    obtain rfl : a = r := Option.some.inj h1
    obtain rfl : m = n := Option.some.inj h2
    simp only [List.set_cons_zero, seen, List.take_add_one, h3, Option.toList, List.mem_append, List.mem_singleton]
    constructor
    · rintro ((h | h) | h)
      · exact .inr (.inl h)
      · exact .inl h
      · exact .inr (.inr h)
    · rintro (h | h | h)
      · exact .inl (.inr h)
      · exact .inl (.inl h)
      · exact .inr h
  | a :: rs, m :: ns, p + 1, n, r, e, h1, h2, h3 => fun x => by
    have ih := seen_step (rows := rs) (pl := ns) (p := p) (n := n) (r := r) (e := e) h1 h2 h3 x
    simp only [List.set_cons_succ, seen, List.mem_append, ih]
    constructor
    · rintro (h | h | h)
      · exact .inr (.inl h)
      · exact .inl h
      · exact .inr (.inr h)
    · rintro (h | h | h)
      · exact .inr (.inl h)
      · exact .inl h
      · exact .inr (.inr h)
/-- what happened, as a dict's keys -/
def Hap (kvs : List (Key × V)) (S : List Int) : Prop := ∀ x : Int, (valV kvs (Sum.inl x)).isSome = decide (x ∈ S)
theorem putK_some {kvs : List (Key × V)} {k k' : Key} {v : V} : (valV (putK kvs k v) k').isSome = (decide (k' = k) || (valV kvs k').isSome) := by
  rw [← valV_any, ← valV_any]
  unfold putK
  by_cases h : (kvs.any fun kv => decide (kv.1 = k)) = true
  · rw [if_pos h]
    have e1 : (kvs.map fun kv => if kv.1 = k then (kv.1, v) else kv).any (fun kv => decide (kv.1 = k')) = kvs.any (fun kv => decide (kv.1 = k')) := by
      rw [List.any_map]
      congr 1
      funext kv
      show decide ((if kv.1 = k then (kv.1, v) else kv).1 = k') = decide (kv.1 = k')
      split <;> rfl
    rw [e1]
    by_cases e : k' = k
    · subst e
      rw [h]
      simp
    · rw [decide_eq_false e, Bool.false_or]
  · rw [if_neg h, List.any_append]
    show ((kvs.any fun kv => decide (kv.1 = k')) || (decide (k = k') || false)) = _
    rw [Bool.or_false, Bool.or_comm]
    congr 1
    by_cases e : k = k'
    · subst e; rfl
    · rw [decide_eq_false e, decide_eq_false (Ne.symm e)]
theorem putK_len {kvs : List (Key × V)} {k : Key} {v : V} : (putK kvs k v).length ≤ kvs.length + 1 := by
  unfold putK
  split
  · rw [List.length_map]
    omega
  · rw [List.length_append]
    exact Nat.le_refl _
def plV (pl : List Nat) : List V := pl.map fun (n : Nat) => V.int (n : Int)
/-- the next process, or None -/
def goV : Option (Nat × Int) → V
  | none => .non
  | some (p, _) => .int p
def spReady (K : PySem.W.Frag) : Sp := fun vs H Q _ => ∃ (a b d : Addr) (refs : List Addr) (rows : List (List Int)) (pl : List Nat) (kvs : List (Key × V)), vs = [.ref a, .ref b, .ref d] ∧ SqT K H a (refs.map V.ref) ∧ Rows K H refs rows ∧
  H b = some (.lst (plV pl)) ∧ pl.length = rows.length ∧ H d = some (.dK kvs) ∧ Hap kvs (seen rows pl) ∧ ∀ H', Same H H' → Q (goV (goes rows pl)) H'
/-- the pairs handed out -/
def spOrder (K : PySem.W.Frag) : SpG := fun vs H Q _ => ∃ (a : Addr) (refs : List Addr) (rows : List (List Int)), vs = [.ref a] ∧ SqT K H a (refs.map V.ref) ∧ Rows K H refs rows ∧ rows.length ≤ 100 ∧ total rows ≤ 1000 ∧
  ∀ (H' : Hp) (ts : List Addr), Same H H' → Opens K H' ts (order rows) → Q (ts.map V.ref) H'
theorem pl_at {pl : List Nat} {i n : Nat} (h : pl[i]? = some n) : (plV pl)[i]? = some (.int (n : Int)) := by
  unfold plV
  rw [List.getElem?_map, h]
  rfl
section
variable {P : Program} {w : World} {K : PySem.W.Frag} {mg : Str → Option Value} {base : Heap}
theorem ok_ready {f : Addr} {fd : FuncData} (F : Fun K "ready_process" "ready_process" sReady f fd) (ml : mg "len" = none) (men : mg "enumerate" = none) : FnOk P w K mg base CX0 1 f fd ["history", "places", "happened"] (spReady K) := by
  refine F.ok scReady (fun vs H Q E h => ?_) (fun cdv A outer s H vs Q E hr h => ?_)
  · obtain ⟨a, b, d, refs, rows, pl, kvs, rfl, _⟩ := h
    rfl
  · obtain ⟨a, b, d, refs, rows, pl, kvs, rfl, hA, hR, hb, hpl, hd, hk, q⟩ := h
    have nd := scReady.nd
    have hu := hu_of hr
    refine ⟨_, pss_cons (ps_for PassesOwn.never rfl (pi_enumT (by rfl) men (pa_cons (pv 0) pa_nil)) (pg_tup rfl (pgs_cons (pg_name (i := 3) nd rfl (.inl rfl)) (pgs_cons (pg_name (i := 4) nd rfl (.inl rfl)) pgs_nil)))
        (pss_one (ps_if (pt_cmpR op_lt (pe_ix ix_list (pv 1) (pv 3) (fun _ _ => rfl)) (pe_callB call_len_seq (by rfl) ml PySem.boot_len (pa_cons (pv 4) pa_nil)) (nomark _))
          (pss_cons (ps_set (i := 5) nd rfl (.inl rfl) (pe_ix ix_tup (pv 4) (pe_ix ix_list (pv 1) (pv 3) (fun _ _ => rfl)) (fun _ _ => rfl)))
          (pss_one (ps_if (PW.pt (pw_or (pt_cmpR op_ge (pv 5) pe_int (nomark _)) (pw_or1 (pt_cmp (pc_din hu (pe_un un_neg (pv 5)) (pv 2)))))) (pss_one (ps_ret (pv 3))) pss_nil))) pss_nil)))
      (pss_one (ps_ret pe_non)), ?_⟩
    refine ⟨.ref a, rfl, a, _, rfl, hA, ?_⟩
    refine for_etup (K := K) (a := a) (xs := refs.map V.ref) (fun i σ H' => ∃ x3 x4 x5 : Option V, σ = [some (.ref a), some (.ref b), some (.ref d), x3, x4, x5] ∧ Same H H' ∧
        ∀ (j : Nat) (r : List Int) (n : Nat), j < i → rows[j]? = some r → pl[j]? = some n → ∀ e, r[n]? = some e → ¬ (0 ≤ e ∨ -e ∈ seen rows pl))
      ⟨_, _, _, rfl, Same.refl H, fun j _ _ z => absurd z (Nat.not_lt_zero _)⟩ (fun i σ H' _ ⟨_, _, _, _, sm, _⟩ => (TupK.of sm).1 _ _ hA) ?_ ?_
    · rintro i x T σ H' hx ⟨x3, x4, x5, rfl, sm, hno⟩ nT
      obtain ⟨r, hr', rfl⟩ := of_at_map hx
      have hi : i < rows.length := by
        rw [← hR.1]
        exact (List.getElem?_eq_some_iff.mp hr').1
      have hrow := List.getElem?_eq_getElem hi
      have hpi := List.getElem?_eq_getElem (show i < pl.length by omega)
      generalize rows[i] = row at hrow
      generalize pl[i] = n at hpi
      have sT := sm.trans (Same.new (o := .tup [V.int (i : Nat), V.ref r]) nT)
      have hrT := ((hR.2 i r _ hr' hrow).same sT).sqT (K := K)
      have hb1 := SqL.of (K := K) (sT _ _ hb)
      have hd1 := sT _ _ hd
      refine ⟨T, _, rfl, .inl (.inl upd_same), rfl, _, _, rfl, _, _, rfl, rfl, ?_⟩
      generalize upd H' T (.tup [V.int (i : Nat), V.ref r]) = H1 at sT hrT hb1 hd1 ⊢
      have hat := atI_nat (pl_at hpi)
      refine ⟨.ref b, rfl, _, rfl, b, _, i, _, rfl, rfl, hb1, hat, .ref r, rfl, r, _, rfl, .inr hrT, _, _, rfl, rfl, _, rfl, ite2 (fun h1 => ?_) (fun h1 => ?_)⟩
      · have hn : n < row.length := by
          have := of_decide_eq_true h1
          rw [List.length_map] at this
          omega
        have he := List.getElem?_eq_getElem hn
        generalize row[n] = e at he
        refine ⟨.ref r, rfl, .ref b, rfl, _, rfl, b, _, i, _, rfl, rfl, hb1, hat, r, _, n, .int e, rfl, rfl, hrT, atI_nat (at_map he), ?_⟩
        have goal2 : (0 ≤ e ∨ -e ∈ seen rows pl) → Q (.int (i : Nat)) H1 := fun hz => by
          have hh : goes rows pl = some (0 + i, e) := goesFrom_skip hno hrow hpi he hz
          have q2 := q H1 sT
          rw [hh, Nat.zero_add] at q2
          exact q2
        have next : ¬ (0 ≤ e ∨ -e ∈ seen rows pl) → ∀ (j : Nat) (r' : List Int) (n' : Nat), j < i + 1 → rows[j]? = some r' → pl[j]? = some n' → ∀ e', r'[n']? = some e' → ¬ (0 ≤ e' ∨ -e' ∈ seen rows pl) := fun hz j r' n' hj h2 h3 e' h4 => by
          by_cases hji : j = i
          · subst hji
            obtain rfl := Option.some.inj (hrow.symm.trans h2)
            obtain rfl := Option.some.inj (hpi.symm.trans h3)
            obtain rfl := Option.some.inj (he.symm.trans h4)
            exact hz
          · exact hno j r' n' (by omega) h2 h3 e' h4
        refine ⟨_, rfl, _, _, rfl, rfl, _, rfl, ite2 (fun h2 => ?_) (fun h2 => ?_)⟩
        · refine iteT ?_
          exact ⟨_, rfl, goal2 (.inl (of_decide_eq_true h2))⟩
        · refine ⟨_, rfl, _, rfl, .ref d, rfl, d, _, rfl, DGet.k (k := Sum.inl (-e)) hd1, _, rfl, ?_⟩
          rw [hk (-e)]
          refine ite2 (fun h3 => ?_) (fun h3 => ?_)
          · exact ⟨_, rfl, goal2 (.inr (of_decide_eq_true h3))⟩
          · exact ⟨_, _, _, rfl, sT, next fun z => z.elim (fun z => h2 (decide_eq_true z)) fun z => h3 (decide_eq_true z)⟩
      · have hn : ¬ n < row.length := fun z => h1 (decide_eq_true (by rw [List.length_map]; omega))
        refine ⟨_, _, _, rfl, sT, fun j r' n' hj h2 h3 e' h4 => ?_⟩
        by_cases hji : j = i
        · subst hji
          obtain rfl := Option.some.inj (hrow.symm.trans h2)
          obtain rfl := Option.some.inj (hpi.symm.trans h3)
          exact absurd (List.getElem?_eq_some_iff.mp h4).1 hn
        · exact hno j r' n' (by omega) h2 h3 e' h4
    · rintro σ H' ⟨x3, x4, x5, rfl, sm, hno⟩
      have hh : goes rows pl = none := goesFrom_none fun j r n h1 h2 e h3 => hno j r n (by
        rw [List.length_map, hR.1]
        exact (List.getElem?_eq_some_iff.mp h1).1) h1 h2 e h3
      have q2 := q H' sm
      rw [hh] at q2
      exact q2
end

end Sv

namespace Sv
open PySem PySem.Spec PyProof.Rows L2
/-! ### the order, item by item -/
def rGetL (K : PySem.W.Frag) : V → V → Hp → VK → Prop := fun o i H Q => ∃ (p : Addr) (xs : List V) (k : Nat) (v : V), o = .ref p ∧ i = .int k ∧ SqL K H p xs ∧ xs[k]? = some v ∧ Q v H
section
variable {X : Cx}
theorem pget_list : PGet X (rGetL X.K) := by
  intro pins s σ H o i ov iv Q I ro ri h
  obtain ⟨p, xs, k, v, rfl, rfl, hq, hx, q⟩ := h
  cases ro
  obtain ⟨t, rfl⟩ := ri
  obtain ⟨its, r, pl, hz⟩ := I.list hq
  obtain ⟨w, ew, rw'⟩ := r.get hx
  have hk : k < xs.length := (List.getElem?_eq_some_iff.mp hx).1
  have hn := line63
  exact wpAny_getItem_list pl.isList (Int.natCast_nonneg k) (by omega) (by rw [Int.toNat_natCast]; simpa using ew) ⟨v, H, I, rw', q⟩
end
theorem TupK.putD {K : PySem.W.Frag} {H : Hp} {l : Addr} {kvs : List (Key × V)} {o : HO} (h : H l = some (.dK kvs)) : TupK K H (upd H l o) := ⟨fun a ys q => by
  rcases q with (q | ⟨o, q⟩) | q
  · exact .inl (.inl (by rw [upd_ne (ne_of q h (by intro z; cases z))]; exact q))
  · exact .inl (.inr ⟨o, by rw [upd_ne (ne_of q h (by intro z; cases z))]; exact q⟩)
  · exact .inr q, fun a ys q => by
  obtain ⟨o, q, d⟩ := q
  exact ⟨o, by rw [upd_ne (ne_of q h (by intro z; cases z))]; exact q, d⟩⟩
/-- the places are within the rows -/
def Fit (rows : List (List Int)) (pl : List Nat) : Prop := ∀ (i : Nat) (r : List Int) (n : Nat), rows[i]? = some r → pl[i]? = some n → n ≤ r.length
theorem fit_sum : ∀ {rows : List (List Int)} {pl : List Nat}, pl.length = rows.length → Fit rows pl → pl.sum ≤ total rows
  | [], [], _, _ => Nat.le_refl _
  | [], _ :: _, h, _ => by simp at h
  | _ :: _, [], _, _ => Nat.zero_le _
  | r :: rs, n :: ns, h, f => by
    have h1 := fit_sum (rows := rs) (pl := ns) (by simpa using h) fun i r n a b => f (i + 1) r n a b
    have h2 := f 0 r n rfl rfl
    unfold total at h1 ⊢
    simp only [List.map_cons, List.sum_cons]
    omega
theorem sum_set {pl : List Nat} {p n : Nat} (h : pl[p]? = some n) : (pl.set p (n + 1)).sum = pl.sum + 1 := by
  induction pl generalizing p with
  | nil => simp at h
  | cons a r ih =>
    cases p with
    | zero =>
      obtain rfl : a = n := Option.some.inj h
      simp only [List.set_cons_zero, List.sum_cons]
      omega
    | succ p =>
      have := ih (p := p) h
      simp only [List.set_cons_succ, List.sum_cons, this]
      omega
theorem fit_set {rows : List (List Int)} {pl : List Nat} {p n : Nat} {r : List Int} {e : Int} (f : Fit rows pl) (h : rows[p]? = some r) (h1 : pl[p]? = some n) (h2 : r[n]? = some e) : Fit rows (pl.set p (n + 1)) := fun i r' n' a b => by
  by_cases z : p = i
  · subst z
    rw [h] at a
    cases a
    rw [List.getElem?_set] at b
    rw [if_pos rfl] at b
    split at b
    · cases b
      exact (List.getElem?_eq_some_iff.mp h2).1
    · cases b
  · rw [List.getElem?_set_ne z] at b
    exact f i r' n' a b
theorem fit_zero {rows : List (List Int)} {n : Nat} : Fit rows (List.replicate n 0) := fun i r m _ b => by
  rw [(List.mem_replicate.mp (List.mem_of_getElem? b)).2]
  exact Nat.zero_le _
theorem seen_zero : ∀ {rows : List (List Int)} {n : Nat}, seen rows (List.replicate n 0) = []
  | [], n => by simp [seen]
  | r :: rs, 0 => by simp [seen]
  | r :: rs, n + 1 => by
    show r.take 0 ++ seen rs (List.replicate n 0) = []
    rw [seen_zero]
    rfl
theorem goes_some {rows : List (List Int)} {pl : List Nat} {p : Nat} {e : Int} (h : goes rows pl = some (p, e)) : ∃ r n, rows[p]? = some r ∧ pl[p]? = some n ∧ r[n]? = some e ∧ (0 ≤ e ∨ -e ∈ seen rows pl) := by
  obtain ⟨i, r, n, rfl, h2, h3, h4, h5⟩ := goesFrom_some h
  rw [Nat.zero_add]
  exact ⟨r, n, h2, h3, h4, h5⟩
theorem steps_succ {rows : List (List Int)} {pl : List Nat} {p n k : Nat} {e : Int} (h : goes rows pl = some (p, e)) (h2 : pl[p]? = some n) : steps rows (k + 1) pl = ((p : Int), e) :: steps rows k (pl.set p (n + 1)) := by
  have e1 : pl.getD p 0 = n := by rw [List.getD_eq_getElem?_getD, h2]; rfl
  rw [← e1]
  conv => lhs; unfold steps
  rw [h]
theorem hap_put {kvs : List (Key × V)} {S S' : List Int} {e : Int} {v : V} (h : Hap kvs S) (hS : ∀ x, x ∈ S' ↔ x = e ∨ x ∈ S) : Hap (putK kvs (Sum.inl e) v) S' := fun x => by
  rw [putK_some, h x]
  by_cases e1 : x = e
  · subst e1
    rw [decide_eq_true rfl, Bool.true_or, decide_eq_true ((hS x).mpr (.inl rfl))]
  · rw [decide_eq_false (fun z => e1 (Sum.inl.inj z)), Bool.false_or]
    by_cases e2 : x ∈ S
    · rw [decide_eq_true e2, decide_eq_true ((hS x).mpr (.inr e2))]
    · rw [decide_eq_false e2, decide_eq_false (fun z => ((hS x).mp z).elim e1 e2)]
section
variable {P : Program} {w : World} {K : PySem.W.Frag} {mg : Str → Option Value} {base : Heap}
theorem ok_order {f fR : Addr} {fd fdR : FuncData} (F : Fun K "some_order" "some_order" sOrder f fd) (FR : Fun K "ready_process" "ready_process" sReady fR fdR) (bR : Binds K fdR ["history", "places", "happened"] [])
    (gR : mg "ready_process" = some (.ref fR)) (ml : mg "len" = none) (men : mg "enumerate" = none) : GFn P w K mg base 2 f fd ["history"] (spOrder K) := by
  have GR : FnOk P w K mg base CX0 1 fR fdR ["history", "places", "happened"] (spReady K) := ok_ready FR ml men
  obtain ⟨oc, od, kV, doc, pm, an, cdv, ct, osl, rfl, lk, hcd⟩ := F.ex
  refine gfn_of lk hcd scOrder (fun vs H Q E h => ?_) (fun A outer s H vs Q E pn hr h => ?_)
  · obtain ⟨a, refs, rows, rfl, _⟩ := h
    rfl
  · obtain ⟨a, refs, rows, rfl, hA, hR, h100, h1000, q⟩ := h
    have nd := scOrder.nd
    have hu := hu_of hr
    refine ⟨_, gss_cons (gs_ps (ps_set (i := 1) nd rfl (.inl rfl) (pe_op op_rep (pe_lst (pa_cons pe_int pa_nil)) (pe_callB call_len_seq (by rfl) ml PySem.boot_len (pa_cons (pv 0) pa_nil)))))
      (gss_cons (gs_ps (ps_set (i := 2) nd rfl (.inl rfl) pe_dnewK))
      (gss_cons (gs_ps (ps_set (i := 3) nd rfl (.inl rfl) (pe_call GR hr (by rfl) gR FR.kp bR .nil pass0 (pa_cons (pv 0) (pa_cons (pv 1) (pa_cons (pv 2) pa_nil))))))
      (gss_cons (gs_while owns_gcx (pt_cmp (pc_notN (pv 3)))
        (gss_cons (gs_ps (ps_set (i := 4) nd rfl (.inl rfl) (pe_ix ix_tup (pe_ix ix_tup (pv 0) (pv 3) (fun _ _ => rfl)) (pe_ix ix_list (pv 1) (pv 3) (fun _ _ => rfl)) (fun _ _ => rfl))))
        (gss_cons (gs_ps (ps_augS (pv 1) (pv 3) pget_list pe_int ip_add set_list))
        (gss_cons (gs_ps (ps_dput hu (pv 2) (pv 4) pe_bl rfl))
        (gss_cons (gs_yield (pe_tup (pa_cons (pv 3) (pa_cons (pv 4) pa_nil))))
        (gss_cons (gs_ps (ps_set (i := 3) nd rfl (.inl rfl) (pe_call GR hr (by rfl) gR FR.kp bR .nil pass0 (pa_cons (pv 0) (pa_cons (pv 1) (pa_cons (pv 2) pa_nil)))))) gss_nil)))))) gss_nil))), ?_⟩
    refine ⟨sz (by show 1 ≤ 1000; decide), fun e1 ne1 => ?_⟩
    have s1 : Same H (upd H e1 (.lst [V.int 0])) := Same.new ne1
    have e1e : (upd H e1 (.lst [V.int 0])) e1 = some (.lst [V.int 0]) := upd_same
    generalize upd H e1 (.lst [V.int 0]) = H1 at s1 e1e ⊢
    have hA1 := (TupK.of s1).1 _ _ hA
    refine ⟨.ref a, rfl, a, _, rfl, .inr hA1, e1, _, _, rfl, rfl, e1e, ?_, ?_, ?_, fun R nR => ?_⟩
    · rw [List.length_map, hR.1]
      omega
    · rw [List.length_map, hR.1]
      omega
    · rw [List.length_map, hR.1, Int.toNat_natCast]
      exact sz (by show 1 * rows.length ≤ 1000; omega)
    rw [List.length_map, hR.1, Int.toNat_natCast, flat_rep]
    have ep : List.replicate rows.length (V.int 0) = plV (List.replicate rows.length 0) := by
      unfold plV
      rw [List.map_replicate]
      rfl
    rw [ep]
    have s2 := s1.trans (Same.new (o := .lst (plV (List.replicate rows.length 0))) nR)
    have eR : (upd H1 R (.lst (plV (List.replicate rows.length 0)))) R = some (.lst (plV (List.replicate rows.length 0))) := upd_same
    have fR : H R = none := s1.free nR
    generalize upd H1 R (.lst (plV (List.replicate rows.length 0))) = H2 at s2 eR ⊢
    intro D nD
    have s3 := s2.trans (Same.new (o := .dK []) nD)
    have eD : (upd H2 D (.dK [])) D = some (.dK []) := upd_same
    have eR3 : (upd H2 D (.dK [])) R = some (.lst (plV (List.replicate rows.length 0))) := by
      rw [upd_ne (ne_of_none eR nD)]
      exact eR
    have fD : H D = none := s2.free nD
    have neRD : R ≠ D := ne_of_none eR nD
    generalize upd H2 D (.dK []) = H3 at s3 eD eR3 ⊢
    have hap0 : Hap [] (seen rows (List.replicate rows.length 0)) := fun x => by
      rw [seen_zero]
      rfl
    refine ⟨.ref a, rfl, .ref R, rfl, .ref D, rfl, a, R, D, refs, rows, List.replicate rows.length 0, [], rfl, (TupK.of s3).1 _ _ hA, hR.keep (TupK.of s3), eR3, List.length_replicate .., eD, hap0, fun H4 s4 => ?_⟩
    refine ⟨fun m ys σ H' => ∃ (ts : List Addr) (dn : List (Int × Int)) (pl : List Nat) (kvs : List (Key × V)) (x4 : Option V), ys = ts.map V.ref ∧ σ = [some (.ref a), some (.ref R), some (.ref D), some (goV (goes rows pl)), x4] ∧
        Same H H' ∧ H' R = some (.lst (plV pl)) ∧ pl.length = rows.length ∧ H' D = some (.dK kvs) ∧ Hap kvs (seen rows pl) ∧ kvs.length ≤ dn.length ∧ Opens K H' ts dn ∧ dn ++ steps rows m pl = order rows ∧
        Fit rows pl ∧ dn.length = pl.sum ∧ m + dn.length = total rows + 1,
      ⟨total rows + 1, [], [], List.replicate rows.length 0, [], none, rfl, rfl, s3.trans s4, s4 _ _ eR3, List.length_replicate .., s4 _ _ eD, hap0, Nat.le_refl _, ⟨rfl, fun _ _ _ z => by simp at z⟩, rfl, fit_zero, by simp, rfl⟩, ?_⟩
    rintro m ys σ H5 ⟨ts, dn, pl, kvs, x4, rfl, rfl, s5, hR5, hpl, hD5, hk, hkl, hop, hst, hf, hdn, hm⟩
    refine ⟨_, rfl, _, rfl, ?_⟩
    cases hg : goes rows pl with
    | none =>
      refine iteF ?_
      have e0 : steps rows m pl = [] := by
        cases m with
        | zero => rfl
        | succ m =>
          unfold steps
          rw [hg]
      rw [e0, List.append_nil] at hst
      subst hst
      exact q H5 ts s5 hop
    | some pe =>
      obtain ⟨p, e⟩ := pe
      refine iteT ?_
      obtain ⟨row, n, h1, h2, h3, h4⟩ := goes_some hg
      have hsum := fit_sum hpl hf
      obtain ⟨m', rfl⟩ : ∃ m', m = m' + 1 := ⟨m - 1, by omega⟩
      refine ⟨fun ys σ H' => ∃ (ts' : List Addr) (kvs' : List (Key × V)) (x4 : Option V), ys = ts'.map V.ref ∧ σ = [some (.ref a), some (.ref R), some (.ref D), some (goV (goes rows (pl.set p (n + 1)))), x4] ∧
        Same H H' ∧ H' R = some (.lst (plV (pl.set p (n + 1)))) ∧ H' D = some (.dK kvs') ∧ Hap kvs' (seen rows (pl.set p (n + 1))) ∧ kvs'.length ≤ dn.length + 1 ∧ Opens K H' ts' (dn ++ [((p : Int), e)]), ?_, ?_⟩
      · rintro ys' σ' H' ⟨ts', kvs', x4', rfl, rfl, b1, b2, b3, b4, b5, b6⟩
        have f' := fit_set hf h1 h2 h3
        refine ⟨m', Nat.lt_succ_self _, ts', dn ++ [((p : Int), e)], pl.set p (n + 1), kvs', x4', rfl, rfl, b1, b2, by rw [List.length_set]; exact hpl, b3, b4, by rw [List.length_append]; exact b5, b6, ?_, f', ?_, ?_⟩
        · rw [← hst, steps_succ hg h2, List.append_assoc]
          rfl
        · rw [sum_set h2, List.length_append, hdn]
          rfl
        · rw [List.length_append]
          show m' + (dn.length + 1) = _
          omega
      · -- event
        have hpr : p < refs.length := by
          rw [hR.1]
          exact (List.getElem?_eq_some_iff.mp h1).1
        obtain ⟨r, hr'⟩ : ∃ r, refs[p]? = some r := ⟨_, List.getElem?_eq_getElem hpr⟩
        have hA5 := (TupK.of s5).1 _ _ hA
        have hR5' := hR.keep (TupK.of s5)
        have hrT := (hR5'.2 p r row hr' h1).sqT (K := K)
        refine ⟨.ref a, rfl, .int p, rfl, a, _, p, .ref r, rfl, rfl, hA5, atI_nat (at_map hr'), ?_⟩
        refine ⟨.ref R, rfl, .int p, rfl, R, _, p, _, rfl, rfl, SqL.of hR5, atI_nat (pl_at h2), ?_⟩
        refine ⟨r, _, n, .int e, rfl, rfl, hrT, atI_nat (at_map h3), ?_⟩
        -- places
        refine ⟨.ref R, rfl, .int p, rfl, R, _, p, .int n, rfl, rfl, SqL.of hR5, pl_at h2, n, 1, rfl, rfl, R, _, p, p, rfl, rfl, hR5, ?_, ?_⟩
        · unfold plV
          rw [List.length_map]
          exact ixn (List.getElem?_eq_some_iff.mp h2).1
        have eset : (plV pl).set p (.int ((n : Int) + 1)) = plV (pl.set p (n + 1)) := by
          unfold plV
          rw [List.map_set]
          rfl
        rw [eset]
        have t6 : TupK K H5 (upd H5 R (.lst (plV (pl.set p (n + 1))))) := .put hR5
        have s6 : Same H (upd H5 R (.lst (plV (pl.set p (n + 1))))) := Same.put fR s5
        have eR6 : (upd H5 R (.lst (plV (pl.set p (n + 1))))) R = some (.lst (plV (pl.set p (n + 1)))) := upd_same
        have eD6 : (upd H5 R (.lst (plV (pl.set p (n + 1))))) D = some (.dK kvs) := by
          rw [upd_ne neRD.symm]
          exact hD5
        generalize upd H5 R (.lst (plV (pl.set p (n + 1)))) = H6 at t6 s6 eR6 eD6 ⊢
        -- happened
        refine ⟨.ref D, rfl, .int e, rfl, D, _, rfl, DPut.k (k := Sum.inl e) eD6 (Nat.lt_of_le_of_lt hkl (small1000 (by omega))), ?_⟩
        have t7 : TupK K H6 (upd H6 D (.dK (putK kvs (Sum.inl e) (.bl true)))) := .putD eD6
        have s7 : Same H (upd H6 D (.dK (putK kvs (Sum.inl e) (.bl true)))) := Same.put fD s6
        have eD7 : (upd H6 D (.dK (putK kvs (Sum.inl e) (.bl true)))) D = some (.dK (putK kvs (Sum.inl e) (.bl true))) := upd_same
        have eR7 : (upd H6 D (.dK (putK kvs (Sum.inl e) (.bl true)))) R = some (.lst (plV (pl.set p (n + 1)))) := by
          rw [upd_ne neRD]
          exact eR6
        generalize upd H6 D (.dK (putK kvs (Sum.inl e) (.bl true))) = H7 at t7 s7 eR7 eD7 ⊢
        -- the pair
        refine ⟨?_, .int p, rfl, .int e, rfl, sz (by show 2 ≤ 1000; decide), fun T nT => ?_⟩
        · rw [List.length_map, hop.1]
          exact small1000 (by omega)
        have s8 : Same H7 (upd H7 T (.tup [V.int p, V.int e])) := Same.new nT
        have eT : (upd H7 T (.tup [V.int p, V.int e])) T = some (.tup [V.int p, V.int e]) := upd_same
        generalize upd H7 T (.tup [V.int p, V.int e]) = H8 at s8 eT ⊢
        have s08 := s7.trans s8
        have hop8 : Opens K H8 (ts ++ [T]) (dn ++ [((p : Int), e)]) := (((hop.keep t6).keep t7).keep (.of s8)).snoc (.inl (.inl eT))
        have hap8 := hap_put (v := .bl true) hk (seen_step h1 h2 h3)
        refine ⟨.ref a, rfl, .ref R, rfl, .ref D, rfl, a, R, D, refs, rows, pl.set p (n + 1), _, rfl, (TupK.of s08).1 _ _ hA, hR.keep (TupK.of s08), s8 _ _ eR7, by rw [List.length_set]; exact hpl, s8 _ _ eD7, hap8, fun H9 s9 => ?_⟩
        refine ⟨ts ++ [T], _, _, by rw [List.map_append]; rfl, rfl, s08.trans s9, s9 _ _ (s8 _ _ eR7), s9 _ _ (s8 _ _ eD7), hap8, ?_, hop8.keep (.of s9)⟩
        exact Nat.le_trans putK_len (Nat.succ_le_succ hkl)
end

end Sv

namespace Sv
open PySem PySem.Spec PyProof.Rows L2
/-! ### what holds of the rows of a grown history -/
theorem set_at {r : List (List Int)} {p i : Nat} {x row : List Int} (h : (r.set p x)[i]? = some row) : (p = i ∧ row = x) ∨ (p ≠ i ∧ r[i]? = some row) := by
  by_cases e : p = i
  · subst e
    rw [List.getElem?_set, if_pos rfl] at h
    split at h
    · exact .inl ⟨rfl, (Option.some.inj h).symm⟩
    · cases h
  · rw [List.getElem?_set_ne e] at h
    exact .inr ⟨e, h⟩
theorem at_set {r : List (List Int)} {p : Nat} {row : List Int} (h : r[p]? = some row) (x : List Int) : (r.set p x)[p]? = some x := by
  rw [List.getElem?_set, if_pos rfl, if_pos (List.getElem?_eq_some_iff.mp h).1]
/-- a row grows: what was there stays there -/
theorem grow_at {r : List (List Int)} {p : Nat} {row : List Int} {v : Int} (h : r[p]? = some row) {i n : Nat} {a : List Int} {e : Int} (h1 : r[i]? = some a) (h2 : a[n]? = some e) : ∃ b, (r.set p (row ++ [v]))[i]? = some b ∧ b[n]? = some e := by
  by_cases z : p = i
  · subst z
    obtain rfl := Option.some.inj (h.symm.trans h1)
    exact ⟨_, at_set h _, by rw [List.getElem?_append_left (List.getElem?_eq_some_iff.mp h2).1]; exact h2⟩
  · exact ⟨a, by rw [List.getElem?_set_ne z]; exact h1, h2⟩
def Has (r : List (List Int)) (e : Int) : Prop := ∃ (j : Nat) (row : List Int) (k : Nat), r[j]? = some row ∧ row[k]? = some e
theorem Has.grow {r : List (List Int)} {p : Nat} {row : List Int} {v e : Int} (h : r[p]? = some row) (q : Has r e) : Has (r.set p (row ++ [v])) e := by
  obtain ⟨j, a, k, h1, h2⟩ := q
  obtain ⟨b, h3, h4⟩ := grow_at (v := v) h h1 h2
  exact ⟨j, b, k, h3, h4⟩
theorem Grown.open_has {c : Nat} {nm : List Int} {r : List (List Int)} {o : List (Int × Int)} {u k : Nat} (h : Grown c nm r o u k) : ∀ p ∈ o, Has r p.1 := by
  induction h with
  | start => exact fun _ z => (nomatch z)
  | skip _ ih => exact ih
  | save _ h ih => exact fun p hp => (ih p hp).grow h
  | send _ h hu ih =>
    intro p hp
    rcases List.mem_append.mp hp with z | z
    · exact (ih p z).grow h
    · rw [List.mem_singleton.mp z]
      exact ⟨_, _, _, at_set h _, List.getElem?_concat_length⟩
  | recv _ h hj _ ih => exact fun p hp => (ih p (List.mem_of_mem_eraseIdx hp)).grow h
def Ready (r : List (List Int)) (n : Nat → Nat) : Prop := ∃ (i : Nat) (row : List Int) (e : Int), r[i]? = some row ∧ row[n i]? = some e ∧ (0 ≤ e ∨ ∃ (j : Nat) (row2 : List Int) (k : Nat), r[j]? = some row2 ∧ k < n j ∧ row2[k]? = some (-e))
/-- one event more: someone can go on -/
theorem ready_grow {r : List (List Int)} {p : Nat} {row : List Int} {v : Int} (h : r[p]? = some row) (hv : 0 ≤ v ∨ Has r (-v)) {n : Nat → Nat} (ih : (∃ (i : Nat) (a : List Int), r[i]? = some a ∧ n i < a.length) → Ready r n)
    (hi : ∃ (i : Nat) (a : List Int), (r.set p (row ++ [v]))[i]? = some a ∧ n i < a.length) : Ready (r.set p (row ++ [v])) n := by
  by_cases z : ∃ (i : Nat) (a : List Int), r[i]? = some a ∧ n i < a.length
  · obtain ⟨i, a, e, h1, h2, h3⟩ := ih z
    obtain ⟨b, h4, h5⟩ := grow_at (v := v) h h1 h2
    refine ⟨i, b, e, h4, h5, h3.imp_right ?_⟩
    rintro ⟨j, a2, k, h6, h7, h8⟩
    obtain ⟨b2, h9, h10⟩ := grow_at (v := v) h h6 h8
    exact ⟨j, b2, k, h9, h7, h10⟩
  · have all : ∀ (i : Nat) (a : List Int), r[i]? = some a → a.length ≤ n i := fun i a h1 => Nat.le_of_not_lt fun h2 => z ⟨i, a, h1, h2⟩
    obtain ⟨i, a, h1, h2⟩ := hi
    rcases set_at h1 with ⟨rfl, rfl⟩ | ⟨_, h3⟩
    · have h4 := all _ _ h
      rw [List.length_append, List.length_singleton] at h2
      have h5 : n p = row.length := by omega
      refine ⟨p, _, v, h1, by rw [h5]; exact List.getElem?_concat_length, hv.imp_right ?_⟩
      rintro ⟨j, a2, k, h6, h7⟩
      obtain ⟨b2, h9, h10⟩ := grow_at (v := v) h h6 h7
      exact ⟨j, b2, k, h9, Nat.lt_of_lt_of_le (List.getElem?_eq_some_iff.mp h7).1 (all _ _ h6), h10⟩
    · exact absurd (all _ _ h3) (by omega)
theorem names_pos {nm : List Int} (hn : nm.Perm names24) : ∀ m ∈ nm, 1 ≤ m ∧ m ≤ 24 := by
  intro m h1
  have h2 := hn.mem_iff.mp h1
  obtain ⟨i, hi, rfl⟩ := List.mem_map.mp h2
  have := List.mem_range.mp hi
  omega
theorem Grown.ready {c : Nat} {nm : List Int} {r : List (List Int)} {o : List (Int × Int)} {u k : Nat} (h : Grown c nm r o u k) (hn : nm.Perm names24) (n : Nat → Nat) : (∃ (i : Nat) (a : List Int), r[i]? = some a ∧ n i < a.length) → Ready r n := by
  induction h with
  | start =>
    rintro ⟨i, a, h1, h2⟩
    rw [(List.mem_replicate.mp (List.mem_of_getElem? h1)).2] at h2
    exact absurd h2 (Nat.not_lt_zero _)
  | skip _ ih => exact ih
  | save _ h ih => exact ready_grow h (.inl (by decide)) ih
  | send _ h hu ih => exact ready_grow h (.inl (by have := names_pos hn _ (List.mem_of_getElem? hu); omega)) ih
  | recv g h hj _ ih =>
    refine ready_grow h (.inr ?_) ih
    have e : ∀ m : Int, -(0 - m) = m := fun m => by omega
    rw [e]
    exact g.open_has _ (List.mem_of_getElem? hj)
/-! ### the order is complete -/
theorem seen_mem : ∀ {rows : List (List Int)} {pl : List Nat} {j k n : Nat} {row : List Int} {e : Int}, rows[j]? = some row → pl[j]? = some n → k < n → row[k]? = some e → e ∈ seen rows pl
  | [], _, j, _, _, _, _, h, _, _, _ => by simp at h
  | _ :: _, [], j, _, _, _, _, _, h, _, _ => by simp at h
  | r :: rs, m :: ns, 0, k, n, row, e, h1, h2, h3, h4 => by
    obtain rfl : r = row := Option.some.inj h1
    obtain rfl : m = n := Option.some.inj h2
    unfold seen
    refine List.mem_append_left _ (List.mem_of_getElem? (i := k) ?_)
    rw [List.getElem?_take_of_lt h3]
    exact h4
  | r :: rs, m :: ns, j + 1, k, n, row, e, h1, h2, h3, h4 => by
    unfold seen
    exact List.mem_append_right _ (seen_mem (rows := rs) (pl := ns) (j := j) h1 h2 h3 h4)
theorem goesFrom_any {S : List Int} : ∀ {rs : List (List Int)} {pl : List Nat} {q i n : Nat} {r : List Int} {e : Int}, rs[i]? = some r → pl[i]? = some n → r[n]? = some e → (0 ≤ e ∨ -e ∈ S) → goesFrom S q rs pl ≠ none
  | [], _, q, i, n, r, e, h, _, _, _ => by simp at h
  | _ :: _, [], q, i, n, r, e, _, h, _, _ => by simp at h
  | a :: rs, m :: ns, q, 0, n, r, e, h1, h2, h3, h4 => by
    obtain rfl : a = r := Option.some.inj h1
    obtain rfl : m = n := Option.some.inj h2
    unfold goesFrom
    rw [h3]
    simp only
    rw [if_pos h4]
    exact fun z => (nomatch z)
  | a :: rs, m :: ns, q, i + 1, n, r, e, h1, h2, h3, h4 => by
    have ih := goesFrom_any (S := S) (rs := rs) (pl := ns) (q := q + 1) (i := i) h1 h2 h3 h4
    unfold goesFrom
    cases a[m]? with
    | none => exact ih
    | some x =>
      simp only
      split
      · exact fun z => (nomatch z)
      · exact ih
/-- never stuck -/
theorem Good.done {many most : Nat} {rows : List (List Int)} (h : Good many most rows) {pl : List Nat} (hl : pl.length = rows.length) (hg : goes rows pl = none) : ∀ (i : Nat) (r : List Int) (n : Nat), rows[i]? = some r → pl[i]? = some n → r.length ≤ n := by
  obtain ⟨c, nm, o, u, k, _, _, hp, g, _⟩ := h
  intro i r n h1 h2
  refine Nat.le_of_not_lt fun h3 => ?_
  have e2 : pl.getD i 0 = n := by rw [List.getD_eq_getElem?_getD, h2]; rfl
  obtain ⟨i', a, e, h4, h5, h6⟩ := g.ready hp (fun i => pl.getD i 0) ⟨i, r, h1, by rw [e2]; exact h3⟩
  have at' : ∀ {j : Nat} {b : List Int}, rows[j]? = some b → pl[j]? = some (pl.getD j 0) := fun {j b} hj => by
    have hj' : j < pl.length := by
      rw [hl]
      exact (List.getElem?_eq_some_iff.mp hj).1
    rw [List.getD_eq_getElem?_getD, List.getElem?_eq_getElem hj']
    rfl
  refine goesFrom_any (S := seen rows pl) (q := 0) h4 (at' h4) h5 (h6.imp_right ?_) hg
  rintro ⟨j, b, k', h7, h8, h9⟩
  exact seen_mem h7 (at' h7) h8 h9
theorem total_le : ∀ {rows : List (List Int)} {pl : List Nat}, pl.length = rows.length → (∀ (i : Nat) (r : List Int) (n : Nat), rows[i]? = some r → pl[i]? = some n → r.length ≤ n) → total rows ≤ pl.sum
  | [], _, _, _ => Nat.zero_le _
  | _ :: _, [], h, _ => by simp at h
  | r :: rs, n :: ns, h, f => by
    have h1 := total_le (rows := rs) (pl := ns) (by simpa using h) fun i r n a b => f (i + 1) r n a b
    have h2 := f 0 r n rfl rfl
    unfold total at h1 ⊢
    simp only [List.map_cons, List.sum_cons]
    omega
/-- the events of one process in such an order -/
def own (p : Nat) (l : List (Int × Int)) : List Int := (l.filter fun q => decide (q.1 = (p : Int))).map (·.2)
theorem own_cons {p : Nat} {x : Int} {e : Int} {l : List (Int × Int)} : own p ((x, e) :: l) = if x = (p : Int) then e :: own p l else own p l := by
  unfold own
  by_cases h : x = (p : Int)
  · simp [List.filter_cons, h]
  · simp [List.filter_cons, h]
theorem steps_all {many most : Nat} {rows : List (List Int)} (h : Good many most rows) : ∀ (k : Nat) {pl : List Nat}, pl.length = rows.length → Fit rows pl → k + pl.sum = total rows + 1 →
    (steps rows k pl).length + pl.sum = total rows ∧ ∀ (p : Nat) (row : List Int) (n : Nat), rows[p]? = some row → pl[p]? = some n → own p (steps rows k pl) = row.drop n
  | 0, pl, hl, hf, hk => by
    have := fit_sum hl hf
    omega
  | k + 1, pl, hl, hf, hk => by
    cases hg : goes rows pl with
    | none =>
      have all := h.done hl hg
      have e0 : steps rows (k + 1) pl = [] := by
        unfold steps
        rw [hg]
      rw [e0]
      have h1 := total_le hl all
      have h2 := fit_sum hl hf
      refine ⟨by rw [List.length_nil]; omega, fun p row n a b => ?_⟩
      have := all p row n a b
      rw [List.drop_of_length_le this]
      rfl
    | some pe =>
      obtain ⟨q, e⟩ := pe
      obtain ⟨r, m, h1, h2, h3, h4⟩ := goes_some hg
      have hs := sum_set h2
      obtain ⟨i1, i2⟩ := steps_all h k (pl := pl.set q (m + 1)) (by rw [List.length_set]; exact hl) (fit_set hf h1 h2 h3) (by rw [hs]; omega)
      rw [steps_succ hg h2]
      refine ⟨by rw [List.length_cons]; omega, fun p row n a b => ?_⟩
      by_cases z : q = p
      · subst z
        obtain rfl := Option.some.inj (h1.symm.trans a)
        obtain rfl := Option.some.inj (h2.symm.trans b)
        have i3 := i2 q r (m + 1) h1 (by rw [List.getElem?_set, if_pos rfl, if_pos (List.getElem?_eq_some_iff.mp h2).1])
        rw [own_cons, if_pos rfl, i3]
        obtain ⟨hm, he⟩ := List.getElem?_eq_some_iff.mp h3
        rw [List.drop_eq_getElem_cons hm, he]
      · have i3 := i2 p row n a (by rw [List.getElem?_set_ne z]; exact b)
        rw [own_cons, if_neg (show ¬ (q : Int) = (p : Int) from fun w => z (by omega)), i3]
theorem order_all {many most : Nat} {rows : List (List Int)} (h : Good many most rows) : (order rows).length = total rows ∧ ∀ (p : Nat) (row : List Int), rows[p]? = some row → own p (order rows) = row := by
  obtain ⟨h1, h2⟩ := steps_all h (total rows + 1) (pl := List.replicate rows.length 0) (List.length_replicate ..) fit_zero (by simp)
  refine ⟨by show (steps rows (total rows + 1) (List.replicate rows.length 0)).length = _; simpa using h1, fun p row hp => ?_⟩
  have h3 := h2 p row 0 hp (by rw [List.getElem?_replicate, if_pos (List.getElem?_eq_some_iff.mp hp).1])
  rw [List.drop_zero] at h3
  exact h3
/-- a receipt comes behind its sending -/
theorem steps_after {rows : List (List Int)} : ∀ (k : Nat) {pl : List Nat} (i : Nat) (e : Int), ((steps rows k pl).map (·.2))[i]? = some e → e < 0 → -e ∈ seen rows pl ∨ -e ∈ ((steps rows k pl).map (·.2)).take i
  | 0, pl, i, e, h, _ => by simp [steps] at h
  | k + 1, pl, i, e, h, he => by
    cases hg : goes rows pl with
    | none =>
      have e0 : steps rows (k + 1) pl = [] := by
        unfold steps
        rw [hg]
      rw [e0] at h
      simp at h
    | some pe =>
      obtain ⟨q, e1⟩ := pe
      obtain ⟨r, m, h1, h2, h3, h4⟩ := goes_some hg
      rw [steps_succ hg h2] at h ⊢
      cases i with
      | zero =>
        obtain rfl : e1 = e := Option.some.inj h
        exact .inl (h4.resolve_left (by omega))
      | succ i =>
        rw [List.map_cons, List.take_succ_cons]
        rcases steps_after k i e h he with z | z
        · rcases (seen_step h1 h2 h3 _).mp z with z | z
          · exact .inr (by rw [z]; exact List.mem_cons_self ..)
          · exact .inl z
        · exact .inr (List.mem_cons_of_mem _ z)
def evs (rows : List (List Int)) : List Int := (order rows).map (·.2)
theorem evs_after {rows : List (List Int)} {e : Int} (h : e ∈ evs rows) (he : e < 0) : -e ∈ evs rows ∧ (evs rows).idxOf (-e) < (evs rows).idxOf e := by
  have hi : (evs rows).idxOf e < (evs rows).length := List.idxOf_lt_length_iff.mpr h
  have h1 : (evs rows)[(evs rows).idxOf e]? = some e := by
    rw [List.getElem?_eq_getElem hi, List.getElem_idxOf hi]
  have h2 := (steps_after (rows := rows) (total rows + 1) _ e h1 he).resolve_left (by rw [seen_zero]; exact fun z => (nomatch z))
  have h3 : -e ∈ (evs rows).take ((evs rows).idxOf e) := h2
  refine ⟨List.mem_of_mem_take h3, ?_⟩
  obtain ⟨j, hj, h5⟩ := List.getElem_of_mem h3
  rw [List.length_take] at hj
  rw [List.getElem_take] at h5
  have h6 : (evs rows).idxOf (-e) ≤ j := by
    refine Nat.le_of_not_lt fun h7 => ?_
    have := List.not_of_lt_findIdx (p := (· == -e)) (xs := evs rows) (i := j) h7
    rw [h5] at this
    simp at this
  omega

end Sv

namespace Sv
open PySem PySem.Spec PyProof.Rows L2
/-! ### every message once -/
theorem flat_set {r : List (List Int)} {p : Nat} {row : List Int} {v : Int} (h : r[p]? = some row) : (r.set p (row ++ [v])).flatten.Perm (v :: r.flatten) := by
  induction r generalizing p with
  | nil => simp at h
  | cons a r ih =>
    cases p with
    | zero =>
      obtain rfl : a = row := Option.some.inj h
      simp only [List.set_cons_zero, List.flatten_cons, List.append_assoc, List.singleton_append]
      exact List.perm_middle
    | succ p =>
      simp only [List.set_cons_succ, List.flatten_cons]
      exact ((ih (p := p) h).append_left a).trans List.perm_middle
theorem unerase_perm {α : Type} : ∀ {o : List α} {j : Nat} {x : α}, o[j]? = some x → (x :: o.eraseIdx j).Perm o
  | [], j, _, h => by simp at h
  | a :: o, 0, x, h => by
    obtain rfl : a = x := Option.some.inj h
    exact .refl _
  | a :: o, j + 1, x, h => by
    rw [List.eraseIdx_cons_succ]
    exact (List.Perm.swap a x _).trans ((unerase_perm (o := o) (j := j) h).cons a)
def poss (l : List Int) : List Int := l.filter fun e => decide (0 < e)
def negs (l : List Int) : List Int := (l.filter fun e => decide (e < 0)).map fun e => -e
theorem Grown.once {c : Nat} {nm : List Int} {r : List (List Int)} {o : List (Int × Int)} {u k : Nat} (h : Grown c nm r o u k) (hn : nm.Perm names24) :
    (poss r.flatten).Perm (nm.take u) ∧ (negs r.flatten ++ o.map (·.1)).Perm (nm.take u) := by
  induction h with
  | start =>
    have e : (List.replicate c ([] : List Int)).flatten = [] := by simp
    rw [e]
    exact ⟨.refl _, .refl _⟩
  | skip _ ih => exact ih
  | save _ h ih =>
    have p := flat_set (v := 0) h
    exact ⟨(p.filter _).trans ih.1, (((p.filter _).map _).append_right _).trans ih.2⟩
  | @send r o u k p row m g h hu ih =>
    have q := flat_set (v := m) h
    have hm := names_pos hn _ (List.mem_of_getElem? hu)
    have tk : nm.take (u + 1) = nm.take u ++ [m] := by
      rw [List.take_add_one, hu]
      rfl
    rw [tk]
    have h1 : poss (m :: r.flatten) = m :: poss r.flatten := List.filter_cons_of_pos (decide_eq_true (by omega))
    have h2 : negs (m :: r.flatten) = negs r.flatten := by
      unfold negs
      rw [List.filter_cons_of_neg (by rw [decide_eq_false (show ¬ m < 0 by omega)]; exact Bool.false_ne_true)]
    refine ⟨(q.filter _).trans ?_, (((q.filter _).map _).append_right _).trans ?_⟩
    · show (poss (m :: r.flatten)).Perm _
      rw [h1]
      exact (ih.1.cons m).trans (List.perm_append_singleton m _).symm
    · show (negs (m :: r.flatten) ++ _).Perm _
      rw [h2, List.map_append, ← List.append_assoc]
      exact ih.2.append_right _
  | @recv r o u k row j m q p g h hj _ ih =>
    have w := flat_set (v := 0 - m) h
    have hm := (g.small hn).2 _ (List.mem_of_getElem? hj)
    have h1 : poss ((0 - m) :: r.flatten) = poss r.flatten := List.filter_cons_of_neg (by rw [decide_eq_false (show ¬ 0 < 0 - m by simp only at hm; omega)]; exact Bool.false_ne_true)
    have h2 : negs ((0 - m) :: r.flatten) = m :: negs r.flatten := by
      have d : decide (0 - m < 0) = true := decide_eq_true (by simp only at hm; omega)
      have e1 : -(0 - m) = m := by omega
      unfold negs
      simp only [List.filter_cons, d, if_true, List.map_cons, e1]
    refine ⟨(w.filter _).trans ?_, (((w.filter _).map _).append_right _).trans ?_⟩
    · show (poss ((0 - m) :: r.flatten)).Perm _
      rw [h1]
      exact ih.1
    · show (negs ((0 - m) :: r.flatten) ++ _).Perm _
      rw [h2]
      have e := (unerase_perm hj).map Prod.fst
      refine List.Perm.trans ?_ ((e.append_left _).trans ih.2)
      exact List.perm_middle.symm
theorem names_nodup : names24.Nodup := by decide
theorem Grown.count {c : Nat} {nm : List Int} {r : List (List Int)} {o : List (Int × Int)} {u k : Nat} (h : Grown c nm r o u k) (hn : nm.Perm names24) {e : Int} (he : e ≠ 0) : r.flatten.count e ≤ 1 := by
  obtain ⟨h1, h2⟩ := h.once hn
  have nt : (nm.take u).Nodup := ((hn.nodup_iff).mpr names_nodup).sublist (List.take_sublist _ _)
  by_cases hp : 0 < e
  · have n1 : (poss r.flatten).Nodup := h1.nodup_iff.mpr nt
    have := List.nodup_iff_count.mp n1 e
    unfold poss at this
    rw [List.count_filter (p := fun e : Int => decide (0 < e)) (decide_eq_true hp)] at this
    exact this
  · have n2 : (negs r.flatten).Nodup := (h2.nodup_iff.mpr nt).sublist (List.sublist_append_left _ _)
    have hlt : e < 0 := by omega
    have n3 : (r.flatten.filter fun e => decide (e < 0)).Nodup := by
      unfold negs at n2
      exact (List.pairwise_map.mp n2).imp fun h z => h (by rw [z])
    have := List.nodup_iff_count.mp n3 e
    rw [List.count_filter (p := fun e : Int => decide (e < 0)) (decide_eq_true hlt)] at this
    exact this
theorem count_at : ∀ {r : List (List Int)} {i : Nat} {row : List Int} {e : Int}, r[i]? = some row → row.count e ≤ r.flatten.count e
  | [], i, _, _, h => by simp at h
  | a :: r, 0, row, e, h => by
    obtain rfl : a = row := Option.some.inj h
    rw [List.flatten_cons, List.count_append]
    omega
  | a :: r, i + 1, row, e, h => by
    have := count_at (r := r) (i := i) (e := e) h
    rw [List.flatten_cons, List.count_append]
    omega
theorem count_two : ∀ {r : List (List Int)} {i j : Nat} {a b : List Int} {e : Int}, i < j → r[i]? = some a → r[j]? = some b → e ∈ a → e ∈ b → 2 ≤ r.flatten.count e
  | [], i, _, _, _, _, _, h, _, _, _ => by simp at h
  | x :: r, 0, j + 1, a, b, e, _, h1, h2, h3, h4 => by
    obtain rfl : x = a := Option.some.inj h1
    have h5 := count_at (r := r) (i := j) (e := e) h2
    have h6 := List.count_pos_iff.mpr h3
    have h7 := List.count_pos_iff.mpr h4
    rw [List.flatten_cons, List.count_append]
    omega
  | x :: r, i + 1, j + 1, a, b, e, hij, h1, h2, h3, h4 => by
    have := count_two (r := r) (i := i) (j := j) (Nat.lt_of_succ_lt_succ hij) h1 h2 h3 h4
    rw [List.flatten_cons, List.count_append]
    omega
theorem idx_once : ∀ {row : List Int} {i : Nat} {e : Int}, row[i]? = some e → row.count e ≤ 1 → row.idxOf e = i
  | [], i, _, h, _ => by simp at h
  | a :: r, 0, e, h, _ => by
    obtain rfl : a = e := Option.some.inj h
    exact List.idxOf_cons_self
  | a :: r, i + 1, e, h, hc => by
    have h1 : e ∈ r := List.mem_of_getElem? (i := i) h
    have h2 := List.count_pos_iff.mpr h1
    have hne : a ≠ e := fun z => by
      subst z
      rw [List.count_cons_self] at hc
      omega
    rw [List.count_cons_of_ne hne] at hc
    rw [List.idxOf_cons, idx_once (row := r) (i := i) h hc, beq_false_of_ne hne]
    rfl
/-- where an event of a message happened -/
theorem Good.hap_at {many most : Nat} {rows : List (List Int)} (h : Good many most rows) {p i : Nat} {row : List Int} {e : Int} (h1 : rows[p]? = some row) (h2 : row[i]? = some e) (he : e ≠ 0) : hap rows e = some (p, (row.take i).count 0) := by
  obtain ⟨c, nm, o, u, k, _, _, hp, g, _⟩ := h
  have hc := g.count hp he
  have hm := List.mem_of_getElem? h2
  have h3 := hapFrom_some (e := e) (p := 0) (rs := rows) (i := p) (row := row) (fun j r hj hr hr2 => ?_) h1 hm
  · unfold hap
    rw [h3, Nat.zero_add, idx_once h2 (Nat.le_trans (count_at h1) hc)]
  · have := count_two hj hr h1 hr2 hm
    omega
/-! ### an event between two places -/
theorem zerU_split (n : Nat) (row : List Int) : ∀ d, ∃ rest, zerU (n + d) row = zerU n row ++ rest ∧ ∀ x ∈ rest, ∃ j : Nat, x = (j : Int) ∧ n ≤ j ∧ row[j]? = some 0
  | 0 => ⟨[], by rw [List.append_nil]; rfl, fun _ z => (nomatch z)⟩
  | d + 1 => by
    obtain ⟨rest, h1, h2⟩ := zerU_split n row d
    refine ⟨rest ++ (if row[n + d]? = some 0 then [((n + d : Nat) : Int)] else []), by rw [← Nat.add_assoc, zerU_succ, h1, List.append_assoc], fun x hx => ?_⟩
    rcases List.mem_append.mp hx with z | z
    · exact h2 x z
    · split at z
      · rename_i h3
        rw [List.mem_singleton.mp z]
        exact ⟨n + d, rfl, by omega, h3⟩
      · cases z
theorem place_between {row : List Int} {i : Nat} {e : Int} (h : row[i]? = some e) (he : e ≠ 0) : ∃ x y : Int, (places row)[(row.take i).count 0]? = some x ∧ (places row)[(row.take i).count 0 + 1]? = some y ∧ x ≤ (i : Int) ∧ (i : Int) < y := by
  have hi : i < row.length := (List.getElem?_eq_some_iff.mp h).1
  obtain ⟨rest, h1, h2⟩ := zerU_split i row (row.length - i)
  have e1 : i + (row.length - i) = row.length := by omega
  rw [e1] at h1
  have hl := zerU_len row i (by omega)
  have ep : places row = (0 :: zerU i row) ++ (rest ++ [(row.length : Int)]) := by
    unfold places
    rw [h1, List.append_assoc]
    rfl
  have hk : (row.take i).count 0 < (0 :: zerU i row).length := by
    rw [List.length_cons, hl]
    exact Nat.lt_succ_self _
  obtain ⟨x, hx⟩ : ∃ x, (0 :: zerU i row)[(row.take i).count 0]? = some x := ⟨_, List.getElem?_eq_getElem hk⟩
  have hx1 : x ≤ (i : Int) := by
    rcases List.mem_cons.mp (List.mem_of_getElem? hx) with rfl | z
    · exact Int.natCast_nonneg _
    · exact Int.le_of_lt (zerU_mem z).2
  have hk2 : (0 :: zerU i row).length = (row.take i).count 0 + 1 := by rw [List.length_cons, hl]
  obtain ⟨y, hy⟩ : ∃ y, (rest ++ [(row.length : Int)])[0]? = some y := by
    cases rest with
    | nil => exact ⟨_, rfl⟩
    | cons a l => exact ⟨_, rfl⟩
  have hy1 : (i : Int) < y := by
    rcases List.mem_append.mp (List.mem_of_getElem? hy) with z | z
    · obtain ⟨j, rfl, h3, h4⟩ := h2 y z
      have : j ≠ i := fun w => by
        subst w
        rw [h] at h4
        exact he (Option.some.inj h4)
      omega
    · rw [List.mem_singleton.mp z]
      omega
  refine ⟨x, y, ?_, ?_, hx1, hy1⟩
  · rw [ep, List.getElem?_append_left hk]
    exact hx
  · rw [ep, List.getElem?_append_right (by omega), hk2, Nat.sub_self]
    exact hy
theorem place_last (row : List Int) : (places row)[row.count 0 + 1]? = some (row.length : Int) := by
  have hl := zerU_len row row.length (Nat.le_refl _)
  rw [List.take_length] at hl
  unfold places
  rw [List.getElem?_cons_succ, List.getElem?_append_right (by omega), hl, Nat.sub_self]
  rfl

end Sv

namespace Sv
open PySem PySem.Spec PyProof.Rows L2
abbrev sLB : Stmt := topS 19
abbrev sLaw : Stmt := topS 20
abbrev nLB : List Str := ["_law_rows", "_law_process", "_law_index", "_law_number"]
abbrev nLaw : List Str := ["_law_script", "_law_state_here", "_law_turn", "_law_rows", "_law_order", "_law_numbers", "_law_row", "_law_process", "_law_event", "_law_index", "_law_told", "_law_events", "_law_own"]
theorem scLB : FnScope nLB nLB (defScope sLB) := ⟨rfl, rfl, rfl, by decide +kernel, rfl, by decide +kernel, by decide +kernel⟩
theorem scLaw : FnScope nLaw ["_law_script"] (defScope sLaw) := ⟨rfl, rfl, rfl, by decide +kernel, rfl, by decide +kernel, by decide +kernel⟩
def spLB (K : PySem.W.Frag) : Sp := fun vs H Q _ => ∃ (a : Addr) (refs : List Addr) (rows : List (List Int)) (p i k : Nat) (row : List Int) (x y : Int), vs = [.ref a, .int p, .int i, .int k] ∧ SqT K H a (refs.map V.ref) ∧ Rows K H refs rows ∧
  rows[p]? = some row ∧ row.length ≤ 900 ∧ (places row)[k]? = some x ∧ (places row)[k + 1]? = some y ∧ x ≤ (i : Int) ∧ (i : Int) < y ∧ ∀ H', Same H H' → Q (.bl true) H'
def spLaw (K : PySem.W.Frag) : Sp := fun vs H Q _ => ∃ (a : Addr) (ns : List Int), vs = [.ref a] ∧ SqL K H a (ns.map V.int) ∧ ns.length ≤ 63 ∧ ∀ H', Q (.bl true) H'
theorem nums_at {rows : List (List Int)} {p : Nat} {row : List Int} (h : rows[p]? = some row) : (numsOf rows)[p]? = some (((row.count 0 : Nat) : Int) + 1) := by
  rw [numsOf, List.getElem?_map, h]
  rfl
theorem ten_sixty (i : Nat) : ∃ m : Nat, m ≤ 60 ∧ atI [V.int 12, V.int 60] ((0 + (i : Int)) % 2) = some (.int m) := by
  have h0 : (0 + (i : Int)) % 2 = ((i % 2 : Nat) : Int) := by omega
  rw [h0]
  have : i % 2 < 2 := Nat.mod_lt _ (by decide)
  generalize i % 2 = j at this
  match j, this with
  | 0, _ => exact ⟨12, by decide, atI_nat (j := 0) rfl⟩
  | 1, _ => exact ⟨60, by decide, atI_nat (j := 1) rfl⟩
theorem sum_lens : ∀ rows : List (List Int), (rows.map fun r => (r.length : Int)).sum = ((total rows : Nat) : Int)
  | [] => rfl
  | a :: r => by
    have h := sum_lens r
    unfold total at h ⊢
    rw [List.map_cons, List.sum_cons, h, List.map_cons, List.sum_cons, Int.natCast_add]
theorem own_snoc {p : Nat} {l : List (Int × Int)} {i : Nat} {x e : Int} (h : l[i]? = some (x, e)) : own p (l.take (i + 1)) = own p (l.take i) ++ (if x = (p : Int) then [e] else []) := by
  rw [List.take_add_one, h]
  unfold own
  rw [List.filter_append, List.map_append]
  congr 1
  by_cases z : x = (p : Int)
  · simp [List.filter_cons, z]
  · simp [List.filter_cons, z]
theorem own_len {p : Nat} {l : List (Int × Int)} {i : Nat} : (own p (l.take i)).length ≤ i := by
  unfold own
  rw [List.length_map]
  exact Nat.le_trans (List.length_filter_le ..) (by rw [List.length_take]; exact Nat.min_le_left _ _)
theorem index_ints {K : PySem.W.Frag} {H : Hp} {a : Addr} {l : List Int} {e : Int} {Q : VK} (h : e ∈ l) (hl : SqL K H a (l.map V.int)) (q : Q (.int (l.idxOf e : Nat)) H) : rIndex K (.ref a) [.int e] H Q := by
  have hi : l.idxOf e < l.length := List.idxOf_lt_length_iff.mpr h
  refine ⟨a, l.map V.int, .int e, l.idxOf e, .int e, rfl, rfl, hl, rfl, ?_, ?_, ?_, fun m z' hm hz => ?_, q⟩
  · rw [List.all_map]
    exact List.all_eq_true.mpr fun _ _ => rfl
  · rw [List.getElem?_map, List.getElem?_eq_getElem hi, List.getElem_idxOf hi]
    rfl
  · simp [eqV]
  · obtain ⟨n, hn, rfl⟩ := of_at_map hz
    have h1 := List.not_of_lt_findIdx (p := (· == e)) (xs := l) (i := m) hm
    obtain ⟨hm2, hn2⟩ := List.getElem?_eq_some_iff.mp hn
    rw [hn2] at h1
    show (n == e) = false
    exact h1
theorem mt_indexK {X : Cx} {K : PySem.W.Frag} (h : X.K = K) : MtR X "list.index" (rIndex K) := h ▸ mt_index
theorem pe_bmK {X : Cx} {K : PySem.W.Frag} {T : String} {name : Str} {id : String} {r : V → List V → Hp → VK → Prop} {o e : Expr} {es : List Expr} {apos cpos : Pos} {to : TE} {t : TA} (hK : X.K = K) (pa : PlainAttrs T) (slot : Slot T name id) (hty : typeOf (.builtin id) = pure (.type "method_descriptor")) (hm : MtR X id r) (ho : PE X o to) (ha : PA X (e :: es) t)
    (hbase : attributeBase o name X.env (eval o X.env) = eval o X.env := by rfl)
    (hfew : ((backTo cpos (starEach (e :: es) X.env)).all (fun x => !x.1) && (backToKw cpos (keywordEach [] X.env)).all (fun x => x.1.isSome)
      && decide ((e :: es).length + ([] : List Keyword).length + (if ([] : List Keyword).isEmpty then 0 else 1) < 30)) = true := by rfl)
    (hline : (apos.endLine == cpos.line) = true := by rfl) (hs : starEach (e :: es) X.env = (false, eval e X.env) :: starEach es X.env := by rfl) (hplain : (backTo cpos (starEach es X.env)).any (·.1) = false := by rfl) :
    PE X (.Call (.Attribute o name apos) (e :: es) [] cpos) (tBM K T r to t) := hK ▸ pe_bm pa slot hty hm ho ha hbase hfew hline hs hplain
theorem pass_none {X : Cx} : Passes (L2.CX X.prog X.w) X (fun _ _ _ => False) := fun _ _ _ _ _ _ _ h => by
  obtain ⟨_, _, _, _, _, _, _, _, _, _, _, _, w⟩ := h
  exact w.elim
section
variable {P : Program} {w : World} {K : PySem.W.Frag} {mg : Str → Option Value} {base : Heap}
theorem ok_LB {f fO fL : Addr} {fd fdO fdL : FuncData} (F : Fun K "_law_between" "_law_between" sLB f fd) (FO : Fun K "place_of" "place_of" sPlaceOf fO fdO) (bO : Binds K fdO ["history", "state"] []) (gO : mg "place_of" = some (.ref fO))
    (FL : Fun K "state_places" "state_places" sPlaces fL fdL) (bL : Binds K fdL ["row"] []) (gL : mg "state_places" = some (.ref fL)) (ml : mg "len" = none) (men : mg "enumerate" = none) : FnOk P w K mg base CX0 3 f fd nLB (spLB K) := by
  have GO : FnOk P w K mg base CX0 2 fO fdO ["history", "state"] (spPlaceOf K) := ok_placeOf FO FL bL gL ml men
  refine F.ok scLB (fun vs H Q E h => ?_) (fun cdv A outer s H vs Q E hr h => ?_)
  · obtain ⟨a, refs, rows, p, i, k, row, x, y, rfl, _⟩ := h
    rfl
  · obtain ⟨a, refs, rows, p, i, k, row, x, y, rfl, hA, hR, hp, hl, hx, hy, hxi, hiy, q⟩ := h
    have nd := scLB.nd
    refine ⟨_, pss_one (ps_ret (pe_chain op_le op_lt (pe_call GO hr (by rfl) gO FO.kp bO .nil pass0 (pa_cons (pv 0) (pa_cons (pe_tup (pa_cons (pv 1) (pa_cons (pv 3) pa_nil))) pa_nil))) (pv 2)
      (pe_call GO hr (by rfl) gO FO.kp bO .nil pass0 (pa_cons (pv 0) (pa_cons (pe_tup (pa_cons (pv 1) (pa_cons (pe_op op_add (pv 3) pe_int) pa_nil))) pa_nil))))), ?_⟩
    refine ⟨.ref a, rfl, .int p, rfl, .int k, rfl, sz (by show 2 ≤ 1000; decide), fun b nb => ?_⟩
    have s1 : Same H (upd H b (.tup [V.int p, V.int k])) := Same.new nb
    have e1 : (upd H b (.tup [V.int p, V.int k])) b = some (.tup [V.int p, V.int k]) := upd_same
    generalize upd H b (.tup [V.int p, V.int k]) = H1 at s1 e1 ⊢
    refine ⟨a, b, refs, rows, p, k, row, x, rfl, (TupK.of s1).1 _ _ hA, hR.keep (.of s1), .inl (.inl e1), hp, hl, hx, fun H2 s2 => ?_⟩
    have s02 := s1.trans s2
    refine ⟨.int i, rfl, _, _, rfl, rfl, _, rfl, ?_⟩
    rw [if_pos (decide_eq_true hxi)]
    refine ⟨.ref a, rfl, .int p, rfl, .int k, rfl, _, _, rfl, rfl, sz (by show 2 ≤ 1000; decide), fun b2 nb2 => ?_⟩
    have s3 : Same H2 (upd H2 b2 (.tup [V.int p, V.int ((k : Int) + 1)])) := Same.new nb2
    have e3 : (upd H2 b2 (.tup [V.int p, V.int ((k : Int) + 1)])) b2 = some (.tup [V.int p, V.int ((k + 1 : Nat) : Int)]) := upd_same
    generalize upd H2 b2 (.tup [V.int p, V.int ((k : Int) + 1)]) = H3 at s3 e3 ⊢
    have s03 := s02.trans s3
    refine ⟨a, b2, refs, rows, p, k + 1, row, y, rfl, (TupK.of s03).1 _ _ hA, hR.keep (.of s03), .inl (.inl e3), hp, hl, hy, fun H4 s4 => ?_⟩
    refine ⟨_, _, rfl, rfl, ?_⟩
    show Q (.bl (decide ((i : Int) < y))) H4
    rw [decide_eq_true hiy]
    exact q H4 (s03.trans s4)
theorem ok_law {f fS fH fD fM fP fB fOr fRy fN fO fL fSe fRe fNu fHa : Addr} {fd fdS fdH fdD fdM fdP fdB fdOr fdRy fdN fdO fdL fdSe fdRe fdNu fdHa : FuncData}
    (F : Fun K "law" "law" sLaw f fd) (FS : Fun K "_law_state" "_law_state" sState fS fdS) (bS : Binds K fdS ["_law_script"] []) (gS : mg "_law_state" = some (.ref fS))
    (FH : Fun K "_law_history" "_law_history" sHist fH fdH) (bH : Binds K fdH ["_law_state_here", "_law_many", "_law_most"] []) (gH : mg "_law_history" = some (.ref fH))
    (FD : Fun K "_law_draw" "_law_draw" sDraw fD fdD) (bD : Binds K fdD ["_law_state_here", "_law_below"] []) (gD : mg "_law_draw" = some (.ref fD))
    (FM : Fun K "_law_mixed" "_law_mixed" sMixed fM fdM) (bM : Binds K fdM ["_law_state_here", "_law_items"] []) (gM : mg "_law_mixed" = some (.ref fM))
    (FP : Fun K "_law_pick" "_law_pick" sPick fP fdP) (bP : Binds K fdP ["_law_state_here", "_law_items"] []) (gP : mg "_law_pick" = some (.ref fP))
    (FB : Fun K "_law_between" "_law_between" sLB fB fdB) (bB : Binds K fdB nLB []) (gB : mg "_law_between" = some (.ref fB))
    (FOr : Fun K "some_order" "some_order" sOrder fOr fdOr) (bOr : Binds K fdOr ["history"] []) (gOr : mg "some_order" = some (.ref fOr))
    (FRy : Fun K "ready_process" "ready_process" sReady fRy fdRy) (bRy : Binds K fdRy ["history", "places", "happened"] []) (gRy : mg "ready_process" = some (.ref fRy))
    (FN : Fun K "state_numbers" "state_numbers" sNums fN fdN) (bN : Binds K fdN ["history"] []) (gN : mg "state_numbers" = some (.ref fN))
    (FO : Fun K "place_of" "place_of" sPlaceOf fO fdO) (bO : Binds K fdO ["history", "state"] []) (gO : mg "place_of" = some (.ref fO))
    (FL : Fun K "state_places" "state_places" sPlaces fL fdL) (bL : Binds K fdL ["row"] []) (gL : mg "state_places" = some (.ref fL))
    (FSe : Fun K "sent_at" "sent_at" sSent fSe fdSe) (bSe : Binds K fdSe ["history", "message"] []) (gSe : mg "sent_at" = some (.ref fSe))
    (FRe : Fun K "received_at" "received_at" sRecd fRe fdRe) (bRe : Binds K fdRe ["history", "message"] []) (gRe : mg "received_at" = some (.ref fRe))
    (FNu : Fun K "is_number_within" "is_number_within" sNum fNu fdNu) (bNu : Binds K fdNu ["value", "low", "high"] []) (gNu : mg "is_number_within" = some (.ref fNu))
    {fIn : Addr} {fdIn : FuncData} (FIn : Fun K "is_number" "is_number" sIsnum fIn fdIn) (bIn : Binds K fdIn ["value"] []) (gIn : mg "is_number" = some (.ref fIn))
    (FHa : Fun K "happened_at" "happened_at" sHap fHa fdHa) (bHa : Binds K fdHa ["history", "event"] []) (gHa : mg "happened_at" = some (.ref fHa))
    (gMM : ∃ t, mg "MAX_MESSAGES" = some (.int 24 t))
    (ml : mg "len" = none) (mli : mg "list" = none) (mtu : mg "tuple" = none) (mra : mg "range" = none) (mab : mg "abs" = none) (men : mg "enumerate" = none) (mis : mg "isinstance" = none) (mint : mg "int" = none) (mbo : mg "bool" = none) (msu : mg "sum" = none) :
    FnOk P w K mg base CX0 6 f fd ["_law_script"] (spLaw K) := by
  have GS : FnOk P w K mg base CX0 1 fS fdS ["_law_script"] (spState K) := ok_state FS ml mab
  have GH : FnOk P w K mg base CX0 3 fH fdH ["_law_state_here", "_law_many", "_law_most"] (spHist K) := ok_hist FH FD bD gD FM bM gM FP bP gP ml mli mtu mra
  have GN : FnOk P w K mg base CX0 1 fN fdN ["history"] (spNums K) := ok_nums FN mtu
  have GO : FnOk P w K mg base CX0 2 fO fdO ["history", "state"] (spPlaceOf K) := ok_placeOf FO FL bL gL ml men
  have GB : FnOk P w K mg base CX0 3 fB fdB nLB (spLB K) := ok_LB FB FO bO gO FL bL gL ml men
  have GOr : GFn P w K mg base 2 fOr fdOr ["history"] (spOrder K) := ok_order FOr FRy bRy gRy ml men
  have GSe : FnOk P w K mg base CX0 3 fSe fdSe ["history", "message"] (spMsg 1 K) := ok_sent FSe FNu bNu gNu FIn bIn gIn FHa bHa gHa gMM mis mint mbo men
  have GRe : FnOk P w K mg base CX0 3 fRe fdRe ["history", "message"] (spMsg (-1) K) := ok_recd FRe FNu bNu gNu FIn bIn gIn FHa bHa gHa gMM mis mint mbo men
  refine F.ok scLaw (fun vs H Q E h => ?_) (fun cdv A outer s H vs Q E hr h => ?_)
  · obtain ⟨a, ns, rfl, _⟩ := h
    rfl
  · obtain ⟨a, ns, rfl, hS, hlen, q⟩ := h
    have nd := scLaw.nd
    have hr1 : Room 1 _ := hr.mono (by decide)
    have hr2 : Room 2 _ := hr.mono (by decide)
    have hr3 : Room 3 _ := hr.mono (by decide)
    refine ⟨_, pss_cons (ps_set (i := 1) nd rfl (.inl rfl) (pe_call GS hr1 (by rfl) gS FS.kp bS .nil pass0 (pa_cons (pv 0) pa_nil)))
      (pss_cons (ps_for PassesOwn.never rfl (pi_range1 (by rfl) mra (pa_cons pe_int pa_nil)) (pg_name (i := 2) nd rfl (.inl rfl))
        (pss_cons (ps_set (i := 3) nd rfl (.inl rfl) (pe_call GH hr3 (by rfl) gH FH.kp bH .nil pass0 (pa_cons (pv 1) (pa_cons pe_int (pa_cons (pe_ix ix_list (pe_lst (pa_cons pe_int (pa_cons pe_int pa_nil))) (pe_op op_mod (pv 2) pe_int) (fun _ _ => rfl)) pa_nil)))))
        (pss_cons (ps_par (i := 4) (j := 5) (by rfl) nd rfl rfl (by decide) rfl rfl (pa_cons (pe_listG (pgen_call GOr hr2 (by rfl) gOr FOr.kp bOr .nil (pa_cons (pv 3) pa_nil)) pass_none (fun _ _ _ z => z.elim) hr (by rfl) mli rfl)
            (pa_cons (pe_call GN hr1 (by rfl) gN FN.kp bN .nil pass0 (pa_cons (pv 3) pa_nil)) pa_nil)) (by rfl))
        (pss_cons (ps_if (pt_cmpR op_ne (pe_callB call_len_seq (by rfl) ml PySem.boot_len (pa_cons (pv 4) pa_nil)) (pe_callB (cr_sum rfl) (by rfl) msu (by decide +kernel) (pa_cons
            (pe_lc (own := [("_law_row", 6)]) (g := gName 6) (by rfl) nd (pi_tup (pv 3)) (blkOk_by (own := [("_law_row", 6)]) (N := nLaw) (sc := defScope sLaw) (by decide +kernel))
              (fun _ _ _ _ _ => pg_name (i := 6) nd rfl (Or.inl rfl)) (fun _ _ _ _ _ => pts_nil) (fun _ _ _ _ _ => pe_callB (r := rLenS K) call_len_s (by rfl) ml PySem.boot_len (pa_cons (pv 6) pa_nil))) pa_nil)) (nomark _)) (pss_one (ps_ret pe_bl)) pss_nil)
        (pss_cons (ps_for PassesOwn.never rfl (pi_enumT (by rfl) men (pa_cons (pv 3) pa_nil)) (pg_tup rfl (pgs_cons (pg_name (i := 7) nd rfl (.inr rfl)) (pgs_cons (pg_name (i := 6) nd rfl (.inl rfl)) pgs_nil)))
          (pss_cons (ps_if (pt_cmpR (op_neD hr.units) (pe_callTy call_tuple_of (by rfl) mtu (by decide +kernel) (pa_cons
              (pe_lc (own := [("_law_own", 12), ("_law_event", 8)]) (g := gTup K 2 (gCons (gName 12) (gCons (gName 8) gNil))) (by rfl) nd (pi_list (pv 4)) (blkOk_by (own := [("_law_own", 12), ("_law_event", 8)]) (N := nLaw) (sc := defScope sLaw) (by decide +kernel))
                (fun _ _ _ _ _ => pg_tup rfl (pgs_cons (pg_name (i := 12) nd rfl (Or.inl rfl)) (pgs_cons (pg_name (i := 8) nd rfl (Or.inl rfl)) pgs_nil))) (fun _ _ _ _ _ => pts_one (pt_cmpR op_eq (pv 12) (pv 7) (nomark _))) (fun _ _ _ _ _ => pv 8)) pa_nil)) (pv 6) (nomark _)) (pss_one (ps_ret pe_bl)) pss_nil)
          (pss_cons (ps_if (pt_cmpR op_ne (pe_call GO hr2 (by rfl) gO FO.kp bO .nil pass0 (pa_cons (pv 3) (pa_cons (pe_tup (pa_cons (pv 7) (pa_cons (pe_ix ix_tup (pv 5) (pv 7) (fun _ _ => rfl)) pa_nil))) pa_nil))) (pe_callB call_len_seq (by rfl) ml PySem.boot_len (pa_cons (pv 6) pa_nil)) (nomark _)) (pss_one (ps_ret pe_bl)) pss_nil)
          (pss_one (ps_for PassesOwn.never rfl (pi_enumT (by rfl) men (pa_cons (pv 6) pa_nil)) (pg_tup rfl (pgs_cons (pg_name (i := 9) nd rfl (.inl rfl)) (pgs_cons (pg_name (i := 8) nd rfl (.inl rfl)) pgs_nil)))
            (pss_one (ps_if (pt_cmpR op_ne (pv 8) pe_int (nomark _))
              (pss_cons (ps_set (i := 10) nd rfl (.inl rfl) (pe_ifExp (pt_cmpR op_gt (pv 8) pe_int (nomark _)) (pe_call GSe hr3 (by rfl) gSe FSe.kp bSe .nil pass0 (pa_cons (pv 3) (pa_cons (pv 8) pa_nil)))
                (pe_call GRe hr3 (by rfl) gRe FRe.kp bRe .nil pass0 (pa_cons (pv 3) (pa_cons (pe_op op_sub pe_int (pv 8)) pa_nil)))))
              (pss_one (ps_if (PW.pt (pw_or (pt_cmp (pc_isN (pv 10))) (pw_or (pt_cmpR op_ne (pe_ix ix_tup (pv 10) pe_int (fun _ _ => rfl)) (pv 7) (nomark _))
                (pw_or1 (pt_not (pt_val (pe_call GB hr3 (by rfl) gB FB.kp bB .nil pass0 (pa_cons (pv 3) (pa_cons (pv 7) (pa_cons (pv 9) (pa_cons (pe_ix ix_tup (pv 10) pe_int (fun _ _ => rfl)) pa_nil)))))))))))
                (pss_one (ps_ret pe_bl)) pss_nil))) pss_nil)))))))
        (pss_cons (ps_set (i := 11) nd rfl (.inr rfl) (pe_lc (own := [("_law_process", 7), ("_law_event", 8)]) (g := gTup K 2 (gCons (gName 7) (gCons (gName 8) gNil))) (by rfl) nd (pi_list (pv 4)) (blkOk_by (own := [("_law_process", 7), ("_law_event", 8)]) (N := nLaw) (sc := defScope sLaw) (by decide +kernel))
                (fun _ _ _ _ _ => pg_tup rfl (pgs_cons (pg_name (i := 7) nd rfl (Or.inl rfl)) (pgs_cons (pg_name (i := 8) nd rfl (Or.inl rfl)) pgs_nil))) (fun _ _ _ _ _ => pts_nil) (fun _ _ _ _ _ => pv 8)))
        (pss_one (ps_if (pt_cmpR (op_neD hr.units) (pe_lc (own := [("_law_event", 8)]) (g := gName 8) (by rfl) nd (pi_list (pv 11)) (blkOk_by (own := [("_law_event", 8)]) (N := nLaw) (sc := defScope sLaw) (by decide +kernel))
                (fun _ _ _ _ _ => pg_name (i := 8) nd rfl (Or.inl rfl)) (fun _ _ _ _ _ => pts_one (PW.pt (pw_and (pt_cmpR op_lt (pv 8) pe_int (nomark _)) (pw_and1 (pt_cmpR op_lt
                  (pe_bmK (K := K) (by rfl) PySem.F.plainAttrs_list PySem.F.slot_list_index PySem.F.type_list_index (mt_indexK (K := K) (by rfl)) (pv 11) (pa_cons (pv 8) pa_nil))
                  (pe_bmK (K := K) (by rfl) PySem.F.plainAttrs_list PySem.F.slot_list_index PySem.F.type_list_index (mt_indexK (K := K) (by rfl)) (pv 11) (pa_cons (pe_op op_sub pe_int (pv 8)) pa_nil)) (nomark _)))))) (fun _ _ _ _ _ => pv 8)) (pe_lst pa_nil) (nomark _)) (pss_one (ps_ret pe_bl)) pss_nil))))))))
      (pss_one (ps_ret pe_bl))), ?_⟩
    refine ⟨.ref a, rfl, a, ns, rfl, hS, hlen, fun H1 st big cel hS1 sm1 _ _ _ => ?_⟩
    refine ⟨_, rfl, by decide, by decide, ?_⟩
    refine for_range (lo := 0) (n := 5) (fun i σ H' => ∃ x2 x3 x4 x5 x6 x7 x8 x9 x10 x11 x12 : Option V, σ = [some (.ref a), some (.ref st), x2, x3, x4, x5, x6, x7, x8, x9, x10, x11, x12] ∧ StAt H' st big cel (300 * i))
      ⟨_, _, _, _, _, _, _, _, _, _, _, rfl, hS1⟩ ?_ (fun σ H' _ => q H')
    rintro i σ H2 hi ⟨x2, x3, x4, x5, x6, x7, x8, x9, x10, x11, x12, rfl, hS2⟩
    obtain ⟨most, hm, hat⟩ := ten_sixty i
    -- rows
    refine ⟨.ref st, rfl, sz (by show 2 ≤ 1000; decide), fun l nl => ?_⟩
    refine ⟨_, rfl, _, _, rfl, rfl, (show (0 : Int) < 2 by decide), l, _, _, .int most, rfl, rfl, SqL.of upd_same, hat, ?_⟩
    refine ⟨st, big, cel, 300 * i, 6, most, rfl, by decide, by decide, hm, hS2.same (Same.new nl), by omega, fun H3 t refs rows nt ht hR hG hS3 k3 => ?_⟩
    have htT : SqT K H3 t (refs.map V.ref) := .inl (.inl ht)
    have hlenR := hG.len
    have hev := hG.events
    have hrl := hR.1
    have hto : total rows ≤ 60 := Nat.le_trans hev hm
    obtain ⟨oLen, oOwn⟩ := order_all hG
    -- the order, the numbers
    refine ⟨.ref t, rfl, t, refs, rows, rfl, htT, hR, by omega, by omega, fun H4 ts s4 hop L nL => ?_⟩
    have s5 : Same H3 (upd H4 L (.lst (ts.map V.ref))) := s4.trans (Same.new nL)
    have eL : (upd H4 L (.lst (ts.map V.ref))) L = some (.lst (ts.map V.ref)) := upd_same
    have hop5 := hop.keep (.of (Same.new (o := .lst (ts.map V.ref)) nL))
    generalize upd H4 L (.lst (ts.map V.ref)) = H5 at s5 eL hop5 ⊢
    refine ⟨.ref t, rfl, t, refs, rows, rfl, (TupK.of s5).1 _ _ htT, hR.keep (.of s5), by omega, fun H6 N s6 nN hN => ?_⟩
    have s36 := s5.trans s6
    have hT6 := (TupK.of s36).1 _ _ htT
    have hR6 := hR.keep (TupK.of s36)
    have eL6 := s6 _ _ eL
    have hop6 := hop5.keep (.of s6)
    have hN6 : SqT K H6 N ((numsOf rows).map V.int) := .inl (.inl hN)
    have hS6 := hS3.same s36
    refine ⟨_, _, rfl, ?_⟩
    -- the lengths
    refine ⟨.ref L, rfl, L, _, rfl, .inl (SqL.of eL6), ?_⟩
    refine ⟨.ref t, rfl, t, rfl, ⟨_, hT6⟩, fun d nd' => ?_⟩
    refine lc_tup (K := K) (a := t) (xs := refs.map V.ref) (fun j H' => Same H6 H' ∧ H' d = some (.lst (((rows.take j).map fun r => (r.length : Int)).map V.int))) ⟨Same.new nd', upd_same⟩ (fun j H' _ z => (TupK.of z.1).1 _ _ hT6) (fun j x H' hx z => ?_) (fun H' z => ?_)
    · obtain ⟨r, hr', rfl⟩ := of_at_map hx
      have hj : j < rows.length := by
        rw [← hrl]
        exact (List.getElem?_eq_some_iff.mp hr').1
      have hrow := List.getElem?_eq_getElem hj
      have hq := ((hR6.2 j r _ hr' hrow).same z.1).sqT (K := K)
      refine ⟨rfl, ?_⟩
      refine yesT ?_
      refine ⟨.ref r, rfl, r, _, rfl, .inr hq, _, z.2, ?_, Same.put nd' z.1, ?_⟩
      · rw [List.length_map, List.length_map, List.length_take]
        exact small1000 (by omega)
      · rw [upd_same, List.take_add_one, hrow, List.length_map, List.map_append, List.map_append]
        rfl
    obtain ⟨s7, hd⟩ := z
    rw [List.length_map, hrl, List.take_length] at hd
    refine ⟨d, _, rfl, SqL.of hd, ?_⟩
    have hsum : ((rows.map fun r => (r.length : Int))).sum = ((ts.map V.ref).length : Int) := by
      rw [List.length_map, hop6.1, oLen]
      exact sum_lens rows
    rw [hsum]
    refine ⟨rfl, _, rfl, iteNS rfl ?_⟩
    have s37 := s36.trans s7
    have hT7 := (TupK.of s7).1 _ _ hT6
    have hR7 := hR6.keep (TupK.of s7)
    have eL7 := s7 _ _ eL6
    have hop7 := hop6.keep (.of s7)
    have hN7 := (TupK.of s7).1 _ _ hN6
    have hS7 := hS6.same s7
    -- every process
    refine ⟨.ref t, rfl, t, _, rfl, hT7, ?_⟩
    refine for_etup (K := K) (a := t) (xs := refs.map V.ref) (fun p σ H8 => ∃ x6 x7 x8 x9 x10 x11 x12 : Option V, σ = [some (.ref a), some (.ref st), some (.int (0 + (i : Int))), some (.ref t), some (.ref L), some (.ref N), x6, x7, x8, x9, x10, x11, x12] ∧ Same H' H8)
      ⟨_, _, _, _, _, _, _, rfl, Same.refl H'⟩ (fun p σ H8 _ ⟨_, _, _, _, _, _, _, _, sm⟩ => (TupK.of sm).1 _ _ hT7) ?_ ?_
    · rintro p x T σ H8 hx ⟨y6, y7, y8, y9, y10, y11, y12, rfl, s8⟩ nT
      obtain ⟨r, hr', rfl⟩ := of_at_map hx
      have hp : p < rows.length := by
        rw [← hrl]
        exact (List.getElem?_eq_some_iff.mp hr').1
      have hrow := List.getElem?_eq_getElem hp
      generalize rows[p] = row at hrow
      have hle := (hG.row hrow).1
      have sT := s8.trans (Same.new (o := .tup [V.int (p : Nat), V.ref r]) nT)
      refine ⟨T, _, rfl, .inl (.inl upd_same), rfl, _, _, rfl, _, _, rfl, rfl, ?_⟩
      generalize upd H8 T (.tup [V.int (p : Nat), V.ref r]) = H9 at sT ⊢
      have eL9 := sT _ _ eL7
      have hop9 := hop7.keep (.of sT)
      have hR9 := hR7.keep (.of sT)
      have hT9 := (TupK.of sT).1 _ _ hT7
      have hN9 := (TupK.of sT).1 _ _ hN7
      have hr9 : SqT K H9 r (row.map V.int) := (hR9.2 p r row hr' hrow).sqT
      -- its own events
      refine ⟨.ref L, rfl, L, rfl, ⟨_, SqL.of eL9⟩, fun D nD => ?_⟩
      refine lc_list (K := K) (a := L) (xs := ts.map V.ref) (fun j H' => Same H9 H' ∧ H' D = some (.lst ((own p ((order rows).take j)).map V.int))) ⟨Same.new nD, upd_same⟩ (fun j H' _ z => SqL.of (z.1 _ _ eL9)) (fun j x H' hx z => ?_) (fun H' z => ?_)
      · obtain ⟨e, he, rfl⟩ := of_at_map hx
        have hj : j < (order rows).length := by
          rw [← hop9.1]
          exact (List.getElem?_eq_some_iff.mp he).1
        obtain ⟨⟨u, v⟩, huv⟩ : ∃ uv, (order rows)[j]? = some uv := ⟨_, List.getElem?_eq_getElem hj⟩
        have hsq := (TupK.of z.1).1 _ _ (hop9.2 j e (u, v) he huv)
        refine ⟨e, _, rfl, hsq, rfl, _, _, rfl, _, _, rfl, rfl, ?_⟩
        have hol := own_len (p := p) (l := order rows) (i := j)
        refine ⟨rfl, ?_⟩
        refine ⟨_, rfl, _, rfl, rfl, _, rfl, ite2 (fun ez => ?_) (fun ez => ?_)⟩
        · have e0 : u = (p : Int) := V.int.inj (of_decide_eq_true ez)
          refine ⟨_, rfl, _, z.2, ?_, Same.put nD z.1, ?_⟩
          · rw [List.length_map]
            exact small1000 (by omega)
          · rw [upd_same, own_snoc huv, if_pos e0, List.map_append]
            rfl
        · have e0 : u ≠ (p : Int) := fun w => ez (decide_eq_true (by rw [w]))
          refine ⟨z.1, ?_⟩
          rw [own_snoc huv, if_neg e0, List.append_nil]
          exact z.2
      obtain ⟨s10, hD⟩ := z
      rw [List.length_map, hop9.1, List.take_length, oOwn p row hrow] at hD
      refine ⟨D, _, rfl, .inl ⟨SqL.of hD, fun T2 nT2 => ?_⟩⟩
      have s11 := s10.trans (Same.new (o := .tup (row.map V.int)) nT2)
      have eT2 : (upd H' T2 (.tup (row.map V.int))) T2 = some (.tup (row.map V.int)) := upd_same
      generalize upd H' T2 (.tup (row.map V.int)) = H10 at s11 eT2 ⊢
      have hr10 := (TupK.of s11).1 _ _ hr9
      have eqr : PyData.eqv (.tuple (iD row)) (.tuple (iD row)) = true := SeqAt.eqv_refl _ (SeqAt.canLay_of_shaped (shaped_tup row))
      refine ⟨.ref r, rfl, .tuple (iD row), .tuple (iD row), dp_tup (.inl (.inl eT2)), dp_tup hr10, shaped_tup row, shaped_tup row, _, rfl, ?_⟩
      rw [eqr]
      refine iteF ?_
      -- its last place
      have hT10 := (TupK.of s11).1 _ _ hT9
      have hR10 := hR9.keep (.of s11)
      have hN10 := (TupK.of s11).1 _ _ hN9
      refine ⟨.ref t, rfl, .int (p : Nat), rfl, .ref N, rfl, .int (p : Nat), rfl, N, _, p, _, rfl, rfl, hN10, atI_nat (at_map (nums_at hrow)), sz (by show 2 ≤ 1000; decide), fun b nb => ?_⟩
      have s12 : Same H10 (upd H10 b (.tup [V.int (p : Nat), V.int (((row.count 0 : Nat) : Int) + 1)])) := Same.new nb
      have eb : (upd H10 b (.tup [V.int (p : Nat), V.int (((row.count 0 : Nat) : Int) + 1)])) b = some (.tup [V.int (p : Nat), V.int ((row.count 0 + 1 : Nat) : Int)]) := upd_same
      generalize upd H10 b (.tup [V.int (p : Nat), V.int (((row.count 0 : Nat) : Int) + 1)]) = H11 at s12 eb ⊢
      refine ⟨t, b, refs, rows, p, row.count 0 + 1, row, _, rfl, (TupK.of s12).1 _ _ hT10, hR10.keep (.of s12), .inl (.inl eb), hrow, by omega, place_last row, fun H12 s13 => ?_⟩
      have s1012 := s12.trans s13
      have hr12 := (TupK.of s1012).1 _ _ hr10
      refine ⟨.ref r, rfl, r, _, rfl, .inr hr12, rfl, _, rfl, iteNS ?_ ?_⟩
      · rw [List.length_map]
      have hT12 := (TupK.of s1012).1 _ _ hT10
      have hR12 := hR10.keep (TupK.of s1012)
      have s812 := sT.trans (s11.trans s1012)
      -- every event
      refine ⟨.ref r, rfl, r, _, rfl, hr12, ?_⟩
      refine for_etup (K := K) (a := r) (xs := row.map V.int) (fun j σ H13 => ∃ z8 z9 z10 z11 z12 : Option V, σ = [some (.ref a), some (.ref st), some (.int (0 + (i : Int))), some (.ref t), some (.ref L), some (.ref N), some (.ref r), some (.int (p : Nat)), z8, z9, z10, z11, z12] ∧ Same H12 H13)
        ⟨_, _, _, _, _, rfl, Same.refl H12⟩ (fun j σ H13 _ ⟨_, _, _, _, _, _, sm⟩ => (TupK.of sm).1 _ _ hr12) ?_ ?_
      · rintro j x T3 σ H13 hx ⟨z8, z9, z10, z11, z12, rfl, s14⟩ nT3
        obtain ⟨e, he, rfl⟩ := of_at_map hx
        have s15 := s14.trans (Same.new (o := .tup [V.int (j : Nat), V.int e]) nT3)
        refine ⟨T3, _, rfl, .inl (.inl upd_same), rfl, _, _, rfl, _, _, rfl, rfl, ?_⟩
        generalize upd H13 T3 (.tup [V.int (j : Nat), V.int e]) = H14 at s15 ⊢
        have hT14 := (TupK.of s15).1 _ _ hT12
        have hR14 := hR12.keep (TupK.of s15)
        refine ⟨_, rfl, rfl, _, rfl, ite2 (fun ne => ?_) (fun ne => ?_)⟩
        · have e0 : e ≠ 0 := fun w => by
            rw [w] at ne
            cases ne
          have hin := (hG.row hrow).2 e (List.mem_of_getElem? he)
          have hh := hG.hap_at hrow he e0
          have hlr : ∀ r ∈ rows, r.length ≤ 1000 := fun r hr => by
            obtain ⟨k, hk⟩ := List.getElem?_of_mem hr
            have := (hG.row hk).1
            omega
          refine seqS (asgS (if_dec (decide (e > 0)) (fun v H15 => Same H14 H15 ∧ HapV H15 v (hap rows e)) (fun Q q => ⟨_, rfl, _, _, rfl, rfl, _, rfl, q⟩)
            (fun ek Q' q' => ⟨.ref t, rfl, .int e, rfl, t, refs, rows, .int e, rfl, hT14, hR14, hlr, .int e, fun H15 v s16 hv => q' v H15 ⟨s16, ?_⟩⟩)
            (fun ek Q' q' => ⟨.ref t, rfl, .int e, rfl, _, _, rfl, rfl, t, refs, rows, .int (0 - e), rfl, hT14, hR14, hlr, .int _, fun H15 v s16 hv => q' v H15 ⟨s16, ?_⟩⟩) ?_))
          · have h0 := of_decide_eq_true ek
            have hn : numIn (.int e) 1 24 = true := by
              have h1 : 1 ≤ e := by omega
              simp [numIn, h1, hin.2]
            rw [msgAt_in hn, Int.one_mul] at hv
            exact hv
          · have h0 := of_decide_eq_false ek
            have hn : numIn (.int (0 - e)) 1 24 = true := by
              have h1 : 1 ≤ 0 - e := by omega
              have h2 : 0 - e ≤ 24 := by omega
              simp [numIn]
              omega
            have h3 : (-1 : Int) * (0 - e) = e := by omega
            rw [msgAt_in hn, h3] at hv
            exact hv
          rintro v H15 ⟨s16, hv⟩
          rw [hh] at hv
          obtain ⟨tt, rfl, ht2⟩ := hv
          have hT15 := (TupK.of s16).1 _ _ hT14
          have hR15 := hR14.keep (TupK.of s16)
          have hq15 : SqT K H15 tt [.int p, .int ((row.take j).count 0 : Nat)] := .inl (.inl ht2)
          obtain ⟨x, y, hx1, hx2, hx3, hx4⟩ := place_between he e0
          refine Sv.gN ?_
          dsimp only
          refine ifS ⟨.ref tt, rfl, false, by simp, iteF ?_⟩
          refine ⟨.ref tt, rfl, tt, _, 0, _, rfl, rfl, hq15, atI_nat (j := 0) rfl, _, rfl, rfl, _, rfl, iteNS rfl ?_⟩
          refine ⟨.ref t, rfl, .int (p : Nat), rfl, .int (j : Nat), rfl, .ref tt, rfl, tt, _, 1, _, rfl, rfl, hq15, atI_nat (j := 1) rfl, t, refs, rows, p, j, _, row, x, y, rfl, hT15, hR15, hrow, by omega, hx1, hx2, hx3, hx4, fun H16 s17 => ?_⟩
          refine ⟨true, rfl, ?_⟩
          refine iteF ?_
          exact ⟨_, _, _, _, _, rfl, s15.trans (s16.trans s17)⟩
        · exact ⟨_, _, _, _, _, rfl, s15⟩
      · rintro σ H13 ⟨z8, z9, z10, z11, z12, rfl, s14⟩
        exact ⟨_, _, _, _, _, _, _, rfl, s812.trans s14⟩
    · rintro σ H8 ⟨y6, y7, y8, y9, y10, y11, y12, rfl, s8⟩
      have eL8 := s8 _ _ eL7
      have hop8 := hop7.keep (.of s8)
      have hevl : (evs rows).length = total rows := by
        rw [evs, List.length_map, oLen]
      -- all events
      refine ⟨.ref L, rfl, L, rfl, ⟨_, SqL.of eL8⟩, fun D nD => ?_⟩
      refine lc_list (K := K) (a := L) (xs := ts.map V.ref) (fun j H' => Same H8 H' ∧ H' D = some (.lst (((evs rows).take j).map V.int))) ⟨Same.new nD, upd_same⟩ (fun j H' _ z => SqL.of (z.1 _ _ eL8)) (fun j x H' hx z => ?_) (fun H9 z => ?_)
      · obtain ⟨e, he, rfl⟩ := of_at_map hx
        have hj : j < (order rows).length := by
          rw [← hop8.1]
          exact (List.getElem?_eq_some_iff.mp he).1
        obtain ⟨⟨u, v⟩, huv⟩ : ∃ uv, (order rows)[j]? = some uv := ⟨_, List.getElem?_eq_getElem hj⟩
        have hv : (evs rows)[j]? = some v := by
          rw [evs, List.getElem?_map, huv]
          rfl
        have hsq := (TupK.of z.1).1 _ _ (hop8.2 j e (u, v) he huv)
        refine ⟨e, _, rfl, hsq, rfl, _, _, rfl, _, _, rfl, rfl, ?_⟩
        refine ⟨rfl, ?_⟩
        refine yesT ?_
        refine ⟨_, rfl, _, z.2, ?_, Same.put nD z.1, ?_⟩
        · rw [List.length_map, List.length_take]
          exact small1000 (by omega)
        · rw [upd_same, List.take_add_one, hv, List.map_append]
          rfl
      obtain ⟨s9, hD⟩ := z
      rw [List.length_map, hop8.1, oLen, ← hevl, List.take_length] at hD
      -- none before its sending
      refine ⟨.ref D, rfl, D, rfl, ⟨_, SqL.of hD⟩, fun G nG => ?_⟩
      refine lc_list (K := K) (a := D) (xs := (evs rows).map V.int) (fun j H' => Same H9 H' ∧ H' G = some (.lst [])) ⟨Same.new nG, upd_same⟩ (fun j H' _ z => SqL.of (z.1 _ _ hD)) (fun j x H' hx z => ?_) (fun H10 z => ?_)
      · obtain ⟨e, he, rfl⟩ := of_at_map hx
        have hme := List.mem_of_getElem? he
        have hD' := SqL.of (K := K) (z.1 _ _ hD)
        refine ⟨rfl, ?_⟩
        refine ⟨_, rfl, _, _, rfl, rfl, _, rfl, ite2 (fun ez => ?_) (fun ez => ?_)⟩
        · have e0 : e < 0 := of_decide_eq_true ez
          obtain ⟨h1, h2⟩ := evs_after hme e0
          have en : (0 : Int) - e = -e := by omega
          refine ⟨.ref D, rfl, .inl ⟨rfl, _, hD'⟩, .int e, rfl, ?_⟩
          dsimp only [tNil]
          refine index_ints hme hD' ?_
          refine ⟨.ref D, rfl, .inl ⟨rfl, _, hD'⟩, .int e, rfl, _, _, rfl, rfl, ?_⟩
          dsimp only [tNil]
          rw [en]
          refine index_ints h1 hD' ?_
          refine ⟨_, _, rfl, rfl, false, ?_, ?_⟩
          · exact congrArg V.bl (decide_eq_false (by omega))
          · exact iteF z
        · exact iteF z
      obtain ⟨s10, hG⟩ := z
      refine ⟨sz (Nat.zero_le _), fun M nM => ?_⟩
      have s11 := s10.trans (Same.new (o := .lst []) nM)
      have hG11 := Same.new (o := .lst []) nM _ _ hG
      refine ⟨.list [], .list [], dp_lst (ns := []) (SqL.of hG11), dp_lst (ns := []) (SqL.of upd_same), rfl, rfl, _, rfl, ?_⟩
      refine iteF ?_
      exact ⟨_, _, _, _, _, _, _, _, _, _, _, rfl, (hS7.same (s8.trans (s9.trans s11))).le (by omega) (by omega)⟩
end

end Sv

/-! the end of a row whose law calls repr: the head's call is made where no repr runs -/
namespace Sv
open PySem PySem.Spec PyProof.Rows L2
section
variable {P : Program} {w : World} {K : PySem.W.Frag} {mg mb : Str → Option Value} {k : Nat} {fa a : Addr} {fd : FuncData} {x : Str} {sp : Sp}
  {s₁ : Shared} {vs : List Value} {ns : List Int}
/-- from one abstract heap that tracks nothing but the script -/
theorem headG_core (H : Hp) (KX : K.In s₁.heap) (hns : s₁.heap.Ns mainGlobals mg) (hb : s₁.heap.Ns builtinsNs mb)
    (hbb : ∀ y : Str, y ≠ "__name__" → mb y = bootBuiltins y) (hlim : s₁.heap.NoLimit) (hg : s₁.gens = #[])
    (ha : s₁.heap.get? a = some { cls := .type "list", data := .seq vs.toArray }) (hr : Room k callerA)
    (F : ∀ base : Heap, K.In base → base.Ns mainGlobals mg → FnG P w K mg base k fa fd [x] sp)
    (hbind : ∀ (s : Shared) (u : Value), BindsTo s fd ⟨[u], []⟩ [(x, u)])
    (hO : Only H) (hsp : sp [.ref a] H (fun v _ => v = .bl true) fun _ _ _ => False)
    (hok : HOk P w H s₁.heap) (hA : ∀ b, H b ≠ none → b = a) (hK : H a ≠ none → K.lookup a = none) :
    codeAny (model P w) callerA (.call (.ref fa) ⟨[.ref a], []⟩)
      (fun r s' => r = .ok (.ret (.bool true)) ∧ OldK s₁.heap s'.heap ∧ s'.os = s₁.os ∧ AllBare s'.gens) s₁ := by
  have tr : ∀ {b : Addr} {u : HO}, H b = some u → b = a := fun {b u} q => hA b (by rw [q]; exact Option.some_ne_none u)
  have under : ∀ {b : Addr} {o : Obj}, s₁.heap.get? b = some o → H b = none → (hidT s₁.heap H).get? b = some o := fun e n => hidT_get e n
  have dictN : ∀ {b : Addr} {o : Obj} {es : Array DictEntry} {ep : Nat}, s₁.heap.get? b = some o → o.data = .dict es ep → H b = none := by
    intro b o es ep e d
    rcases hH : H b with _ | u
    · rfl
    · have eb := tr hH
      rw [eb, ha] at e
      rw [← Option.some.inj e] at d
      exact absurd d (by intro z; cases z)
  have nsK : ∀ {b : Addr} {m : Str → Option Value}, s₁.heap.Ns b m → (hidT s₁.heap H).Ns b m := by
    rintro b m ⟨o, es, ep, e, d, r⟩
    exact ⟨o, es, ep, under e (dictN e d), d, r⟩
  have hKb : K.In (hidT s₁.heap H) := by
    intro b o e
    refine under (KX b o e) ?_
    rcases hH : H b with _ | u
    · rfl
    · have eb := tr hH
      rw [eb] at e hH
      rw [hK (by rw [hH]; exact Option.some_ne_none u)] at e
      cases e
  have hM : Mod K mg (hidT s₁.heap H) := by
    obtain ⟨mc, l1, l2⟩ := hlim
    exact ⟨hKb, nsK hns, ⟨mb, nsK hb, hbb⟩, ⟨mc, nsK l1, l2⟩⟩
  have e0 : Env0 P w K mg (hidT s₁.heap H) callerA [] s₁ H := by
    refine ⟨rfl, hM, fun b o e => of_hidT e, Nat.le_of_eq (hidT_size _ _), trivial, fun b hb => ?_, hok, .of_eq hg⟩
    exact absurd (show b ∈ ([] : List Addr) from hb) List.not_mem_nil
  have hrun := (F _ hKb (nsK hns)).run callerA rfl [] s₁ H ⟨[.ref a], []⟩ [.ref a] [.ref a] _ _ hr e0 (hbind s₁ (.ref a)) (.cons rfl .nil) hsp
  refine codeAny_mono hrun fun r s' h => ?_
  match r, h with
  | .error e, h => exact absurd h id
  | .ok .next, h => exact absurd h id
  | .ok .brk, h => exact absurd h id
  | .ok .cont, h => exact absurd h id
  | .ok (.ret u), h =>
    obtain ⟨v, H', os, bare, un, hok', r', q⟩ := h
    obtain rfl : v = .bl true := q
    obtain rfl : u = Value.bool true := r'
    refine ⟨rfl, OldK.of_keep fun b o e => ?_, os, bare⟩
    rcases hO b with z | ⟨ob, xs, z⟩
    · exact un.keep b o e z (fun m => absurd (show b ∈ ([] : List Addr) from m) List.not_mem_nil) List.not_mem_nil
    · obtain ⟨e1, _⟩ := hok b _ z
      obtain ⟨e2, _⟩ := hok' b _ (un.frzs b ob _ z)
      rw [← e, e1]
      exact e2
theorem headG (KX : K.In s₁.heap) (hns : s₁.heap.Ns mainGlobals mg) (hb : s₁.heap.Ns builtinsNs mb)
    (hbb : ∀ y : Str, y ≠ "__name__" → mb y = bootBuiltins y) (hlim : s₁.heap.NoLimit) (hg : s₁.gens = #[])
    (ha : s₁.heap.get? a = some { cls := .type "list", data := .seq vs.toArray }) (hi : IntsAre vs ns) (hl : ns.length ≤ sizeLine) (hr : Room k callerA)
    (F : ∀ base : Heap, K.In base → base.Ns mainGlobals mg → FnG P w K mg base k fa fd [x] sp)
    (hbind : ∀ (s : Shared) (u : Value), BindsTo s fd ⟨[u], []⟩ [(x, u)])
    (hsp : ∀ H : Hp, Only H → SqL K H a (ns.map V.int) → sp [.ref a] H (fun v _ => v = .bl true) fun _ _ _ => False) :
    codeAny (model P w) callerA (.call (.ref fa) ⟨[.ref a], []⟩)
      (fun r s' => r = .ok (.ret (.bool true)) ∧ OldK s₁.heap s'.heap ∧ s'.os = s₁.os ∧ AllBare s'.gens) s₁ := by
  have rv := vals_ints hi
  rcases hk : K.lookup a with _ | o
  · have hE : ∀ b, (if b = a then some (HO.frz { cls := .type "list", data := .seq vs.toArray } (.lst (ns.map V.int))) else none) ≠ none → b = a := by
      intro b z
      by_cases hb : b = a
      · exact hb
      · rw [if_neg hb] at z
        exact absurd rfl z
    have hO : Only fun b => if b = a then some (HO.frz { cls := .type "list", data := .seq vs.toArray } (.lst (ns.map V.int))) else none := by
      intro b
      by_cases hb : b = a
      · exact .inr ⟨_, _, if_pos hb⟩
      · exact .inl (if_neg hb)
    refine headG_core _ KX hns hb hbb hlim hg ha hr F hbind hO (hsp _ hO (.inl (.inr ⟨_, if_pos rfl⟩))) (fun b u z => ?_) hE fun _ => hk
    have hba : b = a := hE b (by rw [z]; exact Option.some_ne_none u)
    subst hba
    obtain rfl := Option.some.inj ((if_pos rfl).symm.trans z)
    exact ⟨ha, by rw [List.length_map]; exact hl, vs, _, rv, ha⟩
  · have e := KX a o hk
    obtain rfl := Option.some.inj (ha.symm.trans e)
    have hO : Only fun _ => none := fun _ => .inl rfl
    refine headG_core (fun _ => none) KX hns hb hbb hlim hg ha hr F hbind hO (hsp _ hO (.inr ⟨_, vs.toArray, _, hk, rfl, rfl, rfl, ?_, by simpa using rv⟩))
      (fun b u z => absurd (show (none : Option HO) = some u from z) (by intro q; cases q)) (fun b z => absurd rfl z) fun z => absurd rfl z
    rw [List.size_toArray, hi.length]
    exact hl
end
/-- the goal that the head leaves -/
theorem walkG {l : PySem.W.OpenLaw} {n k : Nat} {q : Program} {loose : List Str} {XP : (Str → Option Value) → Heap → Prop} {YP : World → Heap → Prop}
    {d : DefRec} {K : Params → PySem.W.Frag} {sp : PySem.W.Frag → Sp} {x : Str}
    (hn : l.most = some n) (hn2 : n ≤ sizeLine) (hdf : d.params.defaults = []) (hr : Room k callerA)
    (hY : ∀ (w : World) (h : Heap), YP w h → (K w.params).In h)
    (F : ∀ (w : World) (mg : Str → Option Value) (fa : Addr) (h : Heap), (K w.params).In h → h.Ns mainGlobals mg → mg d.name = some (.ref fa) →
      ∃ fd : FuncData, (∀ (s : Shared) (u : Value), BindsTo s fd ⟨[u], []⟩ [(x, u)]) ∧
        ∀ base : Heap, (K w.params).In base → base.Ns mainGlobals mg → FnG l.prog w (K w.params) mg base k fa fd [x] (sp (K w.params)))
    (hsp : ∀ (K : PySem.W.Frag) (H : Hp) (a : Addr) (ns : List Int), ns.length ≤ n → Only H → SqL K H a (ns.map V.int) → sp K [.ref a] H (fun v _ => v = .bl true) fun _ _ _ => False) :
    PySem.W.WalkO q loose XP YP l.row.toRowW d [] (fun f vs => PySem.call f vs) := by
  refine Att.attach_call hn hdf fun w s₀ s₁ mg mb fa o pm cd doc a vs ns G Y ho hd hcd hmg hobj hints hlen hg => ?_
  obtain ⟨fd, hbd, hF⟩ := F w mg fa _ (hY w _ Y) G.T.g hmg
  exact headG (hY w _ Y) G.T.g G.T.b G.T.builtins G.T.nolimit hg hobj hints (Nat.le_trans hlen hn2) hr hF hbd fun H h1 h2 => hsp _ H a ns hlen h1 h2
end Sv

namespace Sv
open PySem PySem.Spec PyProof.Rows L2
theorem all_mk {l : PySem.W.OpenLaw} {w : World} {K : PySem.W.Frag} {h : Heap} {mg : Str → Option Value} {fa f0 f1 f2 f3 f4 f5 f6 f7 f8 f9 f10 f11 f12 f13 f14 f15 f16 : Addr} (X : K.In h) (G : h.Ns mainGlobals mg) (hfa : mg "law" = some (.ref fa))
    {od0 an0 od1 an1 od2 an2 od3 an3 od4 an4 od5 an5 od6 an6 od7 an7 od8 an8 od9 an9 od10 an10 od11 an11 od12 an12 od13 an13 od14 an14 od15 an15 od16 an16 : Option Addr} {sl0 sl1 sl2 sl3 sl4 sl5 sl6 sl7 sl8 sl9 sl10 sl11 sl12 sl13 sl14 sl15 sl16 : Array (Option Value)} {oc0 kV0 dc0 pm0 cd0 ct0 oc1 kV1 dc1 pm1 cd1 ct1 oc2 kV2 dc2 pm2 cd2 ct2 oc3 kV3 dc3 pm3 cd3 ct3 oc4 kV4 dc4 pm4 cd4 ct4 oc5 kV5 dc5 pm5 cd5 ct5 oc6 kV6 dc6 pm6 cd6 ct6 oc7 kV7 dc7 pm7 cd7 ct7 oc8 kV8 dc8 pm8 cd8 ct8 oc9 kV9 dc9 pm9 cd9 ct9 oc10 kV10 dc10 pm10 cd10 ct10 oc11 kV11 dc11 pm11 cd11 ct11 oc12 kV12 dc12 pm12 cd12 ct12 oc13 kV13 dc13 pm13 cd13 ct13 oc14 kV14 dc14 pm14 cd14 ct14 oc15 kV15 dc15 pm15 cd15 ct15 oc16 kV16 dc16 pm16 cd16 ct16 : Value}
    (a0 : PySem.W.nsIn K mainGlobals "_law_state" = some (some (.ref f0))) (l0 : K.lookup f0 = some ⟨oc0, od0, .func (PySem.W.fnOf "_law_state" "_law_state" (defArgs sState) (defBody sState) (defScope sState) .none kV0 dc0 pm0 an0 cd0 ct0), sl0⟩) (c0 : PySem.W.codeIn K cd0 "_law_state" = true) (k0 : PySem.W.keepIn K (.ref f0) = true)
    (a1 : PySem.W.nsIn K mainGlobals "_law_history" = some (some (.ref f1))) (l1 : K.lookup f1 = some ⟨oc1, od1, .func (PySem.W.fnOf "_law_history" "_law_history" (defArgs sHist) (defBody sHist) (defScope sHist) .none kV1 dc1 pm1 an1 cd1 ct1), sl1⟩) (c1 : PySem.W.codeIn K cd1 "_law_history" = true) (k1 : PySem.W.keepIn K (.ref f1) = true)
    (a2 : PySem.W.nsIn K mainGlobals "_law_draw" = some (some (.ref f2))) (l2 : K.lookup f2 = some ⟨oc2, od2, .func (PySem.W.fnOf "_law_draw" "_law_draw" (defArgs sDraw) (defBody sDraw) (defScope sDraw) .none kV2 dc2 pm2 an2 cd2 ct2), sl2⟩) (c2 : PySem.W.codeIn K cd2 "_law_draw" = true) (k2 : PySem.W.keepIn K (.ref f2) = true)
    (a3 : PySem.W.nsIn K mainGlobals "_law_mixed" = some (some (.ref f3))) (l3 : K.lookup f3 = some ⟨oc3, od3, .func (PySem.W.fnOf "_law_mixed" "_law_mixed" (defArgs sMixed) (defBody sMixed) (defScope sMixed) .none kV3 dc3 pm3 an3 cd3 ct3), sl3⟩) (c3 : PySem.W.codeIn K cd3 "_law_mixed" = true) (k3 : PySem.W.keepIn K (.ref f3) = true)
    (a4 : PySem.W.nsIn K mainGlobals "_law_pick" = some (some (.ref f4))) (l4 : K.lookup f4 = some ⟨oc4, od4, .func (PySem.W.fnOf "_law_pick" "_law_pick" (defArgs sPick) (defBody sPick) (defScope sPick) .none kV4 dc4 pm4 an4 cd4 ct4), sl4⟩) (c4 : PySem.W.codeIn K cd4 "_law_pick" = true) (k4 : PySem.W.keepIn K (.ref f4) = true)
    (a5 : PySem.W.nsIn K mainGlobals "_law_between" = some (some (.ref f5))) (l5 : K.lookup f5 = some ⟨oc5, od5, .func (PySem.W.fnOf "_law_between" "_law_between" (defArgs sLB) (defBody sLB) (defScope sLB) .none kV5 dc5 pm5 an5 cd5 ct5), sl5⟩) (c5 : PySem.W.codeIn K cd5 "_law_between" = true) (k5 : PySem.W.keepIn K (.ref f5) = true)
    (a6 : PySem.W.nsIn K mainGlobals "some_order" = some (some (.ref f6))) (l6 : K.lookup f6 = some ⟨oc6, od6, .func (PySem.W.fnOf "some_order" "some_order" (defArgs sOrder) (defBody sOrder) (defScope sOrder) .none kV6 dc6 pm6 an6 cd6 ct6), sl6⟩) (c6 : PySem.W.codeIn K cd6 "some_order" = true) (k6 : PySem.W.keepIn K (.ref f6) = true)
    (a7 : PySem.W.nsIn K mainGlobals "ready_process" = some (some (.ref f7))) (l7 : K.lookup f7 = some ⟨oc7, od7, .func (PySem.W.fnOf "ready_process" "ready_process" (defArgs sReady) (defBody sReady) (defScope sReady) .none kV7 dc7 pm7 an7 cd7 ct7), sl7⟩) (c7 : PySem.W.codeIn K cd7 "ready_process" = true) (k7 : PySem.W.keepIn K (.ref f7) = true)
    (a8 : PySem.W.nsIn K mainGlobals "state_numbers" = some (some (.ref f8))) (l8 : K.lookup f8 = some ⟨oc8, od8, .func (PySem.W.fnOf "state_numbers" "state_numbers" (defArgs sNums) (defBody sNums) (defScope sNums) .none kV8 dc8 pm8 an8 cd8 ct8), sl8⟩) (c8 : PySem.W.codeIn K cd8 "state_numbers" = true) (k8 : PySem.W.keepIn K (.ref f8) = true)
    (a9 : PySem.W.nsIn K mainGlobals "place_of" = some (some (.ref f9))) (l9 : K.lookup f9 = some ⟨oc9, od9, .func (PySem.W.fnOf "place_of" "place_of" (defArgs sPlaceOf) (defBody sPlaceOf) (defScope sPlaceOf) .none kV9 dc9 pm9 an9 cd9 ct9), sl9⟩) (c9 : PySem.W.codeIn K cd9 "place_of" = true) (k9 : PySem.W.keepIn K (.ref f9) = true)
    (a10 : PySem.W.nsIn K mainGlobals "state_places" = some (some (.ref f10))) (l10 : K.lookup f10 = some ⟨oc10, od10, .func (PySem.W.fnOf "state_places" "state_places" (defArgs sPlaces) (defBody sPlaces) (defScope sPlaces) .none kV10 dc10 pm10 an10 cd10 ct10), sl10⟩) (c10 : PySem.W.codeIn K cd10 "state_places" = true) (k10 : PySem.W.keepIn K (.ref f10) = true)
    (a11 : PySem.W.nsIn K mainGlobals "sent_at" = some (some (.ref f11))) (l11 : K.lookup f11 = some ⟨oc11, od11, .func (PySem.W.fnOf "sent_at" "sent_at" (defArgs sSent) (defBody sSent) (defScope sSent) .none kV11 dc11 pm11 an11 cd11 ct11), sl11⟩) (c11 : PySem.W.codeIn K cd11 "sent_at" = true) (k11 : PySem.W.keepIn K (.ref f11) = true)
    (a12 : PySem.W.nsIn K mainGlobals "received_at" = some (some (.ref f12))) (l12 : K.lookup f12 = some ⟨oc12, od12, .func (PySem.W.fnOf "received_at" "received_at" (defArgs sRecd) (defBody sRecd) (defScope sRecd) .none kV12 dc12 pm12 an12 cd12 ct12), sl12⟩) (c12 : PySem.W.codeIn K cd12 "received_at" = true) (k12 : PySem.W.keepIn K (.ref f12) = true)
    (a13 : PySem.W.nsIn K mainGlobals "is_number_within" = some (some (.ref f13))) (l13 : K.lookup f13 = some ⟨oc13, od13, .func (PySem.W.fnOf "is_number_within" "is_number_within" (defArgs sNum) (defBody sNum) (defScope sNum) .none kV13 dc13 pm13 an13 cd13 ct13), sl13⟩) (c13 : PySem.W.codeIn K cd13 "is_number_within" = true) (k13 : PySem.W.keepIn K (.ref f13) = true)
    (a14 : PySem.W.nsIn K mainGlobals "is_number" = some (some (.ref f14))) (l14 : K.lookup f14 = some ⟨oc14, od14, .func (PySem.W.fnOf "is_number" "is_number" (defArgs sIsnum) (defBody sIsnum) (defScope sIsnum) .none kV14 dc14 pm14 an14 cd14 ct14), sl14⟩) (c14 : PySem.W.codeIn K cd14 "is_number" = true) (k14 : PySem.W.keepIn K (.ref f14) = true)
    (a15 : PySem.W.nsIn K mainGlobals "happened_at" = some (some (.ref f15))) (l15 : K.lookup f15 = some ⟨oc15, od15, .func (PySem.W.fnOf "happened_at" "happened_at" (defArgs sHap) (defBody sHap) (defScope sHap) .none kV15 dc15 pm15 an15 cd15 ct15), sl15⟩) (c15 : PySem.W.codeIn K cd15 "happened_at" = true) (k15 : PySem.W.keepIn K (.ref f15) = true)
    (a16 : PySem.W.nsIn K mainGlobals "law" = some (some (.ref f16))) (l16 : K.lookup f16 = some ⟨oc16, od16, .func (PySem.W.fnOf "law" "law" (defArgs sLaw) (defBody sLaw) (defScope sLaw) .none kV16 dc16 pm16 an16 cd16 ct16), sl16⟩) (c16 : PySem.W.codeIn K cd16 "law" = true) (k16 : PySem.W.keepIn K (.ref f16) = true)
    {tM0 : Tok} (m0 : PySem.W.nsIn K mainGlobals "MAX_MESSAGES" = some (some (.int 24 tM0)))
    (z0 : PySem.W.nsIn K mainGlobals "len" = some none) (z1 : PySem.W.nsIn K mainGlobals "list" = some none) (z2 : PySem.W.nsIn K mainGlobals "tuple" = some none) (z3 : PySem.W.nsIn K mainGlobals "range" = some none) (z4 : PySem.W.nsIn K mainGlobals "abs" = some none) (z5 : PySem.W.nsIn K mainGlobals "enumerate" = some none) (z6 : PySem.W.nsIn K mainGlobals "isinstance" = some none) (z7 : PySem.W.nsIn K mainGlobals "int" = some none) (z8 : PySem.W.nsIn K mainGlobals "bool" = some none) (z9 : PySem.W.nsIn K mainGlobals "sum" = some none) :
    ∃ fd : FuncData, (∀ (s : Shared) (v : Value), BindsTo s fd ⟨[v], []⟩ [("_law_script", v)]) ∧ ∀ base : Heap, K.In base → base.Ns mainGlobals mg → FnG l.prog w K mg base 6 fa fd ["_law_script"] (spLaw K) := by
  have e := hfa.symm.trans (PySem.W.mg_of X G a16)
  cases e
  have F0 := fun_mk (st := sState) l0 c0 k0
  have b0 := F0.binds (ps := ["_law_script"]) fun _ _ _ _ _ _ us hl => match us, hl with | [_], _ => rfl
  have F1 := fun_mk (st := sHist) l1 c1 k1
  have b1 := F1.binds (ps := ["_law_state_here", "_law_many", "_law_most"]) fun _ _ _ _ _ _ us hl => match us, hl with | [_, _, _], _ => rfl
  have F2 := fun_mk (st := sDraw) l2 c2 k2
  have b2 := F2.binds (ps := ["_law_state_here", "_law_below"]) fun _ _ _ _ _ _ us hl => match us, hl with | [_, _], _ => rfl
  have F3 := fun_mk (st := sMixed) l3 c3 k3
  have b3 := F3.binds (ps := ["_law_state_here", "_law_items"]) fun _ _ _ _ _ _ us hl => match us, hl with | [_, _], _ => rfl
  have F4 := fun_mk (st := sPick) l4 c4 k4
  have b4 := F4.binds (ps := ["_law_state_here", "_law_items"]) fun _ _ _ _ _ _ us hl => match us, hl with | [_, _], _ => rfl
  have F5 := fun_mk (st := sLB) l5 c5 k5
  have b5 := F5.binds (ps := ["_law_rows", "_law_process", "_law_index", "_law_number"]) fun _ _ _ _ _ _ us hl => match us, hl with | [_, _, _, _], _ => rfl
  have F6 := fun_mk (st := sOrder) l6 c6 k6
  have b6 := F6.binds (ps := ["history"]) fun _ _ _ _ _ _ us hl => match us, hl with | [_], _ => rfl
  have F7 := fun_mk (st := sReady) l7 c7 k7
  have b7 := F7.binds (ps := ["history", "places", "happened"]) fun _ _ _ _ _ _ us hl => match us, hl with | [_, _, _], _ => rfl
  have F8 := fun_mk (st := sNums) l8 c8 k8
  have b8 := F8.binds (ps := ["history"]) fun _ _ _ _ _ _ us hl => match us, hl with | [_], _ => rfl
  have F9 := fun_mk (st := sPlaceOf) l9 c9 k9
  have b9 := F9.binds (ps := ["history", "state"]) fun _ _ _ _ _ _ us hl => match us, hl with | [_, _], _ => rfl
  have F10 := fun_mk (st := sPlaces) l10 c10 k10
  have b10 := F10.binds (ps := ["row"]) fun _ _ _ _ _ _ us hl => match us, hl with | [_], _ => rfl
  have F11 := fun_mk (st := sSent) l11 c11 k11
  have b11 := F11.binds (ps := ["history", "message"]) fun _ _ _ _ _ _ us hl => match us, hl with | [_, _], _ => rfl
  have F12 := fun_mk (st := sRecd) l12 c12 k12
  have b12 := F12.binds (ps := ["history", "message"]) fun _ _ _ _ _ _ us hl => match us, hl with | [_, _], _ => rfl
  have F13 := fun_mk (st := sNum) l13 c13 k13
  have b13 := F13.binds (ps := ["value", "low", "high"]) fun _ _ _ _ _ _ us hl => match us, hl with | [_, _, _], _ => rfl
  have F14 := fun_mk (st := sIsnum) l14 c14 k14
  have b14 := F14.binds (ps := ["value"]) fun _ _ _ _ _ _ us hl => match us, hl with | [_], _ => rfl
  have F15 := fun_mk (st := sHap) l15 c15 k15
  have b15 := F15.binds (ps := ["history", "event"]) fun _ _ _ _ _ _ us hl => match us, hl with | [_, _], _ => rfl
  have F16 := fun_mk (st := sLaw) l16 c16 k16
  exact ⟨PySem.W.fnOf "law" "law" (defArgs sLaw) (defBody sLaw) (defScope sLaw) .none kV16 dc16 pm16 an16 cd16 ct16, fun s v => .of_eq rfl, fun base _ _ => FnG.ofOk (ok_law F16 F0 b0 (PySem.W.mg_of X G a0) F1 b1 (PySem.W.mg_of X G a1) F2 b2 (PySem.W.mg_of X G a2) F3 b3 (PySem.W.mg_of X G a3) F4 b4 (PySem.W.mg_of X G a4) F5 b5 (PySem.W.mg_of X G a5) F6 b6 (PySem.W.mg_of X G a6) F7 b7 (PySem.W.mg_of X G a7) F8 b8 (PySem.W.mg_of X G a8) F9 b9 (PySem.W.mg_of X G a9) F10 b10 (PySem.W.mg_of X G a10) F11 b11 (PySem.W.mg_of X G a11) F12 b12 (PySem.W.mg_of X G a12) F13 b13 (PySem.W.mg_of X G a13) F14 b14 (PySem.W.mg_of X G a14) F15 b15 (PySem.W.mg_of X G a15) ⟨_, PySem.W.mg_of X G m0⟩ (PySem.W.mg_none_of X G z0) (PySem.W.mg_none_of X G z1) (PySem.W.mg_none_of X G z2) (PySem.W.mg_none_of X G z3) (PySem.W.mg_none_of X G z4) (PySem.W.mg_none_of X G z5) (PySem.W.mg_none_of X G z6) (PySem.W.mg_none_of X G z7) (PySem.W.mg_none_of X G z8) (PySem.W.mg_none_of X G z9))⟩
end Sv

open PySem PySem.W PyProof.Rows in
set_option maxRecDepth 100000 in
set_option maxHeartbeats 0 in
theorem PySem.Challenge.cw_savelines_k07_whole_sendings_before_rece_holds : PySem.Challenge.rw_savelines_k07_whole_sendings_before_rece.Holds := by
  w_on; o_law; k_head; (case hw => w_witness2)
  k_fill
  refine Sv.walkG (l := PySem.Challenge.rw_savelines_k07_whole_sendings_before_rece) (n := 63) (k := 6) (x := "_law_script") (sp := Sv.spLaw) rfl (by decide) rfl ⟨rfl, by decide, by decide⟩ (fun w h Y => PySem.W.kIn_of Y) ?F (fun K H a ns hl _ hS => ⟨a, ns, rfl, hS, hl, fun _ => rfl⟩)
  case F =>
    intro w mg fa h KX G hmg
    refine' Sv.all_mk KX G hmg ?a0 ?l0 ?c0 ?k0 ?a1 ?l1 ?c1 ?k1 ?a2 ?l2 ?c2 ?k2 ?a3 ?l3 ?c3 ?k3 ?a4 ?l4 ?c4 ?k4 ?a5 ?l5 ?c5 ?k5 ?a6 ?l6 ?c6 ?k6 ?a7 ?l7 ?c7 ?k7 ?a8 ?l8 ?c8 ?k8 ?a9 ?l9 ?c9 ?k9 ?a10 ?l10 ?c10 ?k10 ?a11 ?l11 ?c11 ?k11 ?a12 ?l12 ?c12 ?k12 ?a13 ?l13 ?c13 ?k13 ?a14 ?l14 ?c14 ?k14 ?a15 ?l15 ?c15 ?k15 ?a16 ?l16 ?c16 ?k16 ?m0 ?z0 ?z1 ?z2 ?z3 ?z4 ?z5 ?z6 ?z7 ?z8 ?z9
    (case a0 => k_is)
    (case l0 => k_is)
    (case c0 => k_is)
    (case k0 => k_is)
    (case a1 => k_is)
    (case l1 => k_is)
    (case c1 => k_is)
    (case k1 => k_is)
    (case a2 => k_is)
    (case l2 => k_is)
    (case c2 => k_is)
    (case k2 => k_is)
    (case a3 => k_is)
    (case l3 => k_is)
    (case c3 => k_is)
    (case k3 => k_is)
    (case a4 => k_is)
    (case l4 => k_is)
    (case c4 => k_is)
    (case k4 => k_is)
    (case a5 => k_is)
    (case l5 => k_is)
    (case c5 => k_is)
    (case k5 => k_is)
    (case a6 => k_is)
    (case l6 => k_is)
    (case c6 => k_is)
    (case k6 => k_is)
    (case a7 => k_is)
    (case l7 => k_is)
    (case c7 => k_is)
    (case k7 => k_is)
    (case a8 => k_is)
    (case l8 => k_is)
    (case c8 => k_is)
    (case k8 => k_is)
    (case a9 => k_is)
    (case l9 => k_is)
    (case c9 => k_is)
    (case k9 => k_is)
    (case a10 => k_is)
    (case l10 => k_is)
    (case c10 => k_is)
    (case k10 => k_is)
    (case a11 => k_is)
    (case l11 => k_is)
    (case c11 => k_is)
    (case k11 => k_is)
    (case a12 => k_is)
    (case l12 => k_is)
    (case c12 => k_is)
    (case k12 => k_is)
    (case a13 => k_is)
    (case l13 => k_is)
    (case c13 => k_is)
    (case k13 => k_is)
    (case a14 => k_is)
    (case l14 => k_is)
    (case c14 => k_is)
    (case k14 => k_is)
    (case a15 => k_is)
    (case l15 => k_is)
    (case c15 => k_is)
    (case k15 => k_is)
    (case a16 => k_is)
    (case l16 => k_is)
    (case c16 => k_is)
    (case k16 => k_is)
    (case m0 => k_is)
    (case z0 => k_is)
    (case z1 => k_is)
    (case z2 => k_is)
    (case z3 => k_is)
    (case z4 => k_is)
    (case z5 => k_is)
    (case z6 => k_is)
    (case z7 => k_is)
    (case z8 => k_is)
    (case z9 => k_is)
