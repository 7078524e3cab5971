import PyProof.Rows.All
import Wide.All
import OpenK.AllK
import Wide.FinOn
import PyProof.EqAt
import PyProof.EqKinds
import PyProof.TupleCall
import HandS.ForMost
import HandS.Conv
import HandS.Style
import HandS.Deep
import KE.DataFind
import PyProof.ReprRoads
import KE.GoesEnum
import HandS.Star
import HandS.Iter
import HandS.IsInst
import HandS.Strs
import HandS.Zip
import HandS.Walk
import PyProof.ZipIter
import HandS.Zip0
import HandS.List
import PySem.Challenge.RW_savelines_k16_lower_and_upper_lines
set_option Elab.async false
set_option linter.all false
set_option maxRecDepth 100000
/-! repr where nothing of repr is under way: promises that know the guards; text of data; more of tuples. -/
namespace Sv
open PySem PySem.Spec PyProof.Rows L2

/-- a def's promise for calls made where no repr runs -/
structure FnG (P : Program) (w : World) (K : PySem.W.Frag) (mg : Str → Option Value) (base : Heap)
    (k : Nat) (f : Addr) (fd : FuncData) (ps : List Str) (sp : Sp) : Prop where
  len : ∀ vs H Q E, sp vs H Q E → vs.length = ps.length
  run : ∀ (A : Around), A.guards = some [] →
    ∀ (outer : List Env) (s : Shared) (H : Hp) (args : Args) (us : List Value) (vs : List V) (Q : VK) (E : XK),
    Room k A → Env0 P w K mg base A outer s H → BindsTo s fd args (ps.zip us) → Vals vs us → sp vs H Q E →
    codeAny (model P w) A (.call (.ref f) args) (CR CX0 outer P w H s Q E) s

section
variable {P : Program} {w : World} {K : PySem.W.Frag} {mg : Str → Option Value} {base : Heap}

theorem FnG.ofOk {k : Nat} {f : Addr} {fd : FuncData} {ps : List Str} {sp : Sp}
    (F : FnOk P w K mg base CX0 k f fd ps sp) : FnG P w K mg base k f fd ps sp :=
  ⟨F.len, fun A _ outer s H args us vs Q E => F.run A outer s H args us vs Q E⟩

/-- the def's body, where no repr runs -/
theorem okG {x qual : Str} {st : Stmt} {f : Addr} {fd : FuncData} {N ps : List Str} {k : Nat} {sp : Sp}
    (F : Fun K x qual st f fd) (S : FnScope N ps (defScope st)) (len : ∀ vs H Q E, sp vs H Q E → vs.length = ps.length)
    (hbody : ∀ (cdv : Value) (A : Around) (outer : List Env) (s : Shared) (H : Hp) (vs : List V) (Q : VK) (E : XK),
      A.guards = some [] → Room k (A.deeper (envOfC qual (defScope st) s.heap.objs.size f cdv)) → sp vs H Q E →
      ∃ t, PSs (cxOf CX0 P w K mg base N qual (defScope st) f cdv A outer s H E).nox (defBody st) t ∧
        t { nx := fun _ H' => Q .non H', rt := Q } (start N vs) H) :
    FnG P w K mg base (k + 1) f fd ps sp := by
  obtain ⟨oc, od, kV, doc, pm, an, cdv, ct, osl, rfl, lk, hcd⟩ := F.ex
  refine ⟨len, fun A hg outer s H args us vs Q E hr e0 hb r hsp => ?_⟩
  have hl := len vs H Q E hsp
  have KX : K.In s.heap := e0.mod.kin.keeps fun b o e => And.left (e0.bs b o e)
  have lim := e0.mod.nolimit.keeps fun b o e => And.left (e0.bs b o e)
  have hkind : ∀ y ∈ ps.zip us, (defScope st).names.lookup y.1 = some .local ∨
      ((defScope st).names.lookup y.1 = some .cell ∧
        ((cellsFrom (s.heap.objs.size + 1) (defScope st).names []).lookup y.1).isSome = true) := by
    rintro ⟨n, v⟩ hy
    cases S.par n (List.of_mem_zip hy).1 with
    | inl q => exact Or.inl q
    | inr q => exact Or.inr ⟨q, PySem.W.cellsFrom_some _ _ _ (Or.inl q)⟩
  refine codeAny_call_function hr.depth (KX _ _ lk) rfl S.co S.gen rfl (PySem.W.codeRec_of KX hcd) (hb _ _ _ _ ?_)
  refine wpAny_newFunctionEnv_cells S.kind hkind fun env he s1 X1 => ?_
  subst he
  refine ⟨lim.keeps X1.toInCall.keep, codeAny_func ?_⟩
  obtain ⟨t, ht0, hq⟩ := hbody cdv A outer s H vs Q E hg (hr.deeper _) hsp
  have ht := ht0.nox
  have I0 := inv_start (CX := CX0) (E := E) S hr.hd e0 hl r X1
  refine wpAny_mono (ht.run [] s1 (start N vs) H _ I0 hq) (fun fl s' hs => ?_) (fun e s' hs => hs)
  cases fl with
  | ret u =>
    obtain ⟨v, σ', H', J, rv, q⟩ := hs
    exact ⟨v, H', J.os, J.bare, J.base, J.hok, rv, q⟩
  | next =>
    obtain ⟨σ', H', J, q⟩ := hs
    exact ⟨V.non, H', J.os, J.bare, J.base, J.hok, rfl, q⟩
  | brk =>
    obtain ⟨σ', H', J, q⟩ := hs
    exact q.elim
  | cont =>
    obtain ⟨σ', H', J, q⟩ := hs
    exact q.elim
end

section
variable {X : Cx} {k : Nat} {f : Addr} {fd : FuncData} {ps : List Str} {sp : Sp} {dvs : List V} {ds : List Value}
  {E : XK} {x : Str} {p pos : Pos} {e : Expr} {es : List Expr} {t : TA}

/-- f(e, ..) of such a def -/
theorem pe_callG (F : FnG X.prog X.w X.K X.mg X.base k f fd ps sp) (hgd : X.A.guards = some []) (hr : Room k X.A) (hg : Gl X x)
    (hm : X.mg x = some (.ref f)) (hk : PySem.W.keepIn X.K (.ref f) = true) (hb : Binds X.K fd ps ds) (hd : Vals dvs ds)
    (hx : Passes CX0 X E) (ha : PA X (e :: es) t) (hdb : (x == ("__debug__" : Str)) = false := by decide)
    (he : starEach (e :: es) X.env = (false, eval e X.env) :: starEach es X.env := by rfl)
    (hpl : (backTo pos (starEach es X.env)).any (·.1) = false := by rfl) :
    PE X (.Call (.Name x p) (e :: es) [] pos) (tCall sp dvs E t) := by
  refine ⟨fun pins s σ H Q I h => wpAny_Call_Name_kw (ld_glob I hg hm ?_ hdb)⟩
  refine PySem.W.callWith_K (h₀ := X.base) I.ok.mod.kin hk
    (thn (ha.run pos pins s σ H _ I h) fun us s1 ⟨vs, H1, I1, r, q⟩ => ⟨I1.kIn, ?_⟩) he hpl
  have r2 : Vals (vs ++ dvs) (us ++ ds) := r.append hd
  have hl : (us ++ ds).length = ps.length := r2.length.symm.trans (F.len _ _ _ _ q)
  refine wpAny_call (codeAny_mono (F.run X.A hgd X.stack s1 H1 ⟨us, []⟩ (us ++ ds) (vs ++ dvs) Q E hr I1.env0
    (hb s1 us I1.kIn hl) r2 q) fun res s' hq => ?_)
  cases res with
  | error e => exact hx pins σ H1 s1 e s' I1 hq
  | ok fl =>
    cases fl with
    | ret u => exact I1.after hq
    | next => exact hq.elim
    | brk => exact hq.elim
    | cont => exact hq.elim
end

/-! ### the text of data -/
section
variable {X : Cx}
def Shown (K : PySem.W.Frag) (H : Hp) (v : V) (d : PyData) : Prop :=
  Dp K H v d ∧ isDisplay d = true ∧ d.showable = true ∧ d.hasDict = false ∧ d.depth ≤ 60 ∧ d.shown.length ≤ sizeLine
/-- repr(x) of lists and tuples -/
theorem call_repr (hgd : X.A.guards = some []) (hu : X.A.units + 64 < cLine) : CallR X (.builtin "repr")
    (fun xs H Q => ∃ v d, xs = [v] ∧ Shown X.K H v d ∧ Q (.str d.shown) H) := by
  intro pins s σ H xs us Q I r h
  obtain ⟨v, d, rfl, ⟨hd, h1, h2, h3, h4, h5⟩, q⟩ := h
  obtain ⟨u, rfl, ru⟩ := vals1 r
  obtain ⟨as, R⟩ := Dp.reads I d v u hd ru
  obtain ⟨a, rfl⟩ := isRef_of_reads R h1
  refine repr_of_reads' R h2 (PyData.noDict_hsm h3) hgd (by omega) (fun _ _ e => e) (fun h' tk1 tk2 hk => ?_) h5
  exact ⟨.str _, H, I.kept (t' := tk2) hk, ⟨tk1, rfl⟩, q⟩
end

/-! ### tuples -/
section
variable {X : Cx}
/-- t + u, the left one empty: the right one itself -/
theorem op_catE : OpR X (binaryOp .Add) (fun x y H Q => ∃ a b ys, x = .ref a ∧ y = .ref b ∧ SqT X.K H a [] ∧ SqT X.K H b ys ∧ ys ≠ [] ∧ Q (.ref b) H) := by
  intro pins s σ H x y v u Q I rx ry h
  obtain ⟨a, b, ys, rfl, rfl, ha, hb, hy, q⟩ := h
  cases rx
  cases ry
  obtain ⟨its, r1, p1, _⟩ := I.tuple ha
  obtain ⟨its2, r2, p2, _⟩ := I.tuple hb
  have e1 : its = [] := r1.nil_iff.mpr rfl
  subst e1
  obtain ⟨⟨c1, d1, t1, l1⟩, o1, h1, n1, g1⟩ := id p1
  obtain ⟨⟨c2, d2, t2, l2⟩, o2, h2, n2, g2⟩ := id p2
  simp only at h1 g1 h2 g2
  subst h1 g1 h2 g2
  exact concat_meets ⟨_, o1, rfl⟩ ⟨_, o2, rfl⟩ noFill_tuple_add seq_tuple_add PySem.F.slot_tuple_add PySem.F.entry_tuple_add
    (PySem.F.args_tuple_add_2 _ _) (tuple_addW0 a b _ _ n1 n2 d1 d2 l1 l2 (by rfl)) ⟨o1, o2, ⟨.ref b, H, I, rfl, q⟩⟩
end

/-! ### tuples that are known to bear no dict (their methods may be called) -/
def TupN (H : Hp) (a : Addr) (xs : List V) : Prop := ∃ o : Obj, H a = some (.frz o (.tup xs)) ∧ o.dict = none
theorem TupN.sqT {K : PySem.W.Frag} {H : Hp} {a : Addr} {xs : List V} (h : TupN H a xs) : SqT K H a xs := by
  obtain ⟨o, h, _⟩ := h
  exact .inl (.inr ⟨o, h⟩)
theorem TupN.same {H H' : Hp} {a : Addr} {xs : List V} (h : TupN H a xs) (e : ∀ b o, H b = some o → H' b = some o) : TupN H' a xs := by
  obtain ⟨o, h, d⟩ := h
  exact ⟨o, e _ _ h, d⟩
theorem TupN.new {H : Hp} {p : Addr} {o : Obj} {xs : List V} (d : o.dict = none) : TupN (upd H p (.frz o (.tup xs))) p xs := ⟨o, upd_same, d⟩
section
variable {X : Cx} {es : List Expr} {t : TA} {pos : Pos}
def tTupF (t : TA) : TE := fun σ H Q => t σ H fun xs H1 => xs.length ≤ sizeLine ∧ ∀ (p : Addr) (o : Obj), H1 p = none → o.dict = none → Q (.ref p) (upd H1 p (.frz o (.tup xs)))
theorem pe_tupF {x1} (h : PA X es t) : PE X (.Tuple es x1 pos) (tTupF t) := by
  refine ⟨fun pins s σ H Q I hq => ?_⟩
  refine wpAny_Tuple_spliced (thn (h.run pos pins s σ H _ I hq) fun us s1 ⟨xs, H1, I1, r, z, q⟩ => ⟨r.length ▸ z, ?_⟩)
  have hf : H1 s1.heap.objs.size = none := I1.hok.fresh (Nat.le_refl _)
  have hg := Heap.get?_push_size s1.heap (o := { cls := .type "tuple", data := .seq us.toArray }) rfl
  refine ⟨.ref s1.heap.objs.size, _, I1.laid (t' := s1.toks) (o := .frz { cls := .type "tuple", data := .seq us.toArray } (.tup xs)) (fun b u e => Heap.get?_push_of_some _ e) (Nat.le_refl _) ?_, rfl, q _ _ hf rfl⟩
  exact ⟨hg, z, us, r, ⟨_, hg, rfl, _, rfl⟩⟩
/-- t + u, none of both empty -/
theorem op_catF : OpR X (binaryOp .Add) (fun x y H Q => ∃ a b xs ys, x = .ref a ∧ y = .ref b ∧ SqT X.K H a xs ∧ SqT X.K H b ys ∧ xs ≠ [] ∧ ys ≠ [] ∧ xs.length + ys.length ≤ sizeLine ∧
    ∀ (p : Addr) (o : Obj), H p = none → o.dict = none → Q (.ref p) (upd H p (.frz o (.tup (xs ++ ys))))) := by
  intro pins s σ H x y v u Q I rx ry h
  obtain ⟨a, b, xs, ys, rfl, rfl, ha, hb, hx, hy, hz, q⟩ := h
  cases rx
  cases ry
  obtain ⟨its, r1, p1, _⟩ := I.tuple ha
  obtain ⟨its2, r2, p2, _⟩ := I.tuple hb
  have hl : its.length + its2.length ≤ sizeLine := by rw [← r1.length, ← r2.length]; exact hz
  refine HT.cat_tup p1 p2 (fun z => hx (r1.nil_iff.mp z)) (fun z => absurd (r2.nil_iff.mp z) hy) (fun _ => ?_) hl
  have hg := Heap.get?_push_size s.heap (o := { cls := .type "tuple", data := .seq (its ++ its2).toArray }) rfl
  refine ⟨.ref s.heap.objs.size, _, I.laid (t' := s.toks) (o := .frz { cls := .type "tuple", data := .seq (its ++ its2).toArray } (.tup (xs ++ ys))) (fun b ob q => Heap.get?_push_of_some _ q) (Nat.le_refl _) ?_, rfl, q _ _ (I.hok.fresh (Nat.le_refl _)) rfl⟩
  exact ⟨hg, by rw [List.length_append]; exact hz, _, r1.append r2, ⟨_, hg, rfl, _, rfl⟩⟩
/-- a method of such a tuple, called with arguments -/
def tTM (r : V → List V → Hp → VK → Prop) (to : TE) (t : TA) : TE := fun σ H Q => to σ H fun x H1 => (∃ p xs, x = .ref p ∧ TupN H1 p xs) ∧ t σ H1 fun vs H2 => r x vs H2 Q
theorem pe_tm {name : Str} {id : String} {o e : Expr} {to : TE} {r : V → List V → Hp → VK → Prop} {apos cpos : Pos} (slot : Slot "tuple" name id) (hty : typeOf (.builtin id) = pure (.type "method_descriptor")) (hm : MtR X id r) (ho : PE X o to) (ha : PA X (e :: es) t)
    (hbase : attributeBase o name X.env (eval o X.env) = eval o X.env := by rfl)
    (hfew : ((backTo cpos (starEach (e :: es) X.env)).all (fun x => !x.1) && (backToKw cpos (keywordEach [] X.env)).all (fun x => x.1.isSome)
      && decide ((e :: es).length + ([] : List Keyword).length + (if ([] : List Keyword).isEmpty then 0 else 1) < 30)) = true := by rfl)
    (hline : (apos.endLine == cpos.line) = true := by rfl) (hs : starEach (e :: es) X.env = (false, eval e X.env) :: starEach es X.env := by rfl) (hplain : (backTo cpos (starEach es X.env)).any (·.1) = false := by rfl) :
    PE X (.Call (.Attribute o name apos) (e :: es) [] cpos) (tTM r to t) := by
  refine ⟨fun pins s σ H Q I h => ?_⟩
  refine wpAny_Call_method_late hbase hfew hline rfl (thn (ho.run pins s σ H _ I h) fun v s1 ⟨x, H1, I1, r1, ty, q1⟩ => ?_)
  obtain ⟨p, xs, rfl, ob, hob, hdi⟩ := ty
  cases r1
  obtain ⟨g1, hz, its, rv, ot, g2, hc, _⟩ := I1.hok p _ hob
  obtain rfl : ot = ob := Option.some.inj (g2.symm.trans g1)
  refine ⟨"tuple", id, PySem.F.plainAttrs_tuple, slot, hty, ⟨ot, g1, hc⟩, fun a e => ?_, ?_⟩
  · cases e
    exact ⟨ot, g1, hdi⟩
  have hA := ha.run cpos pins s1 σ H1 _ I1 q1
  rw [hs] at hA ⊢
  refine Calls.callWith_builtin (by show (false || (backTo cpos (starEach es X.env)).any (·.1)) = false; rw [hplain] <;> rfl) (Calls.evalArgs_plain ?_)
  exact thn hA fun us s2 ⟨vs, H2, I2, r2, q2⟩ => hm pins s2 σ H2 (.ref p) vs (.ref p) us Q I2 rfl r2 q2
end

/-! ### list.remove of data -/
section
variable {X : Cx}
def rRemD (K : PySem.W.Frag) : V → List V → Hp → VK → Prop := fun x args H Q => ∃ (l : Addr) (y : V) (d : PyData) (xs : List V) (ds : List PyData) (j : Nat),
  x = .ref l ∧ args = [y] ∧ H l = some (.lst xs) ∧ DpAll K H xs ds ∧ Dp K H y d ∧ PyData.plainAll ds = true ∧ d.plain = true ∧ d.depth ≤ 60 ∧
  SeqAt.dataPlace ds d = some j ∧ Q .non (upd H l (.lst (xs.eraseIdx j)))
theorem mt_removeD (hu : X.A.units + 64 < cLine) : MtR X "list.remove" (rRemD X.K) := by
  intro pins s σ H x args v us Q I rx ra h
  obtain ⟨l, y, d, xs, ds, j, rfl, rfl, hH, hds, hd, p1, p2, p3, hj, q⟩ := h
  cases rx
  obtain ⟨u, rfl, ru⟩ := vals1 ra
  obtain ⟨z, its, n, r, hl, e⟩ := I.lstM hH
  obtain ⟨as, R1⟩ := Dp.readsAll I ds xs its hds r
  obtain ⟨bs, R2⟩ := Dp.reads I d y u hd ru
  refine SeqAt.remove_list_data (vs := its.toArray) ⟨_, e, rfl, n, rfl⟩ R1 R2 p1 p2 (by omega) hj (by rw [List.size_toArray, ← hl]; exact z) ?_
  refine ⟨.non, _, I.lset (its' := its.eraseIdx j) (t' := s.toks) hH e ?_ (r.eraseIdx j) ?_, rfl, q⟩
  · show its.toArray.eraseIdxIfInBounds j = (its.eraseIdx j).toArray
    rw [List.eraseIdxIfInBounds_toArray]
  · have := List.length_eraseIdx_le xs j
    omega
end

/-! ### data of ints -/
def iD (ns : List Int) : List PyData := ns.map PyData.int
section
variable {K : PySem.W.Frag} {H : Hp}
theorem dp_ints : ∀ ns : List Int, DpAll K H (ns.map V.int) (iD ns)
  | [] => .nil
  | n :: r => .cons (.int n) (dp_ints r)
theorem dp_lst {a : Addr} {ns : List Int} (h : SqL K H a (ns.map V.int)) : Dp K H (.ref a) (.list (iD ns)) := .lst h (dp_ints ns)
theorem dp_tup {a : Addr} {ns : List Int} (h : SqT K H a (ns.map V.int)) : Dp K H (.ref a) (.tuple (iD ns)) := .tup h (dp_ints ns)
theorem dp_nil {a : Addr} (h : SqL K H a []) : Dp K H (.ref a) (.list []) := .lst h .nil
end
theorem iD_lay : ∀ ns : List Int, PyData.canLayAll0 (iD ns) = true
  | [] => by simp [iD, PyData.canLayAll0]
  | n :: r => by
    have h := iD_lay r
    simp only [iD, List.map_cons, PyData.canLayAll0, PyData.canLay0] at h ⊢
    rw [h]
    rfl
theorem iD_depth : ∀ ns : List Int, PyData.depthAll (iD ns) = 0
  | [] => by simp [iD, PyData.depthAll]
  | n :: r => by
    have h := iD_depth r
    simp only [iD, List.map_cons, PyData.depthAll, PyData.depth] at h ⊢
    rw [h]
    rfl
theorem shaped_lst (ns : List Int) : SeqAt.shaped (.list (iD ns)) = true := by
  have h1 := iD_lay ns
  have h2 := iD_depth ns
  show (PyData.canLay0 (.list (iD ns)) && decide (PyData.depth (.list (iD ns)) ≤ 64)) = true
  simp only [PyData.canLay0, PyData.depth, h1, h2, Bool.true_and]
  decide
theorem shaped_tup (ns : List Int) : SeqAt.shaped (.tuple (iD ns)) = true := by
  have h1 := iD_lay ns
  have h2 := iD_depth ns
  show (PyData.canLay0 (.tuple (iD ns)) && decide (PyData.depth (.tuple (iD ns)) ≤ 64)) = true
  simp only [PyData.canLay0, PyData.depth, h1, h2, Bool.true_and]
  decide
theorem shaped_nil : SeqAt.shaped (.list []) = true := by decide +kernel
theorem eqv_nil (ds : List PyData) : PyData.eqv (.list ds) (.list []) = ds.isEmpty := by
  cases ds <;> simp [PyData.eqv, PyData.eqvAll]
/-! ### what a def leaves that only adds objects and turns two -/
def Kp (a b : Addr) (H H' : Hp) : Prop := ∀ c o, c ≠ a → c ≠ b → H c = some o → H' c = some o
theorem Kp.refl {a b : Addr} (H : Hp) : Kp a b H H := fun _ _ _ _ h => h
theorem Kp.trans {a b : Addr} {H H1 H2 : Hp} (x : Kp a b H H1) (y : Kp a b H1 H2) : Kp a b H H2 := fun c o h1 h2 h => y c o h1 h2 (x c o h1 h2 h)
theorem Kp.of {a b : Addr} {H H' : Hp} (h : Same H H') : Kp a b H H' := fun c o _ _ e => h c o e
theorem Kp.new {a b : Addr} {H : Hp} {p : Addr} {o : HO} (h : H p = none) : Kp a b H (upd H p o) := fun c u _ _ e => by
  rw [upd_ne (ne_of_none e h)]
  exact e
theorem Kp.put {a b : Addr} {H : Hp} {p : Addr} {o : HO} (h : p = a ∨ p = b) : Kp a b H (upd H p o) := fun c u h1 h2 e => by
  rw [upd_ne (by rcases h with rfl | rfl <;> assumption)]
  exact e
theorem Same.new {H : Hp} {p : Addr} {o : HO} (h : H p = none) : Same H (upd H p o) := fun c u e => by
  rw [upd_ne (ne_of_none e h)]
  exact e
end Sv

/-! enumerate over a tuple; count in a tuple of ints. -/
namespace PySem
open Sem (wp)
set_option maxHeartbeats 1000000 in
theorem sv_enum_new {v : Value} {o : Obj} {H : Heap → Prop} (B : Begins v o H) :
    Meets (Builtin.«enumerate.__new__» ⟨[.type "enumerate", v], []⟩)
      (fun _ R s => H s.heap ∧ R (.ok (.ret (.ref (s.heap.push o).objs.size)))
        { s with heap := Heap.push (Heap.push s.heap o) { cls := .type "enumerate", data := .fields #[.none, .bool false, .ref s.heap.objs.size, rawInt 0, .none, .none] } }) := by
  refine .of_wp fun prog w A R s h => ?_
  obtain ⟨hp, g, d, tk, os⟩ := s
  obtain ⟨h1, h⟩ := h
  have hsub := sub_enumerate
  have q1 : ∀ {A' : Around} {E' : Value → Shared → Prop} {Q' : Value → Shared → Prop},
      Q' (.ref hp.objs.size) ⟨hp.push o, g, d, tk, os⟩ → wpAny (model prog w) A' (pyIter v) Q' E' ⟨hp, g, d, tk, os⟩ :=
    fun q => B.iter prog w _ _ ⟨hp, g, d, tk, os⟩ _ h1 q
  wp_walk using q1
  refine wpAny_stack_any fun st => wpAny_pure ?_
  split
  · rename_i c _ _ _ _ _
    cases hcc : (c == Value.type "enumerate") <;> (wp_walk using q1; exact ⟨_, rfl, h⟩)
  · wp_walk using q1
    exact ⟨_, rfl, h⟩
section
variable {prog : Program} {w : World} {A : Around} {E : Value → Shared → Prop} {s : Shared}
theorem sv_enum_call {v : Value} {o : Obj} {H : Heap → Prop} {Q : Value → Shared → Prop} (B : Begins v o H) (h1 : H s.heap)
    (h : ∀ h', IsEnum h' (s.heap.objs.size + 1) s.heap.objs.size 0 .none → h'.get? s.heap.objs.size = some o →
      (∀ b u, s.heap.get? b = some u → h'.get? b = some u) → Q (.ref (s.heap.objs.size + 1)) { s with heap := h' }) :
    wpAny (model prog w) A (call (.type "enumerate") [v]) Q E s := by
  refine callType_new F.called_enumerate (by decide) (F.typeCall_enumerate_1 _) (F.newCall_enumerate_1 _)
    (fun obj => F.args_object_init_2 obj _) F.entry_enumerate_new (sv_enum_new B) ⟨h1, ?_⟩
  have hz : (s.heap.push o).objs.size = s.heap.objs.size + 1 := Heap.size_push ..
  show _ ∧ _
  rw [hz]
  have he := Heap.get?_push_size (s.heap.push o)
    (o := { cls := .type "enumerate", data := .fields #[.none, .bool false, .ref s.heap.objs.size, rawInt 0, .none, .none] }) rfl
  rw [hz] at he
  exact ⟨⟨_, he, rfl⟩, h _ he (Heap.get?_push_of_some _ (Heap.get?_push_size _ B.free))
    fun b u x => Heap.get?_push_of_some _ (Heap.get?_push_of_some _ x)⟩
end
end PySem
namespace Sv
open PySem PySem.Spec PyProof.Rows L2
/-- a tuple's items, each in a new pair with its number -/
def Itte (K : PySem.W.Frag) (a : Addr) (xs : List V) : It where
  go := fun i H => SqT K H a xs ∧ i < xs.length
  yld := fun i H v H' => ∃ T x, v = .ref T ∧ H T = none ∧ H' = upd H T (.tup [.int (i : Nat), x]) ∧ xs[i]? = some x
  stop := fun i H => SqT K H a xs ∧ i = xs.length
theorem turn_etup {P : Program} {w : World} {K : PySem.W.Frag} {elts : List Expr} {kk : Nat} {tpos : Pos} (a e it : Addr) (xs : List V) :
    Turn P w K (.Tuple elts kk tpos) (Itte K a xs) [e, it] e
      (fun i h => (∃ old, IsEnum h e it ((i : Nat) : Int) old) ∧ h.IsTupleIter it a i ∧ e ≠ it ∧ a ≠ it ∧ a ≠ e) where
  mem := by simp
  obj := fun i h st b hb => by
    obtain ⟨⟨old, he⟩, ⟨o, ho, hc, hd⟩, _⟩ := st
    rcases (show b = e ∨ b = it by simpa using hb) with rfl | rfl
    · exact ⟨_, he, fun v q => nomatch q⟩
    · exact ⟨o, ho, fun v q => by rw [hd] at q; cases q⟩
  keep := fun i h h' st k => by
    obtain ⟨⟨old, he⟩, hi, hr⟩ := st
    exact ⟨⟨old, k e (by simp) _ he⟩, hi.at fun o q => k it (by simp) o q, hr⟩
  item := by
    intro X hP hw hK hc i pins s σ H E I hf st hg
    subst hP hw hK
    obtain ⟨⟨old, he⟩, hit, hne, hai, hae⟩ := st
    obtain ⟨hq, hi⟩ := hg
    obtain ⟨its, rv, p, hz⟩ := I.tuple hq
    have hlen := rv.length
    have hel : e < s.heap.objs.size := Heap.lt_size he
    have hil : it < s.heap.objs.size := by
      obtain ⟨_, q, _⟩ := hit
      exact Heap.lt_size q
    have D : Draws X.prog X.w X.A.in1 it [it, a] its.toArray.size (fun i v => its.toArray[i]? = some v)
        (fun i h => h.IsTupleIter it a i ∧ h.IsTuple a its.toArray) := Draws.tuple (A := X.A.in1) (show X.A.in1.handled = none from I.ok.hd hc) it a hai its.toArray
    refine wpAny_pyNext_enum_itemD D he ⟨hit, p⟩ (by rw [List.size_toArray]; omega) hne (by simp [hne, Ne.symm hae]) fun u h' tk hPu ho hst hT hsz hk => ?_
    refine ⟨_, rfl, wpAny_letOwnedTupleGo_enum (s := { s with heap := h', toks := tk + 1 }) ho fun h'' he' sb => ?_⟩
    obtain ⟨x, hx⟩ : ∃ x, xs[i]? = some x := ⟨_, List.getElem?_eq_getElem hi⟩
    obtain ⟨u', hu', ru⟩ := rv.get hx
    have hPu' : its[i]? = some u := by simpa using hPu
    obtain rfl : u' = u := Option.some.inj (hu'.symm.trans hPu')
    have hT2 : h''.get? s.heap.objs.size = some { cls := .type "tuple", data := .seq #[.int i tk, u'] } := (sb.2 _ (Nat.ne_of_gt hel)).trans hT
    have new : ObjOk X.prog X.w (upd H s.heap.objs.size (.tup [.int (i : Nat), x])) h'' s.heap.objs.size (.tup [.int (i : Nat), x]) := by
      refine ⟨?_, [.int i tk, u'], .cons ⟨_, rfl⟩ (.cons ru .nil), ⟨_, hT2, rfl, _, rfl⟩⟩
      show 2 ≤ sizeLine
      decide
    have I1 : Inv X pins σ (upd H s.heap.objs.size (.tup [.int (i : Nat), x])) { s with heap := h'', toks := tk + 1 } := by
      refine I.turnedNew (ch := [e, it]) (fun b ob hb q => ?_) hf (Nat.le_refl _) new
      have nb : b ≠ e ∧ b ≠ it := by simpa using hb
      exact (sb.2 b nb.1).trans (hk b ob nb.1 nb.2 q)
    refine ⟨.ref s.heap.objs.size, _, I1, rfl, ⟨_, x, rfl, I.hok.fresh (Nat.le_refl _), rfl, hx⟩,
      ⟨⟨u', ?_⟩, hst.1.at fun o q => (sb.2 it (Ne.symm hne)).trans q, hne, hai, hae⟩, fun b hb => ?_⟩
    · have e1 : ((i + 1 : Nat) : Int) = (i : Int) + 1 := by omega
      rw [e1]
      exact he'
    · have hb' : b < s.heap.objs.size := by
        rcases (show b = e ∨ b = it by simpa using hb) with rfl | rfl <;> assumption
      rw [upd_ne (Nat.ne_of_lt hb')]
      exact (hf b hb).1
  done := by
    intro X hP hw hK hc i pins s σ H E I hf st hg
    subst hP hw hK
    obtain ⟨⟨old, he⟩, hit, hne, hai, hae⟩ := st
    obtain ⟨hq, hi⟩ := hg
    obtain ⟨its, rv, p, hz⟩ := I.tuple hq
    have hlen := rv.length
    obtain ⟨f0, f1, f2, f3, f4, f5⟩ := hf it (by simp)
    have D : Draws X.prog X.w X.A.in1 it [it, a] its.toArray.size (fun i v => its.toArray[i]? = some v)
        (fun i h => h.IsTupleIter it a i ∧ h.IsTuple a its.toArray) := Draws.tuple (A := X.A.in1) (show X.A.in1.handled = none from I.ok.hd hc) it a hai its.toArray
    have hi2 : i = its.toArray.size := by
      rw [List.size_toArray]
      omega
    have hit2 : s.heap.IsTupleIter it a its.toArray.size := hi2 ▸ hit
    exact wpAny_pyNext_enum_endD D he ⟨hit2, p⟩ fun h' eb => ⟨rfl, I.turned (t' := s.toks) (fun b o hb q => eb b o hb q) f0 f1 f3 f4 f5⟩
  self := fun A i s Q E st h => by
    obtain ⟨⟨_, he⟩, _⟩ := st
    exact wpAny_pyIter_enum he h
def iEnumT (K : PySem.W.Frag) (ta : TA) : TI := fun σ H R => ta σ H fun vs H1 => ∃ a xs, vs = [.ref a] ∧ SqT K H1 a xs ∧ R (Itte K a xs) H1
/-- for i, x in enumerate(t), t a tuple -/
theorem pi_enumT {X : Cx} {e : Expr} {ta : TA} {p pos tpos : Pos} {elts : List Expr} {kk : Nat} (hg : Gl X "enumerate") (hm : X.mg "enumerate" = none) (ha : PA X [e] ta)
    (hs : starEach [e] X.env = [(false, eval e X.env)] := by rfl) : PI X (.Tuple elts kk tpos) (.Call (.Name "enumerate" p) [e] [] pos) (iEnumT X.K ta) := by
  refine ⟨fun pins s σ H R I h => ?_⟩
  refine Call_ (ld_blt I hg hm boot_enumerate (PyProof.Rows.callWith_type1 (thn (ha.run pos pins s σ H _ I h) fun us s1 ⟨vs, H1, I1, r1, q1⟩ => ?_) hs rfl))
  obtain ⟨a, xs, rfl, hq, q⟩ := q1
  obtain ⟨u, rfl, ru⟩ := vals1 r1
  cases ru
  obtain ⟨its, rv, p', hz⟩ := I1.tuple hq
  have hal : a < s1.heap.objs.size := by
    obtain ⟨o, ho, _⟩ := id p'
    exact Heap.lt_size ho
  refine sv_enum_call (begins_tuple a its.toArray) p' fun h' he hit hk => wpAny_pyIter_enum he ?_
  have I2 : Inv X pins σ H1 { s1 with heap := h' } := I1.kept (t' := s1.toks) hk
  refine ⟨s1.heap.objs.size + 1, [s1.heap.objs.size + 1, s1.heap.objs.size], _, _, H1, rfl, I2, turn_etup a (s1.heap.objs.size + 1) s1.heap.objs.size xs,
    ⟨⟨.none, he⟩, ⟨_, hit, rfl, rfl⟩, Nat.succ_ne_self _, Nat.ne_of_lt hal, Nat.ne_of_lt (Nat.lt_succ_of_lt hal)⟩, fun b hb => ?_, q⟩
  have hle : s1.heap.objs.size ≤ b := by
    rcases (show b = s1.heap.objs.size + 1 ∨ b = s1.heap.objs.size by simpa using hb) with rfl | rfl
    · exact Nat.le_succ _
    · exact Nat.le_refl _
  exact I1.fpOk hle (I1.hok.fresh hle)
/-- the comprehension over it -/
theorem lc_etup {K : PySem.W.Frag} {a : Addr} {xs : List V} {g : TG} {tt : TT} {te : TE} {vs : List Nat} {σ : L2.St} {H1 : Hp} {D : Addr} {Qd : Hp → Prop} (Pv : Nat → Hp → Prop) (h0 : Pv 0 (upd H1 D (.lst [])))
    (hl : ∀ i H, i ≤ xs.length → Pv i H → SqT K H a xs)
    (hs : ∀ i x T H, xs[i]? = some x → Pv i H → H T = none → g (.ref T) (wipe σ vs) (upd H T (.tup [.int (i : Nat), x])) fun σ2 H2 => wipe σ2 vs = wipe σ vs ∧ tt σ2 H2 fun b H3 =>
      if b = true then te σ2 H3 fun y H4 => ∃ acc, H4 D = some (.lst acc) ∧ acc.length < sizeLine ∧ Pv (i + 1) (upd H4 D (.lst (acc ++ [y]))) else Pv (i + 1) H3) (hd : ∀ H, Pv xs.length H → Qd H) :
    ∃ W : Nat → Nat → Hp → Prop, (∃ m, W 0 m (upd H1 D (.lst []))) ∧ ∀ i m H, W i m H →
      ((Itte K a xs).stop i H ∧ Qd H) ∨ ((Itte K a xs).go i H ∧ ∃ Nx : Hp → Prop, (∀ H', Nx H' → ∃ m', m' < m ∧ W (i + 1) m' H') ∧ ∀ x H', (Itte K a xs).yld i H x H' → g x (wipe σ vs) H' fun σ2 H2 => wipe σ2 vs = wipe σ vs ∧ tt σ2 H2 fun b H3 =>
        if b = true then te σ2 H3 fun y H4 => ∃ acc, H4 D = some (.lst acc) ∧ acc.length < sizeLine ∧ Nx (upd H4 D (.lst (acc ++ [y]))) else Nx H3) := by
  refine ⟨fun i m H => m = xs.length - i ∧ i ≤ xs.length ∧ Pv i H, ⟨xs.length, by simp, Nat.zero_le _, h0⟩, ?_⟩
  rintro i m H ⟨rfl, hi, p⟩
  have q := hl i H hi p
  by_cases hlt : i < xs.length
  · refine .inr ⟨⟨q, hlt⟩, Pv (i + 1), fun H' p' => ⟨xs.length - (i + 1), by omega, rfl, hlt, p'⟩, fun x H' y => ?_⟩
    obtain ⟨T, z, rfl, nT, rfl, hz⟩ := y
    exact hs i z T H hz p nT
  · have e : i = xs.length := by omega
    subst e
    exact .inl ⟨⟨q, rfl⟩, hd H p⟩
theorem for_etup {K : PySem.W.Frag} {a : Addr} {xs : List V} {g : TG} {tb : TS} {D : Ends} {σ : L2.St} {H : Hp} (Pv : Nat → L2.St → Hp → Prop) (h0 : Pv 0 σ H) (hl : ∀ i σ H, i ≤ xs.length → Pv i σ H → SqT K H a xs)
    (hs : ∀ i x T σ H, xs[i]? = some x → Pv i σ H → H T = none → g (.ref T) σ (upd H T (.tup [.int (i : Nat), x])) fun σ2 H2 => tb { D with nx := Pv (i + 1), ct := Pv (i + 1), bk := D.nx } σ2 H2) (hd : ∀ σ H, Pv xs.length σ H → D.nx σ H) :
    ∃ W : Nat → Nat → L2.St → Hp → Prop, (∃ m, W 0 m σ H) ∧ ∀ i m σ H, W i m σ H →
      ((Itte K a xs).stop i H ∧ D.nx σ H) ∨ ((Itte K a xs).go i H ∧ ∃ N : L2.St → Hp → Prop, (∀ σ' H', N σ' H' → ∃ m', m' < m ∧ W (i + 1) m' σ' H') ∧ ∀ x H', (Itte K a xs).yld i H x H' → g x σ H' fun σ2 H2 => tb { D with nx := N, ct := N, bk := D.nx } σ2 H2) := by
  refine ⟨fun i m σ H => m = xs.length - i ∧ i ≤ xs.length ∧ Pv i σ H, ⟨xs.length, by simp, Nat.zero_le _, h0⟩, ?_⟩
  rintro i m σ H ⟨rfl, hi, p⟩
  have q := hl i σ H hi p
  by_cases hlt : i < xs.length
  · refine .inr ⟨⟨q, hlt⟩, Pv (i + 1), fun σ' H' p' => ⟨xs.length - (i + 1), by omega, rfl, hlt, p'⟩, fun x H' y => ?_⟩
    obtain ⟨T, z, rfl, nT, rfl, hz⟩ := y
    exact hs i z T σ H hz p nT
  · have e : i = xs.length := by omega
    subst e
    exact .inl ⟨⟨q, rfl⟩, hd σ H p⟩
def rLenS (K : PySem.W.Frag) : List V → Hp → VK → Prop := fun xs H Q => ∃ p ys, xs = [.ref p] ∧ (SqL K H p ys ∨ SqT K H p ys) ∧ Q (.int ys.length) H
theorem call_len_s {X : Cx} : CallR X (.builtin "len") (rLenS X.K) := call_len_seq
/-- a comprehension's block that reads no name from around it -/
theorem blkOk_nf {N : List Str} {sc scope : Scope} {own : List (Str × Nat)} (h : blkC N { kind := .function, names := [], isGenerator := false, isCoroutine := false } scope own = true) (hf : (scope.names.all fun y => decide (y.2 ≠ .free)) = true) : BlkOk N sc scope own := by
  have b := blkOk_by h
  exact ⟨b.kind, b.uniq, b.ix, fun y hy e => absurd e (of_decide_eq_true (List.all_eq_true.mp hf y hy)), b.own⟩
section
variable {X : Cx}
def rTcount (K : PySem.W.Frag) : V → List V → Hp → VK → Prop := fun x args H Q => ∃ (p : Addr) (ns : List Int) (k : Int), x = .ref p ∧ args = [.int k] ∧ SqT K H p (ns.map V.int) ∧ Q (.int (ns.count k : Nat)) H
/-- t.count(k), t a tuple of ints -/
theorem mt_tcount (hu : X.A.units + 64 < cLine) : MtR X "tuple.count" (rTcount X.K) := by
  intro pins s σ H x args v us Q I rx ra h
  obtain ⟨p, ns, k, rfl, rfl, hs, q⟩ := h
  cases rx
  obtain ⟨u, rfl, ru⟩ := vals1 ra
  obtain ⟨t, rfl⟩ := ru
  obtain ⟨its, rv, p1, hz⟩ := I.tuple hs
  obtain ⟨as, R1⟩ := Dp.readsAll I (iD ns) (ns.map V.int) its (dp_ints ns) rv
  have hpl : ∀ ns : List Int, PyData.plainAll (iD ns) = true := by
    intro ns
    induction ns with
    | nil => rfl
    | cons n r ih => exact ih
  have hcnt : ((iD ns).countP fun y => PyData.eqv y (.int k)) = ns.count k := by
    clear R1 rv hs hz q
    induction ns with
    | nil => rfl
    | cons n r ih =>
      have e : PyData.eqv (.int n) (.int k) = (n == k) := by simp only [PyData.eqv]
      simp only [iD, List.map_cons, List.countP_cons, List.count_cons] at ih ⊢
      rw [ih, e]
  refine SeqAt.count_tuple_data (vs := its.toArray) p1 R1 (Reads.int k t) (hpl ns) rfl ?_ ?_
  · have : min (PyData.depthAll (iD ns)) (PyData.int k).depth ≤ 0 := Nat.min_le_right _ _
    omega
  · rw [hcnt]
    exact ⟨.int (ns.count k : Nat), H, I.tok _, ⟨_, rfl⟩, q⟩
end
end Sv

/-! more of tuples of ints: index, slices; kinds of values. -/
namespace Sv
open PySem PySem.Spec PyProof.Rows L2
theorem idx_lt : ∀ {ns : List Int} {k : Int} {m : Nat}, m < ns.idxOf k → ns[m]? ≠ some k
  | [], k, m, h => by simp at h
  | n :: r, k, m, h => by
    rw [List.idxOf_cons] at h
    by_cases e : n = k
    · subst e
      simp at h
    · have e1 : (n == k) = false := beq_eq_false_iff_ne.mpr e
      rw [e1] at h
      cases m with
      | zero => exact fun z => e (Option.some.inj z)
      | succ m => exact fun z => idx_lt (ns := r) (m := m) (by simpa using h) z
theorem flat_ints (ns : List Int) : (ns.map V.int).all flatV = true := by
  rw [List.all_map]
  exact List.all_eq_true.mpr fun _ _ => rfl
theorem in_ints {ns : List Int} {k : Int} : inV (.int k) (ns.map V.int) = decide (k ∈ ns) := by
  unfold inV
  induction ns with
  | nil => rfl
  | cons n r ih =>
    rw [List.map_cons, List.any_cons, ih]
    show ((n == k) || decide (k ∈ r)) = decide (k ∈ n :: r)
    by_cases h : n = k
    · subst h
      simp
    · have h1 : (n == k) = false := beq_eq_false_iff_ne.mpr h
      rw [h1, Bool.false_or]
      simp [Ne.symm h]
section
variable {X : Cx}
def rTindex (K : PySem.W.Frag) : V → List V → Hp → VK → Prop := fun x args H Q => ∃ (p : Addr) (ns : List Int) (k : Int), x = .ref p ∧ args = [.int k] ∧ SqT K H p (ns.map V.int) ∧ k ∈ ns ∧ Q (.int (ns.idxOf k : Nat)) H
/-- t.index(k), k in t -/
theorem mt_tindex : MtR X "tuple.index" (rTindex X.K) := by
  intro pins s σ H x args v us Q I rx ra h
  obtain ⟨p, ns, k, rfl, rfl, hs, hk, q⟩ := h
  cases rx
  obtain ⟨u, rfl, ru⟩ := vals1 ra
  obtain ⟨t, rfl⟩ := ru
  obtain ⟨its, rv, ⟨⟨cls, dd, dt, sl⟩, ho, hc, n, hd⟩, hz⟩ := I.tuple hs
  simp only at hc hd
  subst hc hd
  have hlen : its.length = ns.length := by rw [← rv.length, List.length_map]
  have hj : ns.idxOf k < ns.length := List.idxOf_lt_length_iff.mpr hk
  have at' : ∀ (m : Nat) (hm : m < its.toArray.size), ∃ t' : Tok, ∃ hm2 : m < ns.length, its.toArray[m] = Value.int ns[m] t' := by
    intro m hm
    have hm2 : m < ns.length := by
      rw [List.size_toArray] at hm
      omega
    obtain ⟨w, hw, t', hw'⟩ := rv.get (i := m) (x := .int ns[m]) (at_map' (List.getElem?_eq_getElem hm2))
    refine ⟨t', hm2, ?_⟩
    have e := (List.getElem?_eq_some_iff.mp hw).2
    rw [← hw', ← e]
    simp
  refine call_meets PySem.F.slot_tuple_index ⟨_, ho, rfl⟩ PySem.F.entry_tuple_index (PySem.F.args_tuple_index_2 _ _)
    (TI.tuple_indexAt p its.toArray n dd sl (.int k t) (eqU (.int k)) (ns.idxOf k) (by rw [List.size_toArray]; omega) ?_ ?_)
    ⟨ho, fun w hw => mem_eqAt (x := .int k) ⟨t, rfl⟩ rfl rv (flat_ints ns) w (by simpa using hw), ⟨.int (ns.idxOf k : Nat), H, I.tok _, ⟨_, rfl⟩, q⟩⟩
  · obtain ⟨t', h2, h3⟩ := at' (ns.idxOf k) (by rw [List.size_toArray]; omega)
    rw [h3]
    show (ns[ns.idxOf k] == k) = true
    rw [beq_iff_eq]
    exact List.getElem_idxOf h2
  · intro m hm hmj
    obtain ⟨t', h2, h3⟩ := at' m hm
    rw [h3]
    show (ns[m] == k) = false
    refine beq_eq_false_iff_ne.mpr fun z => idx_lt hmj ?_
    rw [List.getElem?_eq_getElem h2, z]
where
  at_map' {ns : List Int} {m : Nat} {x : Int} (h : ns[m]? = some x) : (ns.map V.int)[m]? = some (.int x) := by
    rw [List.getElem?_map, h]
    rfl
/-- t[lo:hi], not the whole, known to bear no dict -/
def rSlTF (K : PySem.W.Frag) : V → Option Int → Option Int → Hp → VK → Prop := fun x lo hi H Q => ∃ a xs, x = .ref a ∧ SqT K H a xs ∧
  ¬ (HT.sIx xs.length 0 lo = 0 ∧ HT.sIx xs.length xs.length hi = xs.length) ∧ ∀ (p : Addr) (o : Obj), H p = none → o.dict = none → Q (.ref p) (upd H p (.frz o (.tup (cutV xs lo hi))))
theorem sl_tupF : SlR X (rSlTF X.K) := by
  intro pins s σ H x v vl vu lo hi sl Q I rx hs pl pu h
  obtain ⟨a, xs, rfl, hx, hw, q⟩ := h
  cases rx
  obtain ⟨its, r, ht, hz⟩ := I.tuple hx
  have hlen : its.toArray.size = xs.length := by
    rw [List.size_toArray]
    exact r.length.symm
  refine ⟨"tuple", _, PyProof.Rows.slot_tuple_getitem.lookup, ht.typeIs, ?_⟩
  have hnot : ¬ (HT.sIx its.toArray.size 0 lo = 0 ∧ HT.sIx its.toArray.size its.toArray.size hi = its.toArray.size) := by rwa [hlen]
  refine HT.getItem_tuple_cut ht hs pl pu hnot ?_ (hlen ▸ hz)
  rw [hlen]
  have hg := Heap.get?_push_size s.heap (o := { cls := .type "tuple", data := .seq ((its.toArray.toList.drop (HT.sIx xs.length 0 lo)).take (HT.sIx xs.length xs.length hi - HT.sIx xs.length 0 lo)).toArray }) rfl
  refine ⟨.ref s.heap.objs.size, _, I.laid (t' := s.toks) (o := .frz _ (.tup (cutV xs lo hi))) (fun b ob q => Heap.get?_push_of_some _ q) (Nat.le_refl _) ⟨hg, ?_⟩, rfl, q _ _ (I.hok.fresh (Nat.le_refl _)) rfl⟩
  exact ⟨Nat.le_trans (cutV_length xs lo hi) hz, _, (r.drop (HT.sIx xs.length 0 lo)).take (HT.sIx xs.length xs.length hi - HT.sIx xs.length 0 lo), ⟨_, hg, rfl, _, rfl⟩⟩
end
theorem cut_to {xs : List V} {i : Nat} (h : i ≤ xs.length) : cutV xs none (some (i : Int)) = xs.take i := by
  unfold cutV
  rw [HT.sIx_none, HT.sIx_nat, Nat.min_eq_left h]
  rfl
theorem cut_from {xs : List V} {i : Nat} (h : i ≤ xs.length) : cutV xs (some (i : Int)) none = xs.drop i := by
  unfold cutV
  rw [HT.sIx_none, HT.sIx_nat, Nat.min_eq_left h]
  exact List.take_of_length_le (by rw [List.length_drop]; omega)
/-! ### kinds of values -/
inductive Kn (K : PySem.W.Frag) (H : Hp) : V → Prop
  | non : Kn K H .non
  | bl (b : Bool) : Kn K H (.bl b)
  | int (i : Int) : Kn K H (.int i)
  | str (x : Str) : Kn K H (.str x)
  | lst {a : Addr} {xs : List V} (e : H a = some (.lst xs)) : Kn K H (.ref a)
  | tup {a : Addr} {xs : List V} (e : H a = some (.tup xs)) : Kn K H (.ref a)
  | ftup {a : Addr} {o : Obj} {xs : List V} (e : H a = some (.frz o (.tup xs))) : Kn K H (.ref a)
  | dK {a : Addr} {kvs : List (Key × V)} (e : H a = some (.dK kvs)) : Kn K H (.ref a)
theorem Kn.same {K : PySem.W.Frag} {H H' : Hp} {v : V} (h : Kn K H v) (e : ∀ b o, H b = some o → H' b = some o) : Kn K H' v := by
  cases h with
  | non => exact .non
  | bl b => exact .bl b
  | int i => exact .int i
  | str x => exact .str x
  | lst h => exact .lst (e _ _ h)
  | tup h => exact .tup (e _ _ h)
  | ftup h => exact .ftup (e _ _ h)
  | dK h => exact .dK (e _ _ h)
def isI : V → Bool
  | .int _ => true
  | .bl _ => true
  | _ => false
def isB : V → Bool
  | .bl _ => true
  | _ => false
theorem Kn.isInt {K : PySem.W.Frag} {H : Hp} {v : V} (h : Kn K H v) : ∃ t, TyX K H v t ∧ PySem.W.kitOne K t (.type "int") = some (isI v) := by
  cases h with
  | non => exact ⟨_, .base .non, kit_ty (by decide +kernel)⟩
  | bl b => exact ⟨_, .base (.bl b), kit_ty (by show kitB "bool" "int" = some true; decide +kernel)⟩
  | int i => exact ⟨_, .base (.int i), kit_ty (by show kitB "int" "int" = some true; decide +kernel)⟩
  | str x => exact ⟨_, .base (.str x), kit_ty (by show kitB "str" "int" = some false; decide +kernel)⟩
  | lst h => exact ⟨_, .base (.lst h), kit_ty (by show kitB "list" "int" = some false; decide +kernel)⟩
  | tup h => exact ⟨_, .base (.tup h), kit_ty (by show kitB "tuple" "int" = some false; decide +kernel)⟩
  | ftup h => exact ⟨_, .fTuple h, kit_ty (by show kitB "tuple" "int" = some false; decide +kernel)⟩
  | dK h => exact ⟨_, .base (.dK h), kit_ty (by show kitB "dict" "int" = some false; decide +kernel)⟩
theorem Kn.isBool {K : PySem.W.Frag} {H : Hp} {v : V} (h : Kn K H v) : ∃ t, TyX K H v t ∧ PySem.W.kitOne K t (.type "bool") = some (isB v) := by
  cases h with
  | non => exact ⟨_, .base .non, kit_ty (by decide +kernel)⟩
  | bl b => exact ⟨_, .base (.bl b), kit_ty (by show kitB "bool" "bool" = some true; decide +kernel)⟩
  | int i => exact ⟨_, .base (.int i), kit_ty (by show kitB "int" "bool" = some false; decide +kernel)⟩
  | str x => exact ⟨_, .base (.str x), kit_ty (by show kitB "str" "bool" = some false; decide +kernel)⟩
  | lst h => exact ⟨_, .base (.lst h), kit_ty (by show kitB "list" "bool" = some false; decide +kernel)⟩
  | tup h => exact ⟨_, .base (.tup h), kit_ty (by show kitB "tuple" "bool" = some false; decide +kernel)⟩
  | ftup h => exact ⟨_, .fTuple h, kit_ty (by show kitB "tuple" "bool" = some false; decide +kernel)⟩
  | dK h => exact ⟨_, .base (.dK h), kit_ty (by show kitB "dict" "bool" = some false; decide +kernel)⟩
/-- a number from lo to hi -/
def numIn (v : V) (lo hi : Int) : Bool := match v with
  | .int i => decide (lo ≤ i) && decide (i ≤ hi)
  | _ => false
def spNum (K : PySem.W.Frag) : Sp := fun vs H Q _ => ∃ (v : V) (lo hi : Int), vs = [v, .int lo, .int hi] ∧ Kn K H v ∧ Q (.bl (numIn v lo hi)) H
end Sv

/-! tuple(a list): a tuple that is known to bear no dict. -/
namespace Sv
open PySem PySem.Spec PyProof.Rows L2
section
variable {X : Cx}
def rTupF (K : PySem.W.Frag) : List V → Hp → VK → Prop := fun xs H Q => ∃ p ys, xs = [.ref p] ∧ SqL K H p ys ∧ ∀ (l : Addr) (o : Obj), H l = none → o.dict = none → Q (.ref l) (upd H l (.frz o (.tup ys)))
theorem call_tupleF : CallR X (.type "tuple") (rTupF X.K) := by
  intro pins s σ H xs us Q I r h
  obtain ⟨p, ys, rfl, hq, q⟩ := h
  obtain ⟨u, rfl, rx⟩ := vals1 r
  cases rx
  obtain ⟨its, r', pl, hz⟩ := I.list hq
  have hlen := r'.length
  refine call_tuple_list pl.isList (fun h' kp => ?_) (by simp only [List.size_toArray] <;> omega)
  have I1 : Inv X pins σ H { s with heap := h' } := I.kept (t' := s.toks) kp
  have hg := Heap.get?_push_size h' (o := { cls := .type "tuple", data := .seq its.toArray }) rfl
  refine ⟨.ref h'.objs.size, _, I1.laid (t' := s.toks) (o := .frz { cls := .type "tuple", data := .seq its.toArray } (.tup ys)) (fun b o e => Heap.get?_push_of_some _ e) (Nat.le_refl _) ?_, rfl, q _ _ (I1.hok.fresh (Nat.le_refl _)) rfl⟩
  exact ⟨hg, hz, its, r', ⟨_, hg, rfl, _, rfl⟩⟩
end
theorem nodup_at {α : Type} {x : α} : ∀ {l : List α} {i j : Nat}, l.Nodup → l[i]? = some x → l[j]? = some x → i = j
  | [], i, j, _, h, _ => by simp at h
  | a :: r, 0, 0, _, _, _ => rfl
  | a :: r, 0, j + 1, h, h1, h2 => by
    have e : a = x := Option.some.inj h1
    subst e
    exact absurd (List.mem_of_getElem? (show r[j]? = some a from h2)) (List.nodup_cons.mp h).1
  | a :: r, i + 1, 0, h, h1, h2 => by
    have e : a = x := Option.some.inj h2
    subst e
    exact absurd (List.mem_of_getElem? (show r[i]? = some a from h1)) (List.nodup_cons.mp h).1
  | a :: r, i + 1, j + 1, h, h1, h2 => by rw [nodup_at (List.nodup_cons.mp h).2 (show r[i]? = some x from h1) (show r[j]? = some x from h2)]
end Sv
namespace Sv
open PySem PySem.Spec PyProof.Rows L2
theorem walk_zipT {K : PySem.W.Frag} {a b : Addr} {xs ys : List V} {n : Nat} (hn : n = min xs.length ys.length) : Walk (RZ.ItzT K a b) n (fun H => SqT K H a xs ∧ SqT K H b ys) (YPair (fun i => xs[i]?) (fun i => ys[i]?)) := by
  subst hn
  refine ⟨fun i _ hi q => ?_, fun _ q => ⟨xs, ys, q.1, q.2, by omega⟩, fun i H v H' _ q y => ?_⟩
  · have h1 : i < xs.length := by omega
    have h2 : i < ys.length := by omega
    exact ⟨xs, ys, xs[i], ys[i], q.1, q.2, by simp [h1], by simp [h2]⟩
  · obtain ⟨T, x, z, h1, h2, h3, h4, h5⟩ := y
    exact ⟨T, x, z, h1, h2, h3, h4 xs q.1, h5 ys q.2⟩
end Sv

set_option maxHeartbeats 1000000
/-! zip over any number of tuples, one name as its target -/
namespace Sv
open PySem
theorem forIn_to {M : Model} {A : Around} {E : Value → Shared → Prop} {α β : Type} {f : α → β → Sem (ForInStep β)} (I : List α → β → Shared → Prop) {Q : β → Shared → Prop} (hs : ∀ x l b s, I (x :: l) b s → wpAny M A (f x b) (fun r s' => ∃ b', r = .yield b' ∧ I l b' s') E s)
    (hd : ∀ b s, I [] b s → Q b s) : ∀ (l : List α) (b : β) (s : Shared), I l b s → wpAny M A (forIn l b f) Q E s
  | [], b, s, h0 => by
    rw [List.forIn_nil]
    exact wpAny_pure (hd b s h0)
  | x :: l, b, s, h0 => by
    rw [List.forIn_cons]
    refine wpAny_bind (wpAny_mono (hs x l b s h0) (fun r s' h => ?_) fun _ _ z => z)
    obtain ⟨b', rfl, h1⟩ := h
    exact forIn_to I hs hd l b' s' h1
theorem wpAny_alive {M : Model} {A : Around} {E : Value → Shared → Prop} {s : Shared} {a : Addr} {Q : Option Obj → Shared → Prop} (h : Q (s.heap.get? a) s) : wpAny M A (loadIfAlive a) Q E s := fun _ _ _ => h
abbrev ZpO (f0 f1 : Value) (TI TO : Addr) : Obj := { cls := .type "zip", data := .fields #[f0, f1, .bool false, .ref TI, .ref TO] }
abbrev IsZp (h : Heap) (z TI TO : Addr) (f0 f1 : Value) : Prop := h.get? z = some (ZpO f0 f1 TI TO)
abbrev TpO (vs : Array Value) : Obj := { cls := .type "tuple", data := .seq vs }
abbrev IsTp (h : Heap) (T : Addr) (vs : Array Value) : Prop := h.get? T = some (TpO vs)
/-- the zip object z with its iterators' tuple TI, its own tuple TO, at turn i -/
structure ZAt (h : Heap) (z TI TO : Addr) (its ls : List Addr) (i : Nat) : Prop where
  zp : ∃ f0 f1, IsZp h z TI TO f0 f1 ∧ (f0 = .none ∨ ∃ a : Nat, f0 = rawInt a)
  ti : IsTp h TI (its.map Value.ref).toArray
  to : ∃ vs, IsTp h TO vs ∧ vs.size = its.length
  it : ∀ (j : Nat) (a l : Addr), its[j]? = some a → ls[j]? = some l → h.IsTupleIter a l i
structure ZDist (z TI TO : Addr) (its ls : List Addr) : Prop where
  nd : (z :: TI :: TO :: its).Nodup
  away : ∀ l ∈ ls, l ∉ z :: TI :: TO :: its
  len : its.length = ls.length
  ne : its ≠ []
  sm : its.length ≤ 1000
section
variable {prog : Program} {w : World} {A : Around} {E : Value → Shared → Prop} {s : Shared}
theorem sb_refl {a : Addr} {h : Heap} : Heap.SameBut a h h := ⟨rfl, fun _ _ => rfl⟩
theorem zfree_ok {z TI TO : Addr} {f0 f1 : Value} {Q : Bool → Shared → Prop} (hz : IsZp s.heap z TI TO f0 f1) (hf : f0 = .none ∨ ∃ a : Nat, f0 = rawInt a)
    (h : ∀ b h' f1', IsZp h' z TI TO f0 f1' → Heap.SameBut z s.heap h' → Q b { s with heap := h' }) : wpAny (model prog w) A (Builtin.SmallTypes.ownedTupleIsFree (.ref z)) Q E s := by
  unfold Builtin.SmallTypes.ownedTupleIsFree
  refine wpAny_bind (wpAny_field hz rfl (x := f0) rfl ?_)
  rcases hf with rfl | ⟨a, rfl⟩
  · exact wpAny_pure (h true s.heap f1 hz sb_refl)
  · show wpAny _ _ (loadIfAlive _ >>= _) _ _ _
    refine wpAny_bind (wpAny_alive ?_)
    split
    · exact wpAny_pure (h true s.heap f1 hz sb_refl)
    · refine wpAny_bind (wpAny_field hz rfl (x := f1) rfl ?_)
      split
      · refine wpAny_bind (wpAny_setField_rec hz (by simp) fun h₁ hz₁ hs₁ => ?_)
        exact wpAny_pure (h false h₁ _ hz₁ hs₁)
      · exact wpAny_pure (h false s.heap f1 hz sb_refl)
end
end Sv

set_option maxHeartbeats 1000000
namespace Sv
open PySem
section
variable {prog : Program} {w : World} {A : Around} {E : Value → Shared → Prop} {s : Shared}
theorem ZDist.itz {z TI TO : Addr} {its ls : List Addr} (D : ZDist z TI TO its ls) {j : Nat} {a : Addr} (h : its[j]? = some a) : a ≠ z ∧ a ≠ TI ∧ a ≠ TO := by
  have m := List.mem_of_getElem? h
  have n := D.nd
  simp only [List.nodup_cons, List.mem_cons, not_or] at n
  exact ⟨fun e => n.1.2.2 (e ▸ m), fun e => n.2.1.2 (e ▸ m), fun e => n.2.2.1 (e ▸ m)⟩
theorem ZDist.zT {z TI TO : Addr} {its ls : List Addr} (D : ZDist z TI TO its ls) : TI ≠ z ∧ TO ≠ z ∧ TI ≠ TO := by
  have n := D.nd
  simp only [List.nodup_cons, List.mem_cons, not_or] at n
  exact ⟨fun e => n.1.1 e.symm, fun e => n.1.2.1 e.symm, n.2.1.1⟩
theorem ZDist.inj {z TI TO : Addr} {its ls : List Addr} (D : ZDist z TI TO its ls) {i j : Nat} {a : Addr} (h : its[i]? = some a) (g : its[j]? = some a) : i = j := by
  have n := D.nd
  simp only [List.nodup_cons] at n
  have n3 := n.2.2.2
  have hi := (List.getElem?_eq_some_iff.mp h).1
  exact (List.getElem?_inj hi n3).mp (h.trans g.symm)
/-- the loop that fills z's own tuple, k done -/
structure ZFill (h h' : Heap) (z TI TO : Addr) (its ls : List Addr) (us : List Value) (i k : Nat) : Prop where
  zp : ∃ f1, IsZp h' z TI TO .ellipsis f1
  ti : IsTp h' TI (its.map Value.ref).toArray
  to : ∃ vs, IsTp h' TO vs ∧ vs.size = its.length ∧ ∀ j, j < k → vs[j]? = us[j]?
  it : ∀ (j : Nat) (a l : Addr), its[j]? = some a → ls[j]? = some l → h'.IsTupleIter a l (if j < k then i + 1 else i)
  sz : h'.objs.size = h.objs.size
  kp : ∀ c o, c ∉ z :: TO :: its → h.get? c = some o → h'.get? c = some o
/-- the loop that draws the items beside it, k done -/
structure ZDraw (h h' : Heap) (z TI TO : Addr) (its ls : List Addr) (us : List Value) (i k : Nat) : Prop where
  zp : ∃ f0 f1, IsZp h' z TI TO f0 f1 ∧ (f0 = .none ∨ ∃ a : Nat, f0 = rawInt a)
  ti : IsTp h' TI (its.map Value.ref).toArray
  to : ∃ vs, IsTp h' TO vs ∧ vs.size = its.length
  it : ∀ (j : Nat) (a l : Addr), its[j]? = some a → ls[j]? = some l → h'.IsTupleIter a l (if j < k then i + 1 else i)
  sz : h'.objs.size = h.objs.size
  kp : ∀ c o, c ∉ z :: TO :: its → h.get? c = some o → h'.get? c = some o
theorem drop_cons {α : Type} {l : List α} {k : Nat} {x : α} {r : List α} (h : x :: r = l.drop k) : l[k]? = some x ∧ r = l.drop (k + 1) := by
  have hk : k < l.length := by
    rcases Nat.lt_or_ge k l.length with h1 | h1
    · exact h1
    · rw [List.drop_eq_nil_of_le h1] at h
      cases h
  rw [List.drop_eq_getElem_cons hk] at h
  cases h
  exact ⟨List.getElem?_eq_getElem hk, rfl⟩
theorem zx_at {its : List Addr} {k k' : Nat} {x : Value} (h : (its.map Value.ref).toArray.toList.zipIdx[k]? = some (x, k')) : ∃ a, its[k']? = some a ∧ x = .ref a ∧ k = k' := by
  rw [List.getElem?_zipIdx] at h
  simp only [List.toList_toArray, List.getElem?_map, Nat.zero_add, Option.map_map, Option.map_eq_some_iff, Function.comp, Prod.mk.injEq] at h
  obtain ⟨a, h1, h2, h3⟩ := h
  subst h3
  exact ⟨a, h1, h2.symm, rfl⟩
theorem zpn_item {z TI TO : Addr} {its ls : List Addr} {i : Nat} {us : List Value} {Q : Value → Shared → Prop} (D : ZDist z TI TO its ls) (st : ZAt s.heap z TI TO its ls i)
    (hu : us.length = its.length) (hx : ∀ (j : Nat) (l : Addr) (u : Value), ls[j]? = some l → us[j]? = some u → ∃ xs, s.heap.IsTuple l xs ∧ xs[i]? = some u)
    (hQ : ∀ h', ZAt h' z TI TO its ls (i + 1) → IsTp h' s.heap.objs.size us.toArray → (∀ c o, c ∉ z :: TO :: its → s.heap.get? c = some o → h'.get? c = some o) → Q (.ref s.heap.objs.size) { s with heap := h' }) :
    wpAny (model prog w) A (Builtin.«zip.__next__» ⟨[.ref z], []⟩) (fun fin s' => ∃ v, fin = .done (.ret v) ∧ Q v s') E s := by
  obtain ⟨⟨f0, f1, hz0, hf⟩, hTI, ⟨vs0, hTO, hvs⟩, hit⟩ := st
  obtain ⟨tz1, tz2, tz3⟩ := D.zT
  have hfree : ∀ c o, s.heap.get? c = some o → c ≠ s.heap.objs.size := fun c o e => Nat.ne_of_lt (Heap.lt_size e)
  show wpAny _ _ (field (.ref z) 2 >>= _) _ _ _
  refine wpAny_bind (wpAny_field hz0 rfl (x := .bool false) rfl ?_)
  show wpAny _ _ (field (.ref z) 3 >>= _) _ _ _
  refine wpAny_bind (wpAny_field hz0 rfl (x := .ref TI) rfl ?_)
  refine wpAny_bind (wpAny_seqItems hTI rfl ?_)
  obtain ⟨i0, r0, hi0⟩ : ∃ i0 r0, its = i0 :: r0 := by
    cases its with
    | nil => exact absurd rfl D.ne
    | cons a r => exact ⟨a, r, rfl⟩
  dsimp only
  rw [if_neg (show ¬ ((its.map Value.ref).toArray.isEmpty = true) by rw [hi0]; simp)]
  refine wpAny_bind (zfree_ok hz0 hf fun b h0 f1' hz1 hs0 => ?_)
  have hTI1 : IsTp h0 TI (its.map Value.ref).toArray := hs0.extBut _ _ tz1 hTI
  have hTO1 : IsTp h0 TO vs0 := hs0.extBut _ _ tz2 hTO
  have hit1 : ∀ (j : Nat) (a l : Addr), its[j]? = some a → ls[j]? = some l → h0.IsTupleIter a l i := fun j a l e1 e2 => (hit j a l e1 e2).extBut hs0.extBut (D.itz e1).1
  have kp0 : ∀ c o, c ∉ z :: TO :: its → s.heap.get? c = some o → h0.get? c = some o := fun c o hc e => hs0.extBut _ _ (fun q => hc (by simp [q])) e
  have hx0 : ∀ (h' : Heap), (∀ c o, c ∉ z :: TO :: its → s.heap.get? c = some o → h'.get? c = some o) → ∀ (j : Nat) (l : Addr) (u : Value), ls[j]? = some l → us[j]? = some u → ∃ xs, h'.IsTuple l xs ∧ xs[i]? = some u := fun h' kp j l u e1 e2 => by
    obtain ⟨xs, ⟨o, ho, r⟩, hi⟩ := hx j l u e1 e2
    have hl := D.away l (List.mem_of_getElem? e1)
    exact ⟨xs, ⟨o, kp _ _ (fun q => hl (by rcases List.mem_cons.mp q with q | q; · simp [q]
                                           rcases List.mem_cons.mp q with q | q; · simp [q]
                                           · simp [q])) ho, r⟩, hi⟩
  have tis : ∀ c, c = TI → c ∉ z :: TO :: its := fun c e q => by
    subst e
    rcases List.mem_cons.mp q with q | q
    · exact tz1 q
    rcases List.mem_cons.mp q with q | q
    · exact tz3 q
    · have n := D.nd
      simp only [List.nodup_cons, List.mem_cons, not_or] at n
      exact n.2.1.2 q
  cases b with
  | true =>
    simp only [if_true]
    refine wpAny_bind (wpAny_rule ?_)
    refine wpAny_bind (wpAny_field hz1 rfl (x := .ref TO) rfl ?_)
    refine wpAny_bind (wpAny_setField_rec hz1 (by simp) fun h₁ hz₁ hs₁ => ?_)
    replace hz₁ : IsZp h₁ z TI TO .ellipsis f1' := hz₁
    have F0 : ZFill s.heap h₁ z TI TO its ls us i 0 := {
      zp := ⟨f1', hz₁⟩
      ti := hs₁.extBut _ _ tz1 hTI1
      to := ⟨vs0, hs₁.extBut _ _ tz2 hTO1, hvs, fun j hj => absurd hj (Nat.not_lt_zero _)⟩
      it := fun j a l e1 e2 => by
        rw [if_neg (Nat.not_lt_zero _)]
        exact (hit1 j a l e1 e2).extBut hs₁.extBut (D.itz e1).1
      sz := hs₁.1.trans hs0.1
      kp := fun c o hc e => hs₁.extBut _ _ (fun q => hc (by simp [q])) (kp0 c o hc e) }
    refine wpAny_bind (forIn_to (I := fun r b s' => b = ⟨none, ⟨⟩⟩ ∧ ∃ k h', s' = { s with heap := h' } ∧ r = ((its.map Value.ref).toArray.toList.zipIdx).drop k ∧ k ≤ its.length ∧ ZFill s.heap h' z TI TO its ls us i k) ?_ ?_ _ _ _ ⟨rfl, 0, h₁, rfl, rfl, Nat.zero_le _, F0⟩)
    · rintro ⟨x, k'⟩ l b s' ⟨rfl, k, h', rfl, hr, hk, F⟩
      obtain ⟨e1, e2⟩ := drop_cons hr
      obtain ⟨a, ha, rfl, rfl⟩ := zx_at e1
      have hkl := (List.getElem?_eq_some_iff.mp ha).1
      obtain ⟨l1, hl1⟩ : ∃ l1, ls[k]? = some l1 := ⟨_, List.getElem?_eq_getElem (by rw [← D.len]; exact hkl)⟩
      obtain ⟨u1, hu1⟩ : ∃ u1, us[k]? = some u1 := ⟨_, List.getElem?_eq_getElem (by rw [hu]; exact hkl)⟩
      obtain ⟨xs, hT, hxi⟩ := hx0 h' F.kp k l1 u1 hl1 hu1
      have hI := F.it k a l1 ha hl1
      rw [if_neg (Nat.lt_irrefl _)] at hI
      obtain ⟨az, aTI, aTO⟩ := D.itz ha
      obtain ⟨f1'', hz2⟩ := F.zp
      obtain ⟨vs, hv, hvz, hvj⟩ := F.to
      refine wpAny_bind (wpAny_onRaise ?_)
      show wpAny _ _ (Builtin.SmallTypes.nextOf (.ref a) >>= _) _ _ _
      refine wpAny_bind (RZ.nextOf_tuple_item hI hT hxi fun h₂ h1₂ hs₂ => wpAny_pure ?_)
      have hv2 : IsTp h₂ TO vs := hs₂.extBut _ _ (Ne.symm aTO) hv
      refine wpAny_bind (wpAny_seqItems hv2 rfl ?_)
      refine wpAny_bind (wpAny_updateSeq hv2 rfl ?_ (by rw [hvz, sizeLine_eq]; have := D.sm; omega) (by rw [Array.size_setIfInBounds, hvz, sizeLine_eq]; have := D.sm; omega))
      have hs₃ : Heap.SameBut TO h₂ (h₂.update TO (Obj.mapSeq fun y => y.setIfInBounds k u1)) := Heap.SameBut.update ..
      have hv3 : IsTp (h₂.update TO (Obj.mapSeq fun y => y.setIfInBounds k u1)) TO (vs.setIfInBounds k u1) := by
        have z := Heap.get?_update_self (Obj.mapSeq fun y => y.setIfInBounds k u1) hv2 rfl
        exact z.trans (by simp [Obj.mapSeq])
      generalize h₂.update TO (Obj.mapSeq fun y => y.setIfInBounds k u1) = h₃ at hs₃ hv3 ⊢
      refine wpAny_bind (wpAny_letGo (wpAny_pure ⟨_, rfl, rfl, k + 1, h₃, rfl, e2, hkl, ?_⟩))
      exact {
        zp := ⟨f1'', hs₃.extBut _ _ (Ne.symm tz2) (hs₂.extBut _ _ (Ne.symm az) hz2)⟩
        ti := hs₃.extBut _ _ tz3 (hs₂.extBut _ _ (Ne.symm aTI) F.ti)
        to := ⟨_, hv3, by rw [Array.size_setIfInBounds, hvz], fun j hj => by
          rw [Array.getElem?_setIfInBounds]
          by_cases hjk : k = j
          · subst hjk
            rw [if_pos rfl, if_pos (by rw [hvz]; exact hkl), hu1]
          · rw [if_neg hjk]
            exact hvj j (by omega)⟩
        it := fun j b l2 g1 g2 => by
          by_cases hjk : j = k
          · subst hjk
            rw [ha] at g1
            rw [hl1] at g2
            cases g1
            cases g2
            rw [if_pos (Nat.lt_succ_self _)]
            exact h1₂.extBut hs₃.extBut aTO
          · have g3 := F.it j b l2 g1 g2
            have g4 : (if j < k then i + 1 else i) = (if j < k + 1 then i + 1 else i) := by
              by_cases g5 : j < k
              · rw [if_pos g5, if_pos (by omega)]
              · rw [if_neg g5, if_neg (by omega)]
            rw [g4] at g3
            have ba : b ≠ a := fun q => hjk (D.inj g1 (q ▸ ha))
            exact (g3.extBut hs₂.extBut ba).extBut hs₃.extBut (D.itz g1).2.2
        sz := (hs₃.1.trans hs₂.1).trans F.sz
        kp := fun c o hc e => hs₃.extBut _ _ (fun q => hc (by simp [q])) (hs₂.extBut _ _ (fun q => hc (by rw [q]; simp [List.mem_of_getElem? ha])) (F.kp c o hc e)) }
    · rintro b s' ⟨rfl, k, h', rfl, hr, hk, F⟩
      have hkn : k = its.length := by
        have := congrArg List.length hr
        simp at this
        omega
      subst hkn
      obtain ⟨f1'', hz2⟩ := F.zp
      obtain ⟨vs, hv, hvz, hvj⟩ := F.to
      have evs : vs.toList = us := by
        apply List.ext_getElem?
        intro j
        rw [Array.getElem?_toList]
        by_cases hj : j < its.length
        · exact hvj j hj
        · rw [Array.getElem?_eq_none (by omega), List.getElem?_eq_none (by omega)]
      dsimp only
      refine wpAny_bind (wpAny_seqItems hv rfl ?_)
      refine wpAny_bind (wpAny_newTuple ?_ (by rw [Array.length_toList, hvz, sizeLine_eq]; have := D.sm; omega))
      show wpAny _ _ (Builtin.SmallTypes.ownedTupleHandOut (.ref z) (.ref h'.objs.size) >>= _) _ _ _
      refine wpAny_bind ?_
      unfold Builtin.SmallTypes.ownedTupleHandOut
      have hz₆ : IsZp (h'.push { cls := .type "tuple", data := .seq vs.toList.toArray }) z TI TO .ellipsis f1'' := Heap.get?_push_of_some _ hz2
      refine wpAny_bind (wpAny_setField_rec hz₆ (by simp) fun h₇ hz₇ hs₇ => ?_)
      replace hz₇ : IsZp h₇ z TI TO (rawInt h'.objs.size) f1'' := hz₇
      refine wpAny_setField_rec hz₇ (by simp) fun h₈ hz₈ hs₈ => ?_
      replace hz₈ : IsZp h₈ z TI TO (rawInt h'.objs.size) (.bool false) := hz₈
      have up : ∀ c o, c ≠ z → h'.get? c = some o → h₈.get? c = some o := fun c o c1 e => hs₈.extBut _ _ c1 (hs₇.extBut _ _ c1 (Heap.get?_push_of_some _ e))
      have hzlt : z < h'.objs.size := Heap.lt_size hz2
      have hT8 : IsTp h₈ h'.objs.size us.toArray := by
        rw [← evs]
        exact hs₈.extBut _ _ (Nat.ne_of_gt hzlt) (hs₇.extBut _ _ (Nat.ne_of_gt hzlt) (Heap.get?_push_size _ rfl))
      refine wpAny_pure ⟨_, rfl, ?_⟩
      show Q (.ref h'.objs.size) _
      rw [F.sz]
      rw [F.sz] at hT8
      refine hQ h₈ ⟨⟨_, _, hz₈, .inr ⟨_, rfl⟩⟩, up _ _ tz1 F.ti, ⟨vs, up _ _ tz2 hv, hvz⟩, fun j b l2 g1 g2 => ?_⟩ hT8 fun c o hc e => up c o (fun q => hc (by simp [q])) (F.kp c o hc e)
      have g3 := F.it j b l2 g1 g2
      rw [if_pos (List.getElem?_eq_some_iff.mp g1).1] at g3
      exact g3.at fun o e => up b o (D.itz g1).1 e
  | false =>
    simp only [Bool.false_eq_true, if_false]
    have F0 : ZDraw s.heap h0 z TI TO its ls us i 0 := {
      zp := ⟨f0, f1', hz1, hf⟩
      ti := hTI1
      to := ⟨vs0, hTO1, hvs⟩
      it := fun j a l e1 e2 => by
        rw [if_neg (Nat.not_lt_zero _)]
        exact hit1 j a l e1 e2
      sz := hs0.1
      kp := kp0 }
    rw [← Array.forIn_toList]
    refine wpAny_bind (forIn_to (I := fun r b s' => ∃ k h', b = (none, (us.take k).toArray) ∧ s' = { s with heap := h' } ∧ r = ((its.map Value.ref).toArray.toList).drop k ∧ k ≤ its.length ∧ ZDraw s.heap h' z TI TO its ls us i k) ?_ ?_ _ _ _ ⟨0, h0, by rw [List.take_zero], rfl, rfl, Nat.zero_le _, F0⟩)
    · rintro x l b s' ⟨k, h', rfl, rfl, hr, hk, F⟩
      obtain ⟨e1, e2⟩ := drop_cons hr
      obtain ⟨a, ha, rfl⟩ : ∃ a, its[k]? = some a ∧ x = .ref a := by
        simp only [List.toList_toArray, List.getElem?_map, Option.map_eq_some_iff] at e1
        obtain ⟨a, h1, h2⟩ := e1
        exact ⟨a, h1, h2.symm⟩
      have hkl := (List.getElem?_eq_some_iff.mp ha).1
      obtain ⟨l1, hl1⟩ : ∃ l1, ls[k]? = some l1 := ⟨_, List.getElem?_eq_getElem (by rw [← D.len]; exact hkl)⟩
      obtain ⟨u1, hu1⟩ : ∃ u1, us[k]? = some u1 := ⟨_, List.getElem?_eq_getElem (by rw [hu]; exact hkl)⟩
      obtain ⟨xs, hT, hxi⟩ := hx0 h' F.kp k l1 u1 hl1 hu1
      have hI := F.it k a l1 ha hl1
      rw [if_neg (Nat.lt_irrefl _)] at hI
      obtain ⟨az, aTI, aTO⟩ := D.itz ha
      obtain ⟨g0, g1, hz2, hg⟩ := F.zp
      obtain ⟨vs, hv, hvz⟩ := F.to
      refine wpAny_bind (wpAny_holding ?_)
      show wpAny _ _ (Builtin.SmallTypes.nextOf (.ref a) >>= _) _ _ _
      refine wpAny_bind (RZ.nextOf_tuple_item hI hT hxi fun h₂ h1₂ hs₂ => wpAny_pure ?_)
      refine wpAny_pure ⟨_, rfl, k + 1, h₂, ?_, rfl, e2, hkl, ?_⟩
      · dsimp only
        rw [List.take_add_one, hu1, List.push_toArray]
        rfl
      exact {
        zp := ⟨g0, g1, hs₂.extBut _ _ (Ne.symm az) hz2, hg⟩
        ti := hs₂.extBut _ _ (Ne.symm aTI) F.ti
        to := ⟨_, hs₂.extBut _ _ (Ne.symm aTO) hv, hvz⟩
        it := fun j b l2 g1 g2 => by
          by_cases hjk : j = k
          · subst hjk
            rw [ha] at g1
            rw [hl1] at g2
            cases g1
            cases g2
            rw [if_pos (Nat.lt_succ_self _)]
            exact h1₂
          · have g3 := F.it j b l2 g1 g2
            have g4 : (if j < k then i + 1 else i) = (if j < k + 1 then i + 1 else i) := by
              by_cases g5 : j < k
              · rw [if_pos g5, if_pos (by omega)]
              · rw [if_neg g5, if_neg (by omega)]
            rw [g4] at g3
            have ba : b ≠ a := fun q => hjk (D.inj g1 (q ▸ ha))
            exact g3.extBut hs₂.extBut ba
        sz := hs₂.1.trans F.sz
        kp := fun c o hc e => hs₂.extBut _ _ (fun q => hc (by rw [q]; simp [List.mem_of_getElem? ha])) (F.kp c o hc e) }
    · rintro b s' ⟨k, h', rfl, rfl, hr, hk, F⟩
      have hkn : k = its.length := by
        have := congrArg List.length hr
        simp at this
        omega
      subst hkn
      obtain ⟨g0, g1, hz2, hg⟩ := F.zp
      obtain ⟨vs, hv, hvz⟩ := F.to
      have eus : us.take its.length = us := by rw [← hu, List.take_length]
      dsimp only
      refine wpAny_bind (wpAny_newTuple ?_ (by rw [eus, hu, sizeLine_eq]; have := D.sm; omega))
      have hzlt : z < h'.objs.size := Heap.lt_size hz2
      have up : ∀ c o, h'.get? c = some o → (h'.push { cls := .type "tuple", data := .seq (us.take its.length).toArray.toList.toArray }).get? c = some o := fun c o e => Heap.get?_push_of_some _ e
      have hT8 : IsTp (h'.push { cls := .type "tuple", data := .seq (us.take its.length).toArray.toList.toArray }) h'.objs.size us.toArray := by
        rw [eus]
        exact Heap.get?_push_size _ rfl
      refine wpAny_pure ⟨_, rfl, ?_⟩
      show Q (.ref h'.objs.size) _
      rw [F.sz]
      rw [F.sz] at hT8
      refine hQ _ ⟨⟨_, _, up _ _ hz2, hg⟩, up _ _ F.ti, ⟨vs, up _ _ hv, hvz⟩, fun j b l2 g1 g2 => ?_⟩ hT8 fun c o hc e => up c o (F.kp c o hc e)
      have g3 := F.it j b l2 g1 g2
      rw [if_pos (List.getElem?_eq_some_iff.mp g1).1] at g3
      exact g3.at fun o e => up b o e
end
end Sv

set_option maxHeartbeats 1000000
/-! least and greatest of a tuple of ints -/
namespace Sv
open PySem PySem.Spec PyProof.Rows L2
section
variable {prog : Program} {w : World} {A : Around} {E : Value → Shared → Prop} {s : Shared} {l : Addr} {its : List Value} {ns : List Int}
theorem iter_tup {xs : Array Value} {Q : Value → Shared → Prop} (hl : s.heap.IsTuple l xs)
    (h : ∀ s2 : Shared, s2 = { s with heap := s.heap.push { cls := .type "tuple_iterator", data := .fields #[.ref l, .int 0 0] } } → (s2.heap.IsTupleIter s.heap.objs.size l 0 ∧ s2.heap.IsTuple l xs) → (∀ b ∈ [s.heap.objs.size, l], b < s2.heap.objs.size) → l ≠ s.heap.objs.size → Q (.ref s.heap.objs.size) s2) :
    wpAny (model prog w) A (pyIter (.ref l)) Q E s := by
  have hlt : l < s.heap.objs.size := by
    obtain ⟨_, e, _⟩ := hl
    exact Heap.lt_size e
  have hl' := hl
  obtain ⟨o, ho, r⟩ := hl'
  refine wpAny_pyIter_tuple hl (h _ rfl ⟨⟨_, Heap.get?_push_size _ rfl, rfl, rfl⟩, ⟨o, Heap.get?_push_of_some _ ho, r⟩⟩ (fun b hb => ?_) (Nat.ne_of_lt hlt))
  show b < (s.heap.push _).objs.size
  rw [Heap.size_push]
  simp only [List.mem_cons, List.not_mem_nil, or_false] at hb
  rcases hb with rfl | rfl
  · exact Nat.lt_succ_self _
  · exact Nat.lt_succ_of_lt hlt
theorem old_tup {o0 : Obj} {h' : Heap} (hk : ∀ b o, b ∉ [s.heap.objs.size] → (s.heap.push o0).get? b = some o → h'.get? b = some o) : ∀ b o, s.heap.get? b = some o → h'.get? b = some o := fun b o e =>
  hk b o (fun hm => absurd (List.mem_singleton.mp hm ▸ Heap.lt_size e) (Nat.lt_irrefl _)) (Heap.get?_push_of_some _ e)
theorem ints_arr (hi : IntsAre its ns) : ∃ xs : Array (Int × Tok), its.toArray = intItems xs ∧ xs.size = ns.length ∧ ∀ i, i < ns.length → ns[i]? = some (numAt xs i) := by
  obtain ⟨xs, e⟩ := hi.allInts.items
  have hn : numsOf (intItems xs).toList = ns := by rw [← e]; exact hi.numsOf
  rw [nums_intItems] at hn
  subst hn
  refine ⟨xs, e, by rw [List.length_map, Array.length_toList], fun i hi => ?_⟩
  rw [List.length_map, Array.length_toList] at hi
  rw [List.getElem?_map, Array.getElem?_toList]
  unfold numAt
  rw [Array.getElem?_eq_getElem hi]
  rfl
theorem max_rawT (hh : A.handled = none) (hl : s.heap.IsTuple l its.toArray) (hi : IntsAre its ns) (hne : 0 < ns.length) {Q : Value → Shared → Prop}
    (h : ∀ h' tk M t', (∀ b o, s.heap.get? b = some o → h'.get? b = some o) → M ∈ ns → (∀ a, a ∈ ns → a ≤ M) → Q (.int M t') { s with heap := h', toks := tk }) : wpAny (model prog w) A (call (.builtin "max") [.ref l]) Q E s := by
  obtain ⟨xs, e, hsz, hat⟩ := ints_arr hi
  rw [e] at hl
  refine call_max_walk (iter_tup hl fun s₂ e st hfp hlI => ?_)
  subst e
  refine ⟨_, _, _, _, _, _, _, rfl, Walks.tuple (A := A.in1) hh _ l hlI (intItems xs), st, hfp, by simpa [intItems, hsz] using hne, CmpOf.ints_gt (numAt xs) (fun _ _ => intItems_at), fun v h' tk hP hk => ?_⟩
  obtain ⟨t, rfl⟩ := intItems_at hP
  obtain ⟨h1, h2⟩ := argBest_gt (numAt xs) ((intItems xs).size - 1)
  have hs2 : (intItems xs).size = ns.length := by simp [intItems, hsz]
  rw [hs2] at h1 h2 ⊢
  refine h h' tk _ t (old_tup hk) (List.mem_of_getElem? (hat _ (by omega))) fun a ha => ?_
  obtain ⟨j, hj⟩ := List.getElem?_of_mem ha
  have hjl := (List.getElem?_eq_some_iff.mp hj).1
  obtain rfl : numAt xs j = a := Option.some.inj ((hat j hjl).symm.trans hj)
  exact h2 j (by omega)
theorem min_rawT (hh : A.handled = none) (hl : s.heap.IsTuple l its.toArray) (hi : IntsAre its ns) (hne : 0 < ns.length) {Q : Value → Shared → Prop}
    (h : ∀ h' tk M t', (∀ b o, s.heap.get? b = some o → h'.get? b = some o) → M ∈ ns → (∀ a, a ∈ ns → M ≤ a) → Q (.int M t') { s with heap := h', toks := tk }) : wpAny (model prog w) A (call (.builtin "min") [.ref l]) Q E s := by
  obtain ⟨xs, e, hsz, hat⟩ := ints_arr hi
  rw [e] at hl
  refine call_min_walk (iter_tup hl fun s₂ e st hfp hlI => ?_)
  subst e
  refine ⟨_, _, _, _, _, _, _, rfl, Walks.tuple (A := A.in1) hh _ l hlI (intItems xs), st, hfp, by simpa [intItems, hsz] using hne, CmpOf.ints_lt (numAt xs) (fun _ _ => intItems_at), fun v h' tk hP hk => ?_⟩
  obtain ⟨t, rfl⟩ := intItems_at hP
  obtain ⟨h1, h2⟩ := argBest_lt (numAt xs) ((intItems xs).size - 1)
  have hs2 : (intItems xs).size = ns.length := by simp [intItems, hsz]
  rw [hs2] at h1 h2 ⊢
  refine h h' tk _ t (old_tup hk) (List.mem_of_getElem? (hat _ (by omega))) fun a ha => ?_
  obtain ⟨j, hj⟩ := List.getElem?_of_mem ha
  have hjl := (List.getElem?_eq_some_iff.mp hj).1
  obtain rfl : numAt xs j = a := Option.some.inj ((hat j hjl).symm.trans hj)
  exact h2 j (by omega)
end
section
variable {X : Cx}
def rMaxT (K : PySem.W.Frag) : List V → Hp → VK → Prop := fun vs H Q => ∃ (a : Addr) (ns : List Int), vs = [V.ref a] ∧ SqT K H a (ns.map V.int) ∧ 0 < ns.length ∧ ∀ m, m ∈ ns → (∀ y, y ∈ ns → y ≤ m) → Q (.int m) H
def rMinT (K : PySem.W.Frag) : List V → Hp → VK → Prop := fun vs H Q => ∃ (a : Addr) (ns : List Int), vs = [V.ref a] ∧ SqT K H a (ns.map V.int) ∧ 0 < ns.length ∧ ∀ m, m ∈ ns → (∀ y, y ∈ ns → m ≤ y) → Q (.int m) H
theorem cr_maxT (hc : X.calm = true) : CallR X (.builtin "max") (rMaxT X.K) := by
  intro pins s σ H vs us Q I r h
  obtain ⟨a, ns, rfl, hs, hne, q⟩ := h
  obtain ⟨its, rv, hl, _⟩ := I.tuple hs
  rw [Vals.ref1 r]
  exact max_rawT (I.ok.hd hc) hl rv.ints hne fun h' tk m t' hk h1 h2 => ⟨.int _, H, I.kept hk, ⟨_, rfl⟩, q m h1 h2⟩
theorem cr_minT (hc : X.calm = true) : CallR X (.builtin "min") (rMinT X.K) := by
  intro pins s σ H vs us Q I r h
  obtain ⟨a, ns, rfl, hs, hne, q⟩ := h
  obtain ⟨its, rv, hl, _⟩ := I.tuple hs
  rw [Vals.ref1 r]
  exact min_rawT (I.ok.hd hc) hl rv.ints hne fun h' tk m t' hk h1 h2 => ⟨.int _, H, I.kept hk, ⟨_, rfl⟩, q m h1 h2⟩
end
end Sv

set_option maxHeartbeats 1000000
namespace Sv
open PySem
section
variable {prog : Program} {w : World} {A : Around} {E : Value → Shared → Prop} {s : Shared}
/-- the first of the tuples is at its end -/
theorem zpn_end {z TI TO : Addr} {its ls : List Addr} {i : Nat} {l0 : Addr} {xs : Array Value} {Q : PySem.Fin → Shared → Prop} (hh : A.handled = none) (D : ZDist z TI TO its ls) (st : ZAt s.heap z TI TO its ls i)
    (hl0 : ls[0]? = some l0) (hT : s.heap.IsTuple l0 xs) (hx : xs[i]? = none)
    (hE : ∀ h' e, (∀ c o, c ∉ z :: TO :: its → s.heap.get? c = some o → h'.get? c = some o) → (∃ o, h'.get? e = some o ∧ o.cls = .type "StopIteration") → E (.ref e) { s with heap := h' }) :
    wpAny (model prog w) A (Builtin.«zip.__next__» ⟨[.ref z], []⟩) Q E s := by
  obtain ⟨⟨f0, f1, hz0, hf⟩, hTI, ⟨vs0, hTO, hvs⟩, hit⟩ := st
  obtain ⟨tz1, tz2, tz3⟩ := D.zT
  show wpAny _ _ (field (.ref z) 2 >>= _) _ _ _
  refine wpAny_bind (wpAny_field hz0 rfl (x := .bool false) rfl ?_)
  show wpAny _ _ (field (.ref z) 3 >>= _) _ _ _
  refine wpAny_bind (wpAny_field hz0 rfl (x := .ref TI) rfl ?_)
  refine wpAny_bind (wpAny_seqItems hTI rfl ?_)
  obtain ⟨i0, r0, hi0⟩ : ∃ i0 r0, its = i0 :: r0 := by
    cases its with
    | nil => exact absurd rfl D.ne
    | cons a r => exact ⟨a, r, rfl⟩
  dsimp only
  rw [if_neg (show ¬ ((its.map Value.ref).toArray.isEmpty = true) by rw [hi0]; simp)]
  refine wpAny_bind (zfree_ok hz0 hf fun b h0 f1' hz1 hs0 => ?_)
  have ha : its[0]? = some i0 := by rw [hi0]; rfl
  obtain ⟨az, aTI, aTO⟩ := D.itz ha
  have hI0 : h0.IsTupleIter i0 l0 i := (hit 0 i0 l0 ha hl0).extBut hs0.extBut az
  have lz : l0 ≠ z := fun q => D.away l0 (List.mem_of_getElem? hl0) (by simp [q])
  have hT0 : h0.IsTuple l0 xs := by
    obtain ⟨o, ho, r⟩ := hT
    exact ⟨o, hs0.extBut _ _ lz ho, r⟩
  cases b with
  | true =>
    simp only [if_true]
    refine wpAny_bind (wpAny_rule ?_)
    refine wpAny_bind (wpAny_field hz1 rfl (x := .ref TO) rfl ?_)
    refine wpAny_bind (wpAny_setField_rec hz1 (by simp) fun h₁ hz₁ hs₁ => ?_)
    replace hz₁ : IsZp h₁ z TI TO .ellipsis f1' := hz₁
    refine wpAny_bind ?_
    rw [hi0]
    simp only [List.map_cons, List.zipIdx_cons, List.forIn_cons]
    refine wpAny_bind (wpAny_bind (wpAny_onRaise ?_))
    show wpAny _ _ (Builtin.SmallTypes.nextOf (.ref i0) >>= _) _ _ _
    have hT1 : h₁.IsTuple l0 xs := by
      obtain ⟨o, ho, r⟩ := hT0
      exact ⟨o, hs₁.extBut _ _ lz ho, r⟩
    refine wpAny_bind (RZ.nextOf_tuple_end hh (hI0.extBut hs₁.extBut az) hT1 hx fun h₂ e hs₂ he => ?_)
    obtain ⟨oe, hoe, hce⟩ := he
    have hz₂ : IsZp h₂ z TI TO .ellipsis f1' := hs₂ _ _ (Ne.symm az) hz₁
    have hez : e ≠ z := fun x => by subst x; rw [hz₂] at hoe; cases hoe; simp at hce
    refine wpAny_setField_rec hz₂ (by simp) fun h₃ _ hs₃ => hE h₃ e (fun c o hc x => hs₃.extBut _ _ (fun q => hc (by simp [q])) (hs₂ _ _ (fun q => hc (by rw [q]; simp [hi0])) (hs₁.extBut _ _ (fun q => hc (by simp [q])) (hs0.extBut _ _ (fun q => hc (by simp [q])) x)))) ⟨oe, hs₃.extBut _ _ hez hoe, hce⟩
  | false =>
    simp only [Bool.false_eq_true, if_false]
    rw [← Array.forIn_toList]
    refine wpAny_bind ?_
    rw [hi0]
    simp only [List.map_cons, List.forIn_cons]
    refine wpAny_bind (wpAny_bind (wpAny_holding ?_))
    show wpAny _ _ (Builtin.SmallTypes.nextOf (.ref i0) >>= _) _ _ _
    refine wpAny_bind (RZ.nextOf_tuple_end hh hI0 hT0 hx fun h₂ e hs₂ he => ?_)
    exact hE h₂ e (fun c o hc x => hs₂ _ _ (fun q => hc (by rw [q]; simp [hi0])) (hs0.extBut _ _ (fun q => hc (by simp [q])) x)) he
theorem pyNext_zpn_item {z TI TO : Addr} {its ls : List Addr} {i : Nat} {us : List Value} {Q : Option Value → Shared → Prop} (D : ZDist z TI TO its ls) (st : ZAt s.heap z TI TO its ls i)
    (hu : us.length = its.length) (hx : ∀ (j : Nat) (l : Addr) (u : Value), ls[j]? = some l → us[j]? = some u → ∃ xs, s.heap.IsTuple l xs ∧ xs[i]? = some u)
    (hQ : ∀ h', ZAt h' z TI TO its ls (i + 1) → IsTp h' s.heap.objs.size us.toArray → (∀ c o, c ∉ z :: TO :: its → s.heap.get? c = some o → h'.get? c = some o) → Q (some (.ref s.heap.objs.size)) { s with heap := h' }) :
    wpAny (model prog w) A (pyNext (.ref z)) Q E s := by
  obtain ⟨f0, f1, hz, _⟩ := st.zp
  have hT : s.TypeIs (.ref z) "zip" := ⟨_, hz, rfl⟩
  unfold pyNext
  exact wpAny_bind (wpAny_attempt (wpAny_callSpecial?_slot (name := Str.ofString "__next__") hT F.slot_zip_next
    (wpAny_call_entry F.slot_zip_next hT F.entry_zip_next (zpn_item D st hu hx fun h' a1 a2 a3 => wpAny_pure (hQ h' a1 a2 a3)) (F.args_zip_next_1 _))))
theorem pyNext_zpn_end {z TI TO : Addr} {its ls : List Addr} {i : Nat} {l0 : Addr} {xs : Array Value} {Q : Option Value → Shared → Prop} (hh : A.handled = none) (D : ZDist z TI TO its ls) (st : ZAt s.heap z TI TO its ls i)
    (hl0 : ls[0]? = some l0) (hT : s.heap.IsTuple l0 xs) (hx : xs[i]? = none) (hQ : ∀ h', (∀ c o, c ∉ z :: TO :: its → s.heap.get? c = some o → h'.get? c = some o) → Q none { s with heap := h' }) :
    wpAny (model prog w) A (pyNext (.ref z)) Q E s := by
  obtain ⟨f0, f1, hz, _⟩ := st.zp
  have hTy : s.TypeIs (.ref z) "zip" := ⟨_, hz, rfl⟩
  unfold pyNext
  refine wpAny_bind (wpAny_attempt (wpAny_callSpecial?_slot (name := Str.ofString "__next__") hTy F.slot_zip_next
    (wpAny_call_entry F.slot_zip_next hTy F.entry_zip_next (zpn_end hh D st hl0 hT hx fun h' e hk he => ?_) (F.args_zip_next_1 _))))
  obtain ⟨o, ho, hc⟩ := he
  refine wpAny_bind (wpAny_isInstance (T := "StopIteration") (b := true) ⟨o, ho, hc⟩ isSubtype_stop ?_)
  exact wpAny_pure (hQ _ hk)
theorem pyIter_zpn {z TI TO : Addr} {its ls : List Addr} {i : Nat} {Q : Value → Shared → Prop} (st : ZAt s.heap z TI TO its ls i) (h : Q (.ref z) s) : wpAny (model prog w) A (pyIter (.ref z)) Q E s := by
  obtain ⟨f0, f1, hz, _⟩ := st.zp
  have hT : s.TypeIs (.ref z) "zip" := ⟨_, hz, rfl⟩
  refine wpAny_pyIter_slot hT F.slot_zip_iter (wpAny_call_entry F.slot_zip_iter hT F.entry_zip_iter ?_ (F.args_zip_iter_1 _))
  show wpAny _ _ (ret (.ref z)) _ _ s
  exact wpAny_pure ⟨_, rfl, "zip", _, hT, F.slot_zip_next.lookup, h⟩
end
/-! ### zip(a, .., z) -/
theorem zn_type : ∀ (vs : List Value), 1 ≤ vs.length → vs.length ≤ 5 → checkTypeCall "zip" ⟨vs, []⟩ = pure ()
  | [_], _, _ => by kernel_rfl
  | [_, _], _, _ => by kernel_rfl
  | [_, _, _], _, _ => by kernel_rfl
  | [_, _, _, _], _, _ => by kernel_rfl
  | [_, _, _, _, _], _, _ => by kernel_rfl
  | [], h, _ => absurd h (by decide)
  | _ :: _ :: _ :: _ :: _ :: _ :: _, _, h => by simp at h
theorem zn_new : ∀ (vs : List Value), 1 ≤ vs.length → vs.length ≤ 5 → checkBuiltinCall "zip.__new__" ⟨.type "zip" :: vs, []⟩ = pure ()
  | [_], _, _ => by kernel_rfl
  | [_, _], _, _ => by kernel_rfl
  | [_, _, _], _, _ => by kernel_rfl
  | [_, _, _, _], _, _ => by kernel_rfl
  | [_, _, _, _, _], _, _ => by kernel_rfl
  | [], h, _ => absurd h (by decide)
  | _ :: _ :: _ :: _ :: _ :: _ :: _, _, h => by simp at h
theorem zn_init (obj : Value) : ∀ (vs : List Value), 1 ≤ vs.length → vs.length ≤ 5 → argsOk "object.__init__" ⟨obj :: vs, []⟩
  | [_], _, _ => by
    unfold argsOk
    rw [signature?_of (id := "object.__init__")
      (n := "__tini__".toList) (o := "tcejbo".toList)
      (by kernel_rfl) F.owner_object]
    kernel_rfl
  | [_, _], _, _ => by
    unfold argsOk
    rw [signature?_of (id := "object.__init__")
      (n := "__tini__".toList) (o := "tcejbo".toList)
      (by kernel_rfl) F.owner_object]
    kernel_rfl
  | [_, _, _], _, _ => by
    unfold argsOk
    rw [signature?_of (id := "object.__init__")
      (n := "__tini__".toList) (o := "tcejbo".toList)
      (by kernel_rfl) F.owner_object]
    kernel_rfl
  | [_, _, _, _], _, _ => by
    unfold argsOk
    rw [signature?_of (id := "object.__init__")
      (n := "__tini__".toList) (o := "tcejbo".toList)
      (by kernel_rfl) F.owner_object]
    kernel_rfl
  | [_, _, _, _, _], _, _ => by
    unfold argsOk
    rw [signature?_of (id := "object.__init__")
      (n := "__tini__".toList) (o := "tcejbo".toList)
      (by kernel_rfl) F.owner_object]
    kernel_rfl
  | [], h, _ => absurd h (by decide)
  | _ :: _ :: _ :: _ :: _ :: _ :: _, _, h => by simp at h
end Sv

set_option maxHeartbeats 1000000
namespace Sv
open PySem
theorem zn_class (vs : List Value) : Builtin.SmallTypes.newClass "zip" ⟨.type "zip" :: vs, []⟩ = pure (.type "zip", vs) := by
  unfold Builtin.SmallTypes.newClass
  simp only [isType, sub_zip, pure_bind, Bool.not_true, Bool.false_eq_true, if_false]
/-- the iterators made so far -/
structure ZIts (h h' : Heap) (ls : List Addr) (k : Nat) : Prop where
  sz : h'.objs.size = h.objs.size + k
  kp : ∀ c o, h.get? c = some o → h'.get? c = some o
  it : ∀ (j : Nat) (l : Addr), j < k → ls[j]? = some l → h'.IsTupleIter (h.objs.size + j) l 0
def zits (n k : Nat) : List Addr := (List.range k).map fun j => n + j
theorem zits_at {n k j : Nat} {a : Addr} (h : (zits n k)[j]? = some a) : j < k ∧ a = n + j := by
  unfold zits at h
  simp only [List.getElem?_map, Option.map_eq_some_iff] at h
  obtain ⟨i, h1, h2⟩ := h
  obtain ⟨h3, h4⟩ := List.getElem?_eq_some_iff.mp h1
  rw [List.length_range] at h3
  rw [List.getElem_range] at h4
  subst h4
  exact ⟨h3, h2.symm⟩
theorem zits_mem {n k : Nat} {a : Addr} (h : a ∈ zits n k) : n ≤ a ∧ a < n + k := by
  obtain ⟨j, hj⟩ := List.getElem?_of_mem h
  obtain ⟨h1, h2⟩ := zits_at hj
  subst h2
  exact ⟨Nat.le_add_right _ _, Nat.add_lt_add_left h1 _⟩
theorem zits_len (n k : Nat) : (zits n k).length = k := by
  unfold zits
  rw [List.length_map, List.length_range]
theorem zits_nodup (n k : Nat) : (zits n k).Nodup := by
  unfold zits
  rw [List.Nodup, List.pairwise_map]
  exact List.nodup_range.imp fun h e => h (Nat.add_left_cancel e)
theorem meets_zn (ls : List Addr) (h1 : 1 ≤ ls.length) (h5 : ls.length ≤ 5) :
    Meets (Builtin.«zip.__new__» ⟨.type "zip" :: ls.map Value.ref, []⟩) (fun _ R s => (∀ l ∈ ls, ∃ xs, s.heap.IsTuple l xs) ∧ ∀ h' z TI TO its, ZDist z TI TO its ls → ZAt h' z TI TO its ls 0 → (∀ c ∈ z :: TI :: TO :: its, s.heap.objs.size ≤ c) →
      (∀ c o, s.heap.get? c = some o → h'.get? c = some o) → R (.ok (.ret (.ref z))) { s with heap := h' }) :=
  .of_wp fun prog w A R s h => by
    obtain ⟨hp, h⟩ := h
    unfold Builtin.«zip.__new__»
    refine wpAny_bind (wpAny_of_eq (zn_class _) ?_)
    dsimp only
    rw [if_neg (by decide)]
    refine wpAny_bind ?_
    unfold Builtin.SmallTypes.iterAll
    refine wpAny_bind (forIn_to (I := fun r b s' => ∃ k h', b = ((zits s.heap.objs.size k).map Value.ref).toArray ∧ s' = { s with heap := h' } ∧ r = (ls.map Value.ref).drop k ∧ k ≤ ls.length ∧ ZIts s.heap h' ls k) ?_ ?_ _ _ _ ⟨0, s.heap, rfl, rfl, rfl, Nat.zero_le _, rfl, fun _ _ e => e, fun j _ hj => absurd hj (Nat.not_lt_zero _)⟩)
    · rintro x l b s' ⟨k, h', rfl, rfl, hr, hk, F⟩
      obtain ⟨e1, e2⟩ := drop_cons hr
      obtain ⟨a, ha, rfl⟩ : ∃ a, ls[k]? = some a ∧ x = .ref a := by
        simp only [List.getElem?_map, Option.map_eq_some_iff] at e1
        obtain ⟨a, h1, h2⟩ := e1
        exact ⟨a, h1, h2.symm⟩
      have hkl := (List.getElem?_eq_some_iff.mp ha).1
      obtain ⟨xs, o, ho, hr2⟩ := hp a (List.mem_of_getElem? ha)
      refine wpAny_bind (wpAny_holding (wpAny_pyIter_tuple (items := xs) ⟨o, F.kp _ _ ho, hr2⟩ ?_))
      refine wpAny_pure ⟨_, rfl, k + 1, _, ?_, rfl, e2, hkl, ?_, fun c o e => Heap.get?_push_of_some _ (F.kp c o e), fun j l2 hj g => ?_⟩
      · unfold zits
        rw [List.range_succ, List.map_append, List.map_append, List.push_toArray]
        show _ = (_ ++ [Value.ref (s.heap.objs.size + k)]).toArray
        rw [← F.sz]
      · rw [Heap.size_push, F.sz]
        rfl
      · by_cases hjk : j = k
        · subst hjk
          rw [ha] at g
          cases g
          rw [← F.sz]
          exact ⟨_, Heap.get?_push_size _ rfl, rfl, rfl⟩
        · exact (F.it j l2 (by omega) g).at fun o e => Heap.get?_push_of_some _ e
    · rintro b s' ⟨k, h', rfl, rfl, hr, hk, F⟩
      have hkn : k = ls.length := by
        have := congrArg List.length hr
        simp at this
        omega
      subst hkn
      have hzl := zits_len s.heap.objs.size ls.length
      refine wpAny_pure ?_
      show wpAny _ _ (newTuple ((zits s.heap.objs.size ls.length).map Value.ref) >>= _) _ _ _
      generalize hits : zits s.heap.objs.size ls.length = its at hzl ⊢
      refine wpAny_bind (wpAny_newTuple ?_ (by rw [List.length_map, hzl, sizeLine_eq]; omega))
      show wpAny _ _ (newTuple ((its.map Value.ref).map fun _ => Value.none) >>= _) _ _ _
      refine wpAny_bind (wpAny_newTuple ?_ (by rw [List.length_map, List.length_map, hzl, sizeLine_eq]; omega))
      refine wpAny_bind ?_
      unfold Builtin.SmallTypes.newRecord
      show wpAny _ _ (newObj (.type "zip") (.fields #[.none, .bool false, .bool false, .ref h'.objs.size, .ref (h'.push (TpO (its.map Value.ref).toArray)).objs.size])) _ _ _
      refine wpAny_newObj_type ?_
      refine wpAny_pure ⟨_, rfl, ?_⟩
      dsimp only
      have z1 : (h'.push (TpO (its.map Value.ref).toArray)).objs.size = h'.objs.size + 1 := Heap.size_push ..
      have z2 : ((h'.push (TpO (its.map Value.ref).toArray)).push (TpO ((its.map Value.ref).map fun _ => Value.none).toArray)).objs.size = h'.objs.size + 2 := by rw [Heap.size_push, z1]
      have k1 : ∀ c o, h'.get? c = some o → (h'.push (TpO (its.map Value.ref).toArray)).get? c = some o := fun c o e => Heap.get?_push_of_some _ e
      have g1 : IsTp (h'.push (TpO (its.map Value.ref).toArray)) h'.objs.size (its.map Value.ref).toArray := Heap.get?_push_size _ rfl
      generalize h'.push (TpO (its.map Value.ref).toArray) = h2 at z1 z2 k1 g1 ⊢
      have k2 : ∀ c o, h2.get? c = some o → (h2.push (TpO ((its.map Value.ref).map fun _ => Value.none).toArray)).get? c = some o := fun c o e => Heap.get?_push_of_some _ e
      have g2 : IsTp (h2.push (TpO ((its.map Value.ref).map fun _ => Value.none).toArray)) h2.objs.size ((its.map Value.ref).map fun _ => Value.none).toArray := Heap.get?_push_size _ rfl
      generalize h2.push (TpO ((its.map Value.ref).map fun _ => Value.none).toArray) = h3 at z2 k2 g2 ⊢
      have k3 : ∀ c o, h3.get? c = some o → (h3.push (ZpO .none (.bool false) h'.objs.size h2.objs.size)).get? c = some o := fun c o e => Heap.get?_push_of_some _ e
      have g3 : IsZp (h3.push (ZpO .none (.bool false) h'.objs.size h2.objs.size)) h3.objs.size h'.objs.size h2.objs.size .none (.bool false) := Heap.get?_push_size _ rfl
      have fsz := F.sz
      have kf := F.kp
      have fit := F.it
      have rng : ∀ c ∈ its, s.heap.objs.size ≤ c ∧ c < h'.objs.size := fun c hc => by
        rw [← hits] at hc
        rw [fsz]
        exact zits_mem hc
      have lrg : ∀ l ∈ ls, l < s.heap.objs.size := fun l hl => by
        obtain ⟨xs, o, ho, _⟩ := hp l hl
        exact Heap.lt_size ho
      refine h (h3.push (ZpO .none (.bool false) h'.objs.size h2.objs.size)) h3.objs.size h'.objs.size h2.objs.size its ⟨?_, ?_, hzl, ?_, by rw [hzl]; omega⟩ ⟨⟨_, _, g3, .inl rfl⟩, k3 _ _ (k2 _ _ g1), ⟨_, k3 _ _ g2, by simp⟩, ?_⟩ ?_ fun c o e => k3 _ _ (k2 _ _ (k1 _ _ (kf _ _ e)))
      · have ne1 : ∀ {a b : Nat}, a ≠ b → (a : Addr) ≠ b := fun h => h
        simp only [List.nodup_cons, List.mem_cons, not_or]
        refine ⟨⟨ne1 (by omega), ne1 (by omega), fun q => absurd (rng _ q).2 (Nat.not_lt.mpr (by omega))⟩, ⟨ne1 (by omega), fun q => absurd (rng _ q).2 (Nat.not_lt.mpr (by omega))⟩, fun q => absurd (rng _ q).2 (Nat.not_lt.mpr (by omega)), by rw [← hits]; exact zits_nodup _ _⟩
      · intro l hl q
        have h1 : (l : Nat) < s.heap.objs.size := lrg l hl
        simp only [List.mem_cons] at q
        rcases q with q | q | q | q
        · exact absurd h1 (Nat.not_lt.mpr (by rw [q]; omega))
        · exact absurd h1 (Nat.not_lt.mpr (by rw [q]; omega))
        · exact absurd h1 (Nat.not_lt.mpr (by rw [q]; omega))
        · exact absurd h1 (Nat.not_lt.mpr (rng _ q).1)
      · intro q
        rw [q, List.length_nil] at hzl
        omega
      · intro j a l e1 e2
        rw [← hits] at e1
        obtain ⟨h1, rfl⟩ := zits_at e1
        exact (fit j l h1 e2).at fun o e => k3 _ _ (k2 _ _ (k1 _ _ e))
      · intro c hc
        simp only [List.mem_cons] at hc
        rcases hc with q | q | q | q
        · rw [q]; show (s.heap.objs.size : Nat) ≤ h3.objs.size; omega
        · rw [q]; show (s.heap.objs.size : Nat) ≤ h'.objs.size; omega
        · rw [q]; show (s.heap.objs.size : Nat) ≤ h2.objs.size; omega
        · exact (rng _ q).1
section
variable {prog : Program} {w : World} {A : Around} {E : Value → Shared → Prop} {s : Shared}
theorem call_zn {ls : List Addr} {Q : Value → Shared → Prop} (h1 : 1 ≤ ls.length) (h5 : ls.length ≤ 5) (hp : ∀ l ∈ ls, ∃ xs, s.heap.IsTuple l xs)
    (h : ∀ h' z TI TO its, ZDist z TI TO its ls → ZAt h' z TI TO its ls 0 → (∀ c ∈ z :: TI :: TO :: its, s.heap.objs.size ≤ c) → (∀ c o, s.heap.get? c = some o → h'.get? c = some o) → Q (.ref z) { s with heap := h' }) :
    wpAny (model prog w) A (call (.type "zip") (ls.map Value.ref)) Q E s := by
  have e : (ls.map Value.ref).length = ls.length := List.length_map ..
  refine callType_new F.called_zip (by decide) (zn_type _ (by omega) (by omega)) (zn_new _ (by omega) (by omega)) (fun obj => zn_init obj _ (by omega) (by omega)) F.entry_zip_new (meets_zn ls h1 h5) ⟨hp, fun h' z TI TO its D st hc kp => ?_⟩
  obtain ⟨f0, f1, hz, _⟩ := st.zp
  exact ⟨⟨_, hz, rfl⟩, h h' z TI TO its D st hc kp⟩
end
end Sv

set_option maxHeartbeats 1000000
/-! for x in zip(*rows); calls of a def with *args -/
namespace Sv
open PySem PySem.Spec PyProof.Rows L2
/-- the items of the tuples at one place, in a new tuple -/
def ItzN (K : PySem.W.Frag) (ls : List Addr) : It :=
  ⟨fun i H => ∃ ys : List V, ys.length = ls.length ∧ ∀ (j : Nat) (l : Addr) (y : V), ls[j]? = some l → ys[j]? = some y → ∃ xs, SqT K H l xs ∧ xs[i]? = some y,
    fun i H v H' => ∃ T ys, v = .ref T ∧ H T = none ∧ H' = upd H T (.tup ys) ∧ ys.length = ls.length ∧ ∀ (j : Nat) (l : Addr) (y : V), ls[j]? = some l → ys[j]? = some y → ∀ xs, SqT K H l xs → xs[i]? = some y,
    fun i H => ∃ l xs, ls[0]? = some l ∧ SqT K H l xs ∧ xs.length ≤ i⟩
theorem vals_pick {X : Cx} {pins : List (Addr × Obj)} {σ : L2.St} {H : Hp} {s : Shared} (I : Inv X pins σ H s) (i : Nat) : ∀ (ls : List Addr) (ys : List V), ys.length = ls.length → (∀ (j : Nat) (l : Addr) (y : V), ls[j]? = some l → ys[j]? = some y → ∃ xs, SqT X.K H l xs ∧ xs[i]? = some y) →
    ∃ us, Vals ys us ∧ ∀ (j : Nat) (l : Addr) (u : Value), ls[j]? = some l → us[j]? = some u → ∃ xs, s.heap.IsTuple l xs ∧ xs[i]? = some u
  | [], [], _, _ => ⟨[], .nil, fun j l u e _ => by simp at e⟩
  | l :: ls, y :: ys, hl, h => by
    obtain ⟨us, r, q⟩ := vals_pick I i ls ys (by simpa using hl) fun j l y e1 e2 => h (j + 1) l y e1 e2
    obtain ⟨xs, hT, hx⟩ := h 0 l y rfl rfl
    obtain ⟨its, rv, p, _⟩ := I.tuple hT
    obtain ⟨u, hu, ru⟩ := rv.get hx
    refine ⟨u :: us, .cons ru r, fun j l' u' e1 e2 => ?_⟩
    cases j with
    | zero =>
      cases e1
      cases e2
      exact ⟨_, p, by simpa using hu⟩
    | succ j => exact q j l' u' e1 e2
  | [], _ :: _, hl, _ => by simp at hl
  | _ :: _, [], hl, _ => by simp at hl
theorem turn_zipN {P : Program} {w : World} {K : PySem.W.Frag} {x : Str} {tp : Pos} {z TI TO : Addr} {its ls : List Addr} (D : ZDist z TI TO its ls) :
    Turn P w K (.Name x tp) (ItzN K ls) (z :: TI :: TO :: its) z (fun i h => ZAt h z TI TO its ls i) where
  mem := by simp
  obj := fun i h st c hc => by
    obtain ⟨⟨f0, f1, hz, _⟩, hTI, ⟨vs, hTO, _⟩, hit⟩ := st
    simp only [List.mem_cons] at hc
    rcases hc with q | q | q | q
    · rw [q]; exact ⟨_, hz, fun v q => nomatch q⟩
    · rw [q]; exact ⟨_, hTI, fun v q => nomatch q⟩
    · rw [q]; exact ⟨_, hTO, fun v q => nomatch q⟩
    · obtain ⟨j, hj⟩ := List.getElem?_of_mem q
      have hjl := (List.getElem?_eq_some_iff.mp hj).1
      obtain ⟨o, e, _, d⟩ := hit j c _ hj (List.getElem?_eq_getElem (by rw [← D.len]; exact hjl))
      exact ⟨o, e, fun v q => by rw [d] at q; cases q⟩
  keep := fun i h h' st k => by
    obtain ⟨⟨f0, f1, hz, hf⟩, hTI, ⟨vs, hTO, hvs⟩, hit⟩ := st
    exact ⟨⟨f0, f1, k z (by simp) _ hz, hf⟩, k TI (by simp) _ hTI, ⟨vs, k TO (by simp) _ hTO, hvs⟩, fun j a l e1 e2 => (hit j a l e1 e2).at fun o q => k a (by simp [List.mem_of_getElem? e1]) o q⟩
  item := by
    intro X hP hw hK hc i pins s σ H E I hf st hg
    subst hP hw hK
    obtain ⟨ys, hyl, hy⟩ := hg
    obtain ⟨us, rv, hu⟩ := vals_pick I i ls ys hyl hy
    have hul : us.length = its.length := by rw [← rv.length, hyl, D.len]
    have sub : ∀ c, c ∈ z :: TO :: its → c ∈ z :: TI :: TO :: its := fun c hc => by
      simp only [List.mem_cons] at hc ⊢
      rcases hc with q | q | q
      · exact .inl q
      · exact .inr (.inr (.inl q))
      · exact .inr (.inr (.inr q))
    refine pyNext_zpn_item D st hul hu fun h' st' hT kp => ?_
    refine ⟨_, rfl, ?_⟩
    show wpAny _ _ (pure ()) _ _ _
    refine wpAny_pure ?_
    have hsm := D.sm
    have new : ObjOk X.prog X.w (upd H s.heap.objs.size (.tup ys)) h' s.heap.objs.size (.tup ys) :=
      ⟨by rw [hyl, ← D.len, sizeLine_eq]; omega, us, rv, ⟨_, hT, rfl, _, rfl⟩⟩
    refine ⟨.ref s.heap.objs.size, _, I.turnedNew (t' := s.toks) (ch := z :: TI :: TO :: its) (fun c o hb q => kp c o (fun q' => hb (sub c q')) q) hf (Nat.le_refl _) new, rfl, ⟨_, ys, rfl, I.hok.fresh (Nat.le_refl _), rfl, hyl, fun j l y e1 e2 xs hT => by
      obtain ⟨xs', hT', hx'⟩ := hy j l y e1 e2
      rw [I.tuple_inj hT hT']
      exact hx'⟩, st', fun c hcm => ?_⟩
    obtain ⟨o, ho, _⟩ : ∃ o, s.heap.get? c = some o ∧ True := by
      obtain ⟨⟨f0, f1, hz, hf⟩, hTI, ⟨vs, hTO, hvs⟩, hit⟩ := st
      simp only [List.mem_cons] at hcm
      rcases hcm with q | q | q | q
      · rw [q]; exact ⟨_, hz, trivial⟩
      · rw [q]; exact ⟨_, hTI, trivial⟩
      · rw [q]; exact ⟨_, hTO, trivial⟩
      · obtain ⟨j, hj⟩ := List.getElem?_of_mem q
        have hjl := (List.getElem?_eq_some_iff.mp hj).1
        obtain ⟨o, e, _, d⟩ := hit j c _ hj (List.getElem?_eq_getElem (by rw [← D.len]; exact hjl))
        exact ⟨o, e, trivial⟩
    rw [upd_ne (Nat.ne_of_lt (Heap.lt_size ho))]
    exact (hf c hcm).1
  done := by
    intro X hP hw hK hc i pins s σ H E I hf st hg
    subst hP hw hK
    obtain ⟨l, xs, hl, hT, hle⟩ := hg
    obtain ⟨its', rv, p, _⟩ := I.tuple hT
    have hlen := rv.length
    refine pyNext_zpn_end (I.ok.hd hc) D st hl p (by simp; omega) fun h' hk => ⟨rfl, I.turnedL (t' := s.toks) (ch := z :: TI :: TO :: its) (fun c o hb q => hk c o (fun q' => hb ?_) q) hf⟩
    simp only [List.mem_cons] at q' ⊢
    rcases q' with q | q | q
    · exact .inl q
    · exact .inr (.inr (.inl q))
    · exact .inr (.inr (.inr q))
  self := fun A i s Q E st h => pyIter_zpn st h
theorem callWith_typeS {M : Model} {A : Around} {E : Value → Shared → Prop} {s : Shared} {pos : Pos} {T : String} {args : List (Bool × Sem Value)} {Q : Value → Shared → Prop} (hst : args.any (·.1) = true)
    (h : wpAny M A (evalArgs (.type T) true args []) (fun a s₁ => wpAny M A (call (.type T) a.pos a.kw) Q E s₁) E s) : wpAny M A (callWith pos (.type T) [] args []) Q E s := by
  unfold callWith
  refine wpAny_bind (wpAny_holding (wpAny_mono h (fun a s₁ h₁ => wpAny_bind (wpAny_standAt ?_)) fun _ _ x => x))
  simp only [hst, Bool.true_or]
  refine wpAny_bind (wpAny_pure ?_)
  exact wpAny_bind (wpAny_mono (wpAny_operating h₁) (fun r s₂ hr => wpAny_bind (wpAny_holding (wpAny_point (wpAny_pure hr)))) fun _ _ x => x)
def iZipS (K : PySem.W.Frag) (te : TE) : TI := fun σ H R => te σ H fun v H1 => ∃ (a : Addr) (ls : List Addr), v = .ref a ∧ SqT K H1 a (ls.map V.ref) ∧ 1 ≤ ls.length ∧ ls.length ≤ 5 ∧ (∀ l ∈ ls, ∃ xs, SqT K H1 l xs) ∧ R (ItzN K ls) H1
theorem vals_refs : ∀ {ls : List Addr} {us : List Value}, Vals (ls.map V.ref) us → us = ls.map Value.ref
  | [], _, .nil => rfl
  | l :: ls, _, .cons r rr => by
    cases r
    rw [vals_refs rr]
    rfl
theorem pi_zipS {X : Cx} {e : Expr} {te : TE} {x : Str} {p pos tp sp_ : Pos} (hg : Gl X "zip") (hm : X.mg "zip" = none) (he : PE X e te)
    (hst : starEach [.Starred e sp_] X.env = [(true, eval e X.env)] := by rfl) : PI X (.Name x tp) (.Call (.Name "zip" p) [.Starred e sp_] [] pos) (iZipS X.K te) := by
  refine ⟨fun pins s σ H R I h => ?_⟩
  refine Call_ (ld_blt I hg hm PyProof.Rows.boot_zip ?_)
  rw [hst]
  refine callWith_typeS rfl (PySem.W.ks_lone (thn (he.run pins s σ H _ I h) fun v s1 ⟨y, H1, I1, ry, a, ls, ey, hT, h1, h5, hl, q⟩ => ?_))
  subst ey
  obtain rfl : v = Value.ref a := ry
  refine StX.star_any I1 (.inl hT) fun us s2 I2 rv => ?_
  obtain rfl := vals_refs rv
  have hp : ∀ l ∈ ls, ∃ xs, s2.heap.IsTuple l xs := fun l hl' => by
    obtain ⟨xs, hx⟩ := hl l hl'
    obtain ⟨its, _, p, _⟩ := I2.tuple hx
    exact ⟨_, p⟩
  refine call_zn h1 h5 hp fun h' z TI TO its D st hc kp => pyIter_zpn st ?_
  have I3 : Inv X pins σ H1 { s2 with heap := h' } := I2.kept (t' := s2.toks) kp
  exact ⟨z, z :: TI :: TO :: its, _, _, H1, rfl, I3, turn_zipN D, st, fun c hcm => by
    have hle := hc c hcm
    have f := I2.fpOk hle (I2.hok.fresh hle)
    exact f, q⟩
/-- the places of the rows: rows as long as n -/
theorem walk_zipN {K : PySem.W.Frag} {ls : List Addr} {n : Nat} {cols : Nat → List V} (hc : ∀ i, i < n → (cols i).length = ls.length) (h1 : 1 ≤ ls.length) :
    Walk (ItzN K ls) n (fun H => ∀ (j : Nat) (l : Addr), ls[j]? = some l → ∃ xs, SqT K H l xs ∧ xs.length = n ∧ ∀ i, i < n → xs[i]? = (cols i)[j]?) (fun i H v H' => ∃ T, v = .ref T ∧ H T = none ∧ H' = upd H T (.tup (cols i))) := by
  refine ⟨fun i H hi q => ⟨cols i, hc i hi, fun j l y e1 e2 => ?_⟩, fun H q => ?_, fun i H v H' hi q y => ?_⟩
  · obtain ⟨xs, hT, hl, hx⟩ := q j l e1
    exact ⟨xs, hT, (hx i hi).trans e2⟩
  · obtain ⟨l, hl⟩ : ∃ l, ls[0]? = some l := ⟨_, List.getElem?_eq_getElem (by omega)⟩
    obtain ⟨xs, hT, hlen, _⟩ := q 0 l hl
    exact ⟨l, xs, hl, hT, by omega⟩
  · obtain ⟨T, ys, rfl, nT, rfl, hyl, hy⟩ := y
    have e : ys = cols i := by
      apply List.ext_getElem?
      intro j
      by_cases hj : j < ls.length
      · have hl := List.getElem?_eq_getElem hj
        have hyj := List.getElem?_eq_getElem (l := ys) (i := j) (by omega)
        obtain ⟨xs', hT', _, hx'⟩ := q j _ hl
        rw [hyj, ← hx' i hi]
        exact (hy j _ _ hl hyj xs' hT').symm
      · rw [List.getElem?_eq_none (by omega), List.getElem?_eq_none (by rw [hc i hi]; omega)]
    subst e
    exact ⟨T, rfl, nT, rfl⟩
section
variable {X : Cx} {CX : CXT} {k : Nat} {f : Addr} {sp : Sp} {E : XK} {x : Str} {e : Expr} {es : List Expr} {t : TA} {p pos : Pos}
/-- x(e, ..), x a def of the module told by FnR -/
theorem pe_callN (F : FnR X.prog X.w X.K X.mg X.base CX k f sp) (hr : Room k X.A) (hk : PySem.W.keepIn X.K (.ref f) = true) (hg : Gl X x) (hm : X.mg x = some (.ref f)) (hx : Passes CX X E) (ha : PA X (e :: es) t) (hd : (x == ("__debug__" : Str)) = false := by decide)
    (he : starEach (e :: es) X.env = (false, eval e X.env) :: starEach es X.env := by rfl) (hpl : (backTo pos (starEach es X.env)).any (·.1) = false := by rfl) :
    PE X (.Call (.Name x p) (e :: es) [] pos) (fun σ H Q => t σ H fun vs H1 => sp vs H1 Q E) := by
  refine ⟨fun pins s σ H Q I h => ?_⟩
  refine wpAny_Call_Name_kw (ld_glob I hg hm ?_ hd)
  refine PySem.W.callWith_K (h₀ := X.base) I.ok.mod.kin hk (thn (ha.run pos pins s σ H _ I h) fun us s1 ⟨vs, H1, I1, r, q⟩ => ⟨I1.kIn, ?_⟩) he hpl
  exact wpAny_call (run_fnR F hr hx I1 r q)
end
/-- a def with one parameter, *v -/
def BStar (fd : FuncData) (pv : Str) : Prop := ∀ rest : List Value, bindArgs fd ⟨rest, []⟩ = (newTuple rest >>= fun t => pure [(pv, t)])
theorem Fun.star {P : Program} {w : World} {K : PySem.W.Frag} {mg : Str → Option Value} {base : Heap} {x qual : Str} {st : Stmt} {f : Addr} {fd : FuncData} {N : List Str} {pv : Str} {k : Nat} {sp : Sp} (F : Fun K x qual st f fd) (S : FnScope N [pv] (defScope st)) (hb : BStar fd pv)
    (hbody : ∀ (cdv : Value) (A : Around) (outer : List Env) (s : Shared) (H : Hp) (vs : List V) (Q : VK) (E : XK), Room k (A.deeper (envOfC qual (defScope st) s.heap.objs.size f cdv)) → sp vs H Q E →
      ∃ t, PSs (cxOf CX0 P w K mg base N qual (defScope st) f cdv A outer s H E).nox (defBody st) t ∧ t { nx := fun _ H' => Q .non H', rt := Q } (L2.start N vs) H) :
    FnR P w K mg base CX0 (k + 1) f (fun vs H Q E => vs.length ≤ sizeLine ∧ ∀ p, H p = Option.none → sp [V.ref p] (upd H p (.tup vs)) Q E) := by
  obtain ⟨oc, od, kV, doc, pm, an, cdv, ct, osl, rfl, lk, hcd⟩ := F.ex
  have G := StX.fn_star (P := P) (w := w) (mg := mg) (base := base) (CX := CX0) (ps := []) (pv := pv) (k := k) (sp := sp) lk hcd S StX.cxUp_none (fun us rest hl => by
      cases us with
      | nil => exact hb rest
      | cons a r => simp at hl) (fun A outer s H vs Q E hr hsp => by
    obtain ⟨t, h, q⟩ := hbody cdv A outer s H vs Q E hr hsp
    exact ⟨t, h.nox, q⟩)
  exact G.imp fun vs H Q E h => ⟨[], vs, rfl, rfl, h.1, fun p np => h.2 p np⟩
end Sv

namespace Sv
open PySem PySem.Spec PyProof.Rows L2
/-! ### the law's draws: places in the text -/
def topS (i : Nat) : Stmt := PySem.Challenge.pw_savelines_k16_lower_and_upper_lines.main.body.getD i (.Pass ⟨0, 0, 0, 0⟩)
abbrev sState : Stmt := topS 4
abbrev sDraw : Stmt := topS 5
theorem scState : FnScope ["_law_script", "_law_cells", "_law_cell"] ["_law_script"] (defScope sState) := ⟨rfl, rfl, rfl, by decide +kernel, rfl, by decide +kernel, by decide +kernel⟩
theorem scDraw : FnScope ["_law_deck_here", "_law_many", "_law_rest", "_law_turn", "_law_cell", "_law_mixed"] ["_law_deck_here", "_law_many"] (defScope sDraw) := ⟨rfl, rfl, rfl, by decide +kernel, rfl, by decide +kernel, by decide +kernel⟩

theorem ixn {n j : Nat} (hj : j < n) : ixN n (j : Int) = some j := by
  unfold ixN
  rw [if_pos (Int.natCast_nonneg j), if_pos (Int.ofNat_lt.mpr hj), Int.toNat_natCast]
/-- the draws' state: its list, the large cells, all cells, at most n draws so far -/
def StAt (H : Hp) (st big cel : Addr) (n : Nat) : Prop := st ≠ big ∧ st ≠ cel ∧ big ≠ cel ∧ n ≤ 1000000 ∧ ∃ (bs cs : List Int) (k : Int),
  H st = some (.lst [.ref big, .ref cel, .int k]) ∧ H big = some (.lst (bs.map V.int)) ∧ H cel = some (.lst (cs.map V.int)) ∧
  (∀ b ∈ bs, 0 ≤ b) ∧ (∀ c ∈ cs, 0 ≤ c) ∧ cs ≠ [] ∧ 0 ≤ k ∧ k ≤ n ∧ bs.length ≤ 63 ∧ cs.length ≤ 64
theorem StAt.same {H H' : Hp} {st big cel : Addr} {n : Nat} (h : StAt H st big cel n) (e : Same H H') : StAt H' st big cel n := by
  obtain ⟨h1, h2, h3, hn, bs, cs, k, a, b, c, r⟩ := h
  exact ⟨h1, h2, h3, hn, bs, cs, k, e _ _ a, e _ _ b, e _ _ c, r⟩
theorem StAt.le {H : Hp} {st big cel : Addr} {n m : Nat} (h : StAt H st big cel n) (e : n ≤ m) (em : m ≤ 1000000) : StAt H st big cel m := by
  obtain ⟨h1, h2, h3, hn, bs, cs, k, a, b, c, q1, q2, q3, q4, q5, r⟩ := h
  exact ⟨h1, h2, h3, em, bs, cs, k, a, b, c, q1, q2, q3, q4, Int.le_trans q5 (Int.ofNat_le.mpr e), r⟩
theorem StAt.tup {K : PySem.W.Frag} {H H' : Hp} {st big cel : Addr} {n : Nat} (h : StAt H st big cel n) (e : Kp st big H H') {a : Addr} {xs : List V} (q : SqT K H a xs) : SqT K H' a xs := by
  obtain ⟨h1, h2, h3, hn, bs, cs, k, ha, hb, hc, r⟩ := h
  rcases q with (q | ⟨o, q⟩) | q
  · exact .inl (.inl (e _ _ (ne_of q ha (by intro z; cases z)) (ne_of q hb (by intro z; cases z)) q))
  · exact .inl (.inr ⟨o, e _ _ (ne_of q ha (by intro z; cases z)) (ne_of q hb (by intro z; cases z)) q⟩)
  · exact .inr q
theorem StAt.tupN {H H' : Hp} {st big cel : Addr} {n : Nat} (h : StAt H st big cel n) (e : Kp st big H H') {a : Addr} {xs : List V} (q : TupN H a xs) : TupN H' a xs := by
  obtain ⟨h1, h2, h3, hn, bs, cs, k, ha, hb, hc, r⟩ := h
  obtain ⟨o, q, d⟩ := q
  exact ⟨o, e _ _ (ne_of q ha (by intro z; cases z)) (ne_of q hb (by intro z; cases z)) q, d⟩
theorem StAt.ne {H : Hp} {st big cel : Addr} {n : Nat} (h : StAt H st big cel n) {p : Addr} (q : H p = none) : st ≠ p ∧ big ≠ p ∧ cel ≠ p := by
  obtain ⟨h1, h2, h3, hn, bs, cs, k, ha, hb, hc, r⟩ := h
  exact ⟨ne_of_none ha q, ne_of_none hb q, ne_of_none hc q⟩

def spDraw : Sp := fun vs H Q _ => ∃ (st big cel : Addr) (n : Nat) (m : Int), vs = [.ref st, .int m] ∧ 0 < m ∧ m < 1000000 ∧ StAt H st big cel n ∧ n < 1000000 ∧
  ∀ (H' : Hp) (v : Int), 0 ≤ v → v < m → StAt H' st big cel (n + 1) → Kp st big H H' → Q (.int v) H'
section
variable {P : Program} {w : World} {K : PySem.W.Frag} {mg : Str → Option Value} {base : Heap}
theorem ok_draw {f : Addr} {fd : FuncData} (F : Fun K "_law_next" "_law_next" sDraw f fd) (ml : mg "len" = none) : FnOk P w K mg base CX0 1 f fd ["_law_deck_here", "_law_many"] spDraw := by
  refine F.ok scDraw (fun vs H Q E h => ?_) (fun cdv A outer s H vs Q E hr h => ?_)
  · obtain ⟨st, big, cel, n, m, rfl, _⟩ := h
    rfl
  · obtain ⟨st, big, cel, n, m, rfl, m0, m1, hS, hn, q⟩ := h
    have pl : ∀ (i : Int) (j : Nat) (p : Pos), PlainIx (.Constant (.int i) j p) := fun _ _ _ _ _ => rfl
    refine ⟨_, pss_cons (ps_while PassesOwn.never
        (pt_cmpR (op_neD hr.units) (pe_ix ix_list (pv 0) pe_int (fun _ _ => rfl)) (pe_lst pa_nil) (nomark _))
        (pss_cons (ps_set (i := 2) scDraw.nd rfl (.inl rfl) (pe_ix ix_list (pe_ix ix_list (pv 0) pe_int (fun _ _ => rfl)) pe_int (fun _ _ => rfl)))
        (pss_cons (ps_if (pt_cmpR op_gt (pv 2) pe_int (nomark _))
            (pss_cons (ps_asg (pe_op op_fdiv (pv 2) (pv 1)) (pg_sub (pe_ix ix_list (pv 0) pe_int (fun _ _ => rfl)) pe_int set_list))
            (pss_one (ps_ret (pe_op op_mod (pv 2) (pv 1))))) pss_nil)
        (pss_one (ps_expr (pe_bm PySem.F.plainAttrs_list PySem.F.slot_list_pop PySem.F.type_list_pop mt_popAt (pe_ix ix_list (pv 0) pe_int (fun _ _ => rfl)) (pa_cons pe_int pa_nil)))))))
      (pss_cons (ps_set (i := 3) scDraw.nd rfl (.inl rfl) (pe_op op_add (pe_ix ix_list (pv 0) pe_int (fun _ _ => rfl)) pe_int))
      (pss_cons (ps_asg (pv 3) (pg_sub (pv 0) pe_int set_list))
      (pss_cons (ps_set (i := 4) scDraw.nd rfl (.inl rfl) (pe_op op_mod (pe_ix ix_list (pe_ix ix_list (pv 0) pe_int (fun _ _ => rfl)) (pe_op op_mod (pv 3) (pe_callB call_len_seq (by rfl) ml PySem.boot_len (pa_cons (pe_ix ix_list (pv 0) pe_int (fun _ _ => rfl)) pa_nil))) (fun _ _ => rfl)) pe_int))
      (pss_cons (ps_set (i := 5) scDraw.nd rfl (.inl rfl) (pe_op op_mod (pe_op op_add (pe_op op_add (pe_op op_mul (pv 4) (pe_op op_add pe_int (pe_op op_mul pe_int (pv 3)))) (pe_op op_mul (pe_op op_mul pe_int (pv 3)) (pv 3))) pe_int) pe_int))
      (pss_one (ps_ret (pe_op op_mod (pe_op op_fdiv (pe_op op_mod (pe_op op_mul (pv 5) (pv 5)) pe_int) pe_int) (pv 1)))))))), ?_⟩
    obtain ⟨n1, n2, n3, hn', bs, cs, k, ha, hb, hc, q1, q2, q3, q4, q5, q6, q7⟩ := hS
    refine while_by (fun σ H1 => ∃ (bs : List Int) (x2 : Option V), σ = [some (.ref st), some (.int m), x2, none, none, none] ∧ H1 st = some (.lst [.ref big, .ref cel, .int k]) ∧
        H1 big = some (.lst (bs.map V.int)) ∧ H1 cel = some (.lst (cs.map V.int)) ∧ (∀ b ∈ bs, 0 ≤ b) ∧ bs.length ≤ 63 ∧ Kp st big H H1)
      (fun σ H1 => match H1 big with | some (.lst xs) => xs.length | _ => 0) ⟨bs, none, rfl, ha, hb, hc, q1, q6, .refl H⟩ ?_ ?_
    · rintro σ H1 ⟨bs, x2, rfl, a1, b1, c1, p1, p2, kp⟩
      -- the test
      have sA : SqL K H1 st [.ref big, .ref cel, .int k] := SqL.of a1
      have sB : SqL K H1 big (bs.map V.int) := SqL.of b1
      refine ⟨_, rfl, st, _, 0, _, rfl, rfl, sA, atI_nat (j := 0) rfl, Nat.zero_le _, fun e ne => ?_⟩
      have sm : Same H1 (upd H1 e (.lst [])) := Same.new ne
      have a2 := sm _ _ a1
      have b2 := sm _ _ b1
      have c2 := sm _ _ c1
      refine ⟨_, _, dp_lst (sm.seq sB), dp_nil (SqL.of upd_same), shaped_lst bs, shaped_nil, _, rfl, ?_⟩
      rw [eqv_nil]
      cases bs with
      | nil =>
        refine iteF ?_
        -- st[2] = st[2] + 1
        refine ⟨_, rfl, st, _, 2, _, rfl, rfl, SqL.of a2, atI_nat (j := 2) rfl, k, 1, rfl, rfl, _, rfl, _, rfl, st, _, 2, 2, rfl, rfl, a2, rfl, ?_⟩
        generalize hH3 : upd (upd H1 e (.lst [])) st (.lst ([V.ref big, V.ref cel, V.int k].set 2 (V.int (k + 1)))) = H3
        have a3 : H3 st = some (.lst [V.ref big, V.ref cel, V.int (k + 1)]) := by
          rw [← hH3]
          exact upd_same
        have b3 : H3 big = some (.lst (([] : List Int).map V.int)) := by
          rw [← hH3, upd_ne n1.symm]
          exact b2
        have c3 : H3 cel = some (.lst (cs.map V.int)) := by
          rw [← hH3, upd_ne n2.symm]
          exact c2
        have k3 : Kp st big H H3 := by
          rw [← hH3]
          exact (kp.trans (.new ne)).trans (.put (.inl rfl))
        have S3 := SqL.of (K := K) a3
        have C3 := SqL.of (K := K) c3
        have hl : 0 < cs.length := List.length_pos_iff.mpr q3
        have r0 : 0 ≤ (k + 1) % (cs.length : Int) := Int.emod_nonneg _ (by omega)
        have r1 : (k + 1) % (cs.length : Int) < (cs.length : Int) := Int.emod_lt_of_pos _ (by omega)
        obtain ⟨j, hj⟩ : ∃ j : Nat, (k + 1) % (cs.length : Int) = (j : Int) := ⟨_, (Int.toNat_of_nonneg r0).symm⟩
        have hjl : j < cs.length := by omega
        have hat : atI (cs.map V.int) ((k + 1) % (((cs.map V.int).length : Nat) : Int)) = some (V.int cs[j]) := by
          rw [List.length_map, hj]
          refine atI_nat ?_
          rw [List.getElem?_map, List.getElem?_eq_getElem hjl]
          rfl
        have hc0 : 0 ≤ cs[j] := q2 _ (List.getElem_mem hjl)
        -- cell
        refine ⟨.ref st, rfl, st, _, 1, .ref cel, rfl, rfl, S3, atI_nat (j := 1) rfl, _, rfl,
          .ref st, rfl, st, _, 1, .ref cel, rfl, rfl, S3, atI_nat (j := 1) rfl, cel, _, rfl, .inl C3, _, _, rfl, rfl, (by rw [List.length_map]; omega), cel, _, _, _, rfl, rfl, C3, hat, _, _, rfl, rfl, (show (0 : Int) < 2147483647 by decide), ?_⟩
        have e0 : 0 ≤ cs[j] % 2147483647 := Int.emod_nonneg _ (by decide)
        have e1 : cs[j] % 2147483647 < 2147483647 := Int.emod_lt_of_pos _ (by decide)
        generalize hcell : cs[j] % 2147483647 = cell at e0 e1 ⊢
        have kb : 0 ≤ k + 1 ∧ k + 1 ≤ 1000001 := by omega
        -- the mixture
        refine ⟨_, rfl, _, rfl, _, _, rfl, rfl, .inl ⟨by decide, by decide⟩, _, _, rfl, rfl, _, _, rfl, rfl, .inl ⟨by omega, by omega⟩, _, rfl, _, _, rfl, rfl, .inl ⟨by decide, by decide⟩, _, rfl, _, _, rfl, rfl, .inr ⟨by omega, by omega⟩, _, _, rfl, rfl, _, _, rfl, rfl, _, _, rfl, rfl, (show (0 : Int) < 2147483629 by decide), ?_⟩
        generalize hmx : cell * (69621 + 48271 * (k + 1)) + 30011 * (k + 1) * (k + 1) + 19 = mx
        have f0 : 0 ≤ mx % 2147483629 := Int.emod_nonneg _ (by decide)
        have f1 : mx % 2147483629 < 2147483629 := Int.emod_lt_of_pos _ (by decide)
        generalize mx % 2147483629 = my at f0 f1 ⊢
        refine ⟨_, rfl, _, rfl, _, _, rfl, rfl, .inl ⟨by omega, by omega⟩, _, _, rfl, rfl, (show (0 : Int) < 2147483587 by decide), _, _, rfl, rfl, ⟨by decide, by decide⟩, _, rfl, _, m, rfl, rfl, m0, ?_⟩
        refine q H3 _ (Int.emod_nonneg _ (by omega)) (Int.emod_lt_of_pos _ m0) ⟨n1, n2, n3, by omega, [], cs, k + 1, a3, b3, c3, fun _ z => (nomatch z), q2, q3, by omega, by omega, Nat.zero_le _, q7⟩ k3
      | cons b r =>
        refine iteT ?_
        have hb0 : 0 ≤ b := p1 b List.mem_cons_self
        refine ⟨.ref st, rfl, st, _, 0, .ref big, rfl, rfl, SqL.of a2, atI_nat (j := 0) rfl, big, _, 0, .int b, rfl, rfl, SqL.of b2, atI_nat (j := 0) rfl, ?_⟩
        refine ⟨_, rfl, b, 0, rfl, rfl, _, rfl, ite2 (fun hb1 => ?_) (fun hb1 => ?_)⟩
        · -- a digit
          refine ⟨_, rfl, _, rfl, b, m, rfl, rfl, ⟨m0, by omega⟩, .ref st, rfl, st, _, 0, .ref big, rfl, rfl, SqL.of a2, atI_nat (j := 0) rfl, big, _, 0, 0, rfl, rfl, b2, ixn (j := 0) (by simp), ?_⟩
          refine ⟨_, rfl, _, rfl, b, m, rfl, rfl, m0, ?_⟩
          refine q _ _ (Int.emod_nonneg _ (by omega)) (Int.emod_lt_of_pos _ m0) ⟨n1, n2, n3, by omega, (b / m) :: r, cs, k, ?_, ?_, ?_, ?_, q2, q3, q4, by omega, p2, q7⟩ ((kp.trans (.new ne)).trans (.put (.inr rfl)))
          · rw [upd_ne n1]
            exact a2
          · exact upd_same
          · rw [upd_ne n3.symm]
            exact c2
          · intro z hz
            rcases List.mem_cons.mp hz with rfl | hz
            · exact Int.ediv_nonneg hb0 (by omega)
            · exact p1 z (List.mem_cons_of_mem _ hz)
        · -- a number used up
          refine ⟨.ref st, rfl, st, _, 0, .ref big, rfl, rfl, SqL.of a2, atI_nat (j := 0) rfl, .inl ⟨rfl, _, SqL.of b2⟩, big, _, 0, 0, .int b, rfl, rfl, b2, (by decide), (by decide), ?_, rfl, ⟨r, _, rfl, ?_, upd_same, ?_, fun z hz => p1 z (List.mem_cons_of_mem _ hz), ?_, (kp.trans (.new ne)).trans (.put (.inr rfl))⟩, ?_⟩
          · exact seqIndex_of (by decide) (by simp)
          · rw [upd_ne n1]
            exact a2
          · rw [upd_ne n3.symm]
            exact c2
          · rw [List.length_cons] at p2
            omega
          · simp only [upd_same, b1]
            simp
    · rintro σ H1 Q1 Q2 hQ ⟨v1, e1, p, xs, i, v, h2, h3, h4, h5, h6, h7⟩
      refine ⟨v1, e1, p, xs, i, v, h2, h3, h4, h5, h6, fun e ne => ?_⟩
      obtain ⟨d1, d2, g1, g2, g3, g4, c, g5, g6⟩ := h7 e ne
      exact ⟨d1, d2, g1, g2, g3, g4, c, g5, hQ _ _ g6⟩
end

end Sv

namespace Sv
open PySem PySem.Spec PyProof.Rows L2
theorem sz {n : Nat} (h : n ≤ 1000) : n ≤ sizeLine := Nat.le_of_lt (small1000 h)
theorem yesT {σ : L2.St} {H : Hp} {A B : Hp → Prop} (h : A H) : tYes σ H (fun b H3 => if b = true then A H3 else B H3) := by
  show (if true = true then A H else B H)
  rw [if_pos rfl]
  exact h
theorem Same.put {H H' : Hp} {p : Addr} {o : HO} (h : H p = none) (e : Same H H') : Same H (upd H' p o) := fun c u q => by
  rw [upd_ne (ne_of_none q h)]
  exact e _ _ q
def absI (n : Int) : Int := if n < 0 then -n else n
theorem absI_nn (n : Int) : 0 ≤ absI n := by
  unfold absI
  split <;> omega
def spState (K : PySem.W.Frag) : Sp := fun vs H Q _ => ∃ (a : Addr) (ns : List Int), vs = [.ref a] ∧ SqL K H a (ns.map V.int) ∧ ns.length ≤ 63 ∧
  ∀ (H' : Hp) (st big cel : Addr), StAt H' st big cel 0 → Same H H' → H st = none → H big = none → H cel = none → Q (.ref st) H'
section
variable {P : Program} {w : World} {K : PySem.W.Frag} {mg : Str → Option Value} {base : Heap}
theorem ok_state {f : Addr} {fd : FuncData} (F : Fun K "_law_deck" "_law_deck" sState f fd) (ml : mg "len" = none) (ma : mg "abs" = none) : FnOk P w K mg base CX0 1 f fd ["_law_script"] (spState K) := by
  refine F.ok scState (fun vs H Q E h => ?_) (fun cdv A outer s H vs Q E hr h => ?_)
  · obtain ⟨a, ns, rfl, _⟩ := h
    rfl
  · obtain ⟨a, ns, rfl, hS, hlen, q⟩ := h
    refine ⟨_, pss_cons (ps_setLc (i := 1) (own := [("_law_cell", 2)]) (g := gName 2) (by rfl) scState.nd rfl rfl (sw_true rfl rfl rfl (by decide +kernel)) (pi_list (pv 0))
        (blkOk_by (own := [("_law_cell", 2)]) (N := ["_law_script", "_law_cells", "_law_cell"]) (sc := defScope sState) (by decide +kernel))
        (fun _ _ _ _ _ => pg_name (i := 2) scState.nd rfl (Or.inl rfl)) (fun _ _ _ _ _ => pts_nil)
        (fun _ _ _ _ _ => pe_callB call_abs (by rfl) ma (by decide +kernel) (pa_cons (pv 2) pa_nil)))
      (pss_one (ps_ret (pe_lst (pa_cons (pe_lc (own := [("_law_cell", 2)]) (g := gName 2) (by rfl) scState.nd (pi_list (pv 1))
          (blkOk_by (own := [("_law_cell", 2)]) (N := ["_law_script", "_law_cells", "_law_cell"]) (sc := defScope sState) (by decide +kernel))
          (fun _ _ _ _ _ => pg_name (i := 2) scState.nd rfl (Or.inl rfl))
          (fun _ _ _ _ _ => pts_one (pt_cmpR op_ge (pv 2) (pe_op op_pow pe_int pe_int) (nomark _)))
          (fun _ _ _ _ _ => pv 2))
        (pa_cons (pe_op op_cat (pv 1) (pe_lst (pa_cons (pe_op op_add (pe_callB call_len_seq (by rfl) ml PySem.boot_len (pa_cons (pv 1) pa_nil)) pe_int) pa_nil)))
        (pa_cons pe_int pa_nil)))))), ?_⟩
    refine ⟨_, rfl, a, rfl, ⟨_, hS⟩, fun c nc => ?_⟩
    refine lc_list (K := K) (a := a) (xs := ns.map V.int) (fun i H1 => Same H H1 ∧ H1 c = some (.lst ((ns.take i).map fun n => V.int (absI n))))
      ⟨Same.new nc, upd_same⟩ (fun i H1 _ p => p.1.seq hS) (fun i x H1 hx p => ?_) (fun H1 p => ?_)
    · obtain ⟨n, hn, rfl⟩ : ∃ n, ns[i]? = some n ∧ V.int n = x := by
        rw [List.getElem?_map] at hx
        cases e : ns[i]? with
        | none => rw [e] at hx; cases hx
        | some n => rw [e] at hx; exact ⟨n, rfl, Option.some.inj hx⟩
      refine ⟨rfl, ?_⟩
      refine yesT ?_
      refine ⟨_, rfl, n, rfl, _, p.2, ?_, Same.put nc p.1, ?_⟩
      · rw [List.length_map, List.length_take]
        exact Nat.lt_of_le_of_lt (Nat.min_le_right _ _) (small1000 (by omega))
      · rw [upd_same, List.take_add_one, hn, List.map_append]
        rfl
    · obtain ⟨sm, hc⟩ := p
      rw [List.length_map, List.take_length] at hc
      have hC : SqL K H1 c (ns.map fun n => V.int (absI n)) := SqL.of hc
      -- the large cells
      refine ⟨_, rfl, c, rfl, ⟨_, hC⟩, fun d nd => ?_⟩
      have ecs : (ns.map fun n => V.int (absI n)) = (ns.map absI).map V.int := by rw [List.map_map]; rfl
      refine lc_list (K := K) (a := c) (xs := (ns.map absI).map V.int) (fun i H2 => Same H1 H2 ∧ ∃ bs : List Int, H2 d = some (.lst (bs.map V.int)) ∧ bs.length ≤ i ∧ ∀ b ∈ bs, 0 ≤ b)
        ⟨Same.new nd, [], upd_same, Nat.le_refl _, fun _ z => (nomatch z)⟩ (fun i H2 _ p => ecs ▸ p.1.seq hC) (fun i x H2 hx p => ?_) (fun H2 p => ?_)
      · obtain ⟨n, hn, rfl⟩ : ∃ n, (ns.map absI)[i]? = some n ∧ V.int n = x := by
          rw [List.getElem?_map] at hx
          cases e : (ns.map absI)[i]? with
          | none => rw [e] at hx; cases hx
          | some n => rw [e] at hx; exact ⟨n, rfl, Option.some.inj hx⟩
        have hi : i < ns.length := by
          have := (List.getElem?_eq_some_iff.mp hn).1
          rw [List.length_map] at this
          exact this
        have hn0 : 0 ≤ n := by
          have := List.mem_of_getElem? hn
          obtain ⟨m, _, rfl⟩ := List.mem_map.mp this
          exact absI_nn m
        obtain ⟨sm2, bs, hb, hl, h0⟩ := p
        refine ⟨rfl, _, rfl, _, _, rfl, rfl, ⟨by decide, by decide, by decide⟩, _, _, rfl, rfl, _, rfl, ite2 (fun _ => ?_) (fun _ => ?_)⟩
        · refine ⟨_, rfl, _, hb, ?_, Same.put nd sm2, bs ++ [n], ?_, ?_, ?_⟩
          · rw [List.length_map]
            exact small1000 (by omega)
          · rw [upd_same, List.map_append]
            rfl
          · rw [List.length_append, List.length_singleton]
            omega
          · intro b hb
            rcases List.mem_append.mp hb with hb | hb
            · exact h0 b hb
            · rw [List.mem_singleton.mp hb]
              exact hn0
        · exact ⟨sm2, bs, hb, Nat.le_succ_of_le hl, h0⟩
      · obtain ⟨sm2, bs, hb, hl, h0⟩ := p
        rw [List.length_map, List.length_map] at hl
        have c2 := sm2 _ _ hc
        refine ⟨_, rfl, _, rfl, c, _, rfl, .inl (SqL.of c2), _, _, rfl, rfl, sz (by show 1 ≤ 1000; decide), fun e ne => ?_⟩
        have s3 : Same H2 (upd H2 e (.lst [V.int (((ns.map fun n => V.int (absI n)).length : Int) + 3)])) := Same.new ne
        refine ⟨c, e, _, _, rfl, rfl, s3 _ _ c2, upd_same, ?_, fun g ng => ?_⟩
        · rw [List.length_map, List.length_singleton]
          exact Nat.le_of_lt (small1000 (by omega))
        · have s4 := s3.trans (Same.new (o := .lst ((ns.map fun n => V.int (absI n)) ++ [V.int (((ns.map fun n => V.int (absI n)).length : Int) + 3)])) ng)
          refine ⟨sz (by show 3 ≤ 1000; decide), fun st nst => ?_⟩
          have s5 := s4.trans (Same.new (o := .lst [V.ref d, V.ref g, V.int 0]) nst)
          have dg : d ≠ g := ne_of_none (s3 _ _ hb) ng
          refine q _ st d g ⟨(ne_of_none (s4 _ _ hb) nst).symm, fun z => ?_, dg, by decide, bs, ns.map absI ++ [((ns.length : Int) + 3)], 0, upd_same, s5 _ _ hb, ?_, h0, ?_, by simp, Int.le_refl _, Int.le_refl _, by omega, ?_⟩
            ((sm.trans sm2).trans s5) ((sm.trans sm2).trans s4 |>.free nst) ((sm.free nd)) ((sm.trans sm2).trans s3 |>.free ng)
          · rw [z, upd_same] at nst
            cases nst
          · rw [upd_ne (fun z => by rw [← z, upd_same] at nst; cases nst), upd_same, List.map_append, ← ecs]
            simp
          · intro b hb
            rcases List.mem_append.mp hb with hb | hb
            · obtain ⟨m, _, rfl⟩ := List.mem_map.mp hb
              exact absI_nn m
            · rw [List.mem_singleton.mp hb]
              omega
          · rw [List.length_append, List.length_map, List.length_singleton]
            omega
end

end Sv

namespace Sv
open PySem PySem.Spec PyProof.Rows L2
/-! ### data whose text is short -/
structure Fine (n W : Nat) (d : PyData) : Prop where
  dep : d.depth ≤ n
  wei : d.weight ≤ W
  lay : d.canLay0 = true
  sho : d.showable = true
  ish : d.intsShort 40 = true
structure FineAll (n W : Nat) (ds : List PyData) : Prop where
  dep : PyData.depthAll ds ≤ n
  wei : PyData.weightAll ds ≤ W
  lay : PyData.canLayAll0 ds = true
  sho : PyData.showableAll ds = true
  ish : PyData.intsShortAll 40 ds = true
theorem fine_int {i : Int} (h : i.natAbs < 10 ^ 30) : Fine 0 101 (.int i) := by
  have hl : i.natAbs ≠ 0 → i.natAbs.log2 < 100 := fun h0 => (Nat.log2_lt h0).mpr (Nat.lt_trans h (by decide +kernel))
  have hl2 : i.natAbs.log2 < 1920 := by
    by_cases h0 : i.natAbs = 0
    · rw [h0]; decide
    · exact Nat.lt_trans (hl h0) (by decide)
  refine ⟨Nat.le_refl _, ?_, rfl, decide_eq_true hl2, decide_eq_true ?_⟩
  · simp only [PyData.weight]
    split
    · exact Nat.zero_le _
    · rename_i h0
      have : i.natAbs ≠ 0 := fun z => h0 (by rw [beq_iff_eq]; omega)
      have := hl this
      omega
  · have e := int_text_length_le10 (a := i) (k := 30) (by decide) h
    show (Str.ofString (toString i)).length ≤ 40
    rw [PySem.ofString_length]
    omega
theorem fine_none : Fine 0 101 .none := ⟨Nat.le_refl _, Nat.zero_le _, rfl, rfl, rfl⟩
theorem fine_bool (b : Bool) : Fine 0 101 (.bool b) := ⟨Nat.le_refl _, Nat.zero_le _, rfl, rfl, rfl⟩
theorem Fine.mono {n W m U : Nat} {d : PyData} (h : Fine n W d) (e : n ≤ m) (e2 : W ≤ U) : Fine m U d := ⟨Nat.le_trans h.dep e, Nat.le_trans h.wei e2, h.lay, h.sho, h.ish⟩
theorem FineAll.mono {n W m U : Nat} {d : List PyData} (h : FineAll n W d) (e : n ≤ m) (e2 : W ≤ U) : FineAll m U d := ⟨Nat.le_trans h.dep e, Nat.le_trans h.wei e2, h.lay, h.sho, h.ish⟩
theorem fine_nil : FineAll 0 0 [] := ⟨Nat.le_refl _, Nat.le_refl _, rfl, rfl, rfl⟩
theorem fine_cons {n W U : Nat} {d : PyData} {ds : List PyData} (h : Fine n W d) (hs : FineAll n U ds) : FineAll n (W + 1 + U) (d :: ds) := by
  refine ⟨?_, ?_, ?_, ?_, ?_⟩
  · simp only [PyData.depthAll]
    exact Nat.max_le.mpr ⟨h.dep, hs.dep⟩
  · have h1 := h.wei
    have h2 := hs.wei
    simp only [PyData.weightAll]
    omega
  · simp only [PyData.canLayAll0, h.lay, hs.lay, Bool.and_self]
  · simp only [PyData.showableAll, h.sho, hs.sho, Bool.and_self]
  · simp only [PyData.intsShortAll, h.ish, hs.ish, Bool.and_self]
theorem fine_list {n W : Nat} {ds : List PyData} (h : FineAll n W ds) : Fine (n + 1) W (.list ds) := by
  have h1 := h.dep
  refine ⟨by simp only [PyData.depth]; omega, h.wei, ?_, ?_, ?_⟩
  · simp only [PyData.canLay0, h.lay]
  · simp only [PyData.showable, h.sho]
  · simp only [PyData.intsShort, h.ish]
theorem fine_tuple {n W : Nat} {ds : List PyData} (h : FineAll n W ds) : Fine (n + 1) W (.tuple ds) := by
  have h1 := h.dep
  refine ⟨by simp only [PyData.depth]; omega, h.wei, ?_, ?_, ?_⟩
  · simp only [PyData.canLay0, h.lay]
  · simp only [PyData.showable, h.sho]
  · simp only [PyData.intsShort, h.ish]
theorem fine_all {n W : Nat} : ∀ {ds : List PyData}, (∀ d ∈ ds, Fine n W d) → FineAll n ((W + 1) * ds.length) ds
  | [], _ => fine_nil.mono (Nat.zero_le _) (Nat.zero_le _)
  | d :: ds, h => by
    have q := fine_cons (h d List.mem_cons_self) (fine_all fun x hx => h x (List.mem_cons_of_mem _ hx))
    refine q.mono (Nat.le_refl _) ?_
    rw [List.length_cons, Nat.mul_add, Nat.mul_one]
    omega
theorem fine_ints {ns : List Int} (h : ∀ n ∈ ns, n.natAbs < 10 ^ 30) : FineAll 0 (102 * ns.length) (iD ns) := by
  have q := fine_all (n := 0) (W := 101) (ds := iD ns) fun d hd => by
    obtain ⟨n, hn, rfl⟩ := List.mem_map.mp hd
    exact fine_int (h n hn)
  unfold iD at q ⊢
  rw [List.length_map] at q
  exact q
theorem Fine.len {n W : Nat} {d : PyData} (h : Fine n W d) (hW : W ≤ 300000) : d.shown.length ≤ sizeLine := by
  have q := PyData.shown_le 40 (by decide) d (PyData.leavesShort_of_canLay0 40 d h.lay h.ish)
  have := h.wei
  rw [sizeLine_eq]
  omega
theorem Fine.shown {K : PySem.W.Frag} {H : Hp} {v : V} {n W : Nat} {d : PyData} (h : Fine n W d) (hn : n ≤ 60) (hW : W ≤ 300000) (hd : Dp K H v d) (hi : isDisplay d = true) : Shown K H v d :=
  ⟨hd, hi, h.sho, PyData.hasDict_of_canLay d h.lay, Nat.le_trans h.dep hn, h.len hW⟩
theorem Fine.shaped {n W : Nat} {d : PyData} (h : Fine n W d) (hn : n ≤ 60) : SeqAt.shaped d = true := by
  have := h.dep
  show (d.canLay0 && decide (d.depth ≤ 64)) = true
  rw [h.lay, Bool.true_and]
  exact decide_eq_true (by omega)

end Sv

namespace Sv
open PySem PySem.Spec PyProof.Rows L2
abbrev sMixed : Stmt := topS 7
theorem scMixed : FnScope ["_law_deck_here", "_law_items", "_law_left", "_law_found"] ["_law_deck_here", "_law_items"] (defScope sMixed) := ⟨rfl, rfl, rfl, by decide +kernel, rfl, by decide +kernel, by decide +kernel⟩
theorem Kp.put' {a b : Addr} {H H1 : Hp} {p : Addr} {o : HO} (h : H p = none) (e : Kp a b H H1) : Kp a b H (upd H1 p o) := fun c u h1 h2 q => by
  rw [upd_ne (ne_of_none q h)]
  exact e _ _ h1 h2 q
theorem erase_perm {α : Type} : ∀ (l : List α) (i : Nat) (x : α), l[i]? = some x → (x :: l.eraseIdx i).Perm l
  | [], i, x, h => by simp at h
  | a :: r, 0, x, h => by
    have e : a = x := Option.some.inj h
    subst e
    exact .refl _
  | a :: r, i + 1, x, h => (List.Perm.swap a x _).trans ((erase_perm r i x h).cons a)
theorem eraseIdx_map {α β : Type} (f : α → β) : ∀ (l : List α) (i : Nat), (l.map f).eraseIdx i = (l.eraseIdx i).map f
  | [], _ => rfl
  | _ :: _, 0 => rfl
  | a :: r, i + 1 => by
    show f a :: (r.map f).eraseIdx i = f a :: (r.eraseIdx i).map f
    rw [eraseIdx_map f r i]
theorem at_map {α β : Type} {f : α → β} {l : List α} {i : Nat} {x : α} (h : l[i]? = some x) : (l.map f)[i]? = some (f x) := by
  rw [List.getElem?_map, h]
  rfl
theorem of_at_map {α β : Type} {f : α → β} {l : List α} {i : Nat} {y : β} (h : (l.map f)[i]? = some y) : ∃ x, l[i]? = some x ∧ f x = y := by
  rw [List.getElem?_map] at h
  cases e : l[i]? with
  | none => rw [e] at h; cases h
  | some x => rw [e] at h; exact ⟨x, rfl, Option.some.inj h⟩
/-! ### lines: places and numbers -/
abbrev Ln := Addr × List Int
def lr (ps : List Ln) : List V := ps.map fun p => V.ref p.1
structure Lns (K : PySem.W.Frag) (H : Hp) (ps : List Ln) (c : Nat) : Prop where
  sq : ∀ p ∈ ps, SqT K H p.1 (p.2.map V.int)
  ln : ∀ p ∈ ps, p.2.length = c
  nb : ∀ p ∈ ps, ∀ x ∈ p.2, 0 ≤ x ∧ x ≤ 10
  c6 : c ≤ 6
  n5 : ps.length ≤ 5
def lD (ps : List Ln) : PyData := .list (ps.map fun p => .tuple (iD p.2))
section
variable {K : PySem.W.Frag} {H H' : Hp} {ps qs : List Ln} {c : Nat}
theorem Lns.keep (h : Lns K H ps c) (e : ∀ (a : Addr) (xs : List V), SqT K H a xs → SqT K H' a xs) : Lns K H' ps c := ⟨fun p hp => e _ _ (h.sq p hp), h.ln, h.nb, h.c6, h.n5⟩
theorem Same.tup {a : Addr} {xs : List V} (e : Same H H') (q : SqT K H a xs) : SqT K H' a xs := by
  rcases q with (q | ⟨o, q⟩) | q
  · exact .inl (.inl (e _ _ q))
  · exact .inl (.inr ⟨o, e _ _ q⟩)
  · exact .inr q
theorem Lns.same (h : Lns K H ps c) (e : Same H H') : Lns K H' ps c := h.keep fun _ _ q => Same.tup e q
theorem Lns.sub (h : Lns K H ps c) (e : ∀ p ∈ qs, p ∈ ps) (hl : qs.length ≤ ps.length) : Lns K H qs c := ⟨fun p hp => h.sq p (e p hp), fun p hp => h.ln p (e p hp), fun p hp => h.nb p (e p hp), h.c6, Nat.le_trans hl h.n5⟩
theorem Lns.perm (h : Lns K H ps c) (e : qs.Perm ps) : Lns K H qs c := h.sub (fun p hp => e.mem_iff.mp hp) (Nat.le_of_eq e.length_eq)
theorem Lns.take (h : Lns K H ps c) (n : Nat) : Lns K H (ps.take n) c := h.sub (fun p hp => List.mem_of_mem_take hp) (List.length_take_le' ..)
theorem lns_dps : ∀ {ps : List Ln}, (∀ p ∈ ps, SqT K H p.1 (p.2.map V.int)) → DpAll K H (lr ps) (ps.map fun p => .tuple (iD p.2))
  | [], _ => .nil
  | p :: r, h => .cons (dp_tup (h p List.mem_cons_self)) (lns_dps fun q hq => h q (List.mem_cons_of_mem _ hq))
theorem Lns.dp (h : Lns K H ps c) {a : Addr} (ha : SqL K H a (lr ps)) : Dp K H (.ref a) (lD ps) := .lst ha (lns_dps h.sq)
theorem Lns.fine (h : Lns K H ps c) : Fine 2 5000 (lD ps) := by
  have q := fine_all (n := 1) (W := 612) (ds := ps.map fun p => PyData.tuple (iD p.2)) fun d hd => by
    obtain ⟨p, hp, rfl⟩ := List.mem_map.mp hd
    have := h.ln p hp
    have := h.c6
    refine (fine_tuple (fine_ints fun n hn => ?_)).mono (Nat.le_refl _) (by omega)
    have := h.nb p hp n hn
    have : n.natAbs ≤ 10 := by omega
    exact Nat.lt_of_le_of_lt this (by decide)
  refine (fine_list q).mono (Nat.le_refl _) ?_
  rw [List.length_map]
  have := h.n5
  omega
theorem Lns.shaped (h : Lns K H ps c) : SeqAt.shaped (lD ps) = true := h.fine.shaped (by decide)
end
def spMixed (K : PySem.W.Frag) : Sp := fun vs H Q _ => ∃ (st big cel a : Addr) (n : Nat) (ps : List Ln) (c : Nat), vs = [.ref st, .ref a] ∧ SqL K H a (lr ps) ∧ Lns K H ps c ∧
  StAt H st big cel n ∧ n + ps.length ≤ 1000000 ∧
  ∀ (H' : Hp) (t : Addr) (qs : List Ln), H t = none → H' t = some (.lst (lr qs)) → qs.Perm ps → StAt H' st big cel (n + ps.length) → Kp st big H H' → Q (.ref t) H'
section
variable {P : Program} {w : World} {K : PySem.W.Frag} {mg : Str → Option Value} {base : Heap}
theorem ok_mixed {f fD : Addr} {fd fdD : FuncData} (F : Fun K "_law_order" "_law_order" sMixed f fd) (FD : Fun K "_law_next" "_law_next" sDraw fD fdD) (bD : Binds K fdD ["_law_deck_here", "_law_many"] [])
    (gD : mg "_law_next" = some (.ref fD)) (ml : mg "len" = none) (mli : mg "list" = none) : FnOk P w K mg base CX0 2 f fd ["_law_deck_here", "_law_items"] (spMixed K) := by
  have GD : FnOk P w K mg base CX0 1 fD fdD ["_law_deck_here", "_law_many"] spDraw := ok_draw FD ml
  refine F.ok scMixed (fun vs H Q E h => ?_) (fun cdv A outer s H vs Q E hr h => ?_)
  · obtain ⟨st, big, cel, a, n, ps, c, rfl, _⟩ := h
    rfl
  · obtain ⟨st, big, cel, a, n, ps, c, rfl, hA, hL, hS, hn, q⟩ := h
    refine ⟨_, pss_cons (ps_par (i := 2) (j := 3) (by rfl) scMixed.nd rfl rfl (by decide) rfl rfl (pa_cons (pe_callTy call_list_of (by rfl) mli (by decide +kernel) (pa_cons (pv 1) pa_nil)) (pa_cons (pe_lst pa_nil) pa_nil)) (by rfl))
      (pss_cons (ps_while PassesOwn.never (pt_cmpR (op_neD hr.units) (pv 2) (pe_lst pa_nil) (nomark _))
        (pss_one (ps_expr (pe_bm PySem.F.plainAttrs_list PySem.F.slot_list_append PySem.F.type_list_append mt_append (pv 3)
          (pa_cons (pe_bm PySem.F.plainAttrs_list PySem.F.slot_list_pop PySem.F.type_list_pop mt_popAt (pv 2)
            (pa_cons (pe_call GD hr (by rfl) gD FD.kp bD .nil pass0 (pa_cons (pv 0) (pa_cons (pe_callB call_len_seq (by rfl) ml PySem.boot_len (pa_cons (pv 2) pa_nil)) pa_nil))) pa_nil)) pa_nil)))))
      (pss_one (ps_ret (pv 3)))), ?_⟩
    refine ⟨.ref a, rfl, a, _, rfl, .inl hA, fun l nl => ⟨sz (Nat.zero_le _), fun g ng => ?_⟩⟩
    have sl : Same H (upd H l (.lst (lr ps))) := Same.new nl
    have ng0 : H g = none := sl.free ng
    have lg : l ≠ g := fun z => by
      rw [← z, upd_same] at ng
      cases ng
    have snel := hS.ne nl
    have sneg := hS.ne ng0
    refine ⟨_, _, rfl, ?_⟩
    refine while_by (fun σ H1 => ∃ (ls fs : List Ln), σ = [some (.ref st), some (.ref a), some (.ref l), some (.ref g)] ∧ H1 l = some (.lst (lr ls)) ∧ H1 g = some (.lst (lr fs)) ∧
        (fs ++ ls).Perm ps ∧ StAt H1 st big cel (n + fs.length) ∧ Kp st big H H1)
      (fun σ H1 => match H1 l with | some (.lst xs) => xs.length | _ => 0) ⟨ps, [], rfl, ?_, upd_same, .refl _, ?_, ?_⟩ ?_ ?_
    · rw [upd_ne lg]
      exact upd_same
    · exact (hS.same sl).same (Same.new ng)
    · exact Kp.put' ng0 (Kp.put' nl (.refl H))
    · rintro σ H1 ⟨ls, fs, rfl, hl, hg, hp, hS1, kp⟩
      have hpl := hp.length_eq
      rw [List.length_append] at hpl
      have hps5 := hL.n5
      have hL1 : Lns K H1 ls c := (hL.keep fun _ _ q => hS.tup kp q).sub (fun p hp' => hp.mem_iff.mp (List.mem_append.mpr (.inr hp'))) (by omega)
      refine ⟨.ref l, rfl, sz (Nat.zero_le _), fun e ne => ?_⟩
      have sm : Same H1 (upd H1 e (.lst [])) := Same.new ne
      have hl2 := sm _ _ hl
      have hg2 := sm _ _ hg
      have hS2 := hS1.same sm
      refine ⟨_, _, (hL1.same sm).dp (SqL.of hl2), dp_nil (SqL.of upd_same), hL1.shaped, shaped_nil, _, rfl, ?_⟩
      unfold lD
      rw [eqv_nil]
      generalize hH2 : upd H1 e (.lst []) = H2 at hl2 hg2 hS2 sm ⊢
      have kp2 : Kp st big H H2 := kp.trans (.of sm)
      cases ls with
      | nil =>
        refine iteF ?_
        rw [List.append_nil] at hp
        refine ⟨.ref g, rfl, ?_⟩
        refine q _ g fs ng0 hg2 hp ?_ kp2
        rw [← hp.length_eq]
        exact hS2
      | cons b r =>
        refine iteT ?_
        rw [List.length_cons] at hpl
        refine ⟨.ref g, rfl, .inl ⟨rfl, _, SqL.of hg2⟩, .ref l, rfl, .inl ⟨rfl, _, SqL.of hl2⟩, .ref st, rfl, .ref l, rfl, l, _, rfl, .inl (SqL.of hl2),
          st, big, cel, n + fs.length, _, rfl, ?_, ?_, hS2, by omega, fun H3 v v0 v1 hS3 k3 => ?_⟩
        · rw [lr, List.length_map, List.length_cons]
          omega
        · rw [lr, List.length_map, List.length_cons]
          omega
        · rw [lr, List.length_map] at v1
          obtain ⟨i, rfl⟩ : ∃ i : Nat, v = (i : Int) := ⟨v.toNat, (Int.toNat_of_nonneg v0).symm⟩
          have hi : i < (b :: r).length := by omega
          have hl3 := k3 _ _ snel.1.symm snel.2.1.symm hl2
          have hg3 := k3 _ _ sneg.1.symm sneg.2.1.symm hg2
          have hat := List.getElem?_eq_getElem hi
          refine ⟨l, _, i, i, _, rfl, rfl, hl3, by omega, by rw [List.length_cons] at hi; omega, ?_, at_map hat, ?_⟩
          · have e := seqIndex_of (k := (i : Int)) (n := (lr (b :: r)).length) (by omega) (by rw [lr, List.length_map]; omega)
            rw [e, Int.toNat_natCast]
          · rw [lr, eraseIdx_map]
            refine ⟨g, lr fs, _, rfl, rfl, ?_, ?_, ⟨(b :: r).eraseIdx i, fs ++ [(b :: r)[i]], rfl, ?_, ?_, ?_, ?_, ?_⟩, ?_⟩
            · rw [upd_ne lg.symm]
              exact hg3
            · rw [lr, List.length_map]
              exact Nat.lt_of_le_of_lt (by omega : fs.length ≤ 1000) (by decide)
            · rw [upd_ne lg]
              exact upd_same
            · rw [upd_same, lr, lr, List.map_append]
              rfl
            · rw [List.append_assoc]
              exact ((erase_perm _ _ _ hat).append_left fs).trans hp
            · have st3 : StAt H3 st big cel (n + (fs ++ [(b :: r)[i]]).length) := by
                rw [List.length_append, List.length_singleton, ← Nat.add_assoc]
                exact hS3
              obtain ⟨h1, h2, h3, h4, bs, cs, k, d1, d2, d3, d4⟩ := st3
              refine ⟨h1, h2, h3, h4, bs, cs, k, ?_, ?_, ?_, d4⟩
              · rw [upd_ne sneg.1, upd_ne snel.1]
                exact d1
              · rw [upd_ne sneg.2.1, upd_ne snel.2.1]
                exact d2
              · rw [upd_ne sneg.2.2, upd_ne snel.2.2]
                exact d3
            · exact Kp.put' ng0 (Kp.put' nl (kp2.trans k3))
            · have e1 : (upd (upd H3 l (.lst (((b :: r).eraseIdx i).map fun p => V.ref p.1))) g (.lst (lr fs ++ [V.ref (b :: r)[i].1]))) l = some (.lst (((b :: r).eraseIdx i).map fun p => V.ref p.1)) := by
                rw [upd_ne lg]
                exact upd_same
              simp only [lr] at e1 hl ⊢
              simp only [e1, hl, List.length_map]
              have := List.length_eraseIdx_of_lt hi
              rw [this, List.length_cons]
              omega
    · rintro σ H1 Q1 Q2 hQ ⟨v1, e1, z1, h7⟩
      refine ⟨v1, e1, z1, fun e ne => ?_⟩
      obtain ⟨d1, d2, g1, g2, g3, g4, c, g5, g6⟩ := h7 e ne
      exact ⟨d1, d2, g1, g2, g3, g4, c, g5, hQ _ _ g6⟩
end

end Sv

namespace Sv
open PySem PySem.Spec PyProof.Rows L2
/-! ### least and greatest -/
def minI : List Int → Int
  | [] => 0
  | [a] => a
  | a :: b :: r => if a ≤ minI (b :: r) then a else minI (b :: r)
def maxI : List Int → Int
  | [] => 0
  | [a] => a
  | a :: b :: r => if minI [a] ≤ maxI (b :: r) then maxI (b :: r) else a
theorem minI_spec : ∀ (l : List Int), l ≠ [] → minI l ∈ l ∧ ∀ y ∈ l, minI l ≤ y
  | [], h => absurd rfl h
  | [a], _ => ⟨by simp [minI], fun y hy => by simp at hy; subst hy; exact Int.le_refl _⟩
  | a :: b :: r, _ => by
    obtain ⟨h1, h2⟩ := minI_spec (b :: r) (by simp)
    show (if a ≤ minI (b :: r) then a else minI (b :: r)) ∈ _ ∧ ∀ y ∈ _, (if a ≤ minI (b :: r) then a else minI (b :: r)) ≤ y
    by_cases h : a ≤ minI (b :: r)
    · rw [if_pos h]
      refine ⟨List.mem_cons_self, fun y hy => ?_⟩
      rcases List.mem_cons.mp hy with rfl | hy
      · exact Int.le_refl _
      · exact Int.le_trans h (h2 y hy)
    · rw [if_neg h]
      refine ⟨List.mem_cons_of_mem _ h1, fun y hy => ?_⟩
      rcases List.mem_cons.mp hy with rfl | hy
      · omega
      · exact h2 y hy
theorem maxI_spec : ∀ (l : List Int), l ≠ [] → maxI l ∈ l ∧ ∀ y ∈ l, y ≤ maxI l
  | [], h => absurd rfl h
  | [a], _ => ⟨by simp [maxI], fun y hy => by simp at hy; subst hy; exact Int.le_refl _⟩
  | a :: b :: r, _ => by
    obtain ⟨h1, h2⟩ := maxI_spec (b :: r) (by simp)
    show (if a ≤ maxI (b :: r) then maxI (b :: r) else a) ∈ _ ∧ ∀ y ∈ _, y ≤ (if a ≤ maxI (b :: r) then maxI (b :: r) else a)
    by_cases h : a ≤ maxI (b :: r)
    · rw [if_pos h]
      refine ⟨List.mem_cons_of_mem _ h1, fun y hy => ?_⟩
      rcases List.mem_cons.mp hy with rfl | hy
      · exact h
      · exact h2 y hy
    · rw [if_neg h]
      refine ⟨List.mem_cons_self, fun y hy => ?_⟩
      rcases List.mem_cons.mp hy with rfl | hy
      · exact Int.le_refl _
      · have := h2 y hy
        omega
theorem minI_of {l : List Int} {m : Int} (h : m ∈ l) (g : ∀ y ∈ l, m ≤ y) : m = minI l := by
  obtain ⟨h1, h2⟩ := minI_spec l (fun e => by rw [e] at h; cases h)
  exact Int.le_antisymm (g _ h1) (h2 _ h)
theorem maxI_of {l : List Int} {m : Int} (h : m ∈ l) (g : ∀ y ∈ l, y ≤ m) : m = maxI l := by
  obtain ⟨h1, h2⟩ := maxI_spec l (fun e => by rw [e] at h; cases h)
  exact Int.le_antisymm (h2 _ h) (g _ h1)
theorem minI_perm {l r : List Int} (h : l.Perm r) : minI l = minI r := by
  cases l with
  | nil => rw [h.nil_eq]
  | cons a l =>
    obtain ⟨h1, h2⟩ := minI_spec (a :: l) (by simp)
    exact minI_of (h.mem_iff.mp h1) fun y hy => h2 y (h.mem_iff.mpr hy)
theorem maxI_perm {l r : List Int} (h : l.Perm r) : maxI l = maxI r := by
  cases l with
  | nil => rw [h.nil_eq]
  | cons a l =>
    obtain ⟨h1, h2⟩ := maxI_spec (a :: l) (by simp)
    exact maxI_of (h.mem_iff.mp h1) fun y hy => h2 y (h.mem_iff.mpr hy)
def colI (ps : List Ln) (i : Nat) : List Int := ps.map fun p => p.2.getD i 0
def lowsI (ps : List Ln) (c : Nat) : List Int := (List.range c).map fun i => minI (colI ps i)
def highsI (ps : List Ln) (c : Nat) : List Int := (List.range c).map fun i => maxI (colI ps i)
theorem lowsI_perm {ps qs : List Ln} (h : ps.Perm qs) (c : Nat) : lowsI ps c = lowsI qs c := by
  unfold lowsI
  exact List.map_congr_left fun i _ => minI_perm (h.map _)
theorem highsI_perm {ps qs : List Ln} (h : ps.Perm qs) (c : Nat) : highsI ps c = highsI qs c := by
  unfold highsI
  exact List.map_congr_left fun i _ => maxI_perm (h.map _)
abbrev sLower : Stmt := topS 1
abbrev sUpper : Stmt := topS 2
theorem scLower : FnScope ["lines", "numbers"] ["lines"] (defScope sLower) := ⟨rfl, rfl, rfl, by decide +kernel, rfl, by decide +kernel, by decide +kernel⟩
theorem scUpper : FnScope ["lines", "numbers"] ["lines"] (defScope sUpper) := ⟨rfl, rfl, rfl, by decide +kernel, rfl, by decide +kernel, by decide +kernel⟩
/-- one of the two: g tells a place's number from its column -/
def spEnd (K : PySem.W.Frag) (g : List Ln → Nat → List Int) : Sp := fun vs H Q _ => ∃ (ps : List Ln) (c : Nat), vs = lr ps ∧ Lns K H ps c ∧ 1 ≤ ps.length ∧
  ∀ (H' : Hp) (t : Addr), Same H H' → H t = none → H' t = some (.tup ((g ps c).map V.int)) → Q (.ref t) H'
def spEnd1 (K : PySem.W.Frag) (g : List Ln → Nat → List Int) : Sp := fun vs H Q _ => ∃ (a : Addr) (ps : List Ln) (c : Nat), vs = [.ref a] ∧ SqT K H a (lr ps) ∧ Lns K H ps c ∧ 1 ≤ ps.length ∧
  ∀ (H' : Hp) (t : Addr), Same H H' → H t = none → H' t = some (.tup ((g ps c).map V.int)) → Q (.ref t) H'
section
variable {P : Program} {w : World} {K : PySem.W.Frag} {mg : Str → Option Value} {base : Heap}
theorem ok_lower {f : Addr} {fd : FuncData} (F : Fun K "lower_line" "lower_line" sLower f fd) (hb : BStar fd "lines") (mmi : mg "min" = none) (mtu : mg "tuple" = none) (mzi : mg "zip" = none) :
    FnR P w K mg base CX0 1 f (spEnd K lowsI) := by
  refine (Fun.star (sp := spEnd1 K lowsI) F scLower hb fun cdv A outer s H vs Q E hr h => ?_).imp fun vs H Q E h => ?_
  · obtain ⟨a, ps, c, rfl, hA, hL, h1, q⟩ := h
    refine ⟨_, pss_one (ps_ret (pe_callTy call_tuple_of (by rfl) mtu (by decide +kernel) (pa_cons (pe_lc (own := [("numbers", 1)]) (g := gName 1) (by rfl) scLower.nd (pi_zipS (by rfl) mzi (pv 0))
          (blkOk_by (own := [("numbers", 1)]) (N := ["lines", "numbers"]) (sc := defScope sLower) (by decide +kernel))
          (fun _ _ _ _ _ => pg_name (i := 1) scLower.nd rfl (Or.inl rfl)) (fun _ _ _ _ _ => pts_nil)
          (fun _ _ _ _ _ => pe_callB (r := rMinT K) (cr_minT rfl) (by rfl) mmi (by decide +kernel) (pa_cons (pv 1) pa_nil))) pa_nil))), ?_⟩
    have h5 := hL.n5
    have hc6 := hL.c6
    have hrefs : (ps.map (·.1)).map V.ref = lr ps := by
      rw [List.map_map]
      rfl
    have hcol : ∀ (j i : Nat) (p : Ln), ps[j]? = some p → i < c → (p.2.map V.int)[i]? = ((colI ps i).map V.int)[j]? := fun j i p hj hi => by
      rw [List.getElem?_map, List.getElem?_map, colI, List.getElem?_map, hj]
      have hl := hL.ln p (List.mem_of_getElem? hj)
      rw [List.getElem?_eq_getElem (by omega)]
      simp [List.getD_eq_getElem?_getD, List.getElem?_eq_getElem (show i < p.2.length by omega)]
    refine ⟨.ref a, rfl, a, ps.map (·.1), rfl, by rw [hrefs]; exact hA, by rw [List.length_map]; exact h1, by rw [List.length_map]; exact h5, fun l hl => ?_, fun D nD => ?_⟩
    · obtain ⟨p, hp, rfl⟩ := List.mem_map.mp hl
      exact ⟨_, hL.sq p hp⟩
    refine lc_it (walk_zipN (K := K) (ls := ps.map (·.1)) (n := c) (cols := fun i => (colI ps i).map V.int) (fun i hi => by rw [List.length_map, colI, List.length_map, List.length_map]) (by rw [List.length_map]; exact h1)) (fun i H' => Same H H' ∧ H' D = some (.lst (((lowsI ps c).take i).map V.int))) ⟨Same.new nD, upd_same⟩
      (fun i H' _ z j l hl => ?_) (fun i v H' H'' hi z y => ?_) (fun H1 z => ?_)
    · obtain ⟨p, hp, rfl⟩ := of_at_map hl
      have hm := List.mem_of_getElem? hp
      exact ⟨_, Same.tup z.1 (hL.sq p hm), by rw [List.length_map]; exact hL.ln p hm, fun i hi => hcol j i p hp hi⟩
    · obtain ⟨T, rfl, nT, rfl⟩ := y
      have sT : Same H' (upd H' T (.tup ((colI ps i).map V.int))) := Same.new nT
      have hcl : (colI ps i).length = ps.length := by rw [colI, List.length_map]
      refine ⟨rfl, yesT ⟨.ref T, rfl, T, colI ps i, rfl, .inl (.inl upd_same), by rw [hcl]; exact h1, fun m hm hmin => ⟨_, sT _ _ z.2, ?_, Same.put nD (z.1.trans sT), ?_⟩⟩⟩
      · rw [List.length_map, List.length_take]
        exact small1000 (by omega)
      · have e : (lowsI ps c)[i]? = some m := by
          unfold lowsI
          rw [List.getElem?_map, List.getElem?_range hi]
          exact congrArg some (minI_of hm hmin).symm
        rw [upd_same, List.take_add_one, e, List.map_append]
        rfl
    · obtain ⟨s1, hD⟩ := z
      have el : (lowsI ps c).length = c := by
        unfold lowsI
        rw [List.length_map, List.length_range]
      rw [List.take_of_length_le (by omega)] at hD
      refine ⟨D, _, rfl, .inl ⟨SqL.of hD, fun t nt => ?_⟩⟩
      exact q _ t (s1.trans (Same.new nt)) (s1.free nt) upd_same
  · obtain ⟨ps, c, rfl, hL, h1, q⟩ := h
    have h5 := hL.n5
    refine ⟨by rw [lr, List.length_map]; exact sz (by omega), fun p np => ?_⟩
    have s1 : Same H (upd H p (.tup (lr ps))) := Same.new np
    exact ⟨p, ps, c, rfl, .inl (.inl upd_same), hL.same s1, h1, fun H' t s2 nt ht => q H' t (s1.trans s2) (s1.free nt) ht⟩
theorem ok_upper {f : Addr} {fd : FuncData} (F : Fun K "upper_line" "upper_line" sUpper f fd) (hb : BStar fd "lines") (mma : mg "max" = none) (mtu : mg "tuple" = none) (mzi : mg "zip" = none) :
    FnR P w K mg base CX0 1 f (spEnd K highsI) := by
  refine (Fun.star (sp := spEnd1 K highsI) F scUpper hb fun cdv A outer s H vs Q E hr h => ?_).imp fun vs H Q E h => ?_
  · obtain ⟨a, ps, c, rfl, hA, hL, h1, q⟩ := h
    refine ⟨_, pss_one (ps_ret (pe_callTy call_tuple_of (by rfl) mtu (by decide +kernel) (pa_cons (pe_lc (own := [("numbers", 1)]) (g := gName 1) (by rfl) scUpper.nd (pi_zipS (by rfl) mzi (pv 0))
          (blkOk_by (own := [("numbers", 1)]) (N := ["lines", "numbers"]) (sc := defScope sUpper) (by decide +kernel))
          (fun _ _ _ _ _ => pg_name (i := 1) scUpper.nd rfl (Or.inl rfl)) (fun _ _ _ _ _ => pts_nil)
          (fun _ _ _ _ _ => pe_callB (r := rMaxT K) (cr_maxT rfl) (by rfl) mma (by decide +kernel) (pa_cons (pv 1) pa_nil))) pa_nil))), ?_⟩
    have h5 := hL.n5
    have hc6 := hL.c6
    have hrefs : (ps.map (·.1)).map V.ref = lr ps := by
      rw [List.map_map]
      rfl
    have hcol : ∀ (j i : Nat) (p : Ln), ps[j]? = some p → i < c → (p.2.map V.int)[i]? = ((colI ps i).map V.int)[j]? := fun j i p hj hi => by
      rw [List.getElem?_map, List.getElem?_map, colI, List.getElem?_map, hj]
      have hl := hL.ln p (List.mem_of_getElem? hj)
      rw [List.getElem?_eq_getElem (by omega)]
      simp [List.getD_eq_getElem?_getD, List.getElem?_eq_getElem (show i < p.2.length by omega)]
    refine ⟨.ref a, rfl, a, ps.map (·.1), rfl, by rw [hrefs]; exact hA, by rw [List.length_map]; exact h1, by rw [List.length_map]; exact h5, fun l hl => ?_, fun D nD => ?_⟩
    · obtain ⟨p, hp, rfl⟩ := List.mem_map.mp hl
      exact ⟨_, hL.sq p hp⟩
    refine lc_it (walk_zipN (K := K) (ls := ps.map (·.1)) (n := c) (cols := fun i => (colI ps i).map V.int) (fun i hi => by rw [List.length_map, colI, List.length_map, List.length_map]) (by rw [List.length_map]; exact h1)) (fun i H' => Same H H' ∧ H' D = some (.lst (((highsI ps c).take i).map V.int))) ⟨Same.new nD, upd_same⟩
      (fun i H' _ z j l hl => ?_) (fun i v H' H'' hi z y => ?_) (fun H1 z => ?_)
    · obtain ⟨p, hp, rfl⟩ := of_at_map hl
      have hm := List.mem_of_getElem? hp
      exact ⟨_, Same.tup z.1 (hL.sq p hm), by rw [List.length_map]; exact hL.ln p hm, fun i hi => hcol j i p hp hi⟩
    · obtain ⟨T, rfl, nT, rfl⟩ := y
      have sT : Same H' (upd H' T (.tup ((colI ps i).map V.int))) := Same.new nT
      have hcl : (colI ps i).length = ps.length := by rw [colI, List.length_map]
      refine ⟨rfl, yesT ⟨.ref T, rfl, T, colI ps i, rfl, .inl (.inl upd_same), by rw [hcl]; exact h1, fun m hm hmin => ⟨_, sT _ _ z.2, ?_, Same.put nD (z.1.trans sT), ?_⟩⟩⟩
      · rw [List.length_map, List.length_take]
        exact small1000 (by omega)
      · have e : (highsI ps c)[i]? = some m := by
          unfold highsI
          rw [List.getElem?_map, List.getElem?_range hi]
          exact congrArg some (maxI_of hm hmin).symm
        rw [upd_same, List.take_add_one, e, List.map_append]
        rfl
    · obtain ⟨s1, hD⟩ := z
      have el : (highsI ps c).length = c := by
        unfold highsI
        rw [List.length_map, List.length_range]
      rw [List.take_of_length_le (by omega)] at hD
      refine ⟨D, _, rfl, .inl ⟨SqL.of hD, fun t nt => ?_⟩⟩
      exact q _ t (s1.trans (Same.new nt)) (s1.free nt) upd_same
  · obtain ⟨ps, c, rfl, hL, h1, q⟩ := h
    have h5 := hL.n5
    refine ⟨by rw [lr, List.length_map]; exact sz (by omega), fun p np => ?_⟩
    have s1 : Same H (upd H p (.tup (lr ps))) := Same.new np
    exact ⟨p, ps, c, rfl, .inl (.inl upd_same), hL.same s1, h1, fun H' t s2 nt ht => q H' t (s1.trans s2) (s1.free nt) ht⟩
end

end Sv

namespace Sv
open PySem PySem.Spec PyProof.Rows L2
abbrev sEnds : Stmt := topS 8
abbrev nEnds : List Str := ["_law_cuts", "_law_low", "_law_high", "_law_process", "_law_numbers", "_law_cut"]
theorem scEnds : FnScope nEnds ["_law_cuts"] (defScope sEnds) := ⟨rfl, rfl, rfl, by decide +kernel, rfl, by decide +kernel, by decide +kernel⟩
def spEnds (K : PySem.W.Frag) : Sp := fun vs H Q _ => ∃ (a : Addr) (ps : List Ln) (c : Nat), vs = [.ref a] ∧ SqL K H a (lr ps) ∧ Lns K H ps c ∧ 1 ≤ ps.length ∧
  ∀ (H' : Hp) (l x y : Addr), Same H H' → H l = none → H' l = some (.lst [.ref x, .ref y]) → H' x = some (.tup ((lowsI ps c).map V.int)) → H' y = some (.tup ((highsI ps c).map V.int)) → Q (.ref l) H'
theorem atI_last {xs : List V} {v : V} (h : xs.getLast? = some v) : atI xs (-1) = some v := by
  have hl : 0 < xs.length := by
    cases xs with
    | nil => simp at h
    | cons a r => simp
  unfold atI ixN
  rw [if_neg (by decide)]
  rw [List.getLast?_eq_getElem?] at h
  have e : ((-1 : Int) + (xs.length : Int)).toNat = xs.length - 1 := by omega
  first
    | (rw [if_pos (by omega)]; show xs[_]? = _; rw [e]; exact h)
    | (simp; omega)
theorem sorted_head {l r : List Int} (hp : r.Perm l) (hs : r.Pairwise (· ≤ ·)) (hne : l ≠ []) : r[0]? = some (minI l) ∧ r.getLast? = some (maxI l) := by
  cases r with
  | nil => exact absurd hp.nil_eq.symm hne
  | cons a r =>
    constructor
    · show some a = _
      refine congrArg some (minI_of (hp.mem_iff.mp List.mem_cons_self) fun y hy => ?_)
      rcases List.mem_cons.mp (hp.mem_iff.mpr hy) with rfl | h
      · exact Int.le_refl _
      · exact (List.pairwise_cons.mp hs).1 y h
    · obtain ⟨m, hm⟩ : ∃ m, (a :: r).getLast? = some m := by
        cases e : (a :: r).getLast? with
        | none => simp at e
        | some m => exact ⟨m, rfl⟩
      rw [hm]
      refine congrArg some (maxI_of (hp.mem_iff.mp (List.mem_of_getLast? hm)) fun y hy => ?_)
      obtain ⟨i, hi⟩ := List.getElem?_of_mem (hp.mem_iff.mpr hy)
      rw [List.getLast?_eq_getElem?] at hm
      have hil := (List.getElem?_eq_some_iff.mp hi).1
      have hml := (List.getElem?_eq_some_iff.mp hm).1
      by_cases e : i = (a :: r).length - 1
      · rw [e, hm] at hi
        cases hi
        exact Int.le_refl _
      · have := List.pairwise_iff_getElem.mp hs i ((a :: r).length - 1) hil hml (by omega)
        rw [List.getElem?_eq_getElem hil] at hi
        rw [List.getElem?_eq_getElem hml] at hm
        cases hi
        cases hm
        exact this
section
variable {P : Program} {w : World} {K : PySem.W.Frag} {mg : Str → Option Value} {base : Heap}
theorem ok_ends {f : Addr} {fd : FuncData} (F : Fun K "_law_ends" "_law_ends" sEnds f fd) (ml : mg "len" = none) (mra : mg "range" = none) (mso : mg "sorted" = none) (mtu : mg "tuple" = none) : FnOk P w K mg base CX0 1 f fd ["_law_cuts"] (spEnds K) := by
  refine F.ok scEnds (fun vs H Q E h => ?_) (fun cdv A outer s H vs Q E hr h => ?_)
  · obtain ⟨a, ps, c, rfl, _⟩ := h
    rfl
  · obtain ⟨a, ps, c, rfl, hA, hL, h1, q⟩ := h
    have nd := scEnds.nd
    refine ⟨_, pss_cons (ps_par (i := 1) (j := 2) (by rfl) nd rfl rfl (by decide) rfl rfl (pa_cons (pe_lst pa_nil) (pa_cons (pe_lst pa_nil) pa_nil)) (by rfl))
      (pss_cons (ps_for PassesOwn.never rfl (pi_range1 (by rfl) mra (pa_cons (pe_callB call_len_seq (by rfl) ml PySem.boot_len (pa_cons (pe_ix ix_list (pv 0) pe_int (fun _ _ => rfl)) pa_nil)) pa_nil)) (pg_name (i := 3) nd rfl (.inr rfl))
        (pss_cons (ps_set (i := 4) nd rfl (.inl rfl) (pe_callB cr_sorted (by rfl) mso (by decide +kernel) (pa_cons (pe_lc (own := [("_law_cut", 5)]) (g := gName 5) (by rfl) nd (pi_list (pv 0))
            (blkOk_by (own := [("_law_cut", 5)]) (N := nEnds) (sc := defScope sEnds) (by decide +kernel))
            (fun _ _ _ _ _ => pg_name (i := 5) nd rfl (Or.inl rfl)) (fun _ _ _ _ _ => pts_nil)
            (fun _ _ _ _ _ => pe_ix (r := rIxT K) ix_tup (pv 5) (pv 3) (fun _ _ => rfl))) pa_nil)))
        (pss_cons (ps_expr (pe_bm PySem.F.plainAttrs_list PySem.F.slot_list_append PySem.F.type_list_append mt_append (pv 1) (pa_cons (pe_ix ix_list (pv 4) pe_int (fun _ _ => rfl)) pa_nil)))
        (pss_one (ps_expr (pe_bm PySem.F.plainAttrs_list PySem.F.slot_list_append PySem.F.type_list_append mt_append (pv 2) (pa_cons (pe_ix ix_list (pv 4) (pe_un un_neg pe_int) (fun _ _ => rfl)) pa_nil)))))))
      (pss_one (ps_ret (pe_lst (pa_cons (pe_callTy call_tuple_of (by rfl) mtu (by decide +kernel) (pa_cons (pv 1) pa_nil)) (pa_cons (pe_callTy call_tuple_of (by rfl) mtu (by decide +kernel) (pa_cons (pv 2) pa_nil)) pa_nil)))))), ?_⟩
    have h5 := hL.n5
    have hc6 := hL.c6
    obtain ⟨p0, hp0⟩ : ∃ p0, ps[0]? = some p0 := ⟨_, List.getElem?_eq_getElem (by omega)⟩
    have hm0 := List.mem_of_getElem? hp0
    refine ⟨sz (Nat.zero_le _), fun l nl => ⟨sz (Nat.zero_le _), fun g ng => ⟨_, _, rfl, ?_⟩⟩⟩
    have ng0 : H g = none := (Same.new nl).free ng
    have lg : l ≠ g := fun z => by
      rw [← z, upd_same] at ng
      cases ng
    have s2 : Same H (upd (upd H l (.lst [])) g (.lst [])) := (Same.new nl).trans (Same.new ng)
    have hl2 : (upd (upd H l (.lst [])) g (.lst [])) l = some (.lst []) := by rw [upd_ne lg, upd_same]
    have hg2 : (upd (upd H l (.lst [])) g (.lst [])) g = some (.lst []) := upd_same
    generalize upd (upd H l (.lst [])) g (.lst []) = H2 at s2 hl2 hg2 ⊢
    refine ⟨.ref a, rfl, a, _, 0, .ref p0.1, rfl, rfl, s2.seq hA, atI_nat (j := 0) (at_map hp0), p0.1, _, rfl, .inr (Same.tup s2 (hL.sq p0 hm0)), (c : Int), by rw [List.length_map, hL.ln p0 hm0], by omega, by omega, ?_⟩
    refine for_range (lo := 0) (n := c) (fun i σ H' => ∃ (x3 x4 x5 : Option V), σ = [some (.ref a), some (.ref l), some (.ref g), x3, x4, x5] ∧ Same H H' ∧ H' l = some (.lst (((lowsI ps c).take i).map V.int)) ∧ H' g = some (.lst (((highsI ps c).take i).map V.int)))
      ⟨_, _, _, rfl, s2, hl2, hg2⟩ ?_ ?_
    · rintro i σ H3 hi ⟨x3, x4, x5, rfl, s3, hl3, hg3⟩
      refine ⟨.ref a, rfl, a, rfl, ⟨_, s3.seq hA⟩, fun D nD => ?_⟩
      refine lc_list (K := K) (a := a) (xs := lr ps) (fun j H' => Same H3 H' ∧ H' D = some (.lst (((colI ps i).take j).map V.int))) ⟨Same.new nD, upd_same⟩ (fun j H' _ z => (s3.trans z.1).seq hA) (fun j x H' hx z => ?_) (fun H4 z => ?_)
      · obtain ⟨p, hp, rfl⟩ := of_at_map hx
        have hm := List.mem_of_getElem? hp
        have hpl := hL.ln p hm
        have hv : p.2[i]? = some (p.2.getD i 0) := by
          rw [List.getD_eq_getElem?_getD, List.getElem?_eq_getElem (show i < p.2.length by omega)]
          rfl
        have hjl : j < ps.length := (List.getElem?_eq_some_iff.mp hp).1
        refine ⟨rfl, yesT ⟨.ref p.1, rfl, _, rfl, p.1, _, _, V.int (p.2.getD i 0), rfl, rfl, Same.tup (s3.trans z.1) (hL.sq p hm), by rw [Int.zero_add]; exact atI_nat (at_map hv), _, z.2, ?_, Same.put nD z.1, ?_⟩⟩
        · rw [List.length_map, List.length_take]
          exact small1000 (by omega)
        · have e : (colI ps i)[j]? = some (p.2.getD i 0) := at_map hp
          rw [upd_same, List.take_add_one, e, List.map_append]
          rfl
      · obtain ⟨s4, hD⟩ := z
        have hcl : (colI ps i).length = ps.length := by rw [colI, List.length_map]
        rw [List.take_of_length_le (by rw [hcl, lr, List.length_map]; exact Nat.le_refl _)] at hD
        refine ⟨D, _, rfl, SqL.of hD, by omega, fun ns S0 hp hs nS => ?_⟩
        obtain ⟨hmin, hmax⟩ := sorted_head hp hs (fun e => by rw [e] at hcl; simp at hcl; omega)
        have s5 := s4.trans (Same.new (o := .lst (ns.map V.int)) nS)
        have hS : (upd H4 S0 (.lst (ns.map V.int))) S0 = some (.lst (ns.map V.int)) := upd_same
        generalize upd H4 S0 (.lst (ns.map V.int)) = H5 at s5 hS ⊢
        have hl5 := s5 _ _ hl3
        have hg5 := s5 _ _ hg3
        have el : (lowsI ps c)[i]? = some (minI (colI ps i)) := by
          unfold lowsI
          rw [List.getElem?_map, List.getElem?_range hi]
          rfl
        have eh : (highsI ps c)[i]? = some (maxI (colI ps i)) := by
          unfold highsI
          rw [List.getElem?_map, List.getElem?_range hi]
          rfl
        have Sl : S0 ≠ l := fun e => by rw [e, s4 _ _ hl3] at nS; cases nS
        have Sg : S0 ≠ g := fun e => by rw [e, s4 _ _ hg3] at nS; cases nS
        have nl0 := nl
        refine ⟨.ref l, rfl, .inl ⟨rfl, _, SqL.of hl5⟩, .ref S0, rfl, S0, _, 0, _, rfl, rfl, SqL.of hS, atI_nat (j := 0) (at_map hmin), l, _, _, rfl, rfl, hl5, ?_, ?_⟩
        · rw [List.length_map, List.length_take]
          exact small1000 (by omega)
        have hS6 : (upd H5 l (.lst (((lowsI ps c).take i).map V.int ++ [V.int (minI (colI ps i))]))) S0 = some (.lst (ns.map V.int)) := by rw [upd_ne Sl]; exact hS
        have hg6 : (upd H5 l (.lst (((lowsI ps c).take i).map V.int ++ [V.int (minI (colI ps i))]))) g = some (.lst (((highsI ps c).take i).map V.int)) := by rw [upd_ne lg.symm]; exact hg5
        refine ⟨.ref g, rfl, .inl ⟨rfl, _, SqL.of hg6⟩, .ref S0, rfl, 1, rfl, S0, _, -1, _, rfl, rfl, SqL.of hS6, atI_last (by rw [List.getLast?_map, hmax]; rfl), g, _, _, rfl, rfl, hg6, ?_, ?_⟩
        · rw [List.length_map, List.length_take]
          exact small1000 (by omega)
        refine ⟨_, _, _, rfl, Same.put ng0 (Same.put nl (s3.trans s5)), ?_, ?_⟩
        · rw [upd_ne lg, upd_same, List.take_add_one, el, List.map_append]
          rfl
        · rw [upd_same, List.take_add_one, eh, List.map_append]
          rfl
    · rintro σ H3 ⟨x3, x4, x5, rfl, s3, hl3, hg3⟩
      have ell : (lowsI ps c).length = c := by rw [lowsI, List.length_map, List.length_range]
      have elh : (highsI ps c).length = c := by rw [highsI, List.length_map, List.length_range]
      rw [List.take_of_length_le (by omega)] at hl3 hg3
      refine ⟨.ref l, rfl, l, _, rfl, .inl ⟨SqL.of hl3, fun x nx => ?_⟩⟩
      have s4 : Same H3 (upd H3 x (.tup ((lowsI ps c).map V.int))) := Same.new nx
      refine ⟨.ref g, rfl, g, _, rfl, .inl ⟨SqL.of (s4 _ _ hg3), fun y ny => ?_⟩⟩
      have s5 : Same (upd H3 x (.tup ((lowsI ps c).map V.int))) (upd (upd H3 x (.tup ((lowsI ps c).map V.int))) y (.tup ((highsI ps c).map V.int))) := Same.new ny
      refine ⟨sz (by show 2 ≤ 1000; decide), fun L nL => ?_⟩
      have s6 := Same.new (o := .lst [.ref x, .ref y]) nL
      have s7 := (s3.trans s4).trans (s5.trans s6)
      exact q _ L x y s7 (((s3.trans s4).trans s5).free nL) upd_same (s6 _ _ (s5 _ _ upd_same)) (s6 _ _ upd_same)
end

end Sv

namespace Sv
open PySem PySem.Spec PyProof.Rows L2
theorem iteE {x y : V} {A B : Prop} (e : x = y) (h : A) : if decide (x = y) = true then A else B := by
  rw [if_pos (decide_eq_true e)]
  exact h
theorem iteN {x y : V} {A B : Prop} (e : x ≠ y) (h : B) : if decide (x = y) = true then A else B := by
  rw [if_neg (by rw [decide_eq_false e]; exact Bool.false_ne_true)]
  exact h
abbrev sTold : Stmt := topS 9
abbrev nTold : List Str := ["_law_cuts", "_law_one", "_law_other", "_law_second", "_law_third", "_law_fourth"]
theorem scTold : FnScope nTold ["_law_cuts"] (defScope sTold) := ⟨rfl, rfl, rfl, by decide +kernel, rfl, by decide +kernel, by decide +kernel⟩
def spTold (K : PySem.W.Frag) : Sp := fun vs H Q _ => ∃ (a : Addr) (ps : List Ln) (c : Nat), vs = [.ref a] ∧ SqL K H a (lr ps) ∧ Lns K H ps c ∧ 1 ≤ ps.length ∧
  ∀ (H' : Hp) (l x y : Addr), Same H H' → H l = none → H' l = some (.lst [.ref x, .ref y]) → H' x = some (.tup ((lowsI ps c).map V.int)) → H' y = some (.tup ((highsI ps c).map V.int)) → Q (.ref l) H'
section
variable {P : Program} {w : World} {K : PySem.W.Frag} {mg : Str → Option Value} {base : Heap}
theorem ok_told {f fL fU : Addr} {fd fdL fdU : FuncData} (F : Fun K "_law_told" "_law_told" sTold f fd) (FL : Fun K "lower_line" "lower_line" sLower fL fdL) (bL : BStar fdL "lines") (gL : mg "lower_line" = some (.ref fL))
    (FU : Fun K "upper_line" "upper_line" sUpper fU fdU) (bU : BStar fdU "lines") (gU : mg "upper_line" = some (.ref fU)) (ml : mg "len" = none) (mmi : mg "min" = none) (mma : mg "max" = none) (mtu : mg "tuple" = none) (mzi : mg "zip" = none) : FnOk P w K mg base CX0 2 f fd ["_law_cuts"] (spTold K) := by
  have GL : FnR P w K mg base CX0 1 fL (spEnd K lowsI) := ok_lower FL bL mmi mtu mzi
  have GU : FnR P w K mg base CX0 1 fU (spEnd K highsI) := ok_upper FU bU mma mtu mzi
  refine F.ok scTold (fun vs H Q E h => ?_) (fun cdv A outer s H vs Q E hr h => ?_)
  · obtain ⟨a, ps, c, rfl, _⟩ := h
    rfl
  · obtain ⟨a, ps, c, rfl, hA, hL, h1, q⟩ := h
    have nd := scTold.nd
    refine ⟨_, pss_cons (ps_par (i := 1) (j := 2) (by rfl) nd rfl rfl (by decide) rfl rfl (pa_cons (pe_ix ix_list (pv 0) pe_int (fun _ _ => rfl)) (pa_cons (pe_ix ix_list (pv 0) (pe_un un_neg pe_int) (fun _ _ => rfl)) pa_nil)) (by rfl))
      (pss_cons (ps_if (pt_cmpR op_eq (pe_callB call_len_seq (by rfl) ml PySem.boot_len (pa_cons (pv 0) pa_nil)) pe_int (nomark _)) (pss_one (ps_ret (pe_lst (pa_cons (pe_callN GL hr FL.kp (by rfl) gL pass0 (pa_cons (pv 1) pa_nil)) (pa_cons (pe_callN GU hr FU.kp (by rfl) gU pass0 (pa_cons (pv 1) pa_nil)) pa_nil))))) pss_nil)
      (pss_cons (ps_if (pt_cmpR op_eq (pe_callB call_len_seq (by rfl) ml PySem.boot_len (pa_cons (pv 0) pa_nil)) pe_int (nomark _)) (pss_one (ps_ret (pe_lst (pa_cons (pe_callN GL hr FL.kp (by rfl) gL pass0 (pa_cons (pv 1) (pa_cons (pv 2) pa_nil))) (pa_cons (pe_callN GU hr FU.kp (by rfl) gU pass0 (pa_cons (pv 1) (pa_cons (pv 2) pa_nil))) pa_nil))))) pss_nil)
      (pss_cons (ps_set (i := 3) nd rfl (.inl rfl) (pe_ix ix_list (pv 0) pe_int (fun _ _ => rfl)))
      (pss_cons (ps_if (pt_cmpR op_eq (pe_callB call_len_seq (by rfl) ml PySem.boot_len (pa_cons (pv 0) pa_nil)) pe_int (nomark _)) (pss_one (ps_ret (pe_lst (pa_cons (pe_callN GL hr FL.kp (by rfl) gL pass0 (pa_cons (pv 1) (pa_cons (pv 3) (pa_cons (pv 2) pa_nil)))) (pa_cons (pe_callN GU hr FU.kp (by rfl) gU pass0 (pa_cons (pv 1) (pa_cons (pv 3) (pa_cons (pv 2) pa_nil)))) pa_nil))))) pss_nil)
      (pss_cons (ps_set (i := 4) nd rfl (.inl rfl) (pe_ix ix_list (pv 0) pe_int (fun _ _ => rfl)))
      (pss_cons (ps_if (pt_cmpR op_eq (pe_callB call_len_seq (by rfl) ml PySem.boot_len (pa_cons (pv 0) pa_nil)) pe_int (nomark _)) (pss_one (ps_ret (pe_lst (pa_cons (pe_callN GL hr FL.kp (by rfl) gL pass0 (pa_cons (pv 1) (pa_cons (pv 3) (pa_cons (pv 4) (pa_cons (pv 2) pa_nil))))) (pa_cons (pe_callN GU hr FU.kp (by rfl) gU pass0 (pa_cons (pv 1) (pa_cons (pv 3) (pa_cons (pv 4) (pa_cons (pv 2) pa_nil))))) pa_nil))))) pss_nil)
      (pss_cons (ps_set (i := 5) nd rfl (.inl rfl) (pe_ix ix_list (pv 0) pe_int (fun _ _ => rfl)))
      (pss_one (ps_ret (pe_lst (pa_cons (pe_callN GL hr FL.kp (by rfl) gL pass0 (pa_cons (pv 1) (pa_cons (pv 3) (pa_cons (pv 4) (pa_cons (pv 5) (pa_cons (pv 2) pa_nil)))))) (pa_cons (pe_callN GU hr FU.kp (by rfl) gU pass0 (pa_cons (pv 1) (pa_cons (pv 3) (pa_cons (pv 4) (pa_cons (pv 5) (pa_cons (pv 2) pa_nil)))))) pa_nil)))))))))))), ?_⟩
    have h5 := hL.n5
    match ps, h1, h5, hA, hL, q with
    | [p1], h1, _, hA, hL, q =>
      refine ⟨.ref a, rfl, a, _, 0, .ref p1.1, rfl, rfl, hA, rfl, .ref a, rfl, 1, rfl, a, _, -1, .ref p1.1, rfl, rfl, hA, rfl, _, _, rfl, ?_⟩
      refine ⟨.ref a, rfl, a, _, rfl, .inl hA, rfl, _, rfl, iteE (by simp [lr]) ?_⟩
      refine ⟨.ref p1.1, rfl, [p1], c, rfl, hL, h1, fun H1 t1 s1 nt1 ht1 => ⟨.ref p1.1, rfl, [p1], c, rfl, hL.same s1, h1, fun H2 t2 s2 nt2 ht2 => ⟨sz (by show 2 ≤ 1000; decide), fun L nL => ?_⟩⟩⟩
      have s3 := Same.new (o := .lst [.ref t1, .ref t2]) nL
      exact q _ L t1 t2 ((s1.trans s2).trans s3) ((s1.trans s2).free nL) upd_same (s3 _ _ (s2 _ _ ht1)) (s3 _ _ ht2)
    | [p1, p2], h1, _, hA, hL, q =>
      refine ⟨.ref a, rfl, a, _, 0, .ref p1.1, rfl, rfl, hA, rfl, .ref a, rfl, 1, rfl, a, _, -1, .ref p2.1, rfl, rfl, hA, rfl, _, _, rfl, ?_⟩
      refine ⟨.ref a, rfl, a, _, rfl, .inl hA, rfl, _, rfl, iteN (by simp [lr]) ?_⟩
      refine ⟨.ref a, rfl, a, _, rfl, .inl hA, rfl, _, rfl, iteE (by simp [lr]) ?_⟩
      refine ⟨.ref p1.1, rfl, .ref p2.1, rfl, [p1, p2], c, rfl, hL, h1, fun H1 t1 s1 nt1 ht1 => ⟨.ref p1.1, rfl, .ref p2.1, rfl, [p1, p2], c, rfl, hL.same s1, h1, fun H2 t2 s2 nt2 ht2 => ⟨sz (by show 2 ≤ 1000; decide), fun L nL => ?_⟩⟩⟩
      have s3 := Same.new (o := .lst [.ref t1, .ref t2]) nL
      exact q _ L t1 t2 ((s1.trans s2).trans s3) ((s1.trans s2).free nL) upd_same (s3 _ _ (s2 _ _ ht1)) (s3 _ _ ht2)
    | [p1, p2, p3], h1, _, hA, hL, q =>
      refine ⟨.ref a, rfl, a, _, 0, .ref p1.1, rfl, rfl, hA, rfl, .ref a, rfl, 1, rfl, a, _, -1, .ref p3.1, rfl, rfl, hA, rfl, _, _, rfl, ?_⟩
      refine ⟨.ref a, rfl, a, _, rfl, .inl hA, rfl, _, rfl, iteN (by simp [lr]) ?_⟩
      refine ⟨.ref a, rfl, a, _, rfl, .inl hA, rfl, _, rfl, iteN (by simp [lr]) ?_⟩
      refine ⟨.ref a, rfl, a, _, 1, .ref p2.1, rfl, rfl, hA, rfl, ?_⟩
      refine ⟨.ref a, rfl, a, _, rfl, .inl hA, rfl, _, rfl, iteE (by simp [lr]) ?_⟩
      refine ⟨.ref p1.1, rfl, .ref p2.1, rfl, .ref p3.1, rfl, [p1, p2, p3], c, rfl, hL, h1, fun H1 t1 s1 nt1 ht1 => ⟨.ref p1.1, rfl, .ref p2.1, rfl, .ref p3.1, rfl, [p1, p2, p3], c, rfl, hL.same s1, h1, fun H2 t2 s2 nt2 ht2 => ⟨sz (by show 2 ≤ 1000; decide), fun L nL => ?_⟩⟩⟩
      have s3 := Same.new (o := .lst [.ref t1, .ref t2]) nL
      exact q _ L t1 t2 ((s1.trans s2).trans s3) ((s1.trans s2).free nL) upd_same (s3 _ _ (s2 _ _ ht1)) (s3 _ _ ht2)
    | [p1, p2, p3, p4], h1, _, hA, hL, q =>
      refine ⟨.ref a, rfl, a, _, 0, .ref p1.1, rfl, rfl, hA, rfl, .ref a, rfl, 1, rfl, a, _, -1, .ref p4.1, rfl, rfl, hA, rfl, _, _, rfl, ?_⟩
      refine ⟨.ref a, rfl, a, _, rfl, .inl hA, rfl, _, rfl, iteN (by simp [lr]) ?_⟩
      refine ⟨.ref a, rfl, a, _, rfl, .inl hA, rfl, _, rfl, iteN (by simp [lr]) ?_⟩
      refine ⟨.ref a, rfl, a, _, 1, .ref p2.1, rfl, rfl, hA, rfl, ?_⟩
      refine ⟨.ref a, rfl, a, _, rfl, .inl hA, rfl, _, rfl, iteN (by simp [lr]) ?_⟩
      refine ⟨.ref a, rfl, a, _, 2, .ref p3.1, rfl, rfl, hA, rfl, ?_⟩
      refine ⟨.ref a, rfl, a, _, rfl, .inl hA, rfl, _, rfl, iteE (by simp [lr]) ?_⟩
      refine ⟨.ref p1.1, rfl, .ref p2.1, rfl, .ref p3.1, rfl, .ref p4.1, rfl, [p1, p2, p3, p4], c, rfl, hL, h1, fun H1 t1 s1 nt1 ht1 => ⟨.ref p1.1, rfl, .ref p2.1, rfl, .ref p3.1, rfl, .ref p4.1, rfl, [p1, p2, p3, p4], c, rfl, hL.same s1, h1, fun H2 t2 s2 nt2 ht2 => ⟨sz (by show 2 ≤ 1000; decide), fun L nL => ?_⟩⟩⟩
      have s3 := Same.new (o := .lst [.ref t1, .ref t2]) nL
      exact q _ L t1 t2 ((s1.trans s2).trans s3) ((s1.trans s2).free nL) upd_same (s3 _ _ (s2 _ _ ht1)) (s3 _ _ ht2)
    | [p1, p2, p3, p4, p5], h1, _, hA, hL, q =>
      refine ⟨.ref a, rfl, a, _, 0, .ref p1.1, rfl, rfl, hA, rfl, .ref a, rfl, 1, rfl, a, _, -1, .ref p5.1, rfl, rfl, hA, rfl, _, _, rfl, ?_⟩
      refine ⟨.ref a, rfl, a, _, rfl, .inl hA, rfl, _, rfl, iteN (by simp [lr]) ?_⟩
      refine ⟨.ref a, rfl, a, _, rfl, .inl hA, rfl, _, rfl, iteN (by simp [lr]) ?_⟩
      refine ⟨.ref a, rfl, a, _, 1, .ref p2.1, rfl, rfl, hA, rfl, ?_⟩
      refine ⟨.ref a, rfl, a, _, rfl, .inl hA, rfl, _, rfl, iteN (by simp [lr]) ?_⟩
      refine ⟨.ref a, rfl, a, _, 2, .ref p3.1, rfl, rfl, hA, rfl, ?_⟩
      refine ⟨.ref a, rfl, a, _, rfl, .inl hA, rfl, _, rfl, iteN (by simp [lr]) ?_⟩
      refine ⟨.ref a, rfl, a, _, 3, .ref p4.1, rfl, rfl, hA, rfl, ?_⟩
      refine ⟨.ref p1.1, rfl, .ref p2.1, rfl, .ref p3.1, rfl, .ref p4.1, rfl, .ref p5.1, rfl, [p1, p2, p3, p4, p5], c, rfl, hL, h1, fun H1 t1 s1 nt1 ht1 => ⟨.ref p1.1, rfl, .ref p2.1, rfl, .ref p3.1, rfl, .ref p4.1, rfl, .ref p5.1, rfl, [p1, p2, p3, p4, p5], c, rfl, hL.same s1, h1, fun H2 t2 s2 nt2 ht2 => ⟨sz (by show 2 ≤ 1000; decide), fun L nL => ?_⟩⟩⟩
      have s3 := Same.new (o := .lst [.ref t1, .ref t2]) nL
      exact q _ L t1 t2 ((s1.trans s2).trans s3) ((s1.trans s2).free nL) upd_same (s3 _ _ (s2 _ _ ht1)) (s3 _ _ ht2)
    | [], h, _, _, _, _ => exact absurd h (by decide)
    | _ :: _ :: _ :: _ :: _ :: _ :: _, _, h, _, _, _ => simp at h
end

end Sv

namespace Sv
open PySem PySem.Spec PyProof.Rows L2
abbrev sLaw : Stmt := topS 10
abbrev nLaw : List Str := ["_law_script", "_law_deck_here", "_law_turn", "_law_count", "_law_most", "_law_cuts", "_law_k", "_law_size", "_law_before", "_law_due", "_law_some", "_law_process"]
theorem scLaw : FnScope nLaw ["_law_script"] (defScope sLaw) := ⟨rfl, rfl, rfl, by decide +kernel, rfl, by decide +kernel, by decide +kernel⟩
def spLaw (K : PySem.W.Frag) : Sp := fun vs H Q _ => ∃ (a : Addr) (ns : List Int), vs = [.ref a] ∧ SqL K H a (ns.map V.int) ∧ ns.length ≤ 63 ∧ ∀ H', Q (.bl true) H'
def endsD (ps : List Ln) (c : Nat) : PyData := .list [.tuple (iD (lowsI ps c)), .tuple (iD (highsI ps c))]
def twiceD (d : PyData) : PyData := .list [d, d]
theorem ends_small {K : PySem.W.Frag} {H : Hp} {ps : List Ln} {c : Nat} (h : Lns K H ps c) (h1 : 1 ≤ ps.length) : (∀ n ∈ lowsI ps c, n.natAbs < 10 ^ 30) ∧ (∀ n ∈ highsI ps c, n.natAbs < 10 ^ 30) ∧ (lowsI ps c).length ≤ 6 ∧ (highsI ps c).length ≤ 6 := by
  have hc := h.c6
  have col : ∀ i, i < c → ∀ x ∈ colI ps i, x.natAbs < 10 ^ 30 := fun i hi x hx => by
    obtain ⟨p, hp, rfl⟩ := List.mem_map.mp hx
    have hl := h.ln p hp
    have e : p.2.getD i 0 ∈ p.2 := by
      rw [List.getD_eq_getElem?_getD, List.getElem?_eq_getElem (show i < p.2.length by omega)]
      exact List.getElem_mem _
    have := h.nb p hp _ e
    have : (p.2.getD i 0).natAbs ≤ 10 := by omega
    exact Nat.lt_of_le_of_lt this (by decide)
  have ne : ∀ i, colI ps i ≠ [] := fun i e => by
    have := congrArg List.length e
    rw [colI, List.length_map, List.length_nil] at this
    omega
  refine ⟨fun n hn => ?_, fun n hn => ?_, by rw [lowsI, List.length_map, List.length_range]; exact hc, by rw [highsI, List.length_map, List.length_range]; exact hc⟩
  · obtain ⟨i, hi, rfl⟩ := List.mem_map.mp hn
    exact col i (List.mem_range.mp hi) _ (minI_spec _ (ne i)).1
  · obtain ⟨i, hi, rfl⟩ := List.mem_map.mp hn
    exact col i (List.mem_range.mp hi) _ (maxI_spec _ (ne i)).1
theorem endsD_fine {K : PySem.W.Frag} {H : Hp} {ps : List Ln} {c : Nat} (h : Lns K H ps c) (h1 : 1 ≤ ps.length) : Fine 2 2000 (endsD ps c) := by
  obtain ⟨a1, a2, a3, a4⟩ := ends_small h h1
  have f1 := (fine_tuple (fine_ints a1)).mono (m := 1) (U := 700) (Nat.le_refl _) (by omega)
  have f2 := (fine_tuple (fine_ints a2)).mono (m := 1) (U := 700) (Nat.le_refl _) (by omega)
  exact (fine_list (fine_cons f1 (fine_cons f2 (fine_nil.mono (Nat.zero_le _) (Nat.le_refl _))))).mono (Nat.le_refl _) (by omega)
theorem twiceD_fine {K : PySem.W.Frag} {H : Hp} {ps : List Ln} {c : Nat} (h : Lns K H ps c) (h1 : 1 ≤ ps.length) : Fine 3 5000 (twiceD (endsD ps c)) := by
  have f1 := endsD_fine h h1
  exact (fine_list (fine_cons f1 (fine_cons f1 (fine_nil.mono (Nat.zero_le _) (Nat.le_refl _))))).mono (Nat.le_refl _) (by omega)
/-- a list of both ends -/
def IsEnds (H : Hp) (l : Addr) (ps : List Ln) (c : Nat) : Prop := ∃ x y, H l = some (.lst [.ref x, .ref y]) ∧ H x = some (.tup ((lowsI ps c).map V.int)) ∧ H y = some (.tup ((highsI ps c).map V.int))
theorem IsEnds.same {H H' : Hp} {l : Addr} {ps : List Ln} {c : Nat} (h : IsEnds H l ps c) (e : Same H H') : IsEnds H' l ps c := by
  obtain ⟨x, y, h1, h2, h3⟩ := h
  exact ⟨x, y, e _ _ h1, e _ _ h2, e _ _ h3⟩
theorem IsEnds.kp {K : PySem.W.Frag} {H H' : Hp} {st big cel : Addr} {n : Nat} {l : Addr} {ps : List Ln} {c : Nat} (h : IsEnds H l ps c) (hS : StAt H st big cel n) (e : Kp st big H H') (nl : l ≠ st ∧ l ≠ big) : IsEnds H' l ps c := by
  obtain ⟨x, y, h1, h2, h3⟩ := h
  obtain ⟨_, _, _, _, bs, cs, kk, ha, hb, _⟩ := hS
  exact ⟨x, y, e _ _ nl.1 nl.2 h1, e _ _ (ne_of h2 ha (by intro z; cases z)) (ne_of h2 hb (by intro z; cases z)) h2, e _ _ (ne_of h3 ha (by intro z; cases z)) (ne_of h3 hb (by intro z; cases z)) h3⟩
theorem IsEnds.dp {K : PySem.W.Frag} {H : Hp} {l : Addr} {ps : List Ln} {c : Nat} (h : IsEnds H l ps c) : Dp K H (.ref l) (endsD ps c) := by
  obtain ⟨x, y, h1, h2, h3⟩ := h
  exact .lst (SqL.of h1) (.cons (dp_tup (.inl (.inl h2))) (.cons (dp_tup (.inl (.inl h3))) .nil))
def TupK (K : PySem.W.Frag) (H H' : Hp) : Prop := (∀ (a : Addr) (xs : List V), SqT K H a xs → SqT K H' a xs) ∧ True
theorem TupK.put {K : PySem.W.Frag} {H : Hp} {l : Addr} {xs : List V} {o : HO} (h : H l = some (.lst xs)) : TupK K H (upd H l o) := ⟨fun a ys q => by
  rcases q with (q | ⟨o, q⟩) | q
  · exact .inl (.inl (by rw [upd_ne (ne_of q h (by intro z; cases z))]; exact q))
  · exact .inl (.inr ⟨o, by rw [upd_ne (ne_of q h (by intro z; cases z))]; exact q⟩)
  · exact .inr q, trivial⟩
theorem IsEnds.twice {K : PySem.W.Frag} {H : Hp} {l l2 e : Addr} {ps qs : List Ln} {c : Nat} (h : IsEnds H l ps c) (h2 : IsEnds H l2 qs c) (pm : qs.Perm ps) (he : H e = some (.lst [.ref l, .ref l2])) : Dp K H (.ref e) (twiceD (endsD ps c)) := by
  have d2 := h2.dp (K := K)
  have e2 : endsD qs c = endsD ps c := by unfold endsD; rw [lowsI_perm pm, highsI_perm pm]
  rw [e2] at d2
  exact .lst (SqL.of he) (.cons h.dp (.cons d2 .nil))
theorem lr_take (ps : List Ln) (n : Nat) : (lr ps).take n = lr (ps.take n) := by
  unfold lr
  rw [List.map_take]
theorem StAt.off {H : Hp} {st big cel p : Addr} {n : Nat} {o : HO} (h : StAt H st big cel n) (hp : st ≠ p ∧ big ≠ p ∧ cel ≠ p) : StAt (upd H p o) st big cel n := by
  obtain ⟨h1, h2, h3, hn, bs, cs, k, ha, hb, hc, r⟩ := h
  exact ⟨h1, h2, h3, hn, bs, cs, k, by rw [upd_ne hp.1]; exact ha, by rw [upd_ne hp.2.1]; exact hb, by rw [upd_ne hp.2.2]; exact hc, r⟩
section
variable {P : Program} {w : World} {K : PySem.W.Frag} {mg : Str → Option Value} {base : Heap}
theorem ok_law {f fS fD fM fE fT fL fU : Addr} {fd fdS fdD fdM fdE fdT fdL fdU : FuncData}
    (F : Fun K "law" "law" sLaw f fd) (FS : Fun K "_law_deck" "_law_deck" sState fS fdS) (bS : Binds K fdS ["_law_script"] []) (gS : mg "_law_deck" = some (.ref fS))
    (FD : Fun K "_law_next" "_law_next" sDraw fD fdD) (bD : Binds K fdD ["_law_deck_here", "_law_many"] []) (gD : mg "_law_next" = some (.ref fD))
    (FM : Fun K "_law_order" "_law_order" sMixed fM fdM) (bM : Binds K fdM ["_law_deck_here", "_law_items"] []) (gM : mg "_law_order" = some (.ref fM))
    (FE : Fun K "_law_ends" "_law_ends" sEnds fE fdE) (bE : Binds K fdE ["_law_cuts"] []) (gE : mg "_law_ends" = some (.ref fE))
    (FT : Fun K "_law_told" "_law_told" sTold fT fdT) (bT : Binds K fdT ["_law_cuts"] []) (gT : mg "_law_told" = some (.ref fT))
    (FL : Fun K "lower_line" "lower_line" sLower fL fdL) (bL : BStar fdL "lines") (gL : mg "lower_line" = some (.ref fL))
    (FU : Fun K "upper_line" "upper_line" sUpper fU fdU) (bU : BStar fdU "lines") (gU : mg "upper_line" = some (.ref fU))
    (ml : mg "len" = none) (mli : mg "list" = none) (mtu : mg "tuple" = none) (mra : mg "range" = none) (mab : mg "abs" = none) (mre : mg "repr" = none) (mzi : mg "zip" = none) (mmi : mg "min" = none) (mma : mg "max" = none) (mso : mg "sorted" = none) :
    FnG P w K mg base 3 f fd ["_law_script"] (spLaw K) := by
  have GS : FnOk P w K mg base CX0 1 fS fdS ["_law_script"] (spState K) := ok_state FS ml mab
  have GD : FnOk P w K mg base CX0 1 fD fdD ["_law_deck_here", "_law_many"] spDraw := ok_draw FD ml
  have GM : FnOk P w K mg base CX0 2 fM fdM ["_law_deck_here", "_law_items"] (spMixed K) := ok_mixed FM FD bD gD ml mli
  have GE : FnOk P w K mg base CX0 1 fE fdE ["_law_cuts"] (spEnds K) := ok_ends FE ml mra mso mtu
  have GT : FnOk P w K mg base CX0 2 fT fdT ["_law_cuts"] (spTold K) := ok_told FT FL bL gL FU bU gU ml mmi mma mtu mzi
  refine okG F scLaw (fun vs H Q E h => ?_) (fun cdv A outer s H vs Q E hg hr h => ?_)
  · obtain ⟨a, ns, rfl, _⟩ := h
    rfl
  · obtain ⟨a, ns, rfl, hS, hlen, q⟩ := h
    have nd := scLaw.nd
    have hr1 : Room 1 _ := hr.mono (by decide)
    refine ⟨_, pss_cons (ps_set (i := 1) nd rfl (.inr rfl) (pe_call GS hr1 (by rfl) gS FS.kp bS .nil pass0 (pa_cons (pv 0) pa_nil)))
      (pss_cons (ps_for PassesOwn.never rfl (pi_range1 (by rfl) mra (pa_cons pe_int pa_nil)) (pg_name (i := 2) nd rfl (.inl rfl))
        (pss_cons (ps_asg (pe_tup (pa_cons (pe_op op_add pe_int (pe_call GD hr1 (by rfl) gD FD.kp bD .nil pass0 (pa_cons (pv 1) (pa_cons pe_int pa_nil))))
            (pa_cons (pe_ix ix_list (pe_lst (pa_cons pe_int (pa_cons pe_int (pa_cons pe_int pa_nil)))) (pe_call GD hr1 (by rfl) gD FD.kp bD .nil pass0 (pa_cons (pv 1) (pa_cons pe_int pa_nil))) (fun _ _ => rfl)) pa_nil)))
            (pg_tup rfl (pgs_cons (pg_name (i := 3) nd rfl (.inl rfl)) (pgs_cons (pg_name (i := 4) nd rfl (.inr rfl)) pgs_nil))))
        (pss_cons (ps_set (i := 5) nd rfl (.inl rfl) (pe_lst pa_nil))
        (pss_cons (ps_for PassesOwn.never rfl (pi_range1 (by rfl) mra (pa_cons pe_int pa_nil)) (pg_name (i := 6) nd rfl (.inl rfl))
          (pss_one (ps_expr (pe_bm PySem.F.plainAttrs_list PySem.F.slot_list_append PySem.F.type_list_append mt_append (pv 5)
            (pa_cons (pe_callTy call_tuple_of (by rfl) mtu (by decide +kernel) (pa_cons (pe_lc (own := [("_law_process", 11)]) (g := gName 11) (by rfl) nd
                (pi_range1 (by rfl) mra (pa_cons (pv 3) pa_nil)) (blkOk_by (own := [("_law_process", 11)]) (N := nLaw) (sc := defScope sLaw) (by decide +kernel))
                (fun _ _ _ _ _ => pg_name (i := 11) nd rfl (Or.inl rfl)) (fun _ _ _ _ _ => pts_nil)
                (fun _ _ _ _ _ => pe_call GD hr1 (by rfl) gD FD.kp bD .nil pass0 (pa_cons (pv 1) (pa_cons (pe_op op_add (pv 4) pe_int) pa_nil)))) pa_nil)) pa_nil)))))
        (pss_one (ps_for PassesOwn.never rfl (pi_range2 (by rfl) mra (pa_cons pe_int (pa_cons pe_int pa_nil))) (pg_name (i := 7) nd rfl (.inl rfl))
          (pss_cons (ps_set (i := 8) nd rfl (.inl rfl) (pe_callB (call_repr hg hr.units) (by rfl) mre (by decide +kernel) (pa_cons (pv 5) pa_nil)))
          (pss_cons (ps_par (i := 9) (j := 10) (by rfl) nd rfl rfl (by decide) rfl rfl (pa_cons (pe_call GE hr1 (by rfl) gE FE.kp bE .nil pass0 (pa_cons (pe_slice sl_list (pv 5) po_none (po_some (pv 7))) pa_nil))
              (pa_cons (pe_call GM hr (by rfl) gM FM.kp bM .nil pass0 (pa_cons (pv 1) (pa_cons (pe_slice sl_list (pv 5) po_none (po_some (pv 7))) pa_nil))) pa_nil)) (by rfl))
          (pss_one (ps_if (PW.pt (pw_or (pt_cmpR op_ne
                (pe_callB (call_repr hg hr.units) (by rfl) mre (by decide +kernel) (pa_cons (pe_lst (pa_cons (pe_call GT hr (by rfl) gT FT.kp bT .nil pass0 (pa_cons (pe_slice sl_list (pv 5) po_none (po_some (pv 7))) pa_nil)) (pa_cons (pe_call GT hr (by rfl) gT FT.kp bT .nil pass0 (pa_cons (pv 10) pa_nil)) pa_nil))) pa_nil))
                (pe_callB (call_repr hg hr.units) (by rfl) mre (by decide +kernel) (pa_cons (pe_lst (pa_cons (pv 9) (pa_cons (pv 9) pa_nil))) pa_nil)) (nomark _))
              (pw_or1 (pt_cmpR op_ne (pe_callB (call_repr hg hr.units) (by rfl) mre (by decide +kernel) (pa_cons (pv 5) pa_nil)) (pv 8) (nomark _))))) (pss_one (ps_ret pe_bl)) pss_nil))))))))))
      (pss_one (ps_ret pe_bl))), ?_⟩
    refine ⟨.ref a, rfl, a, ns, rfl, hS, hlen, fun H1 st big cel hS1 sm1 _ _ _ => ?_⟩
    refine ⟨8, rfl, by decide, by decide, ?_⟩
    refine for_range (lo := 0) (n := 8) (fun i σ H' => ∃ (x2 x3 x4 x5 x6 x7 x8 x9 x10 x11 : Option V), σ = [some (.ref a), some (.ref st), x2, x3, x4, x5, x6, x7, x8, x9, x10, x11] ∧ StAt H' st big cel (100 * i))
      ⟨_, _, _, _, _, _, _, _, _, _, rfl, hS1⟩ ?_ (fun σ H' _ => q H')
    rintro i σ H2 hi ⟨x2, x3, x4, x5, x6, x7, x8, x9, x10, x11, rfl, hS2⟩
    refine ⟨.ref st, rfl, st, big, cel, _, 6, rfl, by decide, by decide, hS2, by omega, fun H3 v v0 v1 hS3 k3 => ⟨_, _, rfl, rfl, sz (by show 3 ≤ 1000; decide), fun e ne => ?_⟩⟩
    have s34 : Same H3 (upd H3 e (.lst [.int 2, .int 5, .int 10])) := Same.new ne
    refine ⟨.ref st, rfl, st, big, cel, _, 3, rfl, by decide, by decide, hS3.same s34, by omega, fun H5 u u0 u1 hS5 k5 => ?_⟩
    have nee := hS3.ne ne
    have he5 := k5 _ _ nee.1.symm nee.2.1.symm (show (upd H3 e (.lst [.int 2, .int 5, .int 10])) e = some (.lst [.int 2, .int 5, .int 10]) from upd_same)
    obtain ⟨m, hm, hm0, hm1⟩ : ∃ m : Int, atI [V.int 2, V.int 5, V.int 10] u = some (V.int m) ∧ 0 ≤ m ∧ m ≤ 10 := by
      have : u = 0 ∨ u = 1 ∨ u = 2 := by omega
      rcases this with rfl | rfl | rfl
      · exact ⟨2, rfl, by decide, by decide⟩
      · exact ⟨5, rfl, by decide, by decide⟩
      · exact ⟨10, rfl, by decide, by decide⟩
    obtain ⟨c, hc⟩ : ∃ c : Nat, (1 : Int) + v = (c : Int) := ⟨(1 + v).toNat, by omega⟩
    have hc6 : c ≤ 6 := by omega
    refine ⟨e, _, u, _, rfl, rfl, SqL.of he5, hm, sz (by show 2 ≤ 1000; decide), fun T nT => ?_⟩
    have s6 : Same H5 (upd H5 T (.tup [.int (1 + v), .int m])) := Same.new nT
    refine ⟨T, _, rfl, .inl (.inl upd_same), rfl, _, _, rfl, _, _, rfl, rfl, sz (Nat.zero_le _), fun F0 nF => ?_⟩
    have nF' : (upd H5 T (.tup [.int (1 + v), .int m])) F0 = none := nF
    have s7 : Same H5 (upd (upd H5 T (.tup [.int (1 + v), .int m])) F0 (.lst [])) := s6.trans (Same.new nF')
    have hF7 : (upd (upd H5 T (.tup [.int (1 + v), .int m])) F0 (.lst [])) F0 = some (.lst []) := upd_same
    have nF5 : H5 F0 = none := s6.free nF'
    have neF := hS5.ne nF5
    refine ⟨5, rfl, by decide, by decide, ?_⟩
    refine for_range (lo := 0) (n := 5) (fun k σ H' => ∃ (y6 y7 y8 y9 y10 y11 : Option V) (ps : List Ln), σ = [some (.ref a), some (.ref st), some (.int (0 + (i : Int))), some (.int (1 + v)), some (.int m), some (.ref F0), y6, y7, y8, y9, y10, y11] ∧
        H' F0 = some (.lst (lr ps)) ∧ Lns K H' ps c ∧ ps.length = k ∧ StAt H' st big cel (100 * i + 2 + 6 * k))
      ⟨_, _, _, _, _, _, [], rfl, hF7, ⟨fun p hp => (nomatch hp), fun p hp => (nomatch hp), fun p hp => (nomatch hp), hc6, by decide⟩, rfl, (hS5.same s7).le (by omega) (by omega)⟩ ?_ ?_
    · rintro k σ H8 hk ⟨y6, y7, y8, y9, y10, y11, ps, rfl, hF8, hL8, hpk, hS8⟩
      refine ⟨.ref F0, rfl, .inl ⟨rfl, _, SqL.of hF8⟩, .int (1 + v), rfl, (c : Int), by rw [hc], by omega, by omega, fun D nD => ?_⟩
      have neD := hS8.ne nD
      refine lc_range (lo := 0) (n := c) (fun j H' => ∃ ns : List Int, H' D = some (.lst (ns.map V.int)) ∧ ns.length = j ∧ (∀ x ∈ ns, 0 ≤ x ∧ x ≤ 10) ∧ StAt H' st big cel (100 * i + 2 + 6 * k + j) ∧ Kp st big H8 H')
        ⟨[], upd_same, rfl, fun x hx => (nomatch hx), hS8.same (Same.new nD), .new nD⟩ (fun j H' hj z => ?_) (fun H9 z => ?_)
      · obtain ⟨ns, hD, hnl, hnb, hS', kp⟩ := z
        refine ⟨rfl, yesT ⟨.ref st, rfl, .int m, rfl, _, _, rfl, rfl, st, big, cel, _, m + 1, rfl, by omega, by omega, hS', by omega, fun H3 u u0 u1 hS3 k3 => ⟨_, k3 _ _ neD.1.symm neD.2.1.symm hD, ?_, ns ++ [u], ?_, ?_, ?_, ?_, ?_⟩⟩⟩
        · rw [List.length_map]
          exact small1000 (by omega)
        · rw [upd_same, List.map_append]
          rfl
        · rw [List.length_append, List.length_singleton, hnl]
        · intro x hx
          rcases List.mem_append.mp hx with hx | hx
          · exact hnb x hx
          · rw [List.mem_singleton.mp hx]
            omega
        · exact StAt.off hS3 neD
        · exact Kp.put' nD (kp.trans k3)
      · obtain ⟨ns, hD, hnl, hnb, hS', kp⟩ := z
        refine ⟨D, _, rfl, .inl ⟨SqL.of hD, fun t nt => ?_⟩⟩
        have neF8 := neF
        have hF9 : H9 F0 = some (.lst (lr ps)) := kp _ _ neF.1.symm neF.2.1.symm hF8
        have s10 : Same H9 (upd H9 t (.tup (ns.map V.int))) := Same.new nt
        have ht : (upd H9 t (.tup (ns.map V.int))) t = some (.tup (ns.map V.int)) := upd_same
        generalize upd H9 t (.tup (ns.map V.int)) = H10 at s10 ht ⊢
        have hF10 := s10 _ _ hF9
        have hL10 : Lns K H10 (ps ++ [(t, ns)]) c := by
          have h1 := (hL8.keep fun _ _ q => hS8.tup kp q).same s10
          refine ⟨fun p hp => ?_, fun p hp => ?_, fun p hp => ?_, hc6, by rw [List.length_append, List.length_singleton]; omega⟩
          · rcases List.mem_append.mp hp with hp | hp
            · exact h1.sq p hp
            · rw [List.mem_singleton.mp hp]; exact .inl (.inl ht)
          · rcases List.mem_append.mp hp with hp | hp
            · exact h1.ln p hp
            · rw [List.mem_singleton.mp hp]; exact hnl
          · rcases List.mem_append.mp hp with hp | hp
            · exact h1.nb p hp
            · rw [List.mem_singleton.mp hp]; exact hnb
        refine ⟨F0, _, _, rfl, rfl, hF10, ?_, ?_⟩
        · rw [lr, List.length_map]
          exact small1000 (by omega)
        refine ⟨_, _, _, _, _, _, ps ++ [(t, ns)], rfl, ?_, ?_, by rw [List.length_append, List.length_singleton, hpk], ((hS'.same s10).off neF).le (by omega) (by omega)⟩
        · rw [upd_same, lr, lr, List.map_append]
          rfl
        · exact hL10.keep fun a xs q => (TupK.put hF10).1 a xs q
    · rintro σ H8 ⟨y6, y7, y8, y9, y10, y11, ps, rfl, hF8, hL8, hpk, hS8⟩
      have hfine := hL8.fine
      have shown1 : ∀ {H' : Hp}, H' F0 = some (.lst (lr ps)) → Lns K H' ps c → Shown K H' (.ref F0) (lD ps) := fun h1 h2 => h2.fine.shown (by decide) (by decide) (h2.dp (SqL.of h1)) rfl
      refine ⟨_, _, rfl, ⟨by decide, by decide, by decide, by decide⟩, ?_⟩
      refine for_range (lo := 1) (n := 5) (fun j σ H' => ∃ (y6 y7 y8 y9 y10 y11 : Option V), σ = [some (.ref a), some (.ref st), some (.int (0 + (i : Int))), some (.int (1 + v)), some (.int m), some (.ref F0), y6, y7, y8, y9, y10, y11] ∧
          H' F0 = some (.lst (lr ps)) ∧ Lns K H' ps c ∧ StAt H' st big cel (100 * i + 40 + 6 * j))
        ⟨_, _, _, _, _, _, rfl, hF8, hL8, hS8.le (by omega) (by omega)⟩ ?_ ?_
      · rintro j σ H9 hj ⟨y6, y7, y8, y9, y10, y11, rfl, hF9, hL9, hS9⟩
        have ej : (1 : Int) + (j : Int) = ((j + 1 : Nat) : Int) := by omega
        have hct : cutV (lr ps) none (some (1 + (j : Int))) = lr (ps.take (j + 1)) := by
          rw [ej, cut_to (by rw [lr, List.length_map]; omega), lr_take]
        have hlt : 1 ≤ (ps.take (j + 1)).length := by rw [List.length_take]; omega
        refine ⟨.ref F0, rfl, _, lD ps, rfl, shown1 hF9 hL9, ?_⟩
        refine ⟨.ref F0, rfl, .int (1 + (j : Int)), rfl, _, rfl, F0, lr ps, rfl, SqL.of hF9, fun p np => ?_⟩
        rw [hct]
        have s10 : Same H9 (upd H9 p (.lst (lr (ps.take (j + 1))))) := Same.new np
        have hp10 : (upd H9 p (.lst (lr (ps.take (j + 1))))) p = some (.lst (lr (ps.take (j + 1)))) := upd_same
        generalize upd H9 p (.lst (lr (ps.take (j + 1)))) = H10 at s10 hp10 ⊢
        refine ⟨p, _, c, rfl, SqL.of hp10, (hL9.same s10).take (j + 1), hlt, fun H11 l x y s11 nl hl hx hy => ?_⟩
        have s911 := s10.trans s11
        refine ⟨.ref st, rfl, .ref F0, rfl, .int (1 + (j : Int)), rfl, _, rfl, F0, lr ps, rfl, SqL.of (s911 _ _ hF9), fun p2 np2 => ?_⟩
        rw [hct]
        have s12 : Same H11 (upd H11 p2 (.lst (lr (ps.take (j + 1))))) := Same.new np2
        have hp12 : (upd H11 p2 (.lst (lr (ps.take (j + 1))))) p2 = some (.lst (lr (ps.take (j + 1)))) := upd_same
        generalize upd H11 p2 (.lst (lr (ps.take (j + 1)))) = H12 at s12 hp12 ⊢
        have s912 := s911.trans s12
        have hd12 : IsEnds H12 l (ps.take (j + 1)) c := ⟨x, y, s12 _ _ hl, s12 _ _ hx, s12 _ _ hy⟩
        have hlen5 : (ps.take (j + 1)).length ≤ 5 := by rw [List.length_take]; omega
        refine ⟨st, big, cel, p2, _, _, c, rfl, SqL.of hp12, (hL9.same s912).take (j + 1), hS9.same s912, by omega, fun H13 g qs ng hg pm hS13 k13 => ⟨_, _, rfl, ?_⟩⟩
        have nel : l ≠ st ∧ l ≠ big := by
          obtain ⟨q1, q2, _⟩ := (hS9.same s10).ne nl
          exact ⟨q1.symm, q2.symm⟩
        have hd13 : IsEnds H13 l (ps.take (j + 1)) c := IsEnds.kp (K := K) hd12 (hS9.same s912) k13 nel
        have hF13 := k13 _ _ neF.1.symm neF.2.1.symm (s912 _ _ hF9)
        have hL13 : Lns K H13 ps c := (hL9.same s912).keep fun _ _ q => (hS9.same s912).tup k13 q
        have hL9t := hL13.take (j + 1)
        refine ⟨.ref F0, rfl, .int (1 + (j : Int)), rfl, _, rfl, F0, lr ps, rfl, SqL.of hF13, fun p3 np3 => ?_⟩
        rw [hct]
        have s14 : Same H13 (upd H13 p3 (.lst (lr (ps.take (j + 1))))) := Same.new np3
        have hp14 : (upd H13 p3 (.lst (lr (ps.take (j + 1))))) p3 = some (.lst (lr (ps.take (j + 1)))) := upd_same
        generalize upd H13 p3 (.lst (lr (ps.take (j + 1)))) = H14 at s14 hp14 ⊢
        refine ⟨p3, _, c, rfl, SqL.of hp14, hL9t.same s14, hlt, fun H15 l1 x1 y1 s15 nl1 hl1 hx1 hy1 => ?_⟩
        have s135 := s14.trans s15
        refine ⟨.ref g, rfl, g, qs, c, rfl, SqL.of (s135 _ _ hg), (hL9t.same s135).perm pm, by rw [pm.length_eq]; exact hlt, fun H16 l2 x2 y2 s16 nl2 hl2 hx2 hy2 => ⟨sz (by show 2 ≤ 1000; decide), fun e1 ne1 => ?_⟩⟩
        have s136 := s135.trans s16
        have hone : IsEnds H16 l1 (ps.take (j + 1)) c := IsEnds.same ⟨x1, y1, hl1, hx1, hy1⟩ s16
        have htwo : IsEnds H16 l2 qs c := ⟨x2, y2, hl2, hx2, hy2⟩
        have s17 : Same H16 (upd H16 e1 (.lst [.ref l1, .ref l2])) := Same.new ne1
        have he1 : (upd H16 e1 (.lst [.ref l1, .ref l2])) e1 = some (.lst [.ref l1, .ref l2]) := upd_same
        have ft := twiceD_fine hL9t hlt
        refine ⟨_, twiceD (endsD (ps.take (j + 1)) c), rfl, ft.shown (by decide) (by decide) ((hone.same s17).twice (htwo.same s17) pm he1) rfl, ?_⟩
        have s137 := s136.trans s17
        generalize upd H16 e1 (.lst [.ref l1, .ref l2]) = H17 at s137 ⊢
        have hd17 := hd13.same s137
        refine ⟨.ref l, rfl, .ref l, rfl, sz (by show 2 ≤ 1000; decide), fun e2 ne2 => ?_⟩
        have s18 : Same H17 (upd H17 e2 (.lst [.ref l, .ref l])) := Same.new ne2
        have he2 : (upd H17 e2 (.lst [.ref l, .ref l])) e2 = some (.lst [.ref l, .ref l]) := upd_same
        refine ⟨_, twiceD (endsD (ps.take (j + 1)) c), rfl, ft.shown (by decide) (by decide) ((hd17.same s18).twice (hd17.same s18) (.refl _) he2) rfl, ?_⟩
        generalize (twiceD (endsD (ps.take (j + 1)) c)).shown = tx
        refine ⟨rfl, _, rfl, iteNS rfl ?_⟩
        have s138 := s137.trans s18
        generalize upd H17 e2 (.lst [.ref l, .ref l]) = H18 at s138 ⊢
        have hF18 := s138 _ _ hF13
        have hL18 := hL13.same s138
        refine ⟨.ref F0, rfl, _, lD ps, rfl, shown1 hF18 hL18, _, rfl, rfl, _, rfl, iteNS rfl ?_⟩
        exact ⟨_, _, _, _, _, _, rfl, hF18, hL18, (hS13.same s138).le (by omega) (by omega)⟩
      · rintro σ H9 ⟨y6, y7, y8, y9, y10, y11, rfl, hF9, hL9, hS9⟩
        exact ⟨_, _, _, _, _, _, _, _, _, _, rfl, hS9.le (by omega) (by omega)⟩
end

end Sv

/-! the end of a row whose law calls repr: the head's call is made where no repr runs -/
namespace Sv
open PySem PySem.Spec PyProof.Rows L2
section
variable {P : Program} {w : World} {K : PySem.W.Frag} {mg mb : Str → Option Value} {k : Nat} {fa a : Addr} {fd : FuncData} {x : Str} {sp : Sp}
  {s₁ : Shared} {vs : List Value} {ns : List Int}
/-- from one abstract heap that tracks nothing but the script -/
theorem headG_core (H : Hp) (KX : K.In s₁.heap) (hns : s₁.heap.Ns mainGlobals mg) (hb : s₁.heap.Ns builtinsNs mb)
    (hbb : ∀ y : Str, y ≠ "__name__" → mb y = bootBuiltins y) (hlim : s₁.heap.NoLimit) (hg : s₁.gens = #[])
    (ha : s₁.heap.get? a = some { cls := .type "list", data := .seq vs.toArray }) (hr : Room k callerA)
    (F : ∀ base : Heap, K.In base → base.Ns mainGlobals mg → FnG P w K mg base k fa fd [x] sp)
    (hbind : ∀ (s : Shared) (u : Value), BindsTo s fd ⟨[u], []⟩ [(x, u)])
    (hO : Only H) (hsp : sp [.ref a] H (fun v _ => v = .bl true) fun _ _ _ => False)
    (hok : HOk P w H s₁.heap) (hA : ∀ b, H b ≠ none → b = a) (hK : H a ≠ none → K.lookup a = none) :
    codeAny (model P w) callerA (.call (.ref fa) ⟨[.ref a], []⟩)
      (fun r s' => r = .ok (.ret (.bool true)) ∧ OldK s₁.heap s'.heap ∧ s'.os = s₁.os ∧ AllBare s'.gens) s₁ := by
  have tr : ∀ {b : Addr} {u : HO}, H b = some u → b = a := fun {b u} q => hA b (by rw [q]; exact Option.some_ne_none u)
  have under : ∀ {b : Addr} {o : Obj}, s₁.heap.get? b = some o → H b = none → (hidT s₁.heap H).get? b = some o := fun e n => hidT_get e n
  have dictN : ∀ {b : Addr} {o : Obj} {es : Array DictEntry} {ep : Nat}, s₁.heap.get? b = some o → o.data = .dict es ep → H b = none := by
    intro b o es ep e d
    rcases hH : H b with _ | u
    · rfl
    · have eb := tr hH
      rw [eb, ha] at e
      rw [← Option.some.inj e] at d
      exact absurd d (by intro z; cases z)
  have nsK : ∀ {b : Addr} {m : Str → Option Value}, s₁.heap.Ns b m → (hidT s₁.heap H).Ns b m := by
    rintro b m ⟨o, es, ep, e, d, r⟩
    exact ⟨o, es, ep, under e (dictN e d), d, r⟩
  have hKb : K.In (hidT s₁.heap H) := by
    intro b o e
    refine under (KX b o e) ?_
    rcases hH : H b with _ | u
    · rfl
    · have eb := tr hH
      rw [eb] at e hH
      rw [hK (by rw [hH]; exact Option.some_ne_none u)] at e
      cases e
  have hM : Mod K mg (hidT s₁.heap H) := by
    obtain ⟨mc, l1, l2⟩ := hlim
    exact ⟨hKb, nsK hns, ⟨mb, nsK hb, hbb⟩, ⟨mc, nsK l1, l2⟩⟩
  have e0 : Env0 P w K mg (hidT s₁.heap H) callerA [] s₁ H := by
    refine ⟨rfl, hM, fun b o e => of_hidT e, Nat.le_of_eq (hidT_size _ _), trivial, fun b hb => ?_, hok, .of_eq hg⟩
    exact absurd (show b ∈ ([] : List Addr) from hb) List.not_mem_nil
  have hrun := (F _ hKb (nsK hns)).run callerA rfl [] s₁ H ⟨[.ref a], []⟩ [.ref a] [.ref a] _ _ hr e0 (hbind s₁ (.ref a)) (.cons rfl .nil) hsp
  refine codeAny_mono hrun fun r s' h => ?_
  match r, h with
  | .error e, h => exact absurd h id
  | .ok .next, h => exact absurd h id
  | .ok .brk, h => exact absurd h id
  | .ok .cont, h => exact absurd h id
  | .ok (.ret u), h =>
    obtain ⟨v, H', os, bare, un, hok', r', q⟩ := h
    obtain rfl : v = .bl true := q
    obtain rfl : u = Value.bool true := r'
    refine ⟨rfl, OldK.of_keep fun b o e => ?_, os, bare⟩
    rcases hO b with z | ⟨ob, xs, z⟩
    · exact un.keep b o e z (fun m => absurd (show b ∈ ([] : List Addr) from m) List.not_mem_nil) List.not_mem_nil
    · obtain ⟨e1, _⟩ := hok b _ z
      obtain ⟨e2, _⟩ := hok' b _ (un.frzs b ob _ z)
      rw [← e, e1]
      exact e2
theorem headG (KX : K.In s₁.heap) (hns : s₁.heap.Ns mainGlobals mg) (hb : s₁.heap.Ns builtinsNs mb)
    (hbb : ∀ y : Str, y ≠ "__name__" → mb y = bootBuiltins y) (hlim : s₁.heap.NoLimit) (hg : s₁.gens = #[])
    (ha : s₁.heap.get? a = some { cls := .type "list", data := .seq vs.toArray }) (hi : IntsAre vs ns) (hl : ns.length ≤ sizeLine) (hr : Room k callerA)
    (F : ∀ base : Heap, K.In base → base.Ns mainGlobals mg → FnG P w K mg base k fa fd [x] sp)
    (hbind : ∀ (s : Shared) (u : Value), BindsTo s fd ⟨[u], []⟩ [(x, u)])
    (hsp : ∀ H : Hp, Only H → SqL K H a (ns.map V.int) → sp [.ref a] H (fun v _ => v = .bl true) fun _ _ _ => False) :
    codeAny (model P w) callerA (.call (.ref fa) ⟨[.ref a], []⟩)
      (fun r s' => r = .ok (.ret (.bool true)) ∧ OldK s₁.heap s'.heap ∧ s'.os = s₁.os ∧ AllBare s'.gens) s₁ := by
  have rv := vals_ints hi
  rcases hk : K.lookup a with _ | o
  · have hE : ∀ b, (if b = a then some (HO.frz { cls := .type "list", data := .seq vs.toArray } (.lst (ns.map V.int))) else none) ≠ none → b = a := by
      intro b z
      by_cases hb : b = a
      · exact hb
      · rw [if_neg hb] at z
        exact absurd rfl z
    have hO : Only fun b => if b = a then some (HO.frz { cls := .type "list", data := .seq vs.toArray } (.lst (ns.map V.int))) else none := by
      intro b
      by_cases hb : b = a
      · exact .inr ⟨_, _, if_pos hb⟩
      · exact .inl (if_neg hb)
    refine headG_core _ KX hns hb hbb hlim hg ha hr F hbind hO (hsp _ hO (.inl (.inr ⟨_, if_pos rfl⟩))) (fun b u z => ?_) hE fun _ => hk
    have hba : b = a := hE b (by rw [z]; exact Option.some_ne_none u)
    subst hba
    obtain rfl := Option.some.inj ((if_pos rfl).symm.trans z)
    exact ⟨ha, by rw [List.length_map]; exact hl, vs, _, rv, ha⟩
  · have e := KX a o hk
    obtain rfl := Option.some.inj (ha.symm.trans e)
    have hO : Only fun _ => none := fun _ => .inl rfl
    refine headG_core (fun _ => none) KX hns hb hbb hlim hg ha hr F hbind hO (hsp _ hO (.inr ⟨_, vs.toArray, _, hk, rfl, rfl, rfl, ?_, by simpa using rv⟩))
      (fun b u z => absurd (show (none : Option HO) = some u from z) (by intro q; cases q)) (fun b z => absurd rfl z) fun z => absurd rfl z
    rw [List.size_toArray, hi.length]
    exact hl
end
/-- the goal that the head leaves -/
theorem walkG {l : PySem.W.OpenLaw} {n k : Nat} {q : Program} {loose : List Str} {XP : (Str → Option Value) → Heap → Prop} {YP : World → Heap → Prop}
    {d : DefRec} {K : Params → PySem.W.Frag} {sp : PySem.W.Frag → Sp} {x : Str}
    (hn : l.most = some n) (hn2 : n ≤ sizeLine) (hdf : d.params.defaults = []) (hr : Room k callerA)
    (hY : ∀ (w : World) (h : Heap), YP w h → (K w.params).In h)
    (F : ∀ (w : World) (mg : Str → Option Value) (fa : Addr) (h : Heap), (K w.params).In h → h.Ns mainGlobals mg → mg d.name = some (.ref fa) →
      ∃ fd : FuncData, (∀ (s : Shared) (u : Value), BindsTo s fd ⟨[u], []⟩ [(x, u)]) ∧
        ∀ base : Heap, (K w.params).In base → base.Ns mainGlobals mg → FnG l.prog w (K w.params) mg base k fa fd [x] (sp (K w.params)))
    (hsp : ∀ (K : PySem.W.Frag) (H : Hp) (a : Addr) (ns : List Int), ns.length ≤ n → Only H → SqL K H a (ns.map V.int) → sp K [.ref a] H (fun v _ => v = .bl true) fun _ _ _ => False) :
    PySem.W.WalkO q loose XP YP l.row.toRowW d [] (fun f vs => PySem.call f vs) := by
  refine Att.attach_call hn hdf fun w s₀ s₁ mg mb fa o pm cd doc a vs ns G Y ho hd hcd hmg hobj hints hlen hg => ?_
  obtain ⟨fd, hbd, hF⟩ := F w mg fa _ (hY w _ Y) G.T.g hmg
  exact headG (hY w _ Y) G.T.g G.T.b G.T.builtins G.T.nolimit hg hobj hints (Nat.le_trans hlen hn2) hr hF hbd fun H h1 h2 => hsp _ H a ns hlen h1 h2
end Sv

namespace Sv
open PySem PySem.Spec PyProof.Rows L2
theorem all_mk {l : PySem.W.OpenLaw} {w : World} {K : PySem.W.Frag} {h : Heap} {mg : Str → Option Value} {fa f0 f1 f2 f3 f4 f5 f6 f7 : Addr} (X : K.In h) (G : h.Ns mainGlobals mg) (hfa : mg "law" = some (.ref fa))
    {od0 an0 od1 an1 od2 an2 od3 an3 od4 an4 od5 an5 od6 an6 od7 an7 : Option Addr} {sl0 sl1 sl2 sl3 sl4 sl5 sl6 sl7 : Array (Option Value)} {oc0 kV0 dc0 pm0 cd0 ct0 oc1 kV1 dc1 pm1 cd1 ct1 oc2 kV2 dc2 pm2 cd2 ct2 oc3 kV3 dc3 pm3 cd3 ct3 oc4 kV4 dc4 pm4 cd4 ct4 oc5 kV5 dc5 pm5 cd5 ct5 oc6 kV6 dc6 pm6 cd6 ct6 oc7 kV7 dc7 pm7 cd7 ct7 : Value}
    (a0 : PySem.W.nsIn K mainGlobals "_law_deck" = some (some (.ref f0))) (l0 : K.lookup f0 = some ⟨oc0, od0, .func (PySem.W.fnOf "_law_deck" "_law_deck" (defArgs sState) (defBody sState) (defScope sState) .none kV0 dc0 pm0 an0 cd0 ct0), sl0⟩) (c0 : PySem.W.codeIn K cd0 "_law_deck" = true) (k0 : PySem.W.keepIn K (.ref f0) = true)
    (a1 : PySem.W.nsIn K mainGlobals "_law_next" = some (some (.ref f1))) (l1 : K.lookup f1 = some ⟨oc1, od1, .func (PySem.W.fnOf "_law_next" "_law_next" (defArgs sDraw) (defBody sDraw) (defScope sDraw) .none kV1 dc1 pm1 an1 cd1 ct1), sl1⟩) (c1 : PySem.W.codeIn K cd1 "_law_next" = true) (k1 : PySem.W.keepIn K (.ref f1) = true)
    (a2 : PySem.W.nsIn K mainGlobals "_law_order" = some (some (.ref f2))) (l2 : K.lookup f2 = some ⟨oc2, od2, .func (PySem.W.fnOf "_law_order" "_law_order" (defArgs sMixed) (defBody sMixed) (defScope sMixed) .none kV2 dc2 pm2 an2 cd2 ct2), sl2⟩) (c2 : PySem.W.codeIn K cd2 "_law_order" = true) (k2 : PySem.W.keepIn K (.ref f2) = true)
    (a3 : PySem.W.nsIn K mainGlobals "_law_ends" = some (some (.ref f3))) (l3 : K.lookup f3 = some ⟨oc3, od3, .func (PySem.W.fnOf "_law_ends" "_law_ends" (defArgs sEnds) (defBody sEnds) (defScope sEnds) .none kV3 dc3 pm3 an3 cd3 ct3), sl3⟩) (c3 : PySem.W.codeIn K cd3 "_law_ends" = true) (k3 : PySem.W.keepIn K (.ref f3) = true)
    (a4 : PySem.W.nsIn K mainGlobals "_law_told" = some (some (.ref f4))) (l4 : K.lookup f4 = some ⟨oc4, od4, .func (PySem.W.fnOf "_law_told" "_law_told" (defArgs sTold) (defBody sTold) (defScope sTold) .none kV4 dc4 pm4 an4 cd4 ct4), sl4⟩) (c4 : PySem.W.codeIn K cd4 "_law_told" = true) (k4 : PySem.W.keepIn K (.ref f4) = true)
    (a5 : PySem.W.nsIn K mainGlobals "lower_line" = some (some (.ref f5))) (l5 : K.lookup f5 = some ⟨oc5, od5, .func (PySem.W.fnOf "lower_line" "lower_line" (defArgs sLower) (defBody sLower) (defScope sLower) .none kV5 dc5 pm5 an5 cd5 ct5), sl5⟩) (c5 : PySem.W.codeIn K cd5 "lower_line" = true) (k5 : PySem.W.keepIn K (.ref f5) = true)
    (a6 : PySem.W.nsIn K mainGlobals "upper_line" = some (some (.ref f6))) (l6 : K.lookup f6 = some ⟨oc6, od6, .func (PySem.W.fnOf "upper_line" "upper_line" (defArgs sUpper) (defBody sUpper) (defScope sUpper) .none kV6 dc6 pm6 an6 cd6 ct6), sl6⟩) (c6 : PySem.W.codeIn K cd6 "upper_line" = true) (k6 : PySem.W.keepIn K (.ref f6) = true)
    (a7 : PySem.W.nsIn K mainGlobals "law" = some (some (.ref f7))) (l7 : K.lookup f7 = some ⟨oc7, od7, .func (PySem.W.fnOf "law" "law" (defArgs sLaw) (defBody sLaw) (defScope sLaw) .none kV7 dc7 pm7 an7 cd7 ct7), sl7⟩) (c7 : PySem.W.codeIn K cd7 "law" = true) (k7 : PySem.W.keepIn K (.ref f7) = true)
    (z0 : PySem.W.nsIn K mainGlobals "len" = some none) (z1 : PySem.W.nsIn K mainGlobals "list" = some none) (z2 : PySem.W.nsIn K mainGlobals "tuple" = some none) (z3 : PySem.W.nsIn K mainGlobals "range" = some none) (z4 : PySem.W.nsIn K mainGlobals "abs" = some none) (z5 : PySem.W.nsIn K mainGlobals "repr" = some none) (z6 : PySem.W.nsIn K mainGlobals "zip" = some none) (z7 : PySem.W.nsIn K mainGlobals "min" = some none) (z8 : PySem.W.nsIn K mainGlobals "max" = some none) (z9 : PySem.W.nsIn K mainGlobals "sorted" = some none) :
    ∃ fd : FuncData, (∀ (s : Shared) (v : Value), BindsTo s fd ⟨[v], []⟩ [("_law_script", v)]) ∧ ∀ base : Heap, K.In base → base.Ns mainGlobals mg → FnG l.prog w K mg base 3 fa fd ["_law_script"] (spLaw K) := by
  have e := hfa.symm.trans (PySem.W.mg_of X G a7)
  cases e
  have F0 := fun_mk (st := sState) l0 c0 k0
  have b0 := F0.binds (ps := ["_law_script"]) fun _ _ _ _ _ _ us hl => match us, hl with | [_], _ => rfl
  have F1 := fun_mk (st := sDraw) l1 c1 k1
  have b1 := F1.binds (ps := ["_law_deck_here", "_law_many"]) fun _ _ _ _ _ _ us hl => match us, hl with | [_, _], _ => rfl
  have F2 := fun_mk (st := sMixed) l2 c2 k2
  have b2 := F2.binds (ps := ["_law_deck_here", "_law_items"]) fun _ _ _ _ _ _ us hl => match us, hl with | [_, _], _ => rfl
  have F3 := fun_mk (st := sEnds) l3 c3 k3
  have b3 := F3.binds (ps := ["_law_cuts"]) fun _ _ _ _ _ _ us hl => match us, hl with | [_], _ => rfl
  have F4 := fun_mk (st := sTold) l4 c4 k4
  have b4 := F4.binds (ps := ["_law_cuts"]) fun _ _ _ _ _ _ us hl => match us, hl with | [_], _ => rfl
  have F5 := fun_mk (st := sLower) l5 c5 k5
  have b5 : BStar (PySem.W.fnOf "lower_line" "lower_line" (defArgs sLower) (defBody sLower) (defScope sLower) .none kV5 dc5 pm5 an5 cd5 ct5) "lines" := fun rest => by cases rest <;> rfl
  have F6 := fun_mk (st := sUpper) l6 c6 k6
  have b6 : BStar (PySem.W.fnOf "upper_line" "upper_line" (defArgs sUpper) (defBody sUpper) (defScope sUpper) .none kV6 dc6 pm6 an6 cd6 ct6) "lines" := fun rest => by cases rest <;> rfl
  have F7 := fun_mk (st := sLaw) l7 c7 k7
  exact ⟨PySem.W.fnOf "law" "law" (defArgs sLaw) (defBody sLaw) (defScope sLaw) .none kV7 dc7 pm7 an7 cd7 ct7, fun s v => .of_eq rfl, fun base _ _ => ok_law F7 F0 b0 (PySem.W.mg_of X G a0) F1 b1 (PySem.W.mg_of X G a1) F2 b2 (PySem.W.mg_of X G a2) F3 b3 (PySem.W.mg_of X G a3) F4 b4 (PySem.W.mg_of X G a4) F5 b5 (PySem.W.mg_of X G a5) F6 b6 (PySem.W.mg_of X G a6) (PySem.W.mg_none_of X G z0) (PySem.W.mg_none_of X G z1) (PySem.W.mg_none_of X G z2) (PySem.W.mg_none_of X G z3) (PySem.W.mg_none_of X G z4) (PySem.W.mg_none_of X G z5) (PySem.W.mg_none_of X G z6) (PySem.W.mg_none_of X G z7) (PySem.W.mg_none_of X G z8) (PySem.W.mg_none_of X G z9)⟩
end Sv

open PySem PySem.W PyProof.Rows in
set_option maxRecDepth 100000 in
set_option maxHeartbeats 0 in
theorem PySem.Challenge.cw_savelines_k16_lower_and_upper_lines_holds : PySem.Challenge.rw_savelines_k16_lower_and_upper_lines.Holds := by
  w_on; o_law; k_head; (case hw => w_witness2)
  k_fill
  refine Sv.walkG (l := PySem.Challenge.rw_savelines_k16_lower_and_upper_lines) (n := 63) (k := 3) (x := "_law_script") (sp := Sv.spLaw) rfl (by decide) rfl ⟨rfl, by decide, by decide⟩ (fun w h Y => PySem.W.kIn_of Y) ?F (fun K H a ns hl _ hS => ⟨a, ns, rfl, hS, hl, fun _ => rfl⟩)
  case F =>
    intro w mg fa h KX G hmg
    refine' Sv.all_mk KX G hmg ?a0 ?l0 ?c0 ?k0 ?a1 ?l1 ?c1 ?k1 ?a2 ?l2 ?c2 ?k2 ?a3 ?l3 ?c3 ?k3 ?a4 ?l4 ?c4 ?k4 ?a5 ?l5 ?c5 ?k5 ?a6 ?l6 ?c6 ?k6 ?a7 ?l7 ?c7 ?k7 ?z0 ?z1 ?z2 ?z3 ?z4 ?z5 ?z6 ?z7 ?z8 ?z9
    (case a0 => k_is)
    (case l0 => k_is)
    (case c0 => k_is)
    (case k0 => k_is)
    (case a1 => k_is)
    (case l1 => k_is)
    (case c1 => k_is)
    (case k1 => k_is)
    (case a2 => k_is)
    (case l2 => k_is)
    (case c2 => k_is)
    (case k2 => k_is)
    (case a3 => k_is)
    (case l3 => k_is)
    (case c3 => k_is)
    (case k3 => k_is)
    (case a4 => k_is)
    (case l4 => k_is)
    (case c4 => k_is)
    (case k4 => k_is)
    (case a5 => k_is)
    (case l5 => k_is)
    (case c5 => k_is)
    (case k5 => k_is)
    (case a6 => k_is)
    (case l6 => k_is)
    (case c6 => k_is)
    (case k6 => k_is)
    (case a7 => k_is)
    (case l7 => k_is)
    (case c7 => k_is)
    (case k7 => k_is)
    (case z0 => k_is)
    (case z1 => k_is)
    (case z2 => k_is)
    (case z3 => k_is)
    (case z4 => k_is)
    (case z5 => k_is)
    (case z6 => k_is)
    (case z7 => k_is)
    (case z8 => k_is)
    (case z9 => k_is)
