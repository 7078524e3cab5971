import PyProof.Rows.All
import Wide.All
import OpenK.AllK
import Wide.FinOn
import PyProof.EqAt
import PyProof.EqKinds
import PyProof.TupleCall
import HandS.ForMost
import HandS.Conv
import HandS.Style
import HandS.Deep
import KE.DataFind
import PyProof.ReprRoads
import HandS.Zip
import HandS.Walk
import HandS.Comp
import HandS.DictComp
import HandS.RaiseMore
import PyProof.CallFns
import KE.GoesEnum
import HandS.Star
import HandS.Iter
import HandS.IsInst
import HandS.Strs
import HandS.TupMul
import HandS.TupAny
import PyProof.ZipIter
import HandS.Zip0
import HandS.List
import HandS.TupSets
import HandS.SetBool
import KE.GoesMore
import PyProof.P3In
import PyProof.Rows.InDataRows
import HandS.GenList
import HandS.SetKeys
import HandS.NoneIn
import HandS.SetFor
import HandS.SortRule
import KE.DataMinMax
import HandS.SortKw
import HandS.GenYield
import HandS.Flow
import HandS.RevRange
import KE.KTupSum
import PySem.Challenge.RW_savelines_k87_whole_verdicts_and_lines
set_option Elab.async false
set_option linter.all false
set_option maxRecDepth 100000
namespace Sv
open PySem PySem.Spec PyProof.Rows L2
/-- a def's promise for calls made where no repr runs -/
structure FnG (P : Program) (w : World) (K : PySem.W.Frag) (mg : Str → Option Value) (base : Heap)
    (k : Nat) (f : Addr) (fd : FuncData) (ps : List Str) (sp : Sp) : Prop where
  len : ∀ vs H Q E, sp vs H Q E → vs.length = ps.length
  run : ∀ (A : Around), A.guards = some [] →
    ∀ (outer : List Env) (s : Shared) (H : Hp) (args : Args) (us : List Value) (vs : List V) (Q : VK) (E : XK),
    Room k A → Env0 P w K mg base A outer s H → BindsTo s fd args (ps.zip us) → Vals vs us → sp vs H Q E →
    codeAny (model P w) A (.call (.ref f) args) (CR CX0 outer P w H s Q E) s
section
variable {P : Program} {w : World} {K : PySem.W.Frag} {mg : Str → Option Value} {base : Heap}
/-- the def's body, where no repr runs -/
theorem okG {x qual : Str} {st : Stmt} {f : Addr} {fd : FuncData} {N ps : List Str} {k : Nat} {sp : Sp}
    (F : Fun K x qual st f fd) (S : FnScope N ps (defScope st)) (len : ∀ vs H Q E, sp vs H Q E → vs.length = ps.length)
    (hbody : ∀ (cdv : Value) (A : Around) (outer : List Env) (s : Shared) (H : Hp) (vs : List V) (Q : VK) (E : XK),
      A.guards = some [] → Room k (A.deeper (envOfC qual (defScope st) s.heap.objs.size f cdv)) → sp vs H Q E →
      ∃ t, PSs (cxOf CX0 P w K mg base N qual (defScope st) f cdv A outer s H E).nox (defBody st) t ∧
        t { nx := fun _ H' => Q .non H', rt := Q } (start N vs) H) :
    FnG P w K mg base (k + 1) f fd ps sp := by
  obtain ⟨oc, od, kV, doc, pm, an, cdv, ct, osl, rfl, lk, hcd⟩ := F.ex
  refine ⟨len, fun A hg outer s H args us vs Q E hr e0 hb r hsp => ?_⟩
  have hl := len vs H Q E hsp
  have KX : K.In s.heap := e0.mod.kin.keeps fun b o e => And.left (e0.bs b o e)
  have lim := e0.mod.nolimit.keeps fun b o e => And.left (e0.bs b o e)
  have hkind : ∀ y ∈ ps.zip us, (defScope st).names.lookup y.1 = some .local ∨
      ((defScope st).names.lookup y.1 = some .cell ∧
        ((cellsFrom (s.heap.objs.size + 1) (defScope st).names []).lookup y.1).isSome = true) := by
    rintro ⟨n, v⟩ hy
    cases S.par n (List.of_mem_zip hy).1 with
    | inl q => exact Or.inl q
    | inr q => exact Or.inr ⟨q, PySem.W.cellsFrom_some _ _ _ (Or.inl q)⟩
  refine codeAny_call_function hr.depth (KX _ _ lk) rfl S.co S.gen rfl (PySem.W.codeRec_of KX hcd) (hb _ _ _ _ ?_)
  refine wpAny_newFunctionEnv_cells S.kind hkind fun env he s1 X1 => ?_
  subst he
  refine ⟨lim.keeps X1.toInCall.keep, codeAny_func ?_⟩
  obtain ⟨t, ht0, hq⟩ := hbody cdv A outer s H vs Q E hg (hr.deeper _) hsp
  have ht := ht0.nox
  have I0 := inv_start (CX := CX0) (E := E) S hr.hd e0 hl r X1
  refine wpAny_mono (ht.run [] s1 (start N vs) H _ I0 hq) (fun fl s' hs => ?_) (fun e s' hs => hs)
  cases fl with
  | ret u =>
    obtain ⟨v, σ', H', J, rv, q⟩ := hs
    exact ⟨v, H', J.os, J.bare, J.base, J.hok, rv, q⟩
  | next =>
    obtain ⟨σ', H', J, q⟩ := hs
    exact ⟨V.non, H', J.os, J.bare, J.base, J.hok, rfl, q⟩
  | brk =>
    obtain ⟨σ', H', J, q⟩ := hs
    exact q.elim
  | cont =>
    obtain ⟨σ', H', J, q⟩ := hs
    exact q.elim
end
section
variable {X : Cx} {k : Nat} {f : Addr} {fd : FuncData} {ps : List Str} {sp : Sp} {dvs : List V} {ds : List Value}
  {E : XK} {x : Str} {p pos : Pos} {e : Expr} {es : List Expr} {t : TA}
/-- f(e, ..) of such a def -/
theorem pe_callG (F : FnG X.prog X.w X.K X.mg X.base k f fd ps sp) (hgd : X.A.guards = some []) (hr : Room k X.A) (hg : Gl X x)
    (hm : X.mg x = some (.ref f)) (hk : PySem.W.keepIn X.K (.ref f) = true) (hb : Binds X.K fd ps ds) (hd : Vals dvs ds)
    (hx : Passes CX0 X E) (ha : PA X (e :: es) t) (hdb : (x == ("__debug__" : Str)) = false := by decide)
    (he : starEach (e :: es) X.env = (false, eval e X.env) :: starEach es X.env := by rfl)
    (hpl : (backTo pos (starEach es X.env)).any (·.1) = false := by rfl) :
    PE X (.Call (.Name x p) (e :: es) [] pos) (tCall sp dvs E t) := by
  refine ⟨fun pins s σ H Q I h => wpAny_Call_Name_kw (ld_glob I hg hm ?_ hdb)⟩
  refine PySem.W.callWith_K (h₀ := X.base) I.ok.mod.kin hk
    (thn (ha.run pos pins s σ H _ I h) fun us s1 ⟨vs, H1, I1, r, q⟩ => ⟨I1.kIn, ?_⟩) he hpl
  have r2 : Vals (vs ++ dvs) (us ++ ds) := r.append hd
  have hl : (us ++ ds).length = ps.length := r2.length.symm.trans (F.len _ _ _ _ q)
  refine wpAny_call (codeAny_mono (F.run X.A hgd X.stack s1 H1 ⟨us, []⟩ (us ++ ds) (vs ++ dvs) Q E hr I1.env0
    (hb s1 us I1.kIn hl) r2 q) fun res s' hq => ?_)
  cases res with
  | error e => exact hx pins σ H1 s1 e s' I1 hq
  | ok fl =>
    cases fl with
    | ret u => exact I1.after hq
    | next => exact hq.elim
    | brk => exact hq.elim
    | cont => exact hq.elim
end
section
variable {X : Cx}
def Shown (K : PySem.W.Frag) (H : Hp) (v : V) (d : PyData) : Prop :=
  Dp K H v d ∧ isDisplay d = true ∧ d.showable = true ∧ d.hasDict = false ∧ d.depth ≤ 60 ∧ d.shown.length ≤ sizeLine
/-- repr(x) of lists and tuples -/
theorem call_repr (hgd : X.A.guards = some []) (hu : X.A.units + 64 < cLine) : CallR X (.builtin "repr")
    (fun xs H Q => ∃ v d, xs = [v] ∧ Shown X.K H v d ∧ Q (.str d.shown) H) := by
  intro pins s σ H xs us Q I r h
  obtain ⟨v, d, rfl, ⟨hd, h1, h2, h3, h4, h5⟩, q⟩ := h
  obtain ⟨u, rfl, ru⟩ := vals1 r
  obtain ⟨as, R⟩ := Dp.reads I d v u hd ru
  obtain ⟨a, rfl⟩ := isRef_of_reads R h1
  refine repr_of_reads' R h2 (PyData.noDict_hsm h3) hgd (by omega) (fun _ _ e => e) (fun h' tk1 tk2 hk => ?_) h5
  exact ⟨.str _, H, I.kept (t' := tk2) hk, ⟨tk1, rfl⟩, q⟩
end
def TupN (H : Hp) (a : Addr) (xs : List V) : Prop := ∃ o : Obj, H a = some (.frz o (.tup xs)) ∧ o.dict = none
theorem TupN.sqT {K : PySem.W.Frag} {H : Hp} {a : Addr} {xs : List V} (h : TupN H a xs) : SqT K H a xs := by
  obtain ⟨o, h, _⟩ := h
  exact .inl (.inr ⟨o, h⟩)
theorem TupN.new {H : Hp} {p : Addr} {o : Obj} {xs : List V} (d : o.dict = none) : TupN (upd H p (.frz o (.tup xs))) p xs := ⟨o, upd_same, d⟩
section
variable {X : Cx} {es : List Expr} {t : TA} {pos : Pos}
def tTupF (t : TA) : TE := fun σ H Q => t σ H fun xs H1 => xs.length ≤ sizeLine ∧ ∀ (p : Addr) (o : Obj), H1 p = none → o.dict = none → Q (.ref p) (upd H1 p (.frz o (.tup xs)))
theorem pe_tupF {x1} (h : PA X es t) : PE X (.Tuple es x1 pos) (tTupF t) := by
  refine ⟨fun pins s σ H Q I hq => ?_⟩
  refine wpAny_Tuple_spliced (thn (h.run pos pins s σ H _ I hq) fun us s1 ⟨xs, H1, I1, r, z, q⟩ => ⟨r.length ▸ z, ?_⟩)
  have hf : H1 s1.heap.objs.size = none := I1.hok.fresh (Nat.le_refl _)
  have hg := Heap.get?_push_size s1.heap (o := { cls := .type "tuple", data := .seq us.toArray }) rfl
  refine ⟨.ref s1.heap.objs.size, _, I1.laid (t' := s1.toks) (o := .frz { cls := .type "tuple", data := .seq us.toArray } (.tup xs)) (fun b u e => Heap.get?_push_of_some _ e) (Nat.le_refl _) ?_, rfl, q _ _ hf rfl⟩
  exact ⟨hg, z, us, r, ⟨_, hg, rfl, _, rfl⟩⟩
/-- a method of such a tuple, called with arguments -/
def tTM (r : V → List V → Hp → VK → Prop) (to : TE) (t : TA) : TE := fun σ H Q => to σ H fun x H1 => (∃ p xs, x = .ref p ∧ TupN H1 p xs) ∧ t σ H1 fun vs H2 => r x vs H2 Q
theorem pe_tm {name : Str} {id : String} {o e : Expr} {to : TE} {r : V → List V → Hp → VK → Prop} {apos cpos : Pos} (slot : Slot "tuple" name id) (hty : typeOf (.builtin id) = pure (.type "method_descriptor")) (hm : MtR X id r) (ho : PE X o to) (ha : PA X (e :: es) t)
    (hbase : attributeBase o name X.env (eval o X.env) = eval o X.env := by rfl)
    (hfew : ((backTo cpos (starEach (e :: es) X.env)).all (fun x => !x.1) && (backToKw cpos (keywordEach [] X.env)).all (fun x => x.1.isSome)
      && decide ((e :: es).length + ([] : List Keyword).length + (if ([] : List Keyword).isEmpty then 0 else 1) < 30)) = true := by rfl)
    (hline : (apos.endLine == cpos.line) = true := by rfl) (hs : starEach (e :: es) X.env = (false, eval e X.env) :: starEach es X.env := by rfl) (hplain : (backTo cpos (starEach es X.env)).any (·.1) = false := by rfl) :
    PE X (.Call (.Attribute o name apos) (e :: es) [] cpos) (tTM r to t) := by
  refine ⟨fun pins s σ H Q I h => ?_⟩
  refine wpAny_Call_method_late hbase hfew hline rfl (thn (ho.run pins s σ H _ I h) fun v s1 ⟨x, H1, I1, r1, ty, q1⟩ => ?_)
  obtain ⟨p, xs, rfl, ob, hob, hdi⟩ := ty
  cases r1
  obtain ⟨g1, hz, its, rv, ot, g2, hc, _⟩ := I1.hok p _ hob
  obtain rfl : ot = ob := Option.some.inj (g2.symm.trans g1)
  refine ⟨"tuple", id, PySem.F.plainAttrs_tuple, slot, hty, ⟨ot, g1, hc⟩, fun a e => ?_, ?_⟩
  · cases e
    exact ⟨ot, g1, hdi⟩
  have hA := ha.run cpos pins s1 σ H1 _ I1 q1
  rw [hs] at hA ⊢
  refine Calls.callWith_builtin (by show (false || (backTo cpos (starEach es X.env)).any (·.1)) = false; rw [hplain] <;> rfl) (Calls.evalArgs_plain ?_)
  exact thn hA fun us s2 ⟨vs, H2, I2, r2, q2⟩ => hm pins s2 σ H2 (.ref p) vs (.ref p) us Q I2 rfl r2 q2
end
section
variable {X : Cx}
def rRemD (K : PySem.W.Frag) : V → List V → Hp → VK → Prop := fun x args H Q => ∃ (l : Addr) (y : V) (d : PyData) (xs : List V) (ds : List PyData) (j : Nat),
  x = .ref l ∧ args = [y] ∧ H l = some (.lst xs) ∧ DpAll K H xs ds ∧ Dp K H y d ∧ PyData.plainAll ds = true ∧ d.plain = true ∧ d.depth ≤ 60 ∧
  SeqAt.dataPlace ds d = some j ∧ Q .non (upd H l (.lst (xs.eraseIdx j)))
theorem mt_removeD (hu : X.A.units + 64 < cLine) : MtR X "list.remove" (rRemD X.K) := by
  intro pins s σ H x args v us Q I rx ra h
  obtain ⟨l, y, d, xs, ds, j, rfl, rfl, hH, hds, hd, p1, p2, p3, hj, q⟩ := h
  cases rx
  obtain ⟨u, rfl, ru⟩ := vals1 ra
  obtain ⟨z, its, n, r, hl, e⟩ := I.lstM hH
  obtain ⟨as, R1⟩ := Dp.readsAll I ds xs its hds r
  obtain ⟨bs, R2⟩ := Dp.reads I d y u hd ru
  refine SeqAt.remove_list_data (vs := its.toArray) ⟨_, e, rfl, n, rfl⟩ R1 R2 p1 p2 (by omega) hj (by rw [List.size_toArray, ← hl]; exact z) ?_
  refine ⟨.non, _, I.lset (its' := its.eraseIdx j) (t' := s.toks) hH e ?_ (r.eraseIdx j) ?_, rfl, q⟩
  · show its.toArray.eraseIdxIfInBounds j = (its.eraseIdx j).toArray
    rw [List.eraseIdxIfInBounds_toArray]
  · have := List.length_eraseIdx_le xs j
    omega
end
def iD (ns : List Int) : List PyData := ns.map PyData.int
section
variable {K : PySem.W.Frag} {H : Hp}
theorem dp_ints : ∀ ns : List Int, DpAll K H (ns.map V.int) (iD ns)
  | [] => .nil
  | n :: r => .cons (.int n) (dp_ints r)
end
theorem iD_lay : ∀ ns : List Int, PyData.canLayAll0 (iD ns) = true
  | [] => by simp [iD, PyData.canLayAll0]
  | n :: r => by
    have h := iD_lay r
    simp only [iD, List.map_cons, PyData.canLayAll0, PyData.canLay0] at h ⊢
    rw [h]
    rfl
theorem iD_depth : ∀ ns : List Int, PyData.depthAll (iD ns) = 0
  | [] => by simp [iD, PyData.depthAll]
  | n :: r => by
    have h := iD_depth r
    simp only [iD, List.map_cons, PyData.depthAll, PyData.depth] at h ⊢
    rw [h]
    rfl
theorem shaped_lst (ns : List Int) : SeqAt.shaped (.list (iD ns)) = true := by
  have h1 := iD_lay ns
  have h2 := iD_depth ns
  show (PyData.canLay0 (.list (iD ns)) && decide (PyData.depth (.list (iD ns)) ≤ 64)) = true
  simp only [PyData.canLay0, PyData.depth, h1, h2, Bool.true_and]
  decide
theorem shaped_tup (ns : List Int) : SeqAt.shaped (.tuple (iD ns)) = true := by
  have h1 := iD_lay ns
  have h2 := iD_depth ns
  show (PyData.canLay0 (.tuple (iD ns)) && decide (PyData.depth (.tuple (iD ns)) ≤ 64)) = true
  simp only [PyData.canLay0, PyData.depth, h1, h2, Bool.true_and]
  decide
theorem eqv_nil (ds : List PyData) : PyData.eqv (.list ds) (.list []) = ds.isEmpty := by
  cases ds <;> simp [PyData.eqv, PyData.eqvAll]
def Kp (a b : Addr) (H H' : Hp) : Prop := ∀ c o, c ≠ a → c ≠ b → H c = some o → H' c = some o
theorem Kp.refl {a b : Addr} (H : Hp) : Kp a b H H := fun _ _ _ _ h => h
theorem Kp.trans {a b : Addr} {H H1 H2 : Hp} (x : Kp a b H H1) (y : Kp a b H1 H2) : Kp a b H H2 := fun c o h1 h2 h => y c o h1 h2 (x c o h1 h2 h)
theorem Kp.of {a b : Addr} {H H' : Hp} (h : Same H H') : Kp a b H H' := fun c o _ _ e => h c o e
theorem Kp.new {a b : Addr} {H : Hp} {p : Addr} {o : HO} (h : H p = none) : Kp a b H (upd H p o) := fun c u _ _ e => by
  rw [upd_ne (ne_of_none e h)]
  exact e
theorem Kp.put {a b : Addr} {H : Hp} {p : Addr} {o : HO} (h : p = a ∨ p = b) : Kp a b H (upd H p o) := fun c u h1 h2 e => by
  rw [upd_ne (by rcases h with rfl | rfl <;> assumption)]
  exact e
theorem Same.new {H : Hp} {p : Addr} {o : HO} (h : H p = none) : Same H (upd H p o) := fun c u e => by
  rw [upd_ne (ne_of_none e h)]
  exact e
end Sv
namespace Sv
open PySem PySem.Spec PyProof.Rows L2
section
variable {X : Cx}
def rTupF (K : PySem.W.Frag) : List V → Hp → VK → Prop := fun xs H Q => ∃ p ys, xs = [.ref p] ∧ SqL K H p ys ∧ ∀ (l : Addr) (o : Obj), H l = none → o.dict = none → Q (.ref l) (upd H l (.frz o (.tup ys)))
theorem call_tupleF : CallR X (.type "tuple") (rTupF X.K) := by
  intro pins s σ H xs us Q I r h
  obtain ⟨p, ys, rfl, hq, q⟩ := h
  obtain ⟨u, rfl, rx⟩ := vals1 r
  cases rx
  obtain ⟨its, r', pl, hz⟩ := I.list hq
  have hlen := r'.length
  refine call_tuple_list pl.isList (fun h' kp => ?_) (by simp only [List.size_toArray] <;> omega)
  have I1 : Inv X pins σ H { s with heap := h' } := I.kept (t' := s.toks) kp
  have hg := Heap.get?_push_size h' (o := { cls := .type "tuple", data := .seq its.toArray }) rfl
  refine ⟨.ref h'.objs.size, _, I1.laid (t' := s.toks) (o := .frz { cls := .type "tuple", data := .seq its.toArray } (.tup ys)) (fun b o e => Heap.get?_push_of_some _ e) (Nat.le_refl _) ?_, rfl, q _ _ (I1.hok.fresh (Nat.le_refl _)) rfl⟩
  exact ⟨hg, hz, its, r', ⟨_, hg, rfl, _, rfl⟩⟩
end
end Sv
namespace Sv
open PySem PySem.Spec PyProof.Rows L2
section
variable {J : It} {n : Nat} {G : Hp → Prop} {Y : Nat → Hp → V → Hp → Prop}
/-- the outer one -/
theorem lc2_out (w : Walk J n G Y) {g : TG} {tt : TT} {wi1 : TI} {g1 : TG} {tt1 : TT} {te : TE} {vs vs1 : List Nat} {σ : L2.St} {H1 : Hp} {D : Addr} {Qd : Hp → Prop} (Pv : Nat → Hp → Prop) (h0 : Pv 0 (upd H1 D (.lst []))) (hG : ∀ i H, i ≤ n → Pv i H → G H)
    (hs : ∀ i x H H', i < n → Pv i H → Y i H x H' → g x (wipe σ vs) H' fun σ2 H2 => wipe σ2 vs = wipe σ vs ∧ tt σ2 H2 fun b H3 =>
      if b = true then wi1 σ2 H3 fun J1 H4 => ∃ W1 : Nat → Nat → Hp → Prop, (∃ m, W1 0 m H4) ∧ ∀ j k H, W1 j k H →
        (J1.stop j H ∧ Pv (i + 1) H) ∨ (J1.go j H ∧ ∃ Nx1 : Hp → Prop, (∀ H', Nx1 H' → ∃ k', k' < k ∧ W1 (j + 1) k' H') ∧ ∀ x H', J1.yld j H x H' → g1 x (wipe σ2 vs1) H' fun σ3 H5 => wipe σ3 vs1 = wipe σ2 vs1 ∧ tt1 σ3 H5 fun b H6 =>
          if b = true then te σ3 H6 fun y H7 => ∃ acc, H7 D = some (.lst acc) ∧ acc.length < sizeLine ∧ Nx1 (upd H7 D (.lst (acc ++ [y]))) else Nx1 H6)
      else Pv (i + 1) H3) (hd : ∀ H, Pv n H → Qd H) :
    ∃ W : Nat → Nat → Hp → Prop, (∃ m, W 0 m (upd H1 D (.lst []))) ∧ ∀ i m H, W i m H →
      (J.stop i H ∧ Qd H) ∨ (J.go i H ∧ ∃ Nx : Hp → Prop, (∀ H', Nx H' → ∃ m', m' < m ∧ W (i + 1) m' H') ∧ ∀ x H', J.yld i H x H' → g x (wipe σ vs) H' fun σ2 H2 => wipe σ2 vs = wipe σ vs ∧ tt σ2 H2 fun b H3 =>
        if b = true then wi1 σ2 H3 fun J1 H4 => ∃ W1 : Nat → Nat → Hp → Prop, (∃ m, W1 0 m H4) ∧ ∀ j k H, W1 j k H →
          (J1.stop j H ∧ Nx H) ∨ (J1.go j H ∧ ∃ Nx1 : Hp → Prop, (∀ H', Nx1 H' → ∃ k', k' < k ∧ W1 (j + 1) k' H') ∧ ∀ x H', J1.yld j H x H' → g1 x (wipe σ2 vs1) H' fun σ3 H5 => wipe σ3 vs1 = wipe σ2 vs1 ∧ tt1 σ3 H5 fun b H6 =>
            if b = true then te σ3 H6 fun y H7 => ∃ acc, H7 D = some (.lst acc) ∧ acc.length < sizeLine ∧ Nx1 (upd H7 D (.lst (acc ++ [y]))) else Nx1 H6)
        else Nx H3) := by
  refine ⟨fun i m H => m = n - i ∧ i ≤ n ∧ Pv i H, ⟨n, by simp, Nat.zero_le _, h0⟩, ?_⟩
  rintro i m H ⟨rfl, hi, p⟩
  have q := hG i H hi p
  by_cases hlt : i < n
  · refine .inr ⟨w.goes i H hlt q, Pv (i + 1), fun H' p' => ⟨n - (i + 1), by omega, rfl, hlt, p'⟩, fun x H' y => hs i x H H' hlt p (w.yields i H x H' hlt q y)⟩
  · have e : i = n := by omega
    subst e
    exact .inl ⟨w.stops H q, hd H p⟩
/-- the inner one -/
theorem lc2_in (w : Walk J n G Y) {g1 : TG} {tt1 : TT} {te : TE} {vs1 : List Nat} {σ2 : L2.St} {H4 : Hp} {D : Addr} {R : Hp → Prop} (Pv : Nat → Hp → Prop) (h0 : Pv 0 H4) (hG : ∀ i H, i ≤ n → Pv i H → G H)
    (hs : ∀ i x H H', i < n → Pv i H → Y i H x H' → g1 x (wipe σ2 vs1) H' fun σ3 H5 => wipe σ3 vs1 = wipe σ2 vs1 ∧ tt1 σ3 H5 fun b H6 =>
      if b = true then te σ3 H6 fun y H7 => ∃ acc, H7 D = some (.lst acc) ∧ acc.length < sizeLine ∧ Pv (i + 1) (upd H7 D (.lst (acc ++ [y]))) else Pv (i + 1) H6) (hd : ∀ H, Pv n H → R H) :
    ∃ W1 : Nat → Nat → Hp → Prop, (∃ m, W1 0 m H4) ∧ ∀ j k H, W1 j k H →
      (J.stop j H ∧ R H) ∨ (J.go j H ∧ ∃ Nx1 : Hp → Prop, (∀ H', Nx1 H' → ∃ k', k' < k ∧ W1 (j + 1) k' H') ∧ ∀ x H', J.yld j H x H' → g1 x (wipe σ2 vs1) H' fun σ3 H5 => wipe σ3 vs1 = wipe σ2 vs1 ∧ tt1 σ3 H5 fun b H6 =>
        if b = true then te σ3 H6 fun y H7 => ∃ acc, H7 D = some (.lst acc) ∧ acc.length < sizeLine ∧ Nx1 (upd H7 D (.lst (acc ++ [y]))) else Nx1 H6) := by
  refine ⟨fun i m H => m = n - i ∧ i ≤ n ∧ Pv i H, ⟨n, by simp, Nat.zero_le _, h0⟩, ?_⟩
  rintro i m H ⟨rfl, hi, p⟩
  have q := hG i H hi p
  by_cases hlt : i < n
  · refine .inr ⟨w.goes i H hlt q, Pv (i + 1), fun H' p' => ⟨n - (i + 1), by omega, rfl, hlt, p'⟩, fun x H' y => hs i x H H' hlt p (w.yields i H x H' hlt q y)⟩
  · have e : i = n := by omega
    subst e
    exact .inl ⟨w.stops H q, hd H p⟩
end
end Sv
namespace Sv
open PySem PySem.Spec PyProof.Rows L2
section
variable {J : It} {n : Nat} {G : Hp → Prop} {Y : Nat → Hp → V → Hp → Prop}
theorem dc_it (w : Walk J n G Y) {g : TG} {tt : TT} {tk tv : TE} {vs : List Nat} {σ : L2.St} {H1 : Hp} {D : Addr} {Qd : Hp → Prop} (Pv : Nat → Hp → Prop) (h0 : Pv 0 (upd H1 D (.dK []))) (hG : ∀ i H, i ≤ n → Pv i H → G H)
    (hs : ∀ i x H H', i < n → Pv i H → Y i H x H' → g x (wipe σ vs) H' fun σ2 H2 => wipe σ2 vs = wipe σ vs ∧ tt σ2 H2 fun b H3 =>
      if b = true then tk σ2 H3 fun y H4 => tv σ2 H4 fun z H5 => ∃ kvs k, y = kV k ∧ H5 D = some (.dK kvs) ∧ kvs.length < sizeLine ∧ Pv (i + 1) (upd H5 D (.dK (putK kvs k z))) else Pv (i + 1) H3) (hd : ∀ H, Pv n H → Qd H) :
    ∃ W : Nat → Nat → Hp → Prop, (∃ m, W 0 m (upd H1 D (.dK []))) ∧ ∀ i m H, W i m H →
      (J.stop i H ∧ Qd H) ∨ (J.go i H ∧ ∃ Nx : Hp → Prop, (∀ H', Nx H' → ∃ m', m' < m ∧ W (i + 1) m' H') ∧ ∀ x H', J.yld i H x H' → g x (wipe σ vs) H' fun σ2 H2 => wipe σ2 vs = wipe σ vs ∧ tt σ2 H2 fun b H3 =>
        if b = true then tk σ2 H3 fun y H4 => tv σ2 H4 fun z H5 => ∃ kvs k, y = kV k ∧ H5 D = some (.dK kvs) ∧ kvs.length < sizeLine ∧ Nx (upd H5 D (.dK (putK kvs k z))) else Nx H3) := by
  refine ⟨fun i m H => m = n - i ∧ i ≤ n ∧ Pv i H, ⟨n, by simp, Nat.zero_le _, h0⟩, ?_⟩
  rintro i m H ⟨rfl, hi, p⟩
  have q := hG i H hi p
  by_cases hlt : i < n
  · refine .inr ⟨w.goes i H hlt q, Pv (i + 1), fun H' p' => ⟨n - (i + 1), by omega, rfl, hlt, p'⟩, fun x H' y => hs i x H H' hlt p (w.yields i H x H' hlt q y)⟩
  · have e : i = n := by omega
    subst e
    exact .inl ⟨w.stops H q, hd H p⟩
end
end Sv
namespace PySem
open Sem (wp)
set_option maxHeartbeats 1000000 in
theorem sv_enum_new {v : Value} {o : Obj} {H : Heap → Prop} (B : Begins v o H) :
    Meets (Builtin.«enumerate.__new__» ⟨[.type "enumerate", v], []⟩)
      (fun _ R s => H s.heap ∧ R (.ok (.ret (.ref (s.heap.push o).objs.size)))
        { s with heap := Heap.push (Heap.push s.heap o) { cls := .type "enumerate", data := .fields #[.none, .bool false, .ref s.heap.objs.size, rawInt 0, .none, .none] } }) := by
  refine .of_wp fun prog w A R s h => ?_
  obtain ⟨hp, g, d, tk, os⟩ := s
  obtain ⟨h1, h⟩ := h
  have hsub := sub_enumerate
  have q1 : ∀ {A' : Around} {E' : Value → Shared → Prop} {Q' : Value → Shared → Prop},
      Q' (.ref hp.objs.size) ⟨hp.push o, g, d, tk, os⟩ → wpAny (model prog w) A' (pyIter v) Q' E' ⟨hp, g, d, tk, os⟩ :=
    fun q => B.iter prog w _ _ ⟨hp, g, d, tk, os⟩ _ h1 q
  wp_walk using q1
  refine wpAny_stack_any fun st => wpAny_pure ?_
  split
  · rename_i c _ _ _ _ _
    cases hcc : (c == Value.type "enumerate") <;> (wp_walk using q1; exact ⟨_, rfl, h⟩)
  · wp_walk using q1
    exact ⟨_, rfl, h⟩
section
variable {prog : Program} {w : World} {A : Around} {E : Value → Shared → Prop} {s : Shared}
theorem sv_enum_call {v : Value} {o : Obj} {H : Heap → Prop} {Q : Value → Shared → Prop} (B : Begins v o H) (h1 : H s.heap)
    (h : ∀ h', IsEnum h' (s.heap.objs.size + 1) s.heap.objs.size 0 .none → h'.get? s.heap.objs.size = some o →
      (∀ b u, s.heap.get? b = some u → h'.get? b = some u) → Q (.ref (s.heap.objs.size + 1)) { s with heap := h' }) :
    wpAny (model prog w) A (call (.type "enumerate") [v]) Q E s := by
  refine callType_new F.called_enumerate (by decide) (F.typeCall_enumerate_1 _) (F.newCall_enumerate_1 _)
    (fun obj => F.args_object_init_2 obj _) F.entry_enumerate_new (sv_enum_new B) ⟨h1, ?_⟩
  have hz : (s.heap.push o).objs.size = s.heap.objs.size + 1 := Heap.size_push ..
  show _ ∧ _
  rw [hz]
  have he := Heap.get?_push_size (s.heap.push o)
    (o := { cls := .type "enumerate", data := .fields #[.none, .bool false, .ref s.heap.objs.size, rawInt 0, .none, .none] }) rfl
  rw [hz] at he
  exact ⟨⟨_, he, rfl⟩, h _ he (Heap.get?_push_of_some _ (Heap.get?_push_size _ B.free))
    fun b u x => Heap.get?_push_of_some _ (Heap.get?_push_of_some _ x)⟩
end
end PySem
namespace Sv
open PySem PySem.Spec PyProof.Rows L2
/-- a tuple's items, each in a new pair with its number -/
def Itte (K : PySem.W.Frag) (a : Addr) (xs : List V) : It where
  go := fun i H => SqT K H a xs ∧ i < xs.length
  yld := fun i H v H' => ∃ T x, v = .ref T ∧ H T = none ∧ H' = upd H T (.tup [.int (i : Nat), x]) ∧ xs[i]? = some x
  stop := fun i H => SqT K H a xs ∧ i = xs.length
theorem turn_etup {P : Program} {w : World} {K : PySem.W.Frag} {elts : List Expr} {kk : Nat} {tpos : Pos} (a e it : Addr) (xs : List V) :
    Turn P w K (.Tuple elts kk tpos) (Itte K a xs) [e, it] e
      (fun i h => (∃ old, IsEnum h e it ((i : Nat) : Int) old) ∧ h.IsTupleIter it a i ∧ e ≠ it ∧ a ≠ it ∧ a ≠ e) where
  mem := by simp
  obj := fun i h st b hb => by
    obtain ⟨⟨old, he⟩, ⟨o, ho, hc, hd⟩, _⟩ := st
    rcases (show b = e ∨ b = it by simpa using hb) with rfl | rfl
    · exact ⟨_, he, fun v q => nomatch q⟩
    · exact ⟨o, ho, fun v q => by rw [hd] at q; cases q⟩
  keep := fun i h h' st k => by
    obtain ⟨⟨old, he⟩, hi, hr⟩ := st
    exact ⟨⟨old, k e (by simp) _ he⟩, hi.at fun o q => k it (by simp) o q, hr⟩
  item := by
    intro X hP hw hK hc i pins s σ H E I hf st hg
    subst hP hw hK
    obtain ⟨⟨old, he⟩, hit, hne, hai, hae⟩ := st
    obtain ⟨hq, hi⟩ := hg
    obtain ⟨its, rv, p, hz⟩ := I.tuple hq
    have hlen := rv.length
    have hel : e < s.heap.objs.size := Heap.lt_size he
    have hil : it < s.heap.objs.size := by
      obtain ⟨_, q, _⟩ := hit
      exact Heap.lt_size q
    have D : Draws X.prog X.w X.A.in1 it [it, a] its.toArray.size (fun i v => its.toArray[i]? = some v)
        (fun i h => h.IsTupleIter it a i ∧ h.IsTuple a its.toArray) := Draws.tuple (A := X.A.in1) (show X.A.in1.handled = none from I.ok.hd hc) it a hai its.toArray
    refine wpAny_pyNext_enum_itemD D he ⟨hit, p⟩ (by rw [List.size_toArray]; omega) hne (by simp [hne, Ne.symm hae]) fun u h' tk hPu ho hst hT hsz hk => ?_
    refine ⟨_, rfl, wpAny_letOwnedTupleGo_enum (s := { s with heap := h', toks := tk + 1 }) ho fun h'' he' sb => ?_⟩
    obtain ⟨x, hx⟩ : ∃ x, xs[i]? = some x := ⟨_, List.getElem?_eq_getElem hi⟩
    obtain ⟨u', hu', ru⟩ := rv.get hx
    have hPu' : its[i]? = some u := by simpa using hPu
    obtain rfl : u' = u := Option.some.inj (hu'.symm.trans hPu')
    have hT2 : h''.get? s.heap.objs.size = some { cls := .type "tuple", data := .seq #[.int i tk, u'] } := (sb.2 _ (Nat.ne_of_gt hel)).trans hT
    have new : ObjOk X.prog X.w (upd H s.heap.objs.size (.tup [.int (i : Nat), x])) h'' s.heap.objs.size (.tup [.int (i : Nat), x]) := by
      refine ⟨?_, [.int i tk, u'], .cons ⟨_, rfl⟩ (.cons ru .nil), ⟨_, hT2, rfl, _, rfl⟩⟩
      show 2 ≤ sizeLine
      decide
    have I1 : Inv X pins σ (upd H s.heap.objs.size (.tup [.int (i : Nat), x])) { s with heap := h'', toks := tk + 1 } := by
      refine I.turnedNew (ch := [e, it]) (fun b ob hb q => ?_) hf (Nat.le_refl _) new
      have nb : b ≠ e ∧ b ≠ it := by simpa using hb
      exact (sb.2 b nb.1).trans (hk b ob nb.1 nb.2 q)
    refine ⟨.ref s.heap.objs.size, _, I1, rfl, ⟨_, x, rfl, I.hok.fresh (Nat.le_refl _), rfl, hx⟩,
      ⟨⟨u', ?_⟩, hst.1.at fun o q => (sb.2 it (Ne.symm hne)).trans q, hne, hai, hae⟩, fun b hb => ?_⟩
    · have e1 : ((i + 1 : Nat) : Int) = (i : Int) + 1 := by omega
      rw [e1]
      exact he'
    · have hb' : b < s.heap.objs.size := by
        rcases (show b = e ∨ b = it by simpa using hb) with rfl | rfl <;> assumption
      rw [upd_ne (Nat.ne_of_lt hb')]
      exact (hf b hb).1
  done := by
    intro X hP hw hK hc i pins s σ H E I hf st hg
    subst hP hw hK
    obtain ⟨⟨old, he⟩, hit, hne, hai, hae⟩ := st
    obtain ⟨hq, hi⟩ := hg
    obtain ⟨its, rv, p, hz⟩ := I.tuple hq
    have hlen := rv.length
    obtain ⟨f0, f1, f2, f3, f4, f5⟩ := hf it (by simp)
    have D : Draws X.prog X.w X.A.in1 it [it, a] its.toArray.size (fun i v => its.toArray[i]? = some v)
        (fun i h => h.IsTupleIter it a i ∧ h.IsTuple a its.toArray) := Draws.tuple (A := X.A.in1) (show X.A.in1.handled = none from I.ok.hd hc) it a hai its.toArray
    have hi2 : i = its.toArray.size := by
      rw [List.size_toArray]
      omega
    have hit2 : s.heap.IsTupleIter it a its.toArray.size := hi2 ▸ hit
    exact wpAny_pyNext_enum_endD D he ⟨hit2, p⟩ fun h' eb => ⟨rfl, I.turned (t' := s.toks) (fun b o hb q => eb b o hb q) f0 f1 f3 f4 f5⟩
  self := fun A i s Q E st h => by
    obtain ⟨⟨_, he⟩, _⟩ := st
    exact wpAny_pyIter_enum he h
section
variable {X : Cx}
def rTcount (K : PySem.W.Frag) : V → List V → Hp → VK → Prop := fun x args H Q => ∃ (p : Addr) (ns : List Int) (k : Int), x = .ref p ∧ args = [.int k] ∧ SqT K H p (ns.map V.int) ∧ Q (.int (ns.count k : Nat)) H
/-- t.count(k), t a tuple of ints -/
theorem mt_tcount (hu : X.A.units + 64 < cLine) : MtR X "tuple.count" (rTcount X.K) := by
  intro pins s σ H x args v us Q I rx ra h
  obtain ⟨p, ns, k, rfl, rfl, hs, q⟩ := h
  cases rx
  obtain ⟨u, rfl, ru⟩ := vals1 ra
  obtain ⟨t, rfl⟩ := ru
  obtain ⟨its, rv, p1, hz⟩ := I.tuple hs
  obtain ⟨as, R1⟩ := Dp.readsAll I (iD ns) (ns.map V.int) its (dp_ints ns) rv
  have hpl : ∀ ns : List Int, PyData.plainAll (iD ns) = true := by
    intro ns
    induction ns with
    | nil => rfl
    | cons n r ih => exact ih
  have hcnt : ((iD ns).countP fun y => PyData.eqv y (.int k)) = ns.count k := by
    clear R1 rv hs hz q
    induction ns with
    | nil => rfl
    | cons n r ih =>
      have e : PyData.eqv (.int n) (.int k) = (n == k) := by simp only [PyData.eqv]
      simp only [iD, List.map_cons, List.countP_cons, List.count_cons] at ih ⊢
      rw [ih, e]
  refine SeqAt.count_tuple_data (vs := its.toArray) p1 R1 (Reads.int k t) (hpl ns) rfl ?_ ?_
  · have : min (PyData.depthAll (iD ns)) (PyData.int k).depth ≤ 0 := Nat.min_le_right _ _
    omega
  · rw [hcnt]
    exact ⟨.int (ns.count k : Nat), H, I.tok _, ⟨_, rfl⟩, q⟩
end
end Sv
namespace Sv
open PySem PySem.Spec PyProof.Rows L2
section
variable {X : Cx}
/-- t[lo:hi], not the whole, known to bear no dict -/
def rSlTF (K : PySem.W.Frag) : V → Option Int → Option Int → Hp → VK → Prop := fun x lo hi H Q => ∃ a xs, x = .ref a ∧ SqT K H a xs ∧
  ¬ (HT.sIx xs.length 0 lo = 0 ∧ HT.sIx xs.length xs.length hi = xs.length) ∧ ∀ (p : Addr) (o : Obj), H p = none → o.dict = none → Q (.ref p) (upd H p (.frz o (.tup (cutV xs lo hi))))
theorem sl_tupF : SlR X (rSlTF X.K) := by
  intro pins s σ H x v vl vu lo hi sl Q I rx hs pl pu h
  obtain ⟨a, xs, rfl, hx, hw, q⟩ := h
  cases rx
  obtain ⟨its, r, ht, hz⟩ := I.tuple hx
  have hlen : its.toArray.size = xs.length := by
    rw [List.size_toArray]
    exact r.length.symm
  refine ⟨"tuple", _, PyProof.Rows.slot_tuple_getitem.lookup, ht.typeIs, ?_⟩
  have hnot : ¬ (HT.sIx its.toArray.size 0 lo = 0 ∧ HT.sIx its.toArray.size its.toArray.size hi = its.toArray.size) := by rwa [hlen]
  refine HT.getItem_tuple_cut ht hs pl pu hnot ?_ (hlen ▸ hz)
  rw [hlen]
  have hg := Heap.get?_push_size s.heap (o := { cls := .type "tuple", data := .seq ((its.toArray.toList.drop (HT.sIx xs.length 0 lo)).take (HT.sIx xs.length xs.length hi - HT.sIx xs.length 0 lo)).toArray }) rfl
  refine ⟨.ref s.heap.objs.size, _, I.laid (t' := s.toks) (o := .frz _ (.tup (cutV xs lo hi))) (fun b ob q => Heap.get?_push_of_some _ q) (Nat.le_refl _) ⟨hg, ?_⟩, rfl, q _ _ (I.hok.fresh (Nat.le_refl _)) rfl⟩
  exact ⟨Nat.le_trans (cutV_length xs lo hi) hz, _, (r.drop (HT.sIx xs.length 0 lo)).take (HT.sIx xs.length xs.length hi - HT.sIx xs.length 0 lo), ⟨_, hg, rfl, _, rfl⟩⟩
end
inductive Kn (K : PySem.W.Frag) (H : Hp) : V → Prop
  | non : Kn K H .non
  | bl (b : Bool) : Kn K H (.bl b)
  | int (i : Int) : Kn K H (.int i)
  | str (x : Str) : Kn K H (.str x)
  | lst {a : Addr} {xs : List V} (e : H a = some (.lst xs)) : Kn K H (.ref a)
  | tup {a : Addr} {xs : List V} (e : H a = some (.tup xs)) : Kn K H (.ref a)
  | ftup {a : Addr} {o : Obj} {xs : List V} (e : H a = some (.frz o (.tup xs))) : Kn K H (.ref a)
  | dK {a : Addr} {kvs : List (Key × V)} (e : H a = some (.dK kvs)) : Kn K H (.ref a)
end Sv
namespace Sv
open PySem PySem.Spec PyProof.Rows L2
mutual
inductive DX (N : Addr → Prop) (K : PySem.W.Frag) (H : Hp) : V → PyData → Prop
  | non : DX N K H .non .none
  | bl (b : Bool) : DX N K H (.bl b) (.bool b)
  | int (i : Int) : DX N K H (.int i) (.int i)
  | str (x : Str) : DX N K H (.str x) (.str x)
  | lst {a : Addr} {xs : List V} {ds : List PyData} : H a = some (.lst xs) → N a → DXs N K H xs ds → DX N K H (.ref a) (.list ds)
  | tup {a : Addr} {xs : List V} {ds : List PyData} : (H a = some (.tup xs) ∨ ∃ o, H a = some (.frz o (.tup xs))) → DXs N K H xs ds → DX N K H (.ref a) (.tuple ds)
  | d0 {a : Addr} : H a = some (.dK []) → DX N K H (.ref a) (.dict [])
  | d1 {a : Addr} {k : Str} {i : Int} : H a = some (.dK [(Sum.inr k, .int i)]) → DX N K H (.ref a) (.dict [(.str k, .int i)])
inductive DXs (N : Addr → Prop) (K : PySem.W.Frag) (H : Hp) : List V → List PyData → Prop
  | nil : DXs N K H [] []
  | cons {v : V} {vs : List V} {d : PyData} {ds : List PyData} : DX N K H v d → DXs N K H vs ds → DXs N K H (v :: vs) (d :: ds)
end
mutual
/-- wherever lists, tuples and dicts stay -/
theorem DX.keep {N : Addr → Prop} {K : PySem.W.Frag} {H H' : Hp} (e : ∀ (a : Addr) (xs : List V), N a → H a = some (.lst xs) → H' a = some (.lst xs)) (e2 : ∀ (a : Addr) (xs : List V), (H a = some (.tup xs) ∨ ∃ o, H a = some (.frz o (.tup xs))) → (H' a = some (.tup xs) ∨ ∃ o, H' a = some (.frz o (.tup xs))))
    (e3 : ∀ (a : Addr) (kvs : List (Key × V)), H a = some (.dK kvs) → H' a = some (.dK kvs)) : ∀ {v : V} {d : PyData}, DX N K H v d → DX N K H' v d
  | _, _, .non => .non
  | _, _, .bl b => .bl b
  | _, _, .int i => .int i
  | _, _, .str x => .str x
  | _, _, .lst h n hs => .lst (e _ _ n h) n (DXs.keep e e2 e3 hs)
  | _, _, .tup h hs => .tup (e2 _ _ h) (DXs.keep e e2 e3 hs)
  | _, _, .d0 h => .d0 (e3 _ _ h)
  | _, _, .d1 h => .d1 (e3 _ _ h)
theorem DXs.keep {N : Addr → Prop} {K : PySem.W.Frag} {H H' : Hp} (e : ∀ (a : Addr) (xs : List V), N a → H a = some (.lst xs) → H' a = some (.lst xs)) (e2 : ∀ (a : Addr) (xs : List V), (H a = some (.tup xs) ∨ ∃ o, H a = some (.frz o (.tup xs))) → (H' a = some (.tup xs) ∨ ∃ o, H' a = some (.frz o (.tup xs))))
    (e3 : ∀ (a : Addr) (kvs : List (Key × V)), H a = some (.dK kvs) → H' a = some (.dK kvs)) : ∀ {vs : List V} {ds : List PyData}, DXs N K H vs ds → DXs N K H' vs ds
  | _, _, .nil => .nil
  | _, _, .cons h hs => .cons (DX.keep e e2 e3 h) (DXs.keep e e2 e3 hs)
end
theorem DX.kp {K : PySem.W.Frag} {H H' : Hp} {a b : Addr} {N : Addr → Prop} {v : V} {d : PyData} (h : DX N K H v d) (e : Kp a b H H') (ha : ¬ N a) (hb : ¬ N b) (la : ∃ xs, H a = some (.lst xs)) (lb : ∃ xs, H b = some (.lst xs)) : DX N K H' v d := by
  obtain ⟨xa, la⟩ := la
  obtain ⟨xb, lb⟩ := lb
  refine h.keep (fun c xs hc q => e _ _ (fun z => ha (z ▸ hc)) (fun z => hb (z ▸ hc)) q) (fun c xs q => q.elim (fun q => .inl (e _ _ (ne_of q la (by intro z; cases z)) (ne_of q lb (by intro z; cases z)) q)) fun ⟨o, q⟩ => .inr ⟨o, e _ _ (ne_of q la (by intro z; cases z)) (ne_of q lb (by intro z; cases z)) q⟩)
    (fun c xs q => e _ _ (ne_of q la (by intro z; cases z)) (ne_of q lb (by intro z; cases z)) q)
mutual
theorem DX.weak {N M : Addr → Prop} {K : PySem.W.Frag} {H : Hp} (e : ∀ (a : Addr) (xs : List V), H a = some (.lst xs) → N a → M a) : ∀ {v : V} {d : PyData}, DX N K H v d → DX M K H v d
  | _, _, .non => .non
  | _, _, .bl b => .bl b
  | _, _, .int i => .int i
  | _, _, .str x => .str x
  | _, _, .lst h n hs => .lst h (e _ _ h n) (DXs.weak e hs)
  | _, _, .tup h hs => .tup h (DXs.weak e hs)
  | _, _, .d0 h => .d0 h
  | _, _, .d1 h => .d1 h
theorem DXs.weak {N M : Addr → Prop} {K : PySem.W.Frag} {H : Hp} (e : ∀ (a : Addr) (xs : List V), H a = some (.lst xs) → N a → M a) : ∀ {vs : List V} {ds : List PyData}, DXs N K H vs ds → DXs M K H vs ds
  | _, _, .nil => .nil
  | _, _, .cons h hs => .cons (DX.weak e h) (DXs.weak e hs)
end
theorem DXs.len {N : Addr → Prop} {K : PySem.W.Frag} {H : Hp} : ∀ {vs : List V} {ds : List PyData}, DXs N K H vs ds → vs.length = ds.length
  | _, _, .nil => rfl
  | _, _, .cons _ hs => by rw [List.length_cons, List.length_cons, DXs.len hs]
theorem DXs.at {N : Addr → Prop} {K : PySem.W.Frag} {H : Hp} : ∀ {vs : List V} {ds : List PyData}, DXs N K H vs ds → ∀ {i : Nat} {v : V}, vs[i]? = some v → ∃ d, ds[i]? = some d ∧ DX N K H v d
  | _, _, .nil, i, v, h => by simp at h
  | _, _, .cons (d := d) h1 h2, 0, v, h => by
    cases h
    exact ⟨d, rfl, h1⟩
  | _, _, .cons h1 h2, i + 1, v, h => DXs.at h2 (i := i) h
theorem DXs.append {N : Addr → Prop} {K : PySem.W.Frag} {H : Hp} : ∀ {vs : List V} {ds : List PyData} {ws : List V} {es : List PyData}, DXs N K H vs ds → DXs N K H ws es → DXs N K H (vs ++ ws) (ds ++ es)
  | _, _, _, _, .nil, h => h
  | _, _, _, _, .cons h1 h2, h => .cons h1 (DXs.append h2 h)
theorem DXs.ints {N : Addr → Prop} {K : PySem.W.Frag} {H : Hp} : ∀ ns : List Int, DXs N K H (ns.map V.int) (iD ns)
  | [] => .nil
  | n :: r => .cons (.int n) (DXs.ints r)
section
variable {X : Cx} {pins : List (Addr × Obj)} {σ : L2.St} {H : Hp} {s : Shared} {N : Addr → Prop}
mutual
theorem DX.reads (hN : ∀ a, N a → a ≠ sysModules) (I : Inv X pins σ H s) : ∀ (d : PyData) (v : V) (u : Value), DX N X.K H v d → RelV v u → ∃ as, Reads s.heap u d as ∧ sysModules ∉ as
  | .none, _, _, h, r => by
    cases h
    cases r
    exact ⟨_, Reads.none, List.not_mem_nil⟩
  | .bool b, _, _, h, r => by
    cases h
    cases r
    exact ⟨_, Reads.bool b, List.not_mem_nil⟩
  | .int i, _, _, h, r => by
    cases h
    obtain ⟨t, rfl⟩ := r
    exact ⟨_, Reads.int i t, List.not_mem_nil⟩
  | .str x, _, _, h, r => by
    cases h
    obtain ⟨t, rfl⟩ := r
    exact ⟨_, Reads.str x t, List.not_mem_nil⟩
  | .list ds, _, _, h, r => by
    cases h with
    | lst hs hn ha =>
      cases r
      obtain ⟨its, rv, ⟨o, n, ho, hc, _, hd⟩, _⟩ := I.list (.of hs)
      obtain ⟨as, hr, hm⟩ := DXs.reads hN I ds _ its ha rv
      exact ⟨_, Reads.list ho hc hd hr, fun z => (List.mem_cons.mp z).elim (fun z => hN _ hn z.symm) hm⟩
  | .tuple ds, _, _, h, r => by
    cases h with
    | tup hs ha =>
      cases r
      obtain ⟨its, rv, ⟨o, ho, hc, n, hd⟩, _⟩ := I.tuple (.inl hs)
      obtain ⟨as, hr, hm⟩ := DXs.reads hN I ds _ its ha rv
      exact ⟨_, Reads.tuple ho hc hd hr, hm⟩
  | .dict kvs, _, _, h, r => by
    cases h with
    | d0 hs =>
      cases r
      obtain ⟨_, hn, vs, kv, o, es, ep, ho, ⟨hc, _, _⟩, hd, _, hp, _⟩ := I.hok _ _ hs
      cases kv
      have he : es.toList = [] := by
        generalize es.toList = l at hp
        cases hp
        rfl
      refine ⟨_, Reads.dict (as := []) (bs := []) ho hc hd (by rw [he]; exact .nil) (by rw [he]; exact .nil), fun z => ?_⟩
      have hz := List.mem_singleton.mp (by simpa using z)
      rw [hz] at hn
      simp at hn
    | @d1 _ k i hs =>
      cases r
      obtain ⟨_, hn, vs, kv, o, es, ep, ho, ⟨hc, _, _⟩, hd, _, hp, _⟩ := I.hok _ _ hs
      obtain ⟨u, t, rfl, rfl⟩ : ∃ (u : Value) (t : Tok), vs = [(Sum.inr k, u)] ∧ u = .int i t := by
        match vs, kv with
        | [(k', u)], .cons ⟨e1, t, e2⟩ .nil => exact ⟨u, t, by rw [show (Sum.inr k : Key) = k' from e1], e2⟩
      generalize hl : es.toList = l at hp
      cases hp with
      | @cons e _ _ _ p1 p2 p3 =>
        cases p3
        obtain ⟨hh, key, val⟩ := e
        have p2' : val = Value.int i t := p2
        subst p2'
        have p1' : keyIs (Sum.inr k) key = true := p1
        obtain ⟨i', t', z, _⟩ | ⟨x, t', z, rfl⟩ := keyIs_shape p1'
        · cases z
        · cases z
          refine ⟨_, Reads.dict (as := [] ++ []) (bs := [] ++ []) ho hc hd (by rw [hl]; exact .cons (.str _ _) .nil) (by rw [hl]; exact .cons (.int _ _) .nil), fun z => ?_⟩
          have hz := List.mem_singleton.mp (by simpa using z)
          rw [hz] at hn
          simp at hn
theorem DXs.reads (hN : ∀ a, N a → a ≠ sysModules) (I : Inv X pins σ H s) : ∀ (ds : List PyData) (vs : List V) (us : List Value), DXs N X.K H vs ds → Vals vs us → ∃ as, ReadsAll s.heap us ds as ∧ sysModules ∉ as
  | [], _, _, h, r => by
    cases h
    cases r
    exact ⟨_, ReadsAll.nil, List.not_mem_nil⟩
  | d :: ds, _, _, h, r => by
    cases h with
    | cons h1 h2 =>
      cases r with
      | cons r1 r2 =>
        obtain ⟨as, q1, m1⟩ := DX.reads hN I d _ _ h1 r1
        obtain ⟨bs, q2, m2⟩ := DXs.reads hN I ds _ _ h2 r2
        exact ⟨_, ReadsAll.cons q1 q2, fun z => (List.mem_append.mp z).elim m1 m2⟩
end
end
/-- data whose text can be shown -/
structure FineX (n W : Nat) (d : PyData) : Prop where
  dep : d.depth ≤ n
  wei : d.weight ≤ W
  sho : d.showable = true
  lea : d.leavesShort 40 = true
structure FineXs (n W : Nat) (ds : List PyData) : Prop where
  dep : PyData.depthAll ds ≤ n
  wei : PyData.weightAll ds ≤ W
  sho : PyData.showableAll ds = true
  lea : PyData.leavesShortAll 40 ds = true
theorem FineX.mono {n W m U : Nat} {d : PyData} (h : FineX n W d) (e : n ≤ m) (e2 : W ≤ U) : FineX m U d := ⟨Nat.le_trans h.dep e, Nat.le_trans h.wei e2, h.sho, h.lea⟩
theorem FineXs.mono {n W m U : Nat} {d : List PyData} (h : FineXs n W d) (e : n ≤ m) (e2 : W ≤ U) : FineXs m U d := ⟨Nat.le_trans h.dep e, Nat.le_trans h.wei e2, h.sho, h.lea⟩
theorem FineX.len {n W : Nat} {d : PyData} (h : FineX n W d) (hW : W ≤ 300000) : d.shown.length ≤ sizeLine := by
  have q := PyData.shown_le 40 (by decide) d h.lea
  have := h.wei
  rw [sizeLine_eq]
  omega
section
variable {X : Cx}
def ShownX (N : Addr → Prop) (K : PySem.W.Frag) (H : Hp) (v : V) (d : PyData) : Prop := (∀ a, N a → a ≠ sysModules) ∧ DX N K H v d ∧ isDisplay d = true ∧ d.showable = true ∧ d.depth ≤ 60 ∧ d.shown.length ≤ sizeLine
theorem FineX.shown {N : Addr → Prop} {K : PySem.W.Frag} {H : Hp} {v : V} {n W : Nat} {d : PyData} (h : FineX n W d) (hn : n ≤ 60) (hW : W ≤ 300000) (hN : ∀ a, N a → a ≠ sysModules) (hd : DX N K H v d) (hi : isDisplay d = true) : ShownX N K H v d :=
  ⟨hN, hd, hi, h.sho, Nat.le_trans h.dep hn, h.len hW⟩
end
end Sv
set_option maxHeartbeats 4000000
namespace Sv
open PySem PySem.Spec PyProof.Rows L2
theorem tuple_mulW1 (l : Addr) (items : Array Value) (n : Nat) (dd : Option Addr) (sl : Array (Option Value)) (u : Tok) (c1 : (items.isEmpty || (1 : Int) == 1) = true) :
    Meets (Builtin.«tuple.__mul__» ⟨[.ref l, .int 1 u], []⟩) (fun _ R s => s.heap.get? l = some { cls := .type "tuple", dict := dd, data := .seq items n, slots := sl } ∧ R (.ok (.ret (Value.ref l))) s) :=
  .of_wp fun prog w A R s h => by
    obtain ⟨hp, g, d, tk, os⟩ := s
    obtain ⟨hl, h⟩ := h
    have f1 := AutoSeq1.idx_int
    wp_walk using wpAny_loadPart' hl
    repeat (first
      | (refine wpAny_ite_true (decide_eq_true c1) ?_; wp_walk using wpAny_loadPart' hl)
      | (refine wpAny_ite_false (decide_eq_false (by decide)) ?_; wp_walk using wpAny_loadPart' hl))
    exact ⟨_, rfl, h⟩
section
variable {X : Cx}
def rRep1 (K : PySem.W.Frag) : R2 := fun x y H Q => ∃ l xs, x = .ref l ∧ y = .int 1 ∧ SqT K H l xs ∧ Q (.ref l) H
theorem op_rep1 : OpR X (binaryOp .Mult) (rRep1 X.K) := by
  intro pins s σ H x y v u Q I rx ry h
  obtain ⟨l, xs, rfl, rfl, hT, q⟩ := h
  cases rx
  obtain ⟨t, rfl⟩ := ry
  obtain ⟨its, r, ⟨⟨cls, dd, data, sl⟩, ho, hc, n, hd⟩, hs⟩ := I.tuple hT
  simp only at hc hd
  subst hc hd
  refine wpAny_binaryOp_repeat_ref (T := "tuple") (U := "int") (by decide) ⟨_, ho, rfl⟩ (fun s' => typeIs_int s' 1 t) noFill_tuple_mul F.fills_int_mul F.slot_int_rmul repeat_tuple F.slot_int_index.lookup
    (call_meets F.slot_int_rmul (typeIs_int s 1 t) F.entry_int_rmul (F.args_int_rmul_2 _ _) (int_rmul_tuple 1 t l its.toArray n dd sl)
      ⟨ho, rfl, ⟨_, ho, rfl⟩, call_meets F.slot_tuple_mul ⟨_, ho, rfl⟩ F.entry_tuple_mul (F.args_tuple_mul_2 _ _) (tuple_mulW1 l its.toArray n dd sl t (by simp)) ⟨ho, ?_⟩⟩)
  exact ⟨.ref l, H, I, rfl, q⟩
end
end Sv
namespace Sv
open PySem PySem.Spec PyProof.Rows L2
def TupT (H : Hp) (a : Addr) (xs : List V) : Prop := H a = some (.tup xs) ∨ ∃ o, H a = some (.frz o (.tup xs))
theorem TupT.sqT {K : PySem.W.Frag} {H : Hp} {a : Addr} {xs : List V} (h : TupT H a xs) : SqT K H a xs := .inl h
end Sv
set_option maxHeartbeats 1000000
namespace Sv
open PySem
structure ZDist (z TI TO : Addr) (its ls : List Addr) : Prop where
  nd : (z :: TI :: TO :: its).Nodup
  away : ∀ l ∈ ls, l ∉ z :: TI :: TO :: its
  len : its.length = ls.length
  ne : its ≠ []
  sm : its.length ≤ 1000
end Sv
set_option maxHeartbeats 1000000
namespace Sv
open PySem
section
variable {prog : Program} {w : World} {A : Around} {E : Value → Shared → Prop} {s : Shared}
theorem ZDist.inj {z TI TO : Addr} {its ls : List Addr} (D : ZDist z TI TO its ls) {i j : Nat} {a : Addr} (h : its[i]? = some a) (g : its[j]? = some a) : i = j := by
  have n := D.nd
  simp only [List.nodup_cons] at n
  have n3 := n.2.2.2
  have hi := (List.getElem?_eq_some_iff.mp h).1
  exact (List.getElem?_inj hi n3).mp (h.trans g.symm)
end
end Sv
set_option maxHeartbeats 1000000
namespace Sv
open PySem PySem.Spec PyProof.Rows L2
section
variable {prog : Program} {w : World} {A : Around} {E : Value → Shared → Prop} {s : Shared} {l : Addr} {its : List Value} {ns : List Int}
theorem iter_tup {xs : Array Value} {Q : Value → Shared → Prop} (hl : s.heap.IsTuple l xs)
    (h : ∀ s2 : Shared, s2 = { s with heap := s.heap.push { cls := .type "tuple_iterator", data := .fields #[.ref l, .int 0 0] } } → (s2.heap.IsTupleIter s.heap.objs.size l 0 ∧ s2.heap.IsTuple l xs) → (∀ b ∈ [s.heap.objs.size, l], b < s2.heap.objs.size) → l ≠ s.heap.objs.size → Q (.ref s.heap.objs.size) s2) :
    wpAny (model prog w) A (pyIter (.ref l)) Q E s := by
  have hlt : l < s.heap.objs.size := by
    obtain ⟨_, e, _⟩ := hl
    exact Heap.lt_size e
  have hl' := hl
  obtain ⟨o, ho, r⟩ := hl'
  refine wpAny_pyIter_tuple hl (h _ rfl ⟨⟨_, Heap.get?_push_size _ rfl, rfl, rfl⟩, ⟨o, Heap.get?_push_of_some _ ho, r⟩⟩ (fun b hb => ?_) (Nat.ne_of_lt hlt))
  show b < (s.heap.push _).objs.size
  rw [Heap.size_push]
  simp only [List.mem_cons, List.not_mem_nil, or_false] at hb
  rcases hb with rfl | rfl
  · exact Nat.lt_succ_self _
  · exact Nat.lt_succ_of_lt hlt
theorem old_tup {o0 : Obj} {h' : Heap} (hk : ∀ b o, b ∉ [s.heap.objs.size] → (s.heap.push o0).get? b = some o → h'.get? b = some o) : ∀ b o, s.heap.get? b = some o → h'.get? b = some o := fun b o e =>
  hk b o (fun hm => absurd (List.mem_singleton.mp hm ▸ Heap.lt_size e) (Nat.lt_irrefl _)) (Heap.get?_push_of_some _ e)
theorem ints_arr (hi : IntsAre its ns) : ∃ xs : Array (Int × Tok), its.toArray = intItems xs ∧ xs.size = ns.length ∧ ∀ i, i < ns.length → ns[i]? = some (numAt xs i) := by
  obtain ⟨xs, e⟩ := hi.allInts.items
  have hn : numsOf (intItems xs).toList = ns := by rw [← e]; exact hi.numsOf
  rw [nums_intItems] at hn
  subst hn
  refine ⟨xs, e, by rw [List.length_map, Array.length_toList], fun i hi => ?_⟩
  rw [List.length_map, Array.length_toList] at hi
  rw [List.getElem?_map, Array.getElem?_toList]
  unfold numAt
  rw [Array.getElem?_eq_getElem hi]
  rfl
theorem max_rawT (hh : A.handled = none) (hl : s.heap.IsTuple l its.toArray) (hi : IntsAre its ns) (hne : 0 < ns.length) {Q : Value → Shared → Prop}
    (h : ∀ h' tk M t', (∀ b o, s.heap.get? b = some o → h'.get? b = some o) → M ∈ ns → (∀ a, a ∈ ns → a ≤ M) → Q (.int M t') { s with heap := h', toks := tk }) : wpAny (model prog w) A (call (.builtin "max") [.ref l]) Q E s := by
  obtain ⟨xs, e, hsz, hat⟩ := ints_arr hi
  rw [e] at hl
  refine call_max_walk (iter_tup hl fun s₂ e st hfp hlI => ?_)
  subst e
  refine ⟨_, _, _, _, _, _, _, rfl, Walks.tuple (A := A.in1) hh _ l hlI (intItems xs), st, hfp, by simpa [intItems, hsz] using hne, CmpOf.ints_gt (numAt xs) (fun _ _ => intItems_at), fun v h' tk hP hk => ?_⟩
  obtain ⟨t, rfl⟩ := intItems_at hP
  obtain ⟨h1, h2⟩ := argBest_gt (numAt xs) ((intItems xs).size - 1)
  have hs2 : (intItems xs).size = ns.length := by simp [intItems, hsz]
  rw [hs2] at h1 h2 ⊢
  refine h h' tk _ t (old_tup hk) (List.mem_of_getElem? (hat _ (by omega))) fun a ha => ?_
  obtain ⟨j, hj⟩ := List.getElem?_of_mem ha
  have hjl := (List.getElem?_eq_some_iff.mp hj).1
  obtain rfl : numAt xs j = a := Option.some.inj ((hat j hjl).symm.trans hj)
  exact h2 j (by omega)
theorem min_rawT (hh : A.handled = none) (hl : s.heap.IsTuple l its.toArray) (hi : IntsAre its ns) (hne : 0 < ns.length) {Q : Value → Shared → Prop}
    (h : ∀ h' tk M t', (∀ b o, s.heap.get? b = some o → h'.get? b = some o) → M ∈ ns → (∀ a, a ∈ ns → M ≤ a) → Q (.int M t') { s with heap := h', toks := tk }) : wpAny (model prog w) A (call (.builtin "min") [.ref l]) Q E s := by
  obtain ⟨xs, e, hsz, hat⟩ := ints_arr hi
  rw [e] at hl
  refine call_min_walk (iter_tup hl fun s₂ e st hfp hlI => ?_)
  subst e
  refine ⟨_, _, _, _, _, _, _, rfl, Walks.tuple (A := A.in1) hh _ l hlI (intItems xs), st, hfp, by simpa [intItems, hsz] using hne, CmpOf.ints_lt (numAt xs) (fun _ _ => intItems_at), fun v h' tk hP hk => ?_⟩
  obtain ⟨t, rfl⟩ := intItems_at hP
  obtain ⟨h1, h2⟩ := argBest_lt (numAt xs) ((intItems xs).size - 1)
  have hs2 : (intItems xs).size = ns.length := by simp [intItems, hsz]
  rw [hs2] at h1 h2 ⊢
  refine h h' tk _ t (old_tup hk) (List.mem_of_getElem? (hat _ (by omega))) fun a ha => ?_
  obtain ⟨j, hj⟩ := List.getElem?_of_mem ha
  have hjl := (List.getElem?_eq_some_iff.mp hj).1
  obtain rfl : numAt xs j = a := Option.some.inj ((hat j hjl).symm.trans hj)
  exact h2 j (by omega)
end
section
variable {X : Cx}
def rMaxT (K : PySem.W.Frag) : List V → Hp → VK → Prop := fun vs H Q => ∃ (a : Addr) (ns : List Int), vs = [V.ref a] ∧ SqT K H a (ns.map V.int) ∧ 0 < ns.length ∧ ∀ m, m ∈ ns → (∀ y, y ∈ ns → y ≤ m) → Q (.int m) H
def rMinT (K : PySem.W.Frag) : List V → Hp → VK → Prop := fun vs H Q => ∃ (a : Addr) (ns : List Int), vs = [V.ref a] ∧ SqT K H a (ns.map V.int) ∧ 0 < ns.length ∧ ∀ m, m ∈ ns → (∀ y, y ∈ ns → m ≤ y) → Q (.int m) H
theorem cr_maxT (hc : X.calm = true) : CallR X (.builtin "max") (rMaxT X.K) := by
  intro pins s σ H vs us Q I r h
  obtain ⟨a, ns, rfl, hs, hne, q⟩ := h
  obtain ⟨its, rv, hl, _⟩ := I.tuple hs
  rw [Vals.ref1 r]
  exact max_rawT (I.ok.hd hc) hl rv.ints hne fun h' tk m t' hk h1 h2 => ⟨.int _, H, I.kept hk, ⟨_, rfl⟩, q m h1 h2⟩
theorem cr_minT (hc : X.calm = true) : CallR X (.builtin "min") (rMinT X.K) := by
  intro pins s σ H vs us Q I r h
  obtain ⟨a, ns, rfl, hs, hne, q⟩ := h
  obtain ⟨its, rv, hl, _⟩ := I.tuple hs
  rw [Vals.ref1 r]
  exact min_rawT (I.ok.hd hc) hl rv.ints hne fun h' tk m t' hk h1 h2 => ⟨.int _, H, I.kept hk, ⟨_, rfl⟩, q m h1 h2⟩
end
end Sv
set_option maxHeartbeats 1000000
set_option maxHeartbeats 1000000
set_option maxHeartbeats 1000000
namespace Sv
open PySem PySem.Spec PyProof.Rows L2
section
variable {X : Cx} {CX : CXT} {k : Nat} {f : Addr} {sp : Sp} {E : XK} {x : Str} {e : Expr} {es : List Expr} {t : TA} {p pos : Pos}
/-- x(e, ..), x a def of the module told by FnR -/
theorem pe_callN (F : FnR X.prog X.w X.K X.mg X.base CX k f sp) (hr : Room k X.A) (hk : PySem.W.keepIn X.K (.ref f) = true) (hg : Gl X x) (hm : X.mg x = some (.ref f)) (hx : Passes CX X E) (ha : PA X (e :: es) t) (hd : (x == ("__debug__" : Str)) = false := by decide)
    (he : starEach (e :: es) X.env = (false, eval e X.env) :: starEach es X.env := by rfl) (hpl : (backTo pos (starEach es X.env)).any (·.1) = false := by rfl) :
    PE X (.Call (.Name x p) (e :: es) [] pos) (fun σ H Q => t σ H fun vs H1 => sp vs H1 Q E) := by
  refine ⟨fun pins s σ H Q I h => ?_⟩
  refine wpAny_Call_Name_kw (ld_glob I hg hm ?_ hd)
  refine PySem.W.callWith_K (h₀ := X.base) I.ok.mod.kin hk (thn (ha.run pos pins s σ H _ I h) fun us s1 ⟨vs, H1, I1, r, q⟩ => ⟨I1.kIn, ?_⟩) he hpl
  exact wpAny_call (run_fnR F hr hx I1 r q)
end
end Sv
namespace Sv
open PySem PySem.Spec PyProof.Rows L2
section
variable {P : Program} {w : World} {K : PySem.W.Frag} {mg mb : Str → Option Value} {k : Nat} {fa a : Addr} {fd : FuncData} {x : Str} {sp : Sp}
  {s₁ : Shared} {vs : List Value} {ns : List Int}
/-- from one abstract heap that tracks nothing but the script -/
theorem headG_core (H : Hp) (KX : K.In s₁.heap) (hns : s₁.heap.Ns mainGlobals mg) (hb : s₁.heap.Ns builtinsNs mb)
    (hbb : ∀ y : Str, y ≠ "__name__" → mb y = bootBuiltins y) (hlim : s₁.heap.NoLimit) (hg : s₁.gens = #[])
    (ha : s₁.heap.get? a = some { cls := .type "list", data := .seq vs.toArray }) (hr : Room k callerA)
    (F : ∀ base : Heap, K.In base → base.Ns mainGlobals mg → FnG P w K mg base k fa fd [x] sp)
    (hbind : ∀ (s : Shared) (u : Value), BindsTo s fd ⟨[u], []⟩ [(x, u)])
    (hO : Only H) (hsp : sp [.ref a] H (fun v _ => v = .bl true) fun _ _ _ => False)
    (hok : HOk P w H s₁.heap) (hA : ∀ b, H b ≠ none → b = a) (hK : H a ≠ none → K.lookup a = none) :
    codeAny (model P w) callerA (.call (.ref fa) ⟨[.ref a], []⟩)
      (fun r s' => r = .ok (.ret (.bool true)) ∧ OldK s₁.heap s'.heap ∧ s'.os = s₁.os ∧ AllBare s'.gens) s₁ := by
  have tr : ∀ {b : Addr} {u : HO}, H b = some u → b = a := fun {b u} q => hA b (by rw [q]; exact Option.some_ne_none u)
  have under : ∀ {b : Addr} {o : Obj}, s₁.heap.get? b = some o → H b = none → (hidT s₁.heap H).get? b = some o := fun e n => hidT_get e n
  have dictN : ∀ {b : Addr} {o : Obj} {es : Array DictEntry} {ep : Nat}, s₁.heap.get? b = some o → o.data = .dict es ep → H b = none := by
    intro b o es ep e d
    rcases hH : H b with _ | u
    · rfl
    · have eb := tr hH
      rw [eb, ha] at e
      rw [← Option.some.inj e] at d
      exact absurd d (by intro z; cases z)
  have nsK : ∀ {b : Addr} {m : Str → Option Value}, s₁.heap.Ns b m → (hidT s₁.heap H).Ns b m := by
    rintro b m ⟨o, es, ep, e, d, r⟩
    exact ⟨o, es, ep, under e (dictN e d), d, r⟩
  have hKb : K.In (hidT s₁.heap H) := by
    intro b o e
    refine under (KX b o e) ?_
    rcases hH : H b with _ | u
    · rfl
    · have eb := tr hH
      rw [eb] at e hH
      rw [hK (by rw [hH]; exact Option.some_ne_none u)] at e
      cases e
  have hM : Mod K mg (hidT s₁.heap H) := by
    obtain ⟨mc, l1, l2⟩ := hlim
    exact ⟨hKb, nsK hns, ⟨mb, nsK hb, hbb⟩, ⟨mc, nsK l1, l2⟩⟩
  have e0 : Env0 P w K mg (hidT s₁.heap H) callerA [] s₁ H := by
    refine ⟨rfl, hM, fun b o e => of_hidT e, Nat.le_of_eq (hidT_size _ _), trivial, fun b hb => ?_, hok, .of_eq hg⟩
    exact absurd (show b ∈ ([] : List Addr) from hb) List.not_mem_nil
  have hrun := (F _ hKb (nsK hns)).run callerA rfl [] s₁ H ⟨[.ref a], []⟩ [.ref a] [.ref a] _ _ hr e0 (hbind s₁ (.ref a)) (.cons rfl .nil) hsp
  refine codeAny_mono hrun fun r s' h => ?_
  match r, h with
  | .error e, h => exact absurd h id
  | .ok .next, h => exact absurd h id
  | .ok .brk, h => exact absurd h id
  | .ok .cont, h => exact absurd h id
  | .ok (.ret u), h =>
    obtain ⟨v, H', os, bare, un, hok', r', q⟩ := h
    obtain rfl : v = .bl true := q
    obtain rfl : u = Value.bool true := r'
    refine ⟨rfl, OldK.of_keep fun b o e => ?_, os, bare⟩
    rcases hO b with z | ⟨ob, xs, z⟩
    · exact un.keep b o e z (fun m => absurd (show b ∈ ([] : List Addr) from m) List.not_mem_nil) List.not_mem_nil
    · obtain ⟨e1, _⟩ := hok b _ z
      obtain ⟨e2, _⟩ := hok' b _ (un.frzs b ob _ z)
      rw [← e, e1]
      exact e2
theorem headG (KX : K.In s₁.heap) (hns : s₁.heap.Ns mainGlobals mg) (hb : s₁.heap.Ns builtinsNs mb)
    (hbb : ∀ y : Str, y ≠ "__name__" → mb y = bootBuiltins y) (hlim : s₁.heap.NoLimit) (hg : s₁.gens = #[])
    (ha : s₁.heap.get? a = some { cls := .type "list", data := .seq vs.toArray }) (hi : IntsAre vs ns) (hl : ns.length ≤ sizeLine) (hr : Room k callerA)
    (F : ∀ base : Heap, K.In base → base.Ns mainGlobals mg → FnG P w K mg base k fa fd [x] sp)
    (hbind : ∀ (s : Shared) (u : Value), BindsTo s fd ⟨[u], []⟩ [(x, u)])
    (hsp : ∀ H : Hp, Only H → SqL K H a (ns.map V.int) → sp [.ref a] H (fun v _ => v = .bl true) fun _ _ _ => False) :
    codeAny (model P w) callerA (.call (.ref fa) ⟨[.ref a], []⟩)
      (fun r s' => r = .ok (.ret (.bool true)) ∧ OldK s₁.heap s'.heap ∧ s'.os = s₁.os ∧ AllBare s'.gens) s₁ := by
  have rv := vals_ints hi
  rcases hk : K.lookup a with _ | o
  · have hE : ∀ b, (if b = a then some (HO.frz { cls := .type "list", data := .seq vs.toArray } (.lst (ns.map V.int))) else none) ≠ none → b = a := by
      intro b z
      by_cases hb : b = a
      · exact hb
      · rw [if_neg hb] at z
        exact absurd rfl z
    have hO : Only fun b => if b = a then some (HO.frz { cls := .type "list", data := .seq vs.toArray } (.lst (ns.map V.int))) else none := by
      intro b
      by_cases hb : b = a
      · exact .inr ⟨_, _, if_pos hb⟩
      · exact .inl (if_neg hb)
    refine headG_core _ KX hns hb hbb hlim hg ha hr F hbind hO (hsp _ hO (.inl (.inr ⟨_, if_pos rfl⟩))) (fun b u z => ?_) hE fun _ => hk
    have hba : b = a := hE b (by rw [z]; exact Option.some_ne_none u)
    subst hba
    obtain rfl := Option.some.inj ((if_pos rfl).symm.trans z)
    exact ⟨ha, by rw [List.length_map]; exact hl, vs, _, rv, ha⟩
  · have e := KX a o hk
    obtain rfl := Option.some.inj (ha.symm.trans e)
    have hO : Only fun _ => none := fun _ => .inl rfl
    refine headG_core (fun _ => none) KX hns hb hbb hlim hg ha hr F hbind hO (hsp _ hO (.inr ⟨_, vs.toArray, _, hk, rfl, rfl, rfl, ?_, by simpa using rv⟩))
      (fun b u z => absurd (show (none : Option HO) = some u from z) (by intro q; cases q)) (fun b z => absurd rfl z) fun z => absurd rfl z
    rw [List.size_toArray, hi.length]
    exact hl
end
/-- the goal that the head leaves -/
theorem walkG {l : PySem.W.OpenLaw} {n k : Nat} {q : Program} {loose : List Str} {XP : (Str → Option Value) → Heap → Prop} {YP : World → Heap → Prop}
    {d : DefRec} {K : Params → PySem.W.Frag} {sp : PySem.W.Frag → Sp} {x : Str}
    (hn : l.most = some n) (hn2 : n ≤ sizeLine) (hdf : d.params.defaults = []) (hr : Room k callerA)
    (hY : ∀ (w : World) (h : Heap), YP w h → (K w.params).In h)
    (F : ∀ (w : World) (mg : Str → Option Value) (fa : Addr) (h : Heap), (K w.params).In h → h.Ns mainGlobals mg → mg d.name = some (.ref fa) →
      ∃ fd : FuncData, (∀ (s : Shared) (u : Value), BindsTo s fd ⟨[u], []⟩ [(x, u)]) ∧
        ∀ base : Heap, (K w.params).In base → base.Ns mainGlobals mg → FnG l.prog w (K w.params) mg base k fa fd [x] (sp (K w.params)))
    (hsp : ∀ (K : PySem.W.Frag) (H : Hp) (a : Addr) (ns : List Int), ns.length ≤ n → Only H → SqL K H a (ns.map V.int) → sp K [.ref a] H (fun v _ => v = .bl true) fun _ _ _ => False) :
    PySem.W.WalkO q loose XP YP l.row.toRowW d [] (fun f vs => PySem.call f vs) := by
  refine Att.attach_call hn hdf fun w s₀ s₁ mg mb fa o pm cd doc a vs ns G Y ho hd hcd hmg hobj hints hlen hg => ?_
  obtain ⟨fd, hbd, hF⟩ := F w mg fa _ (hY w _ Y) G.T.g hmg
  exact headG (hY w _ Y) G.T.g G.T.b G.T.builtins G.T.nolimit hg hobj hints (Nat.le_trans hlen hn2) hr hF hbd fun H h1 h2 => hsp _ H a ns hlen h1 h2
end Sv
set_option maxHeartbeats 1000000
namespace Sv
open PySem PySem.Spec PyProof.Rows L2
abbrev No : Value → Shared → Prop := fun _ _ => False
/-- the tests of a clause -/
abbrev tst (cs : List Expr) (en : Env) : Sem Bool := forIn cs true fun c b => if b = true then do let z ← isTrue c en (eval c en); pure (ForInStep.yield z) else pure (ForInStep.yield b)
section
variable {prog : Program} {w : World} {A : Around} {R : Result → Shared → Prop} {s : Shared} {el ta ia tb ib : Expr} {ca cb : List Expr} {sc : Scope} {ps : Pos} {j acc : Value} {en : Env}
theorem no_mono {α : Type} {m : Sem α} {Q Q' : α → Shared → Prop} {E : Value → Shared → Prop} (h : wpAny (model prog w) A m Q No s) (q : ∀ a s', Q a s' → Q' a s') : wpAny (model prog w) A m Q' E s := wpAny_mono h q fun _ _ z => z.elim
end
section
variable {B : Cx} {tg : Expr} {J : It} {fp : List Addr} {it : Addr} {tn : Nat → Heap → Prop} {pins : List (Addr × Obj)} {σ τ : L2.St} {H : Hp} {s s0 : Shared} {i : Nat} {g : TG} {cs : List Expr} {tt : TT}
theorem loop_back (T : Turn B.prog B.w B.K tg J fp it tn) (I : Inv B (pins ++ pinsAt fp s0.heap) τ H s) (st : tn i s0.heap) (hl : σ.length = τ.length) (hk : ∀ (j : Nat) v, σ[j]? = some (some v) → τ[j]? = some (some v)) :
    Inv B pins σ H s ∧ tn i s.heap ∧ ∀ b ∈ fp, H b = none := by
  have same : ∀ b ∈ fp, ∀ o, s0.heap.get? b = some o → s.heap.get? b = some o ∧ H b = none := fun b hb o e => by
    have z := I.pin (b, o) (List.mem_append_right _ (List.mem_append_right _ (mem_pinsAt hb e)))
    exact ⟨z.1, z.2.1⟩
  refine ⟨I.unpinned.weak hl hk, T.keep _ _ _ st fun b hb o e => (same b hb o e).1, fun b hb => ?_⟩
  obtain ⟨o, e, _⟩ := T.obj _ _ st b hb
  exact (same b hb o e).2
theorem loop_step {Kp : L2.St → Prop} {Qq : L2.St → Bool → Hp → Prop} (hx : B.xe = No) (hc : B.calm = true) (T : Turn B.prog B.w B.K tg J fp it tn) (I : Inv B pins σ H s) (ok : ∀ b ∈ fp, FpOk B pins H b) (st : tn i s.heap) (go : J.go i H) (pg : PG B tg g) (pt : PTs B cs tt)
    (next : ∀ x H', J.yld i H x H' → g x σ H' fun σ2 H2 => Kp σ2 ∧ tt σ2 H2 fun b H3 => Qq σ2 b H3) :
    wpAny (model B.prog B.w) B.A (pyNext (.ref it)) (fun r s1 => ∃ v, r = some v ∧ wpAny (model B.prog B.w) B.A (letOwnedTupleGo tg (.ref it) v) (fun _ s2 => wpAny (model B.prog B.w) B.A (assign tg B.env v) (fun _ s3 =>
      wpAny (model B.prog B.w) B.A (tst cs B.env) (fun z s4 => ∃ (σ2 : L2.St) (H4 : Hp) (s7 : Shared), Inv B (pins ++ pinsAt fp s7.heap) σ2 H4 s4 ∧ Kp σ2 ∧ Qq σ2 z H4 ∧ tn (i + 1) s7.heap) No s3) No s2) No s1) No s := by
  refine no_mono (T.item B rfl rfl rfl hc i pins s σ H _ I ok st go) fun r s1 h1 => ?_
  obtain ⟨v, rfl, h1⟩ := h1
  refine ⟨v, rfl, no_mono h1 fun _ s2 h2 => ?_⟩
  obtain ⟨x, H2, I2, rx, yx, st2, free2⟩ := h2
  have ok2 : ∀ b ∈ fp, FpOk B pins H2 b := fun b hb => ⟨free2 b hb, (ok b hb).2⟩
  have run := pg.run _ s2 σ H2 x v _ (I2.pinned ok2 (T.obj _ _ st2)) rx (next x H2 yx)
  rw [hx] at run
  refine no_mono run fun _ s3 h3 => ?_
  obtain ⟨σ3, H3, I3, k3, q3⟩ := h3
  have run4 := pt.run _ s3 σ3 H3 _ I3 q3
  rw [hx] at run4
  refine no_mono run4 fun z s4 h4 => ?_
  obtain ⟨H4, I4, q4⟩ := h4
  exact ⟨σ3, H4, s2, I4, k3, q4, st2⟩
end
end Sv
namespace Sv
open PySem PySem.Spec PyProof.Rows L2
def tFrz (t : TE) : TE := fun σ H Q => t σ H fun v H1 => ∃ d u, v = .ref d ∧ H1 d = some u ∧ Mut (some u) ∧ ∀ od, Q v (upd H1 d (.frz od u))
theorem pe_frz {X : Cx} {e : Expr} {t : TE} (h : PE X e t) : PE X e (tFrz t) := by
  refine ⟨fun pins s σ H Q I hw => ?_⟩
  refine thn (h.run pins s σ H _ I hw) fun v s1 ⟨x, H1, I1, r, d, u, ex, hd, mu, q⟩ => ?_
  obtain ⟨od, I2⟩ := I1.lock hd mu
  exact ⟨x, _, I2, r, q od⟩
end Sv
set_option maxHeartbeats 1000000
namespace Sv
open PySem PySem.Spec PyProof.Rows L2
/-- what a clause's walk gives, whatever its turn asks -/
theorem w_it {J : It} {n : Nat} {G : Hp → Prop} {Y : Nat → Hp → L2.V → Hp → Prop} (w : Walk J n G Y) {Qd : Hp → Prop} {Body : (Hp → Prop) → L2.V → Hp → Prop} {H0 : Hp} (Pv : Nat → Hp → Prop) (h0 : Pv 0 H0) (hG : ∀ i H, i ≤ n → Pv i H → G H)
    (hs : ∀ i x H H', i < n → Pv i H → Y i H x H' → Body (Pv (i + 1)) x H') (hd : ∀ H, Pv n H → Qd H) :
    ∃ W : Nat → Nat → Hp → Prop, (∃ m, W 0 m H0) ∧ ∀ i m H, W i m H → (J.stop i H ∧ Qd H) ∨ (J.go i H ∧ ∃ N : Hp → Prop, (∀ H', N H' → ∃ m', m' < m ∧ W (i + 1) m' H') ∧ ∀ x H', J.yld i H x H' → Body N x H') := by
  refine ⟨fun i m H => m = n - i ∧ i ≤ n ∧ Pv i H, ⟨n, (Nat.sub_zero n).symm, Nat.zero_le n, h0⟩, fun i m H z => ?_⟩
  obtain ⟨rfl, hi, p⟩ := z
  by_cases hlt : i < n
  · exact .inr ⟨w.goes i H hlt (hG i H hi p), Pv (i + 1), fun H' p' => ⟨n - (i + 1), by omega, rfl, hlt, p'⟩, fun x H' y => hs i x H H' hlt p (w.yields i H x H' hlt (hG i H hi p) y)⟩
  · obtain rfl : i = n := by omega
    exact .inl ⟨w.stops H (hG i H hi p), hd H p⟩
/-- lists that rise by a number are told by their members -/
theorem rise_eq {α : Type} (f : α → Int) : ∀ (l r : List α), l.Pairwise (fun a b => f a < f b) → r.Pairwise (fun a b => f a < f b) → (∀ x, x ∈ l ↔ x ∈ r) → l = r
  | [], [], _, _, _ => rfl
  | [], b :: r, _, _, h => absurd ((h b).mpr List.mem_cons_self) List.not_mem_nil
  | a :: l, [], _, _, h => absurd ((h a).mp List.mem_cons_self) List.not_mem_nil
  | a :: l, b :: r, h1, h2, h => by
    obtain ⟨p1, q1⟩ := List.pairwise_cons.mp h1
    obtain ⟨p2, q2⟩ := List.pairwise_cons.mp h2
    have e : a = b := by
      rcases List.mem_cons.mp ((h a).mp List.mem_cons_self) with z | z
      · exact z
      · rcases List.mem_cons.mp ((h b).mpr List.mem_cons_self) with y | y
        · exact y.symm
        · have := p2 a z
          have := p1 b y
          omega
    subst e
    congr 1
    refine rise_eq f l r q1 q2 fun x => ⟨fun z => ?_, fun z => ?_⟩
    · rcases List.mem_cons.mp ((h x).mp (List.mem_cons_of_mem _ z)) with y | y
      · subst y
        exact absurd (p1 _ z) (Int.lt_irrefl _)
      · exact y
    · rcases List.mem_cons.mp ((h x).mpr (List.mem_cons_of_mem _ z)) with y | y
      · subst y
        exact absurd (p2 _ z) (Int.lt_irrefl _)
      · exact y
/-- pairs by one number -/
def pc (x : Int × Int) : Int := x.1 * 64 + x.2
def pk (x : Int × Int) : List Int := [x.1, x.2]
end Sv
namespace Sz
open PySem
/-- a frame of no generator's waking -/
def NoGen : Frame → Prop
  | .gen .. => False
  | _ => True
def GF (fs : List Frame) : Prop := ∀ f ∈ fs, NoGen f
def GFGen : GenState → Prop
  | .suspended _ _ _ _ fs _ => GF fs
  | _ => True
/-- it can't be woken -/
def Stuck : GenState → Prop
  | .suspended k _ _ _ _ _ => ∀ r, ∃ why, k r = .unsupported why
  | _ => False
abbrev Fz := Nat → Option GenState
def plug (F : Fz) (s : Shared) : Shared := { s with gens := s.gens.mapIdx fun i x => (F i).getD x }
structure Ok (F : Fz) (s : Shared) : Prop where
  fz : ∀ i st, F i = some st → ∃ x, s.gens[i]? = some x ∧ x.seen = st.seen ∧ Stuck x
  fr : ∀ i x, s.gens[i]? = some x → F i = none → GFGen x
variable {F : Fz} {M : Model}
theorem plug_at {s : Shared} {i : Nat} : (plug F s).gens[i]? = s.gens[i]?.map fun x => (F i).getD x := by
  unfold plug
  rw [Array.getElem?_mapIdx]
theorem plug_free {s : Shared} {i : Nat} {x : GenState} (h : s.gens[i]? = some x) (hf : F i = none) : (plug F s).gens[i]? = some x := by
  rw [plug_at, h, hf]
  rfl
theorem Ok.set {s : Shared} (h : Ok F s) {i : Nat} {x : GenState} (hf : F i = none) (hx : GFGen x) : Ok F (s.setGen i x) := by
  refine ⟨fun j st e => ?_, fun j y hy e => ?_⟩
  · have hne : i ≠ j := fun z => by
      subst z
      rw [hf] at e
      cases e
    obtain ⟨y, h1, h2⟩ := h.fz j st e
    refine ⟨y, ?_, h2⟩
    show (s.gens.setIfInBounds i x)[j]? = _
    rw [Array.getElem?_setIfInBounds, if_neg hne]
    exact h1
  · have hy : (s.gens.setIfInBounds i x)[j]? = some y := hy
    rw [Array.getElem?_setIfInBounds] at hy
    by_cases z : i = j
    · rw [if_pos z] at hy
      split at hy
      · cases hy
        exact hx
      · cases hy
    · rw [if_neg z] at hy
      exact h.fr j y hy e
theorem Ok.push {s : Shared} (h : Ok F s) {x : GenState} (hx : GFGen x) : Ok F { s with gens := s.gens.push x } := by
  refine ⟨fun j st e => ?_, fun j y hy e => ?_⟩
  · obtain ⟨y, h1, h2⟩ := h.fz j st e
    refine ⟨y, ?_, h2⟩
    show (s.gens.push x)[j]? = _
    rw [Array.getElem?_push, if_neg (Nat.ne_of_lt (Array.getElem?_eq_some_iff.mp h1).1)]
    exact h1
  · have hy : (s.gens.push x)[j]? = some y := hy
    rw [Array.getElem?_push] at hy
    split at hy
    · cases hy
      exact hx
    · exact h.fr j y hy e
theorem Ok.seen {s : Shared} (o : Ok F s) {i : Nat} {st : GenState} (hs : s.gens[i]? = some st) : ∃ st', (plug F s).gens[i]? = some st' ∧ st'.seen = st.seen := by
  cases hf : F i with
  | none => exact ⟨st, plug_free hs hf, rfl⟩
  | some st' =>
    obtain ⟨x, hx, h2, _⟩ := o.fz i st' hf
    rw [hs] at hx
    cases hx
    refine ⟨st', ?_, h2.symm⟩
    rw [plug_at, hs, hf]
    rfl
open Sem (wp)
def IsSusp : GenState → Prop
  | .suspended .. => True
  | _ => False
end Sz
namespace Sz
open PySem PySem.Spec PyProof.Rows L2
section
variable {X : Cx} {pins : List (Addr × Obj)} {σ : L2.St} {H : Hp} {s : Shared}
/-- what sleeps in s sleeps in s' -/
def Stays (s s' : Shared) : Prop := ∀ (g : Nat) (st : GenState), s.gens[g]? = some st → IsSusp st → s'.gens[g]? = some st
theorem Stays.trans {a b c : Shared} (h : Stays a b) (k : Stays b c) : Stays a c := fun g st e z => k g st (h g st e z) z
end
end Sz
namespace Sz
open PySem PySem.Spec PyProof.Rows L2 GenW
section
variable {M : Model} {A : Around} {R : GenEnd} {Y : Protocol} {n : Nat} {s₀ s : Shared} {c : Code} {fs : List Frame} {env : Env} {K : Flow → Sem PySem.Fin} {J : Value → Sem PySem.Fin} {gd : Bool → Bool} {lv : List Value → List Value}
abbrev NoE : Value → Shared → Prop := fun _ _ => False
/-- the frame that waits for the loop -/
def loopFrame (env : Env) (K : Flow → Sem PySem.Fin) (J : Value → Sem PySem.Fin) (gd : Bool → Bool) (lv : List Value → List Value) (c : Code) (p : Pos) : Frame :=
  .ret (fun r => ((match r with | .ok f => (.pure f : Sem Flow) | .error e => .raise e).onRaise (cameBack env)).wrap K J gd lv) none (gd false) (lv []) c p []
end
section
variable {P : Program} {w : World} {A : Around} {R : GenEnd} {Y : Protocol} {n : Nat} {s₀ s : Shared} {fs : List Frame} {env : Env}
def turnJ (env : Env) : Value → Sem PySem.Fin := fun e => (do noteFrame e env; theTreesLotGoes e : Sem Unit).wrap (fun _ => .raise e) .raise id id
end
end Sz
set_option autoImplicit false
namespace Sz
open PySem PySem.Spec PyProof.Rows L2 GenW
open Sem (wp)
/-- from here the run comes to an end of this kind -/
def Sg (M : Model) (A : Around) (Φ : End → Shared → Prop) (c : Code) (t : Sem PySem.Fin) (fs : List Frame) (s : Shared) : Prop :=
  ∀ Γ p, Γ.code = c → Γ.Woken A → ∃ e s', Runs M Γ p t fs s e s' ∧ Φ e s'
abbrev PostG := End → Shared → Prop
section
variable {M : Model} {A : Around} {Φ : PostG} {c : Code} {fs : List Frame} {s : Shared} {env : Env} {K : Flow → Sem PySem.Fin} {J : Value → Sem PySem.Fin} {gd : Bool → Bool} {lv : List Value → List Value}
theorem sg_wrap {α : Type} {m : Sem α} {K : α → Sem PySem.Fin} {H : Value → Sem PySem.Fin} {gd : Bool → Bool} {lv : List Value → List Value}
    (h : wpAny M (A.over c fs) m (fun a s' => Sg M A Φ c (K a) fs s') NoE s) : Sg M A Φ c (m.wrap K H gd lv) fs s := by
  rintro Γ p rfl hΓ
  exact runs_wrap_of_wp K H gd lv m (h (Γ.over fs) p (hΓ.over fs)) (fun a p' s' h' => h' Γ p' rfl hΓ) (fun x p' s' h' => h'.elim)
theorem sg_at {p' : Pos} {k : Unit → Sem PySem.Fin} (h : Sg M A Φ c (k ()) fs s) : Sg M A Φ c (.at p' k) fs s :=
  sg_wrap (m := standAt p') (K := k) (H := .raise) (gd := id) (lv := id) (wpAny_standAt h)
theorem sg_point {l : List Value} {k : Unit → Sem PySem.Fin} (h : Sg M A Φ c (k ()) fs s) : Sg M A Φ c (.point l k) fs s :=
  sg_wrap (m := point) (K := k) (H := .raise) (gd := id) (lv := fun _ => l) (wpAny_point h)
theorem sg_call {c' : Code} {h : Option _} {g : Bool} {l : List Value} {k : Result → Sem PySem.Fin} (hc : ∀ p, Sg M A Φ c' (M.den c') (.ret k h g l c p [] :: fs) s) :
    Sg M A Φ c (.call c' h g l k) fs s := by
  rintro Γ p rfl hΓ
  obtain ⟨e, s', hr, he⟩ := hc p (Γ.goto c') p rfl (hΓ.goto c')
  exact ⟨e, s', runs_call_seg hr, he⟩
theorem sg_leaf {k : Result → Sem PySem.Fin} {h : Option _} {g : Bool} {l : List Value} {c₁ : Code} {p₁ : Pos} {kp : List Value} (r : Result) (hk : Sg M A Φ c₁ (k r) fs s) : Sg M A Φ c (leafOf r) (.ret k h g l c₁ p₁ kp :: fs) s := by
  rintro Γ p rfl hΓ
  obtain ⟨e, s', hr, he⟩ := hk (Γ.goto c₁) p₁ rfl (hΓ.goto c₁)
  exact ⟨e, s', Runs.pop r hr, he⟩
theorem sg_again {c' : Code} (hq : c'.quiet = true) (hc : Sg M A Φ c' (M.den c') fs s) : Sg M A Φ c (.pure (.again c')) fs s := by
  rintro Γ p rfl hΓ
  obtain ⟨e, s', hr, he⟩ := hc (Γ.goto c') p rfl (hΓ.goto c')
  exact ⟨e, s', Runs.head (c₁ := c') (fun _ _ x => .again hq x) hr, he⟩
theorem sg_end (r : Result) (h : Φ (.ret r) s) : Sg M A Φ c (leafOf r) [] s := by
  rintro Γ p rfl _
  exact ⟨.ret r, s, Runs.leaf r, h⟩
theorem sg_yield {v : Value} {g : Bool} {l : List Value} {k : Resume → Sem PySem.Fin} (hfs : splitAtGen fs = none) (h : ∀ p, Φ (.susp v g l k c p fs) s) : Sg M A Φ c (.yield v g l k) fs s := by
  rintro Γ p rfl _
  exact ⟨_, s, Runs.yield' fs hfs, h p⟩
theorem sg_execs_nil (h : Sg M A Φ c (K .next) fs s) : Sg M A Φ c ((execs [] env).wrap K J gd lv) fs s := h
theorem sg_execs_cons {st : Stmt} {rest : List Stmt}
    (h : Sg M A Φ c ((exec st env).wrap (fun f => match f with | .next => (execs rest env).wrap K J gd lv | f => K f) J gd lv) fs s) :
    Sg M A Φ c ((execs (st :: rest) env).wrap K J gd lv) fs s := by rw [execs_cons_wrap]; exact h
theorem sg_Expr_Yield {e : Expr} {ypos pos : Pos} (hfs : splitAtGen fs = none) (hgd : gd false = false) (hfg : fs.any Frame.guarded = false)
    (h : wpAny M (A.over c fs) (eval e env) (fun v s' => ∀ l k p, (∀ (A' : Around) (Φ' : PostG) (s'' : Shared), Sg M A' Φ' c (K .next) fs s'' → Sg M A' Φ' c (k (.send .none)) fs s'') → Φ (.susp v false l k c p fs) s') NoE s)
    (hco : env.scope.isCoroutine = false := by rfl) (hi : interactive env = false := by rfl) :
    Sg M A Φ c ((exec (.Expr (.Yield (some e) ypos) pos) env).wrap K J gd lv) fs s := by
  rw [exec_Expr env _ pos hi rfl]
  show Sg M A Φ c (.at pos fun _ => ((eval e env >>= fun v => (standAt ypos >>= fun _ => yieldOut env v)) >>= fun x =>
    dropValue (.Yield (some e) ypos) pos x).wrap K J gd lv) fs s
  have hy : ∀ v, yieldOut env v = yieldValue v := fun v => by simp only [yieldOut, hco, Bool.false_eq_true, if_false]
  simp only [hy]
  refine sg_at ?_
  rw [Sem.bind_eq_wrap', Sem.bind_eq_wrap', Sem.wrap_wrap, Sem.wrap_wrap]
  refine sg_wrap (wpAny_mono h (fun v s' h' => ?_) fun _ _ x => x)
  refine sg_at ?_
  show Sg M A Φ c (.yield v (gd false) _ _) fs s'
  rw [hgd]
  exact sg_yield hfs fun p => h' _ _ p fun A' Φ' s'' hx => hx
theorem sg_While {test : Expr} {body orelse : List Stmt} {pos : Pos}
    (h : ∀ p, Sg M A Φ (.whileLoop test body orelse env) (M.den (.whileLoop test body orelse env)) (loopFrame env K J gd lv c p :: fs) s) :
    Sg M A Φ c ((exec (.While test body orelse pos) env).wrap K J gd lv) fs s := sg_at (sg_call h)
end
section
variable {P : Program} {w : World} {A : Around} {Φ : PostG} {s : Shared} {fs : List Frame} {env : Env}
theorem sg_whileLoop {test : Expr} {body : List Stmt}
    (h : wpAny (model P w) (A.over (.whileLoop test body [] env) fs) (isTrue test env (eval test env)) (fun b s' =>
        if b = true then Sg (model P w) A Φ (.whileLoop test body [] env) ((execs body env).wrap (fun f => match f with
            | .next | .cont => .pure (.again (.whileLoop test body [] env))
            | .brk => .pure (.done .next)
            | .ret v => .pure (.done (.ret v))) (turnJ env) id id) fs s'
        else Sg (model P w) A Φ (.whileLoop test body [] env) (.pure (.done .next)) fs s') NoE s) :
    Sg (model P w) A Φ (.whileLoop test body [] env) ((model P w).den (.whileLoop test body [] env)) fs s := by
  show Sg _ A Φ _ ((whileTurn test body [] env).onRaise (fun x => do noteFrame x env; theTreesLotGoes x)) fs s
  unfold whileTurn
  rw [Sem.onRaise_eq_wrap, Sem.bind_eq_wrap', Sem.wrap_wrap]
  refine sg_wrap (wpAny_mono h (fun b s' hb => ?_) fun x s' hx => hx)
  cases b with
  | true =>
    rw [if_pos rfl] at hb
    show Sg _ A Φ _ (Sem.wrap _ _ _ _ (if true = true then _ else _)) fs s'
    rw [if_pos rfl, Sem.bind_eq_wrap', Sem.wrap_wrap]
    rw [Sem.wrap_congr (execs body env) _ _ (K' := fun f => match f with
          | .next | .cont => .pure (.again (.whileLoop test body [] env))
          | .brk => .pure (.done .next)
          | .ret v => .pure (.done (.ret v))) (H' := turnJ env)
      (fun f => by cases f <;> rfl)
      (fun e => by first | exact Sem.bind_eq_wrap _ _ | (show (do noteFrame e env; theTreesLotGoes e : Sem Unit).bind (fun _ => .raise e) = _; rw [Sem.bind_eq_wrap]; rfl))]
    exact hb
  | false =>
    rw [if_neg Bool.false_ne_true] at hb
    show Sg _ A Φ _ (Sem.wrap _ _ _ _ (if false = true then _ else _)) fs s'
    rw [if_neg Bool.false_ne_true, Sem.bind_eq_wrap', Sem.wrap_wrap]
    exact hb
theorem sg_func {body : List Stmt}
    (h : Sg (model P w) A Φ (.func body env) ((execs body env).wrap (fun f => .pure (.done (.ret (match f with | .ret v => v | _ => .none))))
      (fun e => (leaving env e).wrap (fun _ => .raise e) .raise id id) id id) fs s) :
    Sg (model P w) A Φ (.func body env) ((model P w).den (.func body env)) fs s := by
  show Sg _ A Φ _ (.point [] fun _ => ((execs body env).onRaise (leaving env)) >>= _) fs s
  refine sg_point ?_
  rw [Sem.onRaise_eq_wrap, Sem.bind_eq_wrap', Sem.wrap_wrap]
  rw [Sem.wrap_congr (execs body env) _ _ (K' := fun f => .pure (.done (.ret (match f with | .ret v => v | _ => .none))))
    (H' := fun e => (leaving env e).wrap (fun _ => .raise e) .raise id id) (fun f => by cases f <;> rfl)
    (fun e => by rw [Sem.bind_eq_wrap, Sem.wrap_wrap]; rfl)]
  exact h
end
def WkG (M : Model) (A : Around) (Φ : PostG) (gs : GenState) (r : Resume) (s : Shared) : Prop :=
  match gs with
  | .fresh c => r = .send .none ∧ Sg M A Φ c (M.den c) [] s
  | .suspended k _ c _ fs _ => Sg M A Φ c (k r) fs s
  | _ => False
theorem wpAny_resumeK {M : Model} {A : Around} {Φ : PostG} {E : Value → Shared → Prop} {s : Shared} {g : Nat} {gs : GenState}
    {r : Resume} {l : List Value} {α : Type} {k : GenResult → Sem α} {Q : α → Shared → Prop} (hg : s.gens[g]? = some gs)
    (hgo : WkG M A Φ gs r (s.setGen g .running)) (hq : ∀ e s₁, Φ e s₁ → e.quiet = true)
    (h : ∀ e s₁, Φ e s₁ → wpAny M A (k e.result) Q E (s₁.setGen g e.genState)) : wpAny M A (.resume g r l k) Q E s := by
  intro Γ p hΓ
  rw [Sem.wp_resume]
  have hB : ∀ c, (Γ.wake c p).Woken A := fun c => hΓ.wake c p
  cases gs with
  | fresh c =>
    obtain ⟨rfl, hs⟩ := hgo
    obtain ⟨e₁, s₁, hr, he⟩ := hs (Γ.wake c p) p rfl (hB c)
    exact ⟨_, _, by unfold Wakes; rw [hg]; exact ⟨e₁, s₁, hr, hq e₁ s₁ he, rfl, rfl⟩, h e₁ s₁ he Γ p hΓ⟩
  | suspended k₀ l₀ c₀ p₀ fs₀ cl =>
    obtain ⟨e₁, s₁, hr, he⟩ := hgo (Γ.wake c₀ p) p₀ rfl (hB c₀)
    exact ⟨_, _, by unfold Wakes; rw [hg]; exact ⟨e₁, s₁, hr, hq e₁ s₁ he, rfl, rfl⟩, h e₁ s₁ he Γ p hΓ⟩
  | running => exact hgo.elim
  | finished => exact hgo.elim
/-- next(g): it hands out a value, or it ends -/
theorem next_gk {P : Program} {w : World} {A : Around} {E : Value → Shared → Prop} {s : Shared} {a : Addr} {g : Nat} {gs : GenState} {Φ : PostG} {Q : Option Value → Shared → Prop} (hh : A.handled = none)
    (hl : s.heap.NoLimit) (hroom : A.depth < recursionLimit) (hg : s.heap.IsGen a g) (hgs : s.gens[g]? = some gs)
    (hgo : WkG (model P w) A.in1 Φ gs (.send .none) (s.setGen g .running)) (hq : ∀ e s₁, Φ e s₁ → e.quiet = true)
    (hY : ∀ v gd l k c p fs s₁, Φ (.susp v gd l k c p fs) s₁ → Q (some v) (s₁.setGen g (End.susp v gd l k c p fs).genState))
    (hP : ∀ r s₁, Φ (.ret r) s₁ → r = .ok (.ret .none) ∧ ∀ h', (∀ b o, s₁.heap.get? b = some o → h'.get? b = some o) → Q none { s₁.setGen g .finished with heap := h' }) :
    wpAny (model P w) A (pyNext (.ref a)) Q E s := by
  unfold pyNext
  refine wpAny_bind (wpAny_attempt (wpAny_callSpecial?_slot (name := Str.ofString "__next__") hg.typeIs slot_gen_next
    (wpAny_call_entry slot_gen_next hg.typeIs entry_gen_next ?_ (args_gen_next _))))
  show wpAny _ A.in1 (Builtin.Generator.genWake (.ref a) (.send .none)) _ _ s
  unfold Builtin.Generator.genWake
  refine wpAny_bind (wpAny_holding (wpAny_genNumber hg (wpAny_bind (wpAny_genState hgs ?_))))
  cases gs with
  | running => exact hgo.elim
  | finished => exact hgo.elim
  | _ =>
    refine wpAny_bind (wpAny_roomToWake hl hroom ?_)
    show wpAny _ A.in1 (.resume g (.send .none) [] _) _ _ s
    refine wpAny_resumeK hgs hgo hq fun e s₁ he => ?_
    cases e with
    | ret x =>
      obtain ⟨rfl, hp⟩ := hP x s₁ he
      have hres : End.result (.ret (.ok (.ret .none))) = .returned .none := rfl
      first | rw [hres] | simp only [hres]
      show wpAny _ A.in1 (newExc (.type "StopIteration") [] >>= _) _ _ _
      refine wpAny_bind ?_
      simp only [newExc, newTuple]
      refine wpAny_bind (wpAny_newObj_type ?_ (by size_fits))
      refine wpAny_bind (m := firstArgMember _ _) (wpAny_of_eq (a := Value.none) (by first | rfl | (simp only [firstArgMember]; rfl)) ?_)
      refine wpAny_newObj_type ?_ (by size_fits)
      simp only [raiseNew]
      refine wpAny_bind (wpAny_bind (wpAny_handled ?_))
      first | rw [show A.in1.handled = none from hh] | rw [hh]
      refine wpAny_throw ?_
      refine wpAny_bind (wpAny_isInstance (T := "StopIteration") (b := true) ⟨_, Heap.get?_push_size _ rfl, rfl⟩ isSubtype_stop ?_)
      exact wpAny_pure (hp _ fun b o hb => Heap.get?_push_of_some _ (Heap.get?_push_of_some _ hb))
    | susp v gd l k c p fs => exact wpAny_pure ⟨v, rfl, wpAny_pure (hY v gd l k c p fs s₁ he)⟩
end Sz
set_option autoImplicit false
namespace Sz
open PySem
open Sem (wp)
structure Dead (s s' : Shared) : Prop where
  sz : s.heap.objs.size ≤ s'.heap.objs.size
  no : ∀ b, b < s.heap.objs.size → s.heap.get? b = none → s'.heap.get? b = none
theorem Dead.refl (s : Shared) : Dead s s := ⟨Nat.le_refl _, fun _ _ h => h⟩
theorem Dead.trans {a b c : Shared} (h : Dead a b) (k : Dead b c) : Dead a c := ⟨Nat.le_trans h.sz k.sz, fun x l e => k.no x (Nat.lt_of_lt_of_le l h.sz) (h.no x l e)⟩
theorem Dead.same {s s' : Shared} (e : s'.heap = s.heap) : Dead s s' := ⟨by rw [e]; exact Nat.le_refl _, fun x _ h => by rw [e]; exact h⟩
theorem Dead.push {s : Shared} {o : Obj} {s' : Shared} (e : s'.heap = s.heap.push o) : Dead s s' := ⟨by rw [e, Heap.size_push]; exact Nat.le_succ _, fun x l h => by
  rw [e]
  have : (s.heap.push o).objs[x]? = s.heap.objs[x]? := by
    show (s.heap.objs.push o)[x]? = _
    rw [Array.getElem?_push, if_neg (Nat.ne_of_lt l)]
  unfold Heap.get? at h ⊢
  rw [this]
  exact h⟩
theorem Dead.upd {s : Shared} {a : Addr} {f : Obj → Obj} (ha : (s.heap.get? a).isSome = true) {s' : Shared} (e : s'.heap = s.heap.update a f) : Dead s s' := by
  have sz : (s.heap.update a f).objs.size = s.heap.objs.size := by
    first | exact Heap.size_update .. | (unfold Heap.update; simp)
  refine ⟨by rw [e, sz]; exact Nat.le_refl _, fun x l h => ?_⟩
  rw [e]
  have hne : x ≠ a := fun z => by subst z; rw [h] at ha; cases ha
  exact (Heap.get?_update_other _ _ (Ne.symm hne)).trans h
theorem Dead.set {s s' : Shared} {g : Nat} {x : GenState} (h : Dead (s.setGen g x) s') : Dead s s' := ⟨h.sz, h.no⟩
theorem Dead.set' {s s' : Shared} {g : Nat} {x : GenState} (h : Dead s s') : Dead s (s'.setGen g x) := ⟨h.sz, h.no⟩
theorem runs_dead {M : Model} {Γ : Ctx} {p : Pos} {t : Sem PySem.Fin} {fs : List Frame} {s s' : Shared} {e : End} (h : Runs M Γ p t fs s e s') : Dead s s' := by
  induction h
  all_goals first
    | exact .refl _
    | assumption
    | (rename_i ih; exact (Dead.upd (by assumption) rfl).trans ih)
    | (rename_i ih; exact (Dead.push rfl).trans ih)
    | (rename_i ih; exact ⟨ih.sz, ih.no⟩)
    | (rename_i ih; exact (Dead.same rfl).trans ih)
    | (rename_i ih1 ih2; exact ih1.trans ih2)
    | (rename_i ih1 ih2; exact ih1.set.trans ih2.set)
    | (rename_i ih1 ih2; exact Dead.trans ⟨ih1.sz, ih1.no⟩ ⟨ih2.sz, ih2.no⟩)
    | (rename_i ih1 ih2; exact Dead.trans ih1 ⟨ih2.sz, ih2.no⟩)
    | (rename_i _ ih1 ih2; exact ih1.set.trans ih2.set)
    | (rename_i ih; exact ih.set)
    | skip
theorem returns_dead {M : Model} {Γ : Ctx} {p : Pos} {s s' : Shared} {r : Result} (h : Returns M Γ p s r s') : Dead s s' := runs_dead h
theorem wakes_dead {M : Model} {Γ : Ctx} {p : Pos} {g : Nat} {r : Resume} {s s' : Shared} {res : GenResult} (h : Wakes M Γ p g r s res s') : Dead s s' := by
  unfold Wakes at h
  split at h
  · exact h.elim
  · split at h
    · obtain ⟨e₁, s₁, hr, _, _, rfl⟩ := h
      exact (runs_dead hr).set.set'
    · rw [h.2]; exact .refl _
    · rw [h.2]; exact (Dead.refl _).set'
  · obtain ⟨e₁, s₁, hr, _, _, rfl⟩ := h
    exact (runs_dead hr).set.set'
  · rw [h.2]; exact .refl _
  · rw [h.2]; exact .refl _
theorem wp_dead {α : Type} (M : Model) (Γ : Ctx) (s0 : Shared) (t : Sem α) : ∀ (Q : α → Pos → Shared → Prop) (E : Value → Pos → Shared → Prop) (p : Pos) (s : Shared), Dead s0 s → wp M Γ t Q E p s →
    wp M Γ t (fun a p' s' => Dead s0 s' ∧ Q a p' s') (fun e p' s' => Dead s0 s' ∧ E e p' s') p s := by
  induction t with
  | pure a => intro Q E p s hn h; exact ⟨hn, h⟩
  | raise e => intro Q E p s hn h; exact ⟨hn, h⟩
  | unsupported _ => intro Q E p s _ h; exact h
  | finish _ => intro Q E p s _ h; exact h
  | rule _ k ih => intro Q E p s hn h; exact ih () Q E p s hn h
  | «at» p' k ih => intro Q E p s hn h; exact ih () Q E p' s hn h
  | load a _ k ih => intro Q E p s hn h; obtain ⟨o, ho, h⟩ := h; exact ⟨o, ho, ih o Q E p s hn h⟩
  | update a _ f k ih => intro Q E p s hn h; exact ⟨h.1, ih () Q E p _ (hn.trans (Dead.upd h.1 rfl)) h.2⟩
  | loadIfAlive a k ih => intro Q E p s hn h; exact ih _ Q E p s hn h
  | point _ k ih => intro Q E p s hn h; exact ih () Q E p s hn h
  | register _ _ => intro Q E p s _ h; exact h
  | alloc o k ih => intro Q E p s hn h; exact ih _ Q E p _ (hn.trans (Dead.push rfl)) h
  | fresh k ih => intro Q E p s hn h; exact ih _ Q E p _ ⟨hn.sz, hn.no⟩ h
  | ask k ih => intro Q E p s hn h; exact ih _ Q E p s hn h
  | choose src m k ih => intro Q E p s hn h; exact ⟨h.1, ih _ Q E p _ ⟨hn.sz, hn.no⟩ h.2⟩
  | os q _ k ih => intro Q E p s hn h; exact ih _ Q E p _ ⟨hn.sz, hn.no⟩ h
  | call c hd _ _ k ih => intro Q E p s hn h; obtain ⟨r, s', hr, h⟩ := h; exact ⟨r, s', hr, ih r Q E p s' (hn.trans (returns_dead hr)) h⟩
  | handled own k ih => intro Q E p s hn h; exact ih _ Q E p s hn h
  | genState g k ih => intro Q E p s hn h; obtain ⟨st, hs, h⟩ := h; exact ⟨st, hs, ih _ Q E p s hn h⟩
  | newGen c k ih => intro Q E p s hn h; exact ih _ Q E p _ ⟨hn.sz, hn.no⟩ h
  | resume g r _ k ih => intro Q E p s hn h; obtain ⟨res, s', hw, h⟩ := h; exact ⟨res, s', hw, ih res Q E p s' (hn.trans (wakes_dead hw)) h⟩
  | yield _ _ _ _ => intro Q E p s _ h; exact h
  | stack k ih => intro Q E p s hn h; exact ih _ Q E p s hn h
  | fork _ _ => intro Q E p s _ h; exact h
  | thread k ih => intro Q E p s hn h; exact ih _ Q E p s hn h
  | await _ _ _ _ _ => intro Q E p s _ h; exact h
theorem wpAny_dead {α : Type} {M : Model} {A : Around} {s : Shared} {t : Sem α} {Q : α → Shared → Prop} {E : Value → Shared → Prop}
    (h : wpAny M A t (fun a s' => Dead s s' → Q a s') (fun e s' => Dead s s' → E e s') s) : wpAny M A t Q E s :=
  wpAny_mono (fun Γ p hΓ => wp_dead M Γ s t _ _ p s (.refl s) (h Γ p hΓ) : wpAny M A t (fun a s' => Dead s s' ∧ (Dead s s' → Q a s')) (fun e s' => Dead s s' ∧ (Dead s s' → E e s')) s)
    (fun _ _ x => x.2 x.1) fun _ _ x => x.2 x.1
end Sz
namespace Sv
open PySem PySem.Spec PyProof.Rows L2
/-- a value: tuples and lists that are only read by what they hold; what can change by its address -/
inductive D where
  | non | bl (b : Bool) | int (i : Int) | str (x : Str) | tup (ds : List D) | rol (ds : List D) | ref (a : Addr) | ty (n : String) | dct (kvs : List (Key × D))
  /-- a tuple whose methods are not called -/
  | wtup (ds : List D)
/-- what stands in the store -/
inductive Ob where
  | lst (ds : List D)
  | dK (kvs : List (Key × D))
  | ins (C : Addr) (fs : List (Str × D))
  /-- a set of tuples of ints; a set of ints -/
  | tset (L : List (List Int)) | iset (ns : List Int)
abbrev Sto := Addr → Option Ob
def Sto.put (S : Sto) (a : Addr) (o : Ob) : Sto := fun b => if b = a then some o else S b
theorem Sto.same {S : Sto} {a : Addr} {o : Ob} : S.put a o a = some o := if_pos rfl
theorem Sto.ne {S : Sto} {a b : Addr} {o : Ob} (h : b ≠ a) : S.put a o b = S b := if_neg h
/-- the program, the world, the written part -/
structure KK where
  P : Program
  w : World
  k : PySem.W.Frag
abbrev _root_.L2.Cx.kk (X : Cx) : KK := ⟨X.prog, X.w, X.K⟩
/-- a list that is only read -/
def Rol (K : KK) (H : Hp) (a : Addr) (vs : List V) : Prop := (∃ o, H a = some (.frz o (.lst vs))) ∨
    ∃ (o : Obj) (its : Array Value) (n : Nat), K.k.lookup a = some o ∧ o.cls = .type "list" ∧ o.dict = none ∧ o.data = .seq its n ∧ its.size ≤ sizeLine ∧ Vals vs its.toList
theorem Rol.sqL {K : KK} {H : Hp} {a : Addr} {vs : List V} (h : Rol K H a vs) : SqL K.k H a vs := by
  rcases h with ⟨o, h⟩ | h
  · exact .inl (.inr ⟨o, h⟩)
  · exact .inr h
/-- what is locked stays -/
def Ext (H H' : Hp) : Prop := (∀ a o u, H a = some (.frz o u) → H' a = some (.frz o u)) ∧ ∀ a xs, H a = some (.tup xs) → H' a = some (.tup xs)
theorem Ext.refl (H : Hp) : Ext H H := ⟨fun _ _ _ h => h, fun _ _ h => h⟩
theorem Ext.trans {H H1 H2 : Hp} (x : Ext H H1) (y : Ext H1 H2) : Ext H H2 := ⟨fun a o u h => y.1 a o u (x.1 a o u h), fun a xs h => y.2 a xs (x.2 a xs h)⟩
theorem Ext.of {H H' : Hp} (h : Same H H') : Ext H H' := ⟨fun a o u e => h _ _ e, fun a xs e => h _ _ e⟩
theorem Ext.new {H : Hp} {p : Addr} {o : HO} (h : H p = none) : Ext H (upd H p o) := .of (Same.new h)
theorem Ext.put {H : Hp} {p : Addr} {o u : HO} (h : H p = some u) (m : Mut (some u)) : Ext H (upd H p o) := by
  refine ⟨fun a ob v e => ?_, fun a xs e => ?_⟩ <;>
  · rw [upd_ne]
    · exact e
    · rintro rfl
      rw [h] at e
      cases e
      exact m
theorem Rol.ext {K : KK} {H H' : Hp} {a : Addr} {vs : List V} (h : Rol K H a vs) (e : Ext H H') : Rol K H' a vs := by
  rcases h with ⟨o, h⟩ | h
  · exact .inl ⟨o, e.1 _ _ _ h⟩
  · exact .inr h
theorem TupN.ext {H H' : Hp} {a : Addr} {xs : List V} (h : TupN H a xs) (e : Ext H H') : TupN H' a xs := by
  obtain ⟨o, h, d⟩ := h
  exact ⟨o, e.1 _ _ _ h, d⟩
mutual
inductive RD (K : KK) (H : Hp) : D → V → Prop
  | non : RD K H .non .non
  | bl (b : Bool) : RD K H (.bl b) (.bl b)
  | int (i : Int) : RD K H (.int i) (.int i)
  | str (x : Str) : RD K H (.str x) (.str x)
  | ref (a : Addr) : RD K H (.ref a) (.ref a)
  | ty (n : String) : RD K H (.ty n) (.ty n)
  | tup {a : Addr} {ds : List D} {vs : List V} : TupN H a vs → RDs K H ds vs → RD K H (.tup ds) (.ref a)
  | rol {a : Addr} {ds : List D} {vs : List V} : Rol K H a vs → RDs K H ds vs → RD K H (.rol ds) (.ref a)
  | dct {a : Addr} {o : Obj} {kvs : List (Key × D)} {vs : List (Key × V)} : H a = some (.frz o (.dK vs)) → RDk K H kvs vs → RD K H (.dct kvs) (.ref a)
  | wtup {a : Addr} {ds : List D} {vs : List V} : H a = some (.tup vs) → RDs K H ds vs → RD K H (.wtup ds) (.ref a)
inductive RDs (K : KK) (H : Hp) : List D → List V → Prop
  | nil : RDs K H [] []
  | cons {d : D} {ds : List D} {v : V} {vs : List V} : RD K H d v → RDs K H ds vs → RDs K H (d :: ds) (v :: vs)
inductive RDk (K : KK) (H : Hp) : List (Key × D) → List (Key × V) → Prop
  | nil : RDk K H [] []
  | cons {k : Key} {d : D} {ds : List (Key × D)} {v : V} {vs : List (Key × V)} : RD K H d v → RDk K H ds vs → RDk K H ((k, d) :: ds) ((k, v) :: vs)
end
section
variable {K : KK} {H H' : Hp}
mutual
theorem RD.ext (e : Ext H H') : ∀ {d : D} {v : V}, RD K H d v → RD K H' d v
  | _, _, .non => .non
  | _, _, .bl b => .bl b
  | _, _, .int i => .int i
  | _, _, .str x => .str x
  | _, _, .ref a => .ref a
  | _, _, .ty n => .ty n
  | _, _, .tup h r => .tup (h.ext e) (RDs.ext e r)
  | _, _, .rol h r => .rol (h.ext e) (RDs.ext e r)
  | _, _, .dct h r => .dct (e.1 _ _ _ h) (RDk.ext e r)
  | _, _, .wtup h r => .wtup (e.2 _ _ h) (RDs.ext e r)
theorem RDs.ext (e : Ext H H') : ∀ {ds : List D} {vs : List V}, RDs K H ds vs → RDs K H' ds vs
  | _, _, .nil => .nil
  | _, _, .cons h r => .cons (RD.ext e h) (RDs.ext e r)
theorem RDk.ext (e : Ext H H') : ∀ {ds : List (Key × D)} {vs : List (Key × V)}, RDk K H ds vs → RDk K H' ds vs
  | _, _, .nil => .nil
  | _, _, .cons h r => .cons (RD.ext e h) (RDk.ext e r)
end
theorem RDk.length : ∀ {ds : List (Key × D)} {vs : List (Key × V)}, RDk K H ds vs → ds.length = vs.length
  | _, _, .nil => rfl
  | _, _, .cons _ r => by rw [List.length_cons, List.length_cons, RDk.length r]
theorem RDk.atv : ∀ {ds : List (Key × D)} {vs : List (Key × V)} {i : Nat} {k : Key} {v : V}, RDk K H ds vs → vs[i]? = some (k, v) → ∃ d, ds[i]? = some (k, d) ∧ RD K H d v
  | _, _, _, _, _, .nil, h => by simp at h
  | _, _, 0, _, _, .cons r _, h => by simp at h; obtain ⟨rfl, rfl⟩ := h; exact ⟨_, rfl, r⟩
  | _, _, i + 1, _, _, .cons _ t, h => RDk.atv (i := i) t (by simpa using h)
theorem RDs.length : ∀ {ds : List D} {vs : List V}, RDs K H ds vs → ds.length = vs.length
  | _, _, .nil => rfl
  | _, _, .cons _ r => by rw [List.length_cons, List.length_cons, RDs.length r]
theorem RDs.at : ∀ {ds : List D} {vs : List V} {i : Nat} {d : D}, RDs K H ds vs → ds[i]? = some d → ∃ v, vs[i]? = some v ∧ RD K H d v
  | _, _, _, _, .nil, h => by simp at h
  | _, _, 0, _, .cons r _, h => by simp at h; subst h; exact ⟨_, rfl, r⟩
  | _, _, i + 1, _, .cons _ t, h => RDs.at (i := i) t (by simpa using h)
theorem RDs.atv : ∀ {ds : List D} {vs : List V} {i : Nat} {v : V}, RDs K H ds vs → vs[i]? = some v → ∃ d, ds[i]? = some d ∧ RD K H d v
  | _, _, _, _, .nil, h => by simp at h
  | _, _, 0, _, .cons r _, h => by simp at h; subst h; exact ⟨_, rfl, r⟩
  | _, _, i + 1, _, .cons _ t, h => RDs.atv (i := i) t (by simpa using h)
theorem RDs.append : ∀ {ds : List D} {vs : List V} {es : List D} {ws : List V}, RDs K H ds vs → RDs K H es ws → RDs K H (ds ++ es) (vs ++ ws)
  | _, _, _, _, .nil, s => s
  | _, _, _, _, .cons r t, s => .cons r (RDs.append t s)
theorem RDs.take : ∀ {ds : List D} {vs : List V} (n : Nat), RDs K H ds vs → RDs K H (ds.take n) (vs.take n)
  | _, _, 0, _ => .nil
  | _, _, _ + 1, .nil => .nil
  | _, _, n + 1, .cons r t => .cons r (RDs.take n t)
theorem RDs.drop : ∀ {ds : List D} {vs : List V} (n : Nat), RDs K H ds vs → RDs K H (ds.drop n) (vs.drop n)
  | _, _, 0, r => r
  | _, _, _ + 1, .nil => .nil
  | _, _, n + 1, .cons _ t => RDs.drop n t
theorem RDs.set {d : D} {v : V} (h : RD K H d v) : ∀ {ds : List D} {vs : List V} (n : Nat), RDs K H ds vs → RDs K H (ds.set n d) (vs.set n v)
  | _, _, _, .nil => .nil
  | _, _, 0, .cons _ t => .cons h t
  | _, _, n + 1, .cons r t => .cons r (RDs.set h n t)
theorem RDs.eraseIdx : ∀ {ds : List D} {vs : List V} (n : Nat), RDs K H ds vs → RDs K H (ds.eraseIdx n) (vs.eraseIdx n)
  | _, _, _, .nil => .nil
  | _, _, 0, .cons _ t => t
  | _, _, n + 1, .cons r t => .cons r (RDs.eraseIdx n t)
theorem RDs.ints : ∀ ns : List Int, RDs K H (ns.map D.int) (ns.map V.int)
  | [] => .nil
  | n :: r => .cons (.int n) (RDs.ints r)
theorem RDs.ints_inv : ∀ {ns : List Int} {vs : List V}, RDs K H (ns.map D.int) vs → vs = ns.map V.int
  | [], _, .nil => rfl
  | n :: r, _, .cons (.int _) t => by rw [RDs.ints_inv t]; rfl
theorem RDs.inv1 {d : D} {vs : List V} (h : RDs K H [d] vs) : ∃ v, vs = [v] ∧ RD K H d v := by
  cases h with
  | cons r t => cases t; exact ⟨_, rfl, r⟩
theorem RDs.inv2 {d e : D} {vs : List V} (h : RDs K H [d, e] vs) : ∃ v u, vs = [v, u] ∧ RD K H d v ∧ RD K H e u := by
  cases h with
  | cons r t =>
    obtain ⟨u, rfl, q⟩ := t.inv1
    exact ⟨_, _, rfl, r, q⟩
end
def RO (K : KK) (H : Hp) (a : Addr) : Ob → Prop
  | .lst ds => ∃ vs, H a = some (.lst vs) ∧ RDs K H ds vs
  | .dK kvs => ∃ vs, H a = some (.dK vs) ∧ RDk K H kvs vs
  | .ins C fs => ∃ dx ns ds vs, H a = some (.ins C dx (List.zip ns vs)) ∧ fs = List.zip ns ds ∧ ns.length = ds.length ∧ RDs K H ds vs
  | .tset L => ∃ M : List (Addr × List Int), H a = some (SetTO K.P K.w a M) ∧ (∀ p ∈ M, TupN H p.1 (p.2.map V.int)) ∧ L = M.map (·.2)
  | .iset ns => ∃ S : Key → Bool, H a = some (SetK K.P K.w a S ns.length) ∧ ∀ i, S (Sum.inl i) = true ↔ i ∈ ns
def RelS (K : KK) (S : Sto) (H : Hp) : Prop := ∀ a o, S a = some o → RO K H a o
section
variable {K : KK} {H H' : Hp} {S : Sto} {a p : Addr} {o : Ob} {u w : HO}
theorem RO.ext {o : Ob} (h : RO K H a o) (e : Ext H H') (ha : H' a = H a) : RO K H' a o := by
  cases o with
  | lst ds => obtain ⟨vs, q, r⟩ := h; exact ⟨vs, ha.trans q, r.ext e⟩
  | dK kvs => obtain ⟨vs, q, r⟩ := h; exact ⟨vs, ha.trans q, r.ext e⟩
  | ins C fs => obtain ⟨dx, ns, ds, vs, q, z, l, r⟩ := h; exact ⟨dx, ns, ds, vs, ha.trans q, z, l, r.ext e⟩
  | tset L => obtain ⟨M, q, r, z⟩ := h; exact ⟨M, ha.trans q, fun p hp => (r p hp).ext e, z⟩
  | iset ns => obtain ⟨S, q, r⟩ := h; exact ⟨S, ha.trans q, r⟩
theorem RO.mut (h : RO K H a o) : ∃ u, H a = some u ∧ Mut (some u) := by
  cases o with
  | lst ds => obtain ⟨vs, q, r⟩ := h; exact ⟨_, q, trivial⟩
  | dK kvs => obtain ⟨vs, q, r⟩ := h; exact ⟨_, q, trivial⟩
  | ins C fs => obtain ⟨dx, ns, ds, vs, q, _⟩ := h; exact ⟨_, q, trivial⟩
  | tset L => obtain ⟨M, q, _⟩ := h; exact ⟨_, q, trivial⟩
  | iset ns => obtain ⟨S, q, _⟩ := h; exact ⟨_, q, trivial⟩
theorem RelS.fresh (h : RelS K S H) (n : H p = none) : S p = none := by
  cases e : S p with
  | none => rfl
  | some o =>
    obtain ⟨u, q, _⟩ := (h p o e).mut
    rw [n] at q
    cases q
/-- something new that is not of the store -/
theorem RelS.new (h : RelS K S H) (n : H p = none) : RelS K S (upd H p u) := fun a o e => (h a o e).ext (.new n) (upd_ne fun z => by
  subst z
  rw [h.fresh n] at e
  cases e)
/-- something new of the store -/
theorem RelS.lay (h : RelS K S H) (n : H p = none) (r : RO K (upd H p u) p o) : RelS K (S.put p o) (upd H p u) := fun a o' e => by
  by_cases z : a = p
  · subst z
    rw [Sto.same] at e
    cases e
    exact r
  · rw [Sto.ne z] at e
    exact h.new n a o' e
/-- something of the store written -/
theorem RelS.put (h : RelS K S H) (n : H p = some w) (m : Mut (some w)) (r : RO K (upd H p u) p o) : RelS K (S.put p o) (upd H p u) := fun a o' e => by
  by_cases z : a = p
  · subst z
    rw [Sto.same] at e
    cases e
    exact r
  · rw [Sto.ne z] at e
    exact (h a o' e).ext (.put n m) (upd_ne z)
theorem RelS.lst (h : RelS K S H) {ds : List D} (e : S a = some (.lst ds)) : ∃ vs, H a = some (.lst vs) ∧ RDs K H ds vs := h a _ e
end
abbrev Env := List (Option D)
abbrev DK := D → Sto → Prop
abbrev DTE := Env → Sto → DK → Prop
abbrev DTT := Env → Sto → (Bool → Sto → Prop) → Prop
abbrev DTA := Env → Sto → (List D → Sto → Prop) → Prop
structure DEnds where
  nx : Env → Sto → Prop
  rt : DK
  bk : Env → Sto → Prop := fun _ _ => False
  ct : Env → Sto → Prop := fun _ _ => False
abbrev DTS := DEnds → Env → Sto → Prop
structure RS (K : KK) (σ : L2.St) (H : Hp) (env : Env) (S : Sto) : Prop where
  len : env.length = σ.length
  slot : ∀ (i : Nat) (d : D), env[i]? = some (some d) → ∃ v, σ[i]? = some (some v) ∧ RD K H d v
  sto : RelS K S H
theorem RS.ext {K : KK} {σ : L2.St} {H H' : Hp} {env : Env} {S S' : Sto} (r : RS K σ H env S) (e : Ext H H') (s : RelS K S' H') : RS K σ H' env S' :=
  ⟨r.len, fun i d h => let ⟨v, q, x⟩ := r.slot i d h; ⟨v, q, x.ext e⟩, s⟩
theorem RS.set {K : KK} {σ : L2.St} {H : Hp} {env : Env} {S : Sto} {d : D} {v : V} (r : RS K σ H env S) (i : Nat) (h : RD K H d v) : RS K (σ.set i (some v)) H (env.set i (some d)) S := by
  refine ⟨by rw [List.length_set, List.length_set]; exact r.len, fun j d' e => ?_, r.sto⟩
  by_cases z : i = j
  · subst z
    by_cases hl : i < env.length
    · rw [List.getElem?_set_self hl] at e
      cases e
      exact ⟨v, List.getElem?_set_self (r.len ▸ hl), h⟩
    · rw [List.getElem?_eq_none (by rw [List.length_set]; omega)] at e
      cases e
  · rw [List.getElem?_set_ne z] at e ⊢
    exact r.slot j d' e
section
variable (K : KK)
def lE (t : DTE) : TE := fun σ H Q => ∃ env S R, RS K σ H env S ∧ t env S R ∧ ∀ d S' v H', R d S' → RelS K S' H' → RD K H' d v → Ext H H' → Q v H'
def lT (t : DTT) : TT := fun σ H Q => ∃ env S R, RS K σ H env S ∧ t env S R ∧ ∀ b S' H', R b S' → RelS K S' H' → Ext H H' → Q b H'
def lA (t : DTA) : TA := fun σ H Q => ∃ env S R, RS K σ H env S ∧ t env S R ∧ ∀ ds S' vs H', R ds S' → RelS K S' H' → RDs K H' ds vs → Ext H H' → Q vs H'
def lS (t : DTS) : TS := fun B σ H => ∃ env S C, RS K σ H env S ∧ t C env S ∧
  (∀ env' S' σ' H', C.nx env' S' → RS K σ' H' env' S' → Ext H H' → B.nx σ' H') ∧ (∀ d S' v H', C.rt d S' → RelS K S' H' → RD K H' d v → Ext H H' → B.rt v H') ∧
  (∀ env' S' σ' H', C.bk env' S' → RS K σ' H' env' S' → Ext H H' → B.bk σ' H') ∧ (∀ env' S' σ' H', C.ct env' S' → RS K σ' H' env' S' → Ext H H' → B.ct σ' H')
end
structure DE (X : Cx) (e : Expr) (t : DTE) : Prop where
  run : PE X e (lE X.kk t)
structure DT (X : Cx) (e : Expr) (t : DTT) : Prop where
  run : PT X e (lT X.kk t)
structure DW (X : Cx) (e : Expr) (t : DTT) : Prop where
  run : PW X e (lT X.kk t)
structure DA (X : Cx) (es : List Expr) (t : DTA) : Prop where
  run : PA X es (lA X.kk t)
structure DS (X : Cx) (st : Stmt) (t : DTS) : Prop where
  run : PS X st (lS X.kk t)
structure DSs (X : Cx) (sts : List Stmt) (t : DTS) : Prop where
  run : PSs X sts (lS X.kk t)
section
variable {X : Cx}
theorem _root_.L2.PE.of {e : Expr} {t t' : TE} (h : PE X e t) (q : ∀ σ H Q, t' σ H Q → t σ H Q) : PE X e t' := ⟨fun pins s σ H Q I w => h.run pins s σ H Q I (q σ H Q w)⟩
theorem _root_.L2.PT.of {e : Expr} {t t' : TT} (h : PT X e t) (q : ∀ σ H Q, t' σ H Q → t σ H Q) : PT X e t' := ⟨fun pins s σ H Q I w => h.run pins s σ H Q I (q σ H Q w)⟩
theorem _root_.L2.PW.of {e : Expr} {t t' : TT} (h : PW X e t) (q : ∀ σ H Q, t' σ H Q → t σ H Q) : PW X e t' := ⟨fun wh pins s σ H Q I w => h.run wh pins s σ H Q I (q σ H Q w)⟩
theorem _root_.L2.PA.of {e : List Expr} {t t' : TA} (h : PA X e t) (q : ∀ σ H Q, t' σ H Q → t σ H Q) : PA X e t' := ⟨fun pos pins s σ H Q I w => h.run pos pins s σ H Q I (q σ H Q w)⟩
theorem _root_.L2.PS.of {e : Stmt} {t t' : TS} (h : PS X e t) (q : ∀ σ H Q, t' Q σ H → t Q σ H) : PS X e t' := ⟨fun pins s σ H Q I w => h.run pins s σ H Q I (q σ H Q w)⟩
theorem _root_.L2.PSs.of {e : List Stmt} {t t' : TS} (h : PSs X e t) (q : ∀ σ H Q, t' Q σ H → t Q σ H) : PSs X e t' := ⟨fun pins s σ H Q I w => h.run pins s σ H Q I (q σ H Q w)⟩
def dVar (i : Nat) : DTE := fun env S R => ∃ d, env[i]? = some (some d) ∧ R d S
def dC (d : D) : DTE := fun _ S R => R d S
theorem de_var {i : Nat} {x : Str} {pos : Pos} (hN : X.N[i]? = some x) (hv : Vis X.env.scope x) (hd : (x == ("__debug__" : Str)) = false := by decide) (hcd : (x == ("__classdict__" : Str)) = false := by decide) : DE X (.Name x pos) (dVar i) :=
  ⟨(pe_var hN hv hd hcd).of fun σ H Q ⟨env, S, R, rs, ⟨d, h, q⟩, k⟩ => let ⟨v, e, r⟩ := rs.slot i d h; ⟨v, e, k _ _ _ _ q rs.sto r (.refl H)⟩⟩
theorem de_int {i j pos} : DE X (.Constant (.int i) j pos) (dC (.int i)) := ⟨pe_int.of fun σ H Q ⟨env, S, R, rs, q, k⟩ => k _ _ _ _ q rs.sto (.int i) (.refl H)⟩
theorem de_bl {b j pos} : DE X (.Constant (.bool b) j pos) (dC (.bl b)) := ⟨pe_bl.of fun σ H Q ⟨env, S, R, rs, q, k⟩ => k _ _ _ _ q rs.sto (.bl b) (.refl H)⟩
theorem de_non {j pos} : DE X (.Constant .none j pos) (dC .non) := ⟨pe_non.of fun σ H Q ⟨env, S, R, rs, q, k⟩ => k _ _ _ _ q rs.sto .non (.refl H)⟩
theorem de_str {x j pos} : DE X (.Constant (.str x) j pos) (dC (.str x)) := ⟨pe_str.of fun σ H Q ⟨env, S, R, rs, q, k⟩ => k _ _ _ _ q rs.sto (.str x) (.refl H)⟩
abbrev DR2 := D → D → Sto → DK → Prop
def l2 (K : KK) (r : DR2) : R2 := fun x y H Q => ∃ d e S R, RD K H d x ∧ RD K H e y ∧ RelS K S H ∧ r d e S R ∧ ∀ z S' v H', R z S' → RelS K S' H' → RD K H' z v → Ext H H' → Q v H'
def dBin (r : DR2) (ta tb : DTE) : DTE := fun env S R => ta env S fun x S1 => tb env S1 fun y S2 => r x y S2 R
theorem l2_bin {K : KK} {r : DR2} {ta tb : DTE} {σ : L2.St} {H : Hp} {Q : VK} (h : lE K (dBin r ta tb) σ H Q) : tOp (l2 K r) (lE K ta) (lE K tb) σ H Q := by
  obtain ⟨env, S, R, rs, h, k⟩ := h
  refine ⟨env, S, _, rs, h, fun d S1 v H1 q1 s1 r1 e1 => ⟨env, S1, _, rs.ext e1 s1, q1, fun e S2 u H2 q2 s2 r2 e2 => ⟨d, e, S2, R, r1.ext e2, r2, s2, q2, fun z S3 w H3 q3 s3 r3 e3 => k _ _ _ _ q3 s3 r3 (e1.trans (e2.trans e3))⟩⟩⟩
variable {a b : Expr} {ta tb tc : DTE} {pos : Pos}
theorem de_bin {op : Operator} {r : DR2} (ho : OpR X (binaryOp op) (l2 X.kk r)) (ha : DE X a ta) (hb : DE X b tb) : DE X (.BinOp a op b pos) (dBin r ta tb) := ⟨(pe_op ho ha.run hb.run).of fun _ _ _ => l2_bin⟩
theorem de_cmp {op : CmpOp} {r : DR2} (ho : OpR X (compareOp op) (l2 X.kk r)) (ha : DE X a ta) (hb : DE X b tb) (hm : behindInMarks op b = false := by first | rfl | exact nomark _) : DE X (.Compare a [op] [b] pos) (dBin r ta tb) := ⟨(pe_cmpR ho ha.run hb.run hm).of fun _ _ _ => l2_bin⟩
def dB (t : DTE) : DTT := fun env S R => t env S fun x S1 => ∃ c, x = .bl c ∧ R c S1
theorem lT_b {K : KK} {t : DTE} {σ : L2.St} {H : Hp} {Q : Bool → Hp → Prop} (h : lT K (dB t) σ H Q) : tB (lE K t) σ H Q := by
  obtain ⟨env, S, R, rs, h, k⟩ := h
  refine ⟨env, S, _, rs, h, fun d S1 v H1 ⟨c, q, q1⟩ s1 r1 e1 => ?_⟩
  subst q
  cases r1
  exact ⟨c, rfl, k _ _ _ q1 s1 e1⟩
theorem dt_cmp {op : CmpOp} {r : DR2} (ho : OpR X (compareOp op) (l2 X.kk r)) (ha : DE X a ta) (hb : DE X b tb) (hm : behindInMarks op b = false := by first | rfl | exact nomark _) : DT X (.Compare a [op] [b] pos) (dB (dBin r ta tb)) := by
  refine ⟨(pt_cmpR ho ha.run hb.run hm).of fun σ H Q h => ?_⟩
  obtain ⟨env, S, R, rs, h, k⟩ := lT_b h
  exact l2_bin ⟨env, S, R, rs, h, k⟩
/-- an expression whose value is a bool, as a test -/
theorem dt_val {e : Expr} {t : DTE} (h : DE X e t) (he : ∀ whole, isTrue e X.env whole = (do let v ← whole; standAt e.pos; holding [v] (truthy v)) := by intro _; rfl) : DT X e (dB t) := ⟨(pt_val h.run he).of fun _ _ _ => lT_b⟩
end
end Sv
namespace Sv
open PySem PySem.Spec PyProof.Rows L2
section
variable {X : Cx} {a b c e : Expr} {es rest : List Expr} {ta tb te : DTE} {t u : DTT} {tl : DTA} {pos : Pos}
def dAnd (t u : DTT) : DTT := fun env S R => t env S fun c S1 => if c = true then u env S1 R else R false S1
def dOr (t u : DTT) : DTT := fun env S R => t env S fun c S1 => if c = true then R true S1 else u env S1 R
def dNot (t : DTT) : DTT := fun env S R => t env S fun c S1 => R (!c) S1
theorem dw_and1 (h : DT X a t) : DW X (.BoolOp .And [a] pos) t := ⟨pw_and1 h.run⟩
theorem dw_or1 (h : DT X a t) : DW X (.BoolOp .Or [a] pos) t := ⟨pw_or1 h.run⟩
theorem dw_and (ha : DT X a t) (hb : DW X (.BoolOp .And (b :: rest) pos) u) : DW X (.BoolOp .And (a :: b :: rest) pos) (dAnd t u) := by
  refine ⟨(pw_and ha.run hb.run).of fun σ H Q ⟨env, S, R, rs, h, k⟩ => ⟨env, S, _, rs, h, fun c S1 H1 q s1 e1 => ?_⟩⟩
  cases c with
  | true => exact ⟨env, S1, R, rs.ext e1 s1, q, fun c S2 H2 q s2 e2 => k _ _ _ q s2 (e1.trans e2)⟩
  | false => exact k _ _ _ q s1 e1
theorem dw_or (ha : DT X a t) (hb : DW X (.BoolOp .Or (b :: rest) pos) u) : DW X (.BoolOp .Or (a :: b :: rest) pos) (dOr t u) := by
  refine ⟨(pw_or ha.run hb.run).of fun σ H Q ⟨env, S, R, rs, h, k⟩ => ⟨env, S, _, rs, h, fun c S1 H1 q s1 e1 => ?_⟩⟩
  cases c with
  | false => exact ⟨env, S1, R, rs.ext e1 s1, q, fun c S2 H2 q s2 e2 => k _ _ _ q s2 (e1.trans e2)⟩
  | true => exact k _ _ _ q s1 e1
theorem DW.dt (h : DW X e t) : DT X e t := ⟨h.run.pt⟩
theorem dt_not (h : DT X a t) : DT X (.UnaryOp .Not a pos) (dNot t) :=
  ⟨(pt_not h.run).of fun σ H Q ⟨env, S, R, rs, h, k⟩ => ⟨env, S, _, rs, h, fun c S1 H1 q s1 e1 => k _ _ _ q s1 e1⟩⟩
/-- bools as values -/
def dAndV (ta tb : DTE) : DTE := fun env S R => ta env S fun x S1 => ∃ c, x = .bl c ∧ if c = true then tb env S1 R else R (.bl false) S1
def dNotV (ta : DTE) : DTE := fun env S R => ta env S fun x S1 => ∃ c, x = .bl c ∧ R (.bl (!c)) S1
theorem de_one {op} (h : DE X a ta) : DE X (.BoolOp op [a] pos) ta := ⟨pe_one h.run⟩
theorem de_and (ha : DE X a ta) (hb : DE X (.BoolOp .And (b :: rest) pos) tb) : DE X (.BoolOp .And (a :: b :: rest) pos) (dAndV ta tb) := by
  refine ⟨(pe_and ha.run hb.run).of fun σ H Q ⟨env, S, R, rs, h, k⟩ => ⟨env, S, _, rs, h, fun d S1 v H1 ⟨c, z, q⟩ s1 r1 e1 => ?_⟩⟩
  subst z
  cases r1
  refine ⟨c, rfl, ?_⟩
  cases c with
  | true => exact ⟨env, S1, R, rs.ext e1 s1, q, fun c S2 v H2 q s2 r2 e2 => k _ _ _ _ q s2 r2 (e1.trans e2)⟩
  | false => exact k _ _ _ _ q s1 (.bl _) e1
theorem de_not (ha : DE X a ta) : DE X (.UnaryOp .Not a pos) (dNotV ta) := by
  refine ⟨(pe_not ha.run).of fun σ H Q ⟨env, S, R, rs, h, k⟩ => ⟨env, S, _, rs, h, fun d S1 v H1 ⟨c, z, q⟩ s1 r1 e1 => ?_⟩⟩
  subst z
  cases r1
  exact ⟨c, rfl, k _ _ _ _ q s1 (.bl _) e1⟩
def dIf (t : DTT) (ta tb : DTE) : DTE := fun env S R => t env S fun c S1 => if c = true then ta env S1 R else tb env S1 R
theorem de_ifExp (hc : DT X c t) (ha : DE X a ta) (hb : DE X b tb) : DE X (.IfExp c a b pos) (dIf t ta tb) := by
  refine ⟨(pe_ifExp hc.run ha.run hb.run).of fun σ H Q ⟨env, S, R, rs, h, k⟩ => ⟨env, S, _, rs, h, fun c S1 H1 q s1 e1 => ?_⟩⟩
  cases c with
  | true => exact ⟨env, S1, R, rs.ext e1 s1, q, fun c S2 v H2 q s2 r2 e2 => k _ _ _ _ q s2 r2 (e1.trans e2)⟩
  | false => exact ⟨env, S1, R, rs.ext e1 s1, q, fun c S2 v H2 q s2 r2 e2 => k _ _ _ _ q s2 r2 (e1.trans e2)⟩
/-- an operator of one value -/
abbrev DR1 := D → Sto → DK → Prop
def l1 (K : KK) (r : DR1) : V → Hp → VK → Prop := fun x H Q => ∃ d S R, RD K H d x ∧ RelS K S H ∧ r d S R ∧ ∀ z S' v H', R z S' → RelS K S' H' → RD K H' z v → Ext H H' → Q v H'
def dUn (r : DR1) (ta : DTE) : DTE := fun env S R => ta env S fun x S1 => r x S1 R
theorem l1_un {K : KK} {r : DR1} {σ : L2.St} {H : Hp} {Q : VK} (h : lE K (dUn r ta) σ H Q) : lE K ta σ H (fun x H1 => l1 K r x H1 Q) := by
  obtain ⟨env, S, R, rs, h, k⟩ := h
  exact ⟨env, S, _, rs, h, fun d S1 v H1 q s1 r1 e1 => ⟨d, S1, R, r1, s1, q, fun z S2 w H2 q2 s2 r2 e2 => k _ _ _ _ q2 s2 r2 (e1.trans e2)⟩⟩
theorem de_un {op : UnaryOp} {r : DR1} (ho : UnR X (unaryOp op) (l1 X.kk r)) (ha : DE X a ta) : DE X (.UnaryOp op a pos) (dUn r ta) := ⟨(pe_un ho ha.run).of fun _ _ _ => l1_un⟩
def isNon : D → Bool
  | .non => true
  | _ => false
def dNotN (ta : DTE) : DTE := dUn (fun d S R => R (.bl (!isNon d)) S) ta
theorem rd_non {K : KK} {H : Hp} {d : D} {v : V} (r : RD K H d v) : decide (v = .non) = isNon d := by cases r <;> rfl
theorem lE_notN {K : KK} {σ : L2.St} {H : Hp} {Q : VK} (h : lE K (dNotN ta) σ H Q) : tNotN (lE K ta) σ H Q := by
  obtain ⟨env, S, R, rs, h, k⟩ := h
  refine ⟨env, S, _, rs, h, fun d S1 v H1 q s1 r1 e1 => ?_⟩
  show Q (.bl (!decide (v = .non))) H1
  rw [rd_non r1]
  exact k _ _ _ _ q s1 (.bl _) e1
theorem dt_notN {j pos'} (ha : DE X a ta) : DT X (.Compare a [.IsNot] [.Constant .none j pos'] pos) (dB (dNotN ta)) := ⟨(pt_cmp (pc_notN ha.run)).of fun _ _ _ h => by
  obtain ⟨env, S, R, rs, h, k⟩ := lT_b h
  exact lE_notN ⟨env, S, R, rs, h, k⟩⟩
def dNil : DTA := fun _ S R => R [] S
def dCons (ta : DTE) (tr : DTA) : DTA := fun env S R => ta env S fun x S1 => tr env S1 fun xs S2 => R (x :: xs) S2
theorem da_nil : DA X [] dNil := ⟨pa_nil.of fun σ H Q ⟨env, S, R, rs, q, k⟩ => k _ _ _ _ q rs.sto .nil (.refl H)⟩
theorem da_cons (ha : DE X e ta) (hr : DA X es tl) (hs : starEach (e :: es) X.env = (false, eval e X.env) :: starEach es X.env := by rfl) : DA X (e :: es) (dCons ta tl) :=
  ⟨(pa_cons ha.run hr.run hs).of fun σ H Q ⟨env, S, R, rs, h, k⟩ => ⟨env, S, _, rs, h, fun d S1 v H1 q s1 r1 e1 => ⟨env, S1, _, rs.ext e1 s1, q, fun ds S2 vs H2 q2 s2 r2 e2 => k _ _ _ _ q2 s2 (.cons (r1.ext e2) r2) (e1.trans e2)⟩⟩⟩
theorem sz1000 {α : Type} {xs : List α} (h : decide (xs.length ≤ 1000) = true) : xs.length ≤ sizeLine := Nat.le_trans (of_decide_eq_true h) (by decide)
def dTup (t : DTA) : DTE := fun env S R => t env S fun ds S1 => decide (ds.length ≤ 1000) = true ∧ R (.tup ds) S1
def dLst (t : DTA) : DTE := fun env S R => t env S fun ds S1 => decide (ds.length ≤ 1000) = true ∧ ∀ p, S1 p = none → R (.ref p) (S1.put p (.lst ds))
theorem de_tup {x1} (h : DA X es tl) : DE X (.Tuple es x1 pos) (dTup tl) := by
  refine ⟨(pe_tupF h.run).of fun σ H Q ⟨env, S, R, rs, h, k⟩ => ⟨env, S, _, rs, h, fun ds S1 vs H1 ⟨hz, q⟩ s1 r1 e1 => ⟨?_, fun p o np ho => ?_⟩⟩⟩
  · rw [← r1.length]
    exact sz1000 hz
  · exact k _ _ _ _ q (s1.new np) (.tup (.new ho) (r1.ext (.new np))) (e1.trans (.new np))
theorem de_lst (h : DA X es tl) : DE X (.List es pos) (dLst tl) := by
  refine ⟨(pe_lst h.run).of fun σ H Q ⟨env, S, R, rs, h, k⟩ => ⟨env, S, _, rs, h, fun ds S1 vs H1 ⟨hz, q⟩ s1 r1 e1 => ⟨?_, fun p np => ?_⟩⟩⟩
  · rw [← r1.length]
    exact sz1000 hz
  · exact k _ _ _ _ (q p (s1.fresh np)) (s1.lay np ⟨_, upd_same, r1.ext (.new np)⟩) (.ref p) (e1.trans (.new np))
abbrev DRC := List D → Sto → DK → Prop
def lC (K : KK) (r : DRC) : List V → Hp → VK → Prop := fun vs H Q => ∃ ds S R, RDs K H ds vs ∧ RelS K S H ∧ r ds S R ∧ ∀ z S' v H', R z S' → RelS K S' H' → RD K H' z v → Ext H H' → Q v H'
def dCB (r : DRC) (t : DTA) : DTE := fun env S R => t env S fun ds S1 => r ds S1 R
theorem lC_of {K : KK} {r : DRC} {σ : L2.St} {H : Hp} {Q : VK} (h : lE K (dCB r tl) σ H Q) : lA K tl σ H (fun vs H1 => lC K r vs H1 Q) := by
  obtain ⟨env, S, R, rs, h, k⟩ := h
  exact ⟨env, S, _, rs, h, fun ds S1 vs H1 q s1 r1 e1 => ⟨ds, S1, R, r1, s1, q, fun z S2 w H2 q2 s2 r2 e2 => k _ _ _ _ q2 s2 r2 (e1.trans e2)⟩⟩
theorem de_callB {r : DRC} {id : String} {x : Str} {p : Pos} (hc : CallR X (.builtin id) (lC X.kk r)) (hg : Gl X x) (hm : X.mg x = none) (hv : bootBuiltins x = some (.builtin id)) (ha : DA X (e :: es) tl) (hn : x ≠ "__name__" := by decide) (hdb : (x == ("__debug__" : Str)) = false := by decide)
    (he : starEach (e :: es) X.env = (false, eval e X.env) :: starEach es X.env := by rfl) (hpl : (backTo pos (starEach es X.env)).any (·.1) = false := by rfl) : DE X (.Call (.Name x p) (e :: es) [] pos) (dCB r tl) :=
  ⟨(pe_callB hc hg hm hv ha.run hn hdb he hpl).of fun _ _ _ => lC_of⟩
theorem de_callTy {r : DRC} {T : String} {x : Str} {p : Pos} (hc : CallR X (.type T) (lC X.kk r)) (hg : Gl X x) (hm : X.mg x = none) (hv : bootBuiltins x = some (.type T)) (ha : DA X (e :: es) tl) (hn : x ≠ "__name__" := by decide) (hdb : (x == ("__debug__" : Str)) = false := by decide)
    (he : starEach (e :: es) X.env = (false, eval e X.env) :: starEach es X.env := by rfl) (hpl : (backTo pos (starEach es X.env)).any (·.1) = false := by rfl) : DE X (.Call (.Name x p) (e :: es) [] pos) (dCB r tl) :=
  ⟨(pe_callTy hc hg hm hv ha.run hn hdb he hpl).of fun _ _ _ => lC_of⟩
/-- a def's promise over data: n arguments -/
def lP (K : KK) (n : Nat) (r : DRC) : Sp := fun vs H Q _ => vs.length = n ∧ lC K r vs H Q
structure DFn (P : Program) (w : World) (K : PySem.W.Frag) (mg : Str → Option Value) (base : Heap) (k : Nat) (x : Str) (n : Nat) (r : DRC) : Prop where
  ex : ∃ (f : Addr) (fd : FuncData) (ps : List Str), FnG P w K mg base k f fd ps (lP ⟨P, w, K⟩ n r) ∧ mg x = some (.ref f) ∧ PySem.W.keepIn K (.ref f) = true ∧ Binds K fd ps []
def dCall (n : Nat) (r : DRC) (t : DTA) : DTE := dCB (fun ds S R => decide (ds.length = n) = true ∧ r ds S R) t
theorem de_call {k n : Nat} {r : DRC} {x : Str} {p : Pos} (F : DFn X.prog X.w X.K X.mg X.base k x n r) (hgd : X.A.guards = some []) (hr : Room k X.A) (hg : Gl X x) (ha : DA X (e :: es) tl) (hdb : (x == ("__debug__" : Str)) = false := by decide)
    (he : starEach (e :: es) X.env = (false, eval e X.env) :: starEach es X.env := by rfl) (hpl : (backTo pos (starEach es X.env)).any (·.1) = false := by rfl) : DE X (.Call (.Name x p) (e :: es) [] pos) (dCall n r tl) := by
  obtain ⟨f, fd, ps, F, hm, hk, hb⟩ := F.ex
  refine ⟨(pe_callG F hgd hr hg hm hk hb .nil (E := fun _ _ _ => False) pass0 ha.run hdb he hpl).of fun σ H Q h => ?_⟩
  obtain ⟨env, S, R, rs, h, k⟩ := lC_of h
  refine ⟨env, S, R, rs, h, fun ds S1 vs H1 q s1 r1 e1 => ?_⟩
  obtain ⟨ds', S', R', r', s', ⟨hl, q'⟩, k'⟩ := k ds S1 vs H1 q s1 r1 e1
  rw [List.append_nil]
  exact ⟨by rw [← r'.length]; exact of_decide_eq_true hl, ds', S', R', r', s', q', k'⟩
/-- the same of a def that makes no text (whatever runs around) -/
structure DFo (P : Program) (w : World) (K : PySem.W.Frag) (mg : Str → Option Value) (base : Heap) (k : Nat) (x : Str) (n : Nat) (r : DRC) : Prop where
  ex : ∃ (f : Addr) (fd : FuncData) (ps : List Str), FnOk P w K mg base CX0 k f fd ps (lP ⟨P, w, K⟩ n r) ∧ mg x = some (.ref f) ∧ PySem.W.keepIn K (.ref f) = true ∧ Binds K fd ps []
theorem de_callo {k n : Nat} {r : DRC} {x : Str} {p : Pos} (F : DFo X.prog X.w X.K X.mg X.base k x n r) (hr : Room k X.A) (hg : Gl X x) (ha : DA X (e :: es) tl) (hdb : (x == ("__debug__" : Str)) = false := by decide)
    (he : starEach (e :: es) X.env = (false, eval e X.env) :: starEach es X.env := by rfl) (hpl : (backTo pos (starEach es X.env)).any (·.1) = false := by rfl) : DE X (.Call (.Name x p) (e :: es) [] pos) (dCall n r tl) := by
  obtain ⟨f, fd, ps, F, hm, hk, hb⟩ := F.ex
  refine ⟨(pe_call F hr hg hm hk hb .nil (E := fun _ _ _ => False) pass0 ha.run hdb he hpl).of fun σ H Q h => ?_⟩
  obtain ⟨env, S, R, rs, h, k⟩ := lC_of h
  refine ⟨env, S, R, rs, h, fun ds S1 vs H1 q s1 r1 e1 => ?_⟩
  obtain ⟨ds', S', R', r', s', ⟨hl, q'⟩, k'⟩ := k ds S1 vs H1 q s1 r1 e1
  rw [List.append_nil]
  exact ⟨by rw [← r'.length]; exact of_decide_eq_true hl, ds', S', R', r', s', q', k'⟩
/-- .. of a def with a star: its values behind one another -/
structure DFs (P : Program) (w : World) (K : PySem.W.Frag) (mg : Str → Option Value) (base : Heap) (k : Nat) (x : Str) (r : DRC) : Prop where
  ex : ∃ f : Addr, FnR P w K mg base CX0 k f (fun vs H Q _ => lC ⟨P, w, K⟩ r vs H Q) ∧ mg x = some (.ref f) ∧ PySem.W.keepIn K (.ref f) = true
theorem de_callS {k : Nat} {r : DRC} {x : Str} {p : Pos} (F : DFs X.prog X.w X.K X.mg X.base k x r) (hr : Room k X.A) (hg : Gl X x) (ha : DA X (e :: es) tl) (hdb : (x == ("__debug__" : Str)) = false := by decide)
    (he : starEach (e :: es) X.env = (false, eval e X.env) :: starEach es X.env := by rfl) (hpl : (backTo pos (starEach es X.env)).any (·.1) = false := by rfl) : DE X (.Call (.Name x p) (e :: es) [] pos) (dCB r tl) := by
  obtain ⟨f, F, hm, hk⟩ := F.ex
  exact ⟨(pe_callN F hr hk hg hm (E := fun _ _ _ => False) pass0 ha.run hdb he hpl).of fun σ H Q h => lC_of h⟩
abbrev DRM := D → List D → Sto → DK → Prop
def lM (K : KK) (r : DRM) : V → List V → Hp → VK → Prop := fun x vs H Q => ∃ d ds S R, RD K H d x ∧ RDs K H ds vs ∧ RelS K S H ∧ r d ds S R ∧ ∀ z S' v H', R z S' → RelS K S' H' → RD K H' z v → Ext H H' → Q v H'
end
section
variable {X : Cx} {st : Stmt} {rest : List Stmt} {t u : DTS} {e : Expr} {te : DTE} {pos : Pos}
def dNext : DTS := fun C env S => C.nx env S
def dSeq (t u : DTS) : DTS := fun C env S => t { C with nx := u C } env S
theorem dss_nil : DSs X [] dNext := ⟨pss_nil.of fun σ H B ⟨env, S, C, rs, q, k, _⟩ => k _ _ _ _ q rs (.refl H)⟩
theorem lS_seq {K : KK} {σ : L2.St} {H : Hp} {B : Ends} (h : lS K (dSeq t u) B σ H) : tSeq (lS K t) (lS K u) B σ H := by
  obtain ⟨env, S, C, rs, h, k1, k2, k3, k4⟩ := h
  refine ⟨env, S, _, rs, h, fun env1 S1 σ1 H1 q r1 e1 => ⟨env1, S1, C, r1, q, ?_, ?_, ?_, ?_⟩, k2, k3, k4⟩
  · exact fun env2 S2 σ2 H2 q2 r2 e2 => k1 _ _ _ _ q2 r2 (e1.trans e2)
  · exact fun d S2 v H2 q2 s2 r2 e2 => k2 _ _ _ _ q2 s2 r2 (e1.trans e2)
  · exact fun env2 S2 σ2 H2 q2 r2 e2 => k3 _ _ _ _ q2 r2 (e1.trans e2)
  · exact fun env2 S2 σ2 H2 q2 r2 e2 => k4 _ _ _ _ q2 r2 (e1.trans e2)
theorem dss_cons (h1 : DS X st t) (h2 : DSs X rest u) : DSs X (st :: rest) (dSeq t u) := ⟨(pss_cons h1.run h2.run).of fun _ _ _ => lS_seq⟩
theorem dss_one (h1 : DS X st t) : DSs X [st] t := ⟨pss_one h1.run⟩
def dDrop (te : DTE) : DTS := fun C env S => te env S fun _ S1 => C.nx env S1
theorem ds_expr (he : DE X e te) (hs : swapsWith e none pos.line X.env = pure false := by rfl) : DS X (.Expr e pos) (dDrop te) :=
  ⟨(ps_expr he.run hs).of fun σ H B ⟨env, S, C, rs, h, k, _⟩ => ⟨env, S, _, rs, h, fun d S1 v H1 q s1 r1 e1 => k _ _ _ _ q (rs.ext e1 s1) e1⟩⟩
def dRet (te : DTE) : DTS := fun C env S => te env S C.rt
theorem ds_ret (he : DE X e te) : DS X (.Return (some e) pos) (dRet te) :=
  ⟨(ps_ret he.run).of fun σ H B ⟨env, S, C, rs, h, _, k, _⟩ => ⟨env, S, _, rs, h, fun d S1 v H1 q s1 r1 e1 => k _ _ _ _ q s1 r1 e1⟩⟩
/-- ways behind a first step -/
theorem lS_go {K : KK} {σ : L2.St} {H H1 : Hp} {B : Ends} {C : DEnds} {env : Env} {S1 : Sto} (rs : RS K σ H1 env S1) (e1 : Ext H H1) (q : t C env S1)
    (k : (∀ env' S' σ' H', C.nx env' S' → RS K σ' H' env' S' → Ext H H' → B.nx σ' H') ∧ (∀ d S' v H', C.rt d S' → RelS K S' H' → RD K H' d v → Ext H H' → B.rt v H') ∧
      (∀ env' S' σ' H', C.bk env' S' → RS K σ' H' env' S' → Ext H H' → B.bk σ' H') ∧ (∀ env' S' σ' H', C.ct env' S' → RS K σ' H' env' S' → Ext H H' → B.ct σ' H')) : lS K t B σ H1 :=
  ⟨env, S1, C, rs, q, fun _ _ _ _ q r e => k.1 _ _ _ _ q r (e1.trans e), fun _ _ _ _ q s r e => k.2.1 _ _ _ _ q s r (e1.trans e), fun _ _ _ _ q r e => k.2.2.1 _ _ _ _ q r (e1.trans e), fun _ _ _ _ q r e => k.2.2.2 _ _ _ _ q r (e1.trans e)⟩
def dIfS (c : DTT) (t u : DTS) : DTS := fun C env S => c env S fun b S1 => if b = true then t C env S1 else u C env S1
theorem ds_if {c : Expr} {a b : List Stmt} {tc : DTT} (hc : DT X c tc) (ha : DSs X a t) (hb : DSs X b u) : DS X (.If c a b pos) (dIfS tc t u) := by
  refine ⟨(ps_if hc.run ha.run hb.run).of fun σ H B ⟨env, S, C, rs, h, k⟩ => ⟨env, S, _, rs, h, fun c S1 H1 q s1 e1 => ?_⟩⟩
  cases c with
  | true => exact lS_go (rs.ext e1 s1) e1 q k
  | false => exact lS_go (rs.ext e1 s1) e1 q k
def RDw (K : KK) (b : Bool) (H : Hp) (d : D) (v : V) : Prop := RD K H d v ∨ (b = false ∧ ∃ a ds vs, d = .tup ds ∧ v = .ref a ∧ SqT K.k H a vs ∧ RDs K H ds vs)
abbrev DTG := D → Env → Sto → (Env → Sto → Prop) → Prop
abbrev DTGs := List D → Env → Sto → (Env → Sto → Prop) → Prop
def Off (vs : List Nat) (σ σ' : L2.St) : Prop := σ'.length = σ.length ∧ ∀ i, i ∉ vs → σ'[i]? = σ[i]?
theorem Off.refl (vs : List Nat) (σ : L2.St) : Off vs σ σ := ⟨rfl, fun _ _ => rfl⟩
theorem Off.trans {vs : List Nat} {σ σ1 σ2 : L2.St} (x : Off vs σ σ1) (y : Off vs σ1 σ2) : Off vs σ σ2 := ⟨y.1.trans x.1, fun i h => (y.2 i h).trans (x.2 i h)⟩
theorem Off.mono {vs us : List Nat} {σ σ' : L2.St} (x : Off vs σ σ') (h : ∀ i ∈ vs, i ∈ us) : Off us σ σ' := ⟨x.1, fun i hi => x.2 i fun z => hi (h i z)⟩
def lG (K : KK) (b : Bool) (vs : List Nat) (g : DTG) : TG := fun v σ H Q => ∃ d env S R, RDw K b H d v ∧ RS K σ H env S ∧ g d env S R ∧ ∀ env' S' σ' H', R env' S' → RS K σ' H' env' S' → Ext H H' → Off vs σ σ' → Q σ' H'
def lGs (K : KK) (vs : List Nat) (g : DTGs) : TGs := fun us σ H Q => ∃ ds env S R, RDs K H ds us ∧ RS K σ H env S ∧ g ds env S R ∧ ∀ env' S' σ' H', R env' S' → RS K σ' H' env' S' → Ext H H' → Off vs σ σ' → Q σ' H'
structure DG (X : Cx) (b : Bool) (vs : List Nat) (tg : Expr) (g : DTG) : Prop where
  run : PG X tg (lG X.kk b vs g)
structure DGs (X : Cx) (vs : List Nat) (ts : List Expr) (g : DTGs) : Prop where
  run : PGs X ts (lGs X.kk vs g)
theorem _root_.L2.PG.of {tg : Expr} {t t' : TG} (h : PG X tg t) (q : ∀ v σ H Q, t' v σ H Q → t v σ H Q) : PG X tg t' := ⟨fun pins s σ H v u Q I r w => h.run pins s σ H v u Q I r (q v σ H Q w)⟩
theorem _root_.L2.PG.or {tg : Expr} {t t' : TG} (h : PG X tg t) (h' : PG X tg t') : PG X tg (fun v σ H Q => t v σ H Q ∨ t' v σ H Q) := ⟨fun pins s σ H v u Q I r w => w.elim (h.run pins s σ H v u Q I r) (h'.run pins s σ H v u Q I r)⟩
theorem _root_.L2.PGs.of {ts : List Expr} {t t' : TGs} (h : PGs X ts t) (q : ∀ v σ H Q, t' v σ H Q → t v σ H Q) : PGs X ts t' := ⟨fun pins s σ H v u Q I r w => h.run pins s σ H v u Q I r (q v σ H Q w)⟩
def dgName (i : Nat) : DTG := fun d env S R => R (env.set i (some d)) S
theorem dg_name {i : Nat} {x : Str} (hN : X.N.Nodup) (hi : X.N[i]? = some x) (hx : Loc X.env.scope x) (hf : X.fn x = true ∨ X.env.scope.names.lookup x = some .local := by first | exact .inl rfl | exact .inr rfl | assumption) : DG X true [i] (.Name x pos) (dgName i) := by
  refine ⟨(pg_name hN hi hx hf).of fun v σ H Q ⟨d, env, S, R, rw', rs, q, k⟩ => ?_⟩
  rcases rw' with r | ⟨z, _⟩
  · exact k _ _ _ _ q (rs.set i r) (.refl H) ⟨List.length_set, fun j hj => List.getElem?_set_ne fun z => hj (by rw [z]; exact List.mem_singleton_self _)⟩
  · cases z
def dgNil : DTGs := fun ds env S R => ds = [] ∧ R env S
def dgCons (g : DTG) (gs : DTGs) : DTGs := fun ds env S R => ∃ d r, ds = d :: r ∧ g d env S fun env' S' => gs r env' S' R
theorem dgs_nil : DGs X [] [] dgNil := ⟨pgs_nil.of fun us σ H Q ⟨ds, env, S, R, r, rs, ⟨e, q⟩, k⟩ => by
  subst e
  cases r
  exact ⟨rfl, k _ _ _ _ q rs (.refl H) (.refl _ _)⟩⟩
theorem dgs_cons {e : Expr} {es : List Expr} {vs us : List Nat} {g : DTG} {gs : DTGs} (h1 : DG X true vs e g) (h2 : DGs X us es gs)
    (hs : (assignEach (e :: es) X.env).map (·.2) = assign e X.env :: (assignEach es X.env).map (·.2) := by rfl) : DGs X (vs ++ us) (e :: es) (dgCons g gs) := by
  refine ⟨(pgs_cons h1.run h2.run hs).of fun ws σ H Q ⟨ds, env, S, R, r, rs, ⟨d, r', e, q⟩, k⟩ => ?_⟩
  subst e
  cases r with
  | cons r1 rr =>
    refine ⟨_, _, rfl, d, env, S, _, .inl r1, rs, q, fun env1 S1 σ1 H1 q1 rs1 e1 o1 => ⟨r', env1, S1, R, rr.ext e1, rs1, q1, fun env2 S2 σ2 H2 q2 rs2 e2 o2 => ?_⟩⟩
    exact k _ _ _ _ q2 rs2 (e1.trans e2) ((o1.mono fun i h => List.mem_append_left _ h).trans (o2.mono fun i h => List.mem_append_right _ h))
/-- the items of a tuple or of a list -/
def dUnp (n : Nat) (gs : DTGs) : DTG := fun d env S R => ∃ ds, ds.length = n ∧ ((d = .tup ds ∨ d = .wtup ds) ∨ ∃ a, d = .ref a ∧ S a = some (.lst ds)) ∧ gs ds env S R
theorem dg_tup {es : List Expr} {k n : Nat} {b : Bool} {vs : List Nat} {gs : DTGs} (hc : X.calm = true) (h : DGs X vs es gs)
    (hn : (assignEach es X.env).length = n := by rfl) (hst : (assignEach es X.env).findIdx? (·.1) = none := by rfl) : DG X b vs (.Tuple es k pos) (dUnp n gs) := by
  refine ⟨((pg_tup hc h.run hn hst).or (pg_unl hc h.run hn hst)).of fun v σ H Q ⟨d, env, S, R, r, rs, ⟨ds, hl, e, q⟩, k⟩ => ?_⟩
  rcases e with (rfl | rfl) | ⟨a, rfl, e⟩
  · rcases r with r | ⟨_, a, ds', vs', z, rfl, ht, r⟩
    · cases r with
      | tup ht r => exact .inl ⟨_, _, rfl, ht.sqT, r.length.symm.trans hl, ds, env, S, R, r, rs, q, k⟩
    · cases z
      exact .inl ⟨a, vs', rfl, ht, r.length.symm.trans hl, ds, env, S, R, r, rs, q, k⟩
  · rcases r with r | ⟨_, a, ds', vs', z, rfl, ht, r⟩
    · cases r with
      | wtup ht r => exact .inl ⟨_, _, rfl, .of ht, r.length.symm.trans hl, ds, env, S, R, r, rs, q, k⟩
    · cases z
  · rcases r with r | ⟨_, a, ds', vs', z, rfl, ht, r⟩
    · cases r
      obtain ⟨vs', h1, r⟩ := rs.sto.lst e
      exact .inr ⟨_, _, rfl, .of h1, r.length.symm.trans hl, ds, env, S, R, r, rs, q, k⟩
    · cases z
/-- target = e -/
def dAsg (te : DTE) (g : DTG) : DTS := fun C env S => te env S fun d S1 => g d env S1 C.nx
theorem lS_asg {K : KK} {b : Bool} {vs : List Nat} {g : DTG} {σ : L2.St} {H : Hp} {B : Ends} (h : lS K (dAsg te g) B σ H) : tAsg (lE K te) (lG K b vs g) B σ H := by
  obtain ⟨env, S, C, rs, h, k, _⟩ := h
  exact ⟨env, S, _, rs, h, fun d S1 v H1 q s1 r1 e1 => ⟨d, env, S1, C.nx, .inl r1, rs.ext e1 s1, q, fun _ _ _ _ q r e _ => k _ _ _ _ q r (e1.trans e)⟩⟩
theorem ds_asg {tg : Expr} {b : Bool} {vs : List Nat} {g : DTG} (he : DE X e te) (hg : DG X b vs tg g) (hs : swapsWithSole [tg] e pos.line X.env = pure false := by rfl) (hw : swappedStores [tg] e X.env = pure none := by rfl)
    (h1 : (assignEach [tg] X.env).map (·.2) = [assign tg X.env] := by rfl) : DS X (.Assign [tg] e pos) (dAsg te g) := ⟨(ps_asg he.run hg.run hs hw h1).of fun _ _ _ => lS_asg⟩
theorem ds_set {i : Nat} {x : Str} {pos' : Pos} (hN : X.N.Nodup) (hi : X.N[i]? = some x) (hx : Loc X.env.scope x) (he : DE X e te) (hs : swapsWith e (some (.Name x pos')) pos.line X.env = pure false := by rfl) (hf : X.fn x = true ∨ X.env.scope.names.lookup x = some .local := by first | exact .inl rfl | exact .inr rfl | assumption) :
    DS X (.Assign [.Name x pos'] e pos) (dAsg te (dgName i)) :=
  ⟨(ps_set hN hi hx he.run hs hf).of fun σ H B ⟨env, S, C, rs, h, k, _⟩ => ⟨env, S, _, rs, h, fun d S1 v H1 q s1 r1 e1 => k _ _ _ _ q ((rs.ext e1 s1).set i r1) e1⟩⟩
/-- two local names at once -/
theorem ds_par {i j : Nat} {x y : Str} {a b : Expr} {ta : DTA} {px py pt : Pos} {kt k2 pt2} (hc : X.calm = true) (hN : X.N.Nodup) (hi : X.N[i]? = some x) (hj : X.N[j]? = some y) (hij : i ≠ j)
    (hx : X.env.scope.names.lookup x = some .local) (hy : X.env.scope.names.lookup y = some .local) (ha : DA X [a, b] ta)
    (hw : swappedStores [.Tuple [.Name x px, .Name y py] kt pt] (.Tuple [a, b] k2 pt2) X.env = pure (some [x, y]))
    (hs : swapsWithSole [.Tuple [.Name x px, .Name y py] kt pt] (.Tuple [a, b] k2 pt2) pos.line X.env = pure false := by rfl) :
    DS X (.Assign [.Tuple [.Name x px, .Name y py] kt pt] (.Tuple [a, b] k2 pt2) pos) (dAsg (dTup ta) (dUnp 2 (dgCons (dgName i) (dgCons (dgName j) dgNil)))) := by
  refine ⟨(ps_par hc hN hi hj hij hx hy ha.run hw hs).of fun σ H B ⟨env, S, C, rs, h, k, _⟩ => ⟨env, S, _, rs, h, fun ds S1 vs H1 ⟨_, ds', hl, hd, q⟩ s1 r1 e1 => ?_⟩⟩
  have hdd : ds = ds' := by
    rcases hd with (z | z) | ⟨a, z, _⟩
    · cases z; rfl
    · cases z
    · cases z
  subst hdd
  obtain ⟨d1, r', rfl, d2, r'', rfl, rfl, q⟩ := q
  obtain ⟨v, u, rfl, rv, ru⟩ := r1.inv2
  exact ⟨v, u, rfl, k _ _ _ _ q (((rs.ext e1 s1).set i rv).set j ru) e1⟩
/-- name op= e -/
def dAug (i : Nat) (te : DTE) (r : DR2) : DTS := fun C env S => ∃ d, env[i]? = some (some d) ∧ te env S fun y S1 => r d y S1 fun z S2 => C.nx (env.set i (some z)) S2
theorem ds_aug {i : Nat} {x : Str} {op : Operator} {r : DR2} {pos' : Pos} (hN : X.N.Nodup) (hi : X.N[i]? = some x) (hx : Loc X.env.scope x) (ho : PIp X op (l2 X.kk r)) (he : DE X e te) (hf : X.fn x = true ∨ X.env.scope.names.lookup x = some .local := by first | exact .inl rfl | exact .inr rfl | assumption) :
    DS X (.AugAssign (.Name x pos') op e pos) (dAug i te r) := by
  refine ⟨(ps_aug hN hi hx he.run ho hf).of fun σ H B ⟨env, S, C, rs, ⟨d, hd, h⟩, k, _⟩ => ?_⟩
  obtain ⟨v, hv, rv⟩ := rs.slot i d hd
  exact ⟨v, hv, env, S, _, rs, h, fun y S1 u H1 q s1 r1 e1 => ⟨d, y, S1, _, rv.ext e1, r1, s1, q, fun z S2 w H2 q2 s2 r2 e2 => k _ _ _ _ q2 ((rs.ext (e1.trans e2) s2).set i r2) (e1.trans e2)⟩⟩
end
section
variable {X : Cx} {pos : Pos}
def dWhile (c : DTT) (tb : DTS) : DTS := fun C env S => ∃ W : Nat → Env → Sto → Prop, (∃ m, W m env S) ∧ ∀ m env S, W m env S →
  c env S fun b S1 => if b = true then tb { C with nx := fun env' S' => ∃ m', m' < m ∧ W m' env' S', ct := fun env' S' => ∃ m', m' < m ∧ W m' env' S', bk := C.nx } env S1 else C.nx env S1
theorem ds_while {c : Expr} {body : List Stmt} {tc : DTT} {tb : DTS} (hp : PassesOwn (model X.prog X.w) X.A X.env X.xe) (hc : DT X c tc) (hb : DSs X body tb) : DS X (.While c body [] pos) (dWhile tc tb) := by
  refine ⟨(ps_while hp hc.run hb.run).of fun σ H B ⟨env, S, C, rs, ⟨W, ⟨m0, w0⟩, turn⟩, k1, k2, _⟩ => ?_⟩
  refine ⟨fun m σ' H' => ∃ env' S', RS X.kk σ' H' env' S' ∧ Ext H H' ∧ W m env' S', ⟨m0, env, S, rs, .refl H, w0⟩, ?_⟩
  rintro m σ1 H1 ⟨env1, S1, rs1, e1, w1⟩
  refine ⟨env1, S1, _, rs1, turn m env1 S1 w1, fun b S2 H2 q s2 e2 => ?_⟩
  cases b with
  | false => exact k1 _ _ _ _ q (rs1.ext e2 s2) (e1.trans e2)
  | true =>
    refine ⟨fun σ' H' => ∃ m', m' < m ∧ ∃ env' S', RS X.kk σ' H' env' S' ∧ Ext H H' ∧ W m' env' S', fun σ' H' h => h, env1, S2, _, rs1.ext e2 s2, q, ?_, ?_, ?_, ?_⟩
    · rintro env' S' σ' H' ⟨m', hm, w'⟩ rs' e'
      exact ⟨m', hm, env', S', rs', e1.trans (e2.trans e'), w'⟩
    · exact fun d S' v H' q' s' r' e' => k2 _ _ _ _ q' s' r' (e1.trans (e2.trans e'))
    · exact fun env' S' σ' H' q' r' e' => k1 _ _ _ _ q' r' (e1.trans (e2.trans e'))
    · rintro env' S' σ' H' ⟨m', hm, w'⟩ rs' e'
      exact ⟨m', hm, env', S', rs', e1.trans (e2.trans e'), w'⟩
/-- what is walked: its items, and what must hold of the store at each turn -/
structure Src where
  items : List D
  live : Sto → Prop := fun _ => True
abbrev DTI := Env → Sto → (Src → Sto → Prop) → Prop
structure Steps (K : KK) (b : Bool) (H0 : Hp) (J : It) (w : Src) : Prop where
  ex : ∃ (G : Hp → Prop) (Y : Nat → Hp → V → Hp → Prop), Walk J w.items.length G Y ∧ (∀ H S, Ext H0 H → RelS K S H → w.live S → G H) ∧
    ∀ i H x H', Ext H0 H → Y i H x H' → Ext H H' ∧ (∀ S, RelS K S H → RelS K S H') ∧ ∃ d, w.items[i]? = some d ∧ RDw K b H' d x
def lI (K : KK) (b : Bool) (t : DTI) : TI := fun σ H R => ∃ env S R0, RS K σ H env S ∧ t env S R0 ∧ ∀ w S' J H', R0 w S' → RelS K S' H' → Ext H H' → Steps K b H' J w → R J H'
structure DI (X : Cx) (b : Bool) (tg e : Expr) (t : DTI) : Prop where
  run : PI X tg e (lI X.kk b t)
theorem _root_.L2.PI.of {tg e : Expr} {t t' : TI} (h : PI X tg e t) (q : ∀ σ H R, t' σ H R → t σ H R) : PI X tg e t' := ⟨fun pins s σ H R I w => h.run pins s σ H R I (q σ H R w)⟩
theorem _root_.L2.PI.or {tg e : Expr} {t t' : TI} (h : PI X tg e t) (h' : PI X tg e t') : PI X tg e (fun σ H R => t σ H R ∨ t' σ H R) := ⟨fun pins s σ H R I w => w.elim (h.run pins s σ H R I) (h'.run pins s σ H R I)⟩
def dFor (ti : DTI) (g : DTG) (tb : DTS) : DTS := fun C env S => ti env S fun w S1 => ∃ Pv : Nat → Env → Sto → Prop, Pv 0 env S1 ∧ (∀ i env S, i ≤ w.items.length → Pv i env S → w.live S) ∧
  (∀ i d env S, w.items[i]? = some d → Pv i env S → g d env S fun env' S' => tb { C with nx := Pv (i + 1), ct := Pv (i + 1), bk := C.nx } env' S') ∧ ∀ env S, Pv w.items.length env S → C.nx env S
theorem ds_for {tg iter : Expr} {b : Bool} {vs : List Nat} {body : List Stmt} {ti : DTI} {g : DTG} {tb : DTS} (hp : PassesOwn (model X.prog X.w) X.A X.env X.xe) (hc : X.calm = true) (hi : DI X b tg iter ti) (hg : DG X b vs tg g) (hb : DSs X body tb)
    (hs : ∀ x, foldedSetIterable iter X.env x = pure x := by intro _; rfl) : DS X (.For tg iter body [] pos) (dFor ti g tb) := by
  refine ⟨(ps_for hp hc hi.run hg.run hb.run hs).of fun σ H B ⟨env, S, C, rs, h, k1, k2, _⟩ => ⟨env, S, _, rs, h, fun w S1 J H1 ⟨Pv, p0, lv, step, done⟩ s1 e1 st => ?_⟩⟩
  obtain ⟨G, Y, wk, hG, hY⟩ := st.ex
  refine for_it wk (fun i σ' H' => ∃ env' S', RS X.kk σ' H' env' S' ∧ Ext H1 H' ∧ Pv i env' S') ⟨env, S1, rs.ext e1 s1, .refl H1, p0⟩ (fun i σ' H' hi ⟨env', S', rs', e', p'⟩ => hG H' S' e' rs'.sto (lv i env' S' hi p')) ?_ ?_
  · rintro i x σ2 H2 H3 hi ⟨env2, S2, rs2, e2, p2⟩ y
    obtain ⟨e3, hS, d, hd, rd⟩ := hY i H2 x H3 e2 y
    refine ⟨d, env2, S2, _, rd, rs2.ext e3 (hS S2 rs2.sto), step i d env2 S2 hd p2, fun env4 S4 σ4 H4 q4 rs4 e4 _ => ⟨env4, S4, _, rs4, q4, ?_, ?_, ?_, ?_⟩⟩
    · exact fun env' S' σ' H' q' rs' e' => ⟨env', S', rs', e2.trans (e3.trans (e4.trans e')), q'⟩
    · exact fun d S' v H' q' s' r' e' => k2 _ _ _ _ q' s' r' (e1.trans (e2.trans (e3.trans (e4.trans e'))))
    · exact fun env' S' σ' H' q' rs' e' => k1 _ _ _ _ q' rs' (e1.trans (e2.trans (e3.trans (e4.trans e'))))
    · exact fun env' S' σ' H' q' rs' e' => ⟨env', S', rs', e2.trans (e3.trans (e4.trans e')), q'⟩
  · rintro σ2 H2 ⟨env2, S2, rs2, e2, p2⟩
    exact k1 _ _ _ _ (done env2 S2 p2) rs2 (e1.trans e2)
end
end Sv
namespace Sv
open PySem PySem.Spec PyProof.Rows L2
section
variable {X : Cx} {tg e : Expr} {te : DTE} {pos p : Pos}
/-- a tuple or a list, as it comes -/
def iVal (K : PySem.W.Frag) (tl : TE) : TI := fun σ H R => tl σ H fun x H1 => ∃ a, x = .ref a ∧ (((∃ xs, SqL K H1 a xs) ∧ R (Itl K a) H1) ∨ ((∃ xs, SqT K H1 a xs) ∧ R (Itt K a) H1))
theorem pi_val {l : Expr} {tl : TE} (hl : PE X l tl) : PI X tg l (iVal X.K tl) := by
  refine ⟨fun pins s σ H R I h => ?_⟩
  refine thn (hl.run pins s σ H _ I h) fun v s1 ⟨x, H1, I1, r1, q1⟩ => ?_
  obtain ⟨a, e, q⟩ := q1
  subst e
  cases r1
  rcases q with ⟨⟨xs, hq⟩, q⟩ | ⟨⟨xs, hq⟩, q⟩
  · obtain ⟨its, rv, p, hz⟩ := I1.list hq
    refine wpAny_pyIter_list p.isList ?_
    refine ⟨s1.heap.objs.size, [s1.heap.objs.size], _, _, H1, rfl, I1.kept (t' := s1.toks) fun b o e => Heap.get?_push_of_some _ e, turn_list a _, ⟨_, Heap.get?_push_size _ rfl, rfl, rfl⟩, fun b hb => ?_, q⟩
    have e : b = s1.heap.objs.size := by simpa using hb
    subst e
    exact I1.fpOk (Nat.le_refl _) (I1.hok.fresh (Nat.le_refl _))
  · obtain ⟨its, rv, p, hz⟩ := I1.tuple hq
    refine wpAny_pyIter_tuple (show s1.heap.IsTuple a its.toArray from p) ?_
    refine ⟨s1.heap.objs.size, [s1.heap.objs.size], _, _, H1, rfl, I1.kept (t' := s1.toks) fun b o e => Heap.get?_push_of_some _ e, turn_tuple a _, ⟨_, Heap.get?_push_size _ rfl, rfl, rfl⟩, fun b hb => ?_, q⟩
    have e : b = s1.heap.objs.size := by simpa using hb
    subst e
    exact I1.fpOk (Nat.le_refl _) (I1.hok.fresh (Nat.le_refl _))
/-- the items of a value, with what must stay -/
def Items (S : Sto) (d : D) (w : Src) : Prop := match d with
  | .tup ds => w = ⟨ds, fun _ => True⟩
  | .rol ds => w = ⟨ds, fun _ => True⟩
  | .wtup ds => w = ⟨ds, fun _ => True⟩
  | .ref a => ∃ ds, S a = some (.lst ds) ∧ w = ⟨ds, fun S' => S' a = some (.lst ds)⟩
  | _ => False
def diVal (te : DTE) : DTI := fun env S R => te env S fun d S1 => ∃ w, Items S1 d w ∧ R w S1
theorem steps_list {K : KK} {H0 : Hp} {a : Addr} {ds : List D} {lv : Sto → Prop} (h : ∀ H S, Ext H0 H → RelS K S H → lv S → ∃ vs, SqL K.k H a vs ∧ RDs K H ds vs) : Steps K true H0 (Itl K.k a) ⟨ds, lv⟩ := by
  refine ⟨fun H => ∃ vs, SqL K.k H a vs ∧ RDs K H ds vs, fun i H x H' => H' = H ∧ ∃ vs, RDs K H ds vs ∧ vs[i]? = some x, ⟨fun i H hi ⟨vs, h1, r⟩ => ?_, fun H ⟨vs, h1, r⟩ => ⟨vs, h1, by rw [← r.length]; exact Nat.le_refl _⟩, fun i H x H' hi ⟨vs, h1, r⟩ y => ⟨y.1, vs, r, y.2 vs h1⟩⟩, h, ?_⟩
  · have : i < vs.length := by rw [← r.length]; exact hi
    exact ⟨vs, vs[i], h1, by simp [this]⟩
  · rintro i H x H' e ⟨rfl, vs, r, hx⟩
    obtain ⟨d, h1, h2⟩ := r.atv hx
    exact ⟨.refl _, fun S s => s, d, h1, .inl h2⟩
theorem steps_tup {K : KK} {H0 : Hp} {a : Addr} {ds : List D} {vs : List V} (h : ∀ H, Ext H0 H → SqT K.k H a vs) (r : RDs K H0 ds vs) : Steps K true H0 (Itt K.k a) ⟨ds, fun _ => True⟩ := by
  refine ⟨fun H => SqT K.k H a vs, fun i H x H' => H' = H ∧ vs[i]? = some x, ?_, fun H S e _ _ => h H e, ?_⟩
  · have w := walk_tup (K := K.k) (a := a) (xs := vs)
    rw [← r.length] at w
    exact w
  · rintro i H x H' e ⟨rfl, hx⟩
    obtain ⟨d, h1, h2⟩ := (r.ext e).atv hx
    exact ⟨.refl _, fun S s => s, d, h1, .inl h2⟩
theorem di_val (he : DE X e te) : DI X true tg e (diVal te) := by
  refine ⟨(pi_val he.run).of fun σ H R ⟨env, S, R0, rs, h, k⟩ => ⟨env, S, _, rs, h, fun d S1 v H1 ⟨w, hw, q⟩ s1 r1 e1 => ?_⟩⟩
  cases r1 with
  | tup ht r =>
    cases (show w = ⟨_, _⟩ from hw)
    exact ⟨_, rfl, .inr ⟨⟨_, ht.sqT⟩, k _ _ _ _ q s1 e1 (steps_tup (fun H e => (ht.ext e).sqT) r)⟩⟩
  | wtup ht r =>
    cases (show w = ⟨_, _⟩ from hw)
    exact ⟨_, rfl, .inr ⟨⟨_, .of ht⟩, k _ _ _ _ q s1 e1 (steps_tup (fun H e => .of (e.2 _ _ ht)) r)⟩⟩
  | rol ht r =>
    cases (show w = ⟨_, _⟩ from hw)
    exact ⟨_, rfl, .inl ⟨⟨_, ht.sqL⟩, k _ _ _ _ q s1 e1 (steps_list fun H S e _ _ => ⟨_, (ht.ext e).sqL, r.ext e⟩)⟩⟩
  | ref a =>
    obtain ⟨ds, hs, rfl⟩ := hw
    obtain ⟨vs, h1, r⟩ := s1.lst hs
    refine ⟨_, rfl, .inl ⟨⟨_, .of h1⟩, k _ _ _ _ q s1 e1 (steps_list fun H S e s l => ?_)⟩⟩
    obtain ⟨vs', h2, r'⟩ := s.lst l
    exact ⟨vs', .of h2, r'⟩
  | _ => exact hw.elim
/-- range -/
def rgD (lo : Int) (n : Nat) : List D := (List.range n).map fun i => .int (lo + (i : Nat))
theorem steps_range {K : KK} {H0 : Hp} {lo : Int} {n : Nat} : Steps K true H0 (Itr lo n) ⟨rgD lo n, fun _ => True⟩ := by
  refine ⟨fun _ => True, fun i H x H' => i < n ∧ H' = H ∧ x = .int (lo + i), ?_, fun _ _ _ _ _ => trivial, ?_⟩
  · have w := walk_range (lo := lo) (n := n)
    have : (rgD lo n).length = n := by simp [rgD]
    rw [this]
    exact ⟨w.goes, w.stops, fun i H x H' hi g y => ⟨hi, w.yields i H x H' hi g y⟩⟩
  · rintro i H x H' e ⟨hi, rfl, rfl⟩
    refine ⟨.refl _, fun S s => s, .int (lo + i), ?_, .inl (.int _)⟩
    show (rgD lo n)[i]? = _
    rw [rgD, List.getElem?_map, List.getElem?_range hi]
    rfl
def diRg1 (ta : DTA) : DTI := fun env S R => ta env S fun ds S1 => ∃ n : Int, ds = [.int n] ∧ -(2 ^ 62) ≤ n ∧ n < 2 ^ 62 ∧ R ⟨rgD 0 n.toNat, fun _ => True⟩ S1
theorem di_rg1 {ta : DTA} (hg : Gl X "range") (hm : X.mg "range" = none) (ha : DA X [e] ta) (hs : starEach [e] X.env = [(false, eval e X.env)] := by rfl) : DI X true tg (.Call (.Name "range" p) [e] [] pos) (diRg1 ta) := by
  refine ⟨(pi_range1 hg hm ha.run hs).of fun σ H R ⟨env, S, R0, rs, h, k⟩ => ⟨env, S, _, rs, h, fun ds S1 vs H1 q s1 r1 e1 => ?_⟩⟩
  obtain ⟨n, rfl, h1, h2, q⟩ := q
  obtain ⟨v, rfl, r⟩ := r1.inv1
  cases r
  exact ⟨n, rfl, h1, h2, k _ _ _ _ q s1 e1 steps_range⟩
theorem rdw_pair {K : KK} {H : Hp} {T : Addr} {d e : D} {x y : V} (n : H T = none) (r1 : RD K H d x) (r2 : RD K H e y) : RDw K false (upd H T (.tup [x, y])) (.tup [d, e]) (.ref T) :=
  .inr ⟨rfl, T, [d, e], [x, y], rfl, rfl, .of upd_same, .cons (r1.ext (.new n)) (.cons (r2.ext (.new n)) .nil)⟩
theorem steps_pair {K : KK} {H0 : Hp} {J : It} {n : Nat} {G : Hp → Prop} {xs ys : Nat → Option V} {ps : List D} {lv : Sto → Prop} (w : Walk J n G (YPair xs ys)) (hn : ps.length = n) (hG : ∀ H S, Ext H0 H → RelS K S H → lv S → G H)
    (hp : ∀ i H x y, i < n → Ext H0 H → G H → xs i = some x → ys i = some y → ∃ d e, ps[i]? = some (.tup [d, e]) ∧ RD K H d x ∧ RD K H e y) : Steps K false H0 J ⟨ps, lv⟩ := by
  subst hn
  refine ⟨G, fun i H x H' => i < ps.length ∧ G H ∧ YPair xs ys i H x H', ⟨w.goes, w.stops, fun i H x H' hi g y => ⟨hi, g, w.yields i H x H' hi g y⟩⟩, hG, ?_⟩
  rintro i H v H' e ⟨hi, g, T, x, y, rfl, nT, rfl, hx, hy⟩
  obtain ⟨d, d', h1, h2, h3⟩ := hp i H x y hi e g hx hy
  exact ⟨.new nT, fun S s => s.new nT, _, h1, rdw_pair nT h2 h3⟩
def enD (ds : List D) : List D := ds.mapIdx fun i d => .tup [.int (i : Nat), d]
theorem enD_at {ds : List D} {i : Nat} {d : D} (h : ds[i]? = some d) : (enD ds)[i]? = some (.tup [.int (i : Nat), d]) := by
  rw [enD, List.getElem?_mapIdx, h]
  rfl
theorem enD_len (ds : List D) : (enD ds).length = ds.length := by simp [enD]
/-- enumerate of a tuple or a list -/
def iEnumA (K : PySem.W.Frag) (ta : TA) : TI := fun σ H R => ta σ H fun vs H1 => ∃ a xs, vs = [.ref a] ∧ ((SqL K H1 a xs ∧ R (Ite K a) H1) ∨ (SqT K H1 a xs ∧ R (Itte K a xs) H1))
theorem pi_enumA {ta : TA} {elts : List Expr} {kk : Nat} {tpos : Pos} (hg : Gl X "enumerate") (hm : X.mg "enumerate" = none) (ha : PA X [e] ta)
    (hs : starEach [e] X.env = [(false, eval e X.env)] := by rfl) : PI X (.Tuple elts kk tpos) (.Call (.Name "enumerate" p) [e] [] pos) (iEnumA X.K ta) := by
  refine ⟨fun pins s σ H R I h => ?_⟩
  refine Call_ (ld_blt I hg hm boot_enumerate (PyProof.Rows.callWith_type1 (thn (ha.run pos pins s σ H _ I h) fun us s1 ⟨vs, H1, I1, r1, q1⟩ => ?_) hs rfl))
  obtain ⟨a, xs, rfl, q⟩ := q1
  obtain ⟨u, rfl, ru⟩ := vals1 r1
  cases ru
  rcases q with ⟨hq, q⟩ | ⟨hq, q⟩
  · obtain ⟨its, rv, p', hz⟩ := I1.list hq
    refine call_enumerate_list p'.isList fun h' he hit hsz hk => wpAny_pyIter_enum he ?_
    have I2 : Inv X pins σ H1 { s1 with heap := h' } := I1.kept (t' := s1.toks) hk
    refine ⟨s1.heap.objs.size + 1, [s1.heap.objs.size + 1, s1.heap.objs.size], _, _, H1, rfl, I2, turn_enum a (s1.heap.objs.size + 1) s1.heap.objs.size, ⟨⟨.none, he⟩, hit, Nat.succ_ne_self _⟩, fun b hb => ?_, q⟩
    have hle : s1.heap.objs.size ≤ b := by
      rcases (show b = s1.heap.objs.size + 1 ∨ b = s1.heap.objs.size by simpa using hb) with rfl | rfl
      · exact Nat.le_succ _
      · exact Nat.le_refl _
    exact I1.fpOk hle (I1.hok.fresh hle)
  · obtain ⟨its, rv, p', hz⟩ := I1.tuple hq
    have hal : a < s1.heap.objs.size := by
      obtain ⟨o, ho, _⟩ := id p'
      exact Heap.lt_size ho
    refine sv_enum_call (begins_tuple a its.toArray) p' fun h' he hit hk => wpAny_pyIter_enum he ?_
    have I2 : Inv X pins σ H1 { s1 with heap := h' } := I1.kept (t' := s1.toks) hk
    refine ⟨s1.heap.objs.size + 1, [s1.heap.objs.size + 1, s1.heap.objs.size], _, _, H1, rfl, I2, turn_etup a (s1.heap.objs.size + 1) s1.heap.objs.size xs,
      ⟨⟨.none, he⟩, ⟨_, hit, rfl, rfl⟩, Nat.succ_ne_self _, Nat.ne_of_lt hal, Nat.ne_of_lt (Nat.lt_succ_of_lt hal)⟩, fun b hb => ?_, q⟩
    have hle : s1.heap.objs.size ≤ b := by
      rcases (show b = s1.heap.objs.size + 1 ∨ b = s1.heap.objs.size by simpa using hb) with rfl | rfl
      · exact Nat.le_succ _
      · exact Nat.le_refl _
    exact I1.fpOk hle (I1.hok.fresh hle)
theorem walk_etup' {K : PySem.W.Frag} {a : Addr} {xs : List V} : Walk (Itte K a xs) xs.length (fun H => SqT K H a xs) (YPair (fun i => some (.int (i : Nat))) (fun i => xs[i]?)) :=
  ⟨fun _ _ hi q => ⟨q, hi⟩, fun _ q => ⟨q, rfl⟩, fun i H v H' _ q y => by
    obtain ⟨T, x, h1, h2, h3, h4⟩ := y
    exact ⟨T, .int (i : Nat), x, h1, h2, h3, rfl, h4⟩⟩
theorem steps_enumL {K : KK} {H0 : Hp} {a : Addr} {ds : List D} {lv : Sto → Prop} (h : ∀ H S, Ext H0 H → RelS K S H → lv S → ∃ vs, SqL K.k H a vs ∧ RDs K H ds vs) : Steps K false H0 (Ite K.k a) ⟨enD ds, lv⟩ := by
  refine ⟨fun H => ∃ vs, SqL K.k H a vs ∧ RDs K H ds vs, fun i H v H' => ∃ T x vs, v = .ref T ∧ H T = none ∧ H' = upd H T (.tup [.int (i : Nat), x]) ∧ RDs K H ds vs ∧ vs[i]? = some x, ⟨fun i H hi ⟨vs, h1, r⟩ => ?_, fun H ⟨vs, h1, r⟩ => ⟨vs, h1, ?_⟩, fun i H v H' hi ⟨vs, h1, r⟩ y => ?_⟩, h, ?_⟩
  · have : i < vs.length := by rw [← r.length, ← enD_len]; exact hi
    exact ⟨vs, vs[i], h1, by simp [this]⟩
  · show vs.length ≤ (enD ds).length
    rw [← r.length, enD_len]
    exact Nat.le_refl _
  · obtain ⟨T, x, h2, h3, h4, h5⟩ := y
    exact ⟨T, x, vs, h2, h3, h4, r, h5 vs h1⟩
  · rintro i H v H' e ⟨T, x, vs, rfl, nT, rfl, r, hx⟩
    obtain ⟨d, h1, h2⟩ := r.atv hx
    exact ⟨.new nT, fun S s => s.new nT, _, enD_at h1, rdw_pair nT (.int _) h2⟩
def diEnum (ta : DTA) : DTI := fun env S R => ta env S fun ds S1 => ∃ d w, ds = [d] ∧ Items S1 d w ∧ R ⟨enD w.items, w.live⟩ S1
theorem di_enum {ta : DTA} {elts : List Expr} {kk : Nat} {tpos : Pos} (hg : Gl X "enumerate") (hm : X.mg "enumerate" = none) (ha : DA X [e] ta) (hs : starEach [e] X.env = [(false, eval e X.env)] := by rfl) :
    DI X false (.Tuple elts kk tpos) (.Call (.Name "enumerate" p) [e] [] pos) (diEnum ta) := by
  refine ⟨(pi_enumA hg hm ha.run hs).of fun σ H R ⟨env, S, R0, rs, h, k⟩ => ⟨env, S, _, rs, h, fun ds S1 vs H1 ⟨d, w, hd, hw, q⟩ s1 r1 e1 => ?_⟩⟩
  subst hd
  obtain ⟨v, rfl, r⟩ := r1.inv1
  cases r with
  | tup ht r =>
    cases (show w = ⟨_, _⟩ from hw)
    refine ⟨_, _, rfl, .inr ⟨ht.sqT, k _ _ _ _ q s1 e1 (steps_pair walk_etup' (by rw [enD_len, r.length]) (fun H S e _ _ => (ht.ext e).sqT) fun i H x y hi e g hx hy => ?_)⟩⟩
    cases hx
    obtain ⟨d, h1, h2⟩ := (r.ext e).atv hy
    exact ⟨_, _, enD_at h1, .int _, h2⟩
  | wtup ht r =>
    cases (show w = ⟨_, _⟩ from hw)
    refine ⟨_, _, rfl, .inr ⟨.of ht, k _ _ _ _ q s1 e1 (steps_pair walk_etup' (by rw [enD_len, r.length]) (fun H S e _ _ => .of (e.2 _ _ ht)) fun i H x y hi e g hx hy => ?_)⟩⟩
    cases hx
    obtain ⟨d, h1, h2⟩ := (r.ext e).atv hy
    exact ⟨_, _, enD_at h1, .int _, h2⟩
  | rol ht r =>
    cases (show w = ⟨_, _⟩ from hw)
    refine ⟨_, _, rfl, .inl ⟨ht.sqL, k _ _ _ _ q s1 e1 (steps_pair walk_enum (by rw [enD_len, r.length]) (fun H S e _ _ => (ht.ext e).sqL) fun i H x y hi e g hx hy => ?_)⟩⟩
    cases hx
    obtain ⟨d, h1, h2⟩ := (r.ext e).atv hy
    exact ⟨_, _, enD_at h1, .int _, h2⟩
  | ref a =>
    obtain ⟨ds, hs', rfl⟩ := hw
    obtain ⟨vs, h1, r⟩ := s1.lst hs'
    refine ⟨_, _, rfl, .inl ⟨.of h1, k _ _ _ _ q s1 e1 (steps_enumL fun H S e s l => ?_)⟩⟩
    obtain ⟨vs', h2, r'⟩ := s.lst l
    exact ⟨vs', .of h2, r'⟩
  | _ => exact hw.elim
end
end Sv
namespace Sv
open PySem PySem.Spec PyProof.Rows L2
theorem wipe_in {σ : L2.St} {i : Nat} : ∀ {vs : List Nat}, i ∈ vs → i < σ.length → (wipe σ vs)[i]? = some none
  | v :: vs, h, hl => by
    unfold wipe
    by_cases z : v = i
    · subst z
      rw [List.getElem?_set_self (by rw [wipe_length]; exact hl)]
    · rw [List.getElem?_set_ne z]
      exact wipe_in ((List.mem_cons.mp h).resolve_left fun e => z e.symm) hl
theorem wipe_at {σ τ : L2.St} {vs : List Nat} (hl : τ.length = σ.length) (h : ∀ i, i ∉ vs → τ[i]? = σ[i]?) : wipe τ vs = wipe σ vs := by
  refine List.ext_getElem? fun i => ?_
  by_cases hi : i ∈ vs
  · by_cases z : i < σ.length
    · rw [wipe_in hi z, wipe_in hi (hl ▸ z)]
    · rw [List.getElem?_eq_none (by rw [wipe_length]; omega), List.getElem?_eq_none (by rw [wipe_length]; omega)]
  · rw [wipe_out hi, wipe_out hi, h i hi]
theorem wipe_off {σ τ : L2.St} {vs us : List Nat} (o : Off vs (wipe σ us) τ) (h : ∀ i ∈ vs, i ∈ us) : wipe τ us = wipe σ us :=
  wipe_at (by rw [o.1, wipe_length]) fun i hi => by rw [o.2 i fun z => hi (h i z), wipe_out hi]
def dwipe (env : Env) : List Nat → Env
  | [] => env
  | v :: vs => (dwipe env vs).set v none
theorem RS.wipe {K : KK} {σ : L2.St} {H : Hp} {env : Env} {S : Sto} (r : RS K σ H env S) : ∀ vs : List Nat, RS K (L2.wipe σ vs) H (dwipe env vs) S
  | [] => r
  | v :: vs => by
    have q := RS.wipe r vs
    refine ⟨by unfold dwipe L2.wipe; rw [List.length_set, List.length_set]; exact q.len, fun i d h => ?_, q.sto⟩
    unfold dwipe at h
    by_cases z : v = i
    · subst z
      by_cases hl : v < (dwipe env vs).length
      · rw [List.getElem?_set_self hl] at h
        cases h
      · rw [List.getElem?_eq_none (by rw [List.length_set]; omega)] at h
        cases h
    · rw [List.getElem?_set_ne z] at h
      obtain ⟨x, h1, h2⟩ := q.slot i d h
      exact ⟨x, by unfold L2.wipe; rw [List.getElem?_set_ne z]; exact h1, h2⟩
structure DTs (X : Cx) (ifs : List Expr) (t : DTT) : Prop where
  run : PTs X ifs (lT X.kk t)
theorem PTs.of {X : Cx} {ifs : List Expr} {t t' : TT} (h : PTs X ifs t) (q : ∀ σ H Q, t' σ H Q → t σ H Q) : PTs X ifs t' := ⟨fun pins s σ H Q I w => h.run pins s σ H Q I (q σ H Q w)⟩
def dYes : DTT := fun _ S R => R true S
theorem dts_nil {X : Cx} : DTs X [] dYes := ⟨PTs.of pts_nil fun σ H Q ⟨env, S, R, rs, q, k⟩ => k _ _ _ q rs.sto (.refl H)⟩
theorem dts_one {X : Cx} {c : Expr} {t : DTT} (h : DT X c t) : DTs X [c] t := ⟨pts_one h.run⟩
section
variable {X : Cx}
/-- [elt for target in iter if ..]: p the new list -/
def dLc (ti : DTI) (g : DTG) (tt : DTT) (te : DTE) (us : List Nat) : DTE := fun env S R => ti env S fun w S1 => ∀ p, S1 p = none → ∃ Pv : Nat → Sto → Prop, Pv 0 (S1.put p (.lst [])) ∧ (∀ i S, i ≤ w.items.length → Pv i S → w.live S) ∧
  (∀ i d S, w.items[i]? = some d → Pv i S → g d (dwipe env us) S fun env' S' => tt env' S' fun b S2 => if b = true then te env' S2 fun y S3 => ∃ acc, S3 p = some (.lst acc) ∧ acc.length < 1000000 ∧ Pv (i + 1) (S3.put p (.lst (acc ++ [y]))) else Pv (i + 1) S2) ∧
  ∀ S, Pv w.items.length S → R (.ref p) S
theorem app_rel {K : KK} {S : Sto} {H : Hp} {p : Addr} {acc : List D} {y : D} {v : V} (s : RelS K S H) (h : S p = some (.lst acc)) (hl : acc.length < 1000000) (r : RD K H y v) :
    ∃ vs, H p = some (.lst vs) ∧ vs.length < sizeLine ∧ RelS K (S.put p (.lst (acc ++ [y]))) (upd H p (.lst (vs ++ [v]))) ∧ Ext H (upd H p (.lst (vs ++ [v]))) := by
  obtain ⟨vs, h1, h2⟩ := s.lst h
  have e : Ext H (upd H p (.lst (vs ++ [v]))) := .put h1 trivial
  exact ⟨vs, h1, Nat.lt_of_lt_of_le (h2.length ▸ hl) (by decide), s.put h1 trivial ⟨_, upd_same, (h2.append (.cons r .nil)).ext e⟩, e⟩
theorem lE_lc {K : KK} {b : Bool} {ti : DTI} {g : DTG} {tt : DTT} {te : DTE} {us vs : List Nat} {σ : L2.St} {H : Hp} {Q : VK} (hv : ∀ i ∈ vs, i ∈ us) (h : lE K (dLc ti g tt te us) σ H Q) : tLc (lI K b ti) (lG K b vs g) (lT K tt) (lE K te) us σ H Q := by
  obtain ⟨env, S, R, rs, h, k⟩ := h
  refine ⟨env, S, _, rs, h, fun w S1 J H1 q s1 e1 st p np => ?_⟩
  obtain ⟨Pv, p0, lv, step, done⟩ := q p (s1.fresh np)
  obtain ⟨G, Y, wk, hG, hY⟩ := st.ex
  have s1' : RelS K (S1.put p (.lst [])) (upd H1 p (.lst [])) := s1.lay np ⟨_, upd_same, .nil⟩
  have e1' : Ext H1 (upd H1 p (.lst [])) := .new np
  refine lc_it wk (fun i H' => ∃ S', RelS K S' H' ∧ Ext H1 H' ∧ Pv i S') ⟨_, s1', e1', p0⟩ (fun i H' hi ⟨S', s', e', p'⟩ => hG H' S' e' s' (lv i S' hi p')) ?_ ?_
  · rintro i x H2 H3 hi ⟨S2, s2, e2, p2⟩ y
    obtain ⟨e3, hS, d, hd, rd⟩ := hY i H2 x H3 e2 y
    have e13 := e1.trans (e2.trans e3)
    refine ⟨d, dwipe env us, S2, _, rd, (rs.ext e13 (hS S2 s2)).wipe us, step i d S2 hd p2, fun env4 S4 σ4 H4 q4 rs4 e4 o4 => ⟨wipe_off o4 hv, env4, S4, _, rs4, q4, fun c S5 H5 q5 s5 e5 => ?_⟩⟩
    cases c with
    | false => exact ⟨S5, s5, e2.trans (e3.trans (e4.trans e5)), q5⟩
    | true =>
      refine ⟨env4, S5, _, rs4.ext e5 s5, q5, fun y S6 v H6 ⟨acc, h1, h2, q6⟩ s6 r6 e6 => ?_⟩
      obtain ⟨vs', h3, h4, s7, e7⟩ := app_rel s6 h1 h2 r6
      exact ⟨vs', h3, h4, _, s7, e2.trans (e3.trans (e4.trans (e5.trans (e6.trans e7)))), q6⟩
  · rintro H2 ⟨S2, s2, e2, p2⟩
    exact k _ _ _ _ (done S2 p2) s2 (.ref p) (e1.trans e2)
variable {elt tg iter : Expr} {ifs : List Expr} {scope : Scope} {own : List (Str × Nat)} {vs : List Nat} {pos spos : Pos} {b : Bool} {ti : DTI} {g : DTG} {tt : DTT} {te : DTE}
theorem de_lc (hc : X.calm = true) (hN : X.N.Nodup) (hi : DI X b tg iter ti) (ok : BlkOk X.N X.env.scope scope own) (hv : ∀ i ∈ vs, i ∈ own.map (·.2))
    (hg : ∀ (s : Shared) (H : Hp) (C : Addr) (cl : List (Str × Addr)) (fp : List Addr), DG (X.blk s H scope (compEnvC scope cl C X.env) fp) b vs tg g) (ht : ∀ (s : Shared) (H : Hp) (C : Addr) (cl : List (Str × Addr)) (fp : List Addr), DTs (X.blk s H scope (compEnvC scope cl C X.env) fp) ifs tt)
    (he : ∀ (s : Shared) (H : Hp) (C : Addr) (cl : List (Str × Addr)) (fp : List Addr), DE (X.blk s H scope (compEnvC scope cl C X.env) fp) elt te) (hs : ∀ x, foldedSetIterable iter X.env x = pure x := by intro _; rfl) :
    DE X (.ListComp elt [⟨tg, iter, ifs, 0⟩] scope pos) (dLc ti g tt te (own.map (·.2))) :=
  ⟨(pe_lc (te := lE X.kk te) hc hN hi.run ok (fun s H C cl fp => (hg s H C cl fp).run) (fun s H C cl fp => (ht s H C cl fp).run) (fun s H C cl fp => (he s H C cl fp).run) hs).of fun _ _ _ => lE_lc hv⟩
theorem ds_setLc {i : Nat} {y : Str} {py : Pos} (hc : X.calm = true) (hN : X.N.Nodup) (hy : X.N[i]? = some y) (hyl : X.env.scope.names.lookup y = some .local)
    (hsw : swapsWith (.ListComp elt [⟨tg, iter, ifs, 0⟩] scope pos) (some (.Name y py)) spos.line X.env = pure true) (hi : DI X b tg iter ti) (ok : BlkOk X.N X.env.scope scope own) (hv : ∀ i ∈ vs, i ∈ own.map (·.2))
    (hg : ∀ (s : Shared) (H : Hp) (C : Addr) (cl : List (Str × Addr)) (fp : List Addr), DG (X.blk s H scope (compEnvC scope cl C X.env) fp) b vs tg g) (ht : ∀ (s : Shared) (H : Hp) (C : Addr) (cl : List (Str × Addr)) (fp : List Addr), DTs (X.blk s H scope (compEnvC scope cl C X.env) fp) ifs tt)
    (he : ∀ (s : Shared) (H : Hp) (C : Addr) (cl : List (Str × Addr)) (fp : List Addr), DE (X.blk s H scope (compEnvC scope cl C X.env) fp) elt te) (hs : ∀ x, foldedSetIterable iter X.env x = pure x := by intro _; rfl) :
    DS X (.Assign [.Name y py] (.ListComp elt [⟨tg, iter, ifs, 0⟩] scope pos) spos) (dAsg (dLc ti g tt te (own.map (·.2))) (dgName i)) := by
  refine ⟨(ps_setLc (g := lG X.kk b vs g) (tt := lT X.kk tt) (te := lE X.kk te) hc hN hy hyl hsw hi.run ok (fun s H C cl fp => (hg s H C cl fp).run) (fun s H C cl fp => (ht s H C cl fp).run) (fun s H C cl fp => (he s H C cl fp).run) hs).of fun σ H B h => ?_⟩
  obtain ⟨env, S, C, rs, h, k, _⟩ := h
  exact lE_lc hv ⟨env, S, _, rs, h, fun d S1 v H1 q s1 r1 e1 => k _ _ _ _ q ((rs.ext e1 s1).set i r1) e1⟩
/-- two clauses -/
def dLc2 (ti : DTI) (g : DTG) (tt : DTT) (ti1 : DTI) (g1 : DTG) (tt1 : DTT) (te : DTE) (us us1 : List Nat) : DTE := fun env S R => ti env S fun w S1 => ∀ p, S1 p = none → ∃ Pv : Nat → Sto → Prop, Pv 0 (S1.put p (.lst [])) ∧ (∀ i S, i ≤ w.items.length → Pv i S → w.live S) ∧
  (∀ i d S, w.items[i]? = some d → Pv i S → g d (dwipe env us) S fun env' S' => tt env' S' fun b S2 => if b = true then ti1 env' S2 fun w1 S3 => ∃ Pw : Nat → Sto → Prop, Pw 0 S3 ∧ (∀ j S, j ≤ w1.items.length → Pw j S → w1.live S) ∧
    (∀ j e S, w1.items[j]? = some e → Pw j S → g1 e (dwipe env' us1) S fun env2 S4 => tt1 env2 S4 fun b S5 => if b = true then te env2 S5 fun y S6 => ∃ acc, S6 p = some (.lst acc) ∧ acc.length < 1000000 ∧ Pw (j + 1) (S6.put p (.lst (acc ++ [y]))) else Pw (j + 1) S5) ∧
    (∀ S, Pw w1.items.length S → Pv (i + 1) S) else Pv (i + 1) S2) ∧
  ∀ S, Pv w.items.length S → R (.ref p) S
theorem lE_lc2 {K : KK} {b b1 : Bool} {ti ti1 : DTI} {g g1 : DTG} {tt tt1 : DTT} {te : DTE} {us us1 vs vs1 : List Nat} {σ : L2.St} {H : Hp} {Q : VK} (hv : ∀ i ∈ vs, i ∈ us) (hv1 : ∀ i ∈ vs1, i ∈ us1) (h : lE K (dLc2 ti g tt ti1 g1 tt1 te us us1) σ H Q) :
    tLc2 (lI K b ti) (lG K b vs g) (lT K tt) (lI K b1 ti1) (lG K b1 vs1 g1) (lT K tt1) (lE K te) us us1 σ H Q := by
  obtain ⟨env, S, R, rs, h, k⟩ := h
  refine ⟨env, S, _, rs, h, fun w S1 J H1 q s1 e1 st p np => ?_⟩
  obtain ⟨Pv, p0, lv, step, done⟩ := q p (s1.fresh np)
  obtain ⟨G, Y, wk, hG, hY⟩ := st.ex
  have s1' : RelS K (S1.put p (.lst [])) (upd H1 p (.lst [])) := s1.lay np ⟨_, upd_same, .nil⟩
  have e1' : Ext H1 (upd H1 p (.lst [])) := .new np
  refine lc2_out wk (fun i H' => ∃ S', RelS K S' H' ∧ Ext H1 H' ∧ Pv i S') ⟨_, s1', e1', p0⟩ (fun i H' hi ⟨S', s', e', p'⟩ => hG H' S' e' s' (lv i S' hi p')) ?_ ?_
  · rintro i x H2 H3 hi ⟨S2, s2, e2, p2⟩ y
    obtain ⟨e3, hS, d, hd, rd⟩ := hY i H2 x H3 e2 y
    have e13 := e1.trans (e2.trans e3)
    refine ⟨d, dwipe env us, S2, _, rd, (rs.ext e13 (hS S2 s2)).wipe us, step i d S2 hd p2, fun env4 S4 σ4 H4 q4 rs4 e4 o4 => ⟨wipe_off o4 hv, env4, S4, _, rs4, q4, fun c S5 H5 q5 s5 e5 => ?_⟩⟩
    have e25 := e2.trans (e3.trans (e4.trans e5))
    cases c with
    | false => exact ⟨S5, s5, e25, q5⟩
    | true =>
      refine ⟨env4, S5, _, rs4.ext e5 s5, q5, fun w1 S6 J1 H6 ⟨Pw, pw0, lv1, step1, done1⟩ s6 e6 st1 => ?_⟩
      obtain ⟨G1, Y1, wk1, hG1, hY1⟩ := st1.ex
      refine lc2_in wk1 (fun j H' => ∃ S', RelS K S' H' ∧ Ext H6 H' ∧ Pw j S') ⟨_, s6, .refl _, pw0⟩ (fun i H' hi ⟨S', s', e', p'⟩ => hG1 H' S' e' s' (lv1 i S' hi p')) ?_ ?_
      · rintro j x7 H7 H8 hj ⟨S7, s7, e7, p7⟩ y7
        obtain ⟨e8, hS8, d8, hd8, rd8⟩ := hY1 j H7 x7 H8 e7 y7
        refine ⟨d8, dwipe env4 us1, S7, _, rd8, (rs4.ext (e5.trans (e6.trans (e7.trans e8))) (hS8 S7 s7)).wipe us1, step1 j d8 S7 hd8 p7, fun env9 S9 σ9 H9 q9 rs9 e9 o9 => ⟨wipe_off o9 hv1, env9, S9, _, rs9, q9, fun c S10 H10 q10 s10 e10 => ?_⟩⟩
        have e710 := e7.trans (e8.trans (e9.trans e10))
        cases c with
        | false => exact ⟨S10, s10, e710, q10⟩
        | true =>
          refine ⟨env9, S10, _, rs9.ext e10 s10, q10, fun y S11 v H11 ⟨acc, h1, h2, q11⟩ s11 r11 e11 => ?_⟩
          obtain ⟨vs', h3, h4, s12, e12⟩ := app_rel s11 h1 h2 r11
          exact ⟨vs', h3, h4, _, s12, e710.trans (e11.trans e12), q11⟩
      · rintro H7 ⟨S7, s7, e7, p7⟩
        exact ⟨S7, s7, e25.trans (e6.trans e7), done1 S7 p7⟩
  · rintro H2 ⟨S2, s2, e2, p2⟩
    exact k _ _ _ _ (done S2 p2) s2 (.ref p) (e1.trans e2)
theorem de_lc2 {tg1 iter1 : Expr} {ifs1 : List Expr} {us1 vs1 : List Nat} {b1 : Bool} {ti1 : DTI} {g1 : DTG} {tt1 : DTT} (hc : X.calm = true) (hN : X.N.Nodup) (hi : DI X b tg iter ti) (ok : BlkOk X.N X.env.scope scope own) (hv : ∀ i ∈ vs, i ∈ own.map (·.2)) (hv1 : ∀ i ∈ vs1, i ∈ us1) (hu1 : ∀ i ∈ us1, i ∈ own.map (·.2))
    (hg : ∀ (s : Shared) (H : Hp) (C : Addr) (cl : List (Str × Addr)) (fp : List Addr), DG (X.blk s H scope (compEnvC scope cl C X.env) fp) b vs tg g) (ht : ∀ (s : Shared) (H : Hp) (C : Addr) (cl : List (Str × Addr)) (fp : List Addr), DTs (X.blk s H scope (compEnvC scope cl C X.env) fp) ifs tt)
    (hi1 : ∀ (s : Shared) (H : Hp) (C : Addr) (cl : List (Str × Addr)) (fp : List Addr), DI (X.blk s H scope (compEnvC scope cl C X.env) fp) b1 tg1 iter1 ti1)
    (hg1 : ∀ (s : Shared) (H : Hp) (C : Addr) (cl : List (Str × Addr)) (fp : List Addr), DG (X.blk s H scope (compEnvC scope cl C X.env) fp) b1 vs1 tg1 g1) (ht1 : ∀ (s : Shared) (H : Hp) (C : Addr) (cl : List (Str × Addr)) (fp : List Addr), DTs (X.blk s H scope (compEnvC scope cl C X.env) fp) ifs1 tt1)
    (he : ∀ (s : Shared) (H : Hp) (C : Addr) (cl : List (Str × Addr)) (fp : List Addr), DE (X.blk s H scope (compEnvC scope cl C X.env) fp) elt te) (hs : ∀ x, foldedSetIterable iter X.env x = pure x := by intro _; rfl) (hs1 : ∀ env x, foldedSetIterable iter1 env x = pure x := by intro _ _; rfl) :
    DE X (.ListComp elt [⟨tg, iter, ifs, 0⟩, ⟨tg1, iter1, ifs1, 0⟩] scope pos) (dLc2 ti g tt ti1 g1 tt1 te (own.map (·.2)) us1) :=
  ⟨(pe_lc2 (te := lE X.kk te) hc hN hi.run ok hu1 (fun s H C cl fp => (hg s H C cl fp).run) (fun s H C cl fp => (ht s H C cl fp).run) (fun s H C cl fp => (hi1 s H C cl fp).run) (fun s H C cl fp => (hg1 s H C cl fp).run) (fun s H C cl fp => (ht1 s H C cl fp).run) (fun s H C cl fp => (he s H C cl fp).run) hs hs1).of fun _ _ _ => lE_lc2 hv hv1⟩
end
end Sv
namespace Sv
open PySem PySem.Spec PyProof.Rows L2
mutual
inductive Py (S : Sto) : D → PyData → Prop
  | non : Py S .non .none
  | bl (b : Bool) : Py S (.bl b) (.bool b)
  | int (i : Int) : Py S (.int i) (.int i)
  | str (x : Str) : Py S (.str x) (.str x)
  | tup {ds : List D} {ps : List PyData} : Pys S ds ps → Py S (.tup ds) (.tuple ps)
  | rol {ds : List D} {ps : List PyData} : Pys S ds ps → Py S (.rol ds) (.list ps)
  | wtup {ds : List D} {ps : List PyData} : Pys S ds ps → Py S (.wtup ds) (.tuple ps)
  | lst {a : Addr} {ds : List D} {ps : List PyData} : S a = some (.lst ds) → Pys S ds ps → Py S (.ref a) (.list ps)
inductive Pys (S : Sto) : List D → List PyData → Prop
  | nil : Pys S [] []
  | cons {d : D} {ds : List D} {p : PyData} {ps : List PyData} : Py S d p → Pys S ds ps → Pys S (d :: ds) (p :: ps)
end
section
variable {K : KK} {S : Sto} {H : Hp}
mutual
theorem Py.dp (s : RelS K S H) : ∀ {d : D} {p : PyData} {v : V}, Py S d p → RD K H d v → Dp K.k H v p
  | _, _, _, .non, .non => .non
  | _, _, _, .bl b, .bl _ => .bl b
  | _, _, _, .int i, .int _ => .int i
  | _, _, _, .str x, .str _ => .str x
  | _, _, _, .tup h, .tup t r => .tup t.sqT (Pys.dp s h r)
  | _, _, _, .rol h, .rol t r => .lst t.sqL (Pys.dp s h r)
  | _, _, _, .wtup h, .wtup t r => .tup (.of t) (Pys.dp s h r)
  | _, _, _, .lst e h, .ref _ => let ⟨vs, q, r⟩ := s.lst e; .lst (.of q) (Pys.dp s h r)
theorem Pys.dp (s : RelS K S H) : ∀ {ds : List D} {ps : List PyData} {vs : List V}, Pys S ds ps → RDs K H ds vs → DpAll K.k H vs ps
  | _, _, _, .nil, .nil => .nil
  | _, _, _, .cons h t, .cons r q => .cons (Py.dp s h r) (Pys.dp s t q)
end
end
def rAdd : DR2 := fun x y S R => match x, y with
  | .int i, .int j => R (.int (i + j)) S
  | .tup xs, .tup ys => xs.length + ys.length ≤ 100000 ∧ R (.tup (xs ++ ys)) S
  | .str a, .str b => a.length + b.length ≤ 100000 ∧ R (.str (a ++ b)) S
  | .ref a, .ref b => ∃ xs ys, S a = some (.lst xs) ∧ S b = some (.lst ys) ∧ xs.length + ys.length ≤ 100000 ∧ ∀ p, S p = none → R (.ref p) (S.put p (.lst (xs ++ ys)))
  | _, _ => False
def rSub : DR2 := fun x y S R => match x, y with
  | .int i, .int j => R (.int (i - j)) S
  | _, _ => False
def rMul : DR2 := fun x y S R => match x, y with
  | .int i, .int j => CMul i j ∧ R (.int (i * j)) S
  | .tup xs, .int k => xs ≠ [] ∧ 1 ≤ k ∧ k ≤ 1000 ∧ xs.length ≤ 1000 ∧ R (.tup (List.replicate k.toNat xs).flatten) S
  | .ref a, .int k => ∃ xs, S a = some (.lst xs) ∧ 0 ≤ k ∧ k ≤ 1000 ∧ xs.length ≤ 1000 ∧ ∀ p, S p = none → R (.ref p) (S.put p (.lst (List.replicate k.toNat xs).flatten))
  | _, _ => False
def rDiv : DR2 := fun x y S R => match x, y with
  | .int i, .int j => CDiv i j ∧ R (.int (i / j)) S
  | _, _ => False
def rMod : DR2 := fun x y S R => match x, y with
  | .int i, .int j => 0 < j ∧ R (.int (i % j)) S
  | _, _ => False
def rPow : DR2 := fun x y S R => match x, y with
  | .int i, .int j => CPow i j ∧ R (.int (i ^ j.toNat)) S
  | _, _ => False
section
variable {X : Cx}
theorem cat_frz {pins : List (Addr × Obj)} {σ : L2.St} {H : Hp} {s : Shared} {a b : Addr} {xs ys : List V} {Q : VK} (I : Inv X pins σ H s) (ha : TupN H a xs) (hb : TupN H b ys) (hz : xs.length + ys.length ≤ sizeLine)
    (q : ∀ (H' : Hp) (p : Addr), Same H H' → (∀ b, H b ≠ none → H' b = H b) → TupN H' p (xs ++ ys) → Q (.ref p) H') (q2 : ∀ (p : Addr) (o : Obj), H p = none → o.dict = none → Q (.ref p) (upd H p (.frz o (.tup (xs ++ ys))))) : wpAny (model X.prog X.w) X.A (binaryOp .Add (.ref a) (.ref b)) (EP X pins σ Q) X.xe s := by
  obtain ⟨its, r1, p1, _⟩ := I.tuple (ha.sqT (K := X.K))
  obtain ⟨its2, r2, p2, _⟩ := I.tuple (hb.sqT (K := X.K))
  by_cases hx : its = []
  · subst hx
    have e1 : xs = [] := r1.nil_iff.mp rfl
    subst e1
    exact cat_tup0 p1 p2 ⟨.ref b, H, I, rfl, q H b (fun _ _ h => h) (fun _ _ => rfl) hb⟩
  · have hl : its.length + its2.length ≤ sizeLine := by rw [← r1.length, ← r2.length]; exact hz
    refine HT.cat_tup p1 p2 hx (fun z => ?_) (fun _ => ?_) hl
    · subst z
      have e2 : ys = [] := r2.nil_iff.mp rfl
      subst e2
      exact ⟨.ref a, H, I, rfl, q H a (fun _ _ h => h) (fun _ _ => rfl) (by rw [List.append_nil]; exact ha)⟩
    · have hg := Heap.get?_push_size s.heap (o := { cls := .type "tuple", data := .seq (its ++ its2).toArray }) rfl
      refine ⟨.ref s.heap.objs.size, _, I.laid (t' := s.toks) (o := .frz { cls := .type "tuple", data := .seq (its ++ its2).toArray } (.tup (xs ++ ys))) (fun b ob q => Heap.get?_push_of_some _ q) (Nat.le_refl _) ?_, rfl, q2 _ _ (I.hok.fresh (Nat.le_refl _)) rfl⟩
      exact ⟨hg, by rw [List.length_append]; exact hz, _, r1.append r2, ⟨_, hg, rfl, _, rfl⟩⟩
theorem big5 {n : Nat} (h : n ≤ 100000) : n ≤ sizeLine := Nat.le_trans h (by decide)
theorem o_add : OpR X (binaryOp .Add) (l2 X.kk rAdd) := by
  intro pins s σ H x y v u Q I rx ry ⟨d, e, S, R, r1, r2, s1, h, k⟩
  cases r1 with
  | int i =>
    cases r2 with
    | int j => exact op_add pins s σ H _ _ v u Q I rx ry ⟨i, j, rfl, rfl, k _ _ _ _ h s1 (.int _) (.refl H)⟩
    | _ => exact h.elim
  | str i =>
    cases r2 with
    | str j => exact op_add_str pins s σ H _ _ v u Q I rx ry ⟨i, j, rfl, rfl, big5 h.1, k _ _ _ _ h.2 s1 (.str _) (.refl H)⟩
    | _ => exact h.elim
  | tup t1 q1 =>
    cases r2 with
    | tup t2 q2 =>
      cases rx
      cases ry
      refine cat_frz I t1 t2 (by rw [← q1.length, ← q2.length]; exact big5 h.1) (fun H' p sm same t => ?_) fun p o np ho => ?_
      · exact k _ _ _ _ h.2 (fun a o e => (s1 a o e).ext (.of sm) (same a fun z => by obtain ⟨u, q, _⟩ := (s1 a o e).mut; rw [z] at q; cases q)) (.tup t ((q1.append q2).ext (.of sm))) (.of sm)
      · exact k _ _ _ _ h.2 (s1.new np) (.tup (.new ho) ((q1.append q2).ext (.new np))) (.new np)
    | _ => exact h.elim
  | ref a =>
    cases r2 with
    | ref b =>
      obtain ⟨xs, ys, h1, h2, hz, q⟩ := h
      obtain ⟨vs, e1, q1⟩ := s1.lst h1
      obtain ⟨ws, e2, q2⟩ := s1.lst h2
      exact op_cat pins s σ H _ _ v u Q I rx ry ⟨a, b, vs, ws, rfl, rfl, e1, e2, by rw [← q1.length, ← q2.length]; exact big5 hz, fun p np =>
        k _ _ _ _ (q p (s1.fresh np)) (s1.lay np ⟨_, upd_same, (q1.append q2).ext (.new np)⟩) (.ref p) (.new np)⟩
    | _ => exact h.elim
  | _ => exact h.elim
theorem o_sub : OpR X (binaryOp .Sub) (l2 X.kk rSub) := by
  intro pins s σ H x y v u Q I rx ry ⟨d, e, S, R, r1, r2, s1, h, k⟩
  cases r1 with
  | int i =>
    cases r2 with
    | int j => exact op_sub pins s σ H _ _ v u Q I rx ry ⟨i, j, rfl, rfl, k _ _ _ _ h s1 (.int _) (.refl H)⟩
    | _ => exact h.elim
  | _ => exact h.elim
theorem o_div : OpR X (binaryOp .FloorDiv) (l2 X.kk rDiv) := by
  intro pins s σ H x y v u Q I rx ry ⟨d, e, S, R, r1, r2, s1, h, k⟩
  cases r1 with
  | int i =>
    cases r2 with
    | int j => exact op_fdiv pins s σ H _ _ v u Q I rx ry ⟨i, j, rfl, rfl, h.1, k _ _ _ _ h.2 s1 (.int _) (.refl H)⟩
    | _ => exact h.elim
  | _ => exact h.elim
theorem o_mod : OpR X (binaryOp .Mod) (l2 X.kk rMod) := by
  intro pins s σ H x y v u Q I rx ry ⟨d, e, S, R, r1, r2, s1, h, k⟩
  cases r1 with
  | int i =>
    cases r2 with
    | int j => exact op_mod pins s σ H _ _ v u Q I rx ry ⟨i, j, rfl, rfl, h.1, k _ _ _ _ h.2 s1 (.int _) (.refl H)⟩
    | _ => exact h.elim
  | _ => exact h.elim
theorem o_pow : OpR X (binaryOp .Pow) (l2 X.kk rPow) := by
  intro pins s σ H x y v u Q I rx ry ⟨d, e, S, R, r1, r2, s1, h, k⟩
  cases r1 with
  | int i =>
    cases r2 with
    | int j => exact op_pow pins s σ H _ _ v u Q I rx ry ⟨i, j, rfl, rfl, h.1, k _ _ _ _ h.2 s1 (.int _) (.refl H)⟩
    | _ => exact h.elim
  | _ => exact h.elim
def rCmp (f : Int → Int → Bool) : DR2 := fun x y S R => match x, y with
  | .int i, .int j => R (.bl (f i j)) S
  | _, _ => False
theorem o_cmp {op : CmpOp} {f : Int → Int → Bool} (ho : OpR X (compareOp op) (rI0 fun i j => .bl (f i j))) : OpR X (compareOp op) (l2 X.kk (rCmp f)) := by
  intro pins s σ H x y v u Q I rx ry ⟨d, e, S, R, r1, r2, s1, h, k⟩
  cases r1 with
  | int i =>
    cases r2 with
    | int j => exact ho pins s σ H _ _ v u Q I rx ry ⟨i, j, rfl, rfl, k _ _ _ _ h s1 (.bl _) (.refl H)⟩
    | _ => exact h.elim
  | _ => exact h.elim
theorem o_lt : OpR X (compareOp .Lt) (l2 X.kk (rCmp fun i j => decide (i < j))) := o_cmp op_lt
theorem o_le : OpR X (compareOp .LtE) (l2 X.kk (rCmp fun i j => decide (i ≤ j))) := o_cmp op_le
theorem o_gt : OpR X (compareOp .Gt) (l2 X.kk (rCmp fun i j => decide (j < i))) := o_cmp op_gt
theorem o_ge : OpR X (compareOp .GtE) (l2 X.kk (rCmp fun i j => decide (j ≤ i))) := o_cmp op_ge
/-- == : ints, texts and bools at once, the rest as data -/
def rEqq (n : Bool) : DR2 := fun x y S R => match x, y with
  | .int i, .int j => R (.bl (decide (i = j) ^^ n)) S
  | .str i, .str j => R (.bl (decide (i = j) ^^ n)) S
  | .bl i, .bl j => R (.bl (decide (i = j) ^^ n)) S
  | _, _ => ∃ p q, Py S x p ∧ Py S y q ∧ SeqAt.shaped p = true ∧ SeqAt.shaped q = true ∧ R (.bl (PyData.eqv p q ^^ n)) S
theorem xor_ff (b : Bool) : (b ^^ false) = b := by cases b <;> rfl
theorem xor_tt (b : Bool) : (b ^^ true) = !b := by cases b <;> rfl
theorem o_eq (hu : X.A.units + 64 < cLine) : OpR X (compareOp .Eq) (l2 X.kk (rEqq false)) := by
  intro pins s σ H x y v u Q I rx ry ⟨d, e, S, R, r1, r2, s1, h, k⟩
  have dat : (∃ p q, Py S d p ∧ Py S e q ∧ SeqAt.shaped p = true ∧ SeqAt.shaped q = true ∧ R (.bl (PyData.eqv p q ^^ false)) S) → wpAny (model X.prog X.w) X.A (compareOp .Eq v u) (EP X pins σ Q) X.xe s := by
    rintro ⟨p, q, h1, h2, h3, h4, h5⟩
    rw [xor_ff] at h5
    exact op_eqD hu pins s σ H _ _ v u Q I rx ry ⟨p, q, h1.dp s1 r1, h2.dp s1 r2, h3, h4, k _ _ _ _ h5 s1 (.bl _) (.refl H)⟩
  have fl : ∀ {b : Bool}, decide (x = y) = b → scal x y = true → R (.bl (b ^^ false)) S → wpAny (model X.prog X.w) X.A (compareOp .Eq v u) (EP X pins σ Q) X.xe s := fun {b} hb hs q => by
    rw [xor_ff] at q
    exact op_eq pins s σ H _ _ v u Q I rx ry ⟨hs, by rw [hb]; exact k _ _ _ _ q s1 (.bl _) (.refl H)⟩
  cases r1 with
  | int i =>
    cases r2 with
    | int j => exact fl (by simp) rfl h
    | _ => exact dat h
  | str i =>
    cases r2 with
    | str j => exact fl (by simp) rfl h
    | _ => exact dat h
  | bl i =>
    cases r2 with
    | bl j => exact fl (by simp) rfl h
    | _ => exact dat h
  | _ => exact dat h
theorem o_ne (hu : X.A.units + 64 < cLine) : OpR X (compareOp .NotEq) (l2 X.kk (rEqq true)) := by
  intro pins s σ H x y v u Q I rx ry ⟨d, e, S, R, r1, r2, s1, h, k⟩
  have dat : (∃ p q, Py S d p ∧ Py S e q ∧ SeqAt.shaped p = true ∧ SeqAt.shaped q = true ∧ R (.bl (PyData.eqv p q ^^ true)) S) → wpAny (model X.prog X.w) X.A (compareOp .NotEq v u) (EP X pins σ Q) X.xe s := by
    rintro ⟨p, q, h1, h2, h3, h4, h5⟩
    rw [xor_tt] at h5
    exact op_neD hu pins s σ H _ _ v u Q I rx ry ⟨p, q, h1.dp s1 r1, h2.dp s1 r2, h3, h4, k _ _ _ _ h5 s1 (.bl _) (.refl H)⟩
  have fl : ∀ {b : Bool}, decide (x = y) = b → scal x y = true → R (.bl (b ^^ true)) S → wpAny (model X.prog X.w) X.A (compareOp .NotEq v u) (EP X pins σ Q) X.xe s := fun {b} hb hs q => by
    rw [xor_tt] at q
    exact op_ne pins s σ H _ _ v u Q I rx ry ⟨hs, by rw [hb]; exact k _ _ _ _ q s1 (.bl _) (.refl H)⟩
  cases r1 with
  | int i =>
    cases r2 with
    | int j => exact fl (by simp) rfl h
    | _ => exact dat h
  | str i =>
    cases r2 with
    | str j => exact fl (by simp) rfl h
    | _ => exact dat h
  | bl i =>
    cases r2 with
    | bl j => exact fl (by simp) rfl h
    | _ => exact dat h
  | _ => exact dat h
end
end Sv
namespace Sv
open PySem PySem.Spec PyProof.Rows L2
section
variable {X : Cx} {a b e : Expr} {es : List Expr} {ta tb te : DTE} {tl : DTA} {pos : Pos}
/-- the items of a sequence -/
def seqOf (S : Sto) : D → Option (List D)
  | .tup ds => some ds
  | .rol ds => some ds
  | .wtup ds => some ds
  | .ref a => match S a with
    | some (.lst ds) => some ds
    | _ => none
  | _ => none
theorem seqOf_ref {S : Sto} {a : Addr} {ds : List D} (h : seqOf S (.ref a) = some ds) : S a = some (.lst ds) := by
  have h : (match S a with
    | some (.lst ds) => some ds
    | _ => none) = some ds := h
  split at h
  · rename_i e
    rw [e]
    cases h
    rfl
  · cases h
theorem seqOf_lst {S : Sto} {a : Addr} {ds : List D} (h : S a = some (.lst ds)) : seqOf S (.ref a) = some ds := by
  show (match S a with
    | some (.lst ds) => some ds
    | _ => none) = some ds
  rw [h]
theorem seq_rel {K : KK} {S : Sto} {H : Hp} {d : D} {v : V} {ds : List D} (s : RelS K S H) (r : RD K H d v) (h : seqOf S d = some ds) : ∃ p vs, v = .ref p ∧ (SqL K.k H p vs ∨ SqT K.k H p vs) ∧ RDs K H ds vs := by
  cases r with
  | tup t q => cases h; exact ⟨_, _, rfl, .inr t.sqT, q⟩
  | rol t q => cases h; exact ⟨_, _, rfl, .inl t.sqL, q⟩
  | wtup t q => cases h; exact ⟨_, _, rfl, .inr (.of t), q⟩
  | ref a =>
    obtain ⟨vs, e, q⟩ := s.lst (seqOf_ref h)
    exact ⟨a, vs, rfl, .inl (.of e), q⟩
  | _ => cases h
theorem atI_rel {K : KK} {H : Hp} {ds : List D} {vs : List V} {i : Int} {d : D} (r : RDs K H ds vs) (h : atI ds i = some d) : ∃ v, atI vs i = some v ∧ RD K H d v := by
  unfold atI at h ⊢
  rw [← r.length]
  obtain ⟨j, h1, h2⟩ := Option.bind_eq_some_iff.mp h
  obtain ⟨v, h3, h4⟩ := r.at h2
  exact ⟨v, by rw [h1]; exact h3, h4⟩
/-- x[i] -/
def rIxq : DR2 := fun x y S R => ∃ ds i d, seqOf S x = some ds ∧ y = .int i ∧ atI ds i = some d ∧ R d S
theorem o_ix : IxR X (l2 X.kk rIxq) := by
  intro value slice pins s σ H x y v u Q I rx ry h hs
  obtain ⟨d, e, S, R, r1, r2, s1, ⟨ds, i, z, hd, rfl, hi, q⟩, k⟩ := h
  cases r2
  obtain ⟨p, vs, rfl, hq, r⟩ := seq_rel s1 r1 hd
  obtain ⟨w, hw, rw'⟩ := atI_rel r hi
  refine ix_seq value slice pins s σ H _ _ v u Q I rx ry ?_ hs
  have fin := k _ _ _ _ q s1 rw' (.refl H)
  rcases hq with hq | hq
  · exact .inl ⟨p, vs, i, w, rfl, rfl, hq, hw, fin⟩
  · exact .inr (.inl ⟨p, vs, i, w, rfl, rfl, hq, hw, fin⟩)
theorem de_ix {r : DR2} (hr : IxR X (l2 X.kk r)) (ha : DE X a ta) (hb : DE X b tb) (hs : PlainIx b := by intro _ _; rfl) : DE X (.Subscript a b pos) (dBin r ta tb) := ⟨(pe_ix hr ha.run hb.run hs).of fun _ _ _ => l2_bin⟩
abbrev DTO := Env → Sto → (Option Int → Sto → Prop) → Prop
def lO (K : KK) (t : DTO) : TO := fun σ H Q => ∃ env S R, RS K σ H env S ∧ t env S R ∧ ∀ o S' H', R o S' → RelS K S' H' → Ext H H' → Q o H'
structure DO (X : Cx) (e : Option Expr) (t : DTO) : Prop where
  run : PO X e (lO X.kk t)
theorem _root_.L2.PO.of {e : Option Expr} {t t' : TO} (h : PO X e t) (q : ∀ σ H Q, t' σ H Q → t σ H Q) : PO X e t' := ⟨fun pins s σ H Q I w => h.run pins s σ H Q I (q σ H Q w)⟩
def dNoP : DTO := fun _ S R => R none S
def dPart (t : DTE) : DTO := fun env S R => t env S fun d S1 => ∃ i, d = .int i ∧ R (some i) S1
theorem do_none : DO X none dNoP := ⟨po_none.of fun σ H Q ⟨env, S, R, rs, q, k⟩ => k _ _ _ q rs.sto (.refl H)⟩
theorem do_some (h : DE X e te) : DO X (some e) (dPart te) := ⟨(po_some h.run).of fun σ H Q ⟨env, S, R, rs, h, k⟩ => ⟨env, S, _, rs, h, fun d S1 v H1 ⟨i, z, q⟩ s1 r1 e1 => by
  subst z
  cases r1
  exact ⟨i, rfl, k _ _ _ q s1 e1⟩⟩⟩
def cutD (xs : List D) (lo hi : Option Int) : List D := (xs.drop (HT.sIx xs.length 0 lo)).take (HT.sIx xs.length xs.length hi - HT.sIx xs.length 0 lo)
theorem RDs.cut {K : KK} {H : Hp} {ds : List D} {vs : List V} (r : RDs K H ds vs) (lo hi : Option Int) : RDs K H (cutD ds lo hi) (cutV vs lo hi) := by
  unfold cutD cutV
  rw [r.length]
  exact (r.drop _).take _
/-- x[lo:hi] -/
def rSlq : D → Option Int → Option Int → Sto → DK → Prop := fun x lo hi S R => match x with
  | .tup ds => R (.tup (cutD ds lo hi)) S
  | .rol ds => ∀ p, S p = none → R (.ref p) (S.put p (.lst (cutD ds lo hi)))
  | .ref a => ∃ ds, S a = some (.lst ds) ∧ ∀ p, S p = none → R (.ref p) (S.put p (.lst (cutD ds lo hi)))
  | _ => False
def lSl (K : KK) (r : D → Option Int → Option Int → Sto → DK → Prop) : V → Option Int → Option Int → Hp → VK → Prop := fun x lo hi H Q => ∃ d S R, RD K H d x ∧ RelS K S H ∧ r d lo hi S R ∧ ∀ z S' v H', R z S' → RelS K S' H' → RD K H' z v → Ext H H' → Q v H'
theorem o_sl : SlR X (lSl X.kk rSlq) := by
  intro pins s σ H x v vl vu lo hi sl Q I rx hs pl pu ⟨d, S, R, r1, s1, h, k⟩
  cases r1 with
  | tup t q =>
    refine (sl_tupA.or sl_tupF) pins s σ H _ v vl vu lo hi sl Q I rx hs pl pu ?_
    rename_i a ds vs
    by_cases hw : HT.sIx vs.length 0 lo = 0 ∧ HT.sIx vs.length vs.length hi = vs.length
    · refine .inl ⟨a, vs, rfl, t.sqT, fun _ => k _ _ _ _ h s1 ?_ (.refl H), fun z => absurd hw z⟩
      have e : cutD ds lo hi = ds := by
        unfold cutD
        rw [q.length, hw.1, hw.2, List.drop_zero, Nat.sub_zero, ← q.length, List.take_length]
      rw [e]
      exact .tup t q
    · exact .inr ⟨a, vs, rfl, t.sqT, hw, fun p o np ho => k _ _ _ _ h (s1.new np) (.tup (.new ho) ((q.cut lo hi).ext (.new np))) (.new np)⟩
  | rol t q => exact sl_list pins s σ H _ v vl vu lo hi sl Q I rx hs pl pu ⟨_, _, rfl, t.sqL, fun p np => k _ _ _ _ (h p (s1.fresh np)) (s1.lay np ⟨_, upd_same, (q.cut lo hi).ext (.new np)⟩) (.ref p) (.new np)⟩
  | ref a =>
    obtain ⟨ds, h1, h⟩ := h
    obtain ⟨vs, e, q⟩ := s1.lst h1
    exact sl_list pins s σ H _ v vl vu lo hi sl Q I rx hs pl pu ⟨_, _, rfl, .of e, fun p np => k _ _ _ _ (h p (s1.fresh np)) (s1.lay np ⟨_, upd_same, (q.cut lo hi).ext (.new np)⟩) (.ref p) (.new np)⟩
  | _ => exact h.elim
def dSl (te : DTE) (tlo thi : DTO) : DTE := fun env S R => te env S fun d S1 => tlo env S1 fun lo S2 => thi env S2 fun hi S3 => rSlq d lo hi S3 R
theorem de_sl {lo hi : Option Expr} {tlo thi : DTO} {p2 : Pos} (he : DE X e te) (hl : DO X lo tlo) (hu : DO X hi thi) : DE X (.Subscript e (.Slice lo hi none p2) pos) (dSl te tlo thi) := by
  refine ⟨(pe_slice o_sl he.run hl.run hu.run).of fun σ H Q ⟨env, S, R, rs, h, k⟩ => ⟨env, S, _, rs, h, fun d S1 v H1 q s1 r1 e1 => ⟨env, S1, _, rs.ext e1 s1, q, fun lo S2 H2 q2 s2 e2 => ⟨env, S2, _, rs.ext (e1.trans e2) s2, q2, fun hi S3 H3 q3 s3 e3 => ?_⟩⟩⟩⟩
  exact ⟨d, S3, R, r1.ext (e2.trans e3), s3, q3, fun z S4 w H4 q4 s4 r4 e4 => k _ _ _ _ q4 s4 r4 (e1.trans (e2.trans (e3.trans e4)))⟩
def dSub (to ti : DTE) : DTG := fun d env S R => to env S fun o S1 => ti env S1 fun i S2 => ∃ a ds k j, o = .ref a ∧ i = .int k ∧ S2 a = some (.lst ds) ∧ ixN ds.length k = some j ∧ R env (S2.put a (.lst (ds.set j d)))
theorem dg_sub {o i : Expr} {to ti : DTE} (ho : DE X o to) (hi : DE X i ti)
    (ha : ∀ v, assign (.Subscript o i pos) X.env v = (do
      let ov ← holding [v] (eval o X.env)
      let iv ← holding [v, ov] (eval i X.env)
      standAt pos
      holding [v, ov, iv] (setItem ov iv v)
      release [v, ov, iv] []) := by intro _; rfl) : DG X true [] (.Subscript o i pos) (dSub to ti) := by
  refine ⟨(pg_sub ho.run hi.run set_list ha).of fun v σ H Q ⟨d, env, S, R, r, rs, h, k⟩ => ⟨env, S, _, rs, h, fun o S1 ov H1 q1 s1 r1 e1 => ⟨env, S1, _, rs.ext e1 s1, q1, fun i S2 iv H2 q2 s2 r2 e2 => ?_⟩⟩⟩
  obtain ⟨a, ds, kk, j, rfl, rfl, hs, hj, q⟩ := q2
  cases r1
  cases r2
  obtain ⟨vs, h1, q1⟩ := s2.lst hs
  have rd : RD X.kk H d v := by
    rcases r with r | ⟨z, _⟩
    · exact r
    · cases z
  refine ⟨a, vs, kk, j, rfl, rfl, h1, by rw [← q1.length]; exact hj, ?_⟩
  have e3 : Ext H2 (upd H2 a (.lst (vs.set j v))) := .put h1 trivial
  have e := e1.trans (e2.trans e3)
  exact k _ _ _ _ q (rs.ext e (s2.put h1 trivial ⟨_, upd_same, (q1.set (rd.ext (e1.trans e2)) j).ext e3⟩)) e (.refl _ _)
/-- x in seq, as data -/
def rInq (n : Bool) : DR2 := fun x y S R => ∃ p ps, Py S x p ∧ (Py S y (.list ps) ∨ Py S y (.tuple ps)) ∧ SeqAt.shaped p = true ∧ SeqAt.shaped (.tuple ps) = true ∧ SeqAt.shaped (.list ps) = true ∧ R (.bl ((ps.any fun z => PyData.eqv z p) ^^ n)) S
end
end Sv
namespace Sv
open PySem PySem.Spec PyProof.Rows L2
section
variable {X : Cx} {a b e : Expr} {es : List Expr} {ta tb te : DTE} {tl : DTA} {pos : Pos}
theorem o_in (hu : X.A.units + 65 < cLine) : OpR X (compareOp .In) (l2 X.kk (rInq false)) := by
  intro pins s σ H x y v u Q I rx ry ⟨d, e, S, R, r1, r2, s1, ⟨p, ps, h1, h2, h3, h4, h5, q⟩, k⟩
  rw [xor_ff] at q
  have fin := k _ _ _ _ q s1 (.bl _) (.refl H)
  obtain ⟨as, ra⟩ := Dp.reads I p x v (h1.dp s1 r1) rx
  rcases h2 with h2 | h2
  · exact op_inD hu pins s σ H _ _ v u Q I rx ry ⟨p, ps, h1.dp s1 r1, h2.dp s1 r2, h3, h5, fin⟩
  · obtain ⟨bs, rb⟩ := Dp.reads I (.tuple ps) y u (h2.dp s1 r2) ry
    exact SeqAt.in_tuple_reads rb ra (SeqAt.canLay_of_shaped h4) (SeqAt.canLay_of_shaped h3) (room_in_shaped h3 hu) ⟨.bl _, H, I, rfl, fin⟩
theorem o_nin (hu : X.A.units + 65 < cLine) : OpR X (compareOp .NotIn) (l2 X.kk (rInq true)) := by
  intro pins s σ H x y v u Q I rx ry ⟨d, e, S, R, r1, r2, s1, ⟨p, ps, h1, h2, h3, h4, h5, q⟩, k⟩
  rw [xor_tt] at q
  have fin := k _ _ _ _ q s1 (.bl _) (.refl H)
  obtain ⟨as, ra⟩ := Dp.reads I p x v (h1.dp s1 r1) rx
  rcases h2 with h2 | h2
  · exact op_notInD hu pins s σ H _ _ v u Q I rx ry ⟨p, ps, h1.dp s1 r1, h2.dp s1 r2, h3, h5, fin⟩
  · obtain ⟨bs, rb⟩ := Dp.reads I (.tuple ps) y u (h2.dp s1 r2) ry
    exact SeqAt.notIn_tuple_reads rb ra (SeqAt.canLay_of_shaped h4) (SeqAt.canLay_of_shaped h3) (room_in_shaped h3 hu) ⟨.bl _, H, I, rfl, fin⟩
def rLen : DRC := fun ds S R => ∃ d xs, ds = [d] ∧ seqOf S d = some xs ∧ R (.int xs.length) S
theorem b_len : CallR X (.builtin "len") (lC X.kk rLen) := by
  intro pins s σ H vs us Q I r ⟨ds, S, R, r1, s1, ⟨d, xs, hd, hx, q⟩, k⟩
  subst hd
  obtain ⟨v, rfl, rv⟩ := r1.inv1
  obtain ⟨p, ws, rfl, hq, rw'⟩ := seq_rel s1 rv hx
  refine call_len pins s σ H _ us Q I r ⟨.ref p, ws.length, rfl, ?_, ?_⟩
  · rcases hq with hq | hq
    · exact .inl ⟨ws, hq, rfl⟩
    · exact .inr ⟨ws, hq, rfl⟩
  · rw [← rw'.length]
    exact k _ _ _ _ q s1 (.int _) (.refl H)
def rAbs : DRC := fun ds S R => ∃ i, ds = [.int i] ∧ R (.int (if i < 0 then -i else i)) S
theorem b_abs : CallR X (.builtin "abs") (lC X.kk rAbs) := by
  intro pins s σ H vs us Q I r ⟨ds, S, R, r1, s1, ⟨i, hd, q⟩, k⟩
  subst hd
  obtain ⟨v, rfl, rv⟩ := r1.inv1
  cases rv
  exact call_abs pins s σ H _ us Q I r ⟨i, rfl, k _ _ _ _ q s1 (.int _) (.refl H)⟩
def rInt : DRC := fun ds S R => ∃ d, ds = [d] ∧ match d with
  | .int i => R (.int i) S
  | .bl b => R (.int (if b then 1 else 0)) S
  | _ => False
theorem b_int : CallR X (.type "int") (lC X.kk rInt) := by
  intro pins s σ H vs us Q I r ⟨ds, S, R, r1, s1, ⟨d, hd, q⟩, k⟩
  subst hd
  obtain ⟨v, rfl, rv⟩ := r1.inv1
  cases rv with
  | int i => exact call_int1 pins s σ H _ us Q I r (.inl ⟨i, rfl, k _ _ _ _ q s1 (.int _) (.refl H)⟩)
  | bl b => exact call_int1 pins s σ H _ us Q I r (.inr ⟨b, rfl, k _ _ _ _ q s1 (.int _) (.refl H)⟩)
  | _ => exact q.elim
def rMax2 : DRC := fun ds S R => ∃ i j, ds = [.int i, .int j] ∧ R (.int (if j > i then j else i)) S
def rMin2 : DRC := fun ds S R => ∃ i j, ds = [.int i, .int j] ∧ R (.int (if j < i then j else i)) S
theorem b_max2 (hc : X.calm = true) : CallR X (.builtin "max") (lC X.kk rMax2) := by
  intro pins s σ H vs us Q I r ⟨ds, S, R, r1, s1, ⟨i, j, hd, q⟩, k⟩
  subst hd
  obtain ⟨v, u, rfl, rv, ru⟩ := r1.inv2
  cases rv
  cases ru
  exact call_max2 hc pins s σ H _ us Q I r ⟨i, j, rfl, k _ _ _ _ q s1 (.int _) (.refl H)⟩
theorem b_min2 (hc : X.calm = true) : CallR X (.builtin "min") (lC X.kk rMin2) := by
  intro pins s σ H vs us Q I r ⟨ds, S, R, r1, s1, ⟨i, j, hd, q⟩, k⟩
  subst hd
  obtain ⟨v, u, rfl, rv, ru⟩ := r1.inv2
  cases rv
  cases ru
  exact call_min2 hc pins s σ H _ us Q I r ⟨i, j, rfl, k _ _ _ _ q s1 (.int _) (.refl H)⟩
def rListq : DRC := fun ds S R => ∃ d xs, ds = [d] ∧ seqOf S d = some xs ∧ ∀ p, S p = none → R (.ref p) (S.put p (.lst xs))
theorem b_list : CallR X (.type "list") (lC X.kk rListq) := by
  intro pins s σ H vs us Q I r ⟨ds, S, R, r1, s1, ⟨d, xs, hd, hx, q⟩, k⟩
  subst hd
  obtain ⟨v, rfl, rv⟩ := r1.inv1
  obtain ⟨p, ws, rfl, hq, rw'⟩ := seq_rel s1 rv hx
  exact call_list_of pins s σ H _ us Q I r ⟨p, ws, rfl, hq, fun l nl => k _ _ _ _ (q l (s1.fresh nl)) (s1.lay nl ⟨_, upd_same, rw'.ext (.new nl)⟩) (.ref l) (.new nl)⟩
def rTupq : DRC := fun ds S R => ∃ d xs, ds = [d] ∧ seqOf S d = some xs ∧ (∀ ys, d ≠ .wtup ys) ∧ R (.tup xs) S
theorem b_tuple : CallR X (.type "tuple") (lC X.kk rTupq) := by
  intro pins s σ H vs us Q I r ⟨ds, S, R, r1, s1, ⟨d, xs, hd, hx, hw, q⟩, k⟩
  subst hd
  obtain ⟨v, rfl, rv⟩ := r1.inv1
  cases rv with
  | wtup t qq => exact absurd rfl (hw _)
  | tup t qq =>
    cases hx
    exact call_tuple_of pins s σ H _ us Q I r ⟨_, _, rfl, .inr ⟨t.sqT, k _ _ _ _ q s1 (.tup t qq) (.refl H)⟩⟩
  | rol t qq =>
    cases hx
    exact call_tupleF pins s σ H _ us Q I r ⟨_, _, rfl, t.sqL, fun l o nl ho => k _ _ _ _ q (s1.new nl) (.tup (.new ho) (qq.ext (.new nl))) (.new nl)⟩
  | ref a =>
    obtain ⟨ws, h1, qq⟩ := s1.lst (seqOf_ref hx)
    exact call_tupleF pins s σ H _ us Q I r ⟨_, _, rfl, .of h1, fun l o nl ho => k _ _ _ _ q (s1.new nl) (.tup (.new ho) (qq.ext (.new nl))) (.new nl)⟩
  | _ => cases hx
def intsD (ns : List Int) : List D := ns.map D.int
/-- the greatest, the least of a list or a tuple of ints -/
def rMax1 : DRC := fun ds S R => ∃ d ns, ds = [d] ∧ seqOf S d = some (intsD ns) ∧ 0 < ns.length ∧ ∀ m, m ∈ ns → (∀ y, y ∈ ns → y ≤ m) → R (.int m) S
def rMin1 : DRC := fun ds S R => ∃ d ns, ds = [d] ∧ seqOf S d = some (intsD ns) ∧ 0 < ns.length ∧ ∀ m, m ∈ ns → (∀ y, y ∈ ns → m ≤ y) → R (.int m) S
theorem b_max1 (hc : X.calm = true) : CallR X (.builtin "max") (lC X.kk rMax1) := by
  intro pins s σ H vs us Q I r ⟨ds, S, R, r1, s1, ⟨d, ns, hd, hx, hn, q⟩, k⟩
  subst hd
  obtain ⟨v, rfl, rv⟩ := r1.inv1
  obtain ⟨p, ws, rfl, hq, rw'⟩ := seq_rel s1 rv hx
  cases (RDs.ints_inv rw')
  rcases hq with hq | hq
  · exact cr_max hc pins s σ H _ us Q I r ⟨p, ns, rfl, hq, hn, fun m h1 h2 => k _ _ _ _ (q m h1 h2) s1 (.int _) (.refl H)⟩
  · exact cr_maxT hc pins s σ H _ us Q I r ⟨p, ns, rfl, hq, hn, fun m h1 h2 => k _ _ _ _ (q m h1 h2) s1 (.int _) (.refl H)⟩
theorem b_min1 (hc : X.calm = true) : CallR X (.builtin "min") (lC X.kk rMin1) := by
  intro pins s σ H vs us Q I r ⟨ds, S, R, r1, s1, ⟨d, ns, hd, hx, hn, q⟩, k⟩
  subst hd
  obtain ⟨v, rfl, rv⟩ := r1.inv1
  obtain ⟨p, ws, rfl, hq, rw'⟩ := seq_rel s1 rv hx
  cases (RDs.ints_inv rw')
  rcases hq with hq | hq
  · exact cr_min hc pins s σ H _ us Q I r ⟨p, ns, rfl, hq, hn, fun m h1 h2 => k _ _ _ _ (q m h1 h2) s1 (.int _) (.refl H)⟩
  · exact cr_minT hc pins s σ H _ us Q I r ⟨p, ns, rfl, hq, hn, fun m h1 h2 => k _ _ _ _ (q m h1 h2) s1 (.int _) (.refl H)⟩
def rSorted1 : DRC := fun ds S R => ∃ d ns, ds = [d] ∧ seqOf S d = some (intsD ns) ∧ ((∀ xs, d ≠ .tup xs) ∧ ∀ xs, d ≠ .wtup xs) ∧ ns.length < 64 ∧ ∀ (ns' : List Int) (p : Addr), ns'.Perm ns → ns'.Pairwise (· ≤ ·) → S p = none → R (.ref p) (S.put p (.lst (intsD ns')))
theorem b_sorted : CallR X (.builtin "sorted") (lC X.kk rSorted1) := by
  intro pins s σ H vs us Q I r ⟨ds, S, R, r1, s1, ⟨d, ns, hd, hx, ht, hn, q⟩, k⟩
  subst hd
  obtain ⟨v, rfl, rv⟩ := r1.inv1
  cases rv with
  | tup t qq => exact absurd rfl (ht.1 _)
  | wtup t qq => exact absurd rfl (ht.2 _)
  | rol t qq =>
    cases hx
    cases (RDs.ints_inv qq)
    exact cr_sorted pins s σ H _ us Q I r ⟨_, ns, rfl, t.sqL, hn, fun ns' p h1 h2 np => k _ _ _ _ (q ns' p h1 h2 (s1.fresh np)) (s1.lay np ⟨_, upd_same, .ints ns'⟩) (.ref p) (.new np)⟩
  | ref a =>
    obtain ⟨ws, h1, qq⟩ := s1.lst (seqOf_ref hx)
    cases (RDs.ints_inv qq)
    exact cr_sorted pins s σ H _ us Q I r ⟨_, ns, rfl, .of h1, hn, fun ns' p h1 h2 np => k _ _ _ _ (q ns' p h1 h2 (s1.fresh np)) (s1.lay np ⟨_, upd_same, .ints ns'⟩) (.ref p) (.new np)⟩
  | _ => cases hx
theorem RDs.bls_inv {K : KK} {H : Hp} : ∀ {bs : List Bool} {vs : List V}, RDs K H (bs.map D.bl) vs → vs = bs.map V.bl
  | [], _, .nil => rfl
  | n :: r, _, .cons (.bl _) t => by rw [RDs.bls_inv t]; rfl
def rAnyq (f : List Bool → Bool) : DRC := fun ds S R => ∃ a bs, ds = [.ref a] ∧ S a = some (.lst (bs.map D.bl)) ∧ R (.bl (f bs)) S
theorem b_any (hc : X.calm = true) : CallR X (.builtin "any") (lC X.kk (rAnyq fun bs => bs.any id)) := by
  intro pins s σ H vs us Q I r ⟨ds, S, R, r1, s1, ⟨a, bs, hd, hx, q⟩, k⟩
  subst hd
  obtain ⟨v, rfl, rv⟩ := r1.inv1
  cases rv
  obtain ⟨ws, h1, qq⟩ := s1.lst hx
  cases (RDs.bls_inv qq)
  exact cr_any hc pins s σ H _ us Q I r ⟨a, bs, rfl, .of h1, k _ _ _ _ q s1 (.bl _) (.refl H)⟩
theorem b_all (hc : X.calm = true) : CallR X (.builtin "all") (lC X.kk (rAnyq fun bs => bs.all id)) := by
  intro pins s σ H vs us Q I r ⟨ds, S, R, r1, s1, ⟨a, bs, hd, hx, q⟩, k⟩
  subst hd
  obtain ⟨v, rfl, rv⟩ := r1.inv1
  cases rv
  obtain ⟨ws, h1, qq⟩ := s1.lst hx
  cases (RDs.bls_inv qq)
  exact cr_all hc pins s σ H _ us Q I r ⟨a, bs, rfl, .of h1, k _ _ _ _ q s1 (.bl _) (.refl H)⟩
/-- data whose text may be made -/
structure Text (p : PyData) : Prop where
  dis : isDisplay p = true
  sho : p.showable = true
  nod : p.hasDict = false
  dep : p.depth ≤ 60
  len : p.shown.length ≤ sizeLine
def rRepr : DRC := fun ds S R => ∃ d p, ds = [d] ∧ Py S d p ∧ Text p ∧ R (.str p.shown) S
theorem b_repr (hgd : X.A.guards = some []) (hu : X.A.units + 64 < cLine) : CallR X (.builtin "repr") (lC X.kk rRepr) := by
  intro pins s σ H vs us Q I r ⟨ds, S, R, r1, s1, ⟨d, p, hd, hp, ht, q⟩, k⟩
  subst hd
  obtain ⟨v, rfl, rv⟩ := r1.inv1
  exact call_repr hgd hu pins s σ H _ us Q I r ⟨v, p, rfl, ⟨hp.dp s1 rv, ht.dis, ht.sho, ht.nod, ht.dep, ht.len⟩, k _ _ _ _ q s1 (.str _) (.refl H)⟩
def dMtq (T : String) (r : DRM) (to : DTE) (t : DTA) : DTE := fun env S R => to env S fun x S1 => (T = "list" ∧ ∃ xs, seqOf S1 x = some xs ∧ (∀ ds, x ≠ .tup ds) ∧ ∀ ds, x ≠ .wtup ds) ∧ t env S1 fun ds S2 => r x ds S2 R
theorem de_mL {r : DRM} {name : Str} {id : String} {o : Expr} {to : DTE} {apos cpos : Pos} (slot : Slot "list" name id) (hty : typeOf (.builtin id) = pure (.type "method_descriptor")) (hm : MtR X id (lM X.kk r)) (ho : DE X o to) (ha : DA X (e :: es) tl)
    (hbase : attributeBase o name X.env (eval o X.env) = eval o X.env := by rfl)
    (hfew : ((backTo cpos (starEach (e :: es) X.env)).all (fun x => !x.1) && (backToKw cpos (keywordEach [] X.env)).all (fun x => x.1.isSome)
      && decide ((e :: es).length + ([] : List Keyword).length + (if ([] : List Keyword).isEmpty then 0 else 1) < 30)) = true := by rfl)
    (hline : (apos.endLine == cpos.line) = true := by rfl) (hs : starEach (e :: es) X.env = (false, eval e X.env) :: starEach es X.env := by rfl) (hplain : (backTo cpos (starEach es X.env)).any (·.1) = false := by rfl) :
    DE X (.Call (.Attribute o name apos) (e :: es) [] cpos) (dMtq "list" r to tl) := by
  refine ⟨(pe_bm PySem.F.plainAttrs_list slot hty hm ho.run ha.run hbase hfew hline hs hplain).of fun σ H Q ⟨env, S, R, rs, h, k⟩ => ⟨env, S, _, rs, h, fun x S1 v H1 ⟨⟨_, xs, hx, hn⟩, q⟩ s1 r1 e1 => ⟨?_, env, S1, _, rs.ext e1 s1, q, fun ds S2 vs H2 q2 s2 r2 e2 => ?_⟩⟩⟩
  · cases r1 with
    | tup t qq => exact absurd rfl (hn.1 _)
    | wtup t qq => exact absurd rfl (hn.2 _)
    | rol t qq => exact .inl ⟨rfl, _, t.sqL⟩
    | ref a =>
      obtain ⟨ws, h1, _⟩ := s1.lst (seqOf_ref hx)
      exact .inl ⟨rfl, _, .of h1⟩
    | _ => cases hx
  · exact ⟨x, ds, S2, R, r1.ext e2, r2, s2, q2, fun z S3 w H3 q3 s3 r3 e3 => k _ _ _ _ q3 s3 r3 (e1.trans (e2.trans e3))⟩
def dMtT (r : DRM) (to : DTE) (t : DTA) : DTE := fun env S R => to env S fun x S1 => (∃ xs, x = .tup xs) ∧ t env S1 fun ds S2 => r x ds S2 R
theorem de_mT {r : DRM} {name : Str} {id : String} {o : Expr} {to : DTE} {apos cpos : Pos} (slot : Slot "tuple" name id) (hty : typeOf (.builtin id) = pure (.type "method_descriptor")) (hm : MtR X id (lM X.kk r)) (ho : DE X o to) (ha : DA X (e :: es) tl)
    (hbase : attributeBase o name X.env (eval o X.env) = eval o X.env := by rfl)
    (hfew : ((backTo cpos (starEach (e :: es) X.env)).all (fun x => !x.1) && (backToKw cpos (keywordEach [] X.env)).all (fun x => x.1.isSome)
      && decide ((e :: es).length + ([] : List Keyword).length + (if ([] : List Keyword).isEmpty then 0 else 1) < 30)) = true := by rfl)
    (hline : (apos.endLine == cpos.line) = true := by rfl) (hs : starEach (e :: es) X.env = (false, eval e X.env) :: starEach es X.env := by rfl) (hplain : (backTo cpos (starEach es X.env)).any (·.1) = false := by rfl) :
    DE X (.Call (.Attribute o name apos) (e :: es) [] cpos) (dMtT r to tl) := by
  refine ⟨(pe_tm slot hty hm ho.run ha.run hbase hfew hline hs hplain).of fun σ H Q ⟨env, S, R, rs, h, k⟩ => ⟨env, S, _, rs, h, fun x S1 v H1 ⟨⟨xs, hx⟩, q⟩ s1 r1 e1 => ⟨?_, env, S1, _, rs.ext e1 s1, q, fun ds S2 vs H2 q2 s2 r2 e2 => ?_⟩⟩⟩
  · subst hx
    cases r1 with
    | tup t qq => exact ⟨_, _, rfl, t⟩
  · exact ⟨x, ds, S2, R, r1.ext e2, r2, s2, q2, fun z S3 w H3 q3 s3 r3 e3 => k _ _ _ _ q3 s3 r3 (e1.trans (e2.trans e3))⟩
def mAppend : DRM := fun x ds S R => ∃ l xs y, x = .ref l ∧ ds = [y] ∧ S l = some (.lst xs) ∧ xs.length < 1000000 ∧ R .non (S.put l (.lst (xs ++ [y])))
theorem m_append : MtR X "list.append" (lM X.kk mAppend) := by
  intro pins s σ H x vs v us Q I rx rv ⟨d, ds, S, R, r1, r2, s1, ⟨l, xs, y, hd, hds, hx, hl, q⟩, k⟩
  subst hd hds
  cases r1
  obtain ⟨w, rfl, rw'⟩ := r2.inv1
  obtain ⟨ws, h3, h4, s7, e7⟩ := app_rel s1 hx hl rw'
  exact mt_append pins s σ H _ _ v us Q I rx rv ⟨l, ws, w, rfl, rfl, h3, h4, k _ _ _ _ q s7 .non e7⟩
def mExtend : DRM := fun x ds S R => ∃ l b xs zs, x = .ref l ∧ ds = [.ref b] ∧ S l = some (.lst xs) ∧ S b = some (.lst zs) ∧ xs.length + zs.length ≤ 100000 ∧ R .non (S.put l (.lst (xs ++ zs)))
theorem m_extend : MtR X "list.extend" (lM X.kk mExtend) := by
  intro pins s σ H x vs v us Q I rx rv ⟨d, ds, S, R, r1, r2, s1, ⟨l, b, xs, zs, hd, hds, hx, hz, hl, q⟩, k⟩
  subst hd hds
  cases r1
  obtain ⟨w, rfl, rw'⟩ := r2.inv1
  cases rw'
  obtain ⟨ws, h3, q3⟩ := s1.lst hx
  obtain ⟨us', h4, q4⟩ := s1.lst hz
  have e : Ext H (upd H l (.lst (ws ++ us'))) := .put h3 trivial
  exact mt_extend pins s σ H _ _ v us Q I rx rv ⟨l, b, ws, us', rfl, rfl, h3, h4, by rw [← q3.length, ← q4.length]; exact big5 hl, k _ _ _ _ q (s1.put h3 trivial ⟨_, upd_same, (q3.append q4).ext e⟩) .non e⟩
def mPopAt : DRM := fun x ds S R => ∃ l xs i j y, x = .ref l ∧ ds = [.int i] ∧ S l = some (.lst xs) ∧ -(2 ^ 63) ≤ i ∧ i < 2 ^ 63 ∧ seqIndex? i xs.length = some j ∧ xs[j]? = some y ∧ R y (S.put l (.lst (xs.eraseIdx j)))
theorem m_popAt : MtR X "list.pop" (lM X.kk mPopAt) := by
  intro pins s σ H x vs v us Q I rx rv ⟨d, ds, S, R, r1, r2, s1, ⟨l, xs, i, j, y, hd, hds, hx, h1, h2, hj, hy, q⟩, k⟩
  subst hd hds
  cases r1
  obtain ⟨w, rfl, rw'⟩ := r2.inv1
  cases rw'
  obtain ⟨ws, h3, q3⟩ := s1.lst hx
  obtain ⟨z, hz, rz⟩ := q3.at hy
  have e : Ext H (upd H l (.lst (ws.eraseIdx j))) := .put h3 trivial
  exact mt_popAt pins s σ H _ _ v us Q I rx rv ⟨l, ws, i, j, z, rfl, rfl, h3, h1, h2, q3.length ▸ hj, hz, k _ _ _ _ q (s1.put h3 trivial ⟨_, upd_same, (q3.eraseIdx j).ext e⟩) (rz.ext e) e⟩
def mTcount : DRM := fun x ds S R => ∃ ns k, x = .tup (intsD ns) ∧ ds = [.int k] ∧ R (.int (ns.count k : Nat)) S
theorem m_tcount (hu : X.A.units + 64 < cLine) : MtR X "tuple.count" (lM X.kk mTcount) := by
  intro pins s σ H x vs v us Q I rx rv ⟨d, ds, S, R, r1, r2, s1, ⟨ns, kk, hd, hds, q⟩, k⟩
  subst hd hds
  cases r1 with
  | tup t qq =>
    obtain ⟨w, rfl, rw'⟩ := r2.inv1
    cases rw'
    cases (RDs.ints_inv qq)
    exact mt_tcount hu pins s σ H _ _ v us Q I rx rv ⟨_, ns, kk, rfl, rfl, t.sqT, k _ _ _ _ q s1 (.int _) (.refl H)⟩
end
end Sv
namespace Sv
open PySem PySem.Spec PyProof.Rows L2
theorem dv {X : Cx} (i : Nat) {x : Str} {pos : Pos} (hN : X.N[i]? = some x := by rfl) (hv : Vis X.env.scope x := by first | exact Or.inl rfl | exact Or.inr (Or.inl rfl) | exact Or.inr (Or.inr rfl)) (hd : (x == ("__debug__" : Str)) = false := by decide)
    (hcd : (x == ("__classdict__" : Str)) = false := by decide) : DE X (.Name x pos) (dVar i) := de_var hN hv hd hcd
section
variable {X : Cx} {a b c e : Expr} {ta tb tc te : DTE} {pos : Pos}
def rNeg : DR1 := fun d S R => match d with
  | .int i => R (.int (-i)) S
  | _ => False
theorem o_neg : UnR X (unaryOp .USub) (l1 X.kk rNeg) := by
  intro pins s σ H x v Q I rx ⟨d, S, R, r1, s1, h, k⟩
  cases r1 with
  | int i => exact un_neg pins s σ H _ v Q I rx ⟨i, rfl, k _ _ _ _ h s1 (.int _) (.refl H)⟩
  | _ => exact h.elim
/-- a op b op c -/
def dChain (r r' : DR2) (ta tb tc : DTE) : DTE := fun env S R => ta env S fun x S1 => tb env S1 fun y S2 => r x y S2 fun z S3 => ∃ k, z = .bl k ∧ if k = true then tc env S3 fun w S4 => r' y w S4 R else R (.bl false) S3
theorem de_chain {op op' : CmpOp} {r r' : DR2} (ho : OpR X (compareOp op) (l2 X.kk r)) (ho' : OpR X (compareOp op') (l2 X.kk r')) (ha : DE X a ta) (hb : DE X b tb) (hc : DE X c tc)
    (hm : lastMarks [op, op'] [b, c] = false := by with_unfolding_all rfl) : DE X (.Compare a [op, op'] [b, c] pos) (dChain r r' ta tb tc) := by
  refine ⟨(pe_chain ho ho' ha.run hb.run hc.run hm).of fun σ H Q ⟨env, S, R, rs, h, k⟩ => ⟨env, S, _, rs, h, fun x S1 v H1 q1 s1 r1 e1 => ⟨env, S1, _, rs.ext e1 s1, q1, fun y S2 u H2 q2 s2 r2 e2 => ⟨x, y, S2, _, r1.ext e2, r2, s2, q2, fun z S3 w H3 ⟨kk, hz, q3⟩ s3 r3 e3 => ?_⟩⟩⟩⟩
  subst hz
  cases r3
  refine ⟨kk, rfl, ?_⟩
  cases kk with
  | false => exact k _ _ _ _ q3 s3 (.bl _) (e1.trans (e2.trans e3))
  | true => exact ⟨env, S3, _, rs.ext (e1.trans (e2.trans e3)) s3, q3, fun w S4 t H4 q4 s4 r4 e4 => ⟨y, w, S4, R, r2.ext (e3.trans e4), r4, s4, q4, fun z S5 t H5 q5 s5 r5 e5 => k _ _ _ _ q5 s5 r5 (e1.trans (e2.trans (e3.trans (e4.trans e5))))⟩⟩
/-- list(range(n)) -/
def dLRg1 (te : DTE) : DTE := fun env S R => te env S fun d S1 => ∃ n : Int, d = .int n ∧ 0 ≤ n ∧ n ≤ 1000 ∧ ∀ p, S1 p = none → R (.ref p) (S1.put p (.lst (rgD 0 n.toNat)))
def dLRg2 (ta tb : DTE) : DTE := fun env S R => ta env S fun d S1 => tb env S1 fun e S2 => ∃ m n : Int, d = .int m ∧ e = .int n ∧ -1000 ≤ m ∧ m ≤ 1000 ∧ -1000 ≤ n ∧ n ≤ 1000 ∧ ∀ p, S2 p = none → R (.ref p) (S2.put p (.lst (rgD m (n - m).toNat)))
theorem rg_rel {K : KK} {H : Hp} {lo : Int} : ∀ {n : Nat}, RDs K H (rgD lo n) ((List.range n).map fun i => V.int (lo + (i : Nat))) := by
  intro n
  unfold rgD
  induction List.range n with
  | nil => exact .nil
  | cons i r ih => exact .cons (.int _) ih
theorem rg_relV {K : KK} {H : Hp} {m n : Int} : RDs K H (rgD m (n - m).toNat) (rgV m n) := rg_rel
theorem de_listRg1 {p p2 pos2 : Pos} (hc : X.calm = true) (hg : Gl X "list") (hm : X.mg "list" = none) (hg2 : Gl X "range") (hm2 : X.mg "range" = none) (ha : DE X a ta) (na : starEach [a] X.env = (false, eval a X.env) :: starEach [] X.env := by rfl)
    (nb : starEach [.Call (.Name "range" p2) [a] [] pos2] X.env = (false, eval (.Call (.Name "range" p2) [a] [] pos2) X.env) :: starEach [] X.env := by rfl) : DE X (.Call (.Name "list" p) [.Call (.Name "range" p2) [a] [] pos2] [] pos) (dLRg1 ta) := by
  refine ⟨(pe_listRg hc hg hm (prg_1 hg2 hm2 ha.run na) nb).of fun σ H Q ⟨env, S, R, rs, h, k⟩ => ⟨env, S, _, rs, h, fun d S1 v H1 ⟨n, hd, h0, hn, q⟩ s1 r1 e1 => ?_⟩⟩
  subst hd
  cases r1
  refine ⟨n, rfl, ⟨by decide, by decide, by omega, by omega, by omega⟩, fun p np => k _ _ _ _ (q p (s1.fresh np)) (s1.lay np ⟨_, upd_same, ?_⟩) (.ref p) (e1.trans (.new np))⟩
  have := rg_relV (K := X.kk) (H := upd H1 p (.lst (rgV 0 n))) (m := 0) (n := n)
  rw [Int.sub_zero] at this
  exact this
theorem de_listRg2 {p p2 pos2 : Pos} (hc : X.calm = true) (hg : Gl X "list") (hm : X.mg "list" = none) (hg2 : Gl X "range") (hm2 : X.mg "range" = none) (ha : DE X a ta) (hb : DE X b tb) (na : starEach [a, b] X.env = (false, eval a X.env) :: starEach [b] X.env := by rfl) (na2 : starEach [b] X.env = (false, eval b X.env) :: starEach [] X.env := by rfl) (hp : (backTo pos2 (starEach [b] X.env)).any (fun x => x.1) = false := by rfl)
    (nb : starEach [.Call (.Name "range" p2) [a, b] [] pos2] X.env = (false, eval (.Call (.Name "range" p2) [a, b] [] pos2) X.env) :: starEach [] X.env := by rfl) : DE X (.Call (.Name "list" p) [.Call (.Name "range" p2) [a, b] [] pos2] [] pos) (dLRg2 ta tb) := by
  refine ⟨(pe_listRg hc hg hm (prg_2 hg2 hm2 ha.run hb.run na na2 hp) nb).of fun σ H Q ⟨env, S, R, rs, h, k⟩ => ⟨env, S, _, rs, h, fun d S1 v H1 q1 s1 r1 e1 => ⟨env, S1, _, rs.ext e1 s1, q1, fun e S2 u H2 ⟨m, n, hd, he, h0, h1, hn0, hn, q⟩ s2 r2 e2 => ?_⟩⟩⟩
  subst hd he
  cases r1
  cases r2
  refine ⟨m, n, rfl, rfl, ⟨by omega, by omega, by omega, by omega, by omega⟩, fun p np => k _ _ _ _ (q p (s2.fresh np)) (s2.lay np ⟨_, upd_same, rg_relV⟩) (.ref p) (e1.trans (e2.trans (.new np)))⟩
end
def dStart (n : Nat) (ds : List D) : Env := ds.map some ++ List.replicate (n - ds.length) none
def dFn (n : Nat) (B : DTS) : DRC := fun ds S R => B { nx := fun _ S' => R .non S', rt := R } (dStart n ds) S
section
variable {P : Program} {w : World} {K : PySem.W.Frag} {mg : Str → Option Value} {base : Heap}
theorem rs_start {K : KK} {H : Hp} {S : Sto} {N : List Str} {ds : List D} {vs : List V} (r : RDs K H ds vs) (s : RelS K S H) : RS K (L2.start N vs) H (dStart N.length ds) S := by
  have hl := r.length
  refine ⟨by unfold dStart L2.start; rw [List.length_append, List.length_append, List.length_map, List.length_map, List.length_replicate, List.length_replicate, hl], fun i d h => ?_, s⟩
  unfold dStart at h
  unfold L2.start
  by_cases hi : i < ds.length
  · rw [List.getElem?_append_left (by simpa using hi), List.getElem?_map] at h
    have hd : ds[i]? = some d := by
      cases e : ds[i]? with
      | none => rw [e] at h; cases h
      | some a => rw [e] at h; cases h; rfl
    obtain ⟨v, hv, rv⟩ := r.at hd
    exact ⟨v, by rw [List.getElem?_append_left (by rw [List.length_map]; omega), List.getElem?_map, hv]; rfl, rv⟩
  · rw [List.getElem?_append_right (by simpa using hi), List.getElem?_replicate] at h
    split at h <;> cases h
theorem fn_d {x : Str} {st : Stmt} {f : Addr} {fd : FuncData} {N ps : List Str} {k n : Nat} {B : DTS} (F : Fun K x x st f fd) (Sc : FnScope N ps (defScope st)) (hn : ps.length = n)
    (hbody : ∀ (cdv : Value) (A : Around) (outer : List PySem.Env) (s : Shared) (H : Hp) (E : XK), A.guards = some [] → Room k (A.deeper (envOfC x (defScope st) s.heap.objs.size f cdv)) →
      DSs (cxOf CX0 P w K mg base N x (defScope st) f cdv A outer s H E).nox (defBody st) B) : FnG P w K mg base (k + 1) f fd ps (lP ⟨P, w, K⟩ n (dFn N.length B)) := by
  refine okG F Sc (fun vs H Q E h => by rw [hn]; exact h.1) fun cdv A outer s H vs Q E hg hr h => ⟨_, (hbody cdv A outer s H E hg hr).run, ?_⟩
  obtain ⟨_, ds, S, R, r, s1, q, k⟩ := h
  exact ⟨_, S, _, rs_start r s1, q, fun env' S' σ' H' q' r' e' => k _ _ _ _ q' r'.sto .non e', fun d S' v H' q' s' r' e' => k _ _ _ _ q' s' r' e', fun _ _ _ _ q' => q'.elim, fun _ _ _ _ q' => q'.elim⟩
theorem DFn.mk' {k n : Nat} {x : Str} {r : DRC} {f : Addr} {fd : FuncData} {ps : List Str} (F : FnG P w K mg base k f fd ps (lP ⟨P, w, K⟩ n r)) (hm : mg x = some (.ref f)) (hk : PySem.W.keepIn K (.ref f) = true) (hb : Binds K fd ps []) : DFn P w K mg base k x n r :=
  ⟨f, fd, ps, F, hm, hk, hb⟩
theorem lP_law {K : KK} {H : Hp} {a : Addr} {ns : List Int} {r : DRC} (hO : Only H) (h : SqL K.k H a (ns.map V.int)) (q : r [.rol (intsD ns)] (fun _ => none) (fun d _ => d = .bl true)) : lP K 1 r [.ref a] H (fun v _ => v = .bl true) (fun _ _ _ => False) := by
  refine ⟨rfl, [.rol (intsD ns)], fun _ => none, _, .cons (.rol ?_ (.ints ns)) .nil, fun a o e => (nomatch e), q, fun z S' v H' e _ rz _ => ?_⟩
  · rcases h with h | h
    · rcases h with h | ⟨o, h⟩
      · rcases hO a with z | ⟨o, u, z⟩
        · rw [h] at z; cases z
        · rw [h] at z; cases z
      · exact .inl ⟨o, h⟩
    · exact .inr h
  · subst e
    cases rz
    rfl
end
end Sv
namespace Sv
open PySem PySem.Spec PyProof.Rows L2
section
variable {X : Cx} {pos : Pos}
def rI2 (f : Int → Int → Int) : DR2 := fun x y S R => match x, y with
  | .int i, .int j => R (.int (f i j)) S
  | _, _ => False
theorem o_ip {op : Operator} {f : Int → Int → Int} (ho : PIp X op (ipI f)) : PIp X op (l2 X.kk (rI2 f)) := by
  intro pins s σ H x y v u Q I rx ry ⟨d, e, S, R, r1, r2, s1, h, k⟩
  cases r1 with
  | int i =>
    cases r2 with
    | int j => exact ho pins s σ H _ _ v u Q I rx ry ⟨i, j, rfl, rfl, k _ _ _ _ h s1 (.int _) (.refl H)⟩
    | _ => exact h.elim
  | _ => exact h.elim
theorem o_iadd : PIp X .Add (l2 X.kk (rI2 fun i j => i + j)) := o_ip ip_add
/-- tuple * int, known to bear no dict -/
def rRepF (K : PySem.W.Frag) : R2 := fun x y H Q => ∃ l k xs, x = .ref l ∧ y = .int k ∧ SqT K H l xs ∧ xs ≠ [] ∧ 2 ≤ k ∧ k ≤ 1000 ∧ xs.length ≤ 1000 ∧ ∀ (p : Addr) (o : Obj), H p = none → o.dict = none → Q (.ref p) (upd H p (.frz o (.tup (List.replicate k.toNat xs).flatten)))
theorem op_repF : OpR X (binaryOp .Mult) (rRepF X.K) := by
  intro pins s σ H x y v u Q I rx ry h
  obtain ⟨l, k, xs, rfl, rfl, hT, hne, h1, h2, hz, q⟩ := h
  cases rx
  obtain ⟨t, rfl⟩ := ry
  obtain ⟨its, r, ⟨⟨cls, dd, data, sl⟩, ho, hc, n, hd⟩, hs⟩ := I.tuple hT
  simp only at hc hd
  subst hc hd
  have e1 : its.length = xs.length := r.length.symm
  have ne : its.toArray.isEmpty = false := by
    cases its with
    | nil => exact absurd (List.eq_nil_of_length_eq_zero e1.symm) hne
    | cons a b => rfl
  have e2 : its.toArray.size = xs.length := by rw [List.size_toArray, e1]
  have a1 : k.toNat * xs.length ≤ 1000 * 1000 := Nat.mul_le_mul (by omega) hz
  have a2 : ((xs.length : Nat) : Int) * k ≤ 1000000 := by
    have b1 : ((xs.length : Nat) : Int) * k ≤ 1000 * k := Int.mul_le_mul_of_nonneg_right (by omega) (by omega)
    omega
  have fl : (List.replicate k.toNat its).flatten.length ≤ sizeLine := by
    rw [PyProof.Rows.lm_len_rep_flat, e1, sizeLine_eq]
    omega
  have c4 : Builtin.Tuple.tupleTooMany (((its.toArray.size : Nat) : Int) * k) = false := by
    unfold Builtin.Tuple.tupleTooMany
    rw [sizeLine_eq, e2]
    exact decide_eq_false (by omega)
  refine wpAny_binaryOp_repeat_ref (T := "tuple") (U := "int") (by decide) ⟨_, ho, rfl⟩ (fun s' => typeIs_int s' k t) noFill_tuple_mul F.fills_int_mul F.slot_int_rmul repeat_tuple F.slot_int_index.lookup
    (call_meets F.slot_int_rmul (typeIs_int s k t) F.entry_int_rmul (F.args_int_rmul_2 _ _) (int_rmul_tuple k t l its.toArray n dd sl)
      ⟨ho, rfl, ⟨_, ho, rfl⟩, call_meets F.slot_tuple_mul ⟨_, ho, rfl⟩ F.entry_tuple_mul (F.args_tuple_mul_2 _ _)
        (tuple_mulW l its.toArray n dd sl k t (by rw [decide_eq_false (by omega), decide_eq_false (by omega)] <;> rfl) (by rw [ne, Bool.false_or]; exact beq_eq_false_iff_ne.mpr (by omega)) (by rw [ne, Bool.or_false]; exact decide_eq_false (by omega)) (by rw [e2]; omega) c4 (by rw [size_rep, List.size_toArray]; exact fl)) ⟨ho, ?_⟩⟩)
  rw [size_rep]
  have hg := Heap.get?_push_size s.heap (o := { cls := .type "tuple", data := .seq (List.replicate k.toNat its).flatten.toArray }) rfl
  refine ⟨.ref s.heap.objs.size, _, I.laid (t' := s.toks) (o := .frz { cls := .type "tuple", data := .seq (List.replicate k.toNat its).flatten.toArray } (.tup (List.replicate k.toNat xs).flatten)) (fun b ob q => Heap.get?_push_of_some _ q) (Nat.le_refl _) ?_, rfl, q _ _ (I.hok.fresh (Nat.le_refl _)) rfl⟩
  exact ⟨hg, by rw [PyProof.Rows.lm_len_rep_flat, sizeLine_eq]; omega, _, r.rep k.toNat, ⟨_, hg, rfl, _, rfl⟩⟩
theorem RDs.rep {K : KK} {H : Hp} {ds : List D} {vs : List V} (r : RDs K H ds vs) : ∀ n : Nat, RDs K H (List.replicate n ds).flatten (List.replicate n vs).flatten
  | 0 => .nil
  | n + 1 => by
    rw [List.replicate_succ, List.replicate_succ, List.flatten_cons, List.flatten_cons]
    exact r.append (RDs.rep r n)
theorem rep_one {α : Type} (xs : List α) : (List.replicate (1 : Int).toNat xs).flatten = xs := by
  show (List.replicate 1 xs).flatten = xs
  simp
theorem o_mul : OpR X (binaryOp .Mult) (l2 X.kk rMul) := by
  intro pins s σ H x y v u Q I rx ry ⟨d, e, S, R, r1, r2, s1, h, k⟩
  cases r1 with
  | int i =>
    cases r2 with
    | int j => exact op_mul pins s σ H _ _ v u Q I rx ry ⟨i, j, rfl, rfl, h.1, k _ _ _ _ h.2 s1 (.int _) (.refl H)⟩
    | _ => exact h.elim
  | tup t q =>
    cases r2 with
    | int j =>
      obtain ⟨hne, h1, h2, hz, qq⟩ := h
      by_cases hj : j = 1
      · subst hj
        rw [rep_one] at qq
        exact op_rep1 pins s σ H _ _ v u Q I rx ry ⟨_, _, rfl, rfl, t.sqT, k _ _ _ _ qq s1 (.tup t q) (.refl H)⟩
      · have hl := q.length
        refine op_repF pins s σ H _ _ v u Q I rx ry ⟨_, j, _, rfl, rfl, t.sqT, fun z => hne (List.eq_nil_of_length_eq_zero (by rw [hl, z]; rfl)), by omega, h2, hl ▸ hz, fun p o np ho => k _ _ _ _ qq (s1.new np) (.tup (.new ho) ((q.rep _).ext (.new np))) (.new np)⟩
    | _ => exact h.elim
  | ref a =>
    cases r2 with
    | int j =>
      obtain ⟨xs, h1, h0, hk, hz, qq⟩ := h
      obtain ⟨vs, e, q⟩ := s1.lst h1
      refine op_rep pins s σ H _ _ v u Q I rx ry ⟨a, j, vs, rfl, rfl, e, by omega, by omega, ?_, fun p np => k _ _ _ _ (qq p (s1.fresh np)) (s1.lay np ⟨_, upd_same, (q.rep _).ext (.new np)⟩) (.ref p) (.new np)⟩
      rw [← q.length]
      have : xs.length * j.toNat ≤ 1000 * 1000 := Nat.mul_le_mul hz (by omega)
      exact Nat.le_trans this (by decide)
    | _ => exact h.elim
  | _ => exact h.elim
end
end Sv
namespace Sv
open PySem PySem.Spec PyProof.Rows L2
section
variable {P : Program} {w : World} {K : PySem.W.Frag} {mg : Str → Option Value} {base : Heap}
theorem fn_o {x : Str} {st : Stmt} {f : Addr} {fd : FuncData} {N ps : List Str} {k n : Nat} {B : DTS} (F : Fun K x x st f fd) (Sc : FnScope N ps (defScope st)) (hn : ps.length = n)
    (hbody : ∀ (cdv : Value) (A : Around) (outer : List PySem.Env) (s : Shared) (H : Hp) (E : XK), Room k (A.deeper (envOfC x (defScope st) s.heap.objs.size f cdv)) →
      DSs (cxOf CX0 P w K mg base N x (defScope st) f cdv A outer s H E).nox (defBody st) B) : FnOk P w K mg base CX0 (k + 1) f fd ps (lP ⟨P, w, K⟩ n (dFn N.length B)) := by
  refine F.ok Sc (fun vs H Q E h => by rw [hn]; exact h.1) fun cdv A outer s H vs Q E hr h => ⟨_, (hbody cdv A outer s H E hr).run, ?_⟩
  obtain ⟨_, ds, S, R, r, s1, q, k⟩ := h
  exact ⟨_, S, _, rs_start r s1, q, fun env' S' σ' H' q' r' e' => k _ _ _ _ q' r'.sto .non e', fun d S' v H' q' s' r' e' => k _ _ _ _ q' s' r' e', fun _ _ _ _ q' => q'.elim, fun _ _ _ _ q' => q'.elim⟩
theorem DFo.mk' {k n : Nat} {x : Str} {r : DRC} {f : Addr} {fd : FuncData} {ps : List Str} (F : FnOk P w K mg base CX0 k f fd ps (lP ⟨P, w, K⟩ n r)) (hm : mg x = some (.ref f)) (hk : PySem.W.keepIn K (.ref f) = true) (hb : Binds K fd ps []) : DFo P w K mg base k x n r :=
  ⟨f, fd, ps, F, hm, hk, hb⟩
/-- a def with some parameters and a star -/
def BSt (fd : FuncData) (ps : List Str) (pv : Str) : Prop := ∀ us rest : List Value, us.length = ps.length → bindArgs fd ⟨us ++ rest, []⟩ = (newTuple rest >>= fun t => pure (ps.zip us ++ [(pv, t)]))
def dFnS (m n : Nat) (B : DTS) : DRC := fun ds S R => m ≤ ds.length ∧ ds.length ≤ 1000 ∧ dFn n B (ds.take m ++ [.wtup (ds.drop m)]) S R
theorem fn_s {x : Str} {st : Stmt} {f : Addr} {fd : FuncData} {N ps : List Str} {pv : Str} {k m : Nat} {B : DTS} (F : Fun K x x st f fd) (Sc : FnScope N (ps ++ [pv]) (defScope st)) (hb : BSt fd ps pv) (hm : ps.length = m)
    (hbody : ∀ (cdv : Value) (A : Around) (outer : List PySem.Env) (s : Shared) (H : Hp) (E : XK), Room k (A.deeper (envOfC x (defScope st) s.heap.objs.size f cdv)) →
      DSs (cxOf CX0 P w K mg base N x (defScope st) f cdv A outer s H E).nox (defBody st) B) : FnR P w K mg base CX0 (k + 1) f (fun vs H Q _ => lC ⟨P, w, K⟩ (dFnS m N.length B) vs H Q) := by
  obtain ⟨oc, od, kV, doc, pm, an, cdv, ct, osl, rfl, lk, hcd⟩ := F.ex
  have Gs := StX.fn_star (P := P) (w := w) (mg := mg) (base := base) (CX := CX0) (ps := ps) (pv := pv) (k := k) (sp := fun vs H Q _ => lC ⟨P, w, K⟩ (dFn N.length B) vs H Q) lk hcd Sc StX.cxUp_none hb (fun A outer s H vs Q E hr hsp => by
    obtain ⟨ds, S, R, r, s1, q, kk⟩ := hsp
    exact ⟨_, ((hbody cdv A outer s H E hr).run).nox, _, S, _, rs_start r s1, q, fun env' S' σ' H' q' r' e' => kk _ _ _ _ q' r'.sto .non e', fun d S' v H' q' s' r' e' => kk _ _ _ _ q' s' r' e', fun _ _ _ _ q' => q'.elim, fun _ _ _ _ q' => q'.elim⟩)
  refine Gs.imp fun vs H Q E h => ?_
  obtain ⟨ds, S, R, r, s1, ⟨h1, h2, q⟩, kk⟩ := h
  have hl := r.length
  refine ⟨vs.take m, vs.drop m, (List.take_append_drop m vs).symm, by rw [List.length_take, hm]; omega, ?_, fun p np => ?_⟩
  · rw [List.length_drop]
    exact Nat.le_trans (by omega : vs.length - m ≤ 1000) (by decide)
  · have e : Ext H (upd H p (.tup (vs.drop m))) := .new np
    exact ⟨ds.take m ++ [.wtup (ds.drop m)], S, R, ((r.take m).ext e).append (.cons (.wtup upd_same ((r.drop m).ext e)) .nil), s1.new np, q, fun z S' v H' q' s' r' e' => kk _ _ _ _ q' s' r' (e.trans e')⟩
theorem DFs.mk' {k : Nat} {x : Str} {r : DRC} {f : Addr} (F : FnR P w K mg base CX0 k f (fun vs H Q _ => lC ⟨P, w, K⟩ r vs H Q)) (hm : mg x = some (.ref f)) (hk : PySem.W.keepIn K (.ref f) = true) : DFs P w K mg base k x r := ⟨f, F, hm, hk⟩
end
section
variable {X : Cx} {a b e : Expr} {es : List Expr} {ta tb te : DTE} {tl : DTA} {pos p : Pos}
def Sto.rem (S : Sto) (a : Addr) : Sto := fun b => if b = a then none else S b
theorem RelS.rem {K : KK} {S : Sto} {H : Hp} {p : Addr} {u w : HO} (h : RelS K S H) (n : H p = some w) (m : Mut (some w)) : RelS K (S.rem p) (upd H p u) := fun a o e => by
  unfold Sto.rem at e
  by_cases z : a = p
  · rw [if_pos z] at e; cases e
  · rw [if_neg z] at e
    exact (h a o e).ext (.put n m) (upd_ne z)
def kD : Key → D
  | .inl i => .int i
  | .inr x => .str x
theorem kD_inv {K : KK} {H : Hp} {k : Key} {v : V} (r : RD K H (kD k) v) : v = kV k := by
  cases k with
  | inl i => cases r; rfl
  | inr x => cases r; rfl
def putD (kvs : List (Key × D)) (k : Key) (v : D) : List (Key × D) :=
  if (kvs.any fun kv => decide (kv.1 = k)) = true then kvs.map (fun kv => if kv.1 = k then (kv.1, v) else kv) else kvs ++ [(k, v)]
def getD' (kvs : List (Key × D)) (k : Key) : Option D := (kvs.find? fun kv => decide (kv.1 = k)).map (·.2)
theorem RDk.any {K : KK} {H : Hp} {k : Key} : ∀ {ds : List (Key × D)} {vs : List (Key × V)}, RDk K H ds vs → (ds.any fun kv => decide (kv.1 = k)) = (vs.any fun kv => decide (kv.1 = k))
  | _, _, .nil => rfl
  | _, _, .cons r t => by rw [List.any_cons, List.any_cons, RDk.any t]
theorem RDk.app {K : KK} {H : Hp} : ∀ {ds es : List (Key × D)} {vs ws : List (Key × V)}, RDk K H ds vs → RDk K H es ws → RDk K H (ds ++ es) (vs ++ ws)
  | _, _, _, _, .nil, s => s
  | _, _, _, _, .cons r t, s => .cons r (RDk.app t s)
theorem RDk.mapK {K : KK} {H : Hp} {k : Key} {d : D} {v : V} (h : RD K H d v) : ∀ {ds : List (Key × D)} {vs : List (Key × V)}, RDk K H ds vs → RDk K H (ds.map fun kv => if kv.1 = k then (kv.1, d) else kv) (vs.map fun kv => if kv.1 = k then (kv.1, v) else kv)
  | _, _, .nil => .nil
  | _, _, @RDk.cons _ _ k' d' ds v' vs r t => by
    rw [List.map_cons, List.map_cons]
    by_cases z : k' = k
    · subst z
      simp only [if_true]
      exact .cons h (RDk.mapK h t)
    · simp only [z, if_false]
      exact .cons r (RDk.mapK h t)
theorem RDk.put {K : KK} {H : Hp} {k : Key} {d : D} {v : V} (h : RD K H d v) {ds : List (Key × D)} {vs : List (Key × V)} (r : RDk K H ds vs) : RDk K H (putD ds k d) (putK vs k v) := by
  unfold putD putK
  rw [r.any]
  by_cases z : (vs.any fun kv => decide (kv.1 = k)) = true
  · rw [if_pos z, if_pos z]
    exact r.mapK h
  · rw [if_neg z, if_neg z]
    exact r.app (.cons h .nil)
theorem RDk.get {K : KK} {H : Hp} {k : Key} : ∀ {ds : List (Key × D)} {vs : List (Key × V)}, RDk K H ds vs → (∀ d, getD' ds k = some d → ∃ v, valV vs k = some v ∧ RD K H d v) ∧ (getD' ds k = none → valV vs k = none)
  | _, _, .nil => ⟨fun d h => (nomatch h), fun _ => rfl⟩
  | _, _, @RDk.cons _ _ k' d' ds v' vs r t => by
    have ih := RDk.get (k := k) t
    unfold getD' valV at ih ⊢
    rw [List.find?_cons, List.find?_cons]
    by_cases z : k' = k
    · subst z
      simp only [decide_true]
      exact ⟨fun d h => ⟨v', rfl, by cases h; exact r⟩, fun h => (nomatch h)⟩
    · simp only [z, decide_false]
      exact ih
/-- {key: value for target in iter if ..}, read from then on -/
def dDc (ti : DTI) (g : DTG) (tt : DTT) (tk tv : DTE) (us : List Nat) : DTE := fun env S R => ti env S fun w S1 => ∀ p, S1 p = none → ∃ Pv : Nat → Sto → Prop, Pv 0 (S1.put p (.dK [])) ∧ (∀ i S, i ≤ w.items.length → Pv i S → w.live S) ∧
  (∀ i d S, w.items[i]? = some d → Pv i S → g d (dwipe env us) S fun env' S' => tt env' S' fun b S2 => if b = true then tk env' S2 fun y S3 => tv env' S3 fun z S4 => ∃ kvs k, y = kD k ∧ S4 p = some (.dK kvs) ∧ kvs.length < 1000000 ∧ Pv (i + 1) (S4.put p (.dK (putD kvs k z))) else Pv (i + 1) S2) ∧
  ∀ S, Pv w.items.length S → ∃ kvs, S p = some (.dK kvs) ∧ R (.dct kvs) (S.rem p)
theorem lE_dc {K : KK} {b : Bool} {ti : DTI} {g : DTG} {tt : DTT} {tk tv : DTE} {us vs : List Nat} {σ : L2.St} {H : Hp} {Q : VK} (hv : ∀ i ∈ vs, i ∈ us) (h : lE K (dDc ti g tt tk tv us) σ H Q) : tFrz (tDc (lI K b ti) (lG K b vs g) (lT K tt) (lE K tk) (lE K tv) us) σ H Q := by
  obtain ⟨env, S, R, rs, h, k⟩ := h
  refine ⟨env, S, _, rs, h, fun w S1 J H1 q s1 e1 st p np => ?_⟩
  obtain ⟨Pv, p0, lv, step, done⟩ := q p (s1.fresh np)
  obtain ⟨G, Y, wk, hG, hY⟩ := st.ex
  have s1' : RelS K (S1.put p (.dK [])) (upd H1 p (.dK [])) := s1.lay np ⟨_, upd_same, .nil⟩
  have e1' : Ext H1 (upd H1 p (.dK [])) := .new np
  refine dc_it wk (fun i H' => ∃ S', RelS K S' H' ∧ Ext H1 H' ∧ Pv i S') ⟨_, s1', e1', p0⟩ (fun i H' hi ⟨S', s', e', p'⟩ => hG H' S' e' s' (lv i S' hi p')) ?_ ?_
  · rintro i x H2 H3 hi ⟨S2, s2, e2, p2⟩ y
    obtain ⟨e3, hS, d, hd, rd⟩ := hY i H2 x H3 e2 y
    have e13 := e1.trans (e2.trans e3)
    refine ⟨d, dwipe env us, S2, _, rd, (rs.ext e13 (hS S2 s2)).wipe us, step i d S2 hd p2, fun env4 S4 σ4 H4 q4 rs4 e4 o4 => ⟨wipe_off o4 hv, env4, S4, _, rs4, q4, fun c S5 H5 q5 s5 e5 => ?_⟩⟩
    cases c with
    | false => exact ⟨S5, s5, e2.trans (e3.trans (e4.trans e5)), q5⟩
    | true =>
      refine ⟨env4, S5, _, rs4.ext e5 s5, q5, fun y S6 v H6 q6 s6 r6 e6 => ⟨env4, S6, _, rs4.ext (e5.trans e6) s6, q6, fun z S7 u H7 ⟨kvs, kk, hy, h1, h2, q7⟩ s7 r7 e7 => ?_⟩⟩
      subst hy
      obtain ⟨ws, h3, h4⟩ := s7 p _ h1
      have e8 : Ext H7 (upd H7 p (.dK (putK ws kk u))) := .put h3 trivial
      exact ⟨ws, kk, kD_inv r6, h3, Nat.lt_of_lt_of_le (h4.length ▸ h2) (by decide), _, s7.put (o := .dK (putD kvs kk z)) h3 trivial ⟨_, upd_same, (h4.put r7).ext e8⟩, e2.trans (e3.trans (e4.trans (e5.trans (e6.trans (e7.trans e8))))), q7⟩
  · rintro H2 ⟨S2, s2, e2, p2⟩
    obtain ⟨kvs, h1, q⟩ := done S2 p2
    obtain ⟨ws, h3, h4⟩ := s2 p _ h1
    refine ⟨p, _, rfl, h3, trivial, fun od => ?_⟩
    have e3 : Ext H2 (upd H2 p (.frz od (.dK ws))) := .put h3 trivial
    exact k _ _ _ _ q (s2.rem h3 trivial) (.dct upd_same (h4.ext e3)) (e1.trans (e2.trans e3))
theorem de_dc {kx vx tg iter : Expr} {ifs : List Expr} {scope : Scope} {own : List (Str × Nat)} {vs : List Nat} {bb : Bool} {ti : DTI} {g : DTG} {tt : DTT} {tk tv : DTE} (hc : X.calm = true) (hN : X.N.Nodup) (hi : DI X bb tg iter ti) (ok : BlkOk X.N X.env.scope scope own) (hv : ∀ i ∈ vs, i ∈ own.map (·.2))
    (hg : ∀ (s : Shared) (H : Hp) (C : Addr) (cl : List (Str × Addr)) (fp : List Addr), DG (X.blk s H scope (compEnvC scope cl C X.env) fp) bb vs tg g) (ht : ∀ (s : Shared) (H : Hp) (C : Addr) (cl : List (Str × Addr)) (fp : List Addr), DTs (X.blk s H scope (compEnvC scope cl C X.env) fp) ifs tt)
    (hk : ∀ (s : Shared) (H : Hp) (C : Addr) (cl : List (Str × Addr)) (fp : List Addr), DE (X.blk s H scope (compEnvC scope cl C X.env) fp) kx tk)
    (he : ∀ (s : Shared) (H : Hp) (C : Addr) (cl : List (Str × Addr)) (fp : List Addr), DE (X.blk s H scope (compEnvC scope cl C X.env) fp) vx tv) (hs : ∀ x, foldedSetIterable iter X.env x = pure x := by intro _; rfl) :
    DE X (.DictComp kx vx [⟨tg, iter, ifs, 0⟩] scope pos) (dDc ti g tt tk tv (own.map (·.2))) :=
  ⟨(pe_frz (pe_dc (g := lG X.kk bb vs g) (tt := lT X.kk tt) (tk := lE X.kk tk) (tv := lE X.kk tv) hc hN hi.run ok (fun s H C cl fp => (hg s H C cl fp).run) (fun s H C cl fp => (ht s H C cl fp).run) (fun s H C cl fp => (hk s H C cl fp).run) (fun s H C cl fp => (he s H C cl fp).run) hs)).of fun _ _ _ => lE_dc hv⟩
/-- for v in d.values(), for k, v in d.items() -/
def diValues (te : DTE) : DTI := fun env S R => te env S fun d S1 => ∃ kvs, d = .dct kvs ∧ R ⟨kvs.map (·.2), fun _ => True⟩ S1
def diKeys (te : DTE) : DTI := fun env S R => te env S fun d S1 => ∃ kvs, d = .dct kvs ∧ R ⟨kvs.map fun kv => kD kv.1, fun _ => True⟩ S1
theorem rd_kD {K : KK} {H : Hp} (k : Key) : RD K H (kD k) (kV k) := by
  cases k with
  | inl i => exact .int i
  | inr x => exact .str x
theorem di_values {tg : Expr} {apos cpos : Pos} (he : DE X e te) (hbase : attributeBase e "values" X.env (eval e X.env) = eval e X.env := by rfl) (hline : (apos.endLine == cpos.line) = true := by rfl) : DI X true tg (.Call (.Attribute e "values" apos) [] [] cpos) (diValues te) := by
  refine ⟨(pi_values he.run hbase hline).of fun σ H R ⟨env, S, R0, rs, h, k⟩ => ⟨env, S, _, rs, h, fun d S1 v H1 ⟨kvs, hd, q⟩ s1 r1 e1 => ?_⟩⟩
  subst hd
  cases r1 with
  | @dct a o _ vs ht r =>
    refine ⟨a, o, vs, rfl, ht, k _ _ _ _ q s1 e1 ⟨fun H => H a = some (.frz o (.dK vs)), fun i H x H' => H' = H ∧ ∃ k, vs[i]? = some (k, x), ?_, fun H S e _ _ => e.1 _ _ _ ht, ?_⟩⟩
    · have w := walk_values (d := a) (o := o) (kvs := vs)
      have : (kvs.map (·.2)).length = vs.length := by rw [List.length_map, r.length]
      rw [this]
      exact w
    · rintro i H x H' e ⟨rfl, kk, hx⟩
      obtain ⟨d, h1, h2⟩ := (r.ext e).atv hx
      exact ⟨.refl _, fun S s => s, d, by show (kvs.map (·.2))[i]? = _; rw [List.getElem?_map, h1]; rfl, .inl h2⟩
theorem di_keys {tg : Expr} (he : DE X e te) : DI X true tg e (diKeys te) := by
  refine ⟨(pi_keys he.run).of fun σ H R ⟨env, S, R0, rs, h, k⟩ => ⟨env, S, _, rs, h, fun d S1 v H1 ⟨kvs, hd, q⟩ s1 r1 e1 => ?_⟩⟩
  subst hd
  cases r1 with
  | @dct a o _ vs ht r =>
    refine ⟨a, o, rfl, .inl ⟨vs, ht, k _ _ _ _ q s1 e1 ⟨fun H => H a = some (.frz o (.dK vs)), fun i H x H' => H' = H ∧ ∃ k v, vs[i]? = some (k, v) ∧ x = kV k, ?_, fun H S e _ _ => e.1 _ _ _ ht, ?_⟩⟩⟩
    · have w := walk_keys (d := a) (o := o) (kvs := vs)
      have : (kvs.map fun kv => kD kv.1).length = vs.length := by rw [List.length_map, r.length]
      rw [this]
      exact w
    · rintro i H x H' e ⟨rfl, kk, z, hx, rfl⟩
      obtain ⟨d, h1, h2⟩ := (r.ext e).atv hx
      exact ⟨.refl _, fun S s => s, kD kk, by show (kvs.map fun kv => kD kv.1)[i]? = _; rw [List.getElem?_map, h1]; rfl, .inl (rd_kD kk)⟩
/-- what a dict holds -/
def dictOf (S : Sto) : D → Option (List (Key × D))
  | .dct kvs => some kvs
  | .ref a => match S a with
    | some (.dK kvs) => some kvs
    | _ => none
  | _ => none
theorem dict_rel {K : KK} {S : Sto} {H : Hp} {d : D} {v : V} {kvs : List (Key × D)} (s : RelS K S H) (r : RD K H d v) (h : dictOf S d = some kvs) : ∃ a vs, v = .ref a ∧ Rd H a (.dK vs) ∧ RDk K H kvs vs := by
  cases r with
  | dct t q => cases h; exact ⟨_, _, rfl, .inr ⟨_, t⟩, q⟩
  | ref a =>
    have h : (match S a with
      | some (.dK kvs) => some kvs
      | _ => none) = some kvs := h
    split at h
    · rename_i e
      cases h
      obtain ⟨vs, h1, h2⟩ := s a _ e
      exact ⟨a, vs, rfl, .inl h1, h2⟩
    · cases h
  | _ => cases h
/-- d[k] -/
def dDix (ta tb : DTE) : DTE := fun env S R => ta env S fun x S1 => tb env S1 fun y S2 => ∃ kvs k d, dictOf S2 x = some kvs ∧ y = kD k ∧ getD' kvs k = some d ∧ R d S2
theorem de_dix (hu : X.A.units + 1 < cLine) (ha : DE X a ta) (hb : DE X b tb) (hs : NoSl b := by intro _ _; rfl) : DE X (.Subscript a b pos) (dDix ta tb) := by
  refine ⟨(pe_dget hu ha.run hb.run hs).of fun σ H Q ⟨env, S, R, rs, h, k⟩ => ⟨env, S, _, rs, h, fun x S1 v H1 q1 s1 r1 e1 => ⟨env, S1, _, rs.ext e1 s1, q1, fun y S2 u H2 ⟨kvs, kk, d, hx, hy, hd, q⟩ s2 r2 e2 => ?_⟩⟩⟩
  subst hy
  obtain ⟨aa, vs, rfl, h1, h2⟩ := dict_rel s2 (r1.ext e2) hx
  obtain ⟨w, h3, h4⟩ := h2.get.1 d hd
  cases kD_inv r2
  exact ⟨aa, w, rfl, .inl ⟨vs, kk, h1, rfl, h3.symm⟩, k _ _ _ _ q s2 h4 (e1.trans e2)⟩
/-- k in d -/
def dDin (n : Bool) (ta tb : DTE) : DTE := fun env S R => ta env S fun y S1 => tb env S1 fun x S2 => ∃ kvs k, dictOf S2 x = some kvs ∧ y = kD k ∧ R (.bl ((getD' kvs k).isSome ^^ n)) S2
theorem getD_some {K : KK} {H : Hp} {kvs : List (Key × D)} {vs : List (Key × V)} {k : Key} (r : RDk K H kvs vs) : (getD' kvs k).isSome = (valV vs k).isSome := by
  cases h : getD' kvs k with
  | none => rw [r.get.2 h]; rfl
  | some d => obtain ⟨v, h1, _⟩ := r.get.1 d h; rw [h1]; rfl
theorem lE_din {K : KK} {σ : L2.St} {H : Hp} {Q : VK} (h : lE K (dDin false ta tb) σ H Q) : tDIn (lE K ta) (lE K tb) σ H Q := by
  obtain ⟨env, S, R, rs, h, k⟩ := h
  refine ⟨env, S, _, rs, h, fun y S1 v H1 q1 s1 r1 e1 => ⟨env, S1, _, rs.ext e1 s1, q1, fun x S2 u H2 ⟨kvs, kk, hx, hy, q⟩ s2 r2 e2 => ?_⟩⟩
  subst hy
  obtain ⟨aa, vs, rfl, h1, h2⟩ := dict_rel s2 r2 hx
  cases kD_inv r1
  rw [xor_ff, getD_some h2] at q
  exact ⟨aa, _, rfl, .inl ⟨vs, kk, h1, rfl, rfl⟩, k _ _ _ _ q s2 (.bl _) (e1.trans e2)⟩
theorem de_din (hu : X.A.units + 1 < cLine) (ha : DE X a ta) (hb : DE X b tb) (hm : behindInMarks .In b = false := by rfl) : DE X (.Compare a [.In] [b] pos) (dDin false ta tb) := ⟨(pe_cmp (pc_din hu ha.run hb.run) hm).of fun _ _ _ => lE_din⟩
theorem dt_din (hu : X.A.units + 1 < cLine) (ha : DE X a ta) (hb : DE X b tb) (hm : behindInMarks .In b = false := by rfl) : DT X (.Compare a [.In] [b] pos) (dB (dDin false ta tb)) := ⟨(pt_cmp (pc_din hu ha.run hb.run) hm).of fun _ _ _ h => by
  obtain ⟨env, S, R, rs, h, k⟩ := lT_b h
  exact lE_din ⟨env, S, R, rs, h, k⟩⟩
end
end Sv
namespace Sv
open PySem PySem.Spec PyProof.Rows L2
section
variable {X : Cx}
/-- sorted of such a set: pairs (or more) of small ints -/
def rSortedS' : DRC := fun ds S R => ∃ a L d B, ds = [.ref a] ∧ S a = some (.tset L) ∧ 1 ≤ d ∧ (∀ q ∈ L, q.length = d ∧ TS.Bd B q) ∧ ∀ (L' : List (List Int)) (p : Addr), L'.Perm L → L'.Nodup → L'.length < 64 → L'.Pairwise (fun q r => TS.code B q ≤ TS.code B r) → S p = none → R (.ref p) (S.put p (.lst (L'.map fun q => .tup (intsD q))))
theorem b_sortedS (hc : X.calm = true) : CallR X (.builtin "sorted") (lC X.kk rSortedS') := by
  intro pins s σ H vs us Q I r ⟨ds, S, R, r1, s1, ⟨a, L, d, B, hd, hx, h1, hB, q⟩, k⟩
  subst hd
  obtain ⟨v, rfl, rv⟩ := r1.inv1
  cases rv
  obtain ⟨M, h3, h4, rfl⟩ := s1 a _ hx
  refine cr_sortedT hc pins s σ H _ us Q I r ⟨a, M, d, B, rfl, h3, fun p hp => (h4 p hp).sqT, h1, fun p hp => hB _ (List.mem_map.mpr ⟨p, hp, rfl⟩), fun L' p pm nd hl pw np => ?_⟩
  have e : Ext H (upd H p (.lst (L'.map fun q => V.ref q.1))) := .new np
  refine k _ _ _ _ (q (L'.map (·.2)) p (pm.map _) nd (by rw [List.length_map]; exact hl) (List.pairwise_map.mpr pw) (s1.fresh np)) (s1.lay (o := .lst ((L'.map (·.2)).map fun q => .tup (intsD q))) np ⟨_, upd_same, ?_⟩) (.ref p) e
  have hL : ∀ q ∈ L', TupN (upd H p (.lst (L'.map fun q => V.ref q.1))) q.1 (q.2.map V.int) := fun q hq => (h4 q (pm.mem_iff.mp hq)).ext e
  generalize upd H p (.lst (L'.map fun q => V.ref q.1)) = H' at hL
  clear pm nd hl pw np e
  induction L' with
  | nil => exact .nil
  | cons x r ih => exact .cons (.tup (hL x List.mem_cons_self) (.ints x.2)) (ih fun q hq => hL q (List.mem_cons_of_mem _ hq))
def zipD (xs ys : List D) : List D := List.zipWith (fun x y => .tup [x, y]) xs ys
theorem zipD_at {xs ys : List D} {i : Nat} {x y : D} (h1 : xs[i]? = some x) (h2 : ys[i]? = some y) : (zipD xs ys)[i]? = some (.tup [x, y]) := by
  unfold zipD
  rw [List.getElem?_zipWith, h1, h2]
theorem zipD_len (xs ys : List D) : (zipD xs ys).length = min xs.length ys.length := by unfold zipD; rw [List.length_zipWith]
theorem steps_zip {K : KK} {H0 : Hp} {J : It} {xs ys : List D} {lv : Sto → Prop} (A B : Hp → List V → Prop)
    (hgo : ∀ i H vs ws x y, A H vs → B H ws → vs[i]? = some x → ws[i]? = some y → J.go i H)
    (hst : ∀ i H (vs ws : List V), A H vs → B H ws → i = min vs.length ws.length → J.stop i H)
    (hy : ∀ i H v H', J.yld i H v H' → ∃ T x y, v = .ref T ∧ H T = none ∧ H' = upd H T (.tup [x, y]) ∧ (∀ vs, A H vs → vs[i]? = some x) ∧ ∀ ws, B H ws → ws[i]? = some y)
    (hA : ∀ H S, Ext H0 H → RelS K S H → lv S → ∃ vs ws, A H vs ∧ RDs K H xs vs ∧ B H ws ∧ RDs K H ys ws) : Steps K false H0 J ⟨zipD xs ys, lv⟩ := by
  refine ⟨fun H => ∃ vs ws, A H vs ∧ RDs K H xs vs ∧ B H ws ∧ RDs K H ys ws, fun i H v H' => ∃ T x y vs ws, v = .ref T ∧ H T = none ∧ H' = upd H T (.tup [x, y]) ∧ RDs K H xs vs ∧ RDs K H ys ws ∧ vs[i]? = some x ∧ ws[i]? = some y, ⟨?_, ?_, ?_⟩, hA, ?_⟩
  · rintro i H hi ⟨vs, ws, a, ra, b, rb⟩
    have hi : i < (zipD xs ys).length := hi
    rw [zipD_len, ra.length, rb.length] at hi
    have h1 : i < vs.length := by omega
    have h2 : i < ws.length := by omega
    exact hgo i H vs ws vs[i] ws[i] a b (by simp [h1]) (by simp [h2])
  · rintro H ⟨vs, ws, a, ra, b, rb⟩
    refine hst _ H vs ws a b ?_
    show (zipD xs ys).length = _
    rw [zipD_len, ra.length, rb.length]
  · rintro i H v H' hi ⟨vs, ws, a, ra, b, rb⟩ y
    obtain ⟨T, x, z, h1, h2, h3, h4, h5⟩ := hy i H v H' y
    exact ⟨T, x, z, vs, ws, h1, h2, h3, ra, rb, h4 vs a, h5 ws b⟩
  · rintro i H v H' e ⟨T, x, y, vs, ws, rfl, nT, rfl, ra, rb, hx, hy⟩
    obtain ⟨d, h1, h2⟩ := ra.atv hx
    obtain ⟨d', h3, h4⟩ := rb.atv hy
    exact ⟨.new nT, fun S s => s.new nT, _, zipD_at h1 h3, rdw_pair nT h2 h4⟩
def diZip (ta : DTA) : DTI := fun env S R => ta env S fun ds S1 => ∃ xs ys, (ds = [.tup xs, .tup ys] ∧ R ⟨zipD xs ys, fun _ => True⟩ S1) ∨ ∃ a b, ds = [.ref a, .ref b] ∧ S1 a = some (.lst xs) ∧ S1 b = some (.lst ys) ∧ R ⟨zipD xs ys, fun S => S a = some (.lst xs) ∧ S b = some (.lst ys)⟩ S1
theorem di_zip {e e2 : Expr} {ta : DTA} {p pos tpos : Pos} {elts : List Expr} {kk : Nat} (hg : Gl X "zip") (hm : X.mg "zip" = none) (ha : DA X [e, e2] ta)
    (hs : starEach [e, e2] X.env = (false, eval e X.env) :: starEach [e2] X.env := by rfl) (hpl : (backTo pos (starEach [e2] X.env)).any (·.1) = false := by rfl) : DI X false (.Tuple elts kk tpos) (.Call (.Name "zip" p) [e, e2] [] pos) (diZip ta) := by
  refine ⟨(RZ.pi_zipA hg hm ha.run hs hpl).of fun σ H R ⟨env, S, R0, rs, h, k⟩ => ⟨env, S, _, rs, h, fun ds S1 vs H1 ⟨xs, ys, q⟩ s1 r1 e1 => ?_⟩⟩
  rcases q with ⟨rfl, q⟩ | ⟨a, b, rfl, ha, hb, q⟩
  · obtain ⟨v, u, rfl, rv, ru⟩ := r1.inv2
    cases rv with
    | tup t1 q1 =>
      cases ru with
      | tup t2 q2 =>
        exact ⟨_, _, _, _, rfl, .inr ⟨t1.sqT, t2.sqT, k _ _ _ _ q s1 e1 (steps_zip (fun H vs => SqT X.K H _ vs) (fun H vs => SqT X.K H _ vs) (fun i H vs ws x y a b hx hy => ⟨vs, ws, x, y, a, b, hx, hy⟩) (fun i H vs ws a b h => ⟨vs, ws, a, b, by omega⟩) (fun i H v H' y => y) fun H S e _ _ => ⟨_, _, (t1.ext e).sqT, q1.ext e, (t2.ext e).sqT, q2.ext e⟩)⟩⟩
  · obtain ⟨v, u, rfl, rv, ru⟩ := r1.inv2
    cases rv
    cases ru
    obtain ⟨vs, h1, q1⟩ := s1.lst ha
    obtain ⟨ws, h2, q2⟩ := s1.lst hb
    refine ⟨_, _, _, _, rfl, .inl ⟨.of h1, .of h2, k _ _ _ _ q s1 e1 (steps_zip (fun H vs => SqL X.K H _ vs) (fun H vs => SqL X.K H _ vs) (fun i H vs ws x y a b hx hy => ⟨vs, ws, x, y, a, b, hx, hy⟩) (fun i H vs ws a b h => ⟨vs, ws, a, b, by omega⟩) (fun i H v H' y => y) fun H S e s l => ?_)⟩⟩
    obtain ⟨vs', h3, q3⟩ := s.lst l.1
    obtain ⟨ws', h4, q4⟩ := s.lst l.2
    exact ⟨_, _, .of h3, q3, .of h4, q4⟩
end
end Sv
namespace Sv
open PySem PySem.Spec PyProof.Rows L2
def spLawD (K : PySem.W.Frag) : Sp := fun vs H Q _ => ∃ (a : Addr) (ns : List Int), vs = [.ref a] ∧ Only H ∧ SqL K H a (ns.map V.int) ∧ ns.length ≤ 63 ∧ ∀ H', Q (.bl true) H'
theorem FnG.lawD {P : Program} {w : World} {K : PySem.W.Frag} {mg : Str → Option Value} {base : Heap} {k : Nat} {f : Addr} {fd : FuncData} {ps : List Str} {r : DRC} (F : FnG P w K mg base k f fd ps (lP ⟨P, w, K⟩ 1 r)) (hp : ps.length = 1)
    (h : ∀ ns : List Int, ns.length ≤ 63 → r [.rol (intsD ns)] (fun _ => none) (fun d _ => d = .bl true)) : FnG P w K mg base k f fd ps (spLawD K) := by
  have go : ∀ vs H Q E, spLawD K vs H Q E → lP ⟨P, w, K⟩ 1 r vs H Q E := by
    rintro vs H Q E ⟨a, ns, rfl, hO, hS, hl, q⟩
    obtain ⟨h1, ds, S, R, h2, h3, h4, h5⟩ := lP_law (K := ⟨P, w, K⟩) hO hS (h ns hl)
    exact ⟨h1, ds, S, R, h2, h3, h4, fun z S' v H' a1 a2 a3 a4 => by
      obtain rfl := h5 z S' v H' a1 a2 a3 a4
      exact q H'⟩
  refine ⟨fun vs H Q E h => ?_, fun A hg outer s H args us vs Q E hr e0 hb rv hsp => F.run A hg outer s H args us vs Q E hr e0 hb rv (go _ _ _ _ hsp)⟩
  obtain ⟨a, ns, rfl, _⟩ := h
  rw [hp]
  rfl
end Sv
namespace Sv
open PySem PySem.Spec PyProof.Rows L2
section
variable {X : Cx}
def prD (p : Int × Int) : D := .tup [.int p.1, .int p.2]
end
end Sv
namespace Sv
open PySem L2
/-- is_orphan: 0 trip 1 line 2 sender 3 sent 4 receiver 5 received -/
def B_is_orphan_8604 : DTS := dSeq (dAsg (dVar 0) (dUnp 2 (dgCons (dUnp 2 (dgCons (dgName 2) (dgCons (dgName 3) (dgNil)))) (dgCons (dUnp 2 (dgCons (dgName 4) (dgCons (dgName 5) (dgNil)))) (dgNil)))))
  (dRet (dAndV (dBin (rCmp fun i j => decide (i < j)) (dVar 5) (dBin rIxq (dVar 1) (dVar 4))) (dBin (rCmp fun i j => decide (j ≤ i)) (dVar 3) (dBin rIxq (dVar 1) (dVar 2)))))
/-- lowered: 0 trips 1 high 2 numbers 3 changed 4 trip 5 receiver 6 received -/
def B_lowered_c6aa : DTS := dSeq (dAsg (dCB (rListq) (dCons (dVar 1) (dNil))) (dgName 2))
  (dSeq (dAsg (dC (.bl true)) (dgName 3))
  (dSeq (dWhile (dB (dVar 3)) (dSeq (dAsg (dC (.bl false)) (dgName 3))
  (dFor (diValues (dVar 0)) (dgName 4) (dIfS (dB (dCall 2 (dFn 6 B_is_orphan_8604) (dCons (dVar 4) (dCons (dVar 2) (dNil))))) (dSeq (dAsg (dBin rIxq (dVar 4) (dC (.int 1))) (dUnp 2 (dgCons (dgName 5) (dgCons (dgName 6) (dgNil)))))
  (dSeq (dAsg (dVar 6) (dSub (dVar 2) (dVar 5)))
  (dAsg (dC (.bl true)) (dgName 3)))) (dNext)))))
  (dRet (dCB (rTupq) (dCons (dVar 2) (dNil))))))
/-- happened_at: 0 history 1 event 2 process 3 row 4 interval 5 other -/
def B_happened_at_e85f : DTS := dSeq (dFor (diEnum (dCons (dVar 0) (dNil))) (dUnp 2 (dgCons (dgName 2) (dgCons (dgName 3) (dgNil)))) (dSeq (dAsg (dC (.int 0)) (dgName 4))
  (dFor (diVal (dVar 3)) (dgName 5) (dSeq (dIfS (dB (dBin (rEqq false) (dVar 5) (dVar 1))) (dRet (dTup (dCons (dVar 2) (dCons (dVar 4) (dNil))))) (dNext))
  (dIfS (dB (dBin (rEqq false) (dVar 5) (dC (.int 0)))) (dAug 4 (dC (.int 1)) (rI2 fun i j => i + j)) (dNext))))))
  (dRet (dC .non))
/-- trips_of: 0 history 1 messages 2 message 3 row 4 event -/
def B_trips_of_ea9a : DTS := dSeq (dAsg (dCB (rSorted1) (dCons (dLc2 (diVal (dVar 0)) (dgName 3) (dYes) (diVal (dVar 3)) (dgName 4) (dB (dBin (rCmp fun i j => decide (i < j)) (dVar 4) (dC (.int 0)))) (dUn rNeg (dVar 4)) [3, 4] [4]) (dNil))) (dgName 1))
  (dRet (dDc (diVal (dVar 1)) (dgName 2) (dYes) (dVar 2) (dTup (dCons (dCall 2 (dFn 6 B_happened_at_e85f) (dCons (dVar 0) (dCons (dVar 2) (dNil)))) (dCons (dCall 2 (dFn 6 B_happened_at_e85f) (dCons (dVar 0) (dCons (dUn rNeg (dVar 2)) (dNil)))) (dNil)))) [2]))
/-- state_numbers: 0 history 1 row -/
def B_state_numbers_78d0 : DTS := dRet (dCB (rTupq) (dCons (dLc (diVal (dVar 0)) (dgName 1) (dYes) (dBin rAdd (dMtT mTcount (dVar 1) (dCons (dC (.int 0)) (dNil))) (dC (.int 1))) [1]) (dNil)))
end Sv
namespace Sv
open PySem PySem.Spec PyProof.Rows L2
section
variable {X : Cx} {a b c e o : Expr} {es : List Expr} {ta tb tc te : DTE} {tl : DTA} {pos p : Pos}
def dNoS : DTS := fun _ _ _ => False
theorem ds_no {st : Stmt} : DS X st dNoS := ⟨⟨fun pins s σ H Q I h => by
  obtain ⟨_, _, _, _, h, _⟩ := h
  exact h.elim⟩⟩
theorem de_ty {x : Str} {n : String} (hg : Gl X x) (hm : X.mg x = none) (hv : bootBuiltins x = some (.type n)) (hn : x ≠ "__name__" := by decide) (hdb : (x == ("__debug__" : Str)) = false := by decide) : DE X (.Name x pos) (dC (.ty n)) :=
  ⟨(pe_bltn (v := .ty n) hg hm hv rfl hn hdb).of fun σ H Q ⟨env, S, R, rs, q, k⟩ => k _ _ _ _ q rs.sto (.ty n) (.refl H)⟩
def tyD (S : Sto) : D → Option String
  | .non => some "NoneType"
  | .bl _ => some "bool"
  | .int _ => some "int"
  | .str _ => some "str"
  | .tup _ => some "tuple"
  | .wtup _ => some "tuple"
  | .rol _ => some "list"
  | .dct _ => some "dict"
  | .ref a => match S a with
    | some (.lst _) => some "list"
    | some (.dK _) => some "dict"
    | _ => none
  | _ => none
theorem ty_rel {K : KK} {S : Sto} {H : Hp} {d : D} {v : V} {t : String} (s : RelS K S H) (r : RD K H d v) (h : tyD S d = some t) : TyX K.k H v (.type t) := by
  cases r with
  | non => cases h; exact .base .non
  | bl b => cases h; exact .base (.bl b)
  | int i => cases h; exact .base (.int i)
  | str x => cases h; exact .base (.str x)
  | ty n => cases h
  | tup t _ =>
    cases h
    obtain ⟨o, t, _⟩ := t
    exact .fTuple t
  | wtup t _ => cases h; exact .base (.tup t)
  | rol t _ =>
    cases h
    rcases t with ⟨o, t⟩ | ⟨o, its, n, h1, h2, _⟩
    · exact .base (.frz t)
    · exact .kList h1 h2
  | dct t _ => cases h; exact .fDict t
  | ref a =>
    have h : (match S a with
      | some (.lst _) => some "list"
      | some (.dK _) => some "dict"
      | _ => none) = some t := h
    split at h
    · rename_i e
      cases h
      obtain ⟨vs, h1, _⟩ := s a _ e
      exact .base (.lst h1)
    · rename_i e
      cases h
      obtain ⟨vs, h1, _⟩ := s a _ e
      exact .base (.dK h1)
    · cases h
def rIsi : DRC := fun ds S R => ∃ d T t b, ds = [d, .ty T] ∧ tyD S d = some t ∧ kitB t T = some b ∧ R (.bl b) S
theorem b_isi : CallR X (.builtin "isinstance") (lC X.kk Sv.rIsi) := by
  intro pins s σ H vs us Q I r ⟨ds, S, R, r1, s1, ⟨d, T, t, b, hd, ht, hk, q⟩, k⟩
  subst hd
  obtain ⟨v, u, rfl, rv, ru⟩ := r1.inv2
  cases ru
  exact call_isi pins s σ H _ us Q I r ⟨v, .ty T, .type t, .type T, b, rfl, .ty T, ty_rel s1 rv ht, kit_ty hk, k _ _ _ _ q s1 (.bl _) (.refl H)⟩
theorem isi_ii : kitB "int" "int" = some true := by decide +kernel
theorem isi_ib : kitB "int" "bool" = some false := by decide +kernel
theorem RDs.dropLast {K : KK} {H : Hp} {ds : List D} {vs : List V} (r : RDs K H ds vs) : RDs K H ds.dropLast vs.dropLast := by
  rw [List.dropLast_eq_take, List.dropLast_eq_take, r.length]
  exact r.take _
def mRemove : DRM := fun x ds S R => ∃ l xs y ps p j, x = .ref l ∧ ds = [y] ∧ S l = some (.lst xs) ∧ Pys S xs ps ∧ Py S y p ∧ PyData.plainAll ps = true ∧ p.plain = true ∧ p.depth ≤ 60 ∧ SeqAt.dataPlace ps p = some j ∧ R .non (S.put l (.lst (xs.eraseIdx j)))
theorem m_remove (hu : X.A.units + 64 < cLine) : MtR X "list.remove" (lM X.kk mRemove) := by
  intro pins s σ H x vs v us Q I rx rv ⟨d, ds, S, R, r1, r2, s1, ⟨l, xs, y, ps, p, j, hd, hds, hx, h1, h2, h3, h4, h5, h6, q⟩, k⟩
  subst hd hds
  cases r1
  obtain ⟨w, rfl, rw'⟩ := r2.inv1
  obtain ⟨ws, g3, q3⟩ := s1.lst hx
  have e : Ext H (upd H l (.lst (ws.eraseIdx j))) := .put g3 trivial
  exact mt_removeD hu pins s σ H _ _ v us Q I rx rv ⟨l, w, p, ws, ps, j, rfl, rfl, g3, Pys.dp s1 h1 q3, Py.dp s1 h2 rw', h3, h4, h5, h6, k _ _ _ _ q (s1.put g3 trivial ⟨_, upd_same, (q3.eraseIdx j).ext e⟩) .non e⟩
def dDNew : DTE := fun _ S R => ∀ p, S p = none → R (.ref p) (S.put p (.dK []))
theorem de_dnew : DE X (.Dict [] [] pos) dDNew := ⟨pe_dnewK.of fun σ H Q ⟨env, S, R, rs, q, k⟩ p np =>
  k _ _ _ _ (q p (rs.sto.fresh np)) (rs.sto.lay np ⟨_, upd_same, .nil⟩) (.ref p) (.new np)⟩
/-- a dict that is not written any more -/
def dFrz (te : DTE) : DTE := fun env S R => te env S fun d S1 => ∃ a kvs, d = .ref a ∧ S1 a = some (.dK kvs) ∧ R (.dct kvs) (S1.rem a)
theorem de_frz (he : DE X e te) : DE X e (dFrz te) := by
  refine ⟨(pe_frz he.run).of fun σ H Q ⟨env, S, R, rs, h, k⟩ => ⟨env, S, _, rs, h, fun d S1 v H1 ⟨a, kvs, hd, ha, q⟩ s1 r1 e1 => ?_⟩⟩
  subst hd
  cases r1
  obtain ⟨ws, h3, h4⟩ := s1 a _ ha
  refine ⟨a, _, rfl, h3, trivial, fun od => ?_⟩
  have e3 : Ext H1 (upd H1 a (.frz od (.dK ws))) := .put h3 trivial
  exact k _ _ _ _ q (s1.rem h3 trivial) (.dct upd_same (h4.ext e3)) (e1.trans e3)
def dDPut (td ty tv : DTE) : DTS := fun C env S => tv env S fun v S1 => td env S1 fun x S2 => ty env S2 fun y S3 => ∃ a kvs k, x = .ref a ∧ y = kD k ∧ S3 a = some (.dK kvs) ∧ kvs.length < 1000000 ∧ C.nx env (S3.put a (.dK (putD kvs k v)))
theorem ds_dput {i : Expr} {pos' : Pos} {td ty tv : DTE} (hu : X.A.units + 1 < cLine) (ho : DE X o td) (hi : DE X i ty) (hv : DE X e tv) (hs : swapsWith e (some (.Subscript o i pos')) pos.line X.env = pure false := by rfl) : DS X (.Assign [.Subscript o i pos'] e pos) (dDPut td ty tv) := by
  refine ⟨(ps_dput hu ho.run hi.run hv.run hs).of fun σ H B ⟨env, S, C, rs, h, k, _⟩ => ⟨env, S, _, rs, h, fun v S1 u H1 q1 s1 r1 e1 => ⟨env, S1, _, rs.ext e1 s1, q1, fun x S2 w H2 q2 s2 r2 e2 => ⟨env, S2, _, rs.ext (e1.trans e2) s2, q2, fun y S3 t H3 ⟨aa, kvs, kk, hx, hy, ha, hl, q3⟩ s3 r3 e3 => ?_⟩⟩⟩⟩
  subst hx hy
  cases r2
  cases kD_inv r3
  obtain ⟨vs, h3, h4⟩ := s3 aa _ ha
  have e4 : Ext H3 (upd H3 aa (.dK (putK vs kk u))) := .put h3 trivial
  have ea : Ext H (upd H3 aa (.dK (putK vs kk u))) := e1.trans (e2.trans (e3.trans e4))
  exact ⟨aa, _, rfl, .k h3 (Nat.lt_of_lt_of_le (h4.length ▸ hl) (by decide)), k _ _ _ _ q3 (rs.ext ea (s3.put (o := .dK (putD kvs kk v)) h3 trivial ⟨_, upd_same, (h4.put (r1.ext (e2.trans e3))).ext e4⟩)) ea⟩
def rReprX : DRC := fun ds S R => (∃ b, ds = [.bl b] ∧ R (.str (if b = true then "True" else "False")) S) ∨ (ds = [.non] ∧ R (.str "None") S) ∨ rRepr ds S R
theorem b_reprX (hgd : X.A.guards = some []) (hu : X.A.units + 64 < cLine) : CallR X (.builtin "repr") (lC X.kk rReprX) := by
  intro pins s σ H vs us Q I r ⟨ds, S, R, r1, s1, h, k⟩
  rcases h with ⟨b, hd, q⟩ | ⟨hd, q⟩ | h
  · subst hd
    obtain ⟨v, rfl, rv⟩ := r1.inv1
    cases rv
    obtain ⟨u, rfl, ru⟩ := vals1 r
    cases ru
    exact PySem.P.repr_of_bool ⟨.str _, H, I.kept (t' := s.toks + 1) (fun b o e => e), ⟨_, rfl⟩, k _ _ _ _ q s1 (.str _) (.refl H)⟩
  · subst hd
    obtain ⟨v, rfl, rv⟩ := r1.inv1
    cases rv
    obtain ⟨u, rfl, ru⟩ := vals1 r
    cases ru
    exact PySem.P.repr_of_none ⟨.str _, H, I.kept (t' := s.toks + 1) (fun b o e => e), ⟨_, rfl⟩, k _ _ _ _ q s1 (.str _) (.refl H)⟩
  · exact b_repr hgd hu pins s σ H vs us Q I r ⟨ds, S, R, r1, s1, h, k⟩
end
end Sv
namespace Sv
open PySem PySem.Spec PyProof.Rows L2
section
variable {X : Cx} {a b c e o : Expr} {es : List Expr} {ta tb tc te : DTE} {tl : DTA} {pos p : Pos}
theorem Pys.atp {S : Sto} : ∀ {ds : List D} {ps : List PyData} {i : Nat} {d : D}, Pys S ds ps → ds[i]? = some d → ∃ p, ps[i]? = some p ∧ Py S d p
  | _, _, _, _, .nil, h => by simp at h
  | _, _, 0, _, .cons r _, h => by simp at h; subst h; exact ⟨_, rfl, r⟩
  | _, _, i + 1, _, .cons _ t, h => Pys.atp (i := i) t (by simpa using h)
theorem Pys.len {S : Sto} : ∀ {ds : List D} {ps : List PyData}, Pys S ds ps → ds.length = ps.length
  | _, _, .nil => rfl
  | _, _, .cons _ t => by rw [List.length_cons, List.length_cons, Pys.len t]
/-- min of a list of data that are alike: the first of the least -/
def rMinD : DRC := fun ds S R => ∃ a xs p ps, ds = [.ref a] ∧ S a = some (.lst xs) ∧ Pys S xs (p :: ps) ∧ PySem.W.AlikeAll (p :: ps) ∧ PyData.depthAll (p :: ps) ≤ 60 ∧ ∀ (j : Nat) (d : D), xs[j]? = some d → (p :: ps)[j]? = some (PySem.W.minD p ps) → R d S
theorem b_minD (hc : X.calm = true) (hu : X.A.units + 65 < cLine) : CallR X (.builtin "min") (lC X.kk rMinD) := by
  intro pins s σ H vs us Q I r ⟨ds, S, R, r1, s1, ⟨a, xs, p, ps, hd, hx, hp, ha, hdp, q⟩, k⟩
  subst hd
  obtain ⟨v, rfl, rv⟩ := r1.inv1
  cases rv
  obtain ⟨ws, h1, q1⟩ := s1.lst hx
  rw [Vals.ref1 r]
  obtain ⟨z, its, n, rr, hl, e⟩ := I.lstM h1
  obtain ⟨as, R1⟩ := Dp.readsAll I (p :: ps) ws its (Pys.dp s1 hp q1) rr
  refine PySem.W.min_list_data (vs := its.toArray) (I.ok.hd hc) ⟨_, e, rfl, n, rfl⟩ (by simpa using R1) ha (by omega) fun i v h' tk bs hv hr hk => ?_
  have hv' : its[i]? = some v := by simpa using hv
  obtain ⟨w, hw⟩ : ∃ w, ws[i]? = some w := ⟨_, List.getElem?_eq_getElem (by rw [rr.length]; exact (List.getElem?_eq_some_iff.mp hv').1)⟩
  obtain ⟨v2, hv2, rw'⟩ := rr.get hw
  have ev : v2 = v := Option.some.inj (hv2.symm.trans hv')
  rw [ev] at rw'
  obtain ⟨d, hdi, rd⟩ := q1.atv hw
  obtain ⟨pp, hpp, hpy⟩ := hp.atp hdi
  obtain ⟨bs2, R2⟩ := Dp.reads I pp w v (Py.dp s1 hpy rd) rw'
  have R2' : Reads h' v pp bs2 := Reads.keeps hk R2
  have hm : PySem.W.minD p ps ∈ p :: ps := by
    have e2 := (PySem.W.argBest_fold PySem.W.dataLt PyData.none p ps ps.length (Nat.le_refl _))
    rw [List.take_length] at e2
    show ps.foldl _ p ∈ _
    rw [← e2.2, List.getD_eq_getElem?_getD, List.getElem?_eq_getElem (Nat.lt_succ_of_le e2.1)]
    exact List.getElem_mem _
  have eq := PySem.W.alike_unique _ _ v _ _ (ha.1 _ (List.mem_of_getElem? hpp) _ hm) R2' hr
  subst eq
  exact ⟨w, H, I.kept (t' := tk) hk, rw', k _ _ _ _ (q i d hdi hpp) s1 rd (.refl H)⟩
def rIsBd (n : Bool) : DR2 := fun x y S R => ∃ c b, x = .bl c ∧ y = .bl b ∧ R (.bl (decide (c = b) ^^ n)) S
theorem o_isB : OpR X (compareOp .Is) (l2 X.kk (rIsBd false)) := by
  intro pins s σ H x y v u Q I rx ry ⟨d, e, S, R, r1, r2, s1, ⟨c, b, hx, hy, q⟩, k⟩
  subst hx hy
  cases r1
  cases r2
  rw [xor_ff] at q
  exact op_isBl pins s σ H _ _ v u Q I rx ry ⟨c, b, rfl, rfl, k _ _ _ _ q s1 (.bl _) (.refl H)⟩
theorem o_notB : OpR X (compareOp .IsNot) (l2 X.kk (rIsBd true)) := by
  intro pins s σ H x y v u Q I rx ry ⟨d, e, S, R, r1, r2, s1, ⟨c, b, hx, hy, q⟩, k⟩
  subst hx hy
  cases r1
  cases r2
  rw [xor_tt] at q
  exact op_notBl pins s σ H _ _ v u Q I rx ry ⟨c, b, rfl, rfl, k _ _ _ _ q s1 (.bl _) (.refl H)⟩
end
section
variable {X : Cx} {e : Expr} {te : DTE}
def dTruL (te : DTE) : DTT := fun env S R => te env S fun x S1 => ∃ xs, seqOf S1 x = some xs ∧ R (!xs.isEmpty) S1
theorem RDs.emp {K : KK} {H : Hp} {ds : List D} {vs : List V} (r : RDs K H ds vs) : ds.isEmpty = vs.isEmpty := by cases r <;> rfl
theorem dt_truL (h : DE X e te) (he : ∀ whole, isTrue e X.env whole = (do let v ← whole; standAt e.pos; holding [v] (truthy v)) := by intro _; rfl) : DT X e (dTruL te) := by
  refine ⟨(pt_truth h.run he).of fun σ H Q ⟨env, S, R, rs, h, k⟩ => ⟨env, S, _, rs, h, fun d S1 v H1 ⟨xs, hx, q⟩ s1 r1 e1 => ?_⟩⟩
  obtain ⟨p, vs, rfl, hq, r⟩ := seq_rel s1 r1 hx
  refine ⟨!vs.isEmpty, ?_, ?_⟩
  · rcases hq with hq | hq
    · exact .inl ⟨vs, hq, rfl⟩
    · exact .inr (.inl ⟨vs, hq, rfl⟩)
  · rw [← r.emp]
    exact k _ _ _ q s1 e1
end
section
variable {X : Cx} {a b : Expr} {ta tb : DTE} {pos : Pos}
theorem lE_dnin {K : KK} {σ : L2.St} {H : Hp} {Q : VK} (h : lE K (dDin true ta tb) σ H Q) : tDNotIn (lE K ta) (lE K tb) σ H Q := by
  obtain ⟨env, S, R, rs, h, k⟩ := h
  refine ⟨env, S, _, rs, h, fun y S1 v H1 q1 s1 r1 e1 => ⟨env, S1, _, rs.ext e1 s1, q1, fun x S2 u H2 ⟨kvs, kk, hx, hy, q⟩ s2 r2 e2 => ?_⟩⟩
  subst hy
  obtain ⟨aa, vs, rfl, h1, h2⟩ := dict_rel s2 r2 hx
  cases kD_inv r1
  rw [xor_tt, getD_some h2] at q
  exact ⟨aa, _, rfl, .inl ⟨vs, kk, h1, rfl, rfl⟩, k _ _ _ _ q s2 (.bl _) (e1.trans e2)⟩
theorem dt_dnin (hu : X.A.units + 1 < cLine) (ha : DE X a ta) (hb : DE X b tb) (hm : behindInMarks .NotIn b = false := by rfl) : DT X (.Compare a [.NotIn] [b] pos) (dB (dDin true ta tb)) := ⟨(pt_cmp (pc_dnotin hu ha.run hb.run) hm).of fun _ _ _ h => by
  obtain ⟨env, S, R, rs, h, k⟩ := lT_b h
  exact lE_dnin ⟨env, S, R, rs, h, k⟩⟩
end
end Sv
namespace Sv
open PySem L2
/-- raised: 0 trips 1 low 2 numbers 3 changed 4 trip 5 sender 6 sent -/
def B_raised_352a : DTS := dSeq (dAsg (dCB (rListq) (dCons (dVar 1) (dNil))) (dgName 2))
  (dSeq (dAsg (dC (.bl true)) (dgName 3))
  (dSeq (dWhile (dB (dVar 3)) (dSeq (dAsg (dC (.bl false)) (dgName 3))
  (dFor (diValues (dVar 0)) (dgName 4) (dIfS (dB (dCall 2 (dFn 6 B_is_orphan_8604) (dCons (dVar 4) (dCons (dVar 2) (dNil))))) (dSeq (dAsg (dBin rIxq (dVar 4) (dC (.int 0))) (dUnp 2 (dgCons (dgName 5) (dgCons (dgName 6) (dgNil)))))
  (dSeq (dAsg (dBin rAdd (dVar 6) (dC (.int 1))) (dSub (dVar 2) (dVar 5)))
  (dAsg (dC (.bl true)) (dgName 3)))) (dNext)))))
  (dRet (dCB (rTupq) (dCons (dVar 2) (dNil))))))
/-- least_between: 0 trips 1 low 2 high 3 line 4 number 5 most -/
def B_least_between_066e : DTS := dSeq (dAsg (dCall 2 (dFn 7 B_raised_352a) (dCons (dVar 0) (dCons (dVar 1) (dNil)))) (dgName 3))
  (dSeq (dIfS (dB (dCB (rAnyq fun bs => bs.any id) (dCons (dLc (diZip (dCons (dVar 3) (dCons (dVar 2) (dNil)))) (dUnp 2 (dgCons (dgName 4) (dgCons (dgName 5) (dgNil)))) (dYes) (dBin (rCmp fun i j => decide (j < i)) (dVar 4) (dVar 5)) [4, 5]) (dNil)))) (dRet (dC .non)) (dNext))
  (dRet (dVar 3)))
/-- limits_with: 0 history 1 states 2 low 3 high 4 process 5 number 6 row -/
def B_limits_with_c088 : DTS := dSeq (dAsg (dLc (diVal (dVar 0)) (dgName 6) (dYes) (dC (.int 0)) [6]) (dgName 2))
  (dSeq (dAsg (dCB (rListq) (dCons (dCall 1 (dFn 2 B_state_numbers_78d0) (dCons (dVar 0) (dNil))) (dNil))) (dgName 3))
  (dSeq (dFor (diVal (dVar 1)) (dUnp 2 (dgCons (dgName 4) (dgCons (dgName 5) (dgNil)))) (dSeq (dAsg (dCB (rMax2) (dCons (dBin rIxq (dVar 2) (dVar 4)) (dCons (dVar 5) (dNil)))) (dSub (dVar 2) (dVar 4)))
  (dAsg (dCB (rMin2) (dCons (dBin rIxq (dVar 3) (dVar 4)) (dCons (dVar 5) (dNil)))) (dSub (dVar 3) (dVar 4)))))
  (dRet (dTup (dCons (dCB (rTupq) (dCons (dVar 2) (dNil))) (dCons (dCB (rTupq) (dCons (dVar 3) (dNil))) (dNil)))))))
/-- least_line_with: 0 history 1 states 2 low 3 high -/
def B_least_line_with_19e1 : DTS := dSeq (dAsg (dCall 2 (dFn 7 B_limits_with_c088) (dCons (dVar 0) (dCons (dVar 1) (dNil)))) (dUnp 2 (dgCons (dgName 2) (dgCons (dgName 3) (dgNil)))))
  (dRet (dCall 3 (dFn 6 B_least_between_066e) (dCons (dCall 1 (dFn 5 B_trips_of_ea9a) (dCons (dVar 0) (dNil))) (dCons (dVar 2) (dCons (dVar 3) (dNil))))))
/-- nearest: 0 messages 1 distances 2 message -/
def B_nearest_cc72 : DTS := dRet (dBin rIxq (dCB rMinD (dCons (dLc (diVal (dVar 0)) (dgName 2) (dYes) (dTup (dCons (dDix (dVar 1) (dVar 2)) (dCons (dVar 2) (dNil)))) [2]) (dNil))) (dC (.int 1)))
/-- is_sent_behind: 0 trip 1 state 2 sender 3 interval 4 process 5 number -/
def B_is_sent_behind_1a14 : DTS := dSeq (dAsg (dBin rIxq (dVar 0) (dC (.int 0))) (dUnp 2 (dgCons (dgName 2) (dgCons (dgName 3) (dgNil)))))
  (dSeq (dAsg (dVar 1) (dUnp 2 (dgCons (dgName 4) (dgCons (dgName 5) (dgNil)))))
  (dRet (dAndV (dBin (rEqq false) (dVar 2) (dVar 4)) (dBin (rCmp fun i j => decide (j ≤ i)) (dVar 3) (dVar 5)))))
/-- is_received_before: 0 trip 1 state 2 receiver 3 interval 4 process 5 number -/
def B_is_received_before_f543 : DTS := dSeq (dAsg (dBin rIxq (dVar 0) (dC (.int 1))) (dUnp 2 (dgCons (dgName 2) (dgCons (dgName 3) (dgNil)))))
  (dSeq (dAsg (dVar 1) (dUnp 2 (dgCons (dgName 4) (dgCons (dgName 5) (dgNil)))))
  (dRet (dAndV (dBin (rEqq false) (dVar 2) (dVar 4)) (dBin (rCmp fun i j => decide (i < j)) (dVar 3) (dVar 5)))))
/-- distances_to: 0 trips 1 steps 2 state 3 distances 4 count 5 found 6 message 7 then -/
def B_distances_to_ec2b : DTS := dSeq (dAsg (dDNew) (dgName 3))
  (dSeq (dAsg (dC (.int 1)) (dgName 4))
  (dSeq (dAsg (dLc (diKeys (dVar 0)) (dgName 6) (dB (dCall 2 (dFn 6 B_is_received_before_f543) (dCons (dDix (dVar 0) (dVar 6)) (dCons (dVar 2) (dNil))))) (dVar 6) [6]) (dgName 5))
  (dSeq (dWhile (dTruL (dVar 5)) (dSeq (dFor (diVal (dVar 5)) (dgName 6) (dDPut (dVar 3) (dVar 6) (dVar 4)))
  (dSeq (dAug 4 (dC (.int 1)) (rI2 fun i j => i + j))
  (dAsg (dLc (diKeys (dVar 0)) (dgName 6) (dAnd (dB (dDin true (dVar 6) (dVar 3))) (dB (dCB (rAnyq fun bs => bs.any id) (dCons (dLc (diVal (dDix (dVar 1) (dVar 6))) (dgName 7) (dYes) (dDin false (dVar 7) (dVar 3)) [7]) (dNil))))) (dVar 6) [6]) (dgName 5)))))
  (dRet (dVar 3)))))
/-- is_step: 0 trips 1 message 2 then -/
def B_is_step_5234 : DTS := dRet (dCall 2 (dFn 6 B_is_sent_behind_1a14) (dCons (dDix (dVar 0) (dVar 2)) (dCons (dBin rIxq (dDix (dVar 0) (dVar 1)) (dC (.int 1))) (dNil))))
/-- zigzag_steps: 0 trips 1 message 2 then -/
def B_zigzag_steps_bb25 : DTS := dRet (dDc (diKeys (dVar 0)) (dgName 1) (dYes) (dVar 1) (dLc (diKeys (dVar 0)) (dgName 2) (dB (dCall 3 (dFn 3 B_is_step_5234) (dCons (dVar 0) (dCons (dVar 1) (dCons (dVar 2) (dNil)))))) (dVar 2) [2]) [1])
/-- find_zigzag: 0 history 1 one 2 other 3 trips 4 steps 5 distances 6 choices 7 zigzag 8 message 9 then -/
def B_find_zigzag_09d6 : DTS := dSeq (dAsg (dCall 1 (dFn 5 B_trips_of_ea9a) (dCons (dVar 0) (dNil))) (dgName 3))
  (dSeq (dAsg (dCall 1 (dFn 3 B_zigzag_steps_bb25) (dCons (dVar 3) (dNil))) (dgName 4))
  (dSeq (dAsg (dFrz (dCall 3 (dFn 8 B_distances_to_ec2b) (dCons (dVar 3) (dCons (dVar 4) (dCons (dVar 2) (dNil)))))) (dgName 5))
  (dSeq (dAsg (dLc (diKeys (dVar 5)) (dgName 8) (dB (dCall 2 (dFn 6 B_is_sent_behind_1a14) (dCons (dDix (dVar 3) (dVar 8)) (dCons (dVar 1) (dNil))))) (dVar 8) [8]) (dgName 6))
  (dSeq (dIfS (dNot (dTruL (dVar 6))) (dRet (dC .non)) (dNext))
  (dSeq (dAsg (dLst (dCons (dCall 2 (dFn 3 B_nearest_cc72) (dCons (dVar 6) (dCons (dVar 5) (dNil)))) (dNil))) (dgName 7))
  (dSeq (dWhile (dB (dBin (rCmp fun i j => decide (j < i)) (dDix (dVar 5) (dBin rIxq (dVar 7) (dUn rNeg (dC (.int 1))))) (dC (.int 1)))) (dSeq (dAsg (dLc (diVal (dDix (dVar 4) (dBin rIxq (dVar 7) (dUn rNeg (dC (.int 1)))))) (dgName 9) (dB (dDin false (dVar 9) (dVar 5))) (dVar 9) [9]) (dgName 6))
  (dDrop (dMtq "list" mAppend (dVar 7) (dCons (dCall 2 (dFn 3 B_nearest_cc72) (dCons (dVar 6) (dCons (dVar 5) (dNil)))) (dNil))))))
  (dRet (dCB (rTupq) (dCons (dVar 7) (dNil))))))))))
/-- is_number: 0 value -/
def B_is_number_52f5 : DTS := dRet (dAndV (dCB rIsi (dCons (dVar 0) (dCons (dC (.ty "int")) (dNil)))) (dNotV (dCB rIsi (dCons (dVar 0) (dCons (dC (.ty "bool")) (dNil))))))
/-- is_zigzag: 0 history 1 one 2 other 3 value 4 trips 5 message 6 then -/
def B_is_zigzag_87da : DTS := dSeq (dAsg (dCall 1 (dFn 5 B_trips_of_ea9a) (dCons (dVar 0) (dNil))) (dgName 4))
  (dSeq (dIfS (dOr (dNot (dB (dCB rIsi (dCons (dVar 3) (dCons (dC (.ty "tuple")) (dNil)))))) (dB (dBin (rEqq false) (dCB (rLen) (dCons (dVar 3) (dNil))) (dC (.int 0))))) (dRet (dC (.bl false))) (dNext))
  (dSeq (dIfS (dNot (dB (dCB (rAnyq fun bs => bs.all id) (dCons (dLc (diVal (dVar 3)) (dgName 5) (dYes) (dAndV (dCall 1 (dFn 1 B_is_number_52f5) (dCons (dVar 5) (dNil))) (dDin false (dVar 5) (dVar 4))) [5]) (dNil))))) (dRet (dC (.bl false))) (dNext))
  (dRet (dAndV (dCall 2 (dFn 6 B_is_sent_behind_1a14) (dCons (dDix (dVar 4) (dBin rIxq (dVar 3) (dC (.int 0)))) (dCons (dVar 1) (dNil)))) (dAndV (dCB (rAnyq fun bs => bs.all id) (dCons (dLc (diZip (dCons (dVar 3) (dCons (dSl (dVar 3) (dPart (dC (.int 1))) (dNoP)) (dNil)))) (dUnp 2 (dgCons (dgName 5) (dgCons (dgName 6) (dgNil)))) (dYes) (dCall 3 (dFn 3 B_is_step_5234) (dCons (dVar 4) (dCons (dVar 5) (dCons (dVar 6) (dNil))))) [5, 6]) (dNil))) (dCall 2 (dFn 6 B_is_received_before_f543) (dCons (dDix (dVar 4) (dBin rIxq (dVar 3) (dUn rNeg (dC (.int 1))))) (dCons (dVar 2) (dNil)))))))))
end Sv
namespace Sv
open PySem PySem.Spec PyProof.Rows L2
section
variable {P : Program} {w : World} {A : Around} {s : Shared} {E : Value → Shared → Prop}
/-- a set with nothing in it yet -/
abbrev bareS (w : World) : Obj := { cls := .type "set", dict := none, data := .set #[] 0 (.fresh 0 0 (!w.params.followText "set-order")) }
/-- what filling it leaves -/
def Filled (P : Program) (w : World) (ks : List (Addr × List Int)) (s s' : Shared) : Prop := ∃ h' tk L es ep t, s' = { s with heap := h', toks := tk } ∧ SetTR P w h' s.heap.objs.size L es ep t ∧ Got ks ks.length L ∧ ∀ b o, s.heap.get? b = some o → h'.get? b = some o
set_option maxHeartbeats 3200000 in
theorem set_of_tuple {l : Addr} {items : Array Value} (ks : List (Addr × List Int)) {Q : Value → Shared → Prop} (hh : A.handled = none) (hl : s.heap.IsTuple l items) (hit : items.toList = ks.map fun p => Value.ref p.1) (hk : ∀ p ∈ ks, IsT P w s.heap p.2 p.1) (hfew : ks.length < 64) (hu : A.units + 3 < cLine)
    (h : ∀ s', Filled P w ks s s' → Q (.ref s.heap.objs.size) s') : wpAny (model P w) A (call (.type "set") [.ref l]) Q E s := by
  have sz : items.size = ks.length := by
    have q := congrArg List.length hit
    rw [Array.length_toList, List.length_map] at q
    exact q
  obtain ⟨c, tl, hmro⟩ := F.called_set.mro
  have f1 := F.called_set.made
  have f2 := F.called_set.sub
  have f3 := F.called_set.notType
  have f4 := F.called_set.canCreate
  have f5 := F.typeCall_set_1 (.ref l)
  refine wpAny_call (codeAny_of_tree ?_)
  show wpAny _ _ (callAny (.type "set") _) _ _ _
  refine wpAny_pure ⟨Code.quiet_builtin _ (by decide +kernel), codeAny_builtin F.entry_type_call ?_⟩
  rw [Around.under_plain (weight_type_call_type "set" [.ref l] []) rfl]
  repeat (any_goals (first | assumption | wp_step))
  refine codeAny_mono (code_set_led1 (.ref l) (E := E) (Q₁ := fun v s1 => v = .ref s.heap.objs.size ∧ s1 = { s with heap := s.heap.push (bareS w) }) ⟨rfl, rfl⟩) fun r s1 hr => ?_
  rcases r with e | fl
  · exact hr
  cases fl with
  | ret v =>
    obtain ⟨rfl, rfl⟩ := hr
    have gS : (s.heap.push (bareS w)).get? s.heap.objs.size = some (bareS w) := Heap.get?_push_size _ rfl
    have tS : Shared.TypeIs { s with heap := s.heap.push (bareS w) } (.ref s.heap.objs.size) "set" := ⟨_, gS, rfl⟩
    have f6 := F.called_set.init.lookup
    have f7 := F.called_set.init.bind (.ref s.heap.objs.size)
    repeat (any_goals (first | assumption | wp_step))
    refine codeAny_mono (codeAny_call_builtin (R := wants (fun r s2 => r = .none ∧ Filled P w ks s s2) E) F.called_set.init.plain F.entry_set_init (check_set_init_1 tS ?_)) fun r2 s2 hr2 => ?_
    · obtain ⟨⟨ocls, odict, odata, oslots⟩, hol, hcl, nl, hdl⟩ := hl
      simp only at hcl hdl
      subst hcl hdl
      have ltS : l < s.heap.objs.size := Heap.lt_size hol
      have gl : (s.heap.push (bareS w)).get? l = some { cls := .type "tuple", dict := odict, data := .seq items nl, slots := oslots } := Heap.get?_push_of_some _ hol
      have tl : (s.heap.push (bareS w)).IsTuple l items := ⟨_, gl, rfl, nl, rfl⟩
      have q1 := F.sub_tuple_set
      have q2 := F.sub_tuple_frozenset
      have q3 : (Value.type "tuple" == Value.type "dict") = false := by decide
      unfold Builtin.«set.__init__» noKeywords Builtin.Frozenset.updateFrom
      generalize hPI : pyIter = PI
      wp_walk
      subst hPI
      refine wpAny_pyIter_tuple tl (wpAny_bind (wpAny_runValue ?_))
      have hi : A.in1.in1.in1.handled = none := by simp [hh]
      have sz1 : (s.heap.push (bareS w)).objs.size = s.heap.objs.size + 1 := Heap.size_push ..
      have no : ∀ b, s.heap.objs.size ≤ b → s.heap.get? b = none := fun b hb => by
        cases q : s.heap.get? b with
        | none => rfl
        | some o => exact absurd (Heap.lt_size q) (Nat.not_lt.mpr hb)
      have val : ∀ (i : Nat) (v : Value), items[i]? = some v → ∃ p, ks[i]? = some p ∧ v = .ref p.1 := fun i v hv => by
        have q : items.toList[i]? = some v := by rw [Array.getElem?_toList]; exact hv
        rw [hit, List.getElem?_map] at q
        obtain ⟨p, hp, e⟩ := Option.map_eq_some_iff.mp q
        exact ⟨p, hp, e.symm⟩
      refine set_update_tups ((Walks.tuple hi _ l (by rw [sz1]; exact Nat.ne_of_lt (Nat.lt_succ_of_lt ltS)) items).toS) s.heap.objs.size (by rw [sz1]; simp only [List.mem_cons, List.not_mem_nil, or_false, not_or]; exact ⟨Nat.ne_of_lt (Nat.lt_succ_self _), Nat.ne_of_gt ltS⟩) ks sz hfew val s.heap hk (no _ (Nat.le_refl _)) (fun b hb => no b (by rw [List.mem_singleton.mp hb, sz1]; omega)) hu (items.size - 0) 0 _ (by omega) (Nat.zero_le _) ⟨⟨_, Heap.get?_push_size _ rfl, rfl, rfl⟩, tl.push _⟩ (fun b o e => Heap.get?_push_of_some _ (Heap.get?_push_of_some _ e)) ⟨[], #[], 0, _, setTR_fresh (Heap.get?_push_of_some _ gS), Got.zero ks⟩ ?_
      rintro ⟨h', g2, d', tk', os'⟩ L es ep t hm hS' g' hkp
      obtain rfl : g2 = s.gens := hm.gens
      obtain rfl : d' = s.drawn := hm.drawn
      obtain rfl : os' = s.os := hm.os
      show wpAny _ _ _ _ _ _
      refine wpAny_pure ?_
      show wpAny _ _ (ret Value.none) _ _ _
      rw [sz] at g'
      exact wpAny_pure ⟨rfl, h', tk', L, es, ep, t, rfl, hS', g', hkp⟩
    · rcases r2 with e | fl2
      · exact hr2
      cases fl2 with
      | ret r =>
        obtain ⟨rfl, hf⟩ := hr2
        obtain ⟨h', tk, L, es, ep, t, rfl, hS', g', hk'⟩ := hf
        repeat (any_goals (first | assumption | wp_step))
        exact h _ ⟨h', tk, L, es, ep, t, rfl, hS', g', hk'⟩
      | _ => exact hr2.elim
  | _ => exact hr.elim
end
end Sv
namespace Sv
open PySem PySem.Spec PyProof.Rows L2
section
variable {X : Cx}
/-- set(xs), xs a tuple of tuples of ints -/
def rSetT : DRC := fun ds S R => ∃ (d : D) (L0 : List (List Int)), ds = [d] ∧ (d = .tup (L0.map fun q => .tup (intsD q)) ∨ d = .wtup (L0.map fun q => .tup (intsD q))) ∧ L0.length < 64 ∧
  ∀ p L, S p = none → (∀ q, q ∈ L ↔ q ∈ L0) → R (.ref p) (S.put p (.tset L))
theorem RDs.tups {K : KK} {H : Hp} : ∀ {L0 : List (List Int)} {vs : List V}, RDs K H (L0.map fun q => .tup (intsD q)) vs → ∃ ks : List (Addr × List Int), vs = ks.map (fun p => V.ref p.1) ∧ L0 = ks.map (·.2) ∧ ∀ p ∈ ks, TupN H p.1 (p.2.map V.int)
  | [], _, .nil => ⟨[], rfl, rfl, fun p hp => (nomatch hp)⟩
  | q :: L0, _, .cons r rs => by
    obtain ⟨ks, h1, h2, h3⟩ := RDs.tups (L0 := L0) rs
    cases r with
    | @tup a _ vs ht qq =>
      cases (RDs.ints_inv qq)
      refine ⟨(a, q) :: ks, by rw [h1]; rfl, by rw [h2]; rfl, fun p hp => ?_⟩
      rcases List.mem_cons.mp hp with rfl | hp
      · exact ht
      · exact h3 p hp
theorem b_setT (hc : X.calm = true) (hu : X.A.units + 64 < cLine) : CallR X (.type "set") (lC X.kk rSetT) := by
  intro pins s σ H vs us Q I r ⟨ds, S, R, r1, s1, ⟨d, L0, hd, hx, hl, q⟩, k⟩
  subst hd
  obtain ⟨v, rfl, rv⟩ := r1.inv1
  obtain ⟨t, ks, rfl, hT, hL0, hK⟩ : ∃ (t : Addr) (ks : List (Addr × List Int)), v = .ref t ∧ SqT X.K H t (ks.map fun p => V.ref p.1) ∧ L0 = ks.map (·.2) ∧ ∀ p ∈ ks, TupN H p.1 (p.2.map V.int) := by
    rcases hx with rfl | rfl
    · cases rv with
      | @tup t _ vs ht qq =>
        obtain ⟨ks, e1, e2, e3⟩ := RDs.tups qq
        subst e1
        exact ⟨t, ks, rfl, ht.sqT, e2, e3⟩
    · cases rv with
      | @wtup t _ vs ht qq =>
        obtain ⟨ks, e1, e2, e3⟩ := RDs.tups qq
        subst e1
        exact ⟨t, ks, rfl, .inl (.of ht), e2, e3⟩
  subst hL0
  rw [Vals.ref1 r]
  rw [List.length_map] at hl
  obtain ⟨its, rvs, it⟩ := I.tuple hT
  have hn : H s.heap.objs.size = none := I.hok.fresh (Nat.le_refl _)
  refine set_of_tuple (P := X.prog) (w := X.w) ks (I.ok.hd hc) it.1 (by simpa using refs_of_vals rvs) (fun p hp => I.isT (hK p hp).sqT) hl (by omega) fun s' ⟨h', tk, L, es, ep, t, e, R0, g, kp⟩ => ?_
  subst e
  have e : Ext H (upd H s.heap.objs.size (SetTO X.prog X.w s.heap.objs.size L)) := .new hn
  have sub : ∀ p ∈ L, p ∈ ks := fun p hp => List.mem_of_mem_take (g.sub p hp)
  refine ⟨.ref s.heap.objs.size, upd H s.heap.objs.size (SetTO X.prog X.w s.heap.objs.size L), I.laid (t' := tk) kp (Nat.le_refl _) (setTO_new R0.t0), rfl, ?_⟩
  refine k _ _ _ _ (q s.heap.objs.size (L.map (·.2)) (s1.fresh hn) fun z => ⟨fun hz => ?_, fun hz => ?_⟩) (s1.lay (o := .tset (L.map (·.2))) hn ⟨L, upd_same, fun p hp => (hK p (sub p hp)).ext e, rfl⟩) (.ref _) e
  · obtain ⟨p, hp, rfl⟩ := List.mem_map.mp hz
    exact List.mem_map.mpr ⟨p, sub p hp, rfl⟩
  · obtain ⟨p, hp, rfl⟩ := List.mem_map.mp hz
    exact g.all p (by rw [List.take_length]; exact hp)
end
end Sv
namespace Sv
open PySem L2
/-- pair_apart: 0 history 1 states 2 one 3 other -/
def B_pair_apart_e180 : DTS := dSeq (dFor (diVal (dCB rSortedS' (dCons (dCB rSetT (dCons (dVar 1) (dNil))) (dNil)))) (dgName 2) (dFor (diVal (dCB rSortedS' (dCons (dCB rSetT (dCons (dVar 1) (dNil))) (dNil)))) (dgName 3) (dIfS (dB (dNotN (dCall 3 (dFn 10 B_find_zigzag_09d6) (dCons (dVar 0) (dCons (dVar 2) (dCons (dVar 3) (dNil))))))) (dRet (dTup (dCons (dVar 2) (dCons (dVar 3) (dNil))))) (dNext))))
  (dRet (dC .non))
/-- verdict: 0 history 1 states 2 line 3 one 4 other -/
def B_verdict_403b : DTS := dSeq (dAsg (dCall 2 (dFn 4 B_least_line_with_19e1) (dCons (dVar 0) (dCons (dVar 1) (dNil)))) (dgName 2))
  (dSeq (dIfS (dB (dNotN (dVar 2))) (dRet (dTup (dCons (dC (.str "line")) (dCons (dVar 2) (dNil))))) (dNext))
  (dSeq (dAsg (dCall 2 (dFn 4 B_pair_apart_e180) (dCons (dVar 0) (dCons (dVar 1) (dNil)))) (dUnp 2 (dgCons (dgName 3) (dgCons (dgName 4) (dgNil)))))
  (dRet (dTup (dCons (dC (.str "zigzag")) (dCons (dVar 3) (dCons (dVar 4) (dCons (dCall 3 (dFn 10 B_find_zigzag_09d6) (dCons (dVar 0) (dCons (dVar 3) (dCons (dVar 4) (dNil))))) (dNil)))))))))
end Sv
set_option maxHeartbeats 2000000
namespace Sv
open PySem PySem.Spec PyProof.Rows L2
structure FunK (K : PySem.W.Frag) (x : Str) (st : Stmt) (kn : Str) (dv : Value) (f : Addr) (fd : FuncData) : Prop where
  ex : ∃ (oc : Value) (od : Option Addr) (D : Addr) (doc pm : Value) (an : Option Addr) (cdv ct : Value) (osl : Array (Option Value)),
    fd = PySem.W.fnOf x x (defArgs st) (defBody st) (defScope st) .none (.ref D) doc pm an cdv ct ∧ K.lookup f = some ⟨oc, od, .func fd, osl⟩ ∧ PySem.W.codeIn K cdv x = true ∧ PySem.W.nsIn K D kn = some (some dv)
  kp : PySem.W.keepIn K (.ref f) = true
theorem funk_mk {K : PySem.W.Frag} {x : Str} {st : Stmt} {kn : Str} {dv : Value} {f D : Addr} {oc doc pm cdv ct : Value} {od an : Option Addr} {osl : Array (Option Value)} (l : K.lookup f = some ⟨oc, od, .func (PySem.W.fnOf x x (defArgs st) (defBody st) (defScope st) .none (.ref D) doc pm an cdv ct), osl⟩) (c : PySem.W.codeIn K cdv x = true) (k : PySem.W.keepIn K (.ref f) = true) (d : PySem.W.nsIn K D kn = some (some dv)) :
    FunK K x st kn dv f (PySem.W.fnOf x x (defArgs st) (defBody st) (defScope st) .none (.ref D) doc pm an cdv ct) := ⟨⟨oc, od, D, doc, pm, an, cdv, ct, osl, rfl, l, c, d⟩, k⟩
/-- what it binds -/
def BK (fd : FuncData) (ps : List Str) (kn pv : Str) : Prop :=
  (∀ (us rest : List Value) (v : Value), us.length = ps.length → bindArgs fd ⟨us ++ rest, [(kn, v)]⟩ = (newTuple rest >>= fun t => pure (ps.zip us ++ [(kn, v), (pv, t)]))) ∧
  (∀ (us rest : List Value) (v : Value) (D : Addr), fd.kwdefaults = .ref D → us.length = ps.length → ∃ (β γ : Type) (k1 : Option Value → Sem β) (k2 : β → Sem γ) (k3 : γ → Sem (List (Str × Value))) (a : β), bindArgs fd ⟨us ++ rest, []⟩ = ((nsGet D kn >>= k1) >>= k2) >>= k3 ∧ k1 (some v) = pure a ∧ (k2 a >>= k3) = (newTuple rest >>= fun t => pure (ps.zip us ++ [(kn, v), (pv, t)])))
section
variable {P : Program} {w : World} {K : PySem.W.Frag} {mg : Str → Option Value} {base : Heap}
/-- called with the keyword -/
def FnRW (P : Program) (w : World) (K : PySem.W.Frag) (mg : Str → Option Value) (base : Heap) (CX : CXT) (k : Nat) (f : Addr) (kn : Str) (sp : List V → V → Hp → VK → XK → Prop) : Prop :=
  ∀ (A : Around) (outer : List PySem.Env) (s : Shared) (H : Hp) (us : List Value) (u : Value) (vs : List V) (z : V) (Q : VK) (E : XK), Room k A → Env0 P w K mg base A outer s H → Vals vs us → RelV z u → sp vs z H Q E →
    codeAny (model P w) A (.call (.ref f) ⟨us, [(kn, u)]⟩) (CR CX outer P w H s Q E) s
theorem run_k {x : Str} {st : Stmt} {f : Addr} {fd : FuncData} {N ps : List Str} {kn pv : Str} {dv : Value} {k : Nat} {B : DTS} (F : FunK K x st kn dv f fd) (Sc : FnScope N (ps ++ [kn, pv]) (defScope st))
    (hbody : ∀ (cdv : Value) (A : Around) (outer : List PySem.Env) (s : Shared) (H : Hp) (E : XK), Room k (A.deeper (envOfC x (defScope st) s.heap.objs.size f cdv)) →
      DSs (cxOf CX0 P w K mg base N x (defScope st) f cdv A outer s H E).nox (defBody st) B)
    {A : Around} {outer : List PySem.Env} {s : Shared} {H : Hp} {Q : VK} {E : XK} (hr : Room (k + 1) A) (e0 : Env0 P w K mg base A outer s H) {args : Args} {u1 u2 : List Value} {v : Value} {ws rest : List V} {z : V} (r1 : Vals ws u1) (r2 : Vals rest u2) (rv : RelV z v) (hl : ws.length = ps.length) (hz : rest.length ≤ sizeLine)
    (hb : ∀ (A' : Around) (Ex : Value → Shared → Prop) (Q' : List (Str × Value) → Shared → Prop), wpAny (model P w) A' (newTuple u2 >>= fun t => pure (ps.zip u1 ++ [(kn, v), (pv, t)])) Q' Ex s → wpAny (model P w) A' (bindArgs fd args) Q' Ex s)
    (hq : ∀ p, H p = Option.none → lC ⟨P, w, K⟩ (dFn N.length B) (ws ++ [z, V.ref p]) (upd H p (.tup rest)) Q) : codeAny (model P w) A (.call (.ref f) args) (CR CX0 outer P w H s Q E) s := by
  obtain ⟨oc, od, D, doc, pm, an, cdv, ct, osl, rfl, lk, hcd, _⟩ := F.ex
  have hn : H s.heap.objs.size = Option.none := e0.hok.fresh (Nat.le_refl _)
  have hl1 : u1.length = ps.length := by rw [← r1.length]; exact hl
  have hl2 : u2.length ≤ sizeLine := by rw [← r2.length]; exact hz
  refine StX.run_bnd lk hcd Sc hr e0 (G := fun xs H2 => ∃ p, H p = Option.none ∧ xs = ws ++ [z, V.ref p] ∧ H2 = upd H p (.tup rest)) (fun A' Ex Q' h => hb A' Ex Q' ?_) fun s2 H2 xs ⟨p, hp, ex, eH⟩ hr' => ?_
  · refine wpAny_bind (wpAny_newTuple (wpAny_pure ?_) hl2)
    have new : ObjOk P w (upd H s.heap.objs.size (.tup rest)) (s.heap.push ({ cls := .type "tuple", data := .seq u2.toArray } : Obj)) s.heap.objs.size (.tup rest) := ⟨hz, u2, r2, ⟨_, Heap.get?_push_size _ rfl, rfl, _, rfl⟩⟩
    have un := StX.un_laid (fs := frs outer) (s := s) (o := ({ cls := .type "tuple", data := .seq u2.toArray } : Obj)) (u := .tup rest) hn
    have y := h _ _ (ws ++ [z, V.ref s.heap.objs.size]) (u1 ++ [v, Value.ref s.heap.objs.size]) (StX.env0_laid e0 new) un rfl (fun e s' z => z) (r1.append (.cons rv (.cons rfl .nil)))
      (by rw [List.length_append, List.length_append, hl] <;> rfl) ⟨_, hn, rfl, rfl⟩
    rw [List.zip_append hl1.symm] at y
    exact y
  · subst ex eH
    obtain ⟨ds, S, R, r, s1, q, kk⟩ := hq p hp
    exact ⟨_, ((hbody cdv A outer s2 _ E hr').run).nox, _, S, _, rs_start r s1, q, fun env' S' σ' H' q' r' e' => kk _ _ _ _ q' r'.sto .non e', fun d S' v H' q' s' r' e' => kk _ _ _ _ q' s' r' e', fun _ _ _ _ q' => q'.elim, fun _ _ _ _ q' => q'.elim⟩
/-- called without it -/
def dFnSK (m : Nat) (dflt : D) (n : Nat) (B : DTS) : DRC := fun ds S R => m ≤ ds.length ∧ ds.length ≤ 1000 ∧ dFn n B (ds.take m ++ [dflt, .wtup (ds.drop m)]) S R
abbrev DRK := List D → D → Sto → DK → Prop
def dFnSW (m n : Nat) (B : DTS) : DRK := fun ds e S R => m ≤ ds.length ∧ ds.length ≤ 1000 ∧ dFn n B (ds.take m ++ [e, .wtup (ds.drop m)]) S R
def lK (K : KK) (r : DRK) : List V → V → Hp → VK → Prop := fun vs z H Q => ∃ ds e S R, RDs K H ds vs ∧ RD K H e z ∧ RelS K S H ∧ r ds e S R ∧ ∀ y S' v H', R y S' → RelS K S' H' → RD K H' y v → Ext H H' → Q v H'
theorem fn_sk {x : Str} {st : Stmt} {f : Addr} {fd : FuncData} {N ps : List Str} {kn pv : Str} {b : Bool} {k m : Nat} {B : DTS} (F : FunK K x st kn (.bool b) f fd) (Sc : FnScope N (ps ++ [kn, pv]) (defScope st)) (hb : BK fd ps kn pv) (hm : ps.length = m)
    (hbody : ∀ (cdv : Value) (A : Around) (outer : List PySem.Env) (s : Shared) (H : Hp) (E : XK), Room k (A.deeper (envOfC x (defScope st) s.heap.objs.size f cdv)) →
      DSs (cxOf CX0 P w K mg base N x (defScope st) f cdv A outer s H E).nox (defBody st) B) : FnR P w K mg base CX0 (k + 1) f (fun vs H Q _ => lC ⟨P, w, K⟩ (dFnSK m (.bl b) N.length B) vs H Q) := by
  intro A outer s H us vs Q E hr e0 r h
  obtain ⟨ds, S, R, rd, s1, ⟨h1, h2, q⟩, kk⟩ := h
  have hl := rd.length
  obtain ⟨u1, u2, eu, r1, r2⟩ := StX.vals_split (ws := vs.take m) (rest := vs.drop m) (us := us) (by rw [List.take_append_drop]; exact r)
  subst eu
  have hl1 : u1.length = ps.length := by rw [← r1.length, List.length_take]; omega
  obtain ⟨oc, od, D, doc, pm, an, cdv, ct, osl, efd, lk, hcd, hd⟩ := F.ex
  have KX : K.In s.heap := e0.mod.kin.keeps fun b o e => (e0.bs b o e).1
  refine run_k F Sc hbody hr e0 (v := .bool b) (z := .bl b) r1 r2 rfl (by rw [List.length_take]; omega) (by rw [List.length_drop]; exact Nat.le_trans (by omega : vs.length - m ≤ 1000) (by decide)) (fun A' Ex Q' hw => ?_) fun p np => ?_
  · obtain ⟨β, γ, k1, k2, k3, a, g1, g2, g3⟩ := hb.2 u1 u2 (.bool b) D (by rw [efd]) hl1
    rw [g1, bind_assoc]
    have l1 : PySem.W.Looks (model P w) s.heap (nsGet D kn >>= k1) a := (PySem.W.looks_nsIn KX hd).andThen (PySem.W.Looks.of_pure g2)
    refine wpAny_bind (l1.here ?_)
    rw [g3]
    exact hw
  · have e : Ext H (upd H p (.tup (vs.drop m))) := .new np
    exact ⟨ds.take m ++ [.bl b, .wtup (ds.drop m)], S, R, ((rd.take m).ext e).append (.cons (.bl b) (.cons (.wtup upd_same ((rd.drop m).ext e)) .nil)), s1.new np, q, fun z S' v H' q' s' r' e' => kk _ _ _ _ q' s' r' (e.trans e')⟩
theorem fn_sw {x : Str} {st : Stmt} {f : Addr} {fd : FuncData} {N ps : List Str} {kn pv : Str} {dv : Value} {k m : Nat} {B : DTS} (F : FunK K x st kn dv f fd) (Sc : FnScope N (ps ++ [kn, pv]) (defScope st)) (hb : BK fd ps kn pv) (hm : ps.length = m)
    (hbody : ∀ (cdv : Value) (A : Around) (outer : List PySem.Env) (s : Shared) (H : Hp) (E : XK), Room k (A.deeper (envOfC x (defScope st) s.heap.objs.size f cdv)) →
      DSs (cxOf CX0 P w K mg base N x (defScope st) f cdv A outer s H E).nox (defBody st) B) : FnRW P w K mg base CX0 (k + 1) f kn (fun vs z H Q _ => lK ⟨P, w, K⟩ (dFnSW m N.length B) vs z H Q) := by
  intro A outer s H us u vs z Q E hr e0 r rz h
  obtain ⟨ds, ez, S, R, rd, re, s1, ⟨h1, h2, q⟩, kk⟩ := h
  have hl := rd.length
  obtain ⟨u1, u2, eu, r1, r2⟩ := StX.vals_split (ws := vs.take m) (rest := vs.drop m) (us := us) (by rw [List.take_append_drop]; exact r)
  subst eu
  have hl1 : u1.length = ps.length := by rw [← r1.length, List.length_take]; omega
  refine run_k F Sc hbody hr e0 (v := u) (z := z) r1 r2 rz (by rw [List.length_take]; omega) (by rw [List.length_drop]; exact Nat.le_trans (by omega : vs.length - m ≤ 1000) (by decide)) (fun A' Ex Q' hw => ?_) fun p np => ?_
  · rw [hb.1 u1 u2 u hl1]
    exact hw
  · have e : Ext H (upd H p (.tup (vs.drop m))) := .new np
    exact ⟨ds.take m ++ [ez, .wtup (ds.drop m)], S, R, ((rd.take m).ext e).append (.cons (re.ext e) (.cons (.wtup upd_same ((rd.drop m).ext e)) .nil)), s1.new np, q, fun z S' v H' q' s' r' e' => kk _ _ _ _ q' s' r' (e.trans e')⟩
/-- a def of the module with the keyword, by promise -/
structure DFw (P : Program) (w : World) (K : PySem.W.Frag) (mg : Str → Option Value) (base : Heap) (k : Nat) (x kn : Str) (r : DRK) : Prop where
  ex : ∃ f : Addr, FnRW P w K mg base CX0 k f kn (fun vs z H Q _ => lK ⟨P, w, K⟩ r vs z H Q) ∧ mg x = some (.ref f) ∧ PySem.W.keepIn K (.ref f) = true
theorem DFw.mk' {k : Nat} {x kn : Str} {r : DRK} {f : Addr} (F : FnRW P w K mg base CX0 k f kn (fun vs z H Q _ => lK ⟨P, w, K⟩ r vs z H Q)) (hm : mg x = some (.ref f)) (hk : PySem.W.keepIn K (.ref f) = true) : DFw P w K mg base k x kn r := ⟨f, F, hm, hk⟩
end
section
variable {X : Cx} {e kv : Expr} {es : List Expr} {te : DTE} {tl : DTA} {pos p kpos : Pos}
def dCBK (r : DRK) (t : DTA) (te : DTE) : DTE := fun env S R => t env S fun ds S1 => te env S1 fun d S2 => r ds d S2 R
theorem de_callSW {k : Nat} {r : DRK} {x kn : Str} (F : DFw X.prog X.w X.K X.mg X.base k x kn r) (hr : Room k X.A) (hg : Gl X x) (ha : DA X (e :: es) tl) (hv : DE X kv te)
    (hall : (backToKw pos (keywordEach [⟨some kn, kv, kpos⟩] X.env)).all (·.1.isSome) = true := by rfl) (hks : (backToKw pos (keywordEach [⟨some kn, kv, kpos⟩] X.env)).filterMap (·.1) = [kn] := by rfl)
    (hdb : (x == ("__debug__" : Str)) = false := by decide) (he : starEach (e :: es) X.env = (false, eval e X.env) :: starEach es X.env := by rfl)
    (hpl : ((backTo pos (starEach (e :: es) X.env)).any (·.1) || (backToKw pos (keywordEach [⟨some kn, kv, kpos⟩] X.env)).any (·.1.isNone)) = false := by rfl) :
    DE X (.Call (.Name x p) (e :: es) [⟨some kn, kv, kpos⟩] pos) (dCBK r tl te) := by
  obtain ⟨f, F, hm, hk⟩ := F.ex
  refine ⟨⟨fun pins s σ H Q I h => ?_⟩⟩
  obtain ⟨env, S, R, rs, h, kq⟩ := h
  have pk := L2.pk_cons (X := X) (nm := some kn) (kpos := kpos) hv.run L2.pk_nil
  refine wpAny_Call_Name_kw (ld_glob I hg hm ?_ hdb)
  refine PySem.W.callWith_KW (h₀ := X.base) I.ok.mod.kin hk hall (thn (ha.run.run pos pins s σ H (fun vs H1 => lE X.kk te σ H1 fun z H2 => lK X.kk r vs z H2 Q) I ?_) fun us s1 ⟨vs, H1, I1, rv, q1⟩ => ?_) hpl he
  · exact ⟨env, S, _, rs, h, fun ds S1 vs H1 q1 s1 r1 e1 => ⟨env, S1, _, rs.ext e1 s1, q1, fun d S2 z H2 q2 s2 r2 e2 => ⟨ds, d, S2, R, r1.ext e2, r2, s2, q2, fun y S3 v H3 q3 s3 r3 e3 => kq _ _ _ _ q3 s3 r3 (e1.trans (e2.trans e3))⟩⟩⟩
  refine thn (pk.run pos pins s1 σ H1 (fun zs H2 => ∃ z, zs = [z] ∧ lK X.kk r vs z H2 Q) I1 ?_) fun wv s2 ⟨zs, H2, I2, rz, z, hz, q2⟩ => ⟨I2.kIn, ?_⟩
  · obtain ⟨env, S, R, rs, h, kq⟩ := q1
    exact ⟨env, S, R, rs, h, fun d S' v H' q s r e => ⟨_, rfl, kq _ _ _ _ q s r e⟩⟩
  · subst hz
    rw [hks]
    obtain ⟨u, rfl, ru⟩ := vals1 rz
    refine wpAny_call (codeAny_mono (F X.A X.stack s2 H2 us u vs z Q (fun _ _ _ => False) hr I2.env0 rv ru q2) fun r s' hq => ?_)
    cases r with
    | error e => exact pass0 pins σ H2 s2 e s' I2 hq
    | ok fl =>
      cases fl with
      | ret u => exact I2.after hq
      | next => exact False.elim hq
      | brk => exact False.elim hq
      | cont => exact False.elim hq
end
end Sv
set_option maxHeartbeats 1000000
namespace Sv
open PySem PySem.Spec PyProof.Rows L2
section
variable {X : Cx}
/-- {i for .. in .. if ..}, ints: D the new set -/
def tSi (P : Program) (w : World) (wi : TI) (g : TG) (tt : TT) (te : TE) (vs : List Nat) : TE := fun σ H Q => wi σ H fun J H1 => ∀ D, H1 D = none → ∃ W : Nat → Nat → Hp → Prop, (∃ m, W 0 m (upd H1 D (SetK P w D (fun _ => false) 0))) ∧ ∀ i m H, W i m H →
  (J.stop i H ∧ Q (.ref D) H) ∨ (J.go i H ∧ ∃ Nx : Hp → Prop, (∀ H', Nx H' → ∃ m', m' < m ∧ W (i + 1) m' H') ∧ ∀ x H', J.yld i H x H' → g x (wipe σ vs) H' fun σ2 H2 => wipe σ2 vs = wipe σ vs ∧ tt σ2 H2 fun b H3 =>
    if b = true then te σ2 H3 fun y H4 => ∃ (c : Int) (S : Key → Bool) (n : Nat), y = .int c ∧ H4 D = some (SetK P w D S n) ∧ n + 1 < scanBound ∧ Nx (upd H4 D (SetK P w D (fun j => S j || decide (j = Sum.inl c)) (if S (Sum.inl c) = true then n else n + 1))) else Nx H3)
theorem pe_si {el ta ia : Expr} {ca : List Expr} {scope : Scope} {own : List (Str × Nat)} {pos : Pos} {wi : TI} {g : TG} {tt : TT} {te : TE} (hc : X.calm = true) (hN : X.N.Nodup) (hi : PI X ta ia wi) (ok : BlkOk X.N X.env.scope scope own)
    (hg : ∀ (s : Shared) (H : Hp) (C : Addr) (cl : List (Str × Addr)) (fp : List Addr), PG (X.blk s H scope (compEnvC scope cl C X.env) fp) ta g) (ht : ∀ (s : Shared) (H : Hp) (C : Addr) (cl : List (Str × Addr)) (fp : List Addr), PTs (X.blk s H scope (compEnvC scope cl C X.env) fp) ca tt)
    (he : ∀ (s : Shared) (H : Hp) (C : Addr) (cl : List (Str × Addr)) (fp : List Addr), PE (X.blk s H scope (compEnvC scope cl C X.env) fp) el te) (hs : ∀ x, foldedSetIterable ia X.env x = pure x := by intro _; rfl) :
    PE X (.SetComp el [⟨ta, ia, ca, 0⟩] scope pos) (tSi X.prog X.w wi g tt te (own.map (·.2))) := by
  refine ⟨fun pins s σ H Q I h => ?_⟩
  rw [PpSet.eval_SetComp]
  have fr : ∀ y ∈ scope.names, y.2 = .free → ∃ c, X.env.cells.lookup y.1 = some c := fun y hy e => (ok.free y hy e).elim (fun z => I.ok.has _ (.inl z)) fun z => I.ok.has _ (.inr z)
  refine wpAny_comprehension_free (use := none) rfl hs (closure_ok fr) ok.kind (fun y hy e => by rw [ok.uniq y hy, e]) (thn (hi.run pins s σ H _ I h) fun v s1 h1 => thn h1 fun u s2 h2 => ?_)
  obtain ⟨it, fp, tn, J, H2, rfl, I2, T, st2, f2, q⟩ := h2
  refine PpSet.newSet_ok (newEnv_comp ?_)
  obtain ⟨D, hD⟩ : ∃ D, D = s2.heap.objs.size := ⟨_, rfl⟩
  have hDn : H2 D = none := I2.hok.fresh (Nat.le_of_eq hD.symm)
  obtain ⟨W, ⟨m0, w0⟩, turn⟩ := q D hDn
  obtain ⟨s3, hs3⟩ : ∃ s3 : Shared, s3 = { s2 with heap := s2.heap.push { cls := .type "set", dict := none, data := .set #[] 0 (.fresh 0 0 (!X.w.params.followText "set-order")) } } := ⟨_, rfl⟩
  have heap3 : s3.heap = s2.heap.push { cls := .type "set", dict := none, data := .set #[] 0 (.fresh 0 0 (!X.w.params.followText "set-order")) } := by rw [hs3]
  have old3 : ∀ b o, s2.heap.get? b = some o → s3.heap.get? b = some o := fun b o e => by rw [heap3]; exact Heap.get?_push_of_some _ e
  have I3 : Inv X pins σ (upd H2 D (SetK X.prog X.w D (fun _ => false) 0)) s3 := by
    rw [hs3]
    refine I2.laid (t' := s2.toks) (fun b o e => Heap.get?_push_of_some _ e) (Nat.le_of_eq hD.symm) (setK_new ?_)
    rw [hD]
    exact ⟨_, #[], 0, _, Heap.get?_push_size _ rfl, ⟨rfl, rfl, rfl⟩, rfl, (fun e he => by simp at he), (fun k => by simp), (by decide), (by rfl), rfl⟩
  obtain ⟨H3, hH3⟩ : ∃ H3, H3 = upd H2 D (SetK X.prog X.w D (fun _ => false) 0) := ⟨_, rfl⟩
  rw [← hH3] at I3 w0
  have f3 : ∀ b ∈ fp, FpOk X pins H3 b ∧ b < s3.heap.objs.size := fun b hb => by
    obtain ⟨o, e, _⟩ := T.obj _ _ st2 b hb
    have lt : b < s2.heap.objs.size := Heap.lt_size e
    refine ⟨⟨?_, (f2 b hb).2⟩, by rw [heap3, Heap.size_push]; exact Nat.lt_succ_of_lt lt⟩
    rw [hH3, upd_ne (by rw [hD]; exact Nat.ne_of_lt lt)]
    exact (f2 b hb).1
  have st3 : tn 0 s3.heap := T.keep _ _ _ st2 fun b _ o e => old3 b o e
  have I4 := block_start I3 ok hN f3
  obtain ⟨ce, hce⟩ : ∃ ce, ce = compEnvC scope (cellsFrom (s3.heap.objs.size + 1) scope.names (cloFrom X.env.cells scope.names [])) s3.heap.objs.size X.env := ⟨_, rfl⟩
  obtain ⟨s4, hs4⟩ : ∃ s4 : Shared, s4 = { s3 with heap := pushCells (s3.heap.push { cls := .type "dict", data := .dict #[] }) scope.names } := ⟨_, rfl⟩
  have pg : PG (X.blk s3 H3 scope ce fp) ta g := by rw [hce]; exact hg _ _ _ _ _
  have pt : PTs (X.blk s3 H3 scope ce fp) ca tt := by rw [hce]; exact ht _ _ _ _ _
  have pe : PE (X.blk s3 H3 scope ce fp) el te := by rw [hce]; exact he _ _ _ _ _
  have cl : ce.locals = s3.heap.objs.size := by rw [hce]; rfl
  have st4 : tn 0 s4.heap := T.keep _ _ _ st3 fun b _ o e => by rw [hs4]; exact pushCells_keeps _ _ _ _ (Heap.get?_push_of_some _ e)
  rw [← hce, ← hs4] at I4
  rw [← hs3, ← hD]
  show codeAny _ _ (.compStart (.SetComp el [⟨ta, ia, ca, 0⟩] scope pos) 0 (.ref it) (.ref D) (compEnvC scope (cellsFrom (s3.heap.objs.size + 1) scope.names (cloFrom X.env.cells scope.names [])) s3.heap.objs.size X.env)) (compPost (model X.prog X.w) X.A X.xe none (EP X pins σ Q) (.ref D) s3.heap.objs.size) { s3 with heap := pushCells (s3.heap.push { cls := .type "dict", data := .dict #[] }) scope.names }
  rw [← hce, ← hs4]
  have away : ∀ {τ : L2.St} {G : Hp} {s' : Shared}, Inv (X.blk s3 H3 scope ce fp) [] τ G s' → (∀ b ∈ fp, G b = none) → ∀ b ∈ fp, FpOk (X.blk s3 H3 scope ce fp) [] G b := fun {τ G s'} J' n b hb =>
    ⟨n b hb, (J'.ok.exf b hb).1, J'.ok.exfs b hb, .inl hb, fun x c e => (J'.ok.exf b hb).2 x c e, fun p hp => absurd (show p ∈ ([] : List (Addr × Obj)) ++ [] from hp) (by simp)⟩
  have loop : codeAny (model X.prog X.w) X.A (.compLoop (.SetComp el [⟨ta, ia, ca, 0⟩] scope pos) 0 (.ref it) (.ref D) ce) (compPost (model X.prog X.w) X.A X.xe none (EP X pins σ Q) (.ref D) s3.heap.objs.size) s4 := by
    refine PpSet.compLoopS_any (fun n s' => ∃ i G, Inv (X.blk s3 H3 scope ce fp) [] (wipe σ (own.map (·.2))) G s' ∧ tn i s'.heap ∧ (∀ b ∈ fp, G b = none) ∧ W i n G) ?_ m0 ⟨0, H3, I4, st4, fun b hb => (f3 b hb).1.1, w0⟩
    rintro n s5 ⟨i, G, I5, st5, n5, w5⟩
    rcases turn i n G w5 with ⟨stop, fine⟩ | ⟨go, N, less, next⟩
    · refine no_mono (T.done (X.blk s3 H3 scope ce fp) rfl rfl rfl hc i [] s5 _ G _ I5 (away I5 n5) st5 stop) fun r s6 h6 => ?_
      obtain ⟨rfl, I6⟩ := h6
      have I7 : Inv X pins σ G s6 := I3.call' (ch := fp) I6.os I6.base I6.hok I6.bare fun b hb => ⟨(f3 b hb).1.2.2.2.1, (f3 b hb).1.2.1, (f3 b hb).1.2.2.2.2.1, (f3 b hb).1.2.2.2.2.2⟩
      have nC : G s3.heap.objs.size = none := by
        rw [← cl]
        exact I6.free
      obtain ⟨m, ns, _⟩ := I6.loc
      have ns : s6.heap.Ns ce.locals m := ns
      rw [cl] at ns
      obtain ⟨c0, c1, c2, c3, c4, c5⟩ : FpOk X pins G s3.heap.objs.size := I3.fpOk (Nat.le_refl _) nC
      exact ⟨m, ns, fun h' sb => ⟨.ref D, G, I7.turned (t' := s6.toks) (fun b o hb e => (sb.2 b hb).trans e) c0 c1 c3 c4 c5, rfl, fine⟩⟩
    · have one := loop_step (B := X.blk s3 H3 scope ce fp) rfl hc T I5 (away I5 n5) st5 go pg pt next
      refine no_mono one fun r s6 h6 => ?_
      obtain ⟨v, rfl, h6⟩ := h6
      refine no_mono h6 fun _ s7 h7 => no_mono h7 fun _ s8 h8 => no_mono h8 fun z s9 h9 => ?_
      obtain ⟨σ2, H4, s0, I9, k9, q9, st9⟩ := h9
      have len9 : (wipe σ (own.map (·.2))).length = σ2.length := by rw [← k9, wipe_length]
      have sub9 : ∀ (j : Nat) v, (wipe σ (own.map (·.2)))[j]? = some (some v) → σ2[j]? = some (some v) := fun j v e => by
        rw [← k9] at e
        exact (wipe_some e).1
      have back : ∀ {τ : L2.St} {s' : Shared} {G' : Hp}, Inv (X.blk s3 H3 scope ce fp) ([] ++ pinsAt fp s0.heap) τ G' s' → (wipe σ (own.map (·.2))).length = τ.length → (∀ (j : Nat) v, (wipe σ (own.map (·.2)))[j]? = some (some v) → τ[j]? = some (some v)) → N G' →
          ∃ m, m < n ∧ ∃ i G, Inv (X.blk s3 H3 scope ce fp) [] (wipe σ (own.map (·.2))) G s' ∧ tn i s'.heap ∧ (∀ b ∈ fp, G b = none) ∧ W i m G := fun {τ s' G'} J' hl hk y => by
        obtain ⟨m', lt, wn⟩ := less G' y
        obtain ⟨b1, b2, b3⟩ := loop_back (B := X.blk s3 H3 scope ce fp) T J' st9 hl hk
        exact ⟨m', lt, i + 1, G', b1, b2, b3, wn⟩
      cases z with
      | false => exact back I9 len9 sub9 q9
      | true =>
        have q9 : te σ2 H4 _ := q9
        have rune := pe.run _ s9 σ2 H4 _ I9 q9
        refine no_mono rune fun x s18 h18 => ?_
        obtain ⟨y, H18, I18, rx, c, S, n0, rfl, hDL, room, last⟩ := h18
        have add := mt_saddK (X := X.blk s3 H3 scope ce fp) _ s18 σ2 H18 (V.ref D) [V.int c] (Value.ref D) [x] (fun _ H' => N H') I18 rfl (.cons rx .nil) ⟨D, Sum.inl c, S, n0, rfl, rfl, hDL, room, last⟩
        exact no_mono add fun _ s19 ⟨_, H19, I19, _, q19⟩ => back I19 len9 sub9 q19
  exact PpSet.codeAny_compStart_set loop (T.self X.A 0 _ _ _ st4 loop)
end
end Sv
namespace Sv
open PySem PySem.Spec PyProof.Rows L2
section
variable {X : Cx}
def dSi (ti : DTI) (g : DTG) (tt : DTT) (te : DTE) (us : List Nat) : DTE := fun env S R => ti env S fun w S1 => ∀ p, S1 p = none → ∃ Pv : Nat → Sto → Prop, Pv 0 (S1.put p (.iset [])) ∧ (∀ i S, i ≤ w.items.length → Pv i S → w.live S) ∧
  (∀ i d S, w.items[i]? = some d → Pv i S → g d (dwipe env us) S fun env' S' => tt env' S' fun b S2 => if b = true then te env' S2 fun y S3 => ∃ (ns : List Int) (k : Int), y = .int k ∧ S3 p = some (.iset ns) ∧ ns.length < 1000 ∧ Pv (i + 1) (S3.put p (.iset (if k ∈ ns then ns else ns ++ [k]))) else Pv (i + 1) S2) ∧
  ∀ S, Pv w.items.length S → R (.ref p) S
theorem lE_si {K : KK} {b : Bool} {ti : DTI} {g : DTG} {tt : DTT} {te : DTE} {us vs : List Nat} {σ : L2.St} {H : Hp} {Q : VK} (hv : ∀ i ∈ vs, i ∈ us) (h : lE K (dSi ti g tt te us) σ H Q) :
    tSi K.P K.w (lI K b ti) (lG K b vs g) (lT K tt) (lE K te) us σ H Q := by
  obtain ⟨env, S, R, rs, h, k⟩ := h
  refine ⟨env, S, _, rs, h, fun w S1 J H1 q s1 e1 st p np => ?_⟩
  obtain ⟨Pv, p0, lv, step, done⟩ := q p (s1.fresh np)
  obtain ⟨G, Y, wk, hG, hY⟩ := st.ex
  have s1' : RelS K (S1.put p (.iset [])) (upd H1 p (SetK K.P K.w p (fun _ => false) 0)) := s1.lay (o := .iset []) np ⟨fun _ => false, upd_same, fun i => by simp⟩
  have e1' : Ext H1 (upd H1 p (SetK K.P K.w p (fun _ => false) 0)) := .new np
  refine w_it (Body := fun N x H' => lG K b vs g x (wipe σ us) H' fun σ2 H2 => wipe σ2 us = wipe σ us ∧ lT K tt σ2 H2 fun b H3 => if b = true then lE K te σ2 H3 fun y H4 => ∃ (c : Int) (S : Key → Bool) (n : Nat), y = .int c ∧ H4 p = some (SetK K.P K.w p S n) ∧ n + 1 < scanBound ∧ N (upd H4 p (SetK K.P K.w p (fun j => S j || decide (j = Sum.inl c)) (if S (Sum.inl c) = true then n else n + 1))) else N H3) wk (fun i H' => ∃ S', RelS K S' H' ∧ Ext H1 H' ∧ Pv i S') ⟨_, s1', e1', p0⟩ (fun i H' hi ⟨S', s', e', p'⟩ => hG H' S' e' s' (lv i S' hi p')) ?_ ?_
  · rintro i x H2 H3 hi ⟨S2, s2, e2, p2⟩ y
    obtain ⟨e3, hS, d, hd, rd⟩ := hY i H2 x H3 e2 y
    have e13 := e1.trans (e2.trans e3)
    refine ⟨d, dwipe env us, S2, _, rd, (rs.ext e13 (hS S2 s2)).wipe us, step i d S2 hd p2, fun env4 S4 σ4 H4 q4 rs4 e4 o4 => ⟨wipe_off o4 hv, env4, S4, _, rs4, q4, fun c S5 H5 q5 s5 e5 => ?_⟩⟩
    have e25 := e2.trans (e3.trans (e4.trans e5))
    cases c with
    | false => exact ⟨S5, s5, e25, q5⟩
    | true =>
      refine ⟨env4, S5, _, rs4.ext e5 s5, q5, fun y S11 v H11 ⟨ns, kk, hy, h1, h2, q11⟩ s11 r11 e11 => ?_⟩
      subst hy
      cases r11
      obtain ⟨SS, h3, h4⟩ := s11 p _ h1
      refine ⟨kk, SS, ns.length, rfl, h3, by unfold scanBound; omega, ?_⟩
      have e12 : ∀ u, Ext H11 (upd H11 p u) := fun u => .put h3 trivial
      refine ⟨S11.put p (.iset (if kk ∈ ns then ns else ns ++ [kk])), s11.put (o := .iset (if kk ∈ ns then ns else ns ++ [kk])) h3 trivial ⟨fun j => SS j || decide (j = Sum.inl kk), ?_, fun i => ?_⟩, e25.trans (e11.trans (e12 _)), q11⟩
      · by_cases z : kk ∈ ns
        · rw [if_pos z, if_pos ((h4 kk).mpr z)]
          exact upd_same
        · rw [if_neg z, if_neg fun y => z ((h4 kk).mp y), List.length_append]
          exact upd_same
      · show (SS (Sum.inl i) || decide ((Sum.inl i : Key) = Sum.inl kk)) = true ↔ _
        rw [Bool.or_eq_true, decide_eq_true_iff, h4]
        by_cases z : kk ∈ ns
        · rw [if_pos z]
          exact ⟨fun h => h.elim id fun e => by rw [Sum.inl.inj e]; exact z, .inl⟩
        · rw [if_neg z, List.mem_append, List.mem_singleton]
          exact ⟨fun h => h.imp id Sum.inl.inj, fun h => h.imp id fun e => by rw [e]⟩
  · rintro H2 ⟨S2, s2, e2, p2⟩
    exact k _ _ _ _ (done S2 p2) s2 (.ref p) (e1.trans e2)
theorem de_si {elt tg iter : Expr} {ifs : List Expr} {scope : Scope} {own : List (Str × Nat)} {vs : List Nat} {pos : Pos} {b : Bool} {ti : DTI} {g : DTG} {tt : DTT} {te : DTE} (hc : X.calm = true) (hN : X.N.Nodup) (hi : DI X b tg iter ti) (ok : BlkOk X.N X.env.scope scope own) (hv : ∀ i ∈ vs, i ∈ own.map (·.2))
    (hg : ∀ (s : Shared) (H : Hp) (C : Addr) (cl : List (Str × Addr)) (fp : List Addr), DG (X.blk s H scope (compEnvC scope cl C X.env) fp) b vs tg g) (ht : ∀ (s : Shared) (H : Hp) (C : Addr) (cl : List (Str × Addr)) (fp : List Addr), DTs (X.blk s H scope (compEnvC scope cl C X.env) fp) ifs tt)
    (he : ∀ (s : Shared) (H : Hp) (C : Addr) (cl : List (Str × Addr)) (fp : List Addr), DE (X.blk s H scope (compEnvC scope cl C X.env) fp) elt te) (hs : ∀ x, foldedSetIterable iter X.env x = pure x := by intro _; rfl) :
    DE X (.SetComp elt [⟨tg, iter, ifs, 0⟩] scope pos) (dSi ti g tt te (own.map (·.2))) :=
  ⟨(pe_si (g := lG X.kk b vs g) (tt := lT X.kk tt) (te := lE X.kk te) hc hN hi.run ok (fun s H C cl fp => (hg s H C cl fp).run) (fun s H C cl fp => (ht s H C cl fp).run) (fun s H C cl fp => (he s H C cl fp).run) hs).of fun _ _ _ => lE_si hv⟩
/-- len of such a set -/
def rLenI : DRC := fun ds S R => ∃ a ns, ds = [.ref a] ∧ S a = some (.iset ns) ∧ ns.length < 100000 ∧ R (.int ns.length) S
theorem b_lenI : CallR X (.builtin "len") (lC X.kk rLenI) := by
  intro pins s σ H vs us Q I r ⟨ds, S, R, r1, s1, ⟨a, ns, hd, hx, hl, q⟩, k⟩
  subst hd
  obtain ⟨v, rfl, rv⟩ := r1.inv1
  cases rv
  obtain ⟨SS, h3, _⟩ := s1 a _ hx
  rw [Vals.ref1 r]
  obtain ⟨o, es, ep, t, ho, hex, hd, _, _, _, hf, hn⟩ := setK_get I h3
  exact call_len_set ho hex hd hf (by rw [hn] <;> omega) ⟨.int ns.length, H, I.tok _, ⟨_, by rw [hn]⟩, k _ _ _ _ q s1 (.int _) (.refl H)⟩
end
end Sv
namespace Sv
open PySem L2
/-- process_of_two: 0 history 1 states 2 process 3 owner 4 number -/
def B_process_of_two_e443 : DTS := dSeq (dFor (diRg1 (dCons (dCB (rLen) (dCons (dVar 0) (dNil))) (dNil))) (dgName 2) (dIfS (dB (dBin (rCmp fun i j => decide (j < i)) (dCB rLenI (dCons (dSi (diVal (dVar 1)) (dUnp 2 (dgCons (dgName 3) (dgCons (dgName 4) (dgNil)))) (dB (dBin (rEqq false) (dVar 3) (dVar 2))) (dVar 4) [3, 4]) (dNil))) (dC (.int 1)))) (dRet (dVar 2)) (dNext)))
  (dRet (dC .non))
/-- line_through: 0 history 1 first 2 states 3 process 4 pair 5 low 6 high -/
def B_line_through_9b5f : DTS := dSeq (dAsg (dCall 2 (dFn 5 B_process_of_two_e443) (dCons (dVar 0) (dCons (dVar 2) (dNil)))) (dgName 3))
  (dSeq (dIfS (dB (dNotN (dVar 3))) (dNoS) (dNext))
  (dSeq (dAsg (dCall 2 (dFn 4 B_pair_apart_e180) (dCons (dVar 0) (dCons (dVar 2) (dNil)))) (dgName 4))
  (dSeq (dIfS (dB (dNotN (dVar 4))) (dNoS) (dNext))
  (dSeq (dAsg (dCall 2 (dFn 7 B_limits_with_c088) (dCons (dVar 0) (dCons (dVar 2) (dNil)))) (dUnp 2 (dgCons (dgName 5) (dgCons (dgName 6) (dgNil)))))
  (dSeq (dIfS (dB (dVar 1)) (dRet (dCall 2 (dFn 7 B_raised_352a) (dCons (dCall 1 (dFn 5 B_trips_of_ea9a) (dCons (dVar 0) (dNil))) (dCons (dVar 5) (dNil))))) (dNext))
  (dRet (dCall 2 (dFn 7 B_lowered_c6aa) (dCons (dCall 1 (dFn 5 B_trips_of_ea9a) (dCons (dVar 0) (dNil))) (dCons (dVar 6) (dNil))))))))))
end Sv
set_option maxHeartbeats 800000
set_option autoImplicit false
namespace Sv
open PySem L2
/-- orphans: 0 history 1 line 2 trips 3 message -/
def B_orphans_963b : DTS := dSeq (dAsg (dCall 1 (dFn 5 B_trips_of_ea9a) (dCons (dVar 0) (dNil))) (dgName 2))
  (dRet (dCB (rTupq) (dCons (dLc (diKeys (dVar 2)) (dgName 3) (dB (dCall 2 (dFn 6 B_is_orphan_8604) (dCons (dDix (dVar 2) (dVar 3)) (dCons (dVar 1) (dNil))))) (dVar 3) [3]) (dNil))))
/-- is_consistent: 0 history 1 line -/
def B_is_consistent_91aa : DTS := dRet (dBin (rEqq false) (dCB (rLen) (dCons (dCall 2 (dFn 4 B_orphans_963b) (dCons (dVar 0) (dCons (dVar 1) (dNil)))) (dNil))) (dC (.int 0)))
end Sv
set_option maxHeartbeats 1000000
set_option autoImplicit false
namespace PySem
open Sem (wp)
end PySem
set_option maxHeartbeats 1000000
set_option autoImplicit false
set_option maxHeartbeats 1000000
set_option autoImplicit false
set_option maxHeartbeats 1000000
set_option autoImplicit false
set_option maxHeartbeats 1000000
namespace Sv
open PySem
/-- an iterator of a list or of a tuple, as ka says -/
def ItM (ka : Addr → Bool) (h : Heap) (a l : Addr) (i : Nat) : Prop := (ka l = true ∧ h.IsListIter a l i) ∨ (ka l = false ∧ h.IsTupleIter a l i)
def SqM (ka : Addr → Bool) (h : Heap) (l : Addr) (xs : Array Value) : Prop := (ka l = true ∧ h.IsList l xs) ∨ (ka l = false ∧ h.IsTuple l xs)
theorem ItM.at {ka : Addr → Bool} {h h' : Heap} {a l : Addr} {i : Nat} (H : ItM ka h a l i) (e : ∀ o, h.get? a = some o → h'.get? a = some o) : ItM ka h' a l i := H.elim (fun x => .inl ⟨x.1, x.2.at e⟩) fun x => .inr ⟨x.1, x.2.at e⟩
theorem SqM.keep {ka : Addr → Bool} {h h' : Heap} {l : Addr} {xs : Array Value} (H : SqM ka h l xs) (e : ∀ o, h.get? l = some o → h'.get? l = some o) : SqM ka h' l xs := by
  rcases H with ⟨k, o, ho, r⟩ | ⟨k, o, ho, r⟩
  · exact .inl ⟨k, o, e o ho, r⟩
  · exact .inr ⟨k, o, e o ho, r⟩
end Sv
set_option maxHeartbeats 1000000
set_option autoImplicit false
set_option maxHeartbeats 1000000
set_option autoImplicit false
set_option maxHeartbeats 1000000
set_option autoImplicit false
namespace Sv
open PySem L2
/-- _law_draw: 0 _law_state_here 1 _law_below 2 _law_rest 3 _law_cell 4 _law_mixed_here -/
def B_law_draw_a332 : DTS := dSeq (dWhile (dB (dBin (rEqq true) (dBin rIxq (dVar 0) (dC (.int 0))) (dLst (dNil)))) (dSeq (dAsg (dBin rIxq (dBin rIxq (dVar 0) (dC (.int 0))) (dC (.int 0))) (dgName 2))
  (dSeq (dIfS (dB (dBin (rCmp fun i j => decide (j < i)) (dVar 2) (dC (.int 0)))) (dSeq (dAsg (dBin rDiv (dVar 2) (dVar 1)) (dSub (dBin rIxq (dVar 0) (dC (.int 0))) (dC (.int 0))))
  (dRet (dBin rMod (dVar 2) (dVar 1)))) (dNext))
  (dDrop (dMtq "list" mPopAt (dBin rIxq (dVar 0) (dC (.int 0))) (dCons (dC (.int 0)) (dNil)))))))
  (dSeq (dAsg (dBin rAdd (dBin rIxq (dVar 0) (dC (.int 2))) (dC (.int 1))) (dSub (dVar 0) (dC (.int 2))))
  (dSeq (dAsg (dBin rMod (dBin rIxq (dBin rIxq (dVar 0) (dC (.int 1))) (dBin rMod (dBin rIxq (dVar 0) (dC (.int 2))) (dCB (rLen) (dCons (dBin rIxq (dVar 0) (dC (.int 1))) (dNil))))) (dC (.int 2147483629))) (dgName 3))
  (dSeq (dAsg (dBin rAdd (dBin rMul (dVar 3) (dBin rAdd (dC (.int 69621)) (dBin rMul (dC (.int 2)) (dBin rIxq (dVar 0) (dC (.int 2)))))) (dC (.int 30011))) (dgName 4))
  (dSeq (dAsg (dBin rMod (dBin rAdd (dVar 4) (dBin rMul (dBin rMul (dC (.int 48271)) (dBin rIxq (dVar 0) (dC (.int 2)))) (dBin rIxq (dVar 0) (dC (.int 2))))) (dC (.int 2147483587))) (dgName 4))
  (dRet (dBin rMod (dBin rDiv (dBin rMod (dBin rMul (dVar 4) (dVar 4)) (dC (.int 2147483563))) (dC (.int 16))) (dVar 1)))))))
/-- _law_same: 0 _law_found 1 _law_due_here -/
def B_law_same_de9b : DTS := dRet (dBin (rEqq false) (dCB (rReprX) (dCons (dVar 0) (dNil))) (dCB (rReprX) (dCons (dVar 1) (dNil))))
/-- is_number_within: 0 value 1 low 2 high -/
def B_is_number_within_7f04 : DTS := dRet (dAndV (dCall 1 (dFn 1 B_is_number_52f5) (dCons (dVar 0) (dNil))) (dChain (rCmp fun i j => decide (i ≤ j)) (rCmp fun i j => decide (i ≤ j)) (dVar 1) (dVar 0) (dVar 2)))
/-- is_line: 0 history 1 value 2 presents 3 number 4 present -/
def B_is_line_5402 : DTS := dSeq (dIfS (dOr (dNot (dB (dCB rIsi (dCons (dVar 1) (dCons (dC (.ty "tuple")) (dNil)))))) (dB (dBin (rEqq true) (dCB (rLen) (dCons (dVar 1) (dNil))) (dCB (rLen) (dCons (dVar 0) (dNil)))))) (dRet (dC (.bl false))) (dNext))
  (dSeq (dAsg (dCall 1 (dFn 2 B_state_numbers_78d0) (dCons (dVar 0) (dNil))) (dgName 2))
  (dRet (dCB (rAnyq fun bs => bs.all id) (dCons (dLc (diZip (dCons (dVar 1) (dCons (dVar 2) (dNil)))) (dUnp 2 (dgCons (dgName 3) (dgCons (dgName 4) (dgNil)))) (dYes) (dCall 3 (dFn 3 B_is_number_within_7f04) (dCons (dVar 3) (dCons (dC (.int 0)) (dCons (dVar 4) (dNil))))) [3, 4]) (dNil)))))
/-- _law_pick: 0 _law_state_here 1 _law_items -/
def B_law_pick_6e96 : DTS := dRet (dBin rIxq (dVar 1) (dCall 2 (dFn 5 B_law_draw_a332) (dCons (dVar 0) (dCons (dCB (rLen) (dCons (dVar 1) (dNil))) (dNil)))))
/-- _law_place: 0 _law_rows 1 _law_process 2 _law_number 3 _law_row 4 _law_spots 5 _law_index 6 _law_event -/
def B_law_place_4534 : DTS := dSeq (dAsg (dBin rIxq (dVar 0) (dVar 1)) (dgName 3))
  (dSeq (dAsg (dBin rAdd (dBin rAdd (dLst (dCons (dC (.int 0)) (dNil))) (dLc (diEnum (dCons (dVar 3) (dNil))) (dUnp 2 (dgCons (dgName 5) (dgCons (dgName 6) (dgNil)))) (dB (dBin (rEqq false) (dVar 6) (dC (.int 0)))) (dVar 5) [5, 6])) (dLst (dCons (dCB (rLen) (dCons (dVar 3) (dNil))) (dNil)))) (dgName 4))
  (dRet (dBin rIxq (dVar 4) (dVar 2))))
/-- _law_is_line: 0 _law_rows 1 _law_cut 2 _law_before 3 _law_process 4 _law_number 5 _law_event -/
def B_law_is_line_4540 : DTS := dSeq (dAsg (dLst (dNil)) (dgName 2))
  (dSeq (dFor (diEnum (dCons (dVar 1) (dNil))) (dUnp 2 (dgCons (dgName 3) (dgCons (dgName 4) (dgNil)))) (dDrop (dMtq "list" mExtend (dVar 2) (dCons (dCB (rListq) (dCons (dSl (dBin rIxq (dVar 0) (dVar 3)) (dNoP) (dPart (dCall 3 (dFn 7 B_law_place_4534) (dCons (dVar 0) (dCons (dVar 3) (dCons (dVar 4) (dNil))))))) (dNil))) (dNil)))))
  (dRet (dBin (rEqq false) (dLc (diVal (dVar 2)) (dgName 5) (dAnd (dB (dBin (rCmp fun i j => decide (i < j)) (dVar 5) (dC (.int 0)))) (dB (dBin (rInq true) (dBin rSub (dC (.int 0)) (dVar 5)) (dVar 2)))) (dVar 5) [5]) (dLst (dNil)))))
/-- _law_all_lines: 0 _law_rows 1 _law_cuts 2 _law_row 3 _law_longer 4 _law_cut 5 _law_number -/
def B_law_all_lines_88dc : DTS := dSeq (dAsg (dLst (dCons (dTup (dNil)) (dNil))) (dgName 1))
  (dSeq (dFor (diVal (dVar 0)) (dgName 2) (dSeq (dAsg (dLst (dNil)) (dgName 3))
  (dSeq (dFor (diVal (dVar 1)) (dgName 4) (dDrop (dMtq "list" mExtend (dVar 3) (dCons (dLc (diRg1 (dCons (dBin rAdd (dMtT mTcount (dVar 2) (dCons (dC (.int 0)) (dNil))) (dC (.int 2))) (dNil))) (dgName 5) (dYes) (dBin rAdd (dVar 4) (dTup (dCons (dVar 5) (dNil)))) [5]) (dNil)))))
  (dAsg (dVar 3) (dgName 1)))))
  (dRet (dLc (diVal (dVar 1)) (dgName 4) (dB (dCall 2 (dFn 6 B_law_is_line_4540) (dCons (dVar 0) (dCons (dVar 4) (dNil))))) (dVar 4) [4])))
/-- _law_mixed: 0 _law_state_here 1 _law_items 2 _law_left 3 _law_found -/
def B_law_mixed_b93a : DTS := dSeq (dAsg (dTup (dCons (dCB (rListq) (dCons (dVar 1) (dNil))) (dCons (dLst (dNil)) (dNil)))) (dUnp 2 (dgCons (dgName 2) (dgCons (dgName 3) (dgNil)))))
  (dSeq (dWhile (dB (dBin (rEqq true) (dVar 2) (dLst (dNil)))) (dDrop (dMtq "list" mAppend (dVar 3) (dCons (dMtq "list" mPopAt (dVar 2) (dCons (dCall 2 (dFn 5 B_law_draw_a332) (dCons (dVar 0) (dCons (dCB (rLen) (dCons (dVar 2) (dNil))) (dNil)))) (dNil))) (dNil)))))
  (dRet (dCB (rTupq) (dCons (dVar 3) (dNil)))))
/-- _law_history: 0 _law_state_here 1 _law_many 2 _law_most 3 _law_count 4 _law_names 5 _law_kind 6 _law_rows 7 _law_open_ones 8 _law_used 9 _law_turn 10 _law_process 11 _law_way 12 _law_ready 13 _law_message 14 _law_pair -/
def B_law_history_6dd1 : DTS := dSeq (dAsg (dBin rAdd (dC (.int 1)) (dCall 2 (dFn 5 B_law_draw_a332) (dCons (dVar 0) (dCons (dVar 1) (dNil))))) (dgName 3))
  (dSeq (dAsg (dCall 2 (dFn 4 B_law_mixed_b93a) (dCons (dVar 0) (dCons (dLRg2 (dC (.int 1)) (dC (.int 25))) (dNil)))) (dgName 4))
  (dSeq (dAsg (dTup (dCons (dCall 2 (dFn 5 B_law_draw_a332) (dCons (dVar 0) (dCons (dC (.int 4)) (dNil)))) (dCons (dBin rMul (dLst (dCons (dTup (dNil)) (dNil))) (dVar 3)) (dCons (dLst (dNil)) (dCons (dC (.int 0)) (dNil)))))) (dUnp 4 (dgCons (dgName 5) (dgCons (dgName 6) (dgCons (dgName 7) (dgCons (dgName 8) (dgNil)))))))
  (dSeq (dFor (diRg1 (dCons (dCall 2 (dFn 5 B_law_draw_a332) (dCons (dVar 0) (dCons (dBin rAdd (dVar 2) (dC (.int 1))) (dNil)))) (dNil))) (dgName 9) (dSeq (dAsg (dTup (dCons (dCall 2 (dFn 5 B_law_draw_a332) (dCons (dVar 0) (dCons (dVar 3) (dNil)))) (dCons (dCall 2 (dFn 5 B_law_draw_a332) (dCons (dVar 0) (dCons (dC (.int 6)) (dNil)))) (dNil)))) (dUnp 2 (dgCons (dgName 10) (dgCons (dgName 11) (dgNil)))))
  (dSeq (dAsg (dLc (diVal (dVar 7)) (dgName 14) (dB (dBin (rEqq true) (dBin rIxq (dVar 14) (dC (.int 1))) (dVar 10))) (dVar 14) [14]) (dgName 12))
  (dIfS (dOr (dAnd (dB (dBin (rCmp fun i j => decide (i < j)) (dVar 11) (dC (.int 2)))) (dB (dBin (rEqq true) (dVar 5) (dC (.int 3))))) (dB (dBin (rEqq false) (dVar 11) (dC (.int 0))))) (dAsg (dBin rAdd (dBin rIxq (dVar 6) (dVar 10)) (dTup (dCons (dC (.int 0)) (dNil)))) (dSub (dVar 6) (dVar 10))) (dIfS (dOr (dAnd (dB (dBin (rCmp fun i j => decide (i < j)) (dVar 11) (dC (.int 4)))) (dB (dBin (rCmp fun i j => decide (i < j)) (dVar 8) (dC (.int 24))))) (dB (dBin (rEqq false) (dVar 12) (dLst (dNil))))) (dIfS (dB (dBin (rCmp fun i j => decide (i < j)) (dVar 8) (dC (.int 24)))) (dSeq (dAsg (dIf (dB (dBin (rEqq false) (dVar 5) (dC (.int 0)))) (dBin rAdd (dVar 8) (dC (.int 1))) (dBin rIxq (dVar 4) (dVar 8))) (dgName 13))
  (dSeq (dAsg (dBin rAdd (dBin rIxq (dVar 6) (dVar 10)) (dTup (dCons (dVar 13) (dNil)))) (dSub (dVar 6) (dVar 10)))
  (dSeq (dDrop (dMtq "list" mAppend (dVar 7) (dCons (dTup (dCons (dVar 13) (dCons (dVar 10) (dNil)))) (dNil))))
  (dAsg (dBin rAdd (dVar 8) (dC (.int 1))) (dgName 8))))) (dNext)) (dSeq (dAsg (dIf (dB (dBin (rEqq false) (dVar 5) (dC (.int 1)))) (dBin rIxq (dVar 12) (dC (.int 0))) (dCall 2 (dFn 2 B_law_pick_6e96) (dCons (dVar 0) (dCons (dVar 12) (dNil))))) (dgName 14))
  (dSeq (dDrop (dMtq "list" mRemove (dVar 7) (dCons (dVar 14) (dNil))))
  (dAsg (dBin rAdd (dBin rIxq (dVar 6) (dVar 10)) (dTup (dCons (dBin rSub (dC (.int 0)) (dBin rIxq (dVar 14) (dC (.int 0)))) (dNil)))) (dSub (dVar 6) (dVar 10))))))))))
  (dRet (dCB (rTupq) (dCons (dVar 6) (dNil)))))))
/-- _law_state: 0 _law_script 1 _law_cells 2 _law_cell -/
def B_law_state_64d4 : DTS := dSeq (dAsg (dLc (diVal (dVar 0)) (dgName 2) (dYes) (dCB (rAbs) (dCons (dVar 2) (dNil))) [2]) (dgName 1))
  (dRet (dLst (dCons (dLc (diVal (dVar 1)) (dgName 2) (dB (dBin (rCmp fun i j => decide (j ≤ i)) (dVar 2) (dBin rPow (dC (.int 10)) (dC (.int 18))))) (dVar 2) [2]) (dCons (dBin rAdd (dVar 1) (dLst (dCons (dBin rAdd (dCB (rLen) (dCons (dVar 1) (dNil))) (dC (.int 7))) (dNil)))) (dCons (dC (.int 0)) (dNil))))))
end Sv
set_option maxHeartbeats 800000
set_option autoImplicit false
namespace Sv
open PySem L2
/-- what is wanted where something is handed out; here: nothing, and it goes on -/
def ylL : List D → D → Sto → (Sto → Prop) → Prop := fun _ _ S k => k S
structure DGEnds where
  nx : List D → Env → Sto → Prop
  rt : List D → DK
  yl : List D → D → Sto → (Sto → Prop) → Prop := ylL
  bk : List D → Env → Sto → Prop := fun _ _ _ => False
  ct : List D → Env → Sto → Prop := fun _ _ _ => False
abbrev DTGn := DGEnds → List D → Env → Sto → Prop
/-- a statement that hands out nothing -/
def dgPlain (t : DTS) : DTGn := fun C ds env S => t { nx := C.nx ds, rt := C.rt ds, bk := C.bk ds, ct := C.ct ds } env S
def dgNext : DTGn := fun C ds env S => C.nx ds env S
def dgSeq (t u : DTGn) : DTGn := fun C ds env S => t { C with nx := u C } ds env S
def dgYield (te : DTE) : DTGn := fun C ds env S => ds.length < 1000000 ∧ te env S fun d S1 => C.yl ds d S1 fun S2 => C.nx (ds ++ [d]) env S2
def dgWhile (c : DTT) (tb : DTGn) : DTGn := fun C ds env S => ∃ W : Nat → List D → Env → Sto → Prop, (∃ m, W m ds env S) ∧ ∀ m ds env S, W m ds env S →
  c env S fun b S1 => if b = true then tb { C with nx := fun ds' env' S' => ∃ m', m' < m ∧ W m' ds' env' S', ct := fun ds' env' S' => ∃ m', m' < m ∧ W m' ds' env' S', bk := C.nx } ds env S1 else C.nx ds env S1
end Sv
set_option maxHeartbeats 800000
set_option autoImplicit false
namespace Sv
open PySem PySem.Spec PyProof.Rows L2
/-- what a generator def hands out -/
abbrev DRG := List D → Sto → (List D → Sto → Prop) → Prop
def lGf (K : KK) (n : Nat) (r : DRG) : SpG := fun vs H Q _ => vs.length = n ∧ ∃ ds S R, RDs K H ds vs ∧ RelS K S H ∧ r ds S R ∧ ∀ out S' ys H', R out S' → RDs K H' out ys → RelS K S' H' → Ext H H' → Q ys H'
section
variable {P : Program} {w : World} {K : PySem.W.Frag} {mg : Str → Option Value} {base : Heap}
structure DGo (P : Program) (w : World) (K : PySem.W.Frag) (mg : Str → Option Value) (base : Heap) (k : Nat) (x : Str) (n : Nat) (r : DRG) : Prop where
  ex : ∃ (f : Addr) (fd : FuncData) (ps : List Str), GFn P w K mg base k f fd ps (lGf ⟨P, w, K⟩ n r) ∧ mg x = some (.ref f) ∧ PySem.W.keepIn K (.ref f) = true ∧ Binds K fd ps []
theorem DGo.mk' {k n : Nat} {x : Str} {r : DRG} {f : Addr} {fd : FuncData} {ps : List Str} (F : GFn P w K mg base k f fd ps (lGf ⟨P, w, K⟩ n r)) (hm : mg x = some (.ref f)) (hk : PySem.W.keepIn K (.ref f) = true) (hb : Binds K fd ps []) : DGo P w K mg base k x n r :=
  ⟨f, fd, ps, F, hm, hk, hb⟩
end
end Sv
set_option autoImplicit false
namespace Sv
open PySem PySem.Spec PyProof.Rows L2 Sz
/-- it rests on its own object alone -/
def immO : HO → Bool
  | .tup _ => true
  | .tbl _ => true
  | .frz _ (.lst _) => true
  | .frz _ (.tup _) => true
  | .frz _ (.dK _) => true
  | _ => false
def keepO (u : HO) : Bool := immO u && (match u with | .tbl _ => false | _ => true)
def immH (H : Hp) : Hp := fun b => (H b).filter immO
theorem immH_some {H : Hp} {b : Addr} {u : HO} : immH H b = some u ↔ H b = some u ∧ immO u = true := by
  unfold immH
  rw [Option.filter_eq_some_iff]
theorem immH_none {H : Hp} {b : Addr} (h : H b = none) : immH H b = none := by unfold immH; rw [h]; rfl
/-- what is known and stays stays -/
def Ext3 (H H' : Hp) : Prop := ∀ b u, keepO u = true → H b = some u → H' b = some u
theorem Ext3.refl (H : Hp) : Ext3 H H := fun _ _ _ h => h
theorem Ext3.trans {H H1 H2 : Hp} (x : Ext3 H H1) (y : Ext3 H1 H2) : Ext3 H H2 := fun b u k h => y b u k (x b u k h)
theorem Ext3.of {H H' : Hp} (e : Ext H H') : Ext3 H H' := fun b u k h => by
  cases u with
  | tup xs => exact e.2 _ _ h
  | frz o u => exact e.1 _ _ _ h
  | _ => exact (nomatch (show false = true from k))
theorem keep_imm {u : HO} (h : keepO u = true) : immO u = true := by unfold keepO at h; exact (Bool.and_eq_true_iff.mp h).1
section
variable {K : KK} {H H' : Hp}
theorem TupN.ext3 {a : Addr} {xs : List V} (h : TupN H a xs) (e : Ext3 H H') : TupN H' a xs := by
  obtain ⟨o, h, d⟩ := h
  exact ⟨o, e _ _ rfl h, d⟩
theorem Rol.ext3 {a : Addr} {vs : List V} (h : Rol K H a vs) (e : Ext3 H H') : Rol K H' a vs := by
  rcases h with ⟨o, h⟩ | h
  · exact .inl ⟨o, e _ _ rfl h⟩
  · exact .inr h
mutual
theorem RD.ext3 (e : Ext3 H H') : ∀ {d : D} {v : V}, RD K H d v → RD K H' d v
  | _, _, .non => .non
  | _, _, .bl b => .bl b
  | _, _, .int i => .int i
  | _, _, .str x => .str x
  | _, _, .ref a => .ref a
  | _, _, .ty n => .ty n
  | _, _, .tup h r => .tup (h.ext3 e) (RDs.ext3 e r)
  | _, _, .rol h r => .rol (h.ext3 e) (RDs.ext3 e r)
  | _, _, .dct h r => .dct (e _ _ rfl h) (RDk.ext3 e r)
  | _, _, .wtup h r => .wtup (e _ _ rfl h) (RDs.ext3 e r)
theorem RDs.ext3 (e : Ext3 H H') : ∀ {ds : List D} {vs : List V}, RDs K H ds vs → RDs K H' ds vs
  | _, _, .nil => .nil
  | _, _, .cons h r => .cons (RD.ext3 e h) (RDs.ext3 e r)
theorem RDk.ext3 (e : Ext3 H H') : ∀ {ds : List (Key × D)} {vs : List (Key × V)}, RDk K H ds vs → RDk K H' ds vs
  | _, _, .nil => .nil
  | _, _, .cons h r => .cons (RD.ext3 e h) (RDk.ext3 e r)
end
end
theorem immOk {P : Program} {w : World} {H H' : Hp} {h h' : Heap} {a : Addr} {u : HO} (i : immO u = true) (x : ObjOk P w H h a u) (k : ∀ o, h.get? a = some o → h'.get? a = some o) : ObjOk P w H' h' a u := by
  have lstc : ∀ xs, ObjOk P w H h a (.lst xs) → ObjOk P w H' h' a (.lst xs) := fun xs x => by
    obtain ⟨z, its, n, r, e⟩ := x
    exact ⟨z, its, n, r, k _ e⟩
  have tupc : ∀ xs, ObjOk P w H h a (.tup xs) → ObjOk P w H' h' a (.tup xs) := fun xs x => by
    obtain ⟨z, its, r, ob, e, c⟩ := x
    exact ⟨z, its, r, ob, k _ e, c⟩
  have dc : ∀ xs, ObjOk P w H h a (.dK xs) → ObjOk P w H' h' a (.dK xs) := fun xs x => by
    obtain ⟨z, y, vs, r, ob, es, ep, e, c⟩ := x
    exact ⟨z, y, vs, r, ob, es, ep, k _ e, c⟩
  cases u with
  | tup xs => exact tupc xs x
  | tbl ps => exact k _ x
  | frz o u =>
    obtain ⟨e, q⟩ := x
    cases u with
    | lst xs => exact ⟨k _ e, lstc xs q⟩
    | tup xs => exact ⟨k _ e, tupc xs q⟩
    | dK xs => exact ⟨k _ e, dc xs q⟩
    | _ => exact (nomatch (show false = true from i))
  | _ => exact (nomatch (show false = true from i))
theorem mut_hidden {u : HO} (m : Mut (some u)) : immO u = false := by
  cases u with
  | tup _ => exact m.elim
  | tbl _ => exact m.elim
  | frz _ _ => exact m.elim
  | _ => rfl
/-- one thing as it stands -/
abbrev asIs (b : Addr) (o : Obj) : HO := .frz o (.ext fun h => h.get? b = some o)
/-- a generator's call: what it runs, where its frame's dict stands -/
structure GP where
  P : Program
  w : World
  K : PySem.W.Frag
  mg : Str → Option Value
  base : Heap
  N : List Str
  qual : Str
  scope : Scope
  f : Addr
  cdv : Value
  L : Addr
  k : Nat
abbrev GP.kk (g : GP) : KK := ⟨g.P, g.w, g.K⟩
abbrev GP.env (g : GP) : PySem.Env := envOfC g.qual g.scope g.L g.f g.cdv
structure GP.Ok (g : GP) : Prop where
  kind : g.scope.kind = .function
  noc : ∀ y ∈ g.scope.names, y.2 = .cell → False
  nofree : ∀ y ∈ g.scope.names, y.2 ≠ .free
  co : g.scope.isCoroutine = false
  inter : interactive g.env = false
  bsz : g.base.objs.size ≤ g.L
/-- a waking: around what, the frames that run, the state, the heap as it is known there, the generator's own things -/
structure Wk where
  A : Around
  outer : List PySem.Env
  s : Shared
  H : Hp
  fp : List Addr
def cutS (L : Nat) (s : Shared) : Shared := { s with heap := ⟨s.heap.objs.extract 0 L, s.heap.life⟩ }
theorem cutS_size {L : Nat} {s : Shared} (h : L ≤ s.heap.objs.size) : (cutS L s).heap.objs.size = L := by
  show (s.heap.objs.extract 0 L).size = L
  rw [Array.size_extract]
  omega
theorem cutS_get {L : Nat} {s : Shared} {b : Nat} (h : b < L) : (cutS L s).heap.get? b = s.heap.get? b := by
  have : (s.heap.objs.extract 0 L)[b]? = s.heap.objs[b]? := by
    rw [Array.getElem?_extract]
    by_cases hb : b < s.heap.objs.size
    · rw [if_pos (by omega), Nat.zero_add]
    · rw [if_neg (by omega), Array.getElem?_eq_none (by omega)]
  unfold Heap.get? cutS
  dsimp only
  rw [this]
theorem cutS_lt {L : Nat} {s : Shared} {b : Nat} {o : Obj} (h : (cutS L s).heap.get? b = some o) : b < L := by
  have h1 : b < (cutS L s).heap.objs.size := Heap.lt_size h
  have q : (cutS L s).heap.objs.size = min L s.heap.objs.size := by
    show (s.heap.objs.extract 0 L).size = _
    rw [Array.size_extract]
    omega
  omega
/-- what the generator is given: what is known and stays; of all else above L only that it stands as it stands -/
def guardH (L : Addr) (w : Wk) : Hp := fun b => match immH w.H b with
  | some u => some u
  | none => if L ≤ b ∧ b ∉ w.fp then (w.s.heap.get? b).map (asIs b) else none
def GP.cx (g : GP) (w : Wk) : Cx := (cxOf CX0 g.P g.w g.K g.mg g.base g.N g.qual g.scope g.f g.cdv w.A w.outer (cutS g.L w.s) (guardH g.L w) (fun _ _ _ => False)).nox
structure En (g : GP) (w : Wk) : Prop where
  e0 : Env0 g.P g.w g.K g.mg g.base w.A w.outer w.s w.H
  room : Room g.k (w.A.deeper g.env)
  fr : ∀ b ∈ frs w.outer, b < g.L
  lt : g.L < w.s.heap.objs.size
  fpL : g.L ∈ w.fp
  fpH : ∀ b ∈ w.fp, w.H b = none ∧ g.L ≤ b
section
variable {g : GP} {w w' : Wk} {b : Addr} {u : HO} {o : Obj}
theorem guard_imm (h : immH w.H b = some u) : guardH g.L w b = some u := by unfold guardH; rw [h]
theorem guard_low (h : immH w.H b = none) (hb : b < g.L) : guardH g.L w b = none := by
  unfold guardH
  rw [h]
  exact if_neg fun z => absurd z.1 (Nat.not_le_of_lt hb)
theorem guard_fp (E : En g w) (hb : b ∈ w.fp) : guardH g.L w b = none := by
  unfold guardH
  rw [immH_none (E.fpH b hb).1]
  exact if_neg fun z => z.2 hb
theorem guard_high (h : immH w.H b = none) (hb : g.L ≤ b) (hf : b ∉ w.fp) (e : w.s.heap.get? b = some o) : guardH g.L w b = some (asIs b o) := by
  unfold guardH
  rw [h]
  show (if _ then _ else _) = _
  rw [if_pos ⟨hb, hf⟩, e]
  rfl
theorem guard_cases (h : guardH g.L w b = some u) : (immH w.H b = some u) ∨ (immH w.H b = none ∧ g.L ≤ b ∧ b ∉ w.fp ∧ ∃ o, w.s.heap.get? b = some o ∧ u = asIs b o) := by
  unfold guardH at h
  cases e : immH w.H b with
  | some v => rw [e] at h; exact .inl h
  | none =>
    rw [e] at h
    have h : (if g.L ≤ b ∧ b ∉ w.fp then (w.s.heap.get? b).map (asIs b) else none) = some u := h
    by_cases z : g.L ≤ b ∧ b ∉ w.fp
    · rw [if_pos z] at h
      cases e2 : w.s.heap.get? b with
      | none => rw [e2] at h; cases h
      | some o =>
        rw [e2] at h
        exact .inr ⟨rfl, z.1, z.2, o, rfl, (Option.some.inj h).symm⟩
    · rw [if_neg z] at h
      cases h
theorem guard_keep (k : keepO u = true) (h : guardH g.L w b = some u) : w.H b = some u := by
  rcases guard_cases h with z | ⟨_, _, _, o, _, rfl⟩
  · exact (immH_some.mp z).1
  · exact (nomatch (show false = true from k))
theorem ext3_guard : Ext3 w.H (guardH g.L w) := fun b u k h => guard_imm (immH_some.mpr ⟨h, keep_imm k⟩)
theorem cx_env (E : En g w) : (g.cx w).env = g.env := by
  show envOfC g.qual g.scope (cutS g.L w.s).heap.objs.size g.f g.cdv = _
  rw [cutS_size (Nat.le_of_lt E.lt)]
theorem cx_A (E : En g w) : (g.cx w).A = w.A.deeper g.env := by
  show w.A.deeper (envOfC g.qual g.scope (cutS g.L w.s).heap.objs.size g.f g.cdv) = _
  rw [cutS_size (Nat.le_of_lt E.lt)]
theorem no_cells (G : g.Ok) (x : Str) (c : Addr) : g.env.cells.lookup x = some c → False := by
  have : ∀ (n : Nat) (l : List (Str × NameKind)), (∀ y ∈ l, y.2 = .cell → False) → cellsFrom n l [] = [] := by
    intro n l
    induction l generalizing n with
    | nil => intro _; first | rfl | (unfold cellsFrom; rfl)
    | cons a t ih =>
      intro h
      obtain ⟨x, k⟩ := a
      have h1 := h (x, k) List.mem_cons_self
      unfold cellsFrom
      have hk : (k == NameKind.cell) = false := by cases k <;> first | rfl | exact (h1 rfl).elim
      rw [hk, if_neg Bool.false_ne_true]
      exact ih _ fun y hy => h y (List.mem_cons_of_mem _ hy)
  intro h
  have e : g.env.cells = [] := this _ _ G.noc
  rw [e] at h
  cases h
end
end Sv
set_option autoImplicit false
namespace Sv
open PySem PySem.Spec PyProof.Rows L2 Sz
variable {g : GP} {w w' : Wk} {ip : List (Addr × Obj)} {σ : L2.St} {H : Hp} {s : Shared}
/-- the heap as the others know it behind the generator's turn -/
def outH (w : Wk) (H : Hp) : Hp := fun b => match w.H b with
  | some u => if immO u = true then immH H b else some u
  | none => immH H b
theorem outH_hid {b : Addr} {u : HO} (h : w.H b = some u) (n : immO u = false) : outH w H b = some u := by
  unfold outH
  rw [h]
  show (if _ then _ else _) = _
  rw [if_neg (by rw [n]; exact Bool.false_ne_true)]
theorem outH_imm {b : Addr} (h : ∀ u, w.H b = some u → immO u = true) : outH w H b = immH H b := by
  unfold outH
  cases e : w.H b with
  | none => rfl
  | some u =>
    show (if _ then _ else _) = _
    rw [if_pos (h u e)]
theorem immH_hid {b : Addr} {u : HO} (h : w.H b = some u) (n : immO u = false) : immH w.H b = none := by
  cases e : immH w.H b with
  | none => rfl
  | some v =>
    obtain ⟨h1, h2⟩ := immH_some.mp e
    rw [h] at h1
    cases h1
    rw [n] at h2
    cases h2
theorem nofr (E : En g w) {b : Addr} {u : HO} (h : w.H b = some u) : b ∉ frs w.outer := fun z => by
  rw [E.e0.frf b z] at h
  cases h
theorem in_keep (I : Inv (g.cx w) ip σ H s) {b : Addr} {u : HO} (k : keepO u = true) (h : w.H b = some u) : H b = some u := by
  have hg : guardH g.L w b = some u := guard_imm (immH_some.mpr ⟨h, keep_imm k⟩)
  cases u with
  | tup xs => exact I.base.tups _ _ hg
  | frz o v => exact I.base.frzs _ _ _ hg
  | _ => exact (nomatch (show false = true from k))
theorem in_imm (I : Inv (g.cx w) ip σ H s) {b : Addr} {u : HO} (k : immO u = true) (h : w.H b = some u) : ∃ v, H b = some v ∧ immO v = true := by
  by_cases z : keepO u = true
  · exact ⟨u, in_keep I z h, k⟩
  · cases u with
    | tbl ps =>
      obtain ⟨more, q⟩ := I.base.tbls _ _ (guard_imm (immH_some.mpr ⟨h, k⟩))
      exact ⟨_, q, rfl⟩
    | tup xs => exact absurd rfl z
    | frz o v =>
      unfold keepO at z
      rw [k] at z
      exact absurd rfl z
    | _ => exact (nomatch (show false = true from k))
theorem in_low (E : En g w) (I : Inv (g.cx w) ip σ H s) {b : Addr} {o : Obj} (n : immH w.H b = none) (hb : b < g.L) (e : w.s.heap.get? b = some o) : H b = none ∧ (b ∉ frs w.outer → s.heap.get? b = some o) ∧ (b ∈ frs w.outer → ∃ sl, s.heap.get? b = some { o with slots := sl }) := by
  have e' : (cutS g.L w.s).heap.get? b = some o := (cutS_get hb).trans e
  have gn : guardH g.L w b = none := guard_low n hb
  exact ⟨I.base.free b o e' gn (by show b ∉ []; simp), fun hf => I.base.keep b o e' gn hf (by show b ∉ []; simp), fun hf => I.base.slot b o e' gn hf (by show b ∉ []; simp)⟩
theorem in_high (E : En g w) (I : Inv (g.cx w) ip σ H s) {b : Addr} {o : Obj} (n : immH w.H b = none) (hb : g.L ≤ b) (hf : b ∉ w.fp) (e : w.s.heap.get? b = some o) : H b = some (asIs b o) ∧ s.heap.get? b = some o := by
  have q := I.base.frzs b o _ (guard_high n hb hf e)
  exact ⟨q, (I.hok b _ q).1⟩
/-- what is not the generator's own is kept -/
theorem in_kept (E : En g w) (I : Inv (g.cx w) ip σ H s) {b : Addr} {o : Obj} (n : immH w.H b = none) (hf : b ∉ w.fp) (hr : b ∉ frs w.outer) (e : w.s.heap.get? b = some o) : s.heap.get? b = some o ∧ immH H b = none := by
  by_cases hb : b < g.L
  · obtain ⟨q1, q2, _⟩ := in_low E I n hb e
    exact ⟨q2 hr, immH_none q1⟩
  · obtain ⟨q1, q2⟩ := in_high E I n (Nat.le_of_not_lt hb) hf e
    refine ⟨q2, ?_⟩
    unfold immH
    rw [q1]
    rfl
theorem out_same (E : En g w) (I : Inv (g.cx w) ip σ H s) {b : Addr} {u : HO} (h : w.H b = some u) (n : immO u = false) {o : Obj} (e : w.s.heap.get? b = some o) : s.heap.get? b = some o :=
  (in_kept E I (immH_hid h n) (fun z => by rw [(E.fpH b z).1] at h; cases h) (nofr E h) e).1
theorem out_ext (I : Inv (g.cx w) ip σ H s) : Ext w.H (outH w H) := by
  have key : ∀ b u, w.H b = some u → (keepO u = true ∨ immO u = false) → outH w H b = some u := fun b u h k => by
    rcases k with k | k
    · rw [outH_imm fun v q => by rw [h] at q; cases q; exact keep_imm k]
      exact immH_some.mpr ⟨in_keep I k h, keep_imm k⟩
    · exact outH_hid h k
  refine ⟨fun a o u h => key _ _ h ?_, fun a xs h => key _ _ h (.inl rfl)⟩
  cases u <;> first | exact .inl rfl | exact .inr rfl
theorem out_ok (E : En g w) (I : Inv (g.cx w) ip σ H s) : HOk g.P g.w (outH w H) s.heap := fun b u q => by
  have I3 : HOk g.P g.w H s.heap := I.hok
  by_cases hid : ∃ v, w.H b = some v ∧ immO v = false
  · obtain ⟨v, h, n⟩ := hid
    rw [outH_hid h n] at q
    cases q
    refine (E.e0.hok b _ h).stay (fun c o hc e => ?_) (fun c hc => outH_hid hc rfl) fun c xs hc => (out_ext I).2 c xs hc
    rcases hc with rfl | hc
    · exact out_same E I h n e
    · exact out_same E I hc rfl e
  · rw [outH_imm fun v hv => by
      cases e : immO v with
      | true => rfl
      | false => exact (hid ⟨v, hv, e⟩).elim] at q
    obtain ⟨q1, q2⟩ := immH_some.mp q
    exact immOk q2 (I3 b u q1) fun o e => e
theorem out_un (E : En g w) (I : Inv (g.cx w) ip σ H s) : Un (frs w.outer) w.fp w.H (outH w H) w.s.heap s.heap where
  keep := fun b o e n hf hx => (in_kept E I (immH_none n) hx hf e).1
  slot := fun b o e n hf hx => (in_low E I (immH_none n) (E.fr b hf) e).2.2 hf
  free := fun b o e n hx => by
    rw [outH_imm fun v hv => by rw [n] at hv; cases hv]
    by_cases hf : b ∈ frs w.outer
    · exact immH_none (in_low E I (immH_none n) (E.fr b hf) e).1
    · exact (in_kept E I (immH_none n) hx hf e).2
  there := fun b o e hx => by
    cases h : w.H b with
    | none =>
      by_cases hf : b ∈ frs w.outer
      · obtain ⟨sl, q⟩ := (in_low E I (immH_none h) (E.fr b hf) e).2.2 hf
        exact ⟨_, q⟩
      · exact ⟨o, (in_kept E I (immH_none h) hx hf e).1⟩
    | some u =>
      cases hi : immO u with
      | false => exact ⟨o, out_same E I h hi e⟩
      | true =>
        obtain ⟨v, q, _⟩ := in_imm I hi h
        have z := (I.hok b v q)
        have lt := z.lt
        cases v with
        | lst xs => obtain ⟨_, _, _, _, e⟩ := z; exact ⟨_, e⟩
        | tup xs => obtain ⟨_, _, _, ob, e, _⟩ := z; exact ⟨_, e⟩
        | tbl ps => exact ⟨_, z⟩
        | frz ob v => exact ⟨_, z.1⟩
        | _ => rename_i hv; exact (nomatch (show false = true from hv))
  tups := (out_ext I).2
  frzs := (out_ext I).1
  tbls := fun b ps h => by
    obtain ⟨more, q⟩ := I.base.tbls b ps (guard_imm (immH_some.mpr ⟨h, rfl⟩))
    refine ⟨more, ?_⟩
    rw [outH_imm fun v hv => by rw [h] at hv; cases hv; rfl]
    exact immH_some.mpr ⟨q, rfl⟩
theorem out_rel (I : Inv (g.cx w) ip σ H s) {K : KK} {S : Sto} (r : RelS K S w.H) : RelS K S (outH w H) := fun a o e => by
  obtain ⟨u, q, m⟩ := (r a o e).mut
  exact (r a o e).ext (out_ext I) ((outH_hid q (mut_hidden m)).trans q.symm)
theorem out_ext3 (E : En g w) (I : Inv (g.cx w) ip σ H s) : Ext3 H (outH w H) := fun b u k h => by
  have hn : ∀ v, w.H b = some v → immO v = true := fun v hv => by
    cases e : immO v with
    | true => rfl
    | false =>
      have ni := immH_hid hv e
      have hl := E.e0.hok.lt hv
      have nf : b ∉ w.fp := fun z => by rw [(E.fpH b z).1] at hv; cases hv
      have hx : ∃ o, w.s.heap.get? b = some o := by
        have x := E.e0.hok b v hv
        cases v with
        | lst xs => obtain ⟨_, _, _, _, e⟩ := x; exact ⟨_, e⟩
        | tup xs => obtain ⟨_, _, _, ob, e, _⟩ := x; exact ⟨_, e⟩
        | dK kvs => obtain ⟨_, _, _, _, o, _, _, e, _⟩ := x; exact ⟨_, e⟩
        | dT kvs => obtain ⟨_, _, _, _, o, _, _, e, _⟩ := x; exact ⟨_, e⟩
        | set S n => obtain ⟨o, _, _, _, e, _⟩ := x; exact ⟨_, e⟩
        | ins C dx fs => obtain ⟨_, _, _, e, _⟩ := x; exact ⟨_, e⟩
        | own y => obtain ⟨_, e⟩ := x; exact ⟨_, e⟩
        | xd fs => obtain ⟨_, ⟨_, _, _, e, _⟩, _⟩ := x; exact ⟨_, e⟩
        | rng lo hi => obtain ⟨_, _, _, e⟩ := x; exact ⟨_, e⟩
        | frz ob u => obtain ⟨e, _⟩ := x; exact ⟨_, e⟩
        | tbl ps => exact ⟨_, x⟩
        | met f y => exact ⟨_, x⟩
        | ext φ => obtain ⟨_, ⟨_, e⟩, _⟩ := x; exact ⟨_, e⟩
      obtain ⟨o, eo⟩ := hx
      have hm := (in_kept E I ni nf (nofr E hv) eo).2
      rw [immH_some.mpr ⟨h, keep_imm k⟩] at hm
      cases hm
  rw [outH_imm hn]
  exact immH_some.mpr ⟨h, keep_imm k⟩
end Sv
set_option autoImplicit false
namespace Sv
open PySem PySem.Spec PyProof.Rows L2 Sz
variable {g : GP} {w w' : Wk} {ip : List (Addr × Obj)} {σ : L2.St} {H : Hp} {s : Shared} {env : Env} {S : Sto}
theorem funs_cut {L : Nat} {base : Heap} {s : Shared} : ∀ {l : List PySem.Env}, (∀ b ∈ frs l, b < L) → s.heap.FunFrames base l → (cutS L s).heap.FunFrames base l := by
  intro l
  induction l with
  | nil => intro _ _; trivial
  | cons env r ih =>
    intro hs hl
    obtain ⟨hk, ⟨L1, o, hf, hn, ho, hd⟩, hr⟩ := hl
    have hL : L1 < L := hs L1 (by unfold frs; rw [List.filterMap_cons, hf]; exact List.mem_cons_self)
    exact ⟨hk, ⟨L1, _, hf, hn, (cutS_get hL).trans ho, hd⟩, ih (fun b hb => hs b (by unfold frs; rw [List.filterMap_cons, hf]; exact List.mem_cons_of_mem _ hb)) hr⟩
theorem cx_ok (G : g.Ok) (E : En g w) : (g.cx w).Ok := by
  have nc : ∀ x c, (g.cx w).env.cells.lookup x = some c → False := fun x c h => by rw [cx_env E] at h; exact no_cells G x c h
  have hlt : ∀ b o, g.base.get? b = some o → b < g.L := fun b o e => Nat.lt_of_lt_of_le (Heap.lt_size e) G.bsz
  refine ⟨E.e0.mod, G.kind, rfl, rfl, Nat.le_refl _, fun x y c h _ => (nc x c h).elim, fun x h => ?_, fun x c _ h => (nc x c h).elim, fun _ => ?_, Around.frames_deeper E.e0.frames, .inr ⟨rfl, rfl⟩, fun b z => ?_, fun b o e => ?_, ?_, fun b o e z => ?_, fun b z => ?_, funs_cut E.fr E.e0.funs, fun b hb => ?_⟩
  · have h : g.scope.names.lookup x = some .cell ∨ g.scope.names.lookup x = some .free := h
    rcases h with h | h
    · exact (G.noc _ (PySem.mem_of_lookup h) rfl).elim
    · exact absurd rfl (G.nofree _ (PySem.mem_of_lookup h))
  · rw [cx_A E]; exact E.room.hd
  · exact absurd (show b ∈ ([] : List Addr) from z) (by simp)
  · obtain ⟨q1, q2⟩ := E.e0.bs b o e
    exact ⟨(cutS_get (hlt b o e)).trans q1, guard_low (immH_none q2) (hlt b o e)⟩
  · show g.base.objs.size ≤ (cutS g.L w.s).heap.objs.size
    rw [cutS_size (Nat.le_of_lt E.lt)]
    exact G.bsz
  · exact absurd (show b ∈ ([] : List Addr) from z) (by simp)
  · exact absurd (show b ∈ ([] : List Addr) from z) (by simp)
  · exact guard_low (immH_none (E.e0.frf b hb)) (E.fr b hb)
/-- what is kept of a generator's store over its sleep -/
def keepLD (S : Sto) : Sto := fun b => match S b with
  | some (.lst ds) => some (.lst ds)
  | some (.dK kvs) => some (.dK kvs)
  | _ => none
theorem keepLD_some {b : Addr} {o : Ob} (h : keepLD S b = some o) : S b = some o ∧ ((∃ ds, o = .lst ds) ∨ ∃ kvs, o = .dK kvs) := by
  unfold keepLD at h
  cases e : S b with
  | none => rw [e] at h; cases h
  | some u =>
    rw [e] at h
    cases u with
    | lst ds => cases h; exact ⟨rfl, .inl ⟨_, rfl⟩⟩
    | dK ds => cases h; exact ⟨rfl, .inr ⟨_, rfl⟩⟩
    | _ => cases h
structure AtG (g : GP) (w : Wk) (ip : List (Addr × Obj)) (σ : L2.St) (H : Hp) (s : Shared) (env : Env) (S : Sto) : Prop where
  en : En g w
  inv : Inv (g.cx w) ip σ H s
  dead : Dead w.s s
  rs : RS g.kk σ H env S
  ipok : ∀ p ∈ ip, g.L ≤ p.1
/-- it was the generator's own, or it was not -/
theorem new_or_own (E : En g w) (I : Inv (g.cx w) ip σ H s) {b : Addr} (hb : g.L ≤ b) (n : ∀ u, H b = some u → immO u = false ∧ ∀ o v, u ≠ .frz o v) : b ∈ w.fp ∨ w.s.heap.get? b = none := by
  by_cases hf : b ∈ w.fp
  · exact .inl hf
  · cases e : w.s.heap.get? b with
    | none => exact .inr rfl
    | some o =>
      cases hi : immH w.H b with
      | none => exact ((n _ (in_high E I hi hb hf e).1).2 _ _ rfl).elim
      | some u =>
        obtain ⟨h1, h2⟩ := immH_some.mp hi
        obtain ⟨v, q, k⟩ := in_imm I h2 h1
        have := (n v q).1
        rw [k] at this
        cases this
theorem ob_at {K : KK} {b : Addr} {o : Ob} (r : RelS K S H) (h : keepLD S b = some o) : (∃ vs, H b = some (.lst vs)) ∨ ∃ vs, H b = some (.dK vs) := by
  obtain ⟨h1, ⟨ds, rfl⟩ | ⟨kvs, rfl⟩⟩ := keepLD_some h
  · obtain ⟨vs, q, _⟩ := r b _ h1
    exact .inl ⟨vs, q⟩
  · obtain ⟨vs, q, _⟩ := r b _ h1
    exact .inr ⟨vs, q⟩
theorem ob_mut {K : KK} {b : Addr} {o : Ob} (r : RelS K S H) (h : keepLD S b = some o) : ∀ u, H b = some u → immO u = false ∧ ∀ o v, u ≠ .frz o v := fun u hu => by
  rcases ob_at r h with ⟨vs, q⟩ | ⟨vs, q⟩ <;>
  · rw [q] at hu
    cases hu
    exact ⟨rfl, fun _ _ z => nomatch z⟩
theorem ob_heap {P : Program} {w : World} {K : KK} {h : Heap} {b : Addr} {o : Ob} (r : RelS K S H) (hk : HOk P w H h) (e : keepLD S b = some o) : ∃ ob, h.get? b = some ob ∧ ∀ v, ob.data ≠ .cell v := by
  rcases ob_at r e with ⟨vs, q⟩ | ⟨vs, q⟩
  · obtain ⟨_, its, n, _, e⟩ := hk b _ q
    exact ⟨_, e, fun v z => nomatch z⟩
  · obtain ⟨_, _, ys, _, ob, es, ep, e, _, d, _⟩ := hk b _ q
    refine ⟨_, e, fun v z => ?_⟩
    first
      | (rw [d] at z; cases z)
      | (rw [d.1] at z; cases z)
theorem AtG.own (A : AtG g w ip σ H s env S) {b : Addr} {o : Ob} (h : keepLD S b = some o) : g.L ≤ b := by
  refine Nat.le_of_not_lt fun hb => ?_
  obtain ⟨ob, e, _⟩ := ob_heap A.rs.sto A.inv.hok h
  cases e1 : w.s.heap.get? b with
  | none =>
    rw [A.dead.no b (Nat.lt_trans hb A.en.lt) e1] at e
    cases e
  | some o1 =>
    cases hi : immH w.H b with
    | none =>
      have q := (in_low A.en A.inv hi hb e1).1
      rcases ob_at A.rs.sto h with ⟨vs, z⟩ | ⟨vs, z⟩ <;>
      · rw [q] at z
        cases z
    | some u =>
      obtain ⟨h1, h2⟩ := immH_some.mp hi
      obtain ⟨v, q, k⟩ := in_imm A.inv h2 h1
      have := (ob_mut A.rs.sto h v q).1
      rw [k] at this
      cases this
/-- the generator's own things over its sleep -/
def ownFp (L : Addr) (ip : List (Addr × Obj)) (S : Sto) (s : Shared) : List Addr := L :: (ip.map (·.1) ++ (List.range s.heap.objs.size).filter fun b => (keepLD S b).isSome)
theorem mem_ownFp {L : Addr} {b : Addr} (h : b ∈ ownFp L ip S s) : b = L ∨ (∃ p ∈ ip, p.1 = b) ∨ ∃ o, keepLD S b = some o := by
  rcases List.mem_cons.mp h with h | h
  · exact .inl h
  · rcases List.mem_append.mp h with h | h
    · obtain ⟨p, hp, e⟩ := List.mem_map.mp h
      exact .inr (.inl ⟨p, hp, e⟩)
    · exact .inr (.inr (Option.isSome_iff_exists.mp (List.mem_filter.mp h).2))
theorem own_mem (A : AtG g w ip σ H s env S) {b : Addr} {o : Ob} (h : keepLD S b = some o) : b ∈ ownFp g.L ip S s := by
  obtain ⟨ob, e, _⟩ := ob_heap A.rs.sto A.inv.hok h
  exact List.mem_cons_of_mem _ (List.mem_append_right _ (List.mem_filter.mpr ⟨List.mem_range.mpr (Heap.lt_size e), by rw [h]; rfl⟩))
theorem ip_mem {L : Addr} {p : Addr × Obj} (h : p ∈ ip) : p.1 ∈ ownFp L ip S s := List.mem_cons_of_mem _ (List.mem_append_left _ (List.mem_map.mpr ⟨p, h, rfl⟩))
/-- what the others get of the generator's turn -/
structure ExitR (g : GP) (w : Wk) (s : Shared) (Hm : Hp) (fp : List Addr) : Prop where
  os : s.os = w.s.os
  bare : AllBare s.gens
  dead : Dead w.s s
  un : Un (frs w.outer) w.fp w.H Hm w.s.heap s.heap
  ok : HOk g.P g.w Hm s.heap
  ext : Ext w.H Hm
  rel : ∀ (K : KK) (S : Sto), RelS K S w.H → RelS K S Hm
  fp : ∀ b ∈ fp, g.L ≤ b ∧ Hm b = none ∧ (b ∈ w.fp ∨ w.s.heap.get? b = none) ∧ ∃ o, s.heap.get? b = some o ∧ ∀ v, o.data ≠ .cell v
theorem loc_at (A : AtG g w ip σ H s env S) : ∃ m, s.heap.Ns g.L m ∧ H g.L = none := by
  obtain ⟨m, q, _⟩ := A.inv.loc
  have e : (g.cx w).env.locals = g.L := by rw [cx_env A.en]; rfl
  rw [e] at q
  exact ⟨m, q, by rw [← e]; exact A.inv.free⟩
theorem exit_of (A : AtG g w ip σ H s env S) : ExitR g w s (outH w H) (ownFp g.L ip S s) := by
  refine ⟨A.inv.os, A.inv.bare, A.dead, out_un A.en A.inv, out_ok A.en A.inv, out_ext A.inv, fun K S r => out_rel A.inv r, fun b hb => ?_⟩
  have gone : (b ∈ w.fp ∨ w.s.heap.get? b = none) → immH H b = none → outH w H b = none := fun h1 h2 => by
    have : w.H b = none := by
      rcases h1 with h1 | h1
      · exact (A.en.fpH b h1).1
      · cases e : w.H b with
        | none => rfl
        | some u =>
          have un := (out_un A.en A.inv)
          have x := A.en.e0.hok b u e
          have lt := x.lt
          exfalso
          have hx : ∃ o, w.s.heap.get? b = some o := by
            cases u with
            | lst xs => obtain ⟨_, _, _, _, e⟩ := x; exact ⟨_, e⟩
            | tup xs => obtain ⟨_, _, _, ob, e, _⟩ := x; exact ⟨_, e⟩
            | dK kvs => obtain ⟨_, _, _, _, o, _, _, e, _⟩ := x; exact ⟨_, e⟩
            | dT kvs => obtain ⟨_, _, _, _, o, _, _, e, _⟩ := x; exact ⟨_, e⟩
            | set S n => obtain ⟨o, _, _, _, e, _⟩ := x; exact ⟨_, e⟩
            | ins C dx fs => obtain ⟨_, _, _, e, _⟩ := x; exact ⟨_, e⟩
            | own y => obtain ⟨_, e⟩ := x; exact ⟨_, e⟩
            | xd fs => obtain ⟨_, ⟨_, _, _, e, _⟩, _⟩ := x; exact ⟨_, e⟩
            | rng lo hi => obtain ⟨_, _, _, e⟩ := x; exact ⟨_, e⟩
            | frz ob u => obtain ⟨e, _⟩ := x; exact ⟨_, e⟩
            | tbl ps => exact ⟨_, x⟩
            | met f y => exact ⟨_, x⟩
            | ext φ => obtain ⟨_, ⟨_, e⟩, _⟩ := x; exact ⟨_, e⟩
          obtain ⟨o, eo⟩ := hx
          rw [h1] at eo
          cases eo
    rw [outH_imm fun v hv => by rw [this] at hv; cases hv]
    exact h2
  rcases mem_ownFp hb with rfl | ⟨p, hp, rfl⟩ | ⟨o, ho⟩
  · obtain ⟨m, ⟨ob, es, ep, e, d, _⟩, hn⟩ := loc_at A
    exact ⟨Nat.le_refl _, gone (.inl A.en.fpL) (immH_none hn), .inl A.en.fpL, ob, e, fun v z => by rw [d] at z; cases z⟩
  · obtain ⟨q1, q2, q3, q4, q5⟩ := A.inv.pin p (List.mem_append_right _ hp)
    have hn := new_or_own A.en A.inv (A.ipok p hp) fun u hu => by rw [q2] at hu; cases hu
    exact ⟨A.ipok p hp, gone hn (immH_none q2), hn, p.2, q1, q5⟩
  · have hn := new_or_own A.en A.inv (A.own ho) (ob_mut A.rs.sto ho)
    refine ⟨A.own ho, gone hn ?_, hn, ob_heap A.rs.sto A.inv.hok ho⟩
    cases e : immH H b with
    | none => rfl
    | some u =>
      obtain ⟨h1, h2⟩ := immH_some.mp e
      have := (ob_mut A.rs.sto ho u h1).1
      rw [h2] at this
      cases this
end Sv
namespace Sv
open PySem PySem.Spec PyProof.Rows L2 Sz
variable {g : GP} {w w' : Wk} {ip : List (Addr × Obj)} {σ : L2.St} {H : Hp} {s : Shared} {env : Env} {S : Sto}
/-- the heap as the generator knows it, woken again -/
def inH (L : Addr) (w' : Wk) (S : Sto) (H : Hp) : Hp := fun b => if (keepLD S b).isSome then H b else guardH L w' b
theorem inH_own {b : Addr} {o : Ob} (h : keepLD S b = some o) : inH g.L w' S H b = H b := by unfold inH; rw [h]; rfl
theorem inH_not {b : Addr} (h : keepLD S b = none) : inH g.L w' S H b = guardH g.L w' b := by unfold inH; rw [h]; rfl
theorem reenter (G : g.Ok) (A : AtG g w ip σ H s env S) (E : En g w') (hf : w'.fp = ownFp g.L ip S s) (hk : ∀ b ∈ w'.fp, ∀ o, s.heap.get? b = some o → w'.s.heap.get? b = some o) (x : Ext3 (outH w H) w'.H) :
    AtG g w' ip σ (inH g.L w' S H) w'.s env (keepLD S) ∧ Ext3 H (inH g.L w' S H) := by
  have nc : ∀ x c, (g.cx w').env.cells.lookup x = some c → False := fun x c h => by rw [cx_env E] at h; exact no_cells G x c h
  have hown : ∀ {b o}, keepLD S b = some o → b ∈ w'.fp := fun h => by rw [hf]; exact own_mem A h
  have e3 : Ext3 H (inH g.L w' S H) := fun b u k h => by
    have hn : keepLD S b = none := by
      cases e : keepLD S b with
      | none => rfl
      | some o =>
        have := (ob_mut A.rs.sto e u h).1
        rw [keep_imm k] at this
        cases this
    rw [inH_not hn]
    exact guard_imm (immH_some.mpr ⟨x b u k (out_ext3 A.en A.inv b u k h), keep_imm k⟩)
  have notown : ∀ {b u}, guardH g.L w' b = some u → keepLD S b = none := fun {b u} h => by
    cases e : keepLD S b with
    | none => rfl
    | some o =>
      rw [guard_fp E (hown e)] at h
      cases h
  have eL : (g.cx w').env.locals = g.L := by rw [cx_env E]; rfl
  obtain ⟨mL, nsL, hL⟩ := loc_at A
  have LS : keepLD S g.L = none := by
    cases e : keepLD S g.L with
    | none => rfl
    | some o =>
      rcases ob_at A.rs.sto e with ⟨vs, z⟩ | ⟨vs, z⟩ <;>
      · rw [hL] at z
        cases z
  refine ⟨⟨E, ⟨cx_ok G E, rfl, E.e0.bare, ⟨fun b o e n hf hx => ?_, fun b o e n hf hx => ?_, fun b o e n hx => ?_, fun b o e hx => ?_, fun b xs h => ?_, fun b o u h => ?_, fun b ps h => ?_⟩, ?_, fun x c h => (nc x c h).elim, ?_, fun x c h => (nc x c h).elim, fun p hp => ?_, fun b u q => ?_, A.inv.len⟩, .refl _, ⟨A.rs.len, fun i d h => ?_, fun a o h => ?_⟩, A.ipok⟩, e3⟩
  · exact (cutS_get (cutS_lt e)).symm.trans e
  · exact ⟨o.slots, (cutS_get (cutS_lt e)).symm.trans e⟩
  · have hb := cutS_lt e
    cases e2 : keepLD S b with
    | none => exact (inH_not e2).trans n
    | some o => exact absurd (A.own e2) (Nat.not_le_of_lt hb)
  · exact ⟨o, (cutS_get (cutS_lt e)).symm.trans e⟩
  · exact (inH_not (notown h)).trans h
  · exact (inH_not (notown h)).trans h
  · exact ⟨#[], ((inH_not (notown h)).trans h).trans (by simp)⟩
  · obtain ⟨m, q, r⟩ := A.inv.loc
    have e0 : (g.cx w).env = (g.cx w').env := by rw [cx_env E, cx_env A.en]
    rw [e0] at q r
    refine ⟨m, ?_, fun i x v h1 h2 h3 => ?_⟩
    · obtain ⟨ob, es, ep, e, d⟩ := q
      exact ⟨ob, es, ep, hk _ (by rw [eL]; exact E.fpL) _ e, d⟩
    · obtain ⟨u, rv, l⟩ := r i x v h1 h2 h3
      refine ⟨u, rv, ?_⟩
      rcases l with l | ⟨_, c, e, _⟩
      · exact .inl l
      · exact (nc x c e).elim
  · rw [eL, inH_not LS]
    exact guard_fp E E.fpL
  · have hp' : p ∈ ip := by
      rcases List.mem_append.mp hp with z | z
      · exact absurd (show p ∈ ([] : List (Addr × Obj)) from z) (by simp)
      · exact z
    obtain ⟨q1, q2, q3, q4, q5⟩ := A.inv.pin p (List.mem_append_right _ hp')
    have hpf : p.1 ∈ w'.fp := by rw [hf]; exact ip_mem hp'
    refine ⟨hk _ hpf _ q1, ?_, ?_, fun z => absurd (E.fr _ z) (Nat.not_lt_of_le (A.ipok p hp')), q5⟩
    · cases e : keepLD S p.1 with
      | none => exact (inH_not e).trans (guard_fp E hpf)
      | some o => exact (inH_own e).trans q2
    · rw [eL]
      have e1 : (g.cx w).env.locals = g.L := by rw [cx_env A.en]; rfl
      rw [← e1]
      exact q3
  · cases e : keepLD S b with
    | some o =>
      rw [inH_own e] at q
      have x := A.inv.hok b u q
      have kp : ∀ ob, s.heap.get? b = some ob → w'.s.heap.get? b = some ob := fun ob eo => hk b (hown e) ob eo
      rcases ob_at A.rs.sto e with ⟨vs, z⟩ | ⟨vs, z⟩
      · rw [q] at z
        cases z
        obtain ⟨z, its, n, r, e⟩ := x
        exact ⟨z, its, n, r, kp _ e⟩
      · rw [q] at z
        cases z
        obtain ⟨z, y, vs, r, ob, es, ep, e, c⟩ := x
        exact ⟨z, y, vs, r, ob, es, ep, kp _ e, c⟩
    | none =>
      rw [inH_not e] at q
      rcases guard_cases q with z | ⟨_, _, _, o, eo, rfl⟩
      · obtain ⟨z1, z2⟩ := immH_some.mp z
        exact immOk z2 (E.e0.hok b u z1) fun o e => e
      · exact ⟨eo, eo, ⟨o, eo⟩, fun h1 h2 p st => st _ p⟩
  · obtain ⟨v, q1, q2⟩ := A.rs.slot i d h
    exact ⟨v, q1, q2.ext3 e3⟩
  · obtain ⟨h1, h2⟩ := keepLD_some h
    have hq : inH g.L w' S H a = H a := inH_own h
    rcases h2 with ⟨ds, rfl⟩ | ⟨kvs, rfl⟩
    · obtain ⟨vs, q, r⟩ := A.rs.sto a _ h1
      exact ⟨vs, hq.trans q, r.ext3 e3⟩
    · obtain ⟨vs, q, r⟩ := A.rs.sto a _ h1
      exact ⟨vs, hq.trans q, r.ext3 e3⟩
end Sv
set_option maxHeartbeats 1000000
set_option autoImplicit false
namespace Sv
open PySem PySem.Spec PyProof.Rows L2 Sz GenW
/-- what one waking comes to: with n items to come -/
def PostN (g : GP) (out : List D) : Nat → Wk → PostG
  | 0, w => fun e s => e = .ret (.ok (.ret .none)) ∧ ∃ Hm, ExitR g w s Hm []
  | n + 1, w => fun e s => ∃ v gd l k c p fs, e = .susp v gd l k c p fs ∧ e.quiet = true ∧ ∃ d x Hm fp, out[out.length - (n + 1)]? = some d ∧ RelV x v ∧ RD g.kk Hm d x ∧ g.L ∈ fp ∧ ExitR g w s Hm fp ∧
      ∀ w' : Wk, w'.fp = fp → En g w' → (∀ b ∈ fp, ∀ o, s.heap.get? b = some o → w'.s.heap.get? b = some o) → Ext3 Hm w'.H → Sg (model g.P g.w) w'.A (PostN g out n w') c (k (.send .none)) fs w'.s
/-- among others: the next of out, and what is kept -/
def ylF (out : List D) : List D → D → Sto → (Sto → Prop) → Prop := fun ds d S k => (∃ more, out = ds ++ d :: more) ∧ k (keepLD S)
structure GCo (g : GP) (c : Code) (fs : List Frame) (gd : Bool → Bool) : Prop where
  over : ∀ A : Around, A.over c fs = A.deeper g.env
  split : splitAtGen fs = none
  guard : fs.any Frame.guarded = false
  gd : gd false = false
def FlG (g : GP) (C : DGEnds) (f : Flow) (ds : List D) (env : Env) (S : Sto) (H : Hp) : Prop := match f with
  | .next => C.nx ds env S
  | .brk => C.bk ds env S
  | .cont => C.ct ds env S
  | .ret u => ∃ d v, C.rt ds d S ∧ RD g.kk H d v ∧ RelV v u
structure GKo (g : GP) (out : List D) (ip : List (Addr × Obj)) (H0 : Hp) (c : Code) (fs : List Frame) (K : Flow → Sem PySem.Fin) (C : DGEnds) : Prop where
  ok : ∀ (f : Flow) (w : Wk) (σ : L2.St) (H : Hp) (s : Shared) (env : Env) (S : Sto) (ds : List D), AtG g w ip σ H s env S → Ext3 H0 H → (∃ more, out = ds ++ more) → FlG g C f ds env S H → Sg (model g.P g.w) w.A (PostN g out (out.length - ds.length) w) c (K f) fs s
structure DJ (g : GP) (out : List D) (st : Stmt) (t : DTGn) : Prop where
  run : ∀ (w : Wk) (ip : List (Addr × Obj)) (σ : L2.St) (H : Hp) (s : Shared) (env : Env) (S : Sto) (ds : List D) (c : Code) (fs : List Frame) (K : Flow → Sem PySem.Fin) (J : Value → Sem PySem.Fin) (gd : Bool → Bool) (lv : List Value → List Value) (C : DGEnds),
    GCo g c fs gd → AtG g w ip σ H s env S → (∃ more, out = ds ++ more) → C.yl = ylF out → GKo g out ip H c fs K C → t C ds env S →
    Sg (model g.P g.w) w.A (PostN g out (out.length - ds.length) w) c ((exec st g.env).wrap K J gd lv) fs s
structure DJs (g : GP) (out : List D) (st : List Stmt) (t : DTGn) : Prop where
  run : ∀ (w : Wk) (ip : List (Addr × Obj)) (σ : L2.St) (H : Hp) (s : Shared) (env : Env) (S : Sto) (ds : List D) (c : Code) (fs : List Frame) (K : Flow → Sem PySem.Fin) (J : Value → Sem PySem.Fin) (gd : Bool → Bool) (lv : List Value → List Value) (C : DGEnds),
    GCo g c fs gd → AtG g w ip σ H s env S → (∃ more, out = ds ++ more) → C.yl = ylF out → GKo g out ip H c fs K C → t C ds env S →
    Sg (model g.P g.w) w.A (PostN g out (out.length - ds.length) w) c ((execs st g.env).wrap K J gd lv) fs s
variable {g : GP} {out : List D} {st : Stmt} {rest : List Stmt} {pos : Pos}
theorem AtG.go {w : Wk} {ip : List (Addr × Obj)} {σ σ' : L2.St} {H H' : Hp} {s s' : Shared} {env env' : Env} {S S' : Sto} (A : AtG g w ip σ H s env S) (I : Inv (g.cx w) ip σ' H' s') (d : Dead s s') (r : RS g.kk σ' H' env' S') : AtG g w ip σ' H' s' env' S' :=
  ⟨A.en, I, A.dead.trans d, r, A.ipok⟩
theorem rs_blank {K : KK} {σ : L2.St} {H : Hp} {S : Sto} (r : RelS K S H) : RS K σ H (List.replicate σ.length none) S :=
  ⟨List.length_replicate, fun i d h => (by rw [List.getElem?_replicate] at h; split at h <;> cases h), r⟩
theorem dj_nil : DJs g out [] dgNext := ⟨fun w ip σ H s env S ds c fs K J gd lv C gc A pf hy k h => sg_execs_nil (k.ok .next w σ H s env S ds A (.refl H) pf h)⟩
theorem dj_cons {t u : DTGn} (a : DJ g out st t) (b : DJs g out rest u) : DJs g out (st :: rest) (dgSeq t u) := by
  refine ⟨fun w ip σ H s env S ds c fs K J gd lv C gc A pf hy k h => sg_execs_cons (a.run w ip σ H s env S ds c fs _ J gd lv { C with nx := u C } gc A pf hy ⟨fun f w' σ' H' s' env' S' ds' A' e' pf' q => ?_⟩ h)⟩
  cases f with
  | next => exact b.run w' ip σ' H' s' env' S' ds' c fs K J gd lv C gc A' pf' hy ⟨fun f w2 σ2 H2 s2 env2 S2 ds2 A2 e2 pf2 q2 => k.ok f w2 σ2 H2 s2 env2 S2 ds2 A2 (e'.trans e2) pf2 q2⟩ q
  | brk => exact k.ok .brk w' σ' H' s' env' S' ds' A' e' pf' q
  | cont => exact k.ok .cont w' σ' H' s' env' S' ds' A' e' pf' q
  | ret v => exact k.ok (.ret v) w' σ' H' s' env' S' ds' A' e' pf' q
theorem sp_cases {X : Cx} {pins : List (Addr × Obj)} {D : Ends} {f : Flow} {s : Shared} (h : SP X pins D f s) : (f = .next ∧ ∃ σ H, Inv X pins σ H s ∧ D.nx σ H) ∨ (f = .brk ∧ ∃ σ H, Inv X pins σ H s ∧ D.bk σ H) ∨ (f = .cont ∧ ∃ σ H, Inv X pins σ H s ∧ D.ct σ H) ∨ ∃ u v σ H, f = .ret u ∧ Inv X pins σ H s ∧ RelV v u ∧ D.rt v H := by
  cases f with
  | next => exact .inl ⟨rfl, h⟩
  | brk => exact .inr (.inl ⟨rfl, h⟩)
  | cont => exact .inr (.inr (.inl ⟨rfl, h⟩))
  | ret u => obtain ⟨v, σ, H, I, r, q⟩ := h; exact .inr (.inr (.inr ⟨u, v, σ, H, rfl, I, r, q⟩))
/-- a statement that hands out nothing -/
theorem dj_ps {t : DTS} (h : ∀ w, En g w → DS (g.cx w) st t) : DJ g out st (dgPlain t) := by
  refine ⟨fun w ip σ H s env S ds c fs K J gd lv C gc A pf hy k ht => sg_wrap ?_⟩
  rw [gc.over]
  have E := A.en
  have r := (h w E).run.run ip s σ H (Ends.mk (fun σ' H' => ∃ env' S', C.nx ds env' S' ∧ RS g.kk σ' H' env' S' ∧ Ext H H') (fun v H' => ∃ d S', C.rt ds d S' ∧ RelS g.kk S' H' ∧ RD g.kk H' d v ∧ Ext H H')
      (fun σ' H' => ∃ env' S', C.bk ds env' S' ∧ RS g.kk σ' H' env' S' ∧ Ext H H') (fun σ' H' => ∃ env' S', C.ct ds env' S' ∧ RS g.kk σ' H' env' S' ∧ Ext H H')) A.inv
    ⟨env, S, _, A.rs, ht, fun env' S' σ' H' q r e => ⟨env', S', q, r, e⟩, fun d S' v H' q s r e => ⟨d, S', q, s, r, e⟩, fun env' S' σ' H' q r e => ⟨env', S', q, r, e⟩, fun env' S' σ' H' q r e => ⟨env', S', q, r, e⟩⟩
  rw [cx_A E, cx_env E] at r
  refine wpAny_dead (wpAny_mono r (fun f s' hs dd => ?_) fun _ _ z => False.elim z)
  rcases sp_cases hs with ⟨rfl, σ', H', I, env', S', q, rs, e⟩ | ⟨rfl, σ', H', I, env', S', q, rs, e⟩ | ⟨rfl, σ', H', I, env', S', q, rs, e⟩ | ⟨u, v, σ', H', rfl, I, rv, d, S', q, s1, rd, e⟩
  · exact k.ok .next w σ' H' s' env' S' ds (A.go I dd rs) (.of e) pf q
  · exact k.ok .brk w σ' H' s' env' S' ds (A.go I dd rs) (.of e) pf q
  · exact k.ok .cont w σ' H' s' env' S' ds (A.go I dd rs) (.of e) pf q
  · exact k.ok (.ret u) w σ' H' s' _ S' ds (A.go I dd (rs_blank s1)) (.of e) pf ⟨d, v, q, rd, rv⟩
/-- yield -/
theorem dj_yield {e : Expr} {yp : Pos} {te : DTE} (G : g.Ok) (h : ∀ w, En g w → DE (g.cx w) e te) : DJ g out (.Expr (.Yield (some e) yp) pos) (dgYield te) := by
  refine ⟨fun w ip σ H s env S ds c fs K J gd lv C gc A pf hy k ⟨hl, ht⟩ => sg_Expr_Yield gc.split gc.gd gc.guard ?_ G.co G.inter⟩
  rw [gc.over]
  have E := A.en
  have r := (h w E).run.run ip s σ H (fun v H' => ∃ d S', C.yl ds d S' (fun S2 => C.nx (ds ++ [d]) env S2) ∧ RelS g.kk S' H' ∧ RD g.kk H' d v ∧ Ext H H') A.inv ⟨env, S, _, A.rs, ht, fun d S' v H' q s r e => ⟨d, S', q, s, r, e⟩⟩
  rw [cx_A E, cx_env E] at r
  refine wpAny_dead (wpAny_mono r (fun u s' hs dd => ?_) fun _ _ z => False.elim z)
  obtain ⟨v, H', I, rv, d, S', q, s1, rd, e⟩ := hs
  intro l kk p hk
  rw [hy] at q
  obtain ⟨⟨more, hm⟩, q⟩ := q
  have A' : AtG g w ip σ H' s' env S' := A.go I dd (A.rs.ext e s1)
  have hlen : out.length - ds.length = more.length + 1 := by rw [hm, List.length_append, List.length_cons]; omega
  rw [hlen]
  refine ⟨u, false, l, kk, c, p, fs, rfl, ?_, d, v, outH w H', ownFp g.L ip S' s', ?_, rv, rd.ext3 (out_ext3 A'.en A'.inv), List.mem_cons_self, exit_of A', fun w' hf E' hkp x => ?_⟩
  · simp [End.quiet, gc.guard]
  · have : out.length - (more.length + 1) = ds.length := by rw [hm, List.length_append, List.length_cons]; omega
    rw [this, hm, List.getElem?_append_right (Nat.le_refl _), Nat.sub_self]
    rfl
  · obtain ⟨B, e3⟩ := reenter G A' E' hf (fun b hb => hkp b (hf ▸ hb)) x
    refine hk w'.A (PostN g out more.length w') w'.s ?_
    have hl2 : more.length = out.length - (ds ++ [d]).length := by rw [hm]; simp; omega
    rw [hl2]
    exact k.ok .next w' σ _ w'.s env (keepLD S') (ds ++ [d]) B (fun b u kk h => e3 b u kk (Ext3.of e b u kk h)) ⟨more, by rw [hm, List.append_assoc]; rfl⟩ q
theorem gc_in {c c' : Code} {fs : List Frame} {gd : Bool → Bool} {k : Result → Sem PySem.Fin} {l kp : List Value} {p : Pos} (h : GCo g c fs gd) (hw : c'.weight = 0) (hu : c'.cUnits = 0) : GCo g c' (.ret k none (gd false) l c p kp :: fs) id where
  over := fun A => (over_loop hw hu).trans (h.over A)
  split := by
    show (splitAtGen fs).map _ = none
    rw [h.split]; rfl
  guard := by
    show (gd false || fs.any Frame.guarded) = false
    rw [h.gd, h.guard]; rfl
  gd := rfl
/-- while -/
theorem dj_while {c : Expr} {body : List Stmt} {tc : DTT} {tb : DTGn} (hc : ∀ w, En g w → DT (g.cx w) c tc) (hb : DJs g out body tb) : DJ g out (.While c body [] pos) (dgWhile tc tb) := by
  refine ⟨fun w ip σ H s env S ds cc fs K J gd lv C gc A pf hy k ⟨W, ⟨m0, w0⟩, turn⟩ => sg_While fun p => ?_⟩
  have gl : GCo g (.whileLoop c body [] g.env) (loopFrame g.env K J gd lv cc p :: fs) id := gc_in gc rfl rfl
  have loop : ∀ (m : Nat) (w : Wk) (σ : L2.St) (H1 : Hp) (s : Shared) (env : Env) (S : Sto) (ds : List D), AtG g w ip σ H1 s env S → Ext3 H H1 → (∃ more, out = ds ++ more) → W m ds env S →
      Sg (model g.P g.w) w.A (PostN g out (out.length - ds.length) w) (.whileLoop c body [] g.env) ((model g.P g.w).den (.whileLoop c body [] g.env)) (loopFrame g.env K J gd lv cc p :: fs) s := by
    intro m
    induction m using Nat.strongRecOn with
    | ind m ih =>
      intro w σ H1 s env S ds A e1 pf wm
      refine sg_whileLoop ?_
      rw [gl.over]
      have E := A.en
      have r := (hc w E).run.run ip s σ H1 (fun b H' => ∃ S', RelS g.kk S' H' ∧ Ext H1 H' ∧ (if b = true then tb { C with nx := fun ds' env' S' => ∃ m', m' < m ∧ W m' ds' env' S', ct := fun ds' env' S' => ∃ m', m' < m ∧ W m' ds' env' S', bk := C.nx } ds env S' else C.nx ds env S')) A.inv
        ⟨env, S, _, A.rs, turn m ds env S wm, fun b S' H' q s1 e => ⟨S', s1, e, q⟩⟩
      rw [cx_A E, cx_env E] at r
      refine wpAny_dead (wpAny_mono r (fun b s' hs dd => ?_) fun _ _ z => False.elim z)
      obtain ⟨H2, I2, S2, s2, e2, q⟩ := hs
      have A2 : AtG g w ip σ H2 s' env S2 := A.go I2 dd (A.rs.ext e2 s2)
      have e12 : Ext3 H H2 := e1.trans (.of e2)
      cases b with
      | true =>
        rw [if_pos rfl] at q ⊢
        refine hb.run w ip σ H2 s' env S2 ds _ _ _ _ id id { C with nx := fun ds' env' S' => ∃ m', m' < m ∧ W m' ds' env' S', ct := fun ds' env' S' => ∃ m', m' < m ∧ W m' ds' env' S', bk := C.nx } gl A2 pf hy ⟨fun f w3 σ3 H3 s3 env3 S3 ds3 A3 e3 pf3 q3 => ?_⟩ q
        cases f with
        | next =>
          obtain ⟨m', hm, w'⟩ := q3
          exact sg_again rfl (ih m' hm w3 σ3 H3 s3 env3 S3 ds3 A3 (e12.trans e3) pf3 w')
        | cont =>
          obtain ⟨m', hm, w'⟩ := q3
          exact sg_again rfl (ih m' hm w3 σ3 H3 s3 env3 S3 ds3 A3 (e12.trans e3) pf3 w')
        | brk => exact sg_leaf (.ok .next) (k.ok .next w3 σ3 H3 s3 env3 S3 ds3 A3 (e12.trans e3) pf3 q3)
        | ret v => exact sg_leaf (.ok (.ret v)) (k.ok (.ret v) w3 σ3 H3 s3 env3 S3 ds3 A3 (e12.trans e3) pf3 q3)
      | false =>
        rw [if_neg Bool.false_ne_true] at q ⊢
        exact sg_leaf (.ok .next) (k.ok .next w σ H2 s' env S2 ds A2 e12 pf q)
  exact loop m0 w σ H s env S ds A (.refl H) pf w0
end Sv
set_option maxHeartbeats 1000000
set_option autoImplicit false
set_option maxHeartbeats 1000000
set_option autoImplicit false
namespace Sv
open PySem PySem.Spec PyProof.Rows L2 Sz GenW
/-- it sleeps: n items are to come -/
structure Slp (g : GP) (out : List D) (n : Nat) (a : Addr) (gn : Nat) (fp : List Addr) (Hm : Hp) (s : Shared) : Prop where
  isg : s.heap.IsGen a gn
  anot : a ∉ fp
  fpL : g.L ∈ fp
  ex : ∀ b ∈ fp, g.L ≤ b ∧ ∃ o, s.heap.get? b = some o ∧ ∀ v, o.data ≠ .cell v
  rdy : ∃ gs, s.gens[gn]? = some gs ∧ (n < out.length → IsSusp gs) ∧ ∀ w' : Wk, w'.fp = fp → En g w' → (∀ b ∈ fp, ∀ o, s.heap.get? b = some o → w'.s.heap.get? b = some o) → Ext3 Hm w'.H → WkG (model g.P g.w) w'.A (PostN g out n w') gs (.send .none) w'.s
variable {g : GP} {out : List D} {n gn : Nat} {a : Addr} {fp : List Addr} {Hm : Hp} {X : Cx} {pins : List (Addr × Obj)} {σ : L2.St} {H : Hp} {s s' : Shared}
theorem Slp.keep (h : Slp g out n a gn fp Hm s) (hn : n < out.length) (k : ∀ b ∈ a :: fp, ∀ o, s.heap.get? b = some o → s'.heap.get? b = some o) (st : Stays s s') : Slp g out n a gn fp Hm s' := by
  obtain ⟨gs, h1, h2, h3⟩ := h.rdy
  refine ⟨?_, h.anot, h.fpL, fun b hb => ?_, gs, st gn gs h1 (h2 hn), h2, fun w' e E kk x => h3 w' e E (fun b hb o eo => kk b hb o (k b (List.mem_cons_of_mem _ hb) o eo)) x⟩
  · obtain ⟨o, nm, qn, ho, r⟩ := h.isg
    exact ⟨o, nm, qn, k a List.mem_cons_self o ho, r⟩
  · obtain ⟨h1, o, e, d⟩ := h.ex b hb
    exact ⟨h1, o, k b (List.mem_cons_of_mem _ hb) o e, d⟩
/-- the one who wakes it -/
structure Host (g : GP) (X : Cx) : Prop where
  P : g.P = X.prog
  w : g.w = X.w
  K : g.K = X.K
  mg : g.mg = X.mg
  base : g.base = X.base
  s0 : X.s_0.heap.objs.size ≤ g.L
  fr : ∀ b ∈ frs X.stack, b < g.L
  calm : X.calm = true
  room : Room (g.k + 2) X.A
/-- an around near by -/
structure Near (X : Cx) (A : Around) : Prop where
  hd : A.handled = none
  fr : A.frames = some X.stack
  dp : A.depth ≤ X.A.depth + 2
  un : A.units ≤ X.A.units + 16
theorem Near.self (hx : Host g X) (I : Inv X pins σ H s) : Near X X.A := ⟨I.ok.hd hx.calm, I.ok.frames, by omega, by omega⟩
theorem Slp.lt (h : Slp g out n a gn fp Hm s) : g.L < s.heap.objs.size := let ⟨_, o, e, _⟩ := h.ex g.L h.fpL; Heap.lt_size e
theorem Host.en {A : Around} (hx : Host g X) (nr : Near X A) (I : Inv X pins σ H s) (h : Slp g out n a gn fp Hm s) (hf : ∀ b ∈ a :: fp, FpOk X pins H b) : En g ⟨A.in1, X.stack, s.setGen gn .running, H, fp⟩ := by
  have e := I.env0
  have r := hx.room
  refine ⟨?_, ⟨nr.hd, ?_, ?_⟩, hx.fr, h.lt, h.fpL, fun b hb => ⟨(hf b (List.mem_cons_of_mem _ hb)).1, (h.ex b hb).1⟩⟩
  · rw [hx.P, hx.w, hx.K, hx.mg, hx.base]
    exact ⟨nr.fr, e.mod, e.bs, e.bsz, e.funs, e.frf, e.hok, allBare_setGen e.bare rfl⟩
  · have := r.dp
    have := nr.dp
    show A.depth + 1 + 3 * g.k + 5 < _
    omega
  · have := r.un
    have := nr.un
    show A.units + 1 + 3 + 16 * g.k + 200 < _
    omega
/-- what stands is no new thing's place -/
theorem fp_next (hx : Host g X) (I : Inv X pins σ H s) {b : Addr} {H' : Hp} (hL : g.L ≤ b) (n : H' b = none) (h : s.heap.get? b = none) : FpOk X pins H' b := by
  have ne : ∀ c o, s.heap.get? c = some o → c ≠ b := fun c o e z => by rw [z, h] at e; cases e
  refine ⟨n, ?_, fun z => ?_, .inr (Nat.le_trans hx.s0 hL), fun x c e => ?_, fun p hp => ?_⟩
  · obtain ⟨m, ⟨o, _, _, e, _⟩, _⟩ := I.loc
    exact (ne _ o e).symm
  · obtain ⟨_, o, e, _⟩ := I.funs.mem z
    exact ne _ o e rfl
  · obtain ⟨v, o, e, _⟩ := I.cell x c e
    exact ne _ o e
  · exact ne _ _ (I.pin p hp).1
theorem inv_out {A : Around} {fp' : List Addr} {s1 : Shared} {H1 : Hp} (hx : Host g X) (I : Inv X pins σ H s) (hf : ∀ b ∈ a :: fp, FpOk X pins H b) (x : ExitR g ⟨A.in1, X.stack, s.setGen gn .running, H, fp⟩ s1 H1 fp') : Inv X pins σ H1 s1 :=
  I.call' (ch := fp) x.os x.un (by have := x.ok; rw [hx.P, hx.w] at this; exact this) x.bare fun b hb =>
    let z := hf b (List.mem_cons_of_mem _ hb)
    ⟨z.2.2.2.1, z.2.1, z.2.2.2.2.1, z.2.2.2.2.2⟩
theorem post_quiet {m : Nat} {w : Wk} {e : End} {s1 : Shared} (h : PostN g out m w e s1) : e.quiet = true := by
  cases m with
  | zero => obtain ⟨rfl, _⟩ := h; rfl
  | succ m => obtain ⟨_, _, _, _, _, _, _, rfl, q, _⟩ := h; exact q
/-- it hands out the next item -/
theorem wake_item {A : Around} {E : Value → Shared → Prop} (hx : Host g X) (nr : Near X A) (I : Inv X pins σ H s) (h : Slp g out (n + 1) a gn fp Hm s) (e3 : Ext3 Hm H) (hf : ∀ b ∈ a :: fp, FpOk X pins H b) (hn : n < out.length) :
    wpAny (model X.prog X.w) A (pyNext (.ref a)) (fun r s1 => ∃ u, r = some u ∧ ∃ d x H1 fp', out[out.length - (n + 1)]? = some d ∧ RelV x u ∧ RD X.kk H1 d x ∧ Inv X pins σ H1 s1 ∧ Ext H H1 ∧ (∀ S, RelS X.kk S H → RelS X.kk S H1) ∧ Slp g out n a gn fp' H1 s1 ∧ ∀ b ∈ a :: fp', FpOk X pins H1 b) E s := by
  obtain ⟨gs, h1, _, h3⟩ := h.rdy
  have hgl : gn < s.gens.size := (Array.getElem?_eq_some_iff.mp h1).1
  have En := hx.en nr I h hf
  have kk : X.kk = g.kk := by show (⟨X.prog, X.w, X.K⟩ : KK) = ⟨g.P, g.w, g.K⟩; rw [hx.P, hx.w, hx.K]
  have go := h3 ⟨A.in1, X.stack, s.setGen gn .running, H, fp⟩ rfl En (fun b hb o eo => eo) e3
  rw [hx.P, hx.w] at go
  refine wpAny_gsz (n := gn + 1) hgl (next_gk nr.hd I.nolimit (by have := hx.room.dp; have := nr.dp; show A.depth < _; omega) h.isg h1 go (fun e s1 q => post_quiet q) (fun v gd l k c p fs s1 hp hsz => ?_) fun r s1 hp => ?_)
  · obtain ⟨v', gd', l', k', c', p', fs', ee, q, d, x, H1, fp', hd, rx, rd, hL, ex, rest⟩ := hp
    cases ee
    have I1 := inv_out hx I hf ex
    have hs1 : gn < s1.gens.size := by
      have q : (s1.setGen gn (End.susp v gd l k c p fs).genState).gens.size = s1.gens.size := setGen_size _ _ _
      have hsz' : gn + 1 ≤ (s1.setGen gn (End.susp v gd l k c p fs).genState).gens.size := hsz
      omega
    have hb2 : AllBare (s1.setGen gn (End.susp v gd l k c p fs).genState).gens := allBare_setGen ex.bare (End.bare_of_quiet q)
    have I2 : Inv X pins σ H1 (s1.setGen gn (End.susp v gd l k c p fs).genState) := ⟨I1.ok, I1.os, hb2, I1.base, I1.loc, I1.cell, I1.free, I1.freeC, I1.pin, I1.hok, I1.len⟩
    have gone : ∀ b ∈ fp', FpOk X pins H1 b := fun b hb => by
      obtain ⟨f1, f2, f3, _⟩ := ex.fp b hb
      rcases f3 with z | z
      · exact ⟨f2, (hf b (List.mem_cons_of_mem _ z)).2⟩
      · exact fp_next hx I f1 f2 z
    have ga : s1.heap.IsGen a gn ∧ H1 a = none ∧ a ∉ fp' := by
      obtain ⟨o, nm, qn, ho, r⟩ := h.isg
      have fa := hf a List.mem_cons_self
      have nst : a ∉ frs X.stack := fun z => by
        rcases List.mem_cons.mp (I.stkSub a z) with z | z
        · exact fa.2.1 z
        · exact fa.2.2.1 z
      refine ⟨⟨o, nm, qn, ex.un.keep a o ho fa.1 nst h.anot, r⟩, ex.un.free a o ho fa.1 h.anot, fun z => ?_⟩
      obtain ⟨_, _, f3, _⟩ := ex.fp a z
      rcases f3 with z | z
      · exact h.anot z
      · have z : s.heap.get? a = none := z
        rw [ho] at z
        cases z
    refine ⟨v, rfl, d, x, H1, fp', hd, rx, by rw [kk]; exact rd, I2, ex.ext, fun S => ex.rel _ S, ⟨ga.1, ga.2.2, hL, fun b hb => ⟨(ex.fp b hb).1, (ex.fp b hb).2.2.2⟩, _, setGen_at hs1, fun _ => True.intro, fun w' ef E' kp x' => ?_⟩, fun b hb => ?_⟩
    · exact rest w' ef E' kp x'
    · rcases List.mem_cons.mp hb with rfl | hb
      · exact ⟨ga.2.1, (hf _ List.mem_cons_self).2⟩
      · exact gone b hb
  · obtain ⟨_, _, _, _, _, _, _, ee, _⟩ := hp
    cases ee
/-- it ends -/
theorem wake_done {A : Around} {E : Value → Shared → Prop} (hx : Host g X) (nr : Near X A) (I : Inv X pins σ H s) (h : Slp g out 0 a gn fp Hm s) (e3 : Ext3 Hm H) (hf : ∀ b ∈ a :: fp, FpOk X pins H b) :
    wpAny (model X.prog X.w) A (pyNext (.ref a)) (fun r s1 => r = none ∧ ∃ H1, Inv X pins σ H1 s1 ∧ Ext H H1 ∧ ∀ S, RelS X.kk S H → RelS X.kk S H1) E s := by
  obtain ⟨gs, h1, _, h3⟩ := h.rdy
  have En := hx.en nr I h hf
  have go := h3 ⟨A.in1, X.stack, s.setGen gn .running, H, fp⟩ rfl En (fun b hb o eo => eo) e3
  rw [hx.P, hx.w] at go
  refine next_gk nr.hd I.nolimit (by have := hx.room.dp; have := nr.dp; show A.depth < _; omega) h.isg h1 go (fun e s1 q => post_quiet q) (fun v gd l k c p fs s1 hp => ?_) fun r s1 hp => ?_
  · obtain ⟨ee, _⟩ := hp
    cases ee
  · obtain ⟨ee, H1, ex⟩ := hp
    cases ee
    refine ⟨rfl, fun h' hk => ⟨rfl, H1, ?_, ex.ext, fun S => ex.rel _ S⟩⟩
    have I1 := inv_out hx I hf ex
    have I2 : Inv X pins σ H1 (s1.setGen gn .finished) := ⟨I1.ok, I1.os, allBare_setGen ex.bare rfl, I1.base, I1.loc, I1.cell, I1.free, I1.freeC, I1.pin, I1.hok, I1.len⟩
    exact I2.kept (t' := s1.toks) hk
end Sv
set_option maxHeartbeats 1000000
set_option autoImplicit false
namespace Sv
open PySem PySem.Spec PyProof.Rows L2 Sz GenW
/-- a generator's call: all that it will hand out -/
abbrev DTGi := Env → Sto → (List D → Sto → Prop) → Prop
structure PGi (X : Cx) (e : Expr) (t : DTGi) : Prop where
  run : ∀ (pins : List (Addr × Obj)) (s : Shared) (σ : L2.St) (H : Hp) (env : Env) (S : Sto) (R : List D → Sto → Prop), Inv X pins σ H s → RS X.kk σ H env S → t env S R →
    wpAny (model X.prog X.w) X.A (eval e X.env) (fun u s' => ∃ g out a gn S' H', u = .ref a ∧ Host g X ∧ Inv X pins σ H' s' ∧ RelS X.kk S' H' ∧ Ext H H' ∧ Slp g out out.length a gn [g.L] H' s' ∧ (∀ b ∈ [a, g.L], FpOk X pins H' b) ∧ R out S') X.xe s
variable {X : Cx} {pos : Pos}
end Sv
set_option maxHeartbeats 1000000
set_option autoImplicit false
namespace Sv
open PySem PySem.Spec PyProof.Rows L2 Sz GenW
def dGf (n : Nat) (B : DTGn) (ds out : List D) : Prop := B { nx := fun o _ _ => o = out, rt := fun o d _ => d = .non ∧ o = out, yl := ylF out } [] (dStart n ds) (fun _ => none)
/-- what a generator's code was made of -/
structure GP.Is (g : GP) (P : Program) (w : World) (K : PySem.W.Frag) (mg : Str → Option Value) (base : Heap) (N : List Str) (x : Str) (sc : Scope) (f : Addr) (k : Nat) : Prop where
  P : g.P = P
  w : g.w = w
  K : g.K = K
  mg : g.mg = mg
  base : g.base = base
  N : g.N = N
  qual : g.qual = x
  scope : g.scope = sc
  f : g.f = f
  k : g.k = k
/-- with a star behind m parameters -/
def dGfS (m N : Nat) (B : DTGn) (ds out : List D) : Prop := m ≤ ds.length ∧ ds.length ≤ 1000 ∧ dGf N B (ds.take m ++ [.wtup (ds.drop m)]) out
structure GMk (P : Program) (w : World) (K : PySem.W.Frag) (mg : Str → Option Value) (base : Heap) (k : Nat) (f : Addr) (r : List D → List D → Prop) : Prop where
  run : ∀ (X : Cx) (pins : List (Addr × Obj)) (s : Shared) (σ : L2.St) (H : Hp) (us : List Value) (vs : List V) (ds out : List D) (E : Value → Shared → Prop), X.prog = P → X.w = w → X.K = K → X.mg = mg → X.base = base → X.calm = true → Room (k + 2) X.A → Inv X pins σ H s → Vals vs us → RDs X.kk H ds vs → r ds out →
    wpAny (model X.prog X.w) X.A (call (.ref f) us) (fun u s' => ∃ g a gn H', u = .ref a ∧ Host g X ∧ Inv X pins σ H' s' ∧ Ext H H' ∧ (∀ S, RelS X.kk S H → RelS X.kk S H') ∧ Slp g out out.length a gn [g.L] H' s' ∧ ∀ b ∈ [a, g.L], FpOk X pins H' b) E s
theorem rs_dstart {K : KK} {H : Hp} {S : Sto} {ds : List D} {vs : List V} {N : List Str} (r : RDs K H ds vs) (s : RelS K S H) : RS K (start N vs) H (dStart N.length ds) S := rs_start r s
theorem inv_guard {g : GP} {w : Wk} {σ : L2.St} (G : g.Ok) (E : En g w) (loc : ∃ m, w.s.heap.Ns g.L m ∧ ∀ (i : Nat) (x : Str) (v : V), g.N[i]? = some x → σ[i]? = some (some v) → Vis g.env.scope x → ∃ u, RelV v u ∧ Look g.env w.s.heap m x u) (hl : σ.length = g.N.length) :
    Inv (g.cx w) [] σ (guardH g.L w) w.s := by
  have nc : ∀ x c, (g.cx w).env.cells.lookup x = some c → False := fun x c h => by rw [cx_env E] at h; exact no_cells G x c h
  refine ⟨cx_ok G E, rfl, E.e0.bare, ⟨fun b o e n hf hx => ?_, fun b o e n hf hx => ?_, fun b o e n hx => n, fun b o e hx => ?_, fun b xs h => h, fun b o u h => h, fun b ps h => ⟨#[], by rw [show guardH g.L w b = _ from h]; simp⟩⟩, ?_, fun x c h => (nc x c h).elim, ?_, fun x c h => (nc x c h).elim, fun p hp => ?_, fun b u q => ?_, hl⟩
  · exact (cutS_get (cutS_lt e)).symm.trans e
  · exact ⟨o.slots, (cutS_get (cutS_lt e)).symm.trans e⟩
  · exact ⟨o, (cutS_get (cutS_lt e)).symm.trans e⟩
  · obtain ⟨m, q, r⟩ := loc
    refine ⟨m, by rw [cx_env E]; exact q, fun i x v h1 h2 h3 => ?_⟩
    rw [cx_env E] at h3 ⊢
    exact r i x v h1 h2 h3
  · have eL : (g.cx w).env.locals = g.L := by rw [cx_env E]; rfl
    rw [eL]
    exact guard_fp E E.fpL
  · exact absurd (show p ∈ ([] : List (Addr × Obj)) from hp) (by simp)
  · rcases guard_cases q with z | ⟨_, _, _, o, eo, rfl⟩
    · obtain ⟨z1, z2⟩ := immH_some.mp z
      exact immOk z2 (E.e0.hok b u z1) fun o e => e
    · exact ⟨eo, eo, ⟨o, eo⟩, fun h1 h2 p st => st _ p⟩
theorem out_guard {g : GP} {w : Wk} {b : Addr} {u : HO} (k : keepO u = true) (h : outH w (guardH g.L w) b = some u) : w.H b = some u := by
  cases e : w.H b with
  | none =>
    rw [outH_imm fun v hv => by rw [e] at hv; cases hv] at h
    have := guard_keep k (immH_some.mp h).1
    rw [e] at this
    cases this
  | some v =>
    cases hi : immO v with
    | true =>
      rw [outH_imm fun v' hv => by rw [e] at hv; cases hv; exact hi] at h
      rw [← e]
      exact guard_keep k (immH_some.mp h).1
    | false =>
      rw [outH_hid e hi] at h
      exact h
section
variable {P : Program} {w : World} {K : PySem.W.Frag} {mg : Str → Option Value} {base : Heap}
theorem gmk_core {x : Str} {st : Stmt} {f : Addr} {fd : FuncData} {N ps : List Str} {k : Nat} {B : DTGn} {X : Cx} {pins : List (Addr × Obj)} {σ : L2.St} {H0 : Hp} {s0 : Shared} {us0 : List Value} {out : List D} {E : Value → Shared → Prop} (F : Fun K x x st f fd) (S : GScope N ps (defScope st)) (noc : ∀ y ∈ (defScope st).names, y.2 = .cell → False)
    (hin : ∀ L cdv, interactive (envOfC x (defScope st) L f cdv) = false) (hbody : ∀ g : GP, g.Is P w K mg base N x (defScope st) f k → g.Ok → ∀ out, DJs g out (defBody st) B)
    (hP : X.prog = P) (hw : X.w = w) (hK : X.K = K) (hmg : X.mg = mg) (hbase : X.base = base) (hcalm : X.calm = true) (hr : Room (k + 2) X.A) (I0 : Inv X pins σ H0 s0)
    (hbind : ∀ (Q : List (Str × Value) → Shared → Prop) (E : Value → Shared → Prop), (∀ us vs ds H s, Inv X pins σ H s → Ext H0 H → (∀ S, RelS X.kk S H0 → RelS X.kk S H) → Vals vs us → RDs X.kk H ds vs → ds.length = ps.length → dGf N.length B ds out → Q (ps.zip us) s) → wpAny (model P w) X.A.in1 (bindArgs fd ⟨us0, []⟩) Q E s0) :
    wpAny (model X.prog X.w) X.A (call (.ref f) us0) (fun u s' => ∃ g a gn H', u = .ref a ∧ Host g X ∧ Inv X pins σ H' s' ∧ Ext H0 H' ∧ (∀ S, RelS X.kk S H0 → RelS X.kk S H') ∧ Slp g out out.length a gn [g.L] H' s' ∧ ∀ b ∈ [a, g.L], FpOk X pins H' b) E s0 := by
  obtain ⟨oc, od, kV, doc, pm, an, cdv, ct, osl, rfl, lk, hcd⟩ := F.ex
  have KX0 : K.In s0.heap := by have := I0.kIn; rw [hK] at this; exact this
  refine wpAny_call ?_
  rw [hP, hw]
  refine codeAny_call_generator (by have := hr.dp; show X.A.depth < _; omega) (KX0 _ _ lk) rfl S.co S.gen rfl (PySem.W.codeRec_of KX0 hcd) (hbind _ _ fun us vs ds H s I ext0 rel0 r rd hlen hq => ?_)
  have e0 := I.env0
  rw [hP, hw, hK, hmg, hbase] at e0
  have hl : vs.length = ps.length := by rw [← rd.length, hlen]
  have KX : K.In s.heap := e0.mod.kin.keeps fun b o e => (e0.bs b o e).1
  have lim : s.heap.NoLimit := e0.mod.nolimit.keeps fun b o e => (e0.bs b o e).1
  have hkind : ∀ y ∈ ps.zip us, (defScope st).names.lookup y.1 = some .local ∨ ((defScope st).names.lookup y.1 = some .cell ∧ ((cellsFrom (s.heap.objs.size + 1) (defScope st).names []).lookup y.1).isSome = true) := fun ⟨n, v⟩ hy => by
    rcases S.par n (List.of_mem_zip hy).1 with q | q
    · exact .inl q
    · exact .inr ⟨q, PySem.W.cellsFrom_some _ _ _ (.inl q)⟩
  refine wpAny_newFunctionEnv_cells S.kind hkind fun env he s1 x1 => ?_
  subst he
  have lim1 : s1.heap.NoLimit := lim.keeps x1.toInCall.keep
  refine ⟨lim1, ?_⟩
  obtain ⟨h1, tk, es1, hk1⟩ := x1.done
  have os1 : s1.os = s.os := by rw [es1]
  have gen1 : s1.gens = s.gens := by rw [es1]
  have lt1 : s.heap.objs.size < s1.heap.objs.size := x1.toInCall.ns.lt
  have kp1 : ∀ b o, s.heap.get? b = some o → s1.heap.get? b = some o := x1.toInCall.keep
  have main : ∀ (go : Obj) (nm qn : Value) (tk2 : Nat), go.cls = .type "generator" → go.data = .fields #[.int s1.gens.size 0, nm, qn] → go.slots = #[] → (∀ h : Heap, (h.push go).get? h.objs.size = some go) →
      ∃ g a gn H', (Value.ref s1.heap.objs.size) = .ref a ∧ Host g X ∧ Inv X pins σ H' { s1 with gens := s1.gens.push (.fresh (.func (defBody st) (envOfC x (defScope st) s.heap.objs.size f cdv))), toks := tk2, heap := s1.heap.push go } ∧ Ext H0 H' ∧ (∀ S, RelS X.kk S H0 → RelS X.kk S H') ∧
        Slp g out out.length a gn [g.L] H' { s1 with gens := s1.gens.push (.fresh (.func (defBody st) (envOfC x (defScope st) s.heap.objs.size f cdv))), toks := tk2, heap := s1.heap.push go } ∧ ∀ b ∈ [a, g.L], FpOk X pins H' b := by
    intro go nm qn tk2 hgc hgd0 hgs hgp
    let s2 : Shared := { s1 with gens := s1.gens.push (.fresh (.func (defBody st) (envOfC x (defScope st) s.heap.objs.size f cdv))), toks := tk2, heap := s1.heap.push go }
    have kp : ∀ b o, s.heap.get? b = some o → (s1.heap.push go).get? b = some o := fun b o e => Heap.get?_push_of_some _ (kp1 b o e)
    have hb' : AllBare (s1.gens.push (.fresh (.func (defBody st) (envOfC x (defScope st) s.heap.objs.size f cdv)))) := AllBare.push (by rw [gen1]; exact e0.bare) rfl
    have I1 : Inv X pins σ H s2 :=
      I.call' (ch := []) os1 (Un.kept kp) (I.hok.kept kp) hb' fun b z => by simp at z
    let g : GP := ⟨P, w, K, mg, base, N, x, defScope st, f, cdv, s.heap.objs.size, k⟩
    have hG : g.Ok := ⟨S.kind, noc, S.nofree, S.co, hin _ _, e0.bsz⟩
    have frL : ∀ b ∈ frs X.stack, b < s.heap.objs.size := fun b hb => by
      obtain ⟨_, o, ho, _⟩ := I.stack.mem hb
      exact Heap.lt_size ho
    have hx : Host g X := ⟨hP.symm, hw.symm, hK.symm, hmg.symm, hbase.symm, I.sz, frL, hcalm, hr⟩
    have e1 := I1.env0
    rw [hP, hw, hK, hmg, hbase] at e1
    have E0 : En g ⟨X.A, X.stack, s2, H, [g.L]⟩ := by
      refine ⟨e1, ⟨hr.hd, ?_, ?_⟩, frL, ?_, List.mem_singleton_self _, fun b hb => ?_⟩
      · have := hr.dp
        show X.A.depth + 1 + 3 * k + 5 < _
        omega
      · have := hr.un
        show X.A.units + 3 + 16 * k + 200 < _
        omega
      · show s.heap.objs.size < (s1.heap.push go).objs.size
        rw [Heap.size_push]; exact Nat.lt_succ_of_lt lt1
      · rw [List.mem_singleton.mp hb]
        exact ⟨I.hok.fresh (Nat.le_refl _), Nat.le_refl _⟩
    have IG := inv_startG (P := P) (w := w) (K := K) (mg := mg) (base := base) (f := f) (cd := cdv) (E := fun _ _ _ => False) S (by exact hr.hd) e0 hl r x1
    have IW : Inv (g.cx ⟨X.A, X.stack, s2, H, [g.L]⟩) [] (start N vs) (guardH g.L ⟨X.A, X.stack, s2, H, [g.L]⟩) s2 := by
      refine inv_guard (w := ⟨X.A, X.stack, s2, H, [g.L]⟩) hG E0 ?_ IG.len
      obtain ⟨m, q, rr⟩ := IG.loc
      refine ⟨m, q.push go, fun i y v h1 h2 h3 => ?_⟩
      obtain ⟨u, ru, l⟩ := rr i y v h1 h2 h3
      refine ⟨u, ru, ?_⟩
      rcases l with l | ⟨_, c, e, _⟩
      · exact .inl l
      · exact (no_cells hG y c e).elim
    have kk : X.kk = g.kk := by show (⟨X.prog, X.w, X.K⟩ : KK) = ⟨P, w, K⟩; rw [hP, hw, hK]
    have AW : AtG g ⟨X.A, X.stack, s2, H, [g.L]⟩ [] (start N vs) _ _ (dStart N.length ds) (fun _ => none) := ⟨E0, IW, .refl _, rs_dstart (by rw [← kk]; exact rd.ext3 ext3_guard) (fun a o h => nomatch h), fun p hp => by simp at hp⟩
    have hgen : (s1.heap.push go).IsGen s1.heap.objs.size s1.gens.size := ⟨go, nm, qn, hgp _, hgc, hgd0, hgs⟩
    have hne : s1.heap.objs.size ≠ s.heap.objs.size := Nat.ne_of_gt lt1
    refine ⟨g, s1.heap.objs.size, s1.gens.size, H, rfl, hx, I1, ext0, rel0, ⟨hgen, fun z => hne (List.mem_singleton.mp z), List.mem_singleton_self _, fun b hb => ?_, _, Array.getElem?_push_size .., fun z => absurd z (Nat.lt_irrefl _), fun w' hf En' hkp x' => ?_⟩, fun b hb => ?_⟩
    · rw [List.mem_singleton.mp hb]
      obtain ⟨m, ⟨ob, es, ep, e, d, _⟩, _⟩ := loc_at AW
      exact ⟨Nat.le_refl _, ob, e, fun v z => by rw [d] at z; cases z⟩
    · have own0 : ownFp g.L [] (fun _ => none) s2 = [g.L] := by
        unfold ownFp
        have : (List.range (s1.heap.push go).objs.size).filter (fun b => (keepLD (fun _ => none) b).isSome) = [] := List.filter_eq_nil_iff.mpr fun b _ z => nomatch z
        show g.L :: ([] ++ (List.range (s1.heap.push go).objs.size).filter (fun b => (keepLD (fun _ => none) b).isSome)) = _
        rw [this]
        rfl
      obtain ⟨B1, _⟩ := reenter hG AW En' (hf.trans own0.symm) (fun b hb => hkp b (hf ▸ hb)) fun b u kq h => x' b u kq (out_guard kq h)
      refine ⟨rfl, sg_func ?_⟩
      have hj := hbody g ⟨rfl, rfl, rfl, rfl, rfl, rfl, rfl, rfl, rfl, rfl⟩ hG out
      refine hj.run w' [] (start N vs) _ w'.s (dStart N.length ds) _ [] _ [] _ _ id id _ ⟨fun A => over_func, rfl, rfl, rfl⟩ B1 ⟨out, rfl⟩ rfl ⟨fun fl w2 σ2 H2 s3 env2 S2 ds2 A2 _ _ q => ?_⟩ hq
      have fin : ds2 = out → ∀ u, u = Value.none → Sg (model P w) w2.A (PostN g out (out.length - ds2.length) w2) (.func (defBody st) g.env) (.pure (.done (.ret u))) [] s3 := fun hd u hu => by
        subst hd
        subst hu
        rw [Nat.sub_self]
        have ex := exit_of A2
        exact sg_end (.ok (.ret .none)) ⟨rfl, _, ex.os, ex.bare, ex.dead, ex.un, ex.ok, ex.ext, ex.rel, fun b hb => by simp at hb⟩
      cases fl with
      | next => exact fin q _ rfl
      | brk => exact q.elim
      | cont => exact q.elim
      | ret u =>
        obtain ⟨d, v, ⟨rfl, q⟩, rd, rv⟩ := q
        cases rd
        exact fin q _ rv
    · rcases List.mem_cons.mp hb with rfl | hb
      · exact I.fpOk (Nat.le_of_lt lt1) (I.hok.fresh (Nat.le_of_lt lt1))
      · rw [List.mem_singleton.mp hb]
        exact I.fpOk (Nat.le_refl _) (I.hok.fresh (Nat.le_refl _))
  exact main _ _ _ _ rfl rfl rfl fun h => Heap.get?_push_size _ rfl
theorem gmk_star {x : Str} {st : Stmt} {f : Addr} {fd : FuncData} {N ps : List Str} {pv : Str} {k m : Nat} {B : DTGn} (F : Fun K x x st f fd) (S : GScope N (ps ++ [pv]) (defScope st)) (hb : BSt fd ps pv) (hm : ps.length = m) (noc : ∀ y ∈ (defScope st).names, y.2 = .cell → False)
    (hin : ∀ L cdv, interactive (envOfC x (defScope st) L f cdv) = false) (hbody : ∀ g : GP, g.Is P w K mg base N x (defScope st) f k → g.Ok → ∀ out, DJs g out (defBody st) B) :
    GMk P w K mg base k f (dGfS m N.length B) := by
  refine ⟨fun X pins s σ H us vs ds out E hP hw hK hmg hbase hcalm hr I r rd hq => gmk_core F S noc hin hbody hP hw hK hmg hbase hcalm hr I fun Q E h => ?_⟩
  obtain ⟨h1, h2, q⟩ := hq
  have hl := rd.length
  have r0 : Vals (vs.take m ++ vs.drop m) us := by rw [List.take_append_drop]; exact r
  obtain ⟨u1, u2, eu, r1, r2⟩ := StX.vals_split r0
  subst eu
  have hl1 : u1.length = ps.length := by rw [← r1.length, List.length_take, hm]; omega
  have hz : (vs.drop m).length ≤ sizeLine := by rw [List.length_drop]; exact Nat.le_trans (by omega : vs.length - m ≤ 1000) (by decide)
  have hl2 : u2.length ≤ sizeLine := by rw [← r2.length]; exact hz
  rw [hb u1 u2 hl1]
  refine wpAny_bind (wpAny_newTuple (wpAny_pure ?_) hl2)
  have hn : H s.heap.objs.size = none := I.hok.fresh (Nat.le_refl _)
  have I2 : Inv X pins σ (upd H s.heap.objs.size (.tup (vs.drop m))) { s with heap := s.heap.push ({ cls := .type "tuple", data := .seq u2.toArray } : Obj) } :=
    I.laid (t' := s.toks) (o := .tup (vs.drop m)) (fun b ob q => Heap.get?_push_of_some _ q) (Nat.le_refl _) ⟨hz, u2, r2, ⟨_, Heap.get?_push_size _ rfl, rfl, _, rfl⟩⟩
  have e : Ext H (upd H s.heap.objs.size (.tup (vs.drop m))) := .new hn
  have z := h (u1 ++ [Value.ref s.heap.objs.size]) (vs.take m ++ [V.ref s.heap.objs.size]) (ds.take m ++ [.wtup (ds.drop m)]) _ _ I2 e (fun S h => h.new hn) (r1.append (.cons rfl .nil))
    (((rd.take m).ext e).append (.cons (.wtup upd_same ((rd.drop m).ext e)) .nil)) (by rw [List.length_append, List.length_append, List.length_take, hm]; simp; omega) q
  rw [List.zip_append hl1.symm] at z
  exact z
/-- a generator def by its name -/
structure DGf (P : Program) (w : World) (K : PySem.W.Frag) (mg : Str → Option Value) (base : Heap) (k : Nat) (x : Str) (r : List D → List D → Prop) : Prop where
  ex : ∃ f : Addr, GMk P w K mg base k f r ∧ mg x = some (.ref f) ∧ PySem.W.keepIn K (.ref f) = true
end
/-- the call of a generator def -/
def dGenC (r : List D → List D → Prop) (ta : DTA) : DTGi := fun env S R => ta env S fun ds S1 => ∃ out, r ds out ∧ R out S1
theorem pgi_call {X : Cx} {e : Expr} {es : List Expr} {tl : DTA} {k : Nat} {r : List D → List D → Prop} {x : Str} {p pos' : Pos} (F : DGf X.prog X.w X.K X.mg X.base k x r) (hc : X.calm = true) (hr : Room (k + 2) X.A) (hg : Gl X x) (ha : DA X (e :: es) tl)
    (hdb : (x == ("__debug__" : Str)) = false := by decide) (he : starEach (e :: es) X.env = (false, eval e X.env) :: starEach es X.env := by rfl) (hpl : (backTo pos' (starEach es X.env)).any (·.1) = false := by rfl) :
    PGi X (.Call (.Name x p) (e :: es) [] pos') (dGenC r tl) := by
  obtain ⟨f, M, hm, hk⟩ := F.ex
  refine ⟨fun pins s σ H env S R I rs h => ?_⟩
  refine wpAny_Call_Name_kw (ld_glob I hg hm ?_ hdb)
  refine PySem.W.callWith_K (h₀ := X.base) I.ok.mod.kin hk (thn (ha.run.run pos' pins s σ H (fun vs H' => ∃ ds S', RelS X.kk S' H' ∧ RDs X.kk H' ds vs ∧ Ext H H' ∧ ∃ out, r ds out ∧ R out S') I
    ⟨env, S, _, rs, h, fun ds S' vs H' q s1 r1 e1 => ⟨ds, S', s1, r1, e1, q⟩⟩) fun us s1 ⟨vs, H1, I1, r1, ds, S1, s1', rd, e1, out, hq, hR⟩ => ⟨I1.kIn, ?_⟩) he hpl
  exact thn (M.run X pins s1 σ H1 us vs ds out X.xe rfl rfl rfl rfl rfl hc hr I1 r1 rd hq) fun u s2 ⟨g, a, gn, H2, hu, hx, I2, e2, hS, sl, fa⟩ => ⟨g, out, a, gn, S1, H2, hu, hx, I2, hS _ s1', e1.trans e2, sl, fa, hR⟩
end Sv
set_option maxHeartbeats 1000000
set_option autoImplicit false
namespace Sv
open PySem PySem.Spec PyProof.Rows L2 Sz GenW
variable {g : GP} {out : List D} {n gn : Nat} {a S : Addr} {fp : List Addr} {Hm : Hp} {X : Cx} {pins : List (Addr × Obj)} {σ : L2.St} {H : Hp} {s s' : Shared}
theorem pin_fp {acc : Array Value} {c : Nat} (I : Inv X ((S, lstObj acc c) :: pins) σ H s) (h0 : X.s_0.heap.objs.size ≤ S) (hp : ∀ p ∈ X.pn ++ pins, p.1 ≠ S) : FpOk X pins H S := by
  obtain ⟨q1, q2, q3, q4, _⟩ := I.pin (S, lstObj acc c) (List.mem_append_right _ List.mem_cons_self)
  refine ⟨q2, q3, q4, .inr h0, fun x c' e z => ?_, hp⟩
  obtain ⟨v, o, ho, hd⟩ := I.cell x c' e
  rw [z, q1] at ho
  cases ho
  cases hd
theorem repin {acc : Array Value} {c : Nat} {v : Value} (I : Inv X ((S, lstObj acc c) :: pins) σ H s) (h0 : X.s_0.heap.objs.size ≤ S) (hp : ∀ p ∈ X.pn ++ pins, p.1 ≠ S) :
    ∃ c', Inv X ((S, lstObj (acc.push v) c') :: pins) σ H { s with heap := s.heap.update S (Obj.mapSeq (·.push v)) } ∧ (s.heap.update S (Obj.mapSeq (·.push v))).get? S = some (lstObj (acc.push v) c') := by
  obtain ⟨q1, q2, q3, q4, _⟩ := I.pin (S, lstObj acc c) (List.mem_append_right _ List.mem_cons_self)
  have f := pin_fp I h0 hp
  have I0 : Inv X pins σ H s := I.pins_of fun p hp => I.pin p (List.mem_append_right _ (List.mem_cons_of_mem _ hp))
  have e := Heap.get?_update_self (Obj.mapSeq (·.push v)) q1 rfl
  have I1 := I0.turned (t' := s.toks) (it := S) (h' := s.heap.update S (Obj.mapSeq (·.push v))) (fun b o hb e => (Heap.get?_update_other _ _ (Ne.symm hb)).trans e) q2 q3 (.inr h0) f.2.2.2.2.1 hp
  refine ⟨_, I1.pins_of fun p hp' => ?_, e⟩
  rcases List.mem_cons.mp hp' with z | z
  · rw [z]
    exact ⟨e, q2, q3, q4, fun v z => by cases z⟩
  · exact I1.pin p (List.mem_append_right _ z)
theorem drainK {A : Around} {res : Value} {R : Result → Shared → Prop} (hx : Host g X) (nr : Near X A.in1) (h0 : X.s_0.heap.objs.size ≤ S) (hp : ∀ p ∈ X.pn ++ pins, p.1 ≠ S) (hle : out.length ≤ 1000000) {H0 : Hp}
    (hend : ∀ s' H' acc c vs, Inv X ((S, lstObj acc c) :: pins) σ H' s' → RDs X.kk H' out vs → Vals vs acc.toList → Ext H0 H' → (∀ S, RelS X.kk S H0 → RelS X.kk S H') → R (.ok (.ret res)) s') :
    ∀ (n : Nat) (s : Shared) (H Hm : Hp) (fp : List Addr) (acc : Array Value) (c : Nat) (vs : List V), n ≤ out.length → Inv X ((S, lstObj acc c) :: pins) σ H s → Slp g out n a gn fp Hm s → Ext3 Hm H → (∀ b ∈ a :: fp, FpOk X ((S, lstObj acc c) :: pins) H b) →
      RDs X.kk H (out.take (out.length - n)) vs → Vals vs acc.toList → Ext H0 H → (∀ S, RelS X.kk S H0 → RelS X.kk S H) →
      codeAny (model X.prog X.w) A (.builtin "list.extend.loop" ⟨[.ref S, .ref a, res], []⟩) R s := by
  intro n
  induction n with
  | zero =>
    intro s H Hm fp acc c vs hn I sl e3 hf rd rv e0 hS
    refine codeAny_builtin F.entry_extend_loop ?_
    rw [Around.under_plainId F.plain_extend_loop _]
    show wpAny _ A.in1 (pyNext (.ref a) >>= _) _ _ s
    refine wpAny_bind (thn (wake_done hx nr I sl e3 hf) fun r s1 ⟨hr, H1, I1, e1, hS1⟩ => ?_)
    subst hr
    rw [Nat.sub_zero, List.take_length] at rd
    exact wpAny_pure (hend s1 H1 acc c vs I1 (rd.ext e1) rv (e0.trans e1) fun S h => hS1 S (hS S h))
  | succ n ih =>
    intro s H Hm fp acc c vs hn I sl e3 hf rd rv e0 hS
    refine codeAny_builtin F.entry_extend_loop ?_
    rw [Around.under_plainId F.plain_extend_loop _]
    show wpAny _ A.in1 (pyNext (.ref a) >>= _) _ _ s
    refine wpAny_bind (thn (wake_item hx nr I sl e3 hf (by omega)) fun r s1 ⟨u, hr, d, x, H1, fp', hd, rx, rdx, I1, e1, hS1, sl1, f1⟩ => ?_)
    subst hr
    show wpAny _ A.in1 (updateSeq S (·.push u) >>= _) _ _ _
    have q1 := (I1.pin (S, lstObj acc c) (List.mem_append_right _ List.mem_cons_self)).1
    have hsz : acc.size = out.length - (n + 1) := by
      have h1 := rv.length
      have h2 := rd.length
      rw [List.length_take] at h2
      have h3 : acc.toList.length = acc.size := by simp
      omega
    refine wpAny_bind ?_
    have mil : (1000000 : Nat) ≤ sizeLine := by decide
    refine wpAny_updateSeq q1 rfl (wpAny_pure ⟨plainId_quiet F.plain_extend_loop _, ?_⟩) (by rw [hsz]; omega) (by show (acc.push u).size ≤ sizeLine + 1; rw [Array.size_push, hsz]; omega)
    obtain ⟨c', I2, q2⟩ := repin (v := u) I1 h0 hp
    have hSa : ∀ b ∈ a :: fp', S ≠ b := fun b hb => (f1 b hb).2.2.2.2.2 (S, lstObj acc c) (List.mem_append_right _ List.mem_cons_self)
    refine ih _ H1 H1 fp' (acc.push u) c' (vs ++ [x]) (by omega) I2 (sl1.keep (by omega) (fun b hb o e => (Heap.get?_update_other _ _ (hSa b hb)).trans e) fun _ _ e _ => e) (.refl _) (fun b hb => ?_) ?_ ?_ (e0.trans e1) fun S h => hS1 S (hS S h)
    · obtain ⟨z1, z2, z3, z4, z5, z6⟩ := f1 b hb
      refine ⟨z1, z2, z3, z4, z5, fun p hp' => ?_⟩
      rcases List.mem_append.mp hp' with z | z
      · exact z6 p (List.mem_append_left _ z)
      · rcases List.mem_cons.mp z with z | z
        · rw [z]; exact hSa b hb
        · exact z6 p (List.mem_append_right _ (List.mem_cons_of_mem _ z))
    · have : out.length - n = out.length - (n + 1) + 1 := by omega
      rw [this, List.take_add_one, hd]
      exact (rd.ext e1).append (.cons rdx .nil)
    · rw [Array.toList_push]
      exact rv.append (.cons rx .nil)
/-- list(g) -/
theorem call_listK {E : Value → Shared → Prop} {Q' : Value → Shared → Prop} (hx : Host g X) (I : Inv X pins σ H s) (sl : Slp g out out.length a gn fp H s) (hf : ∀ b ∈ a :: fp, FpOk X pins H b) (hle : out.length ≤ 1000000)
    (hQ : ∀ S s' H' vs, H' S = none → Inv X pins σ (upd H' S (.lst vs)) s' → RDs X.kk H' out vs → Ext H H' → (∀ S, RelS X.kk S H → RelS X.kk S H') → Q' (.ref S) s') :
    wpAny (model X.prog X.w) X.A (call (.type "list") [.ref a]) Q' E s := by
  have hl := I.nolimit
  have hr := hx.room
  obtain ⟨go, gnm, gqn, gho, ghc, ghd, ghs⟩ := id sl.isg
  have ha2 : a < s.heap.objs.size := Heap.lt_size gho
  have hSa : s.heap.objs.size ≠ a := Nat.ne_of_gt ha2
  refine callType_codes (Q₁ := fun obj s₁ => obj = .ref s.heap.objs.size ∧ s₁ = { s with heap := s.heap.push { cls := .type "list", data := .seq #[] } }) F.called_list (F.typeCall_list_1 _) F.entry_list_init
    (code_list_new _ ⟨rfl, rfl⟩) fun obj s₁ h₁ => ?_
  obtain ⟨rfl, rfl⟩ := h₁
  have hS : (s.heap.push { cls := .type "list", data := .seq #[] }).get? s.heap.objs.size = some { cls := .type "list", data := .seq #[] } := Heap.get?_push_size _ rfl
  refine ⟨⟨_, hS, rfl⟩, F.args_list_init_2 _ _, ?_⟩
  show wpAny _ X.A.in1.in1 (do let old ← Builtin.List.listItems (.ref s.heap.objs.size); Builtin.List.listUpdate (.ref s.heap.objs.size) (fun _ => #[]); letGo old.toList.reverse; Builtin.List.listExtendWith (.ref s.heap.objs.size) (.ref a) .none) _ _ _
  refine wpAny_bind ?_
  unfold Builtin.List.listItems
  refine wpAny_bind (wpAny_seqItems hS rfl (wpAny_pure ?_))
  show wpAny _ X.A.in1.in1 (updateSeq s.heap.objs.size (fun _ => #[]) >>= fun _ => letGo (#[] : Array Value).toList.reverse >>= fun _ => Builtin.List.listExtendWith (.ref s.heap.objs.size) (.ref a) .none) _ _ _
  refine wpAny_bind (wpAny_updateSeq hS rfl ?_)
  have hS2 := Heap.get?_update_self (Obj.mapSeq (fun _ => (#[] : Array Value))) hS rfl
  refine wpAny_bind (wpAny_letGo ?_)
  unfold Builtin.List.listExtendWith
  have up : ∀ (h : Heap) (f : Obj → Obj), (∀ b o, s.heap.get? b = some o → h.get? b = some o) → ∀ b o, s.heap.get? b = some o → (h.update s.heap.objs.size f).get? b = some o := fun h f q b o e =>
    (Heap.get?_update_other _ _ (Ne.symm (Nat.ne_of_lt (Heap.lt_size e)))).trans (q b o e)
  have k1 : ∀ b o, s.heap.get? b = some o → (s.heap.push { cls := .type "list", data := .seq #[] }).get? b = some o := fun b o e => Heap.get?_push_of_some _ e
  have k2 := up _ (Obj.mapSeq (fun _ => (#[] : Array Value))) k1
  have gty : ∀ {h : Heap}, (∀ b o, s.heap.get? b = some o → h.get? b = some o) → h.IsGen a gn := fun {h} q => sl.isg.keeps q
  refine wpAny_bind (wpAny_typeOf (Heap.IsGen.typeIs (s := { s with heap := _ }) (gty k2)) ?_)
  have h1 : Builtin.List.listSameRef (.ref s.heap.objs.size) (.ref a) = false := by simp [Builtin.List.listSameRef, hSa]
  have h2 : (Value.type "generator" == Value.type "list") = false := by decide
  have h3 : (Value.type "generator" == Value.type "tuple") = false := by decide
  simp only [h1, h2, h3, Bool.or_false, Bool.false_eq_true, if_false]
  refine wpAny_bind (wpAny_pyIter_gen (s := { s with heap := _ }) (gty k2) ?_)
  refine wpAny_bind (wpAny_holding ?_)
  unfold Builtin.List.listLengthHint
  refine wpAny_bind (wpAny_specialOf (Heap.IsGen.typeIs (s := { s with heap := _ }) (gty k2)) F.gen_no_len ?_)
  show wpAny _ X.A.in1.in1 (specialOf (Value.ref a) (Str.ofString "__length_hint__") >>= _) _ _ _
  refine wpAny_bind (wpAny_specialOf (Heap.IsGen.typeIs (s := { s with heap := _ }) (gty k2)) F.gen_no_hint ?_)
  refine wpAny_pure ?_
  show wpAny _ X.A.in1.in1 (rule "list.extend.makes-room" >>= fun _ => Builtin.List.listTouch (.ref s.heap.objs.size) >>= fun _ =>
    again (.builtin "list.extend.loop" ⟨[.ref s.heap.objs.size, .ref a, .none], []⟩)) _ _ _
  refine wpAny_bind (wpAny_rule ?_)
  refine wpAny_bind ?_
  show wpAny _ X.A.in1.in1 (updateSeq s.heap.objs.size (·.push .none) >>= fun _ => updateSeq s.heap.objs.size (·.pop)) _ _ _
  refine wpAny_bind (wpAny_updateSeq hS2 rfl ?_)
  have hS3 := Heap.get?_update_self (Obj.mapSeq (·.push Value.none)) hS2 rfl
  refine wpAny_updateSeq (hz := by seq_fits) hS3 rfl ?_
  have hS4 := Heap.get?_update_self (Obj.mapSeq (·.pop)) hS3 rfl
  have k4 := up _ (Obj.mapSeq (·.pop)) (up _ (Obj.mapSeq (·.push Value.none)) k2)
  refine wpAny_pure ⟨plainId_quiet F.plain_extend_loop _, ?_⟩
  have hpn : ∀ p ∈ X.pn ++ pins, p.1 ≠ s.heap.objs.size := fun p hp => Nat.ne_of_lt (Heap.lt_size (I.pin p hp).1)
  have I4 := I.kept (t' := s.toks) k4
  have hHS : H s.heap.objs.size = none := I.hok.fresh (Nat.le_refl _)
  obtain ⟨c4, hS4'⟩ : ∃ c, (((s.heap.push { cls := .type "list", data := .seq #[] }).update s.heap.objs.size (Obj.mapSeq (fun _ => (#[] : Array Value)))).update s.heap.objs.size (Obj.mapSeq (·.push Value.none)) |>.update s.heap.objs.size (Obj.mapSeq (·.pop))).get? s.heap.objs.size = some (lstObj #[] c) := ⟨_, hS4⟩
  have I5 : Inv X ((s.heap.objs.size, lstObj #[] c4) :: pins) σ H _ := I4.pins_of fun p hp => by
    rcases List.mem_cons.mp hp with z | z
    · rw [z]
      have fS := I.fpOk (H' := H) (Nat.le_refl _) hHS
      exact ⟨hS4', hHS, fS.2.1, fS.2.2.1, fun v z => by cases z⟩
    · exact I4.pin p (List.mem_append_right _ z)
  refine drainK (g := g) (A := X.A.in1) (out := out) (a := a) (gn := gn) (H0 := H) hx ⟨hr.hd, I.ok.frames, by show X.A.depth ≤ _; omega, by show X.A.units + 1 + 1 ≤ _; omega⟩ I.sz hpn hle
    (fun s' H' acc c vs I' rd rv e hS' => ⟨rfl, ?_⟩) out.length _ H H fp #[] c4 [] (Nat.le_refl _) I5 ?slp (.refl _) (fun b hb => ?fpk) (by rw [Nat.sub_self]; exact .nil) .nil (.refl _) fun _ h => h
  case slp =>
    obtain ⟨gs, r1, r2, r3⟩ := sl.rdy
    exact ⟨gty k4, sl.anot, sl.fpL, fun b hb => ⟨(sl.ex b hb).1, let ⟨o, e, d⟩ := (sl.ex b hb).2; ⟨o, k4 b o e, d⟩⟩, gs, r1, r2, fun w' hw En hk x => r3 w' hw En (fun b hb o e => hk b hb o (k4 b o e)) x⟩
  case fpk =>
    obtain ⟨z1, z2, z3, z4, z5, z6⟩ := hf b hb
    refine ⟨z1, z2, z3, z4, z5, fun p hp' => ?_⟩
    rcases List.mem_append.mp hp' with z | z
    · exact z6 p (List.mem_append_left _ z)
    · rcases List.mem_cons.mp z with z | z
      · rw [z]
        rcases List.mem_cons.mp hb with rfl | hb
        · exact hSa
        · obtain ⟨_, o, e, _⟩ := sl.ex b hb
          exact Nat.ne_of_gt (Heap.lt_size e)
      · exact z6 p (List.mem_append_right _ z)
  · obtain ⟨q1, q2, q3, q4, _⟩ := I'.pin (s.heap.objs.size, lstObj acc c) (List.mem_append_right _ List.mem_cons_self)
    have fS := pin_fp I' I.sz hpn
    have I0 : Inv X pins σ H' s' := I'.pins_of fun p hp => I'.pin p (List.mem_append_right _ (List.mem_cons_of_mem _ hp))
    have hlen : vs.length ≤ sizeLine := by rw [← rd.length]; exact Nat.le_trans hle (by decide)
    refine hQ _ s' H' vs q2 (I0.call' (ch := [s.heap.objs.size]) rfl ⟨fun b o e n _ _ => e, fun b o e n _ _ => ⟨o.slots, e⟩, fun b o e n hx => by rw [upd_ne (fun z => hx (List.mem_singleton.mpr z))]; exact n, fun b o e _ => ⟨o, e⟩, fun b xs e => by rw [upd_ne (ne_of_none e q2)]; exact e,
      fun b o u e => by rw [upd_ne (ne_of_none e q2)]; exact e, fun b ps e => ⟨#[], by rw [upd_ne (ne_of_none e q2), e]; simp⟩⟩ (fun b u e => ?_) I0.bare fun b hb => ?_) rd e hS'
    · by_cases hb : b = s.heap.objs.size
      · subst hb
        rw [upd_same] at e
        cases e
        exact ⟨hlen, acc.toList, c, rv, by rw [q1]⟩
      · rw [upd_ne hb] at e
        exact (I0.hok b u e).stay (fun _ _ _ z => z) (fun d z => by rw [upd_ne (ne_of_none z q2)]; exact z) fun d xs z => by rw [upd_ne (ne_of_none z q2)]; exact z
    · rw [List.mem_singleton.mp hb]
      exact ⟨fS.2.2.2.1, fS.2.1, fS.2.2.2.2.1, fS.2.2.2.2.2⟩
def dListK (t : DTGi) : DTE := fun env S R => t env S fun out S1 => out.length ≤ 1000000 ∧ ∀ p, S1 p = none → R (.ref p) (S1.put p (.lst out))
theorem de_listK {X : Cx} {e : Expr} {t : DTGi} {nm : Str} {p2 pos : Pos} (h : PGi X e t) (hgl : Gl X nm) (hmg : X.mg nm = none) (hv : bootBuiltins nm = some (.type "list")) (hnm : nm ≠ "__name__" := by decide) (hdn : (nm == ("__debug__" : Str)) = false := by decide)
    (he : starEach [e] X.env = (false, eval e X.env) :: starEach [] X.env := by rfl) : DE X (.Call (.Name nm p2) [e] [] pos) (dListK t) := by
  refine ⟨⟨fun pins s σ H Q I ⟨env, S, R, rs, hq, k⟩ => ?_⟩⟩
  refine wpAny_Call_Name_kw (ld_blt I hgl hmg hv ?_ hnm hdn)
  refine PyProof.Rows.callWith_type1 ?_ he rfl
  rw [he]
  show wpAny _ _ (spliced ((false, eval e X.env) :: backTo pos (starEach [] X.env))) _ _ s
  refine Calls.spliced_cons (thn (h.run pins s σ H env S _ I rs hq) fun u s1 ⟨g, out, a, gn, S1, H1, hu, hx, I1, s1', e1, sl, fa, hle, hR⟩ => ?_)
  subst hu
  refine Calls.spliced_nil ?_
  refine call_listK hx I1 sl fa hle fun p s2 H2 vs hn I2 rd e2 hS => ?_
  have s2' := hS _ s1'
  exact ⟨.ref p, _, I2, rfl, k _ _ _ _ (hR p (s2'.fresh hn)) (s2'.lay hn ⟨vs, upd_same, rd.ext (.new hn)⟩) (.ref p) (e1.trans (e2.trans (.new hn)))⟩
end Sv
set_option maxHeartbeats 1000000
set_option autoImplicit false
namespace Sv
open PySem PySem.Spec PyProof.Rows L2
theorem En.cv {g : GP} {w : Wk} (E : En g w) : Room g.k (w.A.deeper (envOfC g.qual g.scope (cutS g.L w.s).heap.objs.size g.f g.cdv)) := by rw [cutS_size (Nat.le_of_lt E.lt)]; exact E.room
end Sv
set_option maxHeartbeats 800000
set_option autoImplicit false
namespace Sv
open PySem PySem.Spec PyProof.Rows L2
/-- lo, lo - 1, .. : n of them -/
def dnD (lo : Int) (n : Nat) : List D := (List.range n).map fun i => .int (lo + (i : Nat) * (-1))
theorem steps_down {K : KK} {H0 : Hp} {lo : Int} {n : Nat} : Steps K true H0 (Itc lo (-1) n) ⟨dnD lo n, fun _ => True⟩ := by
  have hl : (dnD lo n).length = n := by simp [dnD]
  refine ⟨fun _ => True, fun i H x H' => i < n ∧ H' = H ∧ x = .int (lo + (i : Nat) * (-1)), ?_, fun _ _ _ _ _ => trivial, ?_⟩
  · rw [hl]
    exact ⟨fun i H hi g => hi, fun H g => Nat.le_refl _, fun i H x H' hi g y => ⟨hi, y⟩⟩
  · rintro i H x H' e ⟨hi, rfl, rfl⟩
    refine ⟨.refl _, fun S s => s, .int (lo + (i : Nat) * (-1)), ?_, .inl (.int _)⟩
    show (dnD lo n)[i]? = _
    rw [dnD, List.getElem?_map, List.getElem?_range hi]
    rfl
def diRevRg (te : DTE) : DTI := fun env S R => te env S fun d S1 => ∃ n : Int, d = .int n ∧ -(2 ^ 62) ≤ n ∧ n < 2 ^ 62 ∧ R ⟨dnD (0 + (((n - 0).toNat : Nat) : Int) - 1) (n - 0).toNat, fun _ => True⟩ S1
theorem di_revRg {X : Cx} {tg e : Expr} {te : DTE} {p p2 pos pos2 : Pos} (hg : Gl X "reversed") (hm : X.mg "reversed" = none) (hg2 : Gl X "range") (hm2 : X.mg "range" = none) (he : DE X e te)
    (hs2 : starEach [e] X.env = (false, eval e X.env) :: starEach [] X.env := by rfl) (hs : starEach [.Call (.Name "range" p2) [e] [] pos2] X.env = (false, eval (.Call (.Name "range" p2) [e] [] pos2) X.env) :: starEach [] X.env := by rfl) :
    DI X true tg (.Call (.Name "reversed" p) [.Call (.Name "range" p2) [e] [] pos2] [] pos) (diRevRg te) := by
  refine ⟨(pi_revR hg hm (prg_1 hg2 hm2 he.run hs2) hs).of fun σ H R ⟨env, S, R0, rs, h, k⟩ => ⟨env, S, _, rs, h, fun d S1 v H1 q s1 r1 e1 => ?_⟩⟩
  obtain ⟨n, rfl, h1, h2, q⟩ := q
  cases r1
  exact ⟨n, rfl, by decide, by decide, h1, h2, k _ _ _ _ q s1 e1 steps_down⟩
end Sv
namespace Sv
open PySem L2
/-- line_after: 0 trips 1 low 2 high 3 line 4 process 5 kept 6 least 7 found -/
def B_line_after_0f35 : DTS := dSeq (dFor (diRevRg (dCB (rLen) (dCons (dVar 3) (dNil)))) (dgName 4) (dIfS (dB (dBin (rCmp fun i j => decide (i < j)) (dBin rIxq (dVar 3) (dVar 4)) (dBin rIxq (dVar 2) (dVar 4)))) (dSeq (dAsg (dSl (dVar 3) (dNoP) (dPart (dVar 4))) (dgName 5))
  (dSeq (dAsg (dBin rAdd (dBin rAdd (dVar 5) (dTup (dCons (dBin rAdd (dBin rIxq (dVar 3) (dVar 4)) (dC (.int 1))) (dNil)))) (dSl (dVar 1) (dPart (dBin rAdd (dVar 4) (dC (.int 1)))) (dNoP))) (dgName 6))
  (dSeq (dAsg (dCall 3 (dFn 6 B_least_between_066e) (dCons (dVar 0) (dCons (dVar 6) (dCons (dBin rAdd (dVar 5) (dSl (dVar 2) (dPart (dVar 4)) (dNoP))) (dNil))))) (dgName 7))
  (dIfS (dB (dNotN (dVar 7))) (dRet (dVar 7)) (dNext))))) (dNext)))
  (dRet (dC .non))
/-- all_lines: 0 history 1 states 2 trips 3 low 4 high 5 line -/
def B_all_lines_b09d : DTGn := dgSeq (dgPlain (dAsg (dCall 1 (dFn 5 B_trips_of_ea9a) (dCons (dVar 0) (dNil))) (dgName 2)))
  (dgSeq (dgPlain (dAsg (dCall 2 (dFn 7 B_limits_with_c088) (dCons (dVar 0) (dCons (dVar 1) (dNil)))) (dUnp 2 (dgCons (dgName 3) (dgCons (dgName 4) (dgNil))))))
  (dgSeq (dgPlain (dAsg (dCall 3 (dFn 6 B_least_between_066e) (dCons (dVar 2) (dCons (dVar 3) (dCons (dVar 4) (dNil))))) (dgName 5)))
  (dgSeq (dgWhile (dB (dNotN (dVar 5))) (dgSeq (dgYield (dVar 5))
  (dgSeq (dgPlain (dAsg (dCall 4 (dFn 8 B_line_after_0f35) (dCons (dVar 2) (dCons (dVar 3) (dCons (dVar 4) (dCons (dVar 5) (dNil)))))) (dgName 5)))
  (dgNext))))
  (dgNext))))
end Sv
set_option autoImplicit false
set_option autoImplicit false
set_option maxHeartbeats 4000000
set_option maxHeartbeats 1000000
set_option autoImplicit false
set_option maxHeartbeats 800000
set_option autoImplicit false
namespace Sv
open PySem L2
/-- is_given: 0 states 1 value 2 part -/
def B_is_given_c32f : DTS := dRet (dAndV (dCB rIsi (dCons (dVar 1) (dCons (dC (.ty "tuple")) (dNil)))) (dAndV (dCB (rAnyq fun bs => bs.all id) (dCons (dLc (diVal (dVar 1)) (dgName 2) (dYes) (dCall 1 (dFn 1 B_is_number_52f5) (dCons (dVar 2) (dNil))) [2]) (dNil))) (dBin (rInq false) (dVar 1) (dVar 0))))
/-- is_line_with: 0 history 1 states 2 value 3 process 4 number -/
def B_is_line_with_b7a8 : DTS := dRet (dAndV (dCall 2 (dFn 5 B_is_line_5402) (dCons (dVar 0) (dCons (dVar 2) (dNil)))) (dAndV (dCall 2 (dFn 2 B_is_consistent_91aa) (dCons (dVar 0) (dCons (dVar 2) (dNil)))) (dCB (rAnyq fun bs => bs.all id) (dCons (dLc (diVal (dVar 1)) (dUnp 2 (dgCons (dgName 3) (dgCons (dgName 4) (dgNil)))) (dYes) (dBin (rEqq false) (dBin rIxq (dVar 2) (dVar 3)) (dVar 4)) [3, 4]) (dNil)))))
/-- verdict_holds: 0 history 1 states 2 value 3 one 4 other 5 messages -/
def B_verdict_holds_e52c : DTS := dSeq (dIfS (dNot (dB (dCB rIsi (dCons (dVar 2) (dCons (dC (.ty "tuple")) (dNil)))))) (dRet (dC (.bl false))) (dNext))
  (dSeq (dIfS (dAnd (dB (dBin (rEqq false) (dCB (rLen) (dCons (dVar 2) (dNil))) (dC (.int 2)))) (dB (dBin (rEqq false) (dBin rIxq (dVar 2) (dC (.int 0))) (dC (.str "line"))))) (dRet (dCall 3 (dFn 5 B_is_line_with_b7a8) (dCons (dVar 0) (dCons (dVar 1) (dCons (dBin rIxq (dVar 2) (dC (.int 1))) (dNil)))))) (dNext))
  (dSeq (dIfS (dAnd (dB (dBin (rEqq false) (dCB (rLen) (dCons (dVar 2) (dNil))) (dC (.int 4)))) (dB (dBin (rEqq false) (dBin rIxq (dVar 2) (dC (.int 0))) (dC (.str "zigzag"))))) (dSeq (dAsg (dSl (dVar 2) (dPart (dC (.int 1))) (dNoP)) (dUnp 3 (dgCons (dgName 3) (dgCons (dgName 4) (dgCons (dgName 5) (dgNil))))))
  (dRet (dAndV (dCall 2 (dFn 3 B_is_given_c32f) (dCons (dVar 1) (dCons (dVar 3) (dNil)))) (dAndV (dCall 2 (dFn 3 B_is_given_c32f) (dCons (dVar 1) (dCons (dVar 4) (dNil)))) (dCall 4 (dFn 7 B_is_zigzag_87da) (dCons (dVar 0) (dCons (dVar 3) (dCons (dVar 4) (dCons (dVar 5) (dNil)))))))))) (dNext))
  (dRet (dC (.bl false)))))
/-- _law_with: 0 _law_cuts 1 _law_some 2 _law_cut 3 _law_pair -/
def B_law_with_a200 : DTS := dRet (dLc (diVal (dVar 0)) (dgName 2) (dB (dBin (rEqq false) (dLc (diVal (dVar 1)) (dgName 3) (dB (dBin (rEqq true) (dBin rIxq (dVar 2) (dBin rIxq (dVar 3) (dC (.int 0)))) (dBin rIxq (dVar 3) (dC (.int 1))))) (dVar 3) [3]) (dLst (dNil)))) (dVar 2) [2])
/-- _law_ends: 0 _law_rows 1 _law_some 2 _law_low -/
def B_law_ends_4d72 : DTS := dSeq (dIfS (dB (dBin (rEqq false) (dCB (rLen) (dCons (dVar 1) (dNil))) (dC (.int 0)))) (dRet (dLst (dCons (dCB (dFnSK 1 (.bl true) 7 B_line_through_9b5f) (dCons (dVar 0) (dNil))) (dCons (dCBK (dFnSW 1 7 B_line_through_9b5f) (dCons (dVar 0) (dNil)) (dC (.bl false))) (dNil))))) (dNext))
  (dSeq (dIfS (dB (dBin (rEqq false) (dCB (rLen) (dCons (dVar 1) (dNil))) (dC (.int 1)))) (dRet (dLst (dCons (dCB (dFnSK 1 (.bl true) 7 B_line_through_9b5f) (dCons (dVar 0) (dCons (dBin rIxq (dVar 1) (dC (.int 0))) (dNil)))) (dCons (dCBK (dFnSW 1 7 B_line_through_9b5f) (dCons (dVar 0) (dCons (dBin rIxq (dVar 1) (dC (.int 0))) (dNil))) (dC (.bl false))) (dNil))))) (dNext))
  (dSeq (dIfS (dB (dBin (rEqq false) (dCB (rLen) (dCons (dVar 1) (dNil))) (dC (.int 2)))) (dRet (dLst (dCons (dCB (dFnSK 1 (.bl true) 7 B_line_through_9b5f) (dCons (dVar 0) (dCons (dBin rIxq (dVar 1) (dC (.int 0))) (dCons (dBin rIxq (dVar 1) (dC (.int 1))) (dNil))))) (dCons (dCBK (dFnSW 1 7 B_line_through_9b5f) (dCons (dVar 0) (dCons (dBin rIxq (dVar 1) (dC (.int 0))) (dCons (dBin rIxq (dVar 1) (dC (.int 1))) (dNil)))) (dC (.bl false))) (dNil))))) (dNext))
  (dSeq (dAsg (dCBK (dFnSW 1 7 B_line_through_9b5f) (dCons (dVar 0) (dCons (dBin rIxq (dVar 1) (dC (.int 0))) (dCons (dBin rIxq (dVar 1) (dC (.int 1))) (dCons (dBin rIxq (dVar 1) (dC (.int 2))) (dNil))))) (dC (.bl true))) (dgName 2))
  (dRet (dLst (dCons (dVar 2) (dCons (dCBK (dFnSW 1 7 B_line_through_9b5f) (dCons (dVar 0) (dCons (dBin rIxq (dVar 1) (dC (.int 0))) (dCons (dBin rIxq (dVar 1) (dC (.int 1))) (dCons (dBin rIxq (dVar 1) (dC (.int 2))) (dNil))))) (dC (.bl false))) (dNil))))))))
/-- _law_told: 0 _law_rows 1 _law_some -/
def B_law_told_6aa1 : DTS := dSeq (dIfS (dB (dBin (rEqq false) (dCB (rLen) (dCons (dVar 1) (dNil))) (dC (.int 0)))) (dRet (dLst (dCons (dCB (dFnS 1 5 B_verdict_403b) (dCons (dVar 0) (dNil))) (dCons (dListK (dGenC (dGfS 1 6 B_all_lines_b09d) (dCons (dVar 0) (dNil)))) (dNil))))) (dNext))
  (dSeq (dIfS (dB (dBin (rEqq false) (dCB (rLen) (dCons (dVar 1) (dNil))) (dC (.int 1)))) (dRet (dLst (dCons (dCB (dFnS 1 5 B_verdict_403b) (dCons (dVar 0) (dCons (dBin rIxq (dVar 1) (dC (.int 0))) (dNil)))) (dCons (dListK (dGenC (dGfS 1 6 B_all_lines_b09d) (dCons (dVar 0) (dCons (dBin rIxq (dVar 1) (dC (.int 0))) (dNil))))) (dNil))))) (dNext))
  (dSeq (dIfS (dB (dBin (rEqq false) (dCB (rLen) (dCons (dVar 1) (dNil))) (dC (.int 2)))) (dRet (dLst (dCons (dCB (dFnS 1 5 B_verdict_403b) (dCons (dVar 0) (dCons (dBin rIxq (dVar 1) (dC (.int 0))) (dCons (dBin rIxq (dVar 1) (dC (.int 1))) (dNil))))) (dCons (dListK (dGenC (dGfS 1 6 B_all_lines_b09d) (dCons (dVar 0) (dCons (dBin rIxq (dVar 1) (dC (.int 0))) (dCons (dBin rIxq (dVar 1) (dC (.int 1))) (dNil)))))) (dNil))))) (dNext))
  (dRet (dLst (dCons (dCB (dFnS 1 5 B_verdict_403b) (dCons (dVar 0) (dCons (dBin rIxq (dVar 1) (dC (.int 0))) (dCons (dBin rIxq (dVar 1) (dC (.int 1))) (dCons (dBin rIxq (dVar 1) (dC (.int 2))) (dNil)))))) (dCons (dListK (dGenC (dGfS 1 6 B_all_lines_b09d) (dCons (dVar 0) (dCons (dBin rIxq (dVar 1) (dC (.int 0))) (dCons (dBin rIxq (dVar 1) (dC (.int 1))) (dCons (dBin rIxq (dVar 1) (dC (.int 2))) (dNil))))))) (dNil)))))))
/-- _law_right: 0 _law_rows 1 _law_cuts 2 _law_some 3 _law_due 4 _law_told_here 5 _law_found 6 _law_pairs 7 _law_one 8 _law_low 9 _law_high 10 _law_k 11 _law_other 12 _law_cut -/
def B_law_right_edc8 : DTS := dSeq (dAsg (dCall 2 (dFn 4 B_law_with_a200) (dCons (dVar 1) (dCons (dVar 2) (dNil)))) (dgName 3))
  (dSeq (dAsg (dCall 2 (dFn 2 B_law_told_6aa1) (dCons (dVar 0) (dCons (dVar 2) (dNil)))) (dUnp 2 (dgCons (dgName 4) (dgCons (dgName 5) (dgNil)))))
  (dSeq (dIfS (dOr (dNot (dB (dCall 2 (dFn 2 B_law_same_de9b) (dCons (dVar 5) (dCons (dVar 3) (dNil)))))) (dB (dBin (rIsBd true) (dCall 3 (dFn 6 B_verdict_holds_e52c) (dCons (dVar 0) (dCons (dVar 2) (dCons (dVar 4) (dNil))))) (dC (.bl true))))) (dRet (dC (.bl false))) (dNext))
  (dSeq (dIfS (dB (dBin (rEqq true) (dBin rIxq (dVar 4) (dC (.int 0))) (dBin rIxq (dLst (dCons (dC (.str "zigzag")) (dCons (dC (.str "line")) (dNil)))) (dCB (rInt) (dCons (dBin (rEqq true) (dVar 3) (dLst (dNil))) (dNil)))))) (dRet (dC (.bl false))) (dNext))
  (dSeq (dAsg (dLst (dNil)) (dgName 6))
  (dSeq (dFor (diVal (dVar 2)) (dgName 7) (dDrop (dMtq "list" mExtend (dVar 6) (dCons (dLc (diVal (dVar 2)) (dgName 11) (dB (dNotN (dCall 3 (dFn 10 B_find_zigzag_09d6) (dCons (dVar 0) (dCons (dVar 7) (dCons (dVar 11) (dNil))))))) (dTup (dCons (dVar 7) (dCons (dVar 11) (dNil)))) [11]) (dNil)))))
  (dSeq (dIfS (dB (dBin (rEqq true) (dBin (rEqq false) (dVar 6) (dLst (dNil))) (dBin (rEqq true) (dVar 3) (dLst (dNil))))) (dRet (dC (.bl false))) (dNext))
  (dSeq (dIfS (dB (dBin (rEqq false) (dVar 3) (dLst (dNil)))) (dRet (dAndV (dBin (rInq false) (dTup (dCons (dBin rIxq (dVar 4) (dC (.int 1))) (dCons (dBin rIxq (dVar 4) (dC (.int 2))) (dNil)))) (dVar 6)) (dBin (rIsBd false) (dCall 4 (dFn 7 B_is_zigzag_87da) (dCons (dVar 0) (dCons (dBin rIxq (dVar 4) (dC (.int 1))) (dCons (dBin rIxq (dVar 4) (dC (.int 2))) (dCons (dBin rIxq (dVar 4) (dC (.int 3))) (dNil)))))) (dC (.bl true))))) (dNext))
  (dSeq (dAsg (dCB (rTupq) (dCons (dLc (diRg1 (dCons (dCB (rLen) (dCons (dVar 0) (dNil))) (dNil))) (dgName 10) (dYes) (dCB (rMin1) (dCons (dLc (diVal (dVar 3)) (dgName 12) (dYes) (dBin rIxq (dVar 12) (dVar 10)) [12]) (dNil))) [10]) (dNil))) (dgName 8))
  (dSeq (dAsg (dCB (rTupq) (dCons (dLc (diRg1 (dCons (dCB (rLen) (dCons (dVar 0) (dNil))) (dNil))) (dgName 10) (dYes) (dCB (rMax1) (dCons (dLc (diVal (dVar 3)) (dgName 12) (dYes) (dBin rIxq (dVar 12) (dVar 10)) [12]) (dNil))) [10]) (dNil))) (dgName 9))
  (dRet (dCall 2 (dFn 2 B_law_same_de9b) (dCons (dCall 2 (dFn 3 B_law_ends_4d72) (dCons (dVar 0) (dCons (dVar 2) (dNil)))) (dCons (dLst (dCons (dVar 8) (dCons (dVar 9) (dNil)))) (dNil))))))))))))))
/-- _law_chosen: 0 _law_state_here 1 _law_rows 2 _law_processes 3 _law_process -/
def B_law_chosen_7d70 : DTS := dSeq (dAsg (dSl (dCall 2 (dFn 4 B_law_mixed_b93a) (dCons (dVar 0) (dCons (dLRg1 (dCB (rLen) (dCons (dVar 1) (dNil)))) (dNil)))) (dNoP) (dPart (dCall 2 (dFn 5 B_law_draw_a332) (dCons (dVar 0) (dCons (dC (.int 4)) (dNil)))))) (dgName 2))
  (dRet (dCB (rTupq) (dCons (dLc (diVal (dVar 2)) (dgName 3) (dYes) (dTup (dCons (dVar 3) (dCons (dCall 2 (dFn 5 B_law_draw_a332) (dCons (dVar 0) (dCons (dBin rAdd (dMtT mTcount (dBin rIxq (dVar 1) (dVar 3)) (dCons (dC (.int 0)) (dNil))) (dC (.int 2))) (dNil)))) (dNil)))) [3]) (dNil))))
/-- law: 0 _law_script 1 _law_state_here 2 _law_turn 3 _law_rows 4 _law_cuts 5 _law_again 6 _law_some 7 _law_cut 8 _law_due 9 _law_row -/
def B_law_e6f8 : DTS := dSeq (dAsg (dCall 1 (dFn 3 B_law_state_64d4) (dCons (dVar 0) (dNil))) (dgName 1))
  (dSeq (dFor (diRg1 (dCons (dC (.int 4)) (dNil))) (dgName 2) (dSeq (dAsg (dCall 3 (dFn 15 B_law_history_6dd1) (dCons (dVar 1) (dCons (dC (.int 4)) (dCons (dC (.int 14)) (dNil))))) (dgName 3))
  (dSeq (dAsg (dCall 1 (dFn 6 B_law_all_lines_88dc) (dCons (dVar 3) (dNil))) (dgName 4))
  (dFor (diRg1 (dCons (dC (.int 4)) (dNil))) (dgName 5) (dSeq (dAsg (dCall 2 (dFn 4 B_law_chosen_7d70) (dCons (dVar 1) (dCons (dVar 3) (dNil)))) (dgName 6))
  (dSeq (dIfS (dNot (dB (dCall 3 (dFn 13 B_law_right_edc8) (dCons (dVar 3) (dCons (dVar 4) (dCons (dVar 6) (dNil))))))) (dRet (dC (.bl false))) (dNext))
  (dFor (diVal (dLst (dCons (dCall 2 (dFn 2 B_law_pick_6e96) (dCons (dVar 1) (dCons (dVar 4) (dNil)))) (dCons (dCB (rTupq) (dCons (dLc (diVal (dVar 3)) (dgName 9) (dYes) (dCall 2 (dFn 5 B_law_draw_a332) (dCons (dVar 1) (dCons (dBin rAdd (dMtT mTcount (dVar 9) (dCons (dC (.int 0)) (dNil))) (dC (.int 2))) (dNil)))) [9]) (dNil))) (dNil))))) (dgName 7) (dSeq (dAsg (dBin (rInq false) (dVar 7) (dCall 2 (dFn 4 B_law_with_a200) (dCons (dVar 4) (dCons (dVar 6) (dNil))))) (dgName 8))
  (dIfS (dNot (dB (dCall 2 (dFn 2 B_law_same_de9b) (dCons (dCall 3 (dFn 6 B_verdict_holds_e52c) (dCons (dVar 3) (dCons (dVar 6) (dCons (dTup (dCons (dC (.str "line")) (dCons (dVar 7) (dNil)))) (dNil))))) (dCons (dVar 8) (dNil)))))) (dRet (dC (.bl false))) (dNext))))))))))
  (dRet (dC (.bl true))))
end Sv
namespace Sv
open PySem PySem.Spec PyProof.Rows L2
def topS (i : Nat) : Stmt := PySem.Challenge.pw_savelines_k87_whole_verdicts_and_lines.main.body.getD i (.Pass ⟨0, 0, 0, 0⟩)
abbrev s__law_draw : Stmt := topS 41
theorem sc__law_draw : FnScope ["_law_state_here", "_law_below", "_law_rest", "_law_cell", "_law_mixed_here"] ["_law_state_here", "_law_below"] (defScope s__law_draw) := ⟨rfl, rfl, rfl, by decide +kernel, rfl, by decide +kernel, by decide +kernel⟩
set_option maxHeartbeats 4000000 in
theorem der__law_draw {P : Program} {w : World} {K : PySem.W.Frag} {mg : Str → Option Value} {base : Heap} {f : Addr} {fd : FuncData} (F : Fun K "_law_draw" "_law_draw" s__law_draw f fd)  (m_len : mg "len" = none): FnOk P w K mg base CX0 1 f fd ["_law_state_here", "_law_below"] (lP ⟨P, w, K⟩ 2 (dFn 5 B_law_draw_a332)) := by
  refine fn_o F sc__law_draw rfl fun cdv A outer s H E hr => ?_
  have nd := sc__law_draw.nd
  have u64 := hr.units
  have u65 : (A.deeper (envOfC "_law_draw" (defScope s__law_draw) s.heap.objs.size f cdv)).units + 65 < cLine := by have := hr.un; omega
  have u1 : (A.deeper (envOfC "_law_draw" (defScope s__law_draw) s.heap.objs.size f cdv)).units + 1 < cLine := by have := hr.un; omega
  unfold B_law_draw_a332
  exact dss_cons (ds_while PassesOwn.never (dt_cmp (o_ne u64) (de_ix o_ix (dv 0) (de_int)) (de_lst (da_nil))) (dss_cons (ds_set (i := 2) nd rfl (by first | exact .inl rfl | exact .inr rfl) (de_ix o_ix (de_ix o_ix (dv 0) (de_int)) (de_int)))
    (dss_cons (ds_if (dt_cmp o_gt (dv 2) (de_int)) (dss_cons (ds_asg (b := true) (de_bin o_div (dv 2) (dv 1)) (dg_sub (de_ix o_ix (dv 0) (de_int)) (de_int)))
    (dss_one (ds_ret (de_bin o_mod (dv 2) (dv 1))))) (dss_nil))
    (dss_one (ds_expr (de_mL PySem.F.slot_list_pop PySem.F.type_list_pop m_popAt (de_ix o_ix (dv 0) (de_int)) (da_cons (de_int) (da_nil))))))))
    (dss_cons (ds_asg (b := true) (de_bin o_add (de_ix o_ix (dv 0) (de_int)) (de_int)) (dg_sub (dv 0) (de_int)))
    (dss_cons (ds_set (i := 3) nd rfl (by first | exact .inl rfl | exact .inr rfl) (de_bin o_mod (de_ix o_ix (de_ix o_ix (dv 0) (de_int)) (de_bin o_mod (de_ix o_ix (dv 0) (de_int)) (de_callB b_len (by rfl) m_len PySem.boot_len (da_cons (de_ix o_ix (dv 0) (de_int)) (da_nil))))) (de_int)))
    (dss_cons (ds_set (i := 4) nd rfl (by first | exact .inl rfl | exact .inr rfl) (de_bin o_add (de_bin o_mul (dv 3) (de_bin o_add (de_int) (de_bin o_mul (de_int) (de_ix o_ix (dv 0) (de_int))))) (de_int)))
    (dss_cons (ds_set (i := 4) nd rfl (by first | exact .inl rfl | exact .inr rfl) (de_bin o_mod (de_bin o_add (dv 4) (de_bin o_mul (de_bin o_mul (de_int) (de_ix o_ix (dv 0) (de_int))) (de_ix o_ix (dv 0) (de_int)))) (de_int)))
    (dss_one (ds_ret (de_bin o_mod (de_bin o_div (de_bin o_mod (de_bin o_mul (dv 4) (dv 4)) (de_int)) (de_int)) (dv 1))))))))
abbrev s__law_pick : Stmt := topS 45
theorem sc__law_pick : FnScope ["_law_state_here", "_law_items"] ["_law_state_here", "_law_items"] (defScope s__law_pick) := ⟨rfl, rfl, rfl, by decide +kernel, rfl, by decide +kernel, by decide +kernel⟩
set_option maxHeartbeats 4000000 in
theorem der__law_pick {P : Program} {w : World} {K : PySem.W.Frag} {mg : Str → Option Value} {base : Heap} {f : Addr} {fd : FuncData} (F : Fun K "_law_pick" "_law_pick" s__law_pick f fd) (D__law_draw : DFo P w K mg base 1 "_law_draw" 2 (dFn 5 B_law_draw_a332)) (m_len : mg "len" = none): FnOk P w K mg base CX0 2 f fd ["_law_state_here", "_law_items"] (lP ⟨P, w, K⟩ 2 (dFn 2 B_law_pick_6e96)) := by
  refine fn_o F sc__law_pick rfl fun cdv A outer s H E hr => ?_
  have nd := sc__law_pick.nd
  have u64 := hr.units
  have u65 : (A.deeper (envOfC "_law_pick" (defScope s__law_pick) s.heap.objs.size f cdv)).units + 65 < cLine := by have := hr.un; omega
  have u1 : (A.deeper (envOfC "_law_pick" (defScope s__law_pick) s.heap.objs.size f cdv)).units + 1 < cLine := by have := hr.un; omega
  unfold B_law_pick_6e96
  exact dss_one (ds_ret (de_ix o_ix (dv 1) (de_callo D__law_draw (hr.mono (by decide)) (by rfl) (da_cons (dv 0) (da_cons (de_callB b_len (by rfl) m_len PySem.boot_len (da_cons (dv 1) (da_nil))) (da_nil))))))
abbrev s__law_same : Stmt := topS 43
theorem sc__law_same : FnScope ["_law_found", "_law_due"] ["_law_found", "_law_due"] (defScope s__law_same) := ⟨rfl, rfl, rfl, by decide +kernel, rfl, by decide +kernel, by decide +kernel⟩
set_option maxHeartbeats 4000000 in
theorem der__law_same {P : Program} {w : World} {K : PySem.W.Frag} {mg : Str → Option Value} {base : Heap} {f : Addr} {fd : FuncData} (F : Fun K "_law_same" "_law_same" s__law_same f fd)  (m_repr : mg "repr" = none): FnG P w K mg base 1 f fd ["_law_found", "_law_due"] (lP ⟨P, w, K⟩ 2 (dFn 2 B_law_same_de9b)) := by
  refine fn_d F sc__law_same rfl fun cdv A outer s H E hg hr => ?_
  have nd := sc__law_same.nd
  have u64 := hr.units
  have u65 : (A.deeper (envOfC "_law_same" (defScope s__law_same) s.heap.objs.size f cdv)).units + 65 < cLine := by have := hr.un; omega
  have u1 : (A.deeper (envOfC "_law_same" (defScope s__law_same) s.heap.objs.size f cdv)).units + 1 < cLine := by have := hr.un; omega
  unfold B_law_same_de9b
  exact dss_one (ds_ret (de_cmp (o_eq u64) (de_callB (b_reprX hg u64) (by rfl) m_repr (by decide +kernel) (da_cons (dv 0) (da_nil))) (de_callB (b_reprX hg u64) (by rfl) m_repr (by decide +kernel) (da_cons (dv 1) (da_nil)))))
abbrev s_is_number : Stmt := topS 5
theorem sc_is_number : FnScope ["value"] ["value"] (defScope s_is_number) := ⟨rfl, rfl, rfl, by decide +kernel, rfl, by decide +kernel, by decide +kernel⟩
set_option maxHeartbeats 4000000 in
theorem der_is_number {P : Program} {w : World} {K : PySem.W.Frag} {mg : Str → Option Value} {base : Heap} {f : Addr} {fd : FuncData} (F : Fun K "is_number" "is_number" s_is_number f fd)  (m_int : mg "int" = none) (m_isinstance : mg "isinstance" = none) (m_bool : mg "bool" = none): FnOk P w K mg base CX0 1 f fd ["value"] (lP ⟨P, w, K⟩ 1 (dFn 1 B_is_number_52f5)) := by
  refine fn_o F sc_is_number rfl fun cdv A outer s H E hr => ?_
  have nd := sc_is_number.nd
  have u64 := hr.units
  have u65 : (A.deeper (envOfC "is_number" (defScope s_is_number) s.heap.objs.size f cdv)).units + 65 < cLine := by have := hr.un; omega
  have u1 : (A.deeper (envOfC "is_number" (defScope s_is_number) s.heap.objs.size f cdv)).units + 1 < cLine := by have := hr.un; omega
  unfold B_is_number_52f5
  exact dss_one (ds_ret (de_and (de_callB b_isi (by rfl) m_isinstance (by decide +kernel) (da_cons (dv 0) (da_cons (de_ty (by rfl) m_int (by decide +kernel)) (da_nil)))) (de_one (de_not (de_callB b_isi (by rfl) m_isinstance (by decide +kernel) (da_cons (dv 0) (da_cons (de_ty (by rfl) m_bool (by decide +kernel)) (da_nil))))))))
abbrev s_is_given : Stmt := topS 39
theorem sc_is_given : FnScope ["states", "value", "part"] ["states", "value"] (defScope s_is_given) := ⟨rfl, rfl, rfl, by decide +kernel, rfl, by decide +kernel, by decide +kernel⟩
set_option maxHeartbeats 4000000 in
theorem der_is_given {P : Program} {w : World} {K : PySem.W.Frag} {mg : Str → Option Value} {base : Heap} {f : Addr} {fd : FuncData} (F : Fun K "is_given" "is_given" s_is_given f fd) (D_is_number : DFo P w K mg base 1 "is_number" 1 (dFn 1 B_is_number_52f5)) (m_tuple : mg "tuple" = none) (m_isinstance : mg "isinstance" = none) (m_all : mg "all" = none): FnOk P w K mg base CX0 2 f fd ["states", "value"] (lP ⟨P, w, K⟩ 2 (dFn 3 B_is_given_c32f)) := by
  refine fn_o F sc_is_given rfl fun cdv A outer s H E hr => ?_
  have nd := sc_is_given.nd
  have u64 := hr.units
  have u65 : (A.deeper (envOfC "is_given" (defScope s_is_given) s.heap.objs.size f cdv)).units + 65 < cLine := by have := hr.un; omega
  have u1 : (A.deeper (envOfC "is_given" (defScope s_is_given) s.heap.objs.size f cdv)).units + 1 < cLine := by have := hr.un; omega
  unfold B_is_given_c32f
  exact dss_one (ds_ret (de_and (de_callB b_isi (by rfl) m_isinstance (by decide +kernel) (da_cons (dv 1) (da_cons (de_ty (by rfl) m_tuple (by decide +kernel)) (da_nil)))) (de_and (de_callB (b_all rfl) (by rfl) m_all (by decide +kernel) (da_cons (de_lc (own := [("part", 2)]) rfl nd (di_val (dv 1)) (blkOk_by (by first | decide +kernel | rfl)) (by decide) (fun _ _ _ _ _ => dg_name (i := 2) nd rfl (by first | exact .inl rfl | exact .inr rfl)) (fun _ _ _ _ _ => dts_nil) (fun _ _ _ _ _ => de_callo D_is_number (hr.mono (by decide)) (by rfl) (da_cons (dv 2) (da_nil)))) (da_nil))) (de_one (de_cmp (o_in u65) (dv 1) (dv 0))))))
abbrev s_is_sent_behind : Stmt := topS 12
theorem sc_is_sent_behind : FnScope ["trip", "state", "sender", "interval", "process", "number"] ["trip", "state"] (defScope s_is_sent_behind) := ⟨rfl, rfl, rfl, by decide +kernel, rfl, by decide +kernel, by decide +kernel⟩
set_option maxHeartbeats 4000000 in
theorem der_is_sent_behind {P : Program} {w : World} {K : PySem.W.Frag} {mg : Str → Option Value} {base : Heap} {f : Addr} {fd : FuncData} (F : Fun K "is_sent_behind" "is_sent_behind" s_is_sent_behind f fd) : FnOk P w K mg base CX0 1 f fd ["trip", "state"] (lP ⟨P, w, K⟩ 2 (dFn 6 B_is_sent_behind_1a14)) := by
  refine fn_o F sc_is_sent_behind rfl fun cdv A outer s H E hr => ?_
  have nd := sc_is_sent_behind.nd
  have u64 := hr.units
  have u65 : (A.deeper (envOfC "is_sent_behind" (defScope s_is_sent_behind) s.heap.objs.size f cdv)).units + 65 < cLine := by have := hr.un; omega
  have u1 : (A.deeper (envOfC "is_sent_behind" (defScope s_is_sent_behind) s.heap.objs.size f cdv)).units + 1 < cLine := by have := hr.un; omega
  unfold B_is_sent_behind_1a14
  exact dss_cons (ds_asg (b := true) (de_ix o_ix (dv 0) (de_int)) (dg_tup rfl (dgs_cons (dg_name (i := 2) nd rfl (by first | exact .inl rfl | exact .inr rfl)) (dgs_cons (dg_name (i := 3) nd rfl (by first | exact .inl rfl | exact .inr rfl)) (dgs_nil)))))
    (dss_cons (ds_asg (b := true) (dv 1) (dg_tup rfl (dgs_cons (dg_name (i := 4) nd rfl (by first | exact .inl rfl | exact .inr rfl)) (dgs_cons (dg_name (i := 5) nd rfl (by first | exact .inl rfl | exact .inr rfl)) (dgs_nil)))))
    (dss_one (ds_ret (de_and (de_cmp (o_eq u64) (dv 2) (dv 4)) (de_one (de_cmp o_ge (dv 3) (dv 5)))))))
abbrev s_is_step : Stmt := topS 28
theorem sc_is_step : FnScope ["trips", "message", "then"] ["trips", "message", "then"] (defScope s_is_step) := ⟨rfl, rfl, rfl, by decide +kernel, rfl, by decide +kernel, by decide +kernel⟩
set_option maxHeartbeats 4000000 in
theorem der_is_step {P : Program} {w : World} {K : PySem.W.Frag} {mg : Str → Option Value} {base : Heap} {f : Addr} {fd : FuncData} (F : Fun K "is_step" "is_step" s_is_step f fd) (D_is_sent_behind : DFo P w K mg base 1 "is_sent_behind" 2 (dFn 6 B_is_sent_behind_1a14)): FnOk P w K mg base CX0 2 f fd ["trips", "message", "then"] (lP ⟨P, w, K⟩ 3 (dFn 3 B_is_step_5234)) := by
  refine fn_o F sc_is_step rfl fun cdv A outer s H E hr => ?_
  have nd := sc_is_step.nd
  have u64 := hr.units
  have u65 : (A.deeper (envOfC "is_step" (defScope s_is_step) s.heap.objs.size f cdv)).units + 65 < cLine := by have := hr.un; omega
  have u1 : (A.deeper (envOfC "is_step" (defScope s_is_step) s.heap.objs.size f cdv)).units + 1 < cLine := by have := hr.un; omega
  unfold B_is_step_5234
  exact dss_one (ds_ret (de_callo D_is_sent_behind (hr.mono (by decide)) (by rfl) (da_cons (de_dix u1 (dv 0) (dv 2)) (da_cons (de_ix o_ix (de_dix u1 (dv 0) (dv 1)) (de_int)) (da_nil)))))
abbrev s_is_received_before : Stmt := topS 13
theorem sc_is_received_before : FnScope ["trip", "state", "receiver", "interval", "process", "number"] ["trip", "state"] (defScope s_is_received_before) := ⟨rfl, rfl, rfl, by decide +kernel, rfl, by decide +kernel, by decide +kernel⟩
set_option maxHeartbeats 4000000 in
theorem der_is_received_before {P : Program} {w : World} {K : PySem.W.Frag} {mg : Str → Option Value} {base : Heap} {f : Addr} {fd : FuncData} (F : Fun K "is_received_before" "is_received_before" s_is_received_before f fd) : FnOk P w K mg base CX0 1 f fd ["trip", "state"] (lP ⟨P, w, K⟩ 2 (dFn 6 B_is_received_before_f543)) := by
  refine fn_o F sc_is_received_before rfl fun cdv A outer s H E hr => ?_
  have nd := sc_is_received_before.nd
  have u64 := hr.units
  have u65 : (A.deeper (envOfC "is_received_before" (defScope s_is_received_before) s.heap.objs.size f cdv)).units + 65 < cLine := by have := hr.un; omega
  have u1 : (A.deeper (envOfC "is_received_before" (defScope s_is_received_before) s.heap.objs.size f cdv)).units + 1 < cLine := by have := hr.un; omega
  unfold B_is_received_before_f543
  exact dss_cons (ds_asg (b := true) (de_ix o_ix (dv 0) (de_int)) (dg_tup rfl (dgs_cons (dg_name (i := 2) nd rfl (by first | exact .inl rfl | exact .inr rfl)) (dgs_cons (dg_name (i := 3) nd rfl (by first | exact .inl rfl | exact .inr rfl)) (dgs_nil)))))
    (dss_cons (ds_asg (b := true) (dv 1) (dg_tup rfl (dgs_cons (dg_name (i := 4) nd rfl (by first | exact .inl rfl | exact .inr rfl)) (dgs_cons (dg_name (i := 5) nd rfl (by first | exact .inl rfl | exact .inr rfl)) (dgs_nil)))))
    (dss_one (ds_ret (de_and (de_cmp (o_eq u64) (dv 2) (dv 4)) (de_one (de_cmp o_lt (dv 3) (dv 5)))))))
abbrev s_happened_at : Stmt := topS 9
theorem sc_happened_at : FnScope ["history", "event", "process", "row", "interval", "other"] ["history", "event"] (defScope s_happened_at) := ⟨rfl, rfl, rfl, by decide +kernel, rfl, by decide +kernel, by decide +kernel⟩
set_option maxHeartbeats 4000000 in
theorem der_happened_at {P : Program} {w : World} {K : PySem.W.Frag} {mg : Str → Option Value} {base : Heap} {f : Addr} {fd : FuncData} (F : Fun K "happened_at" "happened_at" s_happened_at f fd)  (m_enumerate : mg "enumerate" = none): FnOk P w K mg base CX0 1 f fd ["history", "event"] (lP ⟨P, w, K⟩ 2 (dFn 6 B_happened_at_e85f)) := by
  refine fn_o F sc_happened_at rfl fun cdv A outer s H E hr => ?_
  have nd := sc_happened_at.nd
  have u64 := hr.units
  have u65 : (A.deeper (envOfC "happened_at" (defScope s_happened_at) s.heap.objs.size f cdv)).units + 65 < cLine := by have := hr.un; omega
  have u1 : (A.deeper (envOfC "happened_at" (defScope s_happened_at) s.heap.objs.size f cdv)).units + 1 < cLine := by have := hr.un; omega
  unfold B_happened_at_e85f
  exact dss_cons (ds_for PassesOwn.never rfl (di_enum (by rfl) m_enumerate (da_cons (dv 0) (da_nil))) (dg_tup rfl (dgs_cons (dg_name (i := 2) nd rfl (by first | exact .inl rfl | exact .inr rfl)) (dgs_cons (dg_name (i := 3) nd rfl (by first | exact .inl rfl | exact .inr rfl)) (dgs_nil)))) (dss_cons (ds_set (i := 4) nd rfl (by first | exact .inl rfl | exact .inr rfl) (de_int))
    (dss_one (ds_for PassesOwn.never rfl (di_val (dv 3)) (dg_name (i := 5) nd rfl (by first | exact .inl rfl | exact .inr rfl)) (dss_cons (ds_if (dt_cmp (o_eq u64) (dv 5) (dv 1)) (dss_one (ds_ret (de_tup (da_cons (dv 2) (da_cons (dv 4) (da_nil)))))) (dss_nil))
    (dss_one (ds_if (dt_cmp (o_eq u64) (dv 5) (de_int)) (dss_one (ds_aug (i := 4) nd rfl (by first | exact .inl rfl | exact .inr rfl) o_iadd (de_int))) (dss_nil))))))))
    (dss_one (ds_ret (de_non)))
abbrev s_trips_of : Stmt := topS 11
theorem sc_trips_of : FnScope ["history", "messages", "message", "row", "event"] ["history"] (defScope s_trips_of) := ⟨rfl, rfl, rfl, by decide +kernel, rfl, by decide +kernel, by decide +kernel⟩
set_option maxHeartbeats 4000000 in
theorem der_trips_of {P : Program} {w : World} {K : PySem.W.Frag} {mg : Str → Option Value} {base : Heap} {f : Addr} {fd : FuncData} (F : Fun K "trips_of" "trips_of" s_trips_of f fd) (D_happened_at : DFo P w K mg base 1 "happened_at" 2 (dFn 6 B_happened_at_e85f)) (m_sorted : mg "sorted" = none): FnOk P w K mg base CX0 2 f fd ["history"] (lP ⟨P, w, K⟩ 1 (dFn 5 B_trips_of_ea9a)) := by
  refine fn_o F sc_trips_of rfl fun cdv A outer s H E hr => ?_
  have nd := sc_trips_of.nd
  have u64 := hr.units
  have u65 : (A.deeper (envOfC "trips_of" (defScope s_trips_of) s.heap.objs.size f cdv)).units + 65 < cLine := by have := hr.un; omega
  have u1 : (A.deeper (envOfC "trips_of" (defScope s_trips_of) s.heap.objs.size f cdv)).units + 1 < cLine := by have := hr.un; omega
  unfold B_trips_of_ea9a
  exact dss_cons (ds_set (i := 1) nd rfl (by first | exact .inl rfl | exact .inr rfl) (de_callB b_sorted (by rfl) m_sorted (by decide +kernel) (da_cons (de_lc2 (own := [("row", 3), ("event", 4)]) (us1 := [4]) rfl nd (di_val (dv 0)) (blkOk_by (by first | decide +kernel | rfl)) (by decide) (by decide) (by decide) (fun _ _ _ _ _ => dg_name (i := 3) nd rfl (by first | exact .inl rfl | exact .inr rfl)) (fun _ _ _ _ _ => dts_nil) (fun _ _ _ _ _ => di_val (dv 3)) (fun _ _ _ _ _ => dg_name (i := 4) nd rfl (by first | exact .inl rfl | exact .inr rfl)) (fun _ _ _ _ _ => dts_one (dt_cmp o_lt (dv 4) (de_int))) (fun _ _ _ _ _ => de_un o_neg (dv 4))) (da_nil))))
    (dss_one (ds_ret (de_dc (own := [("message", 2)]) rfl nd (di_val (dv 1)) (blkOk_by (by first | decide +kernel | rfl)) (by decide) (fun _ _ _ _ _ => dg_name (i := 2) nd rfl (by first | exact .inl rfl | exact .inr rfl)) (fun _ _ _ _ _ => dts_nil) (fun _ _ _ _ _ => dv 2) (fun _ _ _ _ _ => de_tup (da_cons (de_callo D_happened_at (hr.mono (by decide)) (by rfl) (da_cons (dv 0) (da_cons (dv 2) (da_nil)))) (da_cons (de_callo D_happened_at (hr.mono (by decide)) (by rfl) (da_cons (dv 0) (da_cons (de_un o_neg (dv 2)) (da_nil)))) (da_nil)))))))
abbrev s_is_zigzag : Stmt := topS 27
theorem sc_is_zigzag : FnScope ["history", "one", "other", "value", "trips", "message", "then"] ["history", "one", "other", "value"] (defScope s_is_zigzag) := ⟨rfl, rfl, rfl, by decide +kernel, rfl, by decide +kernel, by decide +kernel⟩
set_option maxHeartbeats 4000000 in
theorem der_is_zigzag {P : Program} {w : World} {K : PySem.W.Frag} {mg : Str → Option Value} {base : Heap} {f : Addr} {fd : FuncData} (F : Fun K "is_zigzag" "is_zigzag" s_is_zigzag f fd) (D_is_sent_behind : DFo P w K mg base 1 "is_sent_behind" 2 (dFn 6 B_is_sent_behind_1a14)) (D_is_step : DFo P w K mg base 2 "is_step" 3 (dFn 3 B_is_step_5234)) (D_is_received_before : DFo P w K mg base 1 "is_received_before" 2 (dFn 6 B_is_received_before_f543)) (D_is_number : DFo P w K mg base 1 "is_number" 1 (dFn 1 B_is_number_52f5)) (D_trips_of : DFo P w K mg base 2 "trips_of" 1 (dFn 5 B_trips_of_ea9a)) (m_zip : mg "zip" = none) (m_all : mg "all" = none) (m_tuple : mg "tuple" = none) (m_isinstance : mg "isinstance" = none) (m_len : mg "len" = none): FnOk P w K mg base CX0 3 f fd ["history", "one", "other", "value"] (lP ⟨P, w, K⟩ 4 (dFn 7 B_is_zigzag_87da)) := by
  refine fn_o F sc_is_zigzag rfl fun cdv A outer s H E hr => ?_
  have nd := sc_is_zigzag.nd
  have u64 := hr.units
  have u65 : (A.deeper (envOfC "is_zigzag" (defScope s_is_zigzag) s.heap.objs.size f cdv)).units + 65 < cLine := by have := hr.un; omega
  have u1 : (A.deeper (envOfC "is_zigzag" (defScope s_is_zigzag) s.heap.objs.size f cdv)).units + 1 < cLine := by have := hr.un; omega
  unfold B_is_zigzag_87da
  exact dss_cons (ds_set (i := 4) nd rfl (by first | exact .inl rfl | exact .inr rfl) (de_callo D_trips_of (hr.mono (by decide)) (by rfl) (da_cons (dv 0) (da_nil))))
    (dss_cons (ds_if (DW.dt (dw_or (dt_not (dt_val (de_callB b_isi (by rfl) m_isinstance (by decide +kernel) (da_cons (dv 3) (da_cons (de_ty (by rfl) m_tuple (by decide +kernel)) (da_nil)))))) (dw_or1 (dt_cmp (o_eq u64) (de_callB b_len (by rfl) m_len PySem.boot_len (da_cons (dv 3) (da_nil))) (de_int))))) (dss_one (ds_ret (de_bl))) (dss_nil))
    (dss_cons (ds_if (dt_not (dt_val (de_callB (b_all rfl) (by rfl) m_all (by decide +kernel) (da_cons (de_lc (own := [("message", 5)]) rfl nd (di_val (dv 3)) (blkOk_by (by first | decide +kernel | rfl)) (by decide) (fun _ _ _ _ _ => dg_name (i := 5) nd rfl (by first | exact .inl rfl | exact .inr rfl)) (fun _ _ _ _ _ => dts_nil) (fun _ _ _ _ _ => de_and (de_callo D_is_number (hr.mono (by decide)) (by rfl) (da_cons (dv 5) (da_nil))) (de_one (de_din u1 (dv 5) (dv 4))))) (da_nil))))) (dss_one (ds_ret (de_bl))) (dss_nil))
    (dss_one (ds_ret (de_and (de_callo D_is_sent_behind (hr.mono (by decide)) (by rfl) (da_cons (de_dix u1 (dv 4) (de_ix o_ix (dv 3) (de_int))) (da_cons (dv 1) (da_nil)))) (de_and (de_callB (b_all rfl) (by rfl) m_all (by decide +kernel) (da_cons (de_lc (own := [("message", 5), ("then", 6)]) rfl nd (di_zip (by rfl) m_zip (da_cons (dv 3) (da_cons (de_sl (dv 3) (do_some (de_int)) (do_none)) (da_nil)))) (blkOk_by (by first | decide +kernel | rfl)) (by decide) (fun _ _ _ _ _ => dg_tup rfl (dgs_cons (dg_name (i := 5) nd rfl (by first | exact .inl rfl | exact .inr rfl)) (dgs_cons (dg_name (i := 6) nd rfl (by first | exact .inl rfl | exact .inr rfl)) (dgs_nil)))) (fun _ _ _ _ _ => dts_nil) (fun _ _ _ _ _ => de_callo D_is_step (hr.mono (by decide)) (by rfl) (da_cons (dv 4) (da_cons (dv 5) (da_cons (dv 6) (da_nil)))))) (da_nil))) (de_one (de_callo D_is_received_before (hr.mono (by decide)) (by rfl) (da_cons (de_dix u1 (dv 4) (de_ix o_ix (dv 3) (de_un o_neg (de_int)))) (da_cons (dv 2) (da_nil)))))))))))
abbrev s_is_number_within : Stmt := topS 6
theorem sc_is_number_within : FnScope ["value", "low", "high"] ["value", "low", "high"] (defScope s_is_number_within) := ⟨rfl, rfl, rfl, by decide +kernel, rfl, by decide +kernel, by decide +kernel⟩
set_option maxHeartbeats 4000000 in
theorem der_is_number_within {P : Program} {w : World} {K : PySem.W.Frag} {mg : Str → Option Value} {base : Heap} {f : Addr} {fd : FuncData} (F : Fun K "is_number_within" "is_number_within" s_is_number_within f fd) (D_is_number : DFo P w K mg base 1 "is_number" 1 (dFn 1 B_is_number_52f5)): FnOk P w K mg base CX0 2 f fd ["value", "low", "high"] (lP ⟨P, w, K⟩ 3 (dFn 3 B_is_number_within_7f04)) := by
  refine fn_o F sc_is_number_within rfl fun cdv A outer s H E hr => ?_
  have nd := sc_is_number_within.nd
  have u64 := hr.units
  have u65 : (A.deeper (envOfC "is_number_within" (defScope s_is_number_within) s.heap.objs.size f cdv)).units + 65 < cLine := by have := hr.un; omega
  have u1 : (A.deeper (envOfC "is_number_within" (defScope s_is_number_within) s.heap.objs.size f cdv)).units + 1 < cLine := by have := hr.un; omega
  unfold B_is_number_within_7f04
  exact dss_one (ds_ret (de_and (de_callo D_is_number (hr.mono (by decide)) (by rfl) (da_cons (dv 0) (da_nil))) (de_one (de_chain o_le o_le (dv 1) (dv 0) (dv 2)))))
abbrev s_state_numbers : Stmt := topS 8
theorem sc_state_numbers : FnScope ["history", "row"] ["history"] (defScope s_state_numbers) := ⟨rfl, rfl, rfl, by decide +kernel, rfl, by decide +kernel, by decide +kernel⟩
set_option maxHeartbeats 4000000 in
theorem der_state_numbers {P : Program} {w : World} {K : PySem.W.Frag} {mg : Str → Option Value} {base : Heap} {f : Addr} {fd : FuncData} (F : Fun K "state_numbers" "state_numbers" s_state_numbers f fd)  (m_tuple : mg "tuple" = none): FnOk P w K mg base CX0 1 f fd ["history"] (lP ⟨P, w, K⟩ 1 (dFn 2 B_state_numbers_78d0)) := by
  refine fn_o F sc_state_numbers rfl fun cdv A outer s H E hr => ?_
  have nd := sc_state_numbers.nd
  have u64 := hr.units
  have u65 : (A.deeper (envOfC "state_numbers" (defScope s_state_numbers) s.heap.objs.size f cdv)).units + 65 < cLine := by have := hr.un; omega
  have u1 : (A.deeper (envOfC "state_numbers" (defScope s_state_numbers) s.heap.objs.size f cdv)).units + 1 < cLine := by have := hr.un; omega
  unfold B_state_numbers_78d0
  exact dss_one (ds_ret (de_callTy b_tuple (by rfl) m_tuple (by decide +kernel) (da_cons (de_lc (own := [("row", 1)]) rfl nd (di_val (dv 0)) (blkOk_by (by first | decide +kernel | rfl)) (by decide) (fun _ _ _ _ _ => dg_name (i := 1) nd rfl (by first | exact .inl rfl | exact .inr rfl)) (fun _ _ _ _ _ => dts_nil) (fun _ _ _ _ _ => de_bin o_add (de_mT PySem.F.slot_tuple_count PySem.F.type_tuple_count (m_tcount u64) (dv 1) (da_cons (de_int) (da_nil))) (de_int))) (da_nil))))
abbrev s_is_line : Stmt := topS 15
theorem sc_is_line : FnScope ["history", "value", "presents", "number", "present"] ["history", "value"] (defScope s_is_line) := ⟨rfl, rfl, rfl, by decide +kernel, rfl, by decide +kernel, by decide +kernel⟩
set_option maxHeartbeats 4000000 in
theorem der_is_line {P : Program} {w : World} {K : PySem.W.Frag} {mg : Str → Option Value} {base : Heap} {f : Addr} {fd : FuncData} (F : Fun K "is_line" "is_line" s_is_line f fd) (D_is_number_within : DFo P w K mg base 2 "is_number_within" 3 (dFn 3 B_is_number_within_7f04)) (D_state_numbers : DFo P w K mg base 1 "state_numbers" 1 (dFn 2 B_state_numbers_78d0)) (m_zip : mg "zip" = none) (m_all : mg "all" = none) (m_tuple : mg "tuple" = none) (m_isinstance : mg "isinstance" = none) (m_len : mg "len" = none): FnOk P w K mg base CX0 3 f fd ["history", "value"] (lP ⟨P, w, K⟩ 2 (dFn 5 B_is_line_5402)) := by
  refine fn_o F sc_is_line rfl fun cdv A outer s H E hr => ?_
  have nd := sc_is_line.nd
  have u64 := hr.units
  have u65 : (A.deeper (envOfC "is_line" (defScope s_is_line) s.heap.objs.size f cdv)).units + 65 < cLine := by have := hr.un; omega
  have u1 : (A.deeper (envOfC "is_line" (defScope s_is_line) s.heap.objs.size f cdv)).units + 1 < cLine := by have := hr.un; omega
  unfold B_is_line_5402
  exact dss_cons (ds_if (DW.dt (dw_or (dt_not (dt_val (de_callB b_isi (by rfl) m_isinstance (by decide +kernel) (da_cons (dv 1) (da_cons (de_ty (by rfl) m_tuple (by decide +kernel)) (da_nil)))))) (dw_or1 (dt_cmp (o_ne u64) (de_callB b_len (by rfl) m_len PySem.boot_len (da_cons (dv 1) (da_nil))) (de_callB b_len (by rfl) m_len PySem.boot_len (da_cons (dv 0) (da_nil))))))) (dss_one (ds_ret (de_bl))) (dss_nil))
    (dss_cons (ds_set (i := 2) nd rfl (by first | exact .inl rfl | exact .inr rfl) (de_callo D_state_numbers (hr.mono (by decide)) (by rfl) (da_cons (dv 0) (da_nil))))
    (dss_one (ds_ret (de_callB (b_all rfl) (by rfl) m_all (by decide +kernel) (da_cons (de_lc (own := [("number", 3), ("present", 4)]) rfl nd (di_zip (by rfl) m_zip (da_cons (dv 1) (da_cons (dv 2) (da_nil)))) (blkOk_by (by first | decide +kernel | rfl)) (by decide) (fun _ _ _ _ _ => dg_tup rfl (dgs_cons (dg_name (i := 3) nd rfl (by first | exact .inl rfl | exact .inr rfl)) (dgs_cons (dg_name (i := 4) nd rfl (by first | exact .inl rfl | exact .inr rfl)) (dgs_nil)))) (fun _ _ _ _ _ => dts_nil) (fun _ _ _ _ _ => de_callo D_is_number_within (hr.mono (by decide)) (by rfl) (da_cons (dv 3) (da_cons (de_int) (da_cons (dv 4) (da_nil)))))) (da_nil))))))
abbrev s_is_orphan : Stmt := topS 17
theorem sc_is_orphan : FnScope ["trip", "line", "sender", "sent", "receiver", "received"] ["trip", "line"] (defScope s_is_orphan) := ⟨rfl, rfl, rfl, by decide +kernel, rfl, by decide +kernel, by decide +kernel⟩
set_option maxHeartbeats 4000000 in
theorem der_is_orphan {P : Program} {w : World} {K : PySem.W.Frag} {mg : Str → Option Value} {base : Heap} {f : Addr} {fd : FuncData} (F : Fun K "is_orphan" "is_orphan" s_is_orphan f fd) : FnOk P w K mg base CX0 1 f fd ["trip", "line"] (lP ⟨P, w, K⟩ 2 (dFn 6 B_is_orphan_8604)) := by
  refine fn_o F sc_is_orphan rfl fun cdv A outer s H E hr => ?_
  have nd := sc_is_orphan.nd
  have u64 := hr.units
  have u65 : (A.deeper (envOfC "is_orphan" (defScope s_is_orphan) s.heap.objs.size f cdv)).units + 65 < cLine := by have := hr.un; omega
  have u1 : (A.deeper (envOfC "is_orphan" (defScope s_is_orphan) s.heap.objs.size f cdv)).units + 1 < cLine := by have := hr.un; omega
  unfold B_is_orphan_8604
  exact dss_cons (ds_asg (b := true) (dv 0) (dg_tup rfl (dgs_cons (dg_tup rfl (dgs_cons (dg_name (i := 2) nd rfl (by first | exact .inl rfl | exact .inr rfl)) (dgs_cons (dg_name (i := 3) nd rfl (by first | exact .inl rfl | exact .inr rfl)) (dgs_nil)))) (dgs_cons (dg_tup rfl (dgs_cons (dg_name (i := 4) nd rfl (by first | exact .inl rfl | exact .inr rfl)) (dgs_cons (dg_name (i := 5) nd rfl (by first | exact .inl rfl | exact .inr rfl)) (dgs_nil)))) (dgs_nil)))))
    (dss_one (ds_ret (de_and (de_cmp o_lt (dv 5) (de_ix o_ix (dv 1) (dv 4))) (de_one (de_cmp o_ge (dv 3) (de_ix o_ix (dv 1) (dv 2)))))))
abbrev s_orphans : Stmt := topS 16
theorem sc_orphans : FnScope ["history", "line", "trips", "message"] ["history", "line"] (defScope s_orphans) := ⟨rfl, rfl, rfl, by decide +kernel, rfl, by decide +kernel, by decide +kernel⟩
set_option maxHeartbeats 4000000 in
theorem der_orphans {P : Program} {w : World} {K : PySem.W.Frag} {mg : Str → Option Value} {base : Heap} {f : Addr} {fd : FuncData} (F : Fun K "orphans" "orphans" s_orphans f fd) (D_is_orphan : DFo P w K mg base 1 "is_orphan" 2 (dFn 6 B_is_orphan_8604)) (D_trips_of : DFo P w K mg base 2 "trips_of" 1 (dFn 5 B_trips_of_ea9a)) (m_tuple : mg "tuple" = none): FnOk P w K mg base CX0 3 f fd ["history", "line"] (lP ⟨P, w, K⟩ 2 (dFn 4 B_orphans_963b)) := by
  refine fn_o F sc_orphans rfl fun cdv A outer s H E hr => ?_
  have nd := sc_orphans.nd
  have u64 := hr.units
  have u65 : (A.deeper (envOfC "orphans" (defScope s_orphans) s.heap.objs.size f cdv)).units + 65 < cLine := by have := hr.un; omega
  have u1 : (A.deeper (envOfC "orphans" (defScope s_orphans) s.heap.objs.size f cdv)).units + 1 < cLine := by have := hr.un; omega
  unfold B_orphans_963b
  exact dss_cons (ds_set (i := 2) nd rfl (by first | exact .inl rfl | exact .inr rfl) (de_callo D_trips_of (hr.mono (by decide)) (by rfl) (da_cons (dv 0) (da_nil))))
    (dss_one (ds_ret (de_callTy b_tuple (by rfl) m_tuple (by decide +kernel) (da_cons (de_lc (own := [("message", 3)]) rfl nd (di_keys (dv 2)) (blkOk_by (by first | decide +kernel | rfl)) (by decide) (fun _ _ _ _ _ => dg_name (i := 3) nd rfl (by first | exact .inl rfl | exact .inr rfl)) (fun _ _ _ _ _ => dts_one (dt_val (de_callo D_is_orphan (hr.mono (by decide)) (by rfl) (da_cons (de_dix u1 (dv 2) (dv 3)) (da_cons (dv 1) (da_nil)))))) (fun _ _ _ _ _ => dv 3)) (da_nil)))))
abbrev s_is_consistent : Stmt := topS 18
theorem sc_is_consistent : FnScope ["history", "line"] ["history", "line"] (defScope s_is_consistent) := ⟨rfl, rfl, rfl, by decide +kernel, rfl, by decide +kernel, by decide +kernel⟩
set_option maxHeartbeats 4000000 in
theorem der_is_consistent {P : Program} {w : World} {K : PySem.W.Frag} {mg : Str → Option Value} {base : Heap} {f : Addr} {fd : FuncData} (F : Fun K "is_consistent" "is_consistent" s_is_consistent f fd) (D_orphans : DFo P w K mg base 3 "orphans" 2 (dFn 4 B_orphans_963b)) (m_len : mg "len" = none): FnOk P w K mg base CX0 4 f fd ["history", "line"] (lP ⟨P, w, K⟩ 2 (dFn 2 B_is_consistent_91aa)) := by
  refine fn_o F sc_is_consistent rfl fun cdv A outer s H E hr => ?_
  have nd := sc_is_consistent.nd
  have u64 := hr.units
  have u65 : (A.deeper (envOfC "is_consistent" (defScope s_is_consistent) s.heap.objs.size f cdv)).units + 65 < cLine := by have := hr.un; omega
  have u1 : (A.deeper (envOfC "is_consistent" (defScope s_is_consistent) s.heap.objs.size f cdv)).units + 1 < cLine := by have := hr.un; omega
  unfold B_is_consistent_91aa
  exact dss_one (ds_ret (de_cmp (o_eq u64) (de_callB b_len (by rfl) m_len PySem.boot_len (da_cons (de_callo D_orphans (hr.mono (by decide)) (by rfl) (da_cons (dv 0) (da_cons (dv 1) (da_nil)))) (da_nil))) (de_int)))
abbrev s_is_line_with : Stmt := topS 38
theorem sc_is_line_with : FnScope ["history", "states", "value", "process", "number"] ["history", "states", "value"] (defScope s_is_line_with) := ⟨rfl, rfl, rfl, by decide +kernel, rfl, by decide +kernel, by decide +kernel⟩
set_option maxHeartbeats 4000000 in
theorem der_is_line_with {P : Program} {w : World} {K : PySem.W.Frag} {mg : Str → Option Value} {base : Heap} {f : Addr} {fd : FuncData} (F : Fun K "is_line_with" "is_line_with" s_is_line_with f fd) (D_is_line : DFo P w K mg base 3 "is_line" 2 (dFn 5 B_is_line_5402)) (D_is_consistent : DFo P w K mg base 4 "is_consistent" 2 (dFn 2 B_is_consistent_91aa)) (m_all : mg "all" = none): FnOk P w K mg base CX0 5 f fd ["history", "states", "value"] (lP ⟨P, w, K⟩ 3 (dFn 5 B_is_line_with_b7a8)) := by
  refine fn_o F sc_is_line_with rfl fun cdv A outer s H E hr => ?_
  have nd := sc_is_line_with.nd
  have u64 := hr.units
  have u65 : (A.deeper (envOfC "is_line_with" (defScope s_is_line_with) s.heap.objs.size f cdv)).units + 65 < cLine := by have := hr.un; omega
  have u1 : (A.deeper (envOfC "is_line_with" (defScope s_is_line_with) s.heap.objs.size f cdv)).units + 1 < cLine := by have := hr.un; omega
  unfold B_is_line_with_b7a8
  exact dss_one (ds_ret (de_and (de_callo D_is_line (hr.mono (by decide)) (by rfl) (da_cons (dv 0) (da_cons (dv 2) (da_nil)))) (de_and (de_callo D_is_consistent (hr.mono (by decide)) (by rfl) (da_cons (dv 0) (da_cons (dv 2) (da_nil)))) (de_one (de_callB (b_all rfl) (by rfl) m_all (by decide +kernel) (da_cons (de_lc (own := [("process", 3), ("number", 4)]) rfl nd (di_val (dv 1)) (blkOk_by (by first | decide +kernel | rfl)) (by decide) (fun _ _ _ _ _ => dg_tup rfl (dgs_cons (dg_name (i := 3) nd rfl (by first | exact .inl rfl | exact .inr rfl)) (dgs_cons (dg_name (i := 4) nd rfl (by first | exact .inl rfl | exact .inr rfl)) (dgs_nil)))) (fun _ _ _ _ _ => dts_nil) (fun _ _ _ _ _ => de_cmp (o_eq u64) (de_ix o_ix (dv 2) (dv 3)) (dv 4))) (da_nil)))))))
abbrev s_verdict_holds : Stmt := topS 37
theorem sc_verdict_holds : FnScope ["history", "states", "value", "one", "other", "messages"] ["history", "states", "value"] (defScope s_verdict_holds) := ⟨rfl, rfl, rfl, by decide +kernel, rfl, by decide +kernel, by decide +kernel⟩
set_option maxHeartbeats 4000000 in
theorem der_verdict_holds {P : Program} {w : World} {K : PySem.W.Frag} {mg : Str → Option Value} {base : Heap} {f : Addr} {fd : FuncData} (F : Fun K "verdict_holds" "verdict_holds" s_verdict_holds f fd) (D_is_given : DFo P w K mg base 2 "is_given" 2 (dFn 3 B_is_given_c32f)) (D_is_zigzag : DFo P w K mg base 3 "is_zigzag" 4 (dFn 7 B_is_zigzag_87da)) (D_is_line_with : DFo P w K mg base 5 "is_line_with" 3 (dFn 5 B_is_line_with_b7a8)) (m_len : mg "len" = none) (m_tuple : mg "tuple" = none) (m_isinstance : mg "isinstance" = none): FnOk P w K mg base CX0 6 f fd ["history", "states", "value"] (lP ⟨P, w, K⟩ 3 (dFn 6 B_verdict_holds_e52c)) := by
  refine fn_o F sc_verdict_holds rfl fun cdv A outer s H E hr => ?_
  have nd := sc_verdict_holds.nd
  have u64 := hr.units
  have u65 : (A.deeper (envOfC "verdict_holds" (defScope s_verdict_holds) s.heap.objs.size f cdv)).units + 65 < cLine := by have := hr.un; omega
  have u1 : (A.deeper (envOfC "verdict_holds" (defScope s_verdict_holds) s.heap.objs.size f cdv)).units + 1 < cLine := by have := hr.un; omega
  unfold B_verdict_holds_e52c
  exact dss_cons (ds_if (dt_not (dt_val (de_callB b_isi (by rfl) m_isinstance (by decide +kernel) (da_cons (dv 2) (da_cons (de_ty (by rfl) m_tuple (by decide +kernel)) (da_nil)))))) (dss_one (ds_ret (de_bl))) (dss_nil))
    (dss_cons (ds_if (DW.dt (dw_and (dt_cmp (o_eq u64) (de_callB b_len (by rfl) m_len PySem.boot_len (da_cons (dv 2) (da_nil))) (de_int)) (dw_and1 (dt_cmp (o_eq u64) (de_ix o_ix (dv 2) (de_int)) (de_str))))) (dss_one (ds_ret (de_callo D_is_line_with (hr.mono (by decide)) (by rfl) (da_cons (dv 0) (da_cons (dv 1) (da_cons (de_ix o_ix (dv 2) (de_int)) (da_nil))))))) (dss_nil))
    (dss_cons (ds_if (DW.dt (dw_and (dt_cmp (o_eq u64) (de_callB b_len (by rfl) m_len PySem.boot_len (da_cons (dv 2) (da_nil))) (de_int)) (dw_and1 (dt_cmp (o_eq u64) (de_ix o_ix (dv 2) (de_int)) (de_str))))) (dss_cons (ds_asg (b := true) (de_sl (dv 2) (do_some (de_int)) (do_none)) (dg_tup rfl (dgs_cons (dg_name (i := 3) nd rfl (by first | exact .inl rfl | exact .inr rfl)) (dgs_cons (dg_name (i := 4) nd rfl (by first | exact .inl rfl | exact .inr rfl)) (dgs_cons (dg_name (i := 5) nd rfl (by first | exact .inl rfl | exact .inr rfl)) (dgs_nil))))))
    (dss_one (ds_ret (de_and (de_callo D_is_given (hr.mono (by decide)) (by rfl) (da_cons (dv 1) (da_cons (dv 3) (da_nil)))) (de_and (de_callo D_is_given (hr.mono (by decide)) (by rfl) (da_cons (dv 1) (da_cons (dv 4) (da_nil)))) (de_one (de_callo D_is_zigzag (hr.mono (by decide)) (by rfl) (da_cons (dv 0) (da_cons (dv 3) (da_cons (dv 4) (da_cons (dv 5) (da_nil)))))))))))) (dss_nil))
    (dss_one (ds_ret (de_bl)))))
abbrev s__law_with : Stmt := topS 53
theorem sc__law_with : FnScope ["_law_cuts", "_law_some", "_law_cut", "_law_pair"] ["_law_cuts", "_law_some"] (defScope s__law_with) := ⟨rfl, rfl, rfl, by decide +kernel, rfl, by decide +kernel, by decide +kernel⟩
set_option maxHeartbeats 4000000 in
theorem der__law_with {P : Program} {w : World} {K : PySem.W.Frag} {mg : Str → Option Value} {base : Heap} {f : Addr} {fd : FuncData} (F : Fun K "_law_with" "_law_with" s__law_with f fd) : FnOk P w K mg base CX0 1 f fd ["_law_cuts", "_law_some"] (lP ⟨P, w, K⟩ 2 (dFn 4 B_law_with_a200)) := by
  refine fn_o F sc__law_with rfl fun cdv A outer s H E hr => ?_
  have nd := sc__law_with.nd
  have u64 := hr.units
  have u65 : (A.deeper (envOfC "_law_with" (defScope s__law_with) s.heap.objs.size f cdv)).units + 65 < cLine := by have := hr.un; omega
  have u1 : (A.deeper (envOfC "_law_with" (defScope s__law_with) s.heap.objs.size f cdv)).units + 1 < cLine := by have := hr.un; omega
  unfold B_law_with_a200
  exact dss_one (ds_ret (de_lc (own := [("_law_cut", 2)]) rfl nd (di_val (dv 0)) (blkOk_by (by first | decide +kernel | rfl)) (by decide) (fun _ _ _ _ _ => dg_name (i := 2) nd rfl (by first | exact .inl rfl | exact .inr rfl)) (fun _ _ _ _ _ => dts_one (dt_cmp (o_eq u64) (de_lc (own := [("_law_pair", 3)]) rfl nd (di_val (dv 1)) (blkOk_by (by first | decide +kernel | rfl)) (by decide) (fun _ _ _ _ _ => dg_name (i := 3) nd rfl (by first | exact .inl rfl | exact .inr rfl)) (fun _ _ _ _ _ => dts_one (dt_cmp (o_ne u64) (de_ix o_ix (dv 2) (de_ix o_ix (dv 3) (de_int))) (de_ix o_ix (dv 3) (de_int)))) (fun _ _ _ _ _ => dv 3)) (de_lst (da_nil)))) (fun _ _ _ _ _ => dv 2)))
abbrev s_lowered : Stmt := topS 25
theorem sc_lowered : FnScope ["trips", "high", "numbers", "changed", "trip", "receiver", "received"] ["trips", "high"] (defScope s_lowered) := ⟨rfl, rfl, rfl, by decide +kernel, rfl, by decide +kernel, by decide +kernel⟩
set_option maxHeartbeats 4000000 in
theorem der_lowered {P : Program} {w : World} {K : PySem.W.Frag} {mg : Str → Option Value} {base : Heap} {f : Addr} {fd : FuncData} (F : Fun K "lowered" "lowered" s_lowered f fd) (D_is_orphan : DFo P w K mg base 1 "is_orphan" 2 (dFn 6 B_is_orphan_8604)) (m_tuple : mg "tuple" = none) (m_list : mg "list" = none): FnOk P w K mg base CX0 2 f fd ["trips", "high"] (lP ⟨P, w, K⟩ 2 (dFn 7 B_lowered_c6aa)) := by
  refine fn_o F sc_lowered rfl fun cdv A outer s H E hr => ?_
  have nd := sc_lowered.nd
  have u64 := hr.units
  have u65 : (A.deeper (envOfC "lowered" (defScope s_lowered) s.heap.objs.size f cdv)).units + 65 < cLine := by have := hr.un; omega
  have u1 : (A.deeper (envOfC "lowered" (defScope s_lowered) s.heap.objs.size f cdv)).units + 1 < cLine := by have := hr.un; omega
  unfold B_lowered_c6aa
  exact dss_cons (ds_set (i := 2) nd rfl (by first | exact .inl rfl | exact .inr rfl) (de_callTy b_list (by rfl) m_list (by decide +kernel) (da_cons (dv 1) (da_nil))))
    (dss_cons (ds_set (i := 3) nd rfl (by first | exact .inl rfl | exact .inr rfl) (de_bl))
    (dss_cons (ds_while PassesOwn.never (dt_val (dv 3)) (dss_cons (ds_set (i := 3) nd rfl (by first | exact .inl rfl | exact .inr rfl) (de_bl))
    (dss_one (ds_for PassesOwn.never rfl (di_values (dv 0)) (dg_name (i := 4) nd rfl (by first | exact .inl rfl | exact .inr rfl)) (dss_one (ds_if (dt_val (de_callo D_is_orphan (hr.mono (by decide)) (by rfl) (da_cons (dv 4) (da_cons (dv 2) (da_nil))))) (dss_cons (ds_asg (b := true) (de_ix o_ix (dv 4) (de_int)) (dg_tup rfl (dgs_cons (dg_name (i := 5) nd rfl (by first | exact .inl rfl | exact .inr rfl)) (dgs_cons (dg_name (i := 6) nd rfl (by first | exact .inl rfl | exact .inr rfl)) (dgs_nil)))))
    (dss_cons (ds_asg (b := true) (dv 6) (dg_sub (dv 2) (dv 5)))
    (dss_one (ds_set (i := 3) nd rfl (by first | exact .inl rfl | exact .inr rfl) (de_bl))))) (dss_nil)))))))
    (dss_one (ds_ret (de_callTy b_tuple (by rfl) m_tuple (by decide +kernel) (da_cons (dv 2) (da_nil)))))))
abbrev s_raised : Stmt := topS 24
theorem sc_raised : FnScope ["trips", "low", "numbers", "changed", "trip", "sender", "sent"] ["trips", "low"] (defScope s_raised) := ⟨rfl, rfl, rfl, by decide +kernel, rfl, by decide +kernel, by decide +kernel⟩
set_option maxHeartbeats 4000000 in
theorem der_raised {P : Program} {w : World} {K : PySem.W.Frag} {mg : Str → Option Value} {base : Heap} {f : Addr} {fd : FuncData} (F : Fun K "raised" "raised" s_raised f fd) (D_is_orphan : DFo P w K mg base 1 "is_orphan" 2 (dFn 6 B_is_orphan_8604)) (m_tuple : mg "tuple" = none) (m_list : mg "list" = none): FnOk P w K mg base CX0 2 f fd ["trips", "low"] (lP ⟨P, w, K⟩ 2 (dFn 7 B_raised_352a)) := by
  refine fn_o F sc_raised rfl fun cdv A outer s H E hr => ?_
  have nd := sc_raised.nd
  have u64 := hr.units
  have u65 : (A.deeper (envOfC "raised" (defScope s_raised) s.heap.objs.size f cdv)).units + 65 < cLine := by have := hr.un; omega
  have u1 : (A.deeper (envOfC "raised" (defScope s_raised) s.heap.objs.size f cdv)).units + 1 < cLine := by have := hr.un; omega
  unfold B_raised_352a
  exact dss_cons (ds_set (i := 2) nd rfl (by first | exact .inl rfl | exact .inr rfl) (de_callTy b_list (by rfl) m_list (by decide +kernel) (da_cons (dv 1) (da_nil))))
    (dss_cons (ds_set (i := 3) nd rfl (by first | exact .inl rfl | exact .inr rfl) (de_bl))
    (dss_cons (ds_while PassesOwn.never (dt_val (dv 3)) (dss_cons (ds_set (i := 3) nd rfl (by first | exact .inl rfl | exact .inr rfl) (de_bl))
    (dss_one (ds_for PassesOwn.never rfl (di_values (dv 0)) (dg_name (i := 4) nd rfl (by first | exact .inl rfl | exact .inr rfl)) (dss_one (ds_if (dt_val (de_callo D_is_orphan (hr.mono (by decide)) (by rfl) (da_cons (dv 4) (da_cons (dv 2) (da_nil))))) (dss_cons (ds_asg (b := true) (de_ix o_ix (dv 4) (de_int)) (dg_tup rfl (dgs_cons (dg_name (i := 5) nd rfl (by first | exact .inl rfl | exact .inr rfl)) (dgs_cons (dg_name (i := 6) nd rfl (by first | exact .inl rfl | exact .inr rfl)) (dgs_nil)))))
    (dss_cons (ds_asg (b := true) (de_bin o_add (dv 6) (de_int)) (dg_sub (dv 2) (dv 5)))
    (dss_one (ds_set (i := 3) nd rfl (by first | exact .inl rfl | exact .inr rfl) (de_bl))))) (dss_nil)))))))
    (dss_one (ds_ret (de_callTy b_tuple (by rfl) m_tuple (by decide +kernel) (da_cons (dv 2) (da_nil)))))))
abbrev s_limits_with : Stmt := topS 21
theorem sc_limits_with : FnScope ["history", "states", "low", "high", "process", "number", "row"] ["history", "states"] (defScope s_limits_with) := ⟨rfl, rfl, rfl, by decide +kernel, rfl, by decide +kernel, by decide +kernel⟩
set_option maxHeartbeats 4000000 in
theorem der_limits_with {P : Program} {w : World} {K : PySem.W.Frag} {mg : Str → Option Value} {base : Heap} {f : Addr} {fd : FuncData} (F : Fun K "limits_with" "limits_with" s_limits_with f fd) (D_state_numbers : DFo P w K mg base 1 "state_numbers" 1 (dFn 2 B_state_numbers_78d0)) (m_tuple : mg "tuple" = none) (m_min : mg "min" = none) (m_max : mg "max" = none) (m_list : mg "list" = none): FnOk P w K mg base CX0 2 f fd ["history", "states"] (lP ⟨P, w, K⟩ 2 (dFn 7 B_limits_with_c088)) := by
  refine fn_o F sc_limits_with rfl fun cdv A outer s H E hr => ?_
  have nd := sc_limits_with.nd
  have u64 := hr.units
  have u65 : (A.deeper (envOfC "limits_with" (defScope s_limits_with) s.heap.objs.size f cdv)).units + 65 < cLine := by have := hr.un; omega
  have u1 : (A.deeper (envOfC "limits_with" (defScope s_limits_with) s.heap.objs.size f cdv)).units + 1 < cLine := by have := hr.un; omega
  unfold B_limits_with_c088
  exact dss_cons (ds_setLc (i := 2) (own := [("row", 6)]) rfl nd rfl rfl (sw_true rfl rfl rfl (by decide +kernel)) (di_val (dv 0)) (blkOk_by (by first | decide +kernel | rfl)) (by decide) (fun _ _ _ _ _ => dg_name (i := 6) nd rfl (by first | exact .inl rfl | exact .inr rfl)) (fun _ _ _ _ _ => dts_nil) (fun _ _ _ _ _ => de_int))
    (dss_cons (ds_set (i := 3) nd rfl (by first | exact .inl rfl | exact .inr rfl) (de_callTy b_list (by rfl) m_list (by decide +kernel) (da_cons (de_callo D_state_numbers (hr.mono (by decide)) (by rfl) (da_cons (dv 0) (da_nil))) (da_nil))))
    (dss_cons (ds_for PassesOwn.never rfl (di_val (dv 1)) (dg_tup rfl (dgs_cons (dg_name (i := 4) nd rfl (by first | exact .inl rfl | exact .inr rfl)) (dgs_cons (dg_name (i := 5) nd rfl (by first | exact .inl rfl | exact .inr rfl)) (dgs_nil)))) (dss_cons (ds_asg (b := true) (de_callB (b_max2 rfl) (by rfl) m_max (by decide +kernel) (da_cons (de_ix o_ix (dv 2) (dv 4)) (da_cons (dv 5) (da_nil)))) (dg_sub (dv 2) (dv 4)))
    (dss_one (ds_asg (b := true) (de_callB (b_min2 rfl) (by rfl) m_min (by decide +kernel) (da_cons (de_ix o_ix (dv 3) (dv 4)) (da_cons (dv 5) (da_nil)))) (dg_sub (dv 3) (dv 4))))))
    (dss_one (ds_ret (de_tup (da_cons (de_callTy b_tuple (by rfl) m_tuple (by decide +kernel) (da_cons (dv 2) (da_nil))) (da_cons (de_callTy b_tuple (by rfl) m_tuple (by decide +kernel) (da_cons (dv 3) (da_nil))) (da_nil))))))))
abbrev s_nearest : Stmt := topS 32
theorem sc_nearest : FnScope ["messages", "distances", "message"] ["messages", "distances"] (defScope s_nearest) := ⟨rfl, rfl, rfl, by decide +kernel, rfl, by decide +kernel, by decide +kernel⟩
set_option maxHeartbeats 4000000 in
theorem der_nearest {P : Program} {w : World} {K : PySem.W.Frag} {mg : Str → Option Value} {base : Heap} {f : Addr} {fd : FuncData} (F : Fun K "nearest" "nearest" s_nearest f fd)  (m_min : mg "min" = none): FnOk P w K mg base CX0 1 f fd ["messages", "distances"] (lP ⟨P, w, K⟩ 2 (dFn 3 B_nearest_cc72)) := by
  refine fn_o F sc_nearest rfl fun cdv A outer s H E hr => ?_
  have nd := sc_nearest.nd
  have u64 := hr.units
  have u65 : (A.deeper (envOfC "nearest" (defScope s_nearest) s.heap.objs.size f cdv)).units + 65 < cLine := by have := hr.un; omega
  have u1 : (A.deeper (envOfC "nearest" (defScope s_nearest) s.heap.objs.size f cdv)).units + 1 < cLine := by have := hr.un; omega
  unfold B_nearest_cc72
  exact dss_one (ds_ret (de_ix o_ix (de_callB (b_minD rfl u65) (by rfl) m_min (by decide +kernel) (da_cons (de_lc (own := [("message", 2)]) rfl nd (di_val (dv 0)) (blkOk_by (by first | decide +kernel | rfl)) (by decide) (fun _ _ _ _ _ => dg_name (i := 2) nd rfl (by first | exact .inl rfl | exact .inr rfl)) (fun _ _ _ _ _ => dts_nil) (fun _ _ _ _ _ => de_tup (da_cons (de_dix u1 (dv 1) (dv 2)) (da_cons (dv 2) (da_nil))))) (da_nil))) (de_int)))
abbrev s_distances_to : Stmt := topS 30
theorem sc_distances_to : FnScope ["trips", "steps", "state", "distances", "count", "found", "message", "then"] ["trips", "steps", "state"] (defScope s_distances_to) := ⟨rfl, rfl, rfl, by decide +kernel, rfl, by decide +kernel, by decide +kernel⟩
set_option maxHeartbeats 4000000 in
theorem der_distances_to {P : Program} {w : World} {K : PySem.W.Frag} {mg : Str → Option Value} {base : Heap} {f : Addr} {fd : FuncData} (F : Fun K "distances_to" "distances_to" s_distances_to f fd) (D_is_received_before : DFo P w K mg base 1 "is_received_before" 2 (dFn 6 B_is_received_before_f543)) (m_any : mg "any" = none): FnOk P w K mg base CX0 2 f fd ["trips", "steps", "state"] (lP ⟨P, w, K⟩ 3 (dFn 8 B_distances_to_ec2b)) := by
  refine fn_o F sc_distances_to rfl fun cdv A outer s H E hr => ?_
  have nd := sc_distances_to.nd
  have u64 := hr.units
  have u65 : (A.deeper (envOfC "distances_to" (defScope s_distances_to) s.heap.objs.size f cdv)).units + 65 < cLine := by have := hr.un; omega
  have u1 : (A.deeper (envOfC "distances_to" (defScope s_distances_to) s.heap.objs.size f cdv)).units + 1 < cLine := by have := hr.un; omega
  unfold B_distances_to_ec2b
  exact dss_cons (ds_set (i := 3) nd rfl (by first | exact .inl rfl | exact .inr rfl) (de_dnew))
    (dss_cons (ds_set (i := 4) nd rfl (by first | exact .inl rfl | exact .inr rfl) (de_int))
    (dss_cons (ds_setLc (i := 5) (own := [("message", 6)]) rfl nd rfl rfl (sw_true rfl rfl rfl (by decide +kernel)) (di_keys (dv 0)) (blkOk_by (by first | decide +kernel | rfl)) (by decide) (fun _ _ _ _ _ => dg_name (i := 6) nd rfl (by first | exact .inl rfl | exact .inr rfl)) (fun _ _ _ _ _ => dts_one (dt_val (de_callo D_is_received_before (hr.mono (by decide)) (by rfl) (da_cons (de_dix u1 (dv 0) (dv 6)) (da_cons (dv 2) (da_nil)))))) (fun _ _ _ _ _ => dv 6))
    (dss_cons (ds_while PassesOwn.never (dt_truL (dv 5)) (dss_cons (ds_for PassesOwn.never rfl (di_val (dv 5)) (dg_name (i := 6) nd rfl (by first | exact .inl rfl | exact .inr rfl)) (dss_one (ds_dput u1 (dv 3) (dv 6) (dv 4))))
    (dss_cons (ds_aug (i := 4) nd rfl (by first | exact .inl rfl | exact .inr rfl) o_iadd (de_int))
    (dss_one (ds_setLc (i := 5) (own := [("message", 6)]) rfl nd rfl rfl (sw_true rfl rfl rfl (by decide +kernel)) (di_keys (dv 0)) (blkOk_by (by first | decide +kernel | rfl)) (by decide) (fun _ _ _ _ _ => dg_name (i := 6) nd rfl (by first | exact .inl rfl | exact .inr rfl)) (fun _ _ _ _ _ => dts_one (DW.dt (dw_and (dt_dnin u1 (dv 6) (dv 3)) (dw_and1 (dt_val (de_callB (b_any rfl) (by rfl) m_any (by decide +kernel) (da_cons (de_lc (own := [("then", 7)]) rfl nd (di_val (de_dix u1 (dv 1) (dv 6))) (blkOk_by (by first | decide +kernel | rfl)) (by decide) (fun _ _ _ _ _ => dg_name (i := 7) nd rfl (by first | exact .inl rfl | exact .inr rfl)) (fun _ _ _ _ _ => dts_nil) (fun _ _ _ _ _ => de_din u1 (dv 7) (dv 3))) (da_nil)))))))) (fun _ _ _ _ _ => dv 6))))))
    (dss_one (ds_ret (dv 3))))))
abbrev s_zigzag_steps : Stmt := topS 29
theorem sc_zigzag_steps : FnScope ["trips", "message", "then"] ["trips"] (defScope s_zigzag_steps) := ⟨rfl, rfl, rfl, by decide +kernel, rfl, by decide +kernel, by decide +kernel⟩
set_option maxHeartbeats 4000000 in
theorem der_zigzag_steps {P : Program} {w : World} {K : PySem.W.Frag} {mg : Str → Option Value} {base : Heap} {f : Addr} {fd : FuncData} (F : Fun K "zigzag_steps" "zigzag_steps" s_zigzag_steps f fd) (D_is_step : DFo P w K mg base 2 "is_step" 3 (dFn 3 B_is_step_5234)): FnOk P w K mg base CX0 3 f fd ["trips"] (lP ⟨P, w, K⟩ 1 (dFn 3 B_zigzag_steps_bb25)) := by
  refine fn_o F sc_zigzag_steps rfl fun cdv A outer s H E hr => ?_
  have nd := sc_zigzag_steps.nd
  have u64 := hr.units
  have u65 : (A.deeper (envOfC "zigzag_steps" (defScope s_zigzag_steps) s.heap.objs.size f cdv)).units + 65 < cLine := by have := hr.un; omega
  have u1 : (A.deeper (envOfC "zigzag_steps" (defScope s_zigzag_steps) s.heap.objs.size f cdv)).units + 1 < cLine := by have := hr.un; omega
  unfold B_zigzag_steps_bb25
  exact dss_one (ds_ret (de_dc (own := [("message", 1)]) rfl nd (di_keys (dv 0)) (blkOk_by (by first | decide +kernel | rfl)) (by decide) (fun _ _ _ _ _ => dg_name (i := 1) nd rfl (by first | exact .inl rfl | exact .inr rfl)) (fun _ _ _ _ _ => dts_nil) (fun _ _ _ _ _ => dv 1) (fun _ _ _ _ _ => de_lc (own := [("then", 2)]) rfl nd (di_keys (dv 0)) (blkOk_by (by first | decide +kernel | rfl)) (by decide) (fun _ _ _ _ _ => dg_name (i := 2) nd rfl (by first | exact .inl rfl | exact .inr rfl)) (fun _ _ _ _ _ => dts_one (dt_val (de_callo D_is_step (hr.mono (by decide)) (by rfl) (da_cons (dv 0) (da_cons (dv 1) (da_cons (dv 2) (da_nil))))))) (fun _ _ _ _ _ => dv 2))))
abbrev s_find_zigzag : Stmt := topS 31
theorem sc_find_zigzag : FnScope ["history", "one", "other", "trips", "steps", "distances", "choices", "zigzag", "message", "then"] ["history", "one", "other"] (defScope s_find_zigzag) := ⟨rfl, rfl, rfl, by decide +kernel, rfl, by decide +kernel, by decide +kernel⟩
set_option maxHeartbeats 4000000 in
theorem der_find_zigzag {P : Program} {w : World} {K : PySem.W.Frag} {mg : Str → Option Value} {base : Heap} {f : Addr} {fd : FuncData} (F : Fun K "find_zigzag" "find_zigzag" s_find_zigzag f fd) (D_nearest : DFo P w K mg base 1 "nearest" 2 (dFn 3 B_nearest_cc72)) (D_is_sent_behind : DFo P w K mg base 1 "is_sent_behind" 2 (dFn 6 B_is_sent_behind_1a14)) (D_distances_to : DFo P w K mg base 2 "distances_to" 3 (dFn 8 B_distances_to_ec2b)) (D_zigzag_steps : DFo P w K mg base 3 "zigzag_steps" 1 (dFn 3 B_zigzag_steps_bb25)) (D_trips_of : DFo P w K mg base 2 "trips_of" 1 (dFn 5 B_trips_of_ea9a)) (m_tuple : mg "tuple" = none): FnOk P w K mg base CX0 4 f fd ["history", "one", "other"] (lP ⟨P, w, K⟩ 3 (dFn 10 B_find_zigzag_09d6)) := by
  refine fn_o F sc_find_zigzag rfl fun cdv A outer s H E hr => ?_
  have nd := sc_find_zigzag.nd
  have u64 := hr.units
  have u65 : (A.deeper (envOfC "find_zigzag" (defScope s_find_zigzag) s.heap.objs.size f cdv)).units + 65 < cLine := by have := hr.un; omega
  have u1 : (A.deeper (envOfC "find_zigzag" (defScope s_find_zigzag) s.heap.objs.size f cdv)).units + 1 < cLine := by have := hr.un; omega
  unfold B_find_zigzag_09d6
  exact dss_cons (ds_set (i := 3) nd rfl (by first | exact .inl rfl | exact .inr rfl) (de_callo D_trips_of (hr.mono (by decide)) (by rfl) (da_cons (dv 0) (da_nil))))
    (dss_cons (ds_set (i := 4) nd rfl (by first | exact .inl rfl | exact .inr rfl) (de_callo D_zigzag_steps (hr.mono (by decide)) (by rfl) (da_cons (dv 3) (da_nil))))
    (dss_cons (ds_set (i := 5) nd rfl (by first | exact .inl rfl | exact .inr rfl) (de_frz (de_callo D_distances_to (hr.mono (by decide)) (by rfl) (da_cons (dv 3) (da_cons (dv 4) (da_cons (dv 2) (da_nil)))))))
    (dss_cons (ds_setLc (i := 6) (own := [("message", 8)]) rfl nd rfl rfl (sw_true rfl rfl rfl (by decide +kernel)) (di_keys (dv 5)) (blkOk_by (by first | decide +kernel | rfl)) (by decide) (fun _ _ _ _ _ => dg_name (i := 8) nd rfl (by first | exact .inl rfl | exact .inr rfl)) (fun _ _ _ _ _ => dts_one (dt_val (de_callo D_is_sent_behind (hr.mono (by decide)) (by rfl) (da_cons (de_dix u1 (dv 3) (dv 8)) (da_cons (dv 1) (da_nil)))))) (fun _ _ _ _ _ => dv 8))
    (dss_cons (ds_if (dt_not (dt_truL (dv 6))) (dss_one (ds_ret (de_non))) (dss_nil))
    (dss_cons (ds_set (i := 7) nd rfl (by first | exact .inl rfl | exact .inr rfl) (de_lst (da_cons (de_callo D_nearest (hr.mono (by decide)) (by rfl) (da_cons (dv 6) (da_cons (dv 5) (da_nil)))) (da_nil))))
    (dss_cons (ds_while PassesOwn.never (dt_cmp o_gt (de_dix u1 (dv 5) (de_ix o_ix (dv 7) (de_un o_neg (de_int)))) (de_int)) (dss_cons (ds_setLc (i := 6) (own := [("then", 9)]) rfl nd rfl rfl (sw_true rfl rfl rfl (by decide +kernel)) (di_val (de_dix u1 (dv 4) (de_ix o_ix (dv 7) (de_un o_neg (de_int))))) (blkOk_by (by first | decide +kernel | rfl)) (by decide) (fun _ _ _ _ _ => dg_name (i := 9) nd rfl (by first | exact .inl rfl | exact .inr rfl)) (fun _ _ _ _ _ => dts_one (dt_din u1 (dv 9) (dv 5))) (fun _ _ _ _ _ => dv 9))
    (dss_one (ds_expr (de_mL PySem.F.slot_list_append PySem.F.type_list_append m_append (dv 7) (da_cons (de_callo D_nearest (hr.mono (by decide)) (by rfl) (da_cons (dv 6) (da_cons (dv 5) (da_nil)))) (da_nil)))))))
    (dss_one (ds_ret (de_callTy b_tuple (by rfl) m_tuple (by decide +kernel) (da_cons (dv 7) (da_nil)))))))))))
abbrev s_pair_apart : Stmt := topS 35
theorem sc_pair_apart : FnScope ["history", "states", "one", "other"] ["history", "states"] (defScope s_pair_apart) := ⟨rfl, rfl, rfl, by decide +kernel, rfl, by decide +kernel, by decide +kernel⟩
set_option maxHeartbeats 4000000 in
theorem der_pair_apart {P : Program} {w : World} {K : PySem.W.Frag} {mg : Str → Option Value} {base : Heap} {f : Addr} {fd : FuncData} (F : Fun K "pair_apart" "pair_apart" s_pair_apart f fd) (D_find_zigzag : DFo P w K mg base 4 "find_zigzag" 3 (dFn 10 B_find_zigzag_09d6)) (m_set : mg "set" = none) (m_sorted : mg "sorted" = none): FnOk P w K mg base CX0 5 f fd ["history", "states"] (lP ⟨P, w, K⟩ 2 (dFn 4 B_pair_apart_e180)) := by
  refine fn_o F sc_pair_apart rfl fun cdv A outer s H E hr => ?_
  have nd := sc_pair_apart.nd
  have u64 := hr.units
  have u65 : (A.deeper (envOfC "pair_apart" (defScope s_pair_apart) s.heap.objs.size f cdv)).units + 65 < cLine := by have := hr.un; omega
  have u1 : (A.deeper (envOfC "pair_apart" (defScope s_pair_apart) s.heap.objs.size f cdv)).units + 1 < cLine := by have := hr.un; omega
  unfold B_pair_apart_e180
  exact dss_cons (ds_for PassesOwn.never rfl (di_val (de_callB (b_sortedS rfl) (by rfl) m_sorted (by decide +kernel) (da_cons (de_callTy (b_setT rfl u64) (by rfl) m_set (by decide +kernel) (da_cons (dv 1) (da_nil))) (da_nil)))) (dg_name (i := 2) nd rfl (by first | exact .inl rfl | exact .inr rfl)) (dss_one (ds_for PassesOwn.never rfl (di_val (de_callB (b_sortedS rfl) (by rfl) m_sorted (by decide +kernel) (da_cons (de_callTy (b_setT rfl u64) (by rfl) m_set (by decide +kernel) (da_cons (dv 1) (da_nil))) (da_nil)))) (dg_name (i := 3) nd rfl (by first | exact .inl rfl | exact .inr rfl)) (dss_one (ds_if (dt_notN (de_callo D_find_zigzag (hr.mono (by decide)) (by rfl) (da_cons (dv 0) (da_cons (dv 2) (da_cons (dv 3) (da_nil)))))) (dss_one (ds_ret (de_tup (da_cons (dv 2) (da_cons (dv 3) (da_nil)))))) (dss_nil))))))
    (dss_one (ds_ret (de_non)))
abbrev s_process_of_two : Stmt := topS 34
theorem sc_process_of_two : FnScope ["history", "states", "process", "owner", "number"] ["history", "states"] (defScope s_process_of_two) := ⟨rfl, rfl, rfl, by decide +kernel, rfl, by decide +kernel, by decide +kernel⟩
set_option maxHeartbeats 4000000 in
theorem der_process_of_two {P : Program} {w : World} {K : PySem.W.Frag} {mg : Str → Option Value} {base : Heap} {f : Addr} {fd : FuncData} (F : Fun K "process_of_two" "process_of_two" s_process_of_two f fd)  (m_len : mg "len" = none) (m_range : mg "range" = none): FnOk P w K mg base CX0 1 f fd ["history", "states"] (lP ⟨P, w, K⟩ 2 (dFn 5 B_process_of_two_e443)) := by
  refine fn_o F sc_process_of_two rfl fun cdv A outer s H E hr => ?_
  have nd := sc_process_of_two.nd
  have u64 := hr.units
  have u65 : (A.deeper (envOfC "process_of_two" (defScope s_process_of_two) s.heap.objs.size f cdv)).units + 65 < cLine := by have := hr.un; omega
  have u1 : (A.deeper (envOfC "process_of_two" (defScope s_process_of_two) s.heap.objs.size f cdv)).units + 1 < cLine := by have := hr.un; omega
  unfold B_process_of_two_e443
  exact dss_cons (ds_for PassesOwn.never rfl (di_rg1 (by rfl) m_range (da_cons (de_callB b_len (by rfl) m_len PySem.boot_len (da_cons (dv 0) (da_nil))) (da_nil))) (dg_name (i := 2) nd rfl (by first | exact .inl rfl | exact .inr rfl)) (dss_one (ds_if (dt_cmp o_gt (de_callB b_lenI (by rfl) m_len PySem.boot_len (da_cons (de_si (own := [("owner", 3), ("number", 4)]) rfl nd (di_val (dv 1)) (blkOk_by (by first | decide +kernel | rfl)) (by decide) (fun _ _ _ _ _ => dg_tup rfl (dgs_cons (dg_name (i := 3) nd rfl (by first | exact .inl rfl | exact .inr rfl)) (dgs_cons (dg_name (i := 4) nd rfl (by first | exact .inl rfl | exact .inr rfl)) (dgs_nil)))) (fun _ _ _ _ _ => dts_one (dt_cmp (o_eq u64) (dv 3) (dv 2))) (fun _ _ _ _ _ => dv 4)) (da_nil))) (de_int)) (dss_one (ds_ret (dv 2))) (dss_nil))))
    (dss_one (ds_ret (de_non)))
abbrev s_line_through : Stmt := topS 33
theorem sc_line_through : FnScope ["history", "first", "states", "process", "pair", "low", "high"] ["history", "first", "states"] (defScope s_line_through) := ⟨rfl, rfl, rfl, by decide +kernel, rfl, by decide +kernel, by decide +kernel⟩
set_option maxHeartbeats 4000000 in
theorem der_line_through {P : Program} {w : World} {K : PySem.W.Frag} {mg : Str → Option Value} {base : Heap} {f : Addr} {fd : FuncData} (F : FunK K "line_through" s_line_through "first" (.bool true) f fd) (D_lowered : DFo P w K mg base 2 "lowered" 2 (dFn 7 B_lowered_c6aa)) (D_trips_of : DFo P w K mg base 2 "trips_of" 1 (dFn 5 B_trips_of_ea9a)) (D_raised : DFo P w K mg base 2 "raised" 2 (dFn 7 B_raised_352a)) (D_limits_with : DFo P w K mg base 2 "limits_with" 2 (dFn 7 B_limits_with_c088)) (D_pair_apart : DFo P w K mg base 5 "pair_apart" 2 (dFn 4 B_pair_apart_e180)) (D_process_of_two : DFo P w K mg base 1 "process_of_two" 2 (dFn 5 B_process_of_two_e443)) (hb : BK fd ["history"] "first" "states") : FnR P w K mg base CX0 6 f (fun vs H Q _ => lC ⟨P, w, K⟩ (dFnSK 1 (.bl true) 7 B_line_through_9b5f) vs H Q) := by
  refine fn_sk F sc_line_through hb rfl fun cdv A outer s H E hr => ?_
  have nd := sc_line_through.nd
  have u64 := hr.units
  have u65 : (A.deeper (envOfC "line_through" (defScope s_line_through) s.heap.objs.size f cdv)).units + 65 < cLine := by have := hr.un; omega
  have u1 : (A.deeper (envOfC "line_through" (defScope s_line_through) s.heap.objs.size f cdv)).units + 1 < cLine := by have := hr.un; omega
  unfold B_line_through_9b5f
  exact dss_cons (ds_set (i := 3) nd rfl (by first | exact .inl rfl | exact .inr rfl) (de_callo D_process_of_two (hr.mono (by decide)) (by rfl) (da_cons (dv 0) (da_cons (dv 2) (da_nil)))))
    (dss_cons (ds_if (dt_notN (dv 3)) (dss_one (ds_no)) (dss_nil))
    (dss_cons (ds_set (i := 4) nd rfl (by first | exact .inl rfl | exact .inr rfl) (de_callo D_pair_apart (hr.mono (by decide)) (by rfl) (da_cons (dv 0) (da_cons (dv 2) (da_nil)))))
    (dss_cons (ds_if (dt_notN (dv 4)) (dss_one (ds_no)) (dss_nil))
    (dss_cons (ds_asg (b := true) (de_callo D_limits_with (hr.mono (by decide)) (by rfl) (da_cons (dv 0) (da_cons (dv 2) (da_nil)))) (dg_tup rfl (dgs_cons (dg_name (i := 5) nd rfl (by first | exact .inl rfl | exact .inr rfl)) (dgs_cons (dg_name (i := 6) nd rfl (by first | exact .inl rfl | exact .inr rfl)) (dgs_nil)))))
    (dss_cons (ds_if (dt_val (dv 1)) (dss_one (ds_ret (de_callo D_raised (hr.mono (by decide)) (by rfl) (da_cons (de_callo D_trips_of (hr.mono (by decide)) (by rfl) (da_cons (dv 0) (da_nil))) (da_cons (dv 5) (da_nil)))))) (dss_nil))
    (dss_one (ds_ret (de_callo D_lowered (hr.mono (by decide)) (by rfl) (da_cons (de_callo D_trips_of (hr.mono (by decide)) (by rfl) (da_cons (dv 0) (da_nil))) (da_cons (dv 6) (da_nil)))))))))))
set_option maxHeartbeats 4000000 in
theorem derW_line_through {P : Program} {w : World} {K : PySem.W.Frag} {mg : Str → Option Value} {base : Heap} {f : Addr} {fd : FuncData} (F : FunK K "line_through" s_line_through "first" (.bool true) f fd) (D_lowered : DFo P w K mg base 2 "lowered" 2 (dFn 7 B_lowered_c6aa)) (D_trips_of : DFo P w K mg base 2 "trips_of" 1 (dFn 5 B_trips_of_ea9a)) (D_raised : DFo P w K mg base 2 "raised" 2 (dFn 7 B_raised_352a)) (D_limits_with : DFo P w K mg base 2 "limits_with" 2 (dFn 7 B_limits_with_c088)) (D_pair_apart : DFo P w K mg base 5 "pair_apart" 2 (dFn 4 B_pair_apart_e180)) (D_process_of_two : DFo P w K mg base 1 "process_of_two" 2 (dFn 5 B_process_of_two_e443)) (hb : BK fd ["history"] "first" "states") : FnRW P w K mg base CX0 6 f "first" (fun vs z H Q _ => lK ⟨P, w, K⟩ (dFnSW 1 7 B_line_through_9b5f) vs z H Q) := by
  refine fn_sw F sc_line_through hb rfl fun cdv A outer s H E hr => ?_
  have nd := sc_line_through.nd
  have u64 := hr.units
  have u65 : (A.deeper (envOfC "line_through" (defScope s_line_through) s.heap.objs.size f cdv)).units + 65 < cLine := by have := hr.un; omega
  have u1 : (A.deeper (envOfC "line_through" (defScope s_line_through) s.heap.objs.size f cdv)).units + 1 < cLine := by have := hr.un; omega
  unfold B_line_through_9b5f
  exact dss_cons (ds_set (i := 3) nd rfl (by first | exact .inl rfl | exact .inr rfl) (de_callo D_process_of_two (hr.mono (by decide)) (by rfl) (da_cons (dv 0) (da_cons (dv 2) (da_nil)))))
    (dss_cons (ds_if (dt_notN (dv 3)) (dss_one (ds_no)) (dss_nil))
    (dss_cons (ds_set (i := 4) nd rfl (by first | exact .inl rfl | exact .inr rfl) (de_callo D_pair_apart (hr.mono (by decide)) (by rfl) (da_cons (dv 0) (da_cons (dv 2) (da_nil)))))
    (dss_cons (ds_if (dt_notN (dv 4)) (dss_one (ds_no)) (dss_nil))
    (dss_cons (ds_asg (b := true) (de_callo D_limits_with (hr.mono (by decide)) (by rfl) (da_cons (dv 0) (da_cons (dv 2) (da_nil)))) (dg_tup rfl (dgs_cons (dg_name (i := 5) nd rfl (by first | exact .inl rfl | exact .inr rfl)) (dgs_cons (dg_name (i := 6) nd rfl (by first | exact .inl rfl | exact .inr rfl)) (dgs_nil)))))
    (dss_cons (ds_if (dt_val (dv 1)) (dss_one (ds_ret (de_callo D_raised (hr.mono (by decide)) (by rfl) (da_cons (de_callo D_trips_of (hr.mono (by decide)) (by rfl) (da_cons (dv 0) (da_nil))) (da_cons (dv 5) (da_nil)))))) (dss_nil))
    (dss_one (ds_ret (de_callo D_lowered (hr.mono (by decide)) (by rfl) (da_cons (de_callo D_trips_of (hr.mono (by decide)) (by rfl) (da_cons (dv 0) (da_nil))) (da_cons (dv 6) (da_nil)))))))))))
abbrev s__law_ends : Stmt := topS 51
theorem sc__law_ends : FnScope ["_law_rows", "_law_some", "_law_low"] ["_law_rows", "_law_some"] (defScope s__law_ends) := ⟨rfl, rfl, rfl, by decide +kernel, rfl, by decide +kernel, by decide +kernel⟩
set_option maxHeartbeats 4000000 in
theorem der__law_ends {P : Program} {w : World} {K : PySem.W.Frag} {mg : Str → Option Value} {base : Heap} {f : Addr} {fd : FuncData} (F : Fun K "_law_ends" "_law_ends" s__law_ends f fd) (D_line_through : DFs P w K mg base 6 "line_through" (dFnSK 1 (.bl true) 7 B_line_through_9b5f)) (DW_line_through : DFw P w K mg base 6 "line_through" "first" (dFnSW 1 7 B_line_through_9b5f)) (m_len : mg "len" = none): FnOk P w K mg base CX0 7 f fd ["_law_rows", "_law_some"] (lP ⟨P, w, K⟩ 2 (dFn 3 B_law_ends_4d72)) := by
  refine fn_o F sc__law_ends rfl fun cdv A outer s H E hr => ?_
  have nd := sc__law_ends.nd
  have u64 := hr.units
  have u65 : (A.deeper (envOfC "_law_ends" (defScope s__law_ends) s.heap.objs.size f cdv)).units + 65 < cLine := by have := hr.un; omega
  have u1 : (A.deeper (envOfC "_law_ends" (defScope s__law_ends) s.heap.objs.size f cdv)).units + 1 < cLine := by have := hr.un; omega
  unfold B_law_ends_4d72
  exact dss_cons (ds_if (dt_cmp (o_eq u64) (de_callB b_len (by rfl) m_len PySem.boot_len (da_cons (dv 1) (da_nil))) (de_int)) (dss_one (ds_ret (de_lst (da_cons (de_callS D_line_through (hr.mono (by decide)) (by rfl) (da_cons (dv 0) (da_nil))) (da_cons (de_callSW DW_line_through (hr.mono (by decide)) (by rfl) (da_cons (dv 0) (da_nil)) (de_bl)) (da_nil)))))) (dss_nil))
    (dss_cons (ds_if (dt_cmp (o_eq u64) (de_callB b_len (by rfl) m_len PySem.boot_len (da_cons (dv 1) (da_nil))) (de_int)) (dss_one (ds_ret (de_lst (da_cons (de_callS D_line_through (hr.mono (by decide)) (by rfl) (da_cons (dv 0) (da_cons (de_ix o_ix (dv 1) (de_int)) (da_nil)))) (da_cons (de_callSW DW_line_through (hr.mono (by decide)) (by rfl) (da_cons (dv 0) (da_cons (de_ix o_ix (dv 1) (de_int)) (da_nil))) (de_bl)) (da_nil)))))) (dss_nil))
    (dss_cons (ds_if (dt_cmp (o_eq u64) (de_callB b_len (by rfl) m_len PySem.boot_len (da_cons (dv 1) (da_nil))) (de_int)) (dss_one (ds_ret (de_lst (da_cons (de_callS D_line_through (hr.mono (by decide)) (by rfl) (da_cons (dv 0) (da_cons (de_ix o_ix (dv 1) (de_int)) (da_cons (de_ix o_ix (dv 1) (de_int)) (da_nil))))) (da_cons (de_callSW DW_line_through (hr.mono (by decide)) (by rfl) (da_cons (dv 0) (da_cons (de_ix o_ix (dv 1) (de_int)) (da_cons (de_ix o_ix (dv 1) (de_int)) (da_nil)))) (de_bl)) (da_nil)))))) (dss_nil))
    (dss_cons (ds_set (i := 2) nd rfl (by first | exact .inl rfl | exact .inr rfl) (de_callSW DW_line_through (hr.mono (by decide)) (by rfl) (da_cons (dv 0) (da_cons (de_ix o_ix (dv 1) (de_int)) (da_cons (de_ix o_ix (dv 1) (de_int)) (da_cons (de_ix o_ix (dv 1) (de_int)) (da_nil))))) (de_bl)))
    (dss_one (ds_ret (de_lst (da_cons (dv 2) (da_cons (de_callSW DW_line_through (hr.mono (by decide)) (by rfl) (da_cons (dv 0) (da_cons (de_ix o_ix (dv 1) (de_int)) (da_cons (de_ix o_ix (dv 1) (de_int)) (da_cons (de_ix o_ix (dv 1) (de_int)) (da_nil))))) (de_bl)) (da_nil)))))))))
abbrev s_least_between : Stmt := topS 22
theorem sc_least_between : FnScope ["trips", "low", "high", "line", "number", "most"] ["trips", "low", "high"] (defScope s_least_between) := ⟨rfl, rfl, rfl, by decide +kernel, rfl, by decide +kernel, by decide +kernel⟩
set_option maxHeartbeats 4000000 in
theorem der_least_between {P : Program} {w : World} {K : PySem.W.Frag} {mg : Str → Option Value} {base : Heap} {f : Addr} {fd : FuncData} (F : Fun K "least_between" "least_between" s_least_between f fd) (D_raised : DFo P w K mg base 2 "raised" 2 (dFn 7 B_raised_352a)) (m_zip : mg "zip" = none) (m_any : mg "any" = none): FnOk P w K mg base CX0 3 f fd ["trips", "low", "high"] (lP ⟨P, w, K⟩ 3 (dFn 6 B_least_between_066e)) := by
  refine fn_o F sc_least_between rfl fun cdv A outer s H E hr => ?_
  have nd := sc_least_between.nd
  have u64 := hr.units
  have u65 : (A.deeper (envOfC "least_between" (defScope s_least_between) s.heap.objs.size f cdv)).units + 65 < cLine := by have := hr.un; omega
  have u1 : (A.deeper (envOfC "least_between" (defScope s_least_between) s.heap.objs.size f cdv)).units + 1 < cLine := by have := hr.un; omega
  unfold B_least_between_066e
  exact dss_cons (ds_set (i := 3) nd rfl (by first | exact .inl rfl | exact .inr rfl) (de_callo D_raised (hr.mono (by decide)) (by rfl) (da_cons (dv 0) (da_cons (dv 1) (da_nil)))))
    (dss_cons (ds_if (dt_val (de_callB (b_any rfl) (by rfl) m_any (by decide +kernel) (da_cons (de_lc (own := [("number", 4), ("most", 5)]) rfl nd (di_zip (by rfl) m_zip (da_cons (dv 3) (da_cons (dv 2) (da_nil)))) (blkOk_by (by first | decide +kernel | rfl)) (by decide) (fun _ _ _ _ _ => dg_tup rfl (dgs_cons (dg_name (i := 4) nd rfl (by first | exact .inl rfl | exact .inr rfl)) (dgs_cons (dg_name (i := 5) nd rfl (by first | exact .inl rfl | exact .inr rfl)) (dgs_nil)))) (fun _ _ _ _ _ => dts_nil) (fun _ _ _ _ _ => de_cmp o_gt (dv 4) (dv 5))) (da_nil)))) (dss_one (ds_ret (de_non))) (dss_nil))
    (dss_one (ds_ret (dv 3))))
abbrev s_line_after : Stmt := topS 20
theorem sc_line_after : FnScope ["trips", "low", "high", "line", "process", "kept", "least", "found"] ["trips", "low", "high", "line"] (defScope s_line_after) := ⟨rfl, rfl, rfl, by decide +kernel, rfl, by decide +kernel, by decide +kernel⟩
set_option maxHeartbeats 4000000 in
theorem der_line_after {P : Program} {w : World} {K : PySem.W.Frag} {mg : Str → Option Value} {base : Heap} {f : Addr} {fd : FuncData} (F : Fun K "line_after" "line_after" s_line_after f fd) (D_least_between : DFo P w K mg base 3 "least_between" 3 (dFn 6 B_least_between_066e)) (m_len : mg "len" = none) (m_reversed : mg "reversed" = none) (m_range : mg "range" = none): FnOk P w K mg base CX0 4 f fd ["trips", "low", "high", "line"] (lP ⟨P, w, K⟩ 4 (dFn 8 B_line_after_0f35)) := by
  refine fn_o F sc_line_after rfl fun cdv A outer s H E hr => ?_
  have nd := sc_line_after.nd
  have u64 := hr.units
  have u65 : (A.deeper (envOfC "line_after" (defScope s_line_after) s.heap.objs.size f cdv)).units + 65 < cLine := by have := hr.un; omega
  have u1 : (A.deeper (envOfC "line_after" (defScope s_line_after) s.heap.objs.size f cdv)).units + 1 < cLine := by have := hr.un; omega
  unfold B_line_after_0f35
  exact dss_cons (ds_for PassesOwn.never rfl (di_revRg (by rfl) m_reversed (by rfl) m_range (de_callB b_len (by rfl) m_len PySem.boot_len (da_cons (dv 3) (da_nil)))) (dg_name (i := 4) nd rfl (by first | exact .inl rfl | exact .inr rfl)) (dss_one (ds_if (dt_cmp o_lt (de_ix o_ix (dv 3) (dv 4)) (de_ix o_ix (dv 2) (dv 4))) (dss_cons (ds_set (i := 5) nd rfl (by first | exact .inl rfl | exact .inr rfl) (de_sl (dv 3) (do_none) (do_some (dv 4))))
    (dss_cons (ds_set (i := 6) nd rfl (by first | exact .inl rfl | exact .inr rfl) (de_bin o_add (de_bin o_add (dv 5) (de_tup (da_cons (de_bin o_add (de_ix o_ix (dv 3) (dv 4)) (de_int)) (da_nil)))) (de_sl (dv 1) (do_some (de_bin o_add (dv 4) (de_int))) (do_none))))
    (dss_cons (ds_set (i := 7) nd rfl (by first | exact .inl rfl | exact .inr rfl) (de_callo D_least_between (hr.mono (by decide)) (by rfl) (da_cons (dv 0) (da_cons (dv 6) (da_cons (de_bin o_add (dv 5) (de_sl (dv 2) (do_some (dv 4)) (do_none))) (da_nil))))))
    (dss_one (ds_if (dt_notN (dv 7)) (dss_one (ds_ret (dv 7))) (dss_nil)))))) (dss_nil))))
    (dss_one (ds_ret (de_non)))
abbrev s_all_lines : Stmt := topS 19
theorem sc_all_lines : GScope ["history", "states", "trips", "low", "high", "line"] ["history", "states"] (defScope s_all_lines) := ⟨rfl, rfl, rfl, by decide +kernel, rfl, by decide +kernel, by decide +kernel⟩
set_option maxHeartbeats 4000000 in
theorem der_all_lines {P : Program} {w : World} {K : PySem.W.Frag} {mg : Str → Option Value} {base : Heap} {f : Addr} {fd : FuncData} (F : Fun K "all_lines" "all_lines" s_all_lines f fd) (D_line_after : DFo P w K mg base 4 "line_after" 4 (dFn 8 B_line_after_0f35)) (D_least_between : DFo P w K mg base 3 "least_between" 3 (dFn 6 B_least_between_066e)) (D_limits_with : DFo P w K mg base 2 "limits_with" 2 (dFn 7 B_limits_with_c088)) (D_trips_of : DFo P w K mg base 2 "trips_of" 1 (dFn 5 B_trips_of_ea9a)) (hb : BSt fd ["history"] "states") : GMk P w K mg base 4 f (dGfS 1 6 B_all_lines_b09d) := by
  have nd := sc_all_lines.nd
  refine gmk_star F sc_all_lines hb rfl (by decide +kernel) (fun _ _ => rfl) fun g hg G out => ?_
  obtain ⟨P', w', K', mg', base', N', q', sc', f', cdv, L, k'⟩ := g
  obtain ⟨h1, h2, h3, h4, h5, h6, h7, h8, h9, h10⟩ := hg
  dsimp only at h1 h2 h3 h4 h5 h6 h7 h8 h9 h10
  subst h1 h2 h3 h4 h5 h6 h7 h8 h9 h10
  have ux : ∀ {A : Around} (j : Nat), j < 200 → Room 4 A → A.units + j < cLine := fun j hj hr => by have := hr.un; omega
  unfold B_all_lines_b09d
  exact dj_cons (dj_ps (fun w E => by have hr : Room 4 _ := E.cv; have u64 := hr.units; have u65 := ux 65 (by omega) hr; have u1 := ux 1 (by omega) hr; exact (ds_set (i := 2) nd rfl (by first | exact .inl rfl | exact .inr rfl) (de_callo D_trips_of (hr.mono (by decide)) (by rfl) (da_cons (dv 0) (da_nil))))))
    (dj_cons (dj_ps (fun w E => by have hr : Room 4 _ := E.cv; have u64 := hr.units; have u65 := ux 65 (by omega) hr; have u1 := ux 1 (by omega) hr; exact (ds_asg (b := true) (de_callo D_limits_with (hr.mono (by decide)) (by rfl) (da_cons (dv 0) (da_cons (dv 1) (da_nil)))) (dg_tup rfl (dgs_cons (dg_name (i := 3) nd rfl (by first | exact .inl rfl | exact .inr rfl)) (dgs_cons (dg_name (i := 4) nd rfl (by first | exact .inl rfl | exact .inr rfl)) (dgs_nil)))))))
    (dj_cons (dj_ps (fun w E => by have hr : Room 4 _ := E.cv; have u64 := hr.units; have u65 := ux 65 (by omega) hr; have u1 := ux 1 (by omega) hr; exact (ds_set (i := 5) nd rfl (by first | exact .inl rfl | exact .inr rfl) (de_callo D_least_between (hr.mono (by decide)) (by rfl) (da_cons (dv 2) (da_cons (dv 3) (da_cons (dv 4) (da_nil))))))))
    (dj_cons (dj_while (fun w E => by have hr : Room 4 _ := E.cv; have u64 := hr.units; have u65 := ux 65 (by omega) hr; have u1 := ux 1 (by omega) hr; exact (dt_notN (dv 5))) (dj_cons (dj_yield G (fun w E => by have hr : Room 4 _ := E.cv; have u64 := hr.units; have u65 := ux 65 (by omega) hr; have u1 := ux 1 (by omega) hr; exact (dv 5)))
    (dj_cons (dj_ps (fun w E => by have hr : Room 4 _ := E.cv; have u64 := hr.units; have u65 := ux 65 (by omega) hr; have u1 := ux 1 (by omega) hr; exact (ds_set (i := 5) nd rfl (by first | exact .inl rfl | exact .inr rfl) (de_callo D_line_after (hr.mono (by decide)) (by rfl) (da_cons (dv 2) (da_cons (dv 3) (da_cons (dv 4) (da_cons (dv 5) (da_nil)))))))))
    (dj_nil))))
    (dj_nil))))
abbrev s_least_line_with : Stmt := topS 23
theorem sc_least_line_with : FnScope ["history", "states", "low", "high"] ["history", "states"] (defScope s_least_line_with) := ⟨rfl, rfl, rfl, by decide +kernel, rfl, by decide +kernel, by decide +kernel⟩
set_option maxHeartbeats 4000000 in
theorem der_least_line_with {P : Program} {w : World} {K : PySem.W.Frag} {mg : Str → Option Value} {base : Heap} {f : Addr} {fd : FuncData} (F : Fun K "least_line_with" "least_line_with" s_least_line_with f fd) (D_least_between : DFo P w K mg base 3 "least_between" 3 (dFn 6 B_least_between_066e)) (D_trips_of : DFo P w K mg base 2 "trips_of" 1 (dFn 5 B_trips_of_ea9a)) (D_limits_with : DFo P w K mg base 2 "limits_with" 2 (dFn 7 B_limits_with_c088)): FnOk P w K mg base CX0 4 f fd ["history", "states"] (lP ⟨P, w, K⟩ 2 (dFn 4 B_least_line_with_19e1)) := by
  refine fn_o F sc_least_line_with rfl fun cdv A outer s H E hr => ?_
  have nd := sc_least_line_with.nd
  have u64 := hr.units
  have u65 : (A.deeper (envOfC "least_line_with" (defScope s_least_line_with) s.heap.objs.size f cdv)).units + 65 < cLine := by have := hr.un; omega
  have u1 : (A.deeper (envOfC "least_line_with" (defScope s_least_line_with) s.heap.objs.size f cdv)).units + 1 < cLine := by have := hr.un; omega
  unfold B_least_line_with_19e1
  exact dss_cons (ds_asg (b := true) (de_callo D_limits_with (hr.mono (by decide)) (by rfl) (da_cons (dv 0) (da_cons (dv 1) (da_nil)))) (dg_tup rfl (dgs_cons (dg_name (i := 2) nd rfl (by first | exact .inl rfl | exact .inr rfl)) (dgs_cons (dg_name (i := 3) nd rfl (by first | exact .inl rfl | exact .inr rfl)) (dgs_nil)))))
    (dss_one (ds_ret (de_callo D_least_between (hr.mono (by decide)) (by rfl) (da_cons (de_callo D_trips_of (hr.mono (by decide)) (by rfl) (da_cons (dv 0) (da_nil))) (da_cons (dv 2) (da_cons (dv 3) (da_nil)))))))
abbrev s_verdict : Stmt := topS 36
theorem sc_verdict : FnScope ["history", "states", "line", "one", "other"] ["history", "states"] (defScope s_verdict) := ⟨rfl, rfl, rfl, by decide +kernel, rfl, by decide +kernel, by decide +kernel⟩
set_option maxHeartbeats 4000000 in
theorem der_verdict {P : Program} {w : World} {K : PySem.W.Frag} {mg : Str → Option Value} {base : Heap} {f : Addr} {fd : FuncData} (F : Fun K "verdict" "verdict" s_verdict f fd) (D_find_zigzag : DFo P w K mg base 4 "find_zigzag" 3 (dFn 10 B_find_zigzag_09d6)) (D_pair_apart : DFo P w K mg base 5 "pair_apart" 2 (dFn 4 B_pair_apart_e180)) (D_least_line_with : DFo P w K mg base 4 "least_line_with" 2 (dFn 4 B_least_line_with_19e1)) (hb : BSt fd ["history"] "states") : FnR P w K mg base CX0 6 f (fun vs H Q _ => lC ⟨P, w, K⟩ (dFnS 1 5 B_verdict_403b) vs H Q) := by
  refine fn_s F sc_verdict hb rfl fun cdv A outer s H E hr => ?_
  have nd := sc_verdict.nd
  have u64 := hr.units
  have u65 : (A.deeper (envOfC "verdict" (defScope s_verdict) s.heap.objs.size f cdv)).units + 65 < cLine := by have := hr.un; omega
  have u1 : (A.deeper (envOfC "verdict" (defScope s_verdict) s.heap.objs.size f cdv)).units + 1 < cLine := by have := hr.un; omega
  unfold B_verdict_403b
  exact dss_cons (ds_set (i := 2) nd rfl (by first | exact .inl rfl | exact .inr rfl) (de_callo D_least_line_with (hr.mono (by decide)) (by rfl) (da_cons (dv 0) (da_cons (dv 1) (da_nil)))))
    (dss_cons (ds_if (dt_notN (dv 2)) (dss_one (ds_ret (de_tup (da_cons (de_str) (da_cons (dv 2) (da_nil)))))) (dss_nil))
    (dss_cons (ds_asg (b := true) (de_callo D_pair_apart (hr.mono (by decide)) (by rfl) (da_cons (dv 0) (da_cons (dv 1) (da_nil)))) (dg_tup rfl (dgs_cons (dg_name (i := 3) nd rfl (by first | exact .inl rfl | exact .inr rfl)) (dgs_cons (dg_name (i := 4) nd rfl (by first | exact .inl rfl | exact .inr rfl)) (dgs_nil)))))
    (dss_one (ds_ret (de_tup (da_cons (de_str) (da_cons (dv 3) (da_cons (dv 4) (da_cons (de_callo D_find_zigzag (hr.mono (by decide)) (by rfl) (da_cons (dv 0) (da_cons (dv 3) (da_cons (dv 4) (da_nil))))) (da_nil))))))))))
abbrev s__law_told : Stmt := topS 50
theorem sc__law_told : FnScope ["_law_rows", "_law_some"] ["_law_rows", "_law_some"] (defScope s__law_told) := ⟨rfl, rfl, rfl, by decide +kernel, rfl, by decide +kernel, by decide +kernel⟩
set_option maxHeartbeats 4000000 in
theorem der__law_told {P : Program} {w : World} {K : PySem.W.Frag} {mg : Str → Option Value} {base : Heap} {f : Addr} {fd : FuncData} (F : Fun K "_law_told" "_law_told" s__law_told f fd) (D_all_lines : DGf P w K mg base 4 "all_lines" (dGfS 1 6 B_all_lines_b09d)) (D_verdict : DFs P w K mg base 6 "verdict" (dFnS 1 5 B_verdict_403b)) (m_list : mg "list" = none) (m_len : mg "len" = none): FnOk P w K mg base CX0 7 f fd ["_law_rows", "_law_some"] (lP ⟨P, w, K⟩ 2 (dFn 2 B_law_told_6aa1)) := by
  refine fn_o F sc__law_told rfl fun cdv A outer s H E hr => ?_
  have nd := sc__law_told.nd
  have u64 := hr.units
  have u65 : (A.deeper (envOfC "_law_told" (defScope s__law_told) s.heap.objs.size f cdv)).units + 65 < cLine := by have := hr.un; omega
  have u1 : (A.deeper (envOfC "_law_told" (defScope s__law_told) s.heap.objs.size f cdv)).units + 1 < cLine := by have := hr.un; omega
  unfold B_law_told_6aa1
  exact dss_cons (ds_if (dt_cmp (o_eq u64) (de_callB b_len (by rfl) m_len PySem.boot_len (da_cons (dv 1) (da_nil))) (de_int)) (dss_one (ds_ret (de_lst (da_cons (de_callS D_verdict (hr.mono (by decide)) (by rfl) (da_cons (dv 0) (da_nil))) (da_cons (de_listK (pgi_call D_all_lines rfl (hr.mono (by decide)) (by rfl) (da_cons (dv 0) (da_nil))) (by rfl) m_list (by decide +kernel)) (da_nil)))))) (dss_nil))
    (dss_cons (ds_if (dt_cmp (o_eq u64) (de_callB b_len (by rfl) m_len PySem.boot_len (da_cons (dv 1) (da_nil))) (de_int)) (dss_one (ds_ret (de_lst (da_cons (de_callS D_verdict (hr.mono (by decide)) (by rfl) (da_cons (dv 0) (da_cons (de_ix o_ix (dv 1) (de_int)) (da_nil)))) (da_cons (de_listK (pgi_call D_all_lines rfl (hr.mono (by decide)) (by rfl) (da_cons (dv 0) (da_cons (de_ix o_ix (dv 1) (de_int)) (da_nil)))) (by rfl) m_list (by decide +kernel)) (da_nil)))))) (dss_nil))
    (dss_cons (ds_if (dt_cmp (o_eq u64) (de_callB b_len (by rfl) m_len PySem.boot_len (da_cons (dv 1) (da_nil))) (de_int)) (dss_one (ds_ret (de_lst (da_cons (de_callS D_verdict (hr.mono (by decide)) (by rfl) (da_cons (dv 0) (da_cons (de_ix o_ix (dv 1) (de_int)) (da_cons (de_ix o_ix (dv 1) (de_int)) (da_nil))))) (da_cons (de_listK (pgi_call D_all_lines rfl (hr.mono (by decide)) (by rfl) (da_cons (dv 0) (da_cons (de_ix o_ix (dv 1) (de_int)) (da_cons (de_ix o_ix (dv 1) (de_int)) (da_nil))))) (by rfl) m_list (by decide +kernel)) (da_nil)))))) (dss_nil))
    (dss_one (ds_ret (de_lst (da_cons (de_callS D_verdict (hr.mono (by decide)) (by rfl) (da_cons (dv 0) (da_cons (de_ix o_ix (dv 1) (de_int)) (da_cons (de_ix o_ix (dv 1) (de_int)) (da_cons (de_ix o_ix (dv 1) (de_int)) (da_nil)))))) (da_cons (de_listK (pgi_call D_all_lines rfl (hr.mono (by decide)) (by rfl) (da_cons (dv 0) (da_cons (de_ix o_ix (dv 1) (de_int)) (da_cons (de_ix o_ix (dv 1) (de_int)) (da_cons (de_ix o_ix (dv 1) (de_int)) (da_nil)))))) (by rfl) m_list (by decide +kernel)) (da_nil))))))))
abbrev s__law_right : Stmt := topS 54
theorem sc__law_right : FnScope ["_law_rows", "_law_cuts", "_law_some", "_law_due", "_law_told_here", "_law_found", "_law_pairs", "_law_one", "_law_low", "_law_high", "_law_k", "_law_other", "_law_cut"] ["_law_rows", "_law_cuts", "_law_some"] (defScope s__law_right) := ⟨rfl, rfl, rfl, by decide +kernel, rfl, by decide +kernel, by decide +kernel⟩
set_option maxHeartbeats 4000000 in
theorem der__law_right {P : Program} {w : World} {K : PySem.W.Frag} {mg : Str → Option Value} {base : Heap} {f : Addr} {fd : FuncData} (F : Fun K "_law_right" "_law_right" s__law_right f fd) (D__law_same : DFn P w K mg base 1 "_law_same" 2 (dFn 2 B_law_same_de9b)) (D__law_ends : DFo P w K mg base 7 "_law_ends" 2 (dFn 3 B_law_ends_4d72)) (D_is_zigzag : DFo P w K mg base 3 "is_zigzag" 4 (dFn 7 B_is_zigzag_87da)) (D_find_zigzag : DFo P w K mg base 4 "find_zigzag" 3 (dFn 10 B_find_zigzag_09d6)) (D_verdict_holds : DFo P w K mg base 6 "verdict_holds" 3 (dFn 6 B_verdict_holds_e52c)) (D__law_told : DFo P w K mg base 7 "_law_told" 2 (dFn 2 B_law_told_6aa1)) (D__law_with : DFo P w K mg base 1 "_law_with" 2 (dFn 4 B_law_with_a200)) (m_len : mg "len" = none) (m_range : mg "range" = none) (m_max : mg "max" = none) (m_tuple : mg "tuple" = none) (m_min : mg "min" = none) (m_int : mg "int" = none): FnG P w K mg base 8 f fd ["_law_rows", "_law_cuts", "_law_some"] (lP ⟨P, w, K⟩ 3 (dFn 13 B_law_right_edc8)) := by
  refine fn_d F sc__law_right rfl fun cdv A outer s H E hg hr => ?_
  have nd := sc__law_right.nd
  have u64 := hr.units
  have u65 : (A.deeper (envOfC "_law_right" (defScope s__law_right) s.heap.objs.size f cdv)).units + 65 < cLine := by have := hr.un; omega
  have u1 : (A.deeper (envOfC "_law_right" (defScope s__law_right) s.heap.objs.size f cdv)).units + 1 < cLine := by have := hr.un; omega
  unfold B_law_right_edc8
  exact dss_cons (ds_set (i := 3) nd rfl (by first | exact .inl rfl | exact .inr rfl) (de_callo D__law_with (hr.mono (by decide)) (by rfl) (da_cons (dv 1) (da_cons (dv 2) (da_nil)))))
    (dss_cons (ds_asg (b := true) (de_callo D__law_told (hr.mono (by decide)) (by rfl) (da_cons (dv 0) (da_cons (dv 2) (da_nil)))) (dg_tup rfl (dgs_cons (dg_name (i := 4) nd rfl (by first | exact .inl rfl | exact .inr rfl)) (dgs_cons (dg_name (i := 5) nd rfl (by first | exact .inl rfl | exact .inr rfl)) (dgs_nil)))))
    (dss_cons (ds_if (DW.dt (dw_or (dt_not (dt_val (de_call D__law_same hg (hr.mono (by decide)) (by rfl) (da_cons (dv 5) (da_cons (dv 3) (da_nil)))))) (dw_or1 (dt_cmp o_notB (de_callo D_verdict_holds (hr.mono (by decide)) (by rfl) (da_cons (dv 0) (da_cons (dv 2) (da_cons (dv 4) (da_nil))))) (de_bl))))) (dss_one (ds_ret (de_bl))) (dss_nil))
    (dss_cons (ds_if (dt_cmp (o_ne u64) (de_ix o_ix (dv 4) (de_int)) (de_ix o_ix (de_lst (da_cons (de_str) (da_cons (de_str) (da_nil)))) (de_callTy b_int (by rfl) m_int (by decide +kernel) (da_cons (de_cmp (o_ne u64) (dv 3) (de_lst (da_nil))) (da_nil))))) (dss_one (ds_ret (de_bl))) (dss_nil))
    (dss_cons (ds_set (i := 6) nd rfl (by first | exact .inl rfl | exact .inr rfl) (de_lst (da_nil)))
    (dss_cons (ds_for PassesOwn.never rfl (di_val (dv 2)) (dg_name (i := 7) nd rfl (by first | exact .inl rfl | exact .inr rfl)) (dss_one (ds_expr (de_mL PySem.F.slot_list_extend PySem.F.type_list_extend m_extend (dv 6) (da_cons (de_lc (own := [("_law_other", 11)]) rfl nd (di_val (dv 2)) (blkOk_by (by first | decide +kernel | rfl)) (by decide) (fun _ _ _ _ _ => dg_name (i := 11) nd rfl (by first | exact .inl rfl | exact .inr rfl)) (fun _ _ _ _ _ => dts_one (dt_notN (de_callo D_find_zigzag (hr.mono (by decide)) (by rfl) (da_cons (dv 0) (da_cons (dv 7) (da_cons (dv 11) (da_nil))))))) (fun _ _ _ _ _ => de_tup (da_cons (dv 7) (da_cons (dv 11) (da_nil))))) (da_nil))))))
    (dss_cons (ds_if (dt_cmp (o_ne u64) (de_cmp (o_eq u64) (dv 6) (de_lst (da_nil))) (de_cmp (o_ne u64) (dv 3) (de_lst (da_nil)))) (dss_one (ds_ret (de_bl))) (dss_nil))
    (dss_cons (ds_if (dt_cmp (o_eq u64) (dv 3) (de_lst (da_nil))) (dss_one (ds_ret (de_and (de_cmp (o_in u65) (de_tup (da_cons (de_ix o_ix (dv 4) (de_int)) (da_cons (de_ix o_ix (dv 4) (de_int)) (da_nil)))) (dv 6)) (de_one (de_cmp o_isB (de_callo D_is_zigzag (hr.mono (by decide)) (by rfl) (da_cons (dv 0) (da_cons (de_ix o_ix (dv 4) (de_int)) (da_cons (de_ix o_ix (dv 4) (de_int)) (da_cons (de_ix o_ix (dv 4) (de_int)) (da_nil)))))) (de_bl)))))) (dss_nil))
    (dss_cons (ds_set (i := 8) nd rfl (by first | exact .inl rfl | exact .inr rfl) (de_callTy b_tuple (by rfl) m_tuple (by decide +kernel) (da_cons (de_lc (own := [("_law_k", 10)]) rfl nd (di_rg1 (by rfl) m_range (da_cons (de_callB b_len (by rfl) m_len PySem.boot_len (da_cons (dv 0) (da_nil))) (da_nil))) (blkOk_by (by first | decide +kernel | rfl)) (by decide) (fun _ _ _ _ _ => dg_name (i := 10) nd rfl (by first | exact .inl rfl | exact .inr rfl)) (fun _ _ _ _ _ => dts_nil) (fun _ _ _ _ _ => de_callB (b_min1 rfl) (by rfl) m_min (by decide +kernel) (da_cons (de_lc (own := [("_law_cut", 12)]) rfl nd (di_val (dv 3)) (blkOk_by (by first | decide +kernel | rfl)) (by decide) (fun _ _ _ _ _ => dg_name (i := 12) nd rfl (by first | exact .inl rfl | exact .inr rfl)) (fun _ _ _ _ _ => dts_nil) (fun _ _ _ _ _ => de_ix o_ix (dv 12) (dv 10))) (da_nil)))) (da_nil))))
    (dss_cons (ds_set (i := 9) nd rfl (by first | exact .inl rfl | exact .inr rfl) (de_callTy b_tuple (by rfl) m_tuple (by decide +kernel) (da_cons (de_lc (own := [("_law_k", 10)]) rfl nd (di_rg1 (by rfl) m_range (da_cons (de_callB b_len (by rfl) m_len PySem.boot_len (da_cons (dv 0) (da_nil))) (da_nil))) (blkOk_by (by first | decide +kernel | rfl)) (by decide) (fun _ _ _ _ _ => dg_name (i := 10) nd rfl (by first | exact .inl rfl | exact .inr rfl)) (fun _ _ _ _ _ => dts_nil) (fun _ _ _ _ _ => de_callB (b_max1 rfl) (by rfl) m_max (by decide +kernel) (da_cons (de_lc (own := [("_law_cut", 12)]) rfl nd (di_val (dv 3)) (blkOk_by (by first | decide +kernel | rfl)) (by decide) (fun _ _ _ _ _ => dg_name (i := 12) nd rfl (by first | exact .inl rfl | exact .inr rfl)) (fun _ _ _ _ _ => dts_nil) (fun _ _ _ _ _ => de_ix o_ix (dv 12) (dv 10))) (da_nil)))) (da_nil))))
    (dss_one (ds_ret (de_call D__law_same hg (hr.mono (by decide)) (by rfl) (da_cons (de_callo D__law_ends (hr.mono (by decide)) (by rfl) (da_cons (dv 0) (da_cons (dv 2) (da_nil)))) (da_cons (de_lst (da_cons (dv 8) (da_cons (dv 9) (da_nil)))) (da_nil)))))))))))))))
abbrev s__law_mixed : Stmt := topS 42
theorem sc__law_mixed : FnScope ["_law_state_here", "_law_items", "_law_left", "_law_found"] ["_law_state_here", "_law_items"] (defScope s__law_mixed) := ⟨rfl, rfl, rfl, by decide +kernel, rfl, by decide +kernel, by decide +kernel⟩
set_option maxHeartbeats 4000000 in
theorem der__law_mixed {P : Program} {w : World} {K : PySem.W.Frag} {mg : Str → Option Value} {base : Heap} {f : Addr} {fd : FuncData} (F : Fun K "_law_mixed" "_law_mixed" s__law_mixed f fd) (D__law_draw : DFo P w K mg base 1 "_law_draw" 2 (dFn 5 B_law_draw_a332)) (m_tuple : mg "tuple" = none) (m_len : mg "len" = none) (m_list : mg "list" = none): FnOk P w K mg base CX0 2 f fd ["_law_state_here", "_law_items"] (lP ⟨P, w, K⟩ 2 (dFn 4 B_law_mixed_b93a)) := by
  refine fn_o F sc__law_mixed rfl fun cdv A outer s H E hr => ?_
  have nd := sc__law_mixed.nd
  have u64 := hr.units
  have u65 : (A.deeper (envOfC "_law_mixed" (defScope s__law_mixed) s.heap.objs.size f cdv)).units + 65 < cLine := by have := hr.un; omega
  have u1 : (A.deeper (envOfC "_law_mixed" (defScope s__law_mixed) s.heap.objs.size f cdv)).units + 1 < cLine := by have := hr.un; omega
  unfold B_law_mixed_b93a
  exact dss_cons (ds_par (i := 2) (j := 3) (by rfl) nd rfl rfl (by decide) rfl rfl (da_cons (de_callTy b_list (by rfl) m_list (by decide +kernel) (da_cons (dv 1) (da_nil))) (da_cons (de_lst (da_nil)) (da_nil))) (by rfl))
    (dss_cons (ds_while PassesOwn.never (dt_cmp (o_ne u64) (dv 2) (de_lst (da_nil))) (dss_one (ds_expr (de_mL PySem.F.slot_list_append PySem.F.type_list_append m_append (dv 3) (da_cons (de_mL PySem.F.slot_list_pop PySem.F.type_list_pop m_popAt (dv 2) (da_cons (de_callo D__law_draw (hr.mono (by decide)) (by rfl) (da_cons (dv 0) (da_cons (de_callB b_len (by rfl) m_len PySem.boot_len (da_cons (dv 2) (da_nil))) (da_nil)))) (da_nil))) (da_nil))))))
    (dss_one (ds_ret (de_callTy b_tuple (by rfl) m_tuple (by decide +kernel) (da_cons (dv 3) (da_nil))))))
abbrev s__law_chosen : Stmt := topS 52
theorem sc__law_chosen : FnScope ["_law_state_here", "_law_rows", "_law_processes", "_law_process"] ["_law_state_here", "_law_rows"] (defScope s__law_chosen) := ⟨rfl, rfl, rfl, by decide +kernel, rfl, by decide +kernel, by decide +kernel⟩
set_option maxHeartbeats 4000000 in
theorem der__law_chosen {P : Program} {w : World} {K : PySem.W.Frag} {mg : Str → Option Value} {base : Heap} {f : Addr} {fd : FuncData} (F : Fun K "_law_chosen" "_law_chosen" s__law_chosen f fd) (D__law_draw : DFo P w K mg base 1 "_law_draw" 2 (dFn 5 B_law_draw_a332)) (D__law_mixed : DFo P w K mg base 2 "_law_mixed" 2 (dFn 4 B_law_mixed_b93a)) (m_tuple : mg "tuple" = none) (m_len : mg "len" = none) (m_list : mg "list" = none) (m_range : mg "range" = none): FnOk P w K mg base CX0 3 f fd ["_law_state_here", "_law_rows"] (lP ⟨P, w, K⟩ 2 (dFn 4 B_law_chosen_7d70)) := by
  refine fn_o F sc__law_chosen rfl fun cdv A outer s H E hr => ?_
  have nd := sc__law_chosen.nd
  have u64 := hr.units
  have u65 : (A.deeper (envOfC "_law_chosen" (defScope s__law_chosen) s.heap.objs.size f cdv)).units + 65 < cLine := by have := hr.un; omega
  have u1 : (A.deeper (envOfC "_law_chosen" (defScope s__law_chosen) s.heap.objs.size f cdv)).units + 1 < cLine := by have := hr.un; omega
  unfold B_law_chosen_7d70
  exact dss_cons (ds_set (i := 2) nd rfl (by first | exact .inl rfl | exact .inr rfl) (de_sl (de_callo D__law_mixed (hr.mono (by decide)) (by rfl) (da_cons (dv 0) (da_cons (de_listRg1 rfl (by rfl) m_list (by rfl) m_range (de_callB b_len (by rfl) m_len PySem.boot_len (da_cons (dv 1) (da_nil)))) (da_nil)))) (do_none) (do_some (de_callo D__law_draw (hr.mono (by decide)) (by rfl) (da_cons (dv 0) (da_cons (de_int) (da_nil)))))))
    (dss_one (ds_ret (de_callTy b_tuple (by rfl) m_tuple (by decide +kernel) (da_cons (de_lc (own := [("_law_process", 3)]) rfl nd (di_val (dv 2)) (blkOk_by (by first | decide +kernel | rfl)) (by decide) (fun _ _ _ _ _ => dg_name (i := 3) nd rfl (by first | exact .inl rfl | exact .inr rfl)) (fun _ _ _ _ _ => dts_nil) (fun _ _ _ _ _ => de_tup (da_cons (dv 3) (da_cons (de_callo D__law_draw (hr.mono (by decide)) (by rfl) (da_cons (dv 0) (da_cons (de_bin o_add (de_mT PySem.F.slot_tuple_count PySem.F.type_tuple_count (m_tcount u64) (de_ix o_ix (dv 1) (dv 3)) (da_cons (de_int) (da_nil))) (de_int)) (da_nil)))) (da_nil))))) (da_nil)))))
abbrev s__law_place : Stmt := topS 47
theorem sc__law_place : FnScope ["_law_rows", "_law_process", "_law_number", "_law_row", "_law_spots", "_law_index", "_law_event"] ["_law_rows", "_law_process", "_law_number"] (defScope s__law_place) := ⟨rfl, rfl, rfl, by decide +kernel, rfl, by decide +kernel, by decide +kernel⟩
set_option maxHeartbeats 4000000 in
theorem der__law_place {P : Program} {w : World} {K : PySem.W.Frag} {mg : Str → Option Value} {base : Heap} {f : Addr} {fd : FuncData} (F : Fun K "_law_place" "_law_place" s__law_place f fd)  (m_enumerate : mg "enumerate" = none) (m_len : mg "len" = none): FnOk P w K mg base CX0 1 f fd ["_law_rows", "_law_process", "_law_number"] (lP ⟨P, w, K⟩ 3 (dFn 7 B_law_place_4534)) := by
  refine fn_o F sc__law_place rfl fun cdv A outer s H E hr => ?_
  have nd := sc__law_place.nd
  have u64 := hr.units
  have u65 : (A.deeper (envOfC "_law_place" (defScope s__law_place) s.heap.objs.size f cdv)).units + 65 < cLine := by have := hr.un; omega
  have u1 : (A.deeper (envOfC "_law_place" (defScope s__law_place) s.heap.objs.size f cdv)).units + 1 < cLine := by have := hr.un; omega
  unfold B_law_place_4534
  exact dss_cons (ds_set (i := 3) nd rfl (by first | exact .inl rfl | exact .inr rfl) (de_ix o_ix (dv 0) (dv 1)))
    (dss_cons (ds_set (i := 4) nd rfl (by first | exact .inl rfl | exact .inr rfl) (de_bin o_add (de_bin o_add (de_lst (da_cons (de_int) (da_nil))) (de_lc (own := [("_law_index", 5), ("_law_event", 6)]) rfl nd (di_enum (by rfl) m_enumerate (da_cons (dv 3) (da_nil))) (blkOk_by (by first | decide +kernel | rfl)) (by decide) (fun _ _ _ _ _ => dg_tup rfl (dgs_cons (dg_name (i := 5) nd rfl (by first | exact .inl rfl | exact .inr rfl)) (dgs_cons (dg_name (i := 6) nd rfl (by first | exact .inl rfl | exact .inr rfl)) (dgs_nil)))) (fun _ _ _ _ _ => dts_one (dt_cmp (o_eq u64) (dv 6) (de_int))) (fun _ _ _ _ _ => dv 5))) (de_lst (da_cons (de_callB b_len (by rfl) m_len PySem.boot_len (da_cons (dv 3) (da_nil))) (da_nil)))))
    (dss_one (ds_ret (de_ix o_ix (dv 4) (dv 2)))))
abbrev s__law_is_line : Stmt := topS 48
theorem sc__law_is_line : FnScope ["_law_rows", "_law_cut", "_law_before", "_law_process", "_law_number", "_law_event"] ["_law_rows", "_law_cut"] (defScope s__law_is_line) := ⟨rfl, rfl, rfl, by decide +kernel, rfl, by decide +kernel, by decide +kernel⟩
set_option maxHeartbeats 4000000 in
theorem der__law_is_line {P : Program} {w : World} {K : PySem.W.Frag} {mg : Str → Option Value} {base : Heap} {f : Addr} {fd : FuncData} (F : Fun K "_law_is_line" "_law_is_line" s__law_is_line f fd) (D__law_place : DFo P w K mg base 1 "_law_place" 3 (dFn 7 B_law_place_4534)) (m_enumerate : mg "enumerate" = none) (m_list : mg "list" = none): FnOk P w K mg base CX0 2 f fd ["_law_rows", "_law_cut"] (lP ⟨P, w, K⟩ 2 (dFn 6 B_law_is_line_4540)) := by
  refine fn_o F sc__law_is_line rfl fun cdv A outer s H E hr => ?_
  have nd := sc__law_is_line.nd
  have u64 := hr.units
  have u65 : (A.deeper (envOfC "_law_is_line" (defScope s__law_is_line) s.heap.objs.size f cdv)).units + 65 < cLine := by have := hr.un; omega
  have u1 : (A.deeper (envOfC "_law_is_line" (defScope s__law_is_line) s.heap.objs.size f cdv)).units + 1 < cLine := by have := hr.un; omega
  unfold B_law_is_line_4540
  exact dss_cons (ds_set (i := 2) nd rfl (by first | exact .inl rfl | exact .inr rfl) (de_lst (da_nil)))
    (dss_cons (ds_for PassesOwn.never rfl (di_enum (by rfl) m_enumerate (da_cons (dv 1) (da_nil))) (dg_tup rfl (dgs_cons (dg_name (i := 3) nd rfl (by first | exact .inl rfl | exact .inr rfl)) (dgs_cons (dg_name (i := 4) nd rfl (by first | exact .inl rfl | exact .inr rfl)) (dgs_nil)))) (dss_one (ds_expr (de_mL PySem.F.slot_list_extend PySem.F.type_list_extend m_extend (dv 2) (da_cons (de_callTy b_list (by rfl) m_list (by decide +kernel) (da_cons (de_sl (de_ix o_ix (dv 0) (dv 3)) (do_none) (do_some (de_callo D__law_place (hr.mono (by decide)) (by rfl) (da_cons (dv 0) (da_cons (dv 3) (da_cons (dv 4) (da_nil))))))) (da_nil))) (da_nil))))))
    (dss_one (ds_ret (de_cmp (o_eq u64) (de_lc (own := [("_law_event", 5)]) rfl nd (di_val (dv 2)) (blkOk_by (by first | decide +kernel | rfl)) (by decide) (fun _ _ _ _ _ => dg_name (i := 5) nd rfl (by first | exact .inl rfl | exact .inr rfl)) (fun _ _ _ _ _ => dts_one (DW.dt (dw_and (dt_cmp o_lt (dv 5) (de_int)) (dw_and1 (dt_cmp (o_nin u65) (de_bin o_sub (de_int) (dv 5)) (dv 2)))))) (fun _ _ _ _ _ => dv 5)) (de_lst (da_nil))))))
abbrev s__law_all_lines : Stmt := topS 49
theorem sc__law_all_lines : FnScope ["_law_rows", "_law_cuts", "_law_row", "_law_longer", "_law_cut", "_law_number"] ["_law_rows"] (defScope s__law_all_lines) := ⟨rfl, rfl, rfl, by decide +kernel, rfl, by decide +kernel, by decide +kernel⟩
set_option maxHeartbeats 4000000 in
theorem der__law_all_lines {P : Program} {w : World} {K : PySem.W.Frag} {mg : Str → Option Value} {base : Heap} {f : Addr} {fd : FuncData} (F : Fun K "_law_all_lines" "_law_all_lines" s__law_all_lines f fd) (D__law_is_line : DFo P w K mg base 2 "_law_is_line" 2 (dFn 6 B_law_is_line_4540)) (m_range : mg "range" = none): FnOk P w K mg base CX0 3 f fd ["_law_rows"] (lP ⟨P, w, K⟩ 1 (dFn 6 B_law_all_lines_88dc)) := by
  refine fn_o F sc__law_all_lines rfl fun cdv A outer s H E hr => ?_
  have nd := sc__law_all_lines.nd
  have u64 := hr.units
  have u65 : (A.deeper (envOfC "_law_all_lines" (defScope s__law_all_lines) s.heap.objs.size f cdv)).units + 65 < cLine := by have := hr.un; omega
  have u1 : (A.deeper (envOfC "_law_all_lines" (defScope s__law_all_lines) s.heap.objs.size f cdv)).units + 1 < cLine := by have := hr.un; omega
  unfold B_law_all_lines_88dc
  exact dss_cons (ds_set (i := 1) nd rfl (by first | exact .inl rfl | exact .inr rfl) (de_lst (da_cons (de_tup (da_nil)) (da_nil))))
    (dss_cons (ds_for PassesOwn.never rfl (di_val (dv 0)) (dg_name (i := 2) nd rfl (by first | exact .inl rfl | exact .inr rfl)) (dss_cons (ds_set (i := 3) nd rfl (by first | exact .inl rfl | exact .inr rfl) (de_lst (da_nil)))
    (dss_cons (ds_for PassesOwn.never rfl (di_val (dv 1)) (dg_name (i := 4) nd rfl (by first | exact .inl rfl | exact .inr rfl)) (dss_one (ds_expr (de_mL PySem.F.slot_list_extend PySem.F.type_list_extend m_extend (dv 3) (da_cons (de_lc (own := [("_law_number", 5)]) rfl nd (di_rg1 (by rfl) m_range (da_cons (de_bin o_add (de_mT PySem.F.slot_tuple_count PySem.F.type_tuple_count (m_tcount u64) (dv 2) (da_cons (de_int) (da_nil))) (de_int)) (da_nil))) (blkOk_by (by first | decide +kernel | rfl)) (by decide) (fun _ _ _ _ _ => dg_name (i := 5) nd rfl (by first | exact .inl rfl | exact .inr rfl)) (fun _ _ _ _ _ => dts_nil) (fun _ _ _ _ _ => de_bin o_add (dv 4) (de_tup (da_cons (dv 5) (da_nil))))) (da_nil))))))
    (dss_one (ds_set (i := 1) nd rfl (by first | exact .inl rfl | exact .inr rfl) (dv 3))))))
    (dss_one (ds_ret (de_lc (own := [("_law_cut", 4)]) rfl nd (di_val (dv 1)) (blkOk_by (by first | decide +kernel | rfl)) (by decide) (fun _ _ _ _ _ => dg_name (i := 4) nd rfl (by first | exact .inl rfl | exact .inr rfl)) (fun _ _ _ _ _ => dts_one (dt_val (de_callo D__law_is_line (hr.mono (by decide)) (by rfl) (da_cons (dv 0) (da_cons (dv 4) (da_nil)))))) (fun _ _ _ _ _ => dv 4)))))
abbrev s__law_history : Stmt := topS 46
theorem sc__law_history : FnScope ["_law_state_here", "_law_many", "_law_most", "_law_count", "_law_names", "_law_kind", "_law_rows", "_law_open_ones", "_law_used", "_law_turn", "_law_process", "_law_way", "_law_ready", "_law_message", "_law_pair"] ["_law_state_here", "_law_many", "_law_most"] (defScope s__law_history) := ⟨rfl, rfl, rfl, by decide +kernel, rfl, by decide +kernel, by decide +kernel⟩
set_option maxHeartbeats 4000000 in
theorem der__law_history {P : Program} {w : World} {K : PySem.W.Frag} {mg : Str → Option Value} {base : Heap} {f : Addr} {fd : FuncData} (F : Fun K "_law_history" "_law_history" s__law_history f fd) (D__law_draw : DFo P w K mg base 1 "_law_draw" 2 (dFn 5 B_law_draw_a332)) (D__law_pick : DFo P w K mg base 2 "_law_pick" 2 (dFn 2 B_law_pick_6e96)) (D__law_mixed : DFo P w K mg base 2 "_law_mixed" 2 (dFn 4 B_law_mixed_b93a)) (m_tuple : mg "tuple" = none) (m_range : mg "range" = none) (m_list : mg "list" = none): FnOk P w K mg base CX0 3 f fd ["_law_state_here", "_law_many", "_law_most"] (lP ⟨P, w, K⟩ 3 (dFn 15 B_law_history_6dd1)) := by
  refine fn_o F sc__law_history rfl fun cdv A outer s H E hr => ?_
  have nd := sc__law_history.nd
  have u64 := hr.units
  have u65 : (A.deeper (envOfC "_law_history" (defScope s__law_history) s.heap.objs.size f cdv)).units + 65 < cLine := by have := hr.un; omega
  have u1 : (A.deeper (envOfC "_law_history" (defScope s__law_history) s.heap.objs.size f cdv)).units + 1 < cLine := by have := hr.un; omega
  unfold B_law_history_6dd1
  exact dss_cons (ds_set (i := 3) nd rfl (by first | exact .inl rfl | exact .inr rfl) (de_bin o_add (de_int) (de_callo D__law_draw (hr.mono (by decide)) (by rfl) (da_cons (dv 0) (da_cons (dv 1) (da_nil))))))
    (dss_cons (ds_set (i := 4) nd rfl (by first | exact .inl rfl | exact .inr rfl) (de_callo D__law_mixed (hr.mono (by decide)) (by rfl) (da_cons (dv 0) (da_cons (de_listRg2 rfl (by rfl) m_list (by rfl) m_range (de_int) (de_int)) (da_nil)))))
    (dss_cons (ds_asg (b := true) (de_tup (da_cons (de_callo D__law_draw (hr.mono (by decide)) (by rfl) (da_cons (dv 0) (da_cons (de_int) (da_nil)))) (da_cons (de_bin o_mul (de_lst (da_cons (de_tup (da_nil)) (da_nil))) (dv 3)) (da_cons (de_lst (da_nil)) (da_cons (de_int) (da_nil)))))) (dg_tup rfl (dgs_cons (dg_name (i := 5) nd rfl (by first | exact .inl rfl | exact .inr rfl)) (dgs_cons (dg_name (i := 6) nd rfl (by first | exact .inl rfl | exact .inr rfl)) (dgs_cons (dg_name (i := 7) nd rfl (by first | exact .inl rfl | exact .inr rfl)) (dgs_cons (dg_name (i := 8) nd rfl (by first | exact .inl rfl | exact .inr rfl)) (dgs_nil)))))))
    (dss_cons (ds_for PassesOwn.never rfl (di_rg1 (by rfl) m_range (da_cons (de_callo D__law_draw (hr.mono (by decide)) (by rfl) (da_cons (dv 0) (da_cons (de_bin o_add (dv 2) (de_int)) (da_nil)))) (da_nil))) (dg_name (i := 9) nd rfl (by first | exact .inl rfl | exact .inr rfl)) (dss_cons (ds_asg (b := true) (de_tup (da_cons (de_callo D__law_draw (hr.mono (by decide)) (by rfl) (da_cons (dv 0) (da_cons (dv 3) (da_nil)))) (da_cons (de_callo D__law_draw (hr.mono (by decide)) (by rfl) (da_cons (dv 0) (da_cons (de_int) (da_nil)))) (da_nil)))) (dg_tup rfl (dgs_cons (dg_name (i := 10) nd rfl (by first | exact .inl rfl | exact .inr rfl)) (dgs_cons (dg_name (i := 11) nd rfl (by first | exact .inl rfl | exact .inr rfl)) (dgs_nil)))))
    (dss_cons (ds_setLc (i := 12) (own := [("_law_pair", 14)]) rfl nd rfl rfl (sw_true rfl rfl rfl (by decide +kernel)) (di_val (dv 7)) (blkOk_by (by first | decide +kernel | rfl)) (by decide) (fun _ _ _ _ _ => dg_name (i := 14) nd rfl (by first | exact .inl rfl | exact .inr rfl)) (fun _ _ _ _ _ => dts_one (dt_cmp (o_ne u64) (de_ix o_ix (dv 14) (de_int)) (dv 10))) (fun _ _ _ _ _ => dv 14))
    (dss_one (ds_if (DW.dt (dw_or (DW.dt (dw_and (dt_cmp o_lt (dv 11) (de_int)) (dw_and1 (dt_cmp (o_ne u64) (dv 5) (de_int))))) (dw_or1 (dt_cmp (o_eq u64) (dv 11) (de_int))))) (dss_one (ds_asg (b := true) (de_bin o_add (de_ix o_ix (dv 6) (dv 10)) (de_tup (da_cons (de_int) (da_nil)))) (dg_sub (dv 6) (dv 10)))) (dss_one (ds_if (DW.dt (dw_or (DW.dt (dw_and (dt_cmp o_lt (dv 11) (de_int)) (dw_and1 (dt_cmp o_lt (dv 8) (de_int))))) (dw_or1 (dt_cmp (o_eq u64) (dv 12) (de_lst (da_nil)))))) (dss_one (ds_if (dt_cmp o_lt (dv 8) (de_int)) (dss_cons (ds_set (i := 13) nd rfl (by first | exact .inl rfl | exact .inr rfl) (de_ifExp (dt_cmp (o_eq u64) (dv 5) (de_int)) (de_bin o_add (dv 8) (de_int)) (de_ix o_ix (dv 4) (dv 8))))
    (dss_cons (ds_asg (b := true) (de_bin o_add (de_ix o_ix (dv 6) (dv 10)) (de_tup (da_cons (dv 13) (da_nil)))) (dg_sub (dv 6) (dv 10)))
    (dss_cons (ds_expr (de_mL PySem.F.slot_list_append PySem.F.type_list_append m_append (dv 7) (da_cons (de_tup (da_cons (dv 13) (da_cons (dv 10) (da_nil)))) (da_nil))))
    (dss_one (ds_set (i := 8) nd rfl (by first | exact .inl rfl | exact .inr rfl) (de_bin o_add (dv 8) (de_int))))))) (dss_nil))) (dss_cons (ds_set (i := 14) nd rfl (by first | exact .inl rfl | exact .inr rfl) (de_ifExp (dt_cmp (o_eq u64) (dv 5) (de_int)) (de_ix o_ix (dv 12) (de_int)) (de_callo D__law_pick (hr.mono (by decide)) (by rfl) (da_cons (dv 0) (da_cons (dv 12) (da_nil))))))
    (dss_cons (ds_expr (de_mL PySem.F.slot_list_remove PySem.F.type_list_remove (m_remove u64) (dv 7) (da_cons (dv 14) (da_nil))))
    (dss_one (ds_asg (b := true) (de_bin o_add (de_ix o_ix (dv 6) (dv 10)) (de_tup (da_cons (de_bin o_sub (de_int) (de_ix o_ix (dv 14) (de_int))) (da_nil)))) (dg_sub (dv 6) (dv 10)))))))))))))
    (dss_one (ds_ret (de_callTy b_tuple (by rfl) m_tuple (by decide +kernel) (da_cons (dv 6) (da_nil))))))))
abbrev s__law_state : Stmt := topS 44
theorem sc__law_state : FnScope ["_law_script", "_law_cells", "_law_cell"] ["_law_script"] (defScope s__law_state) := ⟨rfl, rfl, rfl, by decide +kernel, rfl, by decide +kernel, by decide +kernel⟩
set_option maxHeartbeats 4000000 in
theorem der__law_state {P : Program} {w : World} {K : PySem.W.Frag} {mg : Str → Option Value} {base : Heap} {f : Addr} {fd : FuncData} (F : Fun K "_law_state" "_law_state" s__law_state f fd)  (m_len : mg "len" = none) (m_abs : mg "abs" = none): FnOk P w K mg base CX0 1 f fd ["_law_script"] (lP ⟨P, w, K⟩ 1 (dFn 3 B_law_state_64d4)) := by
  refine fn_o F sc__law_state rfl fun cdv A outer s H E hr => ?_
  have nd := sc__law_state.nd
  have u64 := hr.units
  have u65 : (A.deeper (envOfC "_law_state" (defScope s__law_state) s.heap.objs.size f cdv)).units + 65 < cLine := by have := hr.un; omega
  have u1 : (A.deeper (envOfC "_law_state" (defScope s__law_state) s.heap.objs.size f cdv)).units + 1 < cLine := by have := hr.un; omega
  unfold B_law_state_64d4
  exact dss_cons (ds_setLc (i := 1) (own := [("_law_cell", 2)]) rfl nd rfl rfl (sw_true rfl rfl rfl (by decide +kernel)) (di_val (dv 0)) (blkOk_by (by first | decide +kernel | rfl)) (by decide) (fun _ _ _ _ _ => dg_name (i := 2) nd rfl (by first | exact .inl rfl | exact .inr rfl)) (fun _ _ _ _ _ => dts_nil) (fun _ _ _ _ _ => de_callB b_abs (by rfl) m_abs (by decide +kernel) (da_cons (dv 2) (da_nil))))
    (dss_one (ds_ret (de_lst (da_cons (de_lc (own := [("_law_cell", 2)]) rfl nd (di_val (dv 1)) (blkOk_by (by first | decide +kernel | rfl)) (by decide) (fun _ _ _ _ _ => dg_name (i := 2) nd rfl (by first | exact .inl rfl | exact .inr rfl)) (fun _ _ _ _ _ => dts_one (dt_cmp o_ge (dv 2) (de_bin o_pow (de_int) (de_int)))) (fun _ _ _ _ _ => dv 2)) (da_cons (de_bin o_add (dv 1) (de_lst (da_cons (de_bin o_add (de_callB b_len (by rfl) m_len PySem.boot_len (da_cons (dv 1) (da_nil))) (de_int)) (da_nil)))) (da_cons (de_int) (da_nil)))))))
abbrev s_law : Stmt := topS 55
theorem sc_law : FnScope ["_law_script", "_law_state_here", "_law_turn", "_law_rows", "_law_cuts", "_law_again", "_law_some", "_law_cut", "_law_due", "_law_row"] ["_law_script"] (defScope s_law) := ⟨rfl, rfl, rfl, by decide +kernel, rfl, by decide +kernel, by decide +kernel⟩
set_option maxHeartbeats 4000000 in
theorem der_law {P : Program} {w : World} {K : PySem.W.Frag} {mg : Str → Option Value} {base : Heap} {f : Addr} {fd : FuncData} (F : Fun K "law" "law" s_law f fd) (D__law_draw : DFo P w K mg base 1 "_law_draw" 2 (dFn 5 B_law_draw_a332)) (D__law_pick : DFo P w K mg base 2 "_law_pick" 2 (dFn 2 B_law_pick_6e96)) (D__law_same : DFn P w K mg base 1 "_law_same" 2 (dFn 2 B_law_same_de9b)) (D_verdict_holds : DFo P w K mg base 6 "verdict_holds" 3 (dFn 6 B_verdict_holds_e52c)) (D__law_with : DFo P w K mg base 1 "_law_with" 2 (dFn 4 B_law_with_a200)) (D__law_right : DFn P w K mg base 8 "_law_right" 3 (dFn 13 B_law_right_edc8)) (D__law_chosen : DFo P w K mg base 3 "_law_chosen" 2 (dFn 4 B_law_chosen_7d70)) (D__law_all_lines : DFo P w K mg base 3 "_law_all_lines" 1 (dFn 6 B_law_all_lines_88dc)) (D__law_history : DFo P w K mg base 3 "_law_history" 3 (dFn 15 B_law_history_6dd1)) (D__law_state : DFo P w K mg base 1 "_law_state" 1 (dFn 3 B_law_state_64d4)) (m_range : mg "range" = none) (m_tuple : mg "tuple" = none): FnG P w K mg base 9 f fd ["_law_script"] (lP ⟨P, w, K⟩ 1 (dFn 10 B_law_e6f8)) := by
  refine fn_d F sc_law rfl fun cdv A outer s H E hg hr => ?_
  have nd := sc_law.nd
  have u64 := hr.units
  have u65 : (A.deeper (envOfC "law" (defScope s_law) s.heap.objs.size f cdv)).units + 65 < cLine := by have := hr.un; omega
  have u1 : (A.deeper (envOfC "law" (defScope s_law) s.heap.objs.size f cdv)).units + 1 < cLine := by have := hr.un; omega
  unfold B_law_e6f8
  exact dss_cons (ds_set (i := 1) nd rfl (by first | exact .inl rfl | exact .inr rfl) (de_callo D__law_state (hr.mono (by decide)) (by rfl) (da_cons (dv 0) (da_nil))))
    (dss_cons (ds_for PassesOwn.never rfl (di_rg1 (by rfl) m_range (da_cons (de_int) (da_nil))) (dg_name (i := 2) nd rfl (by first | exact .inl rfl | exact .inr rfl)) (dss_cons (ds_set (i := 3) nd rfl (by first | exact .inl rfl | exact .inr rfl) (de_callo D__law_history (hr.mono (by decide)) (by rfl) (da_cons (dv 1) (da_cons (de_int) (da_cons (de_int) (da_nil))))))
    (dss_cons (ds_set (i := 4) nd rfl (by first | exact .inl rfl | exact .inr rfl) (de_callo D__law_all_lines (hr.mono (by decide)) (by rfl) (da_cons (dv 3) (da_nil))))
    (dss_one (ds_for PassesOwn.never rfl (di_rg1 (by rfl) m_range (da_cons (de_int) (da_nil))) (dg_name (i := 5) nd rfl (by first | exact .inl rfl | exact .inr rfl)) (dss_cons (ds_set (i := 6) nd rfl (by first | exact .inl rfl | exact .inr rfl) (de_callo D__law_chosen (hr.mono (by decide)) (by rfl) (da_cons (dv 1) (da_cons (dv 3) (da_nil)))))
    (dss_cons (ds_if (dt_not (dt_val (de_call D__law_right hg (hr.mono (by decide)) (by rfl) (da_cons (dv 3) (da_cons (dv 4) (da_cons (dv 6) (da_nil))))))) (dss_one (ds_ret (de_bl))) (dss_nil))
    (dss_one (ds_for PassesOwn.never rfl (di_val (de_lst (da_cons (de_callo D__law_pick (hr.mono (by decide)) (by rfl) (da_cons (dv 1) (da_cons (dv 4) (da_nil)))) (da_cons (de_callTy b_tuple (by rfl) m_tuple (by decide +kernel) (da_cons (de_lc (own := [("_law_row", 9)]) rfl nd (di_val (dv 3)) (blkOk_by (by first | decide +kernel | rfl)) (by decide) (fun _ _ _ _ _ => dg_name (i := 9) nd rfl (by first | exact .inl rfl | exact .inr rfl)) (fun _ _ _ _ _ => dts_nil) (fun _ _ _ _ _ => de_callo D__law_draw (hr.mono (by decide)) (by rfl) (da_cons (dv 1) (da_cons (de_bin o_add (de_mT PySem.F.slot_tuple_count PySem.F.type_tuple_count (m_tcount u64) (dv 9) (da_cons (de_int) (da_nil))) (de_int)) (da_nil))))) (da_nil))) (da_nil))))) (dg_name (i := 7) nd rfl (by first | exact .inl rfl | exact .inr rfl)) (dss_cons (ds_set (i := 8) nd rfl (by first | exact .inl rfl | exact .inr rfl) (de_cmp (o_in u65) (dv 7) (de_callo D__law_with (hr.mono (by decide)) (by rfl) (da_cons (dv 4) (da_cons (dv 6) (da_nil))))))
    (dss_one (ds_if (dt_not (dt_val (de_call D__law_same hg (hr.mono (by decide)) (by rfl) (da_cons (de_callo D_verdict_holds (hr.mono (by decide)) (by rfl) (da_cons (dv 3) (da_cons (dv 6) (da_cons (de_tup (da_cons (de_str) (da_cons (dv 7) (da_nil)))) (da_nil))))) (da_cons (dv 8) (da_nil)))))) (dss_one (ds_ret (de_bl))) (dss_nil)))))))))))))
    (dss_one (ds_ret (de_bl))))
end Sv
namespace Sv
open PySem L2
theorem seqP {t u : DTS} {C : DEnds} {env : Env} {S : Sto} (P : Env → Sto → Prop) (h1 : ∀ C' : DEnds, C'.rt = C.rt → C'.bk = C.bk → C'.ct = C.ct → (∀ e s, P e s → C'.nx e s) → t C' env S) (h2 : ∀ e s, P e s → u C e s) : dSeq t u C env S :=
  h1 { C with nx := u C } rfl rfl rfl h2
theorem iteB {c : Bool} {A B : Prop} (h1 : c = true → A) (h2 : c = false → B) : if c = true then A else B := by
  cases c with
  | true => exact (if_pos rfl).mpr (h1 rfl)
  | false => exact (if_neg Bool.false_ne_true).mpr (h2 rfl)
theorem goT {A B : Prop} (h : A) : if true = true then A else B := (if_pos rfl).mpr h
theorem goF {A B : Prop} (h : B) : if false = true then A else B := (if_neg Bool.false_ne_true).mpr h
/-- all that stands stays, but at some places -/
def SK (P : Addr → Prop) (S S' : Sto) : Prop := ∀ a o, ¬ P a → S a = some o → S' a = some o
theorem SK.refl {P : Addr → Prop} (S : Sto) : SK P S S := fun _ _ _ h => h
theorem SK.trans {P : Addr → Prop} {S S1 S2 : Sto} (x : SK P S S1) (y : SK P S1 S2) : SK P S S2 := fun a o n h => y a o n (x a o n h)
theorem SK.put {P : Addr → Prop} {S : Sto} {p : Addr} {o : Ob} (h : P p) : SK P S (S.put p o) := fun a u n e => by
  rw [Sto.ne fun z => n (by rw [z]; exact h)]
  exact e
theorem SK.new {P : Addr → Prop} {S : Sto} {p : Addr} {o : Ob} (h : S p = none) : SK P S (S.put p o) := fun a u _ e => by
  rw [Sto.ne fun z => by rw [z, h] at e; cases e]
  exact e
theorem SK.mono {P Q : Addr → Prop} {S S' : Sto} (x : SK P S S') (h : ∀ a, P a → Q a) : SK Q S S' := fun a o n e => x a o (fun z => n (h a z)) e
/-- only new things -/
abbrev SG : Sto → Sto → Prop := SK fun _ => False
theorem SG.sk {P : Addr → Prop} {S S' : Sto} (x : SG S S') : SK P S S' := x.mono fun _ h => h.elim
theorem noTup (a : Addr) : (∀ ds, D.ref a ≠ D.tup ds) ∧ ∀ ds, D.ref a ≠ D.wtup ds := ⟨fun _ z => (nomatch z), fun _ z => (nomatch z)⟩
/-- the draws' state -/
def Deck (st big : Addr) (S : Sto) : Prop := st ≠ big ∧ ∃ (bs : List Int) (a b c : Int), S st = some (.lst [.ref big, .int a, .int b, .int c]) ∧ S big = some (.lst (intsD bs))
abbrev DP (st big : Addr) : Addr → Prop := fun a => a = st ∨ a = big
theorem Deck.keep {st big : Addr} {S S' : Sto} (h : Deck st big S) (k : SG S S') : Deck st big S' := by
  obtain ⟨h1, bs, a, b, c, h2, h3⟩ := h
  exact ⟨h1, bs, a, b, c, k _ _ (fun z => z) h2, k _ _ (fun z => z) h3⟩
theorem Deck.keepP {st big : Addr} {S S' : Sto} {P : Addr → Prop} (h : Deck st big S) (k : SK P S S') (n1 : ¬ P st) (n2 : ¬ P big) : Deck st big S' := by
  obtain ⟨h1, bs, a, b, c, h2, h3⟩ := h
  exact ⟨h1, bs, a, b, c, k _ _ n1 h2, k _ _ n2 h3⟩
theorem shaped_ints (bs : List Int) : SeqAt.shaped (.list (bs.map PyData.int)) = true := shaped_lst bs
theorem pys_ints {S : Sto} : ∀ bs : List Int, Pys S (intsD bs) (bs.map PyData.int)
  | [] => .nil
  | b :: r => .cons (.int b) (pys_ints r)
end Sv
namespace Sv
open PySem PySem.Spec PyProof.Rows L2
inductive Grown (c : Nat) (nm : List Int) : List (List Int) → List (Int × Int) → Nat → Nat → Prop
  | start : Grown c nm (List.replicate c []) [] 0 0
  | skip {r o u k} : Grown c nm r o u k → Grown c nm r o u (k + 1)
  | save {r o u k p row} : Grown c nm r o u k → r[p]? = some row → Grown c nm (r.set p (row ++ [0])) o u (k + 1)
  | send {r o u k p row m} : Grown c nm r o u k → r[p]? = some row → nm[u]? = some m → Grown c nm (r.set p (row ++ [m])) (o ++ [(m, (p : Int))]) (u + 1) (k + 1)
  | recv {r o u k row j m q} {p : Nat} : Grown c nm r o u k → r[p]? = some row → o[j]? = some (m, q) → q ≠ (p : Int) → Grown c nm (r.set p (row ++ [0 - m])) (o.eraseIdx j) u (k + 1)
def names24 : List Int := (List.range 24).map fun (i : Nat) => (1 : Int) + (i : Nat)
/-- the rows of a history that the law may draw: at most `many` rows, `most` events -/
def Good (many most : Nat) (rows : List (List Int)) : Prop := ∃ (c : Nat) (nm : List Int) (o : List (Int × Int)) (u k : Nat), 1 ≤ c ∧ c ≤ many ∧ nm.Perm names24 ∧ Grown c nm rows o u k ∧ k ≤ most
theorem Grown.len {c : Nat} {nm : List Int} {r : List (List Int)} {o : List (Int × Int)} {u k : Nat} (h : Grown c nm r o u k) : r.length = c := by
  induction h with
  | start => exact List.length_replicate ..
  | skip _ ih => exact ih
  | save _ _ ih => rw [List.length_set]; exact ih
  | send _ _ _ ih => rw [List.length_set]; exact ih
  | recv _ _ _ _ ih => rw [List.length_set]; exact ih
theorem sum_len_set {r : List (List Int)} {p : Nat} {row : List Int} {v : Int} (h : r[p]? = some row) : ((r.set p (row ++ [v])).map List.length).sum = (r.map List.length).sum + 1 := by
  induction r generalizing p with
  | nil => simp at h
  | cons a r ih =>
    cases p with
    | zero =>
      have e : a = row := Option.some.inj h
      subst e
      simp only [List.set_cons_zero, List.map_cons, List.sum_cons, List.length_append, List.length_singleton]
      omega
    | succ p =>
      have := ih (p := p) h
      simp only [List.set_cons_succ, List.map_cons, List.sum_cons, this]
      omega
theorem Grown.events {c : Nat} {nm : List Int} {r : List (List Int)} {o : List (Int × Int)} {u k : Nat} (h : Grown c nm r o u k) : (r.map List.length).sum ≤ k := by
  induction h with
  | start => simp
  | skip _ ih => omega
  | save _ h ih => rw [sum_len_set h]; omega
  | send _ h _ ih => rw [sum_len_set h]; omega
  | recv _ h _ _ ih => rw [sum_len_set h]; omega
theorem Grown.opens_le {c : Nat} {nm : List Int} {r : List (List Int)} {o : List (Int × Int)} {u k : Nat} (h : Grown c nm r o u k) : o.length ≤ k := by
  induction h with
  | start => exact Nat.le_refl _
  | skip _ ih => omega
  | save _ _ ih => omega
  | send _ _ _ ih => rw [List.length_append, List.length_singleton]; omega
  | recv _ _ _ _ ih =>
    rw [List.length_eraseIdx]
    split <;> omega
theorem len_le_sum {r : List (List Int)} {p : Nat} {row : List Int} (h : r[p]? = some row) : row.length ≤ (r.map List.length).sum := by
  induction r generalizing p with
  | nil => simp at h
  | cons a r ih =>
    cases p with
    | zero =>
      have e : a = row := Option.some.inj h
      subst e
      simp only [List.map_cons, List.sum_cons]
      omega
    | succ p =>
      have := ih (p := p) h
      simp only [List.map_cons, List.sum_cons]
      omega
def pD (p : Int × Int) : PyData := .tuple [.int p.1, .int p.2]
theorem pD_eqv (a b : Int × Int) : PyData.eqv (pD a) (pD b) = decide (a = b) := by
  obtain ⟨x, y⟩ := a
  obtain ⟨z, w⟩ := b
  have e : PyData.eqv (pD (x, y)) (pD (z, w)) = ((x == z) && ((y == w) && true)) := by simp only [pD, PyData.eqv, PyData.eqvAll]
  rw [e, Bool.and_true]
  by_cases h1 : x = z
  · by_cases h2 : y = w
    · subst h1 h2
      simp
    · have : (y == w) = false := beq_eq_false_iff_ne.mpr h2
      rw [this, Bool.and_false]
      exact (decide_eq_false fun q => h2 (Prod.mk.inj q).2).symm
  · have : (x == z) = false := beq_eq_false_iff_ne.mpr h1
    rw [this, Bool.false_and]
    exact (decide_eq_false fun q => h1 (Prod.mk.inj q).1).symm
theorem pD_plain : ∀ o : List (Int × Int), PyData.plainAll (o.map pD) = true
  | [] => rfl
  | p :: r => by
    have h := pD_plain r
    show (PyData.plain (pD p) && PyData.plainAll (r.map pD)) = true
    rw [h]
    rfl
theorem pD_lay : ∀ o : List (Int × Int), PyData.canLayAll0 (o.map pD) = true
  | [] => by simp [PyData.canLayAll0]
  | p :: r => by
    have h := pD_lay r
    simp only [List.map_cons, PyData.canLayAll0, h, pD, PyData.canLay0, Bool.and_self]
theorem pD_depth : ∀ o : List (Int × Int), PyData.depthAll (o.map pD) ≤ 1
  | [] => by simp [PyData.depthAll]
  | p :: r => by
    have h := pD_depth r
    have h2 : (pD p).depth = 1 := by simp [pD, PyData.depth, PyData.depthAll]
    simp only [List.map_cons, PyData.depthAll]
    omega
theorem shaped_pairs (o : List (Int × Int)) : SeqAt.shaped (.list (o.map pD)) = true := by
  have h1 := pD_lay o
  have h2 := pD_depth o
  show (PyData.canLay0 (.list (o.map pD)) && decide (PyData.depth (.list (o.map pD)) ≤ 64)) = true
  simp only [PyData.canLay0, PyData.depth, h1, Bool.true_and]
  exact decide_eq_true (by omega)
theorem names24_len : names24.length = 24 := by decide +kernel
theorem pD_shaped (p : Int × Int) : SeqAt.shaped (pD p) = true := shaped_tup [p.1, p.2]
end Sv
namespace Sv
open PySem L2
/-- one turn -/
def Turn1 (g : DTG) (tt : DTT) (te : DTE) (env : Env) (d : D) (S : Sto) (K : DK) (Kn : Sto → Prop) : Prop := g d env S fun env' S' => tt env' S' fun b S2 => if b = true then te env' S2 K else Kn S2
theorem turn_y {i : Nat} {te : DTE} {env : Env} {d : D} {S : Sto} {K : DK} {Kn : Sto → Prop} (h : te (env.set i (some d)) S K) : Turn1 (dgName i) dYes te env d S K Kn := by
  show (if true = true then te (env.set i (some d)) S K else Kn S)
  exact goT h
theorem turn_n {i : Nat} {t : DTT} {te : DTE} {env : Env} {d : D} {S : Sto} {K : DK} {Kn : Sto → Prop} (h : t (env.set i (some d)) S fun b S2 => if b = true then te (env.set i (some d)) S2 K else Kn S2) : Turn1 (dgName i) t te env d S K Kn := h
theorem fm_map {α β : Type} (f : α → β) (l : List α) : l.filterMap (fun x => some (f x)) = l.map f := by
  induction l with
  | nil => rfl
  | cons a l ih => rw [List.filterMap_cons, List.map_cons, ih]
/-- data of rows -/
def rowD (r : List Int) : D := .tup (intsD r)
def rowsD (rows : List (List Int)) : List D := rows.map rowD
end Sv
namespace Sv
open PySem L2
theorem Deck.st' {st big : Addr} {S : Sto} (h : Deck st big S) : ∃ o, S st = some o := by
  obtain ⟨_, _, _, _, _, h, _⟩ := h
  exact ⟨_, h⟩
theorem Deck.big' {st big : Addr} {S : Sto} (h : Deck st big S) : ∃ o, S big = some o := by
  obtain ⟨_, _, _, _, _, _, h⟩ := h
  exact ⟨_, h⟩
theorem Deck.fresh {st big : Addr} {S : Sto} (h : Deck st big S) {p : Addr} (n : S p = none) : p ≠ st ∧ p ≠ big := by
  obtain ⟨o, e⟩ := h.st'
  obtain ⟨u, f⟩ := h.big'
  exact ⟨fun z => (by rw [z, e] at n; cases n), fun z => (by rw [z, f] at n; cases n)⟩
theorem SK.free {P : Addr → Prop} {S S' : Sto} (k : SK P S S') {p : Addr} (n : S' p = none) (hp : ¬ P p) : S p = none := by
  cases e : S p with
  | none => rfl
  | some o => rw [k _ _ hp e] at n; cases n
theorem rg_at {lo : Int} {n i : Nat} {d : D} (h : (rgD lo n)[i]? = some d) : i < n ∧ d = .int (lo + (i : Nat)) := by
  have hi : i < n := by
    have := (List.getElem?_eq_some_iff.mp h).1
    rwa [rgD, List.length_map, List.length_range] at this
  refine ⟨hi, ?_⟩
  rw [rgD, List.getElem?_map, List.getElem?_range hi] at h
  cases h
  rfl
theorem rg_len (lo : Int) (n : Nat) : (rgD lo n).length = n := by rw [rgD, List.length_map, List.length_range]
theorem eraseIdx_map' {α β : Type} (f : α → β) : ∀ (l : List α) (j : Nat), (l.map f).eraseIdx j = (l.eraseIdx j).map f
  | [], _ => rfl
  | _ :: _, 0 => rfl
  | a :: l, j + 1 => by
    show f a :: (l.map f).eraseIdx j = f a :: (l.eraseIdx j).map f
    rw [eraseIdx_map' f l j]
theorem perm_eraseIdx {α : Type} : ∀ (l : List α) (j : Nat) (h : j < l.length), (l[j] :: l.eraseIdx j).Perm l
  | a :: l, 0, _ => .refl _
  | a :: l, j + 1, h => by
    have hj : j < l.length := Nat.lt_of_succ_lt_succ h
    have ih := perm_eraseIdx l j hj
    exact (List.Perm.swap a (l[j]'hj) (l.eraseIdx j)).trans (ih.cons a)
theorem intsD_len (xs : List Int) : (intsD xs).length = xs.length := List.length_map ..
end Sv
namespace Sv
open PySem L2
def pairD (p : Int × Int) : D := .tup [.int p.1, .int p.2]
def GS (S : Sto) (st big t : Addr) (nm : List Int) (rows : List (List Int)) (o : List (Int × Int)) (u : Nat) (sh : Int) : Prop :=
  ∃ N O : Addr, S t = some (.lst [.tup (rowsD rows), .ref N, .ref O, .int sh]) ∧ S N = some (.lst (intsD (nm.drop u))) ∧ S O = some (.lst (o.map pairD)) ∧ (N ≠ st ∧ N ≠ big) ∧ (O ≠ st ∧ O ≠ big) ∧ t ≠ st ∧ t ≠ big
theorem nDP {st big a : Addr} (h : a ≠ st ∧ a ≠ big) : ¬ DP st big a := fun z => z.elim h.1 h.2
theorem GS.keep {S S' : Sto} {st big t : Addr} {nm : List Int} {rows : List (List Int)} {o : List (Int × Int)} {u : Nat} {sh : Int} (h : GS S st big t nm rows o u sh) (k : SK (DP st big) S S') : GS S' st big t nm rows o u sh := by
  obtain ⟨N, O, h1, h2, h3, h4, h5, h6⟩ := h
  exact ⟨N, O, k _ _ (nDP h6) h1, k _ _ (nDP h4) h2, k _ _ (nDP h5) h3, h4, h5, h6⟩
theorem rg24D : rgD 1 24 = intsD names24 := by
  unfold rgD intsD names24
  rw [List.map_map]
  rfl
end Sv
set_option maxHeartbeats 400000
namespace Sv
open PySem L2
theorem py_pair {S : Sto} (p : Int × Int) : Py S (pairD p) (pD p) := .tup (.cons (.int _) (.cons (.int _) .nil))
theorem pys_pairs {S : Sto} : ∀ o : List (Int × Int), Pys S (o.map pairD) (o.map pD)
  | [] => .nil
  | p :: r => .cons (py_pair p) (pys_pairs r)
theorem cutD_to {xs : List D} {i : Nat} (h : i ≤ xs.length) : cutD xs none (some (i : Int)) = xs.take i := by
  unfold cutD
  rw [HT.sIx_none, HT.sIx_nat, List.drop_zero, Nat.min_eq_left h, Nat.sub_zero]
theorem cutD_from {xs : List D} {i : Nat} (h : i ≤ xs.length) : cutD xs (some (i : Int)) none = xs.drop i := by
  unfold cutD
  rw [HT.sIx_none, HT.sIx_nat, Nat.min_eq_left h]
  exact List.take_of_length_le (by rw [List.length_drop]; exact Nat.le_refl _)
theorem dIfS_by {c : DTT} {t u : DTS} {C : DEnds} {env : Env} {S : Sto} (P : Bool → Sto → Prop) (hc : ∀ K : Bool → Sto → Prop, (∀ b S', P b S' → K b S') → c env S K) (ht : ∀ S', P true S' → t C env S') (hu : ∀ S', P false S' → u C env S') : dIfS c t u C env S := by
  refine hc _ fun b S' h => ?_
  cases b with
  | true => exact goT (ht S' h)
  | false => exact goF (hu S' h)
theorem atI_nat {xs : List D} {i : Nat} {d : D} (h : xs[i]? = some d) : atI xs (i : Int) = some d := by
  have hi := (List.getElem?_eq_some_iff.mp h).1
  unfold atI ixN
  rw [if_pos (Int.natCast_nonneg i), if_pos (Int.ofNat_lt.mpr hi), Int.toNat_natCast]
  exact h
end Sv
set_option maxHeartbeats 400000
set_option maxHeartbeats 400000
namespace Sv
open PySem L2
/-- no part of the drawn state -/
def GF (S : Sto) (t f : Addr) : Prop := t ≠ f ∧ ∀ (N O : Addr) (r s : D), S t = some (.lst [r, .ref N, .ref O, s]) → f ≠ N ∧ f ≠ O
end Sv
set_option maxHeartbeats 400000
namespace Sv
open PySem L2
/-- the draws' state: cells at cl (never written), at most n draws so far, what is left of large cells at rs -/
def Dk (st cl rs : Addr) (n : Nat) (S : Sto) : Prop := st ≠ cl ∧ st ≠ rs ∧ cl ≠ rs ∧ ∃ (cs ws : List Int) (t : Nat), t ≤ n ∧ 0 < cs.length ∧ cs.length = ws.length ∧ S st = some (.lst [.ref cl, .int (t : Int), .ref rs]) ∧ S cl = some (.lst (intsD cs)) ∧ S rs = some (.lst (intsD ws))
abbrev DQ (st rs : Addr) : Addr → Prop := fun a => a = st ∨ a = rs
theorem Dk.keepP {st cl rs : Addr} {n : Nat} {S S' : Sto} {P : Addr → Prop} (h : Dk st cl rs n S) (k : SK P S S') (n1 : ¬ P st) (n2 : ¬ P cl) (n3 : ¬ P rs) : Dk st cl rs n S' := by
  obtain ⟨a1, a2, a3, cs, ws, t, tn, c0, cw, hs, hc, hw⟩ := h
  exact ⟨a1, a2, a3, cs, ws, t, tn, c0, cw, k _ _ n1 hs, k _ _ n2 hc, k _ _ n3 hw⟩
theorem Dk.keep {st cl rs : Addr} {n : Nat} {S S' : Sto} (h : Dk st cl rs n S) (k : SG S S') : Dk st cl rs n S' := h.keepP k (fun z => z) (fun z => z) (fun z => z)
theorem Dk.mono {st cl rs : Addr} {n m : Nat} {S : Sto} (h : Dk st cl rs n S) (e : n ≤ m) : Dk st cl rs m S := by
  obtain ⟨a1, a2, a3, cs, ws, t, tn, c0, cw, hs, hc, hw⟩ := h
  exact ⟨a1, a2, a3, cs, ws, t, by omega, c0, cw, hs, hc, hw⟩
theorem Dk.fresh {st cl rs : Addr} {n : Nat} {S : Sto} (h : Dk st cl rs n S) {p : Addr} (z : S p = none) : p ≠ st ∧ p ≠ cl ∧ p ≠ rs := by
  obtain ⟨a1, a2, a3, cs, ws, t, tn, c0, cw, hs, hc, hw⟩ := h
  exact ⟨fun e => (by rw [e, hs] at z; cases z), fun e => (by rw [e, hc] at z; cases z), fun e => (by rw [e, hw] at z; cases z)⟩
theorem Dk.put {st cl rs : Addr} {n : Nat} {S : Sto} (h : Dk st cl rs n S) {p : Addr} {o : Ob} (z : p ≠ st ∧ p ≠ cl ∧ p ≠ rs) : Dk st cl rs n (S.put p o) := by
  obtain ⟨a1, a2, a3, cs, ws, t, tn, c0, cw, hs, hc, hw⟩ := h
  exact ⟨a1, a2, a3, cs, ws, t, tn, c0, cw, (Sto.ne (Ne.symm z.1)).trans hs, (Sto.ne (Ne.symm z.2.1)).trans hc, (Sto.ne (Ne.symm z.2.2)).trans hw⟩
theorem SK.own {P : Addr → Prop} {S0 S : Sto} {a : Addr} {o : Ob} (h : SK P S0 S) (n : S0 a = none) : SK P S0 (S.put a o) := fun b u nb e => by
  rw [Sto.ne fun z => by rw [z, n] at e; cases e]
  exact h b u nb e
theorem intsD_at {cs : List Int} {i : Nat} {c : Int} (h : cs[i]? = some c) : (intsD cs)[i]? = some (D.int c) := by
  unfold intsD
  rw [List.getElem?_map, h]
  rfl
theorem intsD_set (cs : List Int) (i : Nat) (c : Int) : (intsD cs).set i (.int c) = intsD (cs.set i c) := by
  unfold intsD
  rw [List.map_set]
theorem ixnN' {n j : Nat} (hj : j < n) : ixN n (j : Int) = some j := by
  unfold ixN
  rw [if_pos (Int.natCast_nonneg j), if_pos (Int.ofNat_lt.mpr hj), Int.toNat_natCast]
end Sv
namespace Sv
open PySem PySem.Spec PyProof.Rows L2
def hapFrom (e : Int) : Nat → List (List Int) → Option (Nat × Nat)
  | _, [] => none
  | p, r :: rs => if e ∈ r then some (p, (r.take (r.idxOf e)).count 0) else hapFrom e (p + 1) rs
def hap (rows : List (List Int)) (e : Int) : Option (Nat × Nat) := hapFrom e 0 rows
def poss (l : List Int) : List Int := l.filter fun e => decide (0 < e)
def negs (l : List Int) : List Int := (l.filter fun e => decide (e < 0)).map fun e => -e
def LeL (a b : List Nat) : Prop := ∀ (i x y : Nat), a[i]? = some x → b[i]? = some y → x ≤ y
theorem LeL.set {a b : List Nat} (h : LeL a b) {p d k : Nat} (hd : a[p]? = some d) (hk : k ≤ d) : LeL (a.set p k) b := fun i x y g1 g2 => by
  rw [List.getElem?_set] at g1
  split at g1
  · rename_i e
    subst e
    split at g1
    · obtain rfl := Option.some.inj g1
      have := h _ _ _ hd g2
      omega
    · cases g1
  · exact h _ _ _ g1 g2
theorem flat_set {r : List (List Int)} {p : Nat} {row : List Int} {v : Int} (h : r[p]? = some row) : (r.set p (row ++ [v])).flatten.Perm (v :: r.flatten) := by
  induction r generalizing p with
  | nil => simp at h
  | cons a r ih =>
    cases p with
    | zero =>
      obtain rfl : a = row := Option.some.inj h
      simp only [List.set_cons_zero, List.flatten_cons, List.append_assoc, List.singleton_append]
      exact List.perm_middle
    | succ p =>
      simp only [List.set_cons_succ, List.flatten_cons]
      exact ((ih (p := p) h).append_left a).trans List.perm_middle
theorem names_pos {nm : List Int} (hn : nm.Perm names24) : ∀ m ∈ nm, 1 ≤ m ∧ m ≤ 24 := by
  intro m h1
  have h2 := hn.mem_iff.mp h1
  obtain ⟨i, hi, rfl⟩ := List.mem_map.mp h2
  have := List.mem_range.mp hi
  omega
theorem Grown.small {c : Nat} {nm : List Int} {r : List (List Int)} {o : List (Int × Int)} {u k : Nat} (h : Grown c nm r o u k) (hn : nm.Perm names24) :
    (∀ row ∈ r, ∀ e ∈ row, -24 ≤ e ∧ e ≤ 24) ∧ ∀ p ∈ o, 1 ≤ p.1 ∧ p.1 ≤ 24 := by
  have setl : ∀ {r : List (List Int)} {p : Nat} {row : List Int} {v : Int}, (∀ row ∈ r, ∀ e ∈ row, -24 ≤ e ∧ e ≤ 24) → r[p]? = some row → -24 ≤ v → v ≤ 24 → ∀ row' ∈ r.set p (row ++ [v]), ∀ e ∈ row', -24 ≤ e ∧ e ≤ 24 := by
    intro r p row v h1 h2 h3 h4 row' hr e he
    rcases List.mem_or_eq_of_mem_set hr with z | rfl
    · exact h1 _ z e he
    · rcases List.mem_append.mp he with z | z
      · exact h1 _ (List.mem_of_getElem? h2) e z
      · rw [List.mem_singleton.mp z]
        exact ⟨h3, h4⟩
  have hm : ∀ m ∈ nm, 1 ≤ m ∧ m ≤ 24 := by
    intro m h1
    have h2 := hn.mem_iff.mp h1
    obtain ⟨i, hi, rfl⟩ := List.mem_map.mp h2
    have := List.mem_range.mp hi
    omega
  induction h with
  | start =>
    refine ⟨fun row hr e he => ?_, fun p hp => (nomatch hp)⟩
    rw [(List.mem_replicate.mp hr).2] at he
    exact (nomatch he)
  | skip _ ih => exact ih
  | save _ h ih => exact ⟨setl ih.1 h (by decide) (by decide), ih.2⟩
  | send _ h hu ih =>
    have := hm _ (List.mem_of_getElem? hu)
    refine ⟨setl ih.1 h (by omega) (by omega), fun p hp => ?_⟩
    rcases List.mem_append.mp hp with z | z
    · exact ih.2 p z
    · rw [List.mem_singleton.mp z]
      exact this
  | recv _ h hj _ ih =>
    have := ih.2 _ (List.mem_of_getElem? hj)
    exact ⟨setl ih.1 h (by omega) (by omega), fun p hp => ih.2 p (List.mem_of_mem_eraseIdx hp)⟩
theorem unerase_perm {α : Type} : ∀ {o : List α} {j : Nat} {x : α}, o[j]? = some x → (x :: o.eraseIdx j).Perm o
  | [], j, _, h => by simp at h
  | a :: o, 0, x, h => by
    obtain rfl : a = x := Option.some.inj h
    exact .refl _
  | a :: o, j + 1, x, h => by
    rw [List.eraseIdx_cons_succ]
    exact (List.Perm.swap a x _).trans ((unerase_perm (o := o) (j := j) h).cons a)
theorem Grown.once {c : Nat} {nm : List Int} {r : List (List Int)} {o : List (Int × Int)} {u k : Nat} (h : Grown c nm r o u k) (hn : nm.Perm names24) :
    (poss r.flatten).Perm (nm.take u) ∧ (negs r.flatten ++ o.map (·.1)).Perm (nm.take u) := by
  induction h with
  | start =>
    have e : (List.replicate c ([] : List Int)).flatten = [] := by simp
    rw [e]
    exact ⟨.refl _, .refl _⟩
  | skip _ ih => exact ih
  | save _ h ih =>
    have p := flat_set (v := 0) h
    exact ⟨(p.filter _).trans ih.1, (((p.filter _).map _).append_right _).trans ih.2⟩
  | @send r o u k p row m g h hu ih =>
    have q := flat_set (v := m) h
    have hm := names_pos hn _ (List.mem_of_getElem? hu)
    have tk : nm.take (u + 1) = nm.take u ++ [m] := by
      rw [List.take_add_one, hu]
      rfl
    rw [tk]
    have h1 : poss (m :: r.flatten) = m :: poss r.flatten := List.filter_cons_of_pos (decide_eq_true (by omega))
    have h2 : negs (m :: r.flatten) = negs r.flatten := by
      unfold negs
      rw [List.filter_cons_of_neg (by rw [decide_eq_false (show ¬ m < 0 by omega)]; exact Bool.false_ne_true)]
    refine ⟨(q.filter _).trans ?_, (((q.filter _).map _).append_right _).trans ?_⟩
    · show (poss (m :: r.flatten)).Perm _
      rw [h1]
      exact (ih.1.cons m).trans (List.perm_append_singleton m _).symm
    · show (negs (m :: r.flatten) ++ _).Perm _
      rw [h2, List.map_append, ← List.append_assoc]
      exact ih.2.append_right _
  | @recv r o u k row j m q p g h hj _ ih =>
    have w := flat_set (v := 0 - m) h
    have hm := (g.small hn).2 _ (List.mem_of_getElem? hj)
    have h1 : poss ((0 - m) :: r.flatten) = poss r.flatten := List.filter_cons_of_neg (by rw [decide_eq_false (show ¬ 0 < 0 - m by simp only at hm; omega)]; exact Bool.false_ne_true)
    have h2 : negs ((0 - m) :: r.flatten) = m :: negs r.flatten := by
      have d : decide (0 - m < 0) = true := decide_eq_true (by simp only at hm; omega)
      have e1 : -(0 - m) = m := by omega
      unfold negs
      simp only [List.filter_cons, d, if_true, List.map_cons, e1]
    refine ⟨(w.filter _).trans ?_, (((w.filter _).map _).append_right _).trans ?_⟩
    · show (poss ((0 - m) :: r.flatten)).Perm _
      rw [h1]
      exact ih.1
    · show (negs ((0 - m) :: r.flatten) ++ _).Perm _
      rw [h2]
      have e := (unerase_perm hj).map Prod.fst
      refine List.Perm.trans ?_ ((e.append_left _).trans ih.2)
      exact List.perm_middle.symm
theorem names_nodup : names24.Nodup := by decide
theorem Grown.count {c : Nat} {nm : List Int} {r : List (List Int)} {o : List (Int × Int)} {u k : Nat} (h : Grown c nm r o u k) (hn : nm.Perm names24) {e : Int} (he : e ≠ 0) : r.flatten.count e ≤ 1 := by
  obtain ⟨h1, h2⟩ := h.once hn
  have nt : (nm.take u).Nodup := ((hn.nodup_iff).mpr names_nodup).sublist (List.take_sublist _ _)
  by_cases hp : 0 < e
  · have n1 : (poss r.flatten).Nodup := h1.nodup_iff.mpr nt
    have := List.nodup_iff_count.mp n1 e
    unfold poss at this
    rw [List.count_filter (p := fun e : Int => decide (0 < e)) (decide_eq_true hp)] at this
    exact this
  · have n2 : (negs r.flatten).Nodup := (h2.nodup_iff.mpr nt).sublist (List.sublist_append_left _ _)
    have hlt : e < 0 := by omega
    have n3 : (r.flatten.filter fun e => decide (e < 0)).Nodup := by
      unfold negs at n2
      exact (List.pairwise_map.mp n2).imp fun h z => h (by rw [z])
    have := List.nodup_iff_count.mp n3 e
    rw [List.count_filter (p := fun e : Int => decide (e < 0)) (decide_eq_true hlt)] at this
    exact this
theorem hapFrom_some {e : Int} : ∀ {rs : List (List Int)} {p i : Nat} {row : List Int}, (∀ (j : Nat) (r : List Int), j < i → rs[j]? = some r → e ∉ r) → rs[i]? = some row → e ∈ row → hapFrom e p rs = some (p + i, (row.take (row.idxOf e)).count 0)
  | [], _, i, _, _, h, _ => by simp at h
  | r :: rs, p, 0, row, _, h, he => by
    obtain rfl : r = row := Option.some.inj h
    unfold hapFrom
    rw [if_pos he]
    rfl
  | r :: rs, p, i + 1, row, hn, h, he => by
    unfold hapFrom
    rw [if_neg (hn 0 r (Nat.succ_pos _) rfl), hapFrom_some (i := i) (fun j r' hj hr => hn (j + 1) r' (Nat.succ_lt_succ hj) hr) h he]
    have : p + 1 + i = p + (i + 1) := by omega
    rw [this]
theorem idx_once : ∀ {row : List Int} {i : Nat} {e : Int}, row[i]? = some e → row.count e ≤ 1 → row.idxOf e = i
  | [], i, _, h, _ => by simp at h
  | a :: r, 0, e, h, _ => by
    obtain rfl : a = e := Option.some.inj h
    exact List.idxOf_cons_self
  | a :: r, i + 1, e, h, hc => by
    have h1 : e ∈ r := List.mem_of_getElem? (i := i) h
    have h2 := List.count_pos_iff.mpr h1
    have hne : a ≠ e := fun z => by
      subst z
      rw [List.count_cons_self] at hc
      omega
    rw [List.count_cons_of_ne hne] at hc
    rw [List.idxOf_cons, idx_once (row := r) (i := i) h hc, beq_false_of_ne hne]
    rfl
theorem count_at : ∀ {r : List (List Int)} {i : Nat} {row : List Int} {e : Int}, r[i]? = some row → row.count e ≤ r.flatten.count e
  | [], i, _, _, h => by simp at h
  | a :: r, 0, row, e, h => by
    obtain rfl : a = row := Option.some.inj h
    rw [List.flatten_cons, List.count_append]
    omega
  | a :: r, i + 1, row, e, h => by
    have := count_at (r := r) (i := i) (e := e) h
    rw [List.flatten_cons, List.count_append]
    omega
theorem count_two : ∀ {r : List (List Int)} {i j : Nat} {a b : List Int} {e : Int}, i < j → r[i]? = some a → r[j]? = some b → e ∈ a → e ∈ b → 2 ≤ r.flatten.count e
  | [], i, _, _, _, _, _, h, _, _, _ => by simp at h
  | x :: r, 0, j + 1, a, b, e, _, h1, h2, h3, h4 => by
    obtain rfl : x = a := Option.some.inj h1
    have h5 := count_at (r := r) (i := j) (e := e) h2
    have h6 := List.count_pos_iff.mpr h3
    have h7 := List.count_pos_iff.mpr h4
    rw [List.flatten_cons, List.count_append]
    omega
  | x :: r, i + 1, j + 1, a, b, e, hij, h1, h2, h3, h4 => by
    have := count_two (r := r) (i := i) (j := j) (Nat.lt_of_succ_lt_succ hij) h1 h2 h3 h4
    rw [List.flatten_cons, List.count_append]
    omega
/-- where an event of a message happened -/
theorem Good.hap_at {many most : Nat} {rows : List (List Int)} (h : Good many most rows) {p i : Nat} {row : List Int} {e : Int} (h1 : rows[p]? = some row) (h2 : row[i]? = some e) (he : e ≠ 0) : hap rows e = some (p, (row.take i).count 0) := by
  obtain ⟨c, nm, o, u, k, _, _, hp, g, _⟩ := h
  have hc := g.count hp he
  have hm := List.mem_of_getElem? h2
  have h3 := hapFrom_some (e := e) (p := 0) (rs := rows) (i := p) (row := row) (fun j r hj hr hr2 => ?_) h1 hm
  · unfold hap
    rw [h3, Nat.zero_add, idx_once h2 (Nat.le_trans (count_at h1) hc)]
  · have := count_two hj hr h1 hr2 hm
    omega
theorem Good.len {many most : Nat} {rows : List (List Int)} (h : Good many most rows) : 1 ≤ rows.length ∧ rows.length ≤ many := by
  obtain ⟨c, nm, o, u, k, h1, h2, h3, h4, h5⟩ := h
  rw [h4.len]
  exact ⟨h1, h2⟩
theorem Good.events {many most : Nat} {rows : List (List Int)} (h : Good many most rows) : (rows.map List.length).sum ≤ most := by
  obtain ⟨c, nm, o, u, k, h1, h2, h3, h4, h5⟩ := h
  exact Nat.le_trans h4.events h5
theorem Good.row {many most : Nat} {rows : List (List Int)} (h : Good many most rows) {i : Nat} {row : List Int} (e : rows[i]? = some row) : row.length ≤ most ∧ ∀ x ∈ row, -24 ≤ x ∧ x ≤ 24 := by
  obtain ⟨c, nm, o, u, k, h1, h2, h3, h4, h5⟩ := id h
  exact ⟨Nat.le_trans (len_le_sum e) h.events, (h4.small h3).1 row (List.mem_of_getElem? e)⟩
def recvM (rows : List (List Int)) (m : Int) : Bool := (hap rows (0 - m)).isSome
def recvL (rows : List (List Int)) : List Int := names24.filter (recvM rows)
theorem recvL_nodup (rows : List (List Int)) : (recvL rows).Nodup := names_nodup.sublist List.filter_sublist
theorem names_mem {m : Int} : m ∈ names24 ↔ 1 ≤ m ∧ m ≤ 24 := by
  unfold names24
  rw [List.mem_map]
  constructor
  · rintro ⟨i, hi, rfl⟩
    have := List.mem_range.mp hi
    omega
  · intro h
    exact ⟨(m - 1).toNat, List.mem_range.mpr (by omega), by omega⟩
/-- where an event stands first -/
def spotFrom (e : Int) : Nat → List (List Int) → Option (Nat × Nat)
  | _, [] => none
  | p, r :: rs => if e ∈ r then some (p, r.idxOf e) else spotFrom e (p + 1) rs
theorem spot_hap {e : Int} : ∀ {rs : List (List Int)} {p : Nat}, (spotFrom e p rs = none ∧ hapFrom e p rs = none) ∨ ∃ j row, rs[j]? = some row ∧ e ∈ row ∧ spotFrom e p rs = some (p + j, row.idxOf e) ∧ hapFrom e p rs = some (p + j, (row.take (row.idxOf e)).count 0)
  | [], _ => .inl ⟨rfl, rfl⟩
  | r :: rs, p => by
    unfold spotFrom hapFrom
    by_cases h : e ∈ r
    · rw [if_pos h, if_pos h]
      exact .inr ⟨0, r, rfl, h, rfl, rfl⟩
    · rw [if_neg h, if_neg h]
      rcases spot_hap (e := e) (rs := rs) (p := p + 1) with q | ⟨j, row, h1, h2, h3, h4⟩
      · exact .inl q
      · refine .inr ⟨j + 1, row, h1, h2, ?_, ?_⟩
        · rw [h3]; congr 2; omega
        · rw [h4]; congr 2; omega
theorem Good.recv {many most : Nat} {rows : List (List Int)} (h : Good many most rows) : (negs rows.flatten).Perm (recvL rows) := by
  obtain ⟨c, nm, o, u, k, h1, h2, hp, g, h5⟩ := id h
  have nt : (nm.take u).Nodup := ((hp.nodup_iff).mpr names_nodup).sublist (List.take_sublist _ _)
  have n1 : (negs rows.flatten).Nodup := ((g.once hp).2.nodup_iff.mpr nt).sublist (List.sublist_append_left _ _)
  refine (List.perm_ext_iff_of_nodup n1 (recvL_nodup rows)).mpr fun m => ?_
  unfold negs recvL
  rw [List.mem_map, List.mem_filter, names_mem]
  constructor
  · rintro ⟨e, he, rfl⟩
    obtain ⟨hm, hneg⟩ := List.mem_filter.mp he
    obtain ⟨row, hr, hmr⟩ := List.mem_flatten.mp hm
    obtain ⟨p, hp1⟩ := List.getElem?_of_mem hr
    obtain ⟨i, hi⟩ := List.getElem?_of_mem hmr
    have hb := (h.row hp1).2 e hmr
    have h0 : e < 0 := of_decide_eq_true hneg
    refine ⟨by omega, ?_⟩
    unfold recvM
    rw [show (0 : Int) - -e = e by omega, h.hap_at hp1 hi (by omega)]
    rfl
  · rintro ⟨hm, hs⟩
    refine ⟨0 - m, List.mem_filter.mpr ⟨?_, decide_eq_true (by omega)⟩, by omega⟩
    rcases spot_hap (e := 0 - m) (rs := rows) (p := 0) with ⟨_, z⟩ | ⟨p, row, z1, z2, _⟩
    · unfold recvM hap at hs
      rw [z] at hs
      cases hs
    · exact List.mem_flatten.mpr ⟨row, List.mem_of_getElem? z1, z2⟩
def sentM (rows : List (List Int)) (m : Int) : Bool := (hap rows m).isSome
def sentL (rows : List (List Int)) : List Int := names24.filter (sentM rows)
theorem Good.sent {many most : Nat} {rows : List (List Int)} (h : Good many most rows) : (poss rows.flatten).Perm (sentL rows) := by
  obtain ⟨c, nm, o, u, k, h1, h2, hp, g, h5⟩ := id h
  have nt : (nm.take u).Nodup := ((hp.nodup_iff).mpr names_nodup).sublist (List.take_sublist _ _)
  have n1 : (poss rows.flatten).Nodup := (g.once hp).1.nodup_iff.mpr nt
  have n2 : (sentL rows).Nodup := names_nodup.sublist List.filter_sublist
  refine (List.perm_ext_iff_of_nodup n1 n2).mpr fun m => ?_
  unfold poss sentL
  rw [List.mem_filter, List.mem_filter, names_mem]
  constructor
  · rintro ⟨hm, hpos⟩
    obtain ⟨row, hr, hmr⟩ := List.mem_flatten.mp hm
    obtain ⟨p, hp1⟩ := List.getElem?_of_mem hr
    obtain ⟨i, hi⟩ := List.getElem?_of_mem hmr
    have hb := (h.row hp1).2 m hmr
    have h0 : 0 < m := of_decide_eq_true hpos
    refine ⟨by omega, ?_⟩
    unfold sentM
    rw [h.hap_at hp1 hi (by omega)]
    rfl
  · rintro ⟨hm, hs⟩
    refine ⟨?_, decide_eq_true (by omega)⟩
    rcases spot_hap (e := m) (rs := rows) (p := 0) with ⟨_, z⟩ | ⟨p, row, z1, z2, _⟩
    · unfold sentM hap at hs
      rw [z] at hs
      cases hs
    · exact List.mem_flatten.mpr ⟨row, List.mem_of_getElem? z1, z2⟩
theorem Good.recv_sent {many most : Nat} {rows : List (List Int)} (h : Good many most rows) {m : Int} (hm : m ∈ recvL rows) : sentM rows m = true := by
  obtain ⟨c, nm, o, u, k, h1, h2, hp, g, h5⟩ := id h
  have h6 := h.recv.mem_iff.mpr hm
  have h7 := (g.once hp).2.mem_iff.mp (List.mem_append_left _ h6)
  have h8 := h.sent.mem_iff.mp ((g.once hp).1.mem_iff.mpr h7)
  exact (List.mem_filter.mp h8).2
theorem names_sorted : names24.Pairwise (· ≤ ·) := by decide +kernel
theorem recvL_sorted (rows : List (List Int)) : (recvL rows).Pairwise (· ≤ ·) := names_sorted.sublist List.filter_sublist
theorem recvL_len (rows : List (List Int)) : (recvL rows).length ≤ 24 := by
  have := List.length_filter_le (recvM rows) names24
  have h24 : names24.length = 24 := by decide +kernel
  unfold recvL
  omega
theorem Good.recv_mem {many most : Nat} {rows : List (List Int)} (h : Good many most rows) {m : Int} {x : Nat × Nat} (hm : 0 < m) (hx : hap rows (0 - m) = some x) : m ∈ recvL rows := by
  refine List.mem_filter.mpr ⟨names_mem.mpr ?_, by unfold recvM; rw [hx]; rfl⟩
  rcases spot_hap (e := 0 - m) (rs := rows) (p := 0) with ⟨_, z⟩ | ⟨p, row, z1, z2, _⟩
  · unfold hap at hx
    rw [z] at hx
    cases hx
  · have := (h.row z1).2 _ z2
    omega
theorem Good.hap_lt {rows : List (List Int)} {e : Int} {p k : Nat} (h : hap rows e = some (p, k)) : p < rows.length := by
  rcases spot_hap (e := e) (rs := rows) (p := 0) with ⟨_, z⟩ | ⟨p', row, z1, z2, _, z4⟩
  · unfold hap at h
    rw [z] at h
    cases h
  · unfold hap at h
    rw [z4, Nat.zero_add] at h
    cases h
    exact (List.getElem?_eq_some_iff.mp z1).1
theorem LeL.refl (a : List Nat) : LeL a a := fun i x y h1 h2 => by rw [h1] at h2; rw [Option.some.inj h2]; exact Nat.le_refl _
/-- no message is received before the line and sent behind it -/
def ConsL (rows : List (List Int)) (cs : List Nat) : Prop := ∀ (m : Int) (p k p' k' c c' : Nat), 0 < m → hap rows m = some (p, k) → hap rows (0 - m) = some (p', k') → cs[p]? = some c → cs[p']? = some c' → k' < c' → k < c
structure Dn (rows : List (List Int)) (high cs : List Nat) : Prop where
  len : cs.length = high.length
  le : LeL cs high
  top : ∀ L : List Nat, L.length = high.length → LeL L high → ConsL rows L → LeL L cs
structure IsLow (rows : List (List Int)) (high cs : List Nat) : Prop extends Dn rows high cs where
  cons : ConsL rows cs
/-- the greatest numbers that are left if these fail -/
def tops (rows : List (List Int)) (fs : List Int) : List Nat := rows.mapIdx fun i r => r.count 0 + (if decide ((i : Int) ∈ fs) = true then 0 else 1)
def prs (rows : List (List Int)) : List Nat := rows.map fun r => r.count 0 + 1
/-- a state that is needed when f fails -/
def NeedAt (rows : List (List Int)) (f p n : Nat) : Prop := ∃ cs : List Nat, IsLow rows (tops rows [(f : Int)]) cs ∧ cs[p]? = some n ∧ n < ((prs rows)[p]?).getD 0
def NeedL (rows : List (List Int)) (us : List (Int × Int)) : Prop := us.length < 64 ∧ us.Pairwise (fun a b => pc a < pc b) ∧ ∀ x, x ∈ us ↔ ∃ f p n : Nat, f < rows.length ∧ NeedAt rows f p n ∧ x = ((p : Int), (n : Int))
theorem NeedL.unique {rows : List (List Int)} {us vs : List (Int × Int)} (h : NeedL rows us) (g : NeedL rows vs) : us = vs := rise_eq pc us vs h.2.1 g.2.1 fun x => (h.2.2 x).trans (g.2.2 x).symm
theorem IsLow.unique {rows : List (List Int)} {high a b : List Nat} (ha : IsLow rows high a) (hb : IsLow rows high b) : a = b := by
  apply List.ext_getElem (ha.len.trans hb.len.symm)
  intro i h1 h2
  have e1 := List.getElem?_eq_getElem h1
  have e2 := List.getElem?_eq_getElem h2
  exact Nat.le_antisymm (hb.top a ha.len ha.le ha.cons i _ _ e1 e2) (ha.top b hb.len hb.le hb.cons i _ _ e2 e1)
theorem Dn.step {rows : List (List Int)} {high cs : List Nat} (h : Dn rows high cs) {m : Int} {p k p' k' c c' : Nat} (hm : 0 < m) (h1 : hap rows m = some (p, k)) (h2 : hap rows (0 - m) = some (p', k')) (h3 : cs[p]? = some c) (h4 : cs[p']? = some c') (h5 : k' < c') (h6 : c ≤ k) : Dn rows high (cs.set p' k') := by
  refine ⟨by rw [List.length_set]; exact h.len, fun i x y g1 g2 => ?_, fun L l1 l2 l3 i x y g1 g2 => ?_⟩
  · rw [List.getElem?_set] at g1
    split at g1
    · rename_i e
      subst e
      split at g1
      · obtain rfl := Option.some.inj g1
        have := h.le _ _ _ h4 g2
        omega
      · cases g1
    · exact h.le _ _ _ g1 g2
  · have hl := h.top L l1 l2 l3
    rw [List.getElem?_set] at g2
    split at g2
    · rename_i e
      subst e
      split at g2
      · obtain rfl := Option.some.inj g2
        have hpl : p < L.length := by
          rw [l1, ← h.len]
          exact (List.getElem?_eq_some_iff.mp h3).1
        have hp := List.getElem?_eq_getElem hpl
        have h7 := hl _ _ _ hp h3
        rcases Nat.lt_or_ge k' x with z | z
        · have := l3 m p k p' k' _ x hm h1 h2 hp g1 z
          omega
        · exact z
      · cases g2
    · exact hl _ _ _ g1 g2
theorem Dn.start (rows : List (List Int)) (high : List Nat) : Dn rows high high := ⟨rfl, .refl _, fun _ _ h _ => h⟩
theorem sum_set {cs : List Nat} {p c k : Nat} (h : cs[p]? = some c) : (cs.set p k).sum + c = cs.sum + k := by
  induction cs generalizing p with
  | nil => simp at h
  | cons a r ih =>
    cases p with
    | zero =>
      obtain rfl : a = c := Option.some.inj h
      simp only [List.set_cons_zero, List.sum_cons]
      omega
    | succ p =>
      have := ih (p := p) h
      simp only [List.set_cons_succ, List.sum_cons]
      omega
theorem tops_at {rows : List (List Int)} {fs : List Int} {i : Nat} {r : List Int} (h : rows[i]? = some r) : (tops rows fs)[i]? = some (r.count 0 + (if decide ((i : Int) ∈ fs) = true then 0 else 1)) := by
  unfold tops
  rw [List.getElem?_mapIdx, h]
  rfl
theorem tops_len (rows : List (List Int)) (fs : List Int) : (tops rows fs).length = rows.length := by
  unfold tops
  rw [List.length_mapIdx]
def rowU (p j : Nat) : List (Int × Int) := (List.range j).map fun (n : Nat) => ((p : Int), (n : Int))
def allU (rows : List (List Int)) (i : Nat) : List (Int × Int) := (List.range i).flatMap fun p => rowU p (((prs rows)[p]?).getD 0 + 1)
theorem prsA {rows : List (List Int)} {p : Nat} {row : List Int} (h : rows[p]? = some row) : (prs rows)[p]? = some (row.count 0 + 1) := by
  unfold prs
  rw [List.getElem?_map, h]
  rfl
theorem NeedAt.lt {rows : List (List Int)} {f p n : Nat} (h : NeedAt rows f p n) : p < rows.length := by
  obtain ⟨cs, h1, h2, _⟩ := h
  have := (List.getElem?_eq_some_iff.mp h2).1
  rw [h1.len, tops_len] at this
  exact this
def minL (a b : List Nat) : List Nat := List.zipWith min a b
theorem minL_len {a b : List Nat} (h : a.length = b.length) : (minL a b).length = a.length := by
  unfold minL
  rw [List.length_zipWith, h, Nat.min_self]
theorem minL_inv {a b : List Nat} {i z : Nat} (h : (minL a b)[i]? = some z) : ∃ x y, a[i]? = some x ∧ b[i]? = some y ∧ z = min x y := by
  unfold minL at h
  rw [List.getElem?_zipWith] at h
  cases h1 : a[i]? with
  | none => rw [h1] at h; cases h
  | some x =>
    cases h2 : b[i]? with
    | none => rw [h1, h2] at h; cases h
    | some y =>
      rw [h1, h2] at h
      exact ⟨x, y, rfl, rfl, (Option.some.inj h).symm⟩
theorem minL_at {a b : List Nat} {i x y : Nat} (h1 : a[i]? = some x) (h2 : b[i]? = some y) : (minL a b)[i]? = some (min x y) := by
  unfold minL
  rw [List.getElem?_zipWith, h1, h2]
theorem IsLow.min {rows : List (List Int)} {h1 h2 a b : List Nat} (ha : IsLow rows h1 a) (hb : IsLow rows h2 b) (hl : h1.length = h2.length) : IsLow rows (minL h1 h2) (minL a b) := by
  have la := ha.len
  have lb := hb.len
  refine ⟨⟨by rw [minL_len (by omega), minL_len hl]; exact la, fun i x y g1 g2 => ?_, fun L l1 l2 l3 i x y g1 g2 => ?_⟩, fun m p k p' k' c c' hm e1 e2 g1 g2 hlt => ?_⟩
  · obtain ⟨u, v, u1, u2, rfl⟩ := minL_inv g1
    obtain ⟨u', v', v1, v2, rfl⟩ := minL_inv g2
    have q1 := ha.le _ _ _ u1 v1
    have q2 := hb.le _ _ _ u2 v2
    omega
  · rw [minL_len hl] at l1
    obtain ⟨u, v, u1, u2, rfl⟩ := minL_inv g2
    have q1 := ha.top L l1 (fun i x y z1 z2 => by
      obtain ⟨y', hy'⟩ : ∃ y', h2[i]? = some y' := ⟨_, List.getElem?_eq_getElem (by have := (List.getElem?_eq_some_iff.mp z2).1; omega)⟩
      have := l2 i x _ z1 (minL_at z2 hy')
      omega) l3 _ _ _ g1 u1
    have q2 := hb.top L (by omega) (fun i x y z1 z2 => by
      obtain ⟨y', hy'⟩ : ∃ y', h1[i]? = some y' := ⟨_, List.getElem?_eq_getElem (by have := (List.getElem?_eq_some_iff.mp z2).1; omega)⟩
      have := l2 i x _ z1 (minL_at hy' z2)
      omega) l3 _ _ _ g1 u2
    omega
  · obtain ⟨u, v, u1, u2, rfl⟩ := minL_inv g1
    obtain ⟨u', v', v1, v2, rfl⟩ := minL_inv g2
    have q1 := ha.cons m p k p' k' u u' hm e1 e2 u1 v1 (by omega)
    have q2 := hb.cons m p k p' k' v v' hm e1 e2 u2 v2 (by omega)
    omega
theorem tops_app (rows : List (List Int)) (fs gs : List Int) : tops rows (fs ++ gs) = minL (tops rows fs) (tops rows gs) := by
  apply List.ext_getElem?
  intro i
  by_cases hi : i < rows.length
  · have hr := List.getElem?_eq_getElem hi
    rw [tops_at (fs := fs ++ gs) hr, minL_at (tops_at (fs := fs) hr) (tops_at (fs := gs) hr)]
    by_cases h1 : (i : Int) ∈ fs
    · rw [decide_eq_true h1, decide_eq_true (List.mem_append_left gs h1), if_pos rfl]
      split <;> rw [Nat.min_eq_left (by omega)]
    · by_cases h2 : (i : Int) ∈ gs
      · rw [decide_eq_false h1, decide_eq_true h2, decide_eq_true (List.mem_append_right fs h2), if_pos rfl, if_neg Bool.false_ne_true, Nat.min_eq_right (by omega)]
      · have h3 : ¬ ((i : Int) ∈ fs ++ gs) := fun z => by
          rcases List.mem_append.mp z with z | z
          · exact h1 z
          · exact h2 z
        rw [decide_eq_false h1, decide_eq_false h2, decide_eq_false h3, Nat.min_self]
  · rw [List.getElem?_eq_none (by rw [tops_len]; omega), List.getElem?_eq_none (by rw [minL_len (by rw [tops_len, tops_len]), tops_len]; omega)]
theorem tops_congr {rows : List (List Int)} {fs gs : List Int} (h : ∀ x, x ∈ fs ↔ x ∈ gs) : tops rows fs = tops rows gs := by
  apply List.ext_getElem?
  intro i
  by_cases hi : i < rows.length
  · have hr := List.getElem?_eq_getElem hi
    rw [tops_at (fs := fs) hr, tops_at (fs := gs) hr, decide_eq_decide.mpr (h i)]
  · rw [List.getElem?_eq_none (by rw [tops_len]; omega), List.getElem?_eq_none (by rw [tops_len]; omega)]
theorem IsLow.app {rows : List (List Int)} {fs gs : List Int} {a b : List Nat} (ha : IsLow rows (tops rows fs) a) (hb : IsLow rows (tops rows gs) b) : IsLow rows (tops rows (fs ++ gs)) (minL a b) := by
  rw [tops_app]
  exact ha.min hb (by rw [tops_len, tops_len])
theorem IsLow.mono {rows : List (List Int)} {fs gs : List Int} {a b : List Nat} (ha : IsLow rows (tops rows fs) a) (hb : IsLow rows (tops rows gs) b) (h : ∀ x ∈ gs, x ∈ fs) : LeL a b := by
  have e : tops rows fs = tops rows (fs ++ gs) := tops_congr fun x => ⟨fun z => List.mem_append_left _ z, fun z => (List.mem_append.mp z).elim id (h x)⟩
  have q := ha
  rw [e] at q
  have := q.unique (ha.app hb)
  intro i x y g1 g2
  rw [this] at g1
  obtain ⟨u, v, u1, u2, rfl⟩ := minL_inv g1
  obtain rfl := Option.some.inj (u2.symm.trans g2)
  exact Nat.min_le_right _ _
theorem perm_sorted_eq : ∀ {a b : List Int}, a.Perm b → a.Pairwise (· ≤ ·) → b.Pairwise (· ≤ ·) → a = b
  | [], b, h, _, _ => h.nil_eq
  | x :: a, [], h, _, _ => absurd h.length_eq (by simp)
  | x :: a, y :: b, h, h1, h2 => by
    obtain ⟨p1, q1⟩ := List.pairwise_cons.mp h1
    obtain ⟨p2, q2⟩ := List.pairwise_cons.mp h2
    have e : x = y := by
      have m1 : x ∈ y :: b := h.mem_iff.mp List.mem_cons_self
      have m2 : y ∈ x :: a := h.mem_iff.mpr List.mem_cons_self
      rcases List.mem_cons.mp m1 with z | z
      · exact z
      · rcases List.mem_cons.mp m2 with z2 | z2
        · exact z2.symm
        · have := p2 x z
          have := p1 y z2
          omega
    subst e
    rw [perm_sorted_eq h.cons_inv q1 q2]
/-- what a tuple holds is little -/
def small (d : PyData) : Prop := ∀ ds, d = .tuple ds → ds.length ≤ 10
/-- a process and an interval that are small -/
def HapS (o : Option (Nat × Nat)) : Prop := ∀ p k, o = some (p, k) → p ≤ 1000 ∧ k ≤ 1000
theorem hapFrom_small {e : Int} : ∀ {rs : List (List Int)} {p : Nat}, (∀ r ∈ rs, r.length ≤ 1000) → p + rs.length ≤ 1000 → HapS (hapFrom e p rs)
  | [], _, _, _ => fun p k h => (nomatch h)
  | r :: rs, p, h, hl => by
    unfold hapFrom
    rw [List.length_cons] at hl
    split
    · intro p' k' h'
      cases h'
      refine ⟨by omega, Nat.le_trans (List.count_le_length ..) ?_⟩
      rw [List.length_take]
      exact Nat.le_trans (Nat.min_le_right _ _) (h r List.mem_cons_self)
    · exact hapFrom_small (fun r' hr => h r' (List.mem_cons_of_mem _ hr)) (by omega)
theorem Good.hapS {many most : Nat} {rows : List (List Int)} (h : Good many most rows) (h1 : many ≤ 6) (h2 : most ≤ 60) (e : Int) : HapS (hap rows e) := by
  refine hapFrom_small (fun r hr => ?_) (by have := h.len; omega)
  obtain ⟨i, hi⟩ := List.getElem?_of_mem hr
  have := (h.row hi).1
  omega
theorem hapFrom_none {e : Int} : ∀ {rs : List (List Int)} {p : Nat}, (∀ (j : Nat) (r : List Int), rs[j]? = some r → e ∉ r) → hapFrom e p rs = none
  | [], _, _ => rfl
  | r :: rs, p, h => by
    unfold hapFrom
    rw [if_neg (h 0 r rfl)]
    exact hapFrom_none fun j r' hr => h (j + 1) r' hr
end Sv
namespace Sv
open PySem L2
theorem lc_map {α : Type} {g : DTG} {tt : DTT} {te : DTE} {us : List Nat} {env : Env} {S1 : Sto} {Rp : Addr → Sto → Prop} (xs : List α) (gx : α → D) (lv : Sto → Prop) (f : α → Option D) (hlen : xs.length ≤ 100000) (live : ∀ S, SG S1 S → lv S)
    (step : ∀ a ∈ xs, ∀ S, SG S1 S → ∀ (K : DK) (Kn : Sto → Prop), (∀ y, f a = some y → ∀ S', SG S S' → K y S') → (f a = none → ∀ S', SG S S' → Kn S') → Turn1 g tt te (dwipe env us) (gx a) S K Kn)
    (fin : ∀ p S', S1 p = none → SG S1 S' → S' p = some (.lst (xs.filterMap f)) → Rp p S') :
    ∀ p, S1 p = none → ∃ Pv : Nat → Sto → Prop, Pv 0 (S1.put p (.lst [])) ∧ (∀ i S, i ≤ (Src.mk (xs.map gx) lv).items.length → Pv i S → (Src.mk (xs.map gx) lv).live S) ∧
      (∀ i d S, (Src.mk (xs.map gx) lv).items[i]? = some d → Pv i S → g d (dwipe env us) S fun env' S' => tt env' S' fun b S2 => if b = true then te env' S2 fun y S3 => ∃ acc, S3 p = some (.lst acc) ∧ acc.length < 1000000 ∧ Pv (i + 1) (S3.put p (.lst (acc ++ [y]))) else Pv (i + 1) S2) ∧
      ∀ S, Pv (Src.mk (xs.map gx) lv).items.length S → Rp p S := by
  intro p np
  refine ⟨fun i S => SG S1 S ∧ S p = some (.lst ((xs.take i).filterMap f)) ∧ i ≤ xs.length, ⟨.new np, Sto.same, Nat.zero_le _⟩, fun i S _ h => live S h.1, fun i d S hd h => ?_, fun S h => ?_⟩
  · have hd : (xs.map gx)[i]? = some d := hd
    rw [List.getElem?_map] at hd
    obtain ⟨a, ha, rfl⟩ := Option.map_eq_some_iff.mp hd
    have hi : i < xs.length := (List.getElem?_eq_some_iff.mp ha).1
    have ht : xs.take (i + 1) = xs.take i ++ [a] := by rw [List.take_add_one, ha]; rfl
    refine step a (List.mem_of_getElem? ha) S h.1 _ _ (fun y hy S' sg => ?_) (fun hn S' sg => ?_)
    · have hp : S' p = _ := sg _ _ (fun z => z) h.2.1
      have hl : ((xs.take i).filterMap f).length ≤ 100000 := Nat.le_trans (List.length_filterMap_le ..) (by rw [List.length_take]; omega)
      refine ⟨_, hp, by omega, fun a o n e => ?_, ?_, hi⟩
      · have hap : a ≠ p := fun z => by rw [z, np] at e; cases e
        rw [Sto.ne hap]
        exact sg _ _ n (h.1 _ _ n e)
      · rw [Sto.same, ht, List.filterMap_append]
        simp [hy]
    · refine ⟨h.1.trans sg, ?_, hi⟩
      rw [sg _ _ (fun z => z) h.2.1, ht, List.filterMap_append]
      simp [hn]
  · have h : SG S1 S ∧ S p = some (.lst ((xs.take (xs.map gx).length).filterMap f)) ∧ _ := h
    have h2 := h.2.1
    rw [List.length_map, List.take_length] at h2
    exact fin p S np h.1 h2
theorem flat_le {α β : Type} (F : α → List β) (n : Nat) : ∀ xs : List α, (∀ a ∈ xs, (F a).length ≤ n) → (xs.flatMap F).length ≤ xs.length * n
  | [], _ => Nat.zero_le _
  | a :: r, h => by
    rw [List.flatMap_cons, List.length_append, List.length_cons, Nat.succ_mul]
    have := h a List.mem_cons_self
    have := flat_le F n r fun b hb => h b (List.mem_cons_of_mem _ hb)
    omega
theorem take_map {α : Type} {xs : List α} {i : Nat} {a : α} (ha : xs[i]? = some a) : xs.take (i + 1) = xs.take i ++ [a] := by rw [List.take_add_one, ha]; rfl
theorem SG.keepP {S1 S S' : Sto} {p : Addr} {o : Ob} (np : S1 p = none) (h : SG S1 S) (sg : SG S S') : SG S1 (S'.put p o) := fun a o n e => by
  have hap : a ≠ p := fun z => by rw [z, np] at e; cases e
  rw [Sto.ne hap]
  exact sg _ _ n (h _ _ n e)
theorem lc2_map {α β : Type} {g g1 : DTG} {ti1 : DTI} {tt1 : DTT} {te : DTE} {us us1 : List Nat} {env : Env} {S1 : Sto} {Rp : Addr → Sto → Prop} (xs : List α) (gx : α → D) (lv : Sto → Prop) (ys : α → List β) (h : α → β → D) (f : α → β → Option D) (E : α → Env)
    (hl1 : xs.length ≤ 300) (hl2 : ∀ a ∈ xs, (ys a).length ≤ 300) (live : ∀ S, SG S1 S → lv S)
    (out : ∀ a ∈ xs, ∀ S, SG S1 S → ∀ K : Env → Sto → Prop, K (E a) S → g (gx a) (dwipe env us) S K)
    (src : ∀ a ∈ xs, ∀ S, SG S1 S → ∀ K : Src → Sto → Prop, (∀ S', SG S S' → K ⟨(ys a).map (h a), fun _ => True⟩ S') → ti1 (E a) S K)
    (step : ∀ a ∈ xs, ∀ b ∈ ys a, ∀ S, SG S1 S → ∀ (K : DK) (Kn : Sto → Prop), (∀ y, f a b = some y → ∀ S', SG S S' → K y S') → (f a b = none → ∀ S', SG S S' → Kn S') → Turn1 g1 tt1 te (dwipe (E a) us1) (h a b) S K Kn)
    (fin : ∀ p S', S1 p = none → SG S1 S' → S' p = some (.lst (xs.flatMap fun a => (ys a).filterMap (f a))) → Rp p S') :
    ∀ p, S1 p = none → ∃ Pv : Nat → Sto → Prop, Pv 0 (S1.put p (.lst [])) ∧ (∀ i S, i ≤ (Src.mk (xs.map gx) lv).items.length → Pv i S → (Src.mk (xs.map gx) lv).live S) ∧
      (∀ i d S, (Src.mk (xs.map gx) lv).items[i]? = some d → Pv i S → g d (dwipe env us) S fun env' S' => dYes env' S' fun b S2 => if b = true then ti1 env' S2 fun w1 S3 => ∃ Pw : Nat → Sto → Prop, Pw 0 S3 ∧ (∀ j S, j ≤ w1.items.length → Pw j S → w1.live S) ∧
        (∀ j e S, w1.items[j]? = some e → Pw j S → g1 e (dwipe env' us1) S fun env2 S4 => tt1 env2 S4 fun b S5 => if b = true then te env2 S5 fun y S6 => ∃ acc, S6 p = some (.lst acc) ∧ acc.length < 1000000 ∧ Pw (j + 1) (S6.put p (.lst (acc ++ [y]))) else Pw (j + 1) S5) ∧
        (∀ S, Pw w1.items.length S → Pv (i + 1) S) else Pv (i + 1) S2) ∧
      ∀ S, Pv (Src.mk (xs.map gx) lv).items.length S → Rp p S := by
  intro p np
  refine ⟨fun i S => SG S1 S ∧ S p = some (.lst ((xs.take i).flatMap fun a => (ys a).filterMap (f a))) ∧ i ≤ xs.length, ⟨.new np, Sto.same, Nat.zero_le _⟩, fun i S _ h => live S h.1, fun i d S hd hh => ?_, fun S h => ?_⟩
  · have hd : (xs.map gx)[i]? = some d := hd
    rw [List.getElem?_map] at hd
    obtain ⟨a, ha, rfl⟩ := Option.map_eq_some_iff.mp hd
    have hm := List.mem_of_getElem? ha
    have hi : i < xs.length := (List.getElem?_eq_some_iff.mp ha).1
    have ht := take_map ha
    refine out a hm S hh.1 _ ?_
    dsimp only [dYes]
    rw [if_pos rfl]
    refine src a hm S hh.1 _ fun S' sg => ?_
    have hb : ((xs.take i).flatMap fun a => (ys a).filterMap (f a)).length ≤ 90000 := by
      have := flat_le (fun a => (ys a).filterMap (f a)) 300 (xs.take i) fun b hb => Nat.le_trans (List.length_filterMap_le ..) (hl2 b (List.mem_of_mem_take hb))
      have h3 : (xs.take i).length ≤ 300 := by rw [List.length_take]; omega
      have := Nat.mul_le_mul_right 300 h3
      omega
    refine ⟨fun j S => SG S1 S ∧ S p = some (.lst (((xs.take i).flatMap fun a => (ys a).filterMap (f a)) ++ ((ys a).take j).filterMap (f a))) ∧ j ≤ (ys a).length, ⟨hh.1.trans sg, ?_, Nat.zero_le _⟩, fun j S _ q => True.intro, fun j e S2 he q => ?_, fun S2 q => ?_⟩
    · rw [sg _ _ (fun z => z) hh.2.1]
      simp
    · have he : ((ys a).map (h a))[j]? = some e := he
      rw [List.getElem?_map] at he
      obtain ⟨b, hb', rfl⟩ := Option.map_eq_some_iff.mp he
      have hj : j < (ys a).length := (List.getElem?_eq_some_iff.mp hb').1
      have ht2 := take_map hb'
      have h2 := hl2 a hm
      refine step a hm b (List.mem_of_getElem? hb') S2 q.1 _ _ (fun y hy S3 sg3 => ?_) (fun hn S3 sg3 => ?_)
      · have hp : S3 p = _ := sg3 _ _ (fun z => z) q.2.1
        have hl : (((ys a).take j).filterMap (f a)).length ≤ 300 := Nat.le_trans (List.length_filterMap_le ..) (by rw [List.length_take]; omega)
        refine ⟨_, hp, by rw [List.length_append]; omega, SG.keepP np q.1 sg3, ?_, hj⟩
        · rw [Sto.same, ht2, List.filterMap_append, List.append_assoc]
          simp [hy]
      · refine ⟨q.1.trans sg3, ?_, hj⟩
        rw [sg3 _ _ (fun z => z) q.2.1, ht2, List.filterMap_append]
        simp [hn]
    · have q : SG S1 S2 ∧ S2 p = some (.lst (((xs.take i).flatMap fun a => (ys a).filterMap (f a)) ++ ((ys a).take ((ys a).map (h a)).length).filterMap (f a))) ∧ _ := q
      have q2 := q.2.1
      rw [List.length_map, List.take_length] at q2
      refine ⟨q.1, ?_, hi⟩
      rw [q2, ht, List.flatMap_append]
      simp
  · have h : SG S1 S ∧ S p = some (.lst ((xs.take (xs.map gx).length).flatMap fun a => (ys a).filterMap (f a))) ∧ _ := h
    have h2 := h.2.1
    rw [List.length_map, List.take_length] at h2
    exact fin p S np h.1 h2
theorem putD_new {kvs : List (Key × D)} {k : Key} {v : D} (h : k ∉ kvs.map (·.1)) : putD kvs k v = kvs ++ [(k, v)] := by
  unfold putD
  rw [if_neg]
  intro z
  obtain ⟨x, h1, h2⟩ := List.any_eq_true.mp z
  exact h (List.mem_map.mpr ⟨x, h1, of_decide_eq_true h2⟩)
theorem dc_map {α : Type} {g : DTG} {tk tv : DTE} {us : List Nat} {env : Env} {S1 : Sto} {R : DK} (xs : List α) (gx : α → D) (lv : Sto → Prop) (κ : α → Key) (v : α → D) (hlen : xs.length ≤ 100000) (nd : (xs.map κ).Nodup) (live : ∀ S, (∀ a o, S1 a = some o → S a = some o) → lv S)
    (step : ∀ a ∈ xs, ∀ S, SG S1 S → ∀ K : D → D → Sto → Prop, (∀ S', SG S S' → K (kD (κ a)) (v a) S') → g (gx a) (dwipe env us) S fun env' S' => tk env' S' fun y S3 => tv env' S3 fun z S4 => K y z S4)
    (fin : ∀ S', SG S1 S' → R (.dct (xs.map fun a => (κ a, v a))) S') :
    ∀ p, S1 p = none → ∃ Pv : Nat → Sto → Prop, Pv 0 (S1.put p (.dK [])) ∧ (∀ i S, i ≤ (Src.mk (xs.map gx) lv).items.length → Pv i S → (Src.mk (xs.map gx) lv).live S) ∧
      (∀ i d S, (Src.mk (xs.map gx) lv).items[i]? = some d → Pv i S → g d (dwipe env us) S fun env' S' => dYes env' S' fun b S2 => if b = true then tk env' S2 fun y S3 => tv env' S3 fun z S4 => ∃ kvs k, y = kD k ∧ S4 p = some (.dK kvs) ∧ kvs.length < 1000000 ∧ Pv (i + 1) (S4.put p (.dK (putD kvs k z))) else Pv (i + 1) S2) ∧
      ∀ S, Pv (Src.mk (xs.map gx) lv).items.length S → ∃ kvs, S p = some (.dK kvs) ∧ R (.dct kvs) (S.rem p) := by
  intro p np
  refine ⟨fun i S => SG S1 S ∧ S p = some (.dK ((xs.take i).map fun a => (κ a, v a))) ∧ i ≤ xs.length, ⟨.new np, Sto.same, Nat.zero_le _⟩, fun i S _ h => live S fun a o e => h.1 _ _ (fun z => z) e, fun i d S hd h => ?_, fun S h => ?_⟩
  · have hd : (xs.map gx)[i]? = some d := hd
    rw [List.getElem?_map] at hd
    obtain ⟨a, ha, rfl⟩ := Option.map_eq_some_iff.mp hd
    have hi : i < xs.length := (List.getElem?_eq_some_iff.mp ha).1
    have ht := take_map ha
    refine step a (List.mem_of_getElem? ha) S h.1 (fun y z S4 => ∃ kvs k, y = kD k ∧ S4 p = some (.dK kvs) ∧ kvs.length < 1000000 ∧ (SG S1 (S4.put p (.dK (putD kvs k z))) ∧ (S4.put p (.dK (putD kvs k z))) p = some (.dK ((xs.take (i + 1)).map fun a => (κ a, v a))) ∧ i + 1 ≤ xs.length)) fun S' sg => ?_
    have hp : S' p = _ := sg _ _ (fun z => z) h.2.1
    refine ⟨_, _, rfl, hp, ?_, SG.keepP np h.1 sg, ?_, hi⟩
    · rw [List.length_map, List.length_take]
      omega
    · have hnew : κ a ∉ ((xs.take i).map fun a => (κ a, v a)).map (·.1) := by
        rw [List.map_map]
        intro z
        have e : xs = xs.take i ++ a :: xs.drop (i + 1) := by
          obtain ⟨hi', e⟩ := List.getElem?_eq_some_iff.mp ha
          rw [← e]
          exact (List.take_append_drop i xs).symm.trans (by rw [List.drop_eq_getElem_cons hi'])
        rw [e, List.map_append, List.map_cons] at nd
        obtain ⟨y, h1, h2⟩ := List.mem_map.mp z
        exact (List.nodup_append.mp nd).2.2 _ (List.mem_map.mpr ⟨y, h1, h2⟩) _ List.mem_cons_self rfl
      rw [Sto.same, putD_new hnew, ht, List.map_append]
      rfl
  · have h : SG S1 S ∧ S p = some (.dK ((xs.take (xs.map gx).length).map fun a => (κ a, v a))) ∧ _ := h
    have h2 := h.2.1
    rw [List.length_map, List.take_length] at h2
    refine ⟨_, h2, fin _ fun a o n e => ?_⟩
    have hap : a ≠ p := fun z => by rw [z, np] at e; cases e
    show (if a = p then none else S a) = some o
    rw [if_neg hap]
    exact h.1 _ _ n e
end Sv
set_option maxHeartbeats 400000
namespace Sv
open PySem L2
def natD (cs : List Nat) : List D := cs.map fun (c : Nat) => D.int (c : Int)
theorem natD_ints (cs : List Nat) : natD cs = intsD (cs.map fun (c : Nat) => (c : Int)) := by
  unfold natD intsD
  rw [List.map_map]
  rfl
theorem natD_len (cs : List Nat) : (natD cs).length = cs.length := List.length_map ..
theorem natD_at {cs : List Nat} {i c : Nat} (h : cs[i]? = some c) : (natD cs)[i]? = some (D.int (c : Int)) := by
  unfold natD
  rw [List.getElem?_map, h]
  rfl
theorem w_nums {rows : List (List Int)} {S : Sto} {R : DK} (hl : rows.length ≤ 1000) (k : ∀ S', SG S S' → R (.tup (natD (prs rows))) S') : dFn 2 B_state_numbers_78d0 [.tup (rowsD rows)] S R := by
  refine ⟨_, rfl, _, rfl, lc_map rows rowD (fun _ => True) (fun row => some (D.int ((row.count 0 : Nat) + 1))) (by omega) (fun _ _ => True.intro) (fun row _ S1 sg K Kn hk _ => turn_y ⟨_, rfl, ⟨_, rfl⟩, row, 0, rfl, rfl, hk _ rfl _ (.refl _)⟩) fun p S' np sg hp => ?_⟩
  refine ⟨_, _, rfl, seqOf_lst hp, fun ys z => (nomatch z), ?_⟩
  rw [fm_map]
  have := k S' sg
  unfold natD prs at this
  rw [List.map_map] at this
  exact this
/-- where a number stands in the rows -/
def hpD : Option (Nat × Nat) → D
  | none => .non
  | some (p, k) => .tup [.int (p : Int), .int (k : Int)]
theorem w_hap {rows : List (List Int)} {e : Int} {S : Sto} {R : DK} (k : R (hpD (hap rows e)) S) : dFn 6 B_happened_at_e85f [.tup (rowsD rows), .int e] S R := by
  refine ⟨_, rfl, _, _, rfl, rfl, fun i env S' => S' = S ∧ i ≤ rows.length ∧ (∃ x2 x3 x4 x5 : Option D, env = [some (.tup (rowsD rows)), some (.int e), x2, x3, x4, x5]) ∧ ∀ (j : Nat) (r : List Int), j < i → rows[j]? = some r → e ∉ r, ⟨rfl, Nat.zero_le _, ⟨_, _, _, _, rfl⟩, fun j r z => absurd z (Nat.not_lt_zero _)⟩, fun _ _ _ _ _ => True.intro, ?_, ?_⟩
  · rintro i d env S' hd ⟨rfl, hi0, ⟨x2, x3, x4, x5, rfl⟩, hno⟩
    have hd : (enD (rowsD rows))[i]? = some d := hd
    unfold enD at hd
    rw [List.getElem?_mapIdx] at hd
    obtain ⟨rd, hrd, rfl⟩ := Option.map_eq_some_iff.mp hd
    unfold rowsD at hrd
    rw [List.getElem?_map] at hrd
    obtain ⟨row, hrow, rfl⟩ := Option.map_eq_some_iff.mp hrd
    have hi : i < rows.length := (List.getElem?_eq_some_iff.mp hrow).1
    refine ⟨_, rfl, .inl (.inl rfl), _, _, rfl, _, _, rfl, rfl, ?_⟩
    refine ⟨_, rfl, _, rfl, fun j env S2 => S2 = S' ∧ j ≤ row.length ∧ (∃ x5 : Option D, env = [some (.tup (rowsD rows)), some (.int e), some (.int (i : Nat)), some (rowD row), some (.int ((row.take j).count 0 : Nat)), x5]) ∧ e ∉ row.take j, ⟨rfl, Nat.zero_le _, ⟨_, rfl⟩, List.not_mem_nil⟩, fun _ _ _ _ _ => True.intro, ?_, ?_⟩
    · rintro j d env S2 hd ⟨rfl, hj0, ⟨x5, rfl⟩, hn⟩
      have hd : (intsD row)[j]? = some d := hd
      unfold intsD at hd
      rw [List.getElem?_map] at hd
      obtain ⟨z, hz, rfl⟩ := Option.map_eq_some_iff.mp hd
      have hj : j < row.length := (List.getElem?_eq_some_iff.mp hz).1
      have htk : row.take (j + 1) = row.take j ++ [z] := take_map hz
      refine ⟨_, rfl, _, rfl, _, rfl, iteB (fun h1 => ?_) (fun h1 => ?_)⟩
      · have h1 : z = e := by simpa using h1
        subst h1
        refine ⟨_, rfl, _, rfl, rfl, ?_⟩
        have hm : z ∈ row := List.mem_of_getElem? hz
        have hix : row.idxOf z = j := by
          have hk := List.idxOf_lt_length_iff.mpr hm
          have hg : row[row.idxOf z] = z := List.getElem_idxOf hk
          rcases Nat.lt_trichotomy (row.idxOf z) j with h | h | h
          · exact absurd (List.mem_take_iff_getElem.mpr ⟨row.idxOf z, by omega, hg⟩) hn
          · exact h
          · have := List.not_of_lt_findIdx (xs := row) (p := (· == z)) (i := j) h
            have hzz : row[j] = z := (List.getElem?_eq_some_iff.mp hz).2
            simp [hzz] at this
        have hh : hap rows z = some (0 + i, (row.take (row.idxOf z)).count 0) := hapFrom_some hno hrow hm
        rw [hh, Nat.zero_add, hix] at k
        exact k
      · have hze : z ≠ e := by simpa using h1
        have hn2 : e ∉ row.take (j + 1) := by
          rw [htk, List.mem_append, List.mem_singleton]
          rintro (h | h)
          · exact hn h
          · exact hze h.symm
        refine ⟨_, rfl, _, rfl, iteB (fun h2 => ?_) (fun h2 => ?_)⟩
        · have h2 : z = 0 := by simpa using h2
          subst h2
          refine ⟨_, rfl, ⟨rfl, hj, ⟨some (.int 0), ?_⟩, hn2⟩⟩
          rw [htk, List.count_append, List.count_singleton_self]
          rfl
        · have hz0 : z ≠ 0 := by simpa using h2
          refine ⟨rfl, hj, ⟨some (.int z), ?_⟩, hn2⟩
          rw [htk, List.count_append, List.count_singleton, if_neg (by simpa using hz0), Nat.add_zero]
          rfl
    · rintro env S2 ⟨rfl, _, ⟨x5, rfl⟩, hn⟩
      refine ⟨rfl, hi, ⟨_, _, _, _, rfl⟩, fun j r hj hr => ?_⟩
      by_cases hji : j = i
      · subst hji
        obtain rfl := Option.some.inj (hrow.symm.trans hr)
        have hn : e ∉ row.take (intsD row).length := hn
        rw [intsD_len, List.take_length] at hn
        exact hn
      · exact hno j r (by omega) hr
  · rintro env S' ⟨rfl, _, ⟨x2, x3, x4, x5, rfl⟩, hno⟩
    have hh : hap rows e = none := hapFrom_none fun j r hr => hno j r (by
      have := (List.getElem?_eq_some_iff.mp hr).1
      show j < (enD (rowsD rows)).length
      unfold enD rowsD
      rw [List.length_mapIdx, List.length_map]
      exact this) hr
    rw [hh] at k
    exact k
/-- a trip -/
def tripD (rows : List (List Int)) (m : Int) : D := .tup [hpD (hap rows m), hpD (hap rows (0 - m))]
def tripsD (rows : List (List Int)) : D := .dct ((recvL rows).map fun m => (Sum.inl m, tripD rows m))
theorem w_orph {p k p' k' c c' : Nat} {l : Addr} {cs : List Nat} {S : Sto} {R : DK} (hl : S l = some (.lst (natD cs))) (hc : cs[p]? = some c) (hc' : cs[p']? = some c') (q : R (.bl (decide (k' < c') && decide (c ≤ k))) S) :
    dFn 6 B_is_orphan_8604 [.tup [hpD (some (p, k)), hpD (some (p', k'))], .ref l] S R := by
  refine ⟨_, rfl, _, rfl, .inl (.inl rfl), _, _, rfl, ⟨_, rfl, .inl (.inl rfl), _, _, rfl, _, _, rfl, rfl, _, _, rfl, ⟨_, rfl, .inl (.inl rfl), _, _, rfl, _, _, rfl, rfl, rfl, ?_⟩⟩⟩
  refine ⟨_, rfl, _, rfl, _, rfl, _, _, _, seqOf_lst hl, rfl, atI_nat (natD_at hc'), _, rfl, iteB (fun h1 => ?_) (fun h1 => ?_)⟩
  · have h1 : k' < c' := by
      have := of_decide_eq_true h1
      omega
    refine ⟨_, rfl, _, rfl, _, rfl, _, _, _, seqOf_lst hl, rfl, atI_nat (natD_at hc), ?_⟩
    rw [decide_eq_true h1, Bool.true_and] at q
    have : decide ((c : Int) ≤ (k : Int)) = decide (c ≤ k) := decide_eq_decide.mpr (by omega)
    show R (.bl (decide ((c : Int) ≤ (k : Int)))) S
    rw [this]
    exact q
  · have h1 : ¬ k' < c' := by
      have := of_decide_eq_false h1
      omega
    rw [decide_eq_false h1, Bool.false_and] at q
    exact q
theorem hpD_neg (rows : List (List Int)) (m : Int) : hap rows (-m) = hap rows (0 - m) := by rw [Int.zero_sub]
theorem negs_len (l : List Int) : (negs l).length ≤ l.length := by
  unfold negs
  rw [List.length_map]
  exact List.length_filter_le ..
theorem Good.flat60 {many most : Nat} {rows : List (List Int)} (h : Good many most rows) : rows.flatten.length ≤ most := by
  rw [List.length_flatten]
  exact h.events
theorem Good.row60 {many most : Nat} {rows : List (List Int)} (h : Good many most rows) (h60 : most ≤ 60) : ∀ r ∈ rows, r.length ≤ 60 := fun r hr => by
  obtain ⟨i, hi⟩ := List.getElem?_of_mem hr
  have := (h.row hi).1
  omega
theorem negs_flat : ∀ rows : List (List Int), (rows.flatMap fun row => row.filterMap fun v => if decide (v < 0) = true then some (D.int (-v)) else none) = intsD (negs rows.flatten)
  | [] => rfl
  | r :: rs => by
    have h1 : ∀ l : List Int, (l.filterMap fun v => if decide (v < 0) = true then some (D.int (-v)) else none) = intsD (negs l) := fun l => by
      induction l with
      | nil => rfl
      | cons a t ih =>
        rw [List.filterMap_cons]
        unfold negs at ih ⊢
        rw [List.filter_cons]
        by_cases z : a < 0
        · simp only [z, decide_true, if_true]
          rw [ih]
          rfl
        · simp only [z, decide_false, Bool.false_eq_true, if_false]
          exact ih
    rw [List.flatMap_cons, negs_flat rs, h1, List.flatten_cons]
    unfold negs intsD
    rw [List.filter_append, List.map_append, List.map_append]
theorem w_trips {rows : List (List Int)} {many most : Nat} {S : Sto} {R : DK} (hG : Good many most rows) (h6 : many ≤ 6) (h60 : most ≤ 60) (k : ∀ S', SG S S' → R (tripsD rows) S') : dFn 5 B_trips_of_ea9a [.tup (rowsD rows)] S R := by
  have r60 := hG.row60 h60
  have rl := hG.len
  refine ⟨_, rfl, _, rfl, lc2_map rows rowD (fun _ => True) (fun row => row) (fun _ v => .int v) (fun _ v => if decide (v < 0) = true then some (D.int (-v)) else none) (fun row => [some (.tup (rowsD rows)), none, none, some (rowD row), none]) (by omega) (fun a ha => by have := r60 a ha; omega) (fun _ _ => True.intro)
    (fun row _ S1 sg K hk => hk) (fun row _ S1 sg K hk => ⟨_, rfl, _, rfl, hk _ (.refl _)⟩) (fun row _ v _ S1 sg K Kn hk hn => turn_n ⟨_, rfl, _, rfl, iteB (fun e => ⟨_, rfl, hk _ (by rw [if_pos e]) _ (.refl _)⟩) (fun e => hn (by have e : decide (v < 0) = false := e; rw [e]; rfl) _ (.refl _))⟩) fun p S1 np sg1 hp => ?_⟩
  rw [negs_flat] at hp
  refine ⟨_, negs rows.flatten, rfl, seqOf_lst hp, noTup _, ?_, fun ns q pm pw nq => ?_⟩
  · have := negs_len rows.flatten
    have := hG.flat60
    omega
  have e : ns = recvL rows := perm_sorted_eq (pm.trans hG.recv) pw (recvL_sorted rows)
  subst e
  have sg2 : SG S1 (S1.put q (.lst (intsD (recvL rows)))) := .new nq
  have hq : (S1.put q (.lst (intsD (recvL rows)))) q = some (.lst (intsD (recvL rows))) := Sto.same
  generalize S1.put q (.lst (intsD (recvL rows))) = S2 at sg2 hq
  have len := recvL_len rows
  refine ⟨_, rfl, _, ⟨_, hq, rfl⟩, dc_map (recvL rows) D.int (fun S' => S' q = some (.lst (intsD (recvL rows)))) Sum.inl (tripD rows) (by omega) ?_ (fun S' sg => sg _ _ hq) (fun m _ S3 sg3 K hk => ?_) fun S3 sg3 => k _ ((sg1.trans sg2).trans sg3)⟩
  · exact List.pairwise_map.mpr ((recvL_nodup rows).imp fun n z => n (Sum.inl.inj z))
  · refine ⟨_, rfl, _, rfl, _, rfl, rfl, w_hap ⟨_, rfl, _, rfl, rfl, w_hap ⟨rfl, ?_⟩⟩⟩
    rw [hpD_neg]
    exact hk _ (.refl _)
end Sv
set_option maxHeartbeats 400000
namespace Sv
open PySem L2
theorem hap_trip {rows : List (List Int)} {many most : Nat} (hG : Good many most rows) {m : Int} (hm : m ∈ recvL rows) : 1 ≤ m ∧ ∃ p k p' k' : Nat, hap rows m = some (p, k) ∧ hap rows (0 - m) = some (p', k') ∧ tripD rows m = .tup [hpD (some (p, k)), hpD (some (p', k'))] := by
  have h1 := hG.recv_sent hm
  have h2 := (List.mem_filter.mp hm).2
  have h3 := names_mem.mp (List.mem_filter.mp hm).1
  unfold sentM at h1
  unfold recvM at h2
  obtain ⟨⟨p, k⟩, e1⟩ := Option.isSome_iff_exists.mp h1
  obtain ⟨⟨p', k'⟩, e2⟩ := Option.isSome_iff_exists.mp h2
  refine ⟨h3.1, p, k, p', k', e1, e2, ?_⟩
  unfold tripD
  rw [e1, e2]
theorem ixnN {n j : Nat} (hj : j < n) : ixN n (j : Int) = some j := by
  unfold ixN
  rw [if_pos (Int.natCast_nonneg j), if_pos (Int.ofNat_lt.mpr hj), Int.toNat_natCast]
theorem low_exists (rows : List (List Int)) (high : List Nat) : ∃ cs, IsLow rows high cs := by
  have go : ∀ (n : Nat) (cs : List Nat), cs.sum ≤ n → Dn rows high cs → ∃ cs, IsLow rows high cs := by
    intro n
    induction n with
    | zero =>
      intro cs hs hd
      refine ⟨cs, hd, fun m p k p' k' c c' hm h1 h2 h3 h4 h5 => ?_⟩
      have := sum_set (k := 0) h4
      omega
    | succ n ih =>
      intro cs hs hd
      refine Classical.byContradiction fun no => no ⟨cs, hd, fun m p k p' k' c c' hm h1 h2 h3 h4 h5 => Classical.byContradiction fun h6 => no (ih (cs.set p' k') ?_ (hd.step hm h1 h2 h3 h4 h5 (by omega)))⟩
      have := sum_set (k := k') h4
      omega
  exact go _ high (Nat.le_refl _) (.start rows high)
noncomputable def fallL (rows : List (List Int)) (fs : List Int) : List Nat := Classical.choose (low_exists rows (tops rows fs))
theorem fall_low (rows : List (List Int)) (fs : List Int) : IsLow rows (tops rows fs) (fallL rows fs) := Classical.choose_spec (low_exists rows (tops rows fs))
theorem fall_len (rows : List (List Int)) (fs : List Int) : (fallL rows fs).length = rows.length := by rw [(fall_low rows fs).len, tops_len]
theorem lc_mapE {α : Type} {g : DTG} {tt : DTT} {te : DTE} {us : List Nat} {env : Env} {S1 : Sto} {Rp : Addr → Sto → Prop} {w : Src} (xs : List α) (gx : α → D) (hw : w.items = xs.map gx) (f : α → Option D) (hlen : xs.length ≤ 100000) (live : ∀ S, SG S1 S → w.live S)
    (step : ∀ a ∈ xs, ∀ S, SG S1 S → ∀ (K : DK) (Kn : Sto → Prop), (∀ y, f a = some y → ∀ S', SG S S' → K y S') → (f a = none → ∀ S', SG S S' → Kn S') → Turn1 g tt te (dwipe env us) (gx a) S K Kn)
    (fin : ∀ p S', S1 p = none → SG S1 S' → S' p = some (.lst (xs.filterMap f)) → Rp p S') :
    ∀ p, S1 p = none → ∃ Pv : Nat → Sto → Prop, Pv 0 (S1.put p (.lst [])) ∧ (∀ i S, i ≤ w.items.length → Pv i S → w.live S) ∧
      (∀ i d S, w.items[i]? = some d → Pv i S → g d (dwipe env us) S fun env' S' => tt env' S' fun b S2 => if b = true then te env' S2 fun y S3 => ∃ acc, S3 p = some (.lst acc) ∧ acc.length < 1000000 ∧ Pv (i + 1) (S3.put p (.lst (acc ++ [y]))) else Pv (i + 1) S2) ∧
      ∀ S, Pv w.items.length S → Rp p S := by
  obtain ⟨it, lv⟩ := w
  cases hw
  exact lc_map xs gx lv f hlen live step fin
theorem enD_map {α : Type} (h : α → D) (cs : List α) : enD (cs.map h) = (cs.mapIdx fun i c => (i, c)).map fun x => D.tup [.int ((x.1 : Nat) : Int), h x.2] := by
  unfold enD
  apply List.ext_getElem?
  intro i
  rw [List.getElem?_mapIdx, List.getElem?_map, List.getElem?_map, List.getElem?_mapIdx]
  cases cs[i]? <;> rfl
theorem any_int (fs : List Int) (i : Int) : ((fs.map PyData.int).any fun z => PyData.eqv z (.int i)) = decide (i ∈ fs) := by
  induction fs with
  | nil => rfl
  | cons a r ih =>
    rw [List.map_cons, List.any_cons, ih, show PyData.eqv (.int a) (.int i) = decide (a = i) from rfl]
    by_cases h : a = i
    · subst h; simp
    · have h' : i ≠ a := fun z => h z.symm
      simp [h, h']
theorem yesS {P Q : Sto → Prop} {env : Env} {S : Sto} (h : P S) : dYes env S (fun b S2 => if b = true then P S2 else Q S2) := show (if true = true then P S else Q S) from goT h
end Sv
set_option maxHeartbeats 400000
namespace Sv
open PySem L2
structure RAt (S : Sto) (r : Addr) (as : List Addr) (rows : List (List Int)) : Prop where
  len : as.length = rows.length
  lst : S r = some (.lst (as.map D.ref))
  row : ∀ (i : Nat) (a : Addr) (row : List Int), as[i]? = some a → rows[i]? = some row → S a = some (.lst (intsD row))
  nd : as.Nodup
  nr : r ∉ as
theorem RAt.keep {S S' : Sto} {P : Addr → Prop} {r : Addr} {as : List Addr} {rows : List (List Int)} (h : RAt S r as rows) (k : SK P S S') (n : ∀ a, P a → a ≠ r ∧ a ∉ as) : RAt S' r as rows :=
  ⟨h.len, k _ _ (fun z => (n _ z).1 rfl) h.lst, fun i a row h1 h2 => k _ _ (fun z => (n _ z).2 (List.mem_of_getElem? h1)) (h.row i a row h1 h2), h.nd, h.nr⟩
theorem RAt.keepG {S S' : Sto} {r : Addr} {as : List Addr} {rows : List (List Int)} (h : RAt S r as rows) (k : SG S S') : RAt S' r as rows := h.keep k fun _ z => z.elim
theorem RAt.put {S : Sto} {r a : Addr} {as : List Addr} {rows : List (List Int)} {p : Nat} {row : List Int} (h : RAt S r as rows) (ha : as[p]? = some a) (hr : rows[p]? = some row) (vs : List Int) : RAt (S.put a (.lst (intsD row ++ intsD vs))) r as (rows.set p (row ++ vs)) := by
  have hp : p < rows.length := (List.getElem?_eq_some_iff.mp hr).1
  refine ⟨by rw [List.length_set]; exact h.len, (Sto.ne fun z => h.nr (by rw [z]; exact List.mem_of_getElem? ha)).trans h.lst, fun i b row' h1 h2 => ?_, h.nd, h.nr⟩
  by_cases z : p = i
  · subst z
    obtain rfl := Option.some.inj (ha.symm.trans h1)
    rw [List.getElem?_set_self hp] at h2
    obtain rfl := Option.some.inj h2
    rw [Sto.same]
    unfold intsD
    rw [List.map_append]
  · rw [List.getElem?_set_ne z] at h2
    have nb : b ≠ a := fun e => by
      subst e
      obtain ⟨i1, e1⟩ := List.getElem?_eq_some_iff.mp ha
      obtain ⟨i2, e2⟩ := List.getElem?_eq_some_iff.mp h1
      exact z ((List.getElem_inj (h₀ := i1) (h₁ := i2) h.nd).mp (e1.trans e2.symm))
    rw [Sto.ne nb]
    exact h.row i b row' h1 h2
theorem RAt.at {S : Sto} {r : Addr} {as : List Addr} {rows : List (List Int)} (h : RAt S r as rows) {p : Nat} (hp : p < rows.length) : ∃ a row, as[p]? = some a ∧ rows[p]? = some row ∧ (as.map D.ref)[p]? = some (.ref a) ∧ S a = some (.lst (intsD row)) ∧ a ∈ as := by
  have ha : as[p]? = some (as[p]'(by rw [h.len]; exact hp)) := List.getElem?_eq_getElem (by rw [h.len]; exact hp)
  have hr := List.getElem?_eq_getElem hp
  exact ⟨_, _, ha, hr, by rw [List.getElem?_map, ha]; rfl, h.row p _ _ ha hr, List.mem_of_getElem? ha⟩
theorem Good.mono {a b a' b' : Nat} {rows : List (List Int)} (h : Good a b rows) (h1 : a ≤ a') (h2 : b ≤ b') : Good a' b' rows := by
  obtain ⟨c, nm, o, u, k, g1, g2, g3, g4, g5⟩ := h
  exact ⟨c, nm, o, u, k, g1, by omega, g3, g4, by omega⟩
theorem set_set {α : Type} (l : List α) (p : Nat) (a b : α) : (l.set p a).set p b = l.set p b := List.set_set ..
end Sv
set_option maxHeartbeats 400000
set_option maxHeartbeats 1000000
namespace Sv
open PySem L2
theorem place_ofM {o : List (Int × Int)} {p : Int × Int} (h : p ∈ o) : ∃ j, SeqAt.dataPlace (o.map pD) (pD p) = some j ∧ o[j]? = some p := by
  induction o with
  | nil => cases h
  | cons a r ih =>
    unfold SeqAt.dataPlace at ih ⊢
    rw [List.map_cons, List.findIdx?_cons, pD_eqv]
    by_cases e : a = p
    · subst e
      exact ⟨0, by rw [decide_eq_true rfl]; rfl, rfl⟩
    · rw [decide_eq_false e]
      rcases List.mem_cons.mp h with z | z
      · exact absurd z.symm e
      · obtain ⟨j, h1, h2⟩ := ih z
        exact ⟨j + 1, by rw [h1]; rfl, h2⟩
def swp (o : List (Int × Int)) : List (Int × Int) := o.map fun x => (x.2, x.1)
theorem pD_ok (p : Int × Int) : (pD p).plain = true := rfl
structure RWv (S0 S : Sto) (st rs r N W : Addr) (as : List Addr) (c : Nat) (nm : List Int) (rows : List (List Int)) (o : List (Int × Int)) (u i : Nat) : Prop where
  sk : SK (DQ st rs) S0 S
  ra : RAt S r as rows
  hN : S N = some (.lst (intsD (nm.drop u).reverse))
  hW : S W = some (.lst ((swp o).map pairD))
  g : Grown c nm rows o u i
theorem RWv.keep {S0 S S' : Sto} {st cl rs r N W : Addr} {as : List Addr} {c : Nat} {nm : List Int} {rows : List (List Int)} {o : List (Int × Int)} {u i : Nat} (h : RWv S0 S st rs r N W as c nm rows o u i) (k : SK (DQ st rs) S S')
    (nd : ∀ a, a = r ∨ a = N ∨ a = W ∨ a ∈ as → a ≠ st ∧ a ≠ cl ∧ a ≠ rs) : RWv S0 S' st rs r N W as c nm rows o u i := by
  have nq : ∀ a, a = r ∨ a = N ∨ a = W ∨ a ∈ as → ¬ DQ st rs a := fun a ha z => z.elim (nd a ha).1 (nd a ha).2.2
  exact ⟨h.sk.trans k, h.ra.keep k fun a z => ⟨fun e => nq a (.inl e) z, fun e => nq a (.inr (.inr (.inr e))) z⟩, k _ _ (nq _ (.inr (.inl rfl))) h.hN, k _ _ (nq _ (.inr (.inr (.inl rfl)))) h.hW, h.g⟩
theorem RWv.keepG {S0 S S' : Sto} {st rs r N W : Addr} {as : List Addr} {c : Nat} {nm : List Int} {rows : List (List Int)} {o : List (Int × Int)} {u i : Nat} (h : RWv S0 S st rs r N W as c nm rows o u i) (k : SG S S') : RWv S0 S' st rs r N W as c nm rows o u i :=
  ⟨h.sk.trans k.sk, h.ra.keepG k, k _ _ (fun z => z) h.hN, k _ _ (fun z => z) h.hW, h.g⟩
theorem Dk.free {st cl rs : Addr} {n : Nat} {S0 S : Sto} (D : Dk st cl rs n S) (k : SK (DQ st rs) S0 S) {a : Addr} (z : S a = none) : S0 a = none := SK.free k z fun q => q.elim (D.fresh z).1 (D.fresh z).2.2
theorem fm_not {α β : Type} (g : α → β) (q : α → Bool) : ∀ l : List α, (l.filterMap fun x => if q x = true then none else some (g x)) = (l.filter fun x => !q x).map g
  | [] => rfl
  | a :: l => by
    rw [List.filterMap_cons, List.filter_cons]
    cases h : q a with
    | true => simp only [if_true, Bool.not_true, Bool.false_eq_true, if_false]; exact fm_not g q l
    | false => simp only [Bool.false_eq_true, if_false, Bool.not_false, if_true, List.map_cons]; rw [fm_not g q l]
theorem atI_last {xs : List D} {d : D} : atI (xs ++ [d]) (-1) = some d := by
  unfold atI ixN
  rw [if_neg (by decide), if_pos (by rw [List.length_append, List.length_singleton]; omega)]
  show (xs ++ [d])[_]? = some d
  have : (-1 + ((xs ++ [d]).length : Int)).toNat = xs.length := by rw [List.length_append, List.length_singleton]; omega
  rw [this, List.getElem?_append_right (Nat.le_refl _), Nat.sub_self]
  rfl
end Sv
set_option maxHeartbeats 400000
set_option maxHeartbeats 400000
set_option maxHeartbeats 400000
set_option maxHeartbeats 400000
namespace Sv
open PySem L2
structure Up (rows : List (List Int)) (low cs : List Nat) : Prop where
  len : cs.length = low.length
  ge : LeL low cs
  bot : ∀ L : List Nat, L.length = low.length → LeL low L → ConsL rows L → LeL cs L
structure IsUp (rows : List (List Int)) (low cs : List Nat) : Prop extends Up rows low cs where
  cons : ConsL rows cs
theorem IsUp.unique {rows : List (List Int)} {low a b : List Nat} (ha : IsUp rows low a) (hb : IsUp rows low b) : a = b := by
  apply List.ext_getElem (ha.len.trans hb.len.symm)
  intro i h1 h2
  have e1 := List.getElem?_eq_getElem h1
  have e2 := List.getElem?_eq_getElem h2
  exact Nat.le_antisymm (ha.bot b hb.len hb.ge hb.cons i _ _ e1 e2) (hb.bot a ha.len ha.ge ha.cons i _ _ e2 e1)
theorem Up.start (rows : List (List Int)) (low : List Nat) : Up rows low low := ⟨rfl, .refl _, fun _ _ h _ => h⟩
theorem Up.step {rows : List (List Int)} {low cs : List Nat} (h : Up rows low cs) {m : Int} {p k p' k' c c' : Nat} (hm : 0 < m) (h1 : hap rows m = some (p, k)) (h2 : hap rows (0 - m) = some (p', k')) (h3 : cs[p]? = some c) (h4 : cs[p']? = some c') (h5 : k' < c') (h6 : c ≤ k) : Up rows low (cs.set p (k + 1)) := by
  refine ⟨by rw [List.length_set]; exact h.len, fun i x y g1 g2 => ?_, fun L l1 l2 l3 i x y g1 g2 => ?_⟩
  · rw [List.getElem?_set] at g2
    split at g2
    · rename_i e
      subst e
      split at g2
      · obtain rfl := Option.some.inj g2
        have := h.ge _ _ _ g1 h3
        omega
      · cases g2
    · exact h.ge _ _ _ g1 g2
  · have hl := h.bot L l1 l2 l3
    rw [List.getElem?_set] at g1
    split at g1
    · rename_i e
      subst e
      split at g1
      · obtain rfl := Option.some.inj g1
        have hpl : p' < L.length := by
          rw [l1, ← h.len]
          exact (List.getElem?_eq_some_iff.mp h4).1
        have hp := List.getElem?_eq_getElem hpl
        have h7 := hl _ _ _ h4 hp
        have := l3 m p k p' k' y _ hm h1 h2 g2 hp (by omega)
        omega
      · cases g1
    · exact hl _ _ _ g1 g2
def capS (cs : List Nat) : Nat := (cs.map fun c => 1002 - c).sum
theorem capS_set {cs : List Nat} {p c k : Nat} (h : cs[p]? = some c) : capS (cs.set p k) + (1002 - c) = capS cs + (1002 - k) := by
  unfold capS
  rw [List.map_set]
  exact sum_set (by rw [List.getElem?_map, h]; rfl)
theorem up_exists {rows : List (List Int)} (hs : ∀ e, HapS (hap rows e)) (low : List Nat) : ∃ cs, IsUp rows low cs := by
  have go : ∀ (n : Nat) (cs : List Nat), capS cs ≤ n → Up rows low cs → ∃ cs, IsUp rows low cs := by
    intro n
    induction n with
    | zero =>
      intro cs hs' hd
      refine ⟨cs, hd, fun m p k p' k' c c' hm h1 h2 h3 h4 h5 => ?_⟩
      have := capS_set (k := k + 1) h3
      have := (hs _ _ _ h1).2
      omega
    | succ n ih =>
      intro cs hs' hd
      refine Classical.byContradiction fun no => no ⟨cs, hd, fun m p k p' k' c c' hm h1 h2 h3 h4 h5 => Classical.byContradiction fun h6 => no (ih (cs.set p (k + 1)) ?_ (hd.step hm h1 h2 h3 h4 h5 (by omega)))⟩
      have := capS_set (k := k + 1) h3
      have := (hs _ _ _ h1).2
      omega
  exact go _ low (Nat.le_refl _) (.start rows low)
open Classical in
noncomputable def upL (rows : List (List Int)) (low : List Nat) : List Nat := if h : ∃ cs, IsUp rows low cs then Classical.choose h else low
theorem up_is {rows : List (List Int)} {many most : Nat} (hG : Good many most rows) (h6 : many ≤ 6) (h60 : most ≤ 60) (low : List Nat) : IsUp rows low (upL rows low) := by
  have h := up_exists (fun e => hG.hapS h6 h60 e) low
  unfold upL
  rw [dif_pos h]
  exact Classical.choose_spec h
def stD (s : Nat × Nat) : D := prD ((s.1 : Int), (s.2 : Int))
def lowS (l : List Nat) (s : Nat × Nat) : List Nat := l.set s.1 (max (l.getD s.1 0) s.2)
def highS (l : List Nat) (s : Nat × Nat) : List Nat := l.set s.1 (min (l.getD s.1 0) s.2)
def lowL (rows : List (List Int)) (ss : List (Nat × Nat)) : List Nat := ss.foldl lowS (List.replicate rows.length 0)
def highL (rows : List (List Int)) (ss : List (Nat × Nat)) : List Nat := ss.foldl highS (prs rows)
theorem lowS_len (l : List Nat) (s : Nat × Nat) : (lowS l s).length = l.length := List.length_set ..
theorem highS_len (l : List Nat) (s : Nat × Nat) : (highS l s).length = l.length := List.length_set ..
theorem foldl_low_len : ∀ (ss : List (Nat × Nat)) (l : List Nat), (ss.foldl lowS l).length = l.length
  | [], _ => rfl
  | s :: ss, l => by rw [List.foldl_cons, foldl_low_len ss, lowS_len]
theorem foldl_high_len : ∀ (ss : List (Nat × Nat)) (l : List Nat), (ss.foldl highS l).length = l.length
  | [], _ => rfl
  | s :: ss, l => by rw [List.foldl_cons, foldl_high_len ss, highS_len]
theorem prs_len (rows : List (List Int)) : (prs rows).length = rows.length := List.length_map ..
theorem lowL_len (rows : List (List Int)) (ss : List (Nat × Nat)) : (lowL rows ss).length = rows.length := by
  unfold lowL
  rw [foldl_low_len, List.length_replicate]
theorem highL_len (rows : List (List Int)) (ss : List (Nat × Nat)) : (highL rows ss).length = rows.length := by
  unfold highL
  rw [foldl_high_len, prs_len]
theorem getD_of {l : List Nat} {i x : Nat} (h : l[i]? = some x) : l.getD i 0 = x := by rw [List.getD_eq_getElem?_getD, h]; rfl
theorem lowS_le {l L : List Nat} {s : Nat × Nat} (hl : L.length = l.length) (hs : s.1 < l.length) : LeL (lowS l s) L ↔ LeL l L ∧ ∀ x, L[s.1]? = some x → s.2 ≤ x := by
  have hx := List.getElem?_eq_getElem hs
  generalize l[s.1] = x at hx
  unfold lowS
  rw [getD_of hx]
  constructor
  · intro h
    refine ⟨fun i a b h1 h2 => ?_, fun y hy => ?_⟩
    · by_cases z : s.1 = i
      · subst z
        obtain rfl := Option.some.inj (hx.symm.trans h1)
        have := h _ _ _ (List.getElem?_set_self hs) h2
        omega
      · exact h i a b (by rw [List.getElem?_set_ne z]; exact h1) h2
    · have := h _ _ _ (List.getElem?_set_self hs) hy
      omega
  · rintro ⟨h, g⟩ i a b h1 h2
    by_cases z : s.1 = i
    · subst z
      rw [List.getElem?_set_self hs] at h1
      obtain rfl := Option.some.inj h1
      have := h _ _ _ hx h2
      have := g _ h2
      omega
    · rw [List.getElem?_set_ne z] at h1
      exact h i a b h1 h2
theorem highS_le {l L : List Nat} {s : Nat × Nat} (hl : L.length = l.length) (hs : s.1 < l.length) : LeL L (highS l s) ↔ LeL L l ∧ ∀ x, L[s.1]? = some x → x ≤ s.2 := by
  have hx := List.getElem?_eq_getElem hs
  generalize l[s.1] = x at hx
  unfold highS
  rw [getD_of hx]
  constructor
  · intro h
    refine ⟨fun i a b h1 h2 => ?_, fun y hy => ?_⟩
    · by_cases z : s.1 = i
      · subst z
        obtain rfl := Option.some.inj (hx.symm.trans h2)
        have := h _ _ _ h1 (List.getElem?_set_self hs)
        omega
      · exact h i a b h1 (by rw [List.getElem?_set_ne z]; exact h2)
    · have := h _ _ _ hy (List.getElem?_set_self hs)
      omega
  · rintro ⟨h, g⟩ i a b h1 h2
    by_cases z : s.1 = i
    · subst z
      rw [List.getElem?_set_self hs] at h2
      obtain rfl := Option.some.inj h2
      have := h _ _ _ h1 hx
      have := g _ h1
      omega
    · rw [List.getElem?_set_ne z] at h2
      exact h i a b h1 h2
theorem foldl_low_le : ∀ {ss : List (Nat × Nat)} {l L : List Nat}, L.length = l.length → (∀ s ∈ ss, s.1 < l.length) → (LeL (ss.foldl lowS l) L ↔ LeL l L ∧ ∀ s ∈ ss, ∀ x, L[s.1]? = some x → s.2 ≤ x)
  | [], l, L, _, _ => ⟨fun h => ⟨h, fun s hs => nomatch hs⟩, fun h => h.1⟩
  | s :: ss, l, L, hl, hs => by
    rw [List.foldl_cons, foldl_low_le (by rw [lowS_len]; exact hl) (fun t ht => by rw [lowS_len]; exact hs t (List.mem_cons_of_mem _ ht)), lowS_le hl (hs s List.mem_cons_self)]
    exact ⟨fun ⟨⟨a, b⟩, c⟩ => ⟨a, fun t ht => (List.mem_cons.mp ht).elim (fun z => z ▸ b) (c t)⟩, fun ⟨a, b⟩ => ⟨⟨a, b s List.mem_cons_self⟩, fun t ht => b t (List.mem_cons_of_mem _ ht)⟩⟩
theorem foldl_high_le : ∀ {ss : List (Nat × Nat)} {l L : List Nat}, L.length = l.length → (∀ s ∈ ss, s.1 < l.length) → (LeL L (ss.foldl highS l) ↔ LeL L l ∧ ∀ s ∈ ss, ∀ x, L[s.1]? = some x → x ≤ s.2)
  | [], l, L, _, _ => ⟨fun h => ⟨h, fun s hs => nomatch hs⟩, fun h => h.1⟩
  | s :: ss, l, L, hl, hs => by
    rw [List.foldl_cons, foldl_high_le (by rw [highS_len]; exact hl) (fun t ht => by rw [highS_len]; exact hs t (List.mem_cons_of_mem _ ht)), highS_le hl (hs s List.mem_cons_self)]
    exact ⟨fun ⟨⟨a, b⟩, c⟩ => ⟨a, fun t ht => (List.mem_cons.mp ht).elim (fun z => z ▸ b) (c t)⟩, fun ⟨a, b⟩ => ⟨⟨a, b s List.mem_cons_self⟩, fun t ht => b t (List.mem_cons_of_mem _ ht)⟩⟩
theorem lowL_le {rows : List (List Int)} {ss : List (Nat × Nat)} {L : List Nat} (hl : L.length = rows.length) (hs : ∀ s ∈ ss, s.1 < rows.length) : LeL (lowL rows ss) L ↔ ∀ s ∈ ss, ∀ x, L[s.1]? = some x → s.2 ≤ x := by
  unfold lowL
  rw [foldl_low_le (by rw [List.length_replicate]; exact hl) (fun s h => by rw [List.length_replicate]; exact hs s h)]
  refine ⟨fun h => h.2, fun h => ⟨fun i a b h1 _ => ?_, h⟩⟩
  obtain ⟨_, e⟩ := List.getElem?_eq_some_iff.mp h1
  rw [List.getElem_replicate] at e
  omega
theorem highL_le {rows : List (List Int)} {ss : List (Nat × Nat)} {L : List Nat} (hl : L.length = rows.length) (hs : ∀ s ∈ ss, s.1 < rows.length) : LeL L (highL rows ss) ↔ LeL L (prs rows) ∧ ∀ s ∈ ss, ∀ x, L[s.1]? = some x → x ≤ s.2 := by
  unfold highL
  exact foldl_high_le (by rw [prs_len]; exact hl) (fun s h => by rw [prs_len]; exact hs s h)
/-- a consistent line with the states -/
structure Thru (rows : List (List Int)) (ss : List (Nat × Nat)) (L : List Nat) : Prop where
  len : L.length = rows.length
  le : LeL L (prs rows)
  cons : ConsL rows L
  on : ∀ s ∈ ss, L[s.1]? = some s.2
theorem thru_iff {rows : List (List Int)} {ss : List (Nat × Nat)} {L : List Nat} (hs : ∀ s ∈ ss, s.1 < rows.length) : Thru rows ss L ↔ L.length = rows.length ∧ ConsL rows L ∧ LeL (lowL rows ss) L ∧ LeL L (highL rows ss) := by
  constructor
  · intro h
    refine ⟨h.len, h.cons, (lowL_le h.len hs).mpr fun s hs' x hx => ?_, (highL_le h.len hs).mpr ⟨h.le, fun s hs' x hx => ?_⟩⟩
    · have := h.on s hs'
      rw [this] at hx
      obtain rfl := Option.some.inj hx
      exact Nat.le_refl _
    · have := h.on s hs'
      rw [this] at hx
      obtain rfl := Option.some.inj hx
      exact Nat.le_refl _
  · rintro ⟨h1, h2, h3, h4⟩
    have h3 := (lowL_le h1 hs).mp h3
    have h4 := (highL_le h1 hs).mp h4
    refine ⟨h1, h4.1, h2, fun s hs' => ?_⟩
    have hl : s.1 < L.length := by rw [h1]; exact hs s hs'
    have hx := List.getElem?_eq_getElem hl
    rw [hx, Nat.le_antisymm (h4.2 s hs' _ hx) (h3 s hs' _ hx)]
/-- the least one, if there is one -/
theorem thru_up {rows : List (List Int)} {many most : Nat} (hG : Good many most rows) (h6 : many ≤ 6) (h60 : most ≤ 60) {ss : List (Nat × Nat)} (hs : ∀ s ∈ ss, s.1 < rows.length) : (∃ L, Thru rows ss L) ↔ LeL (upL rows (lowL rows ss)) (highL rows ss) := by
  have u := up_is hG h6 h60 (lowL rows ss)
  constructor
  · rintro ⟨L, h⟩
    obtain ⟨h1, h2, h3, h4⟩ := (thru_iff hs).mp h
    have := u.bot L (by rw [h1, lowL_len]) h3 h2
    intro i x y g1 g2
    have hl : i < L.length := by rw [h1, ← highL_len rows ss]; exact (List.getElem?_eq_some_iff.mp g2).1
    have e := List.getElem?_eq_getElem hl
    have a1 := this _ _ _ g1 e
    have a2 := h4 _ _ _ e g2
    omega
  · intro h
    exact ⟨_, (thru_iff hs).mpr ⟨u.len.trans (lowL_len rows ss), u.cons, u.ge, h⟩⟩
open Classical in
noncomputable def leastL (rows : List (List Int)) (ss : List (Nat × Nat)) : Option (List Nat) := if ∃ L, Thru rows ss L then some (upL rows (lowL rows ss)) else none
def optD : Option (List Nat) → D
  | none => .non
  | some cs => .tup (natD cs)
theorem w_raised {rows : List (List Int)} {many most : Nat} {low : List Nat} {S : Sto} {R : DK} (hG : Good many most rows) (h6 : many ≤ 6) (h60 : most ≤ 60) (hhl : low.length = rows.length)
    (q : ∀ S', SG S S' → R (.tup (natD (upL rows low))) S') : dFn 7 B_raised_352a [tripsD rows, .tup (natD low)] S R := by
  have hs := fun e => hG.hapS h6 h60 e
  have q : ∀ cs S', SG S S' → IsUp rows low cs → R (.tup (natD cs)) S' := fun cs S' sg h => by
    rw [h.unique (up_is hG h6 h60 low)]
    exact q S' sg
  refine ⟨_, rfl, _, _, rfl, rfl, fun l nl => ?_⟩
  have s1 : SG S (S.put l (.lst (natD low))) := .new nl
  have hl1 : (S.put l (.lst (natD low))) l = some (.lst (natD low)) := Sto.same
  generalize S.put l (.lst (natD low)) = S1 at s1 hl1 ⊢
  dsimp only
  refine ⟨fun m env S' => ∃ (cs : List Nat) (b : Bool) (x4 x5 x6 : Option D), env = [some (tripsD rows), some (.tup (natD low)), some (.ref l), some (.bl b), x4, x5, x6] ∧ SG S S' ∧ S' l = some (.lst (natD cs)) ∧ Up rows low cs ∧ (b = false → ConsL rows cs) ∧ m = 2 * capS cs + (if b = true then 1 else 0), ⟨_, low, true, _, _, _, rfl, s1, hl1, .start _ _, (fun z => nomatch z), rfl⟩, ?_⟩
  rintro m env S' ⟨cs, b, x4, x5, x6, rfl, sm, hl, hdn, hb, hm⟩
  refine ⟨_, rfl, b, rfl, ?_⟩
  cases b with
  | false =>
    refine goF ?_
    exact ⟨_, rfl, _, _, rfl, seqOf_lst hl, fun ys z => (nomatch z), q cs _ sm ⟨hdn, hb rfl⟩⟩
  | true =>
    rw [if_pos rfl] at hm
    refine goT ?_
    refine ⟨_, rfl, _, rfl, fun j env S'' => ∃ (c1 : List Nat) (b1 : Bool) (x4 x5 x6 : Option D), env = [some (tripsD rows), some (.tup (natD low)), some (.ref l), some (.bl b1), x4, x5, x6] ∧ SG S S'' ∧ S'' l = some (.lst (natD c1)) ∧ Up rows low c1 ∧
          ((b1 = true ∧ capS c1 < capS cs) ∨ (b1 = false ∧ c1 = cs ∧ ∀ (i : Nat) (m : Int), i < j → (recvL rows)[i]? = some m → ∀ (p k p' k' c c' : Nat), hap rows m = some (p, k) → hap rows (0 - m) = some (p', k') → cs[p]? = some c → cs[p']? = some c' → k' < c' → k < c)),
      ⟨cs, false, _, _, _, rfl, sm, hl, hdn, .inr ⟨rfl, rfl, fun i m z => absurd z (Nat.not_lt_zero _)⟩⟩, fun _ _ _ _ _ => True.intro, ?_, ?_⟩
    · rintro j d env S2 hd ⟨c1, b1, x4, x5, x6, rfl, s2, hl2, hd2, hor⟩
      have hd : (((recvL rows).map fun m => ((Sum.inl m : Key), tripD rows m)).map (·.2))[j]? = some d := hd
      rw [List.map_map, List.getElem?_map] at hd
      obtain ⟨mm, hmm, rfl⟩ := Option.map_eq_some_iff.mp hd
      obtain ⟨m1, p, k, p', k', a5, a6, e⟩ := hap_trip hG (List.mem_of_getElem? hmm)
      have hk1 := (hs _ _ _ a5).2
      have hp : p < c1.length := by rw [hd2.len, hhl]; exact Good.hap_lt a5
      have hp' : p' < c1.length := by rw [hd2.len, hhl]; exact Good.hap_lt a6
      have hc := List.getElem?_eq_getElem hp
      have hc' := List.getElem?_eq_getElem hp'
      generalize c1[p] = c at hc
      generalize c1[p'] = c' at hc'
      show dgName 4 (tripD rows mm) _ _ _
      rw [e]
      refine ⟨_, rfl, _, rfl, rfl, w_orph hl2 hc hc' ⟨_, rfl, iteB (fun g => ?_) (fun g => ?_)⟩⟩
      · have g1 : k' < c' := of_decide_eq_true (Bool.and_eq_true_iff.mp g).1
        have g2 : c ≤ k := of_decide_eq_true (Bool.and_eq_true_iff.mp g).2
        refine ⟨_, rfl, _, 0, _, rfl, rfl, rfl, _, rfl, .inl (.inl rfl), _, _, rfl, _, _, rfl, rfl, ?_⟩
        refine ⟨_, rfl, _, rfl, _, rfl, l, _, p, p, rfl, rfl, hl2, ?_, ?_⟩
        · rw [natD_len]; exact ixnN hp
        have e : (natD c1).set p (D.int ((k : Int) + 1)) = natD (c1.set p (k + 1)) := by
          rw [natD, natD, List.map_set]
          rfl
        rw [e]
        have hsum := capS_set (k := k + 1) hc
        refine ⟨c1.set p (k + 1), true, _, _, _, rfl, ?_, Sto.same, hd2.step (by omega) a5 a6 hc hc' g1 g2, .inl ⟨rfl, ?_⟩⟩
        · exact SG.keepP nl s2 (.refl _)
        rcases hor with ⟨_, z⟩ | ⟨_, rfl, _⟩
        · omega
        · omega
      · refine ⟨c1, b1, _, _, _, rfl, s2, hl2, hd2, ?_⟩
        rcases hor with z | ⟨z1, rfl, z3⟩
        · exact .inl z
        · refine .inr ⟨z1, rfl, fun i m hi hm2 q1 w1 q2 w2 d d' u1 u2 u3 u4 u5 => ?_⟩
          by_cases e : i = j
          · subst e
            obtain rfl := Option.some.inj (hmm.symm.trans hm2)
            rw [a5] at u1
            rw [a6] at u2
            cases u1
            cases u2
            obtain rfl := Option.some.inj (hc.symm.trans u3)
            obtain rfl := Option.some.inj (hc'.symm.trans u4)
            rw [decide_eq_true u5, Bool.true_and] at g
            have := of_decide_eq_false g
            omega
          · exact z3 i m (by omega) hm2 q1 w1 q2 w2 d d' u1 u2 u3 u4 u5
    · rintro env S2 ⟨c1, b1, x4, x5, x6, rfl, s2, hl2, hd2, hor⟩
      rcases hor with ⟨rfl, z⟩ | ⟨rfl, rfl, z3⟩
      · exact ⟨2 * capS c1 + 1, by omega, c1, true, _, _, _, rfl, s2, hl2, hd2, (fun z => nomatch z), rfl⟩
      · refine ⟨2 * capS c1, by omega, c1, false, _, _, _, rfl, s2, hl2, hd2, fun _ m p k p' k' c c' hm0 u1 u2 u3 u4 u5 => ?_, rfl⟩
        obtain ⟨i, hi⟩ := List.getElem?_of_mem (hG.recv_mem hm0 u2)
        refine z3 i m ?_ hi p k p' k' c c' u1 u2 u3 u4 u5
        show i < (((recvL rows).map fun m => ((Sum.inl m : Key), tripD rows m)).map (·.2)).length
        rw [List.length_map, List.length_map]
        exact (List.getElem?_eq_some_iff.mp hi).1
theorem SG.none' {S S' : Sto} (sg : SG S S') {p : Addr} (n : S' p = none) : S p = none := SK.free sg n fun z => z
theorem w_limits {rows : List (List Int)} {ss : List (Nat × Nat)} {d : D} {S : Sto} {R : DK} (hl : rows.length ≤ 1000) (hs : ∀ s ∈ ss, s.1 < rows.length) (hd : d = .tup (ss.map stD) ∨ d = .wtup (ss.map stD))
    (q : ∀ S', SG S S' → R (.tup [.tup (natD (lowL rows ss)), .tup (natD (highL rows ss))]) S') : dFn 7 B_limits_with_c088 [.tup (rowsD rows), d] S R := by
  refine ⟨_, rfl, _, rfl, lc_map rows rowD (fun _ => True) (fun _ => some (D.int 0)) (by omega) (fun _ _ => True.intro) (fun row _ S1 sg K Kn hk _ => turn_y (hk _ rfl _ (.refl _))) fun l S1 nl sg1 hl1 => ?_⟩
  have e0 : (rows.filterMap fun _ => some (D.int 0)) = natD (List.replicate rows.length 0) := by
    rw [fm_map]
    unfold natD
    rw [List.map_replicate, List.map_const']
    rfl
  rw [e0] at hl1
  refine ⟨_, rfl, rfl, w_nums hl fun S2 sg2 => ⟨_, _, rfl, rfl, fun h nh => ?_⟩⟩
  have hl2 := sg2 _ _ (fun z => z) hl1
  have lh : l ≠ h := fun z => by rw [← z, hl2] at nh; cases nh
  have nhS := SG.none' (sg1.trans sg2) nh
  have sg3 : SG S (S2.put h (.lst (natD (prs rows)))) := (sg1.trans sg2).trans (.new nh)
  have hl3 : (S2.put h (.lst (natD (prs rows)))) l = some (.lst (natD (List.replicate rows.length 0))) := (Sto.ne lh).trans hl2
  have hh3 : (S2.put h (.lst (natD (prs rows)))) h = some (.lst (natD (prs rows))) := Sto.same
  generalize S2.put h (.lst (natD (prs rows))) = S3 at sg3 hl3 hh3 ⊢
  have hit : ∃ w, Items S3 d w ∧ w = ⟨ss.map stD, fun _ => True⟩ := by
    rcases hd with rfl | rfl
    · exact ⟨_, rfl, rfl⟩
    · exact ⟨_, rfl, rfl⟩
  obtain ⟨w, hw, rfl⟩ := hit
  refine ⟨_, rfl, _, hw, fun i env S' => i ≤ ss.length ∧ ∃ x4 x5 : Option D, env = [some (.tup (rowsD rows)), some d, some (.ref l), some (.ref h), x4, x5, none] ∧ SG S S' ∧ S' l = some (.lst (natD ((ss.take i).foldl lowS (List.replicate rows.length 0)))) ∧ S' h = some (.lst (natD ((ss.take i).foldl highS (prs rows)))),
    ⟨Nat.zero_le _, _, _, rfl, sg3, hl3, hh3⟩, fun _ _ _ _ _ => True.intro, ?_, ?_⟩
  · rintro i e env S4 he ⟨hi0, x4, x5, rfl, sg4, hl4, hh4⟩
    have he : (ss.map stD)[i]? = some e := he
    rw [List.getElem?_map] at he
    obtain ⟨s, hsi, rfl⟩ := Option.map_eq_some_iff.mp he
    have hi := (List.getElem?_eq_some_iff.mp hsi).1
    have hp := hs s (List.mem_of_getElem? hsi)
    have tk := take_map hsi
    have ea : (ss.take (i + 1)).foldl lowS (List.replicate rows.length 0) = lowS ((ss.take i).foldl lowS (List.replicate rows.length 0)) s := by rw [tk, List.foldl_append]; rfl
    have eb : (ss.take (i + 1)).foldl highS (prs rows) = highS ((ss.take i).foldl highS (prs rows)) s := by rw [tk, List.foldl_append]; rfl
    have ll : ((ss.take i).foldl lowS (List.replicate rows.length 0)).length = rows.length := by rw [foldl_low_len, List.length_replicate]
    have lh' : ((ss.take i).foldl highS (prs rows)).length = rows.length := by rw [foldl_high_len, prs_len]
    generalize (ss.take i).foldl lowS (List.replicate rows.length 0) = a at hl4 ll ea
    generalize (ss.take i).foldl highS (prs rows) = b at hh4 lh' eb
    have ha : a[s.1]? = some a[s.1] := List.getElem?_eq_getElem (by omega)
    have hb : b[s.1]? = some b[s.1] := List.getElem?_eq_getElem (by omega)
    generalize a[s.1] = x at ha
    generalize b[s.1] = y at hb
    refine ⟨_, rfl, .inl (.inl rfl), _, _, rfl, _, _, rfl, rfl, ?_⟩
    refine ⟨_, rfl, _, rfl, _, (s.1 : Int), _, seqOf_lst hl4, rfl, atI_nat (natD_at ha), _, rfl, _, _, rfl, _, rfl, _, rfl, l, _, (s.1 : Int), s.1, rfl, rfl, hl4, by rw [natD_len]; exact ixnN (by omega), ?_⟩
    have e1 : (natD a).set s.1 (D.int (if ((s.2 : Nat) : Int) > (x : Int) then ((s.2 : Nat) : Int) else (x : Int))) = natD (lowS a s) := by
      unfold lowS
      rw [getD_of ha]
      have : (if ((s.2 : Nat) : Int) > (x : Int) then ((s.2 : Nat) : Int) else (x : Int)) = ((max x s.2 : Nat) : Int) := by split <;> omega
      rw [this, natD, natD, List.map_set]
    rw [e1]
    have hh5 : (S4.put l (.lst (natD (lowS a s)))) h = some (.lst (natD b)) := (Sto.ne (Ne.symm lh)).trans hh4
    have sg5 : SG S (S4.put l (.lst (natD (lowS a s)))) := SG.keepP nl sg4 (.refl _)
    have hl5 : (S4.put l (.lst (natD (lowS a s)))) l = some (.lst (natD (lowS a s))) := Sto.same
    generalize S4.put l (.lst (natD (lowS a s))) = S5 at hh5 sg5 hl5 ⊢
    refine ⟨_, rfl, _, rfl, _, (s.1 : Int), _, seqOf_lst hh5, rfl, atI_nat (natD_at hb), _, rfl, _, _, rfl, _, rfl, _, rfl, h, _, (s.1 : Int), s.1, rfl, rfl, hh5, by rw [natD_len]; exact ixnN (by omega), ?_⟩
    have e2 : (natD b).set s.1 (D.int (if ((s.2 : Nat) : Int) < (y : Int) then ((s.2 : Nat) : Int) else (y : Int))) = natD (highS b s) := by
      unfold highS
      rw [getD_of hb]
      have : (if ((s.2 : Nat) : Int) < (y : Int) then ((s.2 : Nat) : Int) else (y : Int)) = ((min y s.2 : Nat) : Int) := by split <;> omega
      rw [this, natD, natD, List.map_set]
    rw [e2]
    exact ⟨hi, _, _, rfl, SG.keepP nhS sg5 (.refl _), by rw [ea]; exact (Sto.ne lh).trans hl5, by rw [eb]; exact Sto.same⟩
  · rintro env S4 ⟨hi0, x4, x5, rfl, sg4, hl4, hh4⟩
    have hlen : (ss.map stD).length = ss.length := List.length_map ..
    have hl4 : S4 l = some (.lst (natD ((ss.take (ss.map stD).length).foldl lowS (List.replicate rows.length 0)))) := hl4
    have hh4 : S4 h = some (.lst (natD ((ss.take (ss.map stD).length).foldl highS (prs rows)))) := hh4
    rw [hlen, List.take_length] at hl4 hh4
    exact ⟨_, rfl, _, _, rfl, seqOf_lst hl4, fun ys z => (nomatch z), _, rfl, _, _, rfl, seqOf_lst hh4, fun ys z => (nomatch z), rfl, q S4 sg4⟩
theorem zipD_nat : ∀ a b : List Nat, zipD (natD a) (natD b) = (a.zip b).map fun x => D.tup [.int ((x.1 : Nat) : Int), .int ((x.2 : Nat) : Int)]
  | [], _ => rfl
  | _ :: _, [] => rfl
  | x :: a, y :: b => by
    have := zipD_nat a b
    unfold zipD natD at this ⊢
    rw [List.map_cons, List.map_cons, List.zipWith_cons_cons, List.zip_cons_cons, List.map_cons, this]
theorem any_above {a b : List Nat} (h : a.length = b.length) : (((a.zip b).map fun x => decide (((x.2 : Nat) : Int) < ((x.1 : Nat) : Int))).any id) = false ↔ LeL a b := by
  rw [List.any_map, List.any_eq_false]
  constructor
  · intro z i x y h1 h2
    have := z (x, y) (List.mem_of_getElem? (List.getElem?_zip_eq_some.mpr ⟨h1, h2⟩))
    simp at this
    exact this
  · rintro z ⟨x, y⟩ hx
    obtain ⟨i, hi⟩ := List.getElem?_of_mem hx
    obtain ⟨h1, h2⟩ := List.getElem?_zip_eq_some.mp hi
    have := z i x y h1 h2
    simp
    exact this
theorem w_between {rows : List (List Int)} {many most : Nat} {low high : List Nat} {S : Sto} {R : DK} (hG : Good many most rows) (h6 : many ≤ 6) (h60 : most ≤ 60) (hl : low.length = rows.length) (hh : high.length = rows.length)
    (q1 : ∀ S', SG S S' → LeL (upL rows low) high → R (.tup (natD (upL rows low))) S') (q2 : ∀ S', SG S S' → ¬ LeL (upL rows low) high → R .non S') : dFn 6 B_least_between_066e [tripsD rows, .tup (natD low), .tup (natD high)] S R := by
  have u := up_is hG h6 h60 low
  have ul : (upL rows low).length = high.length := by rw [u.len, hl, hh]
  have rl := hG.len
  refine ⟨_, rfl, _, rfl, rfl, w_raised hG h6 h60 hl fun S1 sg1 => ?_⟩
  refine ⟨_, rfl, _, rfl, _, _, .inl ⟨rfl, lc_mapE ((upL rows low).zip high) (fun x => .tup [.int ((x.1 : Nat) : Int), .int ((x.2 : Nat) : Int)]) (zipD_nat _ _) (fun x => some (D.bl (decide (((x.2 : Nat) : Int) < ((x.1 : Nat) : Int))))) (by rw [List.length_zip]; omega) (fun _ _ => True.intro) (fun x _ S2 sg K Kn hk _ => ?_) fun p S2 np sg2 hp => ?_⟩⟩
  · exact ⟨_, rfl, .inl (.inl rfl), _, _, rfl, _, _, rfl, rfl, yesS ⟨_, rfl, _, rfl, hk _ rfl _ (.refl _)⟩⟩
  · rw [fm_map] at hp
    refine ⟨p, ((upL rows low).zip high).map fun x => decide (((x.2 : Nat) : Int) < ((x.1 : Nat) : Int)), rfl, by rw [hp, List.map_map]; rfl, _, rfl, iteB (fun e => ?_) (fun e => ?_)⟩
    · exact q2 S2 (sg1.trans sg2) fun z => Bool.noConfusion (((any_above ul).mpr z).symm.trans e)
    · exact ⟨_, rfl, q1 S2 (sg1.trans sg2) ((any_above ul).mp e)⟩
theorem w_least {rows : List (List Int)} {many most : Nat} {ss : List (Nat × Nat)} {d : D} {S : Sto} {R : DK} (hG : Good many most rows) (h6 : many ≤ 6) (h60 : most ≤ 60) (hs : ∀ s ∈ ss, s.1 < rows.length) (hd : d = .tup (ss.map stD) ∨ d = .wtup (ss.map stD))
    (q : ∀ S', SG S S' → R (optD (leastL rows ss)) S') : dFn 4 B_least_line_with_19e1 [.tup (rowsD rows), d] S R := by
  have rl := hG.len
  refine ⟨_, rfl, _, rfl, rfl, w_limits (by omega) hs hd fun S1 sg1 => ⟨_, rfl, .inl (.inl rfl), _, _, rfl, _, _, rfl, rfl, ?_⟩⟩
  refine ⟨_, rfl, rfl, w_trips hG h6 h60 fun S2 sg2 => ⟨_, rfl, _, rfl, rfl, w_between hG h6 h60 (lowL_len rows ss) (highL_len rows ss) (fun S3 sg3 h => ?_) (fun S3 sg3 h => ?_)⟩⟩
  · have := q S3 ((sg1.trans sg2).trans sg3)
    unfold leastL at this
    rw [if_pos ((thru_up hG h6 h60 hs).mpr h)] at this
    exact this
  · have := q S3 ((sg1.trans sg2).trans sg3)
    unfold leastL at this
    rw [if_neg (fun z => h ((thru_up hG h6 h60 hs).mp z))] at this
    exact this
end Sv
set_option maxHeartbeats 400000
namespace Sv
open PySem L2
def cutsU (rows : List (List Int)) : Nat → List (List Nat)
  | 0 => [[]]
  | i + 1 => (cutsU rows i).flatMap fun c => (List.range ((rows.getD i []).count 0 + 2)).map fun n => c ++ [n]
def cutD' (c : List Nat) : D := .tup (natD c)
theorem getD_count {rows : List (List Int)} {B : Nat} (h : ∀ r ∈ rows, r.count 0 + 2 ≤ B) (h2 : 2 ≤ B) (i : Nat) : (rows.getD i []).count 0 + 2 ≤ B := by
  rw [List.getD_eq_getElem?_getD]
  cases e : rows[i]? with
  | none => exact h2
  | some r => exact h r (List.mem_of_getElem? e)
theorem cutsU_lenB {rows : List (List Int)} {B : Nat} (h : ∀ r ∈ rows, r.count 0 + 2 ≤ B) (h2 : 2 ≤ B) : ∀ i, (cutsU rows i).length ≤ B ^ i
  | 0 => Nat.le_refl _
  | i + 1 => by
    have ih := cutsU_lenB h h2 i
    have hc : ∀ c ∈ cutsU rows i, ((List.range ((rows.getD i []).count 0 + 2)).map fun n => c ++ [n]).length ≤ B := fun c _ => by
      rw [List.length_map, List.length_range]
      exact getD_count h h2 i
    have := flat_le _ B (cutsU rows i) hc
    show ((cutsU rows i).flatMap _).length ≤ _
    rw [Nat.pow_succ]
    exact Nat.le_trans this (Nat.mul_le_mul_right B ih)
theorem cutsU_each {rows : List (List Int)} : ∀ i, ∀ c ∈ cutsU rows i, c.length = i
  | 0, c, h => by
    rw [List.mem_singleton.mp h]
    rfl
  | i + 1, c, h => by
    obtain ⟨a, h1, h2⟩ := List.mem_flatMap.mp h
    obtain ⟨n, _, rfl⟩ := List.mem_map.mp h2
    rw [List.length_append, cutsU_each i a h1]
    rfl
theorem cutsU_mem {rows : List (List Int)} : ∀ i c, c ∈ cutsU rows i ↔ c.length = i ∧ ∀ j x, c[j]? = some x → x ≤ (rows.getD j []).count 0 + 1
  | 0, c => by
    show c ∈ [[]] ↔ _
    rw [List.mem_singleton]
    constructor
    · rintro rfl
      exact ⟨rfl, fun j x h => by simp at h⟩
    · rintro ⟨h, _⟩
      exact List.eq_nil_of_length_eq_zero h
  | i + 1, c => by
    show c ∈ (cutsU rows i).flatMap _ ↔ _
    rw [List.mem_flatMap]
    constructor
    · rintro ⟨a, h1, h2⟩
      obtain ⟨n, hn, rfl⟩ := List.mem_map.mp h2
      have hn := List.mem_range.mp hn
      obtain ⟨h3, h4⟩ := (cutsU_mem i a).mp h1
      refine ⟨by rw [List.length_append, h3]; rfl, fun j x hj => ?_⟩
      rcases Nat.lt_or_ge j a.length with z | z
      · rw [List.getElem?_append_left z] at hj
        exact h4 j x hj
      · rw [List.getElem?_append_right z] at hj
        have : j - a.length = 0 := by
          have := (List.getElem?_eq_some_iff.mp hj).1
          simp at this
          omega
        rw [this] at hj
        cases hj
        have : j = i := by omega
        subst this
        omega
    · rintro ⟨h1, h2⟩
      have hne : c ≠ [] := fun z => by rw [z] at h1; cases h1
      have e := List.dropLast_concat_getLast hne
      generalize c.dropLast = a at e
      generalize c.getLast hne = n at e
      subst e
      have la : a.length = i := by rw [List.length_append] at h1; simpa using h1
      refine ⟨a, (cutsU_mem i a).mpr ⟨la, fun j x hj => h2 j x (by rw [List.getElem?_append_left (List.getElem?_eq_some_iff.mp hj).1]; exact hj)⟩, List.mem_map.mpr ⟨n, List.mem_range.mpr ?_, rfl⟩⟩
      have := h2 i n (by rw [List.getElem?_append_right (by omega), la, Nat.sub_self]; rfl)
      omega
/-- lines -/
theorem cutsU_lines {rows : List (List Int)} {c : List Nat} : c ∈ cutsU rows rows.length ↔ c.length = rows.length ∧ LeL c (prs rows) := by
  rw [cutsU_mem]
  refine and_congr_right fun hl => ⟨fun h i x y h1 h2 => ?_, fun h j x hj => ?_⟩
  · have := h i x h1
    unfold prs at h2
    rw [List.getElem?_map] at h2
    obtain ⟨r, hr, rfl⟩ := Option.map_eq_some_iff.mp h2
    rw [List.getD_eq_getElem?_getD, hr] at this
    exact this
  · have hj' : j < rows.length := by rw [← hl]; exact (List.getElem?_eq_some_iff.mp hj).1
    have hr := List.getElem?_eq_getElem hj'
    have := h j x _ hj (prsA hr)
    rw [List.getD_eq_getElem?_getD, hr]
    exact this
open Classical in
noncomputable def consB (rows : List (List Int)) (c : List Nat) : Bool := decide (ConsL rows c)
theorem consB_iff {rows : List (List Int)} {c : List Nat} : consB rows c = true ↔ ConsL rows c := by
  classical
  unfold consB
  exact decide_eq_true_iff
/-- all consistent lines -/
noncomputable def linesU (rows : List (List Int)) : List (List Nat) := (cutsU rows rows.length).filter (consB rows)
theorem linesU_mem {rows : List (List Int)} {c : List Nat} : c ∈ linesU rows ↔ c.length = rows.length ∧ LeL c (prs rows) ∧ ConsL rows c := by
  unfold linesU
  rw [List.mem_filter, cutsU_lines, consB_iff, and_assoc]
end Sv
set_option maxHeartbeats 400000
namespace Sv
open PySem L2
theorem cutI_to {row : List Int} {i : Nat} (h : i ≤ row.length) : cutD (intsD row) none (some (i : Int)) = intsD (row.take i) := by
  rw [cutD_to (by rw [intsD_len]; exact h)]
  unfold intsD
  rw [List.map_take]
theorem fm_iteB {α β : Type} (g : α → β) (c : α → Bool) : ∀ l : List α, l.filterMap (fun x => if c x = true then some (g x) else none) = (l.filter c).map g
  | [] => rfl
  | a :: l => by
    rw [List.filterMap_cons, List.filter_cons]
    by_cases z : c a = true
    · simp only [z, if_true, List.map_cons, fm_iteB g c l]
    · simp only [z, Bool.false_eq_true, if_false, fm_iteB g c l]
end Sv
namespace Sv
open PySem PySem.Spec PyProof.Rows L2
structure Fine (n W : Nat) (d : PyData) : Prop where
  dep : d.depth ≤ n
  wei : d.weight ≤ W
  lay : d.canLay0 = true
  sho : d.showable = true
  ish : d.intsShort 40 = true
structure FineAll (n W : Nat) (ds : List PyData) : Prop where
  dep : PyData.depthAll ds ≤ n
  wei : PyData.weightAll ds ≤ W
  lay : PyData.canLayAll0 ds = true
  sho : PyData.showableAll ds = true
  ish : PyData.intsShortAll 40 ds = true
theorem FineAll.mono {n W m U : Nat} {d : List PyData} (h : FineAll n W d) (e : n ≤ m) (e2 : W ≤ U) : FineAll m U d := ⟨Nat.le_trans h.dep e, Nat.le_trans h.wei e2, h.lay, h.sho, h.ish⟩
theorem fine_nil : FineAll 0 0 [] := ⟨Nat.le_refl _, Nat.le_refl _, rfl, rfl, rfl⟩
theorem fine_cons {n W U : Nat} {d : PyData} {ds : List PyData} (h : Fine n W d) (hs : FineAll n U ds) : FineAll n (W + 1 + U) (d :: ds) := by
  refine ⟨?_, ?_, ?_, ?_, ?_⟩
  · simp only [PyData.depthAll]
    exact Nat.max_le.mpr ⟨h.dep, hs.dep⟩
  · have h1 := h.wei
    have h2 := hs.wei
    simp only [PyData.weightAll]
    omega
  · simp only [PyData.canLayAll0, h.lay, hs.lay, Bool.and_self]
  · simp only [PyData.showableAll, h.sho, hs.sho, Bool.and_self]
  · simp only [PyData.intsShortAll, h.ish, hs.ish, Bool.and_self]
theorem fine_all {n W : Nat} : ∀ {ds : List PyData}, (∀ d ∈ ds, Fine n W d) → FineAll n ((W + 1) * ds.length) ds
  | [], _ => fine_nil.mono (Nat.zero_le _) (Nat.zero_le _)
  | d :: ds, h => by
    have q := fine_cons (h d List.mem_cons_self) (fine_all fun x hx => h x (List.mem_cons_of_mem _ hx))
    refine q.mono (Nat.le_refl _) ?_
    rw [List.length_cons, Nat.mul_add, Nat.mul_one]
    omega
theorem fine_int {i : Int} (h : i.natAbs < 10 ^ 30) : Fine 0 101 (.int i) := by
  have hl : i.natAbs ≠ 0 → i.natAbs.log2 < 100 := fun h0 => (Nat.log2_lt h0).mpr (Nat.lt_trans h (by decide +kernel))
  have hl2 : i.natAbs.log2 < 1920 := by
    by_cases h0 : i.natAbs = 0
    · rw [h0]; decide
    · exact Nat.lt_trans (hl h0) (by decide)
  refine ⟨Nat.le_refl _, ?_, rfl, decide_eq_true hl2, decide_eq_true ?_⟩
  · simp only [PyData.weight]
    split
    · exact Nat.zero_le _
    · rename_i h0
      have : i.natAbs ≠ 0 := fun z => h0 (by rw [beq_iff_eq]; omega)
      have := hl this
      omega
  · have e := int_text_length_le10 (a := i) (k := 30) (by decide) h
    show (Str.ofString (toString i)).length ≤ 40
    rw [PySem.ofString_length]
    omega
theorem fine_ints {ns : List Int} (h : ∀ n ∈ ns, n.natAbs < 10 ^ 30) : FineAll 0 (102 * ns.length) (iD ns) := by
  have q := fine_all (n := 0) (W := 101) (ds := iD ns) fun d hd => by
    obtain ⟨n, hn, rfl⟩ := List.mem_map.mp hd
    exact fine_int (h n hn)
  unfold iD at q ⊢
  rw [List.length_map] at q
  exact q
theorem fine_tuple {n W : Nat} {ds : List PyData} (h : FineAll n W ds) : Fine (n + 1) W (.tuple ds) := by
  have h1 := h.dep
  refine ⟨by simp only [PyData.depth]; omega, h.wei, ?_, ?_, ?_⟩
  · simp only [PyData.canLay0, h.lay]
  · simp only [PyData.showable, h.sho]
  · simp only [PyData.intsShort, h.ish]
theorem Fine.len {n W : Nat} {d : PyData} (h : Fine n W d) (hW : W ≤ 300000) : d.shown.length ≤ sizeLine := by
  have q := PyData.shown_le 40 (by decide) d (PyData.leavesShort_of_canLay0 40 d h.lay h.ish)
  have := h.wei
  rw [sizeLine_eq]
  omega
theorem Fine.mono {n W m U : Nat} {d : PyData} (h : Fine n W d) (e : n ≤ m) (e2 : W ≤ U) : Fine m U d := ⟨Nat.le_trans h.dep e, Nat.le_trans h.wei e2, h.lay, h.sho, h.ish⟩
end Sv
set_option maxHeartbeats 400000
namespace Sv
open PySem PySem.Spec PyProof.Rows L2
theorem ints_lay : ∀ ns : List Int, PyData.canLayAll0 (ns.map PyData.int) = true
  | [] => rfl
  | n :: r => by
    show (_ && PyData.canLayAll0 (r.map PyData.int)) = true
    rw [ints_lay r]
    rfl
theorem py_nat {S : Sto} (cs : List Nat) : Py S (.tup (natD cs)) (.tuple ((cs.map fun (c : Nat) => (c : Int)).map PyData.int)) := by
  rw [natD_ints]
  exact .tup (pys_ints _)
theorem Fine.text {n W : Nat} {d : PyData} (h : Fine n W d) (hn : n ≤ 60) (hW : W ≤ 300000) (hi : isDisplay d = true) : Text d := ⟨hi, h.sho, PyData.hasDict_of_canLay d h.lay, Nat.le_trans h.dep hn, h.len hW⟩
end Sv
set_option maxHeartbeats 400000
namespace Sv
open PySem PySem.Spec PyProof.Rows L2
/-- not too many lines -/
def Wl (rows : List (List Int)) : Prop := ∃ B, 2 ≤ B ∧ B ≤ 1000 ∧ (∀ r ∈ rows, r.count 0 + 2 ≤ B) ∧ B ^ rows.length ≤ 70000
theorem Wl.of {a b : Nat} {rows : List (List Int)} (hG : Good a b rows) (hb : b ≤ 60) (h : (b + 2) ^ a ≤ 70000) : Wl rows := by
  refine ⟨b + 2, by omega, by omega, fun r hr => ?_, ?_⟩
  · obtain ⟨i, hi⟩ := List.getElem?_of_mem hr
    have h1 := (hG.row hi).1
    have h2 : r.count 0 ≤ r.length := List.count_le_length ..
    omega
  · exact Nat.le_trans (Nat.pow_le_pow_right (by omega) hG.len.2) h
theorem Wl.len {rows : List (List Int)} (h : Wl rows) (i : Nat) (hi : i ≤ rows.length) : (cutsU rows i).length ≤ 70000 := by
  obtain ⟨B, h2, _, hc, hB⟩ := h
  exact Nat.le_trans (cutsU_lenB hc h2 i) (Nat.le_trans (Nat.pow_le_pow_right (by omega) hi) hB)
def onB (ss : List (Nat × Nat)) (c : List Nat) : Bool := ss.all fun s => decide (c[s.1]? = some s.2)
theorem onB_iff {ss : List (Nat × Nat)} {c : List Nat} : onB ss c = true ↔ ∀ s ∈ ss, c[s.1]? = some s.2 := by
  unfold onB
  rw [List.all_eq_true]
  exact ⟨fun h s hs => of_decide_eq_true (h s hs), fun h s hs => decide_eq_true (h s hs)⟩
theorem hold_mem {rows : List (List Int)} {ss : List (Nat × Nat)} {c : List Nat} : c ∈ (linesU rows).filter (onB ss) ↔ Thru rows ss c := by
  rw [List.mem_filter, linesU_mem, onB_iff]
  exact ⟨fun ⟨⟨a, b, c⟩, d⟩ => ⟨a, b, c, d⟩, fun h => ⟨⟨h.len, h.le, h.cons⟩, h.on⟩⟩
end Sv
set_option maxHeartbeats 400000
namespace Sv
open PySem PySem.Spec PyProof.Rows L2
theorem hap_leC {rows : List (List Int)} {e : Int} {p k : Nat} (h : hap rows e = some (p, k)) : ∃ row, rows[p]? = some row ∧ k ≤ row.count 0 := by
  rcases spot_hap (e := e) (rs := rows) (p := 0) with ⟨_, z⟩ | ⟨p', row, z1, z2, _, z4⟩
  · unfold hap at h
    rw [z] at h
    cases h
  · unfold hap at h
    rw [z4, Nat.zero_add] at h
    cases h
    exact ⟨row, z1, List.Sublist.count_le _ (List.take_sublist _ _)⟩
theorem cuts_py {S : Sto} : ∀ cs : List (List Nat), Pys S (cs.map cutD') (cs.map fun c => PyData.tuple ((c.map fun (x : Nat) => (x : Int)).map PyData.int))
  | [] => .nil
  | c :: r => .cons (py_nat c) (cuts_py r)
theorem cuts_shaped (cs : List (List Nat)) : SeqAt.shaped (.list (cs.map fun c => PyData.tuple ((c.map fun (x : Nat) => (x : Int)).map PyData.int))) = true := by
  have h1 : ∀ cs : List (List Nat), PyData.canLayAll0 (cs.map fun c => PyData.tuple ((c.map fun (x : Nat) => (x : Int)).map PyData.int)) = true ∧ PyData.depthAll (cs.map fun c => PyData.tuple ((c.map fun (x : Nat) => (x : Int)).map PyData.int)) ≤ 1 := by
    intro cs
    induction cs with
    | nil => exact ⟨rfl, by simp [PyData.depthAll]⟩
    | cons c r ih =>
      have h2 := ints_lay (c.map fun (x : Nat) => (x : Int))
      have h3 : PyData.depthAll ((c.map fun (x : Nat) => (x : Int)).map PyData.int) = 0 := by
        generalize (c.map fun (x : Nat) => (x : Int)) = l
        induction l with
        | nil => simp [PyData.depthAll]
        | cons a t ih => simp only [List.map_cons, PyData.depthAll, ih, PyData.depth]; rfl
      refine ⟨?_, ?_⟩
      · simp only [List.map_cons, PyData.canLayAll0, PyData.canLay0, h2, ih.1, Bool.and_self]
      · have := ih.2
        simp only [List.map_cons, PyData.depthAll, PyData.depth, h3]
        omega
  obtain ⟨h2, h3⟩ := h1 cs
  show (PyData.canLay0 (.list _) && decide (PyData.depth (.list _) ≤ 64)) = true
  simp only [PyData.canLay0, PyData.depth, h2, Bool.true_and]
  exact decide_eq_true (by omega)
/-- whether a list of lines is empty, as the laws ask -/
theorem nil_cuts {cs : List (List Nat)} {f : Addr} {b : Bool} {S : Sto} {R : DK} (hf : S f = some (.lst (cs.map cutD'))) (q : ∀ S', SG S S' → R (.bl (cs.isEmpty ^^ b)) S') :
    (dLst dNil) [] S (fun y S2 => rEqq b (.ref f) y S2 R) := by
  refine ⟨rfl, fun r nr => ?_⟩
  have sgr : SG S (S.put r (.lst [])) := .new nr
  refine ⟨_, _, .lst (sgr _ _ (fun z => z) hf) (cuts_py cs), .lst Sto.same .nil, cuts_shaped cs, by decide +kernel, ?_⟩
  rw [eqv_nil, List.isEmpty_map]
  exact q _ sgr
theorem fine_pair {x : Int × Int} (h1 : x.1.natAbs < 10 ^ 30) (h2 : x.2.natAbs < 10 ^ 30) : Fine 1 204 (pD x) := by
  have q : FineAll 0 (102 * [x.1, x.2].length) (iD [x.1, x.2]) := fine_ints fun y hy => by
    rcases List.mem_cons.mp hy with rfl | hy
    · exact h1
    · rw [List.mem_singleton.mp hy]; exact h2
  exact fine_tuple q
theorem fine_list {n W : Nat} {ds : List PyData} (h : FineAll n W ds) : Fine (n + 1) W (.list ds) := by
  have h1 := h.dep
  refine ⟨by simp only [PyData.depth]; omega, h.wei, ?_, ?_, ?_⟩
  · simp only [PyData.canLay0, h.lay]
  · simp only [PyData.showable, h.sho]
  · simp only [PyData.intsShort, h.ish]
end Sv
namespace Sv
open PySem PySem.Spec PyProof.Rows L2
def ltP (a b : Int × Int) : Bool := decide (a.1 < b.1) || (decide (a.1 = b.1) && decide (a.2 < b.2))
theorem dataLt_pair (a b : Int × Int) : PySem.W.dataLt (pD a) (pD b) = ltP a b := by
  obtain ⟨x, y⟩ := a
  obtain ⟨z, w⟩ := b
  have al : ∀ i j : Int, PySem.W.alike (.int i) (.int j) = true := fun i j => by simp [PySem.W.alike]
  have ey : ∀ i : Int, PyData.eqv (.int i) (.int i) = true := fun i => by simp [PyData.eqv]
  have en : ∀ i j : Int, i ≠ j → PyData.eqv (.int i) (.int j) = false := fun i j h => by simp [PyData.eqv, h]
  unfold pD ltP
  rw [PySem.W.dataLt_tuple]
  by_cases h : x = z
  · subst h
    rw [PySem.W.dataLt_all_yes (al x x) (ey x)]
    by_cases h2 : y = w
    · subst h2
      rw [PySem.W.dataLt_all_yes (al y y) (ey y)]
      simp [PySem.W.keyToksAll, PyProof.Rows.lexLt, PyProof.Rows.itemLt]
    · rw [PySem.W.dataLt_all_no (al y w) (en y w h2), PySem.W.dataLt_int]
      simp
  · rw [PySem.W.dataLt_all_no (al x z) (en x z h), PySem.W.dataLt_int]
    simp [h]
theorem ltP_iff {a b : Int × Int} : ltP a b = true ↔ a.1 < b.1 ∨ (a.1 = b.1 ∧ a.2 < b.2) := by
  unfold ltP
  rw [Bool.or_eq_true, Bool.and_eq_true, decide_eq_true_iff, decide_eq_true_iff, decide_eq_true_iff]
theorem ltP_not {a b : Int × Int} : ltP a b = false ↔ b.1 < a.1 ∨ (b.1 = a.1 ∧ b.2 ≤ a.2) := by
  rw [← Bool.not_eq_true, ltP_iff]
  omega
def minP (x : Int × Int) (r : List (Int × Int)) : Int × Int := r.foldl (fun a y => if ltP y a = true then y else a) x
theorem minD_pairs : ∀ (r : List (Int × Int)) (x : Int × Int), PySem.W.minD (pD x) (r.map pD) = pD (minP x r)
  | [], _ => rfl
  | y :: r, x => by
    have ih := minD_pairs r (if ltP y x = true then y else x)
    unfold PySem.W.minD minP at ih ⊢
    rw [List.map_cons, List.foldl_cons, List.foldl_cons, ← ih, dataLt_pair]
    by_cases h : ltP y x = true
    · rw [if_pos h, if_pos h]
    · rw [if_neg h, if_neg h]
theorem minP_mem : ∀ (r : List (Int × Int)) (x : Int × Int), minP x r ∈ x :: r ∧ ∀ y ∈ x :: r, ltP y (minP x r) = false
  | [], x => ⟨List.mem_cons_self, fun y hy => by
    rw [List.mem_singleton.mp hy]
    exact ltP_not.mpr (.inr ⟨rfl, Int.le_refl _⟩)⟩
  | z :: r, x => by
    by_cases h : ltP z x = true
    · have e : minP x (z :: r) = minP z r := by unfold minP; rw [List.foldl_cons, if_pos h]
      obtain ⟨h1, h2⟩ := minP_mem r z
      rw [e]
      refine ⟨List.mem_cons_of_mem _ h1, fun y hy => ?_⟩
      rcases List.mem_cons.mp hy with rfl | hy
      · have h3 := h2 z List.mem_cons_self
        rw [ltP_not] at h3 ⊢
        rw [ltP_iff] at h
        omega
      · exact h2 y hy
    · have e : minP x (z :: r) = minP x r := by unfold minP; rw [List.foldl_cons, if_neg h]
      obtain ⟨h1, h2⟩ := minP_mem r x
      rw [e]
      refine ⟨?_, fun y hy => ?_⟩
      · rcases List.mem_cons.mp h1 with z1 | z1
        · rw [z1]; exact List.mem_cons_self
        · exact List.mem_cons_of_mem _ (List.mem_cons_of_mem _ z1)
      · rcases List.mem_cons.mp hy with rfl | hy
        · exact h2 y List.mem_cons_self
        · rcases List.mem_cons.mp hy with rfl | hy
          · have h3 := h2 x List.mem_cons_self
            have h : ltP y x = false := by simpa using h
            rw [ltP_not] at h3 h ⊢
            omega
          · exact h2 y (List.mem_cons_of_mem _ hy)
theorem pairs_alike (xs : List (Int × Int)) : PySem.W.AlikeAll (xs.map pD) := by
  refine ⟨fun x hx y hy => ?_, fun x hx => ?_⟩
  · obtain ⟨a, _, rfl⟩ := List.mem_map.mp hx
    obtain ⟨b, _, rfl⟩ := List.mem_map.mp hy
    simp [pD, PySem.W.alike, PySem.W.alikeAll]
  · obtain ⟨a, _, rfl⟩ := List.mem_map.mp hx
    exact fun z => nomatch z
theorem w_minP {xs : List (Int × Int)} {a : Addr} {S : Sto} {R : DK} (ha : S a = some (.lst (xs.map pairD))) (hne : xs ≠ []) (q : ∀ m ∈ xs, (∀ y ∈ xs, ltP y m = false) → R (pairD m) S) : rMinD [.ref a] S R := by
  obtain ⟨x, r, rfl⟩ := List.exists_cons_of_ne_nil hne
  have hd := pD_depth (x :: r)
  refine ⟨a, _, pD x, r.map pD, rfl, ha, pys_pairs (x :: r), pairs_alike (x :: r), by show PyData.depthAll ((x :: r).map pD) ≤ 60; omega, fun j d hj hm => ?_⟩
  rw [minD_pairs] at hm
  have hj : ((x :: r).map pairD)[j]? = some d := hj
  have hm : ((x :: r).map pD)[j]? = some (pD (minP x r)) := hm
  rw [List.getElem?_map] at hj hm
  obtain ⟨y, hy, rfl⟩ := Option.map_eq_some_iff.mp hj
  rw [hy] at hm
  have e : y = minP x r := by
    have := pD_eqv y (minP x r)
    rw [Option.some.inj hm, SeqAt.eqv_refl _ (SeqAt.canLay_of_shaped (pD_shaped _))] at this
    exact of_decide_eq_true this.symm
  subst e
  obtain ⟨h1, h2⟩ := minP_mem r x
  exact q _ h1 h2
end Sv
set_option maxHeartbeats 400000
namespace Sv
open PySem PySem.Spec PyProof.Rows L2
def nxG (rows : List (List Int)) (nx : Int → Int → Bool) (m : Int) : List Int := (recvL rows).filter (nx m)
inductive Dz (rows : List (List Int)) (nx : Int → Int → Bool) (base : Int → Bool) : Nat → Int → Prop
  | base {m : Int} : m ∈ recvL rows → base m = true → Dz rows nx base 1 m
  | step {n : Nat} {m t : Int} : m ∈ recvL rows → nx m t = true → Dz rows nx base n t → Dz rows nx base (n + 1) m
section
variable {rows : List (List Int)} {nx : Int → Int → Bool} {base : Int → Bool}
theorem Dz.mem {n : Nat} {m : Int} (h : Dz rows nx base n m) : m ∈ recvL rows := by
  cases h with
  | base h _ => exact h
  | step h _ _ => exact h
theorem Dz.pos {n : Nat} {m : Int} (h : Dz rows nx base n m) : 1 ≤ n := by
  cases h with
  | base _ _ => exact Nat.le_refl _
  | step _ _ _ => omega
theorem Dz.inv {n : Nat} {m : Int} (h : Dz rows nx base (n + 1) m) (hn : 1 ≤ n) : ∃ t, nx m t = true ∧ Dz rows nx base n t := by
  generalize e : n + 1 = k at h
  cases h with
  | base _ _ => omega
  | step _ h1 h2 =>
    obtain rfl := Nat.succ.inj e
    exact ⟨_, h1, h2⟩
theorem Dz.one {m : Int} (h : Dz rows nx base 1 m) : base m = true := by
  generalize e : 1 = k at h
  cases h with
  | base _ h => exact h
  | step _ _ h =>
    have := h.pos
    omega
/-- the least length -/
def Le (rows : List (List Int)) (nx : Int → Int → Bool) (base : Int → Bool) (n : Nat) (m : Int) : Prop := Dz rows nx base n m ∧ ∀ k, k < n → ¬ Dz rows nx base k m
theorem Dz.least : ∀ {n : Nat} {m : Int}, Dz rows nx base n m → ∃ k, k ≤ n ∧ Le rows nx base k m := by
  intro n
  induction n using Nat.strongRecOn with
  | ind n ih =>
    intro m h
    by_cases z : ∃ k, k < n ∧ Dz rows nx base k m
    · obtain ⟨k, hk, hd⟩ := z
      obtain ⟨j, hj, hl⟩ := ih k hk hd
      exact ⟨j, by omega, hl⟩
    · exact ⟨n, Nat.le_refl _, h, fun k hk hd => z ⟨k, hk, hd⟩⟩
theorem Le.unique {n k : Nat} {m : Int} (h : Le rows nx base n m) (g : Le rows nx base k m) : n = k := by
  rcases Nat.lt_trichotomy n k with z | z | z
  · exact absurd h.1 (g.2 n z)
  · exact z
  · exact absurd g.1 (h.2 k z)
theorem Le.prev {n : Nat} {m : Int} (h : Le rows nx base (n + 1) m) (hn : 1 ≤ n) : ∃ t, nx m t = true ∧ Le rows nx base n t := by
  obtain ⟨t, h1, h2⟩ := h.1.inv hn
  exact ⟨t, h1, h2, fun k hk hd => h.2 (k + 1) (by omega) (.step h.1.mem h1 hd)⟩
theorem Le.down {c : Nat} (hc : 1 ≤ c) : ∀ {n : Nat} {m : Int}, c ≤ n → Le rows nx base n m → ∃ t, Le rows nx base c t
  | 0, _, h, _ => absurd h (by omega)
  | n + 1, m, h, hl => by
    by_cases e : c = n + 1
    · exact ⟨m, e ▸ hl⟩
    · obtain ⟨t, _, ht⟩ := hl.prev (by omega)
      exact Le.down hc (by omega) ht
def lvF (rows : List (List Int)) (nx : Int → Int → Bool) (base : Int → Bool) (D : List (Int × Nat)) (c : Nat) : List Int :=
  if c = 0 then (recvL rows).filter base else (recvL rows).filter fun m => !decide (m ∈ D.map (·.1)) && ((nxG rows nx m).map fun t => decide (t ∈ D.map (·.1))).any id
def lvD (rows : List (List Int)) (nx : Int → Int → Bool) (base : Int → Bool) : Nat → List (Int × Nat)
  | 0 => []
  | c + 1 => lvD rows nx base c ++ (lvF rows nx base (lvD rows nx base c) c).map fun m => (m, c + 1)
theorem any_map_dec (l : List Int) (P : Int → Bool) : (l.map P).any id = true ↔ ∃ t ∈ l, P t = true := by
  rw [List.any_map, List.any_eq_true]
  exact Iff.rfl
theorem lv_mem (hst : ∀ m t, nx m t = true → t ∈ recvL rows → True) : ∀ c, (∀ m n, (m, n) ∈ lvD rows nx base c ↔ n ≤ c ∧ Le rows nx base n m) ∧ ∀ m, m ∈ lvF rows nx base (lvD rows nx base c) c ↔ Le rows nx base (c + 1) m := by
  have keys : ∀ c, (∀ m n, (m, n) ∈ lvD rows nx base c ↔ n ≤ c ∧ Le rows nx base n m) → ∀ m, m ∈ (lvD rows nx base c).map (·.1) ↔ ∃ n, n ≤ c ∧ Le rows nx base n m := fun c h m => by
    rw [List.mem_map]
    constructor
    · rintro ⟨⟨m', n⟩, h1, rfl⟩
      exact ⟨n, (h _ _).mp h1⟩
    · rintro ⟨n, h1⟩
      exact ⟨(m, n), (h _ _).mpr h1, rfl⟩
  have front : ∀ c, (∀ m n, (m, n) ∈ lvD rows nx base c ↔ n ≤ c ∧ Le rows nx base n m) → ∀ m, m ∈ lvF rows nx base (lvD rows nx base c) c ↔ Le rows nx base (c + 1) m := fun c h m => by
    unfold lvF
    by_cases hc : c = 0
    · subst hc
      rw [if_pos rfl, List.mem_filter]
      constructor
      · rintro ⟨h1, h2⟩
        exact ⟨.base h1 h2, fun k hk hd => by have := hd.pos; omega⟩
      · intro hl
        exact ⟨hl.1.mem, hl.1.one⟩
    · rw [if_neg hc, List.mem_filter, Bool.and_eq_true, any_map_dec]
      constructor
      · rintro ⟨h1, h2, t, h3, h4⟩
        have h2 : m ∉ (lvD rows nx base c).map (·.1) := by simpa using h2
        obtain ⟨h5, h6⟩ := List.mem_filter.mp h3
        obtain ⟨n, hn, hl⟩ := (keys c h t).mp (of_decide_eq_true h4)
        have hd : Dz rows nx base (n + 1) m := .step h1 h6 hl.1
        have no : ∀ k, k ≤ c → ¬ Dz rows nx base k m := fun k hk hd => by
          obtain ⟨j, hj, hl⟩ := hd.least
          exact h2 ((keys c h m).mpr ⟨j, by omega, hl⟩)
        have : n = c := by
          rcases Nat.lt_or_ge n c with z | z
          · exact absurd hd (no (n + 1) (by omega))
          · omega
        subst this
        exact ⟨hd, fun k hk => no k (by omega)⟩
      · intro hl
        obtain ⟨t, h1, h2⟩ := hl.prev (by omega)
        refine ⟨hl.1.mem, ?_, t, List.mem_filter.mpr ⟨h2.1.mem, h1⟩, decide_eq_true ((keys c h t).mpr ⟨c, Nat.le_refl _, h2⟩)⟩
        have : m ∉ (lvD rows nx base c).map (·.1) := fun z => by
          obtain ⟨n, hn, hl2⟩ := (keys c h m).mp z
          have := hl.unique hl2
          omega
        simpa using this
  intro c
  induction c with
  | zero =>
    have h0 : ∀ m n, (m, n) ∈ lvD rows nx base 0 ↔ n ≤ 0 ∧ Le rows nx base n m := fun m n => by
      constructor
      · intro z
        exact nomatch z
      · rintro ⟨h1, h2⟩
        have := h2.1.pos
        omega
    exact ⟨h0, front 0 h0⟩
  | succ c ih =>
    have h1 : ∀ m n, (m, n) ∈ lvD rows nx base (c + 1) ↔ n ≤ c + 1 ∧ Le rows nx base n m := fun m n => by
      show (m, n) ∈ lvD rows nx base c ++ _ ↔ _
      rw [List.mem_append, ih.1]
      constructor
      · rintro (⟨a, b⟩ | z)
        · exact ⟨by omega, b⟩
        · obtain ⟨m', h2, e⟩ := List.mem_map.mp z
          cases e
          exact ⟨Nat.le_refl _, (ih.2 m).mp h2⟩
      · rintro ⟨a, b⟩
        by_cases z : n ≤ c
        · exact .inl ⟨z, b⟩
        · obtain rfl : n = c + 1 := by omega
          exact .inr (List.mem_map.mpr ⟨m, (ih.2 m).mpr b, rfl⟩)
    exact ⟨h1, front (c + 1) h1⟩
theorem lvF_nd (c : Nat) : (lvF rows nx base (lvD rows nx base c) c).Nodup := by
  unfold lvF
  split
  · exact (recvL_nodup rows).sublist List.filter_sublist
  · exact (recvL_nodup rows).sublist List.filter_sublist
theorem lv_nd : ∀ c, ((lvD rows nx base c).map (·.1)).Nodup
  | 0 => List.nodup_nil
  | c + 1 => by
    show ((lvD rows nx base c ++ _).map (·.1)).Nodup
    rw [List.map_append, List.map_map]
    have e : (lvF rows nx base (lvD rows nx base c) c).map ((fun x : Int × Nat => x.1) ∘ fun m => (m, c + 1)) = lvF rows nx base (lvD rows nx base c) c := List.map_id' _
    rw [e]
    refine List.nodup_append.mpr ⟨lv_nd c, lvF_nd c, fun a ha b hb z => ?_⟩
    subst z
    obtain ⟨⟨a', n⟩, h1, rfl⟩ := List.mem_map.mp ha
    have h2 := ((lv_mem (fun _ _ _ _ => True.intro) c).1 _ _).mp h1
    have h3 := ((lv_mem (fun _ _ _ _ => True.intro) c).2 _).mp hb
    have := h2.2.unique h3
    omega
theorem nd_leL : ∀ {a b : List Int}, a.Nodup → (∀ x ∈ a, x ∈ b) → a.length ≤ b.length
  | [], b, _, _ => Nat.zero_le _
  | x :: a, b, h, hs => by
    obtain ⟨h1, h2⟩ := List.nodup_cons.mp h
    have hx := hs x List.mem_cons_self
    have := nd_leL (b := b.erase x) h2 fun y hy => (List.mem_erase_of_ne (fun (e : y = x) => h1 (by rw [← e]; exact hy))).mpr (hs y (List.mem_cons_of_mem _ hy))
    rw [List.length_erase_of_mem hx] at this
    have := List.length_pos_of_mem hx
    rw [List.length_cons]
    omega
theorem lv_len (c : Nat) : (lvD rows nx base c).length ≤ 24 := by
  have h := nd_leL (b := recvL rows) (lv_nd (rows := rows) (nx := nx) (base := base) c) fun x hx => by
    obtain ⟨⟨a', n⟩, h1, rfl⟩ := List.mem_map.mp hx
    exact (((lv_mem (fun _ _ _ _ => True.intro) c).1 _ _).mp h1).2.1.mem
  rw [List.length_map] at h
  have := recvL_len rows
  omega
/-- all least lengths -/
structure Dist (rows : List (List Int)) (nx : Int → Int → Bool) (base : Int → Bool) (D : List (Int × Nat)) : Prop where
  nd : (D.map (·.1)).Nodup
  mem : ∀ m n, (m, n) ∈ D ↔ Le rows nx base n m
  len : D.length ≤ 24
theorem dist_of {c : Nat} (h : lvF rows nx base (lvD rows nx base c) c = []) : Dist rows nx base (lvD rows nx base c) := by
  obtain ⟨h1, h2⟩ := lv_mem (rows := rows) (nx := nx) (base := base) (fun _ _ _ _ => True.intro) c
  refine ⟨lv_nd c, fun m n => ?_, lv_len c⟩
  rw [h1]
  refine ⟨fun z => z.2, fun z => ⟨?_, z⟩⟩
  rcases Nat.lt_or_ge c n with y | y
  · obtain ⟨t, ht⟩ := Le.down (c := c + 1) (by omega) y z
    have := (h2 t).mpr ht
    rw [h] at this
    exact nomatch this
  · exact y
end
def sbB (rows : List (List Int)) (m : Int) (s : Nat × Nat) : Bool := match hap rows m with
  | some (p, k) => decide (p = s.1) && decide (s.2 ≤ k)
  | none => false
def rbB (rows : List (List Int)) (s : Nat × Nat) (m : Int) : Bool := match hap rows (0 - m) with
  | some (p, k) => decide (p = s.1) && decide (k < s.2)
  | none => false
def stepB (rows : List (List Int)) (m t : Int) : Bool := match hap rows (0 - m) with
  | some s => sbB rows t s
  | none => false
/-- messages that lead from a state (an interval) to a state -/
def Zk (rows : List (List Int)) (s t : Nat × Nat) : List Int → Prop
  | [] => s.1 = t.1 ∧ s.2 < t.2
  | m :: ms => m ∈ recvL rows ∧ sbB rows m s = true ∧ ∃ u, hap rows (0 - m) = some u ∧ Zk rows u t ms
def Zz (rows : List (List Int)) (s t : Nat × Nat) (ms : List Int) : Prop := ms ≠ [] ∧ Zk rows s t ms
theorem recv_hap {rows : List (List Int)} {m : Int} (h : m ∈ recvL rows) : ∃ u, hap rows (0 - m) = some u := Option.isSome_iff_exists.mp (List.mem_filter.mp h).2
theorem rb_iff {rows : List (List Int)} {s u : Nat × Nat} {m : Int} (h : hap rows (0 - m) = some u) : rbB rows s m = true ↔ u.1 = s.1 ∧ u.2 < s.2 := by
  unfold rbB
  rw [h]
  obtain ⟨p, k⟩ := u
  show (decide (p = s.1) && decide (k < s.2)) = true ↔ _
  rw [Bool.and_eq_true, decide_eq_true_iff, decide_eq_true_iff]
theorem step_at {rows : List (List Int)} {u : Nat × Nat} {m t : Int} (h : hap rows (0 - m) = some u) : stepB rows m t = sbB rows t u := by
  unfold stepB
  rw [h]
/-- zigzags by what leads on -/
theorem zz_dz {rows : List (List Int)} {t : Nat × Nat} : ∀ {ms : List Int} {m : Int} {s : Nat × Nat}, Zk rows s t (m :: ms) → Dz rows (stepB rows) (rbB rows t) (ms.length + 1) m
  | [], m, s, ⟨h1, h2, u, h3, h4⟩ => .base h1 ((rb_iff h3).mpr h4)
  | m' :: ms, m, s, ⟨h1, h2, u, h3, h4⟩ => by
    have ih := zz_dz h4
    exact .step h1 (by rw [step_at h3]; exact h4.2.1) ih
/-- chosen step by step: each time the least message of those that are next to the end -/
inductive Best (rows : List (List Int)) (nx : Int → Int → Bool) (base : Int → Bool) : Nat → Int → List Int → Prop
  | one {m : Int} : Le rows nx base 1 m → Best rows nx base 1 m [m]
  | step {n : Nat} {m t : Int} {l : List Int} : Le rows nx base (n + 1) m → nx m t = true → (∀ t', nx m t' = true → Le rows nx base n t' → t ≤ t') → Best rows nx base n t l → Best rows nx base (n + 1) m (m :: l)
def lexle : List Int → List Int → Prop
  | [], _ => True
  | _ :: _, [] => False
  | a :: l, b :: r => a < b ∨ (a = b ∧ lexle l r)
theorem Best.le {rows : List (List Int)} {nx : Int → Int → Bool} {base : Int → Bool} {n : Nat} {m : Int} {l : List Int} (h : Best rows nx base n m l) : Le rows nx base n m := by
  cases h with
  | one h => exact h
  | step h _ _ _ => exact h
theorem Best.len {rows : List (List Int)} {nx : Int → Int → Bool} {base : Int → Bool} {n : Nat} {m : Int} {l : List Int} (h : Best rows nx base n m l) : l.length = n ∧ ∃ r, l = m :: r := by
  induction h with
  | one _ => exact ⟨rfl, [], rfl⟩
  | step _ _ _ _ ih => exact ⟨by rw [List.length_cons, ih.1], _, rfl⟩
theorem best_zk {rows : List (List Int)} {t : Nat × Nat} {n : Nat} {m : Int} {l : List Int} (h : Best rows (stepB rows) (rbB rows t) n m l) : ∀ {s : Nat × Nat}, sbB rows m s = true → Zk rows s t l := by
  induction h with
  | @one m h =>
    intro s hs
    obtain ⟨u, hu⟩ := recv_hap h.1.mem
    exact ⟨h.1.mem, hs, u, hu, (rb_iff hu).mp h.1.one⟩
  | @step n m t' l h h1 h2 h3 ih =>
    intro s hs
    obtain ⟨u, hu⟩ := recv_hap h.1.mem
    rw [step_at hu] at h1
    exact ⟨h.1.mem, hs, u, hu, ih h1⟩
theorem best_least {rows : List (List Int)} {t : Nat × Nat} {n : Nat} {m : Int} {l : List Int} (h : Best rows (stepB rows) (rbB rows t) n m l) : ∀ {s : Nat × Nat} {r : List Int}, Zk rows s t (m :: r) → r.length + 1 = n → lexle l (m :: r) := by
  induction h with
  | @one m h => exact fun _ _ => .inr ⟨rfl, True.intro⟩
  | @step n m t' l h h1 h2 h3 ih =>
    intro s r hz hl
    obtain ⟨g1, g2, u, g3, g4⟩ := hz
    cases r with
    | nil => have := h3.le.1.pos; simp at hl; omega
    | cons a r =>
      have hd := zz_dz g4
      have hl2 : r.length + 1 = n := by simpa using hl
      rw [hl2] at hd
      have ha : Le rows (stepB rows) (rbB rows t) n a := ⟨hd, fun k hk hd => h.2 (k + 1) (by omega) (.step h.1.mem (by rw [step_at g3]; exact g4.2.1) hd)⟩
      have hle := h2 a (by rw [step_at g3]; exact g4.2.1) ha
      obtain ⟨q, rfl⟩ := h3.len.2
      refine .inr ⟨rfl, ?_⟩
      by_cases e : t' = a
      · subst e
        exact ih g4 hl2
      · exact .inl (by omega)
/-- what find_zigzag promises -/
def FindZ (rows : List (List Int)) (s t : Nat × Nat) : Option (List Int) → Prop
  | none => ∀ ms, ¬ Zz rows s t ms
  | some ms => Zz rows s t ms ∧ ms.length ≤ 24 ∧ ∀ ms', Zz rows s t ms' → ms.length < ms'.length ∨ (ms.length = ms'.length ∧ lexle ms ms')
theorem lexle_anti : ∀ {a b : List Int}, lexle a b → lexle b a → a = b
  | [], [], _, _ => rfl
  | [], _ :: _, _, h => h.elim
  | _ :: _, [], h, _ => h.elim
  | x :: a, y :: b, h, g => by
    rcases h with h | ⟨rfl, h⟩
    · rcases g with g | ⟨rfl, g⟩
      · omega
      · omega
    · rcases g with g | ⟨_, g⟩
      · omega
      · rw [lexle_anti h g]
theorem FindZ.unique {rows : List (List Int)} {s t : Nat × Nat} : ∀ {a b : Option (List Int)}, FindZ rows s t a → FindZ rows s t b → a = b
  | none, none, _, _ => rfl
  | none, some ms, h, g => absurd g.1 (h ms)
  | some ms, none, h, g => absurd h.1 (g ms)
  | some a, some b, h, g => by
    rcases h.2.2 b g.1 with z | ⟨z, l1⟩
    · rcases g.2.2 a h.1 with y | ⟨y, _⟩ <;> omega
    · rcases g.2.2 a h.1 with y | ⟨y, l2⟩
      · omega
      · rw [lexle_anti l1 l2]
/-- no start: none; the least start: its best way -/
theorem find_none {rows : List (List Int)} {s t : Nat × Nat} {D : List (Int × Nat)} (hD : Dist rows (stepB rows) (rbB rows t) D) (h : ∀ m n, (m, n) ∈ D → sbB rows m s = false) : FindZ rows s t none := by
  rintro ms ⟨hne, hz⟩
  obtain ⟨m, r, rfl⟩ := List.exists_cons_of_ne_nil hne
  obtain ⟨k, _, hl⟩ := (zz_dz hz).least
  have := h m k ((hD.mem m k).mpr hl)
  rw [hz.2.1] at this
  cases this
theorem Le.le24 {rows : List (List Int)} {nx : Int → Int → Bool} {base : Int → Bool} {D : List (Int × Nat)} (hD : Dist rows nx base D) {n : Nat} {m : Int} (h : Le rows nx base n m) : n ≤ 24 := by
  -- all lengths from 1 to n occur
  have go : ∀ k, k ≤ n → ∃ L : List (Int × Nat), L.length = k ∧ (L.map (·.2)).Nodup ∧ ∀ x ∈ L, x ∈ D ∧ x.2 ≤ k := by
    intro k
    induction k with
    | zero => exact fun _ => ⟨[], rfl, .nil, fun x hx => nomatch hx⟩
    | succ k ih =>
      intro hk
      obtain ⟨L, h1, h2, h3⟩ := ih (by omega)
      obtain ⟨t, ht⟩ := Le.down (c := k + 1) (by omega) hk h
      refine ⟨(t, k + 1) :: L, by rw [List.length_cons, h1], List.nodup_cons.mpr ⟨fun z => ?_, h2⟩, fun x hx => ?_⟩
      · obtain ⟨y, hy, e⟩ := List.mem_map.mp z
        have := (h3 y hy).2
        have e : y.2 = k + 1 := e
        omega
      · rcases List.mem_cons.mp hx with rfl | hx
        · exact ⟨(hD.mem _ _).mpr ht, Nat.le_refl _⟩
        · exact ⟨(h3 x hx).1, by have := (h3 x hx).2; omega⟩
  obtain ⟨L, h1, h2, h3⟩ := go n (Nat.le_refl _)
  have nd : (L.map (·.1)).Nodup := by
    rw [List.Nodup, List.pairwise_map] at h2 ⊢
    have h2' : L.Pairwise fun a b => a.2 ≠ b.2 := h2
    refine List.Pairwise.imp_of_mem (fun {a b} ha hb hne e => hne ?_) h2'
    have g1 := (hD.mem a.1 a.2).mp (h3 a ha).1
    have g2 := (hD.mem b.1 b.2).mp (h3 b hb).1
    rw [e] at g1
    exact g1.unique g2
  have := nd_leL (b := D.map (·.1)) nd fun x hx => by
    obtain ⟨y, hy, rfl⟩ := List.mem_map.mp hx
    exact List.mem_map.mpr ⟨y, (h3 y hy).1, rfl⟩
  rw [List.length_map, List.length_map] at this
  have := hD.len
  omega
theorem find_some {rows : List (List Int)} {s t : Nat × Nat} {D : List (Int × Nat)} {n : Nat} {m : Int} {l : List Int} (hD : Dist rows (stepB rows) (rbB rows t) D) (hs : sbB rows m s = true) (hb : Best rows (stepB rows) (rbB rows t) n m l)
    (hmin : ∀ m' n', (m', n') ∈ D → sbB rows m' s = true → n < n' ∨ (n = n' ∧ m ≤ m')) : FindZ rows s t (some l) := by
  obtain ⟨hlen, q, rfl⟩ := hb.len
  refine ⟨⟨by simp, best_zk hb hs⟩, by rw [hlen]; exact hb.le.le24 hD, ?_⟩
  rintro ms' ⟨hne, hz⟩
  obtain ⟨m', r, rfl⟩ := List.exists_cons_of_ne_nil hne
  obtain ⟨k, hk, hl⟩ := (zz_dz hz).least
  rw [hlen]
  have hk : k ≤ (m' :: r).length := hk
  rcases hmin m' k ((hD.mem m' k).mpr hl) hz.2.1 with z | ⟨z, z2⟩
  · left
    omega
  · subst z
    rcases Nat.lt_or_ge n (m' :: r).length with y | y
    · exact .inl y
    · have e : n = (m' :: r).length := by omega
      refine .inr ⟨e, ?_⟩
      by_cases e2 : m = m'
      · subst e2
        exact best_least hb hz e.symm
      · exact .inl (by omega)
end Sv
set_option maxHeartbeats 400000
set_option autoImplicit false
namespace Sv
open PySem PySem.Spec PyProof.Rows L2
theorem w_sb {p k p' k' q j : Nat} {S : Sto} {R : DK} (h : R (.bl (decide (p = q) && decide (j ≤ k))) S) : dFn 6 B_is_sent_behind_1a14 [.tup [hpD (some (p, k)), hpD (some (p', k'))], stD (q, j)] S R := by
  refine ⟨_, rfl, _, 0, _, rfl, rfl, rfl, _, rfl, .inl (.inl rfl), _, _, rfl, _, _, rfl, rfl, ?_⟩
  refine ⟨_, rfl, _, rfl, .inl (.inl rfl), _, _, rfl, _, _, rfl, rfl, ?_⟩
  refine ⟨_, rfl, _, rfl, _, rfl, iteB (fun e => ?_) (fun e => ?_)⟩
  · rw [xor_ff] at e
    have e : (p : Int) = (q : Int) := of_decide_eq_true e
    rw [decide_eq_true (show p = q by omega), Bool.true_and] at h
    refine ⟨_, rfl, _, rfl, ?_⟩
    show R (.bl (decide ((j : Int) ≤ (k : Int)))) S
    rw [show decide ((j : Int) ≤ (k : Int)) = decide (j ≤ k) from decide_eq_decide.mpr (by omega)]
    exact h
  · rw [xor_ff] at e
    have e : ¬ (p : Int) = (q : Int) := of_decide_eq_false e
    rw [decide_eq_false (show ¬ p = q by omega), Bool.false_and] at h
    exact h
theorem w_rb {p k p' k' q j : Nat} {S : Sto} {R : DK} (h : R (.bl (decide (p' = q) && decide (k' < j))) S) : dFn 6 B_is_received_before_f543 [.tup [hpD (some (p, k)), hpD (some (p', k'))], stD (q, j)] S R := by
  refine ⟨_, rfl, _, 1, _, rfl, rfl, rfl, _, rfl, .inl (.inl rfl), _, _, rfl, _, _, rfl, rfl, ?_⟩
  refine ⟨_, rfl, _, rfl, .inl (.inl rfl), _, _, rfl, _, _, rfl, rfl, ?_⟩
  refine ⟨_, rfl, _, rfl, _, rfl, iteB (fun e => ?_) (fun e => ?_)⟩
  · rw [xor_ff] at e
    have e : (p' : Int) = (q : Int) := of_decide_eq_true e
    rw [decide_eq_true (show p' = q by omega), Bool.true_and] at h
    refine ⟨_, rfl, _, rfl, ?_⟩
    show R (.bl (decide ((k' : Int) < (j : Int)))) S
    rw [show decide ((k' : Int) < (j : Int)) = decide (k' < j) from decide_eq_decide.mpr (by omega)]
    exact h
  · rw [xor_ff] at e
    have e : ¬ (p' : Int) = (q : Int) := of_decide_eq_false e
    rw [decide_eq_false (show ¬ p' = q by omega), Bool.false_and] at h
    exact h
theorem w_sbM {rows : List (List Int)} {many most : Nat} {m : Int} {s : Nat × Nat} {S : Sto} {R : DK} (hG : Good many most rows) (hm : m ∈ recvL rows) (h : R (.bl (sbB rows m s)) S) : dFn 6 B_is_sent_behind_1a14 [tripD rows m, stD s] S R := by
  obtain ⟨_, p, k, p', k', h1, h2, e⟩ := hap_trip hG hm
  rw [e]
  refine w_sb ?_
  unfold sbB at h
  rw [h1] at h
  exact h
theorem w_rbM {rows : List (List Int)} {many most : Nat} {m : Int} {s : Nat × Nat} {S : Sto} {R : DK} (hG : Good many most rows) (hm : m ∈ recvL rows) (h : R (.bl (rbB rows s m)) S) : dFn 6 B_is_received_before_f543 [tripD rows m, stD s] S R := by
  obtain ⟨_, p, k, p', k', h1, h2, e⟩ := hap_trip hG hm
  rw [e]
  refine w_rb ?_
  unfold rbB at h
  rw [h2] at h
  exact h
theorem getD_map {α : Type} {κ : α → Key} {v : α → D} : ∀ {l : List α} {x : α}, (l.map κ).Nodup → x ∈ l → getD' (l.map fun x => (κ x, v x)) (κ x) = some (v x)
  | [], _, _, h => nomatch h
  | y :: l, x, nd, h => by
    unfold getD'
    rw [List.map_cons, List.find?_cons]
    rw [List.map_cons, List.nodup_cons] at nd
    rcases List.mem_cons.mp h with rfl | h
    · rw [decide_eq_true rfl]
      rfl
    · have : κ y ≠ κ x := fun z => nd.1 (by rw [z]; exact List.mem_map.mpr ⟨x, h, rfl⟩)
      rw [decide_eq_false this]
      exact getD_map nd.2 h
theorem recv_ndK (rows : List (List Int)) : ((recvL rows).map (Sum.inl : Int → Key)).Nodup := List.pairwise_map.mpr ((recvL_nodup rows).imp fun n z => n (Sum.inl.inj z))
theorem trips_get {rows : List (List Int)} {m : Int} (h : m ∈ recvL rows) : getD' ((recvL rows).map fun m => ((Sum.inl m : Key), tripD rows m)) (Sum.inl m) = some (tripD rows m) := getD_map (recv_ndK rows) h
theorem trips_keys (rows : List (List Int)) : (((recvL rows).map fun m => ((Sum.inl m : Key), tripD rows m)).map fun kv => kD kv.1) = (recvL rows).map D.int := by
  rw [List.map_map]
  rfl
def kvD (L : List (Int × Nat)) : List (Key × D) := L.map fun x => ((Sum.inl x.1 : Key), D.int (x.2 : Int))
theorem kv_in (L : List (Int × Nat)) (t : Int) : (getD' (kvD L) (Sum.inl t)).isSome = decide (t ∈ L.map (·.1)) := by
  unfold getD' kvD
  rw [Option.isSome_map, Bool.eq_iff_iff, List.find?_isSome, decide_eq_true_iff, List.mem_map]
  constructor
  · rintro ⟨y, hy, e⟩
    obtain ⟨x, hx, rfl⟩ := List.mem_map.mp hy
    exact ⟨x, hx, Sum.inl.inj (of_decide_eq_true e)⟩
  · rintro ⟨x, hx, rfl⟩
    exact ⟨_, List.mem_map.mpr ⟨x, hx, rfl⟩, decide_eq_true rfl⟩
theorem kv_get {L : List (Int × Nat)} (nd : (L.map (·.1)).Nodup) {t : Int} {n : Nat} (h : (t, n) ∈ L) : getD' (kvD L) (Sum.inl t) = some (D.int (n : Int)) := by
  refine getD_map (κ := fun x : Int × Nat => (Sum.inl x.1 : Key)) (v := fun x => D.int (x.2 : Int)) (x := (t, n)) ?_ h
  have h2 : L.Pairwise fun a b => a.1 ≠ b.1 := List.pairwise_map.mp nd
  exact List.pairwise_map.mpr (h2.imp fun n z => n (Sum.inl.inj z))
theorem kv_new {L : List (Int × Nat)} {t : Int} {n : Nat} (h : t ∉ L.map (·.1)) : putD (kvD L) (Sum.inl t) (D.int (n : Int)) = kvD (L ++ [(t, n)]) := by
  rw [putD_new]
  · unfold kvD
    rw [List.map_append]
    rfl
  · unfold kvD
    rw [List.map_map]
    intro z
    obtain ⟨x, hx, e⟩ := List.mem_map.mp z
    exact h (List.mem_map.mpr ⟨x, hx, Sum.inl.inj e⟩)
theorem dictOf_ref {S : Sto} {a : Addr} {kvs : List (Key × D)} (h : S a = some (.dK kvs)) : dictOf S (.ref a) = some kvs := by
  show (match S a with
    | some (.dK kvs) => some kvs
    | _ => none) = some kvs
  rw [h]
/-- the dict of what may stand behind each message -/
def StepsAt (S : Sto) (kvs : List (Key × D)) (rows : List (List Int)) (nx : Int → Int → Bool) : Prop := ∀ m ∈ recvL rows, ∃ l, getD' kvs (Sum.inl m) = some (.ref l) ∧ S l = some (.lst (intsD (nxG rows nx m)))
theorem StepsAt.keep {S S' : Sto} {kvs : List (Key × D)} {rows : List (List Int)} {nx : Int → Int → Bool} (h : StepsAt S kvs rows nx) (k : SG S S') : StepsAt S' kvs rows nx := fun m hm => by
  obtain ⟨l, h1, h2⟩ := h m hm
  exact ⟨l, h1, k _ _ (fun z => z) h2⟩
theorem nxG_len (rows : List (List Int)) (nx : Int → Int → Bool) (m : Int) : (nxG rows nx m).length ≤ 24 := Nat.le_trans (List.length_filter_le ..) (recvL_len rows)
theorem w_isStep {rows : List (List Int)} {many most : Nat} {m t : Int} {S : Sto} {R : DK} (hG : Good many most rows) (hm : m ∈ recvL rows) (ht : t ∈ recvL rows) (h : R (.bl (stepB rows m t)) S) : dFn 3 B_is_step_5234 [tripsD rows, .int m, .int t] S R := by
  obtain ⟨_, p, k, p', k', h1, h2, e⟩ := hap_trip hG hm
  refine ⟨_, rfl, _, rfl, _, Sum.inl t, _, rfl, rfl, trips_get ht, _, rfl, _, rfl, _, Sum.inl m, _, rfl, rfl, trips_get hm, ?_⟩
  rw [e]
  refine ⟨_, 1, _, rfl, rfl, rfl, rfl, ?_⟩
  refine w_sbM (s := (p', k')) hG ht ?_
  rw [step_at h2] at h
  exact h
theorem SG.rem {S S1 : Sto} {p : Addr} (h : SG S S1) (n : S p = Option.none) : SG S (S1.rem p) := fun a o na e => by
  unfold Sto.rem
  rw [if_neg fun z => by rw [z, n] at e; cases e]
  exact h a o na e
theorem w_steps {rows : List (List Int)} {many most : Nat} {S : Sto} {R : DK} (hG : Good many most rows) (q : ∀ kvs S', SG S S' → StepsAt S' kvs rows (stepB rows) → R (.dct kvs) S') : dFn 3 B_zigzag_steps_bb25 [tripsD rows] S R := by
  have rlen := recvL_len rows
  refine ⟨_, rfl, _, rfl, fun p np => ⟨fun i S' => i ≤ (recvL rows).length ∧ SG S S' ∧ ∃ as : List Addr, as.length = i ∧ S' p = some (.dK (((recvL rows).zip as).map fun x => ((Sum.inl x.1 : Key), D.ref x.2))) ∧ ∀ (j : Nat) (m : Int) (a : Addr), (recvL rows)[j]? = some m → as[j]? = some a → a ≠ p ∧ S' a = some (.lst (intsD (nxG rows (stepB rows) m))), ⟨Nat.zero_le _, .new np, [], rfl, ?_, fun j m a _ h => nomatch h⟩, fun _ _ _ _ => True.intro, ?_, ?_⟩⟩
  · rw [Sto.same, List.zip_nil_right]
    rfl
  · rintro i d S1 hd ⟨hi0, sg1, as, la, hp, has⟩
    have hd : (((recvL rows).map fun m => ((Sum.inl m : Key), tripD rows m)).map fun kv => kD kv.1)[i]? = some d := hd
    rw [trips_keys, List.getElem?_map] at hd
    obtain ⟨m, hm, rfl⟩ := Option.map_eq_some_iff.mp hd
    have hi := (List.getElem?_eq_some_iff.mp hm).1
    have hmem := List.mem_of_getElem? hm
    dsimp only [dgName, dYes]
    refine goT ?_
    refine ⟨_, rfl, _, rfl, _, rfl, lc_mapE (recvL rows) D.int (trips_keys rows) (fun t => if stepB rows m t = true then some (D.int t) else none) (by omega) (fun _ _ => True.intro) (fun t ht S2 sg K Kn hk hn => turn_n ⟨_, rfl, _, rfl, _, rfl, rfl, w_isStep hG hmem ht ⟨_, rfl, iteB (fun e => ⟨_, rfl, hk _ (if_pos e) _ (.refl _)⟩) (fun e => hn ?_ _ (.refl _))⟩⟩) fun a S2 na sg2 ha => ?_⟩
    · have e : stepB rows m t = false := e
      show (if stepB rows m t = true then _ else _) = _
      rw [e]
      rfl
    · rw [fm_iteB] at ha
      have hp2 := sg2 _ _ (fun z => z) hp
      have nap : a ≠ p := fun z => by rw [z, hp] at na; cases na
      have lz : ((recvL rows).zip as) = ((recvL rows).take i).zip as := by
        have e1 : (recvL rows) = (recvL rows).take i ++ (recvL rows).drop i := (List.take_append_drop i _).symm
        have e2 : as = as ++ [] := (List.append_nil _).symm
        conv => lhs; rw [e1, e2]
        rw [List.zip_append (by rw [List.length_take, la]; omega), List.zip_nil_right, List.append_nil]
      refine ⟨_, Sum.inl m, rfl, hp2, ?_, hi, SG.keepP np sg1 sg2, as ++ [a], by rw [List.length_append, la]; rfl, ?_, ?_⟩
      · rw [List.length_map, List.length_zip]
        omega
      · rw [Sto.same, putD_new]
        · have e1 : (recvL rows) = (recvL rows).take i ++ (recvL rows).drop i := (List.take_append_drop i _).symm
          have e3 : (recvL rows).drop i = m :: (recvL rows).drop (i + 1) := by
            rw [List.drop_eq_getElem_cons hi]
            rw [(List.getElem?_eq_some_iff.mp hm).2]
          have e4 : (recvL rows).zip (as ++ [a]) = ((recvL rows).take i).zip as ++ [(m, a)] := by
            conv => lhs; rw [e1, e3]
            rw [List.zip_append (by rw [List.length_take, la]; omega), List.zip_cons_cons, List.zip_nil_right]
          rw [e4, lz, List.map_append]
          rfl
        · rw [lz, List.map_map]
          intro z
          obtain ⟨x, hx, e⟩ := List.mem_map.mp z
          have e : x.1 = m := Sum.inl.inj e
          obtain ⟨j, hj⟩ := List.getElem?_of_mem hx
          obtain ⟨h1, _⟩ := List.getElem?_zip_eq_some.mp hj
          rw [e, List.getElem?_take] at h1
          split at h1
          · rename_i hji
            obtain ⟨g1, g2⟩ := List.getElem?_eq_some_iff.mp h1
            obtain ⟨g3, g4⟩ := List.getElem?_eq_some_iff.mp hm
            have := (List.getElem_inj (h₀ := g1) (h₁ := g3) (recvL_nodup rows)).mp (g2.trans g4.symm)
            omega
          · cases h1
      · intro j m' a' h1 h2
        by_cases z : j < as.length
        · rw [List.getElem?_append_left z] at h2
          obtain ⟨n1, n2⟩ := has j m' a' h1 h2
          exact ⟨n1, (Sto.ne n1).trans (sg2 _ _ (fun z => z) n2)⟩
        · rw [List.getElem?_append_right (by omega)] at h2
          have hj0 : j - as.length = 0 := by
            have := (List.getElem?_eq_some_iff.mp h2).1
            simp at this
            omega
          rw [hj0] at h2
          cases h2
          have : j = i := by omega
          subst this
          obtain rfl := Option.some.inj (hm.symm.trans h1)
          refine ⟨nap, (Sto.ne nap).trans ?_⟩
          rw [ha]
          rfl
  · rintro S1 ⟨hi0, sg1, as, la, hp, has⟩
    have hlen : as.length = (recvL rows).length := by
      rw [la]
      show (((recvL rows).map fun m => ((Sum.inl m : Key), tripD rows m)).map fun kv => kD kv.1).length = _
      rw [List.length_map, List.length_map]
    refine ⟨_, hp, q _ _ (SG.rem (p := p) sg1 (by exact np)) fun m hm => ?_⟩
    obtain ⟨j, hj⟩ := List.getElem?_of_mem hm
    have hjl := (List.getElem?_eq_some_iff.mp hj).1
    have ha := List.getElem?_eq_getElem (l := as) (i := j) (by omega)
    obtain ⟨n1, n2⟩ := has j m _ hj ha
    refine ⟨as[j]'(by omega), ?_, ?_⟩
    · refine getD_map (κ := fun x : Int × Addr => (Sum.inl x.1 : Key)) (v := fun x => D.ref x.2) (x := (m, as[j]'(by omega))) ?_ (List.mem_of_getElem? (List.getElem?_zip_eq_some.mpr ⟨hj, ha⟩))
      have : ((recvL rows).zip as).map (fun x : Int × Addr => (Sum.inl x.1 : Key)) = (recvL rows).map (Sum.inl : Int → Key) := by
        have h2 : ((recvL rows).zip as).map Prod.fst = recvL rows := List.map_fst_zip (by omega)
        conv => rhs; rw [← h2]
        rw [List.map_map]
        rfl
      rw [this]
      exact recv_ndK rows
    · unfold Sto.rem
      rw [if_neg n1]
      exact n2
theorem w_dists {rows : List (List Int)} {many most : Nat} {nx : Int → Int → Bool} {kvs : List (Key × D)} {s : Nat × Nat} {S : Sto} {R : DK} (hG : Good many most rows) (hS : StepsAt S kvs rows nx)
    (q : ∀ d L S', SG S S' → S d = none → S' d = some (.dK (kvD L)) → Dist rows nx (rbB rows s) L → R (.ref d) S') : dFn 8 B_distances_to_ec2b [tripsD rows, .dct kvs, stD s] S R := by
  have rlen := recvL_len rows
  dsimp only [dFn, B_distances_to_ec2b]
  intro d nd
  have sg0 : SG S (S.put d (.dK [])) := .new nd
  have hd0 : (S.put d (.dK [])) d = some (.dK (kvD (lvD rows nx (rbB rows s) 0))) := Sto.same
  generalize S.put d (.dK []) = S0 at sg0 hd0 ⊢
  refine ⟨_, rfl, _, rfl, lc_mapE (recvL rows) D.int (trips_keys rows) (fun m => if rbB rows s m = true then some (D.int m) else none) (by omega) (fun _ _ => True.intro) (fun m hm S2 sg K Kn hk hn => turn_n ⟨_, rfl, _, rfl, _, Sum.inl m, _, rfl, rfl, trips_get hm, _, rfl, rfl, w_rbM hG hm ⟨_, rfl, iteB (fun e => ⟨_, rfl, hk _ (if_pos e) _ (.refl _)⟩) (fun e => hn ?_ _ (.refl _))⟩⟩) fun f S1 nf sg1 hf => ?_⟩
  · have e : rbB rows s m = false := e
    show (if rbB rows s m = true then _ else _) = _
    rw [e]
    rfl
  rw [fm_iteB] at hf
  have hf : S1 f = some (.lst (intsD (lvF rows nx (rbB rows s) (lvD rows nx (rbB rows s) 0) 0))) := hf
  have hd1 := sg1 _ _ (fun z => z) hd0
  have sg01 := sg0.trans sg1
  dsimp only
  refine ⟨fun n env S' => ∃ (c : Nat) (f : Addr) (x6 : Option D), env = [some (tripsD rows), some (.dct kvs), some (stD s), some (.ref d), some (.int ((c + 1 : Nat) : Int)), some (.ref f), x6, none] ∧ SG S S' ∧ S' d = some (.dK (kvD (lvD rows nx (rbB rows s) c))) ∧ S' f = some (.lst (intsD (lvF rows nx (rbB rows s) (lvD rows nx (rbB rows s) c) c))) ∧ n = 24 - (lvD rows nx (rbB rows s) c).length, ⟨_, 0, f, _, rfl, sg01, hd1, hf, rfl⟩, ?_⟩
  rintro n env S2 ⟨c, f, x6, rfl, sg2, hd2, hf2, hn⟩
  obtain ⟨lm1, lm2⟩ := lv_mem (rows := rows) (nx := nx) (base := rbB rows s) (fun _ _ _ _ => True.intro) c
  have fnd := lvF_nd (rows := rows) (nx := nx) (base := rbB rows s) c
  have hsucc : lvD rows nx (rbB rows s) (c + 1) = lvD rows nx (rbB rows s) c ++ (lvF rows nx (rbB rows s) (lvD rows nx (rbB rows s) c) c).map fun m => (m, c + 1) := rfl
  have l24 := lv_len (rows := rows) (nx := nx) (base := rbB rows s) (c + 1)
  have hfin : lvF rows nx (rbB rows s) (lvD rows nx (rbB rows s) c) c = [] → Dist rows nx (rbB rows s) (lvD rows nx (rbB rows s) c) := dist_of
  generalize hF : lvF rows nx (rbB rows s) (lvD rows nx (rbB rows s) c) c = F at *
  generalize hL : lvD rows nx (rbB rows s) c = L at *
  refine ⟨_, rfl, _, seqOf_lst hf2, ?_⟩
  cases F with
  | nil => exact goF ⟨_, rfl, q d L S2 sg2 nd hd2 (hfin rfl)⟩
  | cons m0 F0 =>
    generalize hFF : m0 :: F0 = F at *
    have hne : (intsD F).isEmpty = false := by rw [← hFF]; rfl
    rw [hne]
    refine goT ?_
    have fd : f ≠ d := fun z => by rw [z, hd2] at hf2; cases hf2
    refine ⟨_, rfl, _, ⟨_, hf2, rfl⟩, fun i env S' => i ≤ F.length ∧ ∃ x6 : Option D, env = [some (tripsD rows), some (.dct kvs), some (stD s), some (.ref d), some (.int ((c + 1 : Nat) : Int)), some (.ref f), x6, none] ∧ SG S S' ∧ S' f = some (.lst (intsD F)) ∧ S' d = some (.dK (kvD (L ++ (F.take i).map fun m => (m, c + 1)))), ⟨Nat.zero_le _, _, rfl, sg2, hf2, by rw [hd2]; show _ = some (Ob.dK (kvD (L ++ []))); rw [List.append_nil]⟩, fun i env S' _ h => ?_, ?_, ?_⟩
    · obtain ⟨_, _, _, _, h, _⟩ := h
      exact h
    · rintro i e env S3 he ⟨hi0, x6, rfl, sg3, hf3, hd3⟩
      have he : (intsD F)[i]? = some e := he
      unfold intsD at he
      rw [List.getElem?_map] at he
      obtain ⟨m, hm, rfl⟩ := Option.map_eq_some_iff.mp he
      have hi := (List.getElem?_eq_some_iff.mp hm).1
      have tk := take_map hm
      refine ⟨_, rfl, _, rfl, _, rfl, d, _, Sum.inl m, rfl, rfl, hd3, ?_, hi, _, rfl, SG.keepP nd sg3 (.refl _), (Sto.ne fd).trans hf3, ?_⟩
      · unfold kvD
        rw [List.length_map, List.length_append, List.length_map, List.length_take]
        rw [hsucc, List.length_append, List.length_map] at l24
        omega
      · rw [Sto.same, kv_new, tk, List.map_append, List.append_assoc]
        · rfl
        · rw [List.map_append, List.map_map]
          intro z
          rcases List.mem_append.mp z with z | z
          · obtain ⟨⟨m', n'⟩, h1, e⟩ := List.mem_map.mp z
            have e : m' = m := e
            subst e
            have h2 := (lm1 _ _).mp h1
            have h3 := (lm2 m').mp (List.mem_of_getElem? hm)
            have := h2.2.unique h3
            omega
          · obtain ⟨m', h1, e⟩ := List.mem_map.mp z
            have e : m' = m := e
            subst e
            obtain ⟨j, hj⟩ := List.getElem?_of_mem h1
            rw [List.getElem?_take] at hj
            split at hj
            · rename_i hji
              obtain ⟨g1, g2⟩ := List.getElem?_eq_some_iff.mp hj
              obtain ⟨g3, g4⟩ := List.getElem?_eq_some_iff.mp hm
              have := (List.getElem_inj (h₀ := g1) (h₁ := g3) fnd).mp (g2.trans g4.symm)
              omega
            · cases hj
    · rintro env S3 ⟨hi0, x6, rfl, sg3, hf3, hd3⟩
      have hd3 : S3 d = some (.dK (kvD (L ++ (F.take (intsD F).length).map fun m => (m, c + 1)))) := hd3
      rw [intsD_len, List.take_length, ← hsucc] at hd3
      refine ⟨_, rfl, ?_⟩
      refine ⟨_, rfl, _, rfl, lc_mapE (recvL rows) D.int (trips_keys rows) (fun m => if (!decide (m ∈ (lvD rows nx (rbB rows s) (c + 1)).map (·.1)) && ((nxG rows nx m).map fun t => decide (t ∈ (lvD rows nx (rbB rows s) (c + 1)).map (·.1))).any id) = true then some (D.int m) else none) (by omega) (fun _ _ => True.intro) (fun m hm S4 sg4 K Kn hk hn => turn_n ?_) fun f' S4 nf' sg4 hf' => ?_⟩
      · have hd4 := sg4 _ _ (fun z => z) hd3
        obtain ⟨l, hl1, hl2⟩ := hS m hm
        have hl4 := sg4 _ _ (fun z => z) (sg3 _ _ (fun z => z) hl2)
        refine ⟨_, rfl, _, rfl, _, Sum.inl m, dictOf_ref hd4, rfl, _, rfl, ?_⟩
        rw [kv_in, xor_tt]
        refine iteB (fun e1 => ?_) (fun e1 => ?_)
        · refine ⟨_, rfl, _, rfl, _, Sum.inl m, _, rfl, rfl, hl1, _, ⟨_, hl4, rfl⟩, lc_mapE (nxG rows nx m) D.int rfl (fun t => some (D.bl (decide (t ∈ (lvD rows nx (rbB rows s) (c + 1)).map (·.1))))) (by have := nxG_len rows nx m; omega) (fun S' sg => sg _ _ (fun z => z) hl4) (fun t ht S5 sg5 K' Kn' hk' _ => turn_y ⟨_, rfl, _, rfl, _, Sum.inl t, dictOf_ref (sg5 _ _ (fun z => z) hd4), rfl, ?_⟩) fun b S5 nb sg5 hb => ?_⟩
          · rw [kv_in, xor_ff]
            exact hk' _ rfl _ (.refl _)
          · rw [fm_map] at hb
            refine ⟨b, (nxG rows nx m).map fun t => decide (t ∈ (lvD rows nx (rbB rows s) (c + 1)).map (·.1)), rfl, by rw [hb, List.map_map]; rfl, _, rfl, iteB (fun e2 => ?_) (fun e2 => ?_)⟩
            · exact ⟨_, rfl, hk _ (if_pos (by rw [e1, Bool.true_and]; exact e2)) _ sg5⟩
            · refine hn ?_ _ sg5
              have e2 : (((nxG rows nx m).map fun t => decide (t ∈ (lvD rows nx (rbB rows s) (c + 1)).map (·.1))).any id) = false := e2
              show (if _ = true then _ else _) = _
              rw [e2, Bool.and_false]
              rfl
        · refine hn ?_ _ (.refl _)
          show (if _ = true then _ else _) = _
          rw [e1, Bool.false_and]
          rfl
      · rw [fm_iteB] at hf'
        have ec : ¬ (c + 1 = 0) := by omega
        refine ⟨24 - (lvD rows nx (rbB rows s) (c + 1)).length, ?_, c + 1, f', _, rfl, sg3.trans sg4, sg4 _ _ (fun z => z) hd3, ?_, rfl⟩
        · rw [hsucc, List.length_append, List.length_map] at l24 ⊢
          have : 0 < F.length := by rw [← hFF]; exact Nat.succ_pos _
          omega
        · rw [hf']
          unfold lvF
          rw [if_neg ec]
          rfl
end Sv
set_option maxHeartbeats 400000
set_option autoImplicit false
namespace Sv
open PySem PySem.Spec PyProof.Rows L2
def dOfC (L : List (Int × Nat)) (m : Int) : Int := match getD' (kvD L) (Sum.inl m) with
  | some (.int i) => i
  | _ => 0
theorem dOf_at {L : List (Int × Nat)} (nd : (L.map (·.1)).Nodup) {m : Int} {n : Nat} (h : (m, n) ∈ L) : dOfC L m = (n : Int) := by
  unfold dOfC
  rw [kv_get nd h]
theorem w_nearest {cs : List Int} {L : List (Int × Nat)} {c : Addr} {S : Sto} {R : DK} (hc : S c = some (.lst (intsD cs))) (hne : cs ≠ []) (hl : cs.length ≤ 100000) (nd : (L.map (·.1)).Nodup) (hin : ∀ m ∈ cs, ∃ n, (m, n) ∈ L)
    (q : ∀ m n S', SG S S' → m ∈ cs → (m, n) ∈ L → (∀ m' ∈ cs, ∀ n', (m', n') ∈ L → n < n' ∨ (n = n' ∧ m ≤ m')) → R (.int m) S') : dFn 3 B_nearest_cc72 [.ref c, .dct (kvD L)] S R := by
  refine ⟨_, rfl, _, ⟨_, hc, rfl⟩, lc_mapE cs D.int rfl (fun m => some (pairD (dOfC L m, m))) hl (fun S' sg => sg _ _ (fun z => z) hc) (fun m hm S1 sg K Kn hk _ => ?_) fun a S1 na sg ha => ?_⟩
  · obtain ⟨n, hn⟩ := hin m hm
    refine turn_y ⟨_, rfl, _, rfl, _, Sum.inl m, _, rfl, rfl, kv_get nd hn, _, rfl, rfl, hk _ ?_ _ (.refl _)⟩
    show some (pairD (dOfC L m, m)) = _
    rw [dOf_at nd hn]
    rfl
  · have e : (cs.filterMap fun m => some (pairD (dOfC L m, m))) = (cs.map fun m => (dOfC L m, m)).map pairD := by
      rw [fm_map, List.map_map]
      rfl
    rw [e] at ha
    dsimp only [dNil]
    refine w_minP ha (fun z => hne (List.map_eq_nil_iff.mp z)) fun x hx hmin => ?_
    obtain ⟨m, hm, rfl⟩ := List.mem_map.mp hx
    obtain ⟨n, hn⟩ := hin m hm
    refine ⟨_, 1, _, rfl, rfl, rfl, q m n S1 sg hm hn fun m' hm' n' hn' => ?_⟩
    have := hmin _ (List.mem_map.mpr ⟨m', hm', rfl⟩)
    rw [dOf_at nd hn, dOf_at nd hn', ltP_not] at this
    have e1 : (n : Int) < (n' : Int) ∨ ((n : Int) = (n' : Int) ∧ m ≤ m') := this
    omega
def zzD : Option (List Int) → D
  | none => .non
  | some ms => .tup (intsD ms)
open Classical in
/-- the shortest zigzag -/
noncomputable def zzF (rows : List (List Int)) (s t : Nat × Nat) : Option (List Int) := if h : ∃ o, FindZ rows s t o then Classical.choose h else none
theorem zzF_eq {rows : List (List Int)} {s t : Nat × Nat} {o : Option (List Int)} (h : FindZ rows s t o) : zzF rows s t = o := by
  have e : ∃ o, FindZ rows s t o := ⟨o, h⟩
  unfold zzF
  rw [dif_pos e]
  exact (Classical.choose_spec e).unique h
theorem w_find {rows : List (List Int)} {many most : Nat} {s t : Nat × Nat} {S : Sto} {R : DK} (hG : Good many most rows) (h6 : many ≤ 6) (h60 : most ≤ 60)
    (q : ∀ S', SG S S' → FindZ rows s t (zzF rows s t) → R (zzD (zzF rows s t)) S') : dFn 10 B_find_zigzag_09d6 [.tup (rowsD rows), stD s, stD t] S R := by
  have q : ∀ o S', SG S S' → FindZ rows s t o → R (zzD o) S' := fun o S' sg h => by
    have := q S' sg
    rw [zzF_eq h] at this
    exact this h
  refine ⟨_, rfl, rfl, w_trips hG h6 h60 fun S1 sg1 => ⟨_, rfl, rfl, w_steps hG fun kvs S2 sg2 hS => ⟨_, rfl, _, rfl, _, rfl, rfl, w_dists (s := t) hG hS fun d L S3 sg3 nd hd hD => ⟨d, kvD L, rfl, hd, ?_⟩⟩⟩⟩
  have sg4 : SG S (S3.rem d) := (sg1.trans sg2).trans (SG.rem sg3 nd)
  have hS4 : StepsAt (S3.rem d) kvs rows (stepB rows) := hS.keep (SG.rem sg3 nd)
  generalize S3.rem d = S4 at sg4 hS4 ⊢
  have hkeys : (kvD L).map (fun kv => kD kv.1) = (L.map (·.1)).map D.int := by
    unfold kvD
    rw [List.map_map, List.map_map]
    rfl
  have hlen := hD.len
  have hrecv : ∀ m ∈ L.map (·.1), m ∈ recvL rows := fun m hm => by
    obtain ⟨⟨m', n⟩, h1, rfl⟩ := List.mem_map.mp hm
    exact ((hD.mem _ _).mp h1).1.mem
  have hdist : ∀ m ∈ L.map (·.1), ∃ n, (m, n) ∈ L := fun m hm => by
    obtain ⟨⟨m', n⟩, h1, rfl⟩ := List.mem_map.mp hm
    exact ⟨n, h1⟩
  refine ⟨_, rfl, _, rfl, lc_mapE (L.map (·.1)) D.int hkeys (fun m => if sbB rows m s = true then some (D.int m) else none) (by rw [List.length_map]; omega) (fun _ _ => True.intro) (fun m hm S5 sg K Kn hk hn => turn_n ⟨_, rfl, _, rfl, _, Sum.inl m, _, rfl, rfl, trips_get (hrecv m hm), _, rfl, rfl, w_sbM hG (hrecv m hm) ⟨_, rfl, iteB (fun e => ⟨_, rfl, hk _ (if_pos e) _ (.refl _)⟩) (fun e => hn ?_ _ (.refl _))⟩⟩) fun c S5 nc sg5 hc => ?_⟩
  · have e : sbB rows m s = false := e
    show (if sbB rows m s = true then _ else _) = _
    rw [e]
    rfl
  rw [fm_iteB] at hc
  have hc : S5 c = some (.lst (intsD ((L.map (·.1)).filter fun m => sbB rows m s))) := hc
  have sg05 := sg4.trans sg5
  have hS5 := hS4.keep sg5
  have hcl : ((L.map (·.1)).filter fun m => sbB rows m s).length ≤ 24 := Nat.le_trans (List.length_filter_le ..) (by rw [List.length_map]; exact hlen)
  have hcm : ∀ m, m ∈ ((L.map (·.1)).filter fun m => sbB rows m s) ↔ m ∈ L.map (·.1) ∧ sbB rows m s = true := fun m => List.mem_filter
  generalize ((L.map (·.1)).filter fun m => sbB rows m s) = cs at hc hcl hcm
  refine ⟨_, rfl, _, seqOf_lst hc, ?_⟩
  by_cases hcs : cs = []
  · subst hcs
    refine goT (q none S5 sg05 (find_none hD fun m n hm => ?_))
    have this : ¬ (m ∈ L.map (·.1) ∧ sbB rows m s = true) := fun z => nomatch (hcm m).mpr z
    cases hb : sbB rows m s
    · rfl
    · exact absurd ⟨List.mem_map.mpr ⟨_, hm, rfl⟩, hb⟩ this
  have hne : (intsD cs).isEmpty = false := by
    obtain ⟨a, b, rfl⟩ := List.exists_cons_of_ne_nil hcs
    rfl
  rw [hne]
  refine goF ?_
  refine ⟨_, rfl, _, rfl, rfl, w_nearest hc hcs (by omega) hD.nd (fun m hm => hdist m ((hcm m).mp hm).1) fun m n S6 sg6 hm hmn hmin => ⟨rfl, fun z nz => ?_⟩⟩
  have sgz : SG S6 (S6.put z (.lst [.int m])) := .new nz
  have nzS : S5 z = none := SG.none' sg6 nz
  have sg7 : SG S5 (S6.put z (.lst [.int m])) := sg6.trans sgz
  have hz7 : (S6.put z (.lst [.int m])) z = some (.lst (intsD ([] ++ [m]))) := Sto.same
  generalize S6.put z (.lst [.int m]) = S7 at sgz sg7 hz7 ⊢
  have hle := (hD.mem _ _).mp hmn
  have hzk : ∀ l, Best rows (stepB rows) (rbB rows t) n m l → FindZ rows s t (some ([] ++ l)) := fun l hb => find_some hD ((hcm m).mp hm).2 hb fun m' n' hm' hs' => hmin m' ((hcm m').mpr ⟨List.mem_map.mpr ⟨_, hm', rfl⟩, hs'⟩) n' hm'
  dsimp only
  refine ⟨fun k env S' => ∃ (ms : List Int) (m : Int) (n : Nat) (x6 x8 x9 : Option D), env = [some (.tup (rowsD rows)), some (stD s), some (stD t), some (tripsD rows), some (.dct kvs), some (.dct (kvD L)), x6, some (.ref z), x8, x9] ∧ SG S5 S' ∧ S' z = some (.lst (intsD (ms ++ [m]))) ∧ (m, n) ∈ L ∧ (∀ l, Best rows (stepB rows) (rbB rows t) n m l → FindZ rows s t (some (ms ++ l))) ∧ ms.length + n ≤ 24 ∧ k = n, ⟨n, [], m, n, _, _, _, rfl, sg7, hz7, hmn, hzk, by have := hle.le24 hD; show 0 + n ≤ 24; omega, rfl⟩, ?_⟩
  clear hzk hle hmin hmn hm hz7 sg7 sgz nz sg6 m n S6 S7
  rintro k env S7 ⟨ms, m, n, x6, x8, x9, rfl, sg7, hz7, hmn, hzk, hbd, rfl⟩
  have hS7 := hS5.keep sg7
  have hle := (hD.mem _ _).mp hmn
  have hlast : atI (intsD (ms ++ [m])) (-1) = some (.int m) := by
    unfold intsD
    rw [List.map_append]
    exact atI_last
  refine ⟨_, rfl, _, rfl, _, (-1), _, seqOf_lst hz7, rfl, hlast, _, Sum.inl m, _, rfl, rfl, kv_get hD.nd hmn, _, rfl, iteB (fun e => ?_) (fun e => ?_)⟩
  · have e : (1 : Int) < (k : Int) := of_decide_eq_true e
    obtain ⟨l, hl1, hl2⟩ := hS7 m hle.1.mem
    refine ⟨_, rfl, _, rfl, _, (-1), _, seqOf_lst hz7, rfl, hlast, _, Sum.inl m, _, rfl, rfl, hl1, _, ⟨_, hl2, rfl⟩, ?_⟩
    have gl := nxG_len rows (stepB rows) m
    have gm : ∀ t', t' ∈ nxG rows (stepB rows) m ↔ t' ∈ recvL rows ∧ stepB rows m t' = true := fun t' => List.mem_filter
    generalize nxG rows (stepB rows) m = G at hl2 gl gm
    refine lc_mapE G D.int rfl (fun t' => if decide (t' ∈ L.map (·.1)) = true then some (D.int t') else none) (by omega) (fun S' sg => sg _ _ (fun z => z) hl2) (fun t' ht S8 sg8 K Kn hk hn => turn_n ⟨_, rfl, _, rfl, _, Sum.inl t', rfl, rfl, _, rfl, ?_⟩) fun c S8 nc sg8 hc => ?_
    · rw [kv_in, xor_ff]
      refine iteB (fun e => ⟨_, rfl, hk _ (if_pos e) _ (.refl _)⟩) (fun e => hn ?_ _ (.refl _))
      have e : decide (t' ∈ L.map (·.1)) = false := e
      show (if decide (t' ∈ L.map (·.1)) = true then _ else _) = _
      rw [e]
      rfl
    rw [fm_iteB] at hc
    have hc : S8 c = some (.lst (intsD (G.filter fun t' => decide (t' ∈ L.map (·.1))))) := hc
    have hcm : ∀ t', t' ∈ (G.filter fun t' => decide (t' ∈ L.map (·.1))) ↔ t' ∈ G ∧ t' ∈ L.map (·.1) := fun t' => by rw [List.mem_filter, decide_eq_true_iff]
    have hcl : (G.filter fun t' => decide (t' ∈ L.map (·.1))).length ≤ 24 := Nat.le_trans (List.length_filter_le ..) gl
    generalize (G.filter fun t' => decide (t' ∈ L.map (·.1))) = cs at hc hcl hcm
    obtain ⟨k, rfl⟩ : ∃ k', k = k' + 1 := ⟨k - 1, by omega⟩
    obtain ⟨t0, ht0, hlt⟩ := hle.prev (by omega)
    have ht0c : t0 ∈ cs := (hcm t0).mpr ⟨(gm t0).mpr ⟨hlt.1.mem, ht0⟩, List.mem_map.mpr ⟨_, (hD.mem _ _).mpr hlt, rfl⟩⟩
    have hz8 := sg8 _ _ (fun z => z) hz7
    refine ⟨_, rfl, ⟨rfl, _, seqOf_lst hz8, noTup _⟩, _, rfl, _, rfl, rfl, w_nearest hc (fun z => by rw [z] at ht0c; exact nomatch ht0c) (by omega) hD.nd (fun m hm => hdist m ((hcm m).mp hm).2) fun m' n' S9 sg9 hm' hmn' hmin' => ?_⟩
    have hle' := (hD.mem _ _).mp hmn'
    have hst := ((gm m').mp ((hcm m').mp hm').1).2
    have en : n' = k := by
      have h1 := hmin' t0 ht0c k ((hD.mem _ _).mpr hlt)
      have h2 : ¬ n' < k := fun z => hle.2 (n' + 1) (by omega) (.step hle.1.mem hst hle'.1)
      omega
    subst en
    refine ⟨z, _, _, rfl, rfl, sg9 _ _ (fun z => z) hz8, ?_, ?_⟩
    · rw [intsD_len, List.length_append, List.length_singleton]
      omega
    · refine ⟨n', by omega, ms ++ [m], m', n', _, _, _, rfl, SG.keepP nzS sg7 (sg8.trans sg9), ?_, hmn', fun l hb => ?_, ?_, rfl⟩
      · rw [Sto.same]
        unfold intsD
        rw [List.map_append (l₁ := ms ++ [m])]
        rfl
      · rw [List.append_assoc]
        refine hzk (m :: l) (.step hle hst (fun t' h1 h2 => ?_) hb)
        have h3 := hmin' t' ((hcm t').mpr ⟨(gm t').mpr ⟨h2.1.mem, h1⟩, List.mem_map.mpr ⟨_, (hD.mem _ _).mpr h2, rfl⟩⟩) n' ((hD.mem _ _).mpr h2)
        omega
      · rw [List.length_append, List.length_singleton]
        omega
  · have e : ¬ (1 : Int) < (k : Int) := of_decide_eq_false e
    have := hle.1.pos
    obtain rfl : k = 1 := by omega
    exact ⟨_, rfl, _, _, rfl, seqOf_lst hz7, fun ys z => (nomatch z), q (some (ms ++ [m])) S7 (sg05.trans sg7) (hzk [m] (.one hle))⟩
end Sv
set_option maxHeartbeats 400000
set_option autoImplicit false
namespace Sv
open PySem PySem.Spec PyProof.Rows L2
theorem up_inv {rows : List (List Int)} {many most : Nat} (hG : Good many most rows) (h6 : many ≤ 6) (h60 : most ≤ 60) (low : List Nat) (P : List Nat → Prop) (h0 : P low)
    (step : ∀ (cs : List Nat), P cs → ∀ {m : Int} {p k p' k' c c' : Nat}, 0 < m → hap rows m = some (p, k) → hap rows (0 - m) = some (p', k') → cs[p]? = some c → cs[p']? = some c' → k' < c' → c ≤ k → P (cs.set p (k + 1))) : P (upL rows low) := by
  have hs := fun e => hG.hapS h6 h60 e
  have go : ∀ (n : Nat) (cs : List Nat), capS cs ≤ n → Up rows low cs → P cs → ∃ cs, IsUp rows low cs ∧ P cs := by
    intro n
    induction n with
    | zero =>
      intro cs hs' hd hP
      refine ⟨cs, ⟨hd, fun m p k p' k' c c' hm h1 h2 h3 h4 h5 => ?_⟩, hP⟩
      have := capS_set (k := k + 1) h3
      have := (hs _ _ _ h1).2
      omega
    | succ n ih =>
      intro cs hs' hd hP
      refine Classical.byContradiction fun no => no ⟨cs, ⟨hd, fun m p k p' k' c c' hm h1 h2 h3 h4 h5 => Classical.byContradiction fun h6 => no (ih (cs.set p (k + 1)) ?_ (hd.step hm h1 h2 h3 h4 h5 (by omega)) (step cs hP hm h1 h2 h3 h4 h5 (by omega)))⟩, hP⟩
      have := capS_set (k := k + 1) h3
      have := (hs _ _ _ h1).2
      omega
  obtain ⟨cs, h1, h2⟩ := go _ low (Nat.le_refl _) (.start rows low) h0
  rw [(up_is hG h6 h60 low).unique h1]
  exact h2
theorem low_val : ∀ {ss : List (Nat × Nat)} {l : List Nat} {p x : Nat}, (ss.foldl lowS l)[p]? = some x → l[p]? = some x ∨ ∃ t ∈ ss, t.1 = p ∧ t.2 = x
  | [], l, p, x, h => .inl h
  | s :: ss, l, p, x, h => by
    rw [List.foldl_cons] at h
    rcases low_val h with h' | ⟨t, h1, h2⟩
    · unfold lowS at h'
      rw [List.getElem?_set] at h'
      split at h'
      · rename_i e
        subst e
        split at h'
        · rename_i hl
          have e := Option.some.inj h'
          have hx := List.getElem?_eq_getElem hl
          rw [getD_of hx] at e
          rcases Nat.le_total l[s.1] s.2 with z | z
          · exact .inr ⟨s, List.mem_cons_self, rfl, by omega⟩
          · exact .inl (by rw [hx]; congr 1; omega)
        · cases h'
      · exact .inl h'
    · exact .inr ⟨t, List.mem_cons_of_mem _ h1, h2⟩
theorem sb_iff {rows : List (List Int)} {s : Nat × Nat} {m : Int} : sbB rows m s = true ↔ ∃ k, hap rows m = some (s.1, k) ∧ s.2 ≤ k := by
  unfold sbB
  constructor
  · intro h
    split at h
    · rename_i p k e
      rw [Bool.and_eq_true, decide_eq_true_iff, decide_eq_true_iff] at h
      exact ⟨k, by rw [e, h.1], h.2⟩
    · cases h
  · rintro ⟨k, h1, h2⟩
    rw [h1]
    show (decide (s.1 = s.1) && decide (s.2 ≤ k)) = true
    rw [decide_eq_true rfl, decide_eq_true h2]
    rfl
theorem Zk.earlier {rows : List (List Int)} {t : Nat × Nat} {p j k : Nat} : ∀ {ms : List Int}, Zk rows (p, k) t ms → j ≤ k → Zk rows (p, j) t ms
  | [], ⟨h1, h2⟩, hj => ⟨h1, Nat.lt_of_le_of_lt hj h2⟩
  | m :: ms, ⟨h1, h2, h3⟩, hj => by
    obtain ⟨k2, h4, h5⟩ := sb_iff.mp h2
    exact ⟨h1, sb_iff.mpr ⟨k2, h4, Nat.le_trans hj h5⟩, h3⟩
theorem recv_pos {rows : List (List Int)} {m : Int} (h : m ∈ recvL rows) : 0 < m := by
  have := names_mem.mp (List.mem_filter.mp h).1
  omega
/-- no zigzag crosses a consistent line -/
theorem thru_no {rows : List (List Int)} {L : List Nat} {t : Nat × Nat} (hl : L.length = rows.length) (hL : ConsL rows L) (ht : L[t.1]? = some t.2) : ∀ {ms : List Int} {u : Nat × Nat}, Zk rows u t ms → ∀ x, L[u.1]? = some x → x ≤ u.2 → False
  | [], u, ⟨h1, h2⟩, x, hx, hle => by
    rw [h1, ht] at hx
    have := Option.some.inj hx
    omega
  | m :: ms, u, ⟨h1, h2, v, h3, h4⟩, x, hx, hle => by
    obtain ⟨k, h5, h6⟩ := sb_iff.mp h2
    have hv : v.1 < L.length := by rw [hl]; exact Good.hap_lt h3
    have hy := List.getElem?_eq_getElem hv
    refine thru_no hl hL ht h4 _ hy ?_
    rcases Nat.lt_or_ge v.2 L[v.1] with z | z
    · have := hL m u.1 k v.1 v.2 x _ (recv_pos h1) h5 h3 hx hy z
      omega
    · exact z
theorem cons_prsC (rows : List (List Int)) : ConsL rows (prs rows) := fun m q k q' k' c c' hm h1 h2 h3 h4 h5 => by
  obtain ⟨row', hr', hk⟩ := hap_leC h1
  rw [prsA hr'] at h3
  cases h3
  omega
/-- states of different processes -/
structure Ch (rows : List (List Int)) (ss : List (Nat × Nat)) : Prop where
  lt : ∀ s ∈ ss, s.1 < rows.length
  le : ∀ s ∈ ss, ∀ x, (prs rows)[s.1]? = some x → s.2 ≤ x
  one : ∀ s ∈ ss, ∀ t ∈ ss, s.1 = t.1 → s = t
theorem dual {rows : List (List Int)} {many most : Nat} (hG : Good many most rows) (h6 : many ≤ 6) (h60 : most ≤ 60) {ss : List (Nat × Nat)} (hc : Ch rows ss) : (∃ L, Thru rows ss L) ↔ ∀ s ∈ ss, ∀ t ∈ ss, ∀ ms, ¬ Zz rows s t ms := by
  constructor
  · rintro ⟨L, hL⟩ s hs t ht ms ⟨_, hz⟩
    exact thru_no hL.len hL.cons (hL.on t ht) hz _ (hL.on s hs) (Nat.le_refl _)
  · intro h
    rw [thru_up hG h6 h60 hc.lt]
    have u := up_is hG h6 h60 (lowL rows ss)
    have ul : (upL rows (lowL rows ss)).length = rows.length := u.len.trans (lowL_len rows ss)
    have lowv : ∀ p x, (lowL rows ss)[p]? = some x → x = 0 ∨ ∃ t ∈ ss, t.1 = p ∧ t.2 = x := fun p x hx => by
      rcases low_val hx with z | z
      · obtain ⟨_, e⟩ := List.getElem?_eq_some_iff.mp z
        rw [List.getElem_replicate] at e
        exact .inl e.symm
      · exact .inr z
    have inv : ∀ p c lw, (upL rows (lowL rows ss))[p]? = some c → (lowL rows ss)[p]? = some lw → lw < c → ∃ t ∈ ss, ∃ ms, Zz rows (p, c - 1) t ms := by
      have := up_inv hG h6 h60 (lowL rows ss) (fun cs => cs.length = rows.length ∧ ∀ p c lw, cs[p]? = some c → (lowL rows ss)[p]? = some lw → lw < c → ∃ t ∈ ss, ∃ ms, Zz rows (p, c - 1) t ms) ⟨lowL_len rows ss, fun p c lw h1 h2 h3 => by
        rw [h1] at h2
        have := Option.some.inj h2
        omega⟩ ?_
      · exact this.2
      · rintro cs ⟨hl, hI⟩ m p k p' k' c c' hm h1 h2 h3 h4 h5 h6
        refine ⟨by rw [List.length_set]; exact hl, fun q d lw g1 g2 g3 => ?_⟩
        rw [List.getElem?_set] at g1
        split at g1
        · rename_i e
          subst e
          split at g1
          · have e := Option.some.inj g1
            subst e
            have hp' : p' < (lowL rows ss).length := by rw [lowL_len]; exact Good.hap_lt h2
            have hlw := List.getElem?_eq_getElem hp'
            have hmr := hG.recv_mem hm h2
            have hsb : sbB rows m (p, k + 1 - 1) = true := sb_iff.mpr ⟨k, h1, by show k + 1 - 1 ≤ k; omega⟩
            by_cases z : (lowL rows ss)[p'] < c'
            · obtain ⟨t, ht, ms, hne, hz⟩ := hI p' c' _ h4 hlw z
              exact ⟨t, ht, m :: ms, by simp, hmr, hsb, _, h2, hz.earlier (by omega)⟩
            · rcases lowv _ _ hlw with y | ⟨t, ht, y1, y2⟩
              · omega
              · exact ⟨t, ht, [m], by simp, hmr, hsb, _, h2, y1.symm, by show k' < t.2; omega⟩
          · cases g1
        · exact hI q d lw g1 g2 g3
    have hp : LeL (upL rows (lowL rows ss)) (prs rows) := u.bot (prs rows) (by rw [prs_len, lowL_len]) ((lowL_le (prs_len rows) hc.lt).mpr hc.le) (cons_prsC rows)
    refine (highL_le ul hc.lt).mpr ⟨hp, fun s hs x hx => ?_⟩
    have hsl : s.1 < (lowL rows ss).length := by rw [lowL_len]; exact hc.lt s hs
    have hlw := List.getElem?_eq_getElem hsl
    have el : (lowL rows ss)[s.1] ≤ s.2 := by
      rcases lowv _ _ hlw with z | ⟨t, ht, z1, z2⟩
      · omega
      · have e := hc.one s hs t ht z1.symm
        rw [← z2, ← e]
        exact Nat.le_refl _
    refine Classical.byContradiction fun z => ?_
    obtain ⟨t, ht, ms, hne, hz⟩ := inv s.1 x _ hx hlw (by omega)
    exact h s hs t ht ms ⟨hne, hz.earlier (j := s.2) (by omega)⟩
end Sv
set_option maxHeartbeats 400000
set_option autoImplicit false
namespace Sv
open PySem PySem.Spec PyProof.Rows L2
def chD (ss : List (Nat × Nat)) : D := .tup (ss.map stD)
def chX (i n : Nat) (cs : List (List (Nat × Nat))) : List (List (Nat × Nat)) := cs.flatMap fun c => (List.range n).map fun k => c ++ [(i, k)]
def chU (rows : List (List Int)) : Nat → List (List (Nat × Nat))
  | 0 => [[]]
  | i + 1 => chU rows i ++ chX i ((rows.getD i []).count 0 + 2) (chU rows i)
theorem chX_len {i n B : Nat} (h : n ≤ B) (cs : List (List (Nat × Nat))) : (chX i n cs).length ≤ cs.length * B := flat_le _ B cs fun c _ => by rw [List.length_map, List.length_range]; exact h
theorem chU_len {rows : List (List Int)} {B : Nat} (h : ∀ r ∈ rows, r.count 0 + 3 ≤ B) (h2 : 3 ≤ B) : ∀ i, (chU rows i).length ≤ B ^ i
  | 0 => Nat.le_refl _
  | i + 1 => by
    have ih := chU_len h h2 i
    have hc : (rows.getD i []).count 0 + 2 ≤ B - 1 := by
      have := getD_count (B := B - 1) (fun r hr => by have := h r hr; omega) (by omega) i
      exact this
    have h3 := chX_len (i := i) hc (chU rows i)
    show (chU rows i ++ _).length ≤ _
    rw [List.length_append, Nat.pow_succ]
    have h4 : (chU rows i).length * (B - 1) + (chU rows i).length = (chU rows i).length * B := by
      rw [← Nat.mul_succ]
      congr 1
      omega
    have h5 := Nat.mul_le_mul_right B ih
    omega
/-- not too many choices -/
def Wc (rows : List (List Int)) : Prop := ∃ B, 3 ≤ B ∧ B ≤ 1000 ∧ (∀ r ∈ rows, r.count 0 + 3 ≤ B) ∧ B ^ rows.length ≤ 70000
theorem Wc.of {a b : Nat} {rows : List (List Int)} (hG : Good a b rows) (hb : b ≤ 60) (h : (b + 3) ^ a ≤ 70000) : Wc rows := by
  refine ⟨b + 3, by omega, by omega, fun r hr => ?_, ?_⟩
  · obtain ⟨i, hi⟩ := List.getElem?_of_mem hr
    have h1 := (hG.row hi).1
    have h2 : r.count 0 ≤ r.length := List.count_le_length ..
    omega
  · exact Nat.le_trans (Nat.pow_le_pow_right (by omega) hG.len.2) h
theorem Wc.len {rows : List (List Int)} (h : Wc rows) (i : Nat) (hi : i ≤ rows.length) : (chU rows i).length ≤ 70000 := by
  obtain ⟨B, h2, _, hc, hB⟩ := h
  exact Nat.le_trans (chU_len hc h2 i) (Nat.le_trans (Nat.pow_le_pow_right (by omega) hi) hB)
end Sv
set_option maxHeartbeats 400000
set_option autoImplicit false
namespace Sv
open PySem PySem.Spec PyProof.Rows L2
open Classical in
noncomputable def zzB (rows : List (List Int)) (s t : Nat × Nat) : Bool := decide (∃ ms, Zz rows s t ms)
theorem zzB_iff {rows : List (List Int)} {s t : Nat × Nat} : zzB rows s t = true ↔ ∃ ms, Zz rows s t ms := by
  classical
  unfold zzB
  exact decide_eq_true_iff
theorem zzB_of {rows : List (List Int)} {s t : Nat × Nat} {o : Option (List Int)} (h : FindZ rows s t o) : (!isNon (zzD o)) = zzB rows s t := by
  rw [Bool.eq_iff_iff, zzB_iff]
  cases o with
  | none => exact ⟨fun z => (nomatch z), fun ⟨ms, z⟩ => absurd z (h ms)⟩
  | some ms => exact ⟨fun _ => ⟨ms, h.1⟩, fun _ => rfl⟩
theorem Dk.off {st cl rs : Addr} {n : Nat} {S : Sto} (h : Dk st cl rs n S) {f : Addr} {l : List D} (hf : S f = some (.lst l)) (ht : ∀ d ∈ l, ∃ xs, d = .tup xs) : f ≠ st ∧ f ≠ cl ∧ f ≠ rs := by
  obtain ⟨a1, a2, a3, cs, ws, t, tn, c0, cw, hs, hc, hw⟩ := h
  have go : ∀ (a : Addr) (d : D) (r : List D), S a = some (.lst (d :: r)) → (∀ xs, d ≠ .tup xs) → f ≠ a := fun a d r ha hd z => by
    subst z
    rw [ha] at hf
    cases hf
    obtain ⟨xs, e⟩ := ht d List.mem_cons_self
    exact hd xs e
  refine ⟨go _ _ _ hs (fun xs z => (nomatch z)), ?_, ?_⟩
  · obtain ⟨c, r, rfl⟩ := List.exists_cons_of_ne_nil (List.length_pos_iff.mp c0)
    exact go cl (.int c) (intsD r) hc (fun xs z => (nomatch z))
  · obtain ⟨c, r, rfl⟩ := List.exists_cons_of_ne_nil (List.length_pos_iff.mp (cw ▸ c0))
    exact go rs (.int c) (intsD r) hw (fun xs z => (nomatch z))
end Sv
set_option maxHeartbeats 400000
namespace Sv
open PySem L2
/-- the draws' state, at most n mixed draws so far -/
def Df (st big : Addr) (n : Nat) (S : Sto) : Prop := st ≠ big ∧ ∃ (bs : List Int) (a : Int) (t : Nat) (c : Int), t ≤ n ∧ S st = some (.lst [.ref big, .int a, .int (t : Int), .int c]) ∧ S big = some (.lst (intsD bs))
theorem Df.keepP {st big : Addr} {n : Nat} {S S' : Sto} {P : Addr → Prop} (h : Df st big n S) (k : SK P S S') (n1 : ¬ P st) (n2 : ¬ P big) : Df st big n S' := by
  obtain ⟨h1, bs, a, t, c, ht, h2, h3⟩ := h
  exact ⟨h1, bs, a, t, c, ht, k _ _ n1 h2, k _ _ n2 h3⟩
theorem Df.keep {st big : Addr} {n : Nat} {S S' : Sto} (h : Df st big n S) (k : SG S S') : Df st big n S' := h.keepP k (fun z => z) (fun z => z)
theorem Df.mono {st big : Addr} {n m : Nat} {S : Sto} (h : Df st big n S) (e : n ≤ m) : Df st big m S := by
  obtain ⟨h1, bs, a, t, c, ht, h2, h3⟩ := h
  exact ⟨h1, bs, a, t, c, by omega, h2, h3⟩
theorem Df.fresh {st big : Addr} {n : Nat} {S : Sto} (h : Df st big n S) {p : Addr} (z : S p = none) : p ≠ st ∧ p ≠ big := by
  obtain ⟨h1, bs, a, t, c, ht, h2, h3⟩ := h
  exact ⟨fun e => (by rw [e, h2] at z; cases z), fun e => (by rw [e, h3] at z; cases z)⟩
theorem Df.put {st big : Addr} {n : Nat} {S : Sto} (h : Df st big n S) {p : Addr} {o : Ob} (z : p ≠ st ∧ p ≠ big) : Df st big n (S.put p o) := by
  obtain ⟨h1, bs, a, t, c, ht, h2, h3⟩ := h
  exact ⟨h1, bs, a, t, c, ht, (Sto.ne (Ne.symm z.1)).trans h2, (Sto.ne (Ne.symm z.2)).trans h3⟩
theorem Df.free {st big : Addr} {n : Nat} {S0 S : Sto} (D : Df st big n S) (k : SK (DP st big) S0 S) {a : Addr} (z : S a = none) : S0 a = none := SK.free k z fun q => q.elim (D.fresh z).1 (D.fresh z).2
/-- a list whose items are tuples is none of the draws' own -/
theorem Df.off {st big : Addr} {n : Nat} {S : Sto} (h : Df st big n S) {p : Addr} {ds : List D} (e : S p = some (.lst ds)) (ht : ∀ d ∈ ds, ∃ xs, d = D.tup xs) (ne : ds ≠ []) : p ≠ st ∧ p ≠ big := by
  obtain ⟨h1, bs, a, t, c, _, h2, h3⟩ := h
  refine ⟨fun z => ?_, fun z => ?_⟩
  · subst z
    rw [h2] at e
    have e := (Ob.lst.inj (Option.some.inj e)).symm
    subst e
    obtain ⟨xs, hx⟩ := ht _ List.mem_cons_self
    cases hx
  · subst z
    rw [h3] at e
    have e := (Ob.lst.inj (Option.some.inj e)).symm
    subst e
    cases bs with
    | nil => exact ne rfl
    | cons b r =>
      obtain ⟨xs, hx⟩ := ht _ List.mem_cons_self
      cases hx
end Sv
set_option maxHeartbeats 1000000
namespace Sv
open PySem L2
structure RWf (S0 S : Sto) (st big r N W : Addr) (nm : List Int) (rows : List (List Int)) (o : List (Int × Int)) (u : Nat) : Prop where
  sk : SK (DP st big) S0 S
  hr : S r = some (.lst (rowsD rows))
  hN : S N = some (.lst (intsD (nm.drop u).reverse))
  hW : S W = some (.lst (o.map pairD))
theorem RWf.keep {S0 S S' : Sto} {st big r N W : Addr} {nm : List Int} {rows : List (List Int)} {o : List (Int × Int)} {u : Nat} (h : RWf S0 S st big r N W nm rows o u) (k : SK (DP st big) S S') (nd : ∀ a, a = r ∨ a = N ∨ a = W → a ≠ st ∧ a ≠ big) : RWf S0 S' st big r N W nm rows o u := by
  have nq : ∀ a, a = r ∨ a = N ∨ a = W → ¬ DP st big a := fun a ha => nDP (nd a ha)
  exact ⟨h.sk.trans k, k _ _ (nq _ (.inl rfl)) h.hr, k _ _ (nq _ (.inr (.inl rfl))) h.hN, k _ _ (nq _ (.inr (.inr rfl))) h.hW⟩
theorem RWf.keepG {S0 S S' : Sto} {st big r N W : Addr} {nm : List Int} {rows : List (List Int)} {o : List (Int × Int)} {u : Nat} (h : RWf S0 S st big r N W nm rows o u) (k : SG S S') : RWf S0 S' st big r N W nm rows o u :=
  ⟨h.sk.trans k.sk, k _ _ (fun z => z) h.hr, k _ _ (fun z => z) h.hN, k _ _ (fun z => z) h.hW⟩
end Sv
set_option maxHeartbeats 400000
set_option autoImplicit false
namespace Sv
open PySem PySem.Spec PyProof.Rows L2
def stB (rows : List (List Int)) : Int → List Int → Bool
  | _, [] => true
  | m, x :: r => stepB rows m x && stB rows x r
def lastI : Int → List Int → Int
  | m, [] => m
  | _, x :: r => lastI x r
theorem zk_mem {rows : List (List Int)} {t : Nat × Nat} : ∀ {ms : List Int} {s : Nat × Nat}, Zk rows s t ms → ∀ x ∈ ms, x ∈ recvL rows
  | [], _, _, x, hx => nomatch hx
  | m :: ms, s, ⟨h1, _, u, _, h4⟩, x, hx => by
    rcases List.mem_cons.mp hx with rfl | hx
    · exact h1
    · exact zk_mem h4 x hx
theorem zk_iff {rows : List (List Int)} {t : Nat × Nat} : ∀ {r : List Int} {m : Int} {s : Nat × Nat}, (∀ x ∈ m :: r, x ∈ recvL rows) → (Zk rows s t (m :: r) ↔ sbB rows m s = true ∧ stB rows m r = true ∧ rbB rows t (lastI m r) = true)
  | [], m, s, h => by
    constructor
    · rintro ⟨h1, h2, u, h3, h4⟩
      exact ⟨h2, rfl, (rb_iff h3).mpr h4⟩
    · rintro ⟨h2, _, h4⟩
      obtain ⟨u, hu⟩ := recv_hap (h m List.mem_cons_self)
      exact ⟨h m List.mem_cons_self, h2, u, hu, (rb_iff hu).mp h4⟩
  | x :: r, m, s, h => by
    have ih := fun u => zk_iff (t := t) (r := r) (m := x) (s := u) fun y hy => h y (List.mem_cons_of_mem _ hy)
    obtain ⟨u, hu⟩ := recv_hap (h m List.mem_cons_self)
    have e : stB rows m (x :: r) = (sbB rows x u && stB rows x r) := by
      show (stepB rows m x && stB rows x r) = _
      rw [step_at hu]
    rw [e, Bool.and_eq_true]
    constructor
    · rintro ⟨h1, h2, v, h3, h4⟩
      rw [hu] at h3
      obtain rfl := Option.some.inj h3
      obtain ⟨a, b, c⟩ := (ih u).mp h4
      exact ⟨h2, ⟨a, b⟩, c⟩
    · rintro ⟨h2, ⟨a, b⟩, c⟩
      exact ⟨h m List.mem_cons_self, h2, u, hu, (ih u).mpr ⟨a, b, c⟩⟩
open Classical in
noncomputable def zqB (rows : List (List Int)) (s t : Nat × Nat) (ms : List Int) : Bool := decide (Zz rows s t ms)
theorem zqB_t {rows : List (List Int)} {s t : Nat × Nat} {ms : List Int} (h : Zz rows s t ms) : zqB rows s t ms = true := by
  classical
  unfold zqB
  exact decide_eq_true h
theorem zqB_f {rows : List (List Int)} {s t : Nat × Nat} {ms : List Int} (h : ¬ Zz rows s t ms) : zqB rows s t ms = false := by
  classical
  unfold zqB
  exact decide_eq_false h
theorem zqB_at {rows : List (List Int)} {s t : Nat × Nat} {m : Int} {r : List Int} (h : ∀ x ∈ m :: r, x ∈ recvL rows) : zqB rows s t (m :: r) = (sbB rows m s && (stB rows m r && rbB rows t (lastI m r))) := by
  classical
  unfold zqB
  rw [Bool.eq_iff_iff, decide_eq_true_iff, Bool.and_eq_true, Bool.and_eq_true, ← zk_iff h]
  exact ⟨fun z => z.2, fun z => ⟨by simp, z⟩⟩
theorem zip_st (rows : List (List Int)) : ∀ (r : List Int) (m : Int), (((m :: r).zip r).map fun x => stepB rows x.1 x.2).all id = stB rows m r
  | [], m => rfl
  | x :: r, m => by
    rw [List.zip_cons_cons, List.map_cons, List.all_cons, zip_st rows r x]
    rfl
theorem trips_in (rows : List (List Int)) (m : Int) : (getD' ((recvL rows).map fun m => ((Sum.inl m : Key), tripD rows m)) (Sum.inl m)).isSome = decide (m ∈ recvL rows) := by
  unfold getD'
  rw [Option.isSome_map, Bool.eq_iff_iff, List.find?_isSome, decide_eq_true_iff]
  constructor
  · rintro ⟨y, hy, e⟩
    obtain ⟨x, hx, rfl⟩ := List.mem_map.mp hy
    have e : x = m := Sum.inl.inj (of_decide_eq_true e)
    rw [← e]
    exact hx
  · exact fun h => ⟨_, List.mem_map.mpr ⟨m, h, rfl⟩, decide_eq_true rfl⟩
theorem zipD_intI : ∀ a b : List Int, zipD (intsD a) (intsD b) = (a.zip b).map fun x => D.tup [.int x.1, .int x.2]
  | [], _ => rfl
  | _ :: _, [] => rfl
  | x :: a, y :: b => by
    have := zipD_intI a b
    unfold zipD intsD at this ⊢
    rw [List.map_cons, List.map_cons, List.zipWith_cons_cons, List.zip_cons_cons, List.map_cons, this]
theorem last_at : ∀ (r : List Int) (m : Int), ∃ q, m :: r = q ++ [lastI m r]
  | [], m => ⟨[], rfl⟩
  | x :: r, m => by
    obtain ⟨q, hq⟩ := last_at r x
    exact ⟨m :: q, by show m :: (x :: r) = (m :: q) ++ [lastI x r]; rw [List.cons_append, ← hq]⟩
theorem w_isnum {i : Int} {S : Sto} {R : DK} (h : R (.bl true) S) : dFn 1 B_is_number_52f5 [.int i] S R := by
  refine ⟨_, rfl, _, "int", "int", true, rfl, rfl, isi_ii, _, rfl, ?_⟩
  exact ⟨_, rfl, _, "bool", "int", false, rfl, rfl, isi_ib, _, rfl, h⟩
theorem w_isz {rows : List (List Int)} {many most : Nat} {s t : Nat × Nat} {ms : List Int} {S : Sto} {R : DK} (hG : Good many most rows) (h6 : many ≤ 6) (h60 : most ≤ 60) (hl : ms.length ≤ 1000)
    (q : ∀ S', SG S S' → R (.bl (zqB rows s t ms)) S') : dFn 7 B_is_zigzag_87da [.tup (rowsD rows), stD s, stD t, .tup (intsD ms)] S R := by
  refine ⟨_, rfl, rfl, w_trips hG h6 h60 fun S1 sg1 => ⟨_, rfl, _, "tuple", "tuple", true, rfl, rfl, by decide +kernel, _, rfl, ?_⟩⟩
  refine ⟨_, rfl, _, _, rfl, rfl, _, rfl, ?_⟩
  cases ms with
  | nil =>
    refine goT ?_
    have := q S1 sg1
    rw [zqB_f fun z => z.1 rfl] at this
    exact this
  | cons m r =>
    have e0 : (decide (((intsD (m :: r)).length : Int) = 0) ^^ false) = false := by
      rw [xor_ff, intsD_len, List.length_cons]
      exact decide_eq_false (by omega)
    rw [e0]
    refine goF ?_
    refine ⟨_, rfl, _, rfl, lc_mapE (m :: r) D.int rfl (fun x => some (D.bl (decide (x ∈ recvL rows)))) (by omega) (fun _ _ => True.intro) (fun x hx S2 sg K Kn hk _ => turn_y ⟨_, rfl, rfl, w_isnum ⟨_, rfl, ?_⟩⟩) fun a S2 na sg2 ha => ?_⟩
    · refine ⟨_, rfl, _, rfl, _, Sum.inl x, rfl, rfl, ?_⟩
      rw [trips_in, xor_ff]
      exact hk _ rfl _ (.refl _)
    rw [fm_map] at ha
    refine ⟨a, (m :: r).map fun x => decide (x ∈ recvL rows), rfl, by rw [ha, List.map_map]; rfl, _, rfl, ?_⟩
    by_cases hall : ∀ x ∈ m :: r, x ∈ recvL rows
    · have e1 : ((m :: r).map fun x => decide (x ∈ recvL rows)).all id = true := by
        rw [List.all_map, List.all_eq_true]
        exact fun x hx => decide_eq_true (hall x hx)
      dsimp only
      rw [e1]
      refine goF ?_
      have hm := hall m List.mem_cons_self
      have q : ∀ S', SG S2 S' → R (.bl (sbB rows m s && (stB rows m r && rbB rows t (lastI m r)))) S' := fun S' sg => by
        have := q S' ((sg1.trans sg2).trans sg)
        rw [zqB_at hall] at this
        exact this
      have at0 : atI (intsD (m :: r)) 0 = some (.int m) := atI_nat (i := 0) rfl
      refine ⟨_, rfl, _, rfl, _, 0, _, rfl, rfl, at0, _, Sum.inl m, _, rfl, rfl, trips_get hm, _, rfl, rfl, w_sbM hG hm ⟨_, rfl, ?_⟩⟩
      cases h1 : sbB rows m s with
      | false =>
        rw [h1] at q
        exact goF (q S2 (.refl _))
      | true =>
        rw [h1] at q
        refine goT ?_
        have ec : cutD (intsD (m :: r)) (some 1) none = intsD r := by
          have := cutD_from (xs := intsD (m :: r)) (i := 1) (by rw [intsD_len, List.length_cons]; omega)
          exact this
        refine ⟨_, rfl, _, rfl, 1, rfl, ?_⟩
        dsimp only [rSlq, dNoP]
        rw [ec]
        refine ⟨_, _, .inl ⟨rfl, lc_mapE (w := ⟨zipD (intsD (m :: r)) (intsD r), fun _ => True⟩) ((m :: r).zip r) (fun x => .tup [.int x.1, .int x.2]) (zipD_intI _ _) (fun x => some (D.bl (stepB rows x.1 x.2))) (by rw [List.length_zip]; omega) (fun _ _ => True.intro) (fun x hx S3 sg K Kn hk _ => ?_) fun b S3 nb sg3 hb => ?_⟩⟩
        · obtain ⟨g1, g2⟩ := List.of_mem_zip hx
          exact ⟨_, rfl, .inl (.inl rfl), _, _, rfl, _, _, rfl, rfl, yesS ⟨_, rfl, _, rfl, _, rfl, rfl, w_isStep hG (hall _ g1) (hall _ (List.mem_cons_of_mem _ g2)) (hk _ rfl _ (.refl _))⟩⟩
        · rw [fm_map] at hb
          refine ⟨b, ((m :: r).zip r).map fun x => stepB rows x.1 x.2, rfl, by rw [hb, List.map_map]; rfl, _, rfl, ?_⟩
          show if (((m :: r).zip r).map fun x => stepB rows x.1 x.2).all id = true then _ else _
          rw [zip_st]
          cases h2 : stB rows m r with
          | false =>
            rw [h2] at q
            exact goF (q S3 sg3)
          | true =>
            rw [h2] at q
            refine goT ?_
            obtain ⟨qq, hq⟩ := last_at r m
            have hlast : atI (intsD (m :: r)) (-1) = some (.int (lastI m r)) := by
              rw [hq]
              unfold intsD
              rw [List.map_append]
              exact atI_last
            have hlm : lastI m r ∈ recvL rows := hall _ (by rw [hq]; exact List.mem_append_right _ List.mem_cons_self)
            exact ⟨_, rfl, _, rfl, _, (-1), _, rfl, rfl, hlast, _, Sum.inl (lastI m r), _, rfl, rfl, trips_get hlm, _, rfl, rfl, w_rbM hG hlm (q S3 sg3)⟩
    · have e1 : ((m :: r).map fun x => decide (x ∈ recvL rows)).all id = false := by
        rw [← Bool.not_eq_true, List.all_map, List.all_eq_true]
        exact fun z => hall fun x hx => of_decide_eq_true (z x hx)
      dsimp only
      rw [e1]
      refine goT ?_
      have := q S2 (sg1.trans sg2)
      rw [zqB_f fun z => hall (zk_mem z.2)] at this
      exact this
end Sv
set_option maxHeartbeats 400000
set_option autoImplicit false
namespace Sv
open PySem PySem.Spec PyProof.Rows L2
theorem Zk.pos {rows : List (List Int)} {t : Nat × Nat} : ∀ {ms : List Int} {s : Nat × Nat}, Zk rows s t ms → 0 < t.2
  | [], s, ⟨h1, h2⟩ => Nat.lt_of_le_of_lt (Nat.zero_le _) h2
  | m :: ms, s, ⟨h1, h2, u, h3, h4⟩ => h4.pos
end Sv
set_option maxHeartbeats 400000
set_option autoImplicit false
set_option maxHeartbeats 400000
set_option autoImplicit false
namespace Sv
open PySem PySem.Spec PyProof.Rows L2
def stL (s : Nat × Nat) : List Int := [(s.1 : Int), (s.2 : Int)]
def keyS (s : Nat × Nat) : Nat := s.1 * 64 + s.2
theorem keyS_inj {s t : Nat × Nat} (hs : s.2 < 64) (ht : t.2 < 64) (h : keyS s = keyS t) : s = t := by
  obtain ⟨a, b⟩ := s
  obtain ⟨c, d⟩ := t
  unfold keyS at h
  have h : a * 64 + b = c * 64 + d := h
  have hs : b < 64 := hs
  have ht : d < 64 := ht
  have : a = c := by omega
  subst this
  have : b = d := by omega
  rw [this]
theorem code_st (s : Nat × Nat) : TS.code 64 (stL s) = (keyS s : Int) := by
  unfold stL keyS
  rw [L2.code_pair]
  omega
theorem sts_map : ∀ {L : List (List Int)}, (∀ q ∈ L, ∃ s : Nat × Nat, q = stL s) → ∃ ts : List (Nat × Nat), L = ts.map stL
  | [], _ => ⟨[], rfl⟩
  | q :: L, h => by
    obtain ⟨s, rfl⟩ := h q List.mem_cons_self
    obtain ⟨ts, rfl⟩ := sts_map fun q hq => h q (List.mem_cons_of_mem _ hq)
    exact ⟨s :: ts, rfl⟩
theorem stL_inj {s t : Nat × Nat} (h : stL s = stL t) : s = t := by
  obtain ⟨a, b⟩ := s
  obtain ⟨c, d⟩ := t
  have h1 : (a : Int) = (c : Int) := (List.cons.inj h).1
  have h2 : (b : Int) = (d : Int) := (List.cons.inj (List.cons.inj h).2).1
  have : a = c := by omega
  have : b = d := by omega
  subst_vars
  rfl
/-- sorted(set(states)) -/
theorem w_sorted {ss : List (Nat × Nat)} {d : D} {S : Sto} {env : Env} {i : Nat} {W : Src → Sto → Prop} (he : env[i]? = some (some d)) (hd : d = .tup (ss.map stD) ∨ d = .wtup (ss.map stD)) (hb : ∀ s ∈ ss, s.1 < 64 ∧ s.2 < 64) (hl : ss.length < 64)
    (q : ∀ (ts : List (Nat × Nat)) (p : Addr) S', SG S S' → S' p = some (.lst (ts.map stD)) → (∀ s, s ∈ ts ↔ s ∈ ss) → ts.Pairwise (fun a b => keyS a ≤ keyS b) → ts.length < 64 → W ⟨ts.map stD, fun S'' => S'' p = some (.lst (ts.map stD))⟩ S') :
    diVal (dCB rSortedS' (dCons (dCB rSetT (dCons (dVar i) dNil)) dNil)) env S W := by
  have e1 : ss.map stD = (ss.map stL).map fun q => D.tup (intsD q) := by
    rw [List.map_map]
    rfl
  refine ⟨d, he, d, ss.map stL, rfl, by rw [← e1]; exact hd, by rw [List.length_map]; exact hl, fun p L np hL => ?_⟩
  have hq : ∀ q ∈ L, ∃ s ∈ ss, q = stL s := fun q hq => by
    obtain ⟨s, hs, rfl⟩ := List.mem_map.mp ((hL q).mp hq)
    exact ⟨s, hs, rfl⟩
  refine ⟨p, L, 2, 64, rfl, Sto.same, by decide, fun q hq' => ?_, fun L' p' pm nd l64 pw np' => ?_⟩
  · obtain ⟨s, hs, rfl⟩ := hq q hq'
    obtain ⟨b1, b2⟩ := hb s hs
    refine ⟨rfl, fun m hm => ?_⟩
    rcases List.mem_cons.mp hm with rfl | hm
    · omega
    · rw [List.mem_singleton.mp hm]; omega
  · obtain ⟨ts, rfl⟩ := sts_map fun q hq' => (hq q (pm.mem_iff.mp hq')).imp fun s z => z.2
    have e2 : ((ts.map stL).map fun q => D.tup (intsD q)) = ts.map stD := by
      rw [List.map_map]
      rfl
    rw [e2]
    refine ⟨_, ⟨_, Sto.same, rfl⟩, q ts p' _ ((SK.new np).trans (SK.new np')) Sto.same (fun s => ?_) ?_ (by rw [List.length_map] at l64; exact l64)⟩
    · constructor
      · intro h
        obtain ⟨t, ht, e⟩ := hq _ (pm.mem_iff.mp (List.mem_map.mpr ⟨s, h, rfl⟩))
        rw [stL_inj e]
        exact ht
      · intro h
        obtain ⟨t, ht, e⟩ := List.mem_map.mp (pm.mem_iff.mpr ((hL _).mpr (List.mem_map.mpr ⟨s, h, rfl⟩)))
        rw [← stL_inj e]
        exact ht
    · refine (List.pairwise_map.mp pw).imp fun h => ?_
      rw [code_st, code_st] at h
      omega
def ZzE (rows : List (List Int)) (a b : Nat × Nat) : Prop := ∃ ms, Zz rows a b ms
structure PairZ (rows : List (List Int)) (ss : List (Nat × Nat)) (a b : Nat × Nat) : Prop where
  one : a ∈ ss
  two : b ∈ ss
  zz : ZzE rows a b
  least : ∀ a' ∈ ss, ∀ b' ∈ ss, ZzE rows a' b' → keyS a < keyS a' ∨ (a = a' ∧ keyS b ≤ keyS b')
theorem PairZ.unique {rows : List (List Int)} {ss : List (Nat × Nat)} {a b a' b' : Nat × Nat} (hb : ∀ s ∈ ss, s.1 < 64 ∧ s.2 < 64) (h : PairZ rows ss a b) (g : PairZ rows ss a' b') : a = a' ∧ b = b' := by
  rcases h.least a' g.one b' g.two g.zz with z | ⟨z, z1⟩
  · rcases g.least a h.one b h.two h.zz with y | ⟨y, _⟩
    · omega
    · rw [y] at z; omega
  · rcases g.least a h.one b h.two h.zz with y | ⟨_, y1⟩
    · rw [z] at y; omega
    · exact ⟨z, keyS_inj (hb _ h.two).2 (hb _ g.two).2 (by omega)⟩
theorem w_pair {rows : List (List Int)} {many most : Nat} {ss : List (Nat × Nat)} {d : D} {S : Sto} {R : DK} (hG : Good many most rows) (h6 : many ≤ 6) (h60 : most ≤ 60) (hd : d = .tup (ss.map stD) ∨ d = .wtup (ss.map stD)) (hb : ∀ s ∈ ss, s.1 < 64 ∧ s.2 < 64) (hl : ss.length < 64)
    (q1 : ∀ a b S', SG S S' → PairZ rows ss a b → R (.tup [stD a, stD b]) S') (q2 : ∀ S', SG S S' → (∀ a ∈ ss, ∀ b ∈ ss, ¬ ZzE rows a b) → R .non S') : dFn 4 B_pair_apart_e180 [.tup (rowsD rows), d] S R := by
  refine w_sorted (i := 1) (env := dStart 4 [.tup (rowsD rows), d]) rfl hd hb hl fun ts p S1 sg1 hp hm pw l64 => ?_
  refine ⟨fun i env S' => ∃ x2 x3 : Option D, env = [some (.tup (rowsD rows)), some d, x2, x3] ∧ SG S1 S' ∧ ∀ a ∈ ts.take i, ∀ b ∈ ss, ¬ ZzE rows a b, ⟨_, _, rfl, .refl _, fun a ha => nomatch ha⟩, fun i env S' _ h => ?_, ?_, ?_⟩
  · obtain ⟨_, _, _, sg, _⟩ := h
    exact sg _ _ (fun z => z) hp
  · rintro i e env S2 he ⟨x2, x3, rfl, sg2, hno⟩
    have he : (ts.map stD)[i]? = some e := he
    rw [List.getElem?_map] at he
    obtain ⟨a, ha, rfl⟩ := Option.map_eq_some_iff.mp he
    have ham := (hm a).mp (List.mem_of_getElem? ha)
    have tk := take_map ha
    refine w_sorted (i := 1) (env := [some (.tup (rowsD rows)), some d, some (stD a), x3]) rfl hd hb hl fun ts2 p2 S3 sg3 hp2 hm2 pw2 l642 => ?_
    refine ⟨fun j env S' => ∃ x3 : Option D, env = [some (.tup (rowsD rows)), some d, some (stD a), x3] ∧ SG S3 S' ∧ ∀ b ∈ ts2.take j, ¬ ZzE rows a b, ⟨_, rfl, .refl _, fun b hb => nomatch hb⟩, fun j env S' _ h => ?_, ?_, ?_⟩
    · obtain ⟨_, _, sg, _⟩ := h
      exact sg _ _ (fun z => z) hp2
    · rintro j e env S4 he ⟨x3, rfl, sg4, hno2⟩
      have he : (ts2.map stD)[j]? = some e := he
      rw [List.getElem?_map] at he
      obtain ⟨b, hbj, rfl⟩ := Option.map_eq_some_iff.mp he
      have hbm := (hm2 b).mp (List.mem_of_getElem? hbj)
      have tk2 := take_map hbj
      refine ⟨_, rfl, _, rfl, _, rfl, rfl, w_find (s := a) (t := b) hG h6 h60 fun S5 sg5 hz => ?_⟩
      have sg05 := ((sg1.trans sg2).trans (sg3.trans sg4)).trans sg5
      cases hzz : zzF rows a b with
      | none =>
        rw [hzz] at hz
        refine ⟨_, rfl, goF ⟨_, rfl, sg4.trans sg5, fun c hc => ?_⟩⟩
        rw [tk2] at hc
        rcases List.mem_append.mp hc with hc | hc
        · exact hno2 c hc
        · rw [List.mem_singleton.mp hc]
          rintro ⟨ms, z⟩
          exact hz ms z
      | some ms =>
        rw [hzz] at hz
        refine ⟨_, rfl, goT ⟨_, rfl, _, rfl, rfl, q1 a b S5 sg05 ⟨ham, hbm, ⟨ms, hz.1⟩, fun a' ha' b' hb' hz' => ?_⟩⟩⟩
        obtain ⟨i', hi'⟩ := List.getElem?_of_mem ((hm a').mpr ha')
        have hii : i ≤ i' := by
          refine Nat.le_of_not_lt fun z => hno a' ?_ b' hb' hz'
          exact List.mem_of_getElem? (List.getElem?_take_of_lt z ▸ hi')
        have k1 : keyS a ≤ keyS a' := by
          rcases Nat.lt_or_ge i i' with z | z
          · obtain ⟨u1, u2⟩ := List.getElem?_eq_some_iff.mp ha
            obtain ⟨v1, v2⟩ := List.getElem?_eq_some_iff.mp hi'
            have := List.pairwise_iff_getElem.mp pw i i' u1 v1 z
            rw [u2, v2] at this
            exact this
          · obtain rfl : i = i' := by omega
            rw [ha] at hi'
            rw [Option.some.inj hi']
            exact Nat.le_refl _
        rcases Nat.lt_or_ge (keyS a) (keyS a') with z | z
        · exact .inl z
        · have ea : a = a' := keyS_inj (hb _ ham).2 (hb _ ha').2 (by omega)
          subst ea
          refine .inr ⟨rfl, ?_⟩
          obtain ⟨j', hj'⟩ := List.getElem?_of_mem ((hm2 b').mpr hb')
          have hjj : j ≤ j' := by
            refine Nat.le_of_not_lt fun z => hno2 b' ?_ hz'
            exact List.mem_of_getElem? (List.getElem?_take_of_lt z ▸ hj')
          rcases Nat.lt_or_ge j j' with z | z
          · obtain ⟨u1, u2⟩ := List.getElem?_eq_some_iff.mp hbj
            obtain ⟨v1, v2⟩ := List.getElem?_eq_some_iff.mp hj'
            have := List.pairwise_iff_getElem.mp pw2 j j' u1 v1 z
            rw [u2, v2] at this
            exact this
          · obtain rfl : j = j' := by omega
            rw [hbj] at hj'
            rw [Option.some.inj hj']
            exact Nat.le_refl _
    · rintro env S4 ⟨x3, rfl, sg4, hno2⟩
      have hno2 : ∀ b ∈ ts2.take (ts2.map stD).length, ¬ ZzE rows a b := hno2
      rw [List.length_map, List.take_length] at hno2
      refine ⟨_, _, rfl, sg2.trans (sg3.trans sg4), fun c hc b hb' => ?_⟩
      rw [tk] at hc
      rcases List.mem_append.mp hc with hc | hc
      · exact hno c hc b hb'
      · rw [List.mem_singleton.mp hc]
        exact hno2 b ((hm2 b).mpr hb')
  · rintro env S2 ⟨x2, x3, rfl, sg2, hno⟩
    have hno : ∀ a ∈ ts.take (ts.map stD).length, ∀ b ∈ ss, ¬ ZzE rows a b := hno
    rw [List.length_map, List.take_length] at hno
    exact q2 S2 (sg1.trans sg2) fun a ha b hb' => hno a ((hm a).mpr ha) b hb'
def lineD (c : List Nat) : D := .tup [.str "line", cutD' c]
def zigD (a b : Nat × Nat) (ms : List Int) : D := .tup [.str "zigzag", stD a, stD b, .tup (intsD ms)]
theorem w_verdict {rows : List (List Int)} {many most : Nat} {ss : List (Nat × Nat)} {S : Sto} {R : DK} (hG : Good many most rows) (h6 : many ≤ 6) (h60 : most ≤ 60) (hc : Ch rows ss) (hb : ∀ s ∈ ss, s.1 < 64 ∧ s.2 < 64) (hl : ss.length < 64)
    (q1 : ∀ S', SG S S' → (∃ L, Thru rows ss L) → R (lineD (upL rows (lowL rows ss))) S') (q2 : ∀ a b ms S', SG S S' → (¬ ∃ L, Thru rows ss L) → PairZ rows ss a b → FindZ rows a b (some ms) → R (zigD a b ms) S') : dFn 5 B_verdict_403b [.tup (rowsD rows), .wtup (ss.map stD)] S R := by
  have dl := dual hG h6 h60 hc
  refine ⟨_, rfl, _, rfl, rfl, w_least hG h6 h60 hc.lt (.inr rfl) fun S1 sg1 => ?_⟩
  unfold leastL
  by_cases ht : ∃ L, Thru rows ss L
  · rw [if_pos ht]
    exact ⟨_, rfl, _, rfl, goT ⟨_, rfl, rfl, q1 S1 sg1 ht⟩⟩
  · rw [if_neg ht]
    refine ⟨_, rfl, _, rfl, goF ?_⟩
    refine ⟨_, rfl, _, rfl, rfl, w_pair hG h6 h60 (.inr rfl) hb hl (fun a b S2 sg2 hz => ?_) (fun S2 sg2 hno => ?_)⟩
    · refine ⟨_, rfl, .inl (.inl rfl), _, _, rfl, _, _, rfl, rfl, ?_⟩
      refine ⟨_, rfl, _, rfl, _, rfl, _, rfl, _, rfl, rfl, w_find hG h6 h60 fun S3 sg3 hf => ?_⟩
      cases hzz : zzF rows a b with
      | none =>
        rw [hzz] at hf
        obtain ⟨ms, z⟩ := hz.zz
        exact absurd z (hf ms)
      | some ms =>
        rw [hzz] at hf
        exact ⟨rfl, q2 a b ms S3 ((sg1.trans sg2).trans sg3) ht hz hf⟩
    · exact absurd (dl.mpr fun s hs t ht' ms z => hno s hs t ht' ⟨ms, z⟩) ht
end Sv
set_option maxHeartbeats 400000
set_option autoImplicit false
namespace Sv
open PySem PySem.Spec PyProof.Rows L2
theorem rgD_ints (n : Nat) : rgD 0 n = intsD ((List.range n).map fun i : Nat => (i : Int)) := by
  unfold rgD intsD
  rw [List.map_map]
  refine List.map_congr_left fun i _ => ?_
  show D.int (0 + (i : Int)) = D.int (i : Int)
  rw [Int.zero_add]
theorem cutI_min (ms : List Int) (i : Nat) : cutD (intsD ms) none (some (i : Int)) = intsD (ms.take (min i ms.length)) := by
  have h1 : HT.sIx (intsD ms).length (intsD ms).length (some (i : Int)) = min i (intsD ms).length := HT.sIx_nat ..
  unfold cutD
  rw [HT.sIx_none, h1, List.drop_zero, Nat.sub_zero, intsD_len]
  unfold intsD
  rw [List.map_take]
end Sv
set_option maxHeartbeats 400000
set_option autoImplicit false
namespace Sv
open PySem PySem.Spec PyProof.Rows L2
def inS (s : Nat × Nat) : Int × Int := ((s.1 : Int), (s.2 : Int))
inductive VD (rows : List (List Int)) (ss : List (Nat × Nat)) : D → Prop
  | line : (∃ L, Thru rows ss L) → VD rows ss (lineD (upL rows (lowL rows ss)))
  | zig {a b : Nat × Nat} {ms : List Int} : (¬ ∃ L, Thru rows ss L) → PairZ rows ss a b → FindZ rows a b (some ms) → VD rows ss (zigD a b ms)
theorem VD.unique {rows : List (List Int)} {ss : List (Nat × Nat)} (hb : ∀ s ∈ ss, s.1 < 64 ∧ s.2 < 64) {v w : D} (h : VD rows ss v) (g : VD rows ss w) : v = w := by
  cases h with
  | line h =>
    cases g with
    | line _ => rfl
    | zig n _ _ => exact absurd h n
  | zig n h1 h2 =>
    cases g with
    | line g => exact absurd g n
    | zig _ g1 g2 =>
      obtain ⟨rfl, rfl⟩ := h1.unique hb g1
      have := h2.unique g2
      cases this
      rfl
theorem fine_str {x : Str} (h1 : PyData.weight (.str x) ≤ 101) (h2 : PyData.canLay0 (.str x) = true) (h3 : PyData.intsShort 40 (.str x) = true) : Fine 0 101 (.str x) := ⟨by simp [PyData.depth], h1, h2, rfl, h3⟩
theorem fine_natT {cs : List Nat} (h : ∀ c ∈ cs, c ≤ 1000) (hl : cs.length ≤ 60) : Fine 1 6120 (.tuple ((cs.map fun (c : Nat) => (c : Int)).map PyData.int)) := by
  have q : FineAll 0 (102 * (cs.map fun (c : Nat) => (c : Int)).length) (iD (cs.map fun (c : Nat) => (c : Int))) := fine_ints fun x hx => by
    obtain ⟨c, hc, rfl⟩ := List.mem_map.mp hx
    have := h c hc
    have e : (10 : Nat) ^ 30 = 1000000000000000000000000000000 := by decide
    omega
  refine (fine_tuple q).mono (Nat.le_refl _) ?_
  rw [List.length_map]
  omega
theorem fine_intT {ms : List Int} (h : ∀ c ∈ ms, -1000 ≤ c ∧ c ≤ 1000) (hl : ms.length ≤ 60) : Fine 1 6120 (.tuple (ms.map PyData.int)) := by
  have q : FineAll 0 (102 * ms.length) (iD ms) := fine_ints fun x hx => by
    have := h x hx
    have e : (10 : Nat) ^ 30 = 1000000000000000000000000000000 := by decide
    omega
  refine (fine_tuple q).mono (Nat.le_refl _) ?_
  omega
theorem thru_small {rows : List (List Int)} {many most : Nat} (hG : Good many most rows) (h60 : most ≤ 60) {ss : List (Nat × Nat)} {c : List Nat} (h : Thru rows ss c) : (∀ x ∈ c, x ≤ 1000) := fun x hx => by
  obtain ⟨i, hi⟩ := List.getElem?_of_mem hx
  have hl := (List.getElem?_eq_some_iff.mp hi).1
  rw [h.len] at hl
  have hr := List.getElem?_eq_getElem hl
  have := h.le i x _ hi (prsA hr)
  have h1 := hG.row60 h60 _ (List.mem_of_getElem? hr)
  have h2 : rows[i].count 0 ≤ rows[i].length := List.count_le_length ..
  omega
theorem upL_thru {rows : List (List Int)} {many most : Nat} (hG : Good many most rows) (h6 : many ≤ 6) (h60 : most ≤ 60) {ss : List (Nat × Nat)} (hs : ∀ s ∈ ss, s.1 < rows.length) (h : ∃ L, Thru rows ss L) : Thru rows ss (upL rows (lowL rows ss)) := by
  have u := up_is hG h6 h60 (lowL rows ss)
  exact (thru_iff hs).mpr ⟨u.len.trans (lowL_len rows ss), u.cons, u.ge, (thru_up hG h6 h60 hs).mp h⟩
theorem fine_st {s : Nat × Nat} (h : s.1 < 64 ∧ s.2 < 64) : Fine 1 204 (pD (inS s)) := by
  have e : (10 : Nat) ^ 30 = 1000000000000000000000000000000 := by decide
  exact fine_pair (by show (s.1 : Int).natAbs < _; omega) (by show (s.2 : Int).natAbs < _; omega)
theorem VD.text {rows : List (List Int)} {many most : Nat} (hG : Good many most rows) (h6 : many ≤ 6) (h60 : most ≤ 60) {ss : List (Nat × Nat)} (hc : Ch rows ss) (hb : ∀ s ∈ ss, s.1 < 64 ∧ s.2 < 64) {v : D} (h : VD rows ss v) : ∃ p, (∀ S, Py S v p) ∧ Text p := by
  cases h with
  | line h =>
    have t := upL_thru hG h6 h60 hc.lt h
    have rl := hG.len
    refine ⟨.tuple [.str "line", .tuple (((upL rows (lowL rows ss)).map fun (c : Nat) => (c : Int)).map PyData.int)], fun S => .tup (.cons (.str _) (.cons (py_nat _) .nil)), ?_⟩
    have f1 : Fine 0 101 (.str "line") := fine_str (by decide +kernel) (by decide +kernel) (by decide +kernel)
    have f2 := fine_natT (thru_small hG h60 t) (by rw [t.len]; omega)
    exact ((fine_tuple (fine_cons (f1.mono (Nat.zero_le 1) (Nat.le_refl _)) (fine_cons f2 (fine_nil.mono (Nat.zero_le _) (Nat.le_refl _))))).mono (Nat.le_refl _) (Nat.le_refl _)).text (by omega) (by omega) rfl
  | @zig a b ms n h1 h2 =>
    have hm : ∀ m ∈ ms, -1000 ≤ m ∧ m ≤ 1000 := fun m hm => by
      have := names_mem.mp (List.mem_filter.mp (zk_mem h2.1.2 m hm)).1
      omega
    have hml := h2.2.1
    refine ⟨.tuple [.str "zigzag", pD (inS a), pD (inS b), .tuple (ms.map PyData.int)], fun S => .tup (.cons (.str _) (.cons (py_pair (inS a)) (.cons (py_pair (inS b)) (.cons (.tup (pys_ints ms)) .nil)))), ?_⟩
    have f1 : Fine 0 101 (.str "zigzag") := fine_str (by decide +kernel) (by decide +kernel) (by decide +kernel)
    have f2 := fine_st (hb _ h1.one)
    have f3 := fine_st (hb _ h1.two)
    have f4 := fine_intT hm (by omega)
    exact ((fine_tuple (fine_cons (f1.mono (Nat.zero_le 1) (Nat.le_refl _)) (fine_cons f2 (fine_cons f3 (fine_cons f4 (fine_nil.mono (Nat.zero_le _) (Nat.le_refl _))))))).mono (Nat.le_refl _) (Nat.le_refl _)).text (by omega) (by omega) rfl
end Sv
set_option maxHeartbeats 800000
set_option autoImplicit false
namespace Sv
open PySem PySem.Spec PyProof.Rows L2
theorem w_loweredT {rows : List (List Int)} {many most : Nat} {h : D} {high : List Nat} {S : Sto} {R : DK} (hG : Good many most rows) (h6 : many ≤ 6) (h60 : most ≤ 60) (hh : seqOf S h = some (natD high)) (hhl : high.length = rows.length)
    (q : ∀ cs S', SG S S' → IsLow rows high cs → R (.tup (natD cs)) S') : dFn 7 B_lowered_c6aa [tripsD rows, h] S R := by
  refine ⟨_, rfl, _, _, rfl, hh, fun l nl => ?_⟩
  have s1 : SG S (S.put l (.lst (natD high))) := .new nl
  have hl1 : (S.put l (.lst (natD high))) l = some (.lst (natD high)) := Sto.same
  generalize S.put l (.lst (natD high)) = S1 at s1 hl1 ⊢
  dsimp only
  refine ⟨fun m env S' => ∃ (cs : List Nat) (b : Bool) (x4 x5 x6 : Option D), env = [some (tripsD rows), some h, some (.ref l), some (.bl b), x4, x5, x6] ∧ SG S S' ∧ S' l = some (.lst (natD cs)) ∧ Dn rows high cs ∧ (b = false → ConsL rows cs) ∧ m = 2 * cs.sum + (if b = true then 1 else 0), ⟨_, high, true, _, _, _, rfl, s1, hl1, .start _ _, (fun z => nomatch z), rfl⟩, ?_⟩
  rintro m env S' ⟨cs, b, x4, x5, x6, rfl, sm, hl, hdn, hb, hm⟩
  refine ⟨_, rfl, b, rfl, ?_⟩
  cases b with
  | false =>
    refine goF ?_
    exact ⟨_, rfl, _, _, rfl, seqOf_lst hl, fun ys z => (nomatch z), q cs _ sm ⟨hdn, hb rfl⟩⟩
  | true =>
    rw [if_pos rfl] at hm
    refine goT ?_
    refine ⟨_, rfl, _, rfl, fun j env S'' => ∃ (c1 : List Nat) (b1 : Bool) (x4 x5 x6 : Option D), env = [some (tripsD rows), some h, some (.ref l), some (.bl b1), x4, x5, x6] ∧ SG S S'' ∧ S'' l = some (.lst (natD c1)) ∧ Dn rows high c1 ∧
          ((b1 = true ∧ c1.sum < cs.sum) ∨ (b1 = false ∧ c1 = cs ∧ ∀ (i : Nat) (m : Int), i < j → (recvL rows)[i]? = some m → ∀ (p k p' k' c c' : Nat), hap rows m = some (p, k) → hap rows (0 - m) = some (p', k') → cs[p]? = some c → cs[p']? = some c' → k' < c' → k < c)),
      ⟨cs, false, _, _, _, rfl, sm, hl, hdn, .inr ⟨rfl, rfl, fun i m z => absurd z (Nat.not_lt_zero _)⟩⟩, fun _ _ _ _ _ => True.intro, ?_, ?_⟩
    · rintro j d env S2 hd ⟨c1, b1, x4, x5, x6, rfl, s2, hl2, hd2, hor⟩
      have hd : (((recvL rows).map fun m => ((Sum.inl m : Key), tripD rows m)).map (·.2))[j]? = some d := hd
      rw [List.map_map, List.getElem?_map] at hd
      obtain ⟨mm, hmm, rfl⟩ := Option.map_eq_some_iff.mp hd
      obtain ⟨m1, p, k, p', k', a5, a6, e⟩ := hap_trip hG (List.mem_of_getElem? hmm)
      have hp : p < c1.length := by rw [hd2.len, hhl]; exact Good.hap_lt a5
      have hp' : p' < c1.length := by rw [hd2.len, hhl]; exact Good.hap_lt a6
      have hc := List.getElem?_eq_getElem hp
      have hc' := List.getElem?_eq_getElem hp'
      generalize c1[p] = c at hc
      generalize c1[p'] = c' at hc'
      show dgName 4 (tripD rows mm) _ _ _
      rw [e]
      refine ⟨_, rfl, _, rfl, rfl, w_orph hl2 hc hc' ⟨_, rfl, iteB (fun g => ?_) (fun g => ?_)⟩⟩
      · have g1 : k' < c' := of_decide_eq_true (Bool.and_eq_true_iff.mp g).1
        have g2 : c ≤ k := of_decide_eq_true (Bool.and_eq_true_iff.mp g).2
        refine ⟨_, rfl, _, 1, _, rfl, rfl, rfl, _, rfl, .inl (.inl rfl), _, _, rfl, _, _, rfl, rfl, ?_⟩
        refine ⟨_, rfl, _, rfl, _, rfl, l, _, p', p', rfl, rfl, hl2, ?_, ?_⟩
        · rw [natD_len]; exact ixnN hp'
        have e : (natD c1).set p' (D.int k') = natD (c1.set p' k') := by rw [natD, natD, List.map_set]
        rw [e]
        have hs := sum_set (k := k') hc'
        refine ⟨c1.set p' k', true, _, _, _, rfl, ?_, Sto.same, hd2.step (by omega) a5 a6 hc hc' g1 g2, .inl ⟨rfl, ?_⟩⟩
        · exact SG.keepP nl s2 (.refl _)
        rcases hor with ⟨_, z⟩ | ⟨_, rfl, _⟩
        · omega
        · omega
      · refine ⟨c1, b1, _, _, _, rfl, s2, hl2, hd2, ?_⟩
        rcases hor with z | ⟨z1, rfl, z3⟩
        · exact .inl z
        · refine .inr ⟨z1, rfl, fun i m hi hm2 q1 w1 q2 w2 d d' u1 u2 u3 u4 u5 => ?_⟩
          by_cases e : i = j
          · subst e
            obtain rfl := Option.some.inj (hmm.symm.trans hm2)
            rw [a5] at u1
            rw [a6] at u2
            cases u1
            cases u2
            obtain rfl := Option.some.inj (hc.symm.trans u3)
            obtain rfl := Option.some.inj (hc'.symm.trans u4)
            rw [decide_eq_true u5, Bool.true_and] at g
            have := of_decide_eq_false g
            omega
          · exact z3 i m (by omega) hm2 q1 w1 q2 w2 d d' u1 u2 u3 u4 u5
    · rintro env S2 ⟨c1, b1, x4, x5, x6, rfl, s2, hl2, hd2, hor⟩
      rcases hor with ⟨rfl, z⟩ | ⟨rfl, rfl, z3⟩
      · exact ⟨2 * c1.sum + 1, by omega, c1, true, _, _, _, rfl, s2, hl2, hd2, (fun z => nomatch z), rfl⟩
      · refine ⟨2 * c1.sum, by omega, c1, false, _, _, _, rfl, s2, hl2, hd2, fun _ m p k p' k' c c' hm0 u1 u2 u3 u4 u5 => ?_, rfl⟩
        obtain ⟨i, hi⟩ := List.getElem?_of_mem (hG.recv_mem hm0 u2)
        refine z3 i m ?_ hi p k p' k' c c' u1 u2 u3 u4 u5
        show i < (((recvL rows).map fun m => ((Sum.inl m : Key), tripD rows m)).map (·.2)).length
        rw [List.length_map, List.length_map]
        exact (List.getElem?_eq_some_iff.mp hi).1
/-- the greatest consistent line with the states -/
noncomputable def hiL (rows : List (List Int)) (ss : List (Nat × Nat)) : List Nat := Classical.choose (low_exists rows (highL rows ss))
theorem hi_low (rows : List (List Int)) (ss : List (Nat × Nat)) : IsLow rows (highL rows ss) (hiL rows ss) := Classical.choose_spec (low_exists rows (highL rows ss))
theorem hi_thru {rows : List (List Int)} {ss : List (Nat × Nat)} (hs : ∀ s ∈ ss, s.1 < rows.length) (h : ∃ L, Thru rows ss L) : Thru rows ss (hiL rows ss) := by
  obtain ⟨L, hL⟩ := h
  have u := hi_low rows ss
  obtain ⟨h1, h2, h3, h4⟩ := (thru_iff hs).mp hL
  have hl : (hiL rows ss).length = rows.length := u.len.trans (highL_len rows ss)
  have htop := u.top L (by rw [h1, highL_len]) h4 h2
  refine (thru_iff hs).mpr ⟨hl, u.cons, fun i x y g1 g2 => ?_, u.le⟩
  have hi : i < L.length := by rw [h1, ← hl]; exact (List.getElem?_eq_some_iff.mp g2).1
  have e := List.getElem?_eq_getElem hi
  have := h3 i x _ g1 e
  have := htop i _ y e g2
  omega
theorem hi_top {rows : List (List Int)} {ss : List (Nat × Nat)} (hs : ∀ s ∈ ss, s.1 < rows.length) {L : List Nat} (hL : Thru rows ss L) : LeL L (hiL rows ss) := by
  obtain ⟨h1, h2, h3, h4⟩ := (thru_iff hs).mp hL
  exact (hi_low rows ss).top L (by rw [h1, highL_len]) h4 h2
theorem up_bot {rows : List (List Int)} {many most : Nat} (hG : Good many most rows) (h6 : many ≤ 6) (h60 : most ≤ 60) {ss : List (Nat × Nat)} (hs : ∀ s ∈ ss, s.1 < rows.length) {L : List Nat} (hL : Thru rows ss L) : LeL (upL rows (lowL rows ss)) L := by
  obtain ⟨h1, h2, h3, h4⟩ := (thru_iff hs).mp hL
  exact (up_is hG h6 h60 (lowL rows ss)).bot L (by rw [h1, lowL_len]) h3 h2
theorem nd_one {ns : List Int} (h : ns.Nodup) (e : ∀ x ∈ ns, ∀ y ∈ ns, x = y) : ns.length ≤ 1 := by
  match ns, h, e with
  | [], _, _ => exact Nat.zero_le _
  | [_], _, _ => exact Nat.le_refl _
  | a :: b :: r, h, e =>
    have := e a List.mem_cons_self b (List.mem_cons_of_mem _ List.mem_cons_self)
    exact absurd (by rw [this]; exact List.mem_cons_self) (List.nodup_cons.mp h).1
theorem w_two {rows : List (List Int)} {ss : List (Nat × Nat)} {S : Sto} {R : DK} (hl : rows.length ≤ 1000) (hss : ss.length ≤ 900) (hone : ∀ s ∈ ss, ∀ t ∈ ss, s.1 = t.1 → s = t)
    (q : ∀ S', SG S S' → R .non S') : dFn 5 B_process_of_two_e443 [.tup (rowsD rows), .wtup (ss.map stD)] S R := by
  have erl : ((rowsD rows).length : Int) = (rows.length : Int) := by rw [rowsD, List.length_map]
  refine ⟨_, rfl, _, _, rfl, rfl, _, rfl, by omega, by omega, fun i env S' => ∃ x2 : Option D, env = [some (.tup (rowsD rows)), some (.wtup (ss.map stD)), x2, none, none] ∧ SG S S', ⟨_, rfl, .refl _⟩, fun _ _ _ _ _ => True.intro, ?_, ?_⟩
  · rintro i d env S1 hd ⟨x2, rfl, sg1⟩
    obtain ⟨hi, hd⟩ := rg_at hd
    rw [Int.zero_add] at hd
    subst hd
    refine ⟨_, rfl, _, rfl, fun p np => ⟨fun j S' => j ≤ ss.length ∧ ∃ ns : List Int, SG S1 S' ∧ S' p = some (.iset ns) ∧ ns.Nodup ∧ ns.length ≤ j ∧ ∀ x ∈ ns, ∃ s ∈ ss, s.1 = i ∧ ((s.2 : Nat) : Int) = x, ⟨Nat.zero_le _, [], .new np, Sto.same, .nil, Nat.le_refl _, fun x hx => nomatch hx⟩, fun _ _ _ _ => True.intro, ?_, ?_⟩⟩
    · rintro j d S2 hd ⟨hj0, ns, sg2, hp, nd, hlen, hm⟩
      have hd : (ss.map stD)[j]? = some d := hd
      rw [List.getElem?_map] at hd
      obtain ⟨s, hs, rfl⟩ := Option.map_eq_some_iff.mp hd
      have hj := (List.getElem?_eq_some_iff.mp hs).1
      refine ⟨_, rfl, .inl (.inl rfl), _, _, rfl, _, _, rfl, rfl, ?_⟩
      refine ⟨_, rfl, _, rfl, _, rfl, ?_⟩
      rw [xor_ff, show decide ((s.1 : Int) = (i : Int)) = decide (s.1 = i) from decide_eq_decide.mpr (by omega)]
      refine iteB (fun e => ?_) (fun e => ?_)
      · have e : s.1 = i := of_decide_eq_true e
        refine ⟨_, rfl, ns, ((s.2 : Nat) : Int), rfl, hp, by omega, hj, _, SG.keepP np sg2 (.refl _), Sto.same, ?_, ?_, fun x hx => ?_⟩
        · split
          · exact nd
          · rename_i z
            exact List.nodup_append.mpr ⟨nd, List.pairwise_singleton .., fun a ha b hb y => z (by rw [List.mem_singleton.mp hb] at y; rw [← y]; exact ha)⟩
        · split
          · omega
          · rw [List.length_append]; show ns.length + 1 ≤ j + 1; omega
        · split at hx
          · exact hm x hx
          · rcases List.mem_append.mp hx with hx | hx
            · exact hm x hx
            · exact ⟨s, List.mem_of_getElem? hs, e, (List.mem_singleton.mp hx).symm⟩
      · exact ⟨hj, ns, sg2, hp, nd, by omega, hm⟩
    · rintro S2 ⟨hj0, ns, sg2, hp, nd, hlen, hm⟩
      have h1 := nd_one nd fun x hx y hy => by
        obtain ⟨s, hs, e1, e2⟩ := hm x hx
        obtain ⟨t, ht, e3, e4⟩ := hm y hy
        rw [← e2, ← e4, hone s hs t ht (e1.trans e3.symm)]
      refine ⟨p, ns, rfl, hp, by omega, _, rfl, iteB (fun e => ?_) (fun _ => ⟨_, rfl, sg1.trans sg2⟩)⟩
      have e : (1 : Int) < (ns.length : Int) := of_decide_eq_true e
      omega
  · rintro env S1 ⟨x2, rfl, sg1⟩
    exact q S1 sg1
noncomputable def endL (rows : List (List Int)) (ss : List (Nat × Nat)) (b : Bool) : List Nat := if b = true then upL rows (lowL rows ss) else hiL rows ss
theorem w_line {rows : List (List Int)} {many most : Nat} {ss : List (Nat × Nat)} {b : Bool} {S : Sto} {R : DK} (hG : Good many most rows) (h6 : many ≤ 6) (h60 : most ≤ 60) (hc : Ch rows ss) (hb : ∀ s ∈ ss, s.1 < 64 ∧ s.2 < 64) (hl : ss.length < 64) (ht : ∃ L, Thru rows ss L)
    (q : ∀ S', SG S S' → R (.tup (natD (endL rows ss b))) S') : dFn 7 B_line_through_9b5f [.tup (rowsD rows), .bl b, .wtup (ss.map stD)] S R := by
  have rl := hG.len
  have dl := (dual hG h6 h60 hc).mp ht
  refine ⟨_, rfl, _, rfl, rfl, w_two (by omega) (by omega) hc.one fun S1 sg1 => ?_⟩
  refine ⟨_, rfl, _, rfl, goF ?_⟩
  refine ⟨_, rfl, _, rfl, rfl, w_pair hG h6 h60 (.inr rfl) hb hl (fun a b S2 sg2 hz => ?_) (fun S2 sg2 hno => ?_)⟩
  · obtain ⟨ms, z⟩ := hz.zz
    exact absurd z (dl a hz.one b hz.two ms)
  refine ⟨_, rfl, _, rfl, goF ?_⟩
  refine ⟨_, rfl, _, rfl, rfl, w_limits (by omega) hc.lt (.inr rfl) fun S3 sg3 => ⟨_, rfl, .inl (.inl rfl), _, _, rfl, _, _, rfl, rfl, ?_⟩⟩
  refine ⟨_, rfl, b, rfl, ?_⟩
  cases b with
  | true =>
    refine goT ⟨_, rfl, rfl, w_trips hG h6 h60 fun S4 sg4 => ⟨_, rfl, rfl, w_raised hG h6 h60 (lowL_len rows ss) fun S5 sg5 => ?_⟩⟩
    exact q S5 ((((sg1.trans sg2).trans sg3).trans sg4).trans sg5)
  | false =>
    refine goF ⟨_, rfl, rfl, w_trips hG h6 h60 fun S4 sg4 => ⟨_, rfl, rfl, w_loweredT (high := highL rows ss) hG h6 h60 rfl (highL_len rows ss) fun cs S5 sg5 hcs => ?_⟩⟩
    have := q S5 ((((sg1.trans sg2).trans sg3).trans sg4).trans sg5)
    rw [hcs.unique (hi_low rows ss)]
    exact this
end Sv
set_option maxHeartbeats 800000
set_option autoImplicit false
namespace Sv
open PySem PySem.Spec PyProof.Rows L2
theorem w_orphT {p k p' k' c c' : Nat} {cs : List Nat} {S : Sto} {R : DK} (hc : cs[p]? = some c) (hc' : cs[p']? = some c') (q : R (.bl (decide (k' < c') && decide (c ≤ k))) S) :
    dFn 6 B_is_orphan_8604 [.tup [hpD (some (p, k)), hpD (some (p', k'))], cutD' cs] S R := by
  refine ⟨_, rfl, _, rfl, .inl (.inl rfl), _, _, rfl, ⟨_, rfl, .inl (.inl rfl), _, _, rfl, _, _, rfl, rfl, _, _, rfl, ⟨_, rfl, .inl (.inl rfl), _, _, rfl, _, _, rfl, rfl, rfl, ?_⟩⟩⟩
  refine ⟨_, rfl, _, rfl, _, rfl, _, _, _, rfl, rfl, atI_nat (natD_at hc'), _, rfl, iteB (fun h1 => ?_) (fun h1 => ?_)⟩
  · have h1 : k' < c' := by
      have := of_decide_eq_true h1
      omega
    refine ⟨_, rfl, _, rfl, _, rfl, _, _, _, rfl, rfl, atI_nat (natD_at hc), ?_⟩
    rw [decide_eq_true h1, Bool.true_and] at q
    have : decide ((c : Int) ≤ (k : Int)) = decide (c ≤ k) := decide_eq_decide.mpr (by omega)
    show R (.bl (decide ((c : Int) ≤ (k : Int)))) S
    rw [this]
    exact q
  · have h1 : ¬ k' < c' := by
      have := of_decide_eq_false h1
      omega
    rw [decide_eq_false h1, Bool.false_and] at q
    exact q
end Sv
set_option maxHeartbeats 400000
namespace Sv
open PySem L2
/-- the states that can be deleted -/
def delU (rows : List (List Int)) (us : List (Int × Int)) : List (Int × Int) := (allU rows rows.length).filter fun x => decide (x.2 < ((((prs rows)[x.1.toNat]?).getD 0 : Nat) : Int)) && decide (x ∉ us)
theorem fm_ite {α β : Type} (g : α → β) (c : α → Bool) : ∀ l : List α, l.filterMap (fun x => if c x = true then some (g x) else none) = (l.filter c).map g
  | [] => rfl
  | a :: l => by
    rw [List.filterMap_cons, List.filter_cons]
    by_cases z : c a = true
    · simp only [z, if_true, List.map_cons, fm_ite g c l]
    · simp only [z, Bool.false_eq_true, if_false, fm_ite g c l]
end Sv
set_option maxHeartbeats 400000
namespace Sv
open PySem L2
theorem SG.none {S S' : Sto} {d : Addr} (h : SG S S') (n : S' d = none) : S d = none := by
  cases e : S d with
  | none => rfl
  | some o => rw [h _ _ (fun z => z) e] at n; cases n
end Sv
set_option maxHeartbeats 400000
namespace Sv
open PySem L2
/-- the history goes on -/
def Ext' (rows rows' : List (List Int)) : Prop := rows.length = rows'.length ∧ ∀ (i : Nat) (r r' : List Int), rows[i]? = some r → rows'[i]? = some r' → r <+: r'
theorem Ext'.refl (rows : List (List Int)) : Ext' rows rows := ⟨rfl, fun i r r' h1 h2 => by rw [h1] at h2; cases h2; exact List.prefix_rfl⟩
theorem Ext'.trans {a b c : List (List Int)} (x : Ext' a b) (y : Ext' b c) : Ext' a c := ⟨x.1.trans y.1, fun i r r' h1 h2 => by
  have hi : i < b.length := by rw [← x.1]; exact (List.getElem?_eq_some_iff.mp h1).1
  exact (x.2 i r _ h1 (List.getElem?_eq_getElem hi)).trans (y.2 i _ r' (List.getElem?_eq_getElem hi) h2)⟩
theorem Ext'.row {rows rows' : List (List Int)} (x : Ext' rows rows') {i : Nat} {r : List Int} (h : rows[i]? = some r) : ∃ r', rows'[i]? = some r' ∧ r <+: r' := by
  have hi : i < rows'.length := by rw [← x.1]; exact (List.getElem?_eq_some_iff.mp h).1
  exact ⟨_, List.getElem?_eq_getElem hi, x.2 i r _ h (List.getElem?_eq_getElem hi)⟩
theorem hap_inv {rows : List (List Int)} {e : Int} {p k : Nat} (h : hap rows e = some (p, k)) : ∃ row i, rows[p]? = some row ∧ row[i]? = some e ∧ k = (row.take i).count 0 := by
  rcases spot_hap (e := e) (rs := rows) (p := 0) with ⟨_, z⟩ | ⟨p', row, z1, z2, _, z4⟩
  · unfold hap at h
    rw [z] at h
    cases h
  · unfold hap at h
    rw [z4, Nat.zero_add] at h
    cases h
    have hk := List.idxOf_lt_length_iff.mpr z2
    exact ⟨row, row.idxOf e, z1, by rw [List.getElem?_eq_getElem hk]; exact congrArg some (List.getElem_idxOf hk), rfl⟩
theorem hap_le {rows : List (List Int)} {e : Int} {p k : Nat} {row : List Int} (h : hap rows e = some (p, k)) (hr : rows[p]? = some row) : k ≤ row.count 0 := by
  obtain ⟨row', i, h1, h2, rfl⟩ := hap_inv h
  rw [hr] at h1
  cases h1
  exact List.Sublist.count_le _ (List.take_sublist ..)
end Sv
set_option maxHeartbeats 400000
set_option maxHeartbeats 400000
set_option maxHeartbeats 400000
set_option maxHeartbeats 400000
namespace Sv
open PySem L2
theorem GF.of {S : Sto} {st big t f : Addr} {nm : List Int} {rows : List (List Int)} {o : List (Int × Int)} {u : Nat} {sh : Int} (h : GS S st big t nm rows o u sh) (n : S f = none) : GF S t f := by
  obtain ⟨N, O, h1, h2, h3, h4, h5, h6⟩ := h
  refine ⟨fun z => (by rw [z, n] at h1; cases h1), fun N2 O2 r s e => ?_⟩
  rw [h1] at e
  cases e
  exact ⟨fun z => (by rw [← z, n] at h2; cases h2), fun z => (by rw [← z, n] at h3; cases h3)⟩
theorem GF.keep {S S' : Sto} {P : Addr → Prop} {st big t f : Addr} {nm : List Int} {rows : List (List Int)} {o : List (Int × Int)} {u : Nat} {sh : Int} (h : GS S st big t nm rows o u sh) (g : GF S t f) (k : SK (DP st big) S S') : GF S' t f := by
  obtain ⟨N, O, h1, h2, h3, h4, h5, h6⟩ := h
  refine ⟨g.1, fun N2 O2 r s e => ?_⟩
  rw [k _ _ (nDP h6) h1] at e
  cases e
  exact g.2 _ _ _ _ h1
end Sv
set_option maxHeartbeats 400000
set_option maxHeartbeats 400000
namespace Sv
open PySem L2
/-- the row without the saves that d names; n saves stood before it -/
def thin (d : Nat → Bool) : Nat → List Int → List Int
  | _, [] => []
  | n, e :: r => if e = 0 then (if d (n + 1) = true then thin d (n + 1) r else 0 :: thin d (n + 1) r) else e :: thin d n r
/-- the kept ones among the saves n + 1 .. n + m -/
def keptN (d : Nat → Bool) (n m : Nat) : List Nat := ((List.range m).map fun i => n + 1 + i).filter fun i => !d i
theorem keptN_succ (d : Nat → Bool) (n m : Nat) : keptN d n (m + 1) = (if d (n + 1) = true then [] else [n + 1]) ++ keptN d (n + 1) m := by
  unfold keptN
  rw [List.range_succ_eq_map, List.map_cons, List.filter_cons, List.map_map]
  have e : ((fun i => n + 1 + i) ∘ Nat.succ) = fun i => n + 1 + 1 + i := by
    funext i
    show n + 1 + (i + 1) = _
    omega
  rw [e]
  cases h : d (n + 1) with
  | true => simp [h]
  | false => simp [h]
theorem thin_mem {d : Nat → Bool} {e : Int} (he : e ≠ 0) : ∀ (n : Nat) (r : List Int), e ∈ thin d n r ↔ e ∈ r
  | _, [] => Iff.rfl
  | n, x :: r => by
    unfold thin
    by_cases z : x = 0
    · subst z
      rw [if_pos rfl]
      have : e ∈ (0 : Int) :: r ↔ e ∈ r := by
        rw [List.mem_cons]
        exact ⟨fun h => h.elim (fun h => absurd h he) id, .inr⟩
      rw [this]
      split
      · exact thin_mem he (n + 1) r
      · rw [List.mem_cons, thin_mem he (n + 1) r]
        exact ⟨fun h => h.elim (fun h => absurd h he) id, .inr⟩
    · rw [if_neg z, List.mem_cons, List.mem_cons, thin_mem he n r]
theorem idx_ne {x e : Int} {r : List Int} (h : ¬ x = e) : (x :: r).idxOf e = r.idxOf e + 1 := by
  rw [List.idxOf_cons, beq_false_of_ne h]
  rfl
/-- the saves before an event -/
theorem thin_idx {d : Nat → Bool} {e : Int} (he : e ≠ 0) : ∀ (n : Nat) (r : List Int), e ∈ r → ((thin d n r).take ((thin d n r).idxOf e)).count 0 = (keptN d n ((r.take (r.idxOf e)).count 0)).length
  | _, [], h => by cases h
  | n, x :: r, h => by
    unfold thin
    by_cases z : x = 0
    · subst z
      have hr : e ∈ r := (List.mem_cons.mp h).elim (fun h => absurd h he) id
      have ih := thin_idx (d := d) he (n + 1) r hr
      have i1 : ((0 : Int) :: r).idxOf e = r.idxOf e + 1 := idx_ne (fun z => he z.symm)
      rw [if_pos rfl, i1, List.take_succ_cons, List.count_cons_self, keptN_succ, List.length_append]
      cases hd : d (n + 1) with
      | true => rw [if_pos rfl, if_pos rfl, ih]; simp
      | false =>
        have i2 : ((0 : Int) :: thin d (n + 1) r).idxOf e = (thin d (n + 1) r).idxOf e + 1 := idx_ne (fun z => he z.symm)
        rw [if_neg Bool.false_ne_true, if_neg Bool.false_ne_true, i2, List.take_succ_cons, List.count_cons_self, ih]
        simp
        omega
    · rw [if_neg z]
      by_cases y : x = e
      · subst y
        rw [List.idxOf_cons_self, List.idxOf_cons_self]
        rfl
      · have hr : e ∈ r := (List.mem_cons.mp h).elim (fun h => absurd h.symm y) id
        have ih := thin_idx (d := d) he n r hr
        rw [idx_ne y, idx_ne y, List.take_succ_cons, List.take_succ_cons, List.count_cons_of_ne (by simpa using z), List.count_cons_of_ne (by simpa using z), ih]
/-- all rows without the saves that d names -/
def thinR (d : Nat → Nat → Bool) (rows : List (List Int)) : List (List Int) := rows.mapIdx fun p r => thin (d p) 0 r
theorem hap_thin {d : Nat → Nat → Bool} {rows : List (List Int)} {e : Int} (he : e ≠ 0) : hap (thinR d rows) e = (hap rows e).map fun x => (x.1, (keptN (d x.1) 0 x.2).length) := by
  have go : ∀ (rs : List (List Int)) (p : Nat), hapFrom e p (rs.mapIdx fun i r => thin (d (p + i)) 0 r) = (hapFrom e p rs).map fun x => (x.1, (keptN (d x.1) 0 x.2).length) := by
    intro rs
    induction rs with
    | nil => intro p; rfl
    | cons r rs ih =>
      intro p
      rw [List.mapIdx_cons]
      unfold hapFrom
      rw [Nat.add_zero]
      by_cases z : e ∈ r
      · rw [if_pos ((thin_mem he 0 r).mpr z), if_pos z, thin_idx he 0 r z]
        rfl
      · rw [if_neg (fun h => z ((thin_mem he 0 r).mp h)), if_neg z]
        have e2 : (fun (i : Nat) (r : List Int) => thin (d (p + (i + 1))) 0 r) = fun i r => thin (d (p + 1 + i)) 0 r := by
          funext i r
          rw [show p + (i + 1) = p + 1 + i by omega]
        rw [e2]
        exact ih (p + 1)
  have := go rows 0
  unfold thinR hap
  rw [← this]
  congr 2
  funext i r
  rw [Nat.zero_add]
end Sv
set_option maxHeartbeats 400000
namespace Sv
open PySem L2
theorem name_pos {nm : List Int} (hp : nm.Perm names24) {m : Int} (h : m ∈ nm) : 1 ≤ m := (names_mem.mp (hp.mem_iff.mp h)).1
/-- the numbers of the states that are kept, by their new numbers -/
def namesN (d : Nat → Bool) (m : Nat) : List Nat := 0 :: (keptN d 0 m ++ [m + 1])
theorem keptN_mem {d : Nat → Bool} {n m i : Nat} : i ∈ keptN d n m ↔ n + 1 ≤ i ∧ i ≤ n + m ∧ d i = false := by
  unfold keptN
  rw [List.mem_filter, List.mem_map]
  constructor
  · rintro ⟨⟨j, h1, rfl⟩, h2⟩
    have := List.mem_range.mp h1
    exact ⟨by omega, by omega, by simpa using h2⟩
  · rintro ⟨h1, h2, h3⟩
    exact ⟨⟨i - (n + 1), List.mem_range.mpr (by omega), by omega⟩, by rw [h3]; rfl⟩
theorem keptN_rise (d : Nat → Bool) (n m : Nat) : (keptN d n m).Pairwise (· < ·) := by
  unfold keptN
  refine List.Pairwise.filter _ (List.pairwise_map.mpr ((List.pairwise_lt_range (n := m)).imp fun h => ?_))
  omega
theorem namesN_rise (d : Nat → Bool) (m : Nat) : (namesN d m).Pairwise (· < ·) := by
  unfold namesN
  refine List.pairwise_cons.mpr ⟨fun x hx => ?_, List.pairwise_append.mpr ⟨keptN_rise d 0 m, List.pairwise_singleton _ _, fun x hx y hy => ?_⟩⟩
  · rcases List.mem_append.mp hx with z | z
    · have := keptN_mem.mp z; omega
    · rw [List.mem_singleton.mp z]; omega
  · have := keptN_mem.mp hx
    rw [List.mem_singleton.mp hy]
    omega
theorem keptN_take {d : Nat → Bool} {m k : Nat} (h : k ≤ m) : keptN d 0 k <+: keptN d 0 m := by
  refine ⟨((List.range (m - k)).map fun i => 0 + 1 + (k + i)).filter fun i => !d i, ?_⟩
  unfold keptN
  rw [← List.filter_append]
  congr 1
  have e : List.range m = List.range k ++ (List.range (m - k)).map (k + ·) := by
    conv => lhs; rw [show m = k + (m - k) by omega, List.range_add]
  rw [e, List.map_append, List.map_map]
  rfl
/-- an event stands before a kept state in both histories or in none -/
theorem kept_lt {d : Nat → Bool} {m k c n : Nat} (hk : k ≤ m) (h : (namesN d m)[c]? = some n) : k < n ↔ (keptN d 0 k).length < c := by
  have hpre := keptN_take (d := d) hk
  unfold namesN at h
  cases c with
  | zero =>
    cases h
    exact ⟨fun z => absurd z (Nat.not_lt_zero _), fun z => absurd z (Nat.not_lt_zero _)⟩
  | succ i =>
    rw [List.getElem?_cons_succ] at h
    rcases Nat.lt_or_ge i (keptN d 0 m).length with z | z
    · rw [List.getElem?_append_left z] at h
      rcases Nat.lt_or_ge i (keptN d 0 k).length with y | y
      · have e : (keptN d 0 k)[i]? = some n := by
          obtain ⟨t, ht⟩ := hpre
          rw [← ht, List.getElem?_append_left y] at h
          exact h
        have := keptN_mem.mp (List.mem_of_getElem? e)
        omega
      · obtain ⟨t, ht⟩ := hpre
        rw [← ht, List.getElem?_append_right y] at h
        have h1 : n ∈ t := List.mem_of_getElem? h
        have h2 := keptN_mem.mp (show n ∈ keptN d 0 m by rw [← ht]; exact List.mem_append.mpr (.inr h1))
        have h3 : n ∉ keptN d 0 k := fun w => by
          have pr := keptN_rise d 0 m
          rw [← ht] at pr
          exact Nat.lt_irrefl _ ((List.pairwise_append.mp pr).2.2 n w n h1)
        have h4 : ¬ n ≤ k := fun w => h3 (keptN_mem.mpr ⟨h2.1, by omega, h2.2.2⟩)
        omega
    · rw [List.getElem?_append_right z] at h
      have h2 : i - (keptN d 0 m).length = 0 := by
        have := (List.getElem?_eq_some_iff.mp h).1
        simp at this
        omega
      rw [h2] at h
      cases h
      have := hpre.length_le
      omega
end Sv
set_option maxHeartbeats 400000
namespace Sv
open PySem L2
theorem names_lt {d : Nat → Bool} {m c c' n n' : Nat} (h : (namesN d m)[c]? = some n) (h' : (namesN d m)[c']? = some n') (z : c < c') : n < n' := by
  obtain ⟨h1, h2⟩ := List.getElem?_eq_some_iff.mp h
  obtain ⟨h3, h4⟩ := List.getElem?_eq_some_iff.mp h'
  have := List.pairwise_iff_getElem.mp (namesN_rise d m) c c' h1 h3 z
  omega
theorem names_le {d : Nat → Bool} {m c c' n n' : Nat} (h : (namesN d m)[c]? = some n) (h' : (namesN d m)[c']? = some n') : c ≤ c' ↔ n ≤ n' := by
  constructor
  · intro z
    rcases Nat.lt_or_eq_of_le z with y | y
    · exact Nat.le_of_lt (names_lt h h' y)
    · subst y
      rw [h] at h'
      cases h'
      exact Nat.le_refl _
  · intro z
    rcases Nat.lt_or_ge c' c with y | y
    · have := names_lt h' h y; omega
    · exact y
/-- a line of the smaller history and the line that it names -/
structure Led (d : Nat → Nat → Bool) (rows : List (List Int)) (a b : List Nat) : Prop where
  la : a.length = rows.length
  lb : b.length = rows.length
  at' : ∀ (p : Nat) (row : List Int), rows[p]? = some row → ∃ c n, a[p]? = some c ∧ b[p]? = some n ∧ (namesN (d p) (row.count 0))[c]? = some n
theorem row_of {rows : List (List Int)} {p : Nat} (h : p < rows.length) : ∃ row, rows[p]? = some row := ⟨_, List.getElem?_eq_getElem h⟩
theorem Led.cons {d : Nat → Nat → Bool} {rows : List (List Int)} {a b : List Nat} (h : Led d rows a b) : ConsL (thinR d rows) a ↔ ConsL rows b := by
  have key : ∀ {e : Int} {p k : Nat}, e ≠ 0 → hap rows e = some (p, k) → hap (thinR d rows) e = some (p, (keptN (d p) 0 k).length) := fun {e p k} he h => by
    rw [hap_thin he, h]
    rfl
  have lt : ∀ {e : Int} {p k c n : Nat}, hap rows e = some (p, k) → a[p]? = some c → b[p]? = some n → (k < n ↔ (keptN (d p) 0 k).length < c) := fun {e p k c n} h1 h2 h3 => by
    obtain ⟨row, _, hr, _, _⟩ := hap_inv h1
    obtain ⟨c', n', h4, h5, h6⟩ := h.at' p row hr
    rw [h2] at h4
    rw [h3] at h5
    cases h4
    cases h5
    exact kept_lt (hap_le h1 hr) h6
  constructor
  · intro hc m p k p' k' c c' hm h1 h2 h3 h4 h5
    have ap : ∀ {q : Nat} {x : Nat}, b[q]? = some x → ∃ y, a[q]? = some y := fun {q x} z => ⟨_, List.getElem?_eq_getElem (by rw [h.la, ← h.lb]; exact (List.getElem?_eq_some_iff.mp z).1)⟩
    obtain ⟨y, hy⟩ := ap h3
    obtain ⟨y', hy'⟩ := ap h4
    exact (lt h1 hy h3).mpr (hc m p _ p' _ y y' hm (key (by omega) h1) (key (by omega) h2) hy hy' ((lt h2 hy' h4).mp h5))
  · intro hc m p k p' k' c c' hm h1 h2 h3 h4 h5
    have bp : ∀ {q : Nat} {x : Nat}, a[q]? = some x → ∃ y, b[q]? = some y := fun {q x} z => ⟨_, List.getElem?_eq_getElem (by rw [h.lb, ← h.la]; exact (List.getElem?_eq_some_iff.mp z).1)⟩
    obtain ⟨y, hy⟩ := bp h3
    obtain ⟨y', hy'⟩ := bp h4
    rw [hap_thin (by omega)] at h1 h2
    obtain ⟨⟨q, j⟩, g1, g2⟩ := Option.map_eq_some_iff.mp h1
    obtain ⟨⟨q', j'⟩, g3, g4⟩ := Option.map_eq_some_iff.mp h2
    cases g2
    cases g4
    exact (lt g1 h3 hy).mp (hc m _ j _ j' y y' hm g1 g3 hy hy' ((lt g3 h4 hy').mpr h5))
theorem Led.le {d : Nat → Nat → Bool} {rows : List (List Int)} {a b a' b' : List Nat} (h : Led d rows a b) (g : Led d rows a' b') (hl : LeL b b') : LeL a a' := fun i x y h1 h2 => by
  have hi : i < rows.length := by rw [← h.la]; exact (List.getElem?_eq_some_iff.mp h1).1
  obtain ⟨row, hr⟩ := row_of hi
  obtain ⟨c, n, e1, e2, e3⟩ := h.at' i row hr
  obtain ⟨c', n', e4, e5, e6⟩ := g.at' i row hr
  rw [h1] at e1
  rw [h2] at e4
  cases e1
  cases e4
  exact (names_le e3 e6).mpr (hl i n n' e2 e5)
end Sv
set_option maxHeartbeats 800000
set_option autoImplicit false
set_option maxHeartbeats 1000000
namespace Sv
open PySem L2
/-- before each receipt that stands where g tells so a save; b: a sending stands before without a save behind it -/
def insF (g : Bool → Bool) : Bool → List Int → List Int
  | _, [] => []
  | b, e :: r => (if decide (e < 0) && g b then [0] else []) ++ e :: insF g (decide (0 < e)) r
def lastF : Bool → List Int → Bool
  | b, [] => b
  | _, e :: r => lastF (decide (0 < e)) r
theorem insF_snoc (g : Bool → Bool) (e : Int) : ∀ (b : Bool) (r : List Int), insF g b (r ++ [e]) = insF g b r ++ (if decide (e < 0) && g (lastF b r) then [0] else []) ++ [e]
  | b, [] => by
    show (if decide (e < 0) && g b then [0] else []) ++ e :: [] = [] ++ (if decide (e < 0) && g b then [0] else []) ++ [e]
    rw [List.nil_append]
  | b, x :: r => by
    show (if decide (x < 0) && g b then [0] else []) ++ x :: insF g (decide (0 < x)) (r ++ [e]) = ((if decide (x < 0) && g b then [0] else []) ++ x :: insF g (decide (0 < x)) r) ++ (if decide (e < 0) && g (lastF (decide (0 < x)) r) then [0] else []) ++ [e]
    rw [insF_snoc g e (decide (0 < x)) r]
    simp only [List.append_assoc, List.cons_append]
def insR (g : Bool → Bool) (rows : List (List Int)) : List (List Int) := rows.map (insF g false)
theorem insR_at {g : Bool → Bool} {rows : List (List Int)} {p : Nat} {row : List Int} (h : rows[p]? = some row) : (insR g rows)[p]? = some (insF g false row) := by
  unfold insR
  rw [List.getElem?_map, h]
  rfl
theorem insR_set {g : Bool → Bool} {rows : List (List Int)} {p : Nat} {row : List Int} : insR g (rows.set p row) = (insR g rows).set p (insF g false row) := by
  unfold insR
  rw [List.map_set]
theorem Grown.opens_u {c : Nat} {nm : List Int} {r : List (List Int)} {o : List (Int × Int)} {u k : Nat} (h : Grown c nm r o u k) : o.length ≤ u ∧ 2 * u ≤ k + o.length := by
  induction h with
  | start => exact ⟨Nat.le_refl _, Nat.le_refl _⟩
  | skip _ ih => exact ⟨ih.1, by omega⟩
  | save _ _ ih => exact ⟨ih.1, by omega⟩
  | send _ _ _ ih =>
    rw [List.length_append]
    show _ + 1 ≤ _ ∧ 2 * (_ + 1) ≤ _ + (_ + 1)
    exact ⟨by omega, by omega⟩
  | recv _ _ hj _ ih =>
    have := (List.getElem?_eq_some_iff.mp hj).1
    rw [List.length_eraseIdx, if_pos this]
    exact ⟨by omega, by omega⟩
theorem Grown.ins (g : Bool → Bool) {c : Nat} {nm : List Int} {r : List (List Int)} {o : List (Int × Int)} {u k : Nat} (hp : nm.Perm names24) (h : Grown c nm r o u k) : ∃ k', k' + o.length ≤ k + u ∧ Grown c nm (insR g r) o u k' := by
  induction h with
  | start =>
    refine ⟨0, Nat.le_refl _, ?_⟩
    have : insR g (List.replicate c []) = List.replicate c [] := by
      unfold insR
      rw [List.map_replicate]
      rfl
    rw [this]
    exact .start
  | skip h ih =>
    obtain ⟨k', h1, h2⟩ := ih
    exact ⟨k', by omega, h2⟩
  | @save r o u k p row h hr ih =>
    obtain ⟨k', h1, h2⟩ := ih
    refine ⟨k' + 1, by omega, ?_⟩
    rw [insR_set, insF_snoc, decide_eq_false (by decide : ¬ (0 : Int) < 0), Bool.false_and, if_neg Bool.false_ne_true, List.append_nil]
    exact .save h2 (insR_at hr)
  | @send r o u k p row m h hr hm ih =>
    obtain ⟨k', h1, h2⟩ := ih
    have m1 := name_pos hp (List.mem_of_getElem? hm)
    refine ⟨k' + 1, by rw [List.length_append]; show k' + 1 + (o.length + 1) ≤ _; omega, ?_⟩
    rw [insR_set, insF_snoc, decide_eq_false (by omega : ¬ m < 0), Bool.false_and, if_neg Bool.false_ne_true, List.append_nil]
    exact .send h2 (insR_at hr) hm
  | @recv r o u k row j m q p h hr hj hq ih =>
    obtain ⟨k', h1, h2⟩ := ih
    have hjl := (List.getElem?_eq_some_iff.mp hj).1
    have hpl := (List.getElem?_eq_some_iff.mp hr).1
    rw [insR_set, insF_snoc]
    cases hb : (decide (0 - m < 0) && g (lastF false row)) with
    | false =>
      rw [if_neg Bool.false_ne_true, List.append_nil]
      exact ⟨k' + 1, by rw [List.length_eraseIdx, if_pos hjl]; omega, .recv h2 (insR_at hr) hj hq⟩
    | true =>
      rw [if_pos rfl]
      refine ⟨k' + 1 + 1, by rw [List.length_eraseIdx, if_pos hjl]; omega, ?_⟩
      have g1 := Grown.save h2 (insR_at hr)
      have hr2 : ((insR g r).set p (insF g false row ++ [0]))[p]? = some (insF g false row ++ [0]) := List.getElem?_set_self (by unfold insR; rw [List.length_map]; exact hpl)
      have g2 := Grown.recv g1 hr2 hj hq
      rw [List.set_set] at g2
      exact g2
theorem Good.ins {many most : Nat} {rows : List (List Int)} (h : Good many most rows) (g : Bool → Bool) : Good many (most + most / 2) (insR g rows) := by
  obtain ⟨c, nm, o, u, k, h1, h2, h3, h4, h5⟩ := h
  obtain ⟨k', g1, g2⟩ := h4.ins g h3
  have := h4.opens_u
  exact ⟨c, nm, o, u, k', h1, h2, h3, g2, by omega⟩
end Sv
set_option maxHeartbeats 400000
set_option autoImplicit false
set_option maxHeartbeats 400000
set_option autoImplicit false
namespace Sv
open PySem PySem.Spec PyProof.Rows L2
/-- for each process the number of its first state from which no way leads -/
def IsAp (rows : List (List Int)) (nx : Int → Int → Bool) (s : Nat × Nat) (ap : List Nat) : Prop :=
  ap.length = rows.length ∧ ∀ (p n x : Nat), ap[p]? = some x → (n < x ↔ ∃ (m : Int) (k c : Nat), Dz rows nx (rbB rows s) c m ∧ hap rows m = some (p, k) ∧ n ≤ k)
theorem IsAp.unique {rows : List (List Int)} {nx : Int → Int → Bool} {s : Nat × Nat} {a b : List Nat} (h : IsAp rows nx s a) (g : IsAp rows nx s b) : a = b := by
  refine List.ext_getElem (h.1.trans g.1.symm) fun i h1 h2 => ?_
  have e1 := List.getElem?_eq_getElem h1
  have e2 := List.getElem?_eq_getElem h2
  generalize a[i] = x at e1
  generalize b[i] = y at e2
  have key : ∀ n, n < x ↔ n < y := fun n => (h.2 i n x e1).trans (g.2 i n y e2).symm
  have k1 := key x
  have k2 := key y
  omega
theorem natD_app (a b : List Nat) : natD a ++ natD b = natD (a ++ b) := by
  unfold natD
  rw [List.map_append]
theorem cutN_to {cs : List Nat} {i : Nat} (h : i ≤ cs.length) : cutD (natD cs) none (some (i : Int)) = natD (cs.take i) := by
  rw [cutD_to (by rw [natD_len]; exact h)]
  unfold natD
  rw [List.map_take]
theorem cutN_from {cs : List Nat} {i : Nat} (h : i ≤ cs.length) : cutD (natD cs) (some (i : Int)) none = natD (cs.drop i) := by
  rw [cutD_from (by rw [natD_len]; exact h)]
  unfold natD
  rw [List.map_drop]
end Sv
set_option maxHeartbeats 1000000
set_option autoImplicit false
namespace Sv
open PySem PySem.Spec PyProof.Rows L2
/-- before, in the order of tuples of one length -/
def ltX (a b : List Nat) : Prop := ∃ i x y, a.take i = b.take i ∧ a[i]? = some x ∧ b[i]? = some y ∧ x < y
theorem take_at {a b : List Nat} {i j : Nat} (h : a.take i = b.take i) (hj : j < i) : a[j]? = b[j]? := by
  have := congrArg (fun l => l[j]?) h
  simpa [List.getElem?_take, hj] using this
theorem take_less {a b : List Nat} {i j : Nat} (h : a.take i = b.take i) (hj : j ≤ i) : a.take j = b.take j := by
  have := congrArg (fun l => l.take j) h
  simpa [List.take_take, Nat.min_eq_left hj] using this
theorem ltX.irr {a : List Nat} (h : ltX a a) : False := by
  obtain ⟨i, x, y, _, h1, h2, h3⟩ := h
  rw [h1] at h2
  have := Option.some.inj h2
  omega
theorem ltX.asym {a b : List Nat} (h : ltX a b) (g : ltX b a) : False := by
  obtain ⟨i, x, y, e1, h1, h2, h3⟩ := h
  obtain ⟨j, u, v, e2, g1, g2, g3⟩ := g
  rcases Nat.lt_trichotomy i j with z | z | z
  · have := take_at e2 z
    rw [h1, h2] at this
    have := Option.some.inj this
    omega
  · subst z
    rw [h1] at g2
    rw [h2] at g1
    have a1 := Option.some.inj g1
    have a2 := Option.some.inj g2
    omega
  · have := take_at e1 z
    rw [g1, g2] at this
    have := Option.some.inj this
    omega
/-- the first place at which two differ -/
theorem first_diff : ∀ {a b : List Nat}, a.length = b.length → a ≠ b → ∃ i x y, a.take i = b.take i ∧ a[i]? = some x ∧ b[i]? = some y ∧ x ≠ y
  | [], [], _, h => absurd rfl h
  | x :: a, y :: b, hl, h => by
    by_cases e : x = y
    · subst e
      obtain ⟨i, u, v, h1, h2, h3, h4⟩ := first_diff (a := a) (b := b) (by simpa using hl) (fun z => h (by rw [z]))
      exact ⟨i + 1, u, v, by rw [List.take_succ_cons, List.take_succ_cons, h1], by simpa using h2, by simpa using h3, h4⟩
    · exact ⟨0, x, y, rfl, rfl, rfl, e⟩
theorem le_ltX {a b : List Nat} (hl : a.length = b.length) (h : LeL a b) : a = b ∨ ltX a b := by
  by_cases e : a = b
  · exact .inl e
  · obtain ⟨i, x, y, h1, h2, h3, h4⟩ := first_diff hl e
    have := h i x y h2 h3
    exact .inr ⟨i, x, y, h1, h2, h3, by omega⟩
/-- what comes next in an ascending list -/
theorem next_of {L ds rest : List (List Nat)} {a c : List Nat} (hp : L.Pairwise ltX) (e : L = ds ++ a :: rest) (hc : c ∈ L) (h1 : ltX a c) (h2 : ∀ d ∈ L, ltX a d → d = c ∨ ltX c d) : ∃ r, rest = c :: r := by
  subst e
  obtain ⟨p1, p2, p3⟩ := List.pairwise_append.mp hp
  have p4 := List.pairwise_cons.mp p2
  have hcr : c ∈ rest := by
    rcases List.mem_append.mp hc with z | z
    · exact (h1.asym (p3 c z a (List.mem_cons_self ..))).elim
    · rcases List.mem_cons.mp z with z | z
      · subst z; exact h1.irr.elim
      · exact z
  cases rest with
  | nil => cases hcr
  | cons r rs =>
    rcases List.mem_cons.mp hcr with z | z
    · exact ⟨rs, by rw [z]⟩
    · have hr : ltX r c := (List.pairwise_cons.mp p4.2).1 c z
      rcases h2 r (List.mem_append_right _ (List.mem_cons_of_mem _ (List.mem_cons_self ..))) (p4.1 r (List.mem_cons_self ..)) with y | y
      · subst y; exact hr.irr.elim
      · exact (hr.asym y).elim
theorem none_of {L ds rest : List (List Nat)} {a : List Nat} (hp : L.Pairwise ltX) (e : L = ds ++ a :: rest) (h : ∀ d ∈ L, ¬ ltX a d) : rest = [] := by
  subst e
  obtain ⟨p1, p2, p3⟩ := List.pairwise_append.mp hp
  have p4 := List.pairwise_cons.mp p2
  cases rest with
  | nil => rfl
  | cons r rs => exact absurd (p4.1 r (List.mem_cons_self ..)) (h r (List.mem_append_right _ (List.mem_cons_of_mem _ (List.mem_cons_self ..))))
theorem head_of {L : List (List Nat)} {c : List Nat} (hp : L.Pairwise ltX) (hc : c ∈ L) (h2 : ∀ d ∈ L, d = c ∨ ltX c d) : ∃ r, L = c :: r := by
  cases L with
  | nil => cases hc
  | cons r rs =>
    rcases List.mem_cons.mp hc with z | z
    · exact ⟨rs, by rw [z]⟩
    · have hr : ltX r c := (List.pairwise_cons.mp hp).1 c z
      rcases h2 r (List.mem_cons_self ..) with y | y
      · subst y; exact hr.irr.elim
      · exact (hr.asym y).elim
theorem cutsU_asc {rows : List (List Int)} : ∀ i, (cutsU rows i).Pairwise ltX
  | 0 => List.pairwise_singleton ..
  | i + 1 => by
    have ih := cutsU_asc (rows := rows) i
    have hl := fun c hc => cutsU_each (rows := rows) i c hc
    show ((cutsU rows i).flatMap _).Pairwise ltX
    generalize cutsU rows i = C at ih hl
    induction C with
    | nil => exact List.Pairwise.nil
    | cons c C ihC =>
      obtain ⟨h1, h2⟩ := List.pairwise_cons.mp ih
      rw [List.flatMap_cons]
      refine List.pairwise_append.mpr ⟨?_, ihC h2 fun d hd => hl d (List.mem_cons_of_mem _ hd), fun x hx y hy => ?_⟩
      · rw [List.pairwise_map]
        refine List.pairwise_lt_range.imp fun {n m} h => ⟨c.length, n, m, ?_, ?_, ?_, h⟩
        · rw [List.take_left, List.take_left]
        · rw [List.getElem?_append_right (Nat.le_refl _), Nat.sub_self]; rfl
        · rw [List.getElem?_append_right (Nat.le_refl _), Nat.sub_self]; rfl
      · obtain ⟨n, _, rfl⟩ := List.mem_map.mp hx
        obtain ⟨d, hd, hy⟩ := List.mem_flatMap.mp hy
        obtain ⟨m, _, rfl⟩ := List.mem_map.mp hy
        obtain ⟨j, u, v, e1, e2, e3, e4⟩ := h1 d hd
        have j1 := (List.getElem?_eq_some_iff.mp e2).1
        have j2 := (List.getElem?_eq_some_iff.mp e3).1
        refine ⟨j, u, v, ?_, ?_, ?_, e4⟩
        · rw [List.take_append_of_le_length (Nat.le_of_lt j1), List.take_append_of_le_length (Nat.le_of_lt j2), e1]
        · rw [List.getElem?_append_left j1, e2]
        · rw [List.getElem?_append_left j2, e3]
theorem linesU_asc {rows : List (List Int)} : (linesU rows).Pairwise ltX := (cutsU_asc rows.length).filter _
/-- consistent lines that agree with a line ahead of p, are greater at p, and lie between -/
structure Bx (rows : List (List Int)) (low high line : List Nat) (p : Nat) (d : List Nat) : Prop where
  len : d.length = rows.length
  cons : ConsL rows d
  ge : LeL (line.take p ++ (line.getD p 0 + 1) :: low.drop (p + 1)) d
  le : LeL d (line.take p ++ high.drop p)
theorem bx_iff {rows : List (List Int)} {low high line d : List Nat} {p : Nat} (hd : d.length = rows.length) (hl : line.length = rows.length) (h1 : low.length = rows.length) (h2 : high.length = rows.length) (hp : p < rows.length) :
    (LeL (line.take p ++ (line.getD p 0 + 1) :: low.drop (p + 1)) d ∧ LeL d (line.take p ++ high.drop p)) ↔ d.take p = line.take p ∧ (∀ x y, line[p]? = some x → d[p]? = some y → x < y) ∧ (∀ i x y, p < i → low[i]? = some x → d[i]? = some y → x ≤ y) ∧ (∀ i x y, p ≤ i → d[i]? = some x → high[i]? = some y → x ≤ y) := by
  have tl : (line.take p).length = p := by rw [List.length_take, hl]; omega
  have a1 : ∀ i, i < p → (line.take p ++ (line.getD p 0 + 1) :: low.drop (p + 1))[i]? = line[i]? := fun i hi => by
    rw [List.getElem?_append_left (by omega), List.getElem?_take, if_pos hi]
  have a2 : (line.take p ++ (line.getD p 0 + 1) :: low.drop (p + 1))[p]? = some (line.getD p 0 + 1) := by
    rw [List.getElem?_append_right (by omega), tl, Nat.sub_self]; rfl
  have a3 : ∀ i, p < i → (line.take p ++ (line.getD p 0 + 1) :: low.drop (p + 1))[i]? = low[i]? := fun i hi => by
    rw [List.getElem?_append_right (by omega), tl]
    obtain ⟨k, hk⟩ : ∃ k, i - p = k + 1 := ⟨i - p - 1, by omega⟩
    rw [hk, List.getElem?_cons_succ, List.getElem?_drop]
    congr 1
    omega
  have b1 : ∀ i, i < p → (line.take p ++ high.drop p)[i]? = line[i]? := fun i hi => by
    rw [List.getElem?_append_left (by omega), List.getElem?_take, if_pos hi]
  have b2 : ∀ i, p ≤ i → (line.take p ++ high.drop p)[i]? = high[i]? := fun i hi => by
    rw [List.getElem?_append_right (by omega), tl, List.getElem?_drop]
    congr 1
    omega
  constructor
  · rintro ⟨g1, g2⟩
    refine ⟨List.ext_getElem? fun i => ?_, fun x y e1 e2 => ?_, fun i x y hi e1 e2 => g1 i x y (by rw [a3 i hi]; exact e1) e2, fun i x y hi e1 e2 => g2 i x y e1 (by rw [b2 i hi]; exact e2)⟩
    · rw [List.getElem?_take, List.getElem?_take]
      by_cases hi : i < p
      · rw [if_pos hi, if_pos hi]
        have q1 := List.getElem?_eq_getElem (l := line) (i := i) (by omega)
        have q2 := List.getElem?_eq_getElem (l := d) (i := i) (by omega)
        have r1 := g1 i _ _ ((a1 i hi).trans q1) q2
        have r2 := g2 i _ _ q2 ((b1 i hi).trans q1)
        rw [q1, q2, Nat.le_antisymm r2 r1]
      · rw [if_neg hi, if_neg hi]
    · have := g1 p _ _ a2 e2
      rw [getD_of e1] at this
      omega
  · rintro ⟨g1, g2, g3, g4⟩
    constructor
    · intro i x y e1 e2
      rcases Nat.lt_trichotomy i p with z | z | z
      · rw [a1 i z] at e1
        have := take_at g1 z
        rw [e1, e2] at this
        have := Option.some.inj this
        omega
      · subst z
        rw [a2] at e1
        have q1 := List.getElem?_eq_getElem (l := line) (i := i) (by omega)
        have := g2 _ _ q1 e2
        rw [getD_of q1] at e1
        have := Option.some.inj e1
        omega
      · rw [a3 i z] at e1
        exact g3 i x y z e1 e2
    · intro i x y e1 e2
      rcases Nat.lt_or_ge i p with z | z
      · rw [b1 i z] at e2
        have := take_at g1 z
        rw [e1, e2] at this
        have := Option.some.inj this
        omega
      · rw [b2 i z] at e2
        exact g4 i x y z e1 e2
theorem slN_to {l : List Nat} {x : Nat} {S : Sto} {R : DK} (h : x ≤ l.length) (q : R (.tup (natD (l.take x))) S) : rSlq (.tup (natD l)) none (some (x : Int)) S R := by
  show R (.tup (cutD (natD l) none (some (x : Int)))) S
  rw [cutN_to h]
  exact q
theorem slN_from {l : List Nat} {x : Nat} {i : Int} {S : Sto} {R : DK} (e : i = (x : Int)) (h : x ≤ l.length) (q : R (.tup (natD (l.drop x))) S) : rSlq (.tup (natD l)) (some i) none S R := by
  subst e
  show R (.tup (cutD (natD l) (some (x : Int)) none)) S
  rw [cutN_from h]
  exact q
/-- what line_after returns -/
structure Aft1 (rows : List (List Int)) (low high line : List Nat) (c : List Nat) (p : Nat) : Prop where
  lt : p < rows.length
  bx : Bx rows low high line p c
  least : ∀ d, Bx rows low high line p d → LeL c d
  no : ∀ q, p < q → q < rows.length → ∀ d, ¬ Bx rows low high line q d
theorem w_after {rows : List (List Int)} {many most : Nat} {low high line : List Nat} {S : Sto} {R : DK} (hG : Good many most rows) (h6 : many ≤ 6) (h60 : most ≤ 60) (h1 : low.length = rows.length) (h2 : high.length = rows.length) (hl : line.length = rows.length)
    (q1 : ∀ c p S', SG S S' → Aft1 rows low high line c p → R (.tup (natD c)) S') (q2 : ∀ S', SG S S' → (∀ p, p < rows.length → ∀ d, ¬ Bx rows low high line p d) → R .non S') :
    dFn 8 B_line_after_0f35 [tripsD rows, .tup (natD low), .tup (natD high), .tup (natD line)] S R := by
  have rl := hG.len
  have en : (((natD line).length : Nat) : Int) = (rows.length : Int) := by rw [natD_len, hl]
  refine ⟨_, rfl, _, _, rfl, rfl, _, rfl, by rw [en]; omega, by rw [en]; omega, ?_⟩
  rw [en]
  have e3 : (((rows.length : Nat) : Int) - 0).toNat = rows.length := by omega
  rw [e3]
  have il : (dnD (0 + ((rows.length : Nat) : Int) - 1) rows.length).length = rows.length := by simp [dnD]
  refine ⟨fun i env S' => SG S S' ∧ i ≤ rows.length ∧ (∃ x4 x5 x6 x7 : Option D, env = [some (tripsD rows), some (.tup (natD low)), some (.tup (natD high)), some (.tup (natD line)), x4, x5, x6, x7]) ∧ ∀ p, rows.length - i ≤ p → p < rows.length → ∀ d, ¬ Bx rows low high line p d,
    ⟨.refl _, Nat.zero_le _, ⟨_, _, _, _, rfl⟩, fun p hp hp' => by omega⟩, fun _ _ _ _ _ => True.intro, ?_, ?_⟩
  · rintro i d env S1 hd ⟨sg1, hi, ⟨x4, x5, x6, x7, rfl⟩, hno⟩
    have hi' : i < rows.length := by rw [← il]; exact (List.getElem?_eq_some_iff.mp hd).1
    have ed : d = .int ((rows.length - 1 - i : Nat) : Int) := by
      unfold dnD at hd
      rw [List.getElem?_map, List.getElem?_range hi'] at hd
      have := (Option.some.inj hd).symm
      rw [this]
      show D.int (0 + ((rows.length : Nat) : Int) - 1 + ((i : Nat) : Int) * (-1)) = _
      congr 1
      omega
    subst ed
    obtain ⟨p, hp⟩ : ∃ p, p = rows.length - 1 - i := ⟨_, rfl⟩
    rw [← hp]
    have hpl : p < rows.length := by omega
    have e1 := List.getElem?_eq_getElem (l := line) (i := p) (by omega)
    have e2 := List.getElem?_eq_getElem (l := high) (i := p) (by omega)
    generalize line[p]'(by omega) = x at e1
    generalize high[p]'(by omega) = y at e2
    refine ⟨_, rfl, _, rfl, _, (p : Int), _, rfl, rfl, atI_nat (natD_at e1), _, rfl, _, rfl, _, (p : Int), _, rfl, rfl, atI_nat (natD_at e2), _, rfl, ?_⟩
    refine iteB (fun h => ?_) fun h => ?_
    · have h : x < y := by have := of_decide_eq_true h; omega
      have gx : line.getD p 0 = x := getD_of e1
      refine ⟨_, rfl, _, rfl, _, rfl, ?_⟩
      refine slN_to (l := line) (x := p) (by omega) ?_
      refine ⟨_, rfl, _, rfl, _, rfl, _, (p : Int), _, rfl, rfl, atI_nat (natD_at e1), rfl, ⟨by rw [natD_len, List.length_take]; exact Nat.le_trans (Nat.add_le_add_right (Nat.min_le_left ..) _) (by show p + 1 ≤ _; omega), _, rfl, _, rfl, _, rfl, ?_⟩⟩
      dsimp only [dNoP]
      refine slN_from (l := low) (x := p + 1) ?_ (by omega) ?_
      · omega
      have eA : natD (line.take p) ++ [D.int (((x : Nat) : Int) + 1)] ++ natD (low.drop (p + 1)) = natD (line.take p ++ (line.getD p 0 + 1) :: low.drop (p + 1)) := by
        rw [gx, ← natD_app, List.append_assoc]
        rfl
      have lA : (line.take p ++ (line.getD p 0 + 1) :: low.drop (p + 1)).length = rows.length := by
        rw [List.length_append, List.length_take, List.length_cons, List.length_drop]; omega
      refine ⟨by have := congrArg List.length eA; rw [List.length_append, natD_len (line.take p ++ _), lA] at this; omega, ?_⟩
      rw [eA]
      have lB : (line.take p ++ high.drop p).length = rows.length := by
        rw [List.length_append, List.length_take, List.length_drop]; omega
      refine ⟨_, rfl, _, rfl, _, rfl, _, rfl, _, rfl, _, rfl, ?_⟩
      dsimp only [dNoP]
      refine slN_from (l := high) (x := p) rfl (by omega) ?_
      refine ⟨by rw [natD_len, natD_len, List.length_take, List.length_drop]; omega, ?_⟩
      rw [natD_app]
      have u := up_is hG h6 h60 (line.take p ++ (line.getD p 0 + 1) :: low.drop (p + 1))
      refine ⟨rfl, w_between hG h6 h60 lA lB (fun S2 sg2 hle => ⟨_, rfl, _, rfl, goT ⟨_, rfl, q1 _ p S2 (sg1.trans sg2) ⟨hpl, ⟨u.len.trans lA, u.cons, u.ge, hle⟩, fun d hb => u.bot d (hb.len.trans lA.symm) hb.ge hb.cons, fun q hq hq' => hno q (by omega) hq'⟩⟩⟩) fun S2 sg2 hle => ⟨_, rfl, _, rfl, goF ⟨sg1.trans sg2, hi', ⟨_, _, _, _, rfl⟩, fun q hq hq' => ?_⟩⟩⟩
      by_cases z : q = p
      · subst z
        intro d hb
        refine hle fun i x y g1 g2 => ?_
        have hil : i < d.length := by rw [hb.len, ← lB]; exact (List.getElem?_eq_some_iff.mp g2).1
        have e := List.getElem?_eq_getElem hil
        have a1 := u.bot d (hb.len.trans lA.symm) hb.ge hb.cons _ _ _ g1 e
        have a2 := hb.le _ _ _ e g2
        omega
      · exact hno q (by omega) hq'
    · have h : ¬ x < y := fun z => by have h : decide ((x : Int) < (y : Int)) = false := h; rw [decide_eq_true (by omega)] at h; cases h
      refine ⟨sg1, hi', ⟨_, _, _, _, rfl⟩, fun q hq hq' => ?_⟩
      by_cases z : q = p
      · subst z
        intro d hb
        obtain ⟨b1, b2, b3, b4⟩ := (bx_iff hb.len hl h1 h2 hpl).mp ⟨hb.ge, hb.le⟩
        have e3 := List.getElem?_eq_getElem (l := d) (i := q) (by rw [hb.len]; omega)
        have := b2 _ _ e1 e3
        have := b4 _ _ _ (Nat.le_refl _) e3 e2
        omega
      · exact hno q (by omega) hq'
  · rintro env S1 ⟨sg1, hi, ⟨x4, x5, x6, x7, rfl⟩, hno⟩
    exact q2 S1 sg1 fun p hp => hno p (by rw [il]; omega) hp
def Aft (rows : List (List Int)) (low high line : List Nat) : Option (List Nat) → Prop
  | some c => ∃ p, Aft1 rows low high line c p
  | none => ∀ p, p < rows.length → ∀ d, ¬ Bx rows low high line p d
theorem w_after2 {rows : List (List Int)} {many most : Nat} {low high line : List Nat} {S : Sto} {R : DK} (hG : Good many most rows) (h6 : many ≤ 6) (h60 : most ≤ 60) (h1 : low.length = rows.length) (h2 : high.length = rows.length) (hl : line.length = rows.length)
    (q : ∀ o S', SG S S' → Aft rows low high line o → R (optD o) S') : dFn 8 B_line_after_0f35 [tripsD rows, .tup (natD low), .tup (natD high), .tup (natD line)] S R :=
  w_after hG h6 h60 h1 h2 hl (fun c p S' sg h => q (some c) S' sg ⟨p, h⟩) fun S' sg h => q none S' sg h
theorem w_between2 {rows : List (List Int)} {many most : Nat} {low high : List Nat} {S : Sto} {R : DK} (hG : Good many most rows) (h6 : many ≤ 6) (h60 : most ≤ 60) (hl : low.length = rows.length) (hh : high.length = rows.length)
    (q : ∀ (o : Option (List Nat)) S', SG S S' → (∀ c, o = some c → c = upL rows low ∧ LeL c high) → (o = none → ¬ LeL (upL rows low) high) → R (optD o) S') : dFn 6 B_least_between_066e [tripsD rows, .tup (natD low), .tup (natD high)] S R :=
  w_between hG h6 h60 hl hh (fun S' sg h => q (some (upL rows low)) S' sg (fun c e => by cases e; exact ⟨rfl, h⟩) fun e => nomatch e) fun S' sg h => q none S' sg (fun c e => nomatch e) fun _ => h
/-- what comes first -/
theorem thru_first {rows : List (List Int)} {many most : Nat} {ss : List (Nat × Nat)} (hG : Good many most rows) (h6 : many ≤ 6) (h60 : most ≤ 60) (hs : ∀ s ∈ ss, s.1 < rows.length) {o : Option (List Nat)}
    (q1 : ∀ c, o = some c → c = upL rows (lowL rows ss) ∧ LeL c (highL rows ss)) (q2 : o = none → ¬ LeL (upL rows (lowL rows ss)) (highL rows ss)) : o = ((linesU rows).filter (onB ss)).head? := by
  have asc : ((linesU rows).filter (onB ss)).Pairwise ltX := linesU_asc.filter _
  cases o with
  | none =>
    have : ¬ ∃ L, Thru rows ss L := fun z => q2 rfl ((thru_up hG h6 h60 hs).mp z)
    cases e : (linesU rows).filter (onB ss) with
    | nil => rfl
    | cons a r => exact absurd ⟨a, hold_mem.mp (by rw [e]; exact List.mem_cons_self ..)⟩ this
  | some c =>
    obtain ⟨rfl, h⟩ := q1 c rfl
    have u := up_is hG h6 h60 (lowL rows ss)
    have hm := hold_mem.mpr ((thru_iff hs).mpr ⟨u.len.trans (lowL_len rows ss), u.cons, u.ge, h⟩)
    obtain ⟨r, hr⟩ := head_of asc hm fun d hd => by
      obtain ⟨a1, a2, a3, a4⟩ := (thru_iff hs).mp (hold_mem.mp hd)
      have hle := u.bot d (a1.trans (lowL_len rows ss).symm) a3 a2
      rcases le_ltX (u.len.trans ((lowL_len rows ss).trans a1.symm)) hle with z | z
      · exact .inl z.symm
      · exact .inr z
    rw [hr]
    rfl
theorem thru_next {rows : List (List Int)} {ss : List (Nat × Nat)} (hs : ∀ s ∈ ss, s.1 < rows.length) {done rest : List (List Nat)} {a : List Nat} {o : Option (List Nat)} (e : (linesU rows).filter (onB ss) = done ++ a :: rest)
    (h : Aft rows (lowL rows ss) (highL rows ss) a o) : o = rest.head? := by
  have asc : ((linesU rows).filter (onB ss)).Pairwise ltX := linesU_asc.filter _
  have ha := (thru_iff hs).mp (hold_mem.mp (by rw [e]; exact List.mem_append_right _ (List.mem_cons_self ..)))
  obtain ⟨al, ac, ag, ah⟩ := ha
  have inBx : ∀ d, d ∈ (linesU rows).filter (onB ss) → ∀ (i x y : Nat), a.take i = d.take i → a[i]? = some x → d[i]? = some y → x < y → Bx rows (lowL rows ss) (highL rows ss) a i d := fun d hd i x y g1 g2 g3 g4 => by
    obtain ⟨a1, a2, a3, a4⟩ := (thru_iff hs).mp (hold_mem.mp hd)
    have hi : i < rows.length := by rw [← al]; exact (List.getElem?_eq_some_iff.mp g2).1
    obtain ⟨b1, b2⟩ := (bx_iff a1 al (lowL_len rows ss) (highL_len rows ss) hi).mpr ⟨g1.symm, fun u v e1 e2 => by rw [g2] at e1; rw [g3] at e2; cases e1; cases e2; exact g4, fun j u v _ e1 e2 => a3 j u v e1 e2, fun j u v _ e1 e2 => a4 j u v e1 e2⟩
    exact ⟨a1, a2, b1, b2⟩
  cases o with
  | none =>
    rw [none_of asc e fun d hd hlt => ?_]
    · rfl
    · obtain ⟨i, x, y, g1, g2, g3, g4⟩ := hlt
      exact h i (by rw [← al]; exact (List.getElem?_eq_some_iff.mp g2).1) d (inBx d hd i x y g1 g2 g3 g4)
  | some c =>
    obtain ⟨p, h⟩ := h
    obtain ⟨c1, c2, c3, c4⟩ := (bx_iff h.bx.len al (lowL_len rows ss) (highL_len rows ss) h.lt).mp ⟨h.bx.ge, h.bx.le⟩
    have eap := List.getElem?_eq_getElem (l := a) (i := p) (by rw [al]; exact h.lt)
    have ecp := List.getElem?_eq_getElem (l := c) (i := p) (by rw [h.bx.len]; exact h.lt)
    have hac : ltX a c := ⟨p, _, _, c1.symm, eap, ecp, c2 _ _ eap ecp⟩
    have hcm : c ∈ (linesU rows).filter (onB ss) := hold_mem.mpr ((thru_iff hs).mpr ⟨h.bx.len, h.bx.cons, fun i x y e1 e2 => ?_, fun i x y e1 e2 => ?_⟩)
    · obtain ⟨r, hr⟩ := next_of asc e hcm hac fun d hd hlt => by
        obtain ⟨i, x, y, g1, g2, g3, g4⟩ := hlt
        have bx := inBx d hd i x y g1 g2 g3 g4
        have hi : i < rows.length := by rw [← al]; exact (List.getElem?_eq_some_iff.mp g2).1
        rcases Nat.lt_trichotomy i p with z | z | z
        · refine .inr ⟨i, x, y, ?_, ?_, g3, g4⟩
          · rw [← g1]
            exact take_less c1 (Nat.le_of_lt z)
          · rw [take_at c1 z, g2]
        · subst z
          rcases le_ltX (h.bx.len.trans bx.len.symm) (h.least d bx) with w | w
          · exact .inl w.symm
          · exact .inr w
        · exact (h.no i z hi d bx).elim
      rw [hr]
      rfl
    · rcases Nat.lt_trichotomy i p with z | z | z
      · have := take_at c1 z
        rw [e2] at this
        exact ag i x y e1 this.symm
      · subst z
        have := c2 _ _ eap e2
        have := ag _ _ _ e1 eap
        omega
      · exact c3 i x y z e1 e2
    · rcases Nat.lt_or_ge i p with z | z
      · have := take_at c1 z
        rw [e1] at this
        exact ah i x y this.symm e2
      · exact c4 i x y z e1 e2
theorem gen_lines {rows : List (List Int)} {many most : Nat} {ss : List (Nat × Nat)} (hG : Good many most rows) (h6 : many ≤ 6) (h60 : most ≤ 60) (hs : ∀ s ∈ ss, s.1 < rows.length) (hss : ss.length ≤ 900) (hL : ((linesU rows).filter (onB ss)).length ≤ 1000000) :
    dGfS 1 6 B_all_lines_b09d (.tup (rowsD rows) :: ss.map stD) (((linesU rows).filter (onB ss)).map cutD') := by
  have rl := hG.len
  refine ⟨by simp, by rw [List.length_cons, List.length_map]; omega, ?_⟩
  refine ⟨_, rfl, rfl, w_trips hG h6 h60 fun S1 sg1 => ?_⟩
  refine ⟨_, rfl, _, rfl, rfl, w_limits (by omega) hs (.inr rfl) fun S2 sg2 => ⟨_, rfl, .inl (.inl rfl), _, _, rfl, _, _, rfl, rfl, ?_⟩⟩
  refine ⟨_, rfl, _, rfl, _, rfl, rfl, w_between2 hG h6 h60 (lowL_len rows ss) (highL_len rows ss) fun o S3 sg3 ho1 ho2 => ?_⟩
  rw [thru_first hG h6 h60 hs ho1 ho2]
  refine ⟨fun m ds env S => ∃ done rest : List (List Nat), (linesU rows).filter (onB ss) = done ++ rest ∧ ds = done.map cutD' ∧ env = [some (.tup (rowsD rows)), some (.wtup (ss.map stD)), some (tripsD rows), some (.tup (natD (lowL rows ss))), some (.tup (natD (highL rows ss))), some (optD rest.head?)] ∧ m = rest.length, ⟨_, [], _, rfl, rfl, rfl, rfl⟩, ?_⟩
  rintro m ds env S ⟨done, rest, e, rfl, rfl, rfl⟩
  refine ⟨_, rfl, _, rfl, ?_⟩
  cases rest with
  | nil =>
    refine goF ?_
    show List.map cutD' done = _
    rw [e, List.append_nil]
  | cons a rest =>
    refine goT ?_
    have hl : (done.map cutD').length < 1000000 := by
      rw [e, List.length_append, List.length_cons] at hL
      rw [List.length_map]
      omega
    have al := ((thru_iff hs).mp (hold_mem.mp (by rw [e]; exact List.mem_append_right _ (List.mem_cons_self ..)))).1
    refine ⟨hl, _, rfl, ⟨rest.map cutD', ?_⟩, ?_⟩
    · rw [e, List.map_append, List.map_cons]
      rfl
    refine ⟨_, rfl, _, rfl, _, rfl, _, rfl, rfl, w_after2 hG h6 h60 (lowL_len rows ss) (highL_len rows ss) al fun o S4 sg4 ho => ?_⟩
    rw [thru_next hs e ho]
    exact ⟨rest.length, Nat.lt_succ_self _, done ++ [a], rest, by rw [e, List.append_assoc]; rfl, by rw [List.map_append]; rfl, rfl, rfl⟩
end Sv
set_option maxHeartbeats 800000
set_option autoImplicit false
namespace Sv
open PySem PySem.Spec PyProof.Rows L2
/-- the draws' state, at most n mixed draws so far -/
def Ds (st big al : Addr) (n : Nat) (S : Sto) : Prop := st ≠ big ∧ st ≠ al ∧ big ≠ al ∧ ∃ (bs cs : List Int) (t : Nat), t ≤ n ∧ 0 < cs.length ∧ cs.length ≤ 100000 ∧ S st = some (.lst [.ref big, .ref al, .int (t : Int)]) ∧ S big = some (.lst (intsD bs)) ∧ S al = some (.lst (intsD cs))
/-- what a draw may change -/
abbrev DS' (st big : Addr) : Addr → Prop := fun a => a = st ∨ a = big
theorem Ds.keepP {st big al : Addr} {n : Nat} {S S' : Sto} {P : Addr → Prop} (h : Ds st big al n S) (k : SK P S S') (n1 : ¬ P st) (n2 : ¬ P big) (n3 : ¬ P al) : Ds st big al n S' := by
  obtain ⟨a1, a2, a3, bs, cs, t, ht, c0, c9, h1, h2, h3⟩ := h
  exact ⟨a1, a2, a3, bs, cs, t, ht, c0, c9, k _ _ n1 h1, k _ _ n2 h2, k _ _ n3 h3⟩
theorem Ds.keep {st big al : Addr} {n : Nat} {S S' : Sto} (h : Ds st big al n S) (k : SG S S') : Ds st big al n S' := h.keepP k (fun z => z) (fun z => z) (fun z => z)
theorem Ds.mono {st big al : Addr} {n m : Nat} {S : Sto} (h : Ds st big al n S) (e : n ≤ m) : Ds st big al m S := by
  obtain ⟨a1, a2, a3, bs, cs, t, ht, h⟩ := h
  exact ⟨a1, a2, a3, bs, cs, t, by omega, h⟩
theorem Ds.fresh {st big al : Addr} {n : Nat} {S : Sto} (h : Ds st big al n S) {p : Addr} (z : S p = none) : p ≠ st ∧ p ≠ big ∧ p ≠ al := by
  obtain ⟨a1, a2, a3, bs, cs, t, ht, c0, c9, h1, h2, h3⟩ := h
  exact ⟨fun e => (by rw [e, h1] at z; cases z), fun e => (by rw [e, h2] at z; cases z), fun e => (by rw [e, h3] at z; cases z)⟩
theorem Ds.put {st big al : Addr} {n : Nat} {S : Sto} (h : Ds st big al n S) {p : Addr} {o : Ob} (z : p ≠ st ∧ p ≠ big ∧ p ≠ al) : Ds st big al n (S.put p o) := by
  obtain ⟨a1, a2, a3, bs, cs, t, ht, c0, c9, h1, h2, h3⟩ := h
  exact ⟨a1, a2, a3, bs, cs, t, ht, c0, c9, (Sto.ne (Ne.symm z.1)).trans h1, (Sto.ne (Ne.symm z.2.1)).trans h2, (Sto.ne (Ne.symm z.2.2)).trans h3⟩
theorem nDS {st big al p : Addr} (z : p ≠ st ∧ p ≠ big ∧ p ≠ al) : ¬ DS' st big p := fun e => e.elim z.1 z.2.1
theorem Ds.free {st big al : Addr} {n : Nat} {S0 S : Sto} (D : Ds st big al n S) (k : SK (DS' st big) S0 S) {a : Addr} (z : S a = none) : S0 a = none := by
  cases e : S0 a with
  | none => rfl
  | some o =>
    have f := D.fresh z
    rw [k _ _ (nDS f) e] at z
    cases z
/-- a list whose items are tuples is none of the draws' own -/
theorem Ds.off {st big al : Addr} {n : Nat} {S : Sto} (h : Ds st big al n S) {p : Addr} {ds : List D} (e : S p = some (.lst ds)) (ht : ∀ d ∈ ds, ∃ xs, d = D.tup xs) (ne : ds ≠ []) : p ≠ st ∧ p ≠ big ∧ p ≠ al := by
  obtain ⟨a1, a2, a3, bs, cs, t, _, _, _, h1, h2, h3⟩ := h
  have pin : ∀ l : List Int, S p = some (.lst (intsD l)) → False := fun l hl => by
    rw [hl] at e
    have e := (Ob.lst.inj (Option.some.inj e)).symm
    subst e
    cases l with
    | nil => exact ne rfl
    | cons b r =>
      obtain ⟨xs, hx⟩ := ht _ List.mem_cons_self
      cases hx
  refine ⟨fun z => ?_, fun z => pin bs (z ▸ h2), fun z => pin cs (z ▸ h3)⟩
  subst z
  rw [h1] at e
  have e := (Ob.lst.inj (Option.some.inj e)).symm
  subst e
  obtain ⟨xs, hx⟩ := ht _ List.mem_cons_self
  cases hx
theorem w_drawS {st big al : Addr} {n : Nat} {S : Sto} {m : Int} {R : DK} (h : Ds st big al n S) (hn : n ≤ 1000000) (h0 : 0 < m) (h1 : m < 1000000) (k : ∀ (d : Nat) S', (d : Int) < m → Ds st big al (n + 1) S' → SK (DS' st big) S S' → R (.int (d : Int)) S') : dFn 5 B_law_draw_a332 [.ref st, .int m] S R := by
  obtain ⟨a1, a2, a3, bs, cs, t, ht, c0, c9, hs, hb, ha⟩ := h
  have k : ∀ (d : Int) S', 0 ≤ d → d < m → Ds st big al (n + 1) S' → SK (DS' st big) S S' → R (.int d) S' := fun d S' d0 d1 D sk => by
    obtain ⟨e, rfl⟩ : ∃ e : Nat, d = (e : Int) := ⟨d.toNat, by omega⟩
    exact k e S' d1 D sk
  refine seqP (fun env S' => ∃ (x2 : Option D) (bs : List Int), env = [some (.ref st), some (.int m), x2, none, none] ∧ S' st = some (.lst [.ref big, .ref al, .int (t : Int)]) ∧ S' big = some (.lst (intsD bs)) ∧ S' al = some (.lst (intsD cs)) ∧ SK (DS' st big) S S') (fun C' hrt _ _ hnx => ?_) ?_
  · refine ⟨fun n env S' => ∃ (x2 : Option D) (bs : List Int), n = bs.length ∧ env = [some (.ref st), some (.int m), x2, none, none] ∧ S' st = some (.lst [.ref big, .ref al, .int (t : Int)]) ∧ S' big = some (.lst (intsD bs)) ∧ S' al = some (.lst (intsD cs)) ∧ SK (DS' st big) S S', ⟨_, _, bs, rfl, rfl, hs, hb, ha, .refl S⟩, ?_⟩
    rintro n' env S1 ⟨x2, bs, rfl, rfl, hs, hb, ha, sk⟩
    refine ⟨_, rfl, _, 0, _, seqOf_lst hs, rfl, rfl, rfl, fun p np => ?_⟩
    have sgp : SG S1 (S1.put p (.lst [])) := .new np
    have hs2 := sgp _ _ (fun z => z) hs
    have hb2 := sgp _ _ (fun z => z) hb
    have ha2 := sgp _ _ (fun z => z) ha
    have sk2 := sk.trans sgp.sk
    have hp2 : (S1.put p (.lst [])) p = some (.lst []) := Sto.same
    generalize S1.put p (.lst []) = S2 at hs2 hb2 ha2 sk2 hp2 ⊢
    refine ⟨.list (bs.map .int), .list [], .lst hb2 (pys_ints bs), .lst hp2 .nil, shaped_ints bs, by decide +kernel, _, rfl, ?_⟩
    cases bs with
    | nil => exact goF (hnx _ _ ⟨_, [], rfl, hs2, hb2, ha2, sk2⟩)
    | cons e bs =>
      refine goT ⟨_, rfl, _, 0, _, seqOf_lst hs2, rfl, rfl, _, ((0 : Nat) : Int), _, seqOf_lst hb2, rfl, atI_nat (i := 0) (d := D.int e) rfl, ?_⟩
      refine ⟨_, rfl, _, rfl, iteB (fun hc => ?_) (fun hc => ?_)⟩
      · refine ⟨_, rfl, _, rfl, ⟨h0, by omega⟩, _, rfl, _, 0, _, seqOf_lst hs2, rfl, rfl, big, _, ((0 : Nat) : Int), 0, rfl, rfl, hb2, ixnN' (by rw [intsD_len]; exact Nat.succ_pos _), ?_⟩
        refine ⟨_, rfl, _, rfl, h0, ?_⟩
        rw [hrt]
        refine k _ _ (Int.emod_nonneg _ (by omega)) (Int.emod_lt_of_pos _ h0) ⟨a1, a2, a3, (e :: bs).set 0 (e / m), cs, t, by omega, c0, c9, (Sto.ne a1).trans hs2, ?_, (Sto.ne (Ne.symm a3)).trans ha2⟩ (sk2.trans (.put (.inr rfl)))
        rw [Sto.same]
        exact congrArg (fun l => some (Ob.lst l)) (intsD_set (e :: bs) 0 (e / m))
      · refine ⟨_, rfl, _, 0, _, seqOf_lst hs2, rfl, rfl, ⟨rfl, _, seqOf_lst hb2, noTup _⟩, big, _, 0, 0, .int e, rfl, rfl, hb2, by decide, by decide, ?_, rfl, bs.length, Nat.lt_succ_self _, ?_⟩
        · exact seqIndex_of (by decide) (by simp [intsD])
        exact ⟨_, bs, rfl, rfl, (Sto.ne a1).trans hs2, Sto.same, (Sto.ne (Ne.symm a3)).trans ha2, sk2.trans (.put (.inr rfl))⟩
  · rintro env S1 ⟨x2, bs, rfl, hs, hb, ha, sk⟩
    refine ⟨_, rfl, _, 2, _, seqOf_lst hs, rfl, rfl, _, rfl, st, _, 2, 2, rfl, rfl, hs, rfl, ?_⟩
    have hs4 : (S1.put st (.lst ([D.ref big, .ref al, .int (t : Int)].set 2 (.int ((t : Int) + 1))))) st = some (.lst [D.ref big, .ref al, .int ((t + 1 : Nat) : Int)]) := Sto.same
    have hb4 : (S1.put st (.lst ([D.ref big, .ref al, .int (t : Int)].set 2 (.int ((t : Int) + 1))))) big = _ := (Sto.ne (Ne.symm a1)).trans hb
    have ha4 : (S1.put st (.lst ([D.ref big, .ref al, .int (t : Int)].set 2 (.int ((t : Int) + 1))))) al = _ := (Sto.ne (Ne.symm a2)).trans ha
    have sk4 : SK (DS' st big) S (S1.put st (.lst ([D.ref big, .ref al, .int (t : Int)].set 2 (.int ((t : Int) + 1))))) := sk.trans (.put (.inl rfl))
    generalize S1.put st (.lst ([D.ref big, .ref al, .int (t : Int)].set 2 (.int ((t : Int) + 1)))) = S4 at hs4 hb4 ha4 sk4 ⊢
    obtain ⟨pl, hpl, hlt⟩ : ∃ pl : Nat, ((t + 1 : Nat) : Int) % ((intsD cs).length : Int) = (pl : Int) ∧ pl < cs.length := ⟨(t + 1) % cs.length, by rw [intsD_len]; omega, Nat.mod_lt _ c0⟩
    obtain ⟨c, hcp⟩ : ∃ c, cs[pl]? = some c := ⟨_, List.getElem?_eq_getElem hlt⟩
    refine ⟨_, rfl, _, 1, _, seqOf_lst hs4, rfl, rfl, _, rfl, _, 2, _, seqOf_lst hs4, rfl, rfl, _, rfl, _, 1, _, seqOf_lst hs4, rfl, rfl, _, _, rfl, seqOf_lst ha4, by rw [intsD_len]; omega, _, (pl : Int), _, seqOf_lst ha4, by rw [hpl], atI_nat (intsD_at hcp), by decide, ?_⟩
    generalize hv : c % 2147483629 = v
    have v0 : 0 ≤ v := hv ▸ Int.emod_nonneg _ (by decide)
    have v1 : v < 2147483629 := hv ▸ Int.emod_lt_of_pos _ (by decide)
    refine ⟨_, rfl, _, rfl, _, 2, _, seqOf_lst hs4, rfl, rfl, .inl ⟨by decide, by decide⟩, .inl ⟨by omega, by omega⟩, ?_⟩
    refine ⟨_, rfl, _, rfl, _, 2, _, seqOf_lst hs4, rfl, rfl, .inl ⟨by decide, by decide⟩, _, rfl, _, 2, _, seqOf_lst hs4, rfl, rfl, .inr ⟨by omega, by omega⟩, by decide, ?_⟩
    generalize hw : (v * (69621 + 2 * ((t + 1 : Nat) : Int)) + 30011 + 48271 * ((t + 1 : Nat) : Int) * ((t + 1 : Nat) : Int)) % 2147483587 = w
    have w0 : 0 ≤ w := hw ▸ Int.emod_nonneg _ (by decide)
    have w1 : w < 2147483587 := hw ▸ Int.emod_lt_of_pos _ (by decide)
    refine ⟨_, rfl, _, rfl, .inl ⟨by omega, by omega⟩, by decide, ⟨by decide, by decide⟩, _, rfl, h0, ?_⟩
    exact k _ _ (Int.emod_nonneg _ (by omega)) (Int.emod_lt_of_pos _ h0) ⟨a1, a2, a3, bs, cs, t + 1, by omega, c0, c9, hs4, hb4, ha4⟩ sk4
end Sv
set_option maxHeartbeats 800000
set_option autoImplicit false
namespace Sv
open PySem PySem.Spec PyProof.Rows L2
theorem fm_iteS {α β : Type} (g : α → β) (c : α → Bool) : ∀ l : List α, l.filterMap (fun x => if c x = true then some (g x) else none) = (l.filter c).map g
  | [] => rfl
  | a :: l => by
    rw [List.filterMap_cons, List.filter_cons]
    cases h : c a with
    | true =>
      rw [if_pos rfl, if_pos rfl, List.map_cons, fm_iteS g c l]
    | false =>
      rw [if_neg Bool.false_ne_true, if_neg Bool.false_ne_true, fm_iteS g c l]
theorem w_stateS {ns : List Int} {S : Sto} {R : DK} (hn : ns.length ≤ 1000) (k : ∀ st big al S', Ds st big al 0 S' → SG S S' → S st = none → S big = none → S al = none → R (.ref st) S') : dFn 3 B_law_state_64d4 [.rol (intsD ns)] S R := by
  refine ⟨_, rfl, _, rfl, ?_⟩
  refine lc_mapE ns D.int rfl (fun i => some (D.int (if i < 0 then -i else i))) (by omega) (fun _ _ => True.intro) (fun i hi S1 sg K Kn hk _ => turn_y ⟨_, rfl, i, rfl, hk _ rfl _ (.refl _)⟩) fun p S1 np sg1 hp => ?_
  rw [fm_map] at hp
  have ep : ns.map (fun i => D.int (if i < 0 then -i else i)) = intsD (ns.map fun i => if i < 0 then -i else i) := by
    unfold intsD
    rw [List.map_map]
    rfl
  rw [ep] at hp
  have bl : (ns.map fun i => if i < 0 then -i else i).length = ns.length := List.length_map ..
  generalize (ns.map fun i => if i < 0 then -i else i) = bs at hp bl
  have pow : ((10 : Int) ^ (18 : Int).toNat) = 1000000000000000000 := by decide
  refine ⟨_, rfl, _, ⟨_, hp, rfl⟩, ?_⟩
  refine lc_mapE bs D.int rfl (fun i => if decide ((1000000000000000000 : Int) ≤ i) = true then some (D.int i) else none) (by omega) (fun S' sg => sg _ _ (fun z => z) hp) (fun i hi S2 sg K Kn hk hkn => turn_n ?_) fun q S2 nq sg2 hq => ?_
  · refine ⟨_, rfl, ⟨by decide, by decide, by decide⟩, _, rfl, ?_⟩
    rw [pow]
    exact iteB (fun c => ⟨_, rfl, hk _ (if_pos c) _ (.refl _)⟩) (fun c => hkn (if_neg (by rw [show decide ((1000000000000000000 : Int) ≤ i) = false from c]; exact Bool.false_ne_true)) _ (.refl _))
  rw [fm_iteS] at hq
  have hq : S2 q = some (.lst (intsD (bs.filter fun i => decide ((1000000000000000000 : Int) ≤ i)))) := hq
  have hp2 := sg2 _ _ (fun z => z) hp
  refine ⟨_, rfl, _, rfl, _, _, rfl, seqOf_lst hp2, rfl, fun a na => ?_⟩
  have sga : SG S2 (S2.put a (.lst [.int (((intsD bs).length : Int) + 7)])) := .new na
  have ha : (S2.put a (.lst [.int (((intsD bs).length : Int) + 7)])) a = some (.lst (intsD [((intsD bs).length : Int) + 7])) := Sto.same
  have hp3 := sga _ _ (fun z => z) hp2
  have hq3 := sga _ _ (fun z => z) hq
  generalize S2.put a (.lst [.int (((intsD bs).length : Int) + 7)]) = S3 at sga ha hp3 hq3 ⊢
  refine ⟨_, _, hp3, ha, by rw [intsD_len, intsD_len]; show _ + 1 ≤ _; omega, fun v nv => ?_⟩
  have sgv : SG S3 (S3.put v (.lst (intsD bs ++ intsD [((intsD bs).length : Int) + 7]))) := .new nv
  have hv : (S3.put v (.lst (intsD bs ++ intsD [((intsD bs).length : Int) + 7]))) v = some (.lst (intsD (bs ++ [((intsD bs).length : Int) + 7]))) := by
    rw [Sto.same]
    unfold intsD
    rw [List.map_append]
  have hq4 := sgv _ _ (fun z => z) hq3
  have vq : q ≠ v := fun z => by rw [← z, hq3] at nv; cases nv
  generalize S3.put v (.lst (intsD bs ++ intsD [((intsD bs).length : Int) + 7])) = S4 at sgv hv hq4 ⊢
  refine ⟨rfl, fun st nst => ?_⟩
  have sg14 := ((sg1.trans sg2).trans sga).trans sgv
  have n1 : st ≠ q := fun z => by rw [z, hq4] at nst; cases nst
  have n2 : st ≠ v := fun z => by rw [z, hv] at nst; cases nst
  have none_of : ∀ {S' : Sto} {x : Addr}, SG S S' → S' x = none → S x = none := fun {S' x} sg h => by
    cases z : S x with
    | none => rfl
    | some o => rw [sg _ _ (fun z => z) z] at h; cases h
  exact k st q v _ ⟨n1, n2, vq, _, _, 0, Nat.le_refl _, by rw [List.length_append]; exact Nat.succ_pos _, by rw [List.length_append]; show _ + 1 ≤ _; omega, Sto.same, (Sto.ne (Ne.symm n1)).trans hq4, (Sto.ne (Ne.symm n2)).trans hv⟩ (sg14.trans (.new nst)) (none_of sg14 nst) (none_of sg1 nq) (none_of ((sg1.trans sg2).trans sga) nv)
theorem w_pickS {st big al : Addr} {n : Nat} {S : Sto} {d : D} {ds : List D} {R : DK} (h : Ds st big al n S) (h9 : n ≤ 1000000) (hd : ∀ S', SK (DS' st big) S S' → seqOf S' d = some ds) (h0 : ds ≠ []) (hn : ds.length ≤ 100000)
    (k : ∀ (j : Nat) (x : D) S', ds[j]? = some x → Ds st big al (n + 1) S' → SK (DS' st big) S S' → R x S') : dFn 2 B_law_pick_6e96 [.ref st, d] S R := by
  refine ⟨_, rfl, _, rfl, _, rfl, d, _, rfl, hd S (.refl S), rfl, ?_⟩
  have hp : 0 < ds.length := List.length_pos_iff.mpr h0
  refine w_drawS h h9 (by omega) (by omega) fun j S3 i1 D3 k3 => ?_
  have hj : j < ds.length := by omega
  have hx := List.getElem?_eq_getElem hj
  exact ⟨ds, j, ds[j], hd S3 k3, rfl, atI_nat hx, k j _ S3 hx D3 k3⟩
theorem w_mixedS {st big al : Addr} {n : Nat} {S : Sto} {d : D} {ns : List Int} {R : DK} (h : Ds st big al n S) (h9 : n + 200 ≤ 1000000) (hd : seqOf S d = some (intsD ns)) (hn : ns.length ≤ 100)
    (k : ∀ (ms : List Int) S', Ds st big al (n + ns.length) S' → SK (DS' st big) S S' → ms.Perm ns → R (.tup (intsD ms)) S') : dFn 4 B_law_mixed_b93a [.ref st, d] S R := by
  refine ⟨_, rfl, d, _, rfl, hd, fun l nl => ⟨rfl, fun f nf => ⟨rfl, _, rfl, .inl (.inl rfl), _, _, rfl, _, _, rfl, rfl, ?_⟩⟩⟩
  have hlf : l ≠ f := fun z => by rw [← z, Sto.same] at nf; cases nf
  have k0 : SK (DS' st big) S ((S.put l (.lst (intsD ns))).put f (.lst [])) := (SK.new nl).trans (.new nf)
  have nfS : S f = none := by rw [Sto.ne (Ne.symm hlf)] at nf; exact nf
  have l1 := h.fresh nl
  have f1 := h.fresh nfS
  have h0 : Ds st big al n ((S.put l (.lst (intsD ns))).put f (.lst [])) := (h.put l1).put f1
  have hl0 : ((S.put l (.lst (intsD ns))).put f (.lst [])) l = some (.lst (intsD ns)) := (Sto.ne hlf).trans Sto.same
  have hf0 : ((S.put l (.lst (intsD ns))).put f (.lst [])) f = some (.lst (intsD [])) := Sto.same
  generalize (S.put l (.lst (intsD ns))).put f (.lst []) = S0 at k0 h0 hl0 hf0 ⊢
  show dSeq (dWhile _ _) (dRet _) _ [some (D.ref st), some d, some (D.ref l), some (D.ref f)] S0
  refine seqP (fun env S' => env = [some (.ref st), some d, some (.ref l), some (.ref f)] ∧ ∃ ms : List Int, Ds st big al (n + ns.length) S' ∧ SK (DS' st big) S S' ∧ S' f = some (.lst (intsD ms)) ∧ ms.Perm ns) (fun C' _ _ _ hnx => ?_) ?_
  · refine ⟨fun m env S' => ∃ xs ys : List Int, m = xs.length ∧ env = [some (.ref st), some d, some (.ref l), some (.ref f)] ∧ Ds st big al (n + ys.length) S' ∧ SK (DS' st big) S S' ∧ S' l = some (.lst (intsD xs)) ∧ S' f = some (.lst (intsD ys)) ∧ (ys ++ xs).Perm ns, ⟨_, ns, [], rfl, rfl, h0, k0, hl0, hf0, .refl _⟩, ?_⟩
    rintro m env S1 ⟨xs, ys, rfl, rfl, D1, k1, hl, hf, pm⟩
    refine ⟨_, rfl, rfl, fun p np => ?_⟩
    have k2 : SG S1 (S1.put p (.lst [])) := .new np
    have D2 := D1.keep k2
    have hl2 := k2 _ _ (fun z => z) hl
    have hf2 := k2 _ _ (fun z => z) hf
    have hp2 : (S1.put p (.lst [])) p = some (.lst []) := Sto.same
    have k2' := k1.trans k2.sk
    generalize S1.put p (.lst []) = S2 at D2 hl2 hf2 hp2 k2' ⊢
    refine ⟨_, _, .lst hl2 (pys_ints xs), .lst hp2 .nil, shaped_ints xs, by decide +kernel, _, rfl, ?_⟩
    have pl := pm.length_eq
    rw [List.length_append] at pl
    cases xs with
    | nil =>
      refine goF (hnx _ _ ⟨rfl, ys, D2.mono (by simp at pl; omega), k2', hf2, ?_⟩)
      rw [List.append_nil] at pm
      exact pm
    | cons x xs =>
      have hle : (x :: xs).length ≤ 100 := by omega
      refine goT ⟨_, rfl, ⟨rfl, _, seqOf_lst hf2, noTup _⟩, _, rfl, ⟨rfl, _, seqOf_lst hl2, noTup _⟩, _, rfl, _, rfl, _, _, rfl, seqOf_lst hl2, rfl, ?_⟩
      rw [intsD_len]
      have hlpos : (0 : Int) < ((x :: xs).length : Int) := by rw [List.length_cons]; omega
      refine w_drawS D2 (by omega) hlpos (by omega) fun j S3 i1 D3 k3 => ?_
      have hl3 := k3 _ _ (nDS l1) hl2
      have hf3 := k3 _ _ (nDS f1) hf2
      have hj : j < (x :: xs).length := by omega
      have hx : (x :: xs)[j]? = some (x :: xs)[j] := List.getElem?_eq_getElem hj
      refine ⟨l, _, (j : Int), j, .int (x :: xs)[j], rfl, rfl, hl3, by omega, by omega, ?_, by rw [intsD, List.getElem?_map, hx]; rfl, ?_⟩
      · exact seqIndex_of (by omega) (by rw [intsD_len]; omega)
      have e1 : (intsD (x :: xs)).eraseIdx j = intsD ((x :: xs).eraseIdx j) := by
        unfold intsD
        rw [eraseIdx_map']
      rw [e1]
      have hf4 : (S3.put l (.lst (intsD ((x :: xs).eraseIdx j)))) f = _ := (Sto.ne (Ne.symm hlf)).trans hf3
      refine ⟨f, _, _, rfl, rfl, hf4, by rw [intsD_len]; omega, _, ?_, (x :: xs).eraseIdx j, ys ++ [(x :: xs)[j]], rfl, rfl, ?_, ?_, (Sto.ne hlf).trans Sto.same, ?_, ?_⟩
      · rw [List.length_eraseIdx, if_pos hj, List.length_cons]
        omega
      · refine ((D3.put l1).put f1).mono ?_
        rw [List.length_append]
        show n + ys.length + 1 ≤ n + (ys.length + 1)
        omega
      · exact SK.own (SK.own (k2'.trans k3) nl) nfS
      · rw [Sto.same]
        unfold intsD
        rw [List.map_append]
        rfl
      · rw [List.append_assoc]
        refine (List.Perm.append_left ys ?_).trans pm
        have : ((x :: xs)[j] :: (x :: xs).eraseIdx j).Perm (x :: xs) := perm_eraseIdx _ j hj
        exact this
  · rintro env S1 ⟨rfl, ms, D1, k1, hf, pm⟩
    exact ⟨_, rfl, _, _, rfl, seqOf_lst hf, fun ys z => (nomatch z), k ms S1 D1 k1 pm⟩
end Sv
set_option maxHeartbeats 800000
set_option autoImplicit false
set_option maxHeartbeats 1000000
set_option autoImplicit false
namespace Sv
open PySem PySem.Spec PyProof.Rows L2
structure RWt (S0 S : Sto) (st big r N W : Addr) (as : List Addr) (c : Nat) (nm : List Int) (rows : List (List Int)) (o : List (Int × Int)) (u i : Nat) : Prop where
  sk : SK (DS' st big) S0 S
  ra : RAt S r as rows
  hN : S N = some (.lst (intsD (nm.drop u).reverse))
  hW : S W = some (.lst (o.map pairD))
  g : Grown c nm rows o u i
theorem RWt.keep {S0 S S' : Sto} {st big al r N W : Addr} {as : List Addr} {c : Nat} {nm : List Int} {rows : List (List Int)} {o : List (Int × Int)} {u i : Nat} (h : RWt S0 S st big r N W as c nm rows o u i) (k : SK (DS' st big) S S')
    (nd : ∀ a, a = r ∨ a = N ∨ a = W ∨ a ∈ as → a ≠ st ∧ a ≠ big ∧ a ≠ al) : RWt S0 S' st big r N W as c nm rows o u i := by
  have nq : ∀ a, a = r ∨ a = N ∨ a = W ∨ a ∈ as → ¬ DS' st big a := fun a ha => nDS (nd a ha)
  exact ⟨h.sk.trans k, h.ra.keep k fun a z => ⟨fun e => nq a (.inl e) z, fun e => nq a (.inr (.inr (.inr e))) z⟩, k _ _ (nq _ (.inr (.inl rfl))) h.hN, k _ _ (nq _ (.inr (.inr (.inl rfl)))) h.hW, h.g⟩
theorem RWt.keepG {S0 S S' : Sto} {st big r N W : Addr} {as : List Addr} {c : Nat} {nm : List Int} {rows : List (List Int)} {o : List (Int × Int)} {u i : Nat} (h : RWt S0 S st big r N W as c nm rows o u i) (k : SG S S') : RWt S0 S' st big r N W as c nm rows o u i :=
  ⟨h.sk.trans k.sk, h.ra.keepG k, k _ _ (fun z => z) h.hN, k _ _ (fun z => z) h.hW, h.g⟩
end Sv
set_option maxHeartbeats 1000000
set_option autoImplicit false
namespace Sv
open PySem PySem.Spec PyProof.Rows L2
structure RWs (S0 S : Sto) (st big r W : Addr) (rows : List (List Int)) (o : List (Int × Int)) : Prop where
  sk : SK (DS' st big) S0 S
  hr : S r = some (.lst (rowsD rows))
  hW : S W = some (.lst (o.map pairD))
theorem RWs.keep {S0 S S' : Sto} {st big al r W : Addr} {rows : List (List Int)} {o : List (Int × Int)} (h : RWs S0 S st big r W rows o) (k : SK (DS' st big) S S') (n1 : r ≠ st ∧ r ≠ big ∧ r ≠ al) (n2 : W ≠ st ∧ W ≠ big ∧ W ≠ al) : RWs S0 S' st big r W rows o :=
  ⟨h.sk.trans k, k _ _ (nDS n1) h.hr, k _ _ (nDS n2) h.hW⟩
theorem RWs.keepG {S0 S S' : Sto} {st big r W : Addr} {rows : List (List Int)} {o : List (Int × Int)} (h : RWs S0 S st big r W rows o) (k : SG S S') : RWs S0 S' st big r W rows o :=
  ⟨h.sk.trans k.sk, k _ _ (fun z => z) h.hr, k _ _ (fun z => z) h.hW⟩
theorem w_historyS {st big al : Addr} {n pr ev : Nat} {S0 : Sto} {R : DK} (h : Ds st big al n S0) (h9 : n + 400 ≤ 1000000) (p1 : 1 ≤ pr) (p6 : pr ≤ 6) (e6 : ev ≤ 60)
    (k : ∀ rows S', Good pr ev rows → Ds st big al (n + 300) S' → SK (DS' st big) S0 S' → R (.tup (rowsD rows)) S') : dFn 15 B_law_history_6dd1 [.ref st, .int (pr : Int), .int (ev : Int)] S0 R := by
  refine ⟨_, rfl, _, rfl, rfl, w_drawS h (by omega) (by omega) (by omega) fun c0 S1 hc0 D1 k1 => ?_⟩
  have ec : (1 : Int) + (c0 : Int) = ((c0 + 1 : Nat) : Int) := by omega
  dsimp only [rAdd]
  rw [ec]
  generalize hcc : c0 + 1 = c at *
  have c1 : 1 ≤ c := by omega
  have c6 : c ≤ pr := by omega
  refine ⟨_, rfl, 1, 25, rfl, rfl, by decide, by decide, by decide, by decide, fun l nl => ⟨rfl, ?_⟩⟩
  have D2 := D1.keep (SK.new (o := .lst (rgD 1 (25 - 1 : Int).toNat)) nl)
  have k2 : SK (DS' st big) S0 (S1.put l (.lst (rgD 1 (25 - 1 : Int).toNat))) := k1.trans (.new nl)
  have hl2 : (S1.put l (.lst (rgD 1 (25 - 1 : Int).toNat))) l = some (.lst (intsD names24)) := by rw [Sto.same, ← rg24D]; rfl
  generalize S1.put l (.lst (rgD 1 (25 - 1 : Int).toNat)) = S2 at D2 k2 hl2 ⊢
  refine w_mixedS D2 (by omega) (seqOf_lst hl2) (by rw [names24_len]; decide) fun ms S3 D3 k3 pm => ?_
  rw [names24_len] at D3
  refine ⟨_, rfl, rfl, w_drawS D3 (by omega) (by decide) (by decide) fun kd S4 hkd D4 k4 => ⟨rfl, rfl, fun q nq => ⟨_, rfl, _, Sto.same, by omega, by omega, by decide, fun r nr => ⟨rfl, fun W nW => ⟨rfl, _, rfl, .inl (.inl rfl), _, _, rfl, _, _, rfl, _, _, rfl, _, _, rfl, rfl, ?_⟩⟩⟩⟩⟩
  have er : (List.replicate ((c : Nat) : Int).toNat [D.tup []]).flatten = rowsD (List.replicate c []) := by
    rw [Int.toNat_natCast]
    unfold rowsD
    rw [List.map_replicate]
    generalize c = c
    induction c with
    | zero => rfl
    | succ n ih => rw [List.replicate_succ, List.replicate_succ, List.flatten_cons, ih]; rfl
  have k04 := (k2.trans k3).trans k4
  have sgq : SG S4 (S4.put q (.lst [D.tup []])) := .new nq
  have sgr := sgq.trans (SK.new (o := .lst (List.replicate ((c : Nat) : Int).toNat [D.tup []]).flatten) nr)
  have hr5 : ((S4.put q (.lst [D.tup []])).put r (.lst (List.replicate ((c : Nat) : Int).toNat [D.tup []]).flatten)) r = some (.lst (rowsD (List.replicate c []))) := by rw [Sto.same, er]
  have nr4 : S4 r = none := by
    by_cases z : r = q
    · rw [z]; exact nq
    · rw [Sto.ne z] at nr; exact nr
  have nr0 := D4.free k04 nr4
  have D5 := D4.keep sgr
  have k05 := k04.trans (SG.sk sgr)
  generalize (S4.put q (.lst [D.tup []])).put r (.lst (List.replicate ((c : Nat) : Int).toNat [D.tup []]).flatten) = S5 at hr5 nW D5 k05 ⊢
  have nW0 := D5.free k05 nW
  have rW : r ≠ W := fun z => by rw [← z, hr5] at nW; cases nW
  have rd := h.fresh nr0
  have Wd := h.fresh nW0
  have sgW : SG S5 (S5.put W (.lst [])) := .new nW
  have v0 : RWs S0 (S5.put W (.lst [])) st big r W (List.replicate c []) [] := ⟨k05.trans (SG.sk sgW), sgW _ _ (fun z => z) hr5, Sto.same⟩
  have D6 := D5.keep sgW
  generalize S5.put W (.lst []) = S6 at v0 D6 ⊢
  obtain ⟨nm, hnm0, hnm1, nmp⟩ : ∃ nm : List Int, (kd = 0 → nm = names24) ∧ (kd ≠ 0 → nm = ms) ∧ nm.Perm names24 := by
    by_cases z : kd = 0
    · exact ⟨names24, fun _ => rfl, fun y => absurd z y, .refl _⟩
    · exact ⟨ms, fun y => absurd y z, fun _ => rfl, pm⟩
  have nml : nm.length = 24 := by rw [nmp.length_eq, names24_len]
  refine ⟨_, rfl, _, rfl, rfl, w_drawS D6 (by omega) (by omega) (by omega) fun T S7 hT D7 k7 => ⟨_, rfl, by omega, by omega, ?_⟩⟩
  have v7 := v0.keep k7 rd Wd
  refine ⟨fun i env S => i ≤ T ∧ ∃ (rows : List (List Int)) (o : List (Int × Int)) (u : Nat) (x9 x10 x11 x12 x13 x14 : Option D), env = [some (.ref st), some (.int (pr : Int)), some (.int (ev : Int)), some (.int (c : Int)), some (.tup (intsD ms)), some (.int (kd : Int)), some (.ref r), some (.ref W), some (.int (u : Int)), x9, x10, x11, x12, x13, x14] ∧ Ds st big al (n + 30 + 4 * i) S ∧ RWs S0 S st big r W rows o ∧ Grown c nm rows o u i,
    ⟨Nat.zero_le _, _, _, 0, _, _, _, _, _, _, rfl, D7.mono (by omega), v7, .start⟩, fun _ _ _ _ _ => True.intro, ?_, ?_⟩
  · rintro i d env S8 hd ⟨hi0, rows, o, u, x9, x10, x11, x12, x13, x14, rfl, D8, v8, g⟩
    obtain ⟨hi', hd'⟩ := rg_at hd
    have hi : i < T := by omega
    rw [Int.zero_add] at hd'
    subst hd'
    have iT : i ≤ 60 := by omega
    have ol := g.opens_le
    have rl := g.len
    refine ⟨_, rfl, _, rfl, rfl, w_drawS D8 (by omega) (by omega) (by omega) fun p S9 hp D9 k9 => ⟨_, rfl, rfl, w_drawS D9 (by omega) (by decide) (by decide) fun way S10 hway D10 k10 => ⟨rfl, _, rfl, .inl (.inl rfl), _, _, rfl, _, _, rfl, rfl, ?_⟩⟩⟩
    have v10 := v8.keep (k9.trans k10) rd Wd
    have hpc : p < rows.length := by omega
    have hrow := List.getElem?_eq_getElem hpc
    generalize rows[p] = row at hrow
    have hrd : (rowsD rows)[p]? = some (rowD row) := by rw [rowsD, List.getElem?_map, hrow]; rfl
    have rowl : row.length ≤ 200 := Nat.le_trans (len_le_sum hrow) (Nat.le_trans g.events (by omega))
    have es : ∀ e : Int, (rowsD rows).set p (.tup (intsD row ++ [D.int e])) = rowsD (rows.set p (row ++ [e])) := fun e => by
      unfold rowsD
      rw [List.map_set]
      congr 1
      show _ = D.tup (intsD (row ++ [e]))
      unfold intsD
      rw [List.map_append]
      rfl
    have ln : (intsD row).length + 1 ≤ 100000 := by rw [intsD_len]; omega
    have ixp : ixN (rowsD rows).length (p : Int) = some p := ixnN' (by rw [rowsD, List.length_map]; exact hpc)
    refine ⟨_, rfl, _, ⟨_, v10.hW, rfl⟩, lc_mapE o pairD rfl (fun x => if decide (x.2 = (p : Int)) = true then none else some (pairD x)) (by omega) (fun S' sg => sg _ _ (fun z => z) v10.hW) (fun x _ S11 sg K Kn hk hn => turn_n ⟨_, rfl, _, 1, _, rfl, rfl, rfl, _, rfl, _, rfl, iteB (fun e => ⟨_, rfl, hk _ ?_ _ (.refl _)⟩) (fun e => hn ?_ _ (.refl _))⟩) fun y S11 ny sg11 hy => ?_⟩
    · rw [xor_tt, Bool.not_eq_true'] at e
      show (if decide (x.2 = (p : Int)) = true then none else some (pairD x)) = _
      rw [e, if_neg Bool.false_ne_true]
    · rw [xor_tt, Bool.not_eq_false'] at e
      show (if decide (x.2 = (p : Int)) = true then none else some (pairD x)) = _
      rw [e, if_pos rfl]
    rw [fm_not pairD (fun x : Int × Int => decide (x.2 = (p : Int)))] at hy
    generalize hoth : o.filter (fun x => !decide (x.2 = (p : Int))) = oth at hy
    have othl : oth.length ≤ 60 := by
      rw [← hoth]
      have := List.length_filter_le (fun x : Int × Int => !decide (x.2 = (p : Int))) o
      omega
    have v11 := v10.keepG sg11
    have D11 := D10.keep sg11
    have y11 := D10.fresh ny
    dsimp only [dgName]
    refine dIfS_by (fun b S' => S' = S11) (fun K hK => ?_) (fun S' e => ?_) (fun S' e => ?_)
    · refine ⟨_, rfl, _, rfl, iteB (fun _ => ⟨_, rfl, _, rfl, iteB (fun _ => hK _ _ rfl) (fun _ => ⟨_, rfl, _, rfl, hK _ _ rfl⟩)⟩) (fun _ => goF ⟨_, rfl, _, rfl, hK _ _ rfl⟩)⟩
    · -- a save
      have e := e.symm
      subst e
      refine ⟨_, rfl, _, rfl, _, (p : Int), _, seqOf_lst v11.hr, rfl, atI_nat hrd, rfl, ln, _, rfl, _, rfl, r, _, (p : Int), p, rfl, rfl, v11.hr, ixp, ?_⟩
      rw [es]
      exact ⟨hi, _, o, u, _, _, _, _, _, _, rfl, (D11.put rd).mono (by omega), ⟨v11.sk.own nr0, Sto.same, (Sto.ne (Ne.symm rW)).trans v11.hW⟩, .save g hrow⟩
    · have e := e.symm
      subst e
      refine dIfS_by (fun b S' => Ds st big al (n + 32 + 4 * i) S' ∧ RWs S0 S' st big r W rows o ∧ S' y = some (.lst (oth.map pairD)) ∧ (b = false → oth ≠ [])) (fun K hK => ?_) (fun S' ⟨D12, v12, hy12, _⟩ => ?_) (fun S' ⟨D12, v12, hy12, hne⟩ => ?_)
      · have sec : (dB (dBin (rEqq false) (dVar 12) (dLst dNil))) [some (.ref st), some (.int (pr : Int)), some (.int (ev : Int)), some (.int (c : Int)), some (.tup (intsD ms)), some (.int (kd : Int)), some (.ref r), some (.ref W), some (.int (u : Int)), some (.int (i : Int)), some (.int (p : Int)), some (.int (way : Int)), some (.ref y), x13, x14] S11 K := by
          refine ⟨_, rfl, rfl, fun q nq => ⟨_, _, .lst ((Sto.ne fun z => by rw [← z, hy] at nq; cases nq).trans hy) (pys_pairs _), .lst Sto.same .nil, shaped_pairs _, by decide +kernel, _, rfl, ?_⟩⟩
          have sgq : SG S11 (S11.put q (.lst [])) := .new nq
          refine hK _ _ ⟨(D11.keep sgq).mono (by omega), v11.keepG sgq, sgq _ _ (fun z => z) hy, fun e z => ?_⟩
          rw [eqv_nil, xor_ff, z] at e
          cases e
        refine ⟨_, rfl, _, rfl, iteB (fun _ => ⟨_, rfl, _, rfl, iteB (fun _ => hK _ _ ⟨D11.mono (by omega), v11, hy, (fun z => nomatch z)⟩) (fun _ => sec)⟩) (fun _ => goF sec)⟩
      · -- a sending, if there are names left
        refine ⟨_, rfl, _, rfl, iteB (fun hu => ?_) (fun _ => ?_)⟩
        · have hu : decide ((u : Int) < 24) = true := hu
          have hu := of_decide_eq_true hu
          refine seqP (fun env S => ∃ m : Int, nm[u]? = some m ∧ env = [some (.ref st), some (.int (pr : Int)), some (.int (ev : Int)), some (.int (c : Int)), some (.tup (intsD ms)), some (.int (kd : Int)), some (.ref r), some (.ref W), some (.int (u : Int)), some (.int (i : Int)), some (.int (p : Int)), some (.int (way : Int)), some (.ref y), some (.int m), x14] ∧ S' = S) (fun C' _ _ _ hnx => ?_) ?_
          · refine ⟨_, rfl, _, rfl, iteB (fun h0 => ?_) (fun h0 => ?_)⟩
            · have h0 : (decide ((kd : Int) = 0) ^^ false) = true := h0
              rw [xor_ff, decide_eq_true_iff] at h0
              refine ⟨_, rfl, hnx _ _ ⟨(u : Int) + 1, ?_, rfl, rfl⟩⟩
              rw [hnm0 (by omega)]
              unfold names24
              rw [List.getElem?_map, List.getElem?_range (by omega)]
              show some ((1 : Int) + (u : Nat)) = _
              congr 1
              omega
            · have h0 : (decide ((kd : Int) = 0) ^^ false) = false := h0
              rw [xor_ff, decide_eq_false_iff_not] at h0
              have enm := hnm1 (by omega)
              obtain ⟨m, hm⟩ : ∃ m, nm[u]? = some m := ⟨_, List.getElem?_eq_getElem (by omega)⟩
              have hm2 := hm
              rw [enm] at hm2
              exact ⟨_, rfl, _, rfl, _, (u : Int), _, rfl, rfl, atI_nat (intsD_at hm2), hnx _ _ ⟨m, hm, rfl, rfl⟩⟩
          · rintro _ _ ⟨m, hm, rfl, rfl⟩
            refine ⟨_, rfl, _, rfl, _, (p : Int), _, seqOf_lst v12.hr, rfl, atI_nat hrd, _, rfl, rfl, ln, _, rfl, _, rfl, r, _, (p : Int), p, rfl, rfl, v12.hr, ixp, ?_⟩
            rw [es]
            have hW13 : (S'.put r (.lst (rowsD (rows.set p (row ++ [m]))))) W = _ := (Sto.ne (Ne.symm rW)).trans v12.hW
            have hr13 : (S'.put r (.lst (rowsD (rows.set p (row ++ [m]))))) r = _ := Sto.same
            have D13 := D12.put (o := .lst (rowsD (rows.set p (row ++ [m])))) rd
            have k13 := v12.sk.own (o := .lst (rowsD (rows.set p (row ++ [m])))) nr0
            generalize S'.put r (.lst (rowsD (rows.set p (row ++ [m])))) = S13 at hW13 hr13 D13 k13 ⊢
            refine ⟨_, rfl, ⟨rfl, _, seqOf_lst hW13, noTup _⟩, _, rfl, _, rfl, rfl, W, _, _, rfl, rfl, hW13, by rw [List.length_map]; omega, ?_⟩
            have ew : o.map pairD ++ [D.tup [.int m, .int (p : Int)]] = (o ++ [(m, (p : Int))]).map pairD := by
              rw [List.map_append]
              rfl
            rw [ew]
            exact ⟨_, rfl, hi, _, o ++ [(m, (p : Int))], u + 1, _, _, _, _, _, _, rfl, (D13.put Wd).mono (by omega), ⟨k13.own nW0, (Sto.ne rW).trans hr13, Sto.same⟩, .send g hrow hm⟩
        · exact ⟨hi, rows, o, u, _, _, _, _, _, _, rfl, D12.mono (by omega), v12, .skip g⟩
      · -- a receipt
        have hne := hne rfl
        refine seqP (fun env S => ∃ (m qq : Int), (m, qq) ∈ oth ∧ env = [some (.ref st), some (.int (pr : Int)), some (.int (ev : Int)), some (.int (c : Int)), some (.tup (intsD ms)), some (.int (kd : Int)), some (.ref r), some (.ref W), some (.int (u : Int)), some (.int (i : Int)), some (.int (p : Int)), some (.int (way : Int)), some (.ref y), x13, some (pairD (m, qq))] ∧ Ds st big al (n + 33 + 4 * i) S ∧ RWs S0 S st big r W rows o) (fun C' _ _ _ hnx => ?_) ?_
        · refine ⟨_, rfl, _, rfl, iteB (fun _ => ?_) (fun _ => ?_)⟩
          · have op : 0 < oth.length := List.length_pos_iff.mpr hne
            have hqm := List.getElem?_eq_getElem op
            generalize oth[0] = qm at hqm
            obtain ⟨m, qq⟩ := qm
            have hjd : (oth.map pairD)[0]? = some (pairD (m, qq)) := by rw [List.getElem?_map, hqm]; rfl
            exact ⟨_, rfl, _, ((0 : Nat) : Int), _, seqOf_lst hy12, rfl, atI_nat hjd, hnx _ _ ⟨m, qq, List.mem_of_getElem? hqm, rfl, D12.mono (by omega), v12⟩⟩
          · refine ⟨_, rfl, _, rfl, rfl, w_pickS D12 (by omega) (fun S'' sk => seqOf_lst (sk _ _ (nDS y11) hy12)) (fun z => hne (List.map_eq_nil_iff.mp z)) (by rw [List.length_map]; omega) fun j x S13 hx D13 k13 => ?_⟩
            rw [List.getElem?_map] at hx
            obtain ⟨⟨m, qq⟩, hqm, rfl⟩ := Option.map_eq_some_iff.mp hx
            exact hnx _ _ ⟨m, qq, List.mem_of_getElem? hqm, rfl, D13.mono (by omega), v12.keep k13 rd Wd⟩
        · rintro _ S13 ⟨m, qq, hmem, rfl, D13, v13⟩
          rw [← hoth] at hmem
          obtain ⟨hmo, hqp⟩ := List.mem_filter.mp hmem
          have hqp : qq ≠ (p : Int) := by simpa using hqp
          obtain ⟨j', hj1, hj2⟩ := place_ofM hmo
          refine ⟨_, rfl, ⟨rfl, _, seqOf_lst v13.hW, noTup _⟩, _, rfl, W, _, _, _, _, j', rfl, rfl, v13.hW, pys_pairs _, py_pair _, pD_plain _, pD_ok _, ?_, hj1, ?_⟩
          · simp [pD, PyData.depth, PyData.depthAll]
          rw [eraseIdx_map']
          have D14 := D13.put (o := .lst ((o.eraseIdx j').map pairD)) Wd
          have v14 : RWs S0 (S13.put W (.lst ((o.eraseIdx j').map pairD))) st big r W rows (o.eraseIdx j') := ⟨v13.sk.own nW0, (Sto.ne rW).trans v13.hr, Sto.same⟩
          generalize S13.put W (.lst ((o.eraseIdx j').map pairD)) = S14 at D14 v14 ⊢
          refine ⟨_, rfl, _, rfl, _, (p : Int), _, seqOf_lst v14.hr, rfl, atI_nat hrd, _, rfl, _, 0, _, rfl, rfl, rfl, rfl, ln, _, rfl, _, rfl, r, _, (p : Int), p, rfl, rfl, v14.hr, ixp, ?_⟩
          rw [es]
          exact ⟨hi, _, o.eraseIdx j', u, _, _, _, _, _, _, rfl, (D14.put rd).mono (by omega), ⟨v14.sk.own nr0, Sto.same, (Sto.ne (Ne.symm rW)).trans v14.hW⟩, .recv g hrow hj2 hqp⟩
  · rintro env S8 ⟨hi0, rows, o, u, x9, x10, x11, x12, x13, x14, rfl, D8, v8, g⟩
    have hlen : (rgD 0 (T : Int).toNat).length = T := by rw [rg_len]; omega
    have g : Grown c nm rows o u (rgD 0 (T : Int).toNat).length := g
    have D8 : Ds st big al (n + 30 + 4 * (rgD 0 (T : Int).toNat).length) S8 := D8
    rw [hlen] at g D8
    have rl := g.len
    exact ⟨_, rfl, _, _, rfl, seqOf_lst v8.hr, fun ys z => (nomatch z), k rows S8 ⟨c, nm, o, u, T, by omega, c6, nmp, g, by omega⟩ (D8.mono (by omega)) v8.sk⟩
end Sv
namespace Sv
open PySem PySem.Spec PyProof.Rows L2
def zerU (n : Nat) (row : List Int) : List Int := ((List.range n).filter fun j => decide (row[j]? = some 0)).map fun (j : Nat) => (j : Int)
def places (row : List Int) : List Int := 0 :: (zerU row.length row ++ [(row.length : Int)])
theorem zerU_succ (n : Nat) (row : List Int) : zerU (n + 1) row = zerU n row ++ (if row[n]? = some 0 then [(n : Int)] else []) := by
  unfold zerU
  rw [List.range_succ, List.filter_append, List.map_append]
  congr 1
  by_cases h : row[n]? = some 0
  · rw [if_pos h, List.filter_cons_of_pos (by rw [h]; rfl)]
    rfl
  · rw [if_neg h, List.filter_cons_of_neg (by rw [decide_eq_false h]; exact Bool.false_ne_true)]
    rfl
theorem zerU_len (row : List Int) : ∀ n, n ≤ row.length → (zerU n row).length = (row.take n).count 0
  | 0, _ => by simp [zerU]
  | n + 1, h => by
    rw [zerU_succ, List.length_append, zerU_len row n (by omega), List.take_add_one, List.count_append]
    congr 1
    have e := List.getElem?_eq_getElem (show n < row.length by omega)
    rw [e]
    by_cases h0 : row[n] = 0
    · rw [if_pos (by rw [h0]), h0]
      rfl
    · rw [if_neg (fun z => h0 (Option.some.inj z))]
      simp [h0]
theorem places_len (row : List Int) : (places row).length = row.count 0 + 2 := by
  unfold places
  rw [List.length_cons, List.length_append, zerU_len row row.length (Nat.le_refl _), List.take_length, List.length_singleton]
end Sv
set_option maxHeartbeats 400000
namespace Sv
open PySem L2
theorem zer_at (row : List Int) : ∀ (n : Nat), n ≤ row.length → ∀ (i : Nat) (x : Int), (zerU n row)[i]? = some x ↔ ∃ j : Nat, j < n ∧ x = (j : Int) ∧ row[j]? = some 0 ∧ (row.take j).count 0 = i
  | 0, _, i, x => by
    show ([] : List Int)[i]? = some x ↔ _
    constructor
    · intro h; cases h
    · rintro ⟨j, h, _⟩; exact absurd h (Nat.not_lt_zero _)
  | n + 1, h, i, x => by
    have ih := zer_at row n (by omega) i x
    have hl := zerU_len row n (by omega)
    rw [zerU_succ]
    rcases Nat.lt_or_ge i (zerU n row).length with z | z
    · rw [List.getElem?_append_left z, ih]
      constructor
      · rintro ⟨j, h1, h2⟩; exact ⟨j, by omega, h2⟩
      · rintro ⟨j, h1, h2, h3, h4⟩
        rcases Nat.lt_or_ge j n with y | y
        · exact ⟨j, y, h2, h3, h4⟩
        · obtain rfl : j = n := by omega
          omega
    · rw [List.getElem?_append_right z]
      constructor
      · intro e
        by_cases y : row[n]? = some 0
        · rw [if_pos y] at e
          have h0 : i - (zerU n row).length = 0 := by
            have := (List.getElem?_eq_some_iff.mp e).1
            simp at this
            omega
          rw [h0] at e
          cases e
          exact ⟨n, by omega, rfl, y, by omega⟩
        · rw [if_neg y] at e
          cases e
      · rintro ⟨j, h1, rfl, h3, h4⟩
        have hj : j = n := by
          rcases Nat.lt_or_ge j n with y | y
          · have e := (zer_at row n (by omega) i (j : Int)).mpr ⟨j, y, rfl, h3, h4⟩
            have := (List.getElem?_eq_some_iff.mp e).1
            omega
          · omega
        subst hj
        rw [if_pos h3, show i - (zerU j row).length = 0 by omega]
        rfl
theorem zer_eq (row : List Int) : ((row.mapIdx fun i e => (i, e)).filter fun x => decide (x.2 = 0)).map (fun x => ((x.1 : Nat) : Int)) = zerU row.length row := by
  have go : ∀ n, n ≤ row.length → (((row.mapIdx fun i e => (i, e)).take n).filter fun x => decide (x.2 = 0)).map (fun x => ((x.1 : Nat) : Int)) = zerU n row := by
    intro n
    induction n with
    | zero => intro _; rfl
    | succ n ih =>
      intro h
      have e : row[n]? = some row[n] := List.getElem?_eq_getElem h
      have e2 : (row.mapIdx fun i e => (i, e))[n]? = some (n, row[n]) := by rw [List.getElem?_mapIdx, e]; rfl
      rw [take_map e2, List.filter_append, List.map_append, ih (by omega), zerU_succ, e]
      congr 1
      by_cases z : row[n] = 0
      · rw [if_pos (by rw [z])]
        simp [z]
      · rw [if_neg (fun h => z (Option.some.inj h))]
        simp [z]
  have := go row.length (Nat.le_refl _)
  rw [List.take_of_length_le (by rw [List.length_mapIdx]; omega)] at this
  exact this
end Sv
set_option maxHeartbeats 800000
set_option autoImplicit false
namespace Sv
open PySem PySem.Spec PyProof.Rows L2
theorem zipN_rng {xs ys : List Nat} {n : Nat} (h1 : xs.length = n) (h2 : ys.length = n) : zipD (natD xs) (natD ys) = (List.range n).map fun p => D.tup [.int ((xs.getD p 0 : Nat) : Int), .int ((ys.getD p 0 : Nat) : Int)] := by
  apply List.ext_getElem?
  intro i
  unfold zipD natD
  rw [List.getElem?_zipWith, List.getElem?_map, List.getElem?_map, List.getElem?_map]
  rcases Nat.lt_or_ge i n with z | z
  · have e1 : xs[i]? = some xs[i] := List.getElem?_eq_getElem (by omega)
    have e2 : ys[i]? = some ys[i] := List.getElem?_eq_getElem (by omega)
    rw [List.getElem?_range z, e1, e2]
    show some (D.tup [D.int ((xs[i] : Nat) : Int), D.int ((ys[i] : Nat) : Int)]) = some (D.tup [D.int ((xs.getD i 0 : Nat) : Int), D.int ((ys.getD i 0 : Nat) : Int)])
    rw [List.getD_eq_getElem?_getD, List.getD_eq_getElem?_getD, e1, e2]
    rfl
  · rw [List.getElem?_eq_none (l := xs) (by omega), List.getElem?_eq_none (l := List.range n) (by rw [List.length_range]; exact z)]
    rfl
theorem w_within {x lo hi : Int} {S : Sto} {R : DK} (q : R (.bl (decide (lo ≤ x) && decide (x ≤ hi))) S) : dFn 3 B_is_number_within_7f04 [.int x, .int lo, .int hi] S R := by
  refine ⟨_, rfl, rfl, w_isnum ⟨_, rfl, goT ?_⟩⟩
  refine ⟨_, rfl, _, rfl, _, rfl, iteB (fun h => ?_) (fun h => ?_)⟩
  · have h : decide (lo ≤ x) = true := h
    rw [h, Bool.true_and] at q
    exact ⟨_, rfl, q⟩
  · have h : decide (lo ≤ x) = false := h
    rw [h, Bool.false_and] at q
    exact q
theorem w_isline {rows : List (List Int)} {c : List Nat} {S : Sto} {R : DK} (hr : rows.length ≤ 1000) (hl : c.length = rows.length) (hc : LeL c (prs rows)) (q : ∀ S', SG S S' → R (.bl true) S') : dFn 5 B_is_line_5402 [.tup (rowsD rows), .tup (natD c)] S R := by
  have e1 : (natD c).length = (rowsD rows).length := by rw [natD_len, rowsD, List.length_map, hl]
  refine ⟨_, rfl, _, _, _, _, rfl, rfl, (by decide +kernel : kitB "tuple" "tuple" = some true), _, rfl, goF ?_⟩
  refine ⟨_, rfl, _, _, rfl, rfl, _, rfl, _, _, rfl, rfl, _, rfl, ?_⟩
  rw [xor_tt, decide_eq_true (by rw [e1])]
  refine goF ?_
  refine ⟨_, rfl, rfl, w_nums hr fun S1 sg1 => ?_⟩
  have pl : (prs rows).length = rows.length := List.length_map ..
  refine ⟨_, rfl, _, rfl, _, _, .inl ⟨rfl, lc_mapE (List.range rows.length) (fun p => D.tup [.int ((c.getD p 0 : Nat) : Int), .int (((prs rows).getD p 0 : Nat) : Int)]) (zipN_rng hl pl) (fun p => some (D.bl true)) (by rw [List.length_range]; omega) (fun _ _ => True.intro) (fun p hp S2 sg2 K Kn hk _ => ?_) fun t S2 nt sg2 ht => ?_⟩⟩
  · have hp := List.mem_range.mp hp
    obtain ⟨x, hx⟩ : ∃ x, c[p]? = some x := ⟨_, List.getElem?_eq_getElem (by omega)⟩
    obtain ⟨y, hy⟩ : ∃ y, (prs rows)[p]? = some y := ⟨_, List.getElem?_eq_getElem (by omega)⟩
    have hxy := hc p x y hx hy
    have g1 : c.getD p 0 = x := by rw [List.getD_eq_getElem?_getD, hx]; rfl
    have g2 : (prs rows).getD p 0 = y := by rw [List.getD_eq_getElem?_getD, hy]; rfl
    rw [g1, g2]
    refine ⟨_, rfl, .inl (.inl rfl), _, _, rfl, _, _, rfl, rfl, yesS ⟨_, rfl, _, rfl, rfl, w_within ?_⟩⟩
    rw [decide_eq_true (show (0 : Int) ≤ x by omega), decide_eq_true (show (x : Int) ≤ y by omega)]
    exact hk _ rfl _ (.refl _)
  · rw [fm_map] at ht
    have et : (List.range rows.length).map (fun _ => D.bl true) = (List.replicate rows.length true).map D.bl := by
      rw [List.map_replicate, List.map_const', List.length_range]
    rw [et] at ht
    refine ⟨_, _, rfl, ht, ?_⟩
    have ea : (List.replicate rows.length true).all id = true := by
      rw [List.all_eq_true]
      intro x hx
      rw [(List.mem_replicate.mp hx).2]
      rfl
    show R (.bl ((List.replicate rows.length true).all id)) S2
    rw [ea]
    exact q _ (sg1.trans sg2)
theorem eqvA_natS : ∀ a b : List Nat, PyData.eqvAll ((a.map fun x : Nat => (x : Int)).map PyData.int) ((b.map fun x : Nat => (x : Int)).map PyData.int) = decide (a = b)
  | [], [] => by simp [PyData.eqvAll]
  | [], y :: b => by simp [PyData.eqvAll]
  | x :: a, [] => by simp [PyData.eqvAll]
  | x :: a, y :: b => by
    have ih := eqvA_natS a b
    rw [List.map_cons, List.map_cons, List.map_cons, List.map_cons, PyData.eqvAll, ih]
    simp only [PyData.eqv]
    rw [Bool.eq_iff_iff, Bool.and_eq_true, decide_eq_true_iff, decide_eq_true_iff, List.cons.injEq, beq_iff_eq, Int.natCast_inj]
theorem eqvT_nat (a b : List Nat) : PyData.eqv (.tuple ((a.map fun x : Nat => (x : Int)).map PyData.int)) (.tuple ((b.map fun x : Nat => (x : Int)).map PyData.int)) = decide (a = b) := by
  rw [← eqvA_natS, PyData.eqv]
/-- the places of a state, as the law counts them -/
theorem w_lplaceS {rows : List (List Int)} {row : List Int} {p n : Nat} {S : Sto} {R : DK} (hr : rows[p]? = some row) (hl : row.length ≤ 900) (hn : n ≤ row.count 0 + 1) (k : ∀ S', SG S S' → R (.int ((places row).getD n 0)) S') : dFn 7 B_law_place_4534 [.tup (rowsD rows), .int (p : Int), .int (n : Int)] S R := by
  have hrd : (rowsD rows)[p]? = some (rowD row) := by
    unfold rowsD
    rw [List.getElem?_map, hr]
    rfl
  refine ⟨_, rfl, _, rfl, _, (p : Int), _, rfl, rfl, atI_nat hrd, ?_⟩
  refine ⟨rfl, fun a na => ?_⟩
  have sga : SG S (S.put a (.lst [.int 0])) := .new na
  have ha : (S.put a (.lst [.int 0])) a = some (.lst [.int 0]) := Sto.same
  generalize S.put a (.lst [.int 0]) = S1 at sga ha ⊢
  refine ⟨_, rfl, _, _, rfl, rfl, lc_mapE (row.mapIdx fun i e => (i, e)) (fun x => .tup [.int ((x.1 : Nat) : Int), .int x.2]) (enD_map D.int row) (fun x => if decide (x.2 = 0) = true then some (D.int ((x.1 : Nat) : Int)) else none) (by rw [List.length_mapIdx]; omega) (fun _ _ => True.intro)
    (fun x _ S1 sg K Kn hk hn => ⟨_, rfl, .inl (.inl rfl), _, _, rfl, _, _, rfl, rfl, _, rfl, _, rfl, iteB (fun e => ?_) (fun e => ?_)⟩) fun u S2 nu sg hu => ?_⟩
  · rw [xor_ff] at e
    exact ⟨_, rfl, hk _ (if_pos e) _ (.refl _)⟩
  · rw [xor_ff] at e
    exact hn (by show (if decide (x.2 = 0) = true then _ else _) = _; rw [e]; rfl) _ (.refl _)
  · rw [fm_iteS (fun x : Nat × Int => D.int ((x.1 : Nat) : Int)) (fun x => decide (x.2 = 0))] at hu
    have e : ((row.mapIdx fun i e => (i, e)).filter fun x => decide (x.2 = 0)).map (fun x => D.int ((x.1 : Nat) : Int)) = intsD (zerU row.length row) := by
      rw [← zer_eq]
      unfold intsD
      rw [List.map_map]
      rfl
    rw [e] at hu
    have h1 := zerU_len row row.length (Nat.le_refl _)
    have h2 : ((row.take row.length).count 0) ≤ (row.take row.length).length := List.count_le_length ..
    rw [List.length_take] at h2
    refine ⟨_, _, sg _ _ (fun z => z) ha, hu, by rw [intsD_len]; show 1 + _ ≤ 100000; omega, fun b nb => ⟨_, rfl, _, _, rfl, rfl, rfl, fun c nc => ?_⟩⟩
    have sgb : SG S2 (S2.put b (.lst ([.int 0] ++ intsD (zerU row.length row)))) := .new nb
    have hb : (S2.put b (.lst ([.int 0] ++ intsD (zerU row.length row)))) b = some (.lst ([.int 0] ++ intsD (zerU row.length row))) := Sto.same
    generalize S2.put b (.lst ([.int 0] ++ intsD (zerU row.length row))) = S3 at sgb hb nc ⊢
    refine ⟨_, _, (Sto.ne fun z => by rw [z, nc] at hb; cases hb).trans hb, Sto.same, ?_, fun t nt => ?_⟩
    · rw [List.length_append, intsD_len]
      show 1 + _ + 1 ≤ 100000
      omega
    · have sgt := (SK.new (o := .lst [.int (intsD row).length]) nc : SG S3 _).trans (SK.new (o := .lst ([.int 0] ++ intsD (zerU row.length row) ++ [.int (intsD row).length])) nt)
      have ht : ((S3.put c (.lst [.int (intsD row).length])).put t (.lst ([.int 0] ++ intsD (zerU row.length row) ++ [.int (intsD row).length]))) t = some (.lst (intsD (places row))) := by
        rw [Sto.same, intsD_len]
        unfold places intsD
        rw [List.map_cons, List.map_append]
        rfl
      have hx : (places row)[n]? = some ((places row).getD n 0) := by
        rw [List.getD_eq_getElem?_getD, List.getElem?_eq_getElem (show n < (places row).length by rw [places_len]; omega)]
        rfl
      exact ⟨_, rfl, _, rfl, _, (n : Int), _, seqOf_lst ht, rfl, atI_nat (intsD_at hx), k _ (((sga.trans sg).trans sgb).trans sgt)⟩
end Sv
set_option maxHeartbeats 400000
namespace Sv
open PySem L2
/-- which saves the smaller history lacks -/
def dOf (rows : List (List Int)) (us : List (Int × Int)) (p n : Nat) : Bool := decide (((p : Int), (n : Int)) ∈ delU rows us)
end Sv
set_option maxHeartbeats 400000
set_option maxHeartbeats 400000
namespace Sv
open PySem L2
def NamesAt (S : Sto) (rows : List (List Int)) (us : List (Int × Int)) (rs : List Addr) : Prop := ∀ (p : Nat) (r : Addr) (row : List Int), rs[p]? = some r → rows[p]? = some row → S r = some (.lst (natD (namesN (dOf rows us p) (row.count 0))))
theorem NamesAt.keep {S S' : Sto} {rows : List (List Int)} {us : List (Int × Int)} {rs : List Addr} (h : NamesAt S rows us rs) (k : SG S S') : NamesAt S' rows us rs := fun p r row h1 h2 => k _ _ (fun z => z) (h p r row h1 h2)
end Sv
set_option maxHeartbeats 400000
set_option maxHeartbeats 400000
set_option maxHeartbeats 400000
namespace Sv
open PySem L2
def freshR (rows : List (List Int)) : List (List Int) := rows.map fun r => r ++ [0]
theorem Grown.fresh {c : Nat} {nm : List Int} {rows : List (List Int)} {o : List (Int × Int)} {u k : Nat} (h : Grown c nm rows o u k) : Grown c nm (freshR rows) o u (k + rows.length) := by
  have go : ∀ i, i ≤ rows.length → Grown c nm ((rows.take i).map (fun r => r ++ [0]) ++ rows.drop i) o u (k + i) := by
    intro i
    induction i with
    | zero => intro _; exact h
    | succ i ih =>
      intro hi
      have hr : rows[i]? = some rows[i] := List.getElem?_eq_getElem hi
      have g := ih (by omega)
      have hl : ((rows.take i).map (fun r => r ++ [0])).length = i := by rw [List.length_map, List.length_take]; omega
      have hd : rows.drop i = rows[i] :: rows.drop (i + 1) := List.drop_eq_getElem_cons hi
      have hat : ((rows.take i).map (fun r => r ++ [0]) ++ rows.drop i)[i]? = some rows[i] := by
        rw [List.getElem?_append_right (by omega), hl, Nat.sub_self, hd]
        rfl
      have g2 := g.save hat
      have e : ((rows.take i).map (fun r => r ++ [0]) ++ rows.drop i).set i (rows[i] ++ [0]) = (rows.take (i + 1)).map (fun r => r ++ [0]) ++ rows.drop (i + 1) := by
        rw [take_map hr, List.map_append, List.set_append_right _ _ (by omega), hl, Nat.sub_self, hd, List.append_assoc]
        rfl
      rw [e] at g2
      exact g2
  have := go rows.length (Nat.le_refl _)
  rw [List.take_length, List.drop_length, List.append_nil] at this
  exact this
theorem Good.fresh {many most : Nat} {rows : List (List Int)} (h : Good many most rows) : Good many (most + many) (freshR rows) := by
  have hl := h.len
  obtain ⟨c, nm, o, u, k, h1, h2, h3, h4, h5⟩ := h
  exact ⟨c, nm, o, u, k + rows.length, h1, h2, h3, h4.fresh, by omega⟩
end Sv
set_option maxHeartbeats 400000
namespace Sv
open PySem L2
def nu (na : List Int) (e : Int) : Int := if e = 0 then 0 else if e < 0 then 0 - na.getD (e.natAbs - 1) 0 else na.getD (e.natAbs - 1) 0
end Sv
set_option maxHeartbeats 400000
set_option maxHeartbeats 400000
namespace Sv
open PySem L2
section
variable {rows : List (List Int)} {ord : List Nat} {na : List Int} {many most : Nat} {us us' : List (Int × Int)}
def gS (ord : List Nat) (x : Int × Int) : Int × Int := (((ord.idxOf x.1.toNat : Nat) : Int), x.2)
end
end Sv
set_option maxHeartbeats 400000
set_option maxHeartbeats 400000
set_option maxHeartbeats 400000
set_option maxHeartbeats 400000
set_option maxHeartbeats 400000
set_option maxHeartbeats 400000
set_option maxHeartbeats 800000
set_option autoImplicit false
namespace Sv
open PySem PySem.Spec PyProof.Rows L2
def AtL (rows : List (List Int)) (p i : Nat) (e : Int) : Prop := ∃ row, rows[p]? = some row ∧ row[i]? = some e
theorem sent_ofL {many most : Nat} {rows : List (List Int)} (h : Good many most rows) {q j : Nat} {m : Int} (hm : 0 < m) (h1 : AtL rows q j (0 - m)) : ∃ p i, AtL rows p i m := by
  obtain ⟨c, nm, o, u, k, _, _, hp, g, _⟩ := h
  obtain ⟨row, h2, h3⟩ := h1
  have h4 : (0 - m) ∈ rows.flatten := List.mem_flatten.mpr ⟨row, List.mem_of_getElem? h2, List.mem_of_getElem? h3⟩
  have h5 : m ∈ negs rows.flatten := List.mem_map.mpr ⟨0 - m, List.mem_filter.mpr ⟨h4, decide_eq_true (by omega)⟩, by omega⟩
  have h6 := (g.once hp).2.mem_iff.mp (List.mem_append_left _ h5)
  have h7 := (g.once hp).1.mem_iff.mpr h6
  obtain ⟨r, hr, hmr⟩ := List.mem_flatten.mp (List.mem_filter.mp h7).1
  obtain ⟨p, hp1⟩ := List.getElem?_of_mem hr
  obtain ⟨i, hi⟩ := List.getElem?_of_mem hmr
  exact ⟨p, i, r, hp1, hi⟩
theorem cnt_monoL (row : List Int) {i j : Nat} (h : i ≤ j) : (row.take i).count 0 ≤ (row.take j).count 0 := by
  have : row.take i = (row.take j).take i := by rw [List.take_take, Nat.min_eq_left h]
  rw [this]
  exact List.Sublist.count_le _ (List.take_sublist _ _)
theorem place_le {row : List Int} {n i : Nat} {e : Int} (hn : n ≤ row.count 0 + 1) (h : row[i]? = some e) (he : e ≠ 0) : (places row).getD n 0 ≤ (i : Int) ↔ n ≤ (row.take i).count 0 := by
  have hi := (List.getElem?_eq_some_iff.mp h).1
  have hl := zerU_len row row.length (Nat.le_refl _)
  rw [List.take_length] at hl
  unfold places
  cases n with
  | zero => exact ⟨fun _ => Nat.zero_le _, fun _ => by show (0 : Int) ≤ i; omega⟩
  | succ n =>
    rw [List.getD_cons_succ, List.getD_eq_getElem?_getD]
    rcases Nat.lt_or_ge n (zerU row.length row).length with z | z
    · rw [List.getElem?_append_left z]
      have hx := List.getElem?_eq_getElem z
      generalize (zerU row.length row)[n] = x at hx
      obtain ⟨j, hj, rfl, h0, hc⟩ := (zer_at row _ (Nat.le_refl _) n x).mp hx
      rw [hx]
      show (j : Int) ≤ i ↔ _
      have hne : j ≠ i := fun y => by
        subst y
        rw [h] at h0
        exact he (Option.some.inj h0)
      constructor
      · intro hle
        have h1 := cnt_monoL row (show j + 1 ≤ i by omega)
        rw [take_map h0, List.count_append, hc] at h1
        have : List.count (0 : Int) [0] = 1 := rfl
        omega
      · intro hle
        rcases Nat.lt_or_ge i j with y | y
        · have h1 := cnt_monoL row (show i ≤ j by omega)
          omega
        · omega
    · have en : n = (zerU row.length row).length := by omega
      subst en
      rw [List.getElem?_append_right (Nat.le_refl _), Nat.sub_self]
      show ((row.length : Nat) : Int) ≤ i ↔ _
      have h1 := cnt_monoL row (show i ≤ row.length by omega)
      rw [List.take_length] at h1
      omega
abbrev LetR := Nat × Nat × Nat × Nat × Int
def ltD (x : LetR) : List D := [.int (x.1 : Int), .int (x.2.1 : Int), .int (x.2.2.1 : Int), .int (x.2.2.2.1 : Int), .int x.2.2.2.2]
structure LetS (S : Sto) (f : Addr) (as : List Addr) (Ls : List LetR) : Prop where
  len : as.length = Ls.length
  fx : S f = some (.lst (as.map D.ref))
  at' : ∀ (k : Nat) (a : Addr) (x : LetR), as[k]? = some a → Ls[k]? = some x → S a = some (.lst (ltD x))
  off : ∀ a ∈ as, a ≠ f
theorem LetS.keep {S S' : Sto} {f : Addr} {as : List Addr} {Ls : List LetR} (h : LetS S f as Ls) (sg : SG S S') : LetS S' f as Ls := ⟨h.len, sg _ _ (fun z => z) h.fx, fun k a x h1 h2 => sg _ _ (fun z => z) (h.at' k a x h1 h2), h.off⟩
end Sv
set_option maxHeartbeats 800000
set_option autoImplicit false
namespace Sv
open PySem PySem.Spec PyProof.Rows L2
theorem cuts_two (x y : Nat) (h : x + y ≤ 16) : (x + 2) * (y + 2) ≤ 100 := by
  have key : ∀ a : Fin 17, ∀ b : Fin 17, a.val + b.val ≤ 16 → (a.val + 2) * (b.val + 2) ≤ 100 := by decide +kernel
  exact key ⟨x, by omega⟩ ⟨y, by omega⟩ h
theorem flat_const {α β : Type} (f : α → List β) (k : Nat) : ∀ l : List α, (∀ a ∈ l, (f a).length = k) → (l.flatMap f).length = l.length * k
  | [], _ => by simp
  | a :: l, h => by
    rw [List.flatMap_cons, List.length_append, h a List.mem_cons_self, flat_const f k l fun b hb => h b (List.mem_cons_of_mem _ hb), List.length_cons, Nat.add_mul, Nat.one_mul, Nat.add_comm]
theorem cutsU_next (rows : List (List Int)) (i : Nat) : (cutsU rows (i + 1)).length = (cutsU rows i).length * ((rows.getD i []).count 0 + 2) := by
  show ((cutsU rows i).flatMap _).length = _
  exact flat_const _ _ _ fun c _ => by rw [List.length_map, List.length_range]
theorem cnt4 (rows : List (List Int)) (h4 : rows.length ≤ 4) (hs : (rows.map List.length).sum ≤ 16) : ((rows.getD 0 []).count 0 + (rows.getD 1 []).count 0) + ((rows.getD 2 []).count 0 + (rows.getD 3 []).count 0) ≤ 16 := by
  have cl : ∀ r : List Int, r.count 0 ≤ r.length := fun r => List.count_le_length ..
  match rows, h4 with
  | [], _ => exact Nat.zero_le _
  | [a], _ =>
    have := cl a
    have hs : a.length + 0 ≤ 16 := hs
    show (a.count 0 + 0) + (0 + 0) ≤ 16
    omega
  | [a, b], _ =>
    have := cl a
    have := cl b
    have hs : a.length + (b.length + 0) ≤ 16 := hs
    show (a.count 0 + b.count 0) + (0 + 0) ≤ 16
    omega
  | [a, b, c], _ =>
    have := cl a
    have := cl b
    have := cl c
    have hs : a.length + (b.length + (c.length + 0)) ≤ 16 := hs
    show (a.count 0 + b.count 0) + (c.count 0 + 0) ≤ 16
    omega
  | [a, b, c, d], _ =>
    have := cl a
    have := cl b
    have := cl c
    have := cl d
    have hs : a.length + (b.length + (c.length + (d.length + 0))) ≤ 16 := hs
    show (a.count 0 + b.count 0) + (c.count 0 + d.count 0) ≤ 16
    omega
theorem cutsU_few (rows : List (List Int)) (h4 : rows.length ≤ 4) (hs : (rows.map List.length).sum ≤ 16) (i : Nat) (hi : i ≤ 4) : (cutsU rows i).length ≤ 10000 := by
  have h := cnt4 rows h4 hs
  have e0 : (cutsU rows 0).length = 1 := rfl
  have e1 := cutsU_next rows 0
  have e2 := cutsU_next rows 1
  have e3 := cutsU_next rows 2
  have e4 := cutsU_next rows 3
  have b1 := cuts_two ((rows.getD 0 []).count 0) ((rows.getD 1 []).count 0) (by omega)
  have b2 := cuts_two ((rows.getD 2 []).count 0) ((rows.getD 3 []).count 0) (by omega)
  rw [e0, Nat.one_mul] at e1
  rw [Nat.zero_add] at e1
  have e2' : (cutsU rows 2).length = ((rows.getD 0 []).count 0 + 2) * ((rows.getD 1 []).count 0 + 2) := by rw [← e1]; exact e2
  have l2 : (cutsU rows 2).length ≤ 100 := by rw [e2']; exact b1
  have e34 : (cutsU rows 4).length = (cutsU rows 2).length * (((rows.getD 2 []).count 0 + 2) * ((rows.getD 3 []).count 0 + 2)) := by
    rw [← Nat.mul_assoc]
    have e3 : (cutsU rows 3).length = (cutsU rows 2).length * ((rows.getD 2 []).count 0 + 2) := e3
    rw [← e3]
    exact e4
  have l4 : (cutsU rows 4).length ≤ 10000 := by rw [e34]; exact Nat.mul_le_mul l2 b2
  have up : ∀ j, (cutsU rows j).length ≤ (cutsU rows (j + 1)).length := fun j => by
    rw [cutsU_next]
    exact Nat.le_mul_of_pos_right _ (by omega)
  have u0 : (cutsU rows 0).length ≤ (cutsU rows 1).length := up 0
  have u1 : (cutsU rows 1).length ≤ (cutsU rows 2).length := up 1
  have u2 : (cutsU rows 2).length ≤ (cutsU rows 3).length := up 2
  have u3 : (cutsU rows 3).length ≤ (cutsU rows 4).length := up 3
  match i, hi with
  | 0, _ => omega
  | 1, _ => omega
  | 2, _ => omega
  | 3, _ => omega
  | 4, _ => exact l4
/-- what happened before a line -/
def befS (rows : List (List Int)) (c : List Nat) (i : Nat) : List Int := (List.range i).flatMap fun p => (rows.getD p []).take ((places (rows.getD p [])).getD (c.getD p 0) 0).toNat
theorem befS_mem {rows : List (List Int)} {c : List Nat} (hb : ∀ (p : Nat) (row : List Int) (x : Nat), rows[p]? = some row → c[p]? = some x → x ≤ row.count 0 + 1) (hl : c.length = rows.length) {e : Int} (he : e ≠ 0) : e ∈ befS rows c rows.length ↔ ∃ (p i : Nat) (row : List Int) (x : Nat), rows[p]? = some row ∧ c[p]? = some x ∧ row[i]? = some e ∧ (row.take i).count 0 < x := by
  unfold befS
  rw [List.mem_flatMap]
  constructor
  · rintro ⟨p, hp, hm⟩
    have hp := List.mem_range.mp hp
    obtain ⟨row, hr⟩ := row_of hp
    obtain ⟨x, hx⟩ : ∃ x, c[p]? = some x := ⟨_, List.getElem?_eq_getElem (by omega)⟩
    have e1 : rows.getD p [] = row := by rw [List.getD_eq_getElem?_getD, hr]; rfl
    have e2 : c.getD p 0 = x := by rw [List.getD_eq_getElem?_getD, hx]; rfl
    rw [e1, e2] at hm
    obtain ⟨i, hi⟩ := List.getElem?_of_mem hm
    rw [List.getElem?_take] at hi
    split at hi
    · rename_i z
      have := place_le (hb p row x hr hx) hi he
      refine ⟨p, i, row, x, hr, hx, hi, Nat.lt_of_not_le fun y => ?_⟩
      have := this.mpr y
      omega
    · cases hi
  · rintro ⟨p, i, row, x, hr, hx, hi, hlt⟩
    have e1 : rows.getD p [] = row := by rw [List.getD_eq_getElem?_getD, hr]; rfl
    have e2 : c.getD p 0 = x := by rw [List.getD_eq_getElem?_getD, hx]; rfl
    refine ⟨p, List.mem_range.mpr (List.getElem?_eq_some_iff.mp hr).1, ?_⟩
    rw [e1, e2]
    refine List.mem_of_getElem? (i := i) ?_
    rw [List.getElem?_take, if_pos, hi]
    have := place_le (hb p row x hr hx) hi he
    refine Nat.lt_of_not_le fun y => ?_
    have := this.mp (by omega)
    omega
theorem bef_cons {rows : List (List Int)} {many most : Nat} (hG : Good many most rows) {c : List Nat} (hb : ∀ (p : Nat) (row : List Int) (x : Nat), rows[p]? = some row → c[p]? = some x → x ≤ row.count 0 + 1) (hl : c.length = rows.length) : (∀ e ∈ befS rows c rows.length, e < 0 → (0 - e) ∈ befS rows c rows.length) ↔ ConsL rows c := by
  constructor
  · intro h m p k p' k' x x' hm h1 h2 h3 h4 hlt
    obtain ⟨row', i', g1, g2, g3⟩ := hap_inv h2
    have := h (0 - m) ((befS_mem hb hl (by omega)).mpr ⟨p', i', row', x', g1, h4, g2, by omega⟩) (by omega)
    rw [show (0 : Int) - (0 - m) = m by omega] at this
    obtain ⟨q, i, row, y, a1, a2, a3, a4⟩ := (befS_mem hb hl (by omega)).mp this
    have hh := hG.hap_at a1 a3 (by omega)
    rw [h1] at hh
    obtain ⟨b1, b2⟩ := Prod.mk.inj (Option.some.inj hh)
    rw [← b1, h3] at a2
    cases a2
    omega
  · intro h e he hneg
    obtain ⟨q, i, row, y, a1, a2, a3, a4⟩ := (befS_mem hb hl (by omega)).mp he
    obtain ⟨p, j, row', b1, b2⟩ := sent_ofL hG (m := 0 - e) (by omega) (q := q) (j := i) ⟨row, a1, by rw [show (0 : Int) - (0 - e) = e by omega]; exact a3⟩
    have h1 := hG.hap_at b1 b2 (by omega)
    have h2 := hG.hap_at a1 a3 (by omega)
    rw [← show (0 : Int) - (0 - e) = e by omega] at h2
    obtain ⟨x, hx⟩ : ∃ x, c[p]? = some x := ⟨_, List.getElem?_eq_getElem (by rw [hl]; exact (List.getElem?_eq_some_iff.mp b1).1)⟩
    exact (befS_mem hb hl (by omega)).mpr ⟨p, j, row', x, b1, hx, b2, h _ _ _ _ _ _ _ (by omega) h1 h2 hx a2 a4⟩
end Sv
set_option maxHeartbeats 800000
set_option autoImplicit false
namespace Sv
open PySem PySem.Spec PyProof.Rows L2
theorem place_nat {row : List Int} {n : Nat} : ∃ k : Nat, k ≤ row.length ∧ (places row).getD n 0 = (k : Int) := by
  unfold places
  cases n with
  | zero => exact ⟨0, Nat.zero_le _, rfl⟩
  | succ n =>
    rw [List.getD_cons_succ, List.getD_eq_getElem?_getD]
    rcases Nat.lt_or_ge n (zerU row.length row).length with z | z
    · rw [List.getElem?_append_left z]
      have hx := List.getElem?_eq_getElem z
      generalize (zerU row.length row)[n] = x at hx
      obtain ⟨j, hj, rfl, h0, hc⟩ := (zer_at row _ (Nat.le_refl _) n x).mp hx
      rw [hx]
      exact ⟨j, by omega, rfl⟩
    · rcases Nat.lt_or_ge (zerU row.length row).length n with y | y
      · rw [List.getElem?_eq_none (by rw [List.length_append]; show _ + 1 ≤ n; omega)]
        exact ⟨0, Nat.zero_le _, rfl⟩
      · have en : n = (zerU row.length row).length := by omega
        subst en
        rw [List.getElem?_append_right (Nat.le_refl _), Nat.sub_self]
        exact ⟨row.length, Nat.le_refl _, rfl⟩
theorem befS_next (rows : List (List Int)) (c : List Nat) (i : Nat) : befS rows c (i + 1) = befS rows c i ++ (rows.getD i []).take ((places (rows.getD i [])).getD (c.getD i 0) 0).toNat := by
  unfold befS
  rw [List.range_succ, List.flatMap_append]
  simp
theorem befS_len {rows : List (List Int)} (h60 : ∀ r ∈ rows, r.length ≤ 60) (c : List Nat) : ∀ i, (befS rows c i).length ≤ 60 * i
  | 0 => Nat.le_refl _
  | i + 1 => by
    have ih := befS_len h60 c i
    rw [befS_next, List.length_append, List.length_take]
    have : (rows.getD i []).length ≤ 60 := by
      rw [List.getD_eq_getElem?_getD]
      cases e : rows[i]? with
      | none => exact Nat.zero_le _
      | some r => exact h60 r (List.mem_of_getElem? e)
    omega
theorem w_islineS {rows : List (List Int)} {many most : Nat} {c : List Nat} {S : Sto} {R : DK} (hG : Good many most rows) (h6 : many ≤ 6) (h60 : most ≤ 60) (hl : c.length = rows.length) (hc : LeL c (prs rows))
    (q : ∀ b S', SG S S' → (b = true ↔ ConsL rows c) → R (.bl b) S') : dFn 6 B_law_is_line_4540 [.tup (rowsD rows), .tup (natD c)] S R := by
  have rl := hG.len
  have r60 := hG.row60 h60
  have hb : ∀ (p : Nat) (row : List Int) (x : Nat), rows[p]? = some row → c[p]? = some x → x ≤ row.count 0 + 1 := fun p row x h1 h2 => hc p x _ h2 (prsA h1)
  refine ⟨rfl, fun f nf => ?_⟩
  have sg1 : SG S (S.put f (.lst [])) := .new nf
  have hf1 : (S.put f (.lst [])) f = some (.lst (intsD (befS rows c 0))) := Sto.same
  generalize S.put f (.lst []) = S1 at sg1 hf1 ⊢
  refine ⟨_, rfl, _, _, rfl, rfl, fun i env S' => i ≤ rows.length ∧ ∃ x3 x4 : Option D, env = [some (.tup (rowsD rows)), some (.tup (natD c)), some (.ref f), x3, x4, none] ∧ SG S S' ∧ S' f = some (.lst (intsD (befS rows c i))), ⟨Nat.zero_le _, _, _, rfl, sg1, hf1⟩, fun _ _ _ _ _ => True.intro, ?_, ?_⟩
  · rintro i e env S2 he ⟨hi0, x3, x4, rfl, sg2, hf2⟩
    have he : (enD (natD c))[i]? = some e := he
    unfold enD natD at he
    rw [List.getElem?_mapIdx, List.getElem?_map, Option.map_map] at he
    obtain ⟨x, hx, rfl⟩ := Option.map_eq_some_iff.mp he
    have hi : i < rows.length := by rw [← hl]; exact (List.getElem?_eq_some_iff.mp hx).1
    obtain ⟨row, hrow⟩ := row_of hi
    have hr6 := r60 row (List.mem_of_getElem? hrow)
    have hrd : (rowsD rows)[i]? = some (rowD row) := by
      unfold rowsD
      rw [List.getElem?_map, hrow]
      rfl
    refine ⟨_, rfl, .inl (.inl rfl), _, _, rfl, _, _, rfl, rfl, ?_⟩
    refine ⟨_, rfl, ⟨rfl, _, seqOf_lst hf2, noTup _⟩, _, rfl, _, rfl, _, (i : Int), _, rfl, rfl, atI_nat hrd, _, rfl, _, rfl, _, rfl, rfl, w_lplaceS hrow (by omega) (hb i row x hrow hx) fun S3 sg3 => ⟨_, rfl, ?_⟩⟩
    obtain ⟨k, hk, hke⟩ := place_nat (row := row) (n := x)
    rw [hke]
    dsimp only [rSlq, rowD]
    rw [cutI_to hk]
    refine ⟨_, _, rfl, rfl, fun g ng => ?_⟩
    have hf3 := sg3 _ _ (fun z => z) hf2
    have sgg : SG S3 (S3.put g (.lst (intsD (row.take k)))) := .new ng
    have hg : (S3.put g (.lst (intsD (row.take k)))) g = some (.lst (intsD (row.take k))) := Sto.same
    have bl := befS_len r60 c i
    have il : 60 * i ≤ 60 * 6 := Nat.mul_le_mul_left _ (by omega)
    have tl : (row.take k).length ≤ 60 := by rw [List.length_take]; omega
    refine ⟨f, g, _, _, rfl, rfl, sgg _ _ (fun z => z) hf3, hg, by rw [intsD_len, intsD_len]; omega, hi, _, _, rfl, SG.keepP nf ((sg2.trans sg3).trans sgg) (.refl _), ?_⟩
    rw [Sto.same, befS_next]
    have e1 : rows.getD i [] = row := by rw [List.getD_eq_getElem?_getD, hrow]; rfl
    have e2 : c.getD i 0 = x := by rw [List.getD_eq_getElem?_getD, hx]; rfl
    rw [e1, e2, hke, Int.toNat_natCast]
    unfold intsD
    rw [List.map_append]
  · rintro env S2 ⟨hi0, x3, x4, rfl, sg2, hf2⟩
    have hf2 : S2 f = some (.lst (intsD (befS rows c (enD (natD c)).length))) := hf2
    rw [enD_len, natD_len, hl] at hf2
    have bl := befS_len r60 c rows.length
    have il : 60 * rows.length ≤ 60 * 6 := Nat.mul_le_mul_left _ (by omega)
    have key := bef_cons hG hb hl
    generalize befS rows c rows.length = B at hf2 bl key
    refine ⟨_, rfl, _, ⟨_, hf2, rfl⟩, lc_mapE B D.int rfl (fun e => if (decide (e < 0) && !decide ((0 - e) ∈ B)) = true then some (D.int e) else none) (by omega) (fun S' sg => sg _ _ (fun z => z) hf2) (fun e he S3 sg3 K Kn hky hkn => turn_n ?_) fun r S3 nr sg3 hr => ?_⟩
    · have hf3 := sg3 _ _ (fun z => z) hf2
      refine ⟨_, rfl, _, rfl, iteB (fun h1 => ?_) (fun h1 => ?_)⟩
      · have h1 : decide (e < 0) = true := h1
        rw [h1, Bool.true_and] at hky hkn
        refine ⟨_, rfl, _, rfl, _, _, .int _, .inl (.lst hf3 (pys_ints _)), rfl, shaped_tup _, shaped_lst _, _, rfl, ?_⟩
        rw [any_int, xor_tt]
        exact iteB (fun h2 => ⟨_, rfl, hky _ (if_pos h2) _ (.refl _)⟩) (fun h2 => hkn (if_neg (by rw [h2]; exact Bool.false_ne_true)) _ (.refl _))
      · have h1 : decide (e < 0) = false := h1
        rw [h1, Bool.false_and] at hkn
        exact goF (hkn (if_neg Bool.false_ne_true) _ (.refl _))
    rw [fm_iteS D.int (fun e => decide (e < 0) && !decide ((0 - e) ∈ B))] at hr
    have hr : S3 r = some (.lst (intsD (B.filter fun e => decide (e < 0) && !decide ((0 - e) ∈ B)))) := hr
    refine ⟨rfl, fun u nu => ?_⟩
    have sgu : SG S3 (S3.put u (.lst [])) := .new nu
    refine ⟨_, _, .lst (sgu _ _ (fun z => z) hr) (pys_ints _), .lst Sto.same .nil, shaped_ints _, by decide +kernel, ?_⟩
    rw [eqv_nil, xor_ff, List.isEmpty_map]
    refine q _ _ ((sg2.trans sg3).trans sgu) ?_
    rw [List.isEmpty_iff, List.filter_eq_nil_iff, ← key]
    constructor
    · intro h e he hn
      have := h e he
      rw [Bool.and_eq_true, Bool.not_eq_true', decide_eq_true_iff, decide_eq_false_iff_not] at this
      exact Classical.byContradiction fun z => this ⟨hn, z⟩
    · intro h e he
      rw [Bool.and_eq_true, Bool.not_eq_true', decide_eq_true_iff, decide_eq_false_iff_not]
      rintro ⟨h1, h2⟩
      exact h2 (h e he h1)
end Sv
set_option maxHeartbeats 800000
set_option autoImplicit false
namespace Sv
open PySem PySem.Spec PyProof.Rows L2
theorem w_allS {rows : List (List Int)} {many most : Nat} {S : Sto} {R : DK} (hG : Good many most rows) (h4 : many ≤ 4) (h16 : most ≤ 16)
    (k : ∀ f S', SG S S' → S f = none → S' f = some (.lst ((linesU rows).map cutD')) → R (.ref f) S') : dFn 6 B_law_all_lines_88dc [.tup (rowsD rows)] S R := by
  have rl := hG.len
  have r60 := hG.row60 (show most ≤ 60 by omega)
  have few := cutsU_few rows (by omega) (Nat.le_trans hG.events h16)
  refine ⟨rfl, rfl, fun f0 nf0 => ?_⟩
  have sg0 : SG S (S.put f0 (.lst [.tup []])) := .new nf0
  have hf0 : (S.put f0 (.lst [.tup []])) f0 = some (.lst ((cutsU rows 0).map cutD')) := Sto.same
  generalize S.put f0 (.lst [.tup []]) = S1 at sg0 hf0 ⊢
  refine ⟨_, rfl, _, rfl, fun i env S' => i ≤ rows.length ∧ ∃ (f : Addr) (x2 x3 x4 : Option D), env = [some (.tup (rowsD rows)), some (.ref f), x2, x3, x4, none] ∧ SG S S' ∧ S' f = some (.lst ((cutsU rows i).map cutD')), ⟨Nat.zero_le _, f0, _, _, _, rfl, sg0, hf0⟩, fun _ _ _ _ _ => True.intro, ?_, ?_⟩
  · rintro i d env S2 hd ⟨hi0, f, x2, x3, x4, rfl, sg2, hf2⟩
    have hd : (rows.map rowD)[i]? = some d := hd
    rw [List.getElem?_map] at hd
    obtain ⟨row, hrow, rfl⟩ := Option.map_eq_some_iff.mp hd
    have hi := (List.getElem?_eq_some_iff.mp hrow).1
    have hg' : rows.getD i [] = row := by rw [List.getD_eq_getElem?_getD, hrow]; rfl
    have hr := r60 row (List.mem_of_getElem? hrow)
    have hc : row.count 0 ≤ row.length := List.count_le_length ..
    refine ⟨rfl, fun g ng => ?_⟩
    have gS : S g = none := by
      cases z : S g with
      | none => rfl
      | some o => rw [sg2 _ _ (fun z => z) z] at ng; cases ng
    have fg : f ≠ g := fun z => by rw [← z, hf2] at ng; cases ng
    have sgg : SG S2 (S2.put g (.lst [])) := .new ng
    have hg : (S2.put g (.lst [])) g = some (.lst ((((cutsU rows i).take 0).flatMap fun c => (List.range (row.count 0 + 2)).map fun n => c ++ [n]).map cutD')) := Sto.same
    have hf3 := sgg _ _ (fun z => z) hf2
    have sg3 := sg2.trans sgg
    generalize S2.put g (.lst []) = S3 at sgg hg hf3 sg3 ⊢
    refine ⟨_, rfl, _, ⟨_, hf3, rfl⟩, fun j env S' => j ≤ (cutsU rows i).length ∧ ∃ (x4 : Option D), env = [some (.tup (rowsD rows)), some (.ref f), some (rowD row), some (.ref g), x4, none] ∧ SG S S' ∧ S' f = some (.lst ((cutsU rows i).map cutD')) ∧ S' g = some (.lst ((((cutsU rows i).take j).flatMap fun c => (List.range (row.count 0 + 2)).map fun n => c ++ [n]).map cutD')),
      ⟨Nat.zero_le _, _, rfl, sg3, hf3, hg⟩, fun j env S' _ h => ?_, ?_, ?_⟩
    · obtain ⟨_, _, _, _, hf, _⟩ := h
      exact hf
    · rintro j d env S4 hd ⟨hj0, x4, rfl, sg4, hf4, hg4⟩
      have hd : ((cutsU rows i).map cutD')[j]? = some d := hd
      rw [List.getElem?_map] at hd
      obtain ⟨c, hcj, rfl⟩ := Option.map_eq_some_iff.mp hd
      have hj := (List.getElem?_eq_some_iff.mp hcj).1
      have cl := cutsU_each i c (List.mem_of_getElem? hcj)
      refine ⟨_, rfl, ⟨rfl, _, seqOf_lst hg4, noTup _⟩, _, rfl, ⟨_, rfl⟩, row, 0, rfl, rfl, (((row.count 0 : Nat) : Int) + 2), rfl, by omega, by omega, ?_⟩
      refine lc_mapE (List.range (row.count 0 + 2)) (fun n : Nat => .int (0 + (n : Int))) (by show rgD 0 (((row.count 0 : Nat) : Int) + 2).toNat = _; rw [show (((row.count 0 : Nat) : Int) + 2).toNat = row.count 0 + 2 by omega]; rfl) (fun n : Nat => some (cutD' (c ++ [n]))) (by rw [List.length_range]; omega) (fun _ _ => True.intro) (fun n _ S5 sg5 K Kn hk _ => turn_y ⟨_, rfl, _, rfl, rfl, ?_, ?_⟩) fun p S5 np sg5 hp => ?_
      · rw [natD_len, cl]
        show i + 1 ≤ 100000
        omega
      · refine hk _ ?_ _ (.refl _)
        unfold cutD' natD
        rw [List.map_append]
        show some (D.tup (_ ++ [.int (n : Int)])) = some (D.tup (_ ++ [.int (0 + (n : Int))]))
        rw [Int.zero_add]
      · have e : ((List.range (row.count 0 + 2)).filterMap fun n => some (cutD' (c ++ [n]))) = ((List.range (row.count 0 + 2)).map fun n => c ++ [n]).map cutD' := by
          rw [fm_map, List.map_map]
          rfl
        rw [e] at hp
        have hlen2 : (((cutsU rows i).take j).flatMap fun c => (List.range (row.count 0 + 2)).map fun n => c ++ [n]).length ≤ 10000 := by
          rw [flat_const _ (row.count 0 + 2) _ fun c _ => by rw [List.length_map, List.length_range]]
          have h1 := few (i + 1) (by omega)
          rw [cutsU_next, hg'] at h1
          refine Nat.le_trans (Nat.mul_le_mul_right _ ?_) h1
          rw [List.length_take]
          omega
        refine ⟨g, p, _, _, rfl, rfl, sg5 _ _ (fun z => z) hg4, hp, ?_, hj, _, rfl, SG.keepP gS sg4 sg5, (Sto.ne fg).trans (sg5 _ _ (fun z => z) hf4), ?_⟩
        · rw [List.length_map, List.length_map, List.length_map, List.length_range]
          omega
        · rw [Sto.same, ← List.map_append, take_map hcj, List.flatMap_append]
          simp
    · rintro env S4 ⟨hj0, x4, rfl, sg4, hf4, hg4⟩
      have hlen : ((cutsU rows i).map cutD').length = (cutsU rows i).length := List.length_map ..
      have hg4 : S4 g = some (.lst ((((cutsU rows i).take ((cutsU rows i).map cutD').length).flatMap fun c => (List.range (row.count 0 + 2)).map fun n => c ++ [n]).map cutD')) := hg4
      rw [hlen, List.take_length] at hg4
      refine ⟨_, rfl, hi, g, _, _, _, rfl, sg4, ?_⟩
      rw [hg4]
      show _ = some (Ob.lst (((cutsU rows i).flatMap fun c => (List.range ((rows.getD i []).count 0 + 2)).map fun n => c ++ [n]).map cutD'))
      rw [hg']
  · rintro env S2 ⟨hi0, f, x2, x3, x4, rfl, sg2, hf2⟩
    have hlen : (rowsD rows).length = rows.length := List.length_map ..
    have hf2 : S2 f = some (.lst ((cutsU rows (rowsD rows).length).map cutD')) := hf2
    rw [hlen] at hf2
    have cfew := few rows.length (by omega)
    refine ⟨_, rfl, _, ⟨_, hf2, rfl⟩, lc_mapE (cutsU rows rows.length) cutD' rfl (fun c => if consB rows c = true then some (cutD' c) else none) (by omega) (fun S' sg => sg _ _ (fun z => z) hf2) (fun c hc S5 sg5 K Kn hky hkn => turn_n ?_) fun g S5 ng sg5 hg => ?_⟩
    · obtain ⟨cl, cle⟩ := cutsU_lines.mp hc
      refine ⟨_, rfl, _, rfl, rfl, w_islineS hG (by omega) (by omega) cl cle fun b S6 sg6 hb => ⟨_, rfl, ?_⟩⟩
      have e : consB rows c = b := by rw [Bool.eq_iff_iff, consB_iff, hb]
      rw [e] at hky hkn
      exact iteB (fun h => ⟨_, rfl, hky _ (if_pos h) _ sg6⟩) (fun h => hkn (if_neg (by rw [h]; exact Bool.false_ne_true)) _ sg6)
    · rw [fm_iteS cutD' (consB rows)] at hg
      have gS : S g = none := by
        cases z : S g with
        | none => rfl
        | some o => rw [sg2 _ _ (fun z => z) z] at ng; cases ng
      exact k g S5 (sg2.trans sg5) gS hg
end Sv
set_option maxHeartbeats 800000
set_option autoImplicit false
namespace Sv
open PySem PySem.Spec PyProof.Rows L2
theorem fall_lines (rows : List (List Int)) (fs : List Int) : fallL rows fs ∈ linesU rows := by
  refine linesU_mem.mpr ⟨fall_len rows fs, fun i x y h1 h2 => ?_, (fall_low rows fs).cons⟩
  have hi : i < rows.length := by
    have := (List.getElem?_eq_some_iff.mp h1).1
    rw [fall_len] at this
    exact this
  obtain ⟨row, hrow⟩ := row_of hi
  have h4 := (fall_low rows fs).le i x _ h1 (tops_at hrow)
  rw [prsA hrow] at h2
  cases h2
  split at h4 <;> omega
end Sv
set_option maxHeartbeats 800000
set_option autoImplicit false
set_option maxHeartbeats 1000000
set_option autoImplicit false
set_option maxHeartbeats 1000000
set_option autoImplicit false
namespace Sv
open PySem PySem.Spec PyProof.Rows L2
theorem w_sameP {x y : D} {p : PyData} {S : Sto} {R : DK} (hx : Py S x p) (hy : Py S y p) (t : Text p) (q : R (.bl true) S) : dFn 2 B_law_same_de9b [x, y] S R := by
  refine ⟨_, rfl, .inr (.inr ⟨_, _, rfl, hx, t, _, rfl, .inr (.inr ⟨_, _, rfl, hy, t, ?_⟩)⟩)⟩
  show R (.bl (decide (_ = _) ^^ false)) S
  rw [decide_eq_true rfl]
  exact q
end Sv
namespace Sv
open PySem PySem.Spec PyProof.Rows L2
def Has (r : List (List Int)) (e : Int) : Prop := ∃ (j : Nat) (row : List Int) (k : Nat), r[j]? = some row ∧ row[k]? = some e
theorem at_set {r : List (List Int)} {p : Nat} {row : List Int} (h : r[p]? = some row) (x : List Int) : (r.set p x)[p]? = some x := by
  rw [List.getElem?_set, if_pos rfl, if_pos (List.getElem?_eq_some_iff.mp h).1]
/-- a row grows: what was there stays there -/
theorem grow_at {r : List (List Int)} {p : Nat} {row : List Int} {v : Int} (h : r[p]? = some row) {i n : Nat} {a : List Int} {e : Int} (h1 : r[i]? = some a) (h2 : a[n]? = some e) : ∃ b, (r.set p (row ++ [v]))[i]? = some b ∧ b[n]? = some e := by
  by_cases z : p = i
  · subst z
    obtain rfl := Option.some.inj (h.symm.trans h1)
    exact ⟨_, at_set h _, by rw [List.getElem?_append_left (List.getElem?_eq_some_iff.mp h2).1]; exact h2⟩
  · exact ⟨a, by rw [List.getElem?_set_ne z]; exact h1, h2⟩
theorem Has.grow {r : List (List Int)} {p : Nat} {row : List Int} {v e : Int} (h : r[p]? = some row) (q : Has r e) : Has (r.set p (row ++ [v])) e := by
  obtain ⟨j, a, k, h1, h2⟩ := q
  obtain ⟨b, h3, h4⟩ := grow_at (v := v) h h1 h2
  exact ⟨j, b, k, h3, h4⟩
/-- the process that goes on: the lowest whose next event need not wait; S: what happened -/
def goesFrom (S : List Int) : Nat → List (List Int) → List Nat → Option (Nat × Int)
  | p, r :: rs, n :: ns => match r[n]? with
    | some e => if 0 ≤ e ∨ -e ∈ S then some (p, e) else goesFrom S (p + 1) rs ns
    | none => goesFrom S (p + 1) rs ns
  | _, _, _ => none
/-- the events that the places have passed -/
def seen : List (List Int) → List Nat → List Int
  | r :: rs, n :: ns => r.take n ++ seen rs ns
  | _, _ => []
def goes (rows : List (List Int)) (pl : List Nat) : Option (Nat × Int) := goesFrom (seen rows pl) 0 rows pl
def total (rows : List (List Int)) : Nat := (rows.map List.length).sum
theorem seen_step : ∀ {rows : List (List Int)} {pl : List Nat} {p n : Nat} {r : List Int} {e : Int}, rows[p]? = some r → pl[p]? = some n → r[n]? = some e → ∀ x, x ∈ seen rows (pl.set p (n + 1)) ↔ x = e ∨ x ∈ seen rows pl
  | [], _, p, _, _, _, h, _, _ => by simp at h
  | _ :: _, [], p, _, _, _, _, h, _ => by simp at h
  | a :: rs, m :: ns, 0, n, r, e, h1, h2, h3 => fun x => by
    obtain rfl : a = r := Option.some.inj h1
    obtain rfl : m = n := Option.some.inj h2
    simp only [List.set_cons_zero, seen, List.take_add_one, h3, Option.toList, List.mem_append, List.mem_singleton]
    constructor
    · rintro ((h | h) | h)
      · exact .inr (.inl h)
      · exact .inl h
      · exact .inr (.inr h)
    · rintro (h | h | h)
      · exact .inl (.inr h)
      · exact .inl (.inl h)
      · exact .inr h
  | a :: rs, m :: ns, p + 1, n, r, e, h1, h2, h3 => fun x => by
    have ih := seen_step (rows := rs) (pl := ns) (p := p) (n := n) (r := r) (e := e) h1 h2 h3 x
    simp only [List.set_cons_succ, seen, List.mem_append, ih]
    constructor
    · rintro (h | h | h)
      · exact .inr (.inl h)
      · exact .inl h
      · exact .inr (.inr h)
    · rintro (h | h | h)
      · exact .inr (.inl h)
      · exact .inl h
      · exact .inr (.inr h)
/-- the places are within the rows -/
def Fit (rows : List (List Int)) (pl : List Nat) : Prop := ∀ (i : Nat) (r : List Int) (n : Nat), rows[i]? = some r → pl[i]? = some n → n ≤ r.length
theorem fit_set {rows : List (List Int)} {pl : List Nat} {p n : Nat} {r : List Int} {e : Int} (f : Fit rows pl) (h : rows[p]? = some r) (h1 : pl[p]? = some n) (h2 : r[n]? = some e) : Fit rows (pl.set p (n + 1)) := fun i r' n' a b => by
  by_cases z : p = i
  · subst z
    rw [h] at a
    cases a
    rw [List.getElem?_set] at b
    rw [if_pos rfl] at b
    split at b
    · cases b
      exact (List.getElem?_eq_some_iff.mp h2).1
    · cases b
  · rw [List.getElem?_set_ne z] at b
    exact f i r' n' a b
/-- the events of one process in such an order -/
def own (p : Nat) (l : List (Int × Int)) : List Int := (l.filter fun q => decide (q.1 = (p : Int))).map (·.2)
def Ready (r : List (List Int)) (n : Nat → Nat) : Prop := ∃ (i : Nat) (row : List Int) (e : Int), r[i]? = some row ∧ row[n i]? = some e ∧ (0 ≤ e ∨ ∃ (j : Nat) (row2 : List Int) (k : Nat), r[j]? = some row2 ∧ k < n j ∧ row2[k]? = some (-e))
theorem set_at {r : List (List Int)} {p i : Nat} {x row : List Int} (h : (r.set p x)[i]? = some row) : (p = i ∧ row = x) ∨ (p ≠ i ∧ r[i]? = some row) := by
  by_cases e : p = i
  · subst e
    rw [List.getElem?_set, if_pos rfl] at h
    split at h
    · exact .inl ⟨rfl, (Option.some.inj h).symm⟩
    · cases h
  · rw [List.getElem?_set_ne e] at h
    exact .inr ⟨e, h⟩
/-- one event more: someone can go on -/
theorem ready_grow {r : List (List Int)} {p : Nat} {row : List Int} {v : Int} (h : r[p]? = some row) (hv : 0 ≤ v ∨ Has r (-v)) {n : Nat → Nat} (ih : (∃ (i : Nat) (a : List Int), r[i]? = some a ∧ n i < a.length) → Ready r n)
    (hi : ∃ (i : Nat) (a : List Int), (r.set p (row ++ [v]))[i]? = some a ∧ n i < a.length) : Ready (r.set p (row ++ [v])) n := by
  by_cases z : ∃ (i : Nat) (a : List Int), r[i]? = some a ∧ n i < a.length
  · obtain ⟨i, a, e, h1, h2, h3⟩ := ih z
    obtain ⟨b, h4, h5⟩ := grow_at (v := v) h h1 h2
    refine ⟨i, b, e, h4, h5, h3.imp_right ?_⟩
    rintro ⟨j, a2, k, h6, h7, h8⟩
    obtain ⟨b2, h9, h10⟩ := grow_at (v := v) h h6 h8
    exact ⟨j, b2, k, h9, h7, h10⟩
  · have all : ∀ (i : Nat) (a : List Int), r[i]? = some a → a.length ≤ n i := fun i a h1 => Nat.le_of_not_lt fun h2 => z ⟨i, a, h1, h2⟩
    obtain ⟨i, a, h1, h2⟩ := hi
    rcases set_at h1 with ⟨rfl, rfl⟩ | ⟨_, h3⟩
    · have h4 := all _ _ h
      rw [List.length_append, List.length_singleton] at h2
      have h5 : n p = row.length := by omega
      refine ⟨p, _, v, h1, by rw [h5]; exact List.getElem?_concat_length, hv.imp_right ?_⟩
      rintro ⟨j, a2, k, h6, h7⟩
      obtain ⟨b2, h9, h10⟩ := grow_at (v := v) h h6 h7
      exact ⟨j, b2, k, h9, Nat.lt_of_lt_of_le (List.getElem?_eq_some_iff.mp h7).1 (all _ _ h6), h10⟩
    · exact absurd (all _ _ h3) (by omega)
theorem Grown.open_has {c : Nat} {nm : List Int} {r : List (List Int)} {o : List (Int × Int)} {u k : Nat} (h : Grown c nm r o u k) : ∀ p ∈ o, Has r p.1 := by
  induction h with
  | start => exact fun _ z => (nomatch z)
  | skip _ ih => exact ih
  | save _ h ih => exact fun p hp => (ih p hp).grow h
  | send _ h hu ih =>
    intro p hp
    rcases List.mem_append.mp hp with z | z
    · exact (ih p z).grow h
    · rw [List.mem_singleton.mp z]
      exact ⟨_, _, _, at_set h _, List.getElem?_concat_length⟩
  | recv _ h hj _ ih => exact fun p hp => (ih p (List.mem_of_mem_eraseIdx hp)).grow h
theorem Grown.ready {c : Nat} {nm : List Int} {r : List (List Int)} {o : List (Int × Int)} {u k : Nat} (h : Grown c nm r o u k) (hn : nm.Perm names24) (n : Nat → Nat) : (∃ (i : Nat) (a : List Int), r[i]? = some a ∧ n i < a.length) → Ready r n := by
  induction h with
  | start =>
    rintro ⟨i, a, h1, h2⟩
    rw [(List.mem_replicate.mp (List.mem_of_getElem? h1)).2] at h2
    exact absurd h2 (Nat.not_lt_zero _)
  | skip _ ih => exact ih
  | save _ h ih => exact ready_grow h (.inl (by decide)) ih
  | send _ h hu ih => exact ready_grow h (.inl (by have := names_pos hn _ (List.mem_of_getElem? hu); omega)) ih
  | recv g h hj _ ih =>
    refine ready_grow h (.inr ?_) ih
    have e : ∀ m : Int, -(0 - m) = m := fun m => by omega
    rw [e]
    exact g.open_has _ (List.mem_of_getElem? hj)
theorem goesFrom_any {S : List Int} : ∀ {rs : List (List Int)} {pl : List Nat} {q i n : Nat} {r : List Int} {e : Int}, rs[i]? = some r → pl[i]? = some n → r[n]? = some e → (0 ≤ e ∨ -e ∈ S) → goesFrom S q rs pl ≠ none
  | [], _, q, i, n, r, e, h, _, _, _ => by simp at h
  | _ :: _, [], q, i, n, r, e, _, h, _, _ => by simp at h
  | a :: rs, m :: ns, q, 0, n, r, e, h1, h2, h3, h4 => by
    obtain rfl : a = r := Option.some.inj h1
    obtain rfl : m = n := Option.some.inj h2
    unfold goesFrom
    rw [h3]
    simp only
    rw [if_pos h4]
    exact fun z => (nomatch z)
  | a :: rs, m :: ns, q, i + 1, n, r, e, h1, h2, h3, h4 => by
    have ih := goesFrom_any (S := S) (rs := rs) (pl := ns) (q := q + 1) (i := i) h1 h2 h3 h4
    unfold goesFrom
    cases a[m]? with
    | none => exact ih
    | some x =>
      simp only
      split
      · exact fun z => (nomatch z)
      · exact ih
theorem seen_mem : ∀ {rows : List (List Int)} {pl : List Nat} {j k n : Nat} {row : List Int} {e : Int}, rows[j]? = some row → pl[j]? = some n → k < n → row[k]? = some e → e ∈ seen rows pl
  | [], _, j, _, _, _, _, h, _, _, _ => by simp at h
  | _ :: _, [], j, _, _, _, _, _, h, _, _ => by simp at h
  | r :: rs, m :: ns, 0, k, n, row, e, h1, h2, h3, h4 => by
    obtain rfl : r = row := Option.some.inj h1
    obtain rfl : m = n := Option.some.inj h2
    unfold seen
    refine List.mem_append_left _ (List.mem_of_getElem? (i := k) ?_)
    rw [List.getElem?_take_of_lt h3]
    exact h4
  | r :: rs, m :: ns, j + 1, k, n, row, e, h1, h2, h3, h4 => by
    unfold seen
    exact List.mem_append_right _ (seen_mem (rows := rs) (pl := ns) (j := j) h1 h2 h3 h4)
/-- never stuck -/
theorem Good.done {many most : Nat} {rows : List (List Int)} (h : Good many most rows) {pl : List Nat} (hl : pl.length = rows.length) (hg : goes rows pl = none) : ∀ (i : Nat) (r : List Int) (n : Nat), rows[i]? = some r → pl[i]? = some n → r.length ≤ n := by
  obtain ⟨c, nm, o, u, k, _, _, hp, g, _⟩ := h
  intro i r n h1 h2
  refine Nat.le_of_not_lt fun h3 => ?_
  have e2 : pl.getD i 0 = n := by rw [List.getD_eq_getElem?_getD, h2]; rfl
  obtain ⟨i', a, e, h4, h5, h6⟩ := g.ready hp (fun i => pl.getD i 0) ⟨i, r, h1, by rw [e2]; exact h3⟩
  have at' : ∀ {j : Nat} {b : List Int}, rows[j]? = some b → pl[j]? = some (pl.getD j 0) := fun {j b} hj => by
    have hj' : j < pl.length := by
      rw [hl]
      exact (List.getElem?_eq_some_iff.mp hj).1
    rw [List.getD_eq_getElem?_getD, List.getElem?_eq_getElem hj']
    rfl
  refine goesFrom_any (S := seen rows pl) (q := 0) h4 (at' h4) h5 (h6.imp_right ?_) hg
  rintro ⟨j, b, k', h7, h8, h9⟩
  exact seen_mem h7 (at' h7) h8 h9
theorem seen_zero : ∀ {rows : List (List Int)} {n : Nat}, seen rows (List.replicate n 0) = []
  | [], n => by simp [seen]
  | r :: rs, 0 => by simp [seen]
  | r :: rs, n + 1 => by
    show r.take 0 ++ seen rs (List.replicate n 0) = []
    rw [seen_zero]
    rfl
end Sv
set_option maxHeartbeats 1000000
set_option autoImplicit false
set_option maxHeartbeats 1000000
set_option autoImplicit false
set_option maxHeartbeats 1000000
set_option autoImplicit false
set_option maxHeartbeats 1000000
set_option autoImplicit false
set_option maxHeartbeats 1000000
set_option autoImplicit false
namespace Sv
open PySem PySem.Spec PyProof.Rows L2
def nz (row : List Int) : List Int := row.filter fun e => decide (e ≠ 0)
/-- times of the events: a row goes forward, a receipt is behind its sending -/
structure Rank (rows : List (List Int)) (t : Int → Nat) : Prop where
  row : ∀ row ∈ rows, (nz row).Pairwise fun a b => t a < t b
  rcv : ∀ row ∈ rows, ∀ e ∈ row, e < 0 → t (-e) < t e
structure Hist (rows : List (List Int)) : Prop where
  l1 : 1 ≤ rows.length
  l6 : rows.length ≤ 6
  tot : total rows ≤ 60
  rng : ∀ row ∈ rows, ∀ e ∈ row, -24 ≤ e ∧ e ≤ 24
  once : ∀ e, e ≠ 0 → rows.flatten.count e ≤ 1
  sent : ∀ (p : Nat) (row : List Int) (e : Int), rows[p]? = some row → e ∈ row → e < 0 → ∃ (q : Nat) (row2 : List Int), q ≠ p ∧ rows[q]? = some row2 ∧ -e ∈ row2
  rank : ∃ t, Rank rows t
end Sv
set_option maxHeartbeats 1000000
set_option autoImplicit false
namespace Sv
open PySem PySem.Spec PyProof.Rows L2
theorem flat_mem {r : List (List Int)} {p : Nat} {row : List Int} {e : Int} (h : r[p]? = some row) (he : e ∈ row) : e ∈ r.flatten := List.mem_flatten.mpr ⟨row, List.mem_of_getElem? h, he⟩
end Sv
set_option maxHeartbeats 1000000
set_option autoImplicit false
namespace Sv
open PySem PySem.Spec PyProof.Rows L2
theorem w_sameB {b : Bool} {S : Sto} {R : DK} (q : R (.bl true) S) : dFn 2 B_law_same_de9b [.bl b, .bl b] S R := by
  refine ⟨_, rfl, .inl ⟨b, rfl, _, rfl, .inl ⟨b, rfl, ?_⟩⟩⟩
  show R (.bl (decide (_ = _) ^^ false)) S
  rw [decide_eq_true rfl]
  exact q
theorem hapC {rows : List (List Int)} {p i : Nat} {row : List Int} {e : Int} (hc : rows.flatten.count e ≤ 1) (h1 : rows[p]? = some row) (h2 : row[i]? = some e) : hap rows e = some (p, (row.take i).count 0) := by
  have hm := List.mem_of_getElem? h2
  have h3 := hapFrom_some (e := e) (p := 0) (rs := rows) (i := p) (row := row) (fun j r hj hr hr2 => ?_) h1 hm
  · unfold hap
    rw [h3, Nat.zero_add, idx_once h2 (Nat.le_trans (count_at h1) hc)]
  · have := count_two hj hr h1 hr2 hm
    omega
theorem hapN {rows : List (List Int)} {e : Int} (h : e ∉ rows.flatten) : hap rows e = none := hapFrom_none fun j r hr hm => h (flat_mem hr hm)
theorem hap_cases {rows : List (List Int)} {e : Int} (hc : rows.flatten.count e ≤ 1) : (e ∉ rows.flatten ∧ hap rows e = none) ∨ ∃ (p i : Nat) (row : List Int), rows[p]? = some row ∧ row[i]? = some e ∧ hap rows e = some (p, (row.take i).count 0) := by
  by_cases h : e ∈ rows.flatten
  · obtain ⟨row, h1, h2⟩ := List.mem_flatten.mp h
    obtain ⟨p, hp⟩ := List.getElem?_of_mem h1
    obtain ⟨i, hi⟩ := List.getElem?_of_mem h2
    exact .inr ⟨p, i, row, hp, hi, hapC hc hp hi⟩
  · exact .inl ⟨h, hapN h⟩
theorem Hist.hapS {rows : List (List Int)} (h : Hist rows) (e : Int) : HapS (hap rows e) := by
  refine hapFrom_small (fun r hr => ?_) (by have := h.l6; omega)
  have h1 := h.tot
  have : r.length ≤ total rows := by
    obtain ⟨i, hi⟩ := List.getElem?_of_mem hr
    exact len_le_sum hi
  omega
end Sv
set_option maxHeartbeats 1000000
set_option autoImplicit false
namespace Sv
open PySem PySem.Spec PyProof.Rows L2
theorem once_pos {rows : List (List Int)} (h : ∀ e, e ≠ 0 → rows.flatten.count e ≤ 1) {i j k l : Nat} {r r' : List Int} {e : Int} (he : e ≠ 0) (h1 : rows[i]? = some r) (h2 : rows[j]? = some r') (h3 : r[k]? = some e) (h4 : r'[l]? = some e) : i = j ∧ k = l := by
  have hc := h e he
  have m1 := List.mem_of_getElem? h3
  have m2 := List.mem_of_getElem? h4
  have hij : i = j := by
    rcases Nat.lt_trichotomy i j with z | z | z
    · have := count_two z h1 h2 m1 m2; omega
    · exact z
    · have := count_two z h2 h1 m2 m1; omega
  subst hij
  rw [h1] at h2
  cases h2
  have c1 := Nat.le_trans (count_at h1 (e := e)) hc
  exact ⟨rfl, (idx_once h3 c1).symm.trans (idx_once h4 c1)⟩
end Sv
set_option maxHeartbeats 400000
set_option autoImplicit false
namespace Sv
open PySem PySem.Spec PyProof.Rows L2
/-- all of a history but its order -/
structure Pre (rows : List (List Int)) : Prop where
  l1 : 1 ≤ rows.length
  l6 : rows.length ≤ 6
  tot : total rows ≤ 60
  rng : ∀ row ∈ rows, ∀ e ∈ row, -24 ≤ e ∧ e ≤ 24
  once : ∀ e, e ≠ 0 → rows.flatten.count e ≤ 1
  sent : ∀ (p : Nat) (row : List Int) (e : Int), rows[p]? = some row → e ∈ row → e < 0 → ∃ (q : Nat) (row2 : List Int), q ≠ p ∧ rows[q]? = some row2 ∧ -e ∈ row2
theorem Hist.pre {rows : List (List Int)} (h : Hist rows) : Pre rows := ⟨h.l1, h.l6, h.tot, h.rng, h.once, h.sent⟩
variable {rows : List (List Int)} {ord : List Nat} {na : List Int}
end Sv
set_option maxHeartbeats 800000
set_option autoImplicit false
namespace Sv
open PySem PySem.Spec PyProof.Rows L2
/-- rows that lack events of others -/
structure SubR (rows bs : List (List Int)) : Prop where
  len : bs.length = rows.length
  sub : ∀ (i : Nat) (a b : List Int), rows[i]? = some a → bs[i]? = some b → b.Sublist a
theorem SubR.at {rows bs : List (List Int)} (s : SubR rows bs) {i : Nat} {b : List Int} (h : bs[i]? = some b) : ∃ a, rows[i]? = some a ∧ b.Sublist a := by
  have hi : i < rows.length := s.len ▸ (List.getElem?_eq_some_iff.mp h).1
  exact ⟨_, List.getElem?_eq_getElem hi, s.sub i _ _ (List.getElem?_eq_getElem hi) h⟩
theorem SubR.sent {rows bs : List (List Int)} (h : Hist rows) (s : SubR rows bs) : (∀ (p : Nat) (row : List Int) (e : Int), bs[p]? = some row → e ∈ row → e < 0 → ∃ (q : Nat) (row2 : List Int), q ≠ p ∧ bs[q]? = some row2 ∧ -e ∈ row2) ↔ ∀ e ∈ bs.flatten, e < 0 → -e ∈ bs.flatten := by
  constructor
  · intro hs e he h0
    obtain ⟨row, hr, he⟩ := List.mem_flatten.mp he
    obtain ⟨p, hp⟩ := List.getElem?_of_mem hr
    obtain ⟨q, row2, _, h2, h3⟩ := hs p row e hp he h0
    exact flat_mem h2 h3
  · intro hs p row e hp he h0
    obtain ⟨row2, hr, h3⟩ := List.mem_flatten.mp (hs e (flat_mem hp he) h0)
    obtain ⟨q, hq⟩ := List.getElem?_of_mem hr
    refine ⟨q, row2, fun z => ?_, hq, h3⟩
    subst z
    rw [hp] at hq
    cases hq
    obtain ⟨a, ha, sa⟩ := s.at hp
    obtain ⟨q', r', g1, g2, g3⟩ := h.sent q a e ha (sa.subset he) h0
    obtain ⟨i, hi⟩ := List.getElem?_of_mem (sa.subset h3)
    obtain ⟨j, hj⟩ := List.getElem?_of_mem g3
    exact g1 (once_pos h.once (by omega) g2 ha hj hi).1
def orB (rows : List (List Int)) (cs : List Nat) (m : Int) : Bool := match hap rows m, hap rows (0 - m) with
  | some (p, k), some (p', k') => decide (k' < cs.getD p' 0) && decide (cs.getD p 0 ≤ k)
  | _, _ => false
theorem w_consBC {rows : List (List Int)} {many most : Nat} {cs : List Nat} {S : Sto} {R : DK} (hG : Good many most rows) (h6 : many ≤ 6) (h60 : most ≤ 60) (hl : cs.length = rows.length) (q : ∀ S', SG S S' → R (.bl (consB rows cs)) S') :
    dFn 2 B_is_consistent_91aa [.tup (rowsD rows), cutD' cs] S R := by
  have rl := recvL_len rows
  have rf := hG.flat60
  refine ⟨_, rfl, _, rfl, rfl, ?_⟩
  refine ⟨_, rfl, rfl, w_trips hG h6 h60 fun S1 sg1 => ?_⟩
  refine ⟨_, rfl, _, rfl, lc_mapE (recvL rows) D.int (trips_keys rows) (fun m => if orB rows cs m = true then some (D.int m) else none) (by omega) (fun _ _ => True.intro) (fun m hm S2 sg K Kn hk hn => turn_n ?_) fun p S2 np sg2 hp => ?_⟩
  · obtain ⟨m1, p, k, p', k', a5, a6, e⟩ := hap_trip hG hm
    have hp : p < cs.length := by rw [hl]; exact Good.hap_lt a5
    have hp' : p' < cs.length := by rw [hl]; exact Good.hap_lt a6
    have x1 := List.getElem?_eq_getElem hp
    have x2 := List.getElem?_eq_getElem hp'
    refine ⟨_, rfl, _, rfl, _, Sum.inl m, _, rfl, rfl, trips_get hm, _, rfl, rfl, ?_⟩
    rw [e]
    have eo : orB rows cs m = (decide (k' < cs[p']) && decide (cs[p] ≤ k)) := by
      unfold orB
      rw [a5, a6]
      show (decide (k' < cs.getD p' 0) && decide (cs.getD p 0 ≤ k)) = _
      rw [getD_of x1, getD_of x2]
    refine w_orphT x1 x2 ⟨_, rfl, ?_⟩
    rw [← eo]
    have hk := hk (D.int m)
    cases h : orB rows cs m with
    | true =>
      rw [h] at hk
      exact goT ⟨_, rfl, hk rfl _ (.refl _)⟩
    | false =>
      rw [h] at hn
      exact goF (hn rfl _ (.refl _))
  · rw [fm_ite D.int (orB rows cs)] at hp
    refine ⟨_, _, rfl, seqOf_lst hp, fun ys z => (nomatch z), ?_⟩
    refine ⟨_, _, rfl, rfl, ?_⟩
    have := q _ (sg1.trans sg2)
    have e : (decide (((((recvL rows).filter (orB rows cs)).map D.int).length : Int) = 0) ^^ false) = consB rows cs := by
      rw [xor_ff, List.length_map, Bool.eq_iff_iff, consB_iff, decide_eq_true_iff]
      constructor
      · intro h m p k p' k' c c' hm h1 h2 h3 h4 h5
        have hnil : (recvL rows).filter (orB rows cs) = [] := List.eq_nil_of_length_eq_zero (by omega)
        rw [List.filter_eq_nil_iff] at hnil
        have := hnil m (hG.recv_mem hm h2)
        unfold orB at this
        rw [h1, h2] at this
        have this : ¬ (decide (k' < cs.getD p' 0) && decide (cs.getD p 0 ≤ k)) = true := this
        rw [getD_of h3, getD_of h4, Bool.and_eq_true, decide_eq_true_iff, decide_eq_true_iff] at this
        omega
      · intro h
        have hnil : (recvL rows).filter (orB rows cs) = [] := by
          rw [List.filter_eq_nil_iff]
          intro m hm ho
          obtain ⟨m1, p, k, p', k', a5, a6, e⟩ := hap_trip hG hm
          have hp : p < cs.length := by rw [hl]; exact Good.hap_lt a5
          have hp' : p' < cs.length := by rw [hl]; exact Good.hap_lt a6
          have x1 := List.getElem?_eq_getElem hp
          have x2 := List.getElem?_eq_getElem hp'
          unfold orB at ho
          rw [a5, a6] at ho
          have ho : (decide (k' < cs.getD p' 0) && decide (cs.getD p 0 ≤ k)) = true := ho
          rw [getD_of x1, getD_of x2, Bool.and_eq_true, decide_eq_true_iff, decide_eq_true_iff] at ho
          have := h m p k p' k' _ _ m1 a5 a6 x1 x2
          omega
        rw [hnil]
        rfl
    show R (.bl (decide (((((recvL rows).filter (orB rows cs)).map D.int).length : Int) = 0) ^^ false)) _
    rw [e]
    exact this
end Sv
set_option maxHeartbeats 1000000
set_option autoImplicit false
set_option maxHeartbeats 800000
set_option autoImplicit false
namespace Sv
open PySem PySem.Spec PyProof.Rows L2
/-- every receipt that the places have passed has its sending there -/
def Clo (rows : List (List Int)) (pl : List Nat) : Prop := ∀ e ∈ seen rows pl, e < 0 → -e ∈ seen rows pl
theorem Clo.zero {rows : List (List Int)} : Clo rows (List.replicate rows.length 0) := fun e he _ => by
  rw [seen_zero] at he
  cases he
/-- ways from places to places, each event possible where it happens -/
inductive Runs (rows : List (List Int)) : List Nat → List (Int × Int) → List Nat → Prop
  | nil (pl : List Nat) : Runs rows pl [] pl
  | cons {pl pl' : List Nat} {p n : Nat} {r : List Int} {e : Int} {L : List (Int × Int)} (h1 : rows[p]? = some r) (h2 : pl[p]? = some n) (h3 : r[n]? = some e) (h4 : 0 ≤ e ∨ -e ∈ seen rows pl) (h5 : Runs rows (pl.set p (n + 1)) L pl') : Runs rows pl (((p : Int), e) :: L) pl'
theorem Runs.inv {rows : List (List Int)} {pl pl' : List Nat} {L : List (Int × Int)} (h : Runs rows pl L pl') (hl : pl.length = rows.length) (hf : Fit rows pl) : pl'.length = rows.length ∧ Fit rows pl' ∧ pl'.sum = pl.sum + L.length := by
  induction h with
  | nil pl => exact ⟨hl, hf, rfl⟩
  | cons a b c d _ ih =>
    obtain ⟨i1, i2, i3⟩ := ih (by rw [List.length_set]; exact hl) (fit_set hf a b c)
    refine ⟨i1, i2, ?_⟩
    rename_i n _ _ _ _
    have := sum_set (k := n + 1) b
    rw [List.length_cons]
    omega
theorem Runs.step {rows : List (List Int)} {pl pl' : List Nat} {x : Int × Int} {L : List (Int × Int)} (h : Runs rows pl (x :: L) pl') : ∃ (p n : Nat) (r : List Int) (e : Int), x = ((p : Int), e) ∧ rows[p]? = some r ∧ pl[p]? = some n ∧ r[n]? = some e ∧ (0 ≤ e ∨ -e ∈ seen rows pl) ∧ Runs rows (pl.set p (n + 1)) L pl' := by
  cases h with
  | cons a b c d f => exact ⟨_, _, _, _, rfl, a, b, c, d, f⟩
theorem Clo.step {rows : List (List Int)} {pl : List Nat} (hc : Clo rows pl) {p n : Nat} {r : List Int} {e : Int} (h1 : rows[p]? = some r) (h2 : pl[p]? = some n) (h3 : r[n]? = some e) (h4 : 0 ≤ e ∨ -e ∈ seen rows pl) : Clo rows (pl.set p (n + 1)) := fun x hx h0 => by
  have hs := seen_step h1 h2 h3
  rw [hs] at hx ⊢
  rcases hx with rfl | hx
  · exact .inr (h4.resolve_left (by omega))
  · exact .inr (hc x hx h0)
end Sv
set_option maxHeartbeats 400000
set_option autoImplicit false
set_option maxHeartbeats 400000
set_option autoImplicit false
set_option maxHeartbeats 400000
set_option autoImplicit false
set_option maxHeartbeats 400000
set_option autoImplicit false
namespace Sv
open PySem PySem.Spec PyProof.Rows L2
/-- the rows of the one go on to those of the other -/
structure Pfx (a b : List (List Int)) : Prop where
  len : a.length = b.length
  pre : ∀ (p : Nat) (r r' : List Int), a[p]? = some r → b[p]? = some r' → ∃ t, r' = r ++ t
section
variable {a b : List (List Int)}
theorem Pfx.at (h : Pfx a b) {p : Nat} {r : List Int} (hr : a[p]? = some r) : ∃ t, b[p]? = some (r ++ t) := by
  have hp : p < b.length := h.len ▸ (List.getElem?_eq_some_iff.mp hr).1
  obtain ⟨t, e⟩ := h.pre p r _ hr (List.getElem?_eq_getElem hp)
  exact ⟨t, by rw [List.getElem?_eq_getElem hp, e]⟩
theorem hap_spot {rows : List (List Int)} (hH : Hist rows) {e : Int} {p k : Nat} (he : e ≠ 0) (h : hap rows e = some (p, k)) : ∃ (i : Nat) (row : List Int), rows[p]? = some row ∧ row[i]? = some e ∧ k = (row.take i).count 0 := by
  rcases hap_cases (hH.once e he) with ⟨_, hv⟩ | ⟨p', i, row, h1, h2, hv⟩
  · rw [h] at hv; cases hv
  · rw [h] at hv
    obtain ⟨e1, e2⟩ := Prod.mk.inj (Option.some.inj hv)
    subst e1
    exact ⟨i, row, h1, h2, e2⟩
/-- a message that is received is sent -/
theorem recv_sent {rows : List (List Int)} (hH : Hist rows) {m : Int} (hm : m ∈ recvL rows) : ∃ (q : Nat) (row : List Int), rows[q]? = some row ∧ m ∈ row := by
  have m0 := recv_pos hm
  obtain ⟨u, hu⟩ := recv_hap hm
  obtain ⟨i, row, h1, h2, _⟩ := hap_spot hH (p := u.1) (k := u.2) (by omega) hu
  obtain ⟨q, row2, _, g2, g3⟩ := hH.sent u.1 row (0 - m) h1 (List.mem_of_getElem? h2) (by omega)
  exact ⟨q, row2, g2, by rw [show -(0 - m) = m by omega] at g3; exact g3⟩
end
end Sv
set_option maxHeartbeats 800000
set_option autoImplicit false
set_option maxHeartbeats 1000000
set_option autoImplicit false
set_option maxHeartbeats 1000000
set_option autoImplicit false
set_option maxHeartbeats 1000000
set_option autoImplicit false
namespace Sv
open PySem PySem.Spec PyProof.Rows L2
def stPy (s : Nat × Nat) : PyData := .tuple [.int (s.1 : Int), .int (s.2 : Int)]
theorem pys_st {S : Sto} : ∀ ss : List (Nat × Nat), Pys S (ss.map stD) (ss.map stPy)
  | [] => .nil
  | s :: r => .cons (.tup (.cons (.int _) (.cons (.int _) .nil))) (pys_st r)
theorem fine_st17 {s : Nat × Nat} (h1 : s.1 ≤ 1000) (h2 : s.2 ≤ 1000) : Fine 1 204 (stPy s) := by
  have e : (10 : Nat) ^ 30 = 1000000000000000000000000000000 := by decide
  exact fine_tuple (fine_ints (ns := [(s.1 : Int), (s.2 : Int)]) fun x hx => by
    rcases List.mem_cons.mp hx with z | z
    · rw [z]; omega
    · rw [List.mem_singleton.mp z]; omega)
theorem shaped_sts {ss : List (Nat × Nat)} (h : ∀ s ∈ ss, s.1 ≤ 1000 ∧ s.2 ≤ 1000) : SeqAt.shaped (.list (ss.map stPy)) = true := by
  have q := fine_list (fine_all (n := 1) (W := 204) (ds := ss.map stPy) fun d hd => by
    obtain ⟨s, hs, rfl⟩ := List.mem_map.mp hd
    exact fine_st17 (h s hs).1 (h s hs).2)
  show (PyData.canLay0 _ && decide (PyData.depth _ ≤ 64)) = true
  rw [q.lay, decide_eq_true (Nat.le_trans q.dep (by decide))]
  rfl
def linPy (c : List Nat) : PyData := .tuple ((c.map fun (x : Nat) => (x : Int)).map PyData.int)
theorem pys_lin {S : Sto} : ∀ cs : List (List Nat), Pys S (cs.map cutD') (cs.map linPy)
  | [] => .nil
  | c :: r => .cons (py_nat c) (pys_lin r)
theorem lines_text {cs : List (List Nat)} {k m : Nat} (hl : cs.length ≤ k) (h : ∀ c ∈ cs, c.length ≤ m ∧ ∀ x ∈ c, x ≤ 1000) (hkm : (102 * m + 1) * k ≤ 300000) : Text (.list (cs.map linPy)) := by
  have e : (10 : Nat) ^ 30 = 1000000000000000000000000000000 := by decide
  have q := fine_list (fine_all (n := 1) (W := 102 * m) (ds := cs.map linPy) fun d hd => by
    obtain ⟨c, hc, rfl⟩ := List.mem_map.mp hd
    have f := fine_tuple (fine_ints (ns := c.map fun (x : Nat) => (x : Int)) fun x hx => by
      obtain ⟨y, hy, rfl⟩ := List.mem_map.mp hx
      have := (h c hc).2 y hy
      omega)
    rw [List.length_map] at f
    exact f.mono (Nat.le_refl _) (Nat.mul_le_mul_left _ (h c hc).1))
  rw [List.length_map] at q
  exact q.text (by decide) (Nat.le_trans (Nat.mul_le_mul_left _ hl) hkm) rfl
end Sv
set_option maxHeartbeats 400000
set_option autoImplicit false
set_option maxHeartbeats 400000
set_option autoImplicit false
namespace Sv
open PySem PySem.Spec PyProof.Rows L2
section
variable {a b : List (List Int)}
theorem Pfx.trans {c : List (List Int)} (h : Pfx a b) (g : Pfx b c) : Pfx a c := by
  refine ⟨h.len.trans g.len, fun p r r' h1 h2 => ?_⟩
  obtain ⟨t, ht⟩ := h.at h1
  obtain ⟨t', e⟩ := g.pre p _ r' ht h2
  exact ⟨t ++ t', by rw [e, List.append_assoc]⟩
theorem Pfx.refl (a : List (List Int)) : Pfx a a := ⟨rfl, fun p r r' h1 h2 => by rw [h1] at h2; cases h2; exact ⟨[], (List.append_nil _).symm⟩⟩
end
end Sv
set_option maxHeartbeats 1000000
set_option autoImplicit false
set_option maxHeartbeats 1000000
set_option autoImplicit false
set_option maxHeartbeats 1000000
set_option autoImplicit false
set_option maxHeartbeats 1000000
set_option autoImplicit false
set_option maxHeartbeats 1000000
set_option autoImplicit false
set_option maxHeartbeats 1000000
set_option autoImplicit false
namespace Sv
open PySem PySem.Spec PyProof.Rows L2
variable {rows : List (List Int)} {ss : List (Nat × Nat)} {c0 : List Nat} {rest : List (List Nat)}
noncomputable def thruL (rows : List (List Int)) (ss : List (Nat × Nat)) : List (List Nat) := (linesU rows).filter (onB ss)
theorem thru_mem {c : List Nat} : c ∈ thruL rows ss ↔ Thru rows ss c := by
  unfold thruL
  rw [List.mem_filter, linesU_mem, onB_iff]
  exact ⟨fun ⟨⟨a, b, c⟩, d⟩ => ⟨a, b, c, d⟩, fun ⟨a, b, c, d⟩ => ⟨⟨a, b, c⟩, d⟩⟩
end Sv
set_option maxHeartbeats 1000000
set_option autoImplicit false
set_option maxHeartbeats 1000000
set_option autoImplicit false
namespace Sv
open PySem PySem.Spec PyProof.Rows L2
variable {rows : List (List Int)}
theorem cut_in {n : Bool} {c : List Nat} {cs : List (List Nat)} {f : Addr} {S : Sto} {R : DK} (hf : S f = some (.lst (cs.map cutD'))) (q : R (.bl (decide (c ∈ cs) ^^ n)) S) : rInq n (cutD' c) (.ref f) S R := by
  refine ⟨_, _, py_nat c, .inl (.lst hf (cuts_py cs)), shaped_tup _, cuts_shaped cs, cuts_shaped cs, ?_⟩
  have e : ((cs.map fun c => PyData.tuple ((c.map fun (x : Nat) => (x : Int)).map PyData.int)).any fun z => PyData.eqv z (.tuple ((c.map fun (x : Nat) => (x : Int)).map PyData.int))) = decide (c ∈ cs) := by
    rw [Bool.eq_iff_iff, List.any_eq_true, decide_eq_true_iff]
    constructor
    · rintro ⟨z, hz, e⟩
      obtain ⟨y, hy, rfl⟩ := List.mem_map.mp hz
      rw [eqvT_nat] at e
      rw [← of_decide_eq_true e]
      exact hy
    · intro h
      exact ⟨_, List.mem_map.mpr ⟨c, h, rfl⟩, by rw [eqvT_nat]; exact decide_eq_true rfl⟩
  rw [e]
  exact q
end Sv
set_option maxHeartbeats 1000000
set_option autoImplicit false
namespace Sv
open PySem PySem.Spec PyProof.Rows L2
variable {rows : List (List Int)}
theorem nil_sts {ss : List (Nat × Nat)} {f : Addr} {b : Bool} {S : Sto} {R : DK} (hf : S f = some (.lst (ss.map stD))) (hs : ∀ s ∈ ss, s.1 ≤ 1000 ∧ s.2 ≤ 1000) (q : ∀ S', SG S S' → R (.bl (ss.isEmpty ^^ b)) S') :
    (dLst dNil) [] S (fun y S2 => rEqq b (.ref f) y S2 R) := by
  refine ⟨rfl, fun r nr => ?_⟩
  have sgr : SG S (S.put r (.lst [])) := .new nr
  refine ⟨_, _, .lst (sgr _ _ (fun z => z) hf) (pys_st ss), .lst Sto.same .nil, shaped_sts hs, by decide +kernel, ?_⟩
  rw [eqv_nil]
  have e : (ss.map stPy).isEmpty = ss.isEmpty := by cases ss <;> rfl
  rw [e]
  exact q _ sgr
end Sv
set_option maxHeartbeats 1000000
set_option autoImplicit false
namespace Sv
open PySem PySem.Spec PyProof.Rows L2
variable {rows : List (List Int)} {many most : Nat} {ss : List (Nat × Nat)}
theorem w_isgiven {a : Nat × Nat} {S : Sto} {R : DK} (ha : a ∈ ss) (hb : ∀ s ∈ ss, s.1 ≤ 1000 ∧ s.2 ≤ 1000) (q : ∀ S', SG S S' → R (.bl true) S') : dFn 3 B_is_given_c32f [chD ss, stD a] S R := by
  refine ⟨_, rfl, _, "tuple", "tuple", true, rfl, rfl, by decide +kernel, _, rfl, goT ⟨_, rfl, _, rfl, lc_mapE [(a.1 : Int), (a.2 : Int)] D.int rfl (fun _ => some (D.bl true)) (by show 2 ≤ 100000; decide) (fun _ _ => True.intro) (fun x _ S1 sg K Kn hk _ => turn_y ⟨_, rfl, rfl, w_isnum (hk _ rfl _ (.refl _))⟩) fun p S1 np sg hp => ⟨p, [true, true], rfl, hp, _, rfl, goT ?_⟩⟩⟩
  refine ⟨_, rfl, _, rfl, stPy a, ss.map stPy, .tup (.cons (.int _) (.cons (.int _) .nil)), .inr (.tup (pys_st ss)), shaped_tup [(a.1 : Int), (a.2 : Int)], shaped_sts hb, shaped_sts hb, ?_⟩
  have e : ((ss.map stPy).any fun z => PyData.eqv z (stPy a)) = true := by
    rw [List.any_eq_true]
    exact ⟨_, List.mem_map.mpr ⟨a, ha, rfl⟩, SeqAt.eqv_refl _ (SeqAt.canLay_of_shaped (shaped_tup [(a.1 : Int), (a.2 : Int)]))⟩
  rw [e]
  exact q _ sg
theorem w_linewith {c : List Nat} {S : Sto} {R : DK} (hG : Good many most rows) (h6 : many ≤ 6) (h60 : most ≤ 60) (hl : c.length = rows.length) (hc : LeL c (prs rows)) (hs : ∀ s ∈ ss, s.1 < rows.length) (hss : ss.length ≤ 1000) (q : ∀ S', SG S S' → R (.bl (consB rows c && onB ss c)) S') :
    dFn 5 B_is_line_with_b7a8 [.tup (rowsD rows), chD ss, cutD' c] S R := by
  have rl := hG.len
  refine ⟨_, rfl, _, rfl, rfl, w_isline (by omega) hl hc fun S1 sg1 => ⟨_, rfl, goT ⟨_, rfl, _, rfl, rfl, w_consBC hG h6 h60 hl fun S2 sg2 => ⟨_, rfl, ?_⟩⟩⟩⟩
  cases hcb : consB rows c with
  | false =>
    rw [hcb] at q
    exact goF (q _ (sg1.trans sg2))
  | true =>
    rw [hcb] at q
    refine goT ⟨_, rfl, _, rfl, lc_mapE ss stD rfl (fun s => some (D.bl (decide (c[s.1]? = some s.2)))) (by omega) (fun _ _ => True.intro) (fun s hsm S3 sg K Kn hk _ => ⟨_, rfl, .inl (.inl rfl), _, _, rfl, _, _, rfl, rfl, yesS ?_⟩) fun p S3 np sg hp => ⟨p, ss.map fun s => decide (c[s.1]? = some s.2), rfl, ?_, ?_⟩⟩
    · have hlt : s.1 < c.length := by rw [hl]; exact hs s hsm
      have e := List.getElem?_eq_getElem hlt
      generalize c[s.1] = x at e
      refine ⟨_, rfl, _, rfl, _, (s.1 : Int), _, rfl, rfl, atI_nat (natD_at e), _, rfl, ?_⟩
      refine hk _ ?_ _ (.refl _)
      show some (D.bl (decide (c[s.1]? = some s.2))) = some (D.bl (decide (((x : Nat) : Int) = ((s.2 : Nat) : Int)) ^^ false))
      rw [xor_ff, e]
      congr 2
      exact decide_eq_decide.mpr ⟨fun z => by rw [Option.some.inj z], fun z => by congr 1; omega⟩
    · rw [hp, fm_map, List.map_map]
      rfl
    · have e : (ss.map fun s => decide (c[s.1]? = some s.2)).all id = onB ss c := by rw [List.all_map]; rfl
      show R (.bl ((ss.map fun s => decide (c[s.1]? = some s.2)).all id)) S3
      rw [e]
      exact q _ ((sg1.trans sg2).trans sg)
theorem w_holdsL {c : List Nat} {S : Sto} {R : DK} (hG : Good many most rows) (h6 : many ≤ 6) (h60 : most ≤ 60) (hl : c.length = rows.length) (hc : LeL c (prs rows)) (hs : ∀ s ∈ ss, s.1 < rows.length) (hss : ss.length ≤ 1000) (q : ∀ S', SG S S' → R (.bl (consB rows c && onB ss c)) S') :
    dFn 6 B_verdict_holds_e52c [.tup (rowsD rows), chD ss, lineD c] S R := by
  refine ⟨_, rfl, _, "tuple", "tuple", true, rfl, rfl, by decide +kernel, _, rfl, goF ?_⟩
  refine ⟨_, rfl, _, _, rfl, rfl, _, rfl, goT ⟨_, rfl, _, 0, _, rfl, rfl, rfl, _, rfl, ?_⟩⟩
  rw [xor_ff, decide_eq_true rfl]
  exact goT ⟨_, rfl, _, rfl, _, rfl, _, 1, _, rfl, rfl, rfl, rfl, w_linewith hG h6 h60 hl hc hs hss q⟩
theorem w_holdsZ {a b : Nat × Nat} {ms : List Int} {S : Sto} {R : DK} (hG : Good many most rows) (h6 : many ≤ 6) (h60 : most ≤ 60) (ha : a ∈ ss) (hb : b ∈ ss) (hbd : ∀ s ∈ ss, s.1 ≤ 1000 ∧ s.2 ≤ 1000) (hm : ms.length ≤ 1000) (hz : Zz rows a b ms) (q : ∀ S', SG S S' → R (.bl true) S') :
    dFn 6 B_verdict_holds_e52c [.tup (rowsD rows), chD ss, zigD a b ms] S R := by
  refine ⟨_, rfl, _, "tuple", "tuple", true, rfl, rfl, by decide +kernel, _, rfl, goF ?_⟩
  refine ⟨_, rfl, _, _, rfl, rfl, _, rfl, goF (goF ⟨_, rfl, _, _, rfl, rfl, _, rfl, goT ⟨_, rfl, _, 0, _, rfl, rfl, rfl, _, rfl, ?_⟩⟩)⟩
  rw [xor_ff, decide_eq_true rfl]
  refine goT ⟨_, rfl, 1, rfl, ?_⟩
  have ed : cutD [D.str "zigzag", stD a, stD b, .tup (intsD ms)] (some 1) none = [stD a, stD b, .tup (intsD ms)] := by
    have := cutD_from (xs := [D.str "zigzag", stD a, stD b, .tup (intsD ms)]) (i := 1) (by show 1 ≤ 4; decide)
    exact this
  dsimp only [rSlq, dNoP, zigD]
  rw [ed]
  refine ⟨_, rfl, .inl (.inl rfl), _, _, rfl, _, _, rfl, _, _, rfl, rfl, ?_⟩
  refine ⟨_, rfl, _, rfl, rfl, w_isgiven ha hbd fun S1 sg1 => ⟨_, rfl, goT ⟨_, rfl, _, rfl, rfl, w_isgiven hb hbd fun S2 sg2 => ⟨_, rfl, goT ⟨_, rfl, _, rfl, _, rfl, _, rfl, rfl, w_isz hG h6 h60 hm fun S3 sg3 => ?_⟩⟩⟩⟩⟩
  rw [zqB_t hz]
  exact q _ ((sg1.trans sg2).trans sg3)
theorem w_with87 {f : Addr} {L : List (List Nat)} {S : Sto} {R : DK} (hf : S f = some (.lst (L.map cutD'))) (hL : L.length ≤ 100000) (hs : ∀ c ∈ L, ∀ s ∈ ss, s.1 < c.length) (hbd : ∀ s ∈ ss, s.1 ≤ 1000 ∧ s.2 ≤ 1000) (hss : ss.length ≤ 1000)
    (q : ∀ g S', SG S S' → S g = none → S' g = some (.lst ((L.filter (onB ss)).map cutD')) → R (.ref g) S') : dFn 4 B_law_with_a200 [.ref f, chD ss] S R := by
  refine ⟨_, rfl, _, ⟨_, hf, rfl⟩, lc_mapE L cutD' rfl (fun c => if onB ss c = true then some (cutD' c) else none) hL (fun S' sg => sg _ _ (fun z => z) hf) (fun c hc S1 sg1 K Kn hk hn => turn_n ?_) fun p S1 np sg hp => ?_⟩
  · refine ⟨_, rfl, _, rfl, lc_mapE ss stD rfl (fun s => if decide (c[s.1]? ≠ some s.2) = true then some (stD s) else none) (by omega) (fun _ _ => True.intro) (fun s hsm S2 sg2 K' Kn' hk' hn' => turn_n ?_) fun p S2 np sg2 hp => ?_⟩
    · have hlt := hs c hc s hsm
      have e := List.getElem?_eq_getElem hlt
      generalize c[s.1] = x at e
      refine ⟨_, rfl, _, rfl, _, 0, _, rfl, rfl, rfl, _, (s.1 : Int), _, rfl, rfl, atI_nat (natD_at e), _, rfl, _, 1, _, rfl, rfl, rfl, _, rfl, iteB (fun h => ?_) fun h => ?_⟩
      · rw [xor_tt, Bool.not_eq_true'] at h
        have h := of_decide_eq_false h
        exact ⟨_, rfl, hk' _ (if_pos (decide_eq_true (by rw [e]; exact fun z => h (by rw [Option.some.inj z])))) _ (.refl _)⟩
      · rw [xor_tt, Bool.not_eq_false'] at h
        have h := of_decide_eq_true h
        refine hn' ?_ _ (.refl _)
        show (if decide (c[s.1]? ≠ some s.2) = true then _ else _) = _
        rw [decide_eq_false (not_not_intro (by rw [e]; congr 1; omega))]
        rfl
    · rw [fm_iteB stD (fun s : Nat × Nat => decide (c[s.1]? ≠ some s.2))] at hp
      refine nil_sts hp (fun s hs => hbd s (List.mem_filter.mp hs).1) fun S3 sg3 => ⟨_, rfl, ?_⟩
      have e2 : (ss.filter fun s => decide (c[s.1]? ≠ some s.2)).isEmpty = onB ss c := by
        rw [Bool.eq_iff_iff, onB_iff, List.isEmpty_iff, List.filter_eq_nil_iff]
        constructor
        · intro h s hs
          exact Classical.byContradiction fun z => h s hs (decide_eq_true z)
        · intro h s hs z
          exact of_decide_eq_true z (h s hs)
      rw [xor_ff, e2]
      refine iteB (fun h => ?_) fun h => ?_
      · exact ⟨_, rfl, hk _ (if_pos h) _ (sg2.trans sg3)⟩
      · exact hn (if_neg (by rw [h]; exact Bool.false_ne_true)) _ (sg2.trans sg3)
  · rw [fm_iteB] at hp
    exact q p S1 sg np hp
theorem w_told87 {S : Sto} {R : DK} (hG : Good many most rows) (h6 : many ≤ 6) (h60 : most ≤ 60) (hc : Ch rows ss) (hb : ∀ s ∈ ss, s.1 < 64 ∧ s.2 < 64) (hl : ss.length ≤ 3) (hL : (linesU rows).length ≤ 100000)
    (q : ∀ p g v S', SG S S' → VD rows ss v → S' p = some (.lst [v, .ref g]) → S' g = some (.lst ((thruL rows ss).map cutD')) → R (.ref p) S') : dFn 2 B_law_told_6aa1 [.tup (rowsD rows), chD ss] S R := by
  have V : ∀ (R : DK), (∀ v S', SG S S' → VD rows ss v → R v S') → dFn 5 B_verdict_403b [.tup (rowsD rows), .wtup (ss.map stD)] S R := fun R q => w_verdict hG h6 h60 hc hb (by omega) (fun S' sg h => q _ S' sg (.line h)) (fun a b ms S' sg h1 h2 h3 => q _ S' sg (.zig h1 h2 h3))
  have lt : (thruL rows ss).length ≤ 1000000 := Nat.le_trans (List.length_filter_le ..) (by omega)
  have G : dGfS 1 6 B_all_lines_b09d (.tup (rowsD rows) :: ss.map stD) ((thruL rows ss).map cutD') := gen_lines hG h6 h60 hc.lt (by omega) lt
  have lm : ((thruL rows ss).map cutD').length ≤ 1000000 := by rw [List.length_map]; exact lt
  have fin : ∀ (v : D) (S1 : Sto), SG S S1 → VD rows ss v → ∀ g, S1 g = none → ∀ p, (S1.put g (.lst ((thruL rows ss).map cutD'))) p = none → R (.ref p) ((S1.put g (.lst ((thruL rows ss).map cutD'))).put p (.lst [v, .ref g])) := fun v S1 sg1 hv g ng p np =>
    q p g v _ ((sg1.trans (.new ng)).trans (.new np)) hv Sto.same ((SK.new np : SG _ _) _ _ (fun z => z) Sto.same)
  refine ⟨_, rfl, _, _, rfl, rfl, _, rfl, ?_⟩
  rcases ss with _ | ⟨a, _ | ⟨b, _ | ⟨c, _ | ⟨e, r⟩⟩⟩⟩
  · exact goT ⟨_, rfl, by simp, by simp, V _ fun v S1 sg1 hv => ⟨_, rfl, _, G, lm, fun g ng => ⟨rfl, fun p np => fin v S1 sg1 hv g ng p np⟩⟩⟩
  · exact goF ⟨_, rfl, _, _, rfl, rfl, _, rfl, goT ⟨_, rfl, _, rfl, _, 0, _, rfl, rfl, rfl, by simp, by simp, V _ fun v S1 sg1 hv => ⟨_, rfl, _, rfl, _, 0, _, rfl, rfl, rfl, _, G, lm, fun g ng => ⟨rfl, fun p np => fin v S1 sg1 hv g ng p np⟩⟩⟩⟩
  · exact goF ⟨_, rfl, _, _, rfl, rfl, _, rfl, goF ⟨_, rfl, _, _, rfl, rfl, _, rfl, goT ⟨_, rfl, _, rfl, _, 0, _, rfl, rfl, rfl, _, rfl, _, 1, _, rfl, rfl, rfl, by simp, by simp, V _ fun v S1 sg1 hv => ⟨_, rfl, _, rfl, _, 0, _, rfl, rfl, rfl, _, rfl, _, 1, _, rfl, rfl, rfl, _, G, lm, fun g ng => ⟨rfl, fun p np => fin v S1 sg1 hv g ng p np⟩⟩⟩⟩⟩
  · exact goF ⟨_, rfl, _, _, rfl, rfl, _, rfl, goF ⟨_, rfl, _, _, rfl, rfl, _, rfl, goF ⟨_, rfl, _, rfl, _, 0, _, rfl, rfl, rfl, _, rfl, _, 1, _, rfl, rfl, rfl, _, rfl, _, 2, _, rfl, rfl, rfl, by simp, by simp, V _ fun v S1 sg1 hv => ⟨_, rfl, _, rfl, _, 0, _, rfl, rfl, rfl, _, rfl, _, 1, _, rfl, rfl, rfl, _, rfl, _, 2, _, rfl, rfl, rfl, _, G, lm, fun g ng => ⟨rfl, fun p np => fin v S1 sg1 hv g ng p np⟩⟩⟩⟩⟩
  · simp at hl
theorem w_ends87 {S : Sto} {R : DK} (hG : Good many most rows) (h6 : many ≤ 6) (h60 : most ≤ 60) (hc : Ch rows ss) (hb : ∀ s ∈ ss, s.1 < 64 ∧ s.2 < 64) (hl : ss.length ≤ 3) (ht : ∃ L, Thru rows ss L)
    (q : ∀ p S', SG S S' → S' p = some (.lst [cutD' (endL rows ss true), cutD' (endL rows ss false)]) → R (.ref p) S') : dFn 3 B_law_ends_4d72 [.tup (rowsD rows), chD ss] S R := by
  have V : ∀ b (S : Sto) (R : DK), (∀ S', SG S S' → R (cutD' (endL rows ss b)) S') → dFn 7 B_line_through_9b5f [.tup (rowsD rows), .bl b, .wtup (ss.map stD)] S R := fun b S R q => w_line hG h6 h60 hc hb (by omega) ht q
  have fin : ∀ (S2 : Sto), SG S S2 → ∀ p, S2 p = none → R (.ref p) (S2.put p (.lst [cutD' (endL rows ss true), cutD' (endL rows ss false)])) := fun S2 sg2 p np => q p _ (sg2.trans (.new np)) Sto.same
  refine ⟨_, rfl, _, _, rfl, rfl, _, rfl, ?_⟩
  rcases ss with _ | ⟨a, _ | ⟨b, _ | ⟨c, _ | ⟨e, r⟩⟩⟩⟩
  · exact goT ⟨_, rfl, by simp, by simp, V true _ _ fun S1 sg1 => ⟨_, rfl, by simp, by simp, V false _ _ fun S2 sg2 => ⟨rfl, fun p np => fin S2 (sg1.trans sg2) p np⟩⟩⟩
  · exact goF ⟨_, rfl, _, _, rfl, rfl, _, rfl, goT ⟨_, rfl, _, rfl, _, 0, _, rfl, rfl, rfl, by simp, by simp, V true _ _ fun S1 sg1 => ⟨_, rfl, _, rfl, _, 0, _, rfl, rfl, rfl, by simp, by simp, V false _ _ fun S2 sg2 => ⟨rfl, fun p np => fin S2 (sg1.trans sg2) p np⟩⟩⟩⟩
  · exact goF ⟨_, rfl, _, _, rfl, rfl, _, rfl, goF ⟨_, rfl, _, _, rfl, rfl, _, rfl, goT ⟨_, rfl, _, rfl, _, 0, _, rfl, rfl, rfl, _, rfl, _, 1, _, rfl, rfl, rfl, by simp, by simp, V true _ _ fun S1 sg1 => ⟨_, rfl, _, rfl, _, 0, _, rfl, rfl, rfl, _, rfl, _, 1, _, rfl, rfl, rfl, by simp, by simp, V false _ _ fun S2 sg2 => ⟨rfl, fun p np => fin S2 (sg1.trans sg2) p np⟩⟩⟩⟩⟩
  · exact goF ⟨_, rfl, _, _, rfl, rfl, _, rfl, goF ⟨_, rfl, _, _, rfl, rfl, _, rfl, goF ⟨_, rfl, _, rfl, _, 0, _, rfl, rfl, rfl, _, rfl, _, 1, _, rfl, rfl, rfl, _, rfl, _, 2, _, rfl, rfl, rfl, by simp, by simp, V true _ _ fun S1 sg1 => ⟨_, rfl, _, rfl, _, rfl, _, 0, _, rfl, rfl, rfl, _, rfl, _, 1, _, rfl, rfl, rfl, _, rfl, _, 2, _, rfl, rfl, rfl, by simp, by simp, V false _ _ fun S2 sg2 => ⟨rfl, fun p np => fin S2 (sg1.trans sg2) p np⟩⟩⟩⟩⟩
  · simp at hl
theorem w_chosen87 {st big al : Addr} {n : Nat} {S : Sto} {R : DK} (hG : Good many most rows) (h6 : many ≤ 6) (h60 : most ≤ 60) (h : Ds st big al n S) (h9 : n + 300 ≤ 1000000)
    (k : ∀ ss S', Ch rows ss → (∀ s ∈ ss, s.1 < 64 ∧ s.2 < 64) → ss.length ≤ 3 → Ds st big al (n + 20) S' → SK (DS' st big) S S' → R (chD ss) S') : dFn 4 B_law_chosen_7d70 [.ref st, .tup (rowsD rows)] S R := by
  have rl := hG.len
  have erl : ((rowsD rows).length : Int) = (rows.length : Int) := by rw [rowsD, List.length_map]
  have e0 : ((rowsD rows).length : Int).toNat = rows.length := by omega
  refine ⟨_, rfl, _, rfl, _, _, rfl, rfl, _, rfl, by omega, by omega, fun l nl => ⟨rfl, ?_⟩⟩
  have D2 : Ds st big al n (S.put l (.lst (rgD 0 ((rowsD rows).length : Int).toNat))) := h.keep (.new nl)
  have k2 : SK (DS' st big) S (S.put l (.lst (rgD 0 ((rowsD rows).length : Int).toNat))) := .new nl
  have hl2 : (S.put l (.lst (rgD 0 ((rowsD rows).length : Int).toNat))) l = some (.lst (intsD ((List.range rows.length).map fun i : Nat => (i : Int)))) := by rw [Sto.same, e0, rgD_ints]
  generalize S.put l (.lst (rgD 0 ((rowsD rows).length : Int).toNat)) = S2 at D2 k2 hl2 ⊢
  refine w_mixedS D2 (by omega) (seqOf_lst hl2) (by rw [List.length_map, List.length_range]; omega) fun ms S3 D3 k3 pm => ?_
  rw [List.length_map, List.length_range] at D3
  refine ⟨_, rfl, rfl, w_drawS D3 (by omega) (by omega) (by omega) fun dd S4 i4 D4 k4 => ⟨_, rfl, ?_⟩⟩
  have k5 := (k2.trans k3).trans k4
  dsimp only [rSlq]
  rw [cutI_min]
  have pin : ∀ x ∈ ms.take (min dd ms.length), ∃ q : Nat, q < rows.length ∧ x = (q : Int) := fun x hx => by
    obtain ⟨q, hq, rfl⟩ := List.mem_map.mp (pm.mem_iff.mp (List.mem_of_mem_take hx))
    exact ⟨q, List.mem_range.mp hq, rfl⟩
  have pnd : (ms.take (min dd ms.length)).Nodup := by
    refine List.Nodup.sublist (List.take_sublist _ _) (pm.nodup_iff.mpr ?_)
    refine List.pairwise_map.mpr (List.nodup_range.imp fun hne z => hne ?_)
    exact Int.ofNat.inj z
  have plen : (ms.take (min dd ms.length)).length ≤ 3 := by
    rw [List.length_take]
    omega
  generalize ms.take (min dd ms.length) = ps at pin pnd plen
  refine ⟨_, rfl, _, rfl, fun p np => ?_⟩
  have fp := D4.fresh np
  obtain ⟨Pv, hPv⟩ : ∃ Pv : Nat → Sto → Prop, Pv = fun i S' => i ≤ ps.length ∧ ∃ ss : List (Nat × Nat), Ds st big al (n + rows.length + 1 + i) S' ∧ SK (DS' st big) S S' ∧ S' p = some (.lst (ss.map stD)) ∧ ss.length = i ∧ Ch rows ss ∧ (∀ s ∈ ss, s.1 < 64 ∧ s.2 < 64) ∧ (∀ s ∈ ss, ((s.1 : Nat) : Int) ∈ ps.take i) := ⟨_, rfl⟩
  have npS : S p = none := D4.free k5 np
  refine ⟨Pv, by rw [hPv]; exact ⟨Nat.zero_le _, [], D4.put fp, k5.trans (.new np), Sto.same, rfl, ⟨fun s hs => (nomatch hs), fun s hs => (nomatch hs), fun s hs => (nomatch hs)⟩, fun s hs => (nomatch hs), fun s hs => (nomatch hs)⟩, fun _ _ _ _ => True.intro, fun i d S6 hd h1 => ?_, fun S6 h1 => ?_⟩
  · rw [hPv] at h1
    obtain ⟨hi0, ss, D6, k6, hp6, hsl, hch, hbd, hin⟩ := h1
    have hd : (intsD ps)[i]? = some d := hd
    unfold intsD at hd
    rw [List.getElem?_map] at hd
    obtain ⟨x, hx, rfl⟩ := Option.map_eq_some_iff.mp hd
    have hi := (List.getElem?_eq_some_iff.mp hx).1
    obtain ⟨q, hq, rfl⟩ := pin x (List.mem_of_getElem? hx)
    have tk := take_map hx
    have hr := List.getElem?_eq_getElem hq
    have hrd : (rowsD rows)[q]? = some (rowD rows[q]) := by rw [rowsD, List.getElem?_map, hr]; rfl
    have r60 := hG.row60 h60 _ (List.mem_of_getElem? hr)
    have hcn : rows[q].count 0 ≤ rows[q].length := List.count_le_length ..
    have hpr := prsA hr
    generalize rows[q] = row at hr hrd r60 hcn hpr
    refine goT (B := Pv (i + 1) S6) ?_
    refine ⟨_, rfl, _, rfl, _, rfl, _, rfl, _, (q : Int), _, rfl, rfl, atI_nat hrd, ⟨_, rfl⟩, row, 0, rfl, rfl, rfl, w_drawS D6 (by omega) (by omega) (by omega) fun v S7 iv D7 k7 => ?_⟩
    have hp7 := k7 _ _ (nDS fp) hp6
    refine ⟨rfl, _, hp7, by rw [List.length_map]; omega, ?_⟩
    rw [hPv]
    refine ⟨hi, ss ++ [(q, v)], (D7.put fp), SK.own (k6.trans k7) npS, ?_, by rw [List.length_append, hsl]; rfl, ?_, ?_, ?_⟩
    · rw [Sto.same, List.map_append]
      rfl
    · have nw : ∀ s ∈ ss, s.1 ≠ q := fun s hs e => by
        have h1 := hin s hs
        rw [e] at h1
        obtain ⟨j, hj⟩ := List.getElem?_of_mem h1
        rw [List.getElem?_take] at hj
        split at hj
        · obtain ⟨g1, g2⟩ := List.getElem?_eq_some_iff.mp hj
          obtain ⟨g3, g4⟩ := List.getElem?_eq_some_iff.mp hx
          have := (List.getElem_inj (h₀ := g1) (h₁ := g3) pnd).mp (g2.trans g4.symm)
          omega
        · cases hj
      refine ⟨fun s hs => ?_, fun s hs x hx => ?_, fun s hs t ht e => ?_⟩
      · rcases List.mem_append.mp hs with z | z
        · exact hch.lt s z
        · rw [List.mem_singleton.mp z]; exact hq
      · rcases List.mem_append.mp hs with z | z
        · exact hch.le s z x hx
        · rw [List.mem_singleton.mp z] at hx ⊢
          have hx : (prs rows)[q]? = some x := hx
          rw [hpr] at hx
          have := Option.some.inj hx
          show v ≤ x
          omega
      · rcases List.mem_append.mp hs with z | z
        · rcases List.mem_append.mp ht with y | y
          · exact hch.one s z t y e
          · rw [List.mem_singleton.mp y] at e
            exact absurd e (nw s z)
        · rcases List.mem_append.mp ht with y | y
          · rw [List.mem_singleton.mp z] at e
            exact absurd e.symm (nw t y)
          · rw [List.mem_singleton.mp z, List.mem_singleton.mp y]
    · intro s hs
      rcases List.mem_append.mp hs with z | z
      · exact hbd s z
      · rw [List.mem_singleton.mp z]
        exact ⟨by show q < 64; omega, by show v < 64; omega⟩
    · intro s hs
      rw [tk]
      rcases List.mem_append.mp hs with z | z
      · exact List.mem_append_left _ (hin s z)
      · rw [List.mem_singleton.mp z]
        exact List.mem_append_right _ (List.mem_singleton.mpr rfl)
  · rw [hPv] at h1
    obtain ⟨_, ss, D6, k6, hp6, hsl, hch, hbd, _⟩ := h1
    have il : (intsD ps).length = ps.length := intsD_len ps
    have hsl : ss.length = (intsD ps).length := hsl
    have D6 : Ds st big al (n + rows.length + 1 + (intsD ps).length) S6 := D6
    exact ⟨_, _, rfl, seqOf_lst hp6, fun ys z => (nomatch z), k ss S6 hch hbd (by omega) (D6.mono (by omega)) k6⟩
end Sv
set_option maxHeartbeats 400000
set_option autoImplicit false
namespace Sv
open PySem PySem.Spec PyProof.Rows L2
theorem hold_ne {rows : List (List Int)} {ss : List (Nat × Nat)} : ((linesU rows).filter (onB ss)) ≠ [] ↔ ∃ L, Thru rows ss L := by
  constructor
  · intro h
    obtain ⟨c, r, e⟩ := List.exists_cons_of_ne_nil h
    exact ⟨c, hold_mem.mp (by rw [e]; exact List.mem_cons_self)⟩
  · rintro ⟨L, hL⟩ h
    have := hold_mem.mpr hL
    rw [h] at this
    exact nomatch this
theorem nat_list (c : List Nat) : (List.range c.length).map (fun i => D.int ((c.getD i 0 : Nat) : Int)) = natD c := by
  unfold natD
  apply List.ext_getElem
  · rw [List.length_map, List.length_range, List.length_map]
  · intro i h1 h2
    rw [List.length_map, List.length_range] at h1
    rw [List.getElem_map, List.getElem_map, List.getElem_range, getD_of (List.getElem?_eq_getElem h1)]
theorem col_int (cs : List (List Nat)) (i : Nat) : (cs.map fun c => D.int ((c.getD i 0 : Nat) : Int)) = intsD (cs.map fun c => ((c.getD i 0 : Nat) : Int)) := by
  unfold intsD
  rw [List.map_map]
  rfl
end Sv
set_option maxHeartbeats 1000000
set_option autoImplicit false
namespace Sv
open PySem PySem.Spec PyProof.Rows L2
variable {rows : List (List Int)} {many most : Nat} {ss : List (Nat × Nat)}
theorem fine_small {i : Int} (h : i.natAbs < 32) : Fine 0 6 (.int i) := by
  have e : (10 : Nat) ^ 30 = 1000000000000000000000000000000 := by decide
  have f := fine_int (i := i) (by omega)
  refine ⟨f.dep, ?_, f.lay, f.sho, f.ish⟩
  simp only [PyData.weight]
  split
  · exact Nat.zero_le _
  · rename_i h0
    have h1 : i.natAbs ≠ 0 := fun z => h0 (by rw [beq_iff_eq]; omega)
    have : i.natAbs.log2 < 5 := (Nat.log2_lt h1).mpr h
    omega
theorem small_lines {cs : List (List Nat)} {k : Nat} (hl : cs.length ≤ k) (h : ∀ c ∈ cs, c.length ≤ 4 ∧ ∀ x ∈ c, x < 32) (hkm : 29 * k ≤ 300000) : Text (.list (cs.map linPy)) := by
  have q := fine_list (fine_all (n := 1) (W := 28) (ds := cs.map linPy) fun d hd => by
    obtain ⟨c, hc, rfl⟩ := List.mem_map.mp hd
    have f := fine_tuple (fine_all (n := 0) (W := 6) (ds := (c.map fun (x : Nat) => (x : Int)).map PyData.int) fun d hd => by
      obtain ⟨i, hi, rfl⟩ := List.mem_map.mp hd
      obtain ⟨x, hx, rfl⟩ := List.mem_map.mp hi
      have := (h c hc).2 x hx
      exact fine_small (by omega))
    rw [List.length_map, List.length_map] at f
    exact f.mono (Nat.le_refl _) (by have := (h c hc).1; omega))
  rw [List.length_map] at q
  exact q.text (by decide) (Nat.le_trans (Nat.mul_le_mul_left _ hl) hkm) rfl
theorem cuts_two14 (x y : Nat) (h : x + y ≤ 14) : (x + 2) * (y + 2) ≤ 81 := by
  have key : ∀ a : Fin 15, ∀ b : Fin 15, a.val + b.val ≤ 14 → (a.val + 2) * (b.val + 2) ≤ 81 := by decide +kernel
  exact key ⟨x, by omega⟩ ⟨y, by omega⟩ h
theorem cnt14 (rows : List (List Int)) (h4 : rows.length ≤ 4) (hs : (rows.map List.length).sum ≤ 14) : ((rows.getD 0 []).count 0 + (rows.getD 1 []).count 0) + ((rows.getD 2 []).count 0 + (rows.getD 3 []).count 0) ≤ 14 := by
  have cl : ∀ r : List Int, r.count 0 ≤ r.length := fun r => List.count_le_length ..
  match rows, h4 with
  | [], _ => exact Nat.zero_le _
  | [a], _ =>
    have := cl a
    have hs : a.length + 0 ≤ 14 := hs
    show (a.count 0 + 0) + (0 + 0) ≤ 14
    omega
  | [a, b], _ =>
    have := cl a
    have := cl b
    have hs : a.length + (b.length + 0) ≤ 14 := hs
    show (a.count 0 + b.count 0) + (0 + 0) ≤ 14
    omega
  | [a, b, c], _ =>
    have := cl a
    have := cl b
    have := cl c
    have hs : a.length + (b.length + (c.length + 0)) ≤ 14 := hs
    show (a.count 0 + b.count 0) + (c.count 0 + 0) ≤ 14
    omega
  | [a, b, c, d], _ =>
    have := cl a
    have := cl b
    have := cl c
    have := cl d
    have hs : a.length + (b.length + (c.length + (d.length + 0))) ≤ 14 := hs
    show (a.count 0 + b.count 0) + (c.count 0 + d.count 0) ≤ 14
    omega
theorem cutsU_few14 (rows : List (List Int)) (h4 : rows.length ≤ 4) (hs : (rows.map List.length).sum ≤ 14) (i : Nat) (hi : i ≤ 4) : (cutsU rows i).length ≤ 6561 := by
  have h := cnt14 rows h4 hs
  have e0 : (cutsU rows 0).length = 1 := rfl
  have e1 := cutsU_next rows 0
  have e2 := cutsU_next rows 1
  have e3 := cutsU_next rows 2
  have e4 := cutsU_next rows 3
  have b1 := cuts_two14 ((rows.getD 0 []).count 0) ((rows.getD 1 []).count 0) (by omega)
  have b2 := cuts_two14 ((rows.getD 2 []).count 0) ((rows.getD 3 []).count 0) (by omega)
  rw [e0, Nat.one_mul] at e1
  rw [Nat.zero_add] at e1
  have e2' : (cutsU rows 2).length = ((rows.getD 0 []).count 0 + 2) * ((rows.getD 1 []).count 0 + 2) := by rw [← e1]; exact e2
  have l2 : (cutsU rows 2).length ≤ 81 := by rw [e2']; exact b1
  have e34 : (cutsU rows 4).length = (cutsU rows 2).length * (((rows.getD 2 []).count 0 + 2) * ((rows.getD 3 []).count 0 + 2)) := by
    rw [← Nat.mul_assoc]
    have e3 : (cutsU rows 3).length = (cutsU rows 2).length * ((rows.getD 2 []).count 0 + 2) := e3
    rw [← e3]
    exact e4
  have l4 : (cutsU rows 4).length ≤ 6561 := by rw [e34]; exact Nat.mul_le_mul l2 b2
  have up : ∀ j, (cutsU rows j).length ≤ (cutsU rows (j + 1)).length := fun j => by
    rw [cutsU_next]
    exact Nat.le_mul_of_pos_right _ (by omega)
  have u0 : (cutsU rows 0).length ≤ (cutsU rows 1).length := up 0
  have u1 : (cutsU rows 1).length ≤ (cutsU rows 2).length := up 1
  have u2 : (cutsU rows 2).length ≤ (cutsU rows 3).length := up 2
  have u3 : (cutsU rows 3).length ≤ (cutsU rows 4).length := up 3
  match i, hi with
  | 0, _ => omega
  | 1, _ => omega
  | 2, _ => omega
  | 3, _ => omega
  | 4, _ => exact l4
def zpD (x : (Nat × Nat) × (Nat × Nat)) : D := .tup [stD x.1, stD x.2]
def zpPy (x : (Nat × Nat) × (Nat × Nat)) : PyData := .tuple [stPy x.1, stPy x.2]
theorem pys_zp {S : Sto} : ∀ xs : List ((Nat × Nat) × (Nat × Nat)), Pys S (xs.map zpD) (xs.map zpPy)
  | [] => .nil
  | x :: r => .cons (.tup (pys_st [x.1, x.2])) (pys_zp r)
theorem fine_zp {x : (Nat × Nat) × (Nat × Nat)} (h1 : x.1.1 ≤ 1000 ∧ x.1.2 ≤ 1000) (h2 : x.2.1 ≤ 1000 ∧ x.2.2 ≤ 1000) : Fine 2 410 (zpPy x) :=
  fine_tuple (fine_all (n := 1) (W := 204) (ds := [stPy x.1, stPy x.2]) fun d hd => by
    rcases List.mem_cons.mp hd with z | z
    · rw [z]; exact fine_st17 h1.1 h1.2
    · rw [List.mem_singleton.mp z]; exact fine_st17 h2.1 h2.2)
theorem shaped_of {d : PyData} {n W : Nat} (q : Fine n W d) (h : n ≤ 64) : SeqAt.shaped d = true := by
  show (PyData.canLay0 _ && decide (PyData.depth _ ≤ 64)) = true
  rw [q.lay, decide_eq_true (Nat.le_trans q.dep h)]
  rfl
theorem shaped_zps {xs : List ((Nat × Nat) × (Nat × Nat))} (h : ∀ x ∈ xs, (x.1.1 ≤ 1000 ∧ x.1.2 ≤ 1000) ∧ (x.2.1 ≤ 1000 ∧ x.2.2 ≤ 1000)) : SeqAt.shaped (.list (xs.map zpPy)) = true :=
  shaped_of (fine_list (fine_all (n := 2) (W := 410) (ds := xs.map zpPy) fun d hd => by
    obtain ⟨x, hx, rfl⟩ := List.mem_map.mp hd
    exact fine_zp (h x hx).1 (h x hx).2)) (by decide)
theorem nil_zps {xs : List ((Nat × Nat) × (Nat × Nat))} {f : Addr} {b : Bool} {S : Sto} {R : DK} (hf : S f = some (.lst (xs.map zpD))) (h : ∀ x ∈ xs, (x.1.1 ≤ 1000 ∧ x.1.2 ≤ 1000) ∧ (x.2.1 ≤ 1000 ∧ x.2.2 ≤ 1000)) (q : ∀ S', SG S S' → R (.bl (xs.isEmpty ^^ b)) S') :
    (dLst dNil) [] S (fun y S2 => rEqq b (.ref f) y S2 R) := by
  refine ⟨rfl, fun r nr => ?_⟩
  have sgr : SG S (S.put r (.lst [])) := .new nr
  refine ⟨_, _, .lst (sgr _ _ (fun z => z) hf) (pys_zp xs), .lst Sto.same .nil, shaped_zps h, by decide +kernel, ?_⟩
  rw [eqv_nil]
  have e : (xs.map zpPy).isEmpty = xs.isEmpty := by cases xs <;> rfl
  rw [e]
  exact q _ sgr
noncomputable def zprs (rows : List (List Int)) (ss : List (Nat × Nat)) (i : Nat) : List ((Nat × Nat) × (Nat × Nat)) := (ss.take i).flatMap fun a => (ss.filter fun b => zzB rows a b).map fun b => (a, b)
theorem zprs_mem {i : Nat} {x : (Nat × Nat) × (Nat × Nat)} : x ∈ zprs rows ss i ↔ x.1 ∈ ss.take i ∧ x.2 ∈ ss ∧ zzB rows x.1 x.2 = true := by
  unfold zprs
  rw [List.mem_flatMap]
  constructor
  · rintro ⟨a, ha, hx⟩
    obtain ⟨b, hb, rfl⟩ := List.mem_map.mp hx
    obtain ⟨h1, h2⟩ := List.mem_filter.mp hb
    exact ⟨ha, h1, h2⟩
  · rintro ⟨h1, h2, h3⟩
    exact ⟨x.1, h1, List.mem_map.mpr ⟨x.2, List.mem_filter.mpr ⟨h2, h3⟩, rfl⟩⟩
theorem zprs_next {i : Nat} {a : Nat × Nat} (h : ss[i]? = some a) : zprs rows ss (i + 1) = zprs rows ss i ++ (ss.filter fun b => zzB rows a b).map fun b => (a, b) := by
  unfold zprs
  rw [take_map h, List.flatMap_append]
  simp
theorem zprs_len (hl : ss.length ≤ 3) : ∀ i, (zprs rows ss i).length ≤ 3 * i
  | 0 => by simp [zprs]
  | i + 1 => by
    have ih := zprs_len hl i
    cases e : ss[i]? with
    | none =>
      have h1 : ss.length ≤ i := List.getElem?_eq_none_iff.mp e
      have : zprs rows ss (i + 1) = zprs rows ss i := by
        unfold zprs
        rw [List.take_of_length_le (by omega), List.take_of_length_le h1]
      rw [this]
      omega
    | some a =>
      rw [zprs_next e, List.length_append, List.length_map]
      have := List.length_filter_le (fun b => zzB rows a b) ss
      omega
theorem w_right87 {f : Addr} {S : Sto} {R : DK} (hG : Good many most rows) (h6 : many ≤ 4) (h60 : most ≤ 14) (hc : Ch rows ss) (hb : ∀ s ∈ ss, s.1 < 64 ∧ s.2 < 64) (hl : ss.length ≤ 3) (hf : S f = some (.lst ((linesU rows).map cutD')))
    (q : ∀ S', SG S S' → R (.bl true) S') : dFn 13 B_law_right_edc8 [.tup (rowsD rows), .ref f, chD ss] S R := by
  have rl := hG.len
  have h6 : many ≤ 6 := by omega
  have h60' : most ≤ 60 := by omega
  have r14 : ∀ r ∈ rows, r.length ≤ 14 := fun r hr => by
    obtain ⟨j, hj⟩ := List.getElem?_of_mem hr
    exact Nat.le_trans (hG.row hj).1 h60
  have few := cutsU_few14 rows (by omega) (Nat.le_trans hG.events h60) rows.length (by omega)
  have lfew : (linesU rows).length ≤ 6561 := Nat.le_trans (List.length_filter_le ..) few
  have lt : (thruL rows ss).length ≤ 6561 := Nat.le_trans (List.length_filter_le ..) lfew
  have hbd : ∀ s ∈ ss, s.1 ≤ 1000 ∧ s.2 ≤ 1000 := fun s hs => by have := hb s hs; omega
  have hs1 : ∀ c ∈ linesU rows, ∀ s ∈ ss, s.1 < c.length := fun c hc' s hs => by rw [(linesU_mem.mp hc').1]; exact hc.lt s hs
  have small : ∀ c ∈ thruL rows ss, c.length ≤ 4 ∧ ∀ x ∈ c, x < 32 := fun c hc' => by
    obtain ⟨l1, l2, _⟩ := linesU_mem.mp (List.mem_filter.mp hc').1
    refine ⟨by omega, fun x hx => ?_⟩
    obtain ⟨k, hk⟩ := List.getElem?_of_mem hx
    obtain ⟨row, hrow⟩ := row_of (rows := rows) (p := k) (by rw [← l1]; exact (List.getElem?_eq_some_iff.mp hk).1)
    have := l2 k x _ hk (prsA hrow)
    have h3 : row.count 0 ≤ row.length := List.count_le_length ..
    have h4 := r14 row (List.mem_of_getElem? hrow)
    omega
  have tx : Text (.list ((thruL rows ss).map linPy)) := small_lines lt small (by decide)
  refine ⟨_, rfl, _, rfl, rfl, w_with87 hf (by omega) hs1 hbd (by omega) fun g S1 sg1 ng hg => ?_⟩
  refine ⟨_, rfl, _, rfl, rfl, w_told87 hG h6 h60' hc hb hl (by omega) fun p h v S2 sg2 hv hp hh => ⟨[v, .ref h], rfl, .inr ⟨p, rfl, hp⟩, _, _, rfl, _, _, rfl, rfl, ?_⟩⟩
  have hg2 : S2 g = some (.lst ((thruL rows ss).map cutD')) := sg2 _ _ (fun z => z) hg
  have holds : ∀ (S : Sto) (R : DK), (∀ S', SG S S' → R (.bl true) S') → dFn 6 B_verdict_holds_e52c [.tup (rowsD rows), chD ss, v] S R := fun S R q => by
    cases hv with
    | line ht =>
      have t := upL_thru hG h6 h60' hc.lt ht
      refine w_holdsL hG h6 h60' t.len t.le hc.lt (by omega) fun S' sg => ?_
      rw [consB_iff.mpr t.cons, onB_iff.mpr t.on]
      exact q S' sg
    | @zig a b ms n hz hF => exact w_holdsZ hG h6 h60' hz.one hz.two hbd (by have := hF.2.1; omega) hF.1 q
  refine ⟨_, rfl, _, rfl, rfl, w_sameP (.lst hh (pys_lin _)) (.lst hg2 (pys_lin _)) tx ⟨_, rfl, goF ⟨_, rfl, _, rfl, _, rfl, rfl, holds _ _ fun S3 sg3 => ⟨_, _, rfl, rfl, _, rfl, goF ?_⟩⟩⟩⟩
  have hg3 := sg3 _ _ (fun z => z) hg2
  have hem : (thruL rows ss).isEmpty = true ↔ ¬ ∃ L, Thru rows ss L := by
    rw [List.isEmpty_iff]
    constructor
    · rintro e ⟨L, hL⟩
      have := thru_mem.mpr hL
      rw [e] at this
      cases this
    · intro n
      refine List.eq_nil_iff_forall_not_mem.mpr fun c hc' => n ⟨c, thru_mem.mp hc'⟩
  obtain ⟨w, tl, ev, ew⟩ : ∃ (w : Str) (tl : List D), v = .tup (.str w :: tl) ∧ atI [D.str "zigzag", D.str "line"] (if ((thruL rows ss).isEmpty ^^ true) = true then 1 else 0) = some (.str w) := by
    cases hv with
    | line ht =>
      have e : (thruL rows ss).isEmpty = false := by
        rw [Bool.eq_false_iff]
        exact fun z => hem.mp z ht
      rw [e]
      exact ⟨"line", _, rfl, rfl⟩
    | zig n hz hF =>
      rw [hem.mpr n]
      exact ⟨"zigzag", _, rfl, rfl⟩
  refine ⟨_, rfl, _, 0, _, by rw [ev]; rfl, rfl, atI_nat (i := 0) rfl, rfl, fun e ne => ⟨_, rfl, nil_cuts ((SK.new ne : SG _ _) _ _ (fun z => z) hg3) fun S4 sg4 => ?_⟩⟩
  have he4 := sg4 _ _ (fun z => z) (Sto.same (S := S3) (a := e) (o := .lst [D.str "zigzag", D.str "line"]))
  have sgA := (((sg1.trans sg2).trans sg3).trans (SK.new ne)).trans sg4
  refine ⟨_, rfl, _, _, _, seqOf_lst he4, rfl, ew, _, rfl, ?_⟩
  rw [decide_eq_true rfl]
  refine goF ⟨rfl, fun pa npa => ?_⟩
  have hg4 : S4 g = some (.lst ((thruL rows ss).map cutD')) := sg4 _ _ (fun z => z) ((SK.new ne : SG _ _) _ _ (fun z => z) hg3)
  have npS : S pa = none := SG.none sgA npa
  have sgp : SG S4 (S4.put pa (.lst [])) := .new npa
  have hpa5 : (S4.put pa (.lst [])) pa = some (.lst ((zprs rows ss 0).map zpD)) := Sto.same
  have hg5 := sgp _ _ (fun z => z) hg4
  have sgB := sgA.trans sgp
  have gpa : g ≠ pa := fun z => by rw [z, npa] at hg4; cases hg4
  generalize S4.put pa (.lst []) = S5 at sgp hpa5 hg5 sgB ⊢
  refine ⟨_, rfl, _, rfl, fun j env S' => j ≤ ss.length ∧ ∃ x7 : Option D, env = [some (.tup (rowsD rows)), some (.ref f), some (chD ss), some (.ref g), some v, some (.ref h), some (.ref pa), x7, none, none, none, none, none] ∧ SG S S' ∧ S' pa = some (.lst ((zprs rows ss j).map zpD)) ∧ S' g = some (.lst ((thruL rows ss).map cutD')), ⟨Nat.zero_le _, _, rfl, sgB, hpa5, hg5⟩, fun _ _ _ _ _ => True.intro, ?_, ?_⟩
  · rintro j d env S6 hd ⟨_, x7, rfl, sg6, hpa6, hg6⟩
    have hd : (ss.map stD)[j]? = some d := hd
    rw [List.getElem?_map] at hd
    obtain ⟨a, ha, rfl⟩ := Option.map_eq_some_iff.mp hd
    have hj := (List.getElem?_eq_some_iff.mp ha).1
    refine ⟨_, rfl, ⟨rfl, _, seqOf_lst hpa6, noTup _⟩, _, rfl, _, rfl, lc_mapE ss stD rfl (fun b => if zzB rows a b = true then some (zpD (a, b)) else none) (by omega) (fun _ _ => True.intro) (fun b _ S7 sg7 K Kn hk hn => turn_n ⟨_, rfl, _, rfl, _, rfl, rfl, w_find hG h6 h60' fun S8 sg8 hF => ?_⟩) fun r S7 nr sg7 hr => ?_⟩
    · refine ⟨_, rfl, ?_⟩
      rw [zzB_of hF]
      refine iteB (fun z => ?_) fun z => ?_
      · exact ⟨_, rfl, _, rfl, rfl, hk _ (if_pos z) _ sg8⟩
      · exact hn (if_neg (by rw [z]; exact Bool.false_ne_true)) _ sg8
    · rw [fm_iteB (fun b => zpD (a, b)) (fun b => zzB rows a b)] at hr
      have e2 : (ss.filter fun b => zzB rows a b).map (fun b => zpD (a, b)) = ((ss.filter fun b => zzB rows a b).map fun b => (a, b)).map zpD := by rw [List.map_map]; rfl
      rw [e2] at hr
      have l1 := zprs_len (rows := rows) hl j
      have l2 := List.length_filter_le (fun b => zzB rows a b) ss
      refine ⟨pa, r, _, _, rfl, rfl, sg7 _ _ (fun z => z) hpa6, hr, by rw [List.length_map, List.length_map, List.length_map]; omega, hj, _, rfl, SG.keepP npS sg6 sg7, ?_, (Sto.ne gpa).trans (sg7 _ _ (fun z => z) hg6)⟩
      rw [Sto.same, ← List.map_append, zprs_next ha]
  rintro env S6 ⟨_, x7, rfl, sg6, hpa6, hg6⟩
  have hpa6 : S6 pa = some (.lst ((zprs rows ss ss.length).map zpD)) := by
    have hpa6 : S6 pa = some (.lst ((zprs rows ss (ss.map stD).length).map zpD)) := hpa6
    rw [List.length_map] at hpa6
    exact hpa6
  have zbd : ∀ x ∈ zprs rows ss ss.length, (x.1.1 ≤ 1000 ∧ x.1.2 ≤ 1000) ∧ (x.2.1 ≤ 1000 ∧ x.2.2 ≤ 1000) := fun x hx => by
    obtain ⟨h1, h2, _⟩ := zprs_mem.mp hx
    exact ⟨hbd _ (List.mem_of_mem_take h1), hbd _ h2⟩
  have hze : (zprs rows ss ss.length).isEmpty = !(thruL rows ss).isEmpty := by
    have dl := dual hG h6 h60' hc
    rw [Bool.eq_iff_iff, Bool.not_eq_true', Bool.eq_false_iff, ne_eq, hem, Classical.not_not, dl, List.isEmpty_iff]
    constructor
    · intro e s hs t ht ms z
      have : (s, t) ∈ zprs rows ss ss.length := zprs_mem.mpr ⟨by rw [List.take_length]; exact hs, ht, zzB_iff.mpr ⟨ms, z⟩⟩
      rw [e] at this
      cases this
    · intro n
      refine List.eq_nil_iff_forall_not_mem.mpr fun x hx => ?_
      obtain ⟨h1, h2, h3⟩ := zprs_mem.mp hx
      obtain ⟨ms, z⟩ := zzB_iff.mp h3
      exact n _ (List.mem_of_mem_take h1) _ h2 ms z
  refine ⟨_, rfl, nil_zps hpa6 zbd fun S7 sg7 => ⟨_, rfl, nil_cuts (sg7 _ _ (fun z => z) hg6) fun S8 sg8 => ⟨_, rfl, ?_⟩⟩⟩
  have key : (decide (((zprs rows ss ss.length).isEmpty ^^ false) = ((thruL rows ss).isEmpty ^^ true)) ^^ true) = false := by
    rw [hze]
    cases (thruL rows ss).isEmpty <;> rfl
  refine iteB (fun z => ?_) fun _ => ?_
  · rw [key] at z
    cases z
  have sg68 := sg7.trans sg8
  have hg8 := sg68 _ _ (fun z => z) hg6
  have hpa8 := sg68 _ _ (fun z => z) hpa6
  have sgC := sg6.trans sg68
  refine ⟨_, rfl, nil_cuts hg8 fun S9 sg9 => ⟨_, rfl, ?_⟩⟩
  have hg9 := sg9 _ _ (fun z => z) hg8
  have hpa9 := sg9 _ _ (fun z => z) hpa8
  have sgD := sgC.trans sg9
  rw [xor_ff]
  by_cases hth : ∃ L, Thru rows ss L
  rotate_left
  · rw [hem.mpr hth]
    refine goT ?_
    cases hv with
    | line ht => exact absurd ht hth
    | @zig a b ms n hz hF =>
      have hin : (a, b) ∈ zprs rows ss ss.length := zprs_mem.mpr ⟨by rw [List.take_length]; exact hz.one, hz.two, zzB_iff.mpr ⟨ms, hF.1⟩⟩
      refine ⟨_, rfl, _, 1, _, rfl, rfl, rfl, _, rfl, _, 2, _, rfl, rfl, rfl, rfl, _, rfl, zpPy (a, b), _, .tup (pys_st [a, b]), .inl (.lst hpa9 (pys_zp _)), shaped_of (fine_zp (hbd _ hz.one) (hbd _ hz.two)) (by decide), shaped_zps zbd, shaped_zps zbd, ?_⟩
      have e1 : (((zprs rows ss ss.length).map zpPy).any fun z => PyData.eqv z (zpPy (a, b))) = true := by
        rw [List.any_eq_true]
        exact ⟨_, List.mem_map.mpr ⟨_, hin, rfl⟩, SeqAt.eqv_refl _ (SeqAt.canLay_of_shaped (shaped_of (fine_zp (x := (a, b)) (hbd _ hz.one) (hbd _ hz.two)) (by decide)))⟩
      rw [e1]
      refine ⟨_, rfl, goT ⟨_, rfl, _, rfl, _, 1, _, rfl, rfl, rfl, _, rfl, _, 2, _, rfl, rfl, rfl, _, rfl, _, 3, _, rfl, rfl, rfl, rfl, w_isz hG h6 h60' (by have := hF.2.1; omega) fun S10 sg10 => ⟨_, _, rfl, rfl, ?_⟩⟩⟩
      rw [zqB_t hF.1]
      exact q _ (sgD.trans sg10)
  have ht := hth
  have e0 : (thruL rows ss).isEmpty = false := by
    rw [Bool.eq_false_iff]
    exact fun z => hem.mp z ht
  rw [e0]
  refine goF ?_
  have hgM : S9 g = some (.lst (((linesU rows).filter (onB ss)).map cutD')) := hg9
  have hlen : ((linesU rows).filter (onB ss)).length ≤ 70000 := Nat.le_trans (List.length_filter_le ..) (by omega)
  have hne : ((linesU rows).filter (onB ss)) ≠ [] := hold_ne.mpr ht
  have tlo := upL_thru hG h6 h60' hc.lt ht
  have thi := hi_thru hc.lt ht
  have mlo := hold_mem.mpr tlo
  have mhi := hold_mem.mpr thi
  have hall : ∀ c ∈ (linesU rows).filter (onB ss), c.length = rows.length ∧ LeL (upL rows (lowL rows ss)) c ∧ LeL c (hiL rows ss) := fun c hc' => by
    have t := hold_mem.mp hc'
    exact ⟨t.len, up_bot hG h6 h60' hc.lt t, hi_top hc.lt t⟩
  have slo := thru_small hG h60' tlo
  have shi := thru_small hG h60' thi
  have llo := tlo.len
  have lhi := thi.len
  have E : ∀ b, endL rows ss b = if b = true then upL rows (lowL rows ss) else hiL rows ss := fun b => rfl
  generalize (linesU rows).filter (onB ss) = cs at hgM hlen hne mlo mhi hall
  generalize hlo : upL rows (lowL rows ss) = lo at tlo mlo hall slo llo E
  generalize hhi : hiL rows ss = hi at thi mhi hall shi lhi E
  have erl : (rowsD rows).length = rows.length := List.length_map ..
  have col : ∀ (i : Nat), i < rows.length → ∀ (S : Sto) (env : Env) (j l : Nat), True := fun _ _ _ _ _ _ => True.intro
  refine ⟨_, rfl, _, _, rfl, rfl, _, rfl, by omega, by omega, lc_mapE (List.range rows.length) (fun n : Nat => .int (0 + (n : Int))) (by show rgD 0 ((rowsD rows).length : Int).toNat = _; rw [erl, show ((rows.length : Nat) : Int).toNat = rows.length by omega]; rfl) (fun i : Nat => some (D.int ((lo.getD i 0 : Nat) : Int))) (by rw [List.length_range]; omega) (fun _ _ => True.intro) (fun i hi S3 sg3 K Kn hk _ => ?_) fun a S3 na sg3 ha => ?_⟩
  · have hi := List.mem_range.mp hi
    refine turn_y ⟨_, rfl, _, ⟨_, sg3 _ _ (fun z => z) hgM, rfl⟩, lc_mapE cs cutD' rfl (fun c => some (D.int ((c.getD i 0 : Nat) : Int))) (by omega) (fun S' sg => sg _ _ (fun z => z) (sg3 _ _ (fun z => z) hgM)) (fun c hcm S4 sg4 K' Kn' hk' _ => ?_) fun b S4 nb sg4 hb => ?_⟩
    · have hci : i < c.length := by rw [(hall c hcm).1]; exact hi
      have hx := List.getElem?_eq_getElem hci
      refine turn_y ⟨_, rfl, _, rfl, _, (0 + (i : Int)), _, rfl, rfl, by rw [Int.zero_add]; exact atI_nat (natD_at hx), hk' _ ?_ _ (.refl _)⟩
      show some (D.int ((c.getD i 0 : Nat) : Int)) = _
      rw [getD_of hx]
    · rw [fm_map, col_int] at hb
      refine ⟨_, _, rfl, seqOf_lst hb, by rw [List.length_map]; exact List.length_pos_iff.mpr hne, fun m hm hmin => ?_⟩
      obtain ⟨c, hcm, rfl⟩ := List.mem_map.mp hm
      have h1 := hmin _ (List.mem_map.mpr ⟨lo, mlo, rfl⟩)
      obtain ⟨h2, h3, _⟩ := hall c hcm
      have x1 := List.getElem?_eq_getElem (l := lo) (i := i) (by omega)
      have x2 := List.getElem?_eq_getElem (l := c) (i := i) (by omega)
      have h4 := h3 i _ _ x1 x2
      rw [getD_of x1, getD_of x2] at h1
      refine hk _ ?_ _ sg4
      rw [getD_of x1, getD_of x2]
      congr 2
      omega
  rw [fm_map, ← llo, nat_list] at ha
  refine ⟨_, _, rfl, seqOf_lst ha, fun ys z => (nomatch z), ?_⟩
  have hg3 := sg3 _ _ (fun z => z) hgM
  refine ⟨_, rfl, _, _, rfl, rfl, _, rfl, by omega, by omega, lc_mapE (List.range rows.length) (fun n : Nat => .int (0 + (n : Int))) (by show rgD 0 ((rowsD rows).length : Int).toNat = _; rw [erl, show ((rows.length : Nat) : Int).toNat = rows.length by omega]; rfl) (fun i : Nat => some (D.int ((hi.getD i 0 : Nat) : Int))) (by rw [List.length_range]; omega) (fun _ _ => True.intro) (fun i hi' S4 sg4 K Kn hk _ => ?_) fun a2 S4 na2 sg4 ha2 => ?_⟩
  · have hi' := List.mem_range.mp hi'
    refine turn_y ⟨_, rfl, _, ⟨_, sg4 _ _ (fun z => z) hg3, rfl⟩, lc_mapE cs cutD' rfl (fun c => some (D.int ((c.getD i 0 : Nat) : Int))) (by omega) (fun S' sg => sg _ _ (fun z => z) (sg4 _ _ (fun z => z) hg3)) (fun c hcm S5 sg5 K' Kn' hk' _ => ?_) fun b S5 nb sg5 hb => ?_⟩
    · have hci : i < c.length := by rw [(hall c hcm).1]; exact hi'
      have hx := List.getElem?_eq_getElem hci
      refine turn_y ⟨_, rfl, _, rfl, _, (0 + (i : Int)), _, rfl, rfl, by rw [Int.zero_add]; exact atI_nat (natD_at hx), hk' _ ?_ _ (.refl _)⟩
      show some (D.int ((c.getD i 0 : Nat) : Int)) = _
      rw [getD_of hx]
    · rw [fm_map, col_int] at hb
      refine ⟨_, _, rfl, seqOf_lst hb, by rw [List.length_map]; exact List.length_pos_iff.mpr hne, fun m hm hmax => ?_⟩
      obtain ⟨c, hcm, rfl⟩ := List.mem_map.mp hm
      have h1 := hmax _ (List.mem_map.mpr ⟨hi, mhi, rfl⟩)
      obtain ⟨h2, _, h3⟩ := hall c hcm
      have x1 := List.getElem?_eq_getElem (l := hi) (i := i) (by omega)
      have x2 := List.getElem?_eq_getElem (l := c) (i := i) (by omega)
      have h4 := h3 i _ _ x2 x1
      rw [getD_of x1, getD_of x2] at h1
      refine hk _ ?_ _ sg5
      rw [getD_of x1, getD_of x2]
      congr 2
      omega
  rw [fm_map, ← lhi, nat_list] at ha2
  refine ⟨_, _, rfl, seqOf_lst ha2, fun ys z => (nomatch z), ?_⟩
  refine ⟨_, rfl, _, rfl, rfl, w_ends87 hG h6 h60' hc hb hl ht fun pE SE sgE hE => ⟨_, rfl, _, rfl, rfl, fun eL neL => ⟨rfl, ?_⟩⟩⟩
  have hE' : SE pE = some (.lst ([lo, hi].map cutD')) := by
    rw [hE, E true, E false]
    rfl
  have sgL : SG SE (SE.put eL (.lst ([lo, hi].map cutD'))) := .new neL
  refine w_sameP (.lst (sgL _ _ (fun z => z) hE') (pys_lin [lo, hi])) (.lst Sto.same (pys_lin [lo, hi])) (lines_text (k := 2) (m := 6) (by show 2 ≤ 2; decide) (fun c hc' => ?_) (by decide)) (q _ ((((sgD.trans sg3).trans sg4).trans sgE).trans sgL))
  rcases List.mem_cons.mp hc' with z | z
  · rw [z]; exact ⟨by omega, slo⟩
  · rw [List.mem_singleton.mp z]; exact ⟨by omega, shi⟩
theorem law_k87 (ns : List Int) (hl : ns.length ≤ 63) : dFn 10 B_law_e6f8 [.rol (intsD ns)] (fun _ => none) (fun d _ => d = .bl true) := by
  refine ⟨_, rfl, rfl, w_stateS (by omega) fun st big al S1 D1 sg1 _ _ _ => ?_⟩
  refine ⟨4, rfl, by decide, by decide, fun i env S => ∃ x2 x3 x4 x5 x6 x7 x8 : Option D, env = [some (.rol (intsD ns)), some (.ref st), x2, x3, x4, x5, x6, x7, x8, none] ∧ Ds st big al (500 * i) S, ⟨_, _, _, _, _, _, _, rfl, D1⟩, fun _ _ _ _ _ => True.intro, ?_, fun env S _ => rfl⟩
  rintro i d env S2 hd ⟨x2, x3, x4, x5, x6, x7, x8, rfl, D2⟩
  obtain ⟨hi, _⟩ := rg_at hd
  have hi : i < 4 := hi
  refine ⟨_, rfl, rfl, w_historyS (pr := 4) (ev := 14) D2 (by omega) (by decide) (by decide) (by decide) fun rows S3 hG D3 k3 => ?_⟩
  have rl := hG.len
  have r60 := hG.row60 (by decide : 14 ≤ 60)
  have erl : (rowsD rows).length = rows.length := List.length_map ..
  have few := cutsU_few14 rows (by omega) hG.events rows.length (by omega)
  have lfew : (linesU rows).length ≤ 6561 := Nat.le_trans (List.length_filter_le ..) few
  have lne : (linesU rows).map cutD' ≠ [] := fun z => by
    have := fall_lines rows []
    rw [List.map_eq_nil_iff] at z
    rw [z] at this
    cases this
  refine ⟨_, rfl, rfl, w_allS hG (by decide) (by decide) fun g S4 sg4 ng hg => ?_⟩
  have fg := D3.fresh ng
  have D4 := D3.keep sg4
  refine ⟨4, rfl, by decide, by decide, fun j env S => ∃ x5 x6 x7 x8 : Option D, env = [some (.rol (intsD ns)), some (.ref st), some d, some (.tup (rowsD rows)), some (.ref g), x5, x6, x7, x8, none] ∧ Ds st big al (500 * i + 300 + 40 * j) S ∧ S g = some (.lst ((linesU rows).map cutD')), ⟨_, _, _, _, rfl, D4, hg⟩, fun _ _ _ _ _ => True.intro, ?_, ?_⟩
  rotate_left
  · rintro env S6 ⟨x5, x6, x7, x8, rfl, D6, hg6⟩
    exact ⟨_, _, _, _, _, _, _, rfl, D6.mono (by show 500 * i + 300 + 40 * 4 ≤ _; omega)⟩
  rintro j e env S5 he ⟨x5, x6, x7, x8, rfl, D5, hg5⟩
  obtain ⟨hj, _⟩ := rg_at he
  have hj : j < 4 := hj
  refine ⟨_, rfl, _, rfl, rfl, w_chosen87 hG (by decide) (by decide) D5 (by omega) fun ss S6 hc hb hl3 D6 k6 => ?_⟩
  have hg6 := k6 _ _ (nDS fg) hg5
  refine ⟨_, rfl, _, rfl, _, rfl, rfl, w_right87 hG (by decide) (by decide) hc hb hl3 hg6 fun S7 sg7 => ⟨_, rfl, goF ?_⟩⟩
  have D7 := D6.keep sg7
  have hg7 := sg7 _ _ (fun z => z) hg6
  refine ⟨_, rfl, _, rfl, rfl, w_pickS D7 (by omega) (fun S' k' => seqOf_lst (k' _ _ (nDS fg) hg7)) lne (by rw [List.length_map]; omega) fun a x S8 hx D8 k8 => ?_⟩
  rw [List.getElem?_map] at hx
  obtain ⟨c1, hc1, rfl⟩ := Option.map_eq_some_iff.mp hx
  obtain ⟨l1, l2, _⟩ := linesU_mem.mp (List.mem_of_getElem? hc1)
  have hg8 := k8 _ _ (nDS fg) hg7
  refine ⟨_, rfl, _, rfl, fun p np => ?_⟩
  have fp := D8.fresh np
  have gp : g ≠ p := fun z => by rw [z, np] at hg8; cases hg8
  obtain ⟨Pv, hPv⟩ : ∃ Pv : Nat → Sto → Prop, Pv = fun i' S => ∃ c : List Nat, c.length = i' ∧ i' ≤ rows.length ∧ (∀ (k : Nat) (x : Nat) (row : List Int), c[k]? = some x → rows[k]? = some row → x ≤ row.count 0 + 1) ∧ Ds st big al (500 * i + 300 + 40 * j + 21 + i') S ∧ S p = some (.lst (natD c)) ∧ S g = some (.lst ((linesU rows).map cutD')) := ⟨_, rfl⟩
  refine ⟨Pv, by rw [hPv]; exact ⟨[], rfl, Nat.zero_le _, fun k x row h => (by cases h), (D8.put fp).mono (by omega), Sto.same, (Sto.ne gp).trans hg8⟩, fun _ _ _ _ => True.intro, fun i' d S9 hd h1 => ?_, fun S9 h1 => ?_⟩
  · rw [hPv] at h1
    obtain ⟨c, cl, ci, cb, D9, hp9, hg9⟩ := h1
    have hd : (rows.map rowD)[i']? = some d := hd
    rw [List.getElem?_map] at hd
    obtain ⟨row, hrow, rfl⟩ := Option.map_eq_some_iff.mp hd
    have hi' := (List.getElem?_eq_some_iff.mp hrow).1
    have cl0 : row.count 0 ≤ row.length := List.count_le_length ..
    have r6 := r60 row (List.mem_of_getElem? hrow)
    refine goT (B := Pv (i' + 1) S9) ?_
    refine ⟨_, rfl, _, rfl, ⟨_, rfl⟩, row, 0, rfl, rfl, rfl, w_drawS D9 (by omega) (by omega) (by omega) fun x S10 hx D10 k10 => ?_⟩
    have hp10 := k10 _ _ (nDS fp) hp9
    have hg10 := k10 _ _ (nDS fg) hg9
    refine ⟨_, hp10, by rw [natD_len]; omega, ?_⟩
    rw [hPv]
    refine ⟨c ++ [x], by rw [List.length_append, cl]; rfl, hi', fun k y r hk hr => ?_, (D10.put fp).mono (by omega), ?_, (Sto.ne gp).trans hg10⟩
    · rcases Nat.lt_or_ge k c.length with z | z
      · rw [List.getElem?_append_left z] at hk
        exact cb k y r hk hr
      · rw [List.getElem?_append_right z] at hk
        obtain ⟨g1, g2⟩ := List.getElem?_eq_some_iff.mp hk
        have g1' : k - c.length < 1 := g1
        have : k = i' := by omega
        subst this
        rw [hrow] at hr
        cases hr
        have e0 : k - c.length = 0 := by omega
        rw [e0] at hk
        cases hk
        omega
    · rw [Sto.same, ← natD_app]
      rfl
  rw [hPv] at h1
  obtain ⟨c2, cl2, _, cb2, D9, hp9, hg9⟩ := h1
  have cl2 : c2.length = rows.length := by
    have cl2 : c2.length = (rowsD rows).length := cl2
    rw [cl2, erl]
  have ce2 : LeL c2 (prs rows) := fun k x y h1 h2 => by
    obtain ⟨row, hrow⟩ := row_of (rows := rows) (p := k) (by rw [← cl2]; exact (List.getElem?_eq_some_iff.mp h1).1)
    rw [prsA hrow] at h2
    cases h2
    exact cb2 k x row h1 hrow
  refine ⟨_, _, rfl, seqOf_lst hp9, fun ys z => (nomatch z), rfl, fun q nq => ?_⟩
  have hq : (S9.put q (.lst ([c1, c2].map cutD'))) q = some (.lst ([c1, c2].map cutD')) := Sto.same
  have sgq : SG S9 (S9.put q (.lst ([c1, c2].map cutD'))) := .new nq
  have D10 := D9.keep sgq
  have hg10 := sgq _ _ (fun z => z) hg9
  refine ⟨_, ⟨_, hq, rfl⟩, fun k env S => ∃ x7 x8 : Option D, env = [some (.rol (intsD ns)), some (.ref st), some d, some (.tup (rowsD rows)), some (.ref g), some e, some (chD ss), x7, x8, none] ∧ SG (S9.put q (.lst ([c1, c2].map cutD'))) S, ⟨_, _, rfl, .refl _⟩, fun j env S' _ ⟨_, _, _, sg⟩ => sg _ _ (fun z => z) hq, ?_, ?_⟩
  · rintro k d' env S11 hd ⟨x7, x8, rfl, sg11⟩
    have hd : ([c1, c2].map cutD')[k]? = some d' := hd
    rw [List.getElem?_map] at hd
    obtain ⟨c, hck, rfl⟩ := Option.map_eq_some_iff.mp hd
    have hcl : c.length = rows.length ∧ LeL c (prs rows) := by
      rcases List.mem_cons.mp (List.mem_of_getElem? hck) with z | z
      · rw [z]; exact ⟨l1, l2⟩
      · rw [List.mem_singleton.mp z]; exact ⟨cl2, ce2⟩
    have hg11 := sg11 _ _ (fun z => z) hg10
    have hs1 : ∀ c ∈ linesU rows, ∀ s ∈ ss, s.1 < c.length := fun c hc' s hs => by rw [(linesU_mem.mp hc').1]; exact hc.lt s hs
    have hbd : ∀ s ∈ ss, s.1 ≤ 1000 ∧ s.2 ≤ 1000 := fun s hs => by have := hb s hs; omega
    refine ⟨_, rfl, _, rfl, _, rfl, rfl, w_with87 hg11 (by omega) hs1 hbd (by omega) fun h S12 sg12 nh hh => cut_in hh ?_⟩
    have ev : (decide (c ∈ (linesU rows).filter (onB ss)) ^^ false) = (consB rows c && onB ss c) := by
      rw [xor_ff, Bool.eq_iff_iff, decide_eq_true_iff, List.mem_filter, linesU_mem, Bool.and_eq_true, consB_iff]
      exact ⟨fun z => ⟨z.1.2.2, z.2⟩, fun z => ⟨⟨hcl.1, hcl.2, z.1⟩, z.2⟩⟩
    rw [ev]
    exact ⟨_, rfl, _, rfl, _, rfl, rfl, rfl, w_holdsL hG (by decide) (by decide) hcl.1 hcl.2 hc.lt (by omega) fun S13 sg13 => ⟨_, rfl, rfl, w_sameB ⟨_, rfl, goF ⟨_, _, rfl, (sg11.trans sg12).trans sg13⟩⟩⟩⟩
  · rintro env S11 ⟨x7, x8, rfl, sg11⟩
    exact ⟨_, _, _, _, rfl, (D10.keep sg11).mono (by rw [show (rowsD rows).length = rows.length from erl]; omega), sg11 _ _ (fun z => z) hg10⟩
end Sv
namespace Sv
open PySem PySem.Spec PyProof.Rows L2
set_option maxHeartbeats 4000000 in
theorem all_mk {l : PySem.W.OpenLaw} {w : World} {K : PySem.W.Frag} {h : Heap} {mg : Str → Option Value} {fa f0 f1 f2 f3 f4 f5 f6 f7 f8 f9 f10 f11 f12 f13 f14 f15 f16 f17 f18 f19 f20 f21 f22 f23 f24 f25 f26 f27 f28 f29 f30 f31 f32 f33 f34 f35 f36 f37 f38 f39 f40 f41 f42 f43 f44 f45 : Addr} (X : K.In h) (G : h.Ns mainGlobals mg) (hfa : mg "law" = some (.ref fa))
    {od0 an0 od1 an1 od2 an2 od3 an3 od4 an4 od5 an5 od6 an6 od7 an7 od8 an8 od9 an9 od10 an10 od11 an11 od12 an12 od13 an13 od14 an14 od15 an15 od16 an16 od17 an17 od18 an18 od19 an19 od20 an20 od21 an21 od22 an22 od23 an23 od24 an24 od25 an25 od26 an26 od27 an27 od28 an28 od29 an29 od30 an30 od31 an31 od32 an32 od33 an33 od34 an34 od35 an35 od36 an36 od37 an37 od38 an38 od39 an39 od40 an40 od41 an41 od42 an42 od43 an43 od44 an44 od45 an45 : Option Addr} {sl0 sl1 sl2 sl3 sl4 sl5 sl6 sl7 sl8 sl9 sl10 sl11 sl12 sl13 sl14 sl15 sl16 sl17 sl18 sl19 sl20 sl21 sl22 sl23 sl24 sl25 sl26 sl27 sl28 sl29 sl30 sl31 sl32 sl33 sl34 sl35 sl36 sl37 sl38 sl39 sl40 sl41 sl42 sl43 sl44 sl45 : Array (Option Value)} {oc0 kV0 dc0 pm0 cd0 ct0 oc1 kV1 dc1 pm1 cd1 ct1 oc2 kV2 dc2 pm2 cd2 ct2 oc3 kV3 dc3 pm3 cd3 ct3 oc4 kV4 dc4 pm4 cd4 ct4 oc5 kV5 dc5 pm5 cd5 ct5 oc6 kV6 dc6 pm6 cd6 ct6 oc7 kV7 dc7 pm7 cd7 ct7 oc8 kV8 dc8 pm8 cd8 ct8 oc9 kV9 dc9 pm9 cd9 ct9 oc10 kV10 dc10 pm10 cd10 ct10 oc11 kV11 dc11 pm11 cd11 ct11 oc12 kV12 dc12 pm12 cd12 ct12 oc13 kV13 dc13 pm13 cd13 ct13 oc14 kV14 dc14 pm14 cd14 ct14 oc15 kV15 dc15 pm15 cd15 ct15 oc16 kV16 dc16 pm16 cd16 ct16 oc17 kV17 dc17 pm17 cd17 ct17 oc18 kV18 dc18 pm18 cd18 ct18 oc19 kV19 dc19 pm19 cd19 ct19 oc20 kV20 dc20 pm20 cd20 ct20 oc21 kV21 dc21 pm21 cd21 ct21 oc22 kV22 dc22 pm22 cd22 ct22 oc23 kV23 dc23 pm23 cd23 ct23 oc24 kV24 dc24 pm24 cd24 ct24 oc25 kV25 dc25 pm25 cd25 ct25 oc26 kV26 dc26 pm26 cd26 ct26 oc27 kV27 dc27 pm27 cd27 ct27 oc28 kV28 dc28 pm28 cd28 ct28 oc29 dc29 pm29 cd29 ct29 oc30 kV30 dc30 pm30 cd30 ct30 oc31 kV31 dc31 pm31 cd31 ct31 oc32 kV32 dc32 pm32 cd32 ct32 oc33 kV33 dc33 pm33 cd33 ct33 oc34 kV34 dc34 pm34 cd34 ct34 oc35 kV35 dc35 pm35 cd35 ct35 oc36 kV36 dc36 pm36 cd36 ct36 oc37 kV37 dc37 pm37 cd37 ct37 oc38 kV38 dc38 pm38 cd38 ct38 oc39 kV39 dc39 pm39 cd39 ct39 oc40 kV40 dc40 pm40 cd40 ct40 oc41 kV41 dc41 pm41 cd41 ct41 oc42 kV42 dc42 pm42 cd42 ct42 oc43 kV43 dc43 pm43 cd43 ct43 oc44 kV44 dc44 pm44 cd44 ct44 oc45 kV45 dc45 pm45 cd45 ct45 : Value}
    {dk29 : Addr}
    (a0 : PySem.W.nsIn K mainGlobals "_law_draw" = some (some (.ref f0))) (l0 : K.lookup f0 = some ⟨oc0, od0, .func (PySem.W.fnOf "_law_draw" "_law_draw" (defArgs s__law_draw) (defBody s__law_draw) (defScope s__law_draw) .none kV0 dc0 pm0 an0 cd0 ct0), sl0⟩) (c0 : PySem.W.codeIn K cd0 "_law_draw" = true) (k0 : PySem.W.keepIn K (.ref f0) = true)
    (a1 : PySem.W.nsIn K mainGlobals "_law_pick" = some (some (.ref f1))) (l1 : K.lookup f1 = some ⟨oc1, od1, .func (PySem.W.fnOf "_law_pick" "_law_pick" (defArgs s__law_pick) (defBody s__law_pick) (defScope s__law_pick) .none kV1 dc1 pm1 an1 cd1 ct1), sl1⟩) (c1 : PySem.W.codeIn K cd1 "_law_pick" = true) (k1 : PySem.W.keepIn K (.ref f1) = true)
    (a2 : PySem.W.nsIn K mainGlobals "_law_same" = some (some (.ref f2))) (l2 : K.lookup f2 = some ⟨oc2, od2, .func (PySem.W.fnOf "_law_same" "_law_same" (defArgs s__law_same) (defBody s__law_same) (defScope s__law_same) .none kV2 dc2 pm2 an2 cd2 ct2), sl2⟩) (c2 : PySem.W.codeIn K cd2 "_law_same" = true) (k2 : PySem.W.keepIn K (.ref f2) = true)
    (a3 : PySem.W.nsIn K mainGlobals "is_number" = some (some (.ref f3))) (l3 : K.lookup f3 = some ⟨oc3, od3, .func (PySem.W.fnOf "is_number" "is_number" (defArgs s_is_number) (defBody s_is_number) (defScope s_is_number) .none kV3 dc3 pm3 an3 cd3 ct3), sl3⟩) (c3 : PySem.W.codeIn K cd3 "is_number" = true) (k3 : PySem.W.keepIn K (.ref f3) = true)
    (a4 : PySem.W.nsIn K mainGlobals "is_given" = some (some (.ref f4))) (l4 : K.lookup f4 = some ⟨oc4, od4, .func (PySem.W.fnOf "is_given" "is_given" (defArgs s_is_given) (defBody s_is_given) (defScope s_is_given) .none kV4 dc4 pm4 an4 cd4 ct4), sl4⟩) (c4 : PySem.W.codeIn K cd4 "is_given" = true) (k4 : PySem.W.keepIn K (.ref f4) = true)
    (a5 : PySem.W.nsIn K mainGlobals "is_sent_behind" = some (some (.ref f5))) (l5 : K.lookup f5 = some ⟨oc5, od5, .func (PySem.W.fnOf "is_sent_behind" "is_sent_behind" (defArgs s_is_sent_behind) (defBody s_is_sent_behind) (defScope s_is_sent_behind) .none kV5 dc5 pm5 an5 cd5 ct5), sl5⟩) (c5 : PySem.W.codeIn K cd5 "is_sent_behind" = true) (k5 : PySem.W.keepIn K (.ref f5) = true)
    (a6 : PySem.W.nsIn K mainGlobals "is_step" = some (some (.ref f6))) (l6 : K.lookup f6 = some ⟨oc6, od6, .func (PySem.W.fnOf "is_step" "is_step" (defArgs s_is_step) (defBody s_is_step) (defScope s_is_step) .none kV6 dc6 pm6 an6 cd6 ct6), sl6⟩) (c6 : PySem.W.codeIn K cd6 "is_step" = true) (k6 : PySem.W.keepIn K (.ref f6) = true)
    (a7 : PySem.W.nsIn K mainGlobals "is_received_before" = some (some (.ref f7))) (l7 : K.lookup f7 = some ⟨oc7, od7, .func (PySem.W.fnOf "is_received_before" "is_received_before" (defArgs s_is_received_before) (defBody s_is_received_before) (defScope s_is_received_before) .none kV7 dc7 pm7 an7 cd7 ct7), sl7⟩) (c7 : PySem.W.codeIn K cd7 "is_received_before" = true) (k7 : PySem.W.keepIn K (.ref f7) = true)
    (a8 : PySem.W.nsIn K mainGlobals "happened_at" = some (some (.ref f8))) (l8 : K.lookup f8 = some ⟨oc8, od8, .func (PySem.W.fnOf "happened_at" "happened_at" (defArgs s_happened_at) (defBody s_happened_at) (defScope s_happened_at) .none kV8 dc8 pm8 an8 cd8 ct8), sl8⟩) (c8 : PySem.W.codeIn K cd8 "happened_at" = true) (k8 : PySem.W.keepIn K (.ref f8) = true)
    (a9 : PySem.W.nsIn K mainGlobals "trips_of" = some (some (.ref f9))) (l9 : K.lookup f9 = some ⟨oc9, od9, .func (PySem.W.fnOf "trips_of" "trips_of" (defArgs s_trips_of) (defBody s_trips_of) (defScope s_trips_of) .none kV9 dc9 pm9 an9 cd9 ct9), sl9⟩) (c9 : PySem.W.codeIn K cd9 "trips_of" = true) (k9 : PySem.W.keepIn K (.ref f9) = true)
    (a10 : PySem.W.nsIn K mainGlobals "is_zigzag" = some (some (.ref f10))) (l10 : K.lookup f10 = some ⟨oc10, od10, .func (PySem.W.fnOf "is_zigzag" "is_zigzag" (defArgs s_is_zigzag) (defBody s_is_zigzag) (defScope s_is_zigzag) .none kV10 dc10 pm10 an10 cd10 ct10), sl10⟩) (c10 : PySem.W.codeIn K cd10 "is_zigzag" = true) (k10 : PySem.W.keepIn K (.ref f10) = true)
    (a11 : PySem.W.nsIn K mainGlobals "is_number_within" = some (some (.ref f11))) (l11 : K.lookup f11 = some ⟨oc11, od11, .func (PySem.W.fnOf "is_number_within" "is_number_within" (defArgs s_is_number_within) (defBody s_is_number_within) (defScope s_is_number_within) .none kV11 dc11 pm11 an11 cd11 ct11), sl11⟩) (c11 : PySem.W.codeIn K cd11 "is_number_within" = true) (k11 : PySem.W.keepIn K (.ref f11) = true)
    (a12 : PySem.W.nsIn K mainGlobals "state_numbers" = some (some (.ref f12))) (l12 : K.lookup f12 = some ⟨oc12, od12, .func (PySem.W.fnOf "state_numbers" "state_numbers" (defArgs s_state_numbers) (defBody s_state_numbers) (defScope s_state_numbers) .none kV12 dc12 pm12 an12 cd12 ct12), sl12⟩) (c12 : PySem.W.codeIn K cd12 "state_numbers" = true) (k12 : PySem.W.keepIn K (.ref f12) = true)
    (a13 : PySem.W.nsIn K mainGlobals "is_line" = some (some (.ref f13))) (l13 : K.lookup f13 = some ⟨oc13, od13, .func (PySem.W.fnOf "is_line" "is_line" (defArgs s_is_line) (defBody s_is_line) (defScope s_is_line) .none kV13 dc13 pm13 an13 cd13 ct13), sl13⟩) (c13 : PySem.W.codeIn K cd13 "is_line" = true) (k13 : PySem.W.keepIn K (.ref f13) = true)
    (a14 : PySem.W.nsIn K mainGlobals "is_orphan" = some (some (.ref f14))) (l14 : K.lookup f14 = some ⟨oc14, od14, .func (PySem.W.fnOf "is_orphan" "is_orphan" (defArgs s_is_orphan) (defBody s_is_orphan) (defScope s_is_orphan) .none kV14 dc14 pm14 an14 cd14 ct14), sl14⟩) (c14 : PySem.W.codeIn K cd14 "is_orphan" = true) (k14 : PySem.W.keepIn K (.ref f14) = true)
    (a15 : PySem.W.nsIn K mainGlobals "orphans" = some (some (.ref f15))) (l15 : K.lookup f15 = some ⟨oc15, od15, .func (PySem.W.fnOf "orphans" "orphans" (defArgs s_orphans) (defBody s_orphans) (defScope s_orphans) .none kV15 dc15 pm15 an15 cd15 ct15), sl15⟩) (c15 : PySem.W.codeIn K cd15 "orphans" = true) (k15 : PySem.W.keepIn K (.ref f15) = true)
    (a16 : PySem.W.nsIn K mainGlobals "is_consistent" = some (some (.ref f16))) (l16 : K.lookup f16 = some ⟨oc16, od16, .func (PySem.W.fnOf "is_consistent" "is_consistent" (defArgs s_is_consistent) (defBody s_is_consistent) (defScope s_is_consistent) .none kV16 dc16 pm16 an16 cd16 ct16), sl16⟩) (c16 : PySem.W.codeIn K cd16 "is_consistent" = true) (k16 : PySem.W.keepIn K (.ref f16) = true)
    (a17 : PySem.W.nsIn K mainGlobals "is_line_with" = some (some (.ref f17))) (l17 : K.lookup f17 = some ⟨oc17, od17, .func (PySem.W.fnOf "is_line_with" "is_line_with" (defArgs s_is_line_with) (defBody s_is_line_with) (defScope s_is_line_with) .none kV17 dc17 pm17 an17 cd17 ct17), sl17⟩) (c17 : PySem.W.codeIn K cd17 "is_line_with" = true) (k17 : PySem.W.keepIn K (.ref f17) = true)
    (a18 : PySem.W.nsIn K mainGlobals "verdict_holds" = some (some (.ref f18))) (l18 : K.lookup f18 = some ⟨oc18, od18, .func (PySem.W.fnOf "verdict_holds" "verdict_holds" (defArgs s_verdict_holds) (defBody s_verdict_holds) (defScope s_verdict_holds) .none kV18 dc18 pm18 an18 cd18 ct18), sl18⟩) (c18 : PySem.W.codeIn K cd18 "verdict_holds" = true) (k18 : PySem.W.keepIn K (.ref f18) = true)
    (a19 : PySem.W.nsIn K mainGlobals "_law_with" = some (some (.ref f19))) (l19 : K.lookup f19 = some ⟨oc19, od19, .func (PySem.W.fnOf "_law_with" "_law_with" (defArgs s__law_with) (defBody s__law_with) (defScope s__law_with) .none kV19 dc19 pm19 an19 cd19 ct19), sl19⟩) (c19 : PySem.W.codeIn K cd19 "_law_with" = true) (k19 : PySem.W.keepIn K (.ref f19) = true)
    (a20 : PySem.W.nsIn K mainGlobals "lowered" = some (some (.ref f20))) (l20 : K.lookup f20 = some ⟨oc20, od20, .func (PySem.W.fnOf "lowered" "lowered" (defArgs s_lowered) (defBody s_lowered) (defScope s_lowered) .none kV20 dc20 pm20 an20 cd20 ct20), sl20⟩) (c20 : PySem.W.codeIn K cd20 "lowered" = true) (k20 : PySem.W.keepIn K (.ref f20) = true)
    (a21 : PySem.W.nsIn K mainGlobals "raised" = some (some (.ref f21))) (l21 : K.lookup f21 = some ⟨oc21, od21, .func (PySem.W.fnOf "raised" "raised" (defArgs s_raised) (defBody s_raised) (defScope s_raised) .none kV21 dc21 pm21 an21 cd21 ct21), sl21⟩) (c21 : PySem.W.codeIn K cd21 "raised" = true) (k21 : PySem.W.keepIn K (.ref f21) = true)
    (a22 : PySem.W.nsIn K mainGlobals "limits_with" = some (some (.ref f22))) (l22 : K.lookup f22 = some ⟨oc22, od22, .func (PySem.W.fnOf "limits_with" "limits_with" (defArgs s_limits_with) (defBody s_limits_with) (defScope s_limits_with) .none kV22 dc22 pm22 an22 cd22 ct22), sl22⟩) (c22 : PySem.W.codeIn K cd22 "limits_with" = true) (k22 : PySem.W.keepIn K (.ref f22) = true)
    (a23 : PySem.W.nsIn K mainGlobals "nearest" = some (some (.ref f23))) (l23 : K.lookup f23 = some ⟨oc23, od23, .func (PySem.W.fnOf "nearest" "nearest" (defArgs s_nearest) (defBody s_nearest) (defScope s_nearest) .none kV23 dc23 pm23 an23 cd23 ct23), sl23⟩) (c23 : PySem.W.codeIn K cd23 "nearest" = true) (k23 : PySem.W.keepIn K (.ref f23) = true)
    (a24 : PySem.W.nsIn K mainGlobals "distances_to" = some (some (.ref f24))) (l24 : K.lookup f24 = some ⟨oc24, od24, .func (PySem.W.fnOf "distances_to" "distances_to" (defArgs s_distances_to) (defBody s_distances_to) (defScope s_distances_to) .none kV24 dc24 pm24 an24 cd24 ct24), sl24⟩) (c24 : PySem.W.codeIn K cd24 "distances_to" = true) (k24 : PySem.W.keepIn K (.ref f24) = true)
    (a25 : PySem.W.nsIn K mainGlobals "zigzag_steps" = some (some (.ref f25))) (l25 : K.lookup f25 = some ⟨oc25, od25, .func (PySem.W.fnOf "zigzag_steps" "zigzag_steps" (defArgs s_zigzag_steps) (defBody s_zigzag_steps) (defScope s_zigzag_steps) .none kV25 dc25 pm25 an25 cd25 ct25), sl25⟩) (c25 : PySem.W.codeIn K cd25 "zigzag_steps" = true) (k25 : PySem.W.keepIn K (.ref f25) = true)
    (a26 : PySem.W.nsIn K mainGlobals "find_zigzag" = some (some (.ref f26))) (l26 : K.lookup f26 = some ⟨oc26, od26, .func (PySem.W.fnOf "find_zigzag" "find_zigzag" (defArgs s_find_zigzag) (defBody s_find_zigzag) (defScope s_find_zigzag) .none kV26 dc26 pm26 an26 cd26 ct26), sl26⟩) (c26 : PySem.W.codeIn K cd26 "find_zigzag" = true) (k26 : PySem.W.keepIn K (.ref f26) = true)
    (a27 : PySem.W.nsIn K mainGlobals "pair_apart" = some (some (.ref f27))) (l27 : K.lookup f27 = some ⟨oc27, od27, .func (PySem.W.fnOf "pair_apart" "pair_apart" (defArgs s_pair_apart) (defBody s_pair_apart) (defScope s_pair_apart) .none kV27 dc27 pm27 an27 cd27 ct27), sl27⟩) (c27 : PySem.W.codeIn K cd27 "pair_apart" = true) (k27 : PySem.W.keepIn K (.ref f27) = true)
    (a28 : PySem.W.nsIn K mainGlobals "process_of_two" = some (some (.ref f28))) (l28 : K.lookup f28 = some ⟨oc28, od28, .func (PySem.W.fnOf "process_of_two" "process_of_two" (defArgs s_process_of_two) (defBody s_process_of_two) (defScope s_process_of_two) .none kV28 dc28 pm28 an28 cd28 ct28), sl28⟩) (c28 : PySem.W.codeIn K cd28 "process_of_two" = true) (k28 : PySem.W.keepIn K (.ref f28) = true)
    (a29 : PySem.W.nsIn K mainGlobals "line_through" = some (some (.ref f29))) (l29 : K.lookup f29 = some ⟨oc29, od29, .func (PySem.W.fnOf "line_through" "line_through" (defArgs s_line_through) (defBody s_line_through) (defScope s_line_through) .none (.ref dk29) dc29 pm29 an29 cd29 ct29), sl29⟩) (c29 : PySem.W.codeIn K cd29 "line_through" = true) (k29 : PySem.W.keepIn K (.ref f29) = true) (d29 : PySem.W.nsIn K dk29 "first" = some (some (.bool true)))
    (a30 : PySem.W.nsIn K mainGlobals "_law_ends" = some (some (.ref f30))) (l30 : K.lookup f30 = some ⟨oc30, od30, .func (PySem.W.fnOf "_law_ends" "_law_ends" (defArgs s__law_ends) (defBody s__law_ends) (defScope s__law_ends) .none kV30 dc30 pm30 an30 cd30 ct30), sl30⟩) (c30 : PySem.W.codeIn K cd30 "_law_ends" = true) (k30 : PySem.W.keepIn K (.ref f30) = true)
    (a31 : PySem.W.nsIn K mainGlobals "least_between" = some (some (.ref f31))) (l31 : K.lookup f31 = some ⟨oc31, od31, .func (PySem.W.fnOf "least_between" "least_between" (defArgs s_least_between) (defBody s_least_between) (defScope s_least_between) .none kV31 dc31 pm31 an31 cd31 ct31), sl31⟩) (c31 : PySem.W.codeIn K cd31 "least_between" = true) (k31 : PySem.W.keepIn K (.ref f31) = true)
    (a32 : PySem.W.nsIn K mainGlobals "line_after" = some (some (.ref f32))) (l32 : K.lookup f32 = some ⟨oc32, od32, .func (PySem.W.fnOf "line_after" "line_after" (defArgs s_line_after) (defBody s_line_after) (defScope s_line_after) .none kV32 dc32 pm32 an32 cd32 ct32), sl32⟩) (c32 : PySem.W.codeIn K cd32 "line_after" = true) (k32 : PySem.W.keepIn K (.ref f32) = true)
    (a33 : PySem.W.nsIn K mainGlobals "all_lines" = some (some (.ref f33))) (l33 : K.lookup f33 = some ⟨oc33, od33, .func (PySem.W.fnOf "all_lines" "all_lines" (defArgs s_all_lines) (defBody s_all_lines) (defScope s_all_lines) .none kV33 dc33 pm33 an33 cd33 ct33), sl33⟩) (c33 : PySem.W.codeIn K cd33 "all_lines" = true) (k33 : PySem.W.keepIn K (.ref f33) = true)
    (a34 : PySem.W.nsIn K mainGlobals "least_line_with" = some (some (.ref f34))) (l34 : K.lookup f34 = some ⟨oc34, od34, .func (PySem.W.fnOf "least_line_with" "least_line_with" (defArgs s_least_line_with) (defBody s_least_line_with) (defScope s_least_line_with) .none kV34 dc34 pm34 an34 cd34 ct34), sl34⟩) (c34 : PySem.W.codeIn K cd34 "least_line_with" = true) (k34 : PySem.W.keepIn K (.ref f34) = true)
    (a35 : PySem.W.nsIn K mainGlobals "verdict" = some (some (.ref f35))) (l35 : K.lookup f35 = some ⟨oc35, od35, .func (PySem.W.fnOf "verdict" "verdict" (defArgs s_verdict) (defBody s_verdict) (defScope s_verdict) .none kV35 dc35 pm35 an35 cd35 ct35), sl35⟩) (c35 : PySem.W.codeIn K cd35 "verdict" = true) (k35 : PySem.W.keepIn K (.ref f35) = true)
    (a36 : PySem.W.nsIn K mainGlobals "_law_told" = some (some (.ref f36))) (l36 : K.lookup f36 = some ⟨oc36, od36, .func (PySem.W.fnOf "_law_told" "_law_told" (defArgs s__law_told) (defBody s__law_told) (defScope s__law_told) .none kV36 dc36 pm36 an36 cd36 ct36), sl36⟩) (c36 : PySem.W.codeIn K cd36 "_law_told" = true) (k36 : PySem.W.keepIn K (.ref f36) = true)
    (a37 : PySem.W.nsIn K mainGlobals "_law_right" = some (some (.ref f37))) (l37 : K.lookup f37 = some ⟨oc37, od37, .func (PySem.W.fnOf "_law_right" "_law_right" (defArgs s__law_right) (defBody s__law_right) (defScope s__law_right) .none kV37 dc37 pm37 an37 cd37 ct37), sl37⟩) (c37 : PySem.W.codeIn K cd37 "_law_right" = true) (k37 : PySem.W.keepIn K (.ref f37) = true)
    (a38 : PySem.W.nsIn K mainGlobals "_law_mixed" = some (some (.ref f38))) (l38 : K.lookup f38 = some ⟨oc38, od38, .func (PySem.W.fnOf "_law_mixed" "_law_mixed" (defArgs s__law_mixed) (defBody s__law_mixed) (defScope s__law_mixed) .none kV38 dc38 pm38 an38 cd38 ct38), sl38⟩) (c38 : PySem.W.codeIn K cd38 "_law_mixed" = true) (k38 : PySem.W.keepIn K (.ref f38) = true)
    (a39 : PySem.W.nsIn K mainGlobals "_law_chosen" = some (some (.ref f39))) (l39 : K.lookup f39 = some ⟨oc39, od39, .func (PySem.W.fnOf "_law_chosen" "_law_chosen" (defArgs s__law_chosen) (defBody s__law_chosen) (defScope s__law_chosen) .none kV39 dc39 pm39 an39 cd39 ct39), sl39⟩) (c39 : PySem.W.codeIn K cd39 "_law_chosen" = true) (k39 : PySem.W.keepIn K (.ref f39) = true)
    (a40 : PySem.W.nsIn K mainGlobals "_law_place" = some (some (.ref f40))) (l40 : K.lookup f40 = some ⟨oc40, od40, .func (PySem.W.fnOf "_law_place" "_law_place" (defArgs s__law_place) (defBody s__law_place) (defScope s__law_place) .none kV40 dc40 pm40 an40 cd40 ct40), sl40⟩) (c40 : PySem.W.codeIn K cd40 "_law_place" = true) (k40 : PySem.W.keepIn K (.ref f40) = true)
    (a41 : PySem.W.nsIn K mainGlobals "_law_is_line" = some (some (.ref f41))) (l41 : K.lookup f41 = some ⟨oc41, od41, .func (PySem.W.fnOf "_law_is_line" "_law_is_line" (defArgs s__law_is_line) (defBody s__law_is_line) (defScope s__law_is_line) .none kV41 dc41 pm41 an41 cd41 ct41), sl41⟩) (c41 : PySem.W.codeIn K cd41 "_law_is_line" = true) (k41 : PySem.W.keepIn K (.ref f41) = true)
    (a42 : PySem.W.nsIn K mainGlobals "_law_all_lines" = some (some (.ref f42))) (l42 : K.lookup f42 = some ⟨oc42, od42, .func (PySem.W.fnOf "_law_all_lines" "_law_all_lines" (defArgs s__law_all_lines) (defBody s__law_all_lines) (defScope s__law_all_lines) .none kV42 dc42 pm42 an42 cd42 ct42), sl42⟩) (c42 : PySem.W.codeIn K cd42 "_law_all_lines" = true) (k42 : PySem.W.keepIn K (.ref f42) = true)
    (a43 : PySem.W.nsIn K mainGlobals "_law_history" = some (some (.ref f43))) (l43 : K.lookup f43 = some ⟨oc43, od43, .func (PySem.W.fnOf "_law_history" "_law_history" (defArgs s__law_history) (defBody s__law_history) (defScope s__law_history) .none kV43 dc43 pm43 an43 cd43 ct43), sl43⟩) (c43 : PySem.W.codeIn K cd43 "_law_history" = true) (k43 : PySem.W.keepIn K (.ref f43) = true)
    (a44 : PySem.W.nsIn K mainGlobals "_law_state" = some (some (.ref f44))) (l44 : K.lookup f44 = some ⟨oc44, od44, .func (PySem.W.fnOf "_law_state" "_law_state" (defArgs s__law_state) (defBody s__law_state) (defScope s__law_state) .none kV44 dc44 pm44 an44 cd44 ct44), sl44⟩) (c44 : PySem.W.codeIn K cd44 "_law_state" = true) (k44 : PySem.W.keepIn K (.ref f44) = true)
    (a45 : PySem.W.nsIn K mainGlobals "law" = some (some (.ref f45))) (l45 : K.lookup f45 = some ⟨oc45, od45, .func (PySem.W.fnOf "law" "law" (defArgs s_law) (defBody s_law) (defScope s_law) .none kV45 dc45 pm45 an45 cd45 ct45), sl45⟩) (c45 : PySem.W.codeIn K cd45 "law" = true) (k45 : PySem.W.keepIn K (.ref f45) = true)
    (z0 : PySem.W.nsIn K mainGlobals "len" = some none) (z1 : PySem.W.nsIn K mainGlobals "repr" = some none) (z2 : PySem.W.nsIn K mainGlobals "int" = some none) (z3 : PySem.W.nsIn K mainGlobals "isinstance" = some none) (z4 : PySem.W.nsIn K mainGlobals "bool" = some none) (z5 : PySem.W.nsIn K mainGlobals "tuple" = some none) (z6 : PySem.W.nsIn K mainGlobals "all" = some none) (z7 : PySem.W.nsIn K mainGlobals "enumerate" = some none) (z8 : PySem.W.nsIn K mainGlobals "sorted" = some none) (z9 : PySem.W.nsIn K mainGlobals "zip" = some none) (z10 : PySem.W.nsIn K mainGlobals "list" = some none) (z11 : PySem.W.nsIn K mainGlobals "min" = some none) (z12 : PySem.W.nsIn K mainGlobals "max" = some none) (z13 : PySem.W.nsIn K mainGlobals "any" = some none) (z14 : PySem.W.nsIn K mainGlobals "set" = some none) (z15 : PySem.W.nsIn K mainGlobals "range" = some none) (z16 : PySem.W.nsIn K mainGlobals "reversed" = some none) (z17 : PySem.W.nsIn K mainGlobals "abs" = some none) :
    ∃ fd : FuncData, (∀ (s : Shared) (v : Value), BindsTo s fd ⟨[v], []⟩ [("_law_script", v)]) ∧ ∀ base : Heap, K.In base → base.Ns mainGlobals mg → FnG l.prog w K mg base 9 fa fd ["_law_script"] (spLawD K) := by
  have e := hfa.symm.trans (PySem.W.mg_of X G a45)
  cases e
  have F0 := fun_mk (st := s__law_draw) l0 c0 k0
  have F1 := fun_mk (st := s__law_pick) l1 c1 k1
  have F2 := fun_mk (st := s__law_same) l2 c2 k2
  have F3 := fun_mk (st := s_is_number) l3 c3 k3
  have F4 := fun_mk (st := s_is_given) l4 c4 k4
  have F5 := fun_mk (st := s_is_sent_behind) l5 c5 k5
  have F6 := fun_mk (st := s_is_step) l6 c6 k6
  have F7 := fun_mk (st := s_is_received_before) l7 c7 k7
  have F8 := fun_mk (st := s_happened_at) l8 c8 k8
  have F9 := fun_mk (st := s_trips_of) l9 c9 k9
  have F10 := fun_mk (st := s_is_zigzag) l10 c10 k10
  have F11 := fun_mk (st := s_is_number_within) l11 c11 k11
  have F12 := fun_mk (st := s_state_numbers) l12 c12 k12
  have F13 := fun_mk (st := s_is_line) l13 c13 k13
  have F14 := fun_mk (st := s_is_orphan) l14 c14 k14
  have F15 := fun_mk (st := s_orphans) l15 c15 k15
  have F16 := fun_mk (st := s_is_consistent) l16 c16 k16
  have F17 := fun_mk (st := s_is_line_with) l17 c17 k17
  have F18 := fun_mk (st := s_verdict_holds) l18 c18 k18
  have F19 := fun_mk (st := s__law_with) l19 c19 k19
  have F20 := fun_mk (st := s_lowered) l20 c20 k20
  have F21 := fun_mk (st := s_raised) l21 c21 k21
  have F22 := fun_mk (st := s_limits_with) l22 c22 k22
  have F23 := fun_mk (st := s_nearest) l23 c23 k23
  have F24 := fun_mk (st := s_distances_to) l24 c24 k24
  have F25 := fun_mk (st := s_zigzag_steps) l25 c25 k25
  have F26 := fun_mk (st := s_find_zigzag) l26 c26 k26
  have F27 := fun_mk (st := s_pair_apart) l27 c27 k27
  have F28 := fun_mk (st := s_process_of_two) l28 c28 k28
  have F29 := funk_mk (st := s_line_through) l29 c29 k29 d29
  have F30 := fun_mk (st := s__law_ends) l30 c30 k30
  have F31 := fun_mk (st := s_least_between) l31 c31 k31
  have F32 := fun_mk (st := s_line_after) l32 c32 k32
  have F33 := fun_mk (st := s_all_lines) l33 c33 k33
  have F34 := fun_mk (st := s_least_line_with) l34 c34 k34
  have F35 := fun_mk (st := s_verdict) l35 c35 k35
  have F36 := fun_mk (st := s__law_told) l36 c36 k36
  have F37 := fun_mk (st := s__law_right) l37 c37 k37
  have F38 := fun_mk (st := s__law_mixed) l38 c38 k38
  have F39 := fun_mk (st := s__law_chosen) l39 c39 k39
  have F40 := fun_mk (st := s__law_place) l40 c40 k40
  have F41 := fun_mk (st := s__law_is_line) l41 c41 k41
  have F42 := fun_mk (st := s__law_all_lines) l42 c42 k42
  have F43 := fun_mk (st := s__law_history) l43 c43 k43
  have F44 := fun_mk (st := s__law_state) l44 c44 k44
  have F45 := fun_mk (st := s_law) l45 c45 k45
  refine ⟨(PySem.W.fnOf "law" "law" (defArgs s_law) (defBody s_law) (defScope s_law) .none kV45 dc45 pm45 an45 cd45 ct45), fun s v => .of_eq rfl, fun base _ _ => ?_⟩
  have D__law_draw : DFo l.prog w K mg base 1 "_law_draw" 2 (dFn 5 B_law_draw_a332) := .mk' (der__law_draw F0 (PySem.W.mg_none_of X G z0)) (PySem.W.mg_of X G a0) F0.kp (F0.binds (ps := ["_law_state_here", "_law_below"]) fun _ _ _ _ _ _ us hl => match us, hl with | [_, _], _ => rfl)
  have D__law_pick : DFo l.prog w K mg base 2 "_law_pick" 2 (dFn 2 B_law_pick_6e96) := .mk' (der__law_pick F1 D__law_draw (PySem.W.mg_none_of X G z0)) (PySem.W.mg_of X G a1) F1.kp (F1.binds (ps := ["_law_state_here", "_law_items"]) fun _ _ _ _ _ _ us hl => match us, hl with | [_, _], _ => rfl)
  have D__law_same : DFn l.prog w K mg base 1 "_law_same" 2 (dFn 2 B_law_same_de9b) := .mk' (der__law_same F2 (PySem.W.mg_none_of X G z1)) (PySem.W.mg_of X G a2) F2.kp (F2.binds (ps := ["_law_found", "_law_due"]) fun _ _ _ _ _ _ us hl => match us, hl with | [_, _], _ => rfl)
  have D_is_number : DFo l.prog w K mg base 1 "is_number" 1 (dFn 1 B_is_number_52f5) := .mk' (der_is_number F3 (PySem.W.mg_none_of X G z2) (PySem.W.mg_none_of X G z3) (PySem.W.mg_none_of X G z4)) (PySem.W.mg_of X G a3) F3.kp (F3.binds (ps := ["value"]) fun _ _ _ _ _ _ us hl => match us, hl with | [_], _ => rfl)
  have D_is_given : DFo l.prog w K mg base 2 "is_given" 2 (dFn 3 B_is_given_c32f) := .mk' (der_is_given F4 D_is_number (PySem.W.mg_none_of X G z5) (PySem.W.mg_none_of X G z3) (PySem.W.mg_none_of X G z6)) (PySem.W.mg_of X G a4) F4.kp (F4.binds (ps := ["states", "value"]) fun _ _ _ _ _ _ us hl => match us, hl with | [_, _], _ => rfl)
  have D_is_sent_behind : DFo l.prog w K mg base 1 "is_sent_behind" 2 (dFn 6 B_is_sent_behind_1a14) := .mk' (der_is_sent_behind F5 ) (PySem.W.mg_of X G a5) F5.kp (F5.binds (ps := ["trip", "state"]) fun _ _ _ _ _ _ us hl => match us, hl with | [_, _], _ => rfl)
  have D_is_step : DFo l.prog w K mg base 2 "is_step" 3 (dFn 3 B_is_step_5234) := .mk' (der_is_step F6 D_is_sent_behind) (PySem.W.mg_of X G a6) F6.kp (F6.binds (ps := ["trips", "message", "then"]) fun _ _ _ _ _ _ us hl => match us, hl with | [_, _, _], _ => rfl)
  have D_is_received_before : DFo l.prog w K mg base 1 "is_received_before" 2 (dFn 6 B_is_received_before_f543) := .mk' (der_is_received_before F7 ) (PySem.W.mg_of X G a7) F7.kp (F7.binds (ps := ["trip", "state"]) fun _ _ _ _ _ _ us hl => match us, hl with | [_, _], _ => rfl)
  have D_happened_at : DFo l.prog w K mg base 1 "happened_at" 2 (dFn 6 B_happened_at_e85f) := .mk' (der_happened_at F8 (PySem.W.mg_none_of X G z7)) (PySem.W.mg_of X G a8) F8.kp (F8.binds (ps := ["history", "event"]) fun _ _ _ _ _ _ us hl => match us, hl with | [_, _], _ => rfl)
  have D_trips_of : DFo l.prog w K mg base 2 "trips_of" 1 (dFn 5 B_trips_of_ea9a) := .mk' (der_trips_of F9 D_happened_at (PySem.W.mg_none_of X G z8)) (PySem.W.mg_of X G a9) F9.kp (F9.binds (ps := ["history"]) fun _ _ _ _ _ _ us hl => match us, hl with | [_], _ => rfl)
  have D_is_zigzag : DFo l.prog w K mg base 3 "is_zigzag" 4 (dFn 7 B_is_zigzag_87da) := .mk' (der_is_zigzag F10 D_is_sent_behind D_is_step D_is_received_before D_is_number D_trips_of (PySem.W.mg_none_of X G z9) (PySem.W.mg_none_of X G z6) (PySem.W.mg_none_of X G z5) (PySem.W.mg_none_of X G z3) (PySem.W.mg_none_of X G z0)) (PySem.W.mg_of X G a10) F10.kp (F10.binds (ps := ["history", "one", "other", "value"]) fun _ _ _ _ _ _ us hl => match us, hl with | [_, _, _, _], _ => rfl)
  have D_is_number_within : DFo l.prog w K mg base 2 "is_number_within" 3 (dFn 3 B_is_number_within_7f04) := .mk' (der_is_number_within F11 D_is_number) (PySem.W.mg_of X G a11) F11.kp (F11.binds (ps := ["value", "low", "high"]) fun _ _ _ _ _ _ us hl => match us, hl with | [_, _, _], _ => rfl)
  have D_state_numbers : DFo l.prog w K mg base 1 "state_numbers" 1 (dFn 2 B_state_numbers_78d0) := .mk' (der_state_numbers F12 (PySem.W.mg_none_of X G z5)) (PySem.W.mg_of X G a12) F12.kp (F12.binds (ps := ["history"]) fun _ _ _ _ _ _ us hl => match us, hl with | [_], _ => rfl)
  have D_is_line : DFo l.prog w K mg base 3 "is_line" 2 (dFn 5 B_is_line_5402) := .mk' (der_is_line F13 D_is_number_within D_state_numbers (PySem.W.mg_none_of X G z9) (PySem.W.mg_none_of X G z6) (PySem.W.mg_none_of X G z5) (PySem.W.mg_none_of X G z3) (PySem.W.mg_none_of X G z0)) (PySem.W.mg_of X G a13) F13.kp (F13.binds (ps := ["history", "value"]) fun _ _ _ _ _ _ us hl => match us, hl with | [_, _], _ => rfl)
  have D_is_orphan : DFo l.prog w K mg base 1 "is_orphan" 2 (dFn 6 B_is_orphan_8604) := .mk' (der_is_orphan F14 ) (PySem.W.mg_of X G a14) F14.kp (F14.binds (ps := ["trip", "line"]) fun _ _ _ _ _ _ us hl => match us, hl with | [_, _], _ => rfl)
  have D_orphans : DFo l.prog w K mg base 3 "orphans" 2 (dFn 4 B_orphans_963b) := .mk' (der_orphans F15 D_is_orphan D_trips_of (PySem.W.mg_none_of X G z5)) (PySem.W.mg_of X G a15) F15.kp (F15.binds (ps := ["history", "line"]) fun _ _ _ _ _ _ us hl => match us, hl with | [_, _], _ => rfl)
  have D_is_consistent : DFo l.prog w K mg base 4 "is_consistent" 2 (dFn 2 B_is_consistent_91aa) := .mk' (der_is_consistent F16 D_orphans (PySem.W.mg_none_of X G z0)) (PySem.W.mg_of X G a16) F16.kp (F16.binds (ps := ["history", "line"]) fun _ _ _ _ _ _ us hl => match us, hl with | [_, _], _ => rfl)
  have D_is_line_with : DFo l.prog w K mg base 5 "is_line_with" 3 (dFn 5 B_is_line_with_b7a8) := .mk' (der_is_line_with F17 D_is_line D_is_consistent (PySem.W.mg_none_of X G z6)) (PySem.W.mg_of X G a17) F17.kp (F17.binds (ps := ["history", "states", "value"]) fun _ _ _ _ _ _ us hl => match us, hl with | [_, _, _], _ => rfl)
  have D_verdict_holds : DFo l.prog w K mg base 6 "verdict_holds" 3 (dFn 6 B_verdict_holds_e52c) := .mk' (der_verdict_holds F18 D_is_given D_is_zigzag D_is_line_with (PySem.W.mg_none_of X G z0) (PySem.W.mg_none_of X G z5) (PySem.W.mg_none_of X G z3)) (PySem.W.mg_of X G a18) F18.kp (F18.binds (ps := ["history", "states", "value"]) fun _ _ _ _ _ _ us hl => match us, hl with | [_, _, _], _ => rfl)
  have D__law_with : DFo l.prog w K mg base 1 "_law_with" 2 (dFn 4 B_law_with_a200) := .mk' (der__law_with F19 ) (PySem.W.mg_of X G a19) F19.kp (F19.binds (ps := ["_law_cuts", "_law_some"]) fun _ _ _ _ _ _ us hl => match us, hl with | [_, _], _ => rfl)
  have D_lowered : DFo l.prog w K mg base 2 "lowered" 2 (dFn 7 B_lowered_c6aa) := .mk' (der_lowered F20 D_is_orphan (PySem.W.mg_none_of X G z5) (PySem.W.mg_none_of X G z10)) (PySem.W.mg_of X G a20) F20.kp (F20.binds (ps := ["trips", "high"]) fun _ _ _ _ _ _ us hl => match us, hl with | [_, _], _ => rfl)
  have D_raised : DFo l.prog w K mg base 2 "raised" 2 (dFn 7 B_raised_352a) := .mk' (der_raised F21 D_is_orphan (PySem.W.mg_none_of X G z5) (PySem.W.mg_none_of X G z10)) (PySem.W.mg_of X G a21) F21.kp (F21.binds (ps := ["trips", "low"]) fun _ _ _ _ _ _ us hl => match us, hl with | [_, _], _ => rfl)
  have D_limits_with : DFo l.prog w K mg base 2 "limits_with" 2 (dFn 7 B_limits_with_c088) := .mk' (der_limits_with F22 D_state_numbers (PySem.W.mg_none_of X G z5) (PySem.W.mg_none_of X G z11) (PySem.W.mg_none_of X G z12) (PySem.W.mg_none_of X G z10)) (PySem.W.mg_of X G a22) F22.kp (F22.binds (ps := ["history", "states"]) fun _ _ _ _ _ _ us hl => match us, hl with | [_, _], _ => rfl)
  have D_nearest : DFo l.prog w K mg base 1 "nearest" 2 (dFn 3 B_nearest_cc72) := .mk' (der_nearest F23 (PySem.W.mg_none_of X G z11)) (PySem.W.mg_of X G a23) F23.kp (F23.binds (ps := ["messages", "distances"]) fun _ _ _ _ _ _ us hl => match us, hl with | [_, _], _ => rfl)
  have D_distances_to : DFo l.prog w K mg base 2 "distances_to" 3 (dFn 8 B_distances_to_ec2b) := .mk' (der_distances_to F24 D_is_received_before (PySem.W.mg_none_of X G z13)) (PySem.W.mg_of X G a24) F24.kp (F24.binds (ps := ["trips", "steps", "state"]) fun _ _ _ _ _ _ us hl => match us, hl with | [_, _, _], _ => rfl)
  have D_zigzag_steps : DFo l.prog w K mg base 3 "zigzag_steps" 1 (dFn 3 B_zigzag_steps_bb25) := .mk' (der_zigzag_steps F25 D_is_step) (PySem.W.mg_of X G a25) F25.kp (F25.binds (ps := ["trips"]) fun _ _ _ _ _ _ us hl => match us, hl with | [_], _ => rfl)
  have D_find_zigzag : DFo l.prog w K mg base 4 "find_zigzag" 3 (dFn 10 B_find_zigzag_09d6) := .mk' (der_find_zigzag F26 D_nearest D_is_sent_behind D_distances_to D_zigzag_steps D_trips_of (PySem.W.mg_none_of X G z5)) (PySem.W.mg_of X G a26) F26.kp (F26.binds (ps := ["history", "one", "other"]) fun _ _ _ _ _ _ us hl => match us, hl with | [_, _, _], _ => rfl)
  have D_pair_apart : DFo l.prog w K mg base 5 "pair_apart" 2 (dFn 4 B_pair_apart_e180) := .mk' (der_pair_apart F27 D_find_zigzag (PySem.W.mg_none_of X G z14) (PySem.W.mg_none_of X G z8)) (PySem.W.mg_of X G a27) F27.kp (F27.binds (ps := ["history", "states"]) fun _ _ _ _ _ _ us hl => match us, hl with | [_, _], _ => rfl)
  have D_process_of_two : DFo l.prog w K mg base 1 "process_of_two" 2 (dFn 5 B_process_of_two_e443) := .mk' (der_process_of_two F28 (PySem.W.mg_none_of X G z0) (PySem.W.mg_none_of X G z15)) (PySem.W.mg_of X G a28) F28.kp (F28.binds (ps := ["history", "states"]) fun _ _ _ _ _ _ us hl => match us, hl with | [_, _], _ => rfl)
  have hb29 : BK (PySem.W.fnOf "line_through" "line_through" (defArgs s_line_through) (defBody s_line_through) (defScope s_line_through) .none (.ref dk29) dc29 pm29 an29 cd29 ct29) ["history"] "first" "states" := ⟨fun us rest v hl => match us, rest, hl with | [_], [], _ => rfl | [_], _ :: _, _ => rfl, fun us rest v D e hl => by cases e; exact match us, rest, hl with | [_], [], _ => ⟨_, _, _, _, _, _, rfl, rfl, rfl⟩ | [_], _ :: _, _ => ⟨_, _, _, _, _, _, rfl, rfl, rfl⟩⟩
  have D_line_through : DFs l.prog w K mg base 6 "line_through" (dFnSK 1 (.bl true) 7 B_line_through_9b5f) := .mk' (der_line_through F29 D_lowered D_trips_of D_raised D_limits_with D_pair_apart D_process_of_two hb29) (PySem.W.mg_of X G a29) F29.kp
  have DW_line_through : DFw l.prog w K mg base 6 "line_through" "first" (dFnSW 1 7 B_line_through_9b5f) := .mk' (derW_line_through F29 D_lowered D_trips_of D_raised D_limits_with D_pair_apart D_process_of_two hb29) (PySem.W.mg_of X G a29) F29.kp
  have D__law_ends : DFo l.prog w K mg base 7 "_law_ends" 2 (dFn 3 B_law_ends_4d72) := .mk' (der__law_ends F30 D_line_through DW_line_through (PySem.W.mg_none_of X G z0)) (PySem.W.mg_of X G a30) F30.kp (F30.binds (ps := ["_law_rows", "_law_some"]) fun _ _ _ _ _ _ us hl => match us, hl with | [_, _], _ => rfl)
  have D_least_between : DFo l.prog w K mg base 3 "least_between" 3 (dFn 6 B_least_between_066e) := .mk' (der_least_between F31 D_raised (PySem.W.mg_none_of X G z9) (PySem.W.mg_none_of X G z13)) (PySem.W.mg_of X G a31) F31.kp (F31.binds (ps := ["trips", "low", "high"]) fun _ _ _ _ _ _ us hl => match us, hl with | [_, _, _], _ => rfl)
  have D_line_after : DFo l.prog w K mg base 4 "line_after" 4 (dFn 8 B_line_after_0f35) := .mk' (der_line_after F32 D_least_between (PySem.W.mg_none_of X G z0) (PySem.W.mg_none_of X G z16) (PySem.W.mg_none_of X G z15)) (PySem.W.mg_of X G a32) F32.kp (F32.binds (ps := ["trips", "low", "high", "line"]) fun _ _ _ _ _ _ us hl => match us, hl with | [_, _, _, _], _ => rfl)
  have D_all_lines : DGf l.prog w K mg base 4 "all_lines" (dGfS 1 6 B_all_lines_b09d) := ⟨_, der_all_lines F33 D_line_after D_least_between D_limits_with D_trips_of (fun us rest hl => StX.bind_star1 (B := fun us => bindArgs (PySem.W.fnOf "all_lines" "all_lines" (defArgs s_all_lines) (defBody s_all_lines) (defScope s_all_lines) .none kV33 dc33 pm33 an33 cd33 ct33) ⟨us, []⟩) (fun _ => rfl) (fun _ _ _ => rfl) us rest hl), PySem.W.mg_of X G a33, F33.kp⟩
  have D_least_line_with : DFo l.prog w K mg base 4 "least_line_with" 2 (dFn 4 B_least_line_with_19e1) := .mk' (der_least_line_with F34 D_least_between D_trips_of D_limits_with) (PySem.W.mg_of X G a34) F34.kp (F34.binds (ps := ["history", "states"]) fun _ _ _ _ _ _ us hl => match us, hl with | [_, _], _ => rfl)
  have D_verdict : DFs l.prog w K mg base 6 "verdict" (dFnS 1 5 B_verdict_403b) := .mk' (der_verdict F35 D_find_zigzag D_pair_apart D_least_line_with (fun us rest hl => StX.bind_star1 (B := fun us => bindArgs (PySem.W.fnOf "verdict" "verdict" (defArgs s_verdict) (defBody s_verdict) (defScope s_verdict) .none kV35 dc35 pm35 an35 cd35 ct35) ⟨us, []⟩) (fun _ => rfl) (fun _ _ _ => rfl) us rest hl)) (PySem.W.mg_of X G a35) F35.kp
  have D__law_told : DFo l.prog w K mg base 7 "_law_told" 2 (dFn 2 B_law_told_6aa1) := .mk' (der__law_told F36 D_all_lines D_verdict (PySem.W.mg_none_of X G z10) (PySem.W.mg_none_of X G z0)) (PySem.W.mg_of X G a36) F36.kp (F36.binds (ps := ["_law_rows", "_law_some"]) fun _ _ _ _ _ _ us hl => match us, hl with | [_, _], _ => rfl)
  have D__law_right : DFn l.prog w K mg base 8 "_law_right" 3 (dFn 13 B_law_right_edc8) := .mk' (der__law_right F37 D__law_same D__law_ends D_is_zigzag D_find_zigzag D_verdict_holds D__law_told D__law_with (PySem.W.mg_none_of X G z0) (PySem.W.mg_none_of X G z15) (PySem.W.mg_none_of X G z12) (PySem.W.mg_none_of X G z5) (PySem.W.mg_none_of X G z11) (PySem.W.mg_none_of X G z2)) (PySem.W.mg_of X G a37) F37.kp (F37.binds (ps := ["_law_rows", "_law_cuts", "_law_some"]) fun _ _ _ _ _ _ us hl => match us, hl with | [_, _, _], _ => rfl)
  have D__law_mixed : DFo l.prog w K mg base 2 "_law_mixed" 2 (dFn 4 B_law_mixed_b93a) := .mk' (der__law_mixed F38 D__law_draw (PySem.W.mg_none_of X G z5) (PySem.W.mg_none_of X G z0) (PySem.W.mg_none_of X G z10)) (PySem.W.mg_of X G a38) F38.kp (F38.binds (ps := ["_law_state_here", "_law_items"]) fun _ _ _ _ _ _ us hl => match us, hl with | [_, _], _ => rfl)
  have D__law_chosen : DFo l.prog w K mg base 3 "_law_chosen" 2 (dFn 4 B_law_chosen_7d70) := .mk' (der__law_chosen F39 D__law_draw D__law_mixed (PySem.W.mg_none_of X G z5) (PySem.W.mg_none_of X G z0) (PySem.W.mg_none_of X G z10) (PySem.W.mg_none_of X G z15)) (PySem.W.mg_of X G a39) F39.kp (F39.binds (ps := ["_law_state_here", "_law_rows"]) fun _ _ _ _ _ _ us hl => match us, hl with | [_, _], _ => rfl)
  have D__law_place : DFo l.prog w K mg base 1 "_law_place" 3 (dFn 7 B_law_place_4534) := .mk' (der__law_place F40 (PySem.W.mg_none_of X G z7) (PySem.W.mg_none_of X G z0)) (PySem.W.mg_of X G a40) F40.kp (F40.binds (ps := ["_law_rows", "_law_process", "_law_number"]) fun _ _ _ _ _ _ us hl => match us, hl with | [_, _, _], _ => rfl)
  have D__law_is_line : DFo l.prog w K mg base 2 "_law_is_line" 2 (dFn 6 B_law_is_line_4540) := .mk' (der__law_is_line F41 D__law_place (PySem.W.mg_none_of X G z7) (PySem.W.mg_none_of X G z10)) (PySem.W.mg_of X G a41) F41.kp (F41.binds (ps := ["_law_rows", "_law_cut"]) fun _ _ _ _ _ _ us hl => match us, hl with | [_, _], _ => rfl)
  have D__law_all_lines : DFo l.prog w K mg base 3 "_law_all_lines" 1 (dFn 6 B_law_all_lines_88dc) := .mk' (der__law_all_lines F42 D__law_is_line (PySem.W.mg_none_of X G z15)) (PySem.W.mg_of X G a42) F42.kp (F42.binds (ps := ["_law_rows"]) fun _ _ _ _ _ _ us hl => match us, hl with | [_], _ => rfl)
  have D__law_history : DFo l.prog w K mg base 3 "_law_history" 3 (dFn 15 B_law_history_6dd1) := .mk' (der__law_history F43 D__law_draw D__law_pick D__law_mixed (PySem.W.mg_none_of X G z5) (PySem.W.mg_none_of X G z15) (PySem.W.mg_none_of X G z10)) (PySem.W.mg_of X G a43) F43.kp (F43.binds (ps := ["_law_state_here", "_law_many", "_law_most"]) fun _ _ _ _ _ _ us hl => match us, hl with | [_, _, _], _ => rfl)
  have D__law_state : DFo l.prog w K mg base 1 "_law_state" 1 (dFn 3 B_law_state_64d4) := .mk' (der__law_state F44 (PySem.W.mg_none_of X G z0) (PySem.W.mg_none_of X G z17)) (PySem.W.mg_of X G a44) F44.kp (F44.binds (ps := ["_law_script"]) fun _ _ _ _ _ _ us hl => match us, hl with | [_], _ => rfl)
  exact (der_law F45 D__law_draw D__law_pick D__law_same D_verdict_holds D__law_with D__law_right D__law_chosen D__law_all_lines D__law_history D__law_state (PySem.W.mg_none_of X G z15) (PySem.W.mg_none_of X G z5)).lawD rfl law_k87
end Sv
open PySem PySem.W PyProof.Rows in
set_option maxRecDepth 100000 in
set_option maxHeartbeats 0 in
theorem PySem.Challenge.cw_savelines_k87_whole_verdicts_and_lines_holds : PySem.Challenge.rw_savelines_k87_whole_verdicts_and_lines.Holds := by
  w_on; o_law; k_head; (case hw => w_witness2)
  k_fill
  refine Sv.walkG (l := PySem.Challenge.rw_savelines_k87_whole_verdicts_and_lines) (n := 63) (k := 9) (x := "_law_script") (sp := Sv.spLawD) rfl (by decide) rfl ⟨rfl, by decide, by decide⟩ (fun w h Y => PySem.W.kIn_of Y) ?F (fun K H a ns hl hO hS => ⟨a, ns, rfl, hO, hS, hl, fun _ => rfl⟩)
  case F =>
    intro w mg fa h KX G hmg
    refine' Sv.all_mk KX G hmg ?a0 ?l0 ?c0 ?k0 ?a1 ?l1 ?c1 ?k1 ?a2 ?l2 ?c2 ?k2 ?a3 ?l3 ?c3 ?k3 ?a4 ?l4 ?c4 ?k4 ?a5 ?l5 ?c5 ?k5 ?a6 ?l6 ?c6 ?k6 ?a7 ?l7 ?c7 ?k7 ?a8 ?l8 ?c8 ?k8 ?a9 ?l9 ?c9 ?k9 ?a10 ?l10 ?c10 ?k10 ?a11 ?l11 ?c11 ?k11 ?a12 ?l12 ?c12 ?k12 ?a13 ?l13 ?c13 ?k13 ?a14 ?l14 ?c14 ?k14 ?a15 ?l15 ?c15 ?k15 ?a16 ?l16 ?c16 ?k16 ?a17 ?l17 ?c17 ?k17 ?a18 ?l18 ?c18 ?k18 ?a19 ?l19 ?c19 ?k19 ?a20 ?l20 ?c20 ?k20 ?a21 ?l21 ?c21 ?k21 ?a22 ?l22 ?c22 ?k22 ?a23 ?l23 ?c23 ?k23 ?a24 ?l24 ?c24 ?k24 ?a25 ?l25 ?c25 ?k25 ?a26 ?l26 ?c26 ?k26 ?a27 ?l27 ?c27 ?k27 ?a28 ?l28 ?c28 ?k28 ?a29 ?l29 ?c29 ?k29 ?d29 ?a30 ?l30 ?c30 ?k30 ?a31 ?l31 ?c31 ?k31 ?a32 ?l32 ?c32 ?k32 ?a33 ?l33 ?c33 ?k33 ?a34 ?l34 ?c34 ?k34 ?a35 ?l35 ?c35 ?k35 ?a36 ?l36 ?c36 ?k36 ?a37 ?l37 ?c37 ?k37 ?a38 ?l38 ?c38 ?k38 ?a39 ?l39 ?c39 ?k39 ?a40 ?l40 ?c40 ?k40 ?a41 ?l41 ?c41 ?k41 ?a42 ?l42 ?c42 ?k42 ?a43 ?l43 ?c43 ?k43 ?a44 ?l44 ?c44 ?k44 ?a45 ?l45 ?c45 ?k45 ?z0 ?z1 ?z2 ?z3 ?z4 ?z5 ?z6 ?z7 ?z8 ?z9 ?z10 ?z11 ?z12 ?z13 ?z14 ?z15 ?z16 ?z17
    (case a0 => k_is)
    (case l0 => k_is)
    (case c0 => k_is)
    (case k0 => k_is)
    (case a1 => k_is)
    (case l1 => k_is)
    (case c1 => k_is)
    (case k1 => k_is)
    (case a2 => k_is)
    (case l2 => k_is)
    (case c2 => k_is)
    (case k2 => k_is)
    (case a3 => k_is)
    (case l3 => k_is)
    (case c3 => k_is)
    (case k3 => k_is)
    (case a4 => k_is)
    (case l4 => k_is)
    (case c4 => k_is)
    (case k4 => k_is)
    (case a5 => k_is)
    (case l5 => k_is)
    (case c5 => k_is)
    (case k5 => k_is)
    (case a6 => k_is)
    (case l6 => k_is)
    (case c6 => k_is)
    (case k6 => k_is)
    (case a7 => k_is)
    (case l7 => k_is)
    (case c7 => k_is)
    (case k7 => k_is)
    (case a8 => k_is)
    (case l8 => k_is)
    (case c8 => k_is)
    (case k8 => k_is)
    (case a9 => k_is)
    (case l9 => k_is)
    (case c9 => k_is)
    (case k9 => k_is)
    (case a10 => k_is)
    (case l10 => k_is)
    (case c10 => k_is)
    (case k10 => k_is)
    (case a11 => k_is)
    (case l11 => k_is)
    (case c11 => k_is)
    (case k11 => k_is)
    (case a12 => k_is)
    (case l12 => k_is)
    (case c12 => k_is)
    (case k12 => k_is)
    (case a13 => k_is)
    (case l13 => k_is)
    (case c13 => k_is)
    (case k13 => k_is)
    (case a14 => k_is)
    (case l14 => k_is)
    (case c14 => k_is)
    (case k14 => k_is)
    (case a15 => k_is)
    (case l15 => k_is)
    (case c15 => k_is)
    (case k15 => k_is)
    (case a16 => k_is)
    (case l16 => k_is)
    (case c16 => k_is)
    (case k16 => k_is)
    (case a17 => k_is)
    (case l17 => k_is)
    (case c17 => k_is)
    (case k17 => k_is)
    (case a18 => k_is)
    (case l18 => k_is)
    (case c18 => k_is)
    (case k18 => k_is)
    (case a19 => k_is)
    (case l19 => k_is)
    (case c19 => k_is)
    (case k19 => k_is)
    (case a20 => k_is)
    (case l20 => k_is)
    (case c20 => k_is)
    (case k20 => k_is)
    (case a21 => k_is)
    (case l21 => k_is)
    (case c21 => k_is)
    (case k21 => k_is)
    (case a22 => k_is)
    (case l22 => k_is)
    (case c22 => k_is)
    (case k22 => k_is)
    (case a23 => k_is)
    (case l23 => k_is)
    (case c23 => k_is)
    (case k23 => k_is)
    (case a24 => k_is)
    (case l24 => k_is)
    (case c24 => k_is)
    (case k24 => k_is)
    (case a25 => k_is)
    (case l25 => k_is)
    (case c25 => k_is)
    (case k25 => k_is)
    (case a26 => k_is)
    (case l26 => k_is)
    (case c26 => k_is)
    (case k26 => k_is)
    (case a27 => k_is)
    (case l27 => k_is)
    (case c27 => k_is)
    (case k27 => k_is)
    (case a28 => k_is)
    (case l28 => k_is)
    (case c28 => k_is)
    (case k28 => k_is)
    (case a29 => k_is)
    (case l29 => k_is)
    (case c29 => k_is)
    (case k29 => k_is)
    (case d29 => k_is)
    (case a30 => k_is)
    (case l30 => k_is)
    (case c30 => k_is)
    (case k30 => k_is)
    (case a31 => k_is)
    (case l31 => k_is)
    (case c31 => k_is)
    (case k31 => k_is)
    (case a32 => k_is)
    (case l32 => k_is)
    (case c32 => k_is)
    (case k32 => k_is)
    (case a33 => k_is)
    (case l33 => k_is)
    (case c33 => k_is)
    (case k33 => k_is)
    (case a34 => k_is)
    (case l34 => k_is)
    (case c34 => k_is)
    (case k34 => k_is)
    (case a35 => k_is)
    (case l35 => k_is)
    (case c35 => k_is)
    (case k35 => k_is)
    (case a36 => k_is)
    (case l36 => k_is)
    (case c36 => k_is)
    (case k36 => k_is)
    (case a37 => k_is)
    (case l37 => k_is)
    (case c37 => k_is)
    (case k37 => k_is)
    (case a38 => k_is)
    (case l38 => k_is)
    (case c38 => k_is)
    (case k38 => k_is)
    (case a39 => k_is)
    (case l39 => k_is)
    (case c39 => k_is)
    (case k39 => k_is)
    (case a40 => k_is)
    (case l40 => k_is)
    (case c40 => k_is)
    (case k40 => k_is)
    (case a41 => k_is)
    (case l41 => k_is)
    (case c41 => k_is)
    (case k41 => k_is)
    (case a42 => k_is)
    (case l42 => k_is)
    (case c42 => k_is)
    (case k42 => k_is)
    (case a43 => k_is)
    (case l43 => k_is)
    (case c43 => k_is)
    (case k43 => k_is)
    (case a44 => k_is)
    (case l44 => k_is)
    (case c44 => k_is)
    (case k44 => k_is)
    (case a45 => k_is)
    (case l45 => k_is)
    (case c45 => k_is)
    (case k45 => k_is)
    (case z0 => k_is)
    (case z1 => k_is)
    (case z2 => k_is)
    (case z3 => k_is)
    (case z4 => k_is)
    (case z5 => k_is)
    (case z6 => k_is)
    (case z7 => k_is)
    (case z8 => k_is)
    (case z9 => k_is)
    (case z10 => k_is)
    (case z11 => k_is)
    (case z12 => k_is)
    (case z13 => k_is)
    (case z14 => k_is)
    (case z15 => k_is)
    (case z16 => k_is)
    (case z17 => k_is)
