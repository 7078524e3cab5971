import PyProof.Rows.All
import Wide.All
import OpenK.AllK
import Wide.FinOn
import PyProof.EqAt
import PyProof.EqKinds
import PyProof.TupleCall
import HandS.ForMost
import HandS.Conv
import HandS.Style
import HandS.Deep
import KE.DataFind
import PyProof.ReprRoads
import HandS.Zip
import HandS.Walk
import HandS.Comp
import HandS.DictComp
import HandS.RaiseMore
import PyProof.CallFns
import KE.GoesEnum
import HandS.Star
import HandS.Iter
import HandS.IsInst
import HandS.Strs
import HandS.TupMul
import HandS.TupAny
import PyProof.ZipIter
import HandS.Zip0
import HandS.List
import HandS.TupSets
import HandS.SetBool
import KE.GoesMore
import PyProof.P3In
import PyProof.Rows.InDataRows
import HandS.GenList
import HandS.SetKeys
import HandS.NoneIn
import HandS.SetFor
import HandS.SortRule
import KE.DataMinMax
import HandS.SortKw
import HandS.GenYield
import HandS.Flow
import HandS.RevRange
import KE.KTupSum
import KE.KSuper
import HandS.Nested
import HandS.ClsMeth
import HandS.Property
import HandS.Dict
import KE.SortData
import HandS.MakeKwOnly
import KE.SortCalls
import HandS.ExcInit
import HandS.ExcOwn
import HandS.TryOnly
import HandS.WordsExc
import HandS.ExcIs
import HandS.ExcField
import KE.KExcIs
import KE.KIntText
import PySem.Challenge.RW_savelines_k41_fallen_lines_judged
set_option Elab.async false
set_option linter.all false
set_option maxRecDepth 100000
namespace Sv
open PySem PySem.Spec PyProof.Rows L2
/-- a def's promise for calls made where no repr runs -/
structure FnG (P : Program) (w : World) (K : PySem.W.Frag) (mg : Str → Option Value) (base : Heap)
    (k : Nat) (f : Addr) (fd : FuncData) (ps : List Str) (sp : Sp) : Prop where
  len : ∀ vs H Q E, sp vs H Q E → vs.length = ps.length
  run : ∀ (A : Around), A.guards = some [] →
    ∀ (outer : List Env) (s : Shared) (H : Hp) (args : Args) (us : List Value) (vs : List V) (Q : VK) (E : XK),
    Room k A → Env0 P w K mg base A outer s H → BindsTo s fd args (ps.zip us) → Vals vs us → sp vs H Q E →
    codeAny (model P w) A (.call (.ref f) args) (CR CX0 outer P w H s Q E) s
section
variable {P : Program} {w : World} {K : PySem.W.Frag} {mg : Str → Option Value} {base : Heap}
/-- the def's body, where no repr runs -/
theorem okG {x qual : Str} {st : Stmt} {f : Addr} {fd : FuncData} {N ps : List Str} {k : Nat} {sp : Sp}
    (F : Fun K x qual st f fd) (S : FnScope N ps (defScope st)) (len : ∀ vs H Q E, sp vs H Q E → vs.length = ps.length)
    (hbody : ∀ (cdv : Value) (A : Around) (outer : List Env) (s : Shared) (H : Hp) (vs : List V) (Q : VK) (E : XK),
      A.guards = some [] → Room k (A.deeper (envOfC qual (defScope st) s.heap.objs.size f cdv)) → sp vs H Q E →
      ∃ t, PSs (cxOf CX0 P w K mg base N qual (defScope st) f cdv A outer s H E).nox (defBody st) t ∧
        t { nx := fun _ H' => Q .non H', rt := Q } (start N vs) H) :
    FnG P w K mg base (k + 1) f fd ps sp := by
  obtain ⟨oc, od, kV, doc, pm, an, cdv, ct, osl, rfl, lk, hcd⟩ := F.ex
  refine ⟨len, fun A hg outer s H args us vs Q E hr e0 hb r hsp => ?_⟩
  have hl := len vs H Q E hsp
  have KX : K.In s.heap := e0.mod.kin.keeps fun b o e => And.left (e0.bs b o e)
  have lim := e0.mod.nolimit.keeps fun b o e => And.left (e0.bs b o e)
  have hkind : ∀ y ∈ ps.zip us, (defScope st).names.lookup y.1 = some .local ∨
      ((defScope st).names.lookup y.1 = some .cell ∧
        ((cellsFrom (s.heap.objs.size + 1) (defScope st).names []).lookup y.1).isSome = true) := by
    rintro ⟨n, v⟩ hy
    cases S.par n (List.of_mem_zip hy).1 with
    | inl q => exact Or.inl q
    | inr q => exact Or.inr ⟨q, PySem.W.cellsFrom_some _ _ _ (Or.inl q)⟩
  refine codeAny_call_function hr.depth (KX _ _ lk) rfl S.co S.gen rfl (PySem.W.codeRec_of KX hcd) (hb _ _ _ _ ?_)
  refine wpAny_newFunctionEnv_cells S.kind hkind fun env he s1 X1 => ?_
  subst he
  refine ⟨lim.keeps X1.toInCall.keep, codeAny_func ?_⟩
  obtain ⟨t, ht0, hq⟩ := hbody cdv A outer s H vs Q E hg (hr.deeper _) hsp
  have ht := ht0.nox
  have I0 := inv_start (CX := CX0) (E := E) S hr.hd e0 hl r X1
  refine wpAny_mono (ht.run [] s1 (start N vs) H _ I0 hq) (fun fl s' hs => ?_) (fun e s' hs => hs)
  cases fl with
  | ret u =>
    obtain ⟨v, σ', H', J, rv, q⟩ := hs
    exact ⟨v, H', J.os, J.bare, J.base, J.hok, rv, q⟩
  | next =>
    obtain ⟨σ', H', J, q⟩ := hs
    exact ⟨V.non, H', J.os, J.bare, J.base, J.hok, rfl, q⟩
  | brk =>
    obtain ⟨σ', H', J, q⟩ := hs
    exact q.elim
  | cont =>
    obtain ⟨σ', H', J, q⟩ := hs
    exact q.elim
end
section
variable {X : Cx} {k : Nat} {f : Addr} {fd : FuncData} {ps : List Str} {sp : Sp} {dvs : List V} {ds : List Value}
  {E : XK} {x : Str} {p pos : Pos} {e : Expr} {es : List Expr} {t : TA}
/-- f(e, ..) of such a def -/
theorem pe_callG (F : FnG X.prog X.w X.K X.mg X.base k f fd ps sp) (hgd : X.A.guards = some []) (hr : Room k X.A) (hg : Gl X x)
    (hm : X.mg x = some (.ref f)) (hk : PySem.W.keepIn X.K (.ref f) = true) (hb : Binds X.K fd ps ds) (hd : Vals dvs ds)
    (hx : Passes CX0 X E) (ha : PA X (e :: es) t) (hdb : (x == ("__debug__" : Str)) = false := by decide)
    (he : starEach (e :: es) X.env = (false, eval e X.env) :: starEach es X.env := by rfl)
    (hpl : (backTo pos (starEach es X.env)).any (·.1) = false := by rfl) :
    PE X (.Call (.Name x p) (e :: es) [] pos) (tCall sp dvs E t) := by
  refine ⟨fun pins s σ H Q I h => wpAny_Call_Name_kw (ld_glob I hg hm ?_ hdb)⟩
  refine PySem.W.callWith_K (h₀ := X.base) I.ok.mod.kin hk
    (thn (ha.run pos pins s σ H _ I h) fun us s1 ⟨vs, H1, I1, r, q⟩ => ⟨I1.kIn, ?_⟩) he hpl
  have r2 : Vals (vs ++ dvs) (us ++ ds) := r.append hd
  have hl : (us ++ ds).length = ps.length := r2.length.symm.trans (F.len _ _ _ _ q)
  refine wpAny_call (codeAny_mono (F.run X.A hgd X.stack s1 H1 ⟨us, []⟩ (us ++ ds) (vs ++ dvs) Q E hr I1.env0
    (hb s1 us I1.kIn hl) r2 q) fun res s' hq => ?_)
  cases res with
  | error e => exact hx pins σ H1 s1 e s' I1 hq
  | ok fl =>
    cases fl with
    | ret u => exact I1.after hq
    | next => exact hq.elim
    | brk => exact hq.elim
    | cont => exact hq.elim
end
section
variable {X : Cx}
def Shown (K : PySem.W.Frag) (H : Hp) (v : V) (d : PyData) : Prop :=
  Dp K H v d ∧ isDisplay d = true ∧ d.showable = true ∧ d.hasDict = false ∧ d.depth ≤ 60 ∧ d.shown.length ≤ sizeLine
/-- repr(x) of lists and tuples -/
theorem call_repr (hgd : X.A.guards = some []) (hu : X.A.units + 64 < cLine) : CallR X (.builtin "repr")
    (fun xs H Q => ∃ v d, xs = [v] ∧ Shown X.K H v d ∧ Q (.str d.shown) H) := by
  intro pins s σ H xs us Q I r h
  obtain ⟨v, d, rfl, ⟨hd, h1, h2, h3, h4, h5⟩, q⟩ := h
  obtain ⟨u, rfl, ru⟩ := vals1 r
  obtain ⟨as, R⟩ := Dp.reads I d v u hd ru
  obtain ⟨a, rfl⟩ := isRef_of_reads R h1
  refine repr_of_reads' R h2 (PyData.noDict_hsm h3) hgd (by omega) (fun _ _ e => e) (fun h' tk1 tk2 hk => ?_) h5
  exact ⟨.str _, H, I.kept (t' := tk2) hk, ⟨tk1, rfl⟩, q⟩
end
def TupN (H : Hp) (a : Addr) (xs : List V) : Prop := ∃ o : Obj, H a = some (.frz o (.tup xs)) ∧ o.dict = none
theorem TupN.sqT {K : PySem.W.Frag} {H : Hp} {a : Addr} {xs : List V} (h : TupN H a xs) : SqT K H a xs := by
  obtain ⟨o, h, _⟩ := h
  exact .inl (.inr ⟨o, h⟩)
theorem TupN.new {H : Hp} {p : Addr} {o : Obj} {xs : List V} (d : o.dict = none) : TupN (upd H p (.frz o (.tup xs))) p xs := ⟨o, upd_same, d⟩
section
variable {X : Cx} {es : List Expr} {t : TA} {pos : Pos}
def tTupF (t : TA) : TE := fun σ H Q => t σ H fun xs H1 => xs.length ≤ sizeLine ∧ ∀ (p : Addr) (o : Obj), H1 p = none → o.dict = none → Q (.ref p) (upd H1 p (.frz o (.tup xs)))
theorem pe_tupF {x1} (h : PA X es t) : PE X (.Tuple es x1 pos) (tTupF t) := by
  refine ⟨fun pins s σ H Q I hq => ?_⟩
  refine wpAny_Tuple_spliced (thn (h.run pos pins s σ H _ I hq) fun us s1 ⟨xs, H1, I1, r, z, q⟩ => ⟨r.length ▸ z, ?_⟩)
  have hf : H1 s1.heap.objs.size = none := I1.hok.fresh (Nat.le_refl _)
  have hg := Heap.get?_push_size s1.heap (o := { cls := .type "tuple", data := .seq us.toArray }) rfl
  refine ⟨.ref s1.heap.objs.size, _, I1.laid (t' := s1.toks) (o := .frz { cls := .type "tuple", data := .seq us.toArray } (.tup xs)) (fun b u e => Heap.get?_push_of_some _ e) (Nat.le_refl _) ?_, rfl, q _ _ hf rfl⟩
  exact ⟨hg, z, us, r, ⟨_, hg, rfl, _, rfl⟩⟩
/-- a method of such a tuple, called with arguments -/
def tTM (r : V → List V → Hp → VK → Prop) (to : TE) (t : TA) : TE := fun σ H Q => to σ H fun x H1 => (∃ p xs, x = .ref p ∧ TupN H1 p xs) ∧ t σ H1 fun vs H2 => r x vs H2 Q
theorem pe_tm {name : Str} {id : String} {o e : Expr} {to : TE} {r : V → List V → Hp → VK → Prop} {apos cpos : Pos} (slot : Slot "tuple" name id) (hty : typeOf (.builtin id) = pure (.type "method_descriptor")) (hm : MtR X id r) (ho : PE X o to) (ha : PA X (e :: es) t)
    (hbase : attributeBase o name X.env (eval o X.env) = eval o X.env := by rfl)
    (hfew : ((backTo cpos (starEach (e :: es) X.env)).all (fun x => !x.1) && (backToKw cpos (keywordEach [] X.env)).all (fun x => x.1.isSome)
      && decide ((e :: es).length + ([] : List Keyword).length + (if ([] : List Keyword).isEmpty then 0 else 1) < 30)) = true := by rfl)
    (hline : (apos.endLine == cpos.line) = true := by rfl) (hs : starEach (e :: es) X.env = (false, eval e X.env) :: starEach es X.env := by rfl) (hplain : (backTo cpos (starEach es X.env)).any (·.1) = false := by rfl) :
    PE X (.Call (.Attribute o name apos) (e :: es) [] cpos) (tTM r to t) := by
  refine ⟨fun pins s σ H Q I h => ?_⟩
  refine wpAny_Call_method_late hbase hfew hline rfl (thn (ho.run pins s σ H _ I h) fun v s1 ⟨x, H1, I1, r1, ty, q1⟩ => ?_)
  obtain ⟨p, xs, rfl, ob, hob, hdi⟩ := ty
  cases r1
  obtain ⟨g1, hz, its, rv, ot, g2, hc, _⟩ := I1.hok p _ hob
  obtain rfl : ot = ob := Option.some.inj (g2.symm.trans g1)
  refine ⟨"tuple", id, PySem.F.plainAttrs_tuple, slot, hty, ⟨ot, g1, hc⟩, fun a e => ?_, ?_⟩
  · cases e
    exact ⟨ot, g1, hdi⟩
  have hA := ha.run cpos pins s1 σ H1 _ I1 q1
  rw [hs] at hA ⊢
  refine Calls.callWith_builtin (by show (false || (backTo cpos (starEach es X.env)).any (·.1)) = false; rw [hplain] <;> rfl) (Calls.evalArgs_plain ?_)
  exact thn hA fun us s2 ⟨vs, H2, I2, r2, q2⟩ => hm pins s2 σ H2 (.ref p) vs (.ref p) us Q I2 rfl r2 q2
end
def iD (ns : List Int) : List PyData := ns.map PyData.int
section
variable {K : PySem.W.Frag} {H : Hp}
theorem dp_ints : ∀ ns : List Int, DpAll K H (ns.map V.int) (iD ns)
  | [] => .nil
  | n :: r => .cons (.int n) (dp_ints r)
end
theorem iD_lay : ∀ ns : List Int, PyData.canLayAll0 (iD ns) = true
  | [] => by simp [iD, PyData.canLayAll0]
  | n :: r => by
    have h := iD_lay r
    simp only [iD, List.map_cons, PyData.canLayAll0, PyData.canLay0] at h ⊢
    rw [h]
    rfl
theorem iD_depth : ∀ ns : List Int, PyData.depthAll (iD ns) = 0
  | [] => by simp [iD, PyData.depthAll]
  | n :: r => by
    have h := iD_depth r
    simp only [iD, List.map_cons, PyData.depthAll, PyData.depth] at h ⊢
    rw [h]
    rfl
theorem shaped_lst (ns : List Int) : SeqAt.shaped (.list (iD ns)) = true := by
  have h1 := iD_lay ns
  have h2 := iD_depth ns
  show (PyData.canLay0 (.list (iD ns)) && decide (PyData.depth (.list (iD ns)) ≤ 64)) = true
  simp only [PyData.canLay0, PyData.depth, h1, h2, Bool.true_and]
  decide
theorem shaped_tup (ns : List Int) : SeqAt.shaped (.tuple (iD ns)) = true := by
  have h1 := iD_lay ns
  have h2 := iD_depth ns
  show (PyData.canLay0 (.tuple (iD ns)) && decide (PyData.depth (.tuple (iD ns)) ≤ 64)) = true
  simp only [PyData.canLay0, PyData.depth, h1, h2, Bool.true_and]
  decide
theorem eqv_nil (ds : List PyData) : PyData.eqv (.list ds) (.list []) = ds.isEmpty := by
  cases ds <;> simp [PyData.eqv, PyData.eqvAll]
def Kp (a b : Addr) (H H' : Hp) : Prop := ∀ c o, c ≠ a → c ≠ b → H c = some o → H' c = some o
theorem Kp.refl {a b : Addr} (H : Hp) : Kp a b H H := fun _ _ _ _ h => h
theorem Kp.trans {a b : Addr} {H H1 H2 : Hp} (x : Kp a b H H1) (y : Kp a b H1 H2) : Kp a b H H2 := fun c o h1 h2 h => y c o h1 h2 (x c o h1 h2 h)
theorem Kp.of {a b : Addr} {H H' : Hp} (h : Same H H') : Kp a b H H' := fun c o _ _ e => h c o e
theorem Kp.new {a b : Addr} {H : Hp} {p : Addr} {o : HO} (h : H p = none) : Kp a b H (upd H p o) := fun c u _ _ e => by
  rw [upd_ne (ne_of_none e h)]
  exact e
theorem Kp.put {a b : Addr} {H : Hp} {p : Addr} {o : HO} (h : p = a ∨ p = b) : Kp a b H (upd H p o) := fun c u h1 h2 e => by
  rw [upd_ne (by rcases h with rfl | rfl <;> assumption)]
  exact e
theorem Same.new {H : Hp} {p : Addr} {o : HO} (h : H p = none) : Same H (upd H p o) := fun c u e => by
  rw [upd_ne (ne_of_none e h)]
  exact e
end Sv
namespace Sv
open PySem PySem.Spec PyProof.Rows L2
section
variable {X : Cx}
def rTupF (K : PySem.W.Frag) : List V → Hp → VK → Prop := fun xs H Q => ∃ p ys, xs = [.ref p] ∧ SqL K H p ys ∧ ∀ (l : Addr) (o : Obj), H l = none → o.dict = none → Q (.ref l) (upd H l (.frz o (.tup ys)))
theorem call_tupleF : CallR X (.type "tuple") (rTupF X.K) := by
  intro pins s σ H xs us Q I r h
  obtain ⟨p, ys, rfl, hq, q⟩ := h
  obtain ⟨u, rfl, rx⟩ := vals1 r
  cases rx
  obtain ⟨its, r', pl, hz⟩ := I.list hq
  have hlen := r'.length
  refine call_tuple_list pl.isList (fun h' kp => ?_) (by simp only [List.size_toArray] <;> omega)
  have I1 : Inv X pins σ H { s with heap := h' } := I.kept (t' := s.toks) kp
  have hg := Heap.get?_push_size h' (o := { cls := .type "tuple", data := .seq its.toArray }) rfl
  refine ⟨.ref h'.objs.size, _, I1.laid (t' := s.toks) (o := .frz { cls := .type "tuple", data := .seq its.toArray } (.tup ys)) (fun b o e => Heap.get?_push_of_some _ e) (Nat.le_refl _) ?_, rfl, q _ _ (I1.hok.fresh (Nat.le_refl _)) rfl⟩
  exact ⟨hg, hz, its, r', ⟨_, hg, rfl, _, rfl⟩⟩
end
end Sv
namespace Sv
open PySem PySem.Spec PyProof.Rows L2
section
variable {J : It} {n : Nat} {G : Hp → Prop} {Y : Nat → Hp → V → Hp → Prop}
/-- the outer one -/
theorem lc2_out (w : Walk J n G Y) {g : TG} {tt : TT} {wi1 : TI} {g1 : TG} {tt1 : TT} {te : TE} {vs vs1 : List Nat} {σ : L2.St} {H1 : Hp} {D : Addr} {Qd : Hp → Prop} (Pv : Nat → Hp → Prop) (h0 : Pv 0 (upd H1 D (.lst []))) (hG : ∀ i H, i ≤ n → Pv i H → G H)
    (hs : ∀ i x H H', i < n → Pv i H → Y i H x H' → g x (wipe σ vs) H' fun σ2 H2 => wipe σ2 vs = wipe σ vs ∧ tt σ2 H2 fun b H3 =>
      if b = true then wi1 σ2 H3 fun J1 H4 => ∃ W1 : Nat → Nat → Hp → Prop, (∃ m, W1 0 m H4) ∧ ∀ j k H, W1 j k H →
        (J1.stop j H ∧ Pv (i + 1) H) ∨ (J1.go j H ∧ ∃ Nx1 : Hp → Prop, (∀ H', Nx1 H' → ∃ k', k' < k ∧ W1 (j + 1) k' H') ∧ ∀ x H', J1.yld j H x H' → g1 x (wipe σ2 vs1) H' fun σ3 H5 => wipe σ3 vs1 = wipe σ2 vs1 ∧ tt1 σ3 H5 fun b H6 =>
          if b = true then te σ3 H6 fun y H7 => ∃ acc, H7 D = some (.lst acc) ∧ acc.length < sizeLine ∧ Nx1 (upd H7 D (.lst (acc ++ [y]))) else Nx1 H6)
      else Pv (i + 1) H3) (hd : ∀ H, Pv n H → Qd H) :
    ∃ W : Nat → Nat → Hp → Prop, (∃ m, W 0 m (upd H1 D (.lst []))) ∧ ∀ i m H, W i m H →
      (J.stop i H ∧ Qd H) ∨ (J.go i H ∧ ∃ Nx : Hp → Prop, (∀ H', Nx H' → ∃ m', m' < m ∧ W (i + 1) m' H') ∧ ∀ x H', J.yld i H x H' → g x (wipe σ vs) H' fun σ2 H2 => wipe σ2 vs = wipe σ vs ∧ tt σ2 H2 fun b H3 =>
        if b = true then wi1 σ2 H3 fun J1 H4 => ∃ W1 : Nat → Nat → Hp → Prop, (∃ m, W1 0 m H4) ∧ ∀ j k H, W1 j k H →
          (J1.stop j H ∧ Nx H) ∨ (J1.go j H ∧ ∃ Nx1 : Hp → Prop, (∀ H', Nx1 H' → ∃ k', k' < k ∧ W1 (j + 1) k' H') ∧ ∀ x H', J1.yld j H x H' → g1 x (wipe σ2 vs1) H' fun σ3 H5 => wipe σ3 vs1 = wipe σ2 vs1 ∧ tt1 σ3 H5 fun b H6 =>
            if b = true then te σ3 H6 fun y H7 => ∃ acc, H7 D = some (.lst acc) ∧ acc.length < sizeLine ∧ Nx1 (upd H7 D (.lst (acc ++ [y]))) else Nx1 H6)
        else Nx H3) := by
  refine ⟨fun i m H => m = n - i ∧ i ≤ n ∧ Pv i H, ⟨n, by simp, Nat.zero_le _, h0⟩, ?_⟩
  rintro i m H ⟨rfl, hi, p⟩
  have q := hG i H hi p
  by_cases hlt : i < n
  · refine .inr ⟨w.goes i H hlt q, Pv (i + 1), fun H' p' => ⟨n - (i + 1), by omega, rfl, hlt, p'⟩, fun x H' y => hs i x H H' hlt p (w.yields i H x H' hlt q y)⟩
  · have e : i = n := by omega
    subst e
    exact .inl ⟨w.stops H q, hd H p⟩
/-- the inner one -/
theorem lc2_in (w : Walk J n G Y) {g1 : TG} {tt1 : TT} {te : TE} {vs1 : List Nat} {σ2 : L2.St} {H4 : Hp} {D : Addr} {R : Hp → Prop} (Pv : Nat → Hp → Prop) (h0 : Pv 0 H4) (hG : ∀ i H, i ≤ n → Pv i H → G H)
    (hs : ∀ i x H H', i < n → Pv i H → Y i H x H' → g1 x (wipe σ2 vs1) H' fun σ3 H5 => wipe σ3 vs1 = wipe σ2 vs1 ∧ tt1 σ3 H5 fun b H6 =>
      if b = true then te σ3 H6 fun y H7 => ∃ acc, H7 D = some (.lst acc) ∧ acc.length < sizeLine ∧ Pv (i + 1) (upd H7 D (.lst (acc ++ [y]))) else Pv (i + 1) H6) (hd : ∀ H, Pv n H → R H) :
    ∃ W1 : Nat → Nat → Hp → Prop, (∃ m, W1 0 m H4) ∧ ∀ j k H, W1 j k H →
      (J.stop j H ∧ R H) ∨ (J.go j H ∧ ∃ Nx1 : Hp → Prop, (∀ H', Nx1 H' → ∃ k', k' < k ∧ W1 (j + 1) k' H') ∧ ∀ x H', J.yld j H x H' → g1 x (wipe σ2 vs1) H' fun σ3 H5 => wipe σ3 vs1 = wipe σ2 vs1 ∧ tt1 σ3 H5 fun b H6 =>
        if b = true then te σ3 H6 fun y H7 => ∃ acc, H7 D = some (.lst acc) ∧ acc.length < sizeLine ∧ Nx1 (upd H7 D (.lst (acc ++ [y]))) else Nx1 H6) := by
  refine ⟨fun i m H => m = n - i ∧ i ≤ n ∧ Pv i H, ⟨n, by simp, Nat.zero_le _, h0⟩, ?_⟩
  rintro i m H ⟨rfl, hi, p⟩
  have q := hG i H hi p
  by_cases hlt : i < n
  · refine .inr ⟨w.goes i H hlt q, Pv (i + 1), fun H' p' => ⟨n - (i + 1), by omega, rfl, hlt, p'⟩, fun x H' y => hs i x H H' hlt p (w.yields i H x H' hlt q y)⟩
  · have e : i = n := by omega
    subst e
    exact .inl ⟨w.stops H q, hd H p⟩
end
end Sv
namespace Sv
open PySem PySem.Spec PyProof.Rows L2
section
variable {J : It} {n : Nat} {G : Hp → Prop} {Y : Nat → Hp → V → Hp → Prop}
theorem dc_it (w : Walk J n G Y) {g : TG} {tt : TT} {tk tv : TE} {vs : List Nat} {σ : L2.St} {H1 : Hp} {D : Addr} {Qd : Hp → Prop} (Pv : Nat → Hp → Prop) (h0 : Pv 0 (upd H1 D (.dK []))) (hG : ∀ i H, i ≤ n → Pv i H → G H)
    (hs : ∀ i x H H', i < n → Pv i H → Y i H x H' → g x (wipe σ vs) H' fun σ2 H2 => wipe σ2 vs = wipe σ vs ∧ tt σ2 H2 fun b H3 =>
      if b = true then tk σ2 H3 fun y H4 => tv σ2 H4 fun z H5 => ∃ kvs k, y = kV k ∧ H5 D = some (.dK kvs) ∧ kvs.length < sizeLine ∧ Pv (i + 1) (upd H5 D (.dK (putK kvs k z))) else Pv (i + 1) H3) (hd : ∀ H, Pv n H → Qd H) :
    ∃ W : Nat → Nat → Hp → Prop, (∃ m, W 0 m (upd H1 D (.dK []))) ∧ ∀ i m H, W i m H →
      (J.stop i H ∧ Qd H) ∨ (J.go i H ∧ ∃ Nx : Hp → Prop, (∀ H', Nx H' → ∃ m', m' < m ∧ W (i + 1) m' H') ∧ ∀ x H', J.yld i H x H' → g x (wipe σ vs) H' fun σ2 H2 => wipe σ2 vs = wipe σ vs ∧ tt σ2 H2 fun b H3 =>
        if b = true then tk σ2 H3 fun y H4 => tv σ2 H4 fun z H5 => ∃ kvs k, y = kV k ∧ H5 D = some (.dK kvs) ∧ kvs.length < sizeLine ∧ Nx (upd H5 D (.dK (putK kvs k z))) else Nx H3) := by
  refine ⟨fun i m H => m = n - i ∧ i ≤ n ∧ Pv i H, ⟨n, by simp, Nat.zero_le _, h0⟩, ?_⟩
  rintro i m H ⟨rfl, hi, p⟩
  have q := hG i H hi p
  by_cases hlt : i < n
  · refine .inr ⟨w.goes i H hlt q, Pv (i + 1), fun H' p' => ⟨n - (i + 1), by omega, rfl, hlt, p'⟩, fun x H' y => hs i x H H' hlt p (w.yields i H x H' hlt q y)⟩
  · have e : i = n := by omega
    subst e
    exact .inl ⟨w.stops H q, hd H p⟩
end
end Sv
namespace PySem
open Sem (wp)
set_option maxHeartbeats 1000000 in
theorem sv_enum_new {v : Value} {o : Obj} {H : Heap → Prop} (B : Begins v o H) :
    Meets (Builtin.«enumerate.__new__» ⟨[.type "enumerate", v], []⟩)
      (fun _ R s => H s.heap ∧ R (.ok (.ret (.ref (s.heap.push o).objs.size)))
        { s with heap := Heap.push (Heap.push s.heap o) { cls := .type "enumerate", data := .fields #[.none, .bool false, .ref s.heap.objs.size, rawInt 0, .none, .none] } }) := by
  refine .of_wp fun prog w A R s h => ?_
  obtain ⟨hp, g, d, tk, os⟩ := s
  obtain ⟨h1, h⟩ := h
  have hsub := sub_enumerate
  have q1 : ∀ {A' : Around} {E' : Value → Shared → Prop} {Q' : Value → Shared → Prop},
      Q' (.ref hp.objs.size) ⟨hp.push o, g, d, tk, os⟩ → wpAny (model prog w) A' (pyIter v) Q' E' ⟨hp, g, d, tk, os⟩ :=
    fun q => B.iter prog w _ _ ⟨hp, g, d, tk, os⟩ _ h1 q
  wp_walk using q1
  refine wpAny_stack_any fun st => wpAny_pure ?_
  split
  · rename_i c _ _ _ _ _
    cases hcc : (c == Value.type "enumerate") <;> (wp_walk using q1; exact ⟨_, rfl, h⟩)
  · wp_walk using q1
    exact ⟨_, rfl, h⟩
section
variable {prog : Program} {w : World} {A : Around} {E : Value → Shared → Prop} {s : Shared}
theorem sv_enum_call {v : Value} {o : Obj} {H : Heap → Prop} {Q : Value → Shared → Prop} (B : Begins v o H) (h1 : H s.heap)
    (h : ∀ h', IsEnum h' (s.heap.objs.size + 1) s.heap.objs.size 0 .none → h'.get? s.heap.objs.size = some o →
      (∀ b u, s.heap.get? b = some u → h'.get? b = some u) → Q (.ref (s.heap.objs.size + 1)) { s with heap := h' }) :
    wpAny (model prog w) A (call (.type "enumerate") [v]) Q E s := by
  refine callType_new F.called_enumerate (by decide) (F.typeCall_enumerate_1 _) (F.newCall_enumerate_1 _)
    (fun obj => F.args_object_init_2 obj _) F.entry_enumerate_new (sv_enum_new B) ⟨h1, ?_⟩
  have hz : (s.heap.push o).objs.size = s.heap.objs.size + 1 := Heap.size_push ..
  show _ ∧ _
  rw [hz]
  have he := Heap.get?_push_size (s.heap.push o)
    (o := { cls := .type "enumerate", data := .fields #[.none, .bool false, .ref s.heap.objs.size, rawInt 0, .none, .none] }) rfl
  rw [hz] at he
  exact ⟨⟨_, he, rfl⟩, h _ he (Heap.get?_push_of_some _ (Heap.get?_push_size _ B.free))
    fun b u x => Heap.get?_push_of_some _ (Heap.get?_push_of_some _ x)⟩
end
end PySem
namespace Sv
open PySem PySem.Spec PyProof.Rows L2
/-- a tuple's items, each in a new pair with its number -/
def Itte (K : PySem.W.Frag) (a : Addr) (xs : List V) : It where
  go := fun i H => SqT K H a xs ∧ i < xs.length
  yld := fun i H v H' => ∃ T x, v = .ref T ∧ H T = none ∧ H' = upd H T (.tup [.int (i : Nat), x]) ∧ xs[i]? = some x
  stop := fun i H => SqT K H a xs ∧ i = xs.length
theorem turn_etup {P : Program} {w : World} {K : PySem.W.Frag} {elts : List Expr} {kk : Nat} {tpos : Pos} (a e it : Addr) (xs : List V) :
    Turn P w K (.Tuple elts kk tpos) (Itte K a xs) [e, it] e
      (fun i h => (∃ old, IsEnum h e it ((i : Nat) : Int) old) ∧ h.IsTupleIter it a i ∧ e ≠ it ∧ a ≠ it ∧ a ≠ e) where
  mem := by simp
  obj := fun i h st b hb => by
    obtain ⟨⟨old, he⟩, ⟨o, ho, hc, hd⟩, _⟩ := st
    rcases (show b = e ∨ b = it by simpa using hb) with rfl | rfl
    · exact ⟨_, he, fun v q => nomatch q⟩
    · exact ⟨o, ho, fun v q => by rw [hd] at q; cases q⟩
  keep := fun i h h' st k => by
    obtain ⟨⟨old, he⟩, hi, hr⟩ := st
    exact ⟨⟨old, k e (by simp) _ he⟩, hi.at fun o q => k it (by simp) o q, hr⟩
  item := by
    intro X hP hw hK hc i pins s σ H E I hf st hg
    subst hP hw hK
    obtain ⟨⟨old, he⟩, hit, hne, hai, hae⟩ := st
    obtain ⟨hq, hi⟩ := hg
    obtain ⟨its, rv, p, hz⟩ := I.tuple hq
    have hlen := rv.length
    have hel : e < s.heap.objs.size := Heap.lt_size he
    have hil : it < s.heap.objs.size := by
      obtain ⟨_, q, _⟩ := hit
      exact Heap.lt_size q
    have D : Draws X.prog X.w X.A.in1 it [it, a] its.toArray.size (fun i v => its.toArray[i]? = some v)
        (fun i h => h.IsTupleIter it a i ∧ h.IsTuple a its.toArray) := Draws.tuple (A := X.A.in1) (show X.A.in1.handled = none from I.ok.hd hc) it a hai its.toArray
    refine wpAny_pyNext_enum_itemD D he ⟨hit, p⟩ (by rw [List.size_toArray]; omega) hne (by simp [hne, Ne.symm hae]) fun u h' tk hPu ho hst hT hsz hk => ?_
    refine ⟨_, rfl, wpAny_letOwnedTupleGo_enum (s := { s with heap := h', toks := tk + 1 }) ho fun h'' he' sb => ?_⟩
    obtain ⟨x, hx⟩ : ∃ x, xs[i]? = some x := ⟨_, List.getElem?_eq_getElem hi⟩
    obtain ⟨u', hu', ru⟩ := rv.get hx
    have hPu' : its[i]? = some u := by simpa using hPu
    obtain rfl : u' = u := Option.some.inj (hu'.symm.trans hPu')
    have hT2 : h''.get? s.heap.objs.size = some { cls := .type "tuple", data := .seq #[.int i tk, u'] } := (sb.2 _ (Nat.ne_of_gt hel)).trans hT
    have new : ObjOk X.prog X.w (upd H s.heap.objs.size (.tup [.int (i : Nat), x])) h'' s.heap.objs.size (.tup [.int (i : Nat), x]) := by
      refine ⟨?_, [.int i tk, u'], .cons ⟨_, rfl⟩ (.cons ru .nil), ⟨_, hT2, rfl, _, rfl⟩⟩
      show 2 ≤ sizeLine
      decide
    have I1 : Inv X pins σ (upd H s.heap.objs.size (.tup [.int (i : Nat), x])) { s with heap := h'', toks := tk + 1 } := by
      refine I.turnedNew (ch := [e, it]) (fun b ob hb q => ?_) hf (Nat.le_refl _) new
      have nb : b ≠ e ∧ b ≠ it := by simpa using hb
      exact (sb.2 b nb.1).trans (hk b ob nb.1 nb.2 q)
    refine ⟨.ref s.heap.objs.size, _, I1, rfl, ⟨_, x, rfl, I.hok.fresh (Nat.le_refl _), rfl, hx⟩,
      ⟨⟨u', ?_⟩, hst.1.at fun o q => (sb.2 it (Ne.symm hne)).trans q, hne, hai, hae⟩, fun b hb => ?_⟩
    · have e1 : ((i + 1 : Nat) : Int) = (i : Int) + 1 := by omega
      rw [e1]
      exact he'
    · have hb' : b < s.heap.objs.size := by
        rcases (show b = e ∨ b = it by simpa using hb) with rfl | rfl <;> assumption
      rw [upd_ne (Nat.ne_of_lt hb')]
      exact (hf b hb).1
  done := by
    intro X hP hw hK hc i pins s σ H E I hf st hg
    subst hP hw hK
    obtain ⟨⟨old, he⟩, hit, hne, hai, hae⟩ := st
    obtain ⟨hq, hi⟩ := hg
    obtain ⟨its, rv, p, hz⟩ := I.tuple hq
    have hlen := rv.length
    obtain ⟨f0, f1, f2, f3, f4, f5⟩ := hf it (by simp)
    have D : Draws X.prog X.w X.A.in1 it [it, a] its.toArray.size (fun i v => its.toArray[i]? = some v)
        (fun i h => h.IsTupleIter it a i ∧ h.IsTuple a its.toArray) := Draws.tuple (A := X.A.in1) (show X.A.in1.handled = none from I.ok.hd hc) it a hai its.toArray
    have hi2 : i = its.toArray.size := by
      rw [List.size_toArray]
      omega
    have hit2 : s.heap.IsTupleIter it a its.toArray.size := hi2 ▸ hit
    exact wpAny_pyNext_enum_endD D he ⟨hit2, p⟩ fun h' eb => ⟨rfl, I.turned (t' := s.toks) (fun b o hb q => eb b o hb q) f0 f1 f3 f4 f5⟩
  self := fun A i s Q E st h => by
    obtain ⟨⟨_, he⟩, _⟩ := st
    exact wpAny_pyIter_enum he h
section
variable {X : Cx}
def rTcount (K : PySem.W.Frag) : V → List V → Hp → VK → Prop := fun x args H Q => ∃ (p : Addr) (ns : List Int) (k : Int), x = .ref p ∧ args = [.int k] ∧ SqT K H p (ns.map V.int) ∧ Q (.int (ns.count k : Nat)) H
/-- t.count(k), t a tuple of ints -/
theorem mt_tcount (hu : X.A.units + 64 < cLine) : MtR X "tuple.count" (rTcount X.K) := by
  intro pins s σ H x args v us Q I rx ra h
  obtain ⟨p, ns, k, rfl, rfl, hs, q⟩ := h
  cases rx
  obtain ⟨u, rfl, ru⟩ := vals1 ra
  obtain ⟨t, rfl⟩ := ru
  obtain ⟨its, rv, p1, hz⟩ := I.tuple hs
  obtain ⟨as, R1⟩ := Dp.readsAll I (iD ns) (ns.map V.int) its (dp_ints ns) rv
  have hpl : ∀ ns : List Int, PyData.plainAll (iD ns) = true := by
    intro ns
    induction ns with
    | nil => rfl
    | cons n r ih => exact ih
  have hcnt : ((iD ns).countP fun y => PyData.eqv y (.int k)) = ns.count k := by
    clear R1 rv hs hz q
    induction ns with
    | nil => rfl
    | cons n r ih =>
      have e : PyData.eqv (.int n) (.int k) = (n == k) := by simp only [PyData.eqv]
      simp only [iD, List.map_cons, List.countP_cons, List.count_cons] at ih ⊢
      rw [ih, e]
  refine SeqAt.count_tuple_data (vs := its.toArray) p1 R1 (Reads.int k t) (hpl ns) rfl ?_ ?_
  · have : min (PyData.depthAll (iD ns)) (PyData.int k).depth ≤ 0 := Nat.min_le_right _ _
    omega
  · rw [hcnt]
    exact ⟨.int (ns.count k : Nat), H, I.tok _, ⟨_, rfl⟩, q⟩
end
end Sv
namespace Sv
open PySem PySem.Spec PyProof.Rows L2
theorem idx_lt : ∀ {ns : List Int} {k : Int} {m : Nat}, m < ns.idxOf k → ns[m]? ≠ some k
  | [], k, m, h => by simp at h
  | n :: r, k, m, h => by
    rw [List.idxOf_cons] at h
    by_cases e : n = k
    · subst e
      simp at h
    · have e1 : (n == k) = false := beq_eq_false_iff_ne.mpr e
      rw [e1] at h
      cases m with
      | zero => exact fun z => e (Option.some.inj z)
      | succ m => exact fun z => idx_lt (ns := r) (m := m) (by simpa using h) z
theorem flat_ints (ns : List Int) : (ns.map V.int).all flatV = true := by
  rw [List.all_map]
  exact List.all_eq_true.mpr fun _ _ => rfl
section
variable {X : Cx}
def rTindex (K : PySem.W.Frag) : V → List V → Hp → VK → Prop := fun x args H Q => ∃ (p : Addr) (ns : List Int) (k : Int), x = .ref p ∧ args = [.int k] ∧ SqT K H p (ns.map V.int) ∧ k ∈ ns ∧ Q (.int (ns.idxOf k : Nat)) H
/-- t.index(k), k in t -/
theorem mt_tindex : MtR X "tuple.index" (rTindex X.K) := by
  intro pins s σ H x args v us Q I rx ra h
  obtain ⟨p, ns, k, rfl, rfl, hs, hk, q⟩ := h
  cases rx
  obtain ⟨u, rfl, ru⟩ := vals1 ra
  obtain ⟨t, rfl⟩ := ru
  obtain ⟨its, rv, ⟨⟨cls, dd, dt, sl⟩, ho, hc, n, hd⟩, hz⟩ := I.tuple hs
  simp only at hc hd
  subst hc hd
  have hlen : its.length = ns.length := by rw [← rv.length, List.length_map]
  have hj : ns.idxOf k < ns.length := List.idxOf_lt_length_iff.mpr hk
  have at' : ∀ (m : Nat) (hm : m < its.toArray.size), ∃ t' : Tok, ∃ hm2 : m < ns.length, its.toArray[m] = Value.int ns[m] t' := by
    intro m hm
    have hm2 : m < ns.length := by
      rw [List.size_toArray] at hm
      omega
    obtain ⟨w, hw, t', hw'⟩ := rv.get (i := m) (x := .int ns[m]) (at_map' (List.getElem?_eq_getElem hm2))
    refine ⟨t', hm2, ?_⟩
    have e := (List.getElem?_eq_some_iff.mp hw).2
    rw [← hw', ← e]
    simp
  refine call_meets PySem.F.slot_tuple_index ⟨_, ho, rfl⟩ PySem.F.entry_tuple_index (PySem.F.args_tuple_index_2 _ _)
    (TI.tuple_indexAt p its.toArray n dd sl (.int k t) (eqU (.int k)) (ns.idxOf k) (by rw [List.size_toArray]; omega) ?_ ?_)
    ⟨ho, fun w hw => mem_eqAt (x := .int k) ⟨t, rfl⟩ rfl rv (flat_ints ns) w (by simpa using hw), ⟨.int (ns.idxOf k : Nat), H, I.tok _, ⟨_, rfl⟩, q⟩⟩
  · obtain ⟨t', h2, h3⟩ := at' (ns.idxOf k) (by rw [List.size_toArray]; omega)
    rw [h3]
    show (ns[ns.idxOf k] == k) = true
    rw [beq_iff_eq]
    exact List.getElem_idxOf h2
  · intro m hm hmj
    obtain ⟨t', h2, h3⟩ := at' m hm
    rw [h3]
    show (ns[m] == k) = false
    refine beq_eq_false_iff_ne.mpr fun z => idx_lt hmj ?_
    rw [List.getElem?_eq_getElem h2, z]
where
  at_map' {ns : List Int} {m : Nat} {x : Int} (h : ns[m]? = some x) : (ns.map V.int)[m]? = some (.int x) := by
    rw [List.getElem?_map, h]
    rfl
/-- t[lo:hi], not the whole, known to bear no dict -/
def rSlTF (K : PySem.W.Frag) : V → Option Int → Option Int → Hp → VK → Prop := fun x lo hi H Q => ∃ a xs, x = .ref a ∧ SqT K H a xs ∧
  ¬ (HT.sIx xs.length 0 lo = 0 ∧ HT.sIx xs.length xs.length hi = xs.length) ∧ ∀ (p : Addr) (o : Obj), H p = none → o.dict = none → Q (.ref p) (upd H p (.frz o (.tup (cutV xs lo hi))))
theorem sl_tupF : SlR X (rSlTF X.K) := by
  intro pins s σ H x v vl vu lo hi sl Q I rx hs pl pu h
  obtain ⟨a, xs, rfl, hx, hw, q⟩ := h
  cases rx
  obtain ⟨its, r, ht, hz⟩ := I.tuple hx
  have hlen : its.toArray.size = xs.length := by
    rw [List.size_toArray]
    exact r.length.symm
  refine ⟨"tuple", _, PyProof.Rows.slot_tuple_getitem.lookup, ht.typeIs, ?_⟩
  have hnot : ¬ (HT.sIx its.toArray.size 0 lo = 0 ∧ HT.sIx its.toArray.size its.toArray.size hi = its.toArray.size) := by rwa [hlen]
  refine HT.getItem_tuple_cut ht hs pl pu hnot ?_ (hlen ▸ hz)
  rw [hlen]
  have hg := Heap.get?_push_size s.heap (o := { cls := .type "tuple", data := .seq ((its.toArray.toList.drop (HT.sIx xs.length 0 lo)).take (HT.sIx xs.length xs.length hi - HT.sIx xs.length 0 lo)).toArray }) rfl
  refine ⟨.ref s.heap.objs.size, _, I.laid (t' := s.toks) (o := .frz _ (.tup (cutV xs lo hi))) (fun b ob q => Heap.get?_push_of_some _ q) (Nat.le_refl _) ⟨hg, ?_⟩, rfl, q _ _ (I.hok.fresh (Nat.le_refl _)) rfl⟩
  exact ⟨Nat.le_trans (cutV_length xs lo hi) hz, _, (r.drop (HT.sIx xs.length 0 lo)).take (HT.sIx xs.length xs.length hi - HT.sIx xs.length 0 lo), ⟨_, hg, rfl, _, rfl⟩⟩
end
inductive Kn (K : PySem.W.Frag) (H : Hp) : V → Prop
  | non : Kn K H .non
  | bl (b : Bool) : Kn K H (.bl b)
  | int (i : Int) : Kn K H (.int i)
  | str (x : Str) : Kn K H (.str x)
  | lst {a : Addr} {xs : List V} (e : H a = some (.lst xs)) : Kn K H (.ref a)
  | tup {a : Addr} {xs : List V} (e : H a = some (.tup xs)) : Kn K H (.ref a)
  | ftup {a : Addr} {o : Obj} {xs : List V} (e : H a = some (.frz o (.tup xs))) : Kn K H (.ref a)
  | dK {a : Addr} {kvs : List (Key × V)} (e : H a = some (.dK kvs)) : Kn K H (.ref a)
end Sv
namespace Sv
open PySem PySem.Spec PyProof.Rows L2
mutual
inductive DX (N : Addr → Prop) (K : PySem.W.Frag) (H : Hp) : V → PyData → Prop
  | non : DX N K H .non .none
  | bl (b : Bool) : DX N K H (.bl b) (.bool b)
  | int (i : Int) : DX N K H (.int i) (.int i)
  | str (x : Str) : DX N K H (.str x) (.str x)
  | lst {a : Addr} {xs : List V} {ds : List PyData} : H a = some (.lst xs) → N a → DXs N K H xs ds → DX N K H (.ref a) (.list ds)
  | tup {a : Addr} {xs : List V} {ds : List PyData} : (H a = some (.tup xs) ∨ ∃ o, H a = some (.frz o (.tup xs))) → DXs N K H xs ds → DX N K H (.ref a) (.tuple ds)
  | d0 {a : Addr} : H a = some (.dK []) → DX N K H (.ref a) (.dict [])
  | d1 {a : Addr} {k : Str} {i : Int} : H a = some (.dK [(Sum.inr k, .int i)]) → DX N K H (.ref a) (.dict [(.str k, .int i)])
inductive DXs (N : Addr → Prop) (K : PySem.W.Frag) (H : Hp) : List V → List PyData → Prop
  | nil : DXs N K H [] []
  | cons {v : V} {vs : List V} {d : PyData} {ds : List PyData} : DX N K H v d → DXs N K H vs ds → DXs N K H (v :: vs) (d :: ds)
end
mutual
/-- wherever lists, tuples and dicts stay -/
theorem DX.keep {N : Addr → Prop} {K : PySem.W.Frag} {H H' : Hp} (e : ∀ (a : Addr) (xs : List V), N a → H a = some (.lst xs) → H' a = some (.lst xs)) (e2 : ∀ (a : Addr) (xs : List V), (H a = some (.tup xs) ∨ ∃ o, H a = some (.frz o (.tup xs))) → (H' a = some (.tup xs) ∨ ∃ o, H' a = some (.frz o (.tup xs))))
    (e3 : ∀ (a : Addr) (kvs : List (Key × V)), H a = some (.dK kvs) → H' a = some (.dK kvs)) : ∀ {v : V} {d : PyData}, DX N K H v d → DX N K H' v d
  | _, _, .non => .non
  | _, _, .bl b => .bl b
  | _, _, .int i => .int i
  | _, _, .str x => .str x
  | _, _, .lst h n hs => .lst (e _ _ n h) n (DXs.keep e e2 e3 hs)
  | _, _, .tup h hs => .tup (e2 _ _ h) (DXs.keep e e2 e3 hs)
  | _, _, .d0 h => .d0 (e3 _ _ h)
  | _, _, .d1 h => .d1 (e3 _ _ h)
theorem DXs.keep {N : Addr → Prop} {K : PySem.W.Frag} {H H' : Hp} (e : ∀ (a : Addr) (xs : List V), N a → H a = some (.lst xs) → H' a = some (.lst xs)) (e2 : ∀ (a : Addr) (xs : List V), (H a = some (.tup xs) ∨ ∃ o, H a = some (.frz o (.tup xs))) → (H' a = some (.tup xs) ∨ ∃ o, H' a = some (.frz o (.tup xs))))
    (e3 : ∀ (a : Addr) (kvs : List (Key × V)), H a = some (.dK kvs) → H' a = some (.dK kvs)) : ∀ {vs : List V} {ds : List PyData}, DXs N K H vs ds → DXs N K H' vs ds
  | _, _, .nil => .nil
  | _, _, .cons h hs => .cons (DX.keep e e2 e3 h) (DXs.keep e e2 e3 hs)
end
theorem DX.kp {K : PySem.W.Frag} {H H' : Hp} {a b : Addr} {N : Addr → Prop} {v : V} {d : PyData} (h : DX N K H v d) (e : Kp a b H H') (ha : ¬ N a) (hb : ¬ N b) (la : ∃ xs, H a = some (.lst xs)) (lb : ∃ xs, H b = some (.lst xs)) : DX N K H' v d := by
  obtain ⟨xa, la⟩ := la
  obtain ⟨xb, lb⟩ := lb
  refine h.keep (fun c xs hc q => e _ _ (fun z => ha (z ▸ hc)) (fun z => hb (z ▸ hc)) q) (fun c xs q => q.elim (fun q => .inl (e _ _ (ne_of q la (by intro z; cases z)) (ne_of q lb (by intro z; cases z)) q)) fun ⟨o, q⟩ => .inr ⟨o, e _ _ (ne_of q la (by intro z; cases z)) (ne_of q lb (by intro z; cases z)) q⟩)
    (fun c xs q => e _ _ (ne_of q la (by intro z; cases z)) (ne_of q lb (by intro z; cases z)) q)
theorem DXs.len {N : Addr → Prop} {K : PySem.W.Frag} {H : Hp} : ∀ {vs : List V} {ds : List PyData}, DXs N K H vs ds → vs.length = ds.length
  | _, _, .nil => rfl
  | _, _, .cons _ hs => by rw [List.length_cons, List.length_cons, DXs.len hs]
theorem DXs.at {N : Addr → Prop} {K : PySem.W.Frag} {H : Hp} : ∀ {vs : List V} {ds : List PyData}, DXs N K H vs ds → ∀ {i : Nat} {v : V}, vs[i]? = some v → ∃ d, ds[i]? = some d ∧ DX N K H v d
  | _, _, .nil, i, v, h => by simp at h
  | _, _, .cons (d := d) h1 h2, 0, v, h => by
    cases h
    exact ⟨d, rfl, h1⟩
  | _, _, .cons h1 h2, i + 1, v, h => DXs.at h2 (i := i) h
theorem DXs.append {N : Addr → Prop} {K : PySem.W.Frag} {H : Hp} : ∀ {vs : List V} {ds : List PyData} {ws : List V} {es : List PyData}, DXs N K H vs ds → DXs N K H ws es → DXs N K H (vs ++ ws) (ds ++ es)
  | _, _, _, _, .nil, h => h
  | _, _, _, _, .cons h1 h2, h => .cons h1 (DXs.append h2 h)
theorem DXs.ints {N : Addr → Prop} {K : PySem.W.Frag} {H : Hp} : ∀ ns : List Int, DXs N K H (ns.map V.int) (iD ns)
  | [] => .nil
  | n :: r => .cons (.int n) (DXs.ints r)
section
variable {X : Cx} {pins : List (Addr × Obj)} {σ : L2.St} {H : Hp} {s : Shared} {N : Addr → Prop}
mutual
theorem DX.reads (hN : ∀ a, N a → a ≠ sysModules) (I : Inv X pins σ H s) : ∀ (d : PyData) (v : V) (u : Value), DX N X.K H v d → RelV v u → ∃ as, Reads s.heap u d as ∧ sysModules ∉ as
  | .none, _, _, h, r => by
    cases h
    cases r
    exact ⟨_, Reads.none, List.not_mem_nil⟩
  | .bool b, _, _, h, r => by
    cases h
    cases r
    exact ⟨_, Reads.bool b, List.not_mem_nil⟩
  | .int i, _, _, h, r => by
    cases h
    obtain ⟨t, rfl⟩ := r
    exact ⟨_, Reads.int i t, List.not_mem_nil⟩
  | .str x, _, _, h, r => by
    cases h
    obtain ⟨t, rfl⟩ := r
    exact ⟨_, Reads.str x t, List.not_mem_nil⟩
  | .list ds, _, _, h, r => by
    cases h with
    | lst hs hn ha =>
      cases r
      obtain ⟨its, rv, ⟨o, n, ho, hc, _, hd⟩, _⟩ := I.list (.of hs)
      obtain ⟨as, hr, hm⟩ := DXs.reads hN I ds _ its ha rv
      exact ⟨_, Reads.list ho hc hd hr, fun z => (List.mem_cons.mp z).elim (fun z => hN _ hn z.symm) hm⟩
  | .tuple ds, _, _, h, r => by
    cases h with
    | tup hs ha =>
      cases r
      obtain ⟨its, rv, ⟨o, ho, hc, n, hd⟩, _⟩ := I.tuple (.inl hs)
      obtain ⟨as, hr, hm⟩ := DXs.reads hN I ds _ its ha rv
      exact ⟨_, Reads.tuple ho hc hd hr, hm⟩
  | .dict kvs, _, _, h, r => by
    cases h with
    | d0 hs =>
      cases r
      obtain ⟨_, hn, vs, kv, o, es, ep, ho, ⟨hc, _, _⟩, hd, _, hp, _⟩ := I.hok _ _ hs
      cases kv
      have he : es.toList = [] := by
        generalize es.toList = l at hp
        cases hp
        rfl
      refine ⟨_, Reads.dict (as := []) (bs := []) ho hc hd (by rw [he]; exact .nil) (by rw [he]; exact .nil), fun z => ?_⟩
      have hz := List.mem_singleton.mp (by simpa using z)
      rw [hz] at hn
      simp at hn
    | @d1 _ k i hs =>
      cases r
      obtain ⟨_, hn, vs, kv, o, es, ep, ho, ⟨hc, _, _⟩, hd, _, hp, _⟩ := I.hok _ _ hs
      obtain ⟨u, t, rfl, rfl⟩ : ∃ (u : Value) (t : Tok), vs = [(Sum.inr k, u)] ∧ u = .int i t := by
        match vs, kv with
        | [(k', u)], .cons ⟨e1, t, e2⟩ .nil => exact ⟨u, t, by rw [show (Sum.inr k : Key) = k' from e1], e2⟩
      generalize hl : es.toList = l at hp
      cases hp with
      | @cons e _ _ _ p1 p2 p3 =>
        cases p3
        obtain ⟨hh, key, val⟩ := e
        have p2' : val = Value.int i t := p2
        subst p2'
        have p1' : keyIs (Sum.inr k) key = true := p1
        obtain ⟨i', t', z, _⟩ | ⟨x, t', z, rfl⟩ := keyIs_shape p1'
        · cases z
        · cases z
          refine ⟨_, Reads.dict (as := [] ++ []) (bs := [] ++ []) ho hc hd (by rw [hl]; exact .cons (.str _ _) .nil) (by rw [hl]; exact .cons (.int _ _) .nil), fun z => ?_⟩
          have hz := List.mem_singleton.mp (by simpa using z)
          rw [hz] at hn
          simp at hn
theorem DXs.reads (hN : ∀ a, N a → a ≠ sysModules) (I : Inv X pins σ H s) : ∀ (ds : List PyData) (vs : List V) (us : List Value), DXs N X.K H vs ds → Vals vs us → ∃ as, ReadsAll s.heap us ds as ∧ sysModules ∉ as
  | [], _, _, h, r => by
    cases h
    cases r
    exact ⟨_, ReadsAll.nil, List.not_mem_nil⟩
  | d :: ds, _, _, h, r => by
    cases h with
    | cons h1 h2 =>
      cases r with
      | cons r1 r2 =>
        obtain ⟨as, q1, m1⟩ := DX.reads hN I d _ _ h1 r1
        obtain ⟨bs, q2, m2⟩ := DXs.reads hN I ds _ _ h2 r2
        exact ⟨_, ReadsAll.cons q1 q2, fun z => (List.mem_append.mp z).elim m1 m2⟩
end
end
/-- data whose text can be shown -/
structure FineX (n W : Nat) (d : PyData) : Prop where
  dep : d.depth ≤ n
  wei : d.weight ≤ W
  sho : d.showable = true
  lea : d.leavesShort 40 = true
structure FineXs (n W : Nat) (ds : List PyData) : Prop where
  dep : PyData.depthAll ds ≤ n
  wei : PyData.weightAll ds ≤ W
  sho : PyData.showableAll ds = true
  lea : PyData.leavesShortAll 40 ds = true
theorem FineX.mono {n W m U : Nat} {d : PyData} (h : FineX n W d) (e : n ≤ m) (e2 : W ≤ U) : FineX m U d := ⟨Nat.le_trans h.dep e, Nat.le_trans h.wei e2, h.sho, h.lea⟩
theorem FineXs.mono {n W m U : Nat} {d : List PyData} (h : FineXs n W d) (e : n ≤ m) (e2 : W ≤ U) : FineXs m U d := ⟨Nat.le_trans h.dep e, Nat.le_trans h.wei e2, h.sho, h.lea⟩
theorem finex_nil : FineXs 0 0 [] := ⟨Nat.le_refl _, Nat.le_refl _, rfl, rfl⟩
theorem finex_cons {n W U : Nat} {d : PyData} {ds : List PyData} (h : FineX n W d) (hs : FineXs n U ds) : FineXs n (W + 1 + U) (d :: ds) := by
  refine ⟨?_, ?_, ?_, ?_⟩
  · simp only [PyData.depthAll]
    exact Nat.max_le.mpr ⟨h.dep, hs.dep⟩
  · have h1 := h.wei
    have h2 := hs.wei
    simp only [PyData.weightAll]
    omega
  · simp only [PyData.showableAll, h.sho, hs.sho, Bool.and_self]
  · simp only [PyData.leavesShortAll, h.lea, hs.lea, Bool.and_self]
theorem finex_list {n W : Nat} {ds : List PyData} (h : FineXs n W ds) : FineX (n + 1) W (.list ds) := by
  have h1 := h.dep
  refine ⟨by simp only [PyData.depth]; omega, h.wei, ?_, ?_⟩
  · simp only [PyData.showable, h.sho]
  · simp only [PyData.leavesShort, h.lea]
theorem finex_tuple {n W : Nat} {ds : List PyData} (h : FineXs n W ds) : FineX (n + 1) W (.tuple ds) := by
  have h1 := h.dep
  refine ⟨by simp only [PyData.depth]; omega, h.wei, ?_, ?_⟩
  · simp only [PyData.showable, h.sho]
  · simp only [PyData.leavesShort, h.lea]
theorem finex_all {n W : Nat} : ∀ {ds : List PyData}, (∀ d ∈ ds, FineX n W d) → FineXs n ((W + 1) * ds.length) ds
  | [], _ => finex_nil.mono (Nat.zero_le _) (Nat.zero_le _)
  | d :: ds, h => by
    have q := finex_cons (h d List.mem_cons_self) (finex_all fun x hx => h x (List.mem_cons_of_mem _ hx))
    refine q.mono (Nat.le_refl _) ?_
    rw [List.length_cons, Nat.mul_add, Nat.mul_one]
    omega
theorem FineX.len {n W : Nat} {d : PyData} (h : FineX n W d) (hW : W ≤ 300000) : d.shown.length ≤ sizeLine := by
  have q := PyData.shown_le 40 (by decide) d h.lea
  have := h.wei
  rw [sizeLine_eq]
  omega
section
variable {X : Cx}
def ShownX (N : Addr → Prop) (K : PySem.W.Frag) (H : Hp) (v : V) (d : PyData) : Prop := (∀ a, N a → a ≠ sysModules) ∧ DX N K H v d ∧ isDisplay d = true ∧ d.showable = true ∧ d.depth ≤ 60 ∧ d.shown.length ≤ sizeLine
theorem FineX.shown {N : Addr → Prop} {K : PySem.W.Frag} {H : Hp} {v : V} {n W : Nat} {d : PyData} (h : FineX n W d) (hn : n ≤ 60) (hW : W ≤ 300000) (hN : ∀ a, N a → a ≠ sysModules) (hd : DX N K H v d) (hi : isDisplay d = true) : ShownX N K H v d :=
  ⟨hN, hd, hi, h.sho, Nat.le_trans h.dep hn, h.len hW⟩
/-- a list display, told that it is not sys.modules -/
def tLstS (t : TA) : TE := fun σ H Q => t σ H fun xs H1 => xs.length ≤ sizeLine ∧ ∀ p, H1 p = none → p ≠ sysModules → Q (.ref p) (upd H1 p (.lst xs))
theorem pe_lstS {es : List Expr} {t : TA} {pos : Pos} (h : PA X es t) : PE X (.List es pos) (tLstS t) := by
  refine ⟨fun pins s σ H Q I hq => ?_⟩
  refine wpAny_List_spliced (thn (h.run pos pins s σ H _ I hq) fun us s1 ⟨xs, H1, I1, r, z, q⟩ => ⟨by rw [← r.length]; exact z, ?_⟩)
  have hf : H1 s1.heap.objs.size = none := I1.hok.fresh (Nat.le_refl _)
  refine ⟨.ref s1.heap.objs.size, upd H1 s1.heap.objs.size (.lst xs), I1.laid (t' := s1.toks) (fun b u e => Heap.get?_push_of_some _ e) (Nat.le_refl _) ?_, rfl, q _ hf (Ne.symm (Nat.ne_of_lt I1.big))⟩
  exact ⟨z, us, 0, r, Heap.get?_push_size _ rfl⟩
end
end Sv
set_option maxHeartbeats 4000000
namespace Sv
open PySem PySem.Spec PyProof.Rows L2
theorem tuple_mulW1 (l : Addr) (items : Array Value) (n : Nat) (dd : Option Addr) (sl : Array (Option Value)) (u : Tok) (c1 : (items.isEmpty || (1 : Int) == 1) = true) :
    Meets (Builtin.«tuple.__mul__» ⟨[.ref l, .int 1 u], []⟩) (fun _ R s => s.heap.get? l = some { cls := .type "tuple", dict := dd, data := .seq items n, slots := sl } ∧ R (.ok (.ret (Value.ref l))) s) :=
  .of_wp fun prog w A R s h => by
    obtain ⟨hp, g, d, tk, os⟩ := s
    obtain ⟨hl, h⟩ := h
    have f1 := AutoSeq1.idx_int
    wp_walk using wpAny_loadPart' hl
    repeat (first
      | (refine wpAny_ite_true (decide_eq_true c1) ?_; wp_walk using wpAny_loadPart' hl)
      | (refine wpAny_ite_false (decide_eq_false (by decide)) ?_; wp_walk using wpAny_loadPart' hl))
    exact ⟨_, rfl, h⟩
section
variable {X : Cx}
def rRep1 (K : PySem.W.Frag) : R2 := fun x y H Q => ∃ l xs, x = .ref l ∧ y = .int 1 ∧ SqT K H l xs ∧ Q (.ref l) H
theorem op_rep1 : OpR X (binaryOp .Mult) (rRep1 X.K) := by
  intro pins s σ H x y v u Q I rx ry h
  obtain ⟨l, xs, rfl, rfl, hT, q⟩ := h
  cases rx
  obtain ⟨t, rfl⟩ := ry
  obtain ⟨its, r, ⟨⟨cls, dd, data, sl⟩, ho, hc, n, hd⟩, hs⟩ := I.tuple hT
  simp only at hc hd
  subst hc hd
  refine wpAny_binaryOp_repeat_ref (T := "tuple") (U := "int") (by decide) ⟨_, ho, rfl⟩ (fun s' => typeIs_int s' 1 t) noFill_tuple_mul F.fills_int_mul F.slot_int_rmul repeat_tuple F.slot_int_index.lookup
    (call_meets F.slot_int_rmul (typeIs_int s 1 t) F.entry_int_rmul (F.args_int_rmul_2 _ _) (int_rmul_tuple 1 t l its.toArray n dd sl)
      ⟨ho, rfl, ⟨_, ho, rfl⟩, call_meets F.slot_tuple_mul ⟨_, ho, rfl⟩ F.entry_tuple_mul (F.args_tuple_mul_2 _ _) (tuple_mulW1 l its.toArray n dd sl t (by simp)) ⟨ho, ?_⟩⟩)
  exact ⟨.ref l, H, I, rfl, q⟩
end
end Sv
namespace Sv
open PySem PySem.Spec PyProof.Rows L2
def TupT (H : Hp) (a : Addr) (xs : List V) : Prop := H a = some (.tup xs) ∨ ∃ o, H a = some (.frz o (.tup xs))
theorem TupT.sqT {K : PySem.W.Frag} {H : Hp} {a : Addr} {xs : List V} (h : TupT H a xs) : SqT K H a xs := .inl h
end Sv
set_option maxHeartbeats 1000000
namespace Sv
open PySem
structure ZDist (z TI TO : Addr) (its ls : List Addr) : Prop where
  nd : (z :: TI :: TO :: its).Nodup
  away : ∀ l ∈ ls, l ∉ z :: TI :: TO :: its
  len : its.length = ls.length
  ne : its ≠ []
  sm : its.length ≤ 1000
end Sv
set_option maxHeartbeats 1000000
namespace Sv
open PySem
section
variable {prog : Program} {w : World} {A : Around} {E : Value → Shared → Prop} {s : Shared}
theorem ZDist.inj {z TI TO : Addr} {its ls : List Addr} (D : ZDist z TI TO its ls) {i j : Nat} {a : Addr} (h : its[i]? = some a) (g : its[j]? = some a) : i = j := by
  have n := D.nd
  simp only [List.nodup_cons] at n
  have n3 := n.2.2.2
  have hi := (List.getElem?_eq_some_iff.mp h).1
  exact (List.getElem?_inj hi n3).mp (h.trans g.symm)
end
end Sv
set_option maxHeartbeats 1000000
set_option maxHeartbeats 1000000
set_option maxHeartbeats 1000000
set_option maxHeartbeats 1000000
namespace Sv
open PySem PySem.Spec PyProof.Rows L2
section
variable {P : Program} {w : World} {K : PySem.W.Frag} {mg mb : Str → Option Value} {k : Nat} {fa a : Addr} {fd : FuncData} {x : Str} {sp : Sp}
  {s₁ : Shared} {vs : List Value} {ns : List Int}
/-- from one abstract heap that tracks nothing but the script -/
theorem headG_core (H : Hp) (KX : K.In s₁.heap) (hns : s₁.heap.Ns mainGlobals mg) (hb : s₁.heap.Ns builtinsNs mb)
    (hbb : ∀ y : Str, y ≠ "__name__" → mb y = bootBuiltins y) (hlim : s₁.heap.NoLimit) (hg : s₁.gens = #[])
    (ha : s₁.heap.get? a = some { cls := .type "list", data := .seq vs.toArray }) (hr : Room k callerA)
    (F : ∀ base : Heap, K.In base → base.Ns mainGlobals mg → FnG P w K mg base k fa fd [x] sp)
    (hbind : ∀ (s : Shared) (u : Value), BindsTo s fd ⟨[u], []⟩ [(x, u)])
    (hO : Only H) (hsp : sp [.ref a] H (fun v _ => v = .bl true) fun _ _ _ => False)
    (hok : HOk P w H s₁.heap) (hA : ∀ b, H b ≠ none → b = a) (hK : H a ≠ none → K.lookup a = none) :
    codeAny (model P w) callerA (.call (.ref fa) ⟨[.ref a], []⟩)
      (fun r s' => r = .ok (.ret (.bool true)) ∧ OldK s₁.heap s'.heap ∧ s'.os = s₁.os ∧ AllBare s'.gens) s₁ := by
  have tr : ∀ {b : Addr} {u : HO}, H b = some u → b = a := fun {b u} q => hA b (by rw [q]; exact Option.some_ne_none u)
  have under : ∀ {b : Addr} {o : Obj}, s₁.heap.get? b = some o → H b = none → (hidT s₁.heap H).get? b = some o := fun e n => hidT_get e n
  have dictN : ∀ {b : Addr} {o : Obj} {es : Array DictEntry} {ep : Nat}, s₁.heap.get? b = some o → o.data = .dict es ep → H b = none := by
    intro b o es ep e d
    rcases hH : H b with _ | u
    · rfl
    · have eb := tr hH
      rw [eb, ha] at e
      rw [← Option.some.inj e] at d
      exact absurd d (by intro z; cases z)
  have nsK : ∀ {b : Addr} {m : Str → Option Value}, s₁.heap.Ns b m → (hidT s₁.heap H).Ns b m := by
    rintro b m ⟨o, es, ep, e, d, r⟩
    exact ⟨o, es, ep, under e (dictN e d), d, r⟩
  have hKb : K.In (hidT s₁.heap H) := by
    intro b o e
    refine under (KX b o e) ?_
    rcases hH : H b with _ | u
    · rfl
    · have eb := tr hH
      rw [eb] at e hH
      rw [hK (by rw [hH]; exact Option.some_ne_none u)] at e
      cases e
  have hM : Mod K mg (hidT s₁.heap H) := by
    obtain ⟨mc, l1, l2⟩ := hlim
    exact ⟨hKb, nsK hns, ⟨mb, nsK hb, hbb⟩, ⟨mc, nsK l1, l2⟩⟩
  have e0 : Env0 P w K mg (hidT s₁.heap H) callerA [] s₁ H := by
    refine ⟨rfl, hM, fun b o e => of_hidT e, Nat.le_of_eq (hidT_size _ _), trivial, fun b hb => ?_, hok, .of_eq hg⟩
    exact absurd (show b ∈ ([] : List Addr) from hb) List.not_mem_nil
  have hrun := (F _ hKb (nsK hns)).run callerA rfl [] s₁ H ⟨[.ref a], []⟩ [.ref a] [.ref a] _ _ hr e0 (hbind s₁ (.ref a)) (.cons rfl .nil) hsp
  refine codeAny_mono hrun fun r s' h => ?_
  match r, h with
  | .error e, h => exact absurd h id
  | .ok .next, h => exact absurd h id
  | .ok .brk, h => exact absurd h id
  | .ok .cont, h => exact absurd h id
  | .ok (.ret u), h =>
    obtain ⟨v, H', os, bare, un, hok', r', q⟩ := h
    obtain rfl : v = .bl true := q
    obtain rfl : u = Value.bool true := r'
    refine ⟨rfl, OldK.of_keep fun b o e => ?_, os, bare⟩
    rcases hO b with z | ⟨ob, xs, z⟩
    · exact un.keep b o e z (fun m => absurd (show b ∈ ([] : List Addr) from m) List.not_mem_nil) List.not_mem_nil
    · obtain ⟨e1, _⟩ := hok b _ z
      obtain ⟨e2, _⟩ := hok' b _ (un.frzs b ob _ z)
      rw [← e, e1]
      exact e2
theorem headG (KX : K.In s₁.heap) (hns : s₁.heap.Ns mainGlobals mg) (hb : s₁.heap.Ns builtinsNs mb)
    (hbb : ∀ y : Str, y ≠ "__name__" → mb y = bootBuiltins y) (hlim : s₁.heap.NoLimit) (hg : s₁.gens = #[])
    (ha : s₁.heap.get? a = some { cls := .type "list", data := .seq vs.toArray }) (hi : IntsAre vs ns) (hl : ns.length ≤ sizeLine) (hr : Room k callerA)
    (F : ∀ base : Heap, K.In base → base.Ns mainGlobals mg → FnG P w K mg base k fa fd [x] sp)
    (hbind : ∀ (s : Shared) (u : Value), BindsTo s fd ⟨[u], []⟩ [(x, u)])
    (hsp : ∀ H : Hp, Only H → SqL K H a (ns.map V.int) → sp [.ref a] H (fun v _ => v = .bl true) fun _ _ _ => False) :
    codeAny (model P w) callerA (.call (.ref fa) ⟨[.ref a], []⟩)
      (fun r s' => r = .ok (.ret (.bool true)) ∧ OldK s₁.heap s'.heap ∧ s'.os = s₁.os ∧ AllBare s'.gens) s₁ := by
  have rv := vals_ints hi
  rcases hk : K.lookup a with _ | o
  · have hE : ∀ b, (if b = a then some (HO.frz { cls := .type "list", data := .seq vs.toArray } (.lst (ns.map V.int))) else none) ≠ none → b = a := by
      intro b z
      by_cases hb : b = a
      · exact hb
      · rw [if_neg hb] at z
        exact absurd rfl z
    have hO : Only fun b => if b = a then some (HO.frz { cls := .type "list", data := .seq vs.toArray } (.lst (ns.map V.int))) else none := by
      intro b
      by_cases hb : b = a
      · exact .inr ⟨_, _, if_pos hb⟩
      · exact .inl (if_neg hb)
    refine headG_core _ KX hns hb hbb hlim hg ha hr F hbind hO (hsp _ hO (.inl (.inr ⟨_, if_pos rfl⟩))) (fun b u z => ?_) hE fun _ => hk
    have hba : b = a := hE b (by rw [z]; exact Option.some_ne_none u)
    subst hba
    obtain rfl := Option.some.inj ((if_pos rfl).symm.trans z)
    exact ⟨ha, by rw [List.length_map]; exact hl, vs, _, rv, ha⟩
  · have e := KX a o hk
    obtain rfl := Option.some.inj (ha.symm.trans e)
    have hO : Only fun _ => none := fun _ => .inl rfl
    refine headG_core (fun _ => none) KX hns hb hbb hlim hg ha hr F hbind hO (hsp _ hO (.inr ⟨_, vs.toArray, _, hk, rfl, rfl, rfl, ?_, by simpa using rv⟩))
      (fun b u z => absurd (show (none : Option HO) = some u from z) (by intro q; cases q)) (fun b z => absurd rfl z) fun z => absurd rfl z
    rw [List.size_toArray, hi.length]
    exact hl
end
/-- the goal that the head leaves -/
theorem walkG {l : PySem.W.OpenLaw} {n k : Nat} {q : Program} {loose : List Str} {XP : (Str → Option Value) → Heap → Prop} {YP : World → Heap → Prop}
    {d : DefRec} {K : Params → PySem.W.Frag} {sp : PySem.W.Frag → Sp} {x : Str}
    (hn : l.most = some n) (hn2 : n ≤ sizeLine) (hdf : d.params.defaults = []) (hr : Room k callerA)
    (hY : ∀ (w : World) (h : Heap), YP w h → (K w.params).In h)
    (F : ∀ (w : World) (mg : Str → Option Value) (fa : Addr) (h : Heap), (K w.params).In h → h.Ns mainGlobals mg → mg d.name = some (.ref fa) →
      ∃ fd : FuncData, (∀ (s : Shared) (u : Value), BindsTo s fd ⟨[u], []⟩ [(x, u)]) ∧
        ∀ base : Heap, (K w.params).In base → base.Ns mainGlobals mg → FnG l.prog w (K w.params) mg base k fa fd [x] (sp (K w.params)))
    (hsp : ∀ (K : PySem.W.Frag) (H : Hp) (a : Addr) (ns : List Int), ns.length ≤ n → Only H → SqL K H a (ns.map V.int) → sp K [.ref a] H (fun v _ => v = .bl true) fun _ _ _ => False) :
    PySem.W.WalkO q loose XP YP l.row.toRowW d [] (fun f vs => PySem.call f vs) := by
  refine Att.attach_call hn hdf fun w s₀ s₁ mg mb fa o pm cd doc a vs ns G Y ho hd hcd hmg hobj hints hlen hg => ?_
  obtain ⟨fd, hbd, hF⟩ := F w mg fa _ (hY w _ Y) G.T.g hmg
  exact headG (hY w _ Y) G.T.g G.T.b G.T.builtins G.T.nolimit hg hobj hints (Nat.le_trans hlen hn2) hr hF hbd fun H h1 h2 => hsp _ H a ns hlen h1 h2
end Sv
set_option maxHeartbeats 1000000
namespace Sv
open PySem PySem.Spec PyProof.Rows L2
/-- the tuple at a and the list at b, side by side in new pairs -/
def ItzM (K : PySem.W.Frag) (a b : Addr) : It where
  go := fun i H => ∃ (xs ys : List V), SqT K H a xs ∧ SqL K H b ys ∧ i < xs.length ∧ i < ys.length
  yld := fun i H v H' => ∃ T x y, v = .ref T ∧ H T = none ∧ H' = upd H T (.tup [x, y]) ∧ (∀ xs, SqT K H a xs → xs[i]? = some x) ∧ ∀ ys, SqL K H b ys → ys[i]? = some y
  stop := fun i H => ∃ (xs ys : List V), SqT K H a xs ∧ SqL K H b ys ∧ i ≤ xs.length ∧ i ≤ ys.length ∧ (i = xs.length ∨ i = ys.length)
theorem turn_zipM {P : Program} {w : World} {K : PySem.W.Frag} {elts : List Expr} {kk : Nat} {tpos : Pos} {a b z TI TO i1 i2 : Addr} (S : ZipSep2 z TI TO i1 i2 [i1, a] [i2, b]) (na : a ≠ i1) (nb : b ≠ i2) :
    Turn P w K (.Tuple elts kk tpos) (ItzM K a b) [z, TI, TO, i1, i2] z
      (fun i g => IsZip g z TI TO .none ∧ IsTupOf2 g TI (.ref i1) (.ref i2) ∧ (∃ u v, IsTupOf2 g TO u v) ∧ g.IsTupleIter i1 a i ∧ g.IsListIter i2 b i) where
  mem := by simp
  obj := fun i g st c hc => by
    obtain ⟨gz, gI, ⟨u, v, gO⟩, ⟨p1, e1, _, d1⟩, ⟨p2, e2, _, d2⟩⟩ := st
    rcases (show c = z ∨ c = TI ∨ c = TO ∨ c = i1 ∨ c = i2 by simpa using hc) with r | r | r | r | r <;> rw [r]
    · exact ⟨_, gz, fun _ n => nomatch n⟩
    · exact ⟨_, gI, fun _ n => nomatch n⟩
    · exact ⟨_, gO, fun _ n => nomatch n⟩
    · exact ⟨p1, e1, fun _ n => by rw [d1] at n; cases n⟩
    · exact ⟨p2, e2, fun _ n => by rw [d2] at n; cases n⟩
  keep := fun i g g' st k => by
    obtain ⟨gz, gI, ⟨u, v, gO⟩, j1, j2⟩ := st
    exact ⟨k z (by simp) _ gz, k TI (by simp) _ gI, ⟨u, v, k TO (by simp) _ gO⟩, j1.at fun o n => k i1 (by simp) o n, j2.at fun o n => k i2 (by simp) o n⟩
  item := by
    intro X hP hw hK hc i pins s σ H E I hf st hg
    subst hP hw hK
    obtain ⟨gz, gI, ⟨u0, v0, gO⟩, j1, j2⟩ := st
    obtain ⟨xs, ys, qa, qb, la, lb⟩ := hg
    obtain ⟨ia, va, pa, _⟩ := I.tuple qa
    obtain ⟨ib, vb, pb, _⟩ := I.list qb
    have na1 := va.length
    have nb1 := vb.length
    have zl : z < s.heap.objs.size := Heap.lt_size gz
    have hd1 : X.A.in1.handled = none := I.ok.hd hc
    have D1 := Draws.tuple (prog := X.prog) (w := X.w) (A := X.A.in1) hd1 i1 a na ia.toArray
    have D2 := Draws.list (prog := X.prog) (w := X.w) (A := X.A.in1) hd1 i2 b nb ib.toArray
    refine wpAny_pyNext_zipD2_item S D1 D2 gz gI gO ⟨j1, pa⟩ ⟨j2, pb.isList⟩ (by rw [List.size_toArray]; omega) (by rw [List.size_toArray]; omega) fun y1 y2 g' tk h1 h2 gz' gO' st1 st2 gT gsz gk => ?_
    refine ⟨_, rfl, wpAny_letOwnedTupleGo_zip (s := { s with heap := g', toks := tk }) gz' fun g2 gz2 sb => ?_⟩
    obtain ⟨x, hx⟩ : ∃ x, xs[i]? = some x := ⟨_, List.getElem?_eq_getElem la⟩
    obtain ⟨y, hy⟩ : ∃ y, ys[i]? = some y := ⟨_, List.getElem?_eq_getElem lb⟩
    obtain ⟨w1, hw1, r1⟩ := va.get hx
    obtain ⟨w2, hw2, r2⟩ := vb.get hy
    obtain rfl : w1 = y1 := Option.some.inj (hw1.symm.trans (by simpa using h1))
    obtain rfl : w2 = y2 := Option.some.inj (hw2.symm.trans (by simpa using h2))
    have gT2 : g2.get? s.heap.objs.size = some { cls := .type "tuple", data := .seq #[w1, w2] } := (sb.2 _ (Nat.ne_of_gt zl)).trans gT
    have fresh : ObjOk X.prog X.w (upd H s.heap.objs.size (.tup [x, y])) g2 s.heap.objs.size (.tup [x, y]) := by
      refine ⟨?_, [w1, w2], .cons r1 (.cons r2 .nil), ⟨_, gT2, rfl, _, rfl⟩⟩
      show 2 ≤ sizeLine
      decide
    have J : Inv X pins σ (upd H s.heap.objs.size (.tup [x, y])) { s with heap := g2, toks := tk } := by
      refine I.turnedNew (ch := [z, TI, TO, i1, i2]) (fun c o hb n => ?_) hf (Nat.le_refl _) fresh
      have nn : c ≠ z ∧ c ≠ TI ∧ c ≠ TO ∧ c ≠ i1 ∧ c ≠ i2 := by simpa using hb
      exact (sb.2 c nn.1).trans (gk c o nn.1 nn.2.2.1 nn.2.2.2.1 nn.2.2.2.2 n)
    have zi1 := S.zi1
    have zi2 := S.zi2
    refine ⟨.ref s.heap.objs.size, _, J, rfl, ⟨_, x, y, rfl, I.hok.fresh (Nat.le_refl _), rfl, fun l hl => by rw [I.tuple_inj hl qa]; exact hx, fun l hl => ?_⟩, ⟨gz2, ?_, ⟨w1, w2, ?_⟩, ?_, ?_⟩, fun c hcm => ?_⟩
    · rw [I.list_inj hl qb]
      exact hy
    · exact (sb.2 _ S.TIz).trans (gk _ _ S.TIz S.TITO S.TIi1 S.TIi2 gI)
    · exact (sb.2 _ S.TOz).trans gO'
    · exact st1.1.at fun o n => (sb.2 _ zi1.symm).trans n
    · exact st2.1.at fun o n => (sb.2 _ zi2.symm).trans n
    · have lt : c < s.heap.objs.size := by
        rcases (show c = z ∨ c = TI ∨ c = TO ∨ c = i1 ∨ c = i2 by simpa using hcm) with r | r | r | r | r <;> rw [r]
        · exact zl
        · exact Heap.lt_size gI
        · exact Heap.lt_size gO
        · obtain ⟨_, e1, _⟩ := j1; exact Heap.lt_size e1
        · obtain ⟨_, e2, _⟩ := j2; exact Heap.lt_size e2
      rw [upd_ne (Nat.ne_of_lt lt)]
      exact (hf c hcm).1
  done := by
    intro X hP hw hK hc i pins s σ H E I hf st hg
    subst hP hw hK
    obtain ⟨gz, gI, ⟨u0, v0, gO⟩, j1, j2⟩ := st
    obtain ⟨xs, ys, qa, qb, la, lb, hend⟩ := hg
    obtain ⟨ia, va, pa, _⟩ := I.tuple qa
    obtain ⟨ib, vb, pb, _⟩ := I.list qb
    have na1 := va.length
    have nb1 := vb.length
    have hd1 : X.A.in1.handled = none := I.ok.hd hc
    have D1 := Draws.tuple (prog := X.prog) (w := X.w) (A := X.A.in1) hd1 i1 a na ia.toArray
    have D2 := Draws.list (prog := X.prog) (w := X.w) (A := X.A.in1) hd1 i2 b nb ib.toArray
    exact wpAny_pyNext_zipD2_end S D1 D2 gz gI gO ⟨j1, pa⟩ ⟨j2, pb.isList⟩ (by rw [List.size_toArray]; omega) (by rw [List.size_toArray]; omega) (by rw [List.size_toArray, List.size_toArray]; omega) fun g' tk gk =>
      ⟨rfl, I.turnedL (t' := tk) (ch := [z, TI, TO, i1, i2]) (fun c o hb n => by
        have nn : c ≠ z ∧ c ≠ TI ∧ c ≠ TO ∧ c ≠ i1 ∧ c ≠ i2 := by simpa using hb
        exact gk c o nn.1 nn.2.2.1 nn.2.2.2.1 nn.2.2.2.2 n) hf⟩
  self := fun A i s Q E st h => wpAny_pyIter_zip st.1 h
def iZipM (K : PySem.W.Frag) (ta : TA) : TI := fun σ H R => ta σ H fun vs H1 => ∃ a b xs ys, vs = [.ref a, .ref b] ∧ SqT K H1 a xs ∧ SqL K H1 b ys ∧ R (ItzM K a b) H1
theorem pi_zipM {X : Cx} {e e2 : Expr} {ta : TA} {p pos tpos : Pos} {elts : List Expr} {kk : Nat} (hg : Gl X "zip") (hm : X.mg "zip" = none) (ha : PA X [e, e2] ta)
    (hs : starEach [e, e2] X.env = (false, eval e X.env) :: starEach [e2] X.env := by rfl) (hpl : (backTo pos (starEach [e2] X.env)).any (·.1) = false := by rfl) :
    PI X (.Tuple elts kk tpos) (.Call (.Name "zip" p) [e, e2] [] pos) (iZipM X.K ta) := by
  refine ⟨fun pins s σ H R I h => ?_⟩
  refine Call_ (ld_blt I hg hm PyProof.Rows.boot_zip (PyProof.Rows.callWith_type1 (thn (ha.run pos pins s σ H _ I h) fun us s1 ⟨vs, H1, I1, r1, q1⟩ => ?_) hs hpl))
  obtain ⟨a, b, xs, ys, rfl, qa, qb, q1⟩ := q1
  obtain ⟨u1, u2, rfl, ru1, ru2⟩ : ∃ u1 u2, us = [u1, u2] ∧ RelV (.ref a) u1 ∧ RelV (.ref b) u2 := by
    cases r1 with
    | cons r rr =>
      cases rr with
      | cons r' rr =>
        cases rr
        exact ⟨_, _, rfl, r, r'⟩
  cases ru1
  cases ru2
  obtain ⟨ia, va, pa, _⟩ := I1.tuple qa
  obtain ⟨ib, vb, pb, _⟩ := I1.list qb
  have al : a < s1.heap.objs.size := by
    obtain ⟨o, ho, _⟩ := id pa
    exact Heap.lt_size ho
  have bl : b < s1.heap.objs.size := pb.lt
  refine zip_begins2 (begins_tuple a ia.toArray) (begins_list b ib.toArray) pa pb.isList fun g gz gI gO g1 g2 gsz gk => wpAny_pyIter_zip gz ?_
  have J : Inv X pins σ H1 { s1 with heap := g } := I1.kept (t' := s1.toks) gk
  have S : ZipSep2 (s1.heap.objs.size + 4) (s1.heap.objs.size + 2) (s1.heap.objs.size + 3) s1.heap.objs.size (s1.heap.objs.size + 1) [s1.heap.objs.size, a] [s1.heap.objs.size + 1, b] :=
    zip_sep2 (fun c hc => by rw [List.mem_singleton.mp hc]; exact al) (fun c hc => by rw [List.mem_singleton.mp hc]; exact bl)
  refine ⟨s1.heap.objs.size + 4, [s1.heap.objs.size + 4, s1.heap.objs.size + 2, s1.heap.objs.size + 3, s1.heap.objs.size, s1.heap.objs.size + 1], _, _, H1, rfl, J, turn_zipM S (Nat.ne_of_lt al) (Nat.ne_of_lt (Nat.lt_succ_of_lt bl)),
    ⟨gz, gI, ⟨_, _, gO⟩, ⟨_, g1, rfl, rfl⟩, ⟨_, g2, rfl, rfl⟩⟩, fun c hc => ?_, q1⟩
  have hle : s1.heap.objs.size ≤ c := by
    rcases (show c = s1.heap.objs.size + 4 ∨ c = s1.heap.objs.size + 2 ∨ c = s1.heap.objs.size + 3 ∨ c = s1.heap.objs.size ∨ c = s1.heap.objs.size + 1 by simpa using hc) with r | r | r | r | r <;> rw [r]
    · exact Nat.le_add_right _ _
    · exact Nat.le_add_right _ _
    · exact Nat.le_add_right _ _
    · exact Nat.le_refl _
    · exact Nat.le_add_right _ _
  exact I1.fpOk hle (I1.hok.fresh hle)
end Sv
namespace Sv
open PySem PySem.Spec PyProof.Rows L2
def tFrz (t : TE) : TE := fun σ H Q => t σ H fun v H1 => ∃ d u, v = .ref d ∧ H1 d = some u ∧ Mut (some u) ∧ ∀ od, Q v (upd H1 d (.frz od u))
theorem pe_frz {X : Cx} {e : Expr} {t : TE} (h : PE X e t) : PE X e (tFrz t) := by
  refine ⟨fun pins s σ H Q I hw => ?_⟩
  refine thn (h.run pins s σ H _ I hw) fun v s1 ⟨x, H1, I1, r, d, u, ex, hd, mu, q⟩ => ?_
  obtain ⟨od, I2⟩ := I1.lock hd mu
  exact ⟨x, _, I2, r, q od⟩
end Sv
set_option maxHeartbeats 1000000
namespace Sv
open PySem PySem.Spec PyProof.Rows L2
/-- lists that rise by a number are told by their members -/
theorem rise_eq {α : Type} (f : α → Int) : ∀ (l r : List α), l.Pairwise (fun a b => f a < f b) → r.Pairwise (fun a b => f a < f b) → (∀ x, x ∈ l ↔ x ∈ r) → l = r
  | [], [], _, _, _ => rfl
  | [], b :: r, _, _, h => absurd ((h b).mpr List.mem_cons_self) List.not_mem_nil
  | a :: l, [], _, _, h => absurd ((h a).mp List.mem_cons_self) List.not_mem_nil
  | a :: l, b :: r, h1, h2, h => by
    obtain ⟨p1, q1⟩ := List.pairwise_cons.mp h1
    obtain ⟨p2, q2⟩ := List.pairwise_cons.mp h2
    have e : a = b := by
      rcases List.mem_cons.mp ((h a).mp List.mem_cons_self) with z | z
      · exact z
      · rcases List.mem_cons.mp ((h b).mpr List.mem_cons_self) with y | y
        · exact y.symm
        · have := p2 a z
          have := p1 b y
          omega
    subst e
    congr 1
    refine rise_eq f l r q1 q2 fun x => ⟨fun z => ?_, fun z => ?_⟩
    · rcases List.mem_cons.mp ((h x).mp (List.mem_cons_of_mem _ z)) with y | y
      · subst y
        exact absurd (p1 _ z) (Int.lt_irrefl _)
      · exact y
    · rcases List.mem_cons.mp ((h x).mpr (List.mem_cons_of_mem _ z)) with y | y
      · subst y
        exact absurd (p2 _ z) (Int.lt_irrefl _)
      · exact y
/-- pairs by one number -/
def pc (x : Int × Int) : Int := x.1 * 64 + x.2
end Sv
namespace Sz
open PySem
/-- a frame of no generator's waking -/
def NoGen : Frame → Prop
  | .gen .. => False
  | _ => True
def GF (fs : List Frame) : Prop := ∀ f ∈ fs, NoGen f
def GFGen : GenState → Prop
  | .suspended _ _ _ _ fs _ => GF fs
  | _ => True
/-- it can't be woken -/
def Stuck : GenState → Prop
  | .suspended k _ _ _ _ _ => ∀ r, ∃ why, k r = .unsupported why
  | _ => False
abbrev Fz := Nat → Option GenState
def plug (F : Fz) (s : Shared) : Shared := { s with gens := s.gens.mapIdx fun i x => (F i).getD x }
structure Ok (F : Fz) (s : Shared) : Prop where
  fz : ∀ i st, F i = some st → ∃ x, s.gens[i]? = some x ∧ x.seen = st.seen ∧ Stuck x
  fr : ∀ i x, s.gens[i]? = some x → F i = none → GFGen x
variable {F : Fz} {M : Model}
theorem plug_at {s : Shared} {i : Nat} : (plug F s).gens[i]? = s.gens[i]?.map fun x => (F i).getD x := by
  unfold plug
  rw [Array.getElem?_mapIdx]
theorem plug_free {s : Shared} {i : Nat} {x : GenState} (h : s.gens[i]? = some x) (hf : F i = none) : (plug F s).gens[i]? = some x := by
  rw [plug_at, h, hf]
  rfl
theorem Ok.set {s : Shared} (h : Ok F s) {i : Nat} {x : GenState} (hf : F i = none) (hx : GFGen x) : Ok F (s.setGen i x) := by
  refine ⟨fun j st e => ?_, fun j y hy e => ?_⟩
  · have hne : i ≠ j := fun z => by
      subst z
      rw [hf] at e
      cases e
    obtain ⟨y, h1, h2⟩ := h.fz j st e
    refine ⟨y, ?_, h2⟩
    show (s.gens.setIfInBounds i x)[j]? = _
    rw [Array.getElem?_setIfInBounds, if_neg hne]
    exact h1
  · have hy : (s.gens.setIfInBounds i x)[j]? = some y := hy
    rw [Array.getElem?_setIfInBounds] at hy
    by_cases z : i = j
    · rw [if_pos z] at hy
      split at hy
      · cases hy
        exact hx
      · cases hy
    · rw [if_neg z] at hy
      exact h.fr j y hy e
theorem Ok.push {s : Shared} (h : Ok F s) {x : GenState} (hx : GFGen x) : Ok F { s with gens := s.gens.push x } := by
  refine ⟨fun j st e => ?_, fun j y hy e => ?_⟩
  · obtain ⟨y, h1, h2⟩ := h.fz j st e
    refine ⟨y, ?_, h2⟩
    show (s.gens.push x)[j]? = _
    rw [Array.getElem?_push, if_neg (Nat.ne_of_lt (Array.getElem?_eq_some_iff.mp h1).1)]
    exact h1
  · have hy : (s.gens.push x)[j]? = some y := hy
    rw [Array.getElem?_push] at hy
    split at hy
    · cases hy
      exact hx
    · exact h.fr j y hy e
theorem Ok.seen {s : Shared} (o : Ok F s) {i : Nat} {st : GenState} (hs : s.gens[i]? = some st) : ∃ st', (plug F s).gens[i]? = some st' ∧ st'.seen = st.seen := by
  cases hf : F i with
  | none => exact ⟨st, plug_free hs hf, rfl⟩
  | some st' =>
    obtain ⟨x, hx, h2, _⟩ := o.fz i st' hf
    rw [hs] at hx
    cases hx
    refine ⟨st', ?_, h2.symm⟩
    rw [plug_at, hs, hf]
    rfl
open Sem (wp)
def IsSusp : GenState → Prop
  | .suspended .. => True
  | _ => False
end Sz
namespace Sz
open PySem PySem.Spec PyProof.Rows L2
section
variable {X : Cx} {pins : List (Addr × Obj)} {σ : L2.St} {H : Hp} {s : Shared}
/-- what sleeps in s sleeps in s' -/
def Stays (s s' : Shared) : Prop := ∀ (g : Nat) (st : GenState), s.gens[g]? = some st → IsSusp st → s'.gens[g]? = some st
theorem Stays.trans {a b c : Shared} (h : Stays a b) (k : Stays b c) : Stays a c := fun g st e z => k g st (h g st e z) z
end
end Sz
namespace Sz
open PySem PySem.Spec PyProof.Rows L2 GenW
end Sz
set_option autoImplicit false
namespace Sz
open PySem PySem.Spec PyProof.Rows L2 GenW
open Sem (wp)
/-- from here the run comes to an end of this kind -/
def Sg (M : Model) (A : Around) (Φ : End → Shared → Prop) (c : Code) (t : Sem PySem.Fin) (fs : List Frame) (s : Shared) : Prop :=
  ∀ Γ p, Γ.code = c → Γ.Woken A → ∃ e s', Runs M Γ p t fs s e s' ∧ Φ e s'
abbrev PostG := End → Shared → Prop
def WkG (M : Model) (A : Around) (Φ : PostG) (gs : GenState) (r : Resume) (s : Shared) : Prop :=
  match gs with
  | .fresh c => r = .send .none ∧ Sg M A Φ c (M.den c) [] s
  | .suspended k _ c _ fs _ => Sg M A Φ c (k r) fs s
  | _ => False
end Sz
set_option autoImplicit false
namespace Sz
open PySem
open Sem (wp)
structure Dead (s s' : Shared) : Prop where
  sz : s.heap.objs.size ≤ s'.heap.objs.size
  no : ∀ b, b < s.heap.objs.size → s.heap.get? b = none → s'.heap.get? b = none
theorem Dead.refl (s : Shared) : Dead s s := ⟨Nat.le_refl _, fun _ _ h => h⟩
theorem Dead.trans {a b c : Shared} (h : Dead a b) (k : Dead b c) : Dead a c := ⟨Nat.le_trans h.sz k.sz, fun x l e => k.no x (Nat.lt_of_lt_of_le l h.sz) (h.no x l e)⟩
theorem Dead.push {s : Shared} {o : Obj} {s' : Shared} (e : s'.heap = s.heap.push o) : Dead s s' := ⟨by rw [e, Heap.size_push]; exact Nat.le_succ _, fun x l h => by
  rw [e]
  have : (s.heap.push o).objs[x]? = s.heap.objs[x]? := by
    show (s.heap.objs.push o)[x]? = _
    rw [Array.getElem?_push, if_neg (Nat.ne_of_lt l)]
  unfold Heap.get? at h ⊢
  rw [this]
  exact h⟩
theorem Dead.set {s s' : Shared} {g : Nat} {x : GenState} (h : Dead (s.setGen g x) s') : Dead s s' := ⟨h.sz, h.no⟩
end Sz
namespace Sv
open PySem PySem.Spec PyProof.Rows L2
/-- a value: tuples and lists that are only read by what they hold; what can change by its address -/
inductive D where
  | non | bl (b : Bool) | int (i : Int) | str (x : Str) | tup (ds : List D) | rol (ds : List D) | ref (a : Addr) | ty (n : String) | dct (kvs : List (Key × D))
  /-- a tuple whose methods are not called -/
  | wtup (ds : List D)
/-- what stands in the store -/
inductive Ob where
  | lst (ds : List D)
  | dK (kvs : List (Key × D))
  /-- an instance of an own class: the class's name, what it holds -/
  | ins (n : Str) (fs : List (Str × D))
  /-- a set of tuples of ints; a set of ints -/
  | tset (L : List (List Int)) | iset (ns : List Int)
abbrev Sto := Addr → Option Ob
def Sto.put (S : Sto) (a : Addr) (o : Ob) : Sto := fun b => if b = a then some o else S b
theorem Sto.same {S : Sto} {a : Addr} {o : Ob} : S.put a o a = some o := if_pos rfl
theorem Sto.ne {S : Sto} {a b : Addr} {o : Ob} (h : b ≠ a) : S.put a o b = S b := if_neg h
theorem Sto.put_put {S : Sto} {a : Addr} {o u : Ob} : (S.put a o).put a u = S.put a u := by
  funext b; unfold Sto.put; split <;> rfl
/-- the program, the world, the written part -/
structure KK where
  P : Program
  w : World
  k : PySem.W.Frag
abbrev _root_.L2.Cx.kk (X : Cx) : KK := ⟨X.prog, X.w, X.K⟩
/-- a list that is only read -/
def Rol (K : KK) (H : Hp) (a : Addr) (vs : List V) : Prop := (∃ o, H a = some (.frz o (.lst vs))) ∨
    ∃ (o : Obj) (its : Array Value) (n : Nat), K.k.lookup a = some o ∧ o.cls = .type "list" ∧ o.dict = none ∧ o.data = .seq its n ∧ its.size ≤ sizeLine ∧ Vals vs its.toList
theorem Rol.sqL {K : KK} {H : Hp} {a : Addr} {vs : List V} (h : Rol K H a vs) : SqL K.k H a vs := by
  rcases h with ⟨o, h⟩ | h
  · exact .inl (.inr ⟨o, h⟩)
  · exact .inr h
/-- what is locked stays -/
def Ext (H H' : Hp) : Prop := (∀ a o u, H a = some (.frz o u) → H' a = some (.frz o u)) ∧ ∀ a xs, H a = some (.tup xs) → H' a = some (.tup xs)
theorem Ext.refl (H : Hp) : Ext H H := ⟨fun _ _ _ h => h, fun _ _ h => h⟩
theorem Ext.trans {H H1 H2 : Hp} (x : Ext H H1) (y : Ext H1 H2) : Ext H H2 := ⟨fun a o u h => y.1 a o u (x.1 a o u h), fun a xs h => y.2 a xs (x.2 a xs h)⟩
theorem Ext.of {H H' : Hp} (h : Same H H') : Ext H H' := ⟨fun a o u e => h _ _ e, fun a xs e => h _ _ e⟩
theorem Ext.new {H : Hp} {p : Addr} {o : HO} (h : H p = none) : Ext H (upd H p o) := .of (Same.new h)
theorem Ext.put {H : Hp} {p : Addr} {o u : HO} (h : H p = some u) (m : Mut (some u)) : Ext H (upd H p o) := by
  refine ⟨fun a ob v e => ?_, fun a xs e => ?_⟩ <;>
  · rw [upd_ne]
    · exact e
    · rintro rfl
      rw [h] at e
      cases e
      exact m
theorem Rol.ext {K : KK} {H H' : Hp} {a : Addr} {vs : List V} (h : Rol K H a vs) (e : Ext H H') : Rol K H' a vs := by
  rcases h with ⟨o, h⟩ | h
  · exact .inl ⟨o, e.1 _ _ _ h⟩
  · exact .inr h
theorem TupN.ext {H H' : Hp} {a : Addr} {xs : List V} (h : TupN H a xs) (e : Ext H H') : TupN H' a xs := by
  obtain ⟨o, h, d⟩ := h
  exact ⟨o, e.1 _ _ _ h, d⟩
mutual
inductive RD (K : KK) (H : Hp) : D → V → Prop
  | non : RD K H .non .non
  | bl (b : Bool) : RD K H (.bl b) (.bl b)
  | int (i : Int) : RD K H (.int i) (.int i)
  | str (x : Str) : RD K H (.str x) (.str x)
  | ref (a : Addr) : RD K H (.ref a) (.ref a)
  | ty (n : String) : RD K H (.ty n) (.ty n)
  | tup {a : Addr} {ds : List D} {vs : List V} : TupN H a vs → RDs K H ds vs → RD K H (.tup ds) (.ref a)
  | rol {a : Addr} {ds : List D} {vs : List V} : Rol K H a vs → RDs K H ds vs → RD K H (.rol ds) (.ref a)
  | dct {a : Addr} {o : Obj} {kvs : List (Key × D)} {vs : List (Key × V)} : H a = some (.frz o (.dK vs)) → RDk K H kvs vs → RD K H (.dct kvs) (.ref a)
  | wtup {a : Addr} {ds : List D} {vs : List V} : H a = some (.tup vs) → RDs K H ds vs → RD K H (.wtup ds) (.ref a)
inductive RDs (K : KK) (H : Hp) : List D → List V → Prop
  | nil : RDs K H [] []
  | cons {d : D} {ds : List D} {v : V} {vs : List V} : RD K H d v → RDs K H ds vs → RDs K H (d :: ds) (v :: vs)
inductive RDk (K : KK) (H : Hp) : List (Key × D) → List (Key × V) → Prop
  | nil : RDk K H [] []
  | cons {k : Key} {d : D} {ds : List (Key × D)} {v : V} {vs : List (Key × V)} : RD K H d v → RDk K H ds vs → RDk K H ((k, d) :: ds) ((k, v) :: vs)
end
section
variable {K : KK} {H H' : Hp}
mutual
theorem RD.ext (e : Ext H H') : ∀ {d : D} {v : V}, RD K H d v → RD K H' d v
  | _, _, .non => .non
  | _, _, .bl b => .bl b
  | _, _, .int i => .int i
  | _, _, .str x => .str x
  | _, _, .ref a => .ref a
  | _, _, .ty n => .ty n
  | _, _, .tup h r => .tup (h.ext e) (RDs.ext e r)
  | _, _, .rol h r => .rol (h.ext e) (RDs.ext e r)
  | _, _, .dct h r => .dct (e.1 _ _ _ h) (RDk.ext e r)
  | _, _, .wtup h r => .wtup (e.2 _ _ h) (RDs.ext e r)
theorem RDs.ext (e : Ext H H') : ∀ {ds : List D} {vs : List V}, RDs K H ds vs → RDs K H' ds vs
  | _, _, .nil => .nil
  | _, _, .cons h r => .cons (RD.ext e h) (RDs.ext e r)
theorem RDk.ext (e : Ext H H') : ∀ {ds : List (Key × D)} {vs : List (Key × V)}, RDk K H ds vs → RDk K H' ds vs
  | _, _, .nil => .nil
  | _, _, .cons h r => .cons (RD.ext e h) (RDk.ext e r)
end
theorem RDk.length : ∀ {ds : List (Key × D)} {vs : List (Key × V)}, RDk K H ds vs → ds.length = vs.length
  | _, _, .nil => rfl
  | _, _, .cons _ r => by rw [List.length_cons, List.length_cons, RDk.length r]
theorem RDk.atv : ∀ {ds : List (Key × D)} {vs : List (Key × V)} {i : Nat} {k : Key} {v : V}, RDk K H ds vs → vs[i]? = some (k, v) → ∃ d, ds[i]? = some (k, d) ∧ RD K H d v
  | _, _, _, _, _, .nil, h => by simp at h
  | _, _, 0, _, _, .cons r _, h => by simp at h; obtain ⟨rfl, rfl⟩ := h; exact ⟨_, rfl, r⟩
  | _, _, i + 1, _, _, .cons _ t, h => RDk.atv (i := i) t (by simpa using h)
theorem RDs.length : ∀ {ds : List D} {vs : List V}, RDs K H ds vs → ds.length = vs.length
  | _, _, .nil => rfl
  | _, _, .cons _ r => by rw [List.length_cons, List.length_cons, RDs.length r]
theorem RDs.at : ∀ {ds : List D} {vs : List V} {i : Nat} {d : D}, RDs K H ds vs → ds[i]? = some d → ∃ v, vs[i]? = some v ∧ RD K H d v
  | _, _, _, _, .nil, h => by simp at h
  | _, _, 0, _, .cons r _, h => by simp at h; subst h; exact ⟨_, rfl, r⟩
  | _, _, i + 1, _, .cons _ t, h => RDs.at (i := i) t (by simpa using h)
theorem RDs.atv : ∀ {ds : List D} {vs : List V} {i : Nat} {v : V}, RDs K H ds vs → vs[i]? = some v → ∃ d, ds[i]? = some d ∧ RD K H d v
  | _, _, _, _, .nil, h => by simp at h
  | _, _, 0, _, .cons r _, h => by simp at h; subst h; exact ⟨_, rfl, r⟩
  | _, _, i + 1, _, .cons _ t, h => RDs.atv (i := i) t (by simpa using h)
theorem RDs.append : ∀ {ds : List D} {vs : List V} {es : List D} {ws : List V}, RDs K H ds vs → RDs K H es ws → RDs K H (ds ++ es) (vs ++ ws)
  | _, _, _, _, .nil, s => s
  | _, _, _, _, .cons r t, s => .cons r (RDs.append t s)
theorem RDs.take : ∀ {ds : List D} {vs : List V} (n : Nat), RDs K H ds vs → RDs K H (ds.take n) (vs.take n)
  | _, _, 0, _ => .nil
  | _, _, _ + 1, .nil => .nil
  | _, _, n + 1, .cons r t => .cons r (RDs.take n t)
theorem RDs.drop : ∀ {ds : List D} {vs : List V} (n : Nat), RDs K H ds vs → RDs K H (ds.drop n) (vs.drop n)
  | _, _, 0, r => r
  | _, _, _ + 1, .nil => .nil
  | _, _, n + 1, .cons _ t => RDs.drop n t
theorem RDs.set {d : D} {v : V} (h : RD K H d v) : ∀ {ds : List D} {vs : List V} (n : Nat), RDs K H ds vs → RDs K H (ds.set n d) (vs.set n v)
  | _, _, _, .nil => .nil
  | _, _, 0, .cons _ t => .cons h t
  | _, _, n + 1, .cons r t => .cons r (RDs.set h n t)
theorem RDs.eraseIdx : ∀ {ds : List D} {vs : List V} (n : Nat), RDs K H ds vs → RDs K H (ds.eraseIdx n) (vs.eraseIdx n)
  | _, _, _, .nil => .nil
  | _, _, 0, .cons _ t => t
  | _, _, n + 1, .cons r t => .cons r (RDs.eraseIdx n t)
theorem RDs.ints : ∀ ns : List Int, RDs K H (ns.map D.int) (ns.map V.int)
  | [] => .nil
  | n :: r => .cons (.int n) (RDs.ints r)
theorem RDs.ints_inv : ∀ {ns : List Int} {vs : List V}, RDs K H (ns.map D.int) vs → vs = ns.map V.int
  | [], _, .nil => rfl
  | n :: r, _, .cons (.int _) t => by rw [RDs.ints_inv t]; rfl
theorem RDs.inv1 {d : D} {vs : List V} (h : RDs K H [d] vs) : ∃ v, vs = [v] ∧ RD K H d v := by
  cases h with
  | cons r t => cases t; exact ⟨_, rfl, r⟩
theorem RDs.inv2 {d e : D} {vs : List V} (h : RDs K H [d, e] vs) : ∃ v u, vs = [v, u] ∧ RD K H d v ∧ RD K H e u := by
  cases h with
  | cons r t =>
    obtain ⟨u, rfl, q⟩ := t.inv1
    exact ⟨_, _, rfl, r, q⟩
end
/-- the class of that name -/
def ClsAt (K : PySem.W.Frag) (n : Str) (C : Addr) : Prop := PySem.W.nsIn K mainGlobals n = some (some (.ref C))
/-- what an instance holds -/
def RDf (K : KK) (H : Hp) : List (Str × D) → List (Str × V) → Prop
  | [], [] => True
  | (x, d) :: r, (y, v) :: q => x = y ∧ RD K H d v ∧ RDf K H r q
  | _, _ => False
theorem RDf.ext {K : KK} {H H' : Hp} (e : Ext H H') : ∀ {fs : List (Str × D)} {gs : List (Str × V)}, RDf K H fs gs → RDf K H' fs gs
  | [], [], _ => trivial
  | _ :: _, _ :: _, ⟨h, r, q⟩ => ⟨h, r.ext e, RDf.ext e q⟩
  | [], _ :: _, h => h.elim
  | _ :: _, [], h => h.elim
theorem RDf.length {K : KK} {H : Hp} : ∀ {fs : List (Str × D)} {gs : List (Str × V)}, RDf K H fs gs → fs.length = gs.length
  | [], [], _ => rfl
  | _ :: _, _ :: _, ⟨_, _, q⟩ => by rw [List.length_cons, List.length_cons, RDf.length q]
  | [], _ :: _, h => h.elim
  | _ :: _, [], h => h.elim
theorem RDf.none {K : KK} {H : Hp} {f : Str} : ∀ {fs : List (Str × D)} {gs : List (Str × V)}, RDf K H fs gs → fs.lookup f = Option.none → gs.lookup f = Option.none
  | [], [], _, _ => rfl
  | (x, d) :: r, (y, v) :: q, ⟨h, r1, q1⟩, hl => by
    subst h
    rw [List.lookup_cons] at hl ⊢
    cases z : f == x with
    | true => rw [z] at hl; cases hl
    | false => rw [z] at hl; exact RDf.none q1 hl
  | [], _ :: _, h, _ => h.elim
  | _ :: _, [], h, _ => h.elim
def putFD (f : Str) (v : D) : List (Str × D) → List (Str × D)
  | [] => [(f, v)]
  | (g, x) :: r => if g = f then (g, v) :: r else (g, x) :: putFD f v r
theorem RDf.put {K : KK} {H : Hp} {f : Str} {d : D} {v : V} (h : RD K H d v) : ∀ {fs : List (Str × D)} {gs : List (Str × V)}, RDf K H fs gs → RDf K H (putFD f d fs) (putF f v gs)
  | [], [], _ => ⟨rfl, h, trivial⟩
  | (x, e) :: r, (y, w) :: q, ⟨z, r1, q1⟩ => by
    subst z
    unfold putFD putF
    by_cases z : x = f
    · rw [if_pos z, if_pos z]; exact ⟨rfl, h, q1⟩
    · rw [if_neg z, if_neg z]; exact ⟨rfl, r1, RDf.put h q1⟩
  | [], _ :: _, h => h.elim
  | _ :: _, [], h => h.elim
def RO (K : KK) (H : Hp) (a : Addr) : Ob → Prop
  | .lst ds => ∃ vs, H a = some (.lst vs) ∧ RDs K H ds vs
  | .dK kvs => ∃ vs, H a = some (.dK vs) ∧ RDk K H kvs vs
  | .ins n fs => ∃ C dx gs, ClsAt K.k n C ∧ H a = some (.ins C dx gs) ∧ RDf K H fs gs
  | .tset L => ∃ M : List (Addr × List Int), H a = some (SetTO K.P K.w a M) ∧ (∀ p ∈ M, TupN H p.1 (p.2.map V.int)) ∧ L = M.map (·.2)
  | .iset ns => ∃ S : Key → Bool, H a = some (SetK K.P K.w a S ns.length) ∧ ∀ i, S (Sum.inl i) = true ↔ i ∈ ns
def RelS (K : KK) (S : Sto) (H : Hp) : Prop := ∀ a o, S a = some o → RO K H a o
section
variable {K : KK} {H H' : Hp} {S : Sto} {a p : Addr} {o : Ob} {u w : HO}
theorem RO.ext {o : Ob} (h : RO K H a o) (e : Ext H H') (ha : H' a = H a) : RO K H' a o := by
  cases o with
  | lst ds => obtain ⟨vs, q, r⟩ := h; exact ⟨vs, ha.trans q, r.ext e⟩
  | dK kvs => obtain ⟨vs, q, r⟩ := h; exact ⟨vs, ha.trans q, r.ext e⟩
  | ins n fs => obtain ⟨C, dx, gs, c, q, r⟩ := h; exact ⟨C, dx, gs, c, ha.trans q, r.ext e⟩
  | tset L => obtain ⟨M, q, r, z⟩ := h; exact ⟨M, ha.trans q, fun p hp => (r p hp).ext e, z⟩
  | iset ns => obtain ⟨S, q, r⟩ := h; exact ⟨S, ha.trans q, r⟩
theorem RO.mut (h : RO K H a o) : ∃ u, H a = some u ∧ Mut (some u) := by
  cases o with
  | lst ds => obtain ⟨vs, q, r⟩ := h; exact ⟨_, q, trivial⟩
  | dK kvs => obtain ⟨vs, q, r⟩ := h; exact ⟨_, q, trivial⟩
  | ins n fs => obtain ⟨C, dx, gs, c, q, _⟩ := h; exact ⟨_, q, trivial⟩
  | tset L => obtain ⟨M, q, _⟩ := h; exact ⟨_, q, trivial⟩
  | iset ns => obtain ⟨S, q, _⟩ := h; exact ⟨_, q, trivial⟩
theorem RelS.fresh (h : RelS K S H) (n : H p = none) : S p = none := by
  cases e : S p with
  | none => rfl
  | some o =>
    obtain ⟨u, q, _⟩ := (h p o e).mut
    rw [n] at q
    cases q
/-- something new that is not of the store -/
theorem RelS.new (h : RelS K S H) (n : H p = none) : RelS K S (upd H p u) := fun a o e => (h a o e).ext (.new n) (upd_ne fun z => by
  subst z
  rw [h.fresh n] at e
  cases e)
/-- something new of the store -/
theorem RelS.lay (h : RelS K S H) (n : H p = none) (r : RO K (upd H p u) p o) : RelS K (S.put p o) (upd H p u) := fun a o' e => by
  by_cases z : a = p
  · subst z
    rw [Sto.same] at e
    cases e
    exact r
  · rw [Sto.ne z] at e
    exact h.new n a o' e
/-- something of the store written -/
theorem RelS.put (h : RelS K S H) (n : H p = some w) (m : Mut (some w)) (r : RO K (upd H p u) p o) : RelS K (S.put p o) (upd H p u) := fun a o' e => by
  by_cases z : a = p
  · subst z
    rw [Sto.same] at e
    cases e
    exact r
  · rw [Sto.ne z] at e
    exact (h a o' e).ext (.put n m) (upd_ne z)
theorem RelS.lst (h : RelS K S H) {ds : List D} (e : S a = some (.lst ds)) : ∃ vs, H a = some (.lst vs) ∧ RDs K H ds vs := h a _ e
end
abbrev Env := List (Option D)
abbrev DK := D → Sto → Prop
abbrev DTE := Env → Sto → DK → Prop
abbrev DTT := Env → Sto → (Bool → Sto → Prop) → Prop
abbrev DTA := Env → Sto → (List D → Sto → Prop) → Prop
structure DEnds where
  nx : Env → Sto → Prop
  rt : DK
  bk : Env → Sto → Prop := fun _ _ => False
  ct : Env → Sto → Prop := fun _ _ => False
abbrev DTS := DEnds → Env → Sto → Prop
structure RS (K : KK) (σ : L2.St) (H : Hp) (env : Env) (S : Sto) : Prop where
  len : env.length = σ.length
  slot : ∀ (i : Nat) (d : D), env[i]? = some (some d) → ∃ v, σ[i]? = some (some v) ∧ RD K H d v
  sto : RelS K S H
theorem RS.ext {K : KK} {σ : L2.St} {H H' : Hp} {env : Env} {S S' : Sto} (r : RS K σ H env S) (e : Ext H H') (s : RelS K S' H') : RS K σ H' env S' :=
  ⟨r.len, fun i d h => let ⟨v, q, x⟩ := r.slot i d h; ⟨v, q, x.ext e⟩, s⟩
theorem RS.set {K : KK} {σ : L2.St} {H : Hp} {env : Env} {S : Sto} {d : D} {v : V} (r : RS K σ H env S) (i : Nat) (h : RD K H d v) : RS K (σ.set i (some v)) H (env.set i (some d)) S := by
  refine ⟨by rw [List.length_set, List.length_set]; exact r.len, fun j d' e => ?_, r.sto⟩
  by_cases z : i = j
  · subst z
    by_cases hl : i < env.length
    · rw [List.getElem?_set_self hl] at e
      cases e
      exact ⟨v, List.getElem?_set_self (r.len ▸ hl), h⟩
    · rw [List.getElem?_eq_none (by rw [List.length_set]; omega)] at e
      cases e
  · rw [List.getElem?_set_ne z] at e ⊢
    exact r.slot j d' e
section
variable (K : KK)
def lE (t : DTE) : TE := fun σ H Q => ∃ env S R, RS K σ H env S ∧ t env S R ∧ ∀ d S' v H', R d S' → RelS K S' H' → RD K H' d v → Ext H H' → Q v H'
def lT (t : DTT) : TT := fun σ H Q => ∃ env S R, RS K σ H env S ∧ t env S R ∧ ∀ b S' H', R b S' → RelS K S' H' → Ext H H' → Q b H'
def lA (t : DTA) : TA := fun σ H Q => ∃ env S R, RS K σ H env S ∧ t env S R ∧ ∀ ds S' vs H', R ds S' → RelS K S' H' → RDs K H' ds vs → Ext H H' → Q vs H'
def lS (t : DTS) : TS := fun B σ H => ∃ env S C, RS K σ H env S ∧ t C env S ∧
  (∀ env' S' σ' H', C.nx env' S' → RS K σ' H' env' S' → Ext H H' → B.nx σ' H') ∧ (∀ d S' v H', C.rt d S' → RelS K S' H' → RD K H' d v → Ext H H' → B.rt v H') ∧
  (∀ env' S' σ' H', C.bk env' S' → RS K σ' H' env' S' → Ext H H' → B.bk σ' H') ∧ (∀ env' S' σ' H', C.ct env' S' → RS K σ' H' env' S' → Ext H H' → B.ct σ' H')
end
structure DE (X : Cx) (e : Expr) (t : DTE) : Prop where
  run : PE X e (lE X.kk t)
structure DT (X : Cx) (e : Expr) (t : DTT) : Prop where
  run : PT X e (lT X.kk t)
structure DW (X : Cx) (e : Expr) (t : DTT) : Prop where
  run : PW X e (lT X.kk t)
structure DA (X : Cx) (es : List Expr) (t : DTA) : Prop where
  run : PA X es (lA X.kk t)
structure DS (X : Cx) (st : Stmt) (t : DTS) : Prop where
  run : PS X st (lS X.kk t)
structure DSs (X : Cx) (sts : List Stmt) (t : DTS) : Prop where
  run : PSs X sts (lS X.kk t)
section
variable {X : Cx}
theorem _root_.L2.PE.of {e : Expr} {t t' : TE} (h : PE X e t) (q : ∀ σ H Q, t' σ H Q → t σ H Q) : PE X e t' := ⟨fun pins s σ H Q I w => h.run pins s σ H Q I (q σ H Q w)⟩
theorem _root_.L2.PT.of {e : Expr} {t t' : TT} (h : PT X e t) (q : ∀ σ H Q, t' σ H Q → t σ H Q) : PT X e t' := ⟨fun pins s σ H Q I w => h.run pins s σ H Q I (q σ H Q w)⟩
theorem _root_.L2.PW.of {e : Expr} {t t' : TT} (h : PW X e t) (q : ∀ σ H Q, t' σ H Q → t σ H Q) : PW X e t' := ⟨fun wh pins s σ H Q I w => h.run wh pins s σ H Q I (q σ H Q w)⟩
theorem _root_.L2.PA.of {e : List Expr} {t t' : TA} (h : PA X e t) (q : ∀ σ H Q, t' σ H Q → t σ H Q) : PA X e t' := ⟨fun pos pins s σ H Q I w => h.run pos pins s σ H Q I (q σ H Q w)⟩
theorem _root_.L2.PS.of {e : Stmt} {t t' : TS} (h : PS X e t) (q : ∀ σ H Q, t' Q σ H → t Q σ H) : PS X e t' := ⟨fun pins s σ H Q I w => h.run pins s σ H Q I (q σ H Q w)⟩
theorem _root_.L2.PSs.of {e : List Stmt} {t t' : TS} (h : PSs X e t) (q : ∀ σ H Q, t' Q σ H → t Q σ H) : PSs X e t' := ⟨fun pins s σ H Q I w => h.run pins s σ H Q I (q σ H Q w)⟩
def dVar (i : Nat) : DTE := fun env S R => ∃ d, env[i]? = some (some d) ∧ R d S
def dC (d : D) : DTE := fun _ S R => R d S
theorem de_var {i : Nat} {x : Str} {pos : Pos} (hN : X.N[i]? = some x) (hv : Vis X.env.scope x) (hd : (x == ("__debug__" : Str)) = false := by decide) (hcd : (x == ("__classdict__" : Str)) = false := by decide) : DE X (.Name x pos) (dVar i) :=
  ⟨(pe_var hN hv hd hcd).of fun σ H Q ⟨env, S, R, rs, ⟨d, h, q⟩, k⟩ => let ⟨v, e, r⟩ := rs.slot i d h; ⟨v, e, k _ _ _ _ q rs.sto r (.refl H)⟩⟩
theorem de_int {i j pos} : DE X (.Constant (.int i) j pos) (dC (.int i)) := ⟨pe_int.of fun σ H Q ⟨env, S, R, rs, q, k⟩ => k _ _ _ _ q rs.sto (.int i) (.refl H)⟩
theorem de_bl {b j pos} : DE X (.Constant (.bool b) j pos) (dC (.bl b)) := ⟨pe_bl.of fun σ H Q ⟨env, S, R, rs, q, k⟩ => k _ _ _ _ q rs.sto (.bl b) (.refl H)⟩
theorem de_non {j pos} : DE X (.Constant .none j pos) (dC .non) := ⟨pe_non.of fun σ H Q ⟨env, S, R, rs, q, k⟩ => k _ _ _ _ q rs.sto .non (.refl H)⟩
theorem de_str {x j pos} : DE X (.Constant (.str x) j pos) (dC (.str x)) := ⟨pe_str.of fun σ H Q ⟨env, S, R, rs, q, k⟩ => k _ _ _ _ q rs.sto (.str x) (.refl H)⟩
abbrev DR2 := D → D → Sto → DK → Prop
def l2 (K : KK) (r : DR2) : R2 := fun x y H Q => ∃ d e S R, RD K H d x ∧ RD K H e y ∧ RelS K S H ∧ r d e S R ∧ ∀ z S' v H', R z S' → RelS K S' H' → RD K H' z v → Ext H H' → Q v H'
def dBin (r : DR2) (ta tb : DTE) : DTE := fun env S R => ta env S fun x S1 => tb env S1 fun y S2 => r x y S2 R
theorem l2_bin {K : KK} {r : DR2} {ta tb : DTE} {σ : L2.St} {H : Hp} {Q : VK} (h : lE K (dBin r ta tb) σ H Q) : tOp (l2 K r) (lE K ta) (lE K tb) σ H Q := by
  obtain ⟨env, S, R, rs, h, k⟩ := h
  refine ⟨env, S, _, rs, h, fun d S1 v H1 q1 s1 r1 e1 => ⟨env, S1, _, rs.ext e1 s1, q1, fun e S2 u H2 q2 s2 r2 e2 => ⟨d, e, S2, R, r1.ext e2, r2, s2, q2, fun z S3 w H3 q3 s3 r3 e3 => k _ _ _ _ q3 s3 r3 (e1.trans (e2.trans e3))⟩⟩⟩
variable {a b : Expr} {ta tb tc : DTE} {pos : Pos}
theorem de_bin {op : Operator} {r : DR2} (ho : OpR X (binaryOp op) (l2 X.kk r)) (ha : DE X a ta) (hb : DE X b tb) : DE X (.BinOp a op b pos) (dBin r ta tb) := ⟨(pe_op ho ha.run hb.run).of fun _ _ _ => l2_bin⟩
theorem de_cmp {op : CmpOp} {r : DR2} (ho : OpR X (compareOp op) (l2 X.kk r)) (ha : DE X a ta) (hb : DE X b tb) (hm : behindInMarks op b = false := by first | rfl | exact nomark _) : DE X (.Compare a [op] [b] pos) (dBin r ta tb) := ⟨(pe_cmpR ho ha.run hb.run hm).of fun _ _ _ => l2_bin⟩
def dB (t : DTE) : DTT := fun env S R => t env S fun x S1 => ∃ c, x = .bl c ∧ R c S1
theorem lT_b {K : KK} {t : DTE} {σ : L2.St} {H : Hp} {Q : Bool → Hp → Prop} (h : lT K (dB t) σ H Q) : tB (lE K t) σ H Q := by
  obtain ⟨env, S, R, rs, h, k⟩ := h
  refine ⟨env, S, _, rs, h, fun d S1 v H1 ⟨c, q, q1⟩ s1 r1 e1 => ?_⟩
  subst q
  cases r1
  exact ⟨c, rfl, k _ _ _ q1 s1 e1⟩
theorem dt_cmp {op : CmpOp} {r : DR2} (ho : OpR X (compareOp op) (l2 X.kk r)) (ha : DE X a ta) (hb : DE X b tb) (hm : behindInMarks op b = false := by first | rfl | exact nomark _) : DT X (.Compare a [op] [b] pos) (dB (dBin r ta tb)) := by
  refine ⟨(pt_cmpR ho ha.run hb.run hm).of fun σ H Q h => ?_⟩
  obtain ⟨env, S, R, rs, h, k⟩ := lT_b h
  exact l2_bin ⟨env, S, R, rs, h, k⟩
/-- an expression whose value is a bool, as a test -/
theorem dt_val {e : Expr} {t : DTE} (h : DE X e t) (he : ∀ whole, isTrue e X.env whole = (do let v ← whole; standAt e.pos; holding [v] (truthy v)) := by intro _; rfl) : DT X e (dB t) := ⟨(pt_val h.run he).of fun _ _ _ => lT_b⟩
end
end Sv
namespace Sv
open PySem PySem.Spec PyProof.Rows L2
section
variable {X : Cx} {a b c e : Expr} {es rest : List Expr} {ta tb te : DTE} {t u : DTT} {tl : DTA} {pos : Pos}
def dAnd (t u : DTT) : DTT := fun env S R => t env S fun c S1 => if c = true then u env S1 R else R false S1
def dOr (t u : DTT) : DTT := fun env S R => t env S fun c S1 => if c = true then R true S1 else u env S1 R
def dNot (t : DTT) : DTT := fun env S R => t env S fun c S1 => R (!c) S1
theorem dw_and1 (h : DT X a t) : DW X (.BoolOp .And [a] pos) t := ⟨pw_and1 h.run⟩
theorem dw_or1 (h : DT X a t) : DW X (.BoolOp .Or [a] pos) t := ⟨pw_or1 h.run⟩
theorem dw_and (ha : DT X a t) (hb : DW X (.BoolOp .And (b :: rest) pos) u) : DW X (.BoolOp .And (a :: b :: rest) pos) (dAnd t u) := by
  refine ⟨(pw_and ha.run hb.run).of fun σ H Q ⟨env, S, R, rs, h, k⟩ => ⟨env, S, _, rs, h, fun c S1 H1 q s1 e1 => ?_⟩⟩
  cases c with
  | true => exact ⟨env, S1, R, rs.ext e1 s1, q, fun c S2 H2 q s2 e2 => k _ _ _ q s2 (e1.trans e2)⟩
  | false => exact k _ _ _ q s1 e1
theorem dw_or (ha : DT X a t) (hb : DW X (.BoolOp .Or (b :: rest) pos) u) : DW X (.BoolOp .Or (a :: b :: rest) pos) (dOr t u) := by
  refine ⟨(pw_or ha.run hb.run).of fun σ H Q ⟨env, S, R, rs, h, k⟩ => ⟨env, S, _, rs, h, fun c S1 H1 q s1 e1 => ?_⟩⟩
  cases c with
  | false => exact ⟨env, S1, R, rs.ext e1 s1, q, fun c S2 H2 q s2 e2 => k _ _ _ q s2 (e1.trans e2)⟩
  | true => exact k _ _ _ q s1 e1
theorem DW.dt (h : DW X e t) : DT X e t := ⟨h.run.pt⟩
theorem dt_not (h : DT X a t) : DT X (.UnaryOp .Not a pos) (dNot t) :=
  ⟨(pt_not h.run).of fun σ H Q ⟨env, S, R, rs, h, k⟩ => ⟨env, S, _, rs, h, fun c S1 H1 q s1 e1 => k _ _ _ q s1 e1⟩⟩
/-- bools as values -/
def dAndV (ta tb : DTE) : DTE := fun env S R => ta env S fun x S1 => ∃ c, x = .bl c ∧ if c = true then tb env S1 R else R (.bl false) S1
def dNotV (ta : DTE) : DTE := fun env S R => ta env S fun x S1 => ∃ c, x = .bl c ∧ R (.bl (!c)) S1
theorem de_one {op} (h : DE X a ta) : DE X (.BoolOp op [a] pos) ta := ⟨pe_one h.run⟩
theorem de_and (ha : DE X a ta) (hb : DE X (.BoolOp .And (b :: rest) pos) tb) : DE X (.BoolOp .And (a :: b :: rest) pos) (dAndV ta tb) := by
  refine ⟨(pe_and ha.run hb.run).of fun σ H Q ⟨env, S, R, rs, h, k⟩ => ⟨env, S, _, rs, h, fun d S1 v H1 ⟨c, z, q⟩ s1 r1 e1 => ?_⟩⟩
  subst z
  cases r1
  refine ⟨c, rfl, ?_⟩
  cases c with
  | true => exact ⟨env, S1, R, rs.ext e1 s1, q, fun c S2 v H2 q s2 r2 e2 => k _ _ _ _ q s2 r2 (e1.trans e2)⟩
  | false => exact k _ _ _ _ q s1 (.bl _) e1
theorem de_not (ha : DE X a ta) : DE X (.UnaryOp .Not a pos) (dNotV ta) := by
  refine ⟨(pe_not ha.run).of fun σ H Q ⟨env, S, R, rs, h, k⟩ => ⟨env, S, _, rs, h, fun d S1 v H1 ⟨c, z, q⟩ s1 r1 e1 => ?_⟩⟩
  subst z
  cases r1
  exact ⟨c, rfl, k _ _ _ _ q s1 (.bl _) e1⟩
def dIf (t : DTT) (ta tb : DTE) : DTE := fun env S R => t env S fun c S1 => if c = true then ta env S1 R else tb env S1 R
theorem de_ifExp (hc : DT X c t) (ha : DE X a ta) (hb : DE X b tb) : DE X (.IfExp c a b pos) (dIf t ta tb) := by
  refine ⟨(pe_ifExp hc.run ha.run hb.run).of fun σ H Q ⟨env, S, R, rs, h, k⟩ => ⟨env, S, _, rs, h, fun c S1 H1 q s1 e1 => ?_⟩⟩
  cases c with
  | true => exact ⟨env, S1, R, rs.ext e1 s1, q, fun c S2 v H2 q s2 r2 e2 => k _ _ _ _ q s2 r2 (e1.trans e2)⟩
  | false => exact ⟨env, S1, R, rs.ext e1 s1, q, fun c S2 v H2 q s2 r2 e2 => k _ _ _ _ q s2 r2 (e1.trans e2)⟩
/-- an operator of one value -/
abbrev DR1 := D → Sto → DK → Prop
def l1 (K : KK) (r : DR1) : V → Hp → VK → Prop := fun x H Q => ∃ d S R, RD K H d x ∧ RelS K S H ∧ r d S R ∧ ∀ z S' v H', R z S' → RelS K S' H' → RD K H' z v → Ext H H' → Q v H'
def dUn (r : DR1) (ta : DTE) : DTE := fun env S R => ta env S fun x S1 => r x S1 R
theorem l1_un {K : KK} {r : DR1} {σ : L2.St} {H : Hp} {Q : VK} (h : lE K (dUn r ta) σ H Q) : lE K ta σ H (fun x H1 => l1 K r x H1 Q) := by
  obtain ⟨env, S, R, rs, h, k⟩ := h
  exact ⟨env, S, _, rs, h, fun d S1 v H1 q s1 r1 e1 => ⟨d, S1, R, r1, s1, q, fun z S2 w H2 q2 s2 r2 e2 => k _ _ _ _ q2 s2 r2 (e1.trans e2)⟩⟩
theorem de_un {op : UnaryOp} {r : DR1} (ho : UnR X (unaryOp op) (l1 X.kk r)) (ha : DE X a ta) : DE X (.UnaryOp op a pos) (dUn r ta) := ⟨(pe_un ho ha.run).of fun _ _ _ => l1_un⟩
def dNil : DTA := fun _ S R => R [] S
def dCons (ta : DTE) (tr : DTA) : DTA := fun env S R => ta env S fun x S1 => tr env S1 fun xs S2 => R (x :: xs) S2
theorem da_nil : DA X [] dNil := ⟨pa_nil.of fun σ H Q ⟨env, S, R, rs, q, k⟩ => k _ _ _ _ q rs.sto .nil (.refl H)⟩
theorem da_cons (ha : DE X e ta) (hr : DA X es tl) (hs : starEach (e :: es) X.env = (false, eval e X.env) :: starEach es X.env := by rfl) : DA X (e :: es) (dCons ta tl) :=
  ⟨(pa_cons ha.run hr.run hs).of fun σ H Q ⟨env, S, R, rs, h, k⟩ => ⟨env, S, _, rs, h, fun d S1 v H1 q s1 r1 e1 => ⟨env, S1, _, rs.ext e1 s1, q, fun ds S2 vs H2 q2 s2 r2 e2 => k _ _ _ _ q2 s2 (.cons (r1.ext e2) r2) (e1.trans e2)⟩⟩⟩
theorem sz1000 {α : Type} {xs : List α} (h : decide (xs.length ≤ 1000) = true) : xs.length ≤ sizeLine := Nat.le_trans (of_decide_eq_true h) (by decide)
def dTup (t : DTA) : DTE := fun env S R => t env S fun ds S1 => decide (ds.length ≤ 1000) = true ∧ R (.tup ds) S1
def dLst (t : DTA) : DTE := fun env S R => t env S fun ds S1 => decide (ds.length ≤ 1000) = true ∧ ∀ p, S1 p = none → R (.ref p) (S1.put p (.lst ds))
theorem de_tup {x1} (h : DA X es tl) : DE X (.Tuple es x1 pos) (dTup tl) := by
  refine ⟨(pe_tupF h.run).of fun σ H Q ⟨env, S, R, rs, h, k⟩ => ⟨env, S, _, rs, h, fun ds S1 vs H1 ⟨hz, q⟩ s1 r1 e1 => ⟨?_, fun p o np ho => ?_⟩⟩⟩
  · rw [← r1.length]
    exact sz1000 hz
  · exact k _ _ _ _ q (s1.new np) (.tup (.new ho) (r1.ext (.new np))) (e1.trans (.new np))
theorem de_lst (h : DA X es tl) : DE X (.List es pos) (dLst tl) := by
  refine ⟨(pe_lst h.run).of fun σ H Q ⟨env, S, R, rs, h, k⟩ => ⟨env, S, _, rs, h, fun ds S1 vs H1 ⟨hz, q⟩ s1 r1 e1 => ⟨?_, fun p np => ?_⟩⟩⟩
  · rw [← r1.length]
    exact sz1000 hz
  · exact k _ _ _ _ (q p (s1.fresh np)) (s1.lay np ⟨_, upd_same, r1.ext (.new np)⟩) (.ref p) (e1.trans (.new np))
abbrev DRC := List D → Sto → DK → Prop
def lC (K : KK) (r : DRC) : List V → Hp → VK → Prop := fun vs H Q => ∃ ds S R, RDs K H ds vs ∧ RelS K S H ∧ r ds S R ∧ ∀ z S' v H', R z S' → RelS K S' H' → RD K H' z v → Ext H H' → Q v H'
def dCB (r : DRC) (t : DTA) : DTE := fun env S R => t env S fun ds S1 => r ds S1 R
theorem lC_of {K : KK} {r : DRC} {σ : L2.St} {H : Hp} {Q : VK} (h : lE K (dCB r tl) σ H Q) : lA K tl σ H (fun vs H1 => lC K r vs H1 Q) := by
  obtain ⟨env, S, R, rs, h, k⟩ := h
  exact ⟨env, S, _, rs, h, fun ds S1 vs H1 q s1 r1 e1 => ⟨ds, S1, R, r1, s1, q, fun z S2 w H2 q2 s2 r2 e2 => k _ _ _ _ q2 s2 r2 (e1.trans e2)⟩⟩
theorem de_callB {r : DRC} {id : String} {x : Str} {p : Pos} (hc : CallR X (.builtin id) (lC X.kk r)) (hg : Gl X x) (hm : X.mg x = none) (hv : bootBuiltins x = some (.builtin id)) (ha : DA X (e :: es) tl) (hn : x ≠ "__name__" := by decide) (hdb : (x == ("__debug__" : Str)) = false := by decide)
    (he : starEach (e :: es) X.env = (false, eval e X.env) :: starEach es X.env := by rfl) (hpl : (backTo pos (starEach es X.env)).any (·.1) = false := by rfl) : DE X (.Call (.Name x p) (e :: es) [] pos) (dCB r tl) :=
  ⟨(pe_callB hc hg hm hv ha.run hn hdb he hpl).of fun _ _ _ => lC_of⟩
theorem de_callTy {r : DRC} {T : String} {x : Str} {p : Pos} (hc : CallR X (.type T) (lC X.kk r)) (hg : Gl X x) (hm : X.mg x = none) (hv : bootBuiltins x = some (.type T)) (ha : DA X (e :: es) tl) (hn : x ≠ "__name__" := by decide) (hdb : (x == ("__debug__" : Str)) = false := by decide)
    (he : starEach (e :: es) X.env = (false, eval e X.env) :: starEach es X.env := by rfl) (hpl : (backTo pos (starEach es X.env)).any (·.1) = false := by rfl) : DE X (.Call (.Name x p) (e :: es) [] pos) (dCB r tl) :=
  ⟨(pe_callTy hc hg hm hv ha.run hn hdb he hpl).of fun _ _ _ => lC_of⟩
/-- a def's promise over data: n arguments -/
def lP (K : KK) (n : Nat) (r : DRC) : Sp := fun vs H Q _ => vs.length = n ∧ lC K r vs H Q
structure DFn (P : Program) (w : World) (K : PySem.W.Frag) (mg : Str → Option Value) (base : Heap) (k : Nat) (x : Str) (n : Nat) (r : DRC) : Prop where
  ex : ∃ (f : Addr) (fd : FuncData) (ps : List Str), FnG P w K mg base k f fd ps (lP ⟨P, w, K⟩ n r) ∧ mg x = some (.ref f) ∧ PySem.W.keepIn K (.ref f) = true ∧ Binds K fd ps []
def dCall (n : Nat) (r : DRC) (t : DTA) : DTE := dCB (fun ds S R => decide (ds.length = n) = true ∧ r ds S R) t
theorem de_call {k n : Nat} {r : DRC} {x : Str} {p : Pos} (F : DFn X.prog X.w X.K X.mg X.base k x n r) (hgd : X.A.guards = some []) (hr : Room k X.A) (hg : Gl X x) (ha : DA X (e :: es) tl) (hdb : (x == ("__debug__" : Str)) = false := by decide)
    (he : starEach (e :: es) X.env = (false, eval e X.env) :: starEach es X.env := by rfl) (hpl : (backTo pos (starEach es X.env)).any (·.1) = false := by rfl) : DE X (.Call (.Name x p) (e :: es) [] pos) (dCall n r tl) := by
  obtain ⟨f, fd, ps, F, hm, hk, hb⟩ := F.ex
  refine ⟨(pe_callG F hgd hr hg hm hk hb .nil (E := fun _ _ _ => False) pass0 ha.run hdb he hpl).of fun σ H Q h => ?_⟩
  obtain ⟨env, S, R, rs, h, k⟩ := lC_of h
  refine ⟨env, S, R, rs, h, fun ds S1 vs H1 q s1 r1 e1 => ?_⟩
  obtain ⟨ds', S', R', r', s', ⟨hl, q'⟩, k'⟩ := k ds S1 vs H1 q s1 r1 e1
  rw [List.append_nil]
  exact ⟨by rw [← r'.length]; exact of_decide_eq_true hl, ds', S', R', r', s', q', k'⟩
/-- the same of a def that makes no text (whatever runs around) -/
structure DFo (P : Program) (w : World) (K : PySem.W.Frag) (mg : Str → Option Value) (base : Heap) (k : Nat) (x : Str) (n : Nat) (r : DRC) : Prop where
  ex : ∃ (f : Addr) (fd : FuncData) (ps : List Str), FnOk P w K mg base CX0 k f fd ps (lP ⟨P, w, K⟩ n r) ∧ mg x = some (.ref f) ∧ PySem.W.keepIn K (.ref f) = true ∧ Binds K fd ps []
theorem de_callo {k n : Nat} {r : DRC} {x : Str} {p : Pos} (F : DFo X.prog X.w X.K X.mg X.base k x n r) (hr : Room k X.A) (hg : Gl X x) (ha : DA X (e :: es) tl) (hdb : (x == ("__debug__" : Str)) = false := by decide)
    (he : starEach (e :: es) X.env = (false, eval e X.env) :: starEach es X.env := by rfl) (hpl : (backTo pos (starEach es X.env)).any (·.1) = false := by rfl) : DE X (.Call (.Name x p) (e :: es) [] pos) (dCall n r tl) := by
  obtain ⟨f, fd, ps, F, hm, hk, hb⟩ := F.ex
  refine ⟨(pe_call F hr hg hm hk hb .nil (E := fun _ _ _ => False) pass0 ha.run hdb he hpl).of fun σ H Q h => ?_⟩
  obtain ⟨env, S, R, rs, h, k⟩ := lC_of h
  refine ⟨env, S, R, rs, h, fun ds S1 vs H1 q s1 r1 e1 => ?_⟩
  obtain ⟨ds', S', R', r', s', ⟨hl, q'⟩, k'⟩ := k ds S1 vs H1 q s1 r1 e1
  rw [List.append_nil]
  exact ⟨by rw [← r'.length]; exact of_decide_eq_true hl, ds', S', R', r', s', q', k'⟩
/-- .. of a def with a star: its values behind one another -/
structure DFs (P : Program) (w : World) (K : PySem.W.Frag) (mg : Str → Option Value) (base : Heap) (k : Nat) (x : Str) (r : DRC) : Prop where
  ex : ∃ f : Addr, FnR P w K mg base CX0 k f (fun vs H Q _ => lC ⟨P, w, K⟩ r vs H Q) ∧ mg x = some (.ref f) ∧ PySem.W.keepIn K (.ref f) = true
/-- f(e, .., *y) -/
theorem de_callS2 {k : Nat} {r : DRC} {x : Str} {p : Pos} (F : DFs X.prog X.w X.K X.mg X.base k x r) (hr : Room k X.A) (hg : Gl X x) (ha : DA X (e :: es) tl) (hdb : (x == ("__debug__" : Str)) = false := by decide)
    (he : starEach (e :: es) X.env = (false, eval e X.env) :: starEach es X.env := by rfl) (hst : (backTo pos (starEach es X.env)).any (·.1) = true := by rfl) : DE X (.Call (.Name x p) (e :: es) [] pos) (dCB r tl) := by
  obtain ⟨f, F, hm, hk⟩ := F.ex
  exact ⟨(StX.pe_callS2 F hr hk hg hm (E := fun _ _ _ => False) pass0 ha.run hdb he hst).of fun σ H Q h => lC_of h⟩
abbrev DRM := D → List D → Sto → DK → Prop
def lM (K : KK) (r : DRM) : V → List V → Hp → VK → Prop := fun x vs H Q => ∃ d ds S R, RD K H d x ∧ RDs K H ds vs ∧ RelS K S H ∧ r d ds S R ∧ ∀ z S' v H', R z S' → RelS K S' H' → RD K H' z v → Ext H H' → Q v H'
end
section
variable {X : Cx} {st : Stmt} {rest : List Stmt} {t u : DTS} {e : Expr} {te : DTE} {pos : Pos}
def dNext : DTS := fun C env S => C.nx env S
def dSeq (t u : DTS) : DTS := fun C env S => t { C with nx := u C } env S
theorem dss_nil : DSs X [] dNext := ⟨pss_nil.of fun σ H B ⟨env, S, C, rs, q, k, _⟩ => k _ _ _ _ q rs (.refl H)⟩
theorem lS_seq {K : KK} {σ : L2.St} {H : Hp} {B : Ends} (h : lS K (dSeq t u) B σ H) : tSeq (lS K t) (lS K u) B σ H := by
  obtain ⟨env, S, C, rs, h, k1, k2, k3, k4⟩ := h
  refine ⟨env, S, _, rs, h, fun env1 S1 σ1 H1 q r1 e1 => ⟨env1, S1, C, r1, q, ?_, ?_, ?_, ?_⟩, k2, k3, k4⟩
  · exact fun env2 S2 σ2 H2 q2 r2 e2 => k1 _ _ _ _ q2 r2 (e1.trans e2)
  · exact fun d S2 v H2 q2 s2 r2 e2 => k2 _ _ _ _ q2 s2 r2 (e1.trans e2)
  · exact fun env2 S2 σ2 H2 q2 r2 e2 => k3 _ _ _ _ q2 r2 (e1.trans e2)
  · exact fun env2 S2 σ2 H2 q2 r2 e2 => k4 _ _ _ _ q2 r2 (e1.trans e2)
theorem dss_cons (h1 : DS X st t) (h2 : DSs X rest u) : DSs X (st :: rest) (dSeq t u) := ⟨(pss_cons h1.run h2.run).of fun _ _ _ => lS_seq⟩
theorem dss_one (h1 : DS X st t) : DSs X [st] t := ⟨pss_one h1.run⟩
def dDrop (te : DTE) : DTS := fun C env S => te env S fun _ S1 => C.nx env S1
theorem ds_expr (he : DE X e te) (hs : swapsWith e none pos.line X.env = pure false := by rfl) : DS X (.Expr e pos) (dDrop te) :=
  ⟨(ps_expr he.run hs).of fun σ H B ⟨env, S, C, rs, h, k, _⟩ => ⟨env, S, _, rs, h, fun d S1 v H1 q s1 r1 e1 => k _ _ _ _ q (rs.ext e1 s1) e1⟩⟩
def dRet (te : DTE) : DTS := fun C env S => te env S C.rt
theorem ds_ret (he : DE X e te) : DS X (.Return (some e) pos) (dRet te) :=
  ⟨(ps_ret he.run).of fun σ H B ⟨env, S, C, rs, h, _, k, _⟩ => ⟨env, S, _, rs, h, fun d S1 v H1 q s1 r1 e1 => k _ _ _ _ q s1 r1 e1⟩⟩
/-- ways behind a first step -/
theorem lS_go {K : KK} {σ : L2.St} {H H1 : Hp} {B : Ends} {C : DEnds} {env : Env} {S1 : Sto} (rs : RS K σ H1 env S1) (e1 : Ext H H1) (q : t C env S1)
    (k : (∀ env' S' σ' H', C.nx env' S' → RS K σ' H' env' S' → Ext H H' → B.nx σ' H') ∧ (∀ d S' v H', C.rt d S' → RelS K S' H' → RD K H' d v → Ext H H' → B.rt v H') ∧
      (∀ env' S' σ' H', C.bk env' S' → RS K σ' H' env' S' → Ext H H' → B.bk σ' H') ∧ (∀ env' S' σ' H', C.ct env' S' → RS K σ' H' env' S' → Ext H H' → B.ct σ' H')) : lS K t B σ H1 :=
  ⟨env, S1, C, rs, q, fun _ _ _ _ q r e => k.1 _ _ _ _ q r (e1.trans e), fun _ _ _ _ q s r e => k.2.1 _ _ _ _ q s r (e1.trans e), fun _ _ _ _ q r e => k.2.2.1 _ _ _ _ q r (e1.trans e), fun _ _ _ _ q r e => k.2.2.2 _ _ _ _ q r (e1.trans e)⟩
def dIfS (c : DTT) (t u : DTS) : DTS := fun C env S => c env S fun b S1 => if b = true then t C env S1 else u C env S1
theorem ds_if {c : Expr} {a b : List Stmt} {tc : DTT} (hc : DT X c tc) (ha : DSs X a t) (hb : DSs X b u) : DS X (.If c a b pos) (dIfS tc t u) := by
  refine ⟨(ps_if hc.run ha.run hb.run).of fun σ H B ⟨env, S, C, rs, h, k⟩ => ⟨env, S, _, rs, h, fun c S1 H1 q s1 e1 => ?_⟩⟩
  cases c with
  | true => exact lS_go (rs.ext e1 s1) e1 q k
  | false => exact lS_go (rs.ext e1 s1) e1 q k
def RDw (K : KK) (b : Bool) (H : Hp) (d : D) (v : V) : Prop := RD K H d v ∨ (b = false ∧ ∃ a ds vs, d = .tup ds ∧ v = .ref a ∧ SqT K.k H a vs ∧ RDs K H ds vs)
abbrev DTG := D → Env → Sto → (Env → Sto → Prop) → Prop
abbrev DTGs := List D → Env → Sto → (Env → Sto → Prop) → Prop
def Off (vs : List Nat) (σ σ' : L2.St) : Prop := σ'.length = σ.length ∧ ∀ i, i ∉ vs → σ'[i]? = σ[i]?
theorem Off.refl (vs : List Nat) (σ : L2.St) : Off vs σ σ := ⟨rfl, fun _ _ => rfl⟩
theorem Off.trans {vs : List Nat} {σ σ1 σ2 : L2.St} (x : Off vs σ σ1) (y : Off vs σ1 σ2) : Off vs σ σ2 := ⟨y.1.trans x.1, fun i h => (y.2 i h).trans (x.2 i h)⟩
theorem Off.mono {vs us : List Nat} {σ σ' : L2.St} (x : Off vs σ σ') (h : ∀ i ∈ vs, i ∈ us) : Off us σ σ' := ⟨x.1, fun i hi => x.2 i fun z => hi (h i z)⟩
def lG (K : KK) (b : Bool) (vs : List Nat) (g : DTG) : TG := fun v σ H Q => ∃ d env S R, RDw K b H d v ∧ RS K σ H env S ∧ g d env S R ∧ ∀ env' S' σ' H', R env' S' → RS K σ' H' env' S' → Ext H H' → Off vs σ σ' → Q σ' H'
def lGs (K : KK) (vs : List Nat) (g : DTGs) : TGs := fun us σ H Q => ∃ ds env S R, RDs K H ds us ∧ RS K σ H env S ∧ g ds env S R ∧ ∀ env' S' σ' H', R env' S' → RS K σ' H' env' S' → Ext H H' → Off vs σ σ' → Q σ' H'
structure DG (X : Cx) (b : Bool) (vs : List Nat) (tg : Expr) (g : DTG) : Prop where
  run : PG X tg (lG X.kk b vs g)
structure DGs (X : Cx) (vs : List Nat) (ts : List Expr) (g : DTGs) : Prop where
  run : PGs X ts (lGs X.kk vs g)
theorem _root_.L2.PG.of {tg : Expr} {t t' : TG} (h : PG X tg t) (q : ∀ v σ H Q, t' v σ H Q → t v σ H Q) : PG X tg t' := ⟨fun pins s σ H v u Q I r w => h.run pins s σ H v u Q I r (q v σ H Q w)⟩
theorem _root_.L2.PG.or {tg : Expr} {t t' : TG} (h : PG X tg t) (h' : PG X tg t') : PG X tg (fun v σ H Q => t v σ H Q ∨ t' v σ H Q) := ⟨fun pins s σ H v u Q I r w => w.elim (h.run pins s σ H v u Q I r) (h'.run pins s σ H v u Q I r)⟩
theorem _root_.L2.PGs.of {ts : List Expr} {t t' : TGs} (h : PGs X ts t) (q : ∀ v σ H Q, t' v σ H Q → t v σ H Q) : PGs X ts t' := ⟨fun pins s σ H v u Q I r w => h.run pins s σ H v u Q I r (q v σ H Q w)⟩
def dgName (i : Nat) : DTG := fun d env S R => R (env.set i (some d)) S
theorem dg_name {i : Nat} {x : Str} (hN : X.N.Nodup) (hi : X.N[i]? = some x) (hx : Loc X.env.scope x) (hf : X.fn x = true ∨ X.env.scope.names.lookup x = some .local := by first | exact .inl rfl | exact .inr rfl | assumption) : DG X true [i] (.Name x pos) (dgName i) := by
  refine ⟨(pg_name hN hi hx hf).of fun v σ H Q ⟨d, env, S, R, rw', rs, q, k⟩ => ?_⟩
  rcases rw' with r | ⟨z, _⟩
  · exact k _ _ _ _ q (rs.set i r) (.refl H) ⟨List.length_set, fun j hj => List.getElem?_set_ne fun z => hj (by rw [z]; exact List.mem_singleton_self _)⟩
  · cases z
def dgNil : DTGs := fun ds env S R => ds = [] ∧ R env S
def dgCons (g : DTG) (gs : DTGs) : DTGs := fun ds env S R => ∃ d r, ds = d :: r ∧ g d env S fun env' S' => gs r env' S' R
theorem dgs_nil : DGs X [] [] dgNil := ⟨pgs_nil.of fun us σ H Q ⟨ds, env, S, R, r, rs, ⟨e, q⟩, k⟩ => by
  subst e
  cases r
  exact ⟨rfl, k _ _ _ _ q rs (.refl H) (.refl _ _)⟩⟩
theorem dgs_cons {e : Expr} {es : List Expr} {vs us : List Nat} {g : DTG} {gs : DTGs} (h1 : DG X true vs e g) (h2 : DGs X us es gs)
    (hs : (assignEach (e :: es) X.env).map (·.2) = assign e X.env :: (assignEach es X.env).map (·.2) := by rfl) : DGs X (vs ++ us) (e :: es) (dgCons g gs) := by
  refine ⟨(pgs_cons h1.run h2.run hs).of fun ws σ H Q ⟨ds, env, S, R, r, rs, ⟨d, r', e, q⟩, k⟩ => ?_⟩
  subst e
  cases r with
  | cons r1 rr =>
    refine ⟨_, _, rfl, d, env, S, _, .inl r1, rs, q, fun env1 S1 σ1 H1 q1 rs1 e1 o1 => ⟨r', env1, S1, R, rr.ext e1, rs1, q1, fun env2 S2 σ2 H2 q2 rs2 e2 o2 => ?_⟩⟩
    exact k _ _ _ _ q2 rs2 (e1.trans e2) ((o1.mono fun i h => List.mem_append_left _ h).trans (o2.mono fun i h => List.mem_append_right _ h))
/-- the items of a tuple or of a list -/
def dUnp (n : Nat) (gs : DTGs) : DTG := fun d env S R => ∃ ds, ds.length = n ∧ ((d = .tup ds ∨ d = .wtup ds) ∨ ∃ a, d = .ref a ∧ S a = some (.lst ds)) ∧ gs ds env S R
theorem dg_tup {es : List Expr} {k n : Nat} {b : Bool} {vs : List Nat} {gs : DTGs} (hc : X.calm = true) (h : DGs X vs es gs)
    (hn : (assignEach es X.env).length = n := by rfl) (hst : (assignEach es X.env).findIdx? (·.1) = none := by rfl) : DG X b vs (.Tuple es k pos) (dUnp n gs) := by
  refine ⟨((pg_tup hc h.run hn hst).or (pg_unl hc h.run hn hst)).of fun v σ H Q ⟨d, env, S, R, r, rs, ⟨ds, hl, e, q⟩, k⟩ => ?_⟩
  rcases e with (rfl | rfl) | ⟨a, rfl, e⟩
  · rcases r with r | ⟨_, a, ds', vs', z, rfl, ht, r⟩
    · cases r with
      | tup ht r => exact .inl ⟨_, _, rfl, ht.sqT, r.length.symm.trans hl, ds, env, S, R, r, rs, q, k⟩
    · cases z
      exact .inl ⟨a, vs', rfl, ht, r.length.symm.trans hl, ds, env, S, R, r, rs, q, k⟩
  · rcases r with r | ⟨_, a, ds', vs', z, rfl, ht, r⟩
    · cases r with
      | wtup ht r => exact .inl ⟨_, _, rfl, .of ht, r.length.symm.trans hl, ds, env, S, R, r, rs, q, k⟩
    · cases z
  · rcases r with r | ⟨_, a, ds', vs', z, rfl, ht, r⟩
    · cases r
      obtain ⟨vs', h1, r⟩ := rs.sto.lst e
      exact .inr ⟨_, _, rfl, .of h1, r.length.symm.trans hl, ds, env, S, R, r, rs, q, k⟩
    · cases z
/-- target = e -/
def dAsg (te : DTE) (g : DTG) : DTS := fun C env S => te env S fun d S1 => g d env S1 C.nx
theorem lS_asg {K : KK} {b : Bool} {vs : List Nat} {g : DTG} {σ : L2.St} {H : Hp} {B : Ends} (h : lS K (dAsg te g) B σ H) : tAsg (lE K te) (lG K b vs g) B σ H := by
  obtain ⟨env, S, C, rs, h, k, _⟩ := h
  exact ⟨env, S, _, rs, h, fun d S1 v H1 q s1 r1 e1 => ⟨d, env, S1, C.nx, .inl r1, rs.ext e1 s1, q, fun _ _ _ _ q r e _ => k _ _ _ _ q r (e1.trans e)⟩⟩
theorem ds_asg {tg : Expr} {b : Bool} {vs : List Nat} {g : DTG} (he : DE X e te) (hg : DG X b vs tg g) (hs : swapsWithSole [tg] e pos.line X.env = pure false := by rfl) (hw : swappedStores [tg] e X.env = pure none := by rfl)
    (h1 : (assignEach [tg] X.env).map (·.2) = [assign tg X.env] := by rfl) : DS X (.Assign [tg] e pos) (dAsg te g) := ⟨(ps_asg he.run hg.run hs hw h1).of fun _ _ _ => lS_asg⟩
theorem ds_set {i : Nat} {x : Str} {pos' : Pos} (hN : X.N.Nodup) (hi : X.N[i]? = some x) (hx : Loc X.env.scope x) (he : DE X e te) (hs : swapsWith e (some (.Name x pos')) pos.line X.env = pure false := by rfl) (hf : X.fn x = true ∨ X.env.scope.names.lookup x = some .local := by first | exact .inl rfl | exact .inr rfl | assumption) :
    DS X (.Assign [.Name x pos'] e pos) (dAsg te (dgName i)) :=
  ⟨(ps_set hN hi hx he.run hs hf).of fun σ H B ⟨env, S, C, rs, h, k, _⟩ => ⟨env, S, _, rs, h, fun d S1 v H1 q s1 r1 e1 => k _ _ _ _ q ((rs.ext e1 s1).set i r1) e1⟩⟩
/-- two local names at once -/
theorem ds_par {i j : Nat} {x y : Str} {a b : Expr} {ta : DTA} {px py pt : Pos} {kt k2 pt2} (hc : X.calm = true) (hN : X.N.Nodup) (hi : X.N[i]? = some x) (hj : X.N[j]? = some y) (hij : i ≠ j)
    (hx : X.env.scope.names.lookup x = some .local) (hy : X.env.scope.names.lookup y = some .local) (ha : DA X [a, b] ta)
    (hw : swappedStores [.Tuple [.Name x px, .Name y py] kt pt] (.Tuple [a, b] k2 pt2) X.env = pure (some [x, y]))
    (hs : swapsWithSole [.Tuple [.Name x px, .Name y py] kt pt] (.Tuple [a, b] k2 pt2) pos.line X.env = pure false := by rfl) :
    DS X (.Assign [.Tuple [.Name x px, .Name y py] kt pt] (.Tuple [a, b] k2 pt2) pos) (dAsg (dTup ta) (dUnp 2 (dgCons (dgName i) (dgCons (dgName j) dgNil)))) := by
  refine ⟨(ps_par hc hN hi hj hij hx hy ha.run hw hs).of fun σ H B ⟨env, S, C, rs, h, k, _⟩ => ⟨env, S, _, rs, h, fun ds S1 vs H1 ⟨_, ds', hl, hd, q⟩ s1 r1 e1 => ?_⟩⟩
  have hdd : ds = ds' := by
    rcases hd with (z | z) | ⟨a, z, _⟩
    · cases z; rfl
    · cases z
    · cases z
  subst hdd
  obtain ⟨d1, r', rfl, d2, r'', rfl, rfl, q⟩ := q
  obtain ⟨v, u, rfl, rv, ru⟩ := r1.inv2
  exact ⟨v, u, rfl, k _ _ _ _ q (((rs.ext e1 s1).set i rv).set j ru) e1⟩
/-- name op= e -/
def dAug (i : Nat) (te : DTE) (r : DR2) : DTS := fun C env S => ∃ d, env[i]? = some (some d) ∧ te env S fun y S1 => r d y S1 fun z S2 => C.nx (env.set i (some z)) S2
theorem ds_aug {i : Nat} {x : Str} {op : Operator} {r : DR2} {pos' : Pos} (hN : X.N.Nodup) (hi : X.N[i]? = some x) (hx : Loc X.env.scope x) (ho : PIp X op (l2 X.kk r)) (he : DE X e te) (hf : X.fn x = true ∨ X.env.scope.names.lookup x = some .local := by first | exact .inl rfl | exact .inr rfl | assumption) :
    DS X (.AugAssign (.Name x pos') op e pos) (dAug i te r) := by
  refine ⟨(ps_aug hN hi hx he.run ho hf).of fun σ H B ⟨env, S, C, rs, ⟨d, hd, h⟩, k, _⟩ => ?_⟩
  obtain ⟨v, hv, rv⟩ := rs.slot i d hd
  exact ⟨v, hv, env, S, _, rs, h, fun y S1 u H1 q s1 r1 e1 => ⟨d, y, S1, _, rv.ext e1, r1, s1, q, fun z S2 w H2 q2 s2 r2 e2 => k _ _ _ _ q2 ((rs.ext (e1.trans e2) s2).set i r2) (e1.trans e2)⟩⟩
end
section
variable {X : Cx} {pos : Pos}
def dWhile (c : DTT) (tb : DTS) : DTS := fun C env S => ∃ W : Nat → Env → Sto → Prop, (∃ m, W m env S) ∧ ∀ m env S, W m env S →
  c env S fun b S1 => if b = true then tb { C with nx := fun env' S' => ∃ m', m' < m ∧ W m' env' S', ct := fun env' S' => ∃ m', m' < m ∧ W m' env' S', bk := C.nx } env S1 else C.nx env S1
theorem ds_while {c : Expr} {body : List Stmt} {tc : DTT} {tb : DTS} (hp : PassesOwn (model X.prog X.w) X.A X.env X.xe) (hc : DT X c tc) (hb : DSs X body tb) : DS X (.While c body [] pos) (dWhile tc tb) := by
  refine ⟨(ps_while hp hc.run hb.run).of fun σ H B ⟨env, S, C, rs, ⟨W, ⟨m0, w0⟩, turn⟩, k1, k2, _⟩ => ?_⟩
  refine ⟨fun m σ' H' => ∃ env' S', RS X.kk σ' H' env' S' ∧ Ext H H' ∧ W m env' S', ⟨m0, env, S, rs, .refl H, w0⟩, ?_⟩
  rintro m σ1 H1 ⟨env1, S1, rs1, e1, w1⟩
  refine ⟨env1, S1, _, rs1, turn m env1 S1 w1, fun b S2 H2 q s2 e2 => ?_⟩
  cases b with
  | false => exact k1 _ _ _ _ q (rs1.ext e2 s2) (e1.trans e2)
  | true =>
    refine ⟨fun σ' H' => ∃ m', m' < m ∧ ∃ env' S', RS X.kk σ' H' env' S' ∧ Ext H H' ∧ W m' env' S', fun σ' H' h => h, env1, S2, _, rs1.ext e2 s2, q, ?_, ?_, ?_, ?_⟩
    · rintro env' S' σ' H' ⟨m', hm, w'⟩ rs' e'
      exact ⟨m', hm, env', S', rs', e1.trans (e2.trans e'), w'⟩
    · exact fun d S' v H' q' s' r' e' => k2 _ _ _ _ q' s' r' (e1.trans (e2.trans e'))
    · exact fun env' S' σ' H' q' r' e' => k1 _ _ _ _ q' r' (e1.trans (e2.trans e'))
    · rintro env' S' σ' H' ⟨m', hm, w'⟩ rs' e'
      exact ⟨m', hm, env', S', rs', e1.trans (e2.trans e'), w'⟩
/-- what is walked: its items, and what must hold of the store at each turn -/
structure Src where
  items : List D
  live : Sto → Prop := fun _ => True
abbrev DTI := Env → Sto → (Src → Sto → Prop) → Prop
structure Steps (K : KK) (b : Bool) (H0 : Hp) (J : It) (w : Src) : Prop where
  ex : ∃ (G : Hp → Prop) (Y : Nat → Hp → V → Hp → Prop), Walk J w.items.length G Y ∧ (∀ H S, Ext H0 H → RelS K S H → w.live S → G H) ∧
    ∀ i H x H', Ext H0 H → Y i H x H' → Ext H H' ∧ (∀ S, RelS K S H → RelS K S H') ∧ ∃ d, w.items[i]? = some d ∧ RDw K b H' d x
def lI (K : KK) (b : Bool) (t : DTI) : TI := fun σ H R => ∃ env S R0, RS K σ H env S ∧ t env S R0 ∧ ∀ w S' J H', R0 w S' → RelS K S' H' → Ext H H' → Steps K b H' J w → R J H'
structure DI (X : Cx) (b : Bool) (tg e : Expr) (t : DTI) : Prop where
  run : PI X tg e (lI X.kk b t)
theorem _root_.L2.PI.of {tg e : Expr} {t t' : TI} (h : PI X tg e t) (q : ∀ σ H R, t' σ H R → t σ H R) : PI X tg e t' := ⟨fun pins s σ H R I w => h.run pins s σ H R I (q σ H R w)⟩
theorem _root_.L2.PI.or {tg e : Expr} {t t' : TI} (h : PI X tg e t) (h' : PI X tg e t') : PI X tg e (fun σ H R => t σ H R ∨ t' σ H R) := ⟨fun pins s σ H R I w => w.elim (h.run pins s σ H R I) (h'.run pins s σ H R I)⟩
def dFor (ti : DTI) (g : DTG) (tb : DTS) : DTS := fun C env S => ti env S fun w S1 => ∃ Pv : Nat → Env → Sto → Prop, Pv 0 env S1 ∧ (∀ i env S, i ≤ w.items.length → Pv i env S → w.live S) ∧
  (∀ i d env S, w.items[i]? = some d → Pv i env S → g d env S fun env' S' => tb { C with nx := Pv (i + 1), ct := Pv (i + 1), bk := C.nx } env' S') ∧ ∀ env S, Pv w.items.length env S → C.nx env S
theorem ds_for {tg iter : Expr} {b : Bool} {vs : List Nat} {body : List Stmt} {ti : DTI} {g : DTG} {tb : DTS} (hp : PassesOwn (model X.prog X.w) X.A X.env X.xe) (hc : X.calm = true) (hi : DI X b tg iter ti) (hg : DG X b vs tg g) (hb : DSs X body tb)
    (hs : ∀ x, foldedSetIterable iter X.env x = pure x := by intro _; rfl) : DS X (.For tg iter body [] pos) (dFor ti g tb) := by
  refine ⟨(ps_for hp hc hi.run hg.run hb.run hs).of fun σ H B ⟨env, S, C, rs, h, k1, k2, _⟩ => ⟨env, S, _, rs, h, fun w S1 J H1 ⟨Pv, p0, lv, step, done⟩ s1 e1 st => ?_⟩⟩
  obtain ⟨G, Y, wk, hG, hY⟩ := st.ex
  refine for_it wk (fun i σ' H' => ∃ env' S', RS X.kk σ' H' env' S' ∧ Ext H1 H' ∧ Pv i env' S') ⟨env, S1, rs.ext e1 s1, .refl H1, p0⟩ (fun i σ' H' hi ⟨env', S', rs', e', p'⟩ => hG H' S' e' rs'.sto (lv i env' S' hi p')) ?_ ?_
  · rintro i x σ2 H2 H3 hi ⟨env2, S2, rs2, e2, p2⟩ y
    obtain ⟨e3, hS, d, hd, rd⟩ := hY i H2 x H3 e2 y
    refine ⟨d, env2, S2, _, rd, rs2.ext e3 (hS S2 rs2.sto), step i d env2 S2 hd p2, fun env4 S4 σ4 H4 q4 rs4 e4 _ => ⟨env4, S4, _, rs4, q4, ?_, ?_, ?_, ?_⟩⟩
    · exact fun env' S' σ' H' q' rs' e' => ⟨env', S', rs', e2.trans (e3.trans (e4.trans e')), q'⟩
    · exact fun d S' v H' q' s' r' e' => k2 _ _ _ _ q' s' r' (e1.trans (e2.trans (e3.trans (e4.trans e'))))
    · exact fun env' S' σ' H' q' rs' e' => k1 _ _ _ _ q' rs' (e1.trans (e2.trans (e3.trans (e4.trans e'))))
    · exact fun env' S' σ' H' q' rs' e' => ⟨env', S', rs', e2.trans (e3.trans (e4.trans e')), q'⟩
  · rintro σ2 H2 ⟨env2, S2, rs2, e2, p2⟩
    exact k1 _ _ _ _ (done env2 S2 p2) rs2 (e1.trans e2)
end
end Sv
namespace Sv
open PySem PySem.Spec PyProof.Rows L2
section
variable {X : Cx} {tg e : Expr} {te : DTE} {pos p : Pos}
/-- a tuple or a list, as it comes -/
def iVal (K : PySem.W.Frag) (tl : TE) : TI := fun σ H R => tl σ H fun x H1 => ∃ a, x = .ref a ∧ (((∃ xs, SqL K H1 a xs) ∧ R (Itl K a) H1) ∨ ((∃ xs, SqT K H1 a xs) ∧ R (Itt K a) H1))
theorem pi_val {l : Expr} {tl : TE} (hl : PE X l tl) : PI X tg l (iVal X.K tl) := by
  refine ⟨fun pins s σ H R I h => ?_⟩
  refine thn (hl.run pins s σ H _ I h) fun v s1 ⟨x, H1, I1, r1, q1⟩ => ?_
  obtain ⟨a, e, q⟩ := q1
  subst e
  cases r1
  rcases q with ⟨⟨xs, hq⟩, q⟩ | ⟨⟨xs, hq⟩, q⟩
  · obtain ⟨its, rv, p, hz⟩ := I1.list hq
    refine wpAny_pyIter_list p.isList ?_
    refine ⟨s1.heap.objs.size, [s1.heap.objs.size], _, _, H1, rfl, I1.kept (t' := s1.toks) fun b o e => Heap.get?_push_of_some _ e, turn_list a _, ⟨_, Heap.get?_push_size _ rfl, rfl, rfl⟩, fun b hb => ?_, q⟩
    have e : b = s1.heap.objs.size := by simpa using hb
    subst e
    exact I1.fpOk (Nat.le_refl _) (I1.hok.fresh (Nat.le_refl _))
  · obtain ⟨its, rv, p, hz⟩ := I1.tuple hq
    refine wpAny_pyIter_tuple (show s1.heap.IsTuple a its.toArray from p) ?_
    refine ⟨s1.heap.objs.size, [s1.heap.objs.size], _, _, H1, rfl, I1.kept (t' := s1.toks) fun b o e => Heap.get?_push_of_some _ e, turn_tuple a _, ⟨_, Heap.get?_push_size _ rfl, rfl, rfl⟩, fun b hb => ?_, q⟩
    have e : b = s1.heap.objs.size := by simpa using hb
    subst e
    exact I1.fpOk (Nat.le_refl _) (I1.hok.fresh (Nat.le_refl _))
/-- the items of a value, with what must stay -/
def Items (S : Sto) (d : D) (w : Src) : Prop := match d with
  | .tup ds => w = ⟨ds, fun _ => True⟩
  | .rol ds => w = ⟨ds, fun _ => True⟩
  | .wtup ds => w = ⟨ds, fun _ => True⟩
  | .ref a => ∃ ds, S a = some (.lst ds) ∧ w = ⟨ds, fun S' => S' a = some (.lst ds)⟩
  | _ => False
def diVal (te : DTE) : DTI := fun env S R => te env S fun d S1 => ∃ w, Items S1 d w ∧ R w S1
theorem steps_list {K : KK} {H0 : Hp} {a : Addr} {ds : List D} {lv : Sto → Prop} (h : ∀ H S, Ext H0 H → RelS K S H → lv S → ∃ vs, SqL K.k H a vs ∧ RDs K H ds vs) : Steps K true H0 (Itl K.k a) ⟨ds, lv⟩ := by
  refine ⟨fun H => ∃ vs, SqL K.k H a vs ∧ RDs K H ds vs, fun i H x H' => H' = H ∧ ∃ vs, RDs K H ds vs ∧ vs[i]? = some x, ⟨fun i H hi ⟨vs, h1, r⟩ => ?_, fun H ⟨vs, h1, r⟩ => ⟨vs, h1, by rw [← r.length]; exact Nat.le_refl _⟩, fun i H x H' hi ⟨vs, h1, r⟩ y => ⟨y.1, vs, r, y.2 vs h1⟩⟩, h, ?_⟩
  · have : i < vs.length := by rw [← r.length]; exact hi
    exact ⟨vs, vs[i], h1, by simp [this]⟩
  · rintro i H x H' e ⟨rfl, vs, r, hx⟩
    obtain ⟨d, h1, h2⟩ := r.atv hx
    exact ⟨.refl _, fun S s => s, d, h1, .inl h2⟩
theorem steps_tup {K : KK} {H0 : Hp} {a : Addr} {ds : List D} {vs : List V} (h : ∀ H, Ext H0 H → SqT K.k H a vs) (r : RDs K H0 ds vs) : Steps K true H0 (Itt K.k a) ⟨ds, fun _ => True⟩ := by
  refine ⟨fun H => SqT K.k H a vs, fun i H x H' => H' = H ∧ vs[i]? = some x, ?_, fun H S e _ _ => h H e, ?_⟩
  · have w := walk_tup (K := K.k) (a := a) (xs := vs)
    rw [← r.length] at w
    exact w
  · rintro i H x H' e ⟨rfl, hx⟩
    obtain ⟨d, h1, h2⟩ := (r.ext e).atv hx
    exact ⟨.refl _, fun S s => s, d, h1, .inl h2⟩
theorem di_val (he : DE X e te) : DI X true tg e (diVal te) := by
  refine ⟨(pi_val he.run).of fun σ H R ⟨env, S, R0, rs, h, k⟩ => ⟨env, S, _, rs, h, fun d S1 v H1 ⟨w, hw, q⟩ s1 r1 e1 => ?_⟩⟩
  cases r1 with
  | tup ht r =>
    cases (show w = ⟨_, _⟩ from hw)
    exact ⟨_, rfl, .inr ⟨⟨_, ht.sqT⟩, k _ _ _ _ q s1 e1 (steps_tup (fun H e => (ht.ext e).sqT) r)⟩⟩
  | wtup ht r =>
    cases (show w = ⟨_, _⟩ from hw)
    exact ⟨_, rfl, .inr ⟨⟨_, .of ht⟩, k _ _ _ _ q s1 e1 (steps_tup (fun H e => .of (e.2 _ _ ht)) r)⟩⟩
  | rol ht r =>
    cases (show w = ⟨_, _⟩ from hw)
    exact ⟨_, rfl, .inl ⟨⟨_, ht.sqL⟩, k _ _ _ _ q s1 e1 (steps_list fun H S e _ _ => ⟨_, (ht.ext e).sqL, r.ext e⟩)⟩⟩
  | ref a =>
    obtain ⟨ds, hs, rfl⟩ := hw
    obtain ⟨vs, h1, r⟩ := s1.lst hs
    refine ⟨_, rfl, .inl ⟨⟨_, .of h1⟩, k _ _ _ _ q s1 e1 (steps_list fun H S e s l => ?_)⟩⟩
    obtain ⟨vs', h2, r'⟩ := s.lst l
    exact ⟨vs', .of h2, r'⟩
  | _ => exact hw.elim
/-- range -/
def rgD (lo : Int) (n : Nat) : List D := (List.range n).map fun i => .int (lo + (i : Nat))
theorem steps_range {K : KK} {H0 : Hp} {lo : Int} {n : Nat} : Steps K true H0 (Itr lo n) ⟨rgD lo n, fun _ => True⟩ := by
  refine ⟨fun _ => True, fun i H x H' => i < n ∧ H' = H ∧ x = .int (lo + i), ?_, fun _ _ _ _ _ => trivial, ?_⟩
  · have w := walk_range (lo := lo) (n := n)
    have : (rgD lo n).length = n := by simp [rgD]
    rw [this]
    exact ⟨w.goes, w.stops, fun i H x H' hi g y => ⟨hi, w.yields i H x H' hi g y⟩⟩
  · rintro i H x H' e ⟨hi, rfl, rfl⟩
    refine ⟨.refl _, fun S s => s, .int (lo + i), ?_, .inl (.int _)⟩
    show (rgD lo n)[i]? = _
    rw [rgD, List.getElem?_map, List.getElem?_range hi]
    rfl
def diRg1 (ta : DTA) : DTI := fun env S R => ta env S fun ds S1 => ∃ n : Int, ds = [.int n] ∧ -(2 ^ 62) ≤ n ∧ n < 2 ^ 62 ∧ R ⟨rgD 0 n.toNat, fun _ => True⟩ S1
theorem di_rg1 {ta : DTA} (hg : Gl X "range") (hm : X.mg "range" = none) (ha : DA X [e] ta) (hs : starEach [e] X.env = [(false, eval e X.env)] := by rfl) : DI X true tg (.Call (.Name "range" p) [e] [] pos) (diRg1 ta) := by
  refine ⟨(pi_range1 hg hm ha.run hs).of fun σ H R ⟨env, S, R0, rs, h, k⟩ => ⟨env, S, _, rs, h, fun ds S1 vs H1 q s1 r1 e1 => ?_⟩⟩
  obtain ⟨n, rfl, h1, h2, q⟩ := q
  obtain ⟨v, rfl, r⟩ := r1.inv1
  cases r
  exact ⟨n, rfl, h1, h2, k _ _ _ _ q s1 e1 steps_range⟩
theorem rdw_pair {K : KK} {H : Hp} {T : Addr} {d e : D} {x y : V} (n : H T = none) (r1 : RD K H d x) (r2 : RD K H e y) : RDw K false (upd H T (.tup [x, y])) (.tup [d, e]) (.ref T) :=
  .inr ⟨rfl, T, [d, e], [x, y], rfl, rfl, .of upd_same, .cons (r1.ext (.new n)) (.cons (r2.ext (.new n)) .nil)⟩
theorem steps_pair {K : KK} {H0 : Hp} {J : It} {n : Nat} {G : Hp → Prop} {xs ys : Nat → Option V} {ps : List D} {lv : Sto → Prop} (w : Walk J n G (YPair xs ys)) (hn : ps.length = n) (hG : ∀ H S, Ext H0 H → RelS K S H → lv S → G H)
    (hp : ∀ i H x y, i < n → Ext H0 H → G H → xs i = some x → ys i = some y → ∃ d e, ps[i]? = some (.tup [d, e]) ∧ RD K H d x ∧ RD K H e y) : Steps K false H0 J ⟨ps, lv⟩ := by
  subst hn
  refine ⟨G, fun i H x H' => i < ps.length ∧ G H ∧ YPair xs ys i H x H', ⟨w.goes, w.stops, fun i H x H' hi g y => ⟨hi, g, w.yields i H x H' hi g y⟩⟩, hG, ?_⟩
  rintro i H v H' e ⟨hi, g, T, x, y, rfl, nT, rfl, hx, hy⟩
  obtain ⟨d, d', h1, h2, h3⟩ := hp i H x y hi e g hx hy
  exact ⟨.new nT, fun S s => s.new nT, _, h1, rdw_pair nT h2 h3⟩
def enD (ds : List D) : List D := ds.mapIdx fun i d => .tup [.int (i : Nat), d]
theorem enD_at {ds : List D} {i : Nat} {d : D} (h : ds[i]? = some d) : (enD ds)[i]? = some (.tup [.int (i : Nat), d]) := by
  rw [enD, List.getElem?_mapIdx, h]
  rfl
theorem enD_len (ds : List D) : (enD ds).length = ds.length := by simp [enD]
/-- enumerate of a tuple or a list -/
def iEnumA (K : PySem.W.Frag) (ta : TA) : TI := fun σ H R => ta σ H fun vs H1 => ∃ a xs, vs = [.ref a] ∧ ((SqL K H1 a xs ∧ R (Ite K a) H1) ∨ (SqT K H1 a xs ∧ R (Itte K a xs) H1))
theorem pi_enumA {ta : TA} {elts : List Expr} {kk : Nat} {tpos : Pos} (hg : Gl X "enumerate") (hm : X.mg "enumerate" = none) (ha : PA X [e] ta)
    (hs : starEach [e] X.env = [(false, eval e X.env)] := by rfl) : PI X (.Tuple elts kk tpos) (.Call (.Name "enumerate" p) [e] [] pos) (iEnumA X.K ta) := by
  refine ⟨fun pins s σ H R I h => ?_⟩
  refine Call_ (ld_blt I hg hm boot_enumerate (PyProof.Rows.callWith_type1 (thn (ha.run pos pins s σ H _ I h) fun us s1 ⟨vs, H1, I1, r1, q1⟩ => ?_) hs rfl))
  obtain ⟨a, xs, rfl, q⟩ := q1
  obtain ⟨u, rfl, ru⟩ := vals1 r1
  cases ru
  rcases q with ⟨hq, q⟩ | ⟨hq, q⟩
  · obtain ⟨its, rv, p', hz⟩ := I1.list hq
    refine call_enumerate_list p'.isList fun h' he hit hsz hk => wpAny_pyIter_enum he ?_
    have I2 : Inv X pins σ H1 { s1 with heap := h' } := I1.kept (t' := s1.toks) hk
    refine ⟨s1.heap.objs.size + 1, [s1.heap.objs.size + 1, s1.heap.objs.size], _, _, H1, rfl, I2, turn_enum a (s1.heap.objs.size + 1) s1.heap.objs.size, ⟨⟨.none, he⟩, hit, Nat.succ_ne_self _⟩, fun b hb => ?_, q⟩
    have hle : s1.heap.objs.size ≤ b := by
      rcases (show b = s1.heap.objs.size + 1 ∨ b = s1.heap.objs.size by simpa using hb) with rfl | rfl
      · exact Nat.le_succ _
      · exact Nat.le_refl _
    exact I1.fpOk hle (I1.hok.fresh hle)
  · obtain ⟨its, rv, p', hz⟩ := I1.tuple hq
    have hal : a < s1.heap.objs.size := by
      obtain ⟨o, ho, _⟩ := id p'
      exact Heap.lt_size ho
    refine sv_enum_call (begins_tuple a its.toArray) p' fun h' he hit hk => wpAny_pyIter_enum he ?_
    have I2 : Inv X pins σ H1 { s1 with heap := h' } := I1.kept (t' := s1.toks) hk
    refine ⟨s1.heap.objs.size + 1, [s1.heap.objs.size + 1, s1.heap.objs.size], _, _, H1, rfl, I2, turn_etup a (s1.heap.objs.size + 1) s1.heap.objs.size xs,
      ⟨⟨.none, he⟩, ⟨_, hit, rfl, rfl⟩, Nat.succ_ne_self _, Nat.ne_of_lt hal, Nat.ne_of_lt (Nat.lt_succ_of_lt hal)⟩, fun b hb => ?_, q⟩
    have hle : s1.heap.objs.size ≤ b := by
      rcases (show b = s1.heap.objs.size + 1 ∨ b = s1.heap.objs.size by simpa using hb) with rfl | rfl
      · exact Nat.le_succ _
      · exact Nat.le_refl _
    exact I1.fpOk hle (I1.hok.fresh hle)
theorem walk_etup' {K : PySem.W.Frag} {a : Addr} {xs : List V} : Walk (Itte K a xs) xs.length (fun H => SqT K H a xs) (YPair (fun i => some (.int (i : Nat))) (fun i => xs[i]?)) :=
  ⟨fun _ _ hi q => ⟨q, hi⟩, fun _ q => ⟨q, rfl⟩, fun i H v H' _ q y => by
    obtain ⟨T, x, h1, h2, h3, h4⟩ := y
    exact ⟨T, .int (i : Nat), x, h1, h2, h3, rfl, h4⟩⟩
theorem steps_enumL {K : KK} {H0 : Hp} {a : Addr} {ds : List D} {lv : Sto → Prop} (h : ∀ H S, Ext H0 H → RelS K S H → lv S → ∃ vs, SqL K.k H a vs ∧ RDs K H ds vs) : Steps K false H0 (Ite K.k a) ⟨enD ds, lv⟩ := by
  refine ⟨fun H => ∃ vs, SqL K.k H a vs ∧ RDs K H ds vs, fun i H v H' => ∃ T x vs, v = .ref T ∧ H T = none ∧ H' = upd H T (.tup [.int (i : Nat), x]) ∧ RDs K H ds vs ∧ vs[i]? = some x, ⟨fun i H hi ⟨vs, h1, r⟩ => ?_, fun H ⟨vs, h1, r⟩ => ⟨vs, h1, ?_⟩, fun i H v H' hi ⟨vs, h1, r⟩ y => ?_⟩, h, ?_⟩
  · have : i < vs.length := by rw [← r.length, ← enD_len]; exact hi
    exact ⟨vs, vs[i], h1, by simp [this]⟩
  · show vs.length ≤ (enD ds).length
    rw [← r.length, enD_len]
    exact Nat.le_refl _
  · obtain ⟨T, x, h2, h3, h4, h5⟩ := y
    exact ⟨T, x, vs, h2, h3, h4, r, h5 vs h1⟩
  · rintro i H v H' e ⟨T, x, vs, rfl, nT, rfl, r, hx⟩
    obtain ⟨d, h1, h2⟩ := r.atv hx
    exact ⟨.new nT, fun S s => s.new nT, _, enD_at h1, rdw_pair nT (.int _) h2⟩
def diEnum (ta : DTA) : DTI := fun env S R => ta env S fun ds S1 => ∃ d w, ds = [d] ∧ Items S1 d w ∧ R ⟨enD w.items, w.live⟩ S1
theorem di_enum {ta : DTA} {elts : List Expr} {kk : Nat} {tpos : Pos} (hg : Gl X "enumerate") (hm : X.mg "enumerate" = none) (ha : DA X [e] ta) (hs : starEach [e] X.env = [(false, eval e X.env)] := by rfl) :
    DI X false (.Tuple elts kk tpos) (.Call (.Name "enumerate" p) [e] [] pos) (diEnum ta) := by
  refine ⟨(pi_enumA hg hm ha.run hs).of fun σ H R ⟨env, S, R0, rs, h, k⟩ => ⟨env, S, _, rs, h, fun ds S1 vs H1 ⟨d, w, hd, hw, q⟩ s1 r1 e1 => ?_⟩⟩
  subst hd
  obtain ⟨v, rfl, r⟩ := r1.inv1
  cases r with
  | tup ht r =>
    cases (show w = ⟨_, _⟩ from hw)
    refine ⟨_, _, rfl, .inr ⟨ht.sqT, k _ _ _ _ q s1 e1 (steps_pair walk_etup' (by rw [enD_len, r.length]) (fun H S e _ _ => (ht.ext e).sqT) fun i H x y hi e g hx hy => ?_)⟩⟩
    cases hx
    obtain ⟨d, h1, h2⟩ := (r.ext e).atv hy
    exact ⟨_, _, enD_at h1, .int _, h2⟩
  | wtup ht r =>
    cases (show w = ⟨_, _⟩ from hw)
    refine ⟨_, _, rfl, .inr ⟨.of ht, k _ _ _ _ q s1 e1 (steps_pair walk_etup' (by rw [enD_len, r.length]) (fun H S e _ _ => .of (e.2 _ _ ht)) fun i H x y hi e g hx hy => ?_)⟩⟩
    cases hx
    obtain ⟨d, h1, h2⟩ := (r.ext e).atv hy
    exact ⟨_, _, enD_at h1, .int _, h2⟩
  | rol ht r =>
    cases (show w = ⟨_, _⟩ from hw)
    refine ⟨_, _, rfl, .inl ⟨ht.sqL, k _ _ _ _ q s1 e1 (steps_pair walk_enum (by rw [enD_len, r.length]) (fun H S e _ _ => (ht.ext e).sqL) fun i H x y hi e g hx hy => ?_)⟩⟩
    cases hx
    obtain ⟨d, h1, h2⟩ := (r.ext e).atv hy
    exact ⟨_, _, enD_at h1, .int _, h2⟩
  | ref a =>
    obtain ⟨ds, hs', rfl⟩ := hw
    obtain ⟨vs, h1, r⟩ := s1.lst hs'
    refine ⟨_, _, rfl, .inl ⟨.of h1, k _ _ _ _ q s1 e1 (steps_enumL fun H S e s l => ?_)⟩⟩
    obtain ⟨vs', h2, r'⟩ := s.lst l
    exact ⟨vs', .of h2, r'⟩
  | _ => exact hw.elim
end
end Sv
namespace Sv
open PySem PySem.Spec PyProof.Rows L2
theorem wipe_in {σ : L2.St} {i : Nat} : ∀ {vs : List Nat}, i ∈ vs → i < σ.length → (wipe σ vs)[i]? = some none
  | v :: vs, h, hl => by
    unfold wipe
    by_cases z : v = i
    · subst z
      rw [List.getElem?_set_self (by rw [wipe_length]; exact hl)]
    · rw [List.getElem?_set_ne z]
      exact wipe_in ((List.mem_cons.mp h).resolve_left fun e => z e.symm) hl
theorem wipe_at {σ τ : L2.St} {vs : List Nat} (hl : τ.length = σ.length) (h : ∀ i, i ∉ vs → τ[i]? = σ[i]?) : wipe τ vs = wipe σ vs := by
  refine List.ext_getElem? fun i => ?_
  by_cases hi : i ∈ vs
  · by_cases z : i < σ.length
    · rw [wipe_in hi z, wipe_in hi (hl ▸ z)]
    · rw [List.getElem?_eq_none (by rw [wipe_length]; omega), List.getElem?_eq_none (by rw [wipe_length]; omega)]
  · rw [wipe_out hi, wipe_out hi, h i hi]
theorem wipe_off {σ τ : L2.St} {vs us : List Nat} (o : Off vs (wipe σ us) τ) (h : ∀ i ∈ vs, i ∈ us) : wipe τ us = wipe σ us :=
  wipe_at (by rw [o.1, wipe_length]) fun i hi => by rw [o.2 i fun z => hi (h i z), wipe_out hi]
def dwipe (env : Env) : List Nat → Env
  | [] => env
  | v :: vs => (dwipe env vs).set v none
theorem RS.wipe {K : KK} {σ : L2.St} {H : Hp} {env : Env} {S : Sto} (r : RS K σ H env S) : ∀ vs : List Nat, RS K (L2.wipe σ vs) H (dwipe env vs) S
  | [] => r
  | v :: vs => by
    have q := RS.wipe r vs
    refine ⟨by unfold dwipe L2.wipe; rw [List.length_set, List.length_set]; exact q.len, fun i d h => ?_, q.sto⟩
    unfold dwipe at h
    by_cases z : v = i
    · subst z
      by_cases hl : v < (dwipe env vs).length
      · rw [List.getElem?_set_self hl] at h
        cases h
      · rw [List.getElem?_eq_none (by rw [List.length_set]; omega)] at h
        cases h
    · rw [List.getElem?_set_ne z] at h
      obtain ⟨x, h1, h2⟩ := q.slot i d h
      exact ⟨x, by unfold L2.wipe; rw [List.getElem?_set_ne z]; exact h1, h2⟩
structure DTs (X : Cx) (ifs : List Expr) (t : DTT) : Prop where
  run : PTs X ifs (lT X.kk t)
theorem PTs.of {X : Cx} {ifs : List Expr} {t t' : TT} (h : PTs X ifs t) (q : ∀ σ H Q, t' σ H Q → t σ H Q) : PTs X ifs t' := ⟨fun pins s σ H Q I w => h.run pins s σ H Q I (q σ H Q w)⟩
def dYes : DTT := fun _ S R => R true S
theorem dts_nil {X : Cx} : DTs X [] dYes := ⟨PTs.of pts_nil fun σ H Q ⟨env, S, R, rs, q, k⟩ => k _ _ _ q rs.sto (.refl H)⟩
theorem dts_one {X : Cx} {c : Expr} {t : DTT} (h : DT X c t) : DTs X [c] t := ⟨pts_one h.run⟩
section
variable {X : Cx}
/-- [elt for target in iter if ..]: p the new list -/
def dLc (ti : DTI) (g : DTG) (tt : DTT) (te : DTE) (us : List Nat) : DTE := fun env S R => ti env S fun w S1 => ∀ p, S1 p = none → ∃ Pv : Nat → Sto → Prop, Pv 0 (S1.put p (.lst [])) ∧ (∀ i S, i ≤ w.items.length → Pv i S → w.live S) ∧
  (∀ i d S, w.items[i]? = some d → Pv i S → g d (dwipe env us) S fun env' S' => tt env' S' fun b S2 => if b = true then te env' S2 fun y S3 => ∃ acc, S3 p = some (.lst acc) ∧ acc.length < 1000000 ∧ Pv (i + 1) (S3.put p (.lst (acc ++ [y]))) else Pv (i + 1) S2) ∧
  ∀ S, Pv w.items.length S → R (.ref p) S
theorem app_rel {K : KK} {S : Sto} {H : Hp} {p : Addr} {acc : List D} {y : D} {v : V} (s : RelS K S H) (h : S p = some (.lst acc)) (hl : acc.length < 1000000) (r : RD K H y v) :
    ∃ vs, H p = some (.lst vs) ∧ vs.length < sizeLine ∧ RelS K (S.put p (.lst (acc ++ [y]))) (upd H p (.lst (vs ++ [v]))) ∧ Ext H (upd H p (.lst (vs ++ [v]))) := by
  obtain ⟨vs, h1, h2⟩ := s.lst h
  have e : Ext H (upd H p (.lst (vs ++ [v]))) := .put h1 trivial
  exact ⟨vs, h1, Nat.lt_of_lt_of_le (h2.length ▸ hl) (by decide), s.put h1 trivial ⟨_, upd_same, (h2.append (.cons r .nil)).ext e⟩, e⟩
theorem lE_lc {K : KK} {b : Bool} {ti : DTI} {g : DTG} {tt : DTT} {te : DTE} {us vs : List Nat} {σ : L2.St} {H : Hp} {Q : VK} (hv : ∀ i ∈ vs, i ∈ us) (h : lE K (dLc ti g tt te us) σ H Q) : tLc (lI K b ti) (lG K b vs g) (lT K tt) (lE K te) us σ H Q := by
  obtain ⟨env, S, R, rs, h, k⟩ := h
  refine ⟨env, S, _, rs, h, fun w S1 J H1 q s1 e1 st p np => ?_⟩
  obtain ⟨Pv, p0, lv, step, done⟩ := q p (s1.fresh np)
  obtain ⟨G, Y, wk, hG, hY⟩ := st.ex
  have s1' : RelS K (S1.put p (.lst [])) (upd H1 p (.lst [])) := s1.lay np ⟨_, upd_same, .nil⟩
  have e1' : Ext H1 (upd H1 p (.lst [])) := .new np
  refine lc_it wk (fun i H' => ∃ S', RelS K S' H' ∧ Ext H1 H' ∧ Pv i S') ⟨_, s1', e1', p0⟩ (fun i H' hi ⟨S', s', e', p'⟩ => hG H' S' e' s' (lv i S' hi p')) ?_ ?_
  · rintro i x H2 H3 hi ⟨S2, s2, e2, p2⟩ y
    obtain ⟨e3, hS, d, hd, rd⟩ := hY i H2 x H3 e2 y
    have e13 := e1.trans (e2.trans e3)
    refine ⟨d, dwipe env us, S2, _, rd, (rs.ext e13 (hS S2 s2)).wipe us, step i d S2 hd p2, fun env4 S4 σ4 H4 q4 rs4 e4 o4 => ⟨wipe_off o4 hv, env4, S4, _, rs4, q4, fun c S5 H5 q5 s5 e5 => ?_⟩⟩
    cases c with
    | false => exact ⟨S5, s5, e2.trans (e3.trans (e4.trans e5)), q5⟩
    | true =>
      refine ⟨env4, S5, _, rs4.ext e5 s5, q5, fun y S6 v H6 ⟨acc, h1, h2, q6⟩ s6 r6 e6 => ?_⟩
      obtain ⟨vs', h3, h4, s7, e7⟩ := app_rel s6 h1 h2 r6
      exact ⟨vs', h3, h4, _, s7, e2.trans (e3.trans (e4.trans (e5.trans (e6.trans e7)))), q6⟩
  · rintro H2 ⟨S2, s2, e2, p2⟩
    exact k _ _ _ _ (done S2 p2) s2 (.ref p) (e1.trans e2)
variable {elt tg iter : Expr} {ifs : List Expr} {scope : Scope} {own : List (Str × Nat)} {vs : List Nat} {pos spos : Pos} {b : Bool} {ti : DTI} {g : DTG} {tt : DTT} {te : DTE}
theorem de_lc (hc : X.calm = true) (hN : X.N.Nodup) (hi : DI X b tg iter ti) (ok : BlkOk X.N X.env.scope scope own) (hv : ∀ i ∈ vs, i ∈ own.map (·.2))
    (hg : ∀ (s : Shared) (H : Hp) (C : Addr) (cl : List (Str × Addr)) (fp : List Addr), DG (X.blk s H scope (compEnvC scope cl C X.env) fp) b vs tg g) (ht : ∀ (s : Shared) (H : Hp) (C : Addr) (cl : List (Str × Addr)) (fp : List Addr), DTs (X.blk s H scope (compEnvC scope cl C X.env) fp) ifs tt)
    (he : ∀ (s : Shared) (H : Hp) (C : Addr) (cl : List (Str × Addr)) (fp : List Addr), DE (X.blk s H scope (compEnvC scope cl C X.env) fp) elt te) (hs : ∀ x, foldedSetIterable iter X.env x = pure x := by intro _; rfl) :
    DE X (.ListComp elt [⟨tg, iter, ifs, 0⟩] scope pos) (dLc ti g tt te (own.map (·.2))) :=
  ⟨(pe_lc (te := lE X.kk te) hc hN hi.run ok (fun s H C cl fp => (hg s H C cl fp).run) (fun s H C cl fp => (ht s H C cl fp).run) (fun s H C cl fp => (he s H C cl fp).run) hs).of fun _ _ _ => lE_lc hv⟩
theorem ds_setLc {i : Nat} {y : Str} {py : Pos} (hc : X.calm = true) (hN : X.N.Nodup) (hy : X.N[i]? = some y) (hyl : X.env.scope.names.lookup y = some .local)
    (hsw : swapsWith (.ListComp elt [⟨tg, iter, ifs, 0⟩] scope pos) (some (.Name y py)) spos.line X.env = pure true) (hi : DI X b tg iter ti) (ok : BlkOk X.N X.env.scope scope own) (hv : ∀ i ∈ vs, i ∈ own.map (·.2))
    (hg : ∀ (s : Shared) (H : Hp) (C : Addr) (cl : List (Str × Addr)) (fp : List Addr), DG (X.blk s H scope (compEnvC scope cl C X.env) fp) b vs tg g) (ht : ∀ (s : Shared) (H : Hp) (C : Addr) (cl : List (Str × Addr)) (fp : List Addr), DTs (X.blk s H scope (compEnvC scope cl C X.env) fp) ifs tt)
    (he : ∀ (s : Shared) (H : Hp) (C : Addr) (cl : List (Str × Addr)) (fp : List Addr), DE (X.blk s H scope (compEnvC scope cl C X.env) fp) elt te) (hs : ∀ x, foldedSetIterable iter X.env x = pure x := by intro _; rfl) :
    DS X (.Assign [.Name y py] (.ListComp elt [⟨tg, iter, ifs, 0⟩] scope pos) spos) (dAsg (dLc ti g tt te (own.map (·.2))) (dgName i)) := by
  refine ⟨(ps_setLc (g := lG X.kk b vs g) (tt := lT X.kk tt) (te := lE X.kk te) hc hN hy hyl hsw hi.run ok (fun s H C cl fp => (hg s H C cl fp).run) (fun s H C cl fp => (ht s H C cl fp).run) (fun s H C cl fp => (he s H C cl fp).run) hs).of fun σ H B h => ?_⟩
  obtain ⟨env, S, C, rs, h, k, _⟩ := h
  exact lE_lc hv ⟨env, S, _, rs, h, fun d S1 v H1 q s1 r1 e1 => k _ _ _ _ q ((rs.ext e1 s1).set i r1) e1⟩
/-- two clauses -/
def dLc2 (ti : DTI) (g : DTG) (tt : DTT) (ti1 : DTI) (g1 : DTG) (tt1 : DTT) (te : DTE) (us us1 : List Nat) : DTE := fun env S R => ti env S fun w S1 => ∀ p, S1 p = none → ∃ Pv : Nat → Sto → Prop, Pv 0 (S1.put p (.lst [])) ∧ (∀ i S, i ≤ w.items.length → Pv i S → w.live S) ∧
  (∀ i d S, w.items[i]? = some d → Pv i S → g d (dwipe env us) S fun env' S' => tt env' S' fun b S2 => if b = true then ti1 env' S2 fun w1 S3 => ∃ Pw : Nat → Sto → Prop, Pw 0 S3 ∧ (∀ j S, j ≤ w1.items.length → Pw j S → w1.live S) ∧
    (∀ j e S, w1.items[j]? = some e → Pw j S → g1 e (dwipe env' us1) S fun env2 S4 => tt1 env2 S4 fun b S5 => if b = true then te env2 S5 fun y S6 => ∃ acc, S6 p = some (.lst acc) ∧ acc.length < 1000000 ∧ Pw (j + 1) (S6.put p (.lst (acc ++ [y]))) else Pw (j + 1) S5) ∧
    (∀ S, Pw w1.items.length S → Pv (i + 1) S) else Pv (i + 1) S2) ∧
  ∀ S, Pv w.items.length S → R (.ref p) S
theorem lE_lc2 {K : KK} {b b1 : Bool} {ti ti1 : DTI} {g g1 : DTG} {tt tt1 : DTT} {te : DTE} {us us1 vs vs1 : List Nat} {σ : L2.St} {H : Hp} {Q : VK} (hv : ∀ i ∈ vs, i ∈ us) (hv1 : ∀ i ∈ vs1, i ∈ us1) (h : lE K (dLc2 ti g tt ti1 g1 tt1 te us us1) σ H Q) :
    tLc2 (lI K b ti) (lG K b vs g) (lT K tt) (lI K b1 ti1) (lG K b1 vs1 g1) (lT K tt1) (lE K te) us us1 σ H Q := by
  obtain ⟨env, S, R, rs, h, k⟩ := h
  refine ⟨env, S, _, rs, h, fun w S1 J H1 q s1 e1 st p np => ?_⟩
  obtain ⟨Pv, p0, lv, step, done⟩ := q p (s1.fresh np)
  obtain ⟨G, Y, wk, hG, hY⟩ := st.ex
  have s1' : RelS K (S1.put p (.lst [])) (upd H1 p (.lst [])) := s1.lay np ⟨_, upd_same, .nil⟩
  have e1' : Ext H1 (upd H1 p (.lst [])) := .new np
  refine lc2_out wk (fun i H' => ∃ S', RelS K S' H' ∧ Ext H1 H' ∧ Pv i S') ⟨_, s1', e1', p0⟩ (fun i H' hi ⟨S', s', e', p'⟩ => hG H' S' e' s' (lv i S' hi p')) ?_ ?_
  · rintro i x H2 H3 hi ⟨S2, s2, e2, p2⟩ y
    obtain ⟨e3, hS, d, hd, rd⟩ := hY i H2 x H3 e2 y
    have e13 := e1.trans (e2.trans e3)
    refine ⟨d, dwipe env us, S2, _, rd, (rs.ext e13 (hS S2 s2)).wipe us, step i d S2 hd p2, fun env4 S4 σ4 H4 q4 rs4 e4 o4 => ⟨wipe_off o4 hv, env4, S4, _, rs4, q4, fun c S5 H5 q5 s5 e5 => ?_⟩⟩
    have e25 := e2.trans (e3.trans (e4.trans e5))
    cases c with
    | false => exact ⟨S5, s5, e25, q5⟩
    | true =>
      refine ⟨env4, S5, _, rs4.ext e5 s5, q5, fun w1 S6 J1 H6 ⟨Pw, pw0, lv1, step1, done1⟩ s6 e6 st1 => ?_⟩
      obtain ⟨G1, Y1, wk1, hG1, hY1⟩ := st1.ex
      refine lc2_in wk1 (fun j H' => ∃ S', RelS K S' H' ∧ Ext H6 H' ∧ Pw j S') ⟨_, s6, .refl _, pw0⟩ (fun i H' hi ⟨S', s', e', p'⟩ => hG1 H' S' e' s' (lv1 i S' hi p')) ?_ ?_
      · rintro j x7 H7 H8 hj ⟨S7, s7, e7, p7⟩ y7
        obtain ⟨e8, hS8, d8, hd8, rd8⟩ := hY1 j H7 x7 H8 e7 y7
        refine ⟨d8, dwipe env4 us1, S7, _, rd8, (rs4.ext (e5.trans (e6.trans (e7.trans e8))) (hS8 S7 s7)).wipe us1, step1 j d8 S7 hd8 p7, fun env9 S9 σ9 H9 q9 rs9 e9 o9 => ⟨wipe_off o9 hv1, env9, S9, _, rs9, q9, fun c S10 H10 q10 s10 e10 => ?_⟩⟩
        have e710 := e7.trans (e8.trans (e9.trans e10))
        cases c with
        | false => exact ⟨S10, s10, e710, q10⟩
        | true =>
          refine ⟨env9, S10, _, rs9.ext e10 s10, q10, fun y S11 v H11 ⟨acc, h1, h2, q11⟩ s11 r11 e11 => ?_⟩
          obtain ⟨vs', h3, h4, s12, e12⟩ := app_rel s11 h1 h2 r11
          exact ⟨vs', h3, h4, _, s12, e710.trans (e11.trans e12), q11⟩
      · rintro H7 ⟨S7, s7, e7, p7⟩
        exact ⟨S7, s7, e25.trans (e6.trans e7), done1 S7 p7⟩
  · rintro H2 ⟨S2, s2, e2, p2⟩
    exact k _ _ _ _ (done S2 p2) s2 (.ref p) (e1.trans e2)
theorem de_lc2 {tg1 iter1 : Expr} {ifs1 : List Expr} {us1 vs1 : List Nat} {b1 : Bool} {ti1 : DTI} {g1 : DTG} {tt1 : DTT} (hc : X.calm = true) (hN : X.N.Nodup) (hi : DI X b tg iter ti) (ok : BlkOk X.N X.env.scope scope own) (hv : ∀ i ∈ vs, i ∈ own.map (·.2)) (hv1 : ∀ i ∈ vs1, i ∈ us1) (hu1 : ∀ i ∈ us1, i ∈ own.map (·.2))
    (hg : ∀ (s : Shared) (H : Hp) (C : Addr) (cl : List (Str × Addr)) (fp : List Addr), DG (X.blk s H scope (compEnvC scope cl C X.env) fp) b vs tg g) (ht : ∀ (s : Shared) (H : Hp) (C : Addr) (cl : List (Str × Addr)) (fp : List Addr), DTs (X.blk s H scope (compEnvC scope cl C X.env) fp) ifs tt)
    (hi1 : ∀ (s : Shared) (H : Hp) (C : Addr) (cl : List (Str × Addr)) (fp : List Addr), DI (X.blk s H scope (compEnvC scope cl C X.env) fp) b1 tg1 iter1 ti1)
    (hg1 : ∀ (s : Shared) (H : Hp) (C : Addr) (cl : List (Str × Addr)) (fp : List Addr), DG (X.blk s H scope (compEnvC scope cl C X.env) fp) b1 vs1 tg1 g1) (ht1 : ∀ (s : Shared) (H : Hp) (C : Addr) (cl : List (Str × Addr)) (fp : List Addr), DTs (X.blk s H scope (compEnvC scope cl C X.env) fp) ifs1 tt1)
    (he : ∀ (s : Shared) (H : Hp) (C : Addr) (cl : List (Str × Addr)) (fp : List Addr), DE (X.blk s H scope (compEnvC scope cl C X.env) fp) elt te) (hs : ∀ x, foldedSetIterable iter X.env x = pure x := by intro _; rfl) (hs1 : ∀ env x, foldedSetIterable iter1 env x = pure x := by intro _ _; rfl) :
    DE X (.ListComp elt [⟨tg, iter, ifs, 0⟩, ⟨tg1, iter1, ifs1, 0⟩] scope pos) (dLc2 ti g tt ti1 g1 tt1 te (own.map (·.2)) us1) :=
  ⟨(pe_lc2 (te := lE X.kk te) hc hN hi.run ok hu1 (fun s H C cl fp => (hg s H C cl fp).run) (fun s H C cl fp => (ht s H C cl fp).run) (fun s H C cl fp => (hi1 s H C cl fp).run) (fun s H C cl fp => (hg1 s H C cl fp).run) (fun s H C cl fp => (ht1 s H C cl fp).run) (fun s H C cl fp => (he s H C cl fp).run) hs hs1).of fun _ _ _ => lE_lc2 hv hv1⟩
end
end Sv
namespace Sv
open PySem PySem.Spec PyProof.Rows L2
mutual
inductive Py (S : Sto) : D → PyData → Prop
  | non : Py S .non .none
  | bl (b : Bool) : Py S (.bl b) (.bool b)
  | int (i : Int) : Py S (.int i) (.int i)
  | str (x : Str) : Py S (.str x) (.str x)
  | tup {ds : List D} {ps : List PyData} : Pys S ds ps → Py S (.tup ds) (.tuple ps)
  | rol {ds : List D} {ps : List PyData} : Pys S ds ps → Py S (.rol ds) (.list ps)
  | wtup {ds : List D} {ps : List PyData} : Pys S ds ps → Py S (.wtup ds) (.tuple ps)
  | lst {a : Addr} {ds : List D} {ps : List PyData} : S a = some (.lst ds) → Pys S ds ps → Py S (.ref a) (.list ps)
inductive Pys (S : Sto) : List D → List PyData → Prop
  | nil : Pys S [] []
  | cons {d : D} {ds : List D} {p : PyData} {ps : List PyData} : Py S d p → Pys S ds ps → Pys S (d :: ds) (p :: ps)
end
section
variable {K : KK} {S : Sto} {H : Hp}
mutual
theorem Py.dp (s : RelS K S H) : ∀ {d : D} {p : PyData} {v : V}, Py S d p → RD K H d v → Dp K.k H v p
  | _, _, _, .non, .non => .non
  | _, _, _, .bl b, .bl _ => .bl b
  | _, _, _, .int i, .int _ => .int i
  | _, _, _, .str x, .str _ => .str x
  | _, _, _, .tup h, .tup t r => .tup t.sqT (Pys.dp s h r)
  | _, _, _, .rol h, .rol t r => .lst t.sqL (Pys.dp s h r)
  | _, _, _, .wtup h, .wtup t r => .tup (.of t) (Pys.dp s h r)
  | _, _, _, .lst e h, .ref _ => let ⟨vs, q, r⟩ := s.lst e; .lst (.of q) (Pys.dp s h r)
theorem Pys.dp (s : RelS K S H) : ∀ {ds : List D} {ps : List PyData} {vs : List V}, Pys S ds ps → RDs K H ds vs → DpAll K.k H vs ps
  | _, _, _, .nil, .nil => .nil
  | _, _, _, .cons h t, .cons r q => .cons (Py.dp s h r) (Pys.dp s t q)
end
end
def rAdd : DR2 := fun x y S R => match x, y with
  | .int i, .int j => R (.int (i + j)) S
  | .tup xs, .tup ys => xs.length + ys.length ≤ 100000 ∧ R (.tup (xs ++ ys)) S
  | .str a, .str b => a.length + b.length ≤ 100000 ∧ R (.str (a ++ b)) S
  | .ref a, .ref b => ∃ xs ys, S a = some (.lst xs) ∧ S b = some (.lst ys) ∧ xs.length + ys.length ≤ 100000 ∧ ∀ p, S p = none → R (.ref p) (S.put p (.lst (xs ++ ys)))
  | _, _ => False
def rSub : DR2 := fun x y S R => match x, y with
  | .int i, .int j => R (.int (i - j)) S
  | _, _ => False
def rMul : DR2 := fun x y S R => match x, y with
  | .int i, .int j => CMul i j ∧ R (.int (i * j)) S
  | .tup xs, .int k => xs ≠ [] ∧ 1 ≤ k ∧ k ≤ 1000 ∧ xs.length ≤ 1000 ∧ R (.tup (List.replicate k.toNat xs).flatten) S
  | .ref a, .int k => ∃ xs, S a = some (.lst xs) ∧ 0 ≤ k ∧ k ≤ 1000 ∧ xs.length ≤ 1000 ∧ ∀ p, S p = none → R (.ref p) (S.put p (.lst (List.replicate k.toNat xs).flatten))
  | _, _ => False
def rDiv : DR2 := fun x y S R => match x, y with
  | .int i, .int j => CDiv i j ∧ R (.int (i / j)) S
  | _, _ => False
def rMod : DR2 := fun x y S R => match x, y with
  | .int i, .int j => 0 < j ∧ R (.int (i % j)) S
  | _, _ => False
def rPow : DR2 := fun x y S R => match x, y with
  | .int i, .int j => CPow i j ∧ R (.int (i ^ j.toNat)) S
  | _, _ => False
section
variable {X : Cx}
theorem cat_frz {pins : List (Addr × Obj)} {σ : L2.St} {H : Hp} {s : Shared} {a b : Addr} {xs ys : List V} {Q : VK} (I : Inv X pins σ H s) (ha : TupN H a xs) (hb : TupN H b ys) (hz : xs.length + ys.length ≤ sizeLine)
    (q : ∀ (H' : Hp) (p : Addr), Same H H' → (∀ b, H b ≠ none → H' b = H b) → TupN H' p (xs ++ ys) → Q (.ref p) H') (q2 : ∀ (p : Addr) (o : Obj), H p = none → o.dict = none → Q (.ref p) (upd H p (.frz o (.tup (xs ++ ys))))) : wpAny (model X.prog X.w) X.A (binaryOp .Add (.ref a) (.ref b)) (EP X pins σ Q) X.xe s := by
  obtain ⟨its, r1, p1, _⟩ := I.tuple (ha.sqT (K := X.K))
  obtain ⟨its2, r2, p2, _⟩ := I.tuple (hb.sqT (K := X.K))
  by_cases hx : its = []
  · subst hx
    have e1 : xs = [] := r1.nil_iff.mp rfl
    subst e1
    exact cat_tup0 p1 p2 ⟨.ref b, H, I, rfl, q H b (fun _ _ h => h) (fun _ _ => rfl) hb⟩
  · have hl : its.length + its2.length ≤ sizeLine := by rw [← r1.length, ← r2.length]; exact hz
    refine HT.cat_tup p1 p2 hx (fun z => ?_) (fun _ => ?_) hl
    · subst z
      have e2 : ys = [] := r2.nil_iff.mp rfl
      subst e2
      exact ⟨.ref a, H, I, rfl, q H a (fun _ _ h => h) (fun _ _ => rfl) (by rw [List.append_nil]; exact ha)⟩
    · have hg := Heap.get?_push_size s.heap (o := { cls := .type "tuple", data := .seq (its ++ its2).toArray }) rfl
      refine ⟨.ref s.heap.objs.size, _, I.laid (t' := s.toks) (o := .frz { cls := .type "tuple", data := .seq (its ++ its2).toArray } (.tup (xs ++ ys))) (fun b ob q => Heap.get?_push_of_some _ q) (Nat.le_refl _) ?_, rfl, q2 _ _ (I.hok.fresh (Nat.le_refl _)) rfl⟩
      exact ⟨hg, by rw [List.length_append]; exact hz, _, r1.append r2, ⟨_, hg, rfl, _, rfl⟩⟩
theorem big5 {n : Nat} (h : n ≤ 100000) : n ≤ sizeLine := Nat.le_trans h (by decide)
theorem o_add : OpR X (binaryOp .Add) (l2 X.kk rAdd) := by
  intro pins s σ H x y v u Q I rx ry ⟨d, e, S, R, r1, r2, s1, h, k⟩
  cases r1 with
  | int i =>
    cases r2 with
    | int j => exact op_add pins s σ H _ _ v u Q I rx ry ⟨i, j, rfl, rfl, k _ _ _ _ h s1 (.int _) (.refl H)⟩
    | _ => exact h.elim
  | str i =>
    cases r2 with
    | str j => exact op_add_str pins s σ H _ _ v u Q I rx ry ⟨i, j, rfl, rfl, big5 h.1, k _ _ _ _ h.2 s1 (.str _) (.refl H)⟩
    | _ => exact h.elim
  | tup t1 q1 =>
    cases r2 with
    | tup t2 q2 =>
      cases rx
      cases ry
      refine cat_frz I t1 t2 (by rw [← q1.length, ← q2.length]; exact big5 h.1) (fun H' p sm same t => ?_) fun p o np ho => ?_
      · exact k _ _ _ _ h.2 (fun a o e => (s1 a o e).ext (.of sm) (same a fun z => by obtain ⟨u, q, _⟩ := (s1 a o e).mut; rw [z] at q; cases q)) (.tup t ((q1.append q2).ext (.of sm))) (.of sm)
      · exact k _ _ _ _ h.2 (s1.new np) (.tup (.new ho) ((q1.append q2).ext (.new np))) (.new np)
    | _ => exact h.elim
  | ref a =>
    cases r2 with
    | ref b =>
      obtain ⟨xs, ys, h1, h2, hz, q⟩ := h
      obtain ⟨vs, e1, q1⟩ := s1.lst h1
      obtain ⟨ws, e2, q2⟩ := s1.lst h2
      exact op_cat pins s σ H _ _ v u Q I rx ry ⟨a, b, vs, ws, rfl, rfl, e1, e2, by rw [← q1.length, ← q2.length]; exact big5 hz, fun p np =>
        k _ _ _ _ (q p (s1.fresh np)) (s1.lay np ⟨_, upd_same, (q1.append q2).ext (.new np)⟩) (.ref p) (.new np)⟩
    | _ => exact h.elim
  | _ => exact h.elim
theorem o_sub : OpR X (binaryOp .Sub) (l2 X.kk rSub) := by
  intro pins s σ H x y v u Q I rx ry ⟨d, e, S, R, r1, r2, s1, h, k⟩
  cases r1 with
  | int i =>
    cases r2 with
    | int j => exact op_sub pins s σ H _ _ v u Q I rx ry ⟨i, j, rfl, rfl, k _ _ _ _ h s1 (.int _) (.refl H)⟩
    | _ => exact h.elim
  | _ => exact h.elim
theorem o_div : OpR X (binaryOp .FloorDiv) (l2 X.kk rDiv) := by
  intro pins s σ H x y v u Q I rx ry ⟨d, e, S, R, r1, r2, s1, h, k⟩
  cases r1 with
  | int i =>
    cases r2 with
    | int j => exact op_fdiv pins s σ H _ _ v u Q I rx ry ⟨i, j, rfl, rfl, h.1, k _ _ _ _ h.2 s1 (.int _) (.refl H)⟩
    | _ => exact h.elim
  | _ => exact h.elim
theorem o_mod : OpR X (binaryOp .Mod) (l2 X.kk rMod) := by
  intro pins s σ H x y v u Q I rx ry ⟨d, e, S, R, r1, r2, s1, h, k⟩
  cases r1 with
  | int i =>
    cases r2 with
    | int j => exact op_mod pins s σ H _ _ v u Q I rx ry ⟨i, j, rfl, rfl, h.1, k _ _ _ _ h.2 s1 (.int _) (.refl H)⟩
    | _ => exact h.elim
  | _ => exact h.elim
theorem o_pow : OpR X (binaryOp .Pow) (l2 X.kk rPow) := by
  intro pins s σ H x y v u Q I rx ry ⟨d, e, S, R, r1, r2, s1, h, k⟩
  cases r1 with
  | int i =>
    cases r2 with
    | int j => exact op_pow pins s σ H _ _ v u Q I rx ry ⟨i, j, rfl, rfl, h.1, k _ _ _ _ h.2 s1 (.int _) (.refl H)⟩
    | _ => exact h.elim
  | _ => exact h.elim
def rCmp (f : Int → Int → Bool) : DR2 := fun x y S R => match x, y with
  | .int i, .int j => R (.bl (f i j)) S
  | _, _ => False
theorem o_cmp {op : CmpOp} {f : Int → Int → Bool} (ho : OpR X (compareOp op) (rI0 fun i j => .bl (f i j))) : OpR X (compareOp op) (l2 X.kk (rCmp f)) := by
  intro pins s σ H x y v u Q I rx ry ⟨d, e, S, R, r1, r2, s1, h, k⟩
  cases r1 with
  | int i =>
    cases r2 with
    | int j => exact ho pins s σ H _ _ v u Q I rx ry ⟨i, j, rfl, rfl, k _ _ _ _ h s1 (.bl _) (.refl H)⟩
    | _ => exact h.elim
  | _ => exact h.elim
theorem o_lt : OpR X (compareOp .Lt) (l2 X.kk (rCmp fun i j => decide (i < j))) := o_cmp op_lt
theorem o_le : OpR X (compareOp .LtE) (l2 X.kk (rCmp fun i j => decide (i ≤ j))) := o_cmp op_le
theorem o_gt : OpR X (compareOp .Gt) (l2 X.kk (rCmp fun i j => decide (j < i))) := o_cmp op_gt
theorem o_ge : OpR X (compareOp .GtE) (l2 X.kk (rCmp fun i j => decide (j ≤ i))) := o_cmp op_ge
/-- == : ints, texts and bools at once, the rest as data -/
def rEqq (n : Bool) : DR2 := fun x y S R => match x, y with
  | .int i, .int j => R (.bl (decide (i = j) ^^ n)) S
  | .str i, .str j => R (.bl (decide (i = j) ^^ n)) S
  | .bl i, .bl j => R (.bl (decide (i = j) ^^ n)) S
  | _, _ => ∃ p q, Py S x p ∧ Py S y q ∧ SeqAt.shaped p = true ∧ SeqAt.shaped q = true ∧ R (.bl (PyData.eqv p q ^^ n)) S
theorem xor_ff (b : Bool) : (b ^^ false) = b := by cases b <;> rfl
theorem xor_tt (b : Bool) : (b ^^ true) = !b := by cases b <;> rfl
theorem o_eq (hu : X.A.units + 64 < cLine) : OpR X (compareOp .Eq) (l2 X.kk (rEqq false)) := by
  intro pins s σ H x y v u Q I rx ry ⟨d, e, S, R, r1, r2, s1, h, k⟩
  have dat : (∃ p q, Py S d p ∧ Py S e q ∧ SeqAt.shaped p = true ∧ SeqAt.shaped q = true ∧ R (.bl (PyData.eqv p q ^^ false)) S) → wpAny (model X.prog X.w) X.A (compareOp .Eq v u) (EP X pins σ Q) X.xe s := by
    rintro ⟨p, q, h1, h2, h3, h4, h5⟩
    rw [xor_ff] at h5
    exact op_eqD hu pins s σ H _ _ v u Q I rx ry ⟨p, q, h1.dp s1 r1, h2.dp s1 r2, h3, h4, k _ _ _ _ h5 s1 (.bl _) (.refl H)⟩
  have fl : ∀ {b : Bool}, decide (x = y) = b → scal x y = true → R (.bl (b ^^ false)) S → wpAny (model X.prog X.w) X.A (compareOp .Eq v u) (EP X pins σ Q) X.xe s := fun {b} hb hs q => by
    rw [xor_ff] at q
    exact op_eq pins s σ H _ _ v u Q I rx ry ⟨hs, by rw [hb]; exact k _ _ _ _ q s1 (.bl _) (.refl H)⟩
  cases r1 with
  | int i =>
    cases r2 with
    | int j => exact fl (by simp) rfl h
    | _ => exact dat h
  | str i =>
    cases r2 with
    | str j => exact fl (by simp) rfl h
    | _ => exact dat h
  | bl i =>
    cases r2 with
    | bl j => exact fl (by simp) rfl h
    | _ => exact dat h
  | _ => exact dat h
theorem o_ne (hu : X.A.units + 64 < cLine) : OpR X (compareOp .NotEq) (l2 X.kk (rEqq true)) := by
  intro pins s σ H x y v u Q I rx ry ⟨d, e, S, R, r1, r2, s1, h, k⟩
  have dat : (∃ p q, Py S d p ∧ Py S e q ∧ SeqAt.shaped p = true ∧ SeqAt.shaped q = true ∧ R (.bl (PyData.eqv p q ^^ true)) S) → wpAny (model X.prog X.w) X.A (compareOp .NotEq v u) (EP X pins σ Q) X.xe s := by
    rintro ⟨p, q, h1, h2, h3, h4, h5⟩
    rw [xor_tt] at h5
    exact op_neD hu pins s σ H _ _ v u Q I rx ry ⟨p, q, h1.dp s1 r1, h2.dp s1 r2, h3, h4, k _ _ _ _ h5 s1 (.bl _) (.refl H)⟩
  have fl : ∀ {b : Bool}, decide (x = y) = b → scal x y = true → R (.bl (b ^^ true)) S → wpAny (model X.prog X.w) X.A (compareOp .NotEq v u) (EP X pins σ Q) X.xe s := fun {b} hb hs q => by
    rw [xor_tt] at q
    exact op_ne pins s σ H _ _ v u Q I rx ry ⟨hs, by rw [hb]; exact k _ _ _ _ q s1 (.bl _) (.refl H)⟩
  cases r1 with
  | int i =>
    cases r2 with
    | int j => exact fl (by simp) rfl h
    | _ => exact dat h
  | str i =>
    cases r2 with
    | str j => exact fl (by simp) rfl h
    | _ => exact dat h
  | bl i =>
    cases r2 with
    | bl j => exact fl (by simp) rfl h
    | _ => exact dat h
  | _ => exact dat h
end
end Sv
namespace Sv
open PySem PySem.Spec PyProof.Rows L2
section
variable {X : Cx} {a b e : Expr} {es : List Expr} {ta tb te : DTE} {tl : DTA} {pos : Pos}
/-- the items of a sequence -/
def seqOf (S : Sto) : D → Option (List D)
  | .tup ds => some ds
  | .rol ds => some ds
  | .wtup ds => some ds
  | .ref a => match S a with
    | some (.lst ds) => some ds
    | _ => none
  | _ => none
theorem seqOf_ref {S : Sto} {a : Addr} {ds : List D} (h : seqOf S (.ref a) = some ds) : S a = some (.lst ds) := by
  have h : (match S a with
    | some (.lst ds) => some ds
    | _ => none) = some ds := h
  split at h
  · rename_i e
    rw [e]
    cases h
    rfl
  · cases h
theorem seqOf_lst {S : Sto} {a : Addr} {ds : List D} (h : S a = some (.lst ds)) : seqOf S (.ref a) = some ds := by
  show (match S a with
    | some (.lst ds) => some ds
    | _ => none) = some ds
  rw [h]
theorem seq_rel {K : KK} {S : Sto} {H : Hp} {d : D} {v : V} {ds : List D} (s : RelS K S H) (r : RD K H d v) (h : seqOf S d = some ds) : ∃ p vs, v = .ref p ∧ (SqL K.k H p vs ∨ SqT K.k H p vs) ∧ RDs K H ds vs := by
  cases r with
  | tup t q => cases h; exact ⟨_, _, rfl, .inr t.sqT, q⟩
  | rol t q => cases h; exact ⟨_, _, rfl, .inl t.sqL, q⟩
  | wtup t q => cases h; exact ⟨_, _, rfl, .inr (.of t), q⟩
  | ref a =>
    obtain ⟨vs, e, q⟩ := s.lst (seqOf_ref h)
    exact ⟨a, vs, rfl, .inl (.of e), q⟩
  | _ => cases h
theorem atI_rel {K : KK} {H : Hp} {ds : List D} {vs : List V} {i : Int} {d : D} (r : RDs K H ds vs) (h : atI ds i = some d) : ∃ v, atI vs i = some v ∧ RD K H d v := by
  unfold atI at h ⊢
  rw [← r.length]
  obtain ⟨j, h1, h2⟩ := Option.bind_eq_some_iff.mp h
  obtain ⟨v, h3, h4⟩ := r.at h2
  exact ⟨v, by rw [h1]; exact h3, h4⟩
/-- x[i] -/
def rIxq : DR2 := fun x y S R => ∃ ds i d, seqOf S x = some ds ∧ y = .int i ∧ atI ds i = some d ∧ R d S
theorem o_ix : IxR X (l2 X.kk rIxq) := by
  intro value slice pins s σ H x y v u Q I rx ry h hs
  obtain ⟨d, e, S, R, r1, r2, s1, ⟨ds, i, z, hd, rfl, hi, q⟩, k⟩ := h
  cases r2
  obtain ⟨p, vs, rfl, hq, r⟩ := seq_rel s1 r1 hd
  obtain ⟨w, hw, rw'⟩ := atI_rel r hi
  refine ix_seq value slice pins s σ H _ _ v u Q I rx ry ?_ hs
  have fin := k _ _ _ _ q s1 rw' (.refl H)
  rcases hq with hq | hq
  · exact .inl ⟨p, vs, i, w, rfl, rfl, hq, hw, fin⟩
  · exact .inr (.inl ⟨p, vs, i, w, rfl, rfl, hq, hw, fin⟩)
theorem de_ix {r : DR2} (hr : IxR X (l2 X.kk r)) (ha : DE X a ta) (hb : DE X b tb) (hs : PlainIx b := by intro _ _; rfl) : DE X (.Subscript a b pos) (dBin r ta tb) := ⟨(pe_ix hr ha.run hb.run hs).of fun _ _ _ => l2_bin⟩
abbrev DTO := Env → Sto → (Option Int → Sto → Prop) → Prop
def lO (K : KK) (t : DTO) : TO := fun σ H Q => ∃ env S R, RS K σ H env S ∧ t env S R ∧ ∀ o S' H', R o S' → RelS K S' H' → Ext H H' → Q o H'
structure DO (X : Cx) (e : Option Expr) (t : DTO) : Prop where
  run : PO X e (lO X.kk t)
theorem _root_.L2.PO.of {e : Option Expr} {t t' : TO} (h : PO X e t) (q : ∀ σ H Q, t' σ H Q → t σ H Q) : PO X e t' := ⟨fun pins s σ H Q I w => h.run pins s σ H Q I (q σ H Q w)⟩
def dNoP : DTO := fun _ S R => R none S
def dPart (t : DTE) : DTO := fun env S R => t env S fun d S1 => ∃ i, d = .int i ∧ R (some i) S1
theorem do_none : DO X none dNoP := ⟨po_none.of fun σ H Q ⟨env, S, R, rs, q, k⟩ => k _ _ _ q rs.sto (.refl H)⟩
theorem do_some (h : DE X e te) : DO X (some e) (dPart te) := ⟨(po_some h.run).of fun σ H Q ⟨env, S, R, rs, h, k⟩ => ⟨env, S, _, rs, h, fun d S1 v H1 ⟨i, z, q⟩ s1 r1 e1 => by
  subst z
  cases r1
  exact ⟨i, rfl, k _ _ _ q s1 e1⟩⟩⟩
def cutD (xs : List D) (lo hi : Option Int) : List D := (xs.drop (HT.sIx xs.length 0 lo)).take (HT.sIx xs.length xs.length hi - HT.sIx xs.length 0 lo)
theorem RDs.cut {K : KK} {H : Hp} {ds : List D} {vs : List V} (r : RDs K H ds vs) (lo hi : Option Int) : RDs K H (cutD ds lo hi) (cutV vs lo hi) := by
  unfold cutD cutV
  rw [r.length]
  exact (r.drop _).take _
/-- x[lo:hi] -/
def rSlq : D → Option Int → Option Int → Sto → DK → Prop := fun x lo hi S R => match x with
  | .tup ds => R (.tup (cutD ds lo hi)) S
  | .rol ds => ∀ p, S p = none → R (.ref p) (S.put p (.lst (cutD ds lo hi)))
  | .ref a => ∃ ds, S a = some (.lst ds) ∧ ∀ p, S p = none → R (.ref p) (S.put p (.lst (cutD ds lo hi)))
  | _ => False
def lSl (K : KK) (r : D → Option Int → Option Int → Sto → DK → Prop) : V → Option Int → Option Int → Hp → VK → Prop := fun x lo hi H Q => ∃ d S R, RD K H d x ∧ RelS K S H ∧ r d lo hi S R ∧ ∀ z S' v H', R z S' → RelS K S' H' → RD K H' z v → Ext H H' → Q v H'
theorem o_sl : SlR X (lSl X.kk rSlq) := by
  intro pins s σ H x v vl vu lo hi sl Q I rx hs pl pu ⟨d, S, R, r1, s1, h, k⟩
  cases r1 with
  | tup t q =>
    refine (sl_tupA.or sl_tupF) pins s σ H _ v vl vu lo hi sl Q I rx hs pl pu ?_
    rename_i a ds vs
    by_cases hw : HT.sIx vs.length 0 lo = 0 ∧ HT.sIx vs.length vs.length hi = vs.length
    · refine .inl ⟨a, vs, rfl, t.sqT, fun _ => k _ _ _ _ h s1 ?_ (.refl H), fun z => absurd hw z⟩
      have e : cutD ds lo hi = ds := by
        unfold cutD
        rw [q.length, hw.1, hw.2, List.drop_zero, Nat.sub_zero, ← q.length, List.take_length]
      rw [e]
      exact .tup t q
    · exact .inr ⟨a, vs, rfl, t.sqT, hw, fun p o np ho => k _ _ _ _ h (s1.new np) (.tup (.new ho) ((q.cut lo hi).ext (.new np))) (.new np)⟩
  | rol t q => exact sl_list pins s σ H _ v vl vu lo hi sl Q I rx hs pl pu ⟨_, _, rfl, t.sqL, fun p np => k _ _ _ _ (h p (s1.fresh np)) (s1.lay np ⟨_, upd_same, (q.cut lo hi).ext (.new np)⟩) (.ref p) (.new np)⟩
  | ref a =>
    obtain ⟨ds, h1, h⟩ := h
    obtain ⟨vs, e, q⟩ := s1.lst h1
    exact sl_list pins s σ H _ v vl vu lo hi sl Q I rx hs pl pu ⟨_, _, rfl, .of e, fun p np => k _ _ _ _ (h p (s1.fresh np)) (s1.lay np ⟨_, upd_same, (q.cut lo hi).ext (.new np)⟩) (.ref p) (.new np)⟩
  | _ => exact h.elim
def dSl (te : DTE) (tlo thi : DTO) : DTE := fun env S R => te env S fun d S1 => tlo env S1 fun lo S2 => thi env S2 fun hi S3 => rSlq d lo hi S3 R
theorem de_sl {lo hi : Option Expr} {tlo thi : DTO} {p2 : Pos} (he : DE X e te) (hl : DO X lo tlo) (hu : DO X hi thi) : DE X (.Subscript e (.Slice lo hi none p2) pos) (dSl te tlo thi) := by
  refine ⟨(pe_slice o_sl he.run hl.run hu.run).of fun σ H Q ⟨env, S, R, rs, h, k⟩ => ⟨env, S, _, rs, h, fun d S1 v H1 q s1 r1 e1 => ⟨env, S1, _, rs.ext e1 s1, q, fun lo S2 H2 q2 s2 e2 => ⟨env, S2, _, rs.ext (e1.trans e2) s2, q2, fun hi S3 H3 q3 s3 e3 => ?_⟩⟩⟩⟩
  exact ⟨d, S3, R, r1.ext (e2.trans e3), s3, q3, fun z S4 w H4 q4 s4 r4 e4 => k _ _ _ _ q4 s4 r4 (e1.trans (e2.trans (e3.trans e4)))⟩
def dSub (to ti : DTE) : DTG := fun d env S R => to env S fun o S1 => ti env S1 fun i S2 => ∃ a ds k j, o = .ref a ∧ i = .int k ∧ S2 a = some (.lst ds) ∧ ixN ds.length k = some j ∧ R env (S2.put a (.lst (ds.set j d)))
theorem dg_sub {o i : Expr} {to ti : DTE} (ho : DE X o to) (hi : DE X i ti)
    (ha : ∀ v, assign (.Subscript o i pos) X.env v = (do
      let ov ← holding [v] (eval o X.env)
      let iv ← holding [v, ov] (eval i X.env)
      standAt pos
      holding [v, ov, iv] (setItem ov iv v)
      release [v, ov, iv] []) := by intro _; rfl) : DG X true [] (.Subscript o i pos) (dSub to ti) := by
  refine ⟨(pg_sub ho.run hi.run set_list ha).of fun v σ H Q ⟨d, env, S, R, r, rs, h, k⟩ => ⟨env, S, _, rs, h, fun o S1 ov H1 q1 s1 r1 e1 => ⟨env, S1, _, rs.ext e1 s1, q1, fun i S2 iv H2 q2 s2 r2 e2 => ?_⟩⟩⟩
  obtain ⟨a, ds, kk, j, rfl, rfl, hs, hj, q⟩ := q2
  cases r1
  cases r2
  obtain ⟨vs, h1, q1⟩ := s2.lst hs
  have rd : RD X.kk H d v := by
    rcases r with r | ⟨z, _⟩
    · exact r
    · cases z
  refine ⟨a, vs, kk, j, rfl, rfl, h1, by rw [← q1.length]; exact hj, ?_⟩
  have e3 : Ext H2 (upd H2 a (.lst (vs.set j v))) := .put h1 trivial
  have e := e1.trans (e2.trans e3)
  exact k _ _ _ _ q (rs.ext e (s2.put h1 trivial ⟨_, upd_same, (q1.set (rd.ext (e1.trans e2)) j).ext e3⟩)) e (.refl _ _)
/-- x in seq, as data -/
def rInq (n : Bool) : DR2 := fun x y S R => ∃ p ps, Py S x p ∧ (Py S y (.list ps) ∨ Py S y (.tuple ps)) ∧ SeqAt.shaped p = true ∧ SeqAt.shaped (.tuple ps) = true ∧ SeqAt.shaped (.list ps) = true ∧ R (.bl ((ps.any fun z => PyData.eqv z p) ^^ n)) S
end
end Sv
namespace Sv
open PySem PySem.Spec PyProof.Rows L2
section
variable {X : Cx} {a b e : Expr} {es : List Expr} {ta tb te : DTE} {tl : DTA} {pos : Pos}
theorem o_in (hu : X.A.units + 65 < cLine) : OpR X (compareOp .In) (l2 X.kk (rInq false)) := by
  intro pins s σ H x y v u Q I rx ry ⟨d, e, S, R, r1, r2, s1, ⟨p, ps, h1, h2, h3, h4, h5, q⟩, k⟩
  rw [xor_ff] at q
  have fin := k _ _ _ _ q s1 (.bl _) (.refl H)
  obtain ⟨as, ra⟩ := Dp.reads I p x v (h1.dp s1 r1) rx
  rcases h2 with h2 | h2
  · exact op_inD hu pins s σ H _ _ v u Q I rx ry ⟨p, ps, h1.dp s1 r1, h2.dp s1 r2, h3, h5, fin⟩
  · obtain ⟨bs, rb⟩ := Dp.reads I (.tuple ps) y u (h2.dp s1 r2) ry
    exact SeqAt.in_tuple_reads rb ra (SeqAt.canLay_of_shaped h4) (SeqAt.canLay_of_shaped h3) (room_in_shaped h3 hu) ⟨.bl _, H, I, rfl, fin⟩
def rLen : DRC := fun ds S R => ∃ d xs, ds = [d] ∧ seqOf S d = some xs ∧ R (.int xs.length) S
theorem b_len : CallR X (.builtin "len") (lC X.kk rLen) := by
  intro pins s σ H vs us Q I r ⟨ds, S, R, r1, s1, ⟨d, xs, hd, hx, q⟩, k⟩
  subst hd
  obtain ⟨v, rfl, rv⟩ := r1.inv1
  obtain ⟨p, ws, rfl, hq, rw'⟩ := seq_rel s1 rv hx
  refine call_len pins s σ H _ us Q I r ⟨.ref p, ws.length, rfl, ?_, ?_⟩
  · rcases hq with hq | hq
    · exact .inl ⟨ws, hq, rfl⟩
    · exact .inr ⟨ws, hq, rfl⟩
  · rw [← rw'.length]
    exact k _ _ _ _ q s1 (.int _) (.refl H)
def rAbs : DRC := fun ds S R => ∃ i, ds = [.int i] ∧ R (.int (if i < 0 then -i else i)) S
theorem b_abs : CallR X (.builtin "abs") (lC X.kk rAbs) := by
  intro pins s σ H vs us Q I r ⟨ds, S, R, r1, s1, ⟨i, hd, q⟩, k⟩
  subst hd
  obtain ⟨v, rfl, rv⟩ := r1.inv1
  cases rv
  exact call_abs pins s σ H _ us Q I r ⟨i, rfl, k _ _ _ _ q s1 (.int _) (.refl H)⟩
def rInt : DRC := fun ds S R => ∃ d, ds = [d] ∧ match d with
  | .int i => R (.int i) S
  | .bl b => R (.int (if b then 1 else 0)) S
  | _ => False
theorem b_int : CallR X (.type "int") (lC X.kk rInt) := by
  intro pins s σ H vs us Q I r ⟨ds, S, R, r1, s1, ⟨d, hd, q⟩, k⟩
  subst hd
  obtain ⟨v, rfl, rv⟩ := r1.inv1
  cases rv with
  | int i => exact call_int1 pins s σ H _ us Q I r (.inl ⟨i, rfl, k _ _ _ _ q s1 (.int _) (.refl H)⟩)
  | bl b => exact call_int1 pins s σ H _ us Q I r (.inr ⟨b, rfl, k _ _ _ _ q s1 (.int _) (.refl H)⟩)
  | _ => exact q.elim
def rMax2 : DRC := fun ds S R => ∃ i j, ds = [.int i, .int j] ∧ R (.int (if j > i then j else i)) S
def rMin2 : DRC := fun ds S R => ∃ i j, ds = [.int i, .int j] ∧ R (.int (if j < i then j else i)) S
theorem b_max2 (hc : X.calm = true) : CallR X (.builtin "max") (lC X.kk rMax2) := by
  intro pins s σ H vs us Q I r ⟨ds, S, R, r1, s1, ⟨i, j, hd, q⟩, k⟩
  subst hd
  obtain ⟨v, u, rfl, rv, ru⟩ := r1.inv2
  cases rv
  cases ru
  exact call_max2 hc pins s σ H _ us Q I r ⟨i, j, rfl, k _ _ _ _ q s1 (.int _) (.refl H)⟩
theorem b_min2 (hc : X.calm = true) : CallR X (.builtin "min") (lC X.kk rMin2) := by
  intro pins s σ H vs us Q I r ⟨ds, S, R, r1, s1, ⟨i, j, hd, q⟩, k⟩
  subst hd
  obtain ⟨v, u, rfl, rv, ru⟩ := r1.inv2
  cases rv
  cases ru
  exact call_min2 hc pins s σ H _ us Q I r ⟨i, j, rfl, k _ _ _ _ q s1 (.int _) (.refl H)⟩
def rListq : DRC := fun ds S R => ∃ d xs, ds = [d] ∧ seqOf S d = some xs ∧ ∀ p, S p = none → R (.ref p) (S.put p (.lst xs))
theorem b_list : CallR X (.type "list") (lC X.kk rListq) := by
  intro pins s σ H vs us Q I r ⟨ds, S, R, r1, s1, ⟨d, xs, hd, hx, q⟩, k⟩
  subst hd
  obtain ⟨v, rfl, rv⟩ := r1.inv1
  obtain ⟨p, ws, rfl, hq, rw'⟩ := seq_rel s1 rv hx
  exact call_list_of pins s σ H _ us Q I r ⟨p, ws, rfl, hq, fun l nl => k _ _ _ _ (q l (s1.fresh nl)) (s1.lay nl ⟨_, upd_same, rw'.ext (.new nl)⟩) (.ref l) (.new nl)⟩
def rTupq : DRC := fun ds S R => ∃ d xs, ds = [d] ∧ seqOf S d = some xs ∧ (∀ ys, d ≠ .wtup ys) ∧ R (.tup xs) S
theorem b_tuple : CallR X (.type "tuple") (lC X.kk rTupq) := by
  intro pins s σ H vs us Q I r ⟨ds, S, R, r1, s1, ⟨d, xs, hd, hx, hw, q⟩, k⟩
  subst hd
  obtain ⟨v, rfl, rv⟩ := r1.inv1
  cases rv with
  | wtup t qq => exact absurd rfl (hw _)
  | tup t qq =>
    cases hx
    exact call_tuple_of pins s σ H _ us Q I r ⟨_, _, rfl, .inr ⟨t.sqT, k _ _ _ _ q s1 (.tup t qq) (.refl H)⟩⟩
  | rol t qq =>
    cases hx
    exact call_tupleF pins s σ H _ us Q I r ⟨_, _, rfl, t.sqL, fun l o nl ho => k _ _ _ _ q (s1.new nl) (.tup (.new ho) (qq.ext (.new nl))) (.new nl)⟩
  | ref a =>
    obtain ⟨ws, h1, qq⟩ := s1.lst (seqOf_ref hx)
    exact call_tupleF pins s σ H _ us Q I r ⟨_, _, rfl, .of h1, fun l o nl ho => k _ _ _ _ q (s1.new nl) (.tup (.new ho) (qq.ext (.new nl))) (.new nl)⟩
  | _ => cases hx
def intsD (ns : List Int) : List D := ns.map D.int
def rSorted1 : DRC := fun ds S R => ∃ d ns, ds = [d] ∧ seqOf S d = some (intsD ns) ∧ ((∀ xs, d ≠ .tup xs) ∧ ∀ xs, d ≠ .wtup xs) ∧ ns.length < 64 ∧ ∀ (ns' : List Int) (p : Addr), ns'.Perm ns → ns'.Pairwise (· ≤ ·) → S p = none → R (.ref p) (S.put p (.lst (intsD ns')))
theorem b_sorted : CallR X (.builtin "sorted") (lC X.kk rSorted1) := by
  intro pins s σ H vs us Q I r ⟨ds, S, R, r1, s1, ⟨d, ns, hd, hx, ht, hn, q⟩, k⟩
  subst hd
  obtain ⟨v, rfl, rv⟩ := r1.inv1
  cases rv with
  | tup t qq => exact absurd rfl (ht.1 _)
  | wtup t qq => exact absurd rfl (ht.2 _)
  | rol t qq =>
    cases hx
    cases (RDs.ints_inv qq)
    exact cr_sorted pins s σ H _ us Q I r ⟨_, ns, rfl, t.sqL, hn, fun ns' p h1 h2 np => k _ _ _ _ (q ns' p h1 h2 (s1.fresh np)) (s1.lay np ⟨_, upd_same, .ints ns'⟩) (.ref p) (.new np)⟩
  | ref a =>
    obtain ⟨ws, h1, qq⟩ := s1.lst (seqOf_ref hx)
    cases (RDs.ints_inv qq)
    exact cr_sorted pins s σ H _ us Q I r ⟨_, ns, rfl, .of h1, hn, fun ns' p h1 h2 np => k _ _ _ _ (q ns' p h1 h2 (s1.fresh np)) (s1.lay np ⟨_, upd_same, .ints ns'⟩) (.ref p) (.new np)⟩
  | _ => cases hx
theorem RDs.bls_inv {K : KK} {H : Hp} : ∀ {bs : List Bool} {vs : List V}, RDs K H (bs.map D.bl) vs → vs = bs.map V.bl
  | [], _, .nil => rfl
  | n :: r, _, .cons (.bl _) t => by rw [RDs.bls_inv t]; rfl
def rAnyq (f : List Bool → Bool) : DRC := fun ds S R => ∃ a bs, ds = [.ref a] ∧ S a = some (.lst (bs.map D.bl)) ∧ R (.bl (f bs)) S
theorem b_all (hc : X.calm = true) : CallR X (.builtin "all") (lC X.kk (rAnyq fun bs => bs.all id)) := by
  intro pins s σ H vs us Q I r ⟨ds, S, R, r1, s1, ⟨a, bs, hd, hx, q⟩, k⟩
  subst hd
  obtain ⟨v, rfl, rv⟩ := r1.inv1
  cases rv
  obtain ⟨ws, h1, qq⟩ := s1.lst hx
  cases (RDs.bls_inv qq)
  exact cr_all hc pins s σ H _ us Q I r ⟨a, bs, rfl, .of h1, k _ _ _ _ q s1 (.bl _) (.refl H)⟩
/-- data whose text may be made -/
structure Text (p : PyData) : Prop where
  dis : isDisplay p = true
  sho : p.showable = true
  nod : p.hasDict = false
  dep : p.depth ≤ 60
  len : p.shown.length ≤ sizeLine
def rRepr : DRC := fun ds S R => ∃ d p, ds = [d] ∧ Py S d p ∧ Text p ∧ R (.str p.shown) S
theorem b_repr (hgd : X.A.guards = some []) (hu : X.A.units + 64 < cLine) : CallR X (.builtin "repr") (lC X.kk rRepr) := by
  intro pins s σ H vs us Q I r ⟨ds, S, R, r1, s1, ⟨d, p, hd, hp, ht, q⟩, k⟩
  subst hd
  obtain ⟨v, rfl, rv⟩ := r1.inv1
  exact call_repr hgd hu pins s σ H _ us Q I r ⟨v, p, rfl, ⟨hp.dp s1 rv, ht.dis, ht.sho, ht.nod, ht.dep, ht.len⟩, k _ _ _ _ q s1 (.str _) (.refl H)⟩
def dMtq (T : String) (r : DRM) (to : DTE) (t : DTA) : DTE := fun env S R => to env S fun x S1 => (T = "list" ∧ ∃ xs, seqOf S1 x = some xs ∧ (∀ ds, x ≠ .tup ds) ∧ ∀ ds, x ≠ .wtup ds) ∧ t env S1 fun ds S2 => r x ds S2 R
theorem de_mL {r : DRM} {name : Str} {id : String} {o : Expr} {to : DTE} {apos cpos : Pos} (slot : Slot "list" name id) (hty : typeOf (.builtin id) = pure (.type "method_descriptor")) (hm : MtR X id (lM X.kk r)) (ho : DE X o to) (ha : DA X (e :: es) tl)
    (hbase : attributeBase o name X.env (eval o X.env) = eval o X.env := by rfl)
    (hfew : ((backTo cpos (starEach (e :: es) X.env)).all (fun x => !x.1) && (backToKw cpos (keywordEach [] X.env)).all (fun x => x.1.isSome)
      && decide ((e :: es).length + ([] : List Keyword).length + (if ([] : List Keyword).isEmpty then 0 else 1) < 30)) = true := by rfl)
    (hline : (apos.endLine == cpos.line) = true := by rfl) (hs : starEach (e :: es) X.env = (false, eval e X.env) :: starEach es X.env := by rfl) (hplain : (backTo cpos (starEach es X.env)).any (·.1) = false := by rfl) :
    DE X (.Call (.Attribute o name apos) (e :: es) [] cpos) (dMtq "list" r to tl) := by
  refine ⟨(pe_bm PySem.F.plainAttrs_list slot hty hm ho.run ha.run hbase hfew hline hs hplain).of fun σ H Q ⟨env, S, R, rs, h, k⟩ => ⟨env, S, _, rs, h, fun x S1 v H1 ⟨⟨_, xs, hx, hn⟩, q⟩ s1 r1 e1 => ⟨?_, env, S1, _, rs.ext e1 s1, q, fun ds S2 vs H2 q2 s2 r2 e2 => ?_⟩⟩⟩
  · cases r1 with
    | tup t qq => exact absurd rfl (hn.1 _)
    | wtup t qq => exact absurd rfl (hn.2 _)
    | rol t qq => exact .inl ⟨rfl, _, t.sqL⟩
    | ref a =>
      obtain ⟨ws, h1, _⟩ := s1.lst (seqOf_ref hx)
      exact .inl ⟨rfl, _, .of h1⟩
    | _ => cases hx
  · exact ⟨x, ds, S2, R, r1.ext e2, r2, s2, q2, fun z S3 w H3 q3 s3 r3 e3 => k _ _ _ _ q3 s3 r3 (e1.trans (e2.trans e3))⟩
def dMtT (r : DRM) (to : DTE) (t : DTA) : DTE := fun env S R => to env S fun x S1 => (∃ xs, x = .tup xs) ∧ t env S1 fun ds S2 => r x ds S2 R
theorem de_mT {r : DRM} {name : Str} {id : String} {o : Expr} {to : DTE} {apos cpos : Pos} (slot : Slot "tuple" name id) (hty : typeOf (.builtin id) = pure (.type "method_descriptor")) (hm : MtR X id (lM X.kk r)) (ho : DE X o to) (ha : DA X (e :: es) tl)
    (hbase : attributeBase o name X.env (eval o X.env) = eval o X.env := by rfl)
    (hfew : ((backTo cpos (starEach (e :: es) X.env)).all (fun x => !x.1) && (backToKw cpos (keywordEach [] X.env)).all (fun x => x.1.isSome)
      && decide ((e :: es).length + ([] : List Keyword).length + (if ([] : List Keyword).isEmpty then 0 else 1) < 30)) = true := by rfl)
    (hline : (apos.endLine == cpos.line) = true := by rfl) (hs : starEach (e :: es) X.env = (false, eval e X.env) :: starEach es X.env := by rfl) (hplain : (backTo cpos (starEach es X.env)).any (·.1) = false := by rfl) :
    DE X (.Call (.Attribute o name apos) (e :: es) [] cpos) (dMtT r to tl) := by
  refine ⟨(pe_tm slot hty hm ho.run ha.run hbase hfew hline hs hplain).of fun σ H Q ⟨env, S, R, rs, h, k⟩ => ⟨env, S, _, rs, h, fun x S1 v H1 ⟨⟨xs, hx⟩, q⟩ s1 r1 e1 => ⟨?_, env, S1, _, rs.ext e1 s1, q, fun ds S2 vs H2 q2 s2 r2 e2 => ?_⟩⟩⟩
  · subst hx
    cases r1 with
    | tup t qq => exact ⟨_, _, rfl, t⟩
  · exact ⟨x, ds, S2, R, r1.ext e2, r2, s2, q2, fun z S3 w H3 q3 s3 r3 e3 => k _ _ _ _ q3 s3 r3 (e1.trans (e2.trans e3))⟩
def mAppend : DRM := fun x ds S R => ∃ l xs y, x = .ref l ∧ ds = [y] ∧ S l = some (.lst xs) ∧ xs.length < 1000000 ∧ R .non (S.put l (.lst (xs ++ [y])))
theorem m_append : MtR X "list.append" (lM X.kk mAppend) := by
  intro pins s σ H x vs v us Q I rx rv ⟨d, ds, S, R, r1, r2, s1, ⟨l, xs, y, hd, hds, hx, hl, q⟩, k⟩
  subst hd hds
  cases r1
  obtain ⟨w, rfl, rw'⟩ := r2.inv1
  obtain ⟨ws, h3, h4, s7, e7⟩ := app_rel s1 hx hl rw'
  exact mt_append pins s σ H _ _ v us Q I rx rv ⟨l, ws, w, rfl, rfl, h3, h4, k _ _ _ _ q s7 .non e7⟩
def mPopAt : DRM := fun x ds S R => ∃ l xs i j y, x = .ref l ∧ ds = [.int i] ∧ S l = some (.lst xs) ∧ -(2 ^ 63) ≤ i ∧ i < 2 ^ 63 ∧ seqIndex? i xs.length = some j ∧ xs[j]? = some y ∧ R y (S.put l (.lst (xs.eraseIdx j)))
theorem m_popAt : MtR X "list.pop" (lM X.kk mPopAt) := by
  intro pins s σ H x vs v us Q I rx rv ⟨d, ds, S, R, r1, r2, s1, ⟨l, xs, i, j, y, hd, hds, hx, h1, h2, hj, hy, q⟩, k⟩
  subst hd hds
  cases r1
  obtain ⟨w, rfl, rw'⟩ := r2.inv1
  cases rw'
  obtain ⟨ws, h3, q3⟩ := s1.lst hx
  obtain ⟨z, hz, rz⟩ := q3.at hy
  have e : Ext H (upd H l (.lst (ws.eraseIdx j))) := .put h3 trivial
  exact mt_popAt pins s σ H _ _ v us Q I rx rv ⟨l, ws, i, j, z, rfl, rfl, h3, h1, h2, q3.length ▸ hj, hz, k _ _ _ _ q (s1.put h3 trivial ⟨_, upd_same, (q3.eraseIdx j).ext e⟩) (rz.ext e) e⟩
def mTcount : DRM := fun x ds S R => ∃ ns k, x = .tup (intsD ns) ∧ ds = [.int k] ∧ R (.int (ns.count k : Nat)) S
theorem m_tcount (hu : X.A.units + 64 < cLine) : MtR X "tuple.count" (lM X.kk mTcount) := by
  intro pins s σ H x vs v us Q I rx rv ⟨d, ds, S, R, r1, r2, s1, ⟨ns, kk, hd, hds, q⟩, k⟩
  subst hd hds
  cases r1 with
  | tup t qq =>
    obtain ⟨w, rfl, rw'⟩ := r2.inv1
    cases rw'
    cases (RDs.ints_inv qq)
    exact mt_tcount hu pins s σ H _ _ v us Q I rx rv ⟨_, ns, kk, rfl, rfl, t.sqT, k _ _ _ _ q s1 (.int _) (.refl H)⟩
def mTindex : DRM := fun x ds S R => ∃ ns k, x = .tup (intsD ns) ∧ ds = [.int k] ∧ k ∈ ns ∧ R (.int (ns.idxOf k : Nat)) S
theorem m_tindex : MtR X "tuple.index" (lM X.kk mTindex) := by
  intro pins s σ H x vs v us Q I rx rv ⟨d, ds, S, R, r1, r2, s1, ⟨ns, kk, hd, hds, hk, q⟩, k⟩
  subst hd hds
  cases r1 with
  | tup t qq =>
    obtain ⟨w, rfl, rw'⟩ := r2.inv1
    cases rw'
    cases (RDs.ints_inv qq)
    exact mt_tindex pins s σ H _ _ v us Q I rx rv ⟨_, ns, kk, rfl, rfl, t.sqT, hk, k _ _ _ _ q s1 (.int _) (.refl H)⟩
end
end Sv
namespace Sv
open PySem PySem.Spec PyProof.Rows L2
theorem dv {X : Cx} (i : Nat) {x : Str} {pos : Pos} (hN : X.N[i]? = some x := by rfl) (hv : Vis X.env.scope x := by first | exact Or.inl rfl | exact Or.inr (Or.inl rfl) | exact Or.inr (Or.inr rfl)) (hd : (x == ("__debug__" : Str)) = false := by decide)
    (hcd : (x == ("__classdict__" : Str)) = false := by decide) : DE X (.Name x pos) (dVar i) := de_var hN hv hd hcd
section
variable {X : Cx} {a b c e : Expr} {ta tb tc te : DTE} {pos : Pos}
def rNeg : DR1 := fun d S R => match d with
  | .int i => R (.int (-i)) S
  | _ => False
theorem o_neg : UnR X (unaryOp .USub) (l1 X.kk rNeg) := by
  intro pins s σ H x v Q I rx ⟨d, S, R, r1, s1, h, k⟩
  cases r1 with
  | int i => exact un_neg pins s σ H _ v Q I rx ⟨i, rfl, k _ _ _ _ h s1 (.int _) (.refl H)⟩
  | _ => exact h.elim
/-- a op b op c -/
def dChain (r r' : DR2) (ta tb tc : DTE) : DTE := fun env S R => ta env S fun x S1 => tb env S1 fun y S2 => r x y S2 fun z S3 => ∃ k, z = .bl k ∧ if k = true then tc env S3 fun w S4 => r' y w S4 R else R (.bl false) S3
theorem de_chain {op op' : CmpOp} {r r' : DR2} (ho : OpR X (compareOp op) (l2 X.kk r)) (ho' : OpR X (compareOp op') (l2 X.kk r')) (ha : DE X a ta) (hb : DE X b tb) (hc : DE X c tc)
    (hm : lastMarks [op, op'] [b, c] = false := by with_unfolding_all rfl) : DE X (.Compare a [op, op'] [b, c] pos) (dChain r r' ta tb tc) := by
  refine ⟨(pe_chain ho ho' ha.run hb.run hc.run hm).of fun σ H Q ⟨env, S, R, rs, h, k⟩ => ⟨env, S, _, rs, h, fun x S1 v H1 q1 s1 r1 e1 => ⟨env, S1, _, rs.ext e1 s1, q1, fun y S2 u H2 q2 s2 r2 e2 => ⟨x, y, S2, _, r1.ext e2, r2, s2, q2, fun z S3 w H3 ⟨kk, hz, q3⟩ s3 r3 e3 => ?_⟩⟩⟩⟩
  subst hz
  cases r3
  refine ⟨kk, rfl, ?_⟩
  cases kk with
  | false => exact k _ _ _ _ q3 s3 (.bl _) (e1.trans (e2.trans e3))
  | true => exact ⟨env, S3, _, rs.ext (e1.trans (e2.trans e3)) s3, q3, fun w S4 t H4 q4 s4 r4 e4 => ⟨y, w, S4, R, r2.ext (e3.trans e4), r4, s4, q4, fun z S5 t H5 q5 s5 r5 e5 => k _ _ _ _ q5 s5 r5 (e1.trans (e2.trans (e3.trans (e4.trans e5))))⟩⟩
def dLRg2 (ta tb : DTE) : DTE := fun env S R => ta env S fun d S1 => tb env S1 fun e S2 => ∃ m n : Int, d = .int m ∧ e = .int n ∧ -1000 ≤ m ∧ m ≤ 1000 ∧ -1000 ≤ n ∧ n ≤ 1000 ∧ ∀ p, S2 p = none → R (.ref p) (S2.put p (.lst (rgD m (n - m).toNat)))
theorem rg_rel {K : KK} {H : Hp} {lo : Int} : ∀ {n : Nat}, RDs K H (rgD lo n) ((List.range n).map fun i => V.int (lo + (i : Nat))) := by
  intro n
  unfold rgD
  induction List.range n with
  | nil => exact .nil
  | cons i r ih => exact .cons (.int _) ih
theorem rg_relV {K : KK} {H : Hp} {m n : Int} : RDs K H (rgD m (n - m).toNat) (rgV m n) := rg_rel
theorem de_listRg2 {p p2 pos2 : Pos} (hc : X.calm = true) (hg : Gl X "list") (hm : X.mg "list" = none) (hg2 : Gl X "range") (hm2 : X.mg "range" = none) (ha : DE X a ta) (hb : DE X b tb) (na : starEach [a, b] X.env = (false, eval a X.env) :: starEach [b] X.env := by rfl) (na2 : starEach [b] X.env = (false, eval b X.env) :: starEach [] X.env := by rfl) (hp : (backTo pos2 (starEach [b] X.env)).any (fun x => x.1) = false := by rfl)
    (nb : starEach [.Call (.Name "range" p2) [a, b] [] pos2] X.env = (false, eval (.Call (.Name "range" p2) [a, b] [] pos2) X.env) :: starEach [] X.env := by rfl) : DE X (.Call (.Name "list" p) [.Call (.Name "range" p2) [a, b] [] pos2] [] pos) (dLRg2 ta tb) := by
  refine ⟨(pe_listRg hc hg hm (prg_2 hg2 hm2 ha.run hb.run na na2 hp) nb).of fun σ H Q ⟨env, S, R, rs, h, k⟩ => ⟨env, S, _, rs, h, fun d S1 v H1 q1 s1 r1 e1 => ⟨env, S1, _, rs.ext e1 s1, q1, fun e S2 u H2 ⟨m, n, hd, he, h0, h1, hn0, hn, q⟩ s2 r2 e2 => ?_⟩⟩⟩
  subst hd he
  cases r1
  cases r2
  refine ⟨m, n, rfl, rfl, ⟨by omega, by omega, by omega, by omega, by omega⟩, fun p np => k _ _ _ _ (q p (s2.fresh np)) (s2.lay np ⟨_, upd_same, rg_relV⟩) (.ref p) (e1.trans (e2.trans (.new np)))⟩
end
def dStart (n : Nat) (ds : List D) : Env := ds.map some ++ List.replicate (n - ds.length) none
def dFn (n : Nat) (B : DTS) : DRC := fun ds S R => B { nx := fun _ S' => R .non S', rt := R } (dStart n ds) S
section
variable {P : Program} {w : World} {K : PySem.W.Frag} {mg : Str → Option Value} {base : Heap}
theorem rs_start {K : KK} {H : Hp} {S : Sto} {N : List Str} {ds : List D} {vs : List V} (r : RDs K H ds vs) (s : RelS K S H) : RS K (L2.start N vs) H (dStart N.length ds) S := by
  have hl := r.length
  refine ⟨by unfold dStart L2.start; rw [List.length_append, List.length_append, List.length_map, List.length_map, List.length_replicate, List.length_replicate, hl], fun i d h => ?_, s⟩
  unfold dStart at h
  unfold L2.start
  by_cases hi : i < ds.length
  · rw [List.getElem?_append_left (by simpa using hi), List.getElem?_map] at h
    have hd : ds[i]? = some d := by
      cases e : ds[i]? with
      | none => rw [e] at h; cases h
      | some a => rw [e] at h; cases h; rfl
    obtain ⟨v, hv, rv⟩ := r.at hd
    exact ⟨v, by rw [List.getElem?_append_left (by rw [List.length_map]; omega), List.getElem?_map, hv]; rfl, rv⟩
  · rw [List.getElem?_append_right (by simpa using hi), List.getElem?_replicate] at h
    split at h <;> cases h
theorem fn_d {x : Str} {st : Stmt} {f : Addr} {fd : FuncData} {N ps : List Str} {k n : Nat} {B : DTS} (F : Fun K x x st f fd) (Sc : FnScope N ps (defScope st)) (hn : ps.length = n)
    (hbody : ∀ (cdv : Value) (A : Around) (outer : List PySem.Env) (s : Shared) (H : Hp) (E : XK), A.guards = some [] → Room k (A.deeper (envOfC x (defScope st) s.heap.objs.size f cdv)) →
      DSs (cxOf CX0 P w K mg base N x (defScope st) f cdv A outer s H E).nox (defBody st) B) : FnG P w K mg base (k + 1) f fd ps (lP ⟨P, w, K⟩ n (dFn N.length B)) := by
  refine okG F Sc (fun vs H Q E h => by rw [hn]; exact h.1) fun cdv A outer s H vs Q E hg hr h => ⟨_, (hbody cdv A outer s H E hg hr).run, ?_⟩
  obtain ⟨_, ds, S, R, r, s1, q, k⟩ := h
  exact ⟨_, S, _, rs_start r s1, q, fun env' S' σ' H' q' r' e' => k _ _ _ _ q' r'.sto .non e', fun d S' v H' q' s' r' e' => k _ _ _ _ q' s' r' e', fun _ _ _ _ q' => q'.elim, fun _ _ _ _ q' => q'.elim⟩
theorem DFn.mk' {k n : Nat} {x : Str} {r : DRC} {f : Addr} {fd : FuncData} {ps : List Str} (F : FnG P w K mg base k f fd ps (lP ⟨P, w, K⟩ n r)) (hm : mg x = some (.ref f)) (hk : PySem.W.keepIn K (.ref f) = true) (hb : Binds K fd ps []) : DFn P w K mg base k x n r :=
  ⟨f, fd, ps, F, hm, hk, hb⟩
theorem lP_law {K : KK} {H : Hp} {a : Addr} {ns : List Int} {r : DRC} (hO : Only H) (h : SqL K.k H a (ns.map V.int)) (q : r [.rol (intsD ns)] (fun _ => none) (fun d _ => d = .bl true)) : lP K 1 r [.ref a] H (fun v _ => v = .bl true) (fun _ _ _ => False) := by
  refine ⟨rfl, [.rol (intsD ns)], fun _ => none, _, .cons (.rol ?_ (.ints ns)) .nil, fun a o e => (nomatch e), q, fun z S' v H' e _ rz _ => ?_⟩
  · rcases h with h | h
    · rcases h with h | ⟨o, h⟩
      · rcases hO a with z | ⟨o, u, z⟩
        · rw [h] at z; cases z
        · rw [h] at z; cases z
      · exact .inl ⟨o, h⟩
    · exact .inr h
  · subst e
    cases rz
    rfl
end
end Sv
namespace Sv
open PySem PySem.Spec PyProof.Rows L2
section
variable {X : Cx} {pos : Pos}
theorem RDs.inv3 {K : KK} {H : Hp} {d e f : D} {vs : List V} (h : RDs K H [d, e, f] vs) : ∃ v u w, vs = [v, u, w] ∧ RD K H d v ∧ RD K H e u ∧ RD K H f w := by
  cases h with
  | cons r t =>
    obtain ⟨u, w, rfl, q, s⟩ := t.inv2
    exact ⟨_, _, _, rfl, r, q, s⟩
theorem ds_par3 {i j l : Nat} {x y z : Str} {a b c : Expr} {ta : DTA} {px py pz pt : Pos} {kt k2 pt2} (hc : X.calm = true) (hN : X.N.Nodup) (hi : X.N[i]? = some x) (hj : X.N[j]? = some y) (hl : X.N[l]? = some z) (hij : i ≠ j) (hil : i ≠ l) (hjl : j ≠ l)
    (hx : X.env.scope.names.lookup x = some .local) (hy : X.env.scope.names.lookup y = some .local) (hz : X.env.scope.names.lookup z = some .local) (ha : DA X [a, b, c] ta)
    (hw : swappedStores [.Tuple [.Name x px, .Name y py, .Name z pz] kt pt] (.Tuple [a, b, c] k2 pt2) X.env = pure (some [x, y, z]))
    (hs : swapsWithSole [.Tuple [.Name x px, .Name y py, .Name z pz] kt pt] (.Tuple [a, b, c] k2 pt2) pos.line X.env = pure false := by rfl) :
    DS X (.Assign [.Tuple [.Name x px, .Name y py, .Name z pz] kt pt] (.Tuple [a, b, c] k2 pt2) pos) (dAsg (dTup ta) (dUnp 3 (dgCons (dgName i) (dgCons (dgName j) (dgCons (dgName l) dgNil))))) := by
  refine ⟨(ps_par3 hc hN hi hj hl hij hil hjl hx hy hz ha.run hw hs).of fun σ H B ⟨env, S, C, rs, h, k, _⟩ => ⟨env, S, _, rs, h, fun ds S1 vs H1 ⟨_, ds', hl, hd, q⟩ s1 r1 e1 => ?_⟩⟩
  have hdd : ds = ds' := by
    rcases hd with (z | z) | ⟨a, z, _⟩
    · cases z; rfl
    · cases z
    · cases z
  subst hdd
  obtain ⟨d1, r', rfl, d2, r'', rfl, d3, r3, rfl, rfl, q⟩ := q
  obtain ⟨v, u, w, rfl, rv, ru, rw'⟩ := r1.inv3
  exact ⟨v, u, w, rfl, k _ _ _ _ q ((((rs.ext e1 s1).set i rv).set j ru).set l rw') e1⟩
def rI2 (f : Int → Int → Int) : DR2 := fun x y S R => match x, y with
  | .int i, .int j => R (.int (f i j)) S
  | _, _ => False
theorem o_ip {op : Operator} {f : Int → Int → Int} (ho : PIp X op (ipI f)) : PIp X op (l2 X.kk (rI2 f)) := by
  intro pins s σ H x y v u Q I rx ry ⟨d, e, S, R, r1, r2, s1, h, k⟩
  cases r1 with
  | int i =>
    cases r2 with
    | int j => exact ho pins s σ H _ _ v u Q I rx ry ⟨i, j, rfl, rfl, k _ _ _ _ h s1 (.int _) (.refl H)⟩
    | _ => exact h.elim
  | _ => exact h.elim
theorem o_iadd : PIp X .Add (l2 X.kk (rI2 fun i j => i + j)) := o_ip ip_add
/-- tuple * int, known to bear no dict -/
def rRepF (K : PySem.W.Frag) : R2 := fun x y H Q => ∃ l k xs, x = .ref l ∧ y = .int k ∧ SqT K H l xs ∧ xs ≠ [] ∧ 2 ≤ k ∧ k ≤ 1000 ∧ xs.length ≤ 1000 ∧ ∀ (p : Addr) (o : Obj), H p = none → o.dict = none → Q (.ref p) (upd H p (.frz o (.tup (List.replicate k.toNat xs).flatten)))
theorem op_repF : OpR X (binaryOp .Mult) (rRepF X.K) := by
  intro pins s σ H x y v u Q I rx ry h
  obtain ⟨l, k, xs, rfl, rfl, hT, hne, h1, h2, hz, q⟩ := h
  cases rx
  obtain ⟨t, rfl⟩ := ry
  obtain ⟨its, r, ⟨⟨cls, dd, data, sl⟩, ho, hc, n, hd⟩, hs⟩ := I.tuple hT
  simp only at hc hd
  subst hc hd
  have e1 : its.length = xs.length := r.length.symm
  have ne : its.toArray.isEmpty = false := by
    cases its with
    | nil => exact absurd (List.eq_nil_of_length_eq_zero e1.symm) hne
    | cons a b => rfl
  have e2 : its.toArray.size = xs.length := by rw [List.size_toArray, e1]
  have a1 : k.toNat * xs.length ≤ 1000 * 1000 := Nat.mul_le_mul (by omega) hz
  have a2 : ((xs.length : Nat) : Int) * k ≤ 1000000 := by
    have b1 : ((xs.length : Nat) : Int) * k ≤ 1000 * k := Int.mul_le_mul_of_nonneg_right (by omega) (by omega)
    omega
  have fl : (List.replicate k.toNat its).flatten.length ≤ sizeLine := by
    rw [PyProof.Rows.lm_len_rep_flat, e1, sizeLine_eq]
    omega
  have c4 : Builtin.Tuple.tupleTooMany (((its.toArray.size : Nat) : Int) * k) = false := by
    unfold Builtin.Tuple.tupleTooMany
    rw [sizeLine_eq, e2]
    exact decide_eq_false (by omega)
  refine wpAny_binaryOp_repeat_ref (T := "tuple") (U := "int") (by decide) ⟨_, ho, rfl⟩ (fun s' => typeIs_int s' k t) noFill_tuple_mul F.fills_int_mul F.slot_int_rmul repeat_tuple F.slot_int_index.lookup
    (call_meets F.slot_int_rmul (typeIs_int s k t) F.entry_int_rmul (F.args_int_rmul_2 _ _) (int_rmul_tuple k t l its.toArray n dd sl)
      ⟨ho, rfl, ⟨_, ho, rfl⟩, call_meets F.slot_tuple_mul ⟨_, ho, rfl⟩ F.entry_tuple_mul (F.args_tuple_mul_2 _ _)
        (tuple_mulW l its.toArray n dd sl k t (by rw [decide_eq_false (by omega), decide_eq_false (by omega)] <;> rfl) (by rw [ne, Bool.false_or]; exact beq_eq_false_iff_ne.mpr (by omega)) (by rw [ne, Bool.or_false]; exact decide_eq_false (by omega)) (by rw [e2]; omega) c4 (by rw [size_rep, List.size_toArray]; exact fl)) ⟨ho, ?_⟩⟩)
  rw [size_rep]
  have hg := Heap.get?_push_size s.heap (o := { cls := .type "tuple", data := .seq (List.replicate k.toNat its).flatten.toArray }) rfl
  refine ⟨.ref s.heap.objs.size, _, I.laid (t' := s.toks) (o := .frz { cls := .type "tuple", data := .seq (List.replicate k.toNat its).flatten.toArray } (.tup (List.replicate k.toNat xs).flatten)) (fun b ob q => Heap.get?_push_of_some _ q) (Nat.le_refl _) ?_, rfl, q _ _ (I.hok.fresh (Nat.le_refl _)) rfl⟩
  exact ⟨hg, by rw [PyProof.Rows.lm_len_rep_flat, sizeLine_eq]; omega, _, r.rep k.toNat, ⟨_, hg, rfl, _, rfl⟩⟩
theorem RDs.rep {K : KK} {H : Hp} {ds : List D} {vs : List V} (r : RDs K H ds vs) : ∀ n : Nat, RDs K H (List.replicate n ds).flatten (List.replicate n vs).flatten
  | 0 => .nil
  | n + 1 => by
    rw [List.replicate_succ, List.replicate_succ, List.flatten_cons, List.flatten_cons]
    exact r.append (RDs.rep r n)
theorem rep_one {α : Type} (xs : List α) : (List.replicate (1 : Int).toNat xs).flatten = xs := by
  show (List.replicate 1 xs).flatten = xs
  simp
theorem o_mul : OpR X (binaryOp .Mult) (l2 X.kk rMul) := by
  intro pins s σ H x y v u Q I rx ry ⟨d, e, S, R, r1, r2, s1, h, k⟩
  cases r1 with
  | int i =>
    cases r2 with
    | int j => exact op_mul pins s σ H _ _ v u Q I rx ry ⟨i, j, rfl, rfl, h.1, k _ _ _ _ h.2 s1 (.int _) (.refl H)⟩
    | _ => exact h.elim
  | tup t q =>
    cases r2 with
    | int j =>
      obtain ⟨hne, h1, h2, hz, qq⟩ := h
      by_cases hj : j = 1
      · subst hj
        rw [rep_one] at qq
        exact op_rep1 pins s σ H _ _ v u Q I rx ry ⟨_, _, rfl, rfl, t.sqT, k _ _ _ _ qq s1 (.tup t q) (.refl H)⟩
      · have hl := q.length
        refine op_repF pins s σ H _ _ v u Q I rx ry ⟨_, j, _, rfl, rfl, t.sqT, fun z => hne (List.eq_nil_of_length_eq_zero (by rw [hl, z]; rfl)), by omega, h2, hl ▸ hz, fun p o np ho => k _ _ _ _ qq (s1.new np) (.tup (.new ho) ((q.rep _).ext (.new np))) (.new np)⟩
    | _ => exact h.elim
  | ref a =>
    cases r2 with
    | int j =>
      obtain ⟨xs, h1, h0, hk, hz, qq⟩ := h
      obtain ⟨vs, e, q⟩ := s1.lst h1
      refine op_rep pins s σ H _ _ v u Q I rx ry ⟨a, j, vs, rfl, rfl, e, by omega, by omega, ?_, fun p np => k _ _ _ _ (qq p (s1.fresh np)) (s1.lay np ⟨_, upd_same, (q.rep _).ext (.new np)⟩) (.ref p) (.new np)⟩
      rw [← q.length]
      have : xs.length * j.toNat ≤ 1000 * 1000 := Nat.mul_le_mul hz (by omega)
      exact Nat.le_trans this (by decide)
    | _ => exact h.elim
  | _ => exact h.elim
end
end Sv
namespace Sv
open PySem PySem.Spec PyProof.Rows L2
section
variable {P : Program} {w : World} {K : PySem.W.Frag} {mg : Str → Option Value} {base : Heap}
theorem fn_o {x : Str} {st : Stmt} {f : Addr} {fd : FuncData} {N ps : List Str} {k n : Nat} {B : DTS} (F : Fun K x x st f fd) (Sc : FnScope N ps (defScope st)) (hn : ps.length = n)
    (hbody : ∀ (cdv : Value) (A : Around) (outer : List PySem.Env) (s : Shared) (H : Hp) (E : XK), Room k (A.deeper (envOfC x (defScope st) s.heap.objs.size f cdv)) →
      DSs (cxOf CX0 P w K mg base N x (defScope st) f cdv A outer s H E).nox (defBody st) B) : FnOk P w K mg base CX0 (k + 1) f fd ps (lP ⟨P, w, K⟩ n (dFn N.length B)) := by
  refine F.ok Sc (fun vs H Q E h => by rw [hn]; exact h.1) fun cdv A outer s H vs Q E hr h => ⟨_, (hbody cdv A outer s H E hr).run, ?_⟩
  obtain ⟨_, ds, S, R, r, s1, q, k⟩ := h
  exact ⟨_, S, _, rs_start r s1, q, fun env' S' σ' H' q' r' e' => k _ _ _ _ q' r'.sto .non e', fun d S' v H' q' s' r' e' => k _ _ _ _ q' s' r' e', fun _ _ _ _ q' => q'.elim, fun _ _ _ _ q' => q'.elim⟩
theorem DFo.mk' {k n : Nat} {x : Str} {r : DRC} {f : Addr} {fd : FuncData} {ps : List Str} (F : FnOk P w K mg base CX0 k f fd ps (lP ⟨P, w, K⟩ n r)) (hm : mg x = some (.ref f)) (hk : PySem.W.keepIn K (.ref f) = true) (hb : Binds K fd ps []) : DFo P w K mg base k x n r :=
  ⟨f, fd, ps, F, hm, hk, hb⟩
/-- a def with some parameters and a star -/
def BSt (fd : FuncData) (ps : List Str) (pv : Str) : Prop := ∀ us rest : List Value, us.length = ps.length → bindArgs fd ⟨us ++ rest, []⟩ = (newTuple rest >>= fun t => pure (ps.zip us ++ [(pv, t)]))
def dFnS (m n : Nat) (B : DTS) : DRC := fun ds S R => m ≤ ds.length ∧ ds.length ≤ 1000 ∧ dFn n B (ds.take m ++ [.wtup (ds.drop m)]) S R
theorem fn_s {x : Str} {st : Stmt} {f : Addr} {fd : FuncData} {N ps : List Str} {pv : Str} {k m : Nat} {B : DTS} (F : Fun K x x st f fd) (Sc : FnScope N (ps ++ [pv]) (defScope st)) (hb : BSt fd ps pv) (hm : ps.length = m)
    (hbody : ∀ (cdv : Value) (A : Around) (outer : List PySem.Env) (s : Shared) (H : Hp) (E : XK), Room k (A.deeper (envOfC x (defScope st) s.heap.objs.size f cdv)) →
      DSs (cxOf CX0 P w K mg base N x (defScope st) f cdv A outer s H E).nox (defBody st) B) : FnR P w K mg base CX0 (k + 1) f (fun vs H Q _ => lC ⟨P, w, K⟩ (dFnS m N.length B) vs H Q) := by
  obtain ⟨oc, od, kV, doc, pm, an, cdv, ct, osl, rfl, lk, hcd⟩ := F.ex
  have Gs := StX.fn_star (P := P) (w := w) (mg := mg) (base := base) (CX := CX0) (ps := ps) (pv := pv) (k := k) (sp := fun vs H Q _ => lC ⟨P, w, K⟩ (dFn N.length B) vs H Q) lk hcd Sc StX.cxUp_none hb (fun A outer s H vs Q E hr hsp => by
    obtain ⟨ds, S, R, r, s1, q, kk⟩ := hsp
    exact ⟨_, ((hbody cdv A outer s H E hr).run).nox, _, S, _, rs_start r s1, q, fun env' S' σ' H' q' r' e' => kk _ _ _ _ q' r'.sto .non e', fun d S' v H' q' s' r' e' => kk _ _ _ _ q' s' r' e', fun _ _ _ _ q' => q'.elim, fun _ _ _ _ q' => q'.elim⟩)
  refine Gs.imp fun vs H Q E h => ?_
  obtain ⟨ds, S, R, r, s1, ⟨h1, h2, q⟩, kk⟩ := h
  have hl := r.length
  refine ⟨vs.take m, vs.drop m, (List.take_append_drop m vs).symm, by rw [List.length_take, hm]; omega, ?_, fun p np => ?_⟩
  · rw [List.length_drop]
    exact Nat.le_trans (by omega : vs.length - m ≤ 1000) (by decide)
  · have e : Ext H (upd H p (.tup (vs.drop m))) := .new np
    exact ⟨ds.take m ++ [.wtup (ds.drop m)], S, R, ((r.take m).ext e).append (.cons (.wtup upd_same ((r.drop m).ext e)) .nil), s1.new np, q, fun z S' v H' q' s' r' e' => kk _ _ _ _ q' s' r' (e.trans e')⟩
theorem DFs.mk' {k : Nat} {x : Str} {r : DRC} {f : Addr} (F : FnR P w K mg base CX0 k f (fun vs H Q _ => lC ⟨P, w, K⟩ r vs H Q)) (hm : mg x = some (.ref f)) (hk : PySem.W.keepIn K (.ref f) = true) : DFs P w K mg base k x r := ⟨f, F, hm, hk⟩
end
section
variable {X : Cx} {a b e : Expr} {es : List Expr} {ta tb te : DTE} {tl : DTA} {pos p : Pos}
def dStarA (te : DTE) (t : DTA) : DTA := fun env S R => te env S fun d S1 => ∃ xs, seqOf S1 d = some xs ∧ t env S1 fun ys S2 => R (xs ++ ys) S2
theorem da_star (he : DE X e te) (hr : DA X es tl) (hs : starEach (.Starred e p :: es) X.env = (true, eval e X.env) :: starEach es X.env := by rfl) : DA X (.Starred e p :: es) (dStarA te tl) := by
  refine ⟨(StX.pa_star he.run hr.run hs).of fun σ H Q ⟨env, S, R, rs, h, k⟩ => ⟨env, S, _, rs, h, fun d S1 v H1 ⟨xs, hx, q⟩ s1 r1 e1 => ?_⟩⟩
  obtain ⟨pp, vs, rfl, hq, r⟩ := seq_rel s1 r1 hx
  exact ⟨pp, vs, rfl, hq.symm, env, S1, _, rs.ext e1 s1, q, fun ys S2 us H2 q2 s2 r2 e2 => k _ _ _ _ q2 s2 ((r.ext e2).append r2) (e1.trans e2)⟩
def Sto.rem (S : Sto) (a : Addr) : Sto := fun b => if b = a then none else S b
theorem RelS.rem {K : KK} {S : Sto} {H : Hp} {p : Addr} {u w : HO} (h : RelS K S H) (n : H p = some w) (m : Mut (some w)) : RelS K (S.rem p) (upd H p u) := fun a o e => by
  unfold Sto.rem at e
  by_cases z : a = p
  · rw [if_pos z] at e; cases e
  · rw [if_neg z] at e
    exact (h a o e).ext (.put n m) (upd_ne z)
def kD : Key → D
  | .inl i => .int i
  | .inr x => .str x
theorem kD_inv {K : KK} {H : Hp} {k : Key} {v : V} (r : RD K H (kD k) v) : v = kV k := by
  cases k with
  | inl i => cases r; rfl
  | inr x => cases r; rfl
def putD (kvs : List (Key × D)) (k : Key) (v : D) : List (Key × D) :=
  if (kvs.any fun kv => decide (kv.1 = k)) = true then kvs.map (fun kv => if kv.1 = k then (kv.1, v) else kv) else kvs ++ [(k, v)]
def getD' (kvs : List (Key × D)) (k : Key) : Option D := (kvs.find? fun kv => decide (kv.1 = k)).map (·.2)
theorem RDk.any {K : KK} {H : Hp} {k : Key} : ∀ {ds : List (Key × D)} {vs : List (Key × V)}, RDk K H ds vs → (ds.any fun kv => decide (kv.1 = k)) = (vs.any fun kv => decide (kv.1 = k))
  | _, _, .nil => rfl
  | _, _, .cons r t => by rw [List.any_cons, List.any_cons, RDk.any t]
theorem RDk.app {K : KK} {H : Hp} : ∀ {ds es : List (Key × D)} {vs ws : List (Key × V)}, RDk K H ds vs → RDk K H es ws → RDk K H (ds ++ es) (vs ++ ws)
  | _, _, _, _, .nil, s => s
  | _, _, _, _, .cons r t, s => .cons r (RDk.app t s)
theorem RDk.mapK {K : KK} {H : Hp} {k : Key} {d : D} {v : V} (h : RD K H d v) : ∀ {ds : List (Key × D)} {vs : List (Key × V)}, RDk K H ds vs → RDk K H (ds.map fun kv => if kv.1 = k then (kv.1, d) else kv) (vs.map fun kv => if kv.1 = k then (kv.1, v) else kv)
  | _, _, .nil => .nil
  | _, _, @RDk.cons _ _ k' d' ds v' vs r t => by
    rw [List.map_cons, List.map_cons]
    by_cases z : k' = k
    · subst z
      simp only [if_true]
      exact .cons h (RDk.mapK h t)
    · simp only [z, if_false]
      exact .cons r (RDk.mapK h t)
theorem RDk.put {K : KK} {H : Hp} {k : Key} {d : D} {v : V} (h : RD K H d v) {ds : List (Key × D)} {vs : List (Key × V)} (r : RDk K H ds vs) : RDk K H (putD ds k d) (putK vs k v) := by
  unfold putD putK
  rw [r.any]
  by_cases z : (vs.any fun kv => decide (kv.1 = k)) = true
  · rw [if_pos z, if_pos z]
    exact r.mapK h
  · rw [if_neg z, if_neg z]
    exact r.app (.cons h .nil)
theorem RDk.get {K : KK} {H : Hp} {k : Key} : ∀ {ds : List (Key × D)} {vs : List (Key × V)}, RDk K H ds vs → (∀ d, getD' ds k = some d → ∃ v, valV vs k = some v ∧ RD K H d v) ∧ (getD' ds k = none → valV vs k = none)
  | _, _, .nil => ⟨fun d h => (nomatch h), fun _ => rfl⟩
  | _, _, @RDk.cons _ _ k' d' ds v' vs r t => by
    have ih := RDk.get (k := k) t
    unfold getD' valV at ih ⊢
    rw [List.find?_cons, List.find?_cons]
    by_cases z : k' = k
    · subst z
      simp only [decide_true]
      exact ⟨fun d h => ⟨v', rfl, by cases h; exact r⟩, fun h => (nomatch h)⟩
    · simp only [z, decide_false]
      exact ih
/-- {key: value for target in iter if ..}, read from then on -/
def dDc (ti : DTI) (g : DTG) (tt : DTT) (tk tv : DTE) (us : List Nat) : DTE := fun env S R => ti env S fun w S1 => ∀ p, S1 p = none → ∃ Pv : Nat → Sto → Prop, Pv 0 (S1.put p (.dK [])) ∧ (∀ i S, i ≤ w.items.length → Pv i S → w.live S) ∧
  (∀ i d S, w.items[i]? = some d → Pv i S → g d (dwipe env us) S fun env' S' => tt env' S' fun b S2 => if b = true then tk env' S2 fun y S3 => tv env' S3 fun z S4 => ∃ kvs k, y = kD k ∧ S4 p = some (.dK kvs) ∧ kvs.length < 1000000 ∧ Pv (i + 1) (S4.put p (.dK (putD kvs k z))) else Pv (i + 1) S2) ∧
  ∀ S, Pv w.items.length S → ∃ kvs, S p = some (.dK kvs) ∧ R (.dct kvs) (S.rem p)
theorem lE_dc {K : KK} {b : Bool} {ti : DTI} {g : DTG} {tt : DTT} {tk tv : DTE} {us vs : List Nat} {σ : L2.St} {H : Hp} {Q : VK} (hv : ∀ i ∈ vs, i ∈ us) (h : lE K (dDc ti g tt tk tv us) σ H Q) : tFrz (tDc (lI K b ti) (lG K b vs g) (lT K tt) (lE K tk) (lE K tv) us) σ H Q := by
  obtain ⟨env, S, R, rs, h, k⟩ := h
  refine ⟨env, S, _, rs, h, fun w S1 J H1 q s1 e1 st p np => ?_⟩
  obtain ⟨Pv, p0, lv, step, done⟩ := q p (s1.fresh np)
  obtain ⟨G, Y, wk, hG, hY⟩ := st.ex
  have s1' : RelS K (S1.put p (.dK [])) (upd H1 p (.dK [])) := s1.lay np ⟨_, upd_same, .nil⟩
  have e1' : Ext H1 (upd H1 p (.dK [])) := .new np
  refine dc_it wk (fun i H' => ∃ S', RelS K S' H' ∧ Ext H1 H' ∧ Pv i S') ⟨_, s1', e1', p0⟩ (fun i H' hi ⟨S', s', e', p'⟩ => hG H' S' e' s' (lv i S' hi p')) ?_ ?_
  · rintro i x H2 H3 hi ⟨S2, s2, e2, p2⟩ y
    obtain ⟨e3, hS, d, hd, rd⟩ := hY i H2 x H3 e2 y
    have e13 := e1.trans (e2.trans e3)
    refine ⟨d, dwipe env us, S2, _, rd, (rs.ext e13 (hS S2 s2)).wipe us, step i d S2 hd p2, fun env4 S4 σ4 H4 q4 rs4 e4 o4 => ⟨wipe_off o4 hv, env4, S4, _, rs4, q4, fun c S5 H5 q5 s5 e5 => ?_⟩⟩
    cases c with
    | false => exact ⟨S5, s5, e2.trans (e3.trans (e4.trans e5)), q5⟩
    | true =>
      refine ⟨env4, S5, _, rs4.ext e5 s5, q5, fun y S6 v H6 q6 s6 r6 e6 => ⟨env4, S6, _, rs4.ext (e5.trans e6) s6, q6, fun z S7 u H7 ⟨kvs, kk, hy, h1, h2, q7⟩ s7 r7 e7 => ?_⟩⟩
      subst hy
      obtain ⟨ws, h3, h4⟩ := s7 p _ h1
      have e8 : Ext H7 (upd H7 p (.dK (putK ws kk u))) := .put h3 trivial
      exact ⟨ws, kk, kD_inv r6, h3, Nat.lt_of_lt_of_le (h4.length ▸ h2) (by decide), _, s7.put (o := .dK (putD kvs kk z)) h3 trivial ⟨_, upd_same, (h4.put r7).ext e8⟩, e2.trans (e3.trans (e4.trans (e5.trans (e6.trans (e7.trans e8))))), q7⟩
  · rintro H2 ⟨S2, s2, e2, p2⟩
    obtain ⟨kvs, h1, q⟩ := done S2 p2
    obtain ⟨ws, h3, h4⟩ := s2 p _ h1
    refine ⟨p, _, rfl, h3, trivial, fun od => ?_⟩
    have e3 : Ext H2 (upd H2 p (.frz od (.dK ws))) := .put h3 trivial
    exact k _ _ _ _ q (s2.rem h3 trivial) (.dct upd_same (h4.ext e3)) (e1.trans (e2.trans e3))
theorem de_dc {kx vx tg iter : Expr} {ifs : List Expr} {scope : Scope} {own : List (Str × Nat)} {vs : List Nat} {bb : Bool} {ti : DTI} {g : DTG} {tt : DTT} {tk tv : DTE} (hc : X.calm = true) (hN : X.N.Nodup) (hi : DI X bb tg iter ti) (ok : BlkOk X.N X.env.scope scope own) (hv : ∀ i ∈ vs, i ∈ own.map (·.2))
    (hg : ∀ (s : Shared) (H : Hp) (C : Addr) (cl : List (Str × Addr)) (fp : List Addr), DG (X.blk s H scope (compEnvC scope cl C X.env) fp) bb vs tg g) (ht : ∀ (s : Shared) (H : Hp) (C : Addr) (cl : List (Str × Addr)) (fp : List Addr), DTs (X.blk s H scope (compEnvC scope cl C X.env) fp) ifs tt)
    (hk : ∀ (s : Shared) (H : Hp) (C : Addr) (cl : List (Str × Addr)) (fp : List Addr), DE (X.blk s H scope (compEnvC scope cl C X.env) fp) kx tk)
    (he : ∀ (s : Shared) (H : Hp) (C : Addr) (cl : List (Str × Addr)) (fp : List Addr), DE (X.blk s H scope (compEnvC scope cl C X.env) fp) vx tv) (hs : ∀ x, foldedSetIterable iter X.env x = pure x := by intro _; rfl) :
    DE X (.DictComp kx vx [⟨tg, iter, ifs, 0⟩] scope pos) (dDc ti g tt tk tv (own.map (·.2))) :=
  ⟨(pe_frz (pe_dc (g := lG X.kk bb vs g) (tt := lT X.kk tt) (tk := lE X.kk tk) (tv := lE X.kk tv) hc hN hi.run ok (fun s H C cl fp => (hg s H C cl fp).run) (fun s H C cl fp => (ht s H C cl fp).run) (fun s H C cl fp => (hk s H C cl fp).run) (fun s H C cl fp => (he s H C cl fp).run) hs)).of fun _ _ _ => lE_dc hv⟩
/-- for v in d.values(), for k, v in d.items() -/
def diValues (te : DTE) : DTI := fun env S R => te env S fun d S1 => ∃ kvs, d = .dct kvs ∧ R ⟨kvs.map (·.2), fun _ => True⟩ S1
theorem di_values {tg : Expr} {apos cpos : Pos} (he : DE X e te) (hbase : attributeBase e "values" X.env (eval e X.env) = eval e X.env := by rfl) (hline : (apos.endLine == cpos.line) = true := by rfl) : DI X true tg (.Call (.Attribute e "values" apos) [] [] cpos) (diValues te) := by
  refine ⟨(pi_values he.run hbase hline).of fun σ H R ⟨env, S, R0, rs, h, k⟩ => ⟨env, S, _, rs, h, fun d S1 v H1 ⟨kvs, hd, q⟩ s1 r1 e1 => ?_⟩⟩
  subst hd
  cases r1 with
  | @dct a o _ vs ht r =>
    refine ⟨a, o, vs, rfl, ht, k _ _ _ _ q s1 e1 ⟨fun H => H a = some (.frz o (.dK vs)), fun i H x H' => H' = H ∧ ∃ k, vs[i]? = some (k, x), ?_, fun H S e _ _ => e.1 _ _ _ ht, ?_⟩⟩
    · have w := walk_values (d := a) (o := o) (kvs := vs)
      have : (kvs.map (·.2)).length = vs.length := by rw [List.length_map, r.length]
      rw [this]
      exact w
    · rintro i H x H' e ⟨rfl, kk, hx⟩
      obtain ⟨d, h1, h2⟩ := (r.ext e).atv hx
      exact ⟨.refl _, fun S s => s, d, by show (kvs.map (·.2))[i]? = _; rw [List.getElem?_map, h1]; rfl, .inl h2⟩
end
end Sv
namespace Sv
open PySem PySem.Spec PyProof.Rows L2
section
variable {X : Cx}
def zipD (xs ys : List D) : List D := List.zipWith (fun x y => .tup [x, y]) xs ys
theorem zipD_at {xs ys : List D} {i : Nat} {x y : D} (h1 : xs[i]? = some x) (h2 : ys[i]? = some y) : (zipD xs ys)[i]? = some (.tup [x, y]) := by
  unfold zipD
  rw [List.getElem?_zipWith, h1, h2]
theorem zipD_len (xs ys : List D) : (zipD xs ys).length = min xs.length ys.length := by unfold zipD; rw [List.length_zipWith]
theorem steps_zip {K : KK} {H0 : Hp} {J : It} {xs ys : List D} {lv : Sto → Prop} (A B : Hp → List V → Prop)
    (hgo : ∀ i H vs ws x y, A H vs → B H ws → vs[i]? = some x → ws[i]? = some y → J.go i H)
    (hst : ∀ i H (vs ws : List V), A H vs → B H ws → i = min vs.length ws.length → J.stop i H)
    (hy : ∀ i H v H', J.yld i H v H' → ∃ T x y, v = .ref T ∧ H T = none ∧ H' = upd H T (.tup [x, y]) ∧ (∀ vs, A H vs → vs[i]? = some x) ∧ ∀ ws, B H ws → ws[i]? = some y)
    (hA : ∀ H S, Ext H0 H → RelS K S H → lv S → ∃ vs ws, A H vs ∧ RDs K H xs vs ∧ B H ws ∧ RDs K H ys ws) : Steps K false H0 J ⟨zipD xs ys, lv⟩ := by
  refine ⟨fun H => ∃ vs ws, A H vs ∧ RDs K H xs vs ∧ B H ws ∧ RDs K H ys ws, fun i H v H' => ∃ T x y vs ws, v = .ref T ∧ H T = none ∧ H' = upd H T (.tup [x, y]) ∧ RDs K H xs vs ∧ RDs K H ys ws ∧ vs[i]? = some x ∧ ws[i]? = some y, ⟨?_, ?_, ?_⟩, hA, ?_⟩
  · rintro i H hi ⟨vs, ws, a, ra, b, rb⟩
    have hi : i < (zipD xs ys).length := hi
    rw [zipD_len, ra.length, rb.length] at hi
    have h1 : i < vs.length := by omega
    have h2 : i < ws.length := by omega
    exact hgo i H vs ws vs[i] ws[i] a b (by simp [h1]) (by simp [h2])
  · rintro H ⟨vs, ws, a, ra, b, rb⟩
    refine hst _ H vs ws a b ?_
    show (zipD xs ys).length = _
    rw [zipD_len, ra.length, rb.length]
  · rintro i H v H' hi ⟨vs, ws, a, ra, b, rb⟩ y
    obtain ⟨T, x, z, h1, h2, h3, h4, h5⟩ := hy i H v H' y
    exact ⟨T, x, z, vs, ws, h1, h2, h3, ra, rb, h4 vs a, h5 ws b⟩
  · rintro i H v H' e ⟨T, x, y, vs, ws, rfl, nT, rfl, ra, rb, hx, hy⟩
    obtain ⟨d, h1, h2⟩ := ra.atv hx
    obtain ⟨d', h3, h4⟩ := rb.atv hy
    exact ⟨.new nT, fun S s => s.new nT, _, zipD_at h1 h3, rdw_pair nT h2 h4⟩
def diZip (ta : DTA) : DTI := fun env S R => ta env S fun ds S1 => ∃ xs ys, (ds = [.tup xs, .tup ys] ∧ R ⟨zipD xs ys, fun _ => True⟩ S1) ∨ ∃ a b, ds = [.ref a, .ref b] ∧ S1 a = some (.lst xs) ∧ S1 b = some (.lst ys) ∧ R ⟨zipD xs ys, fun S => S a = some (.lst xs) ∧ S b = some (.lst ys)⟩ S1
theorem di_zip {e e2 : Expr} {ta : DTA} {p pos tpos : Pos} {elts : List Expr} {kk : Nat} (hg : Gl X "zip") (hm : X.mg "zip" = none) (ha : DA X [e, e2] ta)
    (hs : starEach [e, e2] X.env = (false, eval e X.env) :: starEach [e2] X.env := by rfl) (hpl : (backTo pos (starEach [e2] X.env)).any (·.1) = false := by rfl) : DI X false (.Tuple elts kk tpos) (.Call (.Name "zip" p) [e, e2] [] pos) (diZip ta) := by
  refine ⟨(RZ.pi_zipA hg hm ha.run hs hpl).of fun σ H R ⟨env, S, R0, rs, h, k⟩ => ⟨env, S, _, rs, h, fun ds S1 vs H1 ⟨xs, ys, q⟩ s1 r1 e1 => ?_⟩⟩
  rcases q with ⟨rfl, q⟩ | ⟨a, b, rfl, ha, hb, q⟩
  · obtain ⟨v, u, rfl, rv, ru⟩ := r1.inv2
    cases rv with
    | tup t1 q1 =>
      cases ru with
      | tup t2 q2 =>
        exact ⟨_, _, _, _, rfl, .inr ⟨t1.sqT, t2.sqT, k _ _ _ _ q s1 e1 (steps_zip (fun H vs => SqT X.K H _ vs) (fun H vs => SqT X.K H _ vs) (fun i H vs ws x y a b hx hy => ⟨vs, ws, x, y, a, b, hx, hy⟩) (fun i H vs ws a b h => ⟨vs, ws, a, b, by omega⟩) (fun i H v H' y => y) fun H S e _ _ => ⟨_, _, (t1.ext e).sqT, q1.ext e, (t2.ext e).sqT, q2.ext e⟩)⟩⟩
  · obtain ⟨v, u, rfl, rv, ru⟩ := r1.inv2
    cases rv
    cases ru
    obtain ⟨vs, h1, q1⟩ := s1.lst ha
    obtain ⟨ws, h2, q2⟩ := s1.lst hb
    refine ⟨_, _, _, _, rfl, .inl ⟨.of h1, .of h2, k _ _ _ _ q s1 e1 (steps_zip (fun H vs => SqL X.K H _ vs) (fun H vs => SqL X.K H _ vs) (fun i H vs ws x y a b hx hy => ⟨vs, ws, x, y, a, b, hx, hy⟩) (fun i H vs ws a b h => ⟨vs, ws, a, b, by omega⟩) (fun i H v H' y => y) fun H S e s l => ?_)⟩⟩
    obtain ⟨vs', h3, q3⟩ := s.lst l.1
    obtain ⟨ws', h4, q4⟩ := s.lst l.2
    exact ⟨_, _, .of h3, q3, .of h4, q4⟩
/-- a tuple and a list -/
def diZipM (ta : DTA) : DTI := fun env S R => ta env S fun ds S1 => ∃ xs ys b, ds = [.tup xs, .ref b] ∧ S1 b = some (.lst ys) ∧ R ⟨zipD xs ys, fun S => S b = some (.lst ys)⟩ S1
theorem di_zipM {e e2 : Expr} {ta : DTA} {p pos tpos : Pos} {elts : List Expr} {kk : Nat} (hg : Gl X "zip") (hm : X.mg "zip" = none) (ha : DA X [e, e2] ta)
    (hs : starEach [e, e2] X.env = (false, eval e X.env) :: starEach [e2] X.env := by rfl) (hpl : (backTo pos (starEach [e2] X.env)).any (·.1) = false := by rfl) : DI X false (.Tuple elts kk tpos) (.Call (.Name "zip" p) [e, e2] [] pos) (diZipM ta) := by
  refine ⟨(pi_zipM hg hm ha.run hs hpl).of fun σ H R ⟨env, S, R0, rs, h, k⟩ => ⟨env, S, _, rs, h, fun ds S1 vs H1 ⟨xs, ys, b, hd, hb, q⟩ s1 r1 e1 => ?_⟩⟩
  subst hd
  obtain ⟨v, u, rfl, rv, ru⟩ := r1.inv2
  cases rv with
  | tup t1 q1 =>
    cases ru
    obtain ⟨ws, h2, q2⟩ := s1.lst hb
    refine ⟨_, _, _, _, rfl, t1.sqT, .of h2, k _ _ _ _ q s1 e1 (steps_zip (fun H vs => SqT X.K H _ vs) (fun H vs => SqL X.K H _ vs) (fun i H vs ws x y a b hx hy => ⟨vs, ws, a, b, (List.getElem?_eq_some_iff.mp hx).1, (List.getElem?_eq_some_iff.mp hy).1⟩) (fun i H vs ws a b h => ⟨vs, ws, a, b, by omega, by omega, by omega⟩) (fun i H v H' y => y) fun H S e s l => ?_)⟩
    obtain ⟨ws', h4, q4⟩ := s.lst l
    exact ⟨_, _, (t1.ext e).sqT, q1.ext e, .of h4, q4⟩
end
end Sv
namespace Sv
open PySem PySem.Spec PyProof.Rows L2
def spLawD (K : PySem.W.Frag) : Sp := fun vs H Q _ => ∃ (a : Addr) (ns : List Int), vs = [.ref a] ∧ Only H ∧ SqL K H a (ns.map V.int) ∧ ns.length ≤ 63 ∧ ∀ H', Q (.bl true) H'
theorem FnG.lawD {P : Program} {w : World} {K : PySem.W.Frag} {mg : Str → Option Value} {base : Heap} {k : Nat} {f : Addr} {fd : FuncData} {ps : List Str} {r : DRC} (F : FnG P w K mg base k f fd ps (lP ⟨P, w, K⟩ 1 r)) (hp : ps.length = 1)
    (h : ∀ ns : List Int, ns.length ≤ 63 → r [.rol (intsD ns)] (fun _ => none) (fun d _ => d = .bl true)) : FnG P w K mg base k f fd ps (spLawD K) := by
  have go : ∀ vs H Q E, spLawD K vs H Q E → lP ⟨P, w, K⟩ 1 r vs H Q E := by
    rintro vs H Q E ⟨a, ns, rfl, hO, hS, hl, q⟩
    obtain ⟨h1, ds, S, R, h2, h3, h4, h5⟩ := lP_law (K := ⟨P, w, K⟩) hO hS (h ns hl)
    exact ⟨h1, ds, S, R, h2, h3, h4, fun z S' v H' a1 a2 a3 a4 => by
      obtain rfl := h5 z S' v H' a1 a2 a3 a4
      exact q H'⟩
  refine ⟨fun vs H Q E h => ?_, fun A hg outer s H args us vs Q E hr e0 hb rv hsp => F.run A hg outer s H args us vs Q E hr e0 hb rv (go _ _ _ _ hsp)⟩
  obtain ⟨a, ns, rfl, _⟩ := h
  rw [hp]
  rfl
end Sv
namespace Sv
open PySem PySem.Spec PyProof.Rows L2
section
variable {X : Cx}
def prD (p : Int × Int) : D := .tup [.int p.1, .int p.2]
end
end Sv
namespace Sv
open PySem L2
/-- _law_next: 0 _law_deck_here 1 _law_many 2 _law_cell 3 _law_digit -/
def B_law_next_74a4 : DTS := dSeq (dWhile (dAnd (dB (dBin (rEqq false) (dBin rIxq (dVar 0) (dC (.int 1))) (dC (.int 0)))) (dB (dBin (rEqq true) (dBin rIxq (dVar 0) (dC (.int 0))) (dLst (dNil))))) (dSeq (dAsg (dMtq "list" mPopAt (dBin rIxq (dVar 0) (dC (.int 0))) (dCons (dC (.int 0)) (dNil))) (dgName 2))
  (dSeq (dAsg (dBin rMod (dBin rAdd (dBin rAdd (dBin rMul (dBin rIxq (dVar 0) (dC (.int 3))) (dC (.int 48271))) (dVar 2)) (dC (.int 7))) (dC (.int 2147483647))) (dSub (dVar 0) (dC (.int 3))))
  (dAsg (dBin rMul (dVar 2) (dCB (rInt) (dCons (dBin (rCmp fun i j => decide (j ≤ i)) (dVar 2) (dBin rPow (dC (.int 10)) (dC (.int 18)))) (dNil)))) (dSub (dVar 0) (dC (.int 1)))))))
  (dSeq (dIfS (dB (dBin (rCmp fun i j => decide (j < i)) (dBin rIxq (dVar 0) (dC (.int 1))) (dC (.int 0)))) (dSeq (dAsg (dBin rMod (dBin rIxq (dVar 0) (dC (.int 1))) (dVar 1)) (dgName 3))
  (dSeq (dAsg (dBin rDiv (dBin rIxq (dVar 0) (dC (.int 1))) (dVar 1)) (dSub (dVar 0) (dC (.int 1))))
  (dRet (dVar 3)))) (dNext))
  (dSeq (dAsg (dBin rAdd (dBin rIxq (dVar 0) (dC (.int 2))) (dC (.int 1))) (dSub (dVar 0) (dC (.int 2))))
  (dSeq (dAsg (dBin rMod (dBin rAdd (dBin rAdd (dBin rMul (dBin rIxq (dVar 0) (dC (.int 3))) (dC (.int 69621))) (dBin rMul (dC (.int 30011)) (dBin rIxq (dVar 0) (dC (.int 2))))) (dC (.int 12345))) (dC (.int 2147483647))) (dSub (dVar 0) (dC (.int 3))))
  (dRet (dBin rMod (dBin rDiv (dBin rMod (dBin rMul (dBin rIxq (dVar 0) (dC (.int 3))) (dBin rIxq (dVar 0) (dC (.int 3)))) (dC (.int 2147483629))) (dC (.int 8))) (dVar 1))))))
/-- _law_one: 0 _law_deck_here 1 _law_items -/
def B_law_one_4842 : DTS := dRet (dBin rIxq (dVar 1) (dCall 2 (dFn 4 B_law_next_74a4) (dCons (dVar 0) (dCons (dCB (rLen) (dCons (dVar 1) (dNil))) (dNil)))))
/-- _law_grown: 0 _law_deck_here 1 _law_state 2 _law_rows 3 _law_names 4 _law_waiting 5 _law_share 6 _law_process 7 _law_way 8 _law_ready 9 _law_event 10 _law_left 11 _law_pair 12 _law_longer 13 _law_one_here -/
def B_law_grown_680b : DTS := dSeq (dAsg (dVar 1) (dUnp 4 (dgCons (dgName 2) (dgCons (dgName 3) (dgCons (dgName 4) (dgCons (dgName 5) (dgNil)))))))
  (dSeq (dAsg (dTup (dCons (dCall 2 (dFn 4 B_law_next_74a4) (dCons (dVar 0) (dCons (dCB (rLen) (dCons (dVar 2) (dNil))) (dNil)))) (dCons (dCall 2 (dFn 4 B_law_next_74a4) (dCons (dVar 0) (dCons (dC (.int 6)) (dNil)))) (dNil)))) (dUnp 2 (dgCons (dgName 6) (dgCons (dgName 7) (dgNil)))))
  (dSeq (dAsg (dLc (diVal (dVar 4)) (dgName 11) (dB (dBin (rEqq true) (dBin rIxq (dVar 11) (dC (.int 1))) (dVar 6))) (dVar 11) [11]) (dgName 8))
  (dSeq (dAsg (dTup (dCons (dC (.int 0)) (dCons (dVar 3) (dNil)))) (dUnp 2 (dgCons (dgName 9) (dgCons (dgName 10) (dgNil)))))
  (dSeq (dIfS (dAnd (dB (dBin (rCmp fun i j => decide (j ≤ i)) (dVar 7) (dVar 5))) (dAnd (dB (dBin (rEqq false) (dBin rMod (dVar 7) (dC (.int 2))) (dC (.int 1)))) (dB (dBin (rEqq true) (dVar 8) (dLst (dNil)))))) (dSeq (dAsg (dCall 2 (dFn 2 B_law_one_4842) (dCons (dVar 0) (dCons (dVar 8) (dNil)))) (dgName 11))
  (dAsg (dTup (dCons (dBin rSub (dC (.int 0)) (dBin rIxq (dVar 11) (dC (.int 0)))) (dCons (dLc (diVal (dVar 4)) (dgName 13) (dB (dBin (rEqq true) (dVar 13) (dVar 11))) (dVar 13) [13]) (dNil)))) (dUnp 2 (dgCons (dgName 9) (dgCons (dgName 4) (dgNil)))))) (dIfS (dAnd (dB (dBin (rCmp fun i j => decide (j ≤ i)) (dVar 7) (dVar 5))) (dB (dBin (rEqq true) (dVar 3) (dLst (dNil))))) (dSeq (dAsg (dTup (dCons (dBin rIxq (dVar 3) (dC (.int 0))) (dCons (dSl (dVar 3) (dPart (dC (.int 1))) (dNoP)) (dNil)))) (dUnp 2 (dgCons (dgName 9) (dgCons (dgName 10) (dgNil)))))
  (dAsg (dBin rAdd (dVar 4) (dLst (dCons (dTup (dCons (dVar 9) (dCons (dVar 6) (dNil)))) (dNil)))) (dgName 4))) (dNext)))
  (dSeq (dAsg (dTup (dCons (dBin rAdd (dBin rIxq (dVar 2) (dVar 6)) (dTup (dCons (dVar 9) (dNil)))) (dNil))) (dgName 12))
  (dRet (dLst (dCons (dBin rAdd (dBin rAdd (dSl (dVar 2) (dNoP) (dPart (dVar 6))) (dVar 12)) (dSl (dVar 2) (dPart (dBin rAdd (dVar 6) (dC (.int 1)))) (dNoP))) (dCons (dVar 10) (dCons (dVar 4) (dCons (dVar 5) (dNil))))))))))))
/-- _law_shuffled: 0 _law_deck_here 1 _law_items 2 _law_left 3 _law_found -/
def B_law_shuffled_c6aa : DTS := dSeq (dAsg (dCB (rListq) (dCons (dVar 1) (dNil))) (dgName 2))
  (dSeq (dAsg (dLst (dNil)) (dgName 3))
  (dSeq (dWhile (dB (dBin (rEqq true) (dVar 2) (dLst (dNil)))) (dDrop (dMtq "list" mAppend (dVar 3) (dCons (dMtq "list" mPopAt (dVar 2) (dCons (dCall 2 (dFn 4 B_law_next_74a4) (dCons (dVar 0) (dCons (dCB (rLen) (dCons (dVar 2) (dNil))) (dNil)))) (dNil))) (dNil)))))
  (dRet (dVar 3))))
/-- _law_begun: 0 _law_deck_here 1 _law_many 2 _law_rows -/
def B_law_begun_2a66 : DTS := dSeq (dAsg (dBin rMul (dTup (dCons (dTup (dNil)) (dNil))) (dBin rAdd (dC (.int 1)) (dCall 2 (dFn 4 B_law_next_74a4) (dCons (dVar 0) (dCons (dVar 1) (dNil)))))) (dgName 2))
  (dRet (dLst (dCons (dVar 2) (dCons (dCall 2 (dFn 4 B_law_shuffled_c6aa) (dCons (dVar 0) (dCons (dLRg2 (dC (.int 1)) (dC (.int 25))) (dNil)))) (dCons (dLst (dNil)) (dCons (dBin rAdd (dC (.int 1)) (dCall 2 (dFn 4 B_law_next_74a4) (dCons (dVar 0) (dCons (dC (.int 3)) (dNil))))) (dNil)))))))
/-- _law_domino: 0 _law_deck_here 1 _law_most 2 _law_ones 3 _law_others 4 _law_k -/
def B_law_domino_a8d9 : DTS := dSeq (dAsg (dTup (dCons (dTup (dNil)) (dCons (dTup (dNil)) (dNil)))) (dUnp 2 (dgCons (dgName 2) (dgCons (dgName 3) (dgNil)))))
  (dSeq (dFor (diRg1 (dCons (dBin rAdd (dC (.int 1)) (dCall 2 (dFn 4 B_law_next_74a4) (dCons (dVar 0) (dCons (dCB (rMax2) (dCons (dC (.int 1)) (dCons (dBin rDiv (dVar 1) (dC (.int 6))) (dNil)))) (dNil))))) (dNil))) (dgName 4) (dSeq (dAsg (dBin rAdd (dVar 2) (dTup (dCons (dBin rSub (dC (.int 0)) (dBin rAdd (dBin rMul (dC (.int 2)) (dVar 4)) (dC (.int 1)))) (dCons (dC (.int 0)) (dCons (dBin rAdd (dBin rMul (dC (.int 2)) (dVar 4)) (dC (.int 2))) (dNil)))))) (dgName 2))
  (dAsg (dBin rAdd (dVar 3) (dTup (dCons (dBin rAdd (dBin rMul (dC (.int 2)) (dVar 4)) (dC (.int 1))) (dCons (dBin rSub (dC (.int 0)) (dBin rAdd (dBin rMul (dC (.int 2)) (dVar 4)) (dC (.int 2)))) (dCons (dC (.int 0)) (dNil)))))) (dgName 3))))
  (dRet (dTup (dCons (dVar 2) (dCons (dVar 3) (dNil))))))
/-- is_orphan: 0 trip 1 line 2 sender 3 sent 4 receiver 5 received -/
def B_is_orphan_8604 : DTS := dSeq (dAsg (dVar 0) (dUnp 2 (dgCons (dUnp 2 (dgCons (dgName 2) (dgCons (dgName 3) (dgNil)))) (dgCons (dUnp 2 (dgCons (dgName 4) (dgCons (dgName 5) (dgNil)))) (dgNil)))))
  (dRet (dAndV (dBin (rCmp fun i j => decide (i < j)) (dVar 5) (dBin rIxq (dVar 1) (dVar 4))) (dBin (rCmp fun i j => decide (j ≤ i)) (dVar 3) (dBin rIxq (dVar 1) (dVar 2)))))
/-- lowered: 0 trips 1 high 2 numbers 3 changed 4 trip 5 receiver 6 received -/
def B_lowered_c6aa : DTS := dSeq (dAsg (dCB (rListq) (dCons (dVar 1) (dNil))) (dgName 2))
  (dSeq (dAsg (dC (.bl true)) (dgName 3))
  (dSeq (dWhile (dB (dVar 3)) (dSeq (dAsg (dC (.bl false)) (dgName 3))
  (dFor (diValues (dVar 0)) (dgName 4) (dIfS (dB (dCall 2 (dFn 6 B_is_orphan_8604) (dCons (dVar 4) (dCons (dVar 2) (dNil))))) (dSeq (dAsg (dBin rIxq (dVar 4) (dC (.int 1))) (dUnp 2 (dgCons (dgName 5) (dgCons (dgName 6) (dgNil)))))
  (dSeq (dAsg (dVar 6) (dSub (dVar 2) (dVar 5)))
  (dAsg (dC (.bl true)) (dgName 3)))) (dNext)))))
  (dRet (dCB (rTupq) (dCons (dVar 2) (dNil))))))
/-- happened_at: 0 history 1 event 2 process 3 row 4 interval 5 other -/
def B_happened_at_e85f : DTS := dSeq (dFor (diEnum (dCons (dVar 0) (dNil))) (dUnp 2 (dgCons (dgName 2) (dgCons (dgName 3) (dgNil)))) (dSeq (dAsg (dC (.int 0)) (dgName 4))
  (dFor (diVal (dVar 3)) (dgName 5) (dSeq (dIfS (dB (dBin (rEqq false) (dVar 5) (dVar 1))) (dRet (dTup (dCons (dVar 2) (dCons (dVar 4) (dNil))))) (dNext))
  (dIfS (dB (dBin (rEqq false) (dVar 5) (dC (.int 0)))) (dAug 4 (dC (.int 1)) (rI2 fun i j => i + j)) (dNext))))))
  (dRet (dC .non))
/-- trips_of: 0 history 1 messages 2 message 3 row 4 event -/
def B_trips_of_ea9a : DTS := dSeq (dAsg (dCB (rSorted1) (dCons (dLc2 (diVal (dVar 0)) (dgName 3) (dYes) (diVal (dVar 3)) (dgName 4) (dB (dBin (rCmp fun i j => decide (i < j)) (dVar 4) (dC (.int 0)))) (dUn rNeg (dVar 4)) [3, 4] [4]) (dNil))) (dgName 1))
  (dRet (dDc (diVal (dVar 1)) (dgName 2) (dYes) (dVar 2) (dTup (dCons (dCall 2 (dFn 6 B_happened_at_e85f) (dCons (dVar 0) (dCons (dVar 2) (dNil)))) (dCons (dCall 2 (dFn 6 B_happened_at_e85f) (dCons (dVar 0) (dCons (dUn rNeg (dVar 2)) (dNil)))) (dNil)))) [2]))
/-- state_numbers: 0 history 1 row -/
def B_state_numbers_78d0 : DTS := dRet (dCB (rTupq) (dCons (dLc (diVal (dVar 0)) (dgName 1) (dYes) (dBin rAdd (dMtT mTcount (dVar 1) (dCons (dC (.int 0)) (dNil))) (dC (.int 1))) [1]) (dNil)))
/-- fall_back: 0 history 1 failed 2 high 3 process 4 present -/
def B_fall_back_94df : DTS := dSeq (dAsg (dLc (diEnum (dCons (dCall 1 (dFn 2 B_state_numbers_78d0) (dCons (dVar 0) (dNil))) (dNil))) (dUnp 2 (dgCons (dgName 3) (dgCons (dgName 4) (dgNil)))) (dYes) (dIf (dB (dBin (rInq false) (dVar 3) (dVar 1))) (dBin rSub (dVar 4) (dC (.int 1))) (dVar 4)) [3, 4]) (dgName 2))
  (dRet (dCall 2 (dFn 7 B_lowered_c6aa) (dCons (dCall 1 (dFn 5 B_trips_of_ea9a) (dCons (dVar 0) (dNil))) (dCons (dVar 2) (dNil)))))
/-- _law_lost: 0 _law_deck_here 1 _law_rows 2 _law_k -/
def B_law_lost_0080 : DTS := dRet (dCB (rTupq) (dCons (dLc (diRg1 (dCons (dCall 2 (dFn 4 B_law_next_74a4) (dCons (dVar 0) (dCons (dC (.int 7)) (dNil)))) (dNil))) (dgName 2) (dYes) (dCall 2 (dFn 4 B_law_next_74a4) (dCons (dVar 0) (dCons (dCB (rLen) (dCons (dVar 1) (dNil))) (dNil)))) [2]) (dNil)))
/-- _law_deck: 0 _law_script 1 _law_cell -/
def B_law_deck_74a9 : DTS := dRet (dLst (dCons (dLc (diVal (dSl (dVar 0) (dNoP) (dPart (dC (.int 63))))) (dgName 1) (dYes) (dCB (rAbs) (dCons (dVar 1) (dNil))) [1]) (dCons (dC (.int 0)) (dCons (dC (.int 0)) (dCons (dBin rAdd (dC (.int 11)) (dBin rMul (dC (.int 37)) (dCB (rLen) (dCons (dVar 0) (dNil))))) (dNil))))))
/-- _law_history: 0 _law_deck_here 1 _law_many 2 _law_most 3 _law_state 4 _law_k -/
def B_law_history_9bf0 : DTS := dSeq (dIfS (dAnd (dB (dBin (rCmp fun i j => decide (j < i)) (dVar 1) (dC (.int 1)))) (dB (dBin (rEqq false) (dCall 2 (dFn 4 B_law_next_74a4) (dCons (dVar 0) (dCons (dC (.int 6)) (dNil)))) (dC (.int 0))))) (dRet (dCall 2 (dFn 5 B_law_domino_a8d9) (dCons (dVar 0) (dCons (dVar 2) (dNil))))) (dNext))
  (dSeq (dAsg (dCall 2 (dFn 3 B_law_begun_2a66) (dCons (dVar 0) (dCons (dVar 1) (dNil)))) (dgName 3))
  (dSeq (dFor (diRg1 (dCons (dCall 2 (dFn 4 B_law_next_74a4) (dCons (dVar 0) (dCons (dBin rAdd (dVar 2) (dC (.int 1))) (dNil)))) (dNil))) (dgName 4) (dAsg (dCall 2 (dFn 14 B_law_grown_680b) (dCons (dVar 0) (dCons (dVar 3) (dNil)))) (dgName 3)))
  (dRet (dBin rIxq (dVar 3) (dC (.int 0))))))
/-- _law_tops: 0 _law_rows 1 _law_lost_here 2 _law_process 3 _law_row -/
def B_law_tops_eaaa : DTS := dRet (dLc (diEnum (dCons (dVar 0) (dNil))) (dUnp 2 (dgCons (dgName 2) (dgCons (dgName 3) (dgNil)))) (dYes) (dBin rSub (dBin rAdd (dMtT mTcount (dVar 3) (dCons (dC (.int 0)) (dNil))) (dC (.int 1))) (dCB (rInt) (dCons (dBin (rInq false) (dVar 2) (dVar 1)) (dNil)))) [2, 3])
/-- _law_letters: 0 _law_rows 1 _law_found 2 _law_receiver 3 _law_row 4 _law_index 5 _law_event 6 _law_sender 7 _law_process -/
def B_law_letters_6581 : DTS := dSeq (dAsg (dLst (dNil)) (dgName 1))
  (dSeq (dFor (diEnum (dCons (dVar 0) (dNil))) (dUnp 2 (dgCons (dgName 2) (dgCons (dgName 3) (dgNil)))) (dFor (diEnum (dCons (dVar 3) (dNil))) (dUnp 2 (dgCons (dgName 4) (dgCons (dgName 5) (dgNil)))) (dIfS (dB (dBin (rCmp fun i j => decide (i < j)) (dVar 5) (dC (.int 0)))) (dSeq (dAsg (dBin rIxq (dLc (diRg1 (dCons (dCB (rLen) (dCons (dVar 0) (dNil))) (dNil))) (dgName 7) (dB (dBin (rInq false) (dBin rSub (dC (.int 0)) (dVar 5)) (dBin rIxq (dVar 0) (dVar 7)))) (dVar 7) [7]) (dC (.int 0))) (dgName 6))
  (dDrop (dMtq "list" mAppend (dVar 1) (dCons (dLst (dCons (dVar 6) (dCons (dMtT mTindex (dBin rIxq (dVar 0) (dVar 6)) (dCons (dBin rSub (dC (.int 0)) (dVar 5)) (dNil))) (dCons (dVar 2) (dCons (dVar 4) (dCons (dBin rSub (dC (.int 0)) (dVar 5)) (dNil))))))) (dNil))))) (dNext))))
  (dRet (dVar 1)))
/-- _law_spots: 0 _law_row 1 _law_index 2 _law_event -/
def B_law_spots_60b5 : DTS := dRet (dBin rAdd (dBin rAdd (dLst (dCons (dC (.int 0)) (dNil))) (dLc (diEnum (dCons (dVar 0) (dNil))) (dUnp 2 (dgCons (dgName 1) (dgCons (dgName 2) (dgNil)))) (dB (dBin (rEqq false) (dVar 2) (dC (.int 0)))) (dVar 1) [1, 2])) (dLst (dCons (dCB (rLen) (dCons (dVar 0) (dNil))) (dNil))))
end Sv
namespace Sv
open PySem PySem.Spec PyProof.Rows L2
section
variable {X : Cx} {a b c e o : Expr} {es : List Expr} {ta tb tc te : DTE} {tl : DTA} {pos p : Pos}
theorem de_ty {x : Str} {n : String} (hg : Gl X x) (hm : X.mg x = none) (hv : bootBuiltins x = some (.type n)) (hn : x ≠ "__name__" := by decide) (hdb : (x == ("__debug__" : Str)) = false := by decide) : DE X (.Name x pos) (dC (.ty n)) :=
  ⟨(pe_bltn (v := .ty n) hg hm hv rfl hn hdb).of fun σ H Q ⟨env, S, R, rs, q, k⟩ => k _ _ _ _ q rs.sto (.ty n) (.refl H)⟩
def tyD (S : Sto) : D → Option String
  | .non => some "NoneType"
  | .bl _ => some "bool"
  | .int _ => some "int"
  | .str _ => some "str"
  | .tup _ => some "tuple"
  | .wtup _ => some "tuple"
  | .rol _ => some "list"
  | .dct _ => some "dict"
  | .ref a => match S a with
    | some (.lst _) => some "list"
    | some (.dK _) => some "dict"
    | _ => none
  | _ => none
theorem ty_rel {K : KK} {S : Sto} {H : Hp} {d : D} {v : V} {t : String} (s : RelS K S H) (r : RD K H d v) (h : tyD S d = some t) : TyX K.k H v (.type t) := by
  cases r with
  | non => cases h; exact .base .non
  | bl b => cases h; exact .base (.bl b)
  | int i => cases h; exact .base (.int i)
  | str x => cases h; exact .base (.str x)
  | ty n => cases h
  | tup t _ =>
    cases h
    obtain ⟨o, t, _⟩ := t
    exact .fTuple t
  | wtup t _ => cases h; exact .base (.tup t)
  | rol t _ =>
    cases h
    rcases t with ⟨o, t⟩ | ⟨o, its, n, h1, h2, _⟩
    · exact .base (.frz t)
    · exact .kList h1 h2
  | dct t _ => cases h; exact .fDict t
  | ref a =>
    have h : (match S a with
      | some (.lst _) => some "list"
      | some (.dK _) => some "dict"
      | _ => none) = some t := h
    split at h
    · rename_i e
      cases h
      obtain ⟨vs, h1, _⟩ := s a _ e
      exact .base (.lst h1)
    · rename_i e
      cases h
      obtain ⟨vs, h1, _⟩ := s a _ e
      exact .base (.dK h1)
    · cases h
def rIsi : DRC := fun ds S R => ∃ d T t b, ds = [d, .ty T] ∧ tyD S d = some t ∧ kitB t T = some b ∧ R (.bl b) S
theorem b_isi : CallR X (.builtin "isinstance") (lC X.kk Sv.rIsi) := by
  intro pins s σ H vs us Q I r ⟨ds, S, R, r1, s1, ⟨d, T, t, b, hd, ht, hk, q⟩, k⟩
  subst hd
  obtain ⟨v, u, rfl, rv, ru⟩ := r1.inv2
  cases ru
  exact call_isi pins s σ H _ us Q I r ⟨v, .ty T, .type t, .type T, b, rfl, .ty T, ty_rel s1 rv ht, kit_ty hk, k _ _ _ _ q s1 (.bl _) (.refl H)⟩
theorem isi_ii : kitB "int" "int" = some true := by decide +kernel
theorem isi_ib : kitB "int" "bool" = some false := by decide +kernel
def dDNew : DTE := fun _ S R => ∀ p, S p = none → R (.ref p) (S.put p (.dK []))
theorem de_dnew : DE X (.Dict [] [] pos) dDNew := ⟨pe_dnewK.of fun σ H Q ⟨env, S, R, rs, q, k⟩ p np =>
  k _ _ _ _ (q p (rs.sto.fresh np)) (rs.sto.lay np ⟨_, upd_same, .nil⟩) (.ref p) (.new np)⟩
def rReprX : DRC := fun ds S R => (∃ b, ds = [.bl b] ∧ R (.str (if b = true then "True" else "False")) S) ∨ (ds = [.non] ∧ R (.str "None") S) ∨ rRepr ds S R
theorem b_reprX (hgd : X.A.guards = some []) (hu : X.A.units + 64 < cLine) : CallR X (.builtin "repr") (lC X.kk rReprX) := by
  intro pins s σ H vs us Q I r ⟨ds, S, R, r1, s1, h, k⟩
  rcases h with ⟨b, hd, q⟩ | ⟨hd, q⟩ | h
  · subst hd
    obtain ⟨v, rfl, rv⟩ := r1.inv1
    cases rv
    obtain ⟨u, rfl, ru⟩ := vals1 r
    cases ru
    exact PySem.P.repr_of_bool ⟨.str _, H, I.kept (t' := s.toks + 1) (fun b o e => e), ⟨_, rfl⟩, k _ _ _ _ q s1 (.str _) (.refl H)⟩
  · subst hd
    obtain ⟨v, rfl, rv⟩ := r1.inv1
    cases rv
    obtain ⟨u, rfl, ru⟩ := vals1 r
    cases ru
    exact PySem.P.repr_of_none ⟨.str _, H, I.kept (t' := s.toks + 1) (fun b o e => e), ⟨_, rfl⟩, k _ _ _ _ q s1 (.str _) (.refl H)⟩
  · exact b_repr hgd hu pins s σ H vs us Q I r ⟨ds, S, R, r1, s1, h, k⟩
end
end Sv
namespace Sv
open PySem PySem.Spec PyProof.Rows L2
section
variable {X : Cx} {a b c e o : Expr} {es : List Expr} {ta tb tc te : DTE} {tl : DTA} {pos p : Pos}
theorem Pys.len {S : Sto} : ∀ {ds : List D} {ps : List PyData}, Pys S ds ps → ds.length = ps.length
  | _, _, .nil => rfl
  | _, _, .cons _ t => by rw [List.length_cons, List.length_cons, Pys.len t]
end
end Sv
namespace Sv
open PySem L2
/-- is_number: 0 value -/
def B_is_number_52f5 : DTS := dRet (dAndV (dCB rIsi (dCons (dVar 0) (dCons (dC (.ty "int")) (dNil)))) (dNotV (dCB rIsi (dCons (dVar 0) (dCons (dC (.ty "bool")) (dNil))))))
end Sv
set_option maxHeartbeats 2000000
namespace Sv
open PySem PySem.Spec PyProof.Rows L2
section
variable {P : Program} {w : World} {K : PySem.W.Frag} {mg : Str → Option Value} {base : Heap}
/-- called with the keyword -/
def FnRW (P : Program) (w : World) (K : PySem.W.Frag) (mg : Str → Option Value) (base : Heap) (CX : CXT) (k : Nat) (f : Addr) (kn : Str) (sp : List V → V → Hp → VK → XK → Prop) : Prop :=
  ∀ (A : Around) (outer : List PySem.Env) (s : Shared) (H : Hp) (us : List Value) (u : Value) (vs : List V) (z : V) (Q : VK) (E : XK), Room k A → Env0 P w K mg base A outer s H → Vals vs us → RelV z u → sp vs z H Q E →
    codeAny (model P w) A (.call (.ref f) ⟨us, [(kn, u)]⟩) (CR CX outer P w H s Q E) s
abbrev DRK := List D → D → Sto → DK → Prop
def lK (K : KK) (r : DRK) : List V → V → Hp → VK → Prop := fun vs z H Q => ∃ ds e S R, RDs K H ds vs ∧ RD K H e z ∧ RelS K S H ∧ r ds e S R ∧ ∀ y S' v H', R y S' → RelS K S' H' → RD K H' y v → Ext H H' → Q v H'
/-- a def of the module with the keyword, by promise -/
structure DFw (P : Program) (w : World) (K : PySem.W.Frag) (mg : Str → Option Value) (base : Heap) (k : Nat) (x kn : Str) (r : DRK) : Prop where
  ex : ∃ f : Addr, FnRW P w K mg base CX0 k f kn (fun vs z H Q _ => lK ⟨P, w, K⟩ r vs z H Q) ∧ mg x = some (.ref f) ∧ PySem.W.keepIn K (.ref f) = true
theorem DFw.mk' {k : Nat} {x kn : Str} {r : DRK} {f : Addr} (F : FnRW P w K mg base CX0 k f kn (fun vs z H Q _ => lK ⟨P, w, K⟩ r vs z H Q)) (hm : mg x = some (.ref f)) (hk : PySem.W.keepIn K (.ref f) = true) : DFw P w K mg base k x kn r := ⟨f, F, hm, hk⟩
end
end Sv
set_option maxHeartbeats 1000000
set_option maxHeartbeats 800000
set_option autoImplicit false
set_option maxHeartbeats 1000000
set_option autoImplicit false
namespace PySem
open Sem (wp)
end PySem
set_option maxHeartbeats 1000000
set_option autoImplicit false
set_option maxHeartbeats 1000000
set_option autoImplicit false
set_option maxHeartbeats 1000000
set_option autoImplicit false
set_option maxHeartbeats 1000000
namespace Sv
open PySem
/-- an iterator of a list or of a tuple, as ka says -/
def ItM (ka : Addr → Bool) (h : Heap) (a l : Addr) (i : Nat) : Prop := (ka l = true ∧ h.IsListIter a l i) ∨ (ka l = false ∧ h.IsTupleIter a l i)
def SqM (ka : Addr → Bool) (h : Heap) (l : Addr) (xs : Array Value) : Prop := (ka l = true ∧ h.IsList l xs) ∨ (ka l = false ∧ h.IsTuple l xs)
theorem ItM.at {ka : Addr → Bool} {h h' : Heap} {a l : Addr} {i : Nat} (H : ItM ka h a l i) (e : ∀ o, h.get? a = some o → h'.get? a = some o) : ItM ka h' a l i := H.elim (fun x => .inl ⟨x.1, x.2.at e⟩) fun x => .inr ⟨x.1, x.2.at e⟩
theorem SqM.keep {ka : Addr → Bool} {h h' : Heap} {l : Addr} {xs : Array Value} (H : SqM ka h l xs) (e : ∀ o, h.get? l = some o → h'.get? l = some o) : SqM ka h' l xs := by
  rcases H with ⟨k, o, ho, r⟩ | ⟨k, o, ho, r⟩
  · exact .inl ⟨k, o, e o ho, r⟩
  · exact .inr ⟨k, o, e o ho, r⟩
end Sv
set_option maxHeartbeats 1000000
set_option autoImplicit false
set_option maxHeartbeats 1000000
set_option autoImplicit false
set_option maxHeartbeats 1000000
set_option autoImplicit false
namespace Sv
open PySem L2
/-- is_number_within: 0 value 1 low 2 high -/
def B_is_number_within_7f04 : DTS := dRet (dAndV (dCall 1 (dFn 1 B_is_number_52f5) (dCons (dVar 0) (dNil))) (dChain (rCmp fun i j => decide (i ≤ j)) (rCmp fun i j => decide (i ≤ j)) (dVar 1) (dVar 0) (dVar 2)))
/-- is_line: 0 history 1 value 2 presents 3 number 4 present -/
def B_is_line_5402 : DTS := dSeq (dIfS (dOr (dNot (dB (dCB rIsi (dCons (dVar 1) (dCons (dC (.ty "tuple")) (dNil)))))) (dB (dBin (rEqq true) (dCB (rLen) (dCons (dVar 1) (dNil))) (dCB (rLen) (dCons (dVar 0) (dNil)))))) (dRet (dC (.bl false))) (dNext))
  (dSeq (dAsg (dCall 1 (dFn 2 B_state_numbers_78d0) (dCons (dVar 0) (dNil))) (dgName 2))
  (dRet (dCB (rAnyq fun bs => bs.all id) (dCons (dLc (diZip (dCons (dVar 1) (dCons (dVar 2) (dNil)))) (dUnp 2 (dgCons (dgName 3) (dgCons (dgName 4) (dgNil)))) (dYes) (dCall 3 (dFn 3 B_is_number_within_7f04) (dCons (dVar 3) (dCons (dC (.int 0)) (dCons (dVar 4) (dNil))))) [3, 4]) (dNil)))))
/-- fall_holds: 0 history 1 failed 2 value -/
def B_fall_holds_03ce : DTS := dRet (dAndV (dCall 2 (dFn 5 B_is_line_5402) (dCons (dVar 0) (dCons (dVar 2) (dNil)))) (dBin (rEqq false) (dVar 2) (dCB (dFnS 1 5 B_fall_back_94df) (dCons (dVar 0) (dStarA (dVar 1) (dNil))))))
end Sv
set_option maxHeartbeats 800000
set_option autoImplicit false
set_option maxHeartbeats 800000
set_option autoImplicit false
namespace Sv
open PySem PySem.Spec PyProof.Rows L2
/-- what a generator def hands out -/
abbrev DRG := List D → Sto → (List D → Sto → Prop) → Prop
def lGf (K : KK) (n : Nat) (r : DRG) : SpG := fun vs H Q _ => vs.length = n ∧ ∃ ds S R, RDs K H ds vs ∧ RelS K S H ∧ r ds S R ∧ ∀ out S' ys H', R out S' → RDs K H' out ys → RelS K S' H' → Ext H H' → Q ys H'
section
variable {P : Program} {w : World} {K : PySem.W.Frag} {mg : Str → Option Value} {base : Heap}
structure DGo (P : Program) (w : World) (K : PySem.W.Frag) (mg : Str → Option Value) (base : Heap) (k : Nat) (x : Str) (n : Nat) (r : DRG) : Prop where
  ex : ∃ (f : Addr) (fd : FuncData) (ps : List Str), GFn P w K mg base k f fd ps (lGf ⟨P, w, K⟩ n r) ∧ mg x = some (.ref f) ∧ PySem.W.keepIn K (.ref f) = true ∧ Binds K fd ps []
theorem DGo.mk' {k n : Nat} {x : Str} {r : DRG} {f : Addr} {fd : FuncData} {ps : List Str} (F : GFn P w K mg base k f fd ps (lGf ⟨P, w, K⟩ n r)) (hm : mg x = some (.ref f)) (hk : PySem.W.keepIn K (.ref f) = true) (hb : Binds K fd ps []) : DGo P w K mg base k x n r :=
  ⟨f, fd, ps, F, hm, hk, hb⟩
end
end Sv
set_option autoImplicit false
namespace Sv
open PySem PySem.Spec PyProof.Rows L2 Sz
/-- it rests on its own object alone -/
def immO : HO → Bool
  | .tup _ => true
  | .tbl _ => true
  | .frz _ (.lst _) => true
  | .frz _ (.tup _) => true
  | .frz _ (.dK _) => true
  | _ => false
def keepO (u : HO) : Bool := immO u && (match u with | .tbl _ => false | _ => true)
def immH (H : Hp) : Hp := fun b => (H b).filter immO
/-- what is known and stays stays -/
def Ext3 (H H' : Hp) : Prop := ∀ b u, keepO u = true → H b = some u → H' b = some u
theorem Ext3.refl (H : Hp) : Ext3 H H := fun _ _ _ h => h
theorem Ext3.trans {H H1 H2 : Hp} (x : Ext3 H H1) (y : Ext3 H1 H2) : Ext3 H H2 := fun b u k h => y b u k (x b u k h)
theorem Ext3.of {H H' : Hp} (e : Ext H H') : Ext3 H H' := fun b u k h => by
  cases u with
  | tup xs => exact e.2 _ _ h
  | frz o u => exact e.1 _ _ _ h
  | _ => exact (nomatch (show false = true from k))
/-- one thing as it stands -/
abbrev asIs (b : Addr) (o : Obj) : HO := .frz o (.ext fun h => h.get? b = some o)
/-- a generator's call: what it runs, where its frame's dict stands -/
structure GP where
  P : Program
  w : World
  K : PySem.W.Frag
  mg : Str → Option Value
  base : Heap
  N : List Str
  qual : Str
  scope : Scope
  f : Addr
  cdv : Value
  L : Addr
  k : Nat
abbrev GP.kk (g : GP) : KK := ⟨g.P, g.w, g.K⟩
abbrev GP.env (g : GP) : PySem.Env := envOfC g.qual g.scope g.L g.f g.cdv
/-- a waking: around what, the frames that run, the state, the heap as it is known there, the generator's own things -/
structure Wk where
  A : Around
  outer : List PySem.Env
  s : Shared
  H : Hp
  fp : List Addr
def cutS (L : Nat) (s : Shared) : Shared := { s with heap := ⟨s.heap.objs.extract 0 L, s.heap.life⟩ }
/-- what the generator is given: what is known and stays; of all else above L only that it stands as it stands -/
def guardH (L : Addr) (w : Wk) : Hp := fun b => match immH w.H b with
  | some u => some u
  | none => if L ≤ b ∧ b ∉ w.fp then (w.s.heap.get? b).map (asIs b) else none
def GP.cx (g : GP) (w : Wk) : Cx := (cxOf CX0 g.P g.w g.K g.mg g.base g.N g.qual g.scope g.f g.cdv w.A w.outer (cutS g.L w.s) (guardH g.L w) (fun _ _ _ => False)).nox
structure En (g : GP) (w : Wk) : Prop where
  e0 : Env0 g.P g.w g.K g.mg g.base w.A w.outer w.s w.H
  room : Room g.k (w.A.deeper g.env)
  fr : ∀ b ∈ frs w.outer, b < g.L
  lt : g.L < w.s.heap.objs.size
  fpL : g.L ∈ w.fp
  fpH : ∀ b ∈ w.fp, w.H b = none ∧ g.L ≤ b
end Sv
set_option autoImplicit false
set_option autoImplicit false
namespace Sv
open PySem PySem.Spec PyProof.Rows L2 Sz
variable {g : GP} {w w' : Wk} {ip : List (Addr × Obj)} {σ : L2.St} {H : Hp} {s : Shared} {env : Env} {S : Sto}
structure AtG (g : GP) (w : Wk) (ip : List (Addr × Obj)) (σ : L2.St) (H : Hp) (s : Shared) (env : Env) (S : Sto) : Prop where
  en : En g w
  inv : Inv (g.cx w) ip σ H s
  dead : Dead w.s s
  rs : RS g.kk σ H env S
  ipok : ∀ p ∈ ip, g.L ≤ p.1
/-- what the others get of the generator's turn -/
structure ExitR (g : GP) (w : Wk) (s : Shared) (Hm : Hp) (fp : List Addr) : Prop where
  os : s.os = w.s.os
  bare : AllBare s.gens
  dead : Dead w.s s
  un : Un (frs w.outer) w.fp w.H Hm w.s.heap s.heap
  ok : HOk g.P g.w Hm s.heap
  ext : Ext w.H Hm
  rel : ∀ (K : KK) (S : Sto), RelS K S w.H → RelS K S Hm
  fp : ∀ b ∈ fp, g.L ≤ b ∧ Hm b = none ∧ (b ∈ w.fp ∨ w.s.heap.get? b = none) ∧ ∃ o, s.heap.get? b = some o ∧ ∀ v, o.data ≠ .cell v
end Sv
set_option maxHeartbeats 1000000
set_option autoImplicit false
namespace Sv
open PySem PySem.Spec PyProof.Rows L2 Sz GenW
/-- what one waking comes to: with n items to come -/
def PostN (g : GP) (out : List D) : Nat → Wk → PostG
  | 0, w => fun e s => e = .ret (.ok (.ret .none)) ∧ ∃ Hm, ExitR g w s Hm []
  | n + 1, w => fun e s => ∃ v gd l k c p fs, e = .susp v gd l k c p fs ∧ e.quiet = true ∧ ∃ d x Hm fp, out[out.length - (n + 1)]? = some d ∧ RelV x v ∧ RD g.kk Hm d x ∧ g.L ∈ fp ∧ ExitR g w s Hm fp ∧
      ∀ w' : Wk, w'.fp = fp → En g w' → (∀ b ∈ fp, ∀ o, s.heap.get? b = some o → w'.s.heap.get? b = some o) → Ext3 Hm w'.H → Sg (model g.P g.w) w'.A (PostN g out n w') c (k (.send .none)) fs w'.s
variable {g : GP} {out : List D} {st : Stmt} {rest : List Stmt} {pos : Pos}
theorem AtG.go {w : Wk} {ip : List (Addr × Obj)} {σ σ' : L2.St} {H H' : Hp} {s s' : Shared} {env env' : Env} {S S' : Sto} (A : AtG g w ip σ H s env S) (I : Inv (g.cx w) ip σ' H' s') (d : Dead s s') (r : RS g.kk σ' H' env' S') : AtG g w ip σ' H' s' env' S' :=
  ⟨A.en, I, A.dead.trans d, r, A.ipok⟩
end Sv
set_option maxHeartbeats 1000000
set_option autoImplicit false
set_option maxHeartbeats 1000000
set_option autoImplicit false
namespace Sv
open PySem PySem.Spec PyProof.Rows L2 Sz GenW
/-- it sleeps: n items are to come -/
structure Slp (g : GP) (out : List D) (n : Nat) (a : Addr) (gn : Nat) (fp : List Addr) (Hm : Hp) (s : Shared) : Prop where
  isg : s.heap.IsGen a gn
  anot : a ∉ fp
  fpL : g.L ∈ fp
  ex : ∀ b ∈ fp, g.L ≤ b ∧ ∃ o, s.heap.get? b = some o ∧ ∀ v, o.data ≠ .cell v
  rdy : ∃ gs, s.gens[gn]? = some gs ∧ (n < out.length → IsSusp gs) ∧ ∀ w' : Wk, w'.fp = fp → En g w' → (∀ b ∈ fp, ∀ o, s.heap.get? b = some o → w'.s.heap.get? b = some o) → Ext3 Hm w'.H → WkG (model g.P g.w) w'.A (PostN g out n w') gs (.send .none) w'.s
variable {g : GP} {out : List D} {n gn : Nat} {a : Addr} {fp : List Addr} {Hm : Hp} {X : Cx} {pins : List (Addr × Obj)} {σ : L2.St} {H : Hp} {s s' : Shared}
theorem Slp.keep (h : Slp g out n a gn fp Hm s) (hn : n < out.length) (k : ∀ b ∈ a :: fp, ∀ o, s.heap.get? b = some o → s'.heap.get? b = some o) (st : Stays s s') : Slp g out n a gn fp Hm s' := by
  obtain ⟨gs, h1, h2, h3⟩ := h.rdy
  refine ⟨?_, h.anot, h.fpL, fun b hb => ?_, gs, st gn gs h1 (h2 hn), h2, fun w' e E kk x => h3 w' e E (fun b hb o eo => kk b hb o (k b (List.mem_cons_of_mem _ hb) o eo)) x⟩
  · obtain ⟨o, nm, qn, ho, r⟩ := h.isg
    exact ⟨o, nm, qn, k a List.mem_cons_self o ho, r⟩
  · obtain ⟨h1, o, e, d⟩ := h.ex b hb
    exact ⟨h1, o, k b (List.mem_cons_of_mem _ hb) o e, d⟩
/-- the one who wakes it -/
structure Host (g : GP) (X : Cx) : Prop where
  P : g.P = X.prog
  w : g.w = X.w
  K : g.K = X.K
  mg : g.mg = X.mg
  base : g.base = X.base
  s0 : X.s_0.heap.objs.size ≤ g.L
  fr : ∀ b ∈ frs X.stack, b < g.L
  calm : X.calm = true
  room : Room (g.k + 2) X.A
/-- an around near by -/
structure Near (X : Cx) (A : Around) : Prop where
  hd : A.handled = none
  fr : A.frames = some X.stack
  dp : A.depth ≤ X.A.depth + 2
  un : A.units ≤ X.A.units + 16
theorem Slp.lt (h : Slp g out n a gn fp Hm s) : g.L < s.heap.objs.size := let ⟨_, o, e, _⟩ := h.ex g.L h.fpL; Heap.lt_size e
theorem Host.en {A : Around} (hx : Host g X) (nr : Near X A) (I : Inv X pins σ H s) (h : Slp g out n a gn fp Hm s) (hf : ∀ b ∈ a :: fp, FpOk X pins H b) : En g ⟨A.in1, X.stack, s.setGen gn .running, H, fp⟩ := by
  have e := I.env0
  have r := hx.room
  refine ⟨?_, ⟨nr.hd, ?_, ?_⟩, hx.fr, h.lt, h.fpL, fun b hb => ⟨(hf b (List.mem_cons_of_mem _ hb)).1, (h.ex b hb).1⟩⟩
  · rw [hx.P, hx.w, hx.K, hx.mg, hx.base]
    exact ⟨nr.fr, e.mod, e.bs, e.bsz, e.funs, e.frf, e.hok, allBare_setGen e.bare rfl⟩
  · have := r.dp
    have := nr.dp
    show A.depth + 1 + 3 * g.k + 5 < _
    omega
  · have := r.un
    have := nr.un
    show A.units + 1 + 3 + 16 * g.k + 200 < _
    omega
end Sv
set_option maxHeartbeats 1000000
set_option autoImplicit false
set_option maxHeartbeats 1000000
set_option autoImplicit false
set_option maxHeartbeats 1000000
set_option autoImplicit false
set_option maxHeartbeats 1000000
set_option autoImplicit false
set_option maxHeartbeats 800000
set_option autoImplicit false
set_option autoImplicit false
set_option autoImplicit false
set_option maxHeartbeats 4000000
set_option maxHeartbeats 1000000
set_option autoImplicit false
namespace Sv
open PySem L2
/-- _law_places: 0 _law_rows 1 _law_cut 2 _law_row 3 _law_number -/
def B_law_places_cc50 : DTS := dRet (dLc (diZipM (dCons (dVar 0) (dCons (dVar 1) (dNil)))) (dUnp 2 (dgCons (dgName 2) (dgCons (dgName 3) (dgNil)))) (dYes) (dBin rIxq (dCall 1 (dFn 3 B_law_spots_60b5) (dCons (dVar 2) (dNil))) (dVar 3)) [2, 3])
/-- _law_sunk: 0 _law_rows 1 _law_lost 2 _law_cut 3 _law_letters_here 4 _law_is_open 5 _law_spots_here 6 _law_sender 7 _law_start 8 _law_receiver 9 _law_finish 10 _law_message -/
def B_law_sunk_19fe : DTS := dSeq (dAsg (dTup (dCons (dCall 2 (dFn 4 B_law_tops_eaaa) (dCons (dVar 0) (dCons (dVar 1) (dNil)))) (dCons (dCall 1 (dFn 8 B_law_letters_6581) (dCons (dVar 0) (dNil))) (dCons (dC (.bl true)) (dNil))))) (dUnp 3 (dgCons (dgName 2) (dgCons (dgName 3) (dgCons (dgName 4) (dgNil))))))
  (dSeq (dWhile (dB (dVar 4)) (dSeq (dAsg (dTup (dCons (dC (.bl false)) (dCons (dCall 2 (dFn 4 B_law_places_cc50) (dCons (dVar 0) (dCons (dVar 2) (dNil)))) (dNil)))) (dUnp 2 (dgCons (dgName 4) (dgCons (dgName 5) (dgNil)))))
  (dFor (diVal (dVar 3)) (dUnp 5 (dgCons (dgName 6) (dgCons (dgName 7) (dgCons (dgName 8) (dgCons (dgName 9) (dgCons (dgName 10) (dgNil))))))) (dIfS (dAnd (dB (dBin (rCmp fun i j => decide (i < j)) (dVar 9) (dBin rIxq (dVar 5) (dVar 8)))) (dB (dBin (rCmp fun i j => decide (j ≤ i)) (dVar 7) (dBin rIxq (dVar 5) (dVar 6))))) (dSeq (dAsg (dCB (rMin2) (dCons (dBin rIxq (dVar 2) (dVar 8)) (dCons (dMtT mTcount (dSl (dBin rIxq (dVar 0) (dVar 8)) (dNoP) (dPart (dVar 9))) (dCons (dC (.int 0)) (dNil))) (dNil)))) (dSub (dVar 2) (dVar 8)))
  (dAsg (dC (.bl true)) (dgName 4))) (dNext)))))
  (dRet (dCB (rTupq) (dCons (dVar 2) (dNil)))))
end Sv
set_option maxHeartbeats 800000
set_option autoImplicit false
set_option maxHeartbeats 1000000
set_option autoImplicit false
set_option maxHeartbeats 1000000
set_option autoImplicit false
set_option maxHeartbeats 1000000
set_option autoImplicit false
namespace Sv
open PySem PySem.Spec PyProof.Rows L2 HT
section
variable {prog : Program} {w : World} {A : Around} {E : Value → Shared → Prop} {s : Shared}
theorem sliceApplied_rev {sl : Addr} {vl vu vs : Value} {n : Nat} {Q : Int × Int × Nat → Shared → Prop} (hs : s.heap.IsSliceOf sl vl vu vs) (pl : IsPart vl none) (pu : IsPart vu none) (ps : IsPart vs (some (-1)))
    (h : Q ((n : Int) - 1, -1, n) s) : wpAny (model prog w) A (Builtin.Slice.sliceApplied (.ref sl) (pure (n : Int))) Q E s := by
  obtain ⟨os, hos, hcs, hds⟩ := id hs
  unfold Builtin.Slice.sliceApplied Builtin.Slice.sliceFields
  refine wpAny_bind (wpAny_bind (wpAny_field hos hds (x := vl) rfl (wpAny_bind (wpAny_field hos hds (x := vu) rfl (wpAny_bind (wpAny_field hos hds (x := vs) rfl (wpAny_pure ?_)))))))
  refine wpAny_bind (slicePart_ ps ?_)
  show wpAny _ _ (if ((-1 : Int) == 0) = true then _ else _) _ _ s
  rw [if_neg (by decide)]
  refine wpAny_bind (slicePart_ pl (wpAny_bind (slicePart_ pu (wpAny_bind (wpAny_pure ?_)))))
  show wpAny _ _ (match Builtin.Slice.sliceAdjust none none (-1) (n : Int) with | (lo, hi) => pure (lo, (-1 : Int), Builtin.Slice.slicePlaces lo hi (-1))) _ _ s
  have e1 : Builtin.Slice.sliceAdjust none none (-1) (n : Int) = ((n : Int) - 1, -1) := by
    unfold Builtin.Slice.sliceAdjust
    simp
  have e2 : Builtin.Slice.slicePlaces ((n : Int) - 1) (-1) (-1) = n := by
    unfold Builtin.Slice.slicePlaces
    simp
    omega
  rw [e1]
  show wpAny _ _ (pure ((n : Int) - 1, (-1 : Int), Builtin.Slice.slicePlaces ((n : Int) - 1) (-1) (-1))) _ _ s
  rw [e2]
  exact wpAny_pure h
theorem fm_congr {α β : Type} {f g : α → Option β} : ∀ {L : List α}, (∀ x ∈ L, f x = g x) → L.filterMap f = L.filterMap g
  | [], _ => rfl
  | x :: L, h => by
    have ih := fm_congr (L := L) fun y hy => h y (List.mem_cons_of_mem _ hy)
    rw [List.filterMap_cons, List.filterMap_cons, h x List.mem_cons_self, ih]
theorem fm_all {α : Type} : ∀ (k : Nat) (L M : List α), M.length = k → (List.range L.length).filterMap (fun m => (L ++ M)[m]?) = L
  | k, [], M, _ => rfl
  | k, a :: L, M, hM => by
    rw [List.length_cons, List.range_succ_eq_map, List.filterMap_cons]
    show a :: ((List.range L.length).map Nat.succ).filterMap (fun m => (a :: L ++ M)[m]?) = a :: L
    rw [List.filterMap_map]
    congr 1
    exact fm_all k L M hM
theorem pick_rev (xs : Array Value) : ((List.range xs.size).filterMap fun (m : Nat) => xs[(((xs.size : Int) - 1) + (m : Int) * (-1)).toNat]?).toArray = xs.toList.reverse.toArray := by
  congr 1
  have hl : xs.toList.reverse.length = xs.size := by rw [List.length_reverse, Array.length_toList]
  have e : (List.range xs.size).filterMap (fun (m : Nat) => xs[(((xs.size : Int) - 1) + (m : Int) * (-1)).toNat]?) = (List.range xs.size).filterMap fun m => (xs.toList.reverse ++ [])[m]? := fm_congr fun m hm => by
    have hm := List.mem_range.mp hm
    have h1 : (((xs.size : Int) - 1) + (m : Int) * (-1)).toNat = xs.size - 1 - m := by omega
    rw [h1, List.append_nil, List.getElem?_reverse (by rw [Array.length_toList]; exact hm), Array.length_toList, Array.getElem?_toList]
  rw [e, ← hl]
  exact fm_all 0 _ [] rfl
theorem getItem_tuple_rev {t sl : Addr} {items : Array Value} {vl vu vs : Value} {Q : Value → Shared → Prop} (ht : IsTup s.heap t items) (hs : s.heap.IsSliceOf sl vl vu vs) (pl : IsPart vl none) (pu : IsPart vu none) (ps : IsPart vs (some (-1)))
    (h : Q (.ref s.heap.objs.size) { s with heap := s.heap.push { cls := .type "tuple", data := .seq items.toList.reverse.toArray } }) (hsz : items.size ≤ sizeLine) : wpAny (model prog w) A (getItem (.ref t) (.ref sl)) Q E s := by
  have htake : sizeOk (.seq items.toList.reverse.toArray) := by
    show items.toList.reverse.toArray.size ≤ sizeLine
    rw [List.size_toArray, List.length_reverse, Array.length_toList]
    exact hsz
  obtain ⟨os, hos, hcs, hds⟩ := id hs
  have hTs : s.TypeIs (.ref sl) "slice" := ⟨os, hos, hcs⟩
  unfold getItem
  try with_reducible refine wpAny_holding ?_
  first | refine wpAny_bind (wpAny_pure ?_) | skip
  refine wpAny_bind (wpAny_sequenceKey ht.typeIs (by decide) ?_)
  refine wpAny_bind (wpAny_callSpecial?_slot (name := Str.ofString "__getitem__") ht.typeIs PyProof.Rows.slot_tuple_getitem
    (wpAny_call_entry PyProof.Rows.slot_tuple_getitem ht.typeIs entry_tuple_getitem ?_ (args_tuple_getitem _ _)))
  show wpAny _ _ (Builtin.Tuple.tupleItemsOf (.ref t) >>= _) _ _ s
  refine wpAny_bind (tupleItemsOf_ ht ?_)
  refine wpAny_bind (wpAny_typeOf hTs ?_)
  rw [if_pos (by decide)]
  refine wpAny_bind (sliceApplied_rev hs pl pu ps ?_)
  have hno : ¬ (((((items.size : Int) - 1)) == 0 && (-1 : Int) == 1 && items.size == items.size) = true) := by
    intro q
    rw [Bool.and_eq_true, Bool.and_eq_true] at q
    have q1 : (-1 : Int) = 1 := eq_of_beq q.1.2
    omega
  show wpAny _ _ (if ((((items.size : Int) - 1)) == 0 && (-1 : Int) == 1 && items.size == items.size) = true then _ else _) _ _ s
  rw [if_neg hno, pick_rev]
  first
    | exact wpAny_bind (m := Builtin.Tuple.tupleExact _) (wpAny_newObj_type (wpAny_pure ⟨_, rfl, wpAny_pure h⟩) htake)
    | exact wpAny_bind (m := Builtin.Tuple.tupleExact _) (wpAny_newObj_type (wpAny_bind (wpAny_pure (wpAny_pure ⟨_, rfl, wpAny_pure h⟩))) htake)
    | exact wpAny_bind (wpAny_bind (m := Builtin.Tuple.tupleExact _) (wpAny_newObj_type (wpAny_pure (wpAny_pure ⟨_, rfl, wpAny_pure h⟩)) htake))
    | exact wpAny_bind (wpAny_bind (m := Builtin.Tuple.tupleExact _) (wpAny_newObj_type (wpAny_pure ⟨_, rfl, wpAny_pure h⟩) htake))
end
/-- t[::-1], t a tuple -/
def dRev (te : DTE) : DTE := fun env S R => te env S fun d S1 => ∃ ds, d = .tup ds ∧ R (.tup ds.reverse) S1
theorem rds_rev {K : KK} {H : Hp} : ∀ {ds : List D} {vs : List V}, RDs K H ds vs → RDs K H ds.reverse vs.reverse
  | [], _, .nil => .nil
  | d :: ds, _, .cons r rs => by
    rw [List.reverse_cons, List.reverse_cons]
    exact (rds_rev rs).append (.cons r .nil)
theorem de_revT {X : Cx} {e : Expr} {te : DTE} {k : Nat} {p1 p2 p3 pos : Pos} (he : DE X e te) : DE X (.Subscript e (.Slice none none (some (.UnaryOp .USub (.Constant (.int 1) k p1) p2)) p3) pos) (dRev te) := by
  refine ⟨⟨fun pins s σ H Q I ⟨env, S, R, rs, hq, kk⟩ => ?_⟩⟩
  refine Subscript_ (thn (he.run.run pins s σ H (fun x H1 => ∃ a xs, x = .ref a ∧ TupN H1 a xs ∧ ∀ p o, H1 p = none → o.dict = none → Q (.ref p) (upd H1 p (.frz o (.tup xs.reverse)))) I ⟨env, S, _, rs, hq, fun d S1 v H1 ⟨ds, hd, q⟩ s1 r1 e1 => ?_⟩) fun v s1 ⟨x, H1, I1, r1, q1⟩ => ?_)
  · subst hd
    cases r1 with
    | @tup a _ xs ht hr => exact ⟨a, xs, rfl, ht, fun p o np ho => kk _ _ _ _ q (s1.new np) (.tup ⟨o, upd_same, ho⟩ ((rds_rev hr).ext (.new np))) (e1.trans (.new np))⟩
  obtain ⟨a, xs, ex, hx, q⟩ := q1
  subst ex
  cases r1
  have hst : PO X (some (.UnaryOp .USub (.Constant (.int 1) k p1) p2)) (tPart (tUn (rU fun i => .int (-i)) (tC (.int 1)))) := po_some (pe_un un_neg pe_int)
  refine wpAny_Slice (thn (po_none.run pins s1 σ H1 (fun o H2 => o = none ∧ H2 = H1) I1 ⟨rfl, rfl⟩) fun vl s2 ⟨l, H2, I2, pl, el, e2⟩ => ?_)
  subst el e2
  refine thn (po_none.run pins s2 σ H2 (fun o H3 => o = none ∧ H3 = H2) I2 ⟨rfl, rfl⟩) fun vu s3 ⟨u, H3, I3, pu, eu, e3⟩ => ?_
  subst eu e3
  refine thn (hst.run pins s3 σ H3 (fun o H4 => o = some (-1) ∧ H4 = H3) I3 ⟨1, rfl, -1, rfl, rfl, rfl⟩) fun vs s4 ⟨o, H4, I4, ps, eo, e4⟩ => ?_
  subst eo e4
  have I5 : Inv X pins σ H4 { s4 with heap := s4.heap.push { cls := .type "slice", data := .fields #[vl, vu, vs] } } := I4.kept (t' := s4.toks) fun b ob q => Heap.get?_push_of_some _ q
  obtain ⟨its, r, ht, hz⟩ := I5.tuple (hx.sqT (K := X.K))
  show wpAny (model X.prog X.w) X.A (subscriptTail e (.Slice none none (some (.UnaryOp .USub (.Constant (.int 1) k p1) p2)) p3) (.ref a) (.ref s4.heap.objs.size)) (EP X pins σ Q) X.xe { s4 with heap := s4.heap.push { cls := .type "slice", data := .fields #[vl, vu, vs] } }
  refine tail_any (ops := [.ref a, .ref s4.heap.objs.size]) ht.typeIs (PyProof.Rows.slot_tuple_getitem.lookup) ?_ (by with_unfolding_all rfl)
  refine getItem_tuple_rev ht (Heap.IsSliceOf.new _ vl vu vs) pl pu ps ?_ (by rw [List.size_toArray, ← r.length]; exact hz)
  have hg := Heap.get?_push_size (s4.heap.push { cls := .type "slice", data := .fields #[vl, vu, vs] }) (o := { cls := .type "tuple", data := .seq its.toArray.toList.reverse.toArray }) rfl
  refine ⟨.ref _, _, I5.laid (t' := s4.toks) (o := .frz { cls := .type "tuple", data := .seq its.toArray.toList.reverse.toArray } (.tup xs.reverse)) (fun b ob q => Heap.get?_push_of_some _ q) (Nat.le_refl _) ?_, rfl, q _ _ (I5.hok.fresh (Nat.le_refl _)) rfl⟩
  exact ⟨hg, by rw [List.length_reverse]; exact hz, _, r.reverse, ⟨_, hg, rfl, _, rfl⟩⟩
end Sv
set_option maxHeartbeats 1000000
set_option autoImplicit false
namespace Sv
open PySem PySem.Spec PyProof.Rows L2 HT
section
variable {X : Cx} {ek ev : Expr} {ty tv : DTE} {pos : Pos}
def dDisp1 (ty tv : DTE) : DTE := fun env S R => ∀ p, S p = none → ty env (S.put p (.dK [])) fun y S1 => tv env S1 fun v S2 => ∃ k, y = kD k ∧ S2 p = some (.dK []) ∧ R (.ref p) (S2.put p (.dK [(k, v)]))
theorem de_disp1 (hk : DE X ek ty) (hv : DE X ev tv) : DE X (.Dict [some ek] [ev] pos) (dDisp1 ty tv) := by
  refine ⟨(pe_disp (pps_cons hk.run hv.run pps_nil) rfl rfl (by simp) (by simp)).of fun σ H Q ⟨env, S, R, rs, q, k⟩ p np => ?_⟩
  have e0 : Ext H (upd H p (.dK [])) := .new np
  have s0 := rs.sto.lay np (o := .dK []) ⟨_, upd_same, .nil⟩
  refine ⟨env, S.put p (.dK []), _, rs.ext e0 s0, q p (rs.sto.fresh np), fun y S1 x H1 q1 s1 r1 e1 => ⟨env, S1, _, rs.ext (e0.trans e1) s1, q1, fun v S2 u H2 ⟨kk, hy, hp, q2⟩ s2 r2 e2 => ?_⟩⟩
  subst hy
  cases kD_inv r1
  obtain ⟨vs, h3, h4⟩ := s2 p _ hp
  cases h4
  have e3 : Ext H2 (upd H2 p (.dK [(kk, u)])) := .put h3 trivial
  exact ⟨h3, [(kk, u)], rfl, by simp, k _ _ _ _ q2 (s2.put (o := .dK [(kk, v)]) h3 trivial ⟨_, upd_same, .cons (r2.ext e3) .nil⟩) (.ref p) (e0.trans (e1.trans (e2.trans e3)))⟩
def rStr : DRC := fun ds S R => ∃ d, ds = [d] ∧ match d with
  | .int i => i.natAbs.log2 < 1920 ∧ R (.str (toString i)) S
  | .bl b => R (.str (if b then "True" else "False")) S
  | .non => R (.str "None") S
  | _ => False
theorem b_str : CallR X (.type "str") (lC X.kk rStr) := by
  intro pins s σ H vs us Q I r ⟨ds, S, R, r1, s1, ⟨d, hd, q⟩, k⟩
  subst hd
  obtain ⟨v, rfl, rv⟩ := r1.inv1
  cases rv with
  | int i => exact call_str_int pins s σ H _ us Q I r ⟨i, rfl, q.1, k _ _ _ _ q.2 s1 (.str _) (.refl H)⟩
  | bl b =>
    obtain ⟨u, rfl, t, rfl⟩ := vals1 r
    exact PySem.P.str_of_bool ⟨.str _, H, I.tok _, ⟨_, rfl⟩, k _ _ _ _ q s1 (.str _) (.refl H)⟩
  | non =>
    obtain ⟨u, rfl, r1⟩ := vals1 r
    cases r1
    exact PySem.P.str_of_none ⟨.str _, H, I.tok _, ⟨_, rfl⟩, k _ _ _ _ q s1 (.str _) (.refl H)⟩
  | _ => exact q.elim
end
section
variable {P : Program} {w : World} {K : PySem.W.Frag} {mg : Str → Option Value} {base : Heap}
/-- a def that is not called: where the calls of a def by itself end -/
def dStop : DTS := fun _ _ _ => False
theorem fn_stop {x : Str} {st : Stmt} {f : Addr} {fd : FuncData} {N ps : List Str} {k n : Nat} (F : Fun K x x st f fd) (Sc : FnScope N ps (defScope st)) (hn : ps.length = n) : FnOk P w K mg base CX0 (k + 1) f fd ps (lP ⟨P, w, K⟩ n (dFn N.length dStop)) :=
by
  refine F.ok Sc (fun vs H Q E h => by rw [hn]; exact h.1) fun cdv A outer s H vs Q E hr h => ?_
  obtain ⟨_, ds, S, R, r, s1, q, k⟩ := h
  exact q.elim
end
end Sv
namespace Sv
open PySem L2
/-- _law_odd: 0 _law_deck_here 1 _law_some -/
def B_law_odd_0e8b : DTS := dSeq (dAsg (dLst (dCons (dC .non) (dCons (dC (.bl true)) (dCons (dC (.bl false)) (dCons (dC (.int 0)) (dCons (dC (.int 1)) (dCons (dUn rNeg (dC (.int 1))) (dCons (dBin rPow (dC (.int 10)) (dC (.int 29))) (dCons (dC (.str "")) (dCons (dC (.str "0")) (dCons (dTup (dNil)) (dCons (dTup (dCons (dC (.int 0)) (dNil))) (dCons (dTup (dCons (dC (.int 1)) (dNil))) (dCons (dTup (dCons (dC (.bl true)) (dNil))) (dCons (dLst (dNil)) (dCons (dLst (dCons (dC (.int 0)) (dNil))) (dCons (dDNew) (dCons (dDisp1 (dC (.str "a")) (dC (.int 1))) (dCons (dTup (dCons (dTup (dCons (dC (.int 0)) (dNil))) (dNil))) (dNil)))))))))))))))))))) (dgName 1))
  (dRet (dBin rIxq (dVar 1) (dCall 2 (dFn 4 B_law_next_74a4) (dCons (dVar 0) (dCons (dC (.int 18)) (dNil))))))
/-- _law_changed: 0 _law_deck_here 1 _law_value 2 _law_at 3 _law_way -/
def Bs_law_changed_f68e (self : DTS) : DTS := dSeq (dIfS (dAnd (dB (dCB rIsi (dCons (dVar 1) (dCons (dC (.ty "tuple")) (dNil))))) (dAnd (dB (dBin (rEqq true) (dVar 1) (dTup (dNil)))) (dB (dBin (rCmp fun i j => decide (j < i)) (dCall 2 (dFn 4 B_law_next_74a4) (dCons (dVar 0) (dCons (dC (.int 4)) (dNil)))) (dC (.int 0)))))) (dSeq (dAsg (dCall 2 (dFn 4 B_law_next_74a4) (dCons (dVar 0) (dCons (dCB (rLen) (dCons (dVar 1) (dNil))) (dNil)))) (dgName 2))
  (dRet (dBin rAdd (dBin rAdd (dSl (dVar 1) (dNoP) (dPart (dVar 2))) (dTup (dCons (dCall 2 (dFn 4 self) (dCons (dVar 0) (dCons (dBin rIxq (dVar 1) (dVar 2)) (dNil)))) (dNil)))) (dSl (dVar 1) (dPart (dBin rAdd (dVar 2) (dC (.int 1)))) (dNoP))))) (dNext))
  (dSeq (dAsg (dCall 2 (dFn 4 B_law_next_74a4) (dCons (dVar 0) (dCons (dC (.int 6)) (dNil)))) (dgName 3))
  (dSeq (dIfS (dAnd (dB (dCB rIsi (dCons (dVar 1) (dCons (dC (.ty "tuple")) (dNil))))) (dB (dBin (rCmp fun i j => decide (i < j)) (dVar 3) (dC (.int 5))))) (dRet (dBin rIxq (dLst (dCons (dSl (dVar 1) (dNoP) (dPart (dUn rNeg (dC (.int 1))))) (dCons (dBin rAdd (dVar 1) (dSl (dVar 1) (dPart (dUn rNeg (dC (.int 1)))) (dNoP))) (dCons (dCB (rListq) (dCons (dVar 1) (dNil))) (dCons (dRev (dVar 1)) (dCons (dBin rAdd (dVar 1) (dTup (dCons (dC (.int 0)) (dNil)))) (dNil))))))) (dVar 3))) (dNext))
  (dSeq (dIfS (dAnd (dB (dCB rIsi (dCons (dVar 1) (dCons (dC (.ty "int")) (dNil))))) (dAnd (dNot (dB (dCB rIsi (dCons (dVar 1) (dCons (dC (.ty "bool")) (dNil)))))) (dB (dBin (rCmp fun i j => decide (i < j)) (dVar 3) (dC (.int 5)))))) (dRet (dBin rIxq (dLst (dCons (dBin rAdd (dVar 1) (dC (.int 1))) (dCons (dBin rSub (dVar 1) (dC (.int 1))) (dCons (dBin (rEqq false) (dVar 1) (dC (.int 1))) (dCons (dCB (rStr) (dCons (dVar 1) (dNil))) (dCons (dC (.int 0)) (dNil))))))) (dVar 3))) (dNext))
  (dRet (dCall 1 (dFn 2 B_law_odd_0e8b) (dCons (dVar 0) (dNil)))))))
def B_law_changed_f68e : DTS := Bs_law_changed_f68e (Bs_law_changed_f68e dStop)
/-- _law_values: 0 _law_deck_here 1 _law_rows 2 _law_lost_here 3 _law_due 4 _law_lower 5 _law_found 6 _law_number 7 _law_k -/
def B_law_values_3d8f : DTS := dSeq (dAsg (dCB (rTupq) (dCons (dLc (diVal (dVar 3)) (dgName 6) (dYes) (dCall 2 (dFn 4 B_law_next_74a4) (dCons (dVar 0) (dCons (dBin rAdd (dVar 6) (dC (.int 1))) (dNil)))) [6]) (dNil))) (dgName 4))
  (dSeq (dAsg (dLst (dCons (dVar 3) (dCons (dCB (rTupq) (dCons (dCall 2 (dFn 4 B_law_tops_eaaa) (dCons (dVar 1) (dCons (dTup (dNil)) (dNil)))) (dNil))) (dCons (dCB (rTupq) (dCons (dCall 2 (dFn 4 B_law_tops_eaaa) (dCons (dVar 1) (dCons (dVar 2) (dNil)))) (dNil))) (dCons (dBin rMul (dTup (dCons (dC (.int 0)) (dNil))) (dCB (rLen) (dCons (dVar 1) (dNil)))) (dCons (dVar 4) (dCons (dCB (rListq) (dCons (dVar 3) (dNil))) (dNil)))))))) (dgName 5))
  (dSeq (dAsg (dBin rAdd (dVar 5) (dLst (dCons (dCall 2 (dFn 11 B_law_sunk_19fe) (dCons (dVar 1) (dCons (dBin rAdd (dVar 2) (dTup (dCons (dCall 2 (dFn 4 B_law_next_74a4) (dCons (dVar 0) (dCons (dCB (rLen) (dCons (dVar 1) (dNil))) (dNil)))) (dNil)))) (dNil)))) (dCons (dRev (dVar 3)) (dCons (dCall 1 (dFn 2 B_law_odd_0e8b) (dCons (dVar 0) (dNil))) (dNil)))))) (dgName 5))
  (dRet (dBin rAdd (dVar 5) (dLc (diRg1 (dCons (dC (.int 6)) (dNil))) (dgName 7) (dYes) (dCall 2 (dFn 4 B_law_changed_f68e) (dCons (dVar 0) (dCons (dVar 3) (dNil)))) [7])))))
end Sv
set_option autoImplicit false
namespace Sv
open PySem PySem.Spec PyProof.Rows L2
def PEA (X : Cx) (b0 : List Stmt) (e : Expr) (t : TE) : Prop := ∀ (pins : List (Addr × Obj)) (s : Shared) (σ : L2.St) (H : Hp) (Q : VK), Inv X pins σ H s → t σ H Q → _root_.PySem.wpAt (model X.prog X.w) X.A (.func b0 X.env) (eval e X.env) (EP X pins σ Q) X.xe s
def PSA (X : Cx) (b0 : List Stmt) (st : Stmt) (t : TS) : Prop := ∀ (pins : List (Addr × Obj)) (s : Shared) (σ : L2.St) (H : Hp) (D : Ends), Inv X pins σ H s → t D σ H → _root_.PySem.wpAt (model X.prog X.w) X.A (.func b0 X.env) (exec st X.env) (SP X pins D) X.xe s
def PSsA (X : Cx) (b0 : List Stmt) (st : List Stmt) (t : TS) : Prop := ∀ (pins : List (Addr × Obj)) (s : Shared) (σ : L2.St) (H : Hp) (D : Ends), Inv X pins σ H s → t D σ H → _root_.PySem.wpAt (model X.prog X.w) X.A (.func b0 X.env) (execs st X.env) (SP X pins D) X.xe s
/-- what it says of an object's class C, for the name m: the def at f2 -/
structure SupM (K : PySem.W.Frag) (D C : Addr) (m : Str) (f2 : Addr) : Prop where
  sub : PySem.W.mroIn K C (.ref D) = some true
  sup : PySem.W.ks_superIn K C D m = some (some (.ref f2))
  ty : PySem.W.typeIn K (.ref f2) = some (.type "function")
  op : PySem.W.nsIn K cStatics "thirdparty.any" = some none
  fi : PySem.W.fnIn K f2 = true
  nm : (m == ("__class__" : Str)) = false
abbrev nfS (x qual : Str) (st : Stmt) (cda cc : Addr) : NdefX.NF := ⟨x, qual, defArgs st, defBody st, defScope st, [("__class__", cc)], cda⟩
theorem _root_.Sv.PSsA.nox {X : Cx} {b0 sts : List Stmt} {t : TS} (h : PSsA X.nox b0 sts t) : PSsA X b0 sts t := fun pins s σ H D I hw =>
  ks_wpAt_mono (h pins s σ H D (I.wish _) hw) (fun f s' hq => by
    cases f with
    | next => obtain ⟨σ', H', I', q⟩ := hq; exact ⟨σ', H', I'.wish _, q⟩
    | brk => obtain ⟨σ', H', I', q⟩ := hq; exact ⟨σ', H', I'.wish _, q⟩
    | cont => obtain ⟨σ', H', I', q⟩ := hq; exact ⟨σ', H', I'.wish _, q⟩
    | ret u => obtain ⟨v, σ', H', I', r, q⟩ := hq; exact ⟨v, σ', H', I'.wish _, r, q⟩) fun _ _ z => z.elim
section
variable {X : Cx} {b0 : List Stmt} {st : Stmt} {rest : List Stmt} {t u : DTS} {e : Expr} {te : DTE} {pos : Pos}
theorem _root_.Sv.PEA.of {e : Expr} {t t' : TE} (h : PEA X b0 e t) (q : ∀ σ H Q, t' σ H Q → t σ H Q) : PEA X b0 e t' := fun pins s σ H Q I w => h pins s σ H Q I (q σ H Q w)
theorem _root_.Sv.PSA.of {e : Stmt} {t t' : TS} (h : PSA X b0 e t) (q : ∀ σ H Q, t' Q σ H → t Q σ H) : PSA X b0 e t' := fun pins s σ H Q I w => h pins s σ H Q I (q σ H Q w)
theorem _root_.Sv.PSsA.of {e : List Stmt} {t t' : TS} (h : PSsA X b0 e t) (q : ∀ σ H Q, t' Q σ H → t Q σ H) : PSsA X b0 e t' := fun pins s σ H Q I w => h pins s σ H Q I (q σ H Q w)
structure DSup (P : Program) (w : World) (K : PySem.W.Frag) (mg : Str → Option Value) (base : Heap) (k : Nat) (D : Addr) (cn m : Str) (n : Nat) (r : DRC) : Prop where
  ex : ∃ C f2, ClsAt K cn C ∧ SupM K D C m f2 ∧ FnR P w K mg base CX0 k f2 (lP ⟨P, w, K⟩ n r)
theorem DSup.mono {P : Program} {w : World} {K : PySem.W.Frag} {mg : Str → Option Value} {base : Heap} {j k n : Nat} {D : Addr} {cn m : Str} {r : DRC} (d : DSup P w K mg base j D cn m n r) (h : j ≤ k) : DSup P w K mg base k D cn m n r := by
  obtain ⟨C, f, h1, h2, h4⟩ := d.ex
  exact ⟨C, f, h1, h2, h4.mono h⟩
end
end Sv
set_option autoImplicit false
namespace Sv
open PySem PySem.Spec PyProof.Rows L2
section facts
variable (P : Program) (w : World) (K : PySem.W.Frag) (mg : Str → Option Value) (base : Heap)
/-- the field f of the class cn -/
structure ClsF (cn f : Str) : Prop where
  ex : ∃ C, ClsAt K cn C ∧ Cls K C ∧ NoAttr K C f
/-- the method m of the class cn, n values with the object -/
structure DMet (k : Nat) (cn m : Str) (n : Nat) (r : DRC) : Prop where
  ex : ∃ C f, ClsAt K cn C ∧ Cls K C ∧ Meth K C m f ∧ FnR P w K mg base CX0 k f (lP ⟨P, w, K⟩ n r)
/-- the class cn can be made -/
structure DMk (k : Nat) (cn : Str) (n : Nat) (r : DRC) : Prop where
  ex : ∃ C f, ClsAt K cn C ∧ Mk K C f ∧ mg cn = some (.ref C) ∧ FnR P w K mg base CX0 k f (lP ⟨P, w, K⟩ n r)
/-- a property -/
structure DPr (k : Nat) (cn f : Str) (r : DRC) : Prop where
  ex : ∃ C p g fd ps, ClsAt K cn C ∧ Cls K C ∧ PropOf K C f p g ∧ FnOk P w K mg base CX0 k g fd ps (lP ⟨P, w, K⟩ 1 r) ∧ Binds K fd ps []
/-- a class's constant, a text -/
structure DCv (cn f x : Str) : Prop where
  ex : ∃ C mc u, mg cn = some (.ref C) ∧ ClX.CRead K C mc ∧ ClX.CVal K C mc f (.str x) u
/-- .. read through an instance -/
structure DCi (cn f x : Str) : Prop where
  ex : ∃ C u, ClsAt K cn C ∧ Cls K C ∧ Con K C f (.str x) u
structure IsOk (C : Addr) : Prop where
  ha : PySem.W.findIn K (.ref C) "__class__" = some (some (.builtin "object.__class__"))
  hn : PySem.W.specialIn K (.builtin "object.__class__") "__get__" = some (some (.builtin "getset_descriptor.__get__"))
  htk : PySem.W.takesIn K (.builtin "object.__class__") = some true
  hm : PySem.W.mroIn K C (.type "object") = some true
/-- whether an instance of cn is one of dn -/
structure DIs (cn dn : Str) (b : Bool) : Prop where
  ex : ∃ C Dd, ClsAt K cn C ∧ Cls K C ∧ IsOk K C ∧ mg dn = some (.ref Dd) ∧ PySem.W.kitOne K (.ref C) (.ref Dd) = some b
end facts
theorem DMet.mono {P : Program} {w : World} {K : PySem.W.Frag} {mg : Str → Option Value} {base : Heap} {j k n : Nat} {cn m : Str} {r : DRC} (d : DMet P w K mg base j cn m n r) (h : j ≤ k) : DMet P w K mg base k cn m n r := by
  obtain ⟨C, f, h1, h2, h3, h4⟩ := d.ex
  exact ⟨C, f, h1, h2, h3, h4.mono h⟩
theorem DPr.mono {P : Program} {w : World} {K : PySem.W.Frag} {mg : Str → Option Value} {base : Heap} {j k : Nat} {cn m : Str} {r : DRC} (d : DPr P w K mg base j cn m r) (h : j ≤ k) : DPr P w K mg base k cn m r := by
  obtain ⟨C, p, g, fd, ps, h1, h2, h3, h4, h5⟩ := d.ex
  exact ⟨C, p, g, fd, ps, h1, h2, h3, h4.mono h, h5⟩
theorem fnr_of {P : Program} {w : World} {K : PySem.W.Frag} {mg : Str → Option Value} {base : Heap} {k n : Nat} {f : Addr} {fd : FuncData} {ps : List Str} {r : DRC} (F : FnOk P w K mg base CX0 k f fd ps (lP ⟨P, w, K⟩ n r)) (hb : Binds K fd ps []) : FnR P w K mg base CX0 k f (lP ⟨P, w, K⟩ n r) :=
  (F.raw hb .nil).imp fun vs H Q E h => by rw [List.append_nil]; exact h
section
variable {P : Program} {w : World} {K : PySem.W.Frag} {mg : Str → Option Value} {base : Heap} {k n : Nat} {cn dn m f x : Str} {C Dd fa p : Addr} {fd : FuncData} {ps : List Str} {r : DRC}
theorem DMet.of (hC : PySem.W.nsIn K mainGlobals cn = some (some (.ref C))) (c : Cls K C) (ha : PySem.W.findIn K (.ref C) m = some (some (.ref fa))) (hf : PySem.W.isFn K (.ref fa) = true) (hk : PySem.W.keepIn K (.ref fa) = true)
    (F : FnOk P w K mg base CX0 k fa fd ps (lP ⟨P, w, K⟩ n r)) (hb : Binds K fd ps []) : DMet P w K mg base k cn m n r := ⟨C, fa, hC, c, ⟨ha, hf, hk⟩, fnr_of F hb⟩
theorem DMk.of (hC : PySem.W.nsIn K mainGlobals cn = some (some (.ref C))) (hm : mg cn = some (.ref C)) (ha : PySem.W.makesIn K C = true) (hi : PySem.W.findIn K (.ref C) "__init__" = some (some (.ref fa))) (hf : PySem.W.isFn K (.ref fa) = true) (hk : PySem.W.keepIn K (.ref C) = true)
    (F : FnOk P w K mg base CX0 k fa fd ps (lP ⟨P, w, K⟩ n r)) (hb : Binds K fd ps []) : DMk P w K mg base k cn n r := ⟨C, fa, hC, ⟨ha, hi, hf, hk⟩, hm, fnr_of F hb⟩
theorem DPr.of {rest : List Value} (hC : PySem.W.nsIn K mainGlobals cn = some (some (.ref C))) (c : Cls K C) (ha : PySem.W.findIn K (.ref C) f = some (some (.ref p))) (hg : PySem.W.specialIn K (.ref p) "__get__" = some (some (.builtin "property.__get__"))) (ht : PySem.W.takesIn K (.ref p) = some true)
    (hr : PySem.W.recIn K p "property" = some (.ref fa :: rest)) (F : FnOk P w K mg base CX0 k fa fd ps (lP ⟨P, w, K⟩ 1 r)) (hb : Binds K fd ps []) : DPr P w K mg base k cn f r := ⟨C, p, fa, fd, ps, hC, c, ⟨ha, hg, ht, rest, hr⟩, F, hb⟩
theorem ClsF.of (hC : PySem.W.nsIn K mainGlobals cn = some (some (.ref C))) (c : Cls K C) (h : PySem.W.findIn K (.ref C) f = some none) : ClsF K cn f := ⟨C, hC, c, h⟩
theorem DCv.of {mc : Value} {t : Tok} (hm : mg cn = some (.ref C)) (h1 : PySem.W.readsIn K C mc = true) (h2 : PySem.W.specialIn K (.ref C) "__getattribute__" = some (some (.builtin "type.__getattribute__"))) (h3 : PySem.W.findCls K (.ref C) mc f = some (.val (.str x t))) : DCv K mg cn f x :=
  ⟨C, mc, _, hm, ⟨h1, h2⟩, ⟨h3, t, rfl⟩⟩
theorem DCi.of {t : Tok} (hC : PySem.W.nsIn K mainGlobals cn = some (some (.ref C))) (c : Cls K C) (h1 : PySem.W.findIn K (.ref C) f = some (some (.str x t))) (h2 : PySem.W.specialIn K (.str x t) "__get__" = some none) (h3 : PySem.W.copiedNames.contains f = false) : DCi K cn f x :=
  ⟨C, _, hC, c, ⟨h1, ⟨t, rfl⟩, h2, h3⟩⟩
theorem DIs.of {b : Bool} (hC : PySem.W.nsIn K mainGlobals cn = some (some (.ref C))) (c : Cls K C) (h : IsOk K C) (hm : mg dn = some (.ref Dd)) (hk : PySem.W.kitOne K (.ref C) (.ref Dd) = some b) : DIs K mg cn dn b := ⟨C, Dd, hC, c, h, hm, hk⟩
theorem DSup.of {D : Addr} (hC : PySem.W.nsIn K mainGlobals cn = some (some (.ref C))) (h1 : PySem.W.mroIn K C (.ref D) = some true) (h2 : PySem.W.ks_superIn K C D m = some (some (.ref fa))) (h3 : PySem.W.typeIn K (.ref fa) = some (.type "function")) (h4 : PySem.W.nsIn K cStatics "thirdparty.any" = some none) (h5 : PySem.W.fnIn K fa = true) (h6 : (m == ("__class__" : Str)) = false)
    (F : FnOk P w K mg base CX0 k fa fd ps (lP ⟨P, w, K⟩ n r)) (hb : Binds K fd ps []) : DSup P w K mg base k D cn m n r := ⟨C, fa, hC, ⟨h1, h2, h3, h4, h5, h6⟩, fnr_of F hb⟩
end
end Sv
set_option autoImplicit false
namespace Sv
open PySem PySem.Spec PyProof.Rows L2
section
variable {X : Cx} {e : Expr} {te : DTE} {pos p : Pos}
theorem TyX.new {K : PySem.W.Frag} {H : Hp} {x : V} {t : String} {T : Addr} {o : HO} (n : H T = none) (h : TyX K H x (.type t)) : TyX K (upd H T o) x (.type t) := by
  have k : ∀ {a : Addr} {u : HO}, H a = some u → upd H T o a = some u := fun {a u} e => by
    rw [upd_ne fun z => by rw [z, n] at e; cases e]
    exact e
  cases h with
  | base h =>
    cases h with
    | non => exact .base .non
    | bl x => exact .base (.bl x)
    | int x => exact .base (.int x)
    | str x => exact .base (.str x)
    | flt x => exact .base (.flt x)
    | lst e => exact .base (.lst (k e))
    | frz e => exact .base (.frz (k e))
    | tup e => exact .base (.tup (k e))
    | dK e => exact .base (.dK (k e))
    | dT e => exact .base (.dT (k e))
  | byt b => exact .byt b
  | set e => exact .set (k e)
  | kList e c => exact .kList e c
  | kTuple e c => exact .kTuple e c
  | kDict e c => exact .kDict e c
  | fTuple e => exact .fTuple (k e)
  | fDict e => exact .fDict (k e)
end
end Sv
set_option autoImplicit false
set_option autoImplicit false
set_option autoImplicit false
namespace Sv
open PySem PySem.Spec PyProof.Rows L2
structure DMkK (P : Program) (w : World) (K : PySem.W.Frag) (mg : Str → Option Value) (base : Heap) (k : Nat) (cn : Str) (n : Nat) (ks : List Str) (N : Nat) (gD : List D → List D → List D) (r : DRC) : Prop where
  ex : ∃ C f fd ps g gV, ClsAt K cn C ∧ Mk K C f ∧ mg cn = some (.ref C) ∧ FnOk P w K mg base CX0 k f fd ps (lP ⟨P, w, K⟩ N r) ∧ KBn K fd ps (n + 1) ks g gV ∧ ∀ (H : Hp) (ds es : List D) (vs zs : List V), RDs ⟨P, w, K⟩ H ds vs → RDs ⟨P, w, K⟩ H es zs → RDs ⟨P, w, K⟩ H (gD ds es) (gV vs zs)
/-- what a call with keywords binds, from what stands of the def -/
theorem DMkK.of {P : Program} {w : World} {K : PySem.W.Frag} {mg : Str → Option Value} {base : Heap} {k n N : Nat} {cn : Str} {ks ps : List Str} {gD : List D → List D → List D} {r : DRC} {C fa : Addr} {fd : FuncData} {g : List Value → List Value → List Value} {gV : List V → List V → List V}
    (hC : PySem.W.nsIn K mainGlobals cn = some (some (.ref C))) (hm : mg cn = some (.ref C)) (ha : PySem.W.makesIn K C = true) (hi : PySem.W.findIn K (.ref C) "__init__" = some (some (.ref fa))) (hf : PySem.W.isFn K (.ref fa) = true) (hk : PySem.W.keepIn K (.ref C) = true)
    (F : FnOk P w K mg base CX0 k fa fd ps (lP ⟨P, w, K⟩ N r)) (hb : KBn K fd ps (n + 1) ks g gV) (hr : ∀ (H : Hp) (ds es : List D) (vs zs : List V), RDs ⟨P, w, K⟩ H ds vs → RDs ⟨P, w, K⟩ H es zs → RDs ⟨P, w, K⟩ H (gD ds es) (gV vs zs)) : DMkK P w K mg base k cn n ks N gD r :=
  ⟨C, fa, fd, ps, g, gV, hC, ⟨ha, hi, hf, hk⟩, hm, F, hb, hr⟩
end Sv
set_option autoImplicit false
set_option maxHeartbeats 2000000
set_option autoImplicit false
namespace Sv
open PySem PySem.Spec PyProof.Rows L2
def XRel (K : KK) (H : Hp) (cn : Str) (fs : List (Str × D)) (cls : Value) (d : Option Addr) : Prop :=
  ∃ C, ClsAt K.k cn C ∧ cls = .ref C ∧ ∃ dd gs, d = some dd ∧ H dd = some (.xd gs) ∧ RDf K H fs gs
end Sv
set_option maxHeartbeats 2000000
set_option autoImplicit false
set_option maxHeartbeats 2000000
set_option autoImplicit false
set_option maxHeartbeats 2000000
set_option autoImplicit false
namespace Sv
open PySem PySem.Spec PyProof.Rows L2
structure XStep (K : KK) (H H' : Hp) : Prop where
  ext : Ext H H'
  sto : ∀ S, RelS K S H → RelS K S H'
  keep : ∀ x o, H x = some o → H' x = some o
theorem XStep.refl {K : KK} {H : Hp} : XStep K H H := ⟨.refl _, fun _ h => h, fun _ _ h => h⟩
theorem XStep.trans {K : KK} {H H1 H2 : Hp} (a : XStep K H H1) (b : XStep K H1 H2) : XStep K H H2 := ⟨a.ext.trans b.ext, fun S h => b.sto S (a.sto S h), fun x o h => b.keep x o (a.keep x o h)⟩
theorem XStep.new {K : KK} {H : Hp} {p : Addr} {o : HO} (np : H p = none) : XStep K H (upd H p o) := ⟨.new np, fun S h => h.new np, fun x u h => by rw [upd_ne]; exact h; rintro rfl; rw [np] at h; cases h⟩
theorem XRel.step {K : KK} {H H' : Hp} {cn : Str} {fs : List (Str × D)} {cls : Value} {d : Option Addr} (x : XRel K H cn fs cls d) (k : ∀ x o, H x = some o → H' x = some o) (e : Ext H H') : XRel K H' cn fs cls d := by
  obtain ⟨C, hC, ec, dd, gs, ed, hd, r⟩ := x
  exact ⟨C, hC, ec, dd, gs, ed, k _ _ hd, r.ext e⟩
/-- the error stands in slot i -/
def XAt (K : KK) (i : Nat) (a : Addr) (cls : Value) (d : Option Addr) (σ : L2.St) (H : Hp) (cn : Str) (fs : List (Str × D)) : Prop := σ[i]? = some (some (V.ref a)) ∧ XRel K H cn fs cls d
theorem XAt.step {K : KK} {i : Nat} {a : Addr} {cls : Value} {d : Option Addr} {σ : L2.St} {H H' : Hp} {cn : Str} {fs : List (Str × D)} (x : XAt K i a cls d σ H cn fs) (k : XStep K H H') : XAt K i a cls d σ H' cn fs := ⟨x.1, x.2.step k.keep k.ext⟩
end Sv
set_option maxHeartbeats 400000
set_option autoImplicit false
set_option maxHeartbeats 1000000
set_option autoImplicit false
namespace Sv
open PySem PySem.Spec PyProof.Rows L2
mutual
/-- data without lists, with dicts -/
inductive PyD (S : Sto) : D → PyData → Prop
  | non : PyD S .non .none
  | bl (b : Bool) : PyD S (.bl b) (.bool b)
  | int (i : Int) : PyD S (.int i) (.int i)
  | str (x : Str) : PyD S (.str x) (.str x)
  | tup {ds : List D} {ps : List PyData} : PyDs S ds ps → PyD S (.tup ds) (.tuple ps)
  | d0 {a : Addr} : S a = some (.dK []) → PyD S (.ref a) (.dict [])
  | d1 {a : Addr} {x : Str} {i : Int} : S a = some (.dK [(.inr x, .int i)]) → PyD S (.ref a) (.dict [(.str x, .int i)])
inductive PyDs (S : Sto) : List D → List PyData → Prop
  | nil : PyDs S [] []
  | cons {d : D} {ds : List D} {p : PyData} {ps : List PyData} : PyD S d p → PyDs S ds ps → PyDs S (d :: ds) (p :: ps)
end
section
variable {S : Sto} {q : Addr} {o : Ob}
mutual
theorem PyD.put (nq : S q = none) : ∀ {d : D} {p : PyData}, PyD S d p → PyD (S.put q o) d p
  | _, _, .non => .non
  | _, _, .bl b => .bl b
  | _, _, .int i => .int i
  | _, _, .str x => .str x
  | _, _, .tup h => .tup (PyDs.put nq h)
  | _, _, .d0 h => .d0 ((Sto.ne fun z => by rw [z, nq] at h; cases h).trans h)
  | _, _, .d1 h => .d1 ((Sto.ne fun z => by rw [z, nq] at h; cases h).trans h)
theorem PyDs.put (nq : S q = none) : ∀ {ds : List D} {ps : List PyData}, PyDs S ds ps → PyDs (S.put q o) ds ps
  | _, _, .nil => .nil
  | _, _, .cons h t => .cons (PyD.put nq h) (PyDs.put nq t)
end
end
section
variable {K : KK} {S : Sto} {H : Hp} {N : Addr → Prop}
mutual
theorem PyD.dx (s : RelS K S H) : ∀ {d : D} {p : PyData} {v : V}, PyD S d p → RD K H d v → DX N K.k H v p
  | _, _, _, .non, .non => .non
  | _, _, _, .bl b, .bl _ => .bl b
  | _, _, _, .int i, .int _ => .int i
  | _, _, _, .str x, .str _ => .str x
  | _, _, _, .tup h, .tup t r => let ⟨o, e, _⟩ := t; .tup (.inr ⟨o, e⟩) (PyDs.dx s h r)
  | _, _, _, .d0 e, .ref _ => by
    obtain ⟨vs, q, r⟩ := s _ _ e
    cases r
    exact .d0 q
  | _, _, _, .d1 e, .ref _ => by
    obtain ⟨vs, q, r⟩ := s _ _ e
    match vs, r, q with
    | [(_, _)], .cons (.int _) .nil, q => exact .d1 q
theorem PyDs.dx (s : RelS K S H) : ∀ {ds : List D} {ps : List PyData} {vs : List V}, PyDs S ds ps → RDs K H ds vs → DXs N K.k H vs ps
  | _, _, _, .nil, .nil => .nil
  | _, _, _, .cons h t, .cons r q => .cons (PyD.dx s h r) (PyDs.dx s t q)
end
end
structure TextD (p : PyData) : Prop where
  sho : p.showable = true
  dep : p.depth ≤ 60
  len : p.shown.length ≤ sizeLine
section
variable {X : Cx} {pins : List (Addr × Obj)} {σ : L2.St} {H : Hp} {s : Shared}
/-- repr of what stands at an address -/
theorem repr_at (hgd : X.A.guards = some []) (hu : X.A.units + 64 < cLine) {N : Addr → Prop} (hN : ∀ a, N a → a ≠ sysModules) (I : Inv X pins σ H s) {a : Addr} {p : PyData} {Q : VK} (h : DX N X.K H (.ref a) p) (t : TextD p) (q : Q (.str p.shown) H) :
    wpAny (model X.prog X.w) X.A (call (.builtin "repr") [.ref a]) (EP X pins σ Q) X.xe s := by
  obtain ⟨as, R, hm⟩ := DX.reads hN I p (.ref a) (.ref a) h rfl
  have := t.dep
  exact repr_of_reads' R t.sho (fun _ => hm) hgd (by omega) (fun _ _ e => e) (fun h' tk1 tk2 hk => ⟨.str _, H, I.kept (t' := tk2) hk, ⟨tk1, rfl⟩, q⟩) t.len
end
def rReprD : DRC := fun ds S R => rReprX ds S R ∨ (∃ i, ds = [.int i] ∧ i.natAbs.log2 < 1920 ∧ R (.str (toString i)) S) ∨ (∃ x, ds = [.str x] ∧ (reprText x).length ≤ sizeLine ∧ R (.str (reprText x)) S) ∨ ∃ d p, ds = [d] ∧ (∃ a, d = .ref a ∨ ∃ xs, d = .tup xs) ∧ PyD S d p ∧ TextD p ∧ R (.str p.shown) S
section
variable {X : Cx}
theorem call_repr_strT : CallR X (.builtin "repr") (fun xs H Q => ∃ x, xs = [.str x] ∧ (reprText x).length ≤ sizeLine ∧ Q (.str (reprText x)) H) := by
  intro pins s σ H xs us Q I r h
  obtain ⟨x, rfl, hl, q⟩ := h
  obtain ⟨u, rfl, t, rfl⟩ := vals1 r
  exact call_repr_gives (typeIs_str s x t) F.slot_str_repr F.entry_str_repr (F.args_str_repr_1 _) (gives_str_repr x t) ⟨.str _, H, I.tok _, ⟨_, rfl⟩, q⟩ (hx := hl)
theorem b_reprD (hgd : X.A.guards = some []) (hu : X.A.units + 64 < cLine) : CallR X (.builtin "repr") (lC X.kk rReprD) := by
  intro pins s σ H vs us Q I r ⟨ds, S, R, r1, s1, h, k⟩
  rcases h with h | ⟨i, hd, hl, q⟩ | ⟨x, hd, hl, q⟩ | ⟨d, p, hd, ha, hp, t, q⟩
  · exact b_reprX hgd hu pins s σ H vs us Q I r ⟨ds, S, R, r1, s1, h, k⟩
  · subst hd
    obtain ⟨v, rfl, rv⟩ := r1.inv1
    cases rv
    exact SkE.call_repr_int pins s σ H _ us Q I r ⟨i, rfl, hl, k _ _ _ _ q s1 (.str _) (.refl H)⟩
  · subst hd
    obtain ⟨v, rfl, rv⟩ := r1.inv1
    cases rv
    exact call_repr_strT pins s σ H _ us Q I r ⟨x, rfl, hl, k _ _ _ _ q s1 (.str _) (.refl H)⟩
  · subst hd
    obtain ⟨v, rfl, rv⟩ := r1.inv1
    have hv : ∃ a, v = .ref a := by
      obtain ⟨a, h | ⟨xs, h⟩⟩ := ha
      · subst h
        cases rv
        exact ⟨_, rfl⟩
      · subst h
        cases rv
        exact ⟨_, rfl⟩
    obtain ⟨a, rfl⟩ := hv
    rw [Vals.ref1 r]
    exact repr_at hgd hu (N := fun _ => False) (fun _ z => z.elim) I (hp.dx s1 rv) t (k _ _ _ _ q s1 (.str _) (.refl H))
end
def dReprL (ta : DTA) : DTE := fun env S R => ta env S fun ds S1 => decide (ds.length ≤ 1000) = true ∧ ∀ q, S1 q = none →
  (∃ ps, Pys (S1.put q (.lst ds)) ds ps ∧ Text (.list ps) ∧ R (.str (PyData.list ps).shown) (S1.put q (.lst ds))) ∨ (∃ ps, PyDs (S1.put q (.lst ds)) ds ps ∧ TextD (.list ps) ∧ R (.str (PyData.list ps).shown) (S1.put q (.lst ds)))
def rReprL (K : PySem.W.Frag) : List V → Hp → VK → Prop := fun vs H Q => ∃ a p, vs = [.ref a] ∧ a ≠ sysModules ∧ ((Dp K H (.ref a) p ∧ Text p) ∨ (DX (· = a) K H (.ref a) p ∧ TextD p)) ∧ Q (.str p.shown) H
section
variable {X : Cx} {es : List Expr} {ta : DTA} {pos lpos p : Pos}
theorem call_reprL (hgd : X.A.guards = some []) (hu : X.A.units + 64 < cLine) : CallR X (.builtin "repr") (rReprL X.K) := by
  intro pins s σ H vs us Q I r ⟨a, p, hv, na, h, q⟩
  subst hv
  rcases h with ⟨h, t⟩ | ⟨h, t⟩
  · exact call_repr hgd hu pins s σ H _ us Q I r ⟨.ref a, p, rfl, ⟨h, t.dis, t.sho, t.nod, t.dep, t.len⟩, q⟩
  · rw [Vals.ref1 r]
    exact repr_at hgd hu (N := (· = a)) (fun b z => by rw [z]; exact na) I h t q
theorem de_reprL (hgd : X.A.guards = some []) (hu : X.A.units + 64 < cLine) (hg : Gl X "repr") (hm : X.mg "repr" = none) (ha : DA X es ta)
    (he : starEach [.List es lpos] X.env = (false, eval (.List es lpos) X.env) :: starEach [] X.env := by rfl) : DE X (.Call (.Name "repr" p) [.List es lpos] [] pos) (dReprL ta) := by
  refine ⟨(pe_callB (call_reprL hgd hu) hg hm (by decide +kernel) (pa_cons (pe_lstS ha.run) pa_nil he) (by decide) (by decide) he (by rfl)).of fun σ H Q ⟨env, S, R, rs, h, k⟩ => ⟨env, S, _, rs, h, fun ds S1 vs H1 ⟨hl, q⟩ s1 r1 e1 => ⟨by rw [← r1.length]; exact sz1000 hl, fun a na ns => ?_⟩⟩⟩
  have n1 := s1.fresh na
  have e2 : Ext H1 (upd H1 a (.lst vs)) := .new na
  have s2 : RelS X.kk (S1.put a (.lst ds)) (upd H1 a (.lst vs)) := s1.lay na ⟨_, upd_same, r1.ext e2⟩
  rcases q a n1 with ⟨ps, hp, t, q⟩ | ⟨ps, hp, t, q⟩
  · exact ⟨a, _, rfl, ns, .inl ⟨(Py.lst Sto.same hp).dp s2 (.ref a), t⟩, k _ _ _ _ q s2 (.str _) (e1.trans e2)⟩
  · exact ⟨a, _, rfl, ns, .inr ⟨.lst upd_same rfl (PyDs.dx s2 hp (r1.ext e2)), t⟩, k _ _ _ _ q s2 (.str _) (e1.trans e2)⟩
end
end Sv
namespace Sv
open PySem L2
/-- _law_same: 0 _law_found 1 _law_due -/
def B_law_same_6c33 : DTS := dRet (dBin (rEqq false) (dCB rReprD (dCons (dVar 0) (dNil))) (dCB rReprD (dCons (dVar 1) (dNil))))
/-- law: 0 _law_script 1 _law_deck_here 2 _law_turn 3 _law_rows 4 _law_lost_here 5 _law_due 6 _law_value 7 _law_kept -/
def B_law_810c : DTS := dSeq (dAsg (dCall 1 (dFn 2 B_law_deck_74a9) (dCons (dVar 0) (dNil))) (dgName 1))
  (dSeq (dFor (diRg1 (dCons (dC (.int 8)) (dNil))) (dgName 2) (dSeq (dAsg (dCall 3 (dFn 5 B_law_history_9bf0) (dCons (dVar 1) (dCons (dC (.int 5)) (dCons (dC (.int 30)) (dNil))))) (dgName 3))
  (dFor (diVal (dLst (dCons (dCall 2 (dFn 3 B_law_lost_0080) (dCons (dVar 1) (dCons (dVar 3) (dNil)))) (dCons (dCall 2 (dFn 3 B_law_lost_0080) (dCons (dVar 1) (dCons (dVar 3) (dNil)))) (dNil))))) (dgName 4) (dSeq (dAsg (dCall 2 (dFn 11 B_law_sunk_19fe) (dCons (dVar 3) (dCons (dVar 4) (dNil)))) (dgName 5))
  (dFor (diVal (dCall 4 (dFn 8 B_law_values_3d8f) (dCons (dVar 1) (dCons (dVar 3) (dCons (dVar 4) (dCons (dVar 5) (dNil))))))) (dgName 6) (dSeq (dAsg (dReprL (dCons (dVar 3) (dCons (dVar 4) (dCons (dVar 6) (dNil))))) (dgName 7))
  (dSeq (dIfS (dNot (dB (dCall 2 (dFn 2 B_law_same_6c33) (dCons (dCall 3 (dFn 3 B_fall_holds_03ce) (dCons (dVar 3) (dCons (dVar 4) (dCons (dVar 6) (dNil))))) (dCons (dCall 2 (dFn 2 B_law_same_6c33) (dCons (dVar 6) (dCons (dVar 5) (dNil)))) (dNil)))))) (dRet (dC (.bl false))) (dNext))
  (dIfS (dB (dBin (rEqq true) (dReprL (dCons (dVar 3) (dCons (dVar 4) (dCons (dVar 6) (dNil))))) (dVar 7))) (dRet (dC (.bl false))) (dNext)))))))))
  (dRet (dC (.bl true))))
end Sv
namespace Sv
open PySem PySem.Spec PyProof.Rows L2
def topS (i : Nat) : Stmt := PySem.Challenge.pw_savelines_k41_fallen_lines_judged.main.body.getD i (.Pass ⟨0, 0, 0, 0⟩)
abbrev s__law_next : Stmt := topS 17
theorem sc__law_next : FnScope ["_law_deck_here", "_law_many", "_law_cell", "_law_digit"] ["_law_deck_here", "_law_many"] (defScope s__law_next) := ⟨rfl, rfl, rfl, by decide +kernel, rfl, by decide +kernel, by decide +kernel⟩
set_option maxHeartbeats 4000000 in
theorem der__law_next {P : Program} {w : World} {K : PySem.W.Frag} {mg : Str → Option Value} {base : Heap} {f : Addr} {fd : FuncData} (F : Fun K "_law_next" "_law_next" s__law_next f fd)  (m_int : mg "int" = none): FnOk P w K mg base CX0 1 f fd ["_law_deck_here", "_law_many"] (lP ⟨P, w, K⟩ 2 (dFn 4 B_law_next_74a4)) := by
  refine fn_o F sc__law_next rfl fun cdv A outer s H E hr => ?_
  have nd := sc__law_next.nd
  have u64 := hr.units
  have u65 : (A.deeper (envOfC "_law_next" (defScope s__law_next) s.heap.objs.size f cdv)).units + 65 < cLine := by have := hr.un; omega
  have u1 : (A.deeper (envOfC "_law_next" (defScope s__law_next) s.heap.objs.size f cdv)).units + 1 < cLine := by have := hr.un; omega
  unfold B_law_next_74a4
  exact dss_cons (ds_while PassesOwn.never (DW.dt (dw_and (dt_cmp (o_eq u64) (de_ix o_ix (dv 0) (de_int)) (de_int)) (dw_and1 (dt_cmp (o_ne u64) (de_ix o_ix (dv 0) (de_int)) (de_lst (da_nil)))))) (dss_cons (ds_set (i := 2) nd rfl (by first | exact .inl rfl | exact .inr rfl) (de_mL PySem.F.slot_list_pop PySem.F.type_list_pop m_popAt (de_ix o_ix (dv 0) (de_int)) (da_cons (de_int) (da_nil))))
    (dss_cons (ds_asg (b := true) (de_bin o_mod (de_bin o_add (de_bin o_add (de_bin o_mul (de_ix o_ix (dv 0) (de_int)) (de_int)) (dv 2)) (de_int)) (de_int)) (dg_sub (dv 0) (de_int)))
    (dss_one (ds_asg (b := true) (de_bin o_mul (dv 2) (de_callTy b_int (by rfl) m_int (by decide +kernel) (da_cons (de_cmp o_ge (dv 2) (de_bin o_pow (de_int) (de_int))) (da_nil)))) (dg_sub (dv 0) (de_int)))))))
    (dss_cons (ds_if (dt_cmp o_gt (de_ix o_ix (dv 0) (de_int)) (de_int)) (dss_cons (ds_set (i := 3) nd rfl (by first | exact .inl rfl | exact .inr rfl) (de_bin o_mod (de_ix o_ix (dv 0) (de_int)) (dv 1)))
    (dss_cons (ds_asg (b := true) (de_bin o_div (de_ix o_ix (dv 0) (de_int)) (dv 1)) (dg_sub (dv 0) (de_int)))
    (dss_one (ds_ret (dv 3))))) (dss_nil))
    (dss_cons (ds_asg (b := true) (de_bin o_add (de_ix o_ix (dv 0) (de_int)) (de_int)) (dg_sub (dv 0) (de_int)))
    (dss_cons (ds_asg (b := true) (de_bin o_mod (de_bin o_add (de_bin o_add (de_bin o_mul (de_ix o_ix (dv 0) (de_int)) (de_int)) (de_bin o_mul (de_int) (de_ix o_ix (dv 0) (de_int)))) (de_int)) (de_int)) (dg_sub (dv 0) (de_int)))
    (dss_one (ds_ret (de_bin o_mod (de_bin o_div (de_bin o_mod (de_bin o_mul (de_ix o_ix (dv 0) (de_int)) (de_ix o_ix (dv 0) (de_int))) (de_int)) (de_int)) (dv 1)))))))
abbrev s__law_lost : Stmt := topS 24
theorem sc__law_lost : FnScope ["_law_deck_here", "_law_rows", "_law_k"] ["_law_deck_here", "_law_rows"] (defScope s__law_lost) := ⟨rfl, rfl, rfl, by decide +kernel, rfl, by decide +kernel, by decide +kernel⟩
set_option maxHeartbeats 4000000 in
theorem der__law_lost {P : Program} {w : World} {K : PySem.W.Frag} {mg : Str → Option Value} {base : Heap} {f : Addr} {fd : FuncData} (F : Fun K "_law_lost" "_law_lost" s__law_lost f fd) (D__law_next : DFo P w K mg base 1 "_law_next" 2 (dFn 4 B_law_next_74a4)) (m_range : mg "range" = none) (m_len : mg "len" = none) (m_tuple : mg "tuple" = none): FnOk P w K mg base CX0 2 f fd ["_law_deck_here", "_law_rows"] (lP ⟨P, w, K⟩ 2 (dFn 3 B_law_lost_0080)) := by
  refine fn_o F sc__law_lost rfl fun cdv A outer s H E hr => ?_
  have nd := sc__law_lost.nd
  have u64 := hr.units
  have u65 : (A.deeper (envOfC "_law_lost" (defScope s__law_lost) s.heap.objs.size f cdv)).units + 65 < cLine := by have := hr.un; omega
  have u1 : (A.deeper (envOfC "_law_lost" (defScope s__law_lost) s.heap.objs.size f cdv)).units + 1 < cLine := by have := hr.un; omega
  unfold B_law_lost_0080
  exact dss_one (ds_ret (de_callTy b_tuple (by rfl) m_tuple (by decide +kernel) (da_cons (de_lc (own := [("_law_k", 2)]) rfl nd (di_rg1 (by rfl) m_range (da_cons (de_callo D__law_next (hr.mono (by decide)) (by rfl) (da_cons (dv 0) (da_cons (de_int) (da_nil)))) (da_nil))) (blkOk_by (by first | decide +kernel | rfl)) (by decide) (fun _ _ _ _ _ => dg_name (i := 2) nd rfl (by first | exact .inl rfl | exact .inr rfl)) (fun _ _ _ _ _ => dts_nil) (fun _ _ _ _ _ => de_callo D__law_next (hr.mono (by decide)) (by rfl) (da_cons (dv 0) (da_cons (de_callB b_len (by rfl) m_len PySem.boot_len (da_cons (dv 1) (da_nil))) (da_nil))))) (da_nil))))
abbrev s__law_odd : Stmt := topS 30
theorem sc__law_odd : FnScope ["_law_deck_here", "_law_some"] ["_law_deck_here"] (defScope s__law_odd) := ⟨rfl, rfl, rfl, by decide +kernel, rfl, by decide +kernel, by decide +kernel⟩
set_option maxHeartbeats 4000000 in
theorem der__law_odd {P : Program} {w : World} {K : PySem.W.Frag} {mg : Str → Option Value} {base : Heap} {f : Addr} {fd : FuncData} (F : Fun K "_law_odd" "_law_odd" s__law_odd f fd) (D__law_next : DFo P w K mg base 1 "_law_next" 2 (dFn 4 B_law_next_74a4)): FnOk P w K mg base CX0 2 f fd ["_law_deck_here"] (lP ⟨P, w, K⟩ 1 (dFn 2 B_law_odd_0e8b)) := by
  refine fn_o F sc__law_odd rfl fun cdv A outer s H E hr => ?_
  have nd := sc__law_odd.nd
  have u64 := hr.units
  have u65 : (A.deeper (envOfC "_law_odd" (defScope s__law_odd) s.heap.objs.size f cdv)).units + 65 < cLine := by have := hr.un; omega
  have u1 : (A.deeper (envOfC "_law_odd" (defScope s__law_odd) s.heap.objs.size f cdv)).units + 1 < cLine := by have := hr.un; omega
  unfold B_law_odd_0e8b
  exact dss_cons (ds_set (i := 1) nd rfl (by first | exact .inl rfl | exact .inr rfl) (de_lst (da_cons (de_non) (da_cons (de_bl) (da_cons (de_bl) (da_cons (de_int) (da_cons (de_int) (da_cons (de_un o_neg (de_int)) (da_cons (de_bin o_pow (de_int) (de_int)) (da_cons (de_str) (da_cons (de_str) (da_cons (de_tup (da_nil)) (da_cons (de_tup (da_cons (de_int) (da_nil))) (da_cons (de_tup (da_cons (de_int) (da_nil))) (da_cons (de_tup (da_cons (de_bl) (da_nil))) (da_cons (de_lst (da_nil)) (da_cons (de_lst (da_cons (de_int) (da_nil))) (da_cons (de_dnew) (da_cons (de_disp1 (de_str) (de_int)) (da_cons (de_tup (da_cons (de_tup (da_cons (de_int) (da_nil))) (da_nil))) (da_nil)))))))))))))))))))))
    (dss_one (ds_ret (de_ix o_ix (dv 1) (de_callo D__law_next (hr.mono (by decide)) (by rfl) (da_cons (dv 0) (da_cons (de_int) (da_nil)))))))
abbrev s__law_changed : Stmt := topS 31
theorem sc__law_changed : FnScope ["_law_deck_here", "_law_value", "_law_at", "_law_way"] ["_law_deck_here", "_law_value"] (defScope s__law_changed) := ⟨rfl, rfl, rfl, by decide +kernel, rfl, by decide +kernel, by decide +kernel⟩
set_option maxHeartbeats 4000000 in
theorem der__law_changed_1 {P : Program} {w : World} {K : PySem.W.Frag} {mg : Str → Option Value} {base : Heap} {f : Addr} {fd : FuncData} (F : Fun K "_law_changed" "_law_changed" s__law_changed f fd) (D__law_odd : DFo P w K mg base 2 "_law_odd" 1 (dFn 2 B_law_odd_0e8b)) (D__law_next : DFo P w K mg base 1 "_law_next" 2 (dFn 4 B_law_next_74a4)) {b : DTS} (D__law_changed : DFo P w K mg base 3 "_law_changed" 2 (dFn 4 b)) (m_int : mg "int" = none) (m_isinstance : mg "isinstance" = none) (m_bool : mg "bool" = none) (m_str : mg "str" = none) (m_tuple : mg "tuple" = none) (m_list : mg "list" = none) (m_len : mg "len" = none): FnOk P w K mg base CX0 4 f fd ["_law_deck_here", "_law_value"] (lP ⟨P, w, K⟩ 2 (dFn 4 (Bs_law_changed_f68e b))) := by
  refine fn_o F sc__law_changed rfl fun cdv A outer s H E hr => ?_
  have nd := sc__law_changed.nd
  have u64 := hr.units
  have u65 : (A.deeper (envOfC "_law_changed" (defScope s__law_changed) s.heap.objs.size f cdv)).units + 65 < cLine := by have := hr.un; omega
  have u1 : (A.deeper (envOfC "_law_changed" (defScope s__law_changed) s.heap.objs.size f cdv)).units + 1 < cLine := by have := hr.un; omega
  unfold Bs_law_changed_f68e
  exact dss_cons (ds_if (DW.dt (dw_and (dt_val (de_callB b_isi (by rfl) m_isinstance (by decide +kernel) (da_cons (dv 1) (da_cons (de_ty (by rfl) m_tuple (by decide +kernel)) (da_nil))))) (dw_and (dt_cmp (o_ne u64) (dv 1) (de_tup (da_nil))) (dw_and1 (dt_cmp o_gt (de_callo D__law_next (hr.mono (by decide)) (by rfl) (da_cons (dv 0) (da_cons (de_int) (da_nil)))) (de_int)))))) (dss_cons (ds_set (i := 2) nd rfl (by first | exact .inl rfl | exact .inr rfl) (de_callo D__law_next (hr.mono (by decide)) (by rfl) (da_cons (dv 0) (da_cons (de_callB b_len (by rfl) m_len PySem.boot_len (da_cons (dv 1) (da_nil))) (da_nil)))))
    (dss_one (ds_ret (de_bin o_add (de_bin o_add (de_sl (dv 1) (do_none) (do_some (dv 2))) (de_tup (da_cons (de_callo D__law_changed (hr.mono (by decide)) (by rfl) (da_cons (dv 0) (da_cons (de_ix o_ix (dv 1) (dv 2)) (da_nil)))) (da_nil)))) (de_sl (dv 1) (do_some (de_bin o_add (dv 2) (de_int))) (do_none)))))) (dss_nil))
    (dss_cons (ds_set (i := 3) nd rfl (by first | exact .inl rfl | exact .inr rfl) (de_callo D__law_next (hr.mono (by decide)) (by rfl) (da_cons (dv 0) (da_cons (de_int) (da_nil)))))
    (dss_cons (ds_if (DW.dt (dw_and (dt_val (de_callB b_isi (by rfl) m_isinstance (by decide +kernel) (da_cons (dv 1) (da_cons (de_ty (by rfl) m_tuple (by decide +kernel)) (da_nil))))) (dw_and1 (dt_cmp o_lt (dv 3) (de_int))))) (dss_one (ds_ret (de_ix o_ix (de_lst (da_cons (de_sl (dv 1) (do_none) (do_some (de_un o_neg (de_int)))) (da_cons (de_bin o_add (dv 1) (de_sl (dv 1) (do_some (de_un o_neg (de_int))) (do_none))) (da_cons (de_callTy b_list (by rfl) m_list (by decide +kernel) (da_cons (dv 1) (da_nil))) (da_cons (de_revT (dv 1)) (da_cons (de_bin o_add (dv 1) (de_tup (da_cons (de_int) (da_nil)))) (da_nil))))))) (dv 3)))) (dss_nil))
    (dss_cons (ds_if (DW.dt (dw_and (dt_val (de_callB b_isi (by rfl) m_isinstance (by decide +kernel) (da_cons (dv 1) (da_cons (de_ty (by rfl) m_int (by decide +kernel)) (da_nil))))) (dw_and (dt_not (dt_val (de_callB b_isi (by rfl) m_isinstance (by decide +kernel) (da_cons (dv 1) (da_cons (de_ty (by rfl) m_bool (by decide +kernel)) (da_nil)))))) (dw_and1 (dt_cmp o_lt (dv 3) (de_int)))))) (dss_one (ds_ret (de_ix o_ix (de_lst (da_cons (de_bin o_add (dv 1) (de_int)) (da_cons (de_bin o_sub (dv 1) (de_int)) (da_cons (de_cmp (o_eq u64) (dv 1) (de_int)) (da_cons (de_callTy b_str (by rfl) m_str (by decide +kernel) (da_cons (dv 1) (da_nil))) (da_cons (de_int) (da_nil))))))) (dv 3)))) (dss_nil))
    (dss_one (ds_ret (de_callo D__law_odd (hr.mono (by decide)) (by rfl) (da_cons (dv 0) (da_nil))))))))
set_option maxHeartbeats 4000000 in
theorem der__law_changed_2 {P : Program} {w : World} {K : PySem.W.Frag} {mg : Str → Option Value} {base : Heap} {f : Addr} {fd : FuncData} (F : Fun K "_law_changed" "_law_changed" s__law_changed f fd) (D__law_odd : DFo P w K mg base 2 "_law_odd" 1 (dFn 2 B_law_odd_0e8b)) (D__law_next : DFo P w K mg base 1 "_law_next" 2 (dFn 4 B_law_next_74a4)) {b : DTS} (D__law_changed : DFo P w K mg base 4 "_law_changed" 2 (dFn 4 b)) (m_int : mg "int" = none) (m_isinstance : mg "isinstance" = none) (m_bool : mg "bool" = none) (m_str : mg "str" = none) (m_tuple : mg "tuple" = none) (m_list : mg "list" = none) (m_len : mg "len" = none): FnOk P w K mg base CX0 5 f fd ["_law_deck_here", "_law_value"] (lP ⟨P, w, K⟩ 2 (dFn 4 (Bs_law_changed_f68e b))) := by
  refine fn_o F sc__law_changed rfl fun cdv A outer s H E hr => ?_
  have nd := sc__law_changed.nd
  have u64 := hr.units
  have u65 : (A.deeper (envOfC "_law_changed" (defScope s__law_changed) s.heap.objs.size f cdv)).units + 65 < cLine := by have := hr.un; omega
  have u1 : (A.deeper (envOfC "_law_changed" (defScope s__law_changed) s.heap.objs.size f cdv)).units + 1 < cLine := by have := hr.un; omega
  unfold Bs_law_changed_f68e
  exact dss_cons (ds_if (DW.dt (dw_and (dt_val (de_callB b_isi (by rfl) m_isinstance (by decide +kernel) (da_cons (dv 1) (da_cons (de_ty (by rfl) m_tuple (by decide +kernel)) (da_nil))))) (dw_and (dt_cmp (o_ne u64) (dv 1) (de_tup (da_nil))) (dw_and1 (dt_cmp o_gt (de_callo D__law_next (hr.mono (by decide)) (by rfl) (da_cons (dv 0) (da_cons (de_int) (da_nil)))) (de_int)))))) (dss_cons (ds_set (i := 2) nd rfl (by first | exact .inl rfl | exact .inr rfl) (de_callo D__law_next (hr.mono (by decide)) (by rfl) (da_cons (dv 0) (da_cons (de_callB b_len (by rfl) m_len PySem.boot_len (da_cons (dv 1) (da_nil))) (da_nil)))))
    (dss_one (ds_ret (de_bin o_add (de_bin o_add (de_sl (dv 1) (do_none) (do_some (dv 2))) (de_tup (da_cons (de_callo D__law_changed (hr.mono (by decide)) (by rfl) (da_cons (dv 0) (da_cons (de_ix o_ix (dv 1) (dv 2)) (da_nil)))) (da_nil)))) (de_sl (dv 1) (do_some (de_bin o_add (dv 2) (de_int))) (do_none)))))) (dss_nil))
    (dss_cons (ds_set (i := 3) nd rfl (by first | exact .inl rfl | exact .inr rfl) (de_callo D__law_next (hr.mono (by decide)) (by rfl) (da_cons (dv 0) (da_cons (de_int) (da_nil)))))
    (dss_cons (ds_if (DW.dt (dw_and (dt_val (de_callB b_isi (by rfl) m_isinstance (by decide +kernel) (da_cons (dv 1) (da_cons (de_ty (by rfl) m_tuple (by decide +kernel)) (da_nil))))) (dw_and1 (dt_cmp o_lt (dv 3) (de_int))))) (dss_one (ds_ret (de_ix o_ix (de_lst (da_cons (de_sl (dv 1) (do_none) (do_some (de_un o_neg (de_int)))) (da_cons (de_bin o_add (dv 1) (de_sl (dv 1) (do_some (de_un o_neg (de_int))) (do_none))) (da_cons (de_callTy b_list (by rfl) m_list (by decide +kernel) (da_cons (dv 1) (da_nil))) (da_cons (de_revT (dv 1)) (da_cons (de_bin o_add (dv 1) (de_tup (da_cons (de_int) (da_nil)))) (da_nil))))))) (dv 3)))) (dss_nil))
    (dss_cons (ds_if (DW.dt (dw_and (dt_val (de_callB b_isi (by rfl) m_isinstance (by decide +kernel) (da_cons (dv 1) (da_cons (de_ty (by rfl) m_int (by decide +kernel)) (da_nil))))) (dw_and (dt_not (dt_val (de_callB b_isi (by rfl) m_isinstance (by decide +kernel) (da_cons (dv 1) (da_cons (de_ty (by rfl) m_bool (by decide +kernel)) (da_nil)))))) (dw_and1 (dt_cmp o_lt (dv 3) (de_int)))))) (dss_one (ds_ret (de_ix o_ix (de_lst (da_cons (de_bin o_add (dv 1) (de_int)) (da_cons (de_bin o_sub (dv 1) (de_int)) (da_cons (de_cmp (o_eq u64) (dv 1) (de_int)) (da_cons (de_callTy b_str (by rfl) m_str (by decide +kernel) (da_cons (dv 1) (da_nil))) (da_cons (de_int) (da_nil))))))) (dv 3)))) (dss_nil))
    (dss_one (ds_ret (de_callo D__law_odd (hr.mono (by decide)) (by rfl) (da_cons (dv 0) (da_nil))))))))
abbrev s__law_spots : Stmt := topS 27
theorem sc__law_spots : FnScope ["_law_row", "_law_index", "_law_event"] ["_law_row"] (defScope s__law_spots) := ⟨rfl, rfl, rfl, by decide +kernel, rfl, by decide +kernel, by decide +kernel⟩
set_option maxHeartbeats 4000000 in
theorem der__law_spots {P : Program} {w : World} {K : PySem.W.Frag} {mg : Str → Option Value} {base : Heap} {f : Addr} {fd : FuncData} (F : Fun K "_law_spots" "_law_spots" s__law_spots f fd)  (m_enumerate : mg "enumerate" = none) (m_len : mg "len" = none): FnOk P w K mg base CX0 1 f fd ["_law_row"] (lP ⟨P, w, K⟩ 1 (dFn 3 B_law_spots_60b5)) := by
  refine fn_o F sc__law_spots rfl fun cdv A outer s H E hr => ?_
  have nd := sc__law_spots.nd
  have u64 := hr.units
  have u65 : (A.deeper (envOfC "_law_spots" (defScope s__law_spots) s.heap.objs.size f cdv)).units + 65 < cLine := by have := hr.un; omega
  have u1 : (A.deeper (envOfC "_law_spots" (defScope s__law_spots) s.heap.objs.size f cdv)).units + 1 < cLine := by have := hr.un; omega
  unfold B_law_spots_60b5
  exact dss_one (ds_ret (de_bin o_add (de_bin o_add (de_lst (da_cons (de_int) (da_nil))) (de_lc (own := [("_law_index", 1), ("_law_event", 2)]) rfl nd (di_enum (by rfl) m_enumerate (da_cons (dv 0) (da_nil))) (blkOk_by (by first | decide +kernel | rfl)) (by decide) (fun _ _ _ _ _ => dg_tup rfl (dgs_cons (dg_name (i := 1) nd rfl (by first | exact .inl rfl | exact .inr rfl)) (dgs_cons (dg_name (i := 2) nd rfl (by first | exact .inl rfl | exact .inr rfl)) (dgs_nil)))) (fun _ _ _ _ _ => dts_one (dt_cmp (o_eq u64) (dv 2) (de_int))) (fun _ _ _ _ _ => dv 1))) (de_lst (da_cons (de_callB b_len (by rfl) m_len PySem.boot_len (da_cons (dv 0) (da_nil))) (da_nil)))))
abbrev s__law_places : Stmt := topS 28
theorem sc__law_places : FnScope ["_law_rows", "_law_cut", "_law_row", "_law_number"] ["_law_rows", "_law_cut"] (defScope s__law_places) := ⟨rfl, rfl, rfl, by decide +kernel, rfl, by decide +kernel, by decide +kernel⟩
set_option maxHeartbeats 4000000 in
theorem der__law_places {P : Program} {w : World} {K : PySem.W.Frag} {mg : Str → Option Value} {base : Heap} {f : Addr} {fd : FuncData} (F : Fun K "_law_places" "_law_places" s__law_places f fd) (D__law_spots : DFo P w K mg base 1 "_law_spots" 1 (dFn 3 B_law_spots_60b5)) (m_zip : mg "zip" = none): FnOk P w K mg base CX0 2 f fd ["_law_rows", "_law_cut"] (lP ⟨P, w, K⟩ 2 (dFn 4 B_law_places_cc50)) := by
  refine fn_o F sc__law_places rfl fun cdv A outer s H E hr => ?_
  have nd := sc__law_places.nd
  have u64 := hr.units
  have u65 : (A.deeper (envOfC "_law_places" (defScope s__law_places) s.heap.objs.size f cdv)).units + 65 < cLine := by have := hr.un; omega
  have u1 : (A.deeper (envOfC "_law_places" (defScope s__law_places) s.heap.objs.size f cdv)).units + 1 < cLine := by have := hr.un; omega
  unfold B_law_places_cc50
  exact dss_one (ds_ret (de_lc (own := [("_law_row", 2), ("_law_number", 3)]) rfl nd (di_zipM (by rfl) m_zip (da_cons (dv 0) (da_cons (dv 1) (da_nil)))) (blkOk_by (by first | decide +kernel | rfl)) (by decide) (fun _ _ _ _ _ => dg_tup rfl (dgs_cons (dg_name (i := 2) nd rfl (by first | exact .inl rfl | exact .inr rfl)) (dgs_cons (dg_name (i := 3) nd rfl (by first | exact .inl rfl | exact .inr rfl)) (dgs_nil)))) (fun _ _ _ _ _ => dts_nil) (fun _ _ _ _ _ => de_ix o_ix (de_callo D__law_spots (hr.mono (by decide)) (by rfl) (da_cons (dv 2) (da_nil))) (dv 3))))
abbrev s__law_letters : Stmt := topS 26
theorem sc__law_letters : FnScope ["_law_rows", "_law_found", "_law_receiver", "_law_row", "_law_index", "_law_event", "_law_sender", "_law_process"] ["_law_rows"] (defScope s__law_letters) := ⟨rfl, rfl, rfl, by decide +kernel, rfl, by decide +kernel, by decide +kernel⟩
set_option maxHeartbeats 4000000 in
theorem der__law_letters {P : Program} {w : World} {K : PySem.W.Frag} {mg : Str → Option Value} {base : Heap} {f : Addr} {fd : FuncData} (F : Fun K "_law_letters" "_law_letters" s__law_letters f fd)  (m_enumerate : mg "enumerate" = none) (m_len : mg "len" = none) (m_range : mg "range" = none): FnOk P w K mg base CX0 1 f fd ["_law_rows"] (lP ⟨P, w, K⟩ 1 (dFn 8 B_law_letters_6581)) := by
  refine fn_o F sc__law_letters rfl fun cdv A outer s H E hr => ?_
  have nd := sc__law_letters.nd
  have u64 := hr.units
  have u65 : (A.deeper (envOfC "_law_letters" (defScope s__law_letters) s.heap.objs.size f cdv)).units + 65 < cLine := by have := hr.un; omega
  have u1 : (A.deeper (envOfC "_law_letters" (defScope s__law_letters) s.heap.objs.size f cdv)).units + 1 < cLine := by have := hr.un; omega
  unfold B_law_letters_6581
  exact dss_cons (ds_set (i := 1) nd rfl (by first | exact .inl rfl | exact .inr rfl) (de_lst (da_nil)))
    (dss_cons (ds_for PassesOwn.never rfl (di_enum (by rfl) m_enumerate (da_cons (dv 0) (da_nil))) (dg_tup rfl (dgs_cons (dg_name (i := 2) nd rfl (by first | exact .inl rfl | exact .inr rfl)) (dgs_cons (dg_name (i := 3) nd rfl (by first | exact .inl rfl | exact .inr rfl)) (dgs_nil)))) (dss_one (ds_for PassesOwn.never rfl (di_enum (by rfl) m_enumerate (da_cons (dv 3) (da_nil))) (dg_tup rfl (dgs_cons (dg_name (i := 4) nd rfl (by first | exact .inl rfl | exact .inr rfl)) (dgs_cons (dg_name (i := 5) nd rfl (by first | exact .inl rfl | exact .inr rfl)) (dgs_nil)))) (dss_one (ds_if (dt_cmp o_lt (dv 5) (de_int)) (dss_cons (ds_set (i := 6) nd rfl (by first | exact .inl rfl | exact .inr rfl) (de_ix o_ix (de_lc (own := [("_law_process", 7)]) rfl nd (di_rg1 (by rfl) m_range (da_cons (de_callB b_len (by rfl) m_len PySem.boot_len (da_cons (dv 0) (da_nil))) (da_nil))) (blkOk_by (by first | decide +kernel | rfl)) (by decide) (fun _ _ _ _ _ => dg_name (i := 7) nd rfl (by first | exact .inl rfl | exact .inr rfl)) (fun _ _ _ _ _ => dts_one (dt_cmp (o_in u65) (de_bin o_sub (de_int) (dv 5)) (de_ix o_ix (dv 0) (dv 7)))) (fun _ _ _ _ _ => dv 7)) (de_int)))
    (dss_one (ds_expr (de_mL PySem.F.slot_list_append PySem.F.type_list_append m_append (dv 1) (da_cons (de_lst (da_cons (dv 6) (da_cons (de_mT PySem.F.slot_tuple_index PySem.F.type_tuple_index m_tindex (de_ix o_ix (dv 0) (dv 6)) (da_cons (de_bin o_sub (de_int) (dv 5)) (da_nil))) (da_cons (dv 2) (da_cons (dv 4) (da_cons (de_bin o_sub (de_int) (dv 5)) (da_nil))))))) (da_nil)))))) (dss_nil))))))
    (dss_one (ds_ret (dv 1))))
abbrev s__law_tops : Stmt := topS 25
theorem sc__law_tops : FnScope ["_law_rows", "_law_lost_here", "_law_process", "_law_row"] ["_law_rows", "_law_lost_here"] (defScope s__law_tops) := ⟨rfl, rfl, rfl, by decide +kernel, rfl, by decide +kernel, by decide +kernel⟩
set_option maxHeartbeats 4000000 in
theorem der__law_tops {P : Program} {w : World} {K : PySem.W.Frag} {mg : Str → Option Value} {base : Heap} {f : Addr} {fd : FuncData} (F : Fun K "_law_tops" "_law_tops" s__law_tops f fd)  (m_enumerate : mg "enumerate" = none) (m_int : mg "int" = none): FnOk P w K mg base CX0 1 f fd ["_law_rows", "_law_lost_here"] (lP ⟨P, w, K⟩ 2 (dFn 4 B_law_tops_eaaa)) := by
  refine fn_o F sc__law_tops rfl fun cdv A outer s H E hr => ?_
  have nd := sc__law_tops.nd
  have u64 := hr.units
  have u65 : (A.deeper (envOfC "_law_tops" (defScope s__law_tops) s.heap.objs.size f cdv)).units + 65 < cLine := by have := hr.un; omega
  have u1 : (A.deeper (envOfC "_law_tops" (defScope s__law_tops) s.heap.objs.size f cdv)).units + 1 < cLine := by have := hr.un; omega
  unfold B_law_tops_eaaa
  exact dss_one (ds_ret (de_lc (own := [("_law_process", 2), ("_law_row", 3)]) rfl nd (di_enum (by rfl) m_enumerate (da_cons (dv 0) (da_nil))) (blkOk_by (by first | decide +kernel | rfl)) (by decide) (fun _ _ _ _ _ => dg_tup rfl (dgs_cons (dg_name (i := 2) nd rfl (by first | exact .inl rfl | exact .inr rfl)) (dgs_cons (dg_name (i := 3) nd rfl (by first | exact .inl rfl | exact .inr rfl)) (dgs_nil)))) (fun _ _ _ _ _ => dts_nil) (fun _ _ _ _ _ => de_bin o_sub (de_bin o_add (de_mT PySem.F.slot_tuple_count PySem.F.type_tuple_count (m_tcount u64) (dv 3) (da_cons (de_int) (da_nil))) (de_int)) (de_callTy b_int (by rfl) m_int (by decide +kernel) (da_cons (de_cmp (o_in u65) (dv 2) (dv 1)) (da_nil))))))
abbrev s__law_sunk : Stmt := topS 29
theorem sc__law_sunk : FnScope ["_law_rows", "_law_lost_here", "_law_cut", "_law_letters_here", "_law_is_open", "_law_spots_here", "_law_sender", "_law_start", "_law_receiver", "_law_finish", "_law_message"] ["_law_rows", "_law_lost_here"] (defScope s__law_sunk) := ⟨rfl, rfl, rfl, by decide +kernel, rfl, by decide +kernel, by decide +kernel⟩
set_option maxHeartbeats 4000000 in
theorem der__law_sunk {P : Program} {w : World} {K : PySem.W.Frag} {mg : Str → Option Value} {base : Heap} {f : Addr} {fd : FuncData} (F : Fun K "_law_sunk" "_law_sunk" s__law_sunk f fd) (D__law_places : DFo P w K mg base 2 "_law_places" 2 (dFn 4 B_law_places_cc50)) (D__law_letters : DFo P w K mg base 1 "_law_letters" 1 (dFn 8 B_law_letters_6581)) (D__law_tops : DFo P w K mg base 1 "_law_tops" 2 (dFn 4 B_law_tops_eaaa)) (m_tuple : mg "tuple" = none) (m_min : mg "min" = none): FnOk P w K mg base CX0 3 f fd ["_law_rows", "_law_lost_here"] (lP ⟨P, w, K⟩ 2 (dFn 11 B_law_sunk_19fe)) := by
  refine fn_o F sc__law_sunk rfl fun cdv A outer s H E hr => ?_
  have nd := sc__law_sunk.nd
  have u64 := hr.units
  have u65 : (A.deeper (envOfC "_law_sunk" (defScope s__law_sunk) s.heap.objs.size f cdv)).units + 65 < cLine := by have := hr.un; omega
  have u1 : (A.deeper (envOfC "_law_sunk" (defScope s__law_sunk) s.heap.objs.size f cdv)).units + 1 < cLine := by have := hr.un; omega
  unfold B_law_sunk_19fe
  exact dss_cons (ds_par3 (i := 2) (j := 3) (l := 4) (by rfl) nd rfl rfl rfl (by decide) (by decide) (by decide) rfl rfl rfl (da_cons (de_callo D__law_tops (hr.mono (by decide)) (by rfl) (da_cons (dv 0) (da_cons (dv 1) (da_nil)))) (da_cons (de_callo D__law_letters (hr.mono (by decide)) (by rfl) (da_cons (dv 0) (da_nil))) (da_cons (de_bl) (da_nil)))) (by rfl))
    (dss_cons (ds_while PassesOwn.never (dt_val (dv 4)) (dss_cons (ds_par (i := 4) (j := 5) (by rfl) nd rfl rfl (by decide) rfl rfl (da_cons (de_bl) (da_cons (de_callo D__law_places (hr.mono (by decide)) (by rfl) (da_cons (dv 0) (da_cons (dv 2) (da_nil)))) (da_nil))) (by rfl))
    (dss_one (ds_for PassesOwn.never rfl (di_val (dv 3)) (dg_tup rfl (dgs_cons (dg_name (i := 6) nd rfl (by first | exact .inl rfl | exact .inr rfl)) (dgs_cons (dg_name (i := 7) nd rfl (by first | exact .inl rfl | exact .inr rfl)) (dgs_cons (dg_name (i := 8) nd rfl (by first | exact .inl rfl | exact .inr rfl)) (dgs_cons (dg_name (i := 9) nd rfl (by first | exact .inl rfl | exact .inr rfl)) (dgs_cons (dg_name (i := 10) nd rfl (by first | exact .inl rfl | exact .inr rfl)) (dgs_nil))))))) (dss_one (ds_if (DW.dt (dw_and (dt_cmp o_lt (dv 9) (de_ix o_ix (dv 5) (dv 8))) (dw_and1 (dt_cmp o_ge (dv 7) (de_ix o_ix (dv 5) (dv 6)))))) (dss_cons (ds_asg (b := true) (de_callB (b_min2 rfl) (by rfl) m_min (by decide +kernel) (da_cons (de_ix o_ix (dv 2) (dv 8)) (da_cons (de_mT PySem.F.slot_tuple_count PySem.F.type_tuple_count (m_tcount u64) (de_sl (de_ix o_ix (dv 0) (dv 8)) (do_none) (do_some (dv 9))) (da_cons (de_int) (da_nil))) (da_nil)))) (dg_sub (dv 2) (dv 8)))
    (dss_one (ds_set (i := 4) nd rfl (by first | exact .inl rfl | exact .inr rfl) (de_bl)))) (dss_nil)))))))
    (dss_one (ds_ret (de_callTy b_tuple (by rfl) m_tuple (by decide +kernel) (da_cons (dv 2) (da_nil))))))
abbrev s__law_values : Stmt := topS 32
theorem sc__law_values : FnScope ["_law_deck_here", "_law_rows", "_law_lost_here", "_law_due", "_law_lower", "_law_found", "_law_number", "_law_k"] ["_law_deck_here", "_law_rows", "_law_lost_here", "_law_due"] (defScope s__law_values) := ⟨rfl, rfl, rfl, by decide +kernel, rfl, by decide +kernel, by decide +kernel⟩
set_option maxHeartbeats 4000000 in
theorem der__law_values {P : Program} {w : World} {K : PySem.W.Frag} {mg : Str → Option Value} {base : Heap} {f : Addr} {fd : FuncData} (F : Fun K "_law_values" "_law_values" s__law_values f fd) (D__law_changed : DFo P w K mg base 5 "_law_changed" 2 (dFn 4 B_law_changed_f68e)) (D__law_odd : DFo P w K mg base 2 "_law_odd" 1 (dFn 2 B_law_odd_0e8b)) (D__law_sunk : DFo P w K mg base 3 "_law_sunk" 2 (dFn 11 B_law_sunk_19fe)) (D__law_next : DFo P w K mg base 1 "_law_next" 2 (dFn 4 B_law_next_74a4)) (D__law_tops : DFo P w K mg base 1 "_law_tops" 2 (dFn 4 B_law_tops_eaaa)) (m_range : mg "range" = none) (m_len : mg "len" = none) (m_list : mg "list" = none) (m_tuple : mg "tuple" = none): FnOk P w K mg base CX0 6 f fd ["_law_deck_here", "_law_rows", "_law_lost_here", "_law_due"] (lP ⟨P, w, K⟩ 4 (dFn 8 B_law_values_3d8f)) := by
  refine fn_o F sc__law_values rfl fun cdv A outer s H E hr => ?_
  have nd := sc__law_values.nd
  have u64 := hr.units
  have u65 : (A.deeper (envOfC "_law_values" (defScope s__law_values) s.heap.objs.size f cdv)).units + 65 < cLine := by have := hr.un; omega
  have u1 : (A.deeper (envOfC "_law_values" (defScope s__law_values) s.heap.objs.size f cdv)).units + 1 < cLine := by have := hr.un; omega
  unfold B_law_values_3d8f
  exact dss_cons (ds_set (i := 4) nd rfl (by first | exact .inl rfl | exact .inr rfl) (de_callTy b_tuple (by rfl) m_tuple (by decide +kernel) (da_cons (de_lc (own := [("_law_number", 6)]) rfl nd (di_val (dv 3)) (blkOk_by (by first | decide +kernel | rfl)) (by decide) (fun _ _ _ _ _ => dg_name (i := 6) nd rfl (by first | exact .inl rfl | exact .inr rfl)) (fun _ _ _ _ _ => dts_nil) (fun _ _ _ _ _ => de_callo D__law_next (hr.mono (by decide)) (by rfl) (da_cons (dv 0) (da_cons (de_bin o_add (dv 6) (de_int)) (da_nil))))) (da_nil))))
    (dss_cons (ds_set (i := 5) nd rfl (by first | exact .inl rfl | exact .inr rfl) (de_lst (da_cons (dv 3) (da_cons (de_callTy b_tuple (by rfl) m_tuple (by decide +kernel) (da_cons (de_callo D__law_tops (hr.mono (by decide)) (by rfl) (da_cons (dv 1) (da_cons (de_tup (da_nil)) (da_nil)))) (da_nil))) (da_cons (de_callTy b_tuple (by rfl) m_tuple (by decide +kernel) (da_cons (de_callo D__law_tops (hr.mono (by decide)) (by rfl) (da_cons (dv 1) (da_cons (dv 2) (da_nil)))) (da_nil))) (da_cons (de_bin o_mul (de_tup (da_cons (de_int) (da_nil))) (de_callB b_len (by rfl) m_len PySem.boot_len (da_cons (dv 1) (da_nil)))) (da_cons (dv 4) (da_cons (de_callTy b_list (by rfl) m_list (by decide +kernel) (da_cons (dv 3) (da_nil))) (da_nil)))))))))
    (dss_cons (ds_set (i := 5) nd rfl (by first | exact .inl rfl | exact .inr rfl) (de_bin o_add (dv 5) (de_lst (da_cons (de_callo D__law_sunk (hr.mono (by decide)) (by rfl) (da_cons (dv 1) (da_cons (de_bin o_add (dv 2) (de_tup (da_cons (de_callo D__law_next (hr.mono (by decide)) (by rfl) (da_cons (dv 0) (da_cons (de_callB b_len (by rfl) m_len PySem.boot_len (da_cons (dv 1) (da_nil))) (da_nil)))) (da_nil)))) (da_nil)))) (da_cons (de_revT (dv 3)) (da_cons (de_callo D__law_odd (hr.mono (by decide)) (by rfl) (da_cons (dv 0) (da_nil))) (da_nil)))))))
    (dss_one (ds_ret (de_bin o_add (dv 5) (de_lc (own := [("_law_k", 7)]) rfl nd (di_rg1 (by rfl) m_range (da_cons (de_int) (da_nil))) (blkOk_by (by first | decide +kernel | rfl)) (by decide) (fun _ _ _ _ _ => dg_name (i := 7) nd rfl (by first | exact .inl rfl | exact .inr rfl)) (fun _ _ _ _ _ => dts_nil) (fun _ _ _ _ _ => de_callo D__law_changed (hr.mono (by decide)) (by rfl) (da_cons (dv 0) (da_cons (dv 3) (da_nil))))))))))
abbrev s__law_same : Stmt := topS 33
theorem sc__law_same : FnScope ["_law_found", "_law_due"] ["_law_found", "_law_due"] (defScope s__law_same) := ⟨rfl, rfl, rfl, by decide +kernel, rfl, by decide +kernel, by decide +kernel⟩
set_option maxHeartbeats 4000000 in
theorem der__law_same {P : Program} {w : World} {K : PySem.W.Frag} {mg : Str → Option Value} {base : Heap} {f : Addr} {fd : FuncData} (F : Fun K "_law_same" "_law_same" s__law_same f fd)  (m_repr : mg "repr" = none): FnG P w K mg base 1 f fd ["_law_found", "_law_due"] (lP ⟨P, w, K⟩ 2 (dFn 2 B_law_same_6c33)) := by
  refine fn_d F sc__law_same rfl fun cdv A outer s H E hg hr => ?_
  have nd := sc__law_same.nd
  have u64 := hr.units
  have u65 : (A.deeper (envOfC "_law_same" (defScope s__law_same) s.heap.objs.size f cdv)).units + 65 < cLine := by have := hr.un; omega
  have u1 : (A.deeper (envOfC "_law_same" (defScope s__law_same) s.heap.objs.size f cdv)).units + 1 < cLine := by have := hr.un; omega
  unfold B_law_same_6c33
  exact dss_one (ds_ret (de_cmp (o_eq u64) (de_callB (b_reprD hg u64) (by rfl) m_repr (by decide +kernel) (da_cons (dv 0) (da_nil))) (de_callB (b_reprD hg u64) (by rfl) m_repr (by decide +kernel) (da_cons (dv 1) (da_nil)))))
abbrev s_is_number : Stmt := topS 1
theorem sc_is_number : FnScope ["value"] ["value"] (defScope s_is_number) := ⟨rfl, rfl, rfl, by decide +kernel, rfl, by decide +kernel, by decide +kernel⟩
set_option maxHeartbeats 4000000 in
theorem der_is_number {P : Program} {w : World} {K : PySem.W.Frag} {mg : Str → Option Value} {base : Heap} {f : Addr} {fd : FuncData} (F : Fun K "is_number" "is_number" s_is_number f fd)  (m_int : mg "int" = none) (m_isinstance : mg "isinstance" = none) (m_bool : mg "bool" = none): FnOk P w K mg base CX0 1 f fd ["value"] (lP ⟨P, w, K⟩ 1 (dFn 1 B_is_number_52f5)) := by
  refine fn_o F sc_is_number rfl fun cdv A outer s H E hr => ?_
  have nd := sc_is_number.nd
  have u64 := hr.units
  have u65 : (A.deeper (envOfC "is_number" (defScope s_is_number) s.heap.objs.size f cdv)).units + 65 < cLine := by have := hr.un; omega
  have u1 : (A.deeper (envOfC "is_number" (defScope s_is_number) s.heap.objs.size f cdv)).units + 1 < cLine := by have := hr.un; omega
  unfold B_is_number_52f5
  exact dss_one (ds_ret (de_and (de_callB b_isi (by rfl) m_isinstance (by decide +kernel) (da_cons (dv 0) (da_cons (de_ty (by rfl) m_int (by decide +kernel)) (da_nil)))) (de_one (de_not (de_callB b_isi (by rfl) m_isinstance (by decide +kernel) (da_cons (dv 0) (da_cons (de_ty (by rfl) m_bool (by decide +kernel)) (da_nil))))))))
abbrev s_is_number_within : Stmt := topS 2
theorem sc_is_number_within : FnScope ["value", "low", "high"] ["value", "low", "high"] (defScope s_is_number_within) := ⟨rfl, rfl, rfl, by decide +kernel, rfl, by decide +kernel, by decide +kernel⟩
set_option maxHeartbeats 4000000 in
theorem der_is_number_within {P : Program} {w : World} {K : PySem.W.Frag} {mg : Str → Option Value} {base : Heap} {f : Addr} {fd : FuncData} (F : Fun K "is_number_within" "is_number_within" s_is_number_within f fd) (D_is_number : DFo P w K mg base 1 "is_number" 1 (dFn 1 B_is_number_52f5)): FnOk P w K mg base CX0 2 f fd ["value", "low", "high"] (lP ⟨P, w, K⟩ 3 (dFn 3 B_is_number_within_7f04)) := by
  refine fn_o F sc_is_number_within rfl fun cdv A outer s H E hr => ?_
  have nd := sc_is_number_within.nd
  have u64 := hr.units
  have u65 : (A.deeper (envOfC "is_number_within" (defScope s_is_number_within) s.heap.objs.size f cdv)).units + 65 < cLine := by have := hr.un; omega
  have u1 : (A.deeper (envOfC "is_number_within" (defScope s_is_number_within) s.heap.objs.size f cdv)).units + 1 < cLine := by have := hr.un; omega
  unfold B_is_number_within_7f04
  exact dss_one (ds_ret (de_and (de_callo D_is_number (hr.mono (by decide)) (by rfl) (da_cons (dv 0) (da_nil))) (de_one (de_chain o_le o_le (dv 1) (dv 0) (dv 2)))))
abbrev s_state_numbers : Stmt := topS 4
theorem sc_state_numbers : FnScope ["history", "row"] ["history"] (defScope s_state_numbers) := ⟨rfl, rfl, rfl, by decide +kernel, rfl, by decide +kernel, by decide +kernel⟩
set_option maxHeartbeats 4000000 in
theorem der_state_numbers {P : Program} {w : World} {K : PySem.W.Frag} {mg : Str → Option Value} {base : Heap} {f : Addr} {fd : FuncData} (F : Fun K "state_numbers" "state_numbers" s_state_numbers f fd)  (m_tuple : mg "tuple" = none): FnOk P w K mg base CX0 1 f fd ["history"] (lP ⟨P, w, K⟩ 1 (dFn 2 B_state_numbers_78d0)) := by
  refine fn_o F sc_state_numbers rfl fun cdv A outer s H E hr => ?_
  have nd := sc_state_numbers.nd
  have u64 := hr.units
  have u65 : (A.deeper (envOfC "state_numbers" (defScope s_state_numbers) s.heap.objs.size f cdv)).units + 65 < cLine := by have := hr.un; omega
  have u1 : (A.deeper (envOfC "state_numbers" (defScope s_state_numbers) s.heap.objs.size f cdv)).units + 1 < cLine := by have := hr.un; omega
  unfold B_state_numbers_78d0
  exact dss_one (ds_ret (de_callTy b_tuple (by rfl) m_tuple (by decide +kernel) (da_cons (de_lc (own := [("row", 1)]) rfl nd (di_val (dv 0)) (blkOk_by (by first | decide +kernel | rfl)) (by decide) (fun _ _ _ _ _ => dg_name (i := 1) nd rfl (by first | exact .inl rfl | exact .inr rfl)) (fun _ _ _ _ _ => dts_nil) (fun _ _ _ _ _ => de_bin o_add (de_mT PySem.F.slot_tuple_count PySem.F.type_tuple_count (m_tcount u64) (dv 1) (da_cons (de_int) (da_nil))) (de_int))) (da_nil))))
abbrev s_is_line : Stmt := topS 9
theorem sc_is_line : FnScope ["history", "value", "presents", "number", "present"] ["history", "value"] (defScope s_is_line) := ⟨rfl, rfl, rfl, by decide +kernel, rfl, by decide +kernel, by decide +kernel⟩
set_option maxHeartbeats 4000000 in
theorem der_is_line {P : Program} {w : World} {K : PySem.W.Frag} {mg : Str → Option Value} {base : Heap} {f : Addr} {fd : FuncData} (F : Fun K "is_line" "is_line" s_is_line f fd) (D_is_number_within : DFo P w K mg base 2 "is_number_within" 3 (dFn 3 B_is_number_within_7f04)) (D_state_numbers : DFo P w K mg base 1 "state_numbers" 1 (dFn 2 B_state_numbers_78d0)) (m_zip : mg "zip" = none) (m_all : mg "all" = none) (m_tuple : mg "tuple" = none) (m_isinstance : mg "isinstance" = none) (m_len : mg "len" = none): FnOk P w K mg base CX0 3 f fd ["history", "value"] (lP ⟨P, w, K⟩ 2 (dFn 5 B_is_line_5402)) := by
  refine fn_o F sc_is_line rfl fun cdv A outer s H E hr => ?_
  have nd := sc_is_line.nd
  have u64 := hr.units
  have u65 : (A.deeper (envOfC "is_line" (defScope s_is_line) s.heap.objs.size f cdv)).units + 65 < cLine := by have := hr.un; omega
  have u1 : (A.deeper (envOfC "is_line" (defScope s_is_line) s.heap.objs.size f cdv)).units + 1 < cLine := by have := hr.un; omega
  unfold B_is_line_5402
  exact dss_cons (ds_if (DW.dt (dw_or (dt_not (dt_val (de_callB b_isi (by rfl) m_isinstance (by decide +kernel) (da_cons (dv 1) (da_cons (de_ty (by rfl) m_tuple (by decide +kernel)) (da_nil)))))) (dw_or1 (dt_cmp (o_ne u64) (de_callB b_len (by rfl) m_len PySem.boot_len (da_cons (dv 1) (da_nil))) (de_callB b_len (by rfl) m_len PySem.boot_len (da_cons (dv 0) (da_nil))))))) (dss_one (ds_ret (de_bl))) (dss_nil))
    (dss_cons (ds_set (i := 2) nd rfl (by first | exact .inl rfl | exact .inr rfl) (de_callo D_state_numbers (hr.mono (by decide)) (by rfl) (da_cons (dv 0) (da_nil))))
    (dss_one (ds_ret (de_callB (b_all rfl) (by rfl) m_all (by decide +kernel) (da_cons (de_lc (own := [("number", 3), ("present", 4)]) rfl nd (di_zip (by rfl) m_zip (da_cons (dv 1) (da_cons (dv 2) (da_nil)))) (blkOk_by (by first | decide +kernel | rfl)) (by decide) (fun _ _ _ _ _ => dg_tup rfl (dgs_cons (dg_name (i := 3) nd rfl (by first | exact .inl rfl | exact .inr rfl)) (dgs_cons (dg_name (i := 4) nd rfl (by first | exact .inl rfl | exact .inr rfl)) (dgs_nil)))) (fun _ _ _ _ _ => dts_nil) (fun _ _ _ _ _ => de_callo D_is_number_within (hr.mono (by decide)) (by rfl) (da_cons (dv 3) (da_cons (de_int) (da_cons (dv 4) (da_nil)))))) (da_nil))))))
abbrev s_is_orphan : Stmt := topS 10
theorem sc_is_orphan : FnScope ["trip", "line", "sender", "sent", "receiver", "received"] ["trip", "line"] (defScope s_is_orphan) := ⟨rfl, rfl, rfl, by decide +kernel, rfl, by decide +kernel, by decide +kernel⟩
set_option maxHeartbeats 4000000 in
theorem der_is_orphan {P : Program} {w : World} {K : PySem.W.Frag} {mg : Str → Option Value} {base : Heap} {f : Addr} {fd : FuncData} (F : Fun K "is_orphan" "is_orphan" s_is_orphan f fd) : FnOk P w K mg base CX0 1 f fd ["trip", "line"] (lP ⟨P, w, K⟩ 2 (dFn 6 B_is_orphan_8604)) := by
  refine fn_o F sc_is_orphan rfl fun cdv A outer s H E hr => ?_
  have nd := sc_is_orphan.nd
  have u64 := hr.units
  have u65 : (A.deeper (envOfC "is_orphan" (defScope s_is_orphan) s.heap.objs.size f cdv)).units + 65 < cLine := by have := hr.un; omega
  have u1 : (A.deeper (envOfC "is_orphan" (defScope s_is_orphan) s.heap.objs.size f cdv)).units + 1 < cLine := by have := hr.un; omega
  unfold B_is_orphan_8604
  exact dss_cons (ds_asg (b := true) (dv 0) (dg_tup rfl (dgs_cons (dg_tup rfl (dgs_cons (dg_name (i := 2) nd rfl (by first | exact .inl rfl | exact .inr rfl)) (dgs_cons (dg_name (i := 3) nd rfl (by first | exact .inl rfl | exact .inr rfl)) (dgs_nil)))) (dgs_cons (dg_tup rfl (dgs_cons (dg_name (i := 4) nd rfl (by first | exact .inl rfl | exact .inr rfl)) (dgs_cons (dg_name (i := 5) nd rfl (by first | exact .inl rfl | exact .inr rfl)) (dgs_nil)))) (dgs_nil)))))
    (dss_one (ds_ret (de_and (de_cmp o_lt (dv 5) (de_ix o_ix (dv 1) (dv 4))) (de_one (de_cmp o_ge (dv 3) (de_ix o_ix (dv 1) (dv 2)))))))
abbrev s_lowered : Stmt := topS 11
theorem sc_lowered : FnScope ["trips", "high", "numbers", "changed", "trip", "receiver", "received"] ["trips", "high"] (defScope s_lowered) := ⟨rfl, rfl, rfl, by decide +kernel, rfl, by decide +kernel, by decide +kernel⟩
set_option maxHeartbeats 4000000 in
theorem der_lowered {P : Program} {w : World} {K : PySem.W.Frag} {mg : Str → Option Value} {base : Heap} {f : Addr} {fd : FuncData} (F : Fun K "lowered" "lowered" s_lowered f fd) (D_is_orphan : DFo P w K mg base 1 "is_orphan" 2 (dFn 6 B_is_orphan_8604)) (m_tuple : mg "tuple" = none) (m_list : mg "list" = none): FnOk P w K mg base CX0 2 f fd ["trips", "high"] (lP ⟨P, w, K⟩ 2 (dFn 7 B_lowered_c6aa)) := by
  refine fn_o F sc_lowered rfl fun cdv A outer s H E hr => ?_
  have nd := sc_lowered.nd
  have u64 := hr.units
  have u65 : (A.deeper (envOfC "lowered" (defScope s_lowered) s.heap.objs.size f cdv)).units + 65 < cLine := by have := hr.un; omega
  have u1 : (A.deeper (envOfC "lowered" (defScope s_lowered) s.heap.objs.size f cdv)).units + 1 < cLine := by have := hr.un; omega
  unfold B_lowered_c6aa
  exact dss_cons (ds_set (i := 2) nd rfl (by first | exact .inl rfl | exact .inr rfl) (de_callTy b_list (by rfl) m_list (by decide +kernel) (da_cons (dv 1) (da_nil))))
    (dss_cons (ds_set (i := 3) nd rfl (by first | exact .inl rfl | exact .inr rfl) (de_bl))
    (dss_cons (ds_while PassesOwn.never (dt_val (dv 3)) (dss_cons (ds_set (i := 3) nd rfl (by first | exact .inl rfl | exact .inr rfl) (de_bl))
    (dss_one (ds_for PassesOwn.never rfl (di_values (dv 0)) (dg_name (i := 4) nd rfl (by first | exact .inl rfl | exact .inr rfl)) (dss_one (ds_if (dt_val (de_callo D_is_orphan (hr.mono (by decide)) (by rfl) (da_cons (dv 4) (da_cons (dv 2) (da_nil))))) (dss_cons (ds_asg (b := true) (de_ix o_ix (dv 4) (de_int)) (dg_tup rfl (dgs_cons (dg_name (i := 5) nd rfl (by first | exact .inl rfl | exact .inr rfl)) (dgs_cons (dg_name (i := 6) nd rfl (by first | exact .inl rfl | exact .inr rfl)) (dgs_nil)))))
    (dss_cons (ds_asg (b := true) (dv 6) (dg_sub (dv 2) (dv 5)))
    (dss_one (ds_set (i := 3) nd rfl (by first | exact .inl rfl | exact .inr rfl) (de_bl))))) (dss_nil)))))))
    (dss_one (ds_ret (de_callTy b_tuple (by rfl) m_tuple (by decide +kernel) (da_cons (dv 2) (da_nil)))))))
abbrev s_happened_at : Stmt := topS 5
theorem sc_happened_at : FnScope ["history", "event", "process", "row", "interval", "other"] ["history", "event"] (defScope s_happened_at) := ⟨rfl, rfl, rfl, by decide +kernel, rfl, by decide +kernel, by decide +kernel⟩
set_option maxHeartbeats 4000000 in
theorem der_happened_at {P : Program} {w : World} {K : PySem.W.Frag} {mg : Str → Option Value} {base : Heap} {f : Addr} {fd : FuncData} (F : Fun K "happened_at" "happened_at" s_happened_at f fd)  (m_enumerate : mg "enumerate" = none): FnOk P w K mg base CX0 1 f fd ["history", "event"] (lP ⟨P, w, K⟩ 2 (dFn 6 B_happened_at_e85f)) := by
  refine fn_o F sc_happened_at rfl fun cdv A outer s H E hr => ?_
  have nd := sc_happened_at.nd
  have u64 := hr.units
  have u65 : (A.deeper (envOfC "happened_at" (defScope s_happened_at) s.heap.objs.size f cdv)).units + 65 < cLine := by have := hr.un; omega
  have u1 : (A.deeper (envOfC "happened_at" (defScope s_happened_at) s.heap.objs.size f cdv)).units + 1 < cLine := by have := hr.un; omega
  unfold B_happened_at_e85f
  exact dss_cons (ds_for PassesOwn.never rfl (di_enum (by rfl) m_enumerate (da_cons (dv 0) (da_nil))) (dg_tup rfl (dgs_cons (dg_name (i := 2) nd rfl (by first | exact .inl rfl | exact .inr rfl)) (dgs_cons (dg_name (i := 3) nd rfl (by first | exact .inl rfl | exact .inr rfl)) (dgs_nil)))) (dss_cons (ds_set (i := 4) nd rfl (by first | exact .inl rfl | exact .inr rfl) (de_int))
    (dss_one (ds_for PassesOwn.never rfl (di_val (dv 3)) (dg_name (i := 5) nd rfl (by first | exact .inl rfl | exact .inr rfl)) (dss_cons (ds_if (dt_cmp (o_eq u64) (dv 5) (dv 1)) (dss_one (ds_ret (de_tup (da_cons (dv 2) (da_cons (dv 4) (da_nil)))))) (dss_nil))
    (dss_one (ds_if (dt_cmp (o_eq u64) (dv 5) (de_int)) (dss_one (ds_aug (i := 4) nd rfl (by first | exact .inl rfl | exact .inr rfl) o_iadd (de_int))) (dss_nil))))))))
    (dss_one (ds_ret (de_non)))
abbrev s_trips_of : Stmt := topS 7
theorem sc_trips_of : FnScope ["history", "messages", "message", "row", "event"] ["history"] (defScope s_trips_of) := ⟨rfl, rfl, rfl, by decide +kernel, rfl, by decide +kernel, by decide +kernel⟩
set_option maxHeartbeats 4000000 in
theorem der_trips_of {P : Program} {w : World} {K : PySem.W.Frag} {mg : Str → Option Value} {base : Heap} {f : Addr} {fd : FuncData} (F : Fun K "trips_of" "trips_of" s_trips_of f fd) (D_happened_at : DFo P w K mg base 1 "happened_at" 2 (dFn 6 B_happened_at_e85f)) (m_sorted : mg "sorted" = none): FnOk P w K mg base CX0 2 f fd ["history"] (lP ⟨P, w, K⟩ 1 (dFn 5 B_trips_of_ea9a)) := by
  refine fn_o F sc_trips_of rfl fun cdv A outer s H E hr => ?_
  have nd := sc_trips_of.nd
  have u64 := hr.units
  have u65 : (A.deeper (envOfC "trips_of" (defScope s_trips_of) s.heap.objs.size f cdv)).units + 65 < cLine := by have := hr.un; omega
  have u1 : (A.deeper (envOfC "trips_of" (defScope s_trips_of) s.heap.objs.size f cdv)).units + 1 < cLine := by have := hr.un; omega
  unfold B_trips_of_ea9a
  exact dss_cons (ds_set (i := 1) nd rfl (by first | exact .inl rfl | exact .inr rfl) (de_callB b_sorted (by rfl) m_sorted (by decide +kernel) (da_cons (de_lc2 (own := [("row", 3), ("event", 4)]) (us1 := [4]) rfl nd (di_val (dv 0)) (blkOk_by (by first | decide +kernel | rfl)) (by decide) (by decide) (by decide) (fun _ _ _ _ _ => dg_name (i := 3) nd rfl (by first | exact .inl rfl | exact .inr rfl)) (fun _ _ _ _ _ => dts_nil) (fun _ _ _ _ _ => di_val (dv 3)) (fun _ _ _ _ _ => dg_name (i := 4) nd rfl (by first | exact .inl rfl | exact .inr rfl)) (fun _ _ _ _ _ => dts_one (dt_cmp o_lt (dv 4) (de_int))) (fun _ _ _ _ _ => de_un o_neg (dv 4))) (da_nil))))
    (dss_one (ds_ret (de_dc (own := [("message", 2)]) rfl nd (di_val (dv 1)) (blkOk_by (by first | decide +kernel | rfl)) (by decide) (fun _ _ _ _ _ => dg_name (i := 2) nd rfl (by first | exact .inl rfl | exact .inr rfl)) (fun _ _ _ _ _ => dts_nil) (fun _ _ _ _ _ => dv 2) (fun _ _ _ _ _ => de_tup (da_cons (de_callo D_happened_at (hr.mono (by decide)) (by rfl) (da_cons (dv 0) (da_cons (dv 2) (da_nil)))) (da_cons (de_callo D_happened_at (hr.mono (by decide)) (by rfl) (da_cons (dv 0) (da_cons (de_un o_neg (dv 2)) (da_nil)))) (da_nil)))))))
abbrev s_fall_back : Stmt := topS 13
theorem sc_fall_back : FnScope ["history", "failed", "high", "process", "present"] ["history", "failed"] (defScope s_fall_back) := ⟨rfl, rfl, rfl, by decide +kernel, rfl, by decide +kernel, by decide +kernel⟩
set_option maxHeartbeats 4000000 in
theorem der_fall_back {P : Program} {w : World} {K : PySem.W.Frag} {mg : Str → Option Value} {base : Heap} {f : Addr} {fd : FuncData} (F : Fun K "fall_back" "fall_back" s_fall_back f fd) (D_lowered : DFo P w K mg base 2 "lowered" 2 (dFn 7 B_lowered_c6aa)) (D_trips_of : DFo P w K mg base 2 "trips_of" 1 (dFn 5 B_trips_of_ea9a)) (D_state_numbers : DFo P w K mg base 1 "state_numbers" 1 (dFn 2 B_state_numbers_78d0)) (m_enumerate : mg "enumerate" = none) (hb : BSt fd ["history"] "failed") : FnR P w K mg base CX0 3 f (fun vs H Q _ => lC ⟨P, w, K⟩ (dFnS 1 5 B_fall_back_94df) vs H Q) := by
  refine fn_s F sc_fall_back hb rfl fun cdv A outer s H E hr => ?_
  have nd := sc_fall_back.nd
  have u64 := hr.units
  have u65 : (A.deeper (envOfC "fall_back" (defScope s_fall_back) s.heap.objs.size f cdv)).units + 65 < cLine := by have := hr.un; omega
  have u1 : (A.deeper (envOfC "fall_back" (defScope s_fall_back) s.heap.objs.size f cdv)).units + 1 < cLine := by have := hr.un; omega
  unfold B_fall_back_94df
  exact dss_cons (ds_setLc (i := 2) (own := [("process", 3), ("present", 4)]) rfl nd rfl rfl (sw_true rfl rfl rfl (by decide +kernel)) (di_enum (by rfl) m_enumerate (da_cons (de_callo D_state_numbers (hr.mono (by decide)) (by rfl) (da_cons (dv 0) (da_nil))) (da_nil))) (blkOk_by (by first | decide +kernel | rfl)) (by decide) (fun _ _ _ _ _ => dg_tup rfl (dgs_cons (dg_name (i := 3) nd rfl (by first | exact .inl rfl | exact .inr rfl)) (dgs_cons (dg_name (i := 4) nd rfl (by first | exact .inl rfl | exact .inr rfl)) (dgs_nil)))) (fun _ _ _ _ _ => dts_nil) (fun _ _ _ _ _ => de_ifExp (dt_cmp (o_in u65) (dv 3) (dv 1)) (de_bin o_sub (dv 4) (de_int)) (dv 4)))
    (dss_one (ds_ret (de_callo D_lowered (hr.mono (by decide)) (by rfl) (da_cons (de_callo D_trips_of (hr.mono (by decide)) (by rfl) (da_cons (dv 0) (da_nil))) (da_cons (dv 2) (da_nil))))))
abbrev s_fall_holds : Stmt := topS 14
theorem sc_fall_holds : FnScope ["history", "failed", "value"] ["history", "failed", "value"] (defScope s_fall_holds) := ⟨rfl, rfl, rfl, by decide +kernel, rfl, by decide +kernel, by decide +kernel⟩
set_option maxHeartbeats 4000000 in
theorem der_fall_holds {P : Program} {w : World} {K : PySem.W.Frag} {mg : Str → Option Value} {base : Heap} {f : Addr} {fd : FuncData} (F : Fun K "fall_holds" "fall_holds" s_fall_holds f fd) (D_is_line : DFo P w K mg base 3 "is_line" 2 (dFn 5 B_is_line_5402)) (D_fall_back : DFs P w K mg base 3 "fall_back" (dFnS 1 5 B_fall_back_94df)): FnOk P w K mg base CX0 4 f fd ["history", "failed", "value"] (lP ⟨P, w, K⟩ 3 (dFn 3 B_fall_holds_03ce)) := by
  refine fn_o F sc_fall_holds rfl fun cdv A outer s H E hr => ?_
  have nd := sc_fall_holds.nd
  have u64 := hr.units
  have u65 : (A.deeper (envOfC "fall_holds" (defScope s_fall_holds) s.heap.objs.size f cdv)).units + 65 < cLine := by have := hr.un; omega
  have u1 : (A.deeper (envOfC "fall_holds" (defScope s_fall_holds) s.heap.objs.size f cdv)).units + 1 < cLine := by have := hr.un; omega
  unfold B_fall_holds_03ce
  exact dss_one (ds_ret (de_and (de_callo D_is_line (hr.mono (by decide)) (by rfl) (da_cons (dv 0) (da_cons (dv 2) (da_nil)))) (de_one (de_cmp (o_eq u64) (dv 2) (de_callS2 D_fall_back (hr.mono (by decide)) (by rfl) (da_cons (dv 0) (da_star (dv 1) (da_nil))))))))
abbrev s__law_one : Stmt := topS 21
theorem sc__law_one : FnScope ["_law_deck_here", "_law_items"] ["_law_deck_here", "_law_items"] (defScope s__law_one) := ⟨rfl, rfl, rfl, by decide +kernel, rfl, by decide +kernel, by decide +kernel⟩
set_option maxHeartbeats 4000000 in
theorem der__law_one {P : Program} {w : World} {K : PySem.W.Frag} {mg : Str → Option Value} {base : Heap} {f : Addr} {fd : FuncData} (F : Fun K "_law_one" "_law_one" s__law_one f fd) (D__law_next : DFo P w K mg base 1 "_law_next" 2 (dFn 4 B_law_next_74a4)) (m_len : mg "len" = none): FnOk P w K mg base CX0 2 f fd ["_law_deck_here", "_law_items"] (lP ⟨P, w, K⟩ 2 (dFn 2 B_law_one_4842)) := by
  refine fn_o F sc__law_one rfl fun cdv A outer s H E hr => ?_
  have nd := sc__law_one.nd
  have u64 := hr.units
  have u65 : (A.deeper (envOfC "_law_one" (defScope s__law_one) s.heap.objs.size f cdv)).units + 65 < cLine := by have := hr.un; omega
  have u1 : (A.deeper (envOfC "_law_one" (defScope s__law_one) s.heap.objs.size f cdv)).units + 1 < cLine := by have := hr.un; omega
  unfold B_law_one_4842
  exact dss_one (ds_ret (de_ix o_ix (dv 1) (de_callo D__law_next (hr.mono (by decide)) (by rfl) (da_cons (dv 0) (da_cons (de_callB b_len (by rfl) m_len PySem.boot_len (da_cons (dv 1) (da_nil))) (da_nil))))))
abbrev s__law_grown : Stmt := topS 22
theorem sc__law_grown : FnScope ["_law_deck_here", "_law_state", "_law_rows", "_law_names", "_law_waiting", "_law_share", "_law_process", "_law_way", "_law_ready", "_law_event", "_law_left", "_law_pair", "_law_longer", "_law_one_here"] ["_law_deck_here", "_law_state"] (defScope s__law_grown) := ⟨rfl, rfl, rfl, by decide +kernel, rfl, by decide +kernel, by decide +kernel⟩
set_option maxHeartbeats 4000000 in
theorem der__law_grown {P : Program} {w : World} {K : PySem.W.Frag} {mg : Str → Option Value} {base : Heap} {f : Addr} {fd : FuncData} (F : Fun K "_law_grown" "_law_grown" s__law_grown f fd) (D__law_one : DFo P w K mg base 2 "_law_one" 2 (dFn 2 B_law_one_4842)) (D__law_next : DFo P w K mg base 1 "_law_next" 2 (dFn 4 B_law_next_74a4)) (m_len : mg "len" = none): FnOk P w K mg base CX0 3 f fd ["_law_deck_here", "_law_state"] (lP ⟨P, w, K⟩ 2 (dFn 14 B_law_grown_680b)) := by
  refine fn_o F sc__law_grown rfl fun cdv A outer s H E hr => ?_
  have nd := sc__law_grown.nd
  have u64 := hr.units
  have u65 : (A.deeper (envOfC "_law_grown" (defScope s__law_grown) s.heap.objs.size f cdv)).units + 65 < cLine := by have := hr.un; omega
  have u1 : (A.deeper (envOfC "_law_grown" (defScope s__law_grown) s.heap.objs.size f cdv)).units + 1 < cLine := by have := hr.un; omega
  unfold B_law_grown_680b
  exact dss_cons (ds_asg (b := true) (dv 1) (dg_tup rfl (dgs_cons (dg_name (i := 2) nd rfl (by first | exact .inl rfl | exact .inr rfl)) (dgs_cons (dg_name (i := 3) nd rfl (by first | exact .inl rfl | exact .inr rfl)) (dgs_cons (dg_name (i := 4) nd rfl (by first | exact .inl rfl | exact .inr rfl)) (dgs_cons (dg_name (i := 5) nd rfl (by first | exact .inl rfl | exact .inr rfl)) (dgs_nil)))))))
    (dss_cons (ds_asg (b := true) (de_tup (da_cons (de_callo D__law_next (hr.mono (by decide)) (by rfl) (da_cons (dv 0) (da_cons (de_callB b_len (by rfl) m_len PySem.boot_len (da_cons (dv 2) (da_nil))) (da_nil)))) (da_cons (de_callo D__law_next (hr.mono (by decide)) (by rfl) (da_cons (dv 0) (da_cons (de_int) (da_nil)))) (da_nil)))) (dg_tup rfl (dgs_cons (dg_name (i := 6) nd rfl (by first | exact .inl rfl | exact .inr rfl)) (dgs_cons (dg_name (i := 7) nd rfl (by first | exact .inl rfl | exact .inr rfl)) (dgs_nil)))))
    (dss_cons (ds_setLc (i := 8) (own := [("_law_pair", 11)]) rfl nd rfl rfl (sw_true rfl rfl rfl (by decide +kernel)) (di_val (dv 4)) (blkOk_by (by first | decide +kernel | rfl)) (by decide) (fun _ _ _ _ _ => dg_name (i := 11) nd rfl (by first | exact .inl rfl | exact .inr rfl)) (fun _ _ _ _ _ => dts_one (dt_cmp (o_ne u64) (de_ix o_ix (dv 11) (de_int)) (dv 6))) (fun _ _ _ _ _ => dv 11))
    (dss_cons (ds_par (i := 9) (j := 10) (by rfl) nd rfl rfl (by decide) rfl rfl (da_cons (de_int) (da_cons (dv 3) (da_nil))) (by rfl))
    (dss_cons (ds_if (DW.dt (dw_and (dt_cmp o_ge (dv 7) (dv 5)) (dw_and (dt_cmp (o_eq u64) (de_bin o_mod (dv 7) (de_int)) (de_int)) (dw_and1 (dt_cmp (o_ne u64) (dv 8) (de_lst (da_nil))))))) (dss_cons (ds_set (i := 11) nd rfl (by first | exact .inl rfl | exact .inr rfl) (de_callo D__law_one (hr.mono (by decide)) (by rfl) (da_cons (dv 0) (da_cons (dv 8) (da_nil)))))
    (dss_one (ds_par (i := 9) (j := 4) (by rfl) nd rfl rfl (by decide) rfl rfl (da_cons (de_bin o_sub (de_int) (de_ix o_ix (dv 11) (de_int))) (da_cons (de_lc (own := [("_law_one_here", 13)]) rfl nd (di_val (dv 4)) (blkOk_by (by first | decide +kernel | rfl)) (by decide) (fun _ _ _ _ _ => dg_name (i := 13) nd rfl (by first | exact .inl rfl | exact .inr rfl)) (fun _ _ _ _ _ => dts_one (dt_cmp (o_ne u64) (dv 13) (dv 11))) (fun _ _ _ _ _ => dv 13)) (da_nil))) (by rfl)))) (dss_one (ds_if (DW.dt (dw_and (dt_cmp o_ge (dv 7) (dv 5)) (dw_and1 (dt_cmp (o_ne u64) (dv 3) (de_lst (da_nil)))))) (dss_cons (ds_par (i := 9) (j := 10) (by rfl) nd rfl rfl (by decide) rfl rfl (da_cons (de_ix o_ix (dv 3) (de_int)) (da_cons (de_sl (dv 3) (do_some (de_int)) (do_none)) (da_nil))) (by rfl))
    (dss_one (ds_set (i := 4) nd rfl (by first | exact .inl rfl | exact .inr rfl) (de_bin o_add (dv 4) (de_lst (da_cons (de_tup (da_cons (dv 9) (da_cons (dv 6) (da_nil)))) (da_nil))))))) (dss_nil))))
    (dss_cons (ds_set (i := 12) nd rfl (by first | exact .inl rfl | exact .inr rfl) (de_tup (da_cons (de_bin o_add (de_ix o_ix (dv 2) (dv 6)) (de_tup (da_cons (dv 9) (da_nil)))) (da_nil))))
    (dss_one (ds_ret (de_lst (da_cons (de_bin o_add (de_bin o_add (de_sl (dv 2) (do_none) (do_some (dv 6))) (dv 12)) (de_sl (dv 2) (do_some (de_bin o_add (dv 6) (de_int))) (do_none))) (da_cons (dv 10) (da_cons (dv 4) (da_cons (dv 5) (da_nil)))))))))))))
abbrev s__law_shuffled : Stmt := topS 19
theorem sc__law_shuffled : FnScope ["_law_deck_here", "_law_items", "_law_left", "_law_found"] ["_law_deck_here", "_law_items"] (defScope s__law_shuffled) := ⟨rfl, rfl, rfl, by decide +kernel, rfl, by decide +kernel, by decide +kernel⟩
set_option maxHeartbeats 4000000 in
theorem der__law_shuffled {P : Program} {w : World} {K : PySem.W.Frag} {mg : Str → Option Value} {base : Heap} {f : Addr} {fd : FuncData} (F : Fun K "_law_shuffled" "_law_shuffled" s__law_shuffled f fd) (D__law_next : DFo P w K mg base 1 "_law_next" 2 (dFn 4 B_law_next_74a4)) (m_len : mg "len" = none) (m_list : mg "list" = none): FnOk P w K mg base CX0 2 f fd ["_law_deck_here", "_law_items"] (lP ⟨P, w, K⟩ 2 (dFn 4 B_law_shuffled_c6aa)) := by
  refine fn_o F sc__law_shuffled rfl fun cdv A outer s H E hr => ?_
  have nd := sc__law_shuffled.nd
  have u64 := hr.units
  have u65 : (A.deeper (envOfC "_law_shuffled" (defScope s__law_shuffled) s.heap.objs.size f cdv)).units + 65 < cLine := by have := hr.un; omega
  have u1 : (A.deeper (envOfC "_law_shuffled" (defScope s__law_shuffled) s.heap.objs.size f cdv)).units + 1 < cLine := by have := hr.un; omega
  unfold B_law_shuffled_c6aa
  exact dss_cons (ds_set (i := 2) nd rfl (by first | exact .inl rfl | exact .inr rfl) (de_callTy b_list (by rfl) m_list (by decide +kernel) (da_cons (dv 1) (da_nil))))
    (dss_cons (ds_set (i := 3) nd rfl (by first | exact .inl rfl | exact .inr rfl) (de_lst (da_nil)))
    (dss_cons (ds_while PassesOwn.never (dt_cmp (o_ne u64) (dv 2) (de_lst (da_nil))) (dss_one (ds_expr (de_mL PySem.F.slot_list_append PySem.F.type_list_append m_append (dv 3) (da_cons (de_mL PySem.F.slot_list_pop PySem.F.type_list_pop m_popAt (dv 2) (da_cons (de_callo D__law_next (hr.mono (by decide)) (by rfl) (da_cons (dv 0) (da_cons (de_callB b_len (by rfl) m_len PySem.boot_len (da_cons (dv 2) (da_nil))) (da_nil)))) (da_nil))) (da_nil))))))
    (dss_one (ds_ret (dv 3)))))
abbrev s__law_begun : Stmt := topS 20
theorem sc__law_begun : FnScope ["_law_deck_here", "_law_many", "_law_rows"] ["_law_deck_here", "_law_many"] (defScope s__law_begun) := ⟨rfl, rfl, rfl, by decide +kernel, rfl, by decide +kernel, by decide +kernel⟩
set_option maxHeartbeats 4000000 in
theorem der__law_begun {P : Program} {w : World} {K : PySem.W.Frag} {mg : Str → Option Value} {base : Heap} {f : Addr} {fd : FuncData} (F : Fun K "_law_begun" "_law_begun" s__law_begun f fd) (D__law_next : DFo P w K mg base 1 "_law_next" 2 (dFn 4 B_law_next_74a4)) (D__law_shuffled : DFo P w K mg base 2 "_law_shuffled" 2 (dFn 4 B_law_shuffled_c6aa)) (m_list : mg "list" = none) (m_range : mg "range" = none): FnOk P w K mg base CX0 3 f fd ["_law_deck_here", "_law_many"] (lP ⟨P, w, K⟩ 2 (dFn 3 B_law_begun_2a66)) := by
  refine fn_o F sc__law_begun rfl fun cdv A outer s H E hr => ?_
  have nd := sc__law_begun.nd
  have u64 := hr.units
  have u65 : (A.deeper (envOfC "_law_begun" (defScope s__law_begun) s.heap.objs.size f cdv)).units + 65 < cLine := by have := hr.un; omega
  have u1 : (A.deeper (envOfC "_law_begun" (defScope s__law_begun) s.heap.objs.size f cdv)).units + 1 < cLine := by have := hr.un; omega
  unfold B_law_begun_2a66
  exact dss_cons (ds_set (i := 2) nd rfl (by first | exact .inl rfl | exact .inr rfl) (de_bin o_mul (de_tup (da_cons (de_tup (da_nil)) (da_nil))) (de_bin o_add (de_int) (de_callo D__law_next (hr.mono (by decide)) (by rfl) (da_cons (dv 0) (da_cons (dv 1) (da_nil)))))))
    (dss_one (ds_ret (de_lst (da_cons (dv 2) (da_cons (de_callo D__law_shuffled (hr.mono (by decide)) (by rfl) (da_cons (dv 0) (da_cons (de_listRg2 rfl (by rfl) m_list (by rfl) m_range (de_int) (de_int)) (da_nil)))) (da_cons (de_lst (da_nil)) (da_cons (de_bin o_add (de_int) (de_callo D__law_next (hr.mono (by decide)) (by rfl) (da_cons (dv 0) (da_cons (de_int) (da_nil))))) (da_nil))))))))
abbrev s__law_domino : Stmt := topS 18
theorem sc__law_domino : FnScope ["_law_deck_here", "_law_most", "_law_ones", "_law_others", "_law_k"] ["_law_deck_here", "_law_most"] (defScope s__law_domino) := ⟨rfl, rfl, rfl, by decide +kernel, rfl, by decide +kernel, by decide +kernel⟩
set_option maxHeartbeats 4000000 in
theorem der__law_domino {P : Program} {w : World} {K : PySem.W.Frag} {mg : Str → Option Value} {base : Heap} {f : Addr} {fd : FuncData} (F : Fun K "_law_domino" "_law_domino" s__law_domino f fd) (D__law_next : DFo P w K mg base 1 "_law_next" 2 (dFn 4 B_law_next_74a4)) (m_max : mg "max" = none) (m_range : mg "range" = none): FnOk P w K mg base CX0 2 f fd ["_law_deck_here", "_law_most"] (lP ⟨P, w, K⟩ 2 (dFn 5 B_law_domino_a8d9)) := by
  refine fn_o F sc__law_domino rfl fun cdv A outer s H E hr => ?_
  have nd := sc__law_domino.nd
  have u64 := hr.units
  have u65 : (A.deeper (envOfC "_law_domino" (defScope s__law_domino) s.heap.objs.size f cdv)).units + 65 < cLine := by have := hr.un; omega
  have u1 : (A.deeper (envOfC "_law_domino" (defScope s__law_domino) s.heap.objs.size f cdv)).units + 1 < cLine := by have := hr.un; omega
  unfold B_law_domino_a8d9
  exact dss_cons (ds_asg (b := true) (de_tup (da_cons (de_tup (da_nil)) (da_cons (de_tup (da_nil)) (da_nil)))) (dg_tup rfl (dgs_cons (dg_name (i := 2) nd rfl (by first | exact .inl rfl | exact .inr rfl)) (dgs_cons (dg_name (i := 3) nd rfl (by first | exact .inl rfl | exact .inr rfl)) (dgs_nil)))))
    (dss_cons (ds_for PassesOwn.never rfl (di_rg1 (by rfl) m_range (da_cons (de_bin o_add (de_int) (de_callo D__law_next (hr.mono (by decide)) (by rfl) (da_cons (dv 0) (da_cons (de_callB (b_max2 rfl) (by rfl) m_max (by decide +kernel) (da_cons (de_int) (da_cons (de_bin o_div (dv 1) (de_int)) (da_nil)))) (da_nil))))) (da_nil))) (dg_name (i := 4) nd rfl (by first | exact .inl rfl | exact .inr rfl)) (dss_cons (ds_set (i := 2) nd rfl (by first | exact .inl rfl | exact .inr rfl) (de_bin o_add (dv 2) (de_tup (da_cons (de_bin o_sub (de_int) (de_bin o_add (de_bin o_mul (de_int) (dv 4)) (de_int))) (da_cons (de_int) (da_cons (de_bin o_add (de_bin o_mul (de_int) (dv 4)) (de_int)) (da_nil)))))))
    (dss_one (ds_set (i := 3) nd rfl (by first | exact .inl rfl | exact .inr rfl) (de_bin o_add (dv 3) (de_tup (da_cons (de_bin o_add (de_bin o_mul (de_int) (dv 4)) (de_int)) (da_cons (de_bin o_sub (de_int) (de_bin o_add (de_bin o_mul (de_int) (dv 4)) (de_int))) (da_cons (de_int) (da_nil))))))))))
    (dss_one (ds_ret (de_tup (da_cons (dv 2) (da_cons (dv 3) (da_nil)))))))
abbrev s__law_history : Stmt := topS 23
theorem sc__law_history : FnScope ["_law_deck_here", "_law_many", "_law_most", "_law_state", "_law_k"] ["_law_deck_here", "_law_many", "_law_most"] (defScope s__law_history) := ⟨rfl, rfl, rfl, by decide +kernel, rfl, by decide +kernel, by decide +kernel⟩
set_option maxHeartbeats 4000000 in
theorem der__law_history {P : Program} {w : World} {K : PySem.W.Frag} {mg : Str → Option Value} {base : Heap} {f : Addr} {fd : FuncData} (F : Fun K "_law_history" "_law_history" s__law_history f fd) (D__law_next : DFo P w K mg base 1 "_law_next" 2 (dFn 4 B_law_next_74a4)) (D__law_grown : DFo P w K mg base 3 "_law_grown" 2 (dFn 14 B_law_grown_680b)) (D__law_begun : DFo P w K mg base 3 "_law_begun" 2 (dFn 3 B_law_begun_2a66)) (D__law_domino : DFo P w K mg base 2 "_law_domino" 2 (dFn 5 B_law_domino_a8d9)) (m_range : mg "range" = none): FnOk P w K mg base CX0 4 f fd ["_law_deck_here", "_law_many", "_law_most"] (lP ⟨P, w, K⟩ 3 (dFn 5 B_law_history_9bf0)) := by
  refine fn_o F sc__law_history rfl fun cdv A outer s H E hr => ?_
  have nd := sc__law_history.nd
  have u64 := hr.units
  have u65 : (A.deeper (envOfC "_law_history" (defScope s__law_history) s.heap.objs.size f cdv)).units + 65 < cLine := by have := hr.un; omega
  have u1 : (A.deeper (envOfC "_law_history" (defScope s__law_history) s.heap.objs.size f cdv)).units + 1 < cLine := by have := hr.un; omega
  unfold B_law_history_9bf0
  exact dss_cons (ds_if (DW.dt (dw_and (dt_cmp o_gt (dv 1) (de_int)) (dw_and1 (dt_cmp (o_eq u64) (de_callo D__law_next (hr.mono (by decide)) (by rfl) (da_cons (dv 0) (da_cons (de_int) (da_nil)))) (de_int))))) (dss_one (ds_ret (de_callo D__law_domino (hr.mono (by decide)) (by rfl) (da_cons (dv 0) (da_cons (dv 2) (da_nil)))))) (dss_nil))
    (dss_cons (ds_set (i := 3) nd rfl (by first | exact .inl rfl | exact .inr rfl) (de_callo D__law_begun (hr.mono (by decide)) (by rfl) (da_cons (dv 0) (da_cons (dv 1) (da_nil)))))
    (dss_cons (ds_for PassesOwn.never rfl (di_rg1 (by rfl) m_range (da_cons (de_callo D__law_next (hr.mono (by decide)) (by rfl) (da_cons (dv 0) (da_cons (de_bin o_add (dv 2) (de_int)) (da_nil)))) (da_nil))) (dg_name (i := 4) nd rfl (by first | exact .inl rfl | exact .inr rfl)) (dss_one (ds_set (i := 3) nd rfl (by first | exact .inl rfl | exact .inr rfl) (de_callo D__law_grown (hr.mono (by decide)) (by rfl) (da_cons (dv 0) (da_cons (dv 3) (da_nil)))))))
    (dss_one (ds_ret (de_ix o_ix (dv 3) (de_int))))))
abbrev s__law_deck : Stmt := topS 16
theorem sc__law_deck : FnScope ["_law_script", "_law_cell"] ["_law_script"] (defScope s__law_deck) := ⟨rfl, rfl, rfl, by decide +kernel, rfl, by decide +kernel, by decide +kernel⟩
set_option maxHeartbeats 4000000 in
theorem der__law_deck {P : Program} {w : World} {K : PySem.W.Frag} {mg : Str → Option Value} {base : Heap} {f : Addr} {fd : FuncData} (F : Fun K "_law_deck" "_law_deck" s__law_deck f fd)  (m_len : mg "len" = none) (m_abs : mg "abs" = none): FnOk P w K mg base CX0 1 f fd ["_law_script"] (lP ⟨P, w, K⟩ 1 (dFn 2 B_law_deck_74a9)) := by
  refine fn_o F sc__law_deck rfl fun cdv A outer s H E hr => ?_
  have nd := sc__law_deck.nd
  have u64 := hr.units
  have u65 : (A.deeper (envOfC "_law_deck" (defScope s__law_deck) s.heap.objs.size f cdv)).units + 65 < cLine := by have := hr.un; omega
  have u1 : (A.deeper (envOfC "_law_deck" (defScope s__law_deck) s.heap.objs.size f cdv)).units + 1 < cLine := by have := hr.un; omega
  unfold B_law_deck_74a9
  exact dss_one (ds_ret (de_lst (da_cons (de_lc (own := [("_law_cell", 1)]) rfl nd (di_val (de_sl (dv 0) (do_none) (do_some (de_int)))) (blkOk_by (by first | decide +kernel | rfl)) (by decide) (fun _ _ _ _ _ => dg_name (i := 1) nd rfl (by first | exact .inl rfl | exact .inr rfl)) (fun _ _ _ _ _ => dts_nil) (fun _ _ _ _ _ => de_callB b_abs (by rfl) m_abs (by decide +kernel) (da_cons (dv 1) (da_nil)))) (da_cons (de_int) (da_cons (de_int) (da_cons (de_bin o_add (de_int) (de_bin o_mul (de_int) (de_callB b_len (by rfl) m_len PySem.boot_len (da_cons (dv 0) (da_nil))))) (da_nil)))))))
abbrev s_law : Stmt := topS 34
theorem sc_law : FnScope ["_law_script", "_law_deck_here", "_law_turn", "_law_rows", "_law_lost_here", "_law_due", "_law_value", "_law_kept"] ["_law_script"] (defScope s_law) := ⟨rfl, rfl, rfl, by decide +kernel, rfl, by decide +kernel, by decide +kernel⟩
set_option maxHeartbeats 4000000 in
theorem der_law {P : Program} {w : World} {K : PySem.W.Frag} {mg : Str → Option Value} {base : Heap} {f : Addr} {fd : FuncData} (F : Fun K "law" "law" s_law f fd) (D__law_lost : DFo P w K mg base 2 "_law_lost" 2 (dFn 3 B_law_lost_0080)) (D__law_values : DFo P w K mg base 6 "_law_values" 4 (dFn 8 B_law_values_3d8f)) (D__law_same : DFn P w K mg base 1 "_law_same" 2 (dFn 2 B_law_same_6c33)) (D_fall_holds : DFo P w K mg base 4 "fall_holds" 3 (dFn 3 B_fall_holds_03ce)) (D__law_sunk : DFo P w K mg base 3 "_law_sunk" 2 (dFn 11 B_law_sunk_19fe)) (D__law_history : DFo P w K mg base 4 "_law_history" 3 (dFn 5 B_law_history_9bf0)) (D__law_deck : DFo P w K mg base 1 "_law_deck" 1 (dFn 2 B_law_deck_74a9)) (m_range : mg "range" = none) (m_repr : mg "repr" = none): FnG P w K mg base 7 f fd ["_law_script"] (lP ⟨P, w, K⟩ 1 (dFn 8 B_law_810c)) := by
  refine fn_d F sc_law rfl fun cdv A outer s H E hg hr => ?_
  have nd := sc_law.nd
  have u64 := hr.units
  have u65 : (A.deeper (envOfC "law" (defScope s_law) s.heap.objs.size f cdv)).units + 65 < cLine := by have := hr.un; omega
  have u1 : (A.deeper (envOfC "law" (defScope s_law) s.heap.objs.size f cdv)).units + 1 < cLine := by have := hr.un; omega
  unfold B_law_810c
  exact dss_cons (ds_set (i := 1) nd rfl (by first | exact .inl rfl | exact .inr rfl) (de_callo D__law_deck (hr.mono (by decide)) (by rfl) (da_cons (dv 0) (da_nil))))
    (dss_cons (ds_for PassesOwn.never rfl (di_rg1 (by rfl) m_range (da_cons (de_int) (da_nil))) (dg_name (i := 2) nd rfl (by first | exact .inl rfl | exact .inr rfl)) (dss_cons (ds_set (i := 3) nd rfl (by first | exact .inl rfl | exact .inr rfl) (de_callo D__law_history (hr.mono (by decide)) (by rfl) (da_cons (dv 1) (da_cons (de_int) (da_cons (de_int) (da_nil))))))
    (dss_one (ds_for PassesOwn.never rfl (di_val (de_lst (da_cons (de_callo D__law_lost (hr.mono (by decide)) (by rfl) (da_cons (dv 1) (da_cons (dv 3) (da_nil)))) (da_cons (de_callo D__law_lost (hr.mono (by decide)) (by rfl) (da_cons (dv 1) (da_cons (dv 3) (da_nil)))) (da_nil))))) (dg_name (i := 4) nd rfl (by first | exact .inl rfl | exact .inr rfl)) (dss_cons (ds_set (i := 5) nd rfl (by first | exact .inl rfl | exact .inr rfl) (de_callo D__law_sunk (hr.mono (by decide)) (by rfl) (da_cons (dv 3) (da_cons (dv 4) (da_nil)))))
    (dss_one (ds_for PassesOwn.never rfl (di_val (de_callo D__law_values (hr.mono (by decide)) (by rfl) (da_cons (dv 1) (da_cons (dv 3) (da_cons (dv 4) (da_cons (dv 5) (da_nil))))))) (dg_name (i := 6) nd rfl (by first | exact .inl rfl | exact .inr rfl)) (dss_cons (ds_set (i := 7) nd rfl (by first | exact .inl rfl | exact .inr rfl) (de_reprL hg u64 (by rfl) m_repr (da_cons (dv 3) (da_cons (dv 4) (da_cons (dv 6) (da_nil))))))
    (dss_cons (ds_if (dt_not (dt_val (de_call D__law_same hg (hr.mono (by decide)) (by rfl) (da_cons (de_callo D_fall_holds (hr.mono (by decide)) (by rfl) (da_cons (dv 3) (da_cons (dv 4) (da_cons (dv 6) (da_nil))))) (da_cons (de_call D__law_same hg (hr.mono (by decide)) (by rfl) (da_cons (dv 6) (da_cons (dv 5) (da_nil)))) (da_nil)))))) (dss_one (ds_ret (de_bl))) (dss_nil))
    (dss_one (ds_if (dt_cmp (o_ne u64) (de_reprL hg u64 (by rfl) m_repr (da_cons (dv 3) (da_cons (dv 4) (da_cons (dv 6) (da_nil))))) (dv 7)) (dss_one (ds_ret (de_bl))) (dss_nil))))))))))))
    (dss_one (ds_ret (de_bl))))
end Sv
set_option maxHeartbeats 1000000
set_option autoImplicit false
namespace Sv
open PySem PySem.Spec PyProof.Rows L2 PySem.W.KIN
def isDg (c : Nat) : Prop := 48 ≤ c ∧ c ≤ 57
def wdT (p : PyData) : List Nat := p.shown.cps.toList
def JT : List (List Nat) → List Nat
  | [] => []
  | [x] => x
  | x :: y :: r => x ++ (44 :: 32 :: JT (y :: r))
def tlT (n : Nat) : List Nat := if n = 1 then [44, 41] else [41]
theorem join_chars : ∀ xs : List Str, (Str.join ", " xs).cps.toList = JT (xs.map fun x => x.cps.toList)
  | [] => rfl
  | [x] => rfl
  | x :: y :: r => by
    show (x ++ ", " ++ Str.join ", " (y :: r)).cps.toList = _
    rw [Str.cps_append, Str.cps_append, Array.toList_append, Array.toList_append, join_chars (y :: r), List.append_assoc]
    rfl
theorem shownAll_map : ∀ ps : List PyData, PyData.shownAll ps = ps.map fun p => p.shown
  | [] => by simp only [PyData.shownAll, List.map_nil]
  | p :: ps => by simp only [PyData.shownAll, List.map_cons, shownAll_map ps]
theorem tup_chars (ps : List PyData) : wdT (.tuple ps) = 40 :: (JT (ps.map wdT) ++ tlT ps.length) := by
  unfold wdT
  rw [PyData.shown_tuple, Str.cps_append, Str.cps_append, Array.toList_append, Array.toList_append, join_chars, shownAll_map, List.map_map]
  show [40] ++ JT (ps.map wdT) ++ _ = _
  unfold tlT
  by_cases e : ps.length = 1
  · rw [if_pos e, if_pos (beq_iff_eq.mpr e)]
    rfl
  · rw [if_neg e, if_neg (fun z => e (beq_iff_eq.mp z))]
    rfl
theorem pre_dg : ∀ {x y a b : List Nat}, (∀ c ∈ x, isDg c) → (∀ c ∈ y, isDg c) → (∀ c r, a = c :: r → ¬ isDg c) → (∀ c r, b = c :: r → ¬ isDg c) → x ++ a = y ++ b → x = y ∧ a = b
  | [], [], _, _, _, _, _, _, h => ⟨rfl, h⟩
  | [], c :: y, a, b, _, hy, ha, _, h => absurd (hy c List.mem_cons_self) (ha c (y ++ b) h)
  | c :: x, [], a, b, hx, _, _, hb, h => absurd (hx c List.mem_cons_self) (hb c (x ++ a) h.symm)
  | c :: x, d :: y, a, b, hx, hy, ha, hb, h => by
    have h : c :: (x ++ a) = d :: (y ++ b) := h
    injection h with e h
    obtain ⟨e1, e2⟩ := pre_dg (fun z hz => hx z (List.mem_cons_of_mem _ hz)) (fun z hz => hy z (List.mem_cons_of_mem _ hz)) ha hb h
    exact ⟨by rw [e, e1], e2⟩
theorem tl_nd (n : Nat) : ∀ c r, tlT n = c :: r → ¬ isDg c := fun c r h z => by
  unfold tlT isDg at *
  split at h <;> (injection h with e _; omega)
theorem sep_nd {l : List Nat} : ∀ c r, (44 :: 32 :: l : List Nat) = c :: r → ¬ isDg c := fun c r h z => by
  unfold isDg at z
  injection h with e _
  omega
theorem tl_ne_sep {n : Nat} {l : List Nat} : tlT n ≠ 44 :: 32 :: l := fun h => by
  unfold tlT at h
  split at h
  · injection h with _ h
    injection h with h _
    exact absurd h (by decide)
  · injection h with h _
    exact absurd h (by decide)
theorem JT_inj {m n : Nat} : ∀ {xs ys : List (List Nat)}, (∀ x ∈ xs, ∀ c ∈ x, isDg c) → (∀ y ∈ ys, ∀ c ∈ y, isDg c) → xs ≠ [] → ys ≠ [] → JT xs ++ tlT m = JT ys ++ tlT n → xs = ys
  | [], _, _, _, h, _, _ => absurd rfl h
  | _ :: _, [], _, _, _, h, _ => absurd rfl h
  | [x], [y], hx, hy, _, _, h => by
    obtain ⟨e, _⟩ := pre_dg (hx x List.mem_cons_self) (hy y List.mem_cons_self) (tl_nd m) (tl_nd n) h
    rw [e]
  | [x], y :: y2 :: r, hx, hy, _, _, h => by
    have h : x ++ tlT m = y ++ (44 :: 32 :: (JT (y2 :: r) ++ tlT n)) := by
      have h : x ++ tlT m = JT (y :: y2 :: r) ++ tlT n := h
      rw [h]
      simp [JT]
    obtain ⟨_, e⟩ := pre_dg (hx x List.mem_cons_self) (hy y List.mem_cons_self) (tl_nd m) sep_nd h
    exact absurd e tl_ne_sep
  | x :: x2 :: r, [y], hx, hy, _, _, h => by
    have h : y ++ tlT n = x ++ (44 :: 32 :: (JT (x2 :: r) ++ tlT m)) := by
      have h : y ++ tlT n = JT (x :: x2 :: r) ++ tlT m := h.symm
      rw [h]
      simp [JT]
    obtain ⟨_, e⟩ := pre_dg (hy y List.mem_cons_self) (hx x List.mem_cons_self) (tl_nd n) sep_nd h
    exact absurd e tl_ne_sep
  | x :: x2 :: r, y :: y2 :: t, hx, hy, _, _, h => by
    have h : x ++ (44 :: 32 :: (JT (x2 :: r) ++ tlT m)) = y ++ (44 :: 32 :: (JT (y2 :: t) ++ tlT n)) := by simpa [JT] using h
    obtain ⟨e, e2⟩ := pre_dg (hx x List.mem_cons_self) (hy y List.mem_cons_self) sep_nd sep_nd h
    injection e2 with _ e2
    injection e2 with _ e2
    rw [e, JT_inj (xs := x2 :: r) (ys := y2 :: t) (fun z hz => hx z (List.mem_cons_of_mem _ hz)) (fun z hz => hy z (List.mem_cons_of_mem _ hz)) (fun z => nomatch z) (fun z => nomatch z) e2]
theorem wd_nat (n : Nat) : wdT (.int (n : Int)) = (Nat.toDigits 10 n).map Char.toNat := by
  unfold wdT
  rw [PyData.shown_int]
  exact signs_num n
theorem wd_dg (n : Nat) : ∀ c ∈ wdT (.int (n : Int)), isDg c := fun c hc => by
  rw [wd_nat] at hc
  obtain ⟨d, hd, rfl⟩ := List.mem_map.mp hc
  exact digit_range (Nat.isDigit_of_mem_toDigits (by decide) (by decide) hd)
theorem wd_inj {m n : Nat} (h : wdT (.int (m : Int)) = wdT (.int (n : Int))) : m = n := by
  rw [wd_nat, wd_nat] at h
  rw [← val_back m, ← val_back n, h]
theorem wd_ne (n : Nat) : wdT (.int (n : Int)) ≠ [] := fun h => by
  rw [wd_nat] at h
  have h1 := toDigits_len_ge 10 n
  rw [List.map_eq_nil_iff.mp h] at h1
  exact absurd h1 (by decide)
def natP (ns : List Nat) : PyData := .tuple (ns.map fun (n : Nat) => PyData.int (n : Int))
/-- chars of such a tuple's text behind its first -/
theorem JT_chars {P : Nat → Prop} (h44 : P 44) (h32 : P 32) : ∀ {xs : List (List Nat)}, (∀ x ∈ xs, ∀ c ∈ x, P c) → ∀ c ∈ JT xs, P c
  | [], _, c, hc => nomatch hc
  | [x], h, c, hc => h x List.mem_cons_self c hc
  | x :: y :: r, h, c, hc => by
    have hc : c ∈ x ++ (44 :: 32 :: JT (y :: r)) := hc
    rcases List.mem_append.mp hc with hc | hc
    · exact h x List.mem_cons_self c hc
    · rcases List.mem_cons.mp hc with rfl | hc
      · exact h44
      · rcases List.mem_cons.mp hc with rfl | hc
        · exact h32
        · exact JT_chars h44 h32 (fun z hz => h z (List.mem_cons_of_mem _ hz)) c hc
theorem JT_mem : ∀ {xs : List (List Nat)} {x : List Nat} {c : Nat}, x ∈ xs → c ∈ x → c ∈ JT xs
  | [x], _, c, h, hc => by rw [List.mem_singleton.mp h] at hc; exact hc
  | x :: y :: r, z, c, h, hc => by
    show c ∈ x ++ (44 :: 32 :: JT (y :: r))
    rcases List.mem_cons.mp h with rfl | h
    · exact List.mem_append_left _ hc
    · exact List.mem_append_right _ (List.mem_cons_of_mem _ (List.mem_cons_of_mem _ (JT_mem h hc)))
def okC (c : Nat) : Prop := isDg c ∨ c = 44 ∨ c = 32 ∨ c = 41
theorem nat_chars (ns : List Nat) : ∀ c ∈ JT ((ns.map fun (n : Nat) => PyData.int (n : Int)).map wdT) ++ tlT (ns.map fun (n : Nat) => PyData.int (n : Int)).length, okC c := fun c hc => by
  rcases List.mem_append.mp hc with hc | hc
  · refine JT_chars (P := okC) (.inr (.inl rfl)) (.inr (.inr (.inl rfl))) (fun x hx c hc => ?_) c hc
    obtain ⟨p, hp, rfl⟩ := List.mem_map.mp hx
    obtain ⟨n, _, rfl⟩ := List.mem_map.mp hp
    exact .inl (wd_dg n c hc)
  · unfold tlT at hc
    split at hc
    · rcases List.mem_cons.mp hc with rfl | hc
      · exact .inr (.inl rfl)
      · exact .inr (.inr (.inr (List.mem_singleton.mp hc)))
    · exact .inr (.inr (.inr (List.mem_singleton.mp hc)))
/-- a tuple with an element whose text has another sign -/
theorem tup_ne {ps : List PyData} {p : PyData} {c : Nat} (hp : p ∈ ps) (hc : c ∈ wdT p) (h : ¬ okC c) (ns : List Nat) : (PyData.tuple ps).shown ≠ (natP ns).shown := fun z => by
  have e : wdT (.tuple ps) = wdT (natP ns) := by unfold wdT; rw [z]
  unfold natP at e
  rw [tup_chars, tup_chars] at e
  injection e with _ e
  have m : c ∈ JT (ps.map wdT) ++ tlT ps.length := List.mem_append_left _ (JT_mem (List.mem_map.mpr ⟨p, hp, rfl⟩) hc)
  rw [e] at m
  exact h (nat_chars ns c m)
/-- what is no tuple -/
theorem head_ne {p : PyData} {c : Nat} {r : List Nat} (hp : wdT p = c :: r) (h : c ≠ 40) (ns : List Nat) : p.shown ≠ (natP ns).shown := fun z => by
  have e : wdT p = wdT (natP ns) := by unfold wdT; rw [z]
  unfold natP at e
  rw [tup_chars, hp] at e
  injection e with e _
  exact h e
theorem nat_inj {ms ns : List Nat} (h : (natP ms).shown = (natP ns).shown) : ms = ns := by
  have e : wdT (natP ms) = wdT (natP ns) := by unfold wdT; rw [h]
  unfold natP at e
  rw [tup_chars, tup_chars] at e
  injection e with _ e
  have dg : ∀ ks : List Nat, ∀ x ∈ (ks.map fun (n : Nat) => PyData.int (n : Int)).map wdT, ∀ c ∈ x, isDg c := fun ks x hx c hc => by
    obtain ⟨p, hp, rfl⟩ := List.mem_map.mp hx
    obtain ⟨n, _, rfl⟩ := List.mem_map.mp hp
    exact wd_dg n c hc
  have fin : ∀ {ms ns : List Nat}, (ms.map fun (n : Nat) => PyData.int (n : Int)).map wdT = (ns.map fun (n : Nat) => PyData.int (n : Int)).map wdT → ms = ns := by
    intro ms
    induction ms with
    | nil => intro ns h; cases ns with | nil => rfl | cons a r => cases h
    | cons a r ih =>
      intro ns h
      cases ns with
      | nil => cases h
      | cons b t =>
        simp only [List.map_cons] at h
        injection h with h1 h2
        rw [wd_inj h1, ih h2]
  have hd : ∀ {k : Nat} {ks : List Nat} {m : Nat}, JT (((k :: ks).map fun (n : Nat) => PyData.int (n : Int)).map wdT) ++ tlT m ≠ JT ((([] : List Nat).map fun (n : Nat) => PyData.int (n : Int)).map wdT) ++ tlT 0 := fun {k ks m} z => by
    obtain ⟨c, r, hc⟩ := List.exists_cons_of_ne_nil (wd_ne k)
    have hcd := wd_dg k c (by rw [hc]; exact List.mem_cons_self)
    cases ks with
    | nil =>
      have z : wdT (.int (k : Int)) ++ tlT m = [41] := z
      rw [hc] at z
      injection z with z _
      unfold isDg at hcd
      omega
    | cons k2 r2 =>
      have z : (wdT (.int (k : Int)) ++ (44 :: 32 :: JT (((k2 :: r2).map fun (n : Nat) => PyData.int (n : Int)).map wdT))) ++ tlT m = [41] := z
      rw [hc] at z
      injection z with z _
      unfold isDg at hcd
      omega
  cases ms with
  | nil =>
    cases ns with
    | nil => rfl
    | cons k ks => exact absurd e.symm hd
  | cons k ks =>
    cases ns with
    | nil => exact absurd e hd
    | cons k2 ks2 => exact fin (JT_inj (dg _) (dg _) (fun z => nomatch z) (fun z => nomatch z) e)
end Sv
namespace Sv
open PySem L2
theorem seqP {t u : DTS} {C : DEnds} {env : Env} {S : Sto} (P : Env → Sto → Prop) (h1 : ∀ C' : DEnds, C'.rt = C.rt → C'.bk = C.bk → C'.ct = C.ct → (∀ e s, P e s → C'.nx e s) → t C' env S) (h2 : ∀ e s, P e s → u C e s) : dSeq t u C env S :=
  h1 { C with nx := u C } rfl rfl rfl h2
theorem iteB {c : Bool} {A B : Prop} (h1 : c = true → A) (h2 : c = false → B) : if c = true then A else B := by
  cases c with
  | true => exact (if_pos rfl).mpr (h1 rfl)
  | false => exact (if_neg Bool.false_ne_true).mpr (h2 rfl)
theorem goT {A B : Prop} (h : A) : if true = true then A else B := (if_pos rfl).mpr h
theorem goF {A B : Prop} (h : B) : if false = true then A else B := (if_neg Bool.false_ne_true).mpr h
/-- all that stands stays, but at some places -/
def SK (P : Addr → Prop) (S S' : Sto) : Prop := ∀ a o, ¬ P a → S a = some o → S' a = some o
theorem SK.refl {P : Addr → Prop} (S : Sto) : SK P S S := fun _ _ _ h => h
theorem SK.trans {P : Addr → Prop} {S S1 S2 : Sto} (x : SK P S S1) (y : SK P S1 S2) : SK P S S2 := fun a o n h => y a o n (x a o n h)
theorem SK.put {P : Addr → Prop} {S : Sto} {p : Addr} {o : Ob} (h : P p) : SK P S (S.put p o) := fun a u n e => by
  rw [Sto.ne fun z => n (by rw [z]; exact h)]
  exact e
theorem SK.new {P : Addr → Prop} {S : Sto} {p : Addr} {o : Ob} (h : S p = none) : SK P S (S.put p o) := fun a u _ e => by
  rw [Sto.ne fun z => by rw [z, h] at e; cases e]
  exact e
theorem SK.mono {P Q : Addr → Prop} {S S' : Sto} (x : SK P S S') (h : ∀ a, P a → Q a) : SK Q S S' := fun a o n e => x a o (fun z => n (h a z)) e
/-- only new things -/
abbrev SG : Sto → Sto → Prop := SK fun _ => False
theorem SG.sk {P : Addr → Prop} {S S' : Sto} (x : SG S S') : SK P S S' := x.mono fun _ h => h.elim
theorem noTup (a : Addr) : (∀ ds, D.ref a ≠ D.tup ds) ∧ ∀ ds, D.ref a ≠ D.wtup ds := ⟨fun _ z => (nomatch z), fun _ z => (nomatch z)⟩
/-- the draws' state -/
def Deck (st big : Addr) (S : Sto) : Prop := st ≠ big ∧ ∃ (bs : List Int) (a b c : Int), S st = some (.lst [.ref big, .int a, .int b, .int c]) ∧ S big = some (.lst (intsD bs))
abbrev DP (st big : Addr) : Addr → Prop := fun a => a = st ∨ a = big
theorem Deck.keep {st big : Addr} {S S' : Sto} (h : Deck st big S) (k : SG S S') : Deck st big S' := by
  obtain ⟨h1, bs, a, b, c, h2, h3⟩ := h
  exact ⟨h1, bs, a, b, c, k _ _ (fun z => z) h2, k _ _ (fun z => z) h3⟩
theorem Deck.keepP {st big : Addr} {S S' : Sto} {P : Addr → Prop} (h : Deck st big S) (k : SK P S S') (n1 : ¬ P st) (n2 : ¬ P big) : Deck st big S' := by
  obtain ⟨h1, bs, a, b, c, h2, h3⟩ := h
  exact ⟨h1, bs, a, b, c, k _ _ n1 h2, k _ _ n2 h3⟩
theorem shaped_ints (bs : List Int) : SeqAt.shaped (.list (bs.map PyData.int)) = true := shaped_lst bs
theorem pys_ints {S : Sto} : ∀ bs : List Int, Pys S (intsD bs) (bs.map PyData.int)
  | [] => .nil
  | b :: r => .cons (.int b) (pys_ints r)
theorem w_next {st big : Addr} {S : Sto} {m : Int} {R : DK} (h : Deck st big S) (h0 : 0 < m) (h1 : m < 1000000) (k : ∀ d S', 0 ≤ d → d < m → Deck st big S' → SK (DP st big) S S' → R (.int d) S') : dFn 4 B_law_next_74a4 [.ref st, .int m] S R := by
  obtain ⟨hne, bs, a, b, c, hs, hb⟩ := h
  have pow : ((10 : Int) ^ (18 : Int).toNat) = 1000000000000000000 := by decide
  refine seqP (fun env S' => ∃ (x2 : Option D) (bs : List Int) (a b c : Int), env = [some (.ref st), some (.int m), x2, none] ∧ S' st = some (.lst [.ref big, .int a, .int b, .int c]) ∧ S' big = some (.lst (intsD bs)) ∧ SK (DP st big) S S') (fun C' _ _ _ hnx => ?_) ?_
  · refine ⟨fun n env S' => ∃ (x2 : Option D) (bs : List Int) (a b c : Int), n = bs.length ∧ env = [some (.ref st), some (.int m), x2, none] ∧ S' st = some (.lst [.ref big, .int a, .int b, .int c]) ∧ S' big = some (.lst (intsD bs)) ∧ SK (DP st big) S S', ⟨_, _, bs, a, b, c, rfl, rfl, hs, hb, .refl S⟩, ?_⟩
    rintro n env S1 ⟨x2, bs, a, b, c, rfl, rfl, hs, hb, sk⟩
    refine ⟨_, rfl, _, 1, _, seqOf_lst hs, rfl, rfl, _, rfl, iteB (fun ha => ?_) (fun _ => goF (hnx _ _ ⟨_, bs, a, b, c, rfl, hs, hb, sk⟩))⟩
    refine ⟨_, rfl, _, 0, _, seqOf_lst hs, rfl, rfl, rfl, fun p np => ?_⟩
    have pst : p ≠ st := fun z => by rw [z, hs] at np; cases np
    have pbig : p ≠ big := fun z => by rw [z, hb] at np; cases np
    have hs2 : (S1.put p (.lst [])) st = _ := (Sto.ne (Ne.symm pst)).trans hs
    have hb2 : (S1.put p (.lst [])) big = _ := (Sto.ne (Ne.symm pbig)).trans hb
    have sk2 : SK (DP st big) S (S1.put p (.lst [])) := sk.trans (.new np)
    have hp2 : (S1.put p (.lst [])) p = some (.lst []) := Sto.same
    generalize S1.put p (.lst []) = S2 at hs2 hb2 sk2 hp2 ⊢
    refine ⟨.list (bs.map .int), .list [], .lst hb2 (pys_ints bs), .lst hp2 .nil, shaped_ints bs, by decide +kernel, _, rfl, ?_⟩
    cases bs with
    | nil => exact goF (hnx _ _ ⟨_, [], a, b, c, rfl, hs2, hb2, sk2⟩)
    | cons e bs =>
      refine goT ⟨_, rfl, _, 0, _, seqOf_lst hs2, rfl, rfl, ⟨rfl, _, seqOf_lst hb2, noTup _⟩, big, _, 0, 0, .int e, rfl, rfl, hb2, by decide, by decide, ?_, rfl, ?_⟩
      · exact seqIndex_of (by decide) (by simp [intsD])
      have hs3 : (S2.put big (.lst ((intsD (e :: bs)).eraseIdx 0))) st = _ := (Sto.ne hne).trans hs2
      have hb3 : (S2.put big (.lst ((intsD (e :: bs)).eraseIdx 0))) big = some (.lst (intsD bs)) := Sto.same
      have sk3 : SK (DP st big) S (S2.put big (.lst ((intsD (e :: bs)).eraseIdx 0))) := sk2.trans (.put (.inr rfl))
      generalize S2.put big (.lst ((intsD (e :: bs)).eraseIdx 0)) = S3 at hs3 hb3 sk3 ⊢
      refine ⟨_, rfl, _, 3, _, seqOf_lst hs3, rfl, rfl, .inr ⟨by decide, by decide⟩, _, rfl, by decide, _, rfl, st, _, 3, 3, rfl, rfl, hs3, rfl, ?_⟩
      have hs4 : (S3.put st (.lst ([D.ref big, .int a, .int b, .int c].set 3 (.int ((c * 48271 + e + 7) % 2147483647))))) st = some (.lst [D.ref big, .int a, .int b, .int ((c * 48271 + e + 7) % 2147483647)]) := Sto.same
      have hb4 : (S3.put st (.lst ([D.ref big, .int a, .int b, .int c].set 3 (.int ((c * 48271 + e + 7) % 2147483647))))) big = _ := (Sto.ne (Ne.symm hne)).trans hb3
      have sk4 : SK (DP st big) S (S3.put st (.lst ([D.ref big, .int a, .int b, .int c].set 3 (.int ((c * 48271 + e + 7) % 2147483647))))) := sk3.trans (.put (.inl rfl))
      generalize S3.put st (.lst ([D.ref big, .int a, .int b, .int c].set 3 (.int ((c * 48271 + e + 7) % 2147483647)))) = S4 at hs4 hb4 sk4 ⊢
      refine ⟨_, rfl, _, rfl, ⟨by decide, by decide, by decide⟩, _, rfl, .inr (by split <;> exact ⟨by decide, by decide⟩), _, rfl, st, _, 1, 1, rfl, rfl, hs4, rfl, bs.length, Nat.lt_succ_self _, ?_⟩
      exact ⟨_, bs, _, _, _, rfl, rfl, Sto.same, (Sto.ne (Ne.symm hne)).trans hb4, sk4.trans (.put (.inl rfl))⟩
  · rintro env S1 ⟨x2, bs, a, b, c, rfl, hs, hb, sk⟩
    refine ⟨_, rfl, _, 1, _, seqOf_lst hs, rfl, rfl, _, rfl, iteB (fun ha => ?_) (fun _ => ?_)⟩
    · refine ⟨_, rfl, _, 1, _, seqOf_lst hs, rfl, rfl, _, rfl, h0, ?_⟩
      refine ⟨_, rfl, _, 1, _, seqOf_lst hs, rfl, rfl, _, rfl, ⟨h0, by omega⟩, _, rfl, st, _, 1, 1, rfl, rfl, hs, rfl, ?_⟩
      exact ⟨_, rfl, k _ _ (Int.emod_nonneg _ (by omega)) (Int.emod_lt_of_pos _ h0) ⟨hne, bs, _, _, _, Sto.same, (Sto.ne (Ne.symm hne)).trans hb⟩ (sk.trans (.put (.inl rfl)))⟩
    · refine ⟨_, rfl, _, 2, _, seqOf_lst hs, rfl, rfl, _, rfl, st, _, 2, 2, rfl, rfl, hs, rfl, ?_⟩
      have hs4 : (S1.put st (.lst ([D.ref big, .int a, .int b, .int c].set 2 (.int (b + 1))))) st = some (.lst [D.ref big, .int a, .int (b + 1), .int c]) := Sto.same
      have hb4 : (S1.put st (.lst ([D.ref big, .int a, .int b, .int c].set 2 (.int (b + 1))))) big = _ := (Sto.ne (Ne.symm hne)).trans hb
      have sk4 : SK (DP st big) S (S1.put st (.lst ([D.ref big, .int a, .int b, .int c].set 2 (.int (b + 1))))) := sk.trans (.put (.inl rfl))
      generalize S1.put st (.lst ([D.ref big, .int a, .int b, .int c].set 2 (.int (b + 1)))) = S4 at hs4 hb4 sk4 ⊢
      refine ⟨_, rfl, _, 3, _, seqOf_lst hs4, rfl, rfl, .inr ⟨by decide, by decide⟩, _, rfl, _, 2, _, seqOf_lst hs4, rfl, rfl, .inl ⟨by decide, by decide⟩, by decide, _, rfl, st, _, 3, 3, rfl, rfl, hs4, rfl, ?_⟩
      generalize hv : (c * 69621 + 30011 * (b + 1) + 12345) % 2147483647 = v
      have v0 : 0 ≤ v := hv ▸ Int.emod_nonneg _ (by decide)
      have v1 : v < 2147483647 := hv ▸ Int.emod_lt_of_pos _ (by decide)
      have hs5 : (S4.put st (.lst ([D.ref big, .int a, .int (b + 1), .int c].set 3 (.int v)))) st = some (.lst [D.ref big, .int a, .int (b + 1), .int v]) := Sto.same
      have hb5 : (S4.put st (.lst ([D.ref big, .int a, .int (b + 1), .int c].set 3 (.int v)))) big = _ := (Sto.ne (Ne.symm hne)).trans hb4
      have sk5 : SK (DP st big) S (S4.put st (.lst ([D.ref big, .int a, .int (b + 1), .int c].set 3 (.int v)))) := sk4.trans (.put (.inl rfl))
      generalize S4.put st (.lst ([D.ref big, .int a, .int (b + 1), .int c].set 3 (.int v))) = S5 at hs5 hb5 sk5 ⊢
      refine ⟨_, rfl, _, 3, _, seqOf_lst hs5, rfl, rfl, _, rfl, _, 3, _, seqOf_lst hs5, rfl, rfl, .inl ⟨by omega, by omega⟩, by decide, ⟨by decide, by decide⟩, _, rfl, h0, ?_⟩
      exact k _ _ (Int.emod_nonneg _ (by omega)) (Int.emod_lt_of_pos _ h0) ⟨hne, bs, _, _, _, hs5, hb5⟩ sk5
end Sv
namespace Sv
open PySem PySem.Spec PyProof.Rows L2
inductive Grown (c : Nat) (nm : List Int) : List (List Int) → List (Int × Int) → Nat → Nat → Prop
  | start : Grown c nm (List.replicate c []) [] 0 0
  | skip {r o u k} : Grown c nm r o u k → Grown c nm r o u (k + 1)
  | save {r o u k p row} : Grown c nm r o u k → r[p]? = some row → Grown c nm (r.set p (row ++ [0])) o u (k + 1)
  | send {r o u k p row m} : Grown c nm r o u k → r[p]? = some row → nm[u]? = some m → Grown c nm (r.set p (row ++ [m])) (o ++ [(m, (p : Int))]) (u + 1) (k + 1)
  | recv {r o u k row j m q} {p : Nat} : Grown c nm r o u k → r[p]? = some row → o[j]? = some (m, q) → q ≠ (p : Int) → Grown c nm (r.set p (row ++ [0 - m])) (o.eraseIdx j) u (k + 1)
def names24 : List Int := (List.range 24).map fun (i : Nat) => (1 : Int) + (i : Nat)
/-- the rows of a history that the law may draw: at most `many` rows, `most` events -/
def Good (many most : Nat) (rows : List (List Int)) : Prop := ∃ (c : Nat) (nm : List Int) (o : List (Int × Int)) (u k : Nat), 1 ≤ c ∧ c ≤ many ∧ nm.Perm names24 ∧ Grown c nm rows o u k ∧ k ≤ most
theorem Grown.len {c : Nat} {nm : List Int} {r : List (List Int)} {o : List (Int × Int)} {u k : Nat} (h : Grown c nm r o u k) : r.length = c := by
  induction h with
  | start => exact List.length_replicate ..
  | skip _ ih => exact ih
  | save _ _ ih => rw [List.length_set]; exact ih
  | send _ _ _ ih => rw [List.length_set]; exact ih
  | recv _ _ _ _ ih => rw [List.length_set]; exact ih
theorem sum_len_set {r : List (List Int)} {p : Nat} {row : List Int} {v : Int} (h : r[p]? = some row) : ((r.set p (row ++ [v])).map List.length).sum = (r.map List.length).sum + 1 := by
  induction r generalizing p with
  | nil => simp at h
  | cons a r ih =>
    cases p with
    | zero =>
      have e : a = row := Option.some.inj h
      subst e
      simp only [List.set_cons_zero, List.map_cons, List.sum_cons, List.length_append, List.length_singleton]
      omega
    | succ p =>
      have := ih (p := p) h
      simp only [List.set_cons_succ, List.map_cons, List.sum_cons, this]
      omega
theorem Grown.events {c : Nat} {nm : List Int} {r : List (List Int)} {o : List (Int × Int)} {u k : Nat} (h : Grown c nm r o u k) : (r.map List.length).sum ≤ k := by
  induction h with
  | start => simp
  | skip _ ih => omega
  | save _ h ih => rw [sum_len_set h]; omega
  | send _ h _ ih => rw [sum_len_set h]; omega
  | recv _ h _ _ ih => rw [sum_len_set h]; omega
theorem Grown.opens_le {c : Nat} {nm : List Int} {r : List (List Int)} {o : List (Int × Int)} {u k : Nat} (h : Grown c nm r o u k) : o.length ≤ k := by
  induction h with
  | start => exact Nat.le_refl _
  | skip _ ih => omega
  | save _ _ ih => omega
  | send _ _ _ ih => rw [List.length_append, List.length_singleton]; omega
  | recv _ _ _ _ ih =>
    rw [List.length_eraseIdx]
    split <;> omega
theorem len_le_sum {r : List (List Int)} {p : Nat} {row : List Int} (h : r[p]? = some row) : row.length ≤ (r.map List.length).sum := by
  induction r generalizing p with
  | nil => simp at h
  | cons a r ih =>
    cases p with
    | zero =>
      have e : a = row := Option.some.inj h
      subst e
      simp only [List.map_cons, List.sum_cons]
      omega
    | succ p =>
      have := ih (p := p) h
      simp only [List.map_cons, List.sum_cons]
      omega
def pD (p : Int × Int) : PyData := .tuple [.int p.1, .int p.2]
theorem pD_eqv (a b : Int × Int) : PyData.eqv (pD a) (pD b) = decide (a = b) := by
  obtain ⟨x, y⟩ := a
  obtain ⟨z, w⟩ := b
  have e : PyData.eqv (pD (x, y)) (pD (z, w)) = ((x == z) && ((y == w) && true)) := by simp only [pD, PyData.eqv, PyData.eqvAll]
  rw [e, Bool.and_true]
  by_cases h1 : x = z
  · by_cases h2 : y = w
    · subst h1 h2
      simp
    · have : (y == w) = false := beq_eq_false_iff_ne.mpr h2
      rw [this, Bool.and_false]
      exact (decide_eq_false fun q => h2 (Prod.mk.inj q).2).symm
  · have : (x == z) = false := beq_eq_false_iff_ne.mpr h1
    rw [this, Bool.false_and]
    exact (decide_eq_false fun q => h1 (Prod.mk.inj q).1).symm
theorem pD_lay : ∀ o : List (Int × Int), PyData.canLayAll0 (o.map pD) = true
  | [] => by simp [PyData.canLayAll0]
  | p :: r => by
    have h := pD_lay r
    simp only [List.map_cons, PyData.canLayAll0, h, pD, PyData.canLay0, Bool.and_self]
theorem pD_depth : ∀ o : List (Int × Int), PyData.depthAll (o.map pD) ≤ 1
  | [] => by simp [PyData.depthAll]
  | p :: r => by
    have h := pD_depth r
    have h2 : (pD p).depth = 1 := by simp [pD, PyData.depth, PyData.depthAll]
    simp only [List.map_cons, PyData.depthAll]
    omega
theorem shaped_pairs (o : List (Int × Int)) : SeqAt.shaped (.list (o.map pD)) = true := by
  have h1 := pD_lay o
  have h2 := pD_depth o
  show (PyData.canLay0 (.list (o.map pD)) && decide (PyData.depth (.list (o.map pD)) ≤ 64)) = true
  simp only [PyData.canLay0, PyData.depth, h1, Bool.true_and]
  exact decide_eq_true (by omega)
theorem flat_rep {α : Type} (x : α) : ∀ n : Nat, (List.replicate n [x]).flatten = List.replicate n x
  | 0 => rfl
  | n + 1 => by rw [List.replicate_succ, List.flatten_cons, flat_rep x n]; rfl
theorem names24_len : names24.length = 24 := by decide +kernel
theorem names24_at {u : Nat} (h : u < 24) : names24[u]? = some ((u : Int) + 1) := by
  unfold names24
  rw [List.getElem?_map, List.getElem?_range h]
  show some (1 + (u : Int)) = some ((u : Int) + 1)
  rw [Int.add_comm]
theorem filter_erase {α : Type} [DecidableEq α] : ∀ {l : List α} {j : Nat} {x : α}, l.Nodup → l[j]? = some x → l.filter (fun y => !decide (y = x)) = l.eraseIdx j
  | [], j, x, _, h => by simp at h
  | a :: r, 0, x, hn, h => by
    obtain rfl : a = x := Option.some.inj h
    have hr := (List.nodup_cons.mp hn).1
    rw [List.filter_cons_of_neg (by simp), List.eraseIdx_cons_zero]
    refine List.filter_eq_self.mpr fun y hy => ?_
    have : y ≠ a := fun z => hr (z ▸ hy)
    simp [this]
  | a :: r, j + 1, x, hn, h => by
    have hx : x ∈ r := List.mem_of_getElem? (i := j) h
    have ne : a ≠ x := fun z => (List.nodup_cons.mp hn).1 (z ▸ hx)
    rw [List.filter_cons_of_pos (by simp [ne]), List.eraseIdx_cons_succ, filter_erase (List.nodup_cons.mp hn).2 h]
theorem Grown.nodup {c : Nat} {nm : List Int} {r : List (List Int)} {o : List (Int × Int)} {u k : Nat} (h : Grown c nm r o u k) (hn : nm.Nodup) : (o.map (·.1)).Nodup ∧ ∀ x ∈ o, x.1 ∈ nm.take u := by
  induction h with
  | start => exact ⟨List.nodup_nil, fun x z => nomatch z⟩
  | skip _ ih => exact ih
  | save _ _ ih => exact ih
  | @send r o u k p row m g h hu ih =>
    have tk : nm.take (u + 1) = nm.take u ++ [m] := by
      rw [List.take_add_one, hu]
      rfl
    have hnot : m ∉ nm.take u := fun z => by
      have h2 : (nm.take (u + 1)).Nodup := hn.sublist (List.take_sublist _ _)
      rw [tk] at h2
      exact (List.nodup_append.mp h2).2.2 m z m (List.mem_singleton.mpr rfl) rfl
    refine ⟨?_, fun x hx => ?_⟩
    · rw [List.map_append]
      refine List.nodup_append.mpr ⟨ih.1, (by simp), fun a ha b hb => ?_⟩
      rw [List.mem_singleton.mp hb]
      obtain ⟨y, hy, rfl⟩ := List.mem_map.mp ha
      intro z
      have h3 := ih.2 y hy
      rw [show y.1 = m from z] at h3
      exact hnot h3
    · rw [tk]
      rcases List.mem_append.mp hx with z | z
      · exact List.mem_append_left _ (ih.2 x z)
      · rw [List.mem_singleton.mp z]
        exact List.mem_append_right _ (List.mem_singleton.mpr rfl)
  | @recv r o u k row j m q p g h hj _ ih =>
    refine ⟨ih.1.sublist ((List.eraseIdx_sublist _ _).map _), fun x hx => ih.2 x ((List.eraseIdx_sublist _ _).subset hx)⟩
theorem nodup_of_map {α β : Type} (f : α → β) {l : List α} (h : (l.map f).Nodup) : l.Nodup := (List.pairwise_map.mp h).imp fun n z => n (by rw [z])
theorem names_nd : names24.Nodup := by decide +kernel
theorem set_cat {α : Type} {l : List α} {p : Nat} {x : α} (hp : p < l.length) : (l.take p ++ [x]) ++ l.drop (p + 1) = l.set p x := by
  rw [List.set_eq_take_append_cons_drop, if_pos hp, List.append_assoc]
  rfl
theorem pD_shaped (p : Int × Int) : SeqAt.shaped (pD p) = true := shaped_tup [p.1, p.2]
def dOnes : Nat → List Int
  | 0 => []
  | k + 1 => dOnes k ++ [0 - (2 * (k : Int) + 1), 0, 2 * (k : Int) + 2]
def dOthers : Nat → List Int
  | 0 => []
  | k + 1 => dOthers k ++ [2 * (k : Int) + 1, 0 - (2 * (k : Int) + 2), 0]
theorem dOnes_len : ∀ k, (dOnes k).length = 3 * k
  | 0 => rfl
  | k + 1 => by
    show (dOnes k ++ [_, _, _]).length = _
    rw [List.length_append, dOnes_len k]
    show 3 * k + 3 = _
    omega
theorem dOthers_len : ∀ k, (dOthers k).length = 3 * k
  | 0 => rfl
  | k + 1 => by
    show (dOthers k ++ [_, _, _]).length = _
    rw [List.length_append, dOthers_len k]
    show 3 * k + 3 = _
    omega
theorem dGrown : ∀ k : Nat, k ≤ 12 → Grown 2 names24 [dOnes k, dOthers k] [] (2 * k) (6 * k)
  | 0, _ => .start
  | k + 1, h => by
    have ih := dGrown k (by omega)
    have e1 : names24[2 * k]? = some (2 * (k : Int) + 1) := by
      rw [names24_at (by omega)]
      congr 1
    have e2 : names24[2 * k + 1]? = some (2 * (k : Int) + 2) := by
      rw [names24_at (by omega)]
      congr 1
    have g1 := Grown.send (p := 1) ih rfl e1
    have g2 := Grown.recv (p := 0) (j := 0) g1 rfl rfl (by decide)
    have g3 := Grown.save (p := 0) g2 rfl
    have g4 := Grown.send (p := 0) g3 rfl e2
    have g5 := Grown.recv (p := 1) (j := 0) g4 rfl rfl (by decide)
    have g6 := Grown.save (p := 1) g5 rfl
    have a1 : dOnes (k + 1) = ((dOnes k ++ [0 - (2 * (k : Int) + 1)]) ++ [0]) ++ [2 * (k : Int) + 2] := by
      show dOnes k ++ [_, _, _] = _
      rw [List.append_assoc, List.append_assoc]
      rfl
    have a2 : dOthers (k + 1) = ((dOthers k ++ [2 * (k : Int) + 1]) ++ [0 - (2 * (k : Int) + 2)]) ++ [0] := by
      show dOthers k ++ [_, _, _] = _
      rw [List.append_assoc, List.append_assoc]
      rfl
    rw [a1, a2]
    exact g6
end Sv
namespace Sv
open PySem L2
/-- one turn -/
def Turn1 (g : DTG) (tt : DTT) (te : DTE) (env : Env) (d : D) (S : Sto) (K : DK) (Kn : Sto → Prop) : Prop := g d env S fun env' S' => tt env' S' fun b S2 => if b = true then te env' S2 K else Kn S2
theorem turn_y {i : Nat} {te : DTE} {env : Env} {d : D} {S : Sto} {K : DK} {Kn : Sto → Prop} (h : te (env.set i (some d)) S K) : Turn1 (dgName i) dYes te env d S K Kn := by
  show (if true = true then te (env.set i (some d)) S K else Kn S)
  exact goT h
theorem turn_n {i : Nat} {t : DTT} {te : DTE} {env : Env} {d : D} {S : Sto} {K : DK} {Kn : Sto → Prop} (h : t (env.set i (some d)) S fun b S2 => if b = true then te (env.set i (some d)) S2 K else Kn S2) : Turn1 (dgName i) t te env d S K Kn := h
theorem lc_fun {g : DTG} {tt : DTT} {te : DTE} {us : List Nat} {env : Env} {S1 : Sto} {Rp : Addr → Sto → Prop} (w : Src) (f : D → Option D) (hlen : w.items.length ≤ 100000) (live : ∀ S, SG S1 S → w.live S)
    (step : ∀ d ∈ w.items, ∀ S, SG S1 S → ∀ (K : DK) (Kn : Sto → Prop), (∀ y, f d = some y → ∀ S', SG S S' → K y S') → (f d = none → ∀ S', SG S S' → Kn S') → Turn1 g tt te (dwipe env us) d S K Kn)
    (fin : ∀ p S', S1 p = none → SG S1 S' → S' p = some (.lst (w.items.filterMap f)) → Rp p S') :
    ∀ p, S1 p = none → ∃ Pv : Nat → Sto → Prop, Pv 0 (S1.put p (.lst [])) ∧ (∀ i S, i ≤ w.items.length → Pv i S → w.live S) ∧
      (∀ i d S, w.items[i]? = some d → Pv i S → g d (dwipe env us) S fun env' S' => tt env' S' fun b S2 => if b = true then te env' S2 fun y S3 => ∃ acc, S3 p = some (.lst acc) ∧ acc.length < 1000000 ∧ Pv (i + 1) (S3.put p (.lst (acc ++ [y]))) else Pv (i + 1) S2) ∧
      ∀ S, Pv w.items.length S → Rp p S := by
  intro p np
  refine ⟨fun i S => SG S1 S ∧ S p = some (.lst ((w.items.take i).filterMap f)) ∧ i ≤ w.items.length, ⟨.new np, Sto.same, Nat.zero_le _⟩, fun i S _ h => live S h.1, fun i d S hd h => ?_, fun S h => ?_⟩
  · have hi : i < w.items.length := (List.getElem?_eq_some_iff.mp hd).1
    have ht : w.items.take (i + 1) = w.items.take i ++ [d] := by rw [List.take_add_one, hd]; rfl
    refine step d (List.mem_of_getElem? hd) S h.1 _ _ (fun y hy S' sg => ?_) (fun hn S' sg => ?_)
    · have hp : S' p = _ := sg _ _ (fun z => z) h.2.1
      have hl : ((w.items.take i).filterMap f).length ≤ 100000 := Nat.le_trans (List.length_filterMap_le ..) (by rw [List.length_take]; omega)
      refine ⟨_, hp, by omega, fun a o n e => ?_, ?_, hi⟩
      · have hap : a ≠ p := fun z => by rw [z, np] at e; cases e
        rw [Sto.ne hap]
        exact sg _ _ n (h.1 _ _ n e)
      · rw [Sto.same, ht, List.filterMap_append]
        simp [hy]
    · refine ⟨h.1.trans sg, ?_, hi⟩
      rw [sg _ _ (fun z => z) h.2.1, ht, List.filterMap_append]
      simp [hn]
  · have := h.2.1
    rw [List.take_length] at this
    exact fin p S np h.1 this
theorem fm_map {α β : Type} (f : α → β) (l : List α) : l.filterMap (fun x => some (f x)) = l.map f := by
  induction l with
  | nil => rfl
  | cons a l ih => rw [List.filterMap_cons, List.map_cons, ih]
/-- data of rows -/
def rowD (r : List Int) : D := .tup (intsD r)
def rowsD (rows : List (List Int)) : List D := rows.map rowD
theorem w_deck {ns : List Int} {S : Sto} {R : DK} (hn : ns.length ≤ 63) (k : ∀ st big S', Deck st big S' → SG S S' → S st = none → S big = none → R (.ref st) S') : dFn 2 B_law_deck_74a9 [.rol (intsD ns)] S R := by
  refine ⟨_, rfl, 63, rfl, fun p np => ⟨⟨(cutD (intsD ns) none (some 63)), fun S' => S' p = _⟩, ⟨_, Sto.same, rfl⟩, ?_⟩⟩
  have sg1 : SG S (S.put p (.lst (cutD (intsD ns) none (some 63)))) := .new np
  have hc : ∃ bs : List Int, cutD (intsD ns) none (some 63) = intsD bs := ⟨(ns.drop (HT.sIx (intsD ns).length 0 none)).take (HT.sIx (intsD ns).length (intsD ns).length (some 63) - HT.sIx (intsD ns).length 0 none), by
    unfold cutD intsD
    rw [List.map_take, List.map_drop]⟩
  have hl : (cutD (intsD ns) none (some 63)).length ≤ 63 := by
    unfold cutD
    rw [List.length_take, List.length_drop]
    have : (intsD ns).length = ns.length := List.length_map ..
    omega
  obtain ⟨bs, hbs⟩ := hc
  generalize hcc : cutD (intsD ns) none (some 63) = cc at *
  subst hbs
  have hp : (S.put p (.lst (intsD bs))) p = some (.lst (intsD bs)) := Sto.same
  generalize S.put p (.lst (intsD bs)) = S1 at *
  have hfm : (intsD bs).filterMap (fun d => match d with | .int i => some (D.int (if i < 0 then -i else i)) | _ => none) = intsD (bs.map fun i => if i < 0 then -i else i) := by
    unfold intsD
    rw [List.filterMap_map, List.map_map]
    exact fm_map _ bs
  refine lc_fun ⟨intsD bs, fun S' => S' p = _⟩ (fun d => match d with | .int i => some (D.int (if i < 0 then -i else i)) | _ => none) (by show (intsD bs).length ≤ 100000; omega) (fun S' sg => sg _ _ (fun z => z) hp) (fun d hd S2 sg K Kn hk _ => ?_) fun q S2 nq sg2 hq => ?_
  · obtain ⟨i, _, rfl⟩ := List.mem_map.mp hd
    exact turn_y ⟨_, rfl, i, rfl, hk _ rfl _ (.refl _)⟩
  · rw [hfm] at hq
    refine ⟨_, rfl, _, _, rfl, rfl, ?_⟩
    refine ⟨.inl ⟨by decide, by decide⟩, rfl, fun st nst => ?_⟩
    have hqs : q ≠ st := fun z => by rw [← z, hq] at nst; cases nst
    refine k st q _ ⟨Ne.symm hqs, _, 0, 0, _, Sto.same, (Sto.ne hqs).trans hq⟩ ((sg1.trans sg2).trans (.new nst)) ?_ ?_
    · cases e : S st with
      | none => rfl
      | some o => rw [(sg1.trans sg2) _ _ (fun z => z) e] at nst; cases nst
    · cases e : S q with
      | none => rfl
      | some o => rw [sg1 _ _ (fun z => z) e] at nq; cases nq
end Sv
namespace Sv
open PySem L2
theorem Deck.st' {st big : Addr} {S : Sto} (h : Deck st big S) : ∃ o, S st = some o := by
  obtain ⟨_, _, _, _, _, h, _⟩ := h
  exact ⟨_, h⟩
theorem Deck.big' {st big : Addr} {S : Sto} (h : Deck st big S) : ∃ o, S big = some o := by
  obtain ⟨_, _, _, _, _, _, h⟩ := h
  exact ⟨_, h⟩
theorem Deck.fresh {st big : Addr} {S : Sto} (h : Deck st big S) {p : Addr} (n : S p = none) : p ≠ st ∧ p ≠ big := by
  obtain ⟨o, e⟩ := h.st'
  obtain ⟨u, f⟩ := h.big'
  exact ⟨fun z => (by rw [z, e] at n; cases n), fun z => (by rw [z, f] at n; cases n)⟩
theorem SK.free {P : Addr → Prop} {S S' : Sto} (k : SK P S S') {p : Addr} (n : S' p = none) (hp : ¬ P p) : S p = none := by
  cases e : S p with
  | none => rfl
  | some o => rw [k _ _ hp e] at n; cases n
theorem rg_at {lo : Int} {n i : Nat} {d : D} (h : (rgD lo n)[i]? = some d) : i < n ∧ d = .int (lo + (i : Nat)) := by
  have hi : i < n := by
    have := (List.getElem?_eq_some_iff.mp h).1
    rwa [rgD, List.length_map, List.length_range] at this
  refine ⟨hi, ?_⟩
  rw [rgD, List.getElem?_map, List.getElem?_range hi] at h
  cases h
  rfl
theorem rg_len (lo : Int) (n : Nat) : (rgD lo n).length = n := by rw [rgD, List.length_map, List.length_range]
theorem w_domino {st big : Addr} {S : Sto} {most : Nat} {R : DK} (h : Deck st big S) (h6 : 6 ≤ most) (h60 : most ≤ 60) (k : ∀ (n : Nat) S', 1 ≤ n → 6 * n ≤ most → Deck st big S' → SK (DP st big) S S' → R (.tup [rowD (dOnes n), rowD (dOthers n)]) S') : dFn 5 B_law_domino_a8d9 [.ref st, .int most] S R := by
  refine ⟨rfl, rfl, rfl, [.tup [], .tup []], rfl, .inl (.inl rfl), _, _, rfl, _, _, rfl, rfl, ?_⟩
  refine ⟨_, rfl, _, rfl, ⟨by decide, by decide⟩, 1, _, rfl, rfl, ?_⟩
  have hm : (if (most : Int) / 6 > 1 then (most : Int) / 6 else 1) = (most : Int) / 6 := by split <;> omega
  rw [hm]
  refine w_next h (by omega) (by omega) fun d S1 d0 d1 D1 k1 => ⟨_, rfl, by omega, by omega, ?_⟩
  obtain ⟨n, rfl⟩ : ∃ n : Nat, d = (n : Int) := ⟨d.toNat, by omega⟩
  have hlen : (rgD 0 ((1 : Int) + n).toNat).length = n + 1 := by rw [rgD, List.length_map, List.length_range]; omega
  refine ⟨fun i env S' => ∃ x4 : Option D, env = [some (.ref st), some (.int most), some (rowD (dOnes i)), some (rowD (dOthers i)), x4] ∧ S1 = S' ∧ i ≤ n + 1, ⟨_, rfl, rfl, Nat.zero_le _⟩, fun _ _ _ _ _ => trivial, ?_, ?_⟩
  · rintro i d env S2 hd ⟨x4, rfl, rfl, hi⟩
    obtain ⟨hi', hd'⟩ := rg_at hd
    have hi : i < n + 1 := by omega
    rw [Int.zero_add] at hd'
    subst hd'
    refine ⟨_, rfl, _, rfl, .inl ⟨by decide, by decide⟩, _, rfl, .inl ⟨by decide, by decide⟩, rfl, by simp [rowD, intsD, dOnes_len]; omega, ?_⟩
    refine ⟨_, rfl, _, rfl, .inl ⟨by decide, by decide⟩, _, rfl, .inl ⟨by decide, by decide⟩, rfl, by simp [rowD, intsD, dOthers_len]; omega, ?_⟩
    refine ⟨some (.int (i : Int)), ?_, rfl, hi⟩
    have e1 : intsD (dOnes i) ++ [.int (0 - (2 * (i : Int) + 1)), .int 0, .int (2 * (i : Int) + 2)] = intsD (dOnes (i + 1)) := by
      simp [intsD, dOnes]
    have e2 : intsD (dOthers i) ++ [.int (2 * (i : Int) + 1), .int (0 - (2 * (i : Int) + 2)), .int 0] = intsD (dOthers (i + 1)) := by
      simp [intsD, dOthers]
    show _ = [some (D.ref st), some (D.int most), some (D.tup (intsD (dOnes (i + 1)))), some (D.tup (intsD (dOthers (i + 1)))), some (D.int (i : Int))]
    rw [← e1, ← e2]
    rfl
  · rintro env S2 ⟨x4, rfl, rfl, hi⟩
    refine ⟨_, rfl, _, rfl, rfl, ?_⟩
    have := k (n + 1) S1 (by omega) (by omega) D1 k1
    rw [← hlen] at this
    exact this
theorem eraseIdx_map' {α β : Type} (f : α → β) : ∀ (l : List α) (j : Nat), (l.map f).eraseIdx j = (l.eraseIdx j).map f
  | [], _ => rfl
  | _ :: _, 0 => rfl
  | a :: l, j + 1 => by
    show f a :: (l.map f).eraseIdx j = f a :: (l.eraseIdx j).map f
    rw [eraseIdx_map' f l j]
theorem perm_eraseIdx {α : Type} : ∀ (l : List α) (j : Nat) (h : j < l.length), (l[j] :: l.eraseIdx j).Perm l
  | a :: l, 0, _ => .refl _
  | a :: l, j + 1, h => by
    have hj : j < l.length := Nat.lt_of_succ_lt_succ h
    have ih := perm_eraseIdx l j hj
    exact (List.Perm.swap a (l[j]'hj) (l.eraseIdx j)).trans (ih.cons a)
theorem intsD_len (xs : List Int) : (intsD xs).length = xs.length := List.length_map ..
theorem w_shuffled {st big : Addr} {S : Sto} {d : D} {ns : List Int} {R : DK} (h : Deck st big S) (hd : seqOf S d = some (intsD ns)) (hn : ns.length ≤ 1000)
    (k : ∀ (p : Addr) (ms : List Int) S', Deck st big S' → SK (DP st big) S S' → S p = none → S' p = some (.lst (intsD ms)) → ms.Perm ns → R (.ref p) S') : dFn 4 B_law_shuffled_c6aa [.ref st, d] S R := by
  refine ⟨_, rfl, d, _, rfl, hd, fun l nl => ⟨rfl, fun f nf => ?_⟩⟩
  have hlf : l ≠ f := fun z => by rw [← z, Sto.same] at nf; cases nf
  have k0 : SK (DP st big) S ((S.put l (.lst (intsD ns))).put f (.lst [])) := (SK.new nl).trans (.new nf)
  have nfS : S f = none := by rw [Sto.ne (Ne.symm hlf)] at nf; exact nf
  obtain ⟨l1, l2⟩ := h.fresh nl
  obtain ⟨f1, f2⟩ := h.fresh nfS
  have h0 : Deck st big ((S.put l (.lst (intsD ns))).put f (.lst [])) := by
    obtain ⟨a1, bs, a, b, c, a2, a3⟩ := h
    exact ⟨a1, bs, a, b, c, (Sto.ne (Ne.symm f1)).trans ((Sto.ne (Ne.symm l1)).trans a2), (Sto.ne (Ne.symm f2)).trans ((Sto.ne (Ne.symm l2)).trans a3)⟩
  have hl0 : ((S.put l (.lst (intsD ns))).put f (.lst [])) l = some (.lst (intsD ns)) := (Sto.ne hlf).trans Sto.same
  have hf0 : ((S.put l (.lst (intsD ns))).put f (.lst [])) f = some (.lst (intsD [])) := Sto.same
  generalize (S.put l (.lst (intsD ns))).put f (.lst []) = S0 at k0 h0 hl0 hf0 ⊢
  show dSeq (dWhile _ _) (dRet _) _ [some (D.ref st), some d, some (D.ref l), some (D.ref f)] S0
  refine seqP (fun env S' => env = [some (.ref st), some d, some (.ref l), some (.ref f)] ∧ ∃ ms : List Int, Deck st big S' ∧ SK (DP st big) S S' ∧ S' f = some (.lst (intsD ms)) ∧ ms.Perm ns) (fun C' _ _ _ hnx => ?_) ?_
  · refine ⟨fun n env S' => ∃ xs ys : List Int, n = xs.length ∧ env = [some (.ref st), some d, some (.ref l), some (.ref f)] ∧ Deck st big S' ∧ SK (DP st big) S S' ∧ S' l = some (.lst (intsD xs)) ∧ S' f = some (.lst (intsD ys)) ∧ (ys ++ xs).Perm ns, ⟨_, ns, [], rfl, rfl, h0, k0, hl0, hf0, .refl _⟩, ?_⟩
    rintro n env S1 ⟨xs, ys, rfl, rfl, D1, k1, hl, hf, pm⟩
    refine ⟨_, rfl, rfl, fun p np => ?_⟩
    have k2 : SG S1 (S1.put p (.lst [])) := .new np
    have D2 := D1.keep k2
    have hl2 := k2 _ _ (fun z => z) hl
    have hf2 := k2 _ _ (fun z => z) hf
    have hp2 : (S1.put p (.lst [])) p = some (.lst []) := Sto.same
    have k2' := k1.trans k2.sk
    generalize S1.put p (.lst []) = S2 at D2 hl2 hf2 hp2 k2' ⊢
    refine ⟨_, _, .lst hl2 (pys_ints xs), .lst hp2 .nil, shaped_ints xs, by decide +kernel, _, rfl, ?_⟩
    cases xs with
    | nil =>
      refine goF (hnx _ _ ⟨rfl, ys, D2, k2', hf2, ?_⟩)
      rw [List.append_nil] at pm
      exact pm
    | cons x xs =>
      have hle : (x :: xs).length ≤ 1000 := by
        have := pm.length_eq
        rw [List.length_append] at this
        omega
      refine goT ⟨_, rfl, ⟨rfl, _, seqOf_lst hf2, noTup _⟩, _, rfl, ⟨rfl, _, seqOf_lst hl2, noTup _⟩, _, rfl, _, rfl, _, _, rfl, seqOf_lst hl2, rfl, ?_⟩
      rw [intsD_len]
      have hle' : ((x :: xs).length : Int) ≤ 1000 := by exact_mod_cast hle
      have hlpos : (0 : Int) < ((x :: xs).length : Int) := by rw [List.length_cons]; omega
      refine w_next D2 hlpos (by omega) fun i S3 i0 i1 D3 k3 => ?_
      have hl3 := k3 _ _ (fun z => z.elim l1 l2) hl2
      have hf3 := k3 _ _ (fun z => z.elim f1 f2) hf2
      obtain ⟨j, rfl⟩ : ∃ j : Nat, i = (j : Int) := ⟨i.toNat, by omega⟩
      have hj : j < (x :: xs).length := by omega
      have hx : (x :: xs)[j]? = some (x :: xs)[j] := List.getElem?_eq_getElem hj
      refine ⟨l, _, (j : Int), j, .int (x :: xs)[j], rfl, rfl, hl3, by omega, by omega, ?_, by rw [intsD, List.getElem?_map, hx]; rfl, ?_⟩
      · exact seqIndex_of (by omega) (by rw [intsD_len]; omega)
      have e1 : (intsD (x :: xs)).eraseIdx j = intsD ((x :: xs).eraseIdx j) := by
        unfold intsD
        rw [eraseIdx_map']
      rw [e1]
      have hf4 : (S3.put l (.lst (intsD ((x :: xs).eraseIdx j)))) f = _ := (Sto.ne (Ne.symm hlf)).trans hf3
      have nlP : ¬ DP st big l := fun z => z.elim l1 l2
      have nfP : ¬ DP st big f := fun z => z.elim f1 f2
      refine ⟨f, _, _, rfl, rfl, hf4, by rw [intsD_len]; have := pm.length_eq; rw [List.length_append] at this; omega, _, ?_, (x :: xs).eraseIdx j, ys ++ [(x :: xs)[j]], rfl, rfl, ?_, ?_, (Sto.ne hlf).trans Sto.same, ?_, ?_⟩
      · rw [List.length_eraseIdx, if_pos hj, List.length_cons]
        omega
      · obtain ⟨a1, bs, a, b, c, a2, a3⟩ := D3
        exact ⟨a1, bs, a, b, c, (Sto.ne (Ne.symm f1)).trans ((Sto.ne (Ne.symm l1)).trans a2), (Sto.ne (Ne.symm f2)).trans ((Sto.ne (Ne.symm l2)).trans a3)⟩
      · intro a o n e
        have na : a ≠ l := fun z => by rw [z, nl] at e; cases e
        have nb : a ≠ f := fun z => by rw [z, nfS] at e; cases e
        rw [Sto.ne nb, Sto.ne na]
        exact k3 _ _ n (k2' _ _ n e)
      · rw [Sto.same]
        unfold intsD
        rw [List.map_append]
        rfl
      · rw [List.append_assoc]
        refine (List.Perm.append_left ys ?_).trans pm
        have : ((x :: xs)[j] :: (x :: xs).eraseIdx j).Perm (x :: xs) := perm_eraseIdx _ j hj
        exact this
  · rintro env S1 ⟨rfl, ms, D1, k1, hf, pm⟩
    exact ⟨_, rfl, k f ms S1 D1 k1 nfS hf pm⟩
/-- one of the items -/
theorem w_one {st big : Addr} {S : Sto} {d : D} {ds : List D} {R : DK} (h : Deck st big S) (hd : ∀ S', SK (DP st big) S S' → seqOf S' d = some ds) (h0 : ds ≠ []) (hn : ds.length ≤ 1000)
    (k : ∀ (j : Nat) (x : D) S', ds[j]? = some x → Deck st big S' → SK (DP st big) S S' → R x S') : dFn 2 B_law_one_4842 [.ref st, d] S R := by
  refine ⟨_, rfl, _, rfl, _, rfl, d, _, rfl, hd S (.refl S), rfl, ?_⟩
  have hp : 0 < ds.length := List.length_pos_iff.mpr h0
  refine w_next h (by omega) (by omega) fun i S3 i0 i1 D3 k3 => ?_
  obtain ⟨j, rfl⟩ : ∃ j : Nat, i = (j : Int) := ⟨i.toNat, by omega⟩
  have hj : j < ds.length := by omega
  have hx := List.getElem?_eq_getElem hj
  refine ⟨ds, j, ds[j], hd S3 k3, rfl, ?_, k j _ S3 hx D3 k3⟩
  unfold atI ixN
  rw [if_pos i0, if_pos i1]
  exact hx
end Sv
namespace Sv
open PySem L2
def pairD (p : Int × Int) : D := .tup [.int p.1, .int p.2]
def GS (S : Sto) (st big t : Addr) (nm : List Int) (rows : List (List Int)) (o : List (Int × Int)) (u : Nat) (sh : Int) : Prop :=
  ∃ N O : Addr, S t = some (.lst [.tup (rowsD rows), .ref N, .ref O, .int sh]) ∧ S N = some (.lst (intsD (nm.drop u))) ∧ S O = some (.lst (o.map pairD)) ∧ (N ≠ st ∧ N ≠ big) ∧ (O ≠ st ∧ O ≠ big) ∧ t ≠ st ∧ t ≠ big
theorem nDP {st big a : Addr} (h : a ≠ st ∧ a ≠ big) : ¬ DP st big a := fun z => z.elim h.1 h.2
theorem GS.keep {S S' : Sto} {st big t : Addr} {nm : List Int} {rows : List (List Int)} {o : List (Int × Int)} {u : Nat} {sh : Int} (h : GS S st big t nm rows o u sh) (k : SK (DP st big) S S') : GS S' st big t nm rows o u sh := by
  obtain ⟨N, O, h1, h2, h3, h4, h5, h6⟩ := h
  exact ⟨N, O, k _ _ (nDP h6) h1, k _ _ (nDP h4) h2, k _ _ (nDP h5) h3, h4, h5, h6⟩
theorem rg24D : rgD 1 24 = intsD names24 := by
  unfold rgD intsD names24
  rw [List.map_map]
  rfl
theorem w_begun {st big : Addr} {S : Sto} {many : Nat} {R : DK} (h : Deck st big S) (h1 : 1 ≤ many) (h6 : many ≤ 6)
    (k : ∀ (t : Addr) (nm : List Int) (c : Nat) (sh : Int) S', GS S' st big t nm (List.replicate c []) [] 0 sh → nm.Perm names24 → 1 ≤ c → c ≤ many → Deck st big S' → SK (DP st big) S S' → R (.ref t) S') : dFn 3 B_law_begun_2a66 [.ref st, .int many] S R := by
  refine ⟨rfl, rfl, _, rfl, _, rfl, rfl, w_next h (by omega) (by omega) fun d S1 d0 d1 D1 k1 => ?_⟩
  obtain ⟨c, rfl⟩ : ∃ c : Nat, d = (c : Int) := ⟨d.toNat, by omega⟩
  refine ⟨by simp, by omega, by omega, by decide, ?_⟩
  rw [show ((1 : Int) + c).toNat = c + 1 by omega, flat_rep]
  refine ⟨_, rfl, _, rfl, 1, 25, rfl, rfl, by decide, by decide, by decide, by decide, fun l nl => ⟨rfl, ?_⟩⟩
  have D2 : Deck st big (S1.put l (.lst (rgD 1 (25 - 1 : Int).toNat))) := D1.keep (.new nl)
  have k2 : SK (DP st big) S (S1.put l (.lst (rgD 1 (25 - 1 : Int).toNat))) := k1.trans (.new nl)
  have hl2 : (S1.put l (.lst (rgD 1 (25 - 1 : Int).toNat))) l = some (.lst (intsD names24)) := by rw [Sto.same, ← rg24D]; rfl
  generalize S1.put l (.lst (rgD 1 (25 - 1 : Int).toNat)) = S2 at D2 k2 hl2 ⊢
  refine w_shuffled D2 (seqOf_lst hl2) (by rw [names24_len]; decide) fun p ms S3 D3 k3 np hp pm => ?_
  have p12 := D2.fresh np
  refine ⟨rfl, fun O nO => ?_⟩
  have D4 : Deck st big (S3.put O (.lst [])) := D3.keep (.new nO)
  have k4 : SK (DP st big) S (S3.put O (.lst [])) := (k2.trans k3).trans (.new nO)
  have hp4 : (S3.put O (.lst [])) p = _ := (Sto.ne fun z => by rw [z, nO] at hp; cases hp).trans hp
  have hO4 : (S3.put O (.lst [])) O = some (.lst ([].map pairD)) := Sto.same
  have O12 := D3.fresh nO
  generalize S3.put O (.lst []) = S4 at D4 k4 hp4 hO4 ⊢
  refine ⟨_, rfl, rfl, w_next D4 (by decide) (by decide) fun sh S5 s0 s1 D5 k5 => ⟨rfl, fun t nt => ?_⟩⟩
  have k6 : SK (DP st big) S5 (S5.put t (.lst [.tup (List.replicate (c + 1) (.tup [])), .ref p, .ref O, .int (1 + sh)])) := .new nt
  refine k t ms (c + 1) (1 + sh) _ ⟨p, O, ?_, ?_, ?_, p12, O12, D5.fresh nt⟩ pm (by omega) (by omega) (D5.keep (.new nt)) ((k4.trans k5).trans k6)
  · rw [Sto.same]
    unfold rowsD
    rw [List.map_replicate]
    rfl
  · exact k6 _ _ (nDP p12) (k5 _ _ (nDP p12) hp4)
  · exact k6 _ _ (nDP O12) (k5 _ _ (nDP O12) hO4)
end Sv
set_option maxHeartbeats 400000
namespace Sv
open PySem L2
theorem py_pair {S : Sto} (p : Int × Int) : Py S (pairD p) (pD p) := .tup (.cons (.int _) (.cons (.int _) .nil))
theorem pys_pairs {S : Sto} : ∀ o : List (Int × Int), Pys S (o.map pairD) (o.map pD)
  | [] => .nil
  | p :: r => .cons (py_pair p) (pys_pairs r)
theorem fm_filter {α β : Type} (g : α → β) (f : β → Option β) (q : α → Bool) (h : ∀ x, f (g x) = if q x = true then some (g x) else none) : ∀ l : List α, (l.map g).filterMap f = (l.filter q).map g
  | [] => rfl
  | a :: l => by
    rw [List.map_cons, List.filterMap_cons, h a, List.filter_cons]
    by_cases z : q a = true
    · rw [if_pos z, if_pos z, List.map_cons, fm_filter g f q h l]
    · rw [if_neg z, if_neg z, fm_filter g f q h l]
theorem cutD_to {xs : List D} {i : Nat} (h : i ≤ xs.length) : cutD xs none (some (i : Int)) = xs.take i := by
  unfold cutD
  rw [HT.sIx_none, HT.sIx_nat, List.drop_zero, Nat.min_eq_left h, Nat.sub_zero]
theorem cutD_from {xs : List D} {i : Nat} (h : i ≤ xs.length) : cutD xs (some (i : Int)) none = xs.drop i := by
  unfold cutD
  rw [HT.sIx_none, HT.sIx_nat, Nat.min_eq_left h]
  exact List.take_of_length_le (by rw [List.length_drop]; exact Nat.le_refl _)
theorem dIfS_by {c : DTT} {t u : DTS} {C : DEnds} {env : Env} {S : Sto} (P : Bool → Sto → Prop) (hc : ∀ K : Bool → Sto → Prop, (∀ b S', P b S' → K b S') → c env S K) (ht : ∀ S', P true S' → t C env S') (hu : ∀ S', P false S' → u C env S') : dIfS c t u C env S := by
  refine hc _ fun b S' h => ?_
  cases b with
  | true => exact goT (ht S' h)
  | false => exact goF (hu S' h)
theorem ne_nil_eqv (ds : List PyData) : (PyData.eqv (.list ds) (.list []) ^^ true) = !ds.isEmpty := by rw [xor_tt, eqv_nil]
theorem atI_nat {xs : List D} {i : Nat} {d : D} (h : xs[i]? = some d) : atI xs (i : Int) = some d := by
  have hi := (List.getElem?_eq_some_iff.mp h).1
  unfold atI ixN
  rw [if_pos (Int.natCast_nonneg i), if_pos (Int.ofNat_lt.mpr hi), Int.toNat_natCast]
  exact h
theorem freshNe {st big w f : Addr} {S S5 : Sto} (D5 : Deck st big S5) (k5 : SK (DP st big) S S5) (nw : S5 w = none) (hf : S f ≠ none) : f ≠ w := fun z => by
  subst z
  by_cases h : DP st big f
  · have := D5.fresh nw
    rcases h with h | h
    · exact this.1 h
    · exact this.2 h
  · cases e : S f with
    | none => exact hf e
    | some o => rw [k5 _ _ h e] at nw; cases nw
def GStep (st big t : Addr) (S : Sto) (nm : List Int) (rows : List (List Int)) (c n : Nat) (sh : Int) (N O : Addr) (p : Nat) (way : Int) (y : Addr) (row : List Int) : Env → Sto → Prop := fun env S' => ∃ (e : Int) (N' O' : Addr) (o' : List (Int × Int)) (u' : Nat) (x11 x12 x13 : Option D), env = [some (.ref st), some (.ref t), some (.tup (rowsD rows)), some (.ref N), some (.ref O'), some (.int sh), some (.int (p : Int)), some (.int way), some (.ref y), some (.int e), some (.ref N'), x11, x12, x13] ∧
    Deck st big S' ∧ SK (DP st big) S S' ∧ S' N' = some (.lst (intsD (nm.drop u'))) ∧ S' O' = some (.lst (o'.map pairD)) ∧ (N' ≠ st ∧ N' ≠ big) ∧ (O' ≠ st ∧ O' ≠ big) ∧ (∀ f, S f ≠ none → f ≠ N → f ≠ O → f ≠ N' ∧ f ≠ O') ∧ Grown c nm (rows.set p (row ++ [e])) o' u' (n + 1)
theorem g_recv {st big t N O y : Addr} {S : Sto} {nm : List Int} {rows : List (List Int)} {o : List (Int × Int)} {c u n p : Nat} {sh way : Int} {row : List Int} {C' : DEnds} (h4 : N ≠ st ∧ N ≠ big) (h5 : O ≠ st ∧ O ≠ big) (hG : Grown c nm rows o u n) (hp : nm.Perm names24) (n1 : n ≤ 200) (hrow : rows[p]? = some row) (hnx : ∀ e s, GStep st big t S nm rows c n sh N O p way y row e s → C'.nx e s) (y12 : y ≠ st ∧ y ≠ big) {S4 : Sto} (D4 : Deck st big S4) (k4 : SK (DP st big) S S4) (hN4 : S4 N = some (.lst (intsD (nm.drop u)))) (hO4 : S4 O = some (.lst (o.map pairD))) (hy4 : S4 y = some (.lst ((o.filter fun x => !decide (x.2 = (p : Int))).map pairD))) (hne : (o.filter fun x => !decide (x.2 = (p : Int))) ≠ []) :
    dSeq (dAsg (dCall 2 (dFn 2 B_law_one_4842) (dCons (dVar 0) (dCons (dVar 8) (dNil)))) (dgName 11)) (dAsg (dTup (dCons (dBin rSub (dC (.int 0)) (dBin rIxq (dVar 11) (dC (.int 0)))) (dCons (dLc (diVal (dVar 4)) (dgName 13) (dB (dBin (rEqq true) (dVar 13) (dVar 11))) (dVar 13) [13]) (dNil)))) (dUnp 2 (dgCons (dgName 9) (dgCons (dgName 4) (dgNil))))) C' [some (.ref st), some (.ref t), some (.tup (rowsD rows)), some (.ref N), some (.ref O), some (.int sh), some (.int (p : Int)), some (.int way), some (.ref y), some (.int 0), some (.ref N), none, none, none] S4 := by
  have ol := hG.opens_le
  refine ⟨_, rfl, _, rfl, rfl, w_one D4 (fun S' kk => seqOf_lst (kk _ _ (nDP y12) hy4)) (by simpa using hne) (by rw [List.length_map]; have := List.length_filter_le (fun x : Int × Int => !decide (x.2 = (p : Int))) o; omega) fun j x S5 hx D5 k5 => ?_⟩
  rw [List.getElem?_map] at hx
  obtain ⟨⟨m, q⟩, hmq, rfl⟩ := Option.map_eq_some_iff.mp hx
  have hmem := List.mem_of_getElem? hmq
  obtain ⟨hmo, hqp⟩ := List.mem_filter.mp hmem
  have hqp : q ≠ (p : Int) := by simpa using hqp
  obtain ⟨j', hj'⟩ := List.getElem?_of_mem hmo
  have nd := nodup_of_map _ (hG.nodup (hp.nodup_iff.mpr names_nd)).1
  have hO5 := k5 _ _ (nDP h5) hO4
  refine ⟨_, rfl, _, 0, _, rfl, rfl, rfl, _, rfl, _, ⟨_, hO5, rfl⟩, lc_fun ⟨o.map pairD, _⟩ (fun d => match d with | .tup [.int a, .int b] => if decide ((a, b) = (m, q)) = true then none else some d | _ => none) (by show (o.map pairD).length ≤ 100000; rw [List.length_map]; omega) (fun S' sg => sg _ _ (fun z => z) hO5) (fun d hd S' sg K Kn hk hn => ?_) fun z S6 nz sg6 hz => ?_⟩
  · obtain ⟨⟨a, b⟩, _, rfl⟩ := List.mem_map.mp hd
    refine turn_n ⟨_, rfl, _, rfl, pD (a, b), pD (m, q), py_pair _, py_pair _, pD_shaped _, pD_shaped _, _, rfl, iteB (fun e => ⟨_, rfl, hk _ ?_ _ (.refl _)⟩) (fun e => hn ?_ _ (.refl _))⟩
    · rw [xor_tt, Bool.not_eq_true', pD_eqv] at e
      show (if decide ((a, b) = (m, q)) = true then none else some (pairD (a, b))) = _
      rw [e, if_neg Bool.false_ne_true]
    · rw [xor_tt, Bool.not_eq_false', pD_eqv] at e
      show (if decide ((a, b) = (m, q)) = true then none else some (pairD (a, b))) = _
      rw [e, if_pos rfl]
  have hfm : (o.map pairD).filterMap (fun d => match d with | .tup [.int a, .int b] => if decide ((a, b) = (m, q)) = true then none else some d | _ => none) = (o.filter fun x => !decide (x = (m, q))).map pairD :=
    fm_filter pairD _ (fun x => !decide (x = (m, q))) (fun x => by
      obtain ⟨a, b⟩ := x
      show (if decide ((a, b) = (m, q)) = true then none else some (pairD (a, b))) = _
      cases decide ((a, b) = (m, q)) <;> rfl) o
  have hz : S6 z = some (.lst ((o.eraseIdx j').map pairD)) := by rw [← filter_erase nd hj', ← hfm]; exact hz
  refine ⟨rfl, _, rfl, .inl (.inl rfl), _, _, rfl, _, _, rfl, rfl, hnx _ _ ⟨0 - m, N, z, o.eraseIdx j', u, _, _, _, rfl, D5.keep sg6, (k4.trans k5).trans sg6.sk, sg6 _ _ (fun z => z) (k5 _ _ (nDP h4) hN4), hz, h4, D5.fresh nz, fun f hf n1 n2 => ⟨n1, freshNe D5 (k4.trans k5) nz hf⟩, .recv hG hrow hj' hqp⟩⟩
end Sv
set_option maxHeartbeats 400000
namespace Sv
open PySem L2
theorem g_send {st big t N O y : Addr} {S : Sto} {nm : List Int} {rows : List (List Int)} {o : List (Int × Int)} {c u n p : Nat} {sh way : Int} {row : List Int} {C' : DEnds} (h4 : N ≠ st ∧ N ≠ big) (h5 : O ≠ st ∧ O ≠ big) (hG : Grown c nm rows o u n) (hp : nm.Perm names24) (n1 : n ≤ 200) (hrow : rows[p]? = some row) (hnx : ∀ e s, GStep st big t S nm rows c n sh N O p way y row e s → C'.nx e s) {S5 : Sto} (D5 : Deck st big S5) (k5 : SK (DP st big) S S5) (hN5 : S5 N = some (.lst (intsD (nm.drop u)))) (hO5 : S5 O = some (.lst (o.map pairD))) (hne : nm.drop u ≠ []) :
    dSeq (dAsg (dTup (dCons (dBin rIxq (dVar 3) (dC (.int 0))) (dCons (dSl (dVar 3) (dPart (dC (.int 1))) (dNoP)) (dNil)))) (dUnp 2 (dgCons (dgName 9) (dgCons (dgName 10) (dgNil))))) (dAsg (dBin rAdd (dVar 4) (dLst (dCons (dTup (dCons (dVar 9) (dCons (dVar 6) (dNil)))) (dNil)))) (dgName 4)) C' [some (.ref st), some (.ref t), some (.tup (rowsD rows)), some (.ref N), some (.ref O), some (.int sh), some (.int (p : Int)), some (.int way), some (.ref y), some (.int 0), some (.ref N), none, none, none] S5 := by
  have ol := hG.opens_le
  obtain ⟨m, rest, hm⟩ := List.exists_cons_of_ne_nil hne
  have hu : u < nm.length := by
    rcases Nat.lt_or_ge u nm.length with z | z
    · exact z
    · exact absurd (List.drop_eq_nil_of_le z) hne
  have hmu : nm[u]? = some m := by
    have := congrArg (fun l => l[0]?) hm
    simpa [List.getElem?_drop] using this
  have hrest : rest = nm.drop (u + 1) := by
    have := congrArg List.tail hm
    rw [List.tail_drop] at this
    exact this.symm
  have at0 : atI (intsD (nm.drop u)) 0 = some (.int m) := by rw [hm]; exact atI_nat (xs := intsD (m :: rest)) (i := 0) rfl
  have cut1 : cutD (intsD (nm.drop u)) (some 1) none = intsD (nm.drop (u + 1)) := by
    rw [hm]
    have := cutD_from (xs := intsD (m :: rest)) (i := 1) (by rw [intsD_len, List.length_cons]; omega)
    rw [show ((1 : Nat) : Int) = 1 from rfl] at this
    rw [this, ← hrest]
    rfl
  refine ⟨_, rfl, _, 0, _, seqOf_lst hN5, rfl, at0, _, rfl, 1, rfl, _, hN5, fun w nw => ⟨rfl, _, rfl, .inl (.inl rfl), _, _, rfl, _, _, rfl, rfl, ?_⟩⟩
  rw [cut1]
  have sgw : SG S5 (S5.put w (.lst (intsD (nm.drop (u + 1))))) := .new nw
  have hw6 : (S5.put w (.lst (intsD (nm.drop (u + 1))))) w = _ := Sto.same
  have w12 := D5.fresh nw
  have D6 := D5.keep sgw
  have hO6 := sgw _ _ (fun z => z) hO5
  have k6 := k5.trans sgw.sk
  generalize S5.put w (.lst (intsD (nm.drop (u + 1)))) = S6 at hw6 D6 hO6 k6 ⊢
  refine ⟨_, rfl, _, rfl, _, rfl, rfl, rfl, fun q nq => ⟨o.map pairD, _, ?_, Sto.same, ?_, fun r nr => ?_⟩⟩
  · exact (Sto.ne fun z => by rw [z, nq] at hO6; cases hO6).trans hO6
  · rw [List.length_map]
    show o.length + 1 ≤ 100000
    omega
  have sgq : SG S6 (S6.put q (.lst [.tup [.int m, .int (p : Int)]])) := .new nq
  have sgr : SG (S6.put q (.lst [.tup [.int m, .int (p : Int)]])) ((S6.put q (.lst [.tup [.int m, .int (p : Int)]])).put r (.lst (o.map pairD ++ [.tup [.int m, .int (p : Int)]]))) := .new nr
  have sgg : SG S6 _ := sgq.trans sgr
  refine hnx _ _ ⟨m, w, r, o ++ [(m, (p : Int))], u + 1, _, _, _, rfl, D6.keep sgg, k6.trans sgg.sk, sgg _ _ (fun z => z) hw6, ?_, w12, (D6.keep sgq).fresh nr, fun f hf _ _ => ⟨freshNe D5 k5 nw hf, freshNe (D6.keep sgq) (k6.trans sgq.sk) nr hf⟩, .send hG hrow hmu⟩
  rw [Sto.same, List.map_append]
  rfl
end Sv
set_option maxHeartbeats 400000
namespace Sv
open PySem L2
/-- no part of the drawn state -/
def GF (S : Sto) (t f : Addr) : Prop := t ≠ f ∧ ∀ (N O : Addr) (r s : D), S t = some (.lst [r, .ref N, .ref O, s]) → f ≠ N ∧ f ≠ O
/-- what the share of saves, the drawn way and what waits leave of an event: read as one of three -/
theorem w_grown {st big t : Addr} {S : Sto} {nm : List Int} {rows : List (List Int)} {o : List (Int × Int)} {c u n : Nat} {sh : Int} {R : DK} (h : Deck st big S) (hg : GS S st big t nm rows o u sh) (hG : Grown c nm rows o u n) (hp : nm.Perm names24) (c1 : 1 ≤ c) (c6 : c ≤ 6) (n1 : n ≤ 200)
    (k : ∀ (t' : Addr) (p : Nat) (row : List Int) (e : Int) (o' : List (Int × Int)) (u' : Nat) S', rows[p]? = some row → GS S' st big t' nm (rows.set p (row ++ [e])) o' u' sh → Grown c nm (rows.set p (row ++ [e])) o' u' (n + 1) → Deck st big S' → SK (DP st big) S S' → (∀ f, S f ≠ none → GF S t f → GF S' t' f) → R (.ref t') S') :
    dFn 14 B_law_grown_680b [.ref st, .ref t] S R := by
  obtain ⟨N, O, h1, h2, h3, h4, h5, h6⟩ := id hg
  have hlen := hG.len
  refine ⟨_, rfl, _, rfl, .inr ⟨t, rfl, h1⟩, _, _, rfl, _, _, rfl, _, _, rfl, _, _, rfl, rfl, ?_⟩
  refine ⟨_, rfl, _, rfl, _, _, rfl, rfl, rfl, ?_⟩
  have hrl : (rowsD rows).length = c := by rw [rowsD, List.length_map, hlen]
  rw [hrl]
  refine w_next h (by omega) (by omega) fun pr S1 p0 p1 D1 k1 => ⟨_, rfl, rfl, w_next D1 (by decide) (by decide) fun way S2 w0 w1 D2 k2 => ⟨rfl, _, rfl, .inl (.inl rfl), _, _, rfl, _, _, rfl, rfl, ?_⟩⟩
  obtain ⟨p, rfl⟩ : ∃ p : Nat, pr = (p : Int) := ⟨pr.toNat, by omega⟩
  have k12 := k1.trans k2
  have g2 := hg.keep k12
  have hO2 := k12 _ _ (nDP h5) h3
  have hN2 := k12 _ _ (nDP h4) h2
  have ol := hG.opens_le
  -- what may be received
  refine ⟨_, rfl, _, ⟨_, hO2, rfl⟩, lc_fun ⟨o.map pairD, _⟩ (fun d => match d with | .tup [_, .int q] => if decide (q = (p : Int)) = true then none else some d | _ => none) (by show (o.map pairD).length ≤ 100000; rw [List.length_map]; omega) (fun S' sg => sg _ _ (fun z => z) hO2) (fun d hd S' sg K Kn hk hn => ?_) fun y S3 ny sg3 hy => ?_⟩
  · obtain ⟨x, _, rfl⟩ := List.mem_map.mp hd
    refine turn_n ⟨_, rfl, _, 1, _, rfl, rfl, rfl, _, rfl, _, rfl, iteB (fun e => ⟨_, rfl, hk _ ?_ _ (.refl _)⟩) (fun e => hn ?_ _ (.refl _))⟩
    · rw [xor_tt, Bool.not_eq_true'] at e
      show (if decide (x.2 = (p : Int)) = true then none else some (pairD x)) = _
      rw [e, if_neg Bool.false_ne_true]
    · rw [xor_tt, Bool.not_eq_false'] at e
      show (if decide (x.2 = (p : Int)) = true then none else some (pairD x)) = _
      rw [e, if_pos rfl]
  have hfm : (o.map pairD).filterMap (fun d => match d with | .tup [_, .int q] => if decide (q = (p : Int)) = true then none else some d | _ => none) = (o.filter fun x => !decide (x.2 = (p : Int))).map pairD :=
    fm_filter pairD _ (fun x => !decide (x.2 = (p : Int))) (fun x => by
      show (if decide (x.2 = (p : Int)) = true then none else some (pairD x)) = _
      cases decide (x.2 = (p : Int)) <;> rfl) o
  have hy : S3 y = some (.lst ((o.filter fun x => !decide (x.2 = (p : Int))).map pairD)) := by rw [← hfm]; exact hy
  have D3 := D2.keep sg3
  have hO3 := sg3 _ _ (fun z => z) hO2
  have hN3 := sg3 _ _ (fun z => z) hN2
  have k13 := k12.trans sg3.sk
  have y12 := D2.fresh ny
  clear hfm
  refine ⟨_, rfl, rfl, _, rfl, .inl (.inl rfl), _, _, rfl, _, _, rfl, rfl, ?_⟩
  have hpc : p < rows.length := by omega
  obtain ⟨row, hrow⟩ : ∃ row, rows[p]? = some row := ⟨_, List.getElem?_eq_getElem hpc⟩
  have rowlen : row.length ≤ 200 := Nat.le_trans (len_le_sum hrow) (Nat.le_trans hG.events n1)
  dsimp only
  -- the three ways
  refine seqP (GStep st big t S nm rows c n sh N O p way y row) (fun C' _ _ _ hnx => ?_) ?_
  · refine dIfS_by (fun b S' => Deck st big S' ∧ SK (DP st big) S S' ∧ S' N = some (.lst (intsD (nm.drop u))) ∧ S' O = some (.lst (o.map pairD)) ∧ S' y = some (.lst ((o.filter fun x => !decide (x.2 = (p : Int))).map pairD)) ∧ (b = true → (o.filter fun x => !decide (x.2 = (p : Int))) ≠ [])) (fun K hK => ?_) (fun S4 ⟨D4, k4, hN4, hO4, hy4, hne⟩ => ?_) (fun S4 ⟨D4, k4, hN4, hO4, hy4, _⟩ => ?_)
    · have no : K false S3 := hK _ _ ⟨D3, k13, hN3, hO3, hy, fun z => nomatch z⟩
      refine ⟨_, rfl, _, rfl, _, rfl, iteB (fun _ => ⟨_, rfl, by decide, _, rfl, iteB (fun _ => ⟨_, rfl, rfl, fun q nq => ?_⟩) (fun _ => no)⟩) (fun _ => no)⟩
      have sgq : SG S3 (S3.put q (.lst [])) := .new nq
      refine ⟨_, _, .lst (sgq _ _ (fun z => z) hy) (pys_pairs _), .lst Sto.same .nil, shaped_pairs _, by decide +kernel, _, rfl, hK _ _ ⟨D3.keep sgq, k13.trans sgq.sk, sgq _ _ (fun z => z) hN3, sgq _ _ (fun z => z) hO3, sgq _ _ (fun z => z) hy, fun e z => ?_⟩⟩
      rw [ne_nil_eqv, z] at e
      cases e
    · exact g_recv h4 h5 hG hp n1 hrow hnx y12 D4 k4 hN4 hO4 hy4 (hne rfl)
    · -- a sending, a save
      refine dIfS_by (fun b S' => Deck st big S' ∧ SK (DP st big) S S' ∧ S' N = some (.lst (intsD (nm.drop u))) ∧ S' O = some (.lst (o.map pairD)) ∧ (b = true → nm.drop u ≠ [])) (fun K hK => ?_) (fun S5 ⟨D5, k5, hN5, hO5, hne⟩ => ?_) (fun S5 ⟨D5, k5, hN5, hO5, _⟩ => ?_)
      · have no : K false S4 := hK _ _ ⟨D4, k4, hN4, hO4, fun z => nomatch z⟩
        refine ⟨_, rfl, _, rfl, _, rfl, iteB (fun _ => ⟨_, rfl, rfl, fun q nq => ?_⟩) (fun _ => no)⟩
        have sgq : SG S4 (S4.put q (.lst [])) := .new nq
        refine ⟨_, _, .lst (sgq _ _ (fun z => z) hN4) (pys_ints _), .lst Sto.same .nil, shaped_ints _, by decide +kernel, _, rfl, hK _ _ ⟨D4.keep sgq, k4.trans sgq.sk, sgq _ _ (fun z => z) hN4, sgq _ _ (fun z => z) hO4, fun e z => ?_⟩⟩
        rw [ne_nil_eqv, z] at e
        cases e
      · exact g_send h4 h5 hG hp n1 hrow hnx D5 k5 hN5 hO5 (hne rfl)
      · exact hnx _ _ ⟨0, N, O, o, u, _, _, _, rfl, D5, k5, hN5, hO5, h4, h5, fun f _ n1 n2 => ⟨n1, n2⟩, .save hG hrow⟩
  · rintro env S4 ⟨e, N', O', o', u', x11, x12, x13, rfl, D4, k4, hN4, hO4, hN', hO', hfr, hG'⟩
    have hrd : (rowsD rows)[p]? = some (rowD row) := by rw [rowsD, List.getElem?_map, hrow]; rfl
    refine ⟨_, rfl, _, rfl, _, (p : Int), _, rfl, rfl, atI_nat hrd, _, rfl, rfl, ?_, rfl, ?_⟩
    · show (intsD row).length + 1 ≤ 100000
      rw [intsD_len]
      omega
    have cutp : cutD (rowsD rows) none (some (p : Int)) = (rowsD rows).take p := cutD_to (by omega)
    have cutq : cutD (rowsD rows) (some ((p : Int) + 1)) none = (rowsD rows).drop (p + 1) := by
      have := cutD_from (xs := rowsD rows) (i := p + 1) (by omega)
      rw [← this]
      rfl
    have hset : ((rowsD rows).take p ++ [rowD (row ++ [e])]) ++ (rowsD rows).drop (p + 1) = rowsD (rows.set p (row ++ [e])) := by
      rw [set_cat (by omega)]
      unfold rowsD
      rw [List.map_set]
    have hre : D.tup (intsD row ++ [.int e]) = rowD (row ++ [e]) := by
      unfold rowD intsD
      rw [List.map_append]
      rfl
    refine ⟨_, rfl, _, rfl, p, rfl, _, rfl, ?_, _, rfl, _, rfl, _, rfl, ?_, _, rfl, _, rfl, _, rfl, rfl, fun t' nt' => ?_⟩
    · rw [cutp, List.length_take]
      show _ + 1 ≤ _
      omega
    · rw [cutp, cutq, List.length_append, List.length_take, List.length_drop]
      show _ + 1 + _ ≤ _
      omega
    rw [cutp, cutq, hre, hset]
    have sgt : SG S4 (S4.put t' (.lst [.tup (rowsD (rows.set p (row ++ [e]))), .ref N', .ref O', .int sh])) := .new nt'
    exact k t' p row e o' u' _ hrow ⟨N', O', Sto.same, sgt _ _ (fun z => z) hN4, sgt _ _ (fun z => z) hO4, hN', hO', D4.fresh nt'⟩ hG' (D4.keep sgt) (k4.trans sgt.sk) fun f hf ⟨_, g⟩ => ⟨(freshNe D4 k4 nt' hf).symm, fun N2 O2 r s e => by
      rw [Sto.same] at e
      cases e
      have := g _ _ _ _ h1
      exact hfr f hf this.1 this.2⟩
end Sv
set_option maxHeartbeats 400000
namespace Sv
open PySem L2
/-- the draws' state: cells at cl (never written), at most n draws so far, what is left of large cells at rs -/
def Dk (st cl rs : Addr) (n : Nat) (S : Sto) : Prop := st ≠ cl ∧ st ≠ rs ∧ cl ≠ rs ∧ ∃ (cs ws : List Int) (t : Nat), t ≤ n ∧ 0 < cs.length ∧ cs.length = ws.length ∧ S st = some (.lst [.ref cl, .int (t : Int), .ref rs]) ∧ S cl = some (.lst (intsD cs)) ∧ S rs = some (.lst (intsD ws))
abbrev DQ (st rs : Addr) : Addr → Prop := fun a => a = st ∨ a = rs
theorem Dk.keepP {st cl rs : Addr} {n : Nat} {S S' : Sto} {P : Addr → Prop} (h : Dk st cl rs n S) (k : SK P S S') (n1 : ¬ P st) (n2 : ¬ P cl) (n3 : ¬ P rs) : Dk st cl rs n S' := by
  obtain ⟨a1, a2, a3, cs, ws, t, tn, c0, cw, hs, hc, hw⟩ := h
  exact ⟨a1, a2, a3, cs, ws, t, tn, c0, cw, k _ _ n1 hs, k _ _ n2 hc, k _ _ n3 hw⟩
theorem Dk.keep {st cl rs : Addr} {n : Nat} {S S' : Sto} (h : Dk st cl rs n S) (k : SG S S') : Dk st cl rs n S' := h.keepP k (fun z => z) (fun z => z) (fun z => z)
theorem Dk.mono {st cl rs : Addr} {n m : Nat} {S : Sto} (h : Dk st cl rs n S) (e : n ≤ m) : Dk st cl rs m S := by
  obtain ⟨a1, a2, a3, cs, ws, t, tn, c0, cw, hs, hc, hw⟩ := h
  exact ⟨a1, a2, a3, cs, ws, t, by omega, c0, cw, hs, hc, hw⟩
theorem Dk.fresh {st cl rs : Addr} {n : Nat} {S : Sto} (h : Dk st cl rs n S) {p : Addr} (z : S p = none) : p ≠ st ∧ p ≠ cl ∧ p ≠ rs := by
  obtain ⟨a1, a2, a3, cs, ws, t, tn, c0, cw, hs, hc, hw⟩ := h
  exact ⟨fun e => (by rw [e, hs] at z; cases z), fun e => (by rw [e, hc] at z; cases z), fun e => (by rw [e, hw] at z; cases z)⟩
theorem Dk.put {st cl rs : Addr} {n : Nat} {S : Sto} (h : Dk st cl rs n S) {p : Addr} {o : Ob} (z : p ≠ st ∧ p ≠ cl ∧ p ≠ rs) : Dk st cl rs n (S.put p o) := by
  obtain ⟨a1, a2, a3, cs, ws, t, tn, c0, cw, hs, hc, hw⟩ := h
  exact ⟨a1, a2, a3, cs, ws, t, tn, c0, cw, (Sto.ne (Ne.symm z.1)).trans hs, (Sto.ne (Ne.symm z.2.1)).trans hc, (Sto.ne (Ne.symm z.2.2)).trans hw⟩
end Sv
set_option maxHeartbeats 800000
set_option autoImplicit false
namespace Sv
open PySem PySem.Spec PyProof.Rows L2
/-- the draws' state, at most n mixed draws so far -/
def Ds (st big al : Addr) (n : Nat) (S : Sto) : Prop := st ≠ big ∧ st ≠ al ∧ big ≠ al ∧ ∃ (bs cs : List Int) (t : Nat), t ≤ n ∧ 0 < cs.length ∧ cs.length ≤ 100000 ∧ S st = some (.lst [.ref big, .ref al, .int (t : Int)]) ∧ S big = some (.lst (intsD bs)) ∧ S al = some (.lst (intsD cs))
/-- what a draw may change -/
abbrev DS' (st big : Addr) : Addr → Prop := fun a => a = st ∨ a = big
theorem Ds.keepP {st big al : Addr} {n : Nat} {S S' : Sto} {P : Addr → Prop} (h : Ds st big al n S) (k : SK P S S') (n1 : ¬ P st) (n2 : ¬ P big) (n3 : ¬ P al) : Ds st big al n S' := by
  obtain ⟨a1, a2, a3, bs, cs, t, ht, c0, c9, h1, h2, h3⟩ := h
  exact ⟨a1, a2, a3, bs, cs, t, ht, c0, c9, k _ _ n1 h1, k _ _ n2 h2, k _ _ n3 h3⟩
theorem Ds.keep {st big al : Addr} {n : Nat} {S S' : Sto} (h : Ds st big al n S) (k : SG S S') : Ds st big al n S' := h.keepP k (fun z => z) (fun z => z) (fun z => z)
theorem Ds.mono {st big al : Addr} {n m : Nat} {S : Sto} (h : Ds st big al n S) (e : n ≤ m) : Ds st big al m S := by
  obtain ⟨a1, a2, a3, bs, cs, t, ht, h⟩ := h
  exact ⟨a1, a2, a3, bs, cs, t, by omega, h⟩
theorem Ds.fresh {st big al : Addr} {n : Nat} {S : Sto} (h : Ds st big al n S) {p : Addr} (z : S p = none) : p ≠ st ∧ p ≠ big ∧ p ≠ al := by
  obtain ⟨a1, a2, a3, bs, cs, t, ht, c0, c9, h1, h2, h3⟩ := h
  exact ⟨fun e => (by rw [e, h1] at z; cases z), fun e => (by rw [e, h2] at z; cases z), fun e => (by rw [e, h3] at z; cases z)⟩
theorem Ds.put {st big al : Addr} {n : Nat} {S : Sto} (h : Ds st big al n S) {p : Addr} {o : Ob} (z : p ≠ st ∧ p ≠ big ∧ p ≠ al) : Ds st big al n (S.put p o) := by
  obtain ⟨a1, a2, a3, bs, cs, t, ht, c0, c9, h1, h2, h3⟩ := h
  exact ⟨a1, a2, a3, bs, cs, t, ht, c0, c9, (Sto.ne (Ne.symm z.1)).trans h1, (Sto.ne (Ne.symm z.2.1)).trans h2, (Sto.ne (Ne.symm z.2.2)).trans h3⟩
theorem nDS {st big al p : Addr} (z : p ≠ st ∧ p ≠ big ∧ p ≠ al) : ¬ DS' st big p := fun e => e.elim z.1 z.2.1
theorem Ds.free {st big al : Addr} {n : Nat} {S0 S : Sto} (D : Ds st big al n S) (k : SK (DS' st big) S0 S) {a : Addr} (z : S a = none) : S0 a = none := by
  cases e : S0 a with
  | none => rfl
  | some o =>
    have f := D.fresh z
    rw [k _ _ (nDS f) e] at z
    cases z
/-- a list whose items are tuples is none of the draws' own -/
theorem Ds.off {st big al : Addr} {n : Nat} {S : Sto} (h : Ds st big al n S) {p : Addr} {ds : List D} (e : S p = some (.lst ds)) (ht : ∀ d ∈ ds, ∃ xs, d = D.tup xs) (ne : ds ≠ []) : p ≠ st ∧ p ≠ big ∧ p ≠ al := by
  obtain ⟨a1, a2, a3, bs, cs, t, _, _, _, h1, h2, h3⟩ := h
  have pin : ∀ l : List Int, S p = some (.lst (intsD l)) → False := fun l hl => by
    rw [hl] at e
    have e := (Ob.lst.inj (Option.some.inj e)).symm
    subst e
    cases l with
    | nil => exact ne rfl
    | cons b r =>
      obtain ⟨xs, hx⟩ := ht _ List.mem_cons_self
      cases hx
  refine ⟨fun z => ?_, fun z => pin bs (z ▸ h2), fun z => pin cs (z ▸ h3)⟩
  subst z
  rw [h1] at e
  have e := (Ob.lst.inj (Option.some.inj e)).symm
  subst e
  obtain ⟨xs, hx⟩ := ht _ List.mem_cons_self
  cases hx
end Sv
namespace Sv
open PySem PySem.Spec PyProof.Rows L2
def hapFrom (e : Int) : Nat → List (List Int) → Option (Nat × Nat)
  | _, [] => none
  | p, r :: rs => if e ∈ r then some (p, (r.take (r.idxOf e)).count 0) else hapFrom e (p + 1) rs
def hap (rows : List (List Int)) (e : Int) : Option (Nat × Nat) := hapFrom e 0 rows
def poss (l : List Int) : List Int := l.filter fun e => decide (0 < e)
def negs (l : List Int) : List Int := (l.filter fun e => decide (e < 0)).map fun e => -e
def LeL (a b : List Nat) : Prop := ∀ (i x y : Nat), a[i]? = some x → b[i]? = some y → x ≤ y
theorem LeL.set {a b : List Nat} (h : LeL a b) {p d k : Nat} (hd : a[p]? = some d) (hk : k ≤ d) : LeL (a.set p k) b := fun i x y g1 g2 => by
  rw [List.getElem?_set] at g1
  split at g1
  · rename_i e
    subst e
    split at g1
    · obtain rfl := Option.some.inj g1
      have := h _ _ _ hd g2
      omega
    · cases g1
  · exact h _ _ _ g1 g2
theorem flat_set {r : List (List Int)} {p : Nat} {row : List Int} {v : Int} (h : r[p]? = some row) : (r.set p (row ++ [v])).flatten.Perm (v :: r.flatten) := by
  induction r generalizing p with
  | nil => simp at h
  | cons a r ih =>
    cases p with
    | zero =>
      obtain rfl : a = row := Option.some.inj h
      simp only [List.set_cons_zero, List.flatten_cons, List.append_assoc, List.singleton_append]
      exact List.perm_middle
    | succ p =>
      simp only [List.set_cons_succ, List.flatten_cons]
      exact ((ih (p := p) h).append_left a).trans List.perm_middle
theorem names_pos {nm : List Int} (hn : nm.Perm names24) : ∀ m ∈ nm, 1 ≤ m ∧ m ≤ 24 := by
  intro m h1
  have h2 := hn.mem_iff.mp h1
  obtain ⟨i, hi, rfl⟩ := List.mem_map.mp h2
  have := List.mem_range.mp hi
  omega
theorem Grown.small {c : Nat} {nm : List Int} {r : List (List Int)} {o : List (Int × Int)} {u k : Nat} (h : Grown c nm r o u k) (hn : nm.Perm names24) :
    (∀ row ∈ r, ∀ e ∈ row, -24 ≤ e ∧ e ≤ 24) ∧ ∀ p ∈ o, 1 ≤ p.1 ∧ p.1 ≤ 24 := by
  have setl : ∀ {r : List (List Int)} {p : Nat} {row : List Int} {v : Int}, (∀ row ∈ r, ∀ e ∈ row, -24 ≤ e ∧ e ≤ 24) → r[p]? = some row → -24 ≤ v → v ≤ 24 → ∀ row' ∈ r.set p (row ++ [v]), ∀ e ∈ row', -24 ≤ e ∧ e ≤ 24 := by
    intro r p row v h1 h2 h3 h4 row' hr e he
    rcases List.mem_or_eq_of_mem_set hr with z | rfl
    · exact h1 _ z e he
    · rcases List.mem_append.mp he with z | z
      · exact h1 _ (List.mem_of_getElem? h2) e z
      · rw [List.mem_singleton.mp z]
        exact ⟨h3, h4⟩
  have hm : ∀ m ∈ nm, 1 ≤ m ∧ m ≤ 24 := by
    intro m h1
    have h2 := hn.mem_iff.mp h1
    obtain ⟨i, hi, rfl⟩ := List.mem_map.mp h2
    have := List.mem_range.mp hi
    omega
  induction h with
  | start =>
    refine ⟨fun row hr e he => ?_, fun p hp => (nomatch hp)⟩
    rw [(List.mem_replicate.mp hr).2] at he
    exact (nomatch he)
  | skip _ ih => exact ih
  | save _ h ih => exact ⟨setl ih.1 h (by decide) (by decide), ih.2⟩
  | send _ h hu ih =>
    have := hm _ (List.mem_of_getElem? hu)
    refine ⟨setl ih.1 h (by omega) (by omega), fun p hp => ?_⟩
    rcases List.mem_append.mp hp with z | z
    · exact ih.2 p z
    · rw [List.mem_singleton.mp z]
      exact this
  | recv _ h hj _ ih =>
    have := ih.2 _ (List.mem_of_getElem? hj)
    exact ⟨setl ih.1 h (by omega) (by omega), fun p hp => ih.2 p (List.mem_of_mem_eraseIdx hp)⟩
theorem unerase_perm {α : Type} : ∀ {o : List α} {j : Nat} {x : α}, o[j]? = some x → (x :: o.eraseIdx j).Perm o
  | [], j, _, h => by simp at h
  | a :: o, 0, x, h => by
    obtain rfl : a = x := Option.some.inj h
    exact .refl _
  | a :: o, j + 1, x, h => by
    rw [List.eraseIdx_cons_succ]
    exact (List.Perm.swap a x _).trans ((unerase_perm (o := o) (j := j) h).cons a)
theorem Grown.once {c : Nat} {nm : List Int} {r : List (List Int)} {o : List (Int × Int)} {u k : Nat} (h : Grown c nm r o u k) (hn : nm.Perm names24) :
    (poss r.flatten).Perm (nm.take u) ∧ (negs r.flatten ++ o.map (·.1)).Perm (nm.take u) := by
  induction h with
  | start =>
    have e : (List.replicate c ([] : List Int)).flatten = [] := by simp
    rw [e]
    exact ⟨.refl _, .refl _⟩
  | skip _ ih => exact ih
  | save _ h ih =>
    have p := flat_set (v := 0) h
    exact ⟨(p.filter _).trans ih.1, (((p.filter _).map _).append_right _).trans ih.2⟩
  | @send r o u k p row m g h hu ih =>
    have q := flat_set (v := m) h
    have hm := names_pos hn _ (List.mem_of_getElem? hu)
    have tk : nm.take (u + 1) = nm.take u ++ [m] := by
      rw [List.take_add_one, hu]
      rfl
    rw [tk]
    have h1 : poss (m :: r.flatten) = m :: poss r.flatten := List.filter_cons_of_pos (decide_eq_true (by omega))
    have h2 : negs (m :: r.flatten) = negs r.flatten := by
      unfold negs
      rw [List.filter_cons_of_neg (by rw [decide_eq_false (show ¬ m < 0 by omega)]; exact Bool.false_ne_true)]
    refine ⟨(q.filter _).trans ?_, (((q.filter _).map _).append_right _).trans ?_⟩
    · show (poss (m :: r.flatten)).Perm _
      rw [h1]
      exact (ih.1.cons m).trans (List.perm_append_singleton m _).symm
    · show (negs (m :: r.flatten) ++ _).Perm _
      rw [h2, List.map_append, ← List.append_assoc]
      exact ih.2.append_right _
  | @recv r o u k row j m q p g h hj _ ih =>
    have w := flat_set (v := 0 - m) h
    have hm := (g.small hn).2 _ (List.mem_of_getElem? hj)
    have h1 : poss ((0 - m) :: r.flatten) = poss r.flatten := List.filter_cons_of_neg (by rw [decide_eq_false (show ¬ 0 < 0 - m by simp only at hm; omega)]; exact Bool.false_ne_true)
    have h2 : negs ((0 - m) :: r.flatten) = m :: negs r.flatten := by
      have d : decide (0 - m < 0) = true := decide_eq_true (by simp only at hm; omega)
      have e1 : -(0 - m) = m := by omega
      unfold negs
      simp only [List.filter_cons, d, if_true, List.map_cons, e1]
    refine ⟨(w.filter _).trans ?_, (((w.filter _).map _).append_right _).trans ?_⟩
    · show (poss ((0 - m) :: r.flatten)).Perm _
      rw [h1]
      exact ih.1
    · show (negs ((0 - m) :: r.flatten) ++ _).Perm _
      rw [h2]
      have e := (unerase_perm hj).map Prod.fst
      refine List.Perm.trans ?_ ((e.append_left _).trans ih.2)
      exact List.perm_middle.symm
theorem names_nodup : names24.Nodup := by decide
theorem Grown.count {c : Nat} {nm : List Int} {r : List (List Int)} {o : List (Int × Int)} {u k : Nat} (h : Grown c nm r o u k) (hn : nm.Perm names24) {e : Int} (he : e ≠ 0) : r.flatten.count e ≤ 1 := by
  obtain ⟨h1, h2⟩ := h.once hn
  have nt : (nm.take u).Nodup := ((hn.nodup_iff).mpr names_nodup).sublist (List.take_sublist _ _)
  by_cases hp : 0 < e
  · have n1 : (poss r.flatten).Nodup := h1.nodup_iff.mpr nt
    have := List.nodup_iff_count.mp n1 e
    unfold poss at this
    rw [List.count_filter (p := fun e : Int => decide (0 < e)) (decide_eq_true hp)] at this
    exact this
  · have n2 : (negs r.flatten).Nodup := (h2.nodup_iff.mpr nt).sublist (List.sublist_append_left _ _)
    have hlt : e < 0 := by omega
    have n3 : (r.flatten.filter fun e => decide (e < 0)).Nodup := by
      unfold negs at n2
      exact (List.pairwise_map.mp n2).imp fun h z => h (by rw [z])
    have := List.nodup_iff_count.mp n3 e
    rw [List.count_filter (p := fun e : Int => decide (e < 0)) (decide_eq_true hlt)] at this
    exact this
theorem hapFrom_some {e : Int} : ∀ {rs : List (List Int)} {p i : Nat} {row : List Int}, (∀ (j : Nat) (r : List Int), j < i → rs[j]? = some r → e ∉ r) → rs[i]? = some row → e ∈ row → hapFrom e p rs = some (p + i, (row.take (row.idxOf e)).count 0)
  | [], _, i, _, _, h, _ => by simp at h
  | r :: rs, p, 0, row, _, h, he => by
    obtain rfl : r = row := Option.some.inj h
    unfold hapFrom
    rw [if_pos he]
    rfl
  | r :: rs, p, i + 1, row, hn, h, he => by
    unfold hapFrom
    rw [if_neg (hn 0 r (Nat.succ_pos _) rfl), hapFrom_some (i := i) (fun j r' hj hr => hn (j + 1) r' (Nat.succ_lt_succ hj) hr) h he]
    have : p + 1 + i = p + (i + 1) := by omega
    rw [this]
theorem idx_once : ∀ {row : List Int} {i : Nat} {e : Int}, row[i]? = some e → row.count e ≤ 1 → row.idxOf e = i
  | [], i, _, h, _ => by simp at h
  | a :: r, 0, e, h, _ => by
    obtain rfl : a = e := Option.some.inj h
    exact List.idxOf_cons_self
  | a :: r, i + 1, e, h, hc => by
    have h1 : e ∈ r := List.mem_of_getElem? (i := i) h
    have h2 := List.count_pos_iff.mpr h1
    have hne : a ≠ e := fun z => by
      subst z
      rw [List.count_cons_self] at hc
      omega
    rw [List.count_cons_of_ne hne] at hc
    rw [List.idxOf_cons, idx_once (row := r) (i := i) h hc, beq_false_of_ne hne]
    rfl
theorem count_at : ∀ {r : List (List Int)} {i : Nat} {row : List Int} {e : Int}, r[i]? = some row → row.count e ≤ r.flatten.count e
  | [], i, _, _, h => by simp at h
  | a :: r, 0, row, e, h => by
    obtain rfl : a = row := Option.some.inj h
    rw [List.flatten_cons, List.count_append]
    omega
  | a :: r, i + 1, row, e, h => by
    have := count_at (r := r) (i := i) (e := e) h
    rw [List.flatten_cons, List.count_append]
    omega
theorem count_two : ∀ {r : List (List Int)} {i j : Nat} {a b : List Int} {e : Int}, i < j → r[i]? = some a → r[j]? = some b → e ∈ a → e ∈ b → 2 ≤ r.flatten.count e
  | [], i, _, _, _, _, _, h, _, _, _ => by simp at h
  | x :: r, 0, j + 1, a, b, e, _, h1, h2, h3, h4 => by
    obtain rfl : x = a := Option.some.inj h1
    have h5 := count_at (r := r) (i := j) (e := e) h2
    have h6 := List.count_pos_iff.mpr h3
    have h7 := List.count_pos_iff.mpr h4
    rw [List.flatten_cons, List.count_append]
    omega
  | x :: r, i + 1, j + 1, a, b, e, hij, h1, h2, h3, h4 => by
    have := count_two (r := r) (i := i) (j := j) (Nat.lt_of_succ_lt_succ hij) h1 h2 h3 h4
    rw [List.flatten_cons, List.count_append]
    omega
/-- where an event of a message happened -/
theorem Good.hap_at {many most : Nat} {rows : List (List Int)} (h : Good many most rows) {p i : Nat} {row : List Int} {e : Int} (h1 : rows[p]? = some row) (h2 : row[i]? = some e) (he : e ≠ 0) : hap rows e = some (p, (row.take i).count 0) := by
  obtain ⟨c, nm, o, u, k, _, _, hp, g, _⟩ := h
  have hc := g.count hp he
  have hm := List.mem_of_getElem? h2
  have h3 := hapFrom_some (e := e) (p := 0) (rs := rows) (i := p) (row := row) (fun j r hj hr hr2 => ?_) h1 hm
  · unfold hap
    rw [h3, Nat.zero_add, idx_once h2 (Nat.le_trans (count_at h1) hc)]
  · have := count_two hj hr h1 hr2 hm
    omega
theorem Good.len {many most : Nat} {rows : List (List Int)} (h : Good many most rows) : 1 ≤ rows.length ∧ rows.length ≤ many := by
  obtain ⟨c, nm, o, u, k, h1, h2, h3, h4, h5⟩ := h
  rw [h4.len]
  exact ⟨h1, h2⟩
theorem Good.events {many most : Nat} {rows : List (List Int)} (h : Good many most rows) : (rows.map List.length).sum ≤ most := by
  obtain ⟨c, nm, o, u, k, h1, h2, h3, h4, h5⟩ := h
  exact Nat.le_trans h4.events h5
theorem Good.row {many most : Nat} {rows : List (List Int)} (h : Good many most rows) {i : Nat} {row : List Int} (e : rows[i]? = some row) : row.length ≤ most ∧ ∀ x ∈ row, -24 ≤ x ∧ x ≤ 24 := by
  obtain ⟨c, nm, o, u, k, h1, h2, h3, h4, h5⟩ := id h
  exact ⟨Nat.le_trans (len_le_sum e) h.events, (h4.small h3).1 row (List.mem_of_getElem? e)⟩
def recvM (rows : List (List Int)) (m : Int) : Bool := (hap rows (0 - m)).isSome
def recvL (rows : List (List Int)) : List Int := names24.filter (recvM rows)
theorem recvL_nodup (rows : List (List Int)) : (recvL rows).Nodup := names_nodup.sublist List.filter_sublist
theorem names_mem {m : Int} : m ∈ names24 ↔ 1 ≤ m ∧ m ≤ 24 := by
  unfold names24
  rw [List.mem_map]
  constructor
  · rintro ⟨i, hi, rfl⟩
    have := List.mem_range.mp hi
    omega
  · intro h
    exact ⟨(m - 1).toNat, List.mem_range.mpr (by omega), by omega⟩
/-- where an event stands first -/
def spotFrom (e : Int) : Nat → List (List Int) → Option (Nat × Nat)
  | _, [] => none
  | p, r :: rs => if e ∈ r then some (p, r.idxOf e) else spotFrom e (p + 1) rs
theorem spot_hap {e : Int} : ∀ {rs : List (List Int)} {p : Nat}, (spotFrom e p rs = none ∧ hapFrom e p rs = none) ∨ ∃ j row, rs[j]? = some row ∧ e ∈ row ∧ spotFrom e p rs = some (p + j, row.idxOf e) ∧ hapFrom e p rs = some (p + j, (row.take (row.idxOf e)).count 0)
  | [], _ => .inl ⟨rfl, rfl⟩
  | r :: rs, p => by
    unfold spotFrom hapFrom
    by_cases h : e ∈ r
    · rw [if_pos h, if_pos h]
      exact .inr ⟨0, r, rfl, h, rfl, rfl⟩
    · rw [if_neg h, if_neg h]
      rcases spot_hap (e := e) (rs := rs) (p := p + 1) with q | ⟨j, row, h1, h2, h3, h4⟩
      · exact .inl q
      · refine .inr ⟨j + 1, row, h1, h2, ?_, ?_⟩
        · rw [h3]; congr 2; omega
        · rw [h4]; congr 2; omega
theorem Good.recv {many most : Nat} {rows : List (List Int)} (h : Good many most rows) : (negs rows.flatten).Perm (recvL rows) := by
  obtain ⟨c, nm, o, u, k, h1, h2, hp, g, h5⟩ := id h
  have nt : (nm.take u).Nodup := ((hp.nodup_iff).mpr names_nodup).sublist (List.take_sublist _ _)
  have n1 : (negs rows.flatten).Nodup := ((g.once hp).2.nodup_iff.mpr nt).sublist (List.sublist_append_left _ _)
  refine (List.perm_ext_iff_of_nodup n1 (recvL_nodup rows)).mpr fun m => ?_
  unfold negs recvL
  rw [List.mem_map, List.mem_filter, names_mem]
  constructor
  · rintro ⟨e, he, rfl⟩
    obtain ⟨hm, hneg⟩ := List.mem_filter.mp he
    obtain ⟨row, hr, hmr⟩ := List.mem_flatten.mp hm
    obtain ⟨p, hp1⟩ := List.getElem?_of_mem hr
    obtain ⟨i, hi⟩ := List.getElem?_of_mem hmr
    have hb := (h.row hp1).2 e hmr
    have h0 : e < 0 := of_decide_eq_true hneg
    refine ⟨by omega, ?_⟩
    unfold recvM
    rw [show (0 : Int) - -e = e by omega, h.hap_at hp1 hi (by omega)]
    rfl
  · rintro ⟨hm, hs⟩
    refine ⟨0 - m, List.mem_filter.mpr ⟨?_, decide_eq_true (by omega)⟩, by omega⟩
    rcases spot_hap (e := 0 - m) (rs := rows) (p := 0) with ⟨_, z⟩ | ⟨p, row, z1, z2, _⟩
    · unfold recvM hap at hs
      rw [z] at hs
      cases hs
    · exact List.mem_flatten.mpr ⟨row, List.mem_of_getElem? z1, z2⟩
def sentM (rows : List (List Int)) (m : Int) : Bool := (hap rows m).isSome
def sentL (rows : List (List Int)) : List Int := names24.filter (sentM rows)
theorem Good.sent {many most : Nat} {rows : List (List Int)} (h : Good many most rows) : (poss rows.flatten).Perm (sentL rows) := by
  obtain ⟨c, nm, o, u, k, h1, h2, hp, g, h5⟩ := id h
  have nt : (nm.take u).Nodup := ((hp.nodup_iff).mpr names_nodup).sublist (List.take_sublist _ _)
  have n1 : (poss rows.flatten).Nodup := (g.once hp).1.nodup_iff.mpr nt
  have n2 : (sentL rows).Nodup := names_nodup.sublist List.filter_sublist
  refine (List.perm_ext_iff_of_nodup n1 n2).mpr fun m => ?_
  unfold poss sentL
  rw [List.mem_filter, List.mem_filter, names_mem]
  constructor
  · rintro ⟨hm, hpos⟩
    obtain ⟨row, hr, hmr⟩ := List.mem_flatten.mp hm
    obtain ⟨p, hp1⟩ := List.getElem?_of_mem hr
    obtain ⟨i, hi⟩ := List.getElem?_of_mem hmr
    have hb := (h.row hp1).2 m hmr
    have h0 : 0 < m := of_decide_eq_true hpos
    refine ⟨by omega, ?_⟩
    unfold sentM
    rw [h.hap_at hp1 hi (by omega)]
    rfl
  · rintro ⟨hm, hs⟩
    refine ⟨?_, decide_eq_true (by omega)⟩
    rcases spot_hap (e := m) (rs := rows) (p := 0) with ⟨_, z⟩ | ⟨p, row, z1, z2, _⟩
    · unfold sentM hap at hs
      rw [z] at hs
      cases hs
    · exact List.mem_flatten.mpr ⟨row, List.mem_of_getElem? z1, z2⟩
theorem Good.recv_sent {many most : Nat} {rows : List (List Int)} (h : Good many most rows) {m : Int} (hm : m ∈ recvL rows) : sentM rows m = true := by
  obtain ⟨c, nm, o, u, k, h1, h2, hp, g, h5⟩ := id h
  have h6 := h.recv.mem_iff.mpr hm
  have h7 := (g.once hp).2.mem_iff.mp (List.mem_append_left _ h6)
  have h8 := h.sent.mem_iff.mp ((g.once hp).1.mem_iff.mpr h7)
  exact (List.mem_filter.mp h8).2
theorem names_sorted : names24.Pairwise (· ≤ ·) := by decide +kernel
theorem recvL_sorted (rows : List (List Int)) : (recvL rows).Pairwise (· ≤ ·) := names_sorted.sublist List.filter_sublist
theorem recvL_len (rows : List (List Int)) : (recvL rows).length ≤ 24 := by
  have := List.length_filter_le (recvM rows) names24
  have h24 : names24.length = 24 := by decide +kernel
  unfold recvL
  omega
theorem Good.recv_mem {many most : Nat} {rows : List (List Int)} (h : Good many most rows) {m : Int} {x : Nat × Nat} (hm : 0 < m) (hx : hap rows (0 - m) = some x) : m ∈ recvL rows := by
  refine List.mem_filter.mpr ⟨names_mem.mpr ?_, by unfold recvM; rw [hx]; rfl⟩
  rcases spot_hap (e := 0 - m) (rs := rows) (p := 0) with ⟨_, z⟩ | ⟨p, row, z1, z2, _⟩
  · unfold hap at hx
    rw [z] at hx
    cases hx
  · have := (h.row z1).2 _ z2
    omega
theorem Good.hap_lt {rows : List (List Int)} {e : Int} {p k : Nat} (h : hap rows e = some (p, k)) : p < rows.length := by
  rcases spot_hap (e := e) (rs := rows) (p := 0) with ⟨_, z⟩ | ⟨p', row, z1, z2, _, z4⟩
  · unfold hap at h
    rw [z] at h
    cases h
  · unfold hap at h
    rw [z4, Nat.zero_add] at h
    cases h
    exact (List.getElem?_eq_some_iff.mp z1).1
theorem LeL.refl (a : List Nat) : LeL a a := fun i x y h1 h2 => by rw [h1] at h2; rw [Option.some.inj h2]; exact Nat.le_refl _
/-- no message is received before the line and sent behind it -/
def ConsL (rows : List (List Int)) (cs : List Nat) : Prop := ∀ (m : Int) (p k p' k' c c' : Nat), 0 < m → hap rows m = some (p, k) → hap rows (0 - m) = some (p', k') → cs[p]? = some c → cs[p']? = some c' → k' < c' → k < c
structure Dn (rows : List (List Int)) (high cs : List Nat) : Prop where
  len : cs.length = high.length
  le : LeL cs high
  top : ∀ L : List Nat, L.length = high.length → LeL L high → ConsL rows L → LeL L cs
structure IsLow (rows : List (List Int)) (high cs : List Nat) : Prop extends Dn rows high cs where
  cons : ConsL rows cs
/-- the greatest numbers that are left if these fail -/
def tops (rows : List (List Int)) (fs : List Int) : List Nat := rows.mapIdx fun i r => r.count 0 + (if decide ((i : Int) ∈ fs) = true then 0 else 1)
def prs (rows : List (List Int)) : List Nat := rows.map fun r => r.count 0 + 1
/-- a state that is needed when f fails -/
def NeedAt (rows : List (List Int)) (f p n : Nat) : Prop := ∃ cs : List Nat, IsLow rows (tops rows [(f : Int)]) cs ∧ cs[p]? = some n ∧ n < ((prs rows)[p]?).getD 0
def NeedL (rows : List (List Int)) (us : List (Int × Int)) : Prop := us.length < 64 ∧ us.Pairwise (fun a b => pc a < pc b) ∧ ∀ x, x ∈ us ↔ ∃ f p n : Nat, f < rows.length ∧ NeedAt rows f p n ∧ x = ((p : Int), (n : Int))
theorem NeedL.unique {rows : List (List Int)} {us vs : List (Int × Int)} (h : NeedL rows us) (g : NeedL rows vs) : us = vs := rise_eq pc us vs h.2.1 g.2.1 fun x => (h.2.2 x).trans (g.2.2 x).symm
theorem IsLow.unique {rows : List (List Int)} {high a b : List Nat} (ha : IsLow rows high a) (hb : IsLow rows high b) : a = b := by
  apply List.ext_getElem (ha.len.trans hb.len.symm)
  intro i h1 h2
  have e1 := List.getElem?_eq_getElem h1
  have e2 := List.getElem?_eq_getElem h2
  exact Nat.le_antisymm (hb.top a ha.len ha.le ha.cons i _ _ e1 e2) (ha.top b hb.len hb.le hb.cons i _ _ e2 e1)
theorem Dn.step {rows : List (List Int)} {high cs : List Nat} (h : Dn rows high cs) {m : Int} {p k p' k' c c' : Nat} (hm : 0 < m) (h1 : hap rows m = some (p, k)) (h2 : hap rows (0 - m) = some (p', k')) (h3 : cs[p]? = some c) (h4 : cs[p']? = some c') (h5 : k' < c') (h6 : c ≤ k) : Dn rows high (cs.set p' k') := by
  refine ⟨by rw [List.length_set]; exact h.len, fun i x y g1 g2 => ?_, fun L l1 l2 l3 i x y g1 g2 => ?_⟩
  · rw [List.getElem?_set] at g1
    split at g1
    · rename_i e
      subst e
      split at g1
      · obtain rfl := Option.some.inj g1
        have := h.le _ _ _ h4 g2
        omega
      · cases g1
    · exact h.le _ _ _ g1 g2
  · have hl := h.top L l1 l2 l3
    rw [List.getElem?_set] at g2
    split at g2
    · rename_i e
      subst e
      split at g2
      · obtain rfl := Option.some.inj g2
        have hpl : p < L.length := by
          rw [l1, ← h.len]
          exact (List.getElem?_eq_some_iff.mp h3).1
        have hp := List.getElem?_eq_getElem hpl
        have h7 := hl _ _ _ hp h3
        rcases Nat.lt_or_ge k' x with z | z
        · have := l3 m p k p' k' _ x hm h1 h2 hp g1 z
          omega
        · exact z
      · cases g2
    · exact hl _ _ _ g1 g2
theorem Dn.start (rows : List (List Int)) (high : List Nat) : Dn rows high high := ⟨rfl, .refl _, fun _ _ h _ => h⟩
theorem sum_set {cs : List Nat} {p c k : Nat} (h : cs[p]? = some c) : (cs.set p k).sum + c = cs.sum + k := by
  induction cs generalizing p with
  | nil => simp at h
  | cons a r ih =>
    cases p with
    | zero =>
      obtain rfl : a = c := Option.some.inj h
      simp only [List.set_cons_zero, List.sum_cons]
      omega
    | succ p =>
      have := ih (p := p) h
      simp only [List.set_cons_succ, List.sum_cons]
      omega
theorem tops_at {rows : List (List Int)} {fs : List Int} {i : Nat} {r : List Int} (h : rows[i]? = some r) : (tops rows fs)[i]? = some (r.count 0 + (if decide ((i : Int) ∈ fs) = true then 0 else 1)) := by
  unfold tops
  rw [List.getElem?_mapIdx, h]
  rfl
theorem tops_len (rows : List (List Int)) (fs : List Int) : (tops rows fs).length = rows.length := by
  unfold tops
  rw [List.length_mapIdx]
def rowU (p j : Nat) : List (Int × Int) := (List.range j).map fun (n : Nat) => ((p : Int), (n : Int))
def allU (rows : List (List Int)) (i : Nat) : List (Int × Int) := (List.range i).flatMap fun p => rowU p (((prs rows)[p]?).getD 0 + 1)
theorem prsA {rows : List (List Int)} {p : Nat} {row : List Int} (h : rows[p]? = some row) : (prs rows)[p]? = some (row.count 0 + 1) := by
  unfold prs
  rw [List.getElem?_map, h]
  rfl
theorem NeedAt.lt {rows : List (List Int)} {f p n : Nat} (h : NeedAt rows f p n) : p < rows.length := by
  obtain ⟨cs, h1, h2, _⟩ := h
  have := (List.getElem?_eq_some_iff.mp h2).1
  rw [h1.len, tops_len] at this
  exact this
def minL (a b : List Nat) : List Nat := List.zipWith min a b
theorem minL_len {a b : List Nat} (h : a.length = b.length) : (minL a b).length = a.length := by
  unfold minL
  rw [List.length_zipWith, h, Nat.min_self]
theorem minL_inv {a b : List Nat} {i z : Nat} (h : (minL a b)[i]? = some z) : ∃ x y, a[i]? = some x ∧ b[i]? = some y ∧ z = min x y := by
  unfold minL at h
  rw [List.getElem?_zipWith] at h
  cases h1 : a[i]? with
  | none => rw [h1] at h; cases h
  | some x =>
    cases h2 : b[i]? with
    | none => rw [h1, h2] at h; cases h
    | some y =>
      rw [h1, h2] at h
      exact ⟨x, y, rfl, rfl, (Option.some.inj h).symm⟩
theorem minL_at {a b : List Nat} {i x y : Nat} (h1 : a[i]? = some x) (h2 : b[i]? = some y) : (minL a b)[i]? = some (min x y) := by
  unfold minL
  rw [List.getElem?_zipWith, h1, h2]
theorem IsLow.min {rows : List (List Int)} {h1 h2 a b : List Nat} (ha : IsLow rows h1 a) (hb : IsLow rows h2 b) (hl : h1.length = h2.length) : IsLow rows (minL h1 h2) (minL a b) := by
  have la := ha.len
  have lb := hb.len
  refine ⟨⟨by rw [minL_len (by omega), minL_len hl]; exact la, fun i x y g1 g2 => ?_, fun L l1 l2 l3 i x y g1 g2 => ?_⟩, fun m p k p' k' c c' hm e1 e2 g1 g2 hlt => ?_⟩
  · obtain ⟨u, v, u1, u2, rfl⟩ := minL_inv g1
    obtain ⟨u', v', v1, v2, rfl⟩ := minL_inv g2
    have q1 := ha.le _ _ _ u1 v1
    have q2 := hb.le _ _ _ u2 v2
    omega
  · rw [minL_len hl] at l1
    obtain ⟨u, v, u1, u2, rfl⟩ := minL_inv g2
    have q1 := ha.top L l1 (fun i x y z1 z2 => by
      obtain ⟨y', hy'⟩ : ∃ y', h2[i]? = some y' := ⟨_, List.getElem?_eq_getElem (by have := (List.getElem?_eq_some_iff.mp z2).1; omega)⟩
      have := l2 i x _ z1 (minL_at z2 hy')
      omega) l3 _ _ _ g1 u1
    have q2 := hb.top L (by omega) (fun i x y z1 z2 => by
      obtain ⟨y', hy'⟩ : ∃ y', h1[i]? = some y' := ⟨_, List.getElem?_eq_getElem (by have := (List.getElem?_eq_some_iff.mp z2).1; omega)⟩
      have := l2 i x _ z1 (minL_at hy' z2)
      omega) l3 _ _ _ g1 u2
    omega
  · obtain ⟨u, v, u1, u2, rfl⟩ := minL_inv g1
    obtain ⟨u', v', v1, v2, rfl⟩ := minL_inv g2
    have q1 := ha.cons m p k p' k' u u' hm e1 e2 u1 v1 (by omega)
    have q2 := hb.cons m p k p' k' v v' hm e1 e2 u2 v2 (by omega)
    omega
theorem tops_app (rows : List (List Int)) (fs gs : List Int) : tops rows (fs ++ gs) = minL (tops rows fs) (tops rows gs) := by
  apply List.ext_getElem?
  intro i
  by_cases hi : i < rows.length
  · have hr := List.getElem?_eq_getElem hi
    rw [tops_at (fs := fs ++ gs) hr, minL_at (tops_at (fs := fs) hr) (tops_at (fs := gs) hr)]
    by_cases h1 : (i : Int) ∈ fs
    · rw [decide_eq_true h1, decide_eq_true (List.mem_append_left gs h1), if_pos rfl]
      split <;> rw [Nat.min_eq_left (by omega)]
    · by_cases h2 : (i : Int) ∈ gs
      · rw [decide_eq_false h1, decide_eq_true h2, decide_eq_true (List.mem_append_right fs h2), if_pos rfl, if_neg Bool.false_ne_true, Nat.min_eq_right (by omega)]
      · have h3 : ¬ ((i : Int) ∈ fs ++ gs) := fun z => by
          rcases List.mem_append.mp z with z | z
          · exact h1 z
          · exact h2 z
        rw [decide_eq_false h1, decide_eq_false h2, decide_eq_false h3, Nat.min_self]
  · rw [List.getElem?_eq_none (by rw [tops_len]; omega), List.getElem?_eq_none (by rw [minL_len (by rw [tops_len, tops_len]), tops_len]; omega)]
theorem tops_congr {rows : List (List Int)} {fs gs : List Int} (h : ∀ x, x ∈ fs ↔ x ∈ gs) : tops rows fs = tops rows gs := by
  apply List.ext_getElem?
  intro i
  by_cases hi : i < rows.length
  · have hr := List.getElem?_eq_getElem hi
    rw [tops_at (fs := fs) hr, tops_at (fs := gs) hr, decide_eq_decide.mpr (h i)]
  · rw [List.getElem?_eq_none (by rw [tops_len]; omega), List.getElem?_eq_none (by rw [tops_len]; omega)]
theorem IsLow.app {rows : List (List Int)} {fs gs : List Int} {a b : List Nat} (ha : IsLow rows (tops rows fs) a) (hb : IsLow rows (tops rows gs) b) : IsLow rows (tops rows (fs ++ gs)) (minL a b) := by
  rw [tops_app]
  exact ha.min hb (by rw [tops_len, tops_len])
theorem IsLow.mono {rows : List (List Int)} {fs gs : List Int} {a b : List Nat} (ha : IsLow rows (tops rows fs) a) (hb : IsLow rows (tops rows gs) b) (h : ∀ x ∈ gs, x ∈ fs) : LeL a b := by
  have e : tops rows fs = tops rows (fs ++ gs) := tops_congr fun x => ⟨fun z => List.mem_append_left _ z, fun z => (List.mem_append.mp z).elim id (h x)⟩
  have q := ha
  rw [e] at q
  have := q.unique (ha.app hb)
  intro i x y g1 g2
  rw [this] at g1
  obtain ⟨u, v, u1, u2, rfl⟩ := minL_inv g1
  obtain rfl := Option.some.inj (u2.symm.trans g2)
  exact Nat.min_le_right _ _
theorem perm_sorted_eq : ∀ {a b : List Int}, a.Perm b → a.Pairwise (· ≤ ·) → b.Pairwise (· ≤ ·) → a = b
  | [], b, h, _, _ => h.nil_eq
  | x :: a, [], h, _, _ => absurd h.length_eq (by simp)
  | x :: a, y :: b, h, h1, h2 => by
    obtain ⟨p1, q1⟩ := List.pairwise_cons.mp h1
    obtain ⟨p2, q2⟩ := List.pairwise_cons.mp h2
    have e : x = y := by
      have m1 : x ∈ y :: b := h.mem_iff.mp List.mem_cons_self
      have m2 : y ∈ x :: a := h.mem_iff.mpr List.mem_cons_self
      rcases List.mem_cons.mp m1 with z | z
      · exact z
      · rcases List.mem_cons.mp m2 with z2 | z2
        · exact z2.symm
        · have := p2 x z
          have := p1 y z2
          omega
    subst e
    rw [perm_sorted_eq h.cons_inv q1 q2]
/-- what a tuple holds is little -/
def small (d : PyData) : Prop := ∀ ds, d = .tuple ds → ds.length ≤ 10
/-- a process and an interval that are small -/
def HapS (o : Option (Nat × Nat)) : Prop := ∀ p k, o = some (p, k) → p ≤ 1000 ∧ k ≤ 1000
theorem hapFrom_small {e : Int} : ∀ {rs : List (List Int)} {p : Nat}, (∀ r ∈ rs, r.length ≤ 1000) → p + rs.length ≤ 1000 → HapS (hapFrom e p rs)
  | [], _, _, _ => fun p k h => (nomatch h)
  | r :: rs, p, h, hl => by
    unfold hapFrom
    rw [List.length_cons] at hl
    split
    · intro p' k' h'
      cases h'
      refine ⟨by omega, Nat.le_trans (List.count_le_length ..) ?_⟩
      rw [List.length_take]
      exact Nat.le_trans (Nat.min_le_right _ _) (h r List.mem_cons_self)
    · exact hapFrom_small (fun r' hr => h r' (List.mem_cons_of_mem _ hr)) (by omega)
theorem Good.hapS {many most : Nat} {rows : List (List Int)} (h : Good many most rows) (h1 : many ≤ 6) (h2 : most ≤ 60) (e : Int) : HapS (hap rows e) := by
  refine hapFrom_small (fun r hr => ?_) (by have := h.len; omega)
  obtain ⟨i, hi⟩ := List.getElem?_of_mem hr
  have := (h.row hi).1
  omega
theorem hapFrom_none {e : Int} : ∀ {rs : List (List Int)} {p : Nat}, (∀ (j : Nat) (r : List Int), rs[j]? = some r → e ∉ r) → hapFrom e p rs = none
  | [], _, _ => rfl
  | r :: rs, p, h => by
    unfold hapFrom
    rw [if_neg (h 0 r rfl)]
    exact hapFrom_none fun j r' hr => h (j + 1) r' hr
end Sv
namespace Sv
open PySem L2
theorem lc_map {α : Type} {g : DTG} {tt : DTT} {te : DTE} {us : List Nat} {env : Env} {S1 : Sto} {Rp : Addr → Sto → Prop} (xs : List α) (gx : α → D) (lv : Sto → Prop) (f : α → Option D) (hlen : xs.length ≤ 100000) (live : ∀ S, SG S1 S → lv S)
    (step : ∀ a ∈ xs, ∀ S, SG S1 S → ∀ (K : DK) (Kn : Sto → Prop), (∀ y, f a = some y → ∀ S', SG S S' → K y S') → (f a = none → ∀ S', SG S S' → Kn S') → Turn1 g tt te (dwipe env us) (gx a) S K Kn)
    (fin : ∀ p S', S1 p = none → SG S1 S' → S' p = some (.lst (xs.filterMap f)) → Rp p S') :
    ∀ p, S1 p = none → ∃ Pv : Nat → Sto → Prop, Pv 0 (S1.put p (.lst [])) ∧ (∀ i S, i ≤ (Src.mk (xs.map gx) lv).items.length → Pv i S → (Src.mk (xs.map gx) lv).live S) ∧
      (∀ i d S, (Src.mk (xs.map gx) lv).items[i]? = some d → Pv i S → g d (dwipe env us) S fun env' S' => tt env' S' fun b S2 => if b = true then te env' S2 fun y S3 => ∃ acc, S3 p = some (.lst acc) ∧ acc.length < 1000000 ∧ Pv (i + 1) (S3.put p (.lst (acc ++ [y]))) else Pv (i + 1) S2) ∧
      ∀ S, Pv (Src.mk (xs.map gx) lv).items.length S → Rp p S := by
  intro p np
  refine ⟨fun i S => SG S1 S ∧ S p = some (.lst ((xs.take i).filterMap f)) ∧ i ≤ xs.length, ⟨.new np, Sto.same, Nat.zero_le _⟩, fun i S _ h => live S h.1, fun i d S hd h => ?_, fun S h => ?_⟩
  · have hd : (xs.map gx)[i]? = some d := hd
    rw [List.getElem?_map] at hd
    obtain ⟨a, ha, rfl⟩ := Option.map_eq_some_iff.mp hd
    have hi : i < xs.length := (List.getElem?_eq_some_iff.mp ha).1
    have ht : xs.take (i + 1) = xs.take i ++ [a] := by rw [List.take_add_one, ha]; rfl
    refine step a (List.mem_of_getElem? ha) S h.1 _ _ (fun y hy S' sg => ?_) (fun hn S' sg => ?_)
    · have hp : S' p = _ := sg _ _ (fun z => z) h.2.1
      have hl : ((xs.take i).filterMap f).length ≤ 100000 := Nat.le_trans (List.length_filterMap_le ..) (by rw [List.length_take]; omega)
      refine ⟨_, hp, by omega, fun a o n e => ?_, ?_, hi⟩
      · have hap : a ≠ p := fun z => by rw [z, np] at e; cases e
        rw [Sto.ne hap]
        exact sg _ _ n (h.1 _ _ n e)
      · rw [Sto.same, ht, List.filterMap_append]
        simp [hy]
    · refine ⟨h.1.trans sg, ?_, hi⟩
      rw [sg _ _ (fun z => z) h.2.1, ht, List.filterMap_append]
      simp [hn]
  · have h : SG S1 S ∧ S p = some (.lst ((xs.take (xs.map gx).length).filterMap f)) ∧ _ := h
    have h2 := h.2.1
    rw [List.length_map, List.take_length] at h2
    exact fin p S np h.1 h2
theorem flat_le {α β : Type} (F : α → List β) (n : Nat) : ∀ xs : List α, (∀ a ∈ xs, (F a).length ≤ n) → (xs.flatMap F).length ≤ xs.length * n
  | [], _ => Nat.zero_le _
  | a :: r, h => by
    rw [List.flatMap_cons, List.length_append, List.length_cons, Nat.succ_mul]
    have := h a List.mem_cons_self
    have := flat_le F n r fun b hb => h b (List.mem_cons_of_mem _ hb)
    omega
theorem take_map {α : Type} {xs : List α} {i : Nat} {a : α} (ha : xs[i]? = some a) : xs.take (i + 1) = xs.take i ++ [a] := by rw [List.take_add_one, ha]; rfl
theorem SG.keepP {S1 S S' : Sto} {p : Addr} {o : Ob} (np : S1 p = none) (h : SG S1 S) (sg : SG S S') : SG S1 (S'.put p o) := fun a o n e => by
  have hap : a ≠ p := fun z => by rw [z, np] at e; cases e
  rw [Sto.ne hap]
  exact sg _ _ n (h _ _ n e)
theorem lc2_map {α β : Type} {g g1 : DTG} {ti1 : DTI} {tt1 : DTT} {te : DTE} {us us1 : List Nat} {env : Env} {S1 : Sto} {Rp : Addr → Sto → Prop} (xs : List α) (gx : α → D) (lv : Sto → Prop) (ys : α → List β) (h : α → β → D) (f : α → β → Option D) (E : α → Env)
    (hl1 : xs.length ≤ 300) (hl2 : ∀ a ∈ xs, (ys a).length ≤ 300) (live : ∀ S, SG S1 S → lv S)
    (out : ∀ a ∈ xs, ∀ S, SG S1 S → ∀ K : Env → Sto → Prop, K (E a) S → g (gx a) (dwipe env us) S K)
    (src : ∀ a ∈ xs, ∀ S, SG S1 S → ∀ K : Src → Sto → Prop, (∀ S', SG S S' → K ⟨(ys a).map (h a), fun _ => True⟩ S') → ti1 (E a) S K)
    (step : ∀ a ∈ xs, ∀ b ∈ ys a, ∀ S, SG S1 S → ∀ (K : DK) (Kn : Sto → Prop), (∀ y, f a b = some y → ∀ S', SG S S' → K y S') → (f a b = none → ∀ S', SG S S' → Kn S') → Turn1 g1 tt1 te (dwipe (E a) us1) (h a b) S K Kn)
    (fin : ∀ p S', S1 p = none → SG S1 S' → S' p = some (.lst (xs.flatMap fun a => (ys a).filterMap (f a))) → Rp p S') :
    ∀ p, S1 p = none → ∃ Pv : Nat → Sto → Prop, Pv 0 (S1.put p (.lst [])) ∧ (∀ i S, i ≤ (Src.mk (xs.map gx) lv).items.length → Pv i S → (Src.mk (xs.map gx) lv).live S) ∧
      (∀ i d S, (Src.mk (xs.map gx) lv).items[i]? = some d → Pv i S → g d (dwipe env us) S fun env' S' => dYes env' S' fun b S2 => if b = true then ti1 env' S2 fun w1 S3 => ∃ Pw : Nat → Sto → Prop, Pw 0 S3 ∧ (∀ j S, j ≤ w1.items.length → Pw j S → w1.live S) ∧
        (∀ j e S, w1.items[j]? = some e → Pw j S → g1 e (dwipe env' us1) S fun env2 S4 => tt1 env2 S4 fun b S5 => if b = true then te env2 S5 fun y S6 => ∃ acc, S6 p = some (.lst acc) ∧ acc.length < 1000000 ∧ Pw (j + 1) (S6.put p (.lst (acc ++ [y]))) else Pw (j + 1) S5) ∧
        (∀ S, Pw w1.items.length S → Pv (i + 1) S) else Pv (i + 1) S2) ∧
      ∀ S, Pv (Src.mk (xs.map gx) lv).items.length S → Rp p S := by
  intro p np
  refine ⟨fun i S => SG S1 S ∧ S p = some (.lst ((xs.take i).flatMap fun a => (ys a).filterMap (f a))) ∧ i ≤ xs.length, ⟨.new np, Sto.same, Nat.zero_le _⟩, fun i S _ h => live S h.1, fun i d S hd hh => ?_, fun S h => ?_⟩
  · have hd : (xs.map gx)[i]? = some d := hd
    rw [List.getElem?_map] at hd
    obtain ⟨a, ha, rfl⟩ := Option.map_eq_some_iff.mp hd
    have hm := List.mem_of_getElem? ha
    have hi : i < xs.length := (List.getElem?_eq_some_iff.mp ha).1
    have ht := take_map ha
    refine out a hm S hh.1 _ ?_
    dsimp only [dYes]
    rw [if_pos rfl]
    refine src a hm S hh.1 _ fun S' sg => ?_
    have hb : ((xs.take i).flatMap fun a => (ys a).filterMap (f a)).length ≤ 90000 := by
      have := flat_le (fun a => (ys a).filterMap (f a)) 300 (xs.take i) fun b hb => Nat.le_trans (List.length_filterMap_le ..) (hl2 b (List.mem_of_mem_take hb))
      have h3 : (xs.take i).length ≤ 300 := by rw [List.length_take]; omega
      have := Nat.mul_le_mul_right 300 h3
      omega
    refine ⟨fun j S => SG S1 S ∧ S p = some (.lst (((xs.take i).flatMap fun a => (ys a).filterMap (f a)) ++ ((ys a).take j).filterMap (f a))) ∧ j ≤ (ys a).length, ⟨hh.1.trans sg, ?_, Nat.zero_le _⟩, fun j S _ q => True.intro, fun j e S2 he q => ?_, fun S2 q => ?_⟩
    · rw [sg _ _ (fun z => z) hh.2.1]
      simp
    · have he : ((ys a).map (h a))[j]? = some e := he
      rw [List.getElem?_map] at he
      obtain ⟨b, hb', rfl⟩ := Option.map_eq_some_iff.mp he
      have hj : j < (ys a).length := (List.getElem?_eq_some_iff.mp hb').1
      have ht2 := take_map hb'
      have h2 := hl2 a hm
      refine step a hm b (List.mem_of_getElem? hb') S2 q.1 _ _ (fun y hy S3 sg3 => ?_) (fun hn S3 sg3 => ?_)
      · have hp : S3 p = _ := sg3 _ _ (fun z => z) q.2.1
        have hl : (((ys a).take j).filterMap (f a)).length ≤ 300 := Nat.le_trans (List.length_filterMap_le ..) (by rw [List.length_take]; omega)
        refine ⟨_, hp, by rw [List.length_append]; omega, SG.keepP np q.1 sg3, ?_, hj⟩
        · rw [Sto.same, ht2, List.filterMap_append, List.append_assoc]
          simp [hy]
      · refine ⟨q.1.trans sg3, ?_, hj⟩
        rw [sg3 _ _ (fun z => z) q.2.1, ht2, List.filterMap_append]
        simp [hn]
    · have q : SG S1 S2 ∧ S2 p = some (.lst (((xs.take i).flatMap fun a => (ys a).filterMap (f a)) ++ ((ys a).take ((ys a).map (h a)).length).filterMap (f a))) ∧ _ := q
      have q2 := q.2.1
      rw [List.length_map, List.take_length] at q2
      refine ⟨q.1, ?_, hi⟩
      rw [q2, ht, List.flatMap_append]
      simp
  · have h : SG S1 S ∧ S p = some (.lst ((xs.take (xs.map gx).length).flatMap fun a => (ys a).filterMap (f a))) ∧ _ := h
    have h2 := h.2.1
    rw [List.length_map, List.take_length] at h2
    exact fin p S np h.1 h2
theorem putD_new {kvs : List (Key × D)} {k : Key} {v : D} (h : k ∉ kvs.map (·.1)) : putD kvs k v = kvs ++ [(k, v)] := by
  unfold putD
  rw [if_neg]
  intro z
  obtain ⟨x, h1, h2⟩ := List.any_eq_true.mp z
  exact h (List.mem_map.mpr ⟨x, h1, of_decide_eq_true h2⟩)
theorem dc_map {α : Type} {g : DTG} {tk tv : DTE} {us : List Nat} {env : Env} {S1 : Sto} {R : DK} (xs : List α) (gx : α → D) (lv : Sto → Prop) (κ : α → Key) (v : α → D) (hlen : xs.length ≤ 100000) (nd : (xs.map κ).Nodup) (live : ∀ S, (∀ a o, S1 a = some o → S a = some o) → lv S)
    (step : ∀ a ∈ xs, ∀ S, SG S1 S → ∀ K : D → D → Sto → Prop, (∀ S', SG S S' → K (kD (κ a)) (v a) S') → g (gx a) (dwipe env us) S fun env' S' => tk env' S' fun y S3 => tv env' S3 fun z S4 => K y z S4)
    (fin : ∀ S', SG S1 S' → R (.dct (xs.map fun a => (κ a, v a))) S') :
    ∀ p, S1 p = none → ∃ Pv : Nat → Sto → Prop, Pv 0 (S1.put p (.dK [])) ∧ (∀ i S, i ≤ (Src.mk (xs.map gx) lv).items.length → Pv i S → (Src.mk (xs.map gx) lv).live S) ∧
      (∀ i d S, (Src.mk (xs.map gx) lv).items[i]? = some d → Pv i S → g d (dwipe env us) S fun env' S' => dYes env' S' fun b S2 => if b = true then tk env' S2 fun y S3 => tv env' S3 fun z S4 => ∃ kvs k, y = kD k ∧ S4 p = some (.dK kvs) ∧ kvs.length < 1000000 ∧ Pv (i + 1) (S4.put p (.dK (putD kvs k z))) else Pv (i + 1) S2) ∧
      ∀ S, Pv (Src.mk (xs.map gx) lv).items.length S → ∃ kvs, S p = some (.dK kvs) ∧ R (.dct kvs) (S.rem p) := by
  intro p np
  refine ⟨fun i S => SG S1 S ∧ S p = some (.dK ((xs.take i).map fun a => (κ a, v a))) ∧ i ≤ xs.length, ⟨.new np, Sto.same, Nat.zero_le _⟩, fun i S _ h => live S fun a o e => h.1 _ _ (fun z => z) e, fun i d S hd h => ?_, fun S h => ?_⟩
  · have hd : (xs.map gx)[i]? = some d := hd
    rw [List.getElem?_map] at hd
    obtain ⟨a, ha, rfl⟩ := Option.map_eq_some_iff.mp hd
    have hi : i < xs.length := (List.getElem?_eq_some_iff.mp ha).1
    have ht := take_map ha
    refine step a (List.mem_of_getElem? ha) S h.1 (fun y z S4 => ∃ kvs k, y = kD k ∧ S4 p = some (.dK kvs) ∧ kvs.length < 1000000 ∧ (SG S1 (S4.put p (.dK (putD kvs k z))) ∧ (S4.put p (.dK (putD kvs k z))) p = some (.dK ((xs.take (i + 1)).map fun a => (κ a, v a))) ∧ i + 1 ≤ xs.length)) fun S' sg => ?_
    have hp : S' p = _ := sg _ _ (fun z => z) h.2.1
    refine ⟨_, _, rfl, hp, ?_, SG.keepP np h.1 sg, ?_, hi⟩
    · rw [List.length_map, List.length_take]
      omega
    · have hnew : κ a ∉ ((xs.take i).map fun a => (κ a, v a)).map (·.1) := by
        rw [List.map_map]
        intro z
        have e : xs = xs.take i ++ a :: xs.drop (i + 1) := by
          obtain ⟨hi', e⟩ := List.getElem?_eq_some_iff.mp ha
          rw [← e]
          exact (List.take_append_drop i xs).symm.trans (by rw [List.drop_eq_getElem_cons hi'])
        rw [e, List.map_append, List.map_cons] at nd
        obtain ⟨y, h1, h2⟩ := List.mem_map.mp z
        exact (List.nodup_append.mp nd).2.2 _ (List.mem_map.mpr ⟨y, h1, h2⟩) _ List.mem_cons_self rfl
      rw [Sto.same, putD_new hnew, ht, List.map_append]
      rfl
  · have h : SG S1 S ∧ S p = some (.dK ((xs.take (xs.map gx).length).map fun a => (κ a, v a))) ∧ _ := h
    have h2 := h.2.1
    rw [List.length_map, List.take_length] at h2
    refine ⟨_, h2, fin _ fun a o n e => ?_⟩
    have hap : a ≠ p := fun z => by rw [z, np] at e; cases e
    show (if a = p then none else S a) = some o
    rw [if_neg hap]
    exact h.1 _ _ n e
end Sv
set_option maxHeartbeats 400000
namespace Sv
open PySem L2
def natD (cs : List Nat) : List D := cs.map fun (c : Nat) => D.int (c : Int)
theorem natD_ints (cs : List Nat) : natD cs = intsD (cs.map fun (c : Nat) => (c : Int)) := by
  unfold natD intsD
  rw [List.map_map]
  rfl
theorem natD_len (cs : List Nat) : (natD cs).length = cs.length := List.length_map ..
theorem natD_at {cs : List Nat} {i c : Nat} (h : cs[i]? = some c) : (natD cs)[i]? = some (D.int (c : Int)) := by
  unfold natD
  rw [List.getElem?_map, h]
  rfl
theorem w_nums {rows : List (List Int)} {S : Sto} {R : DK} (hl : rows.length ≤ 1000) (k : ∀ S', SG S S' → R (.tup (natD (prs rows))) S') : dFn 2 B_state_numbers_78d0 [.tup (rowsD rows)] S R := by
  refine ⟨_, rfl, _, rfl, lc_map rows rowD (fun _ => True) (fun row => some (D.int ((row.count 0 : Nat) + 1))) (by omega) (fun _ _ => True.intro) (fun row _ S1 sg K Kn hk _ => turn_y ⟨_, rfl, ⟨_, rfl⟩, row, 0, rfl, rfl, hk _ rfl _ (.refl _)⟩) fun p S' np sg hp => ?_⟩
  refine ⟨_, _, rfl, seqOf_lst hp, fun ys z => (nomatch z), ?_⟩
  rw [fm_map]
  have := k S' sg
  unfold natD prs at this
  rw [List.map_map] at this
  exact this
/-- where a number stands in the rows -/
def hpD : Option (Nat × Nat) → D
  | none => .non
  | some (p, k) => .tup [.int (p : Int), .int (k : Int)]
theorem w_hap {rows : List (List Int)} {e : Int} {S : Sto} {R : DK} (k : R (hpD (hap rows e)) S) : dFn 6 B_happened_at_e85f [.tup (rowsD rows), .int e] S R := by
  refine ⟨_, rfl, _, _, rfl, rfl, fun i env S' => S' = S ∧ i ≤ rows.length ∧ (∃ x2 x3 x4 x5 : Option D, env = [some (.tup (rowsD rows)), some (.int e), x2, x3, x4, x5]) ∧ ∀ (j : Nat) (r : List Int), j < i → rows[j]? = some r → e ∉ r, ⟨rfl, Nat.zero_le _, ⟨_, _, _, _, rfl⟩, fun j r z => absurd z (Nat.not_lt_zero _)⟩, fun _ _ _ _ _ => True.intro, ?_, ?_⟩
  · rintro i d env S' hd ⟨rfl, hi0, ⟨x2, x3, x4, x5, rfl⟩, hno⟩
    have hd : (enD (rowsD rows))[i]? = some d := hd
    unfold enD at hd
    rw [List.getElem?_mapIdx] at hd
    obtain ⟨rd, hrd, rfl⟩ := Option.map_eq_some_iff.mp hd
    unfold rowsD at hrd
    rw [List.getElem?_map] at hrd
    obtain ⟨row, hrow, rfl⟩ := Option.map_eq_some_iff.mp hrd
    have hi : i < rows.length := (List.getElem?_eq_some_iff.mp hrow).1
    refine ⟨_, rfl, .inl (.inl rfl), _, _, rfl, _, _, rfl, rfl, ?_⟩
    refine ⟨_, rfl, _, rfl, fun j env S2 => S2 = S' ∧ j ≤ row.length ∧ (∃ x5 : Option D, env = [some (.tup (rowsD rows)), some (.int e), some (.int (i : Nat)), some (rowD row), some (.int ((row.take j).count 0 : Nat)), x5]) ∧ e ∉ row.take j, ⟨rfl, Nat.zero_le _, ⟨_, rfl⟩, List.not_mem_nil⟩, fun _ _ _ _ _ => True.intro, ?_, ?_⟩
    · rintro j d env S2 hd ⟨rfl, hj0, ⟨x5, rfl⟩, hn⟩
      have hd : (intsD row)[j]? = some d := hd
      unfold intsD at hd
      rw [List.getElem?_map] at hd
      obtain ⟨z, hz, rfl⟩ := Option.map_eq_some_iff.mp hd
      have hj : j < row.length := (List.getElem?_eq_some_iff.mp hz).1
      have htk : row.take (j + 1) = row.take j ++ [z] := take_map hz
      refine ⟨_, rfl, _, rfl, _, rfl, iteB (fun h1 => ?_) (fun h1 => ?_)⟩
      · have h1 : z = e := by simpa using h1
        subst h1
        refine ⟨_, rfl, _, rfl, rfl, ?_⟩
        have hm : z ∈ row := List.mem_of_getElem? hz
        have hix : row.idxOf z = j := by
          have hk := List.idxOf_lt_length_iff.mpr hm
          have hg : row[row.idxOf z] = z := List.getElem_idxOf hk
          rcases Nat.lt_trichotomy (row.idxOf z) j with h | h | h
          · exact absurd (List.mem_take_iff_getElem.mpr ⟨row.idxOf z, by omega, hg⟩) hn
          · exact h
          · have := List.not_of_lt_findIdx (xs := row) (p := (· == z)) (i := j) h
            have hzz : row[j] = z := (List.getElem?_eq_some_iff.mp hz).2
            simp [hzz] at this
        have hh : hap rows z = some (0 + i, (row.take (row.idxOf z)).count 0) := hapFrom_some hno hrow hm
        rw [hh, Nat.zero_add, hix] at k
        exact k
      · have hze : z ≠ e := by simpa using h1
        have hn2 : e ∉ row.take (j + 1) := by
          rw [htk, List.mem_append, List.mem_singleton]
          rintro (h | h)
          · exact hn h
          · exact hze h.symm
        refine ⟨_, rfl, _, rfl, iteB (fun h2 => ?_) (fun h2 => ?_)⟩
        · have h2 : z = 0 := by simpa using h2
          subst h2
          refine ⟨_, rfl, ⟨rfl, hj, ⟨some (.int 0), ?_⟩, hn2⟩⟩
          rw [htk, List.count_append, List.count_singleton_self]
          rfl
        · have hz0 : z ≠ 0 := by simpa using h2
          refine ⟨rfl, hj, ⟨some (.int z), ?_⟩, hn2⟩
          rw [htk, List.count_append, List.count_singleton, if_neg (by simpa using hz0), Nat.add_zero]
          rfl
    · rintro env S2 ⟨rfl, _, ⟨x5, rfl⟩, hn⟩
      refine ⟨rfl, hi, ⟨_, _, _, _, rfl⟩, fun j r hj hr => ?_⟩
      by_cases hji : j = i
      · subst hji
        obtain rfl := Option.some.inj (hrow.symm.trans hr)
        have hn : e ∉ row.take (intsD row).length := hn
        rw [intsD_len, List.take_length] at hn
        exact hn
      · exact hno j r (by omega) hr
  · rintro env S' ⟨rfl, _, ⟨x2, x3, x4, x5, rfl⟩, hno⟩
    have hh : hap rows e = none := hapFrom_none fun j r hr => hno j r (by
      have := (List.getElem?_eq_some_iff.mp hr).1
      show j < (enD (rowsD rows)).length
      unfold enD rowsD
      rw [List.length_mapIdx, List.length_map]
      exact this) hr
    rw [hh] at k
    exact k
/-- a trip -/
def tripD (rows : List (List Int)) (m : Int) : D := .tup [hpD (hap rows m), hpD (hap rows (0 - m))]
def tripsD (rows : List (List Int)) : D := .dct ((recvL rows).map fun m => (Sum.inl m, tripD rows m))
theorem w_orph {p k p' k' c c' : Nat} {l : Addr} {cs : List Nat} {S : Sto} {R : DK} (hl : S l = some (.lst (natD cs))) (hc : cs[p]? = some c) (hc' : cs[p']? = some c') (q : R (.bl (decide (k' < c') && decide (c ≤ k))) S) :
    dFn 6 B_is_orphan_8604 [.tup [hpD (some (p, k)), hpD (some (p', k'))], .ref l] S R := by
  refine ⟨_, rfl, _, rfl, .inl (.inl rfl), _, _, rfl, ⟨_, rfl, .inl (.inl rfl), _, _, rfl, _, _, rfl, rfl, _, _, rfl, ⟨_, rfl, .inl (.inl rfl), _, _, rfl, _, _, rfl, rfl, rfl, ?_⟩⟩⟩
  refine ⟨_, rfl, _, rfl, _, rfl, _, _, _, seqOf_lst hl, rfl, atI_nat (natD_at hc'), _, rfl, iteB (fun h1 => ?_) (fun h1 => ?_)⟩
  · have h1 : k' < c' := by
      have := of_decide_eq_true h1
      omega
    refine ⟨_, rfl, _, rfl, _, rfl, _, _, _, seqOf_lst hl, rfl, atI_nat (natD_at hc), ?_⟩
    rw [decide_eq_true h1, Bool.true_and] at q
    have : decide ((c : Int) ≤ (k : Int)) = decide (c ≤ k) := decide_eq_decide.mpr (by omega)
    show R (.bl (decide ((c : Int) ≤ (k : Int)))) S
    rw [this]
    exact q
  · have h1 : ¬ k' < c' := by
      have := of_decide_eq_false h1
      omega
    rw [decide_eq_false h1, Bool.false_and] at q
    exact q
theorem hpD_neg (rows : List (List Int)) (m : Int) : hap rows (-m) = hap rows (0 - m) := by rw [Int.zero_sub]
theorem negs_len (l : List Int) : (negs l).length ≤ l.length := by
  unfold negs
  rw [List.length_map]
  exact List.length_filter_le ..
theorem Good.flat60 {many most : Nat} {rows : List (List Int)} (h : Good many most rows) : rows.flatten.length ≤ most := by
  rw [List.length_flatten]
  exact h.events
theorem Good.row60 {many most : Nat} {rows : List (List Int)} (h : Good many most rows) (h60 : most ≤ 60) : ∀ r ∈ rows, r.length ≤ 60 := fun r hr => by
  obtain ⟨i, hi⟩ := List.getElem?_of_mem hr
  have := (h.row hi).1
  omega
theorem negs_flat : ∀ rows : List (List Int), (rows.flatMap fun row => row.filterMap fun v => if decide (v < 0) = true then some (D.int (-v)) else none) = intsD (negs rows.flatten)
  | [] => rfl
  | r :: rs => by
    have h1 : ∀ l : List Int, (l.filterMap fun v => if decide (v < 0) = true then some (D.int (-v)) else none) = intsD (negs l) := fun l => by
      induction l with
      | nil => rfl
      | cons a t ih =>
        rw [List.filterMap_cons]
        unfold negs at ih ⊢
        rw [List.filter_cons]
        by_cases z : a < 0
        · simp only [z, decide_true, if_true]
          rw [ih]
          rfl
        · simp only [z, decide_false, Bool.false_eq_true, if_false]
          exact ih
    rw [List.flatMap_cons, negs_flat rs, h1, List.flatten_cons]
    unfold negs intsD
    rw [List.filter_append, List.map_append, List.map_append]
theorem w_trips {rows : List (List Int)} {many most : Nat} {S : Sto} {R : DK} (hG : Good many most rows) (h6 : many ≤ 6) (h60 : most ≤ 60) (k : ∀ S', SG S S' → R (tripsD rows) S') : dFn 5 B_trips_of_ea9a [.tup (rowsD rows)] S R := by
  have r60 := hG.row60 h60
  have rl := hG.len
  refine ⟨_, rfl, _, rfl, lc2_map rows rowD (fun _ => True) (fun row => row) (fun _ v => .int v) (fun _ v => if decide (v < 0) = true then some (D.int (-v)) else none) (fun row => [some (.tup (rowsD rows)), none, none, some (rowD row), none]) (by omega) (fun a ha => by have := r60 a ha; omega) (fun _ _ => True.intro)
    (fun row _ S1 sg K hk => hk) (fun row _ S1 sg K hk => ⟨_, rfl, _, rfl, hk _ (.refl _)⟩) (fun row _ v _ S1 sg K Kn hk hn => turn_n ⟨_, rfl, _, rfl, iteB (fun e => ⟨_, rfl, hk _ (by rw [if_pos e]) _ (.refl _)⟩) (fun e => hn (by have e : decide (v < 0) = false := e; rw [e]; rfl) _ (.refl _))⟩) fun p S1 np sg1 hp => ?_⟩
  rw [negs_flat] at hp
  refine ⟨_, negs rows.flatten, rfl, seqOf_lst hp, noTup _, ?_, fun ns q pm pw nq => ?_⟩
  · have := negs_len rows.flatten
    have := hG.flat60
    omega
  have e : ns = recvL rows := perm_sorted_eq (pm.trans hG.recv) pw (recvL_sorted rows)
  subst e
  have sg2 : SG S1 (S1.put q (.lst (intsD (recvL rows)))) := .new nq
  have hq : (S1.put q (.lst (intsD (recvL rows)))) q = some (.lst (intsD (recvL rows))) := Sto.same
  generalize S1.put q (.lst (intsD (recvL rows))) = S2 at sg2 hq
  have len := recvL_len rows
  refine ⟨_, rfl, _, ⟨_, hq, rfl⟩, dc_map (recvL rows) D.int (fun S' => S' q = some (.lst (intsD (recvL rows)))) Sum.inl (tripD rows) (by omega) ?_ (fun S' sg => sg _ _ hq) (fun m _ S3 sg3 K hk => ?_) fun S3 sg3 => k _ ((sg1.trans sg2).trans sg3)⟩
  · exact List.pairwise_map.mpr ((recvL_nodup rows).imp fun n z => n (Sum.inl.inj z))
  · refine ⟨_, rfl, _, rfl, _, rfl, rfl, w_hap ⟨_, rfl, _, rfl, rfl, w_hap ⟨rfl, ?_⟩⟩⟩
    rw [hpD_neg]
    exact hk _ (.refl _)
end Sv
set_option maxHeartbeats 400000
namespace Sv
open PySem L2
theorem hap_trip {rows : List (List Int)} {many most : Nat} (hG : Good many most rows) {m : Int} (hm : m ∈ recvL rows) : 1 ≤ m ∧ ∃ p k p' k' : Nat, hap rows m = some (p, k) ∧ hap rows (0 - m) = some (p', k') ∧ tripD rows m = .tup [hpD (some (p, k)), hpD (some (p', k'))] := by
  have h1 := hG.recv_sent hm
  have h2 := (List.mem_filter.mp hm).2
  have h3 := names_mem.mp (List.mem_filter.mp hm).1
  unfold sentM at h1
  unfold recvM at h2
  obtain ⟨⟨p, k⟩, e1⟩ := Option.isSome_iff_exists.mp h1
  obtain ⟨⟨p', k'⟩, e2⟩ := Option.isSome_iff_exists.mp h2
  refine ⟨h3.1, p, k, p', k', e1, e2, ?_⟩
  unfold tripD
  rw [e1, e2]
theorem ixnN {n j : Nat} (hj : j < n) : ixN n (j : Int) = some j := by
  unfold ixN
  rw [if_pos (Int.natCast_nonneg j), if_pos (Int.ofNat_lt.mpr hj), Int.toNat_natCast]
theorem w_lowered {rows : List (List Int)} {many most : Nat} {h : Addr} {high : List Nat} {S : Sto} {R : DK} (hG : Good many most rows) (h6 : many ≤ 6) (h60 : most ≤ 60) (hh : S h = some (.lst (natD high))) (hhl : high.length = rows.length)
    (q : ∀ cs S', SG S S' → IsLow rows high cs → R (.tup (natD cs)) S') : dFn 7 B_lowered_c6aa [tripsD rows, .ref h] S R := by
  refine ⟨_, rfl, _, _, rfl, seqOf_lst hh, fun l nl => ?_⟩
  have s1 : SG S (S.put l (.lst (natD high))) := .new nl
  have hl1 : (S.put l (.lst (natD high))) l = some (.lst (natD high)) := Sto.same
  generalize S.put l (.lst (natD high)) = S1 at s1 hl1 ⊢
  dsimp only
  refine ⟨fun m env S' => ∃ (cs : List Nat) (b : Bool) (x4 x5 x6 : Option D), env = [some (tripsD rows), some (.ref h), some (.ref l), some (.bl b), x4, x5, x6] ∧ SG S S' ∧ S' l = some (.lst (natD cs)) ∧ Dn rows high cs ∧ (b = false → ConsL rows cs) ∧ m = 2 * cs.sum + (if b = true then 1 else 0), ⟨_, high, true, _, _, _, rfl, s1, hl1, .start _ _, (fun z => nomatch z), rfl⟩, ?_⟩
  rintro m env S' ⟨cs, b, x4, x5, x6, rfl, sm, hl, hdn, hb, hm⟩
  refine ⟨_, rfl, b, rfl, ?_⟩
  cases b with
  | false =>
    refine goF ?_
    exact ⟨_, rfl, _, _, rfl, seqOf_lst hl, fun ys z => (nomatch z), q cs _ sm ⟨hdn, hb rfl⟩⟩
  | true =>
    rw [if_pos rfl] at hm
    refine goT ?_
    refine ⟨_, rfl, _, rfl, fun j env S'' => ∃ (c1 : List Nat) (b1 : Bool) (x4 x5 x6 : Option D), env = [some (tripsD rows), some (.ref h), some (.ref l), some (.bl b1), x4, x5, x6] ∧ SG S S'' ∧ S'' l = some (.lst (natD c1)) ∧ Dn rows high c1 ∧
          ((b1 = true ∧ c1.sum < cs.sum) ∨ (b1 = false ∧ c1 = cs ∧ ∀ (i : Nat) (m : Int), i < j → (recvL rows)[i]? = some m → ∀ (p k p' k' c c' : Nat), hap rows m = some (p, k) → hap rows (0 - m) = some (p', k') → cs[p]? = some c → cs[p']? = some c' → k' < c' → k < c)),
      ⟨cs, false, _, _, _, rfl, sm, hl, hdn, .inr ⟨rfl, rfl, fun i m z => absurd z (Nat.not_lt_zero _)⟩⟩, fun _ _ _ _ _ => True.intro, ?_, ?_⟩
    · rintro j d env S2 hd ⟨c1, b1, x4, x5, x6, rfl, s2, hl2, hd2, hor⟩
      have hd : (((recvL rows).map fun m => ((Sum.inl m : Key), tripD rows m)).map (·.2))[j]? = some d := hd
      rw [List.map_map, List.getElem?_map] at hd
      obtain ⟨mm, hmm, rfl⟩ := Option.map_eq_some_iff.mp hd
      obtain ⟨m1, p, k, p', k', a5, a6, e⟩ := hap_trip hG (List.mem_of_getElem? hmm)
      have hp : p < c1.length := by rw [hd2.len, hhl]; exact Good.hap_lt a5
      have hp' : p' < c1.length := by rw [hd2.len, hhl]; exact Good.hap_lt a6
      have hc := List.getElem?_eq_getElem hp
      have hc' := List.getElem?_eq_getElem hp'
      generalize c1[p] = c at hc
      generalize c1[p'] = c' at hc'
      show dgName 4 (tripD rows mm) _ _ _
      rw [e]
      refine ⟨_, rfl, _, rfl, rfl, w_orph hl2 hc hc' ⟨_, rfl, iteB (fun g => ?_) (fun g => ?_)⟩⟩
      · have g1 : k' < c' := of_decide_eq_true (Bool.and_eq_true_iff.mp g).1
        have g2 : c ≤ k := of_decide_eq_true (Bool.and_eq_true_iff.mp g).2
        refine ⟨_, rfl, _, 1, _, rfl, rfl, rfl, _, rfl, .inl (.inl rfl), _, _, rfl, _, _, rfl, rfl, ?_⟩
        refine ⟨_, rfl, _, rfl, _, rfl, l, _, p', p', rfl, rfl, hl2, ?_, ?_⟩
        · rw [natD_len]; exact ixnN hp'
        have e : (natD c1).set p' (D.int k') = natD (c1.set p' k') := by rw [natD, natD, List.map_set]
        rw [e]
        have hs := sum_set (k := k') hc'
        refine ⟨c1.set p' k', true, _, _, _, rfl, ?_, Sto.same, hd2.step (by omega) a5 a6 hc hc' g1 g2, .inl ⟨rfl, ?_⟩⟩
        · exact SG.keepP nl s2 (.refl _)
        rcases hor with ⟨_, z⟩ | ⟨_, rfl, _⟩
        · omega
        · omega
      · refine ⟨c1, b1, _, _, _, rfl, s2, hl2, hd2, ?_⟩
        rcases hor with z | ⟨z1, rfl, z3⟩
        · exact .inl z
        · refine .inr ⟨z1, rfl, fun i m hi hm2 q1 w1 q2 w2 d d' u1 u2 u3 u4 u5 => ?_⟩
          by_cases e : i = j
          · subst e
            obtain rfl := Option.some.inj (hmm.symm.trans hm2)
            rw [a5] at u1
            rw [a6] at u2
            cases u1
            cases u2
            obtain rfl := Option.some.inj (hc.symm.trans u3)
            obtain rfl := Option.some.inj (hc'.symm.trans u4)
            rw [decide_eq_true u5, Bool.true_and] at g
            have := of_decide_eq_false g
            omega
          · exact z3 i m (by omega) hm2 q1 w1 q2 w2 d d' u1 u2 u3 u4 u5
    · rintro env S2 ⟨c1, b1, x4, x5, x6, rfl, s2, hl2, hd2, hor⟩
      rcases hor with ⟨rfl, z⟩ | ⟨rfl, rfl, z3⟩
      · exact ⟨2 * c1.sum + 1, by omega, c1, true, _, _, _, rfl, s2, hl2, hd2, (fun z => nomatch z), rfl⟩
      · refine ⟨2 * c1.sum, by omega, c1, false, _, _, _, rfl, s2, hl2, hd2, fun _ m p k p' k' c c' hm0 u1 u2 u3 u4 u5 => ?_, rfl⟩
        obtain ⟨i, hi⟩ := List.getElem?_of_mem (hG.recv_mem hm0 u2)
        refine z3 i m ?_ hi p k p' k' c c' u1 u2 u3 u4 u5
        show i < (((recvL rows).map fun m => ((Sum.inl m : Key), tripD rows m)).map (·.2)).length
        rw [List.length_map, List.length_map]
        exact (List.getElem?_eq_some_iff.mp hi).1
theorem low_exists (rows : List (List Int)) (high : List Nat) : ∃ cs, IsLow rows high cs := by
  have go : ∀ (n : Nat) (cs : List Nat), cs.sum ≤ n → Dn rows high cs → ∃ cs, IsLow rows high cs := by
    intro n
    induction n with
    | zero =>
      intro cs hs hd
      refine ⟨cs, hd, fun m p k p' k' c c' hm h1 h2 h3 h4 h5 => ?_⟩
      have := sum_set (k := 0) h4
      omega
    | succ n ih =>
      intro cs hs hd
      refine Classical.byContradiction fun no => no ⟨cs, hd, fun m p k p' k' c c' hm h1 h2 h3 h4 h5 => Classical.byContradiction fun h6 => no (ih (cs.set p' k') ?_ (hd.step hm h1 h2 h3 h4 h5 (by omega)))⟩
      have := sum_set (k := k') h4
      omega
  exact go _ high (Nat.le_refl _) (.start rows high)
noncomputable def fallL (rows : List (List Int)) (fs : List Int) : List Nat := Classical.choose (low_exists rows (tops rows fs))
theorem fall_low (rows : List (List Int)) (fs : List Int) : IsLow rows (tops rows fs) (fallL rows fs) := Classical.choose_spec (low_exists rows (tops rows fs))
theorem fall_len (rows : List (List Int)) (fs : List Int) : (fallL rows fs).length = rows.length := by rw [(fall_low rows fs).len, tops_len]
theorem fall_eq {rows : List (List Int)} {fs : List Int} {cs : List Nat} (h : IsLow rows (tops rows fs) cs) : cs = fallL rows fs := h.unique (fall_low rows fs)
theorem lc_mapE {α : Type} {g : DTG} {tt : DTT} {te : DTE} {us : List Nat} {env : Env} {S1 : Sto} {Rp : Addr → Sto → Prop} {w : Src} (xs : List α) (gx : α → D) (hw : w.items = xs.map gx) (f : α → Option D) (hlen : xs.length ≤ 100000) (live : ∀ S, SG S1 S → w.live S)
    (step : ∀ a ∈ xs, ∀ S, SG S1 S → ∀ (K : DK) (Kn : Sto → Prop), (∀ y, f a = some y → ∀ S', SG S S' → K y S') → (f a = none → ∀ S', SG S S' → Kn S') → Turn1 g tt te (dwipe env us) (gx a) S K Kn)
    (fin : ∀ p S', S1 p = none → SG S1 S' → S' p = some (.lst (xs.filterMap f)) → Rp p S') :
    ∀ p, S1 p = none → ∃ Pv : Nat → Sto → Prop, Pv 0 (S1.put p (.lst [])) ∧ (∀ i S, i ≤ w.items.length → Pv i S → w.live S) ∧
      (∀ i d S, w.items[i]? = some d → Pv i S → g d (dwipe env us) S fun env' S' => tt env' S' fun b S2 => if b = true then te env' S2 fun y S3 => ∃ acc, S3 p = some (.lst acc) ∧ acc.length < 1000000 ∧ Pv (i + 1) (S3.put p (.lst (acc ++ [y]))) else Pv (i + 1) S2) ∧
      ∀ S, Pv w.items.length S → Rp p S := by
  obtain ⟨it, lv⟩ := w
  cases hw
  exact lc_map xs gx lv f hlen live step fin
theorem enD_map {α : Type} (h : α → D) (cs : List α) : enD (cs.map h) = (cs.mapIdx fun i c => (i, c)).map fun x => D.tup [.int ((x.1 : Nat) : Int), h x.2] := by
  unfold enD
  apply List.ext_getElem?
  intro i
  rw [List.getElem?_mapIdx, List.getElem?_map, List.getElem?_map, List.getElem?_mapIdx]
  cases cs[i]? <;> rfl
theorem any_int (fs : List Int) (i : Int) : ((fs.map PyData.int).any fun z => PyData.eqv z (.int i)) = decide (i ∈ fs) := by
  induction fs with
  | nil => rfl
  | cons a r ih =>
    rw [List.map_cons, List.any_cons, ih, show PyData.eqv (.int a) (.int i) = decide (a = i) from rfl]
    by_cases h : a = i
    · subst h; simp
    · have h' : i ≠ a := fun z => h z.symm
      simp [h, h']
theorem tops_of (rows : List (List Int)) (fs : List Int) : ((prs rows).mapIdx fun i c => (i, c)).map (fun x => D.int (if decide (((x.1 : Nat) : Int) ∈ fs) = true then (x.2 : Int) - 1 else x.2)) = natD (tops rows fs) := by
  unfold tops natD prs
  apply List.ext_getElem?
  intro i
  rw [List.getElem?_map, List.getElem?_mapIdx, List.getElem?_map, List.getElem?_map, List.getElem?_mapIdx]
  cases rows[i]? with
  | none => rfl
  | some r =>
    have e : (if decide (((i : Nat) : Int) ∈ fs) = true then (((r.count 0 + 1 : Nat) : Int)) - 1 else ((r.count 0 + 1 : Nat) : Int)) = ((r.count 0 + (if decide ((i : Int) ∈ fs) = true then 0 else 1) : Nat) : Int) := by
      split
      · omega
      · rfl
    exact congrArg (fun z => some (D.int z)) e
theorem yesS {P Q : Sto → Prop} {env : Env} {S : Sto} (h : P S) : dYes env S (fun b S2 => if b = true then P S2 else Q S2) := show (if true = true then P S else Q S) from goT h
theorem w_fall1 {rows : List (List Int)} {many most : Nat} {fs : List Int} {S : Sto} {R : DK} (hG : Good many most rows) (h6 : many ≤ 6) (h60 : most ≤ 60) (q : ∀ S', SG S S' → R (.tup (natD (fallL rows fs))) S') :
    dFn 5 B_fall_back_94df [.tup (rowsD rows), .wtup (intsD fs)] S R := by
  have rl := hG.len
  have pl : (prs rows).length = rows.length := List.length_map ..
  refine ⟨_, rfl, rfl, w_nums (by omega) fun S1 sg1 => ⟨_, _, rfl, rfl, lc_mapE ((prs rows).mapIdx fun i c => (i, c)) (fun x => .tup [.int ((x.1 : Nat) : Int), .int ((x.2 : Nat) : Int)]) (enD_map (fun c : Nat => D.int (c : Int)) (prs rows))
    (fun x => some (D.int (if decide (((x.1 : Nat) : Int) ∈ fs) = true then (x.2 : Int) - 1 else x.2))) (by rw [List.length_mapIdx]; omega) (fun _ _ => True.intro) (fun x _ S2 sg K Kn hk _ => ?_) fun p S2 np sg2 hp => ?_⟩⟩
  · refine ⟨_, rfl, .inl (.inl rfl), _, _, rfl, _, _, rfl, rfl, yesS ⟨_, rfl, _, rfl, _, _, .int _, .inr (.wtup (pys_ints fs)), rfl, ?_, shaped_ints fs, _, rfl, ?_⟩⟩
    · exact shaped_ints fs
    · rw [any_int]
      have hk := hk _ rfl S2 (.refl _)
      by_cases h : ((x.1 : Nat) : Int) ∈ fs
      · rw [decide_eq_true h] at hk ⊢
        exact goT ⟨_, rfl, hk⟩
      · rw [decide_eq_false h] at hk ⊢
        exact goF ⟨_, rfl, hk⟩
  · rw [fm_map, tops_of] at hp
    refine ⟨_, rfl, rfl, w_trips hG h6 h60 fun S3 sg3 => ⟨_, rfl, rfl, w_lowered hG h6 h60 (sg3 _ _ (fun z => z) hp) (tops_len rows fs) fun cs S4 sg4 hlow => ?_⟩⟩
    rw [fall_eq hlow]
    exact q S4 (((sg1.trans sg2).trans sg3).trans sg4)
theorem w_fall {rows : List (List Int)} {many most : Nat} {fs : List Int} {S : Sto} {R : DK} (hG : Good many most rows) (h6 : many ≤ 6) (h60 : most ≤ 60) (hf : fs.length ≤ 900) (q : ∀ S', SG S S' → R (.tup (natD (fallL rows fs))) S') :
    dFnS 1 5 B_fall_back_94df (.tup (rowsD rows) :: intsD fs) S R := by
  refine ⟨Nat.succ_le_succ (Nat.zero_le _), ?_, w_fall1 hG h6 h60 q⟩
  rw [List.length_cons, intsD_len]
  omega
end Sv
set_option maxHeartbeats 400000
namespace Sv
open PySem L2
structure RAt (S : Sto) (r : Addr) (as : List Addr) (rows : List (List Int)) : Prop where
  len : as.length = rows.length
  lst : S r = some (.lst (as.map D.ref))
  row : ∀ (i : Nat) (a : Addr) (row : List Int), as[i]? = some a → rows[i]? = some row → S a = some (.lst (intsD row))
  nd : as.Nodup
  nr : r ∉ as
theorem RAt.keep {S S' : Sto} {P : Addr → Prop} {r : Addr} {as : List Addr} {rows : List (List Int)} (h : RAt S r as rows) (k : SK P S S') (n : ∀ a, P a → a ≠ r ∧ a ∉ as) : RAt S' r as rows :=
  ⟨h.len, k _ _ (fun z => (n _ z).1 rfl) h.lst, fun i a row h1 h2 => k _ _ (fun z => (n _ z).2 (List.mem_of_getElem? h1)) (h.row i a row h1 h2), h.nd, h.nr⟩
theorem RAt.put {S : Sto} {r a : Addr} {as : List Addr} {rows : List (List Int)} {p : Nat} {row : List Int} (h : RAt S r as rows) (ha : as[p]? = some a) (hr : rows[p]? = some row) (vs : List Int) : RAt (S.put a (.lst (intsD row ++ intsD vs))) r as (rows.set p (row ++ vs)) := by
  have hp : p < rows.length := (List.getElem?_eq_some_iff.mp hr).1
  refine ⟨by rw [List.length_set]; exact h.len, (Sto.ne fun z => h.nr (by rw [z]; exact List.mem_of_getElem? ha)).trans h.lst, fun i b row' h1 h2 => ?_, h.nd, h.nr⟩
  by_cases z : p = i
  · subst z
    obtain rfl := Option.some.inj (ha.symm.trans h1)
    rw [List.getElem?_set_self hp] at h2
    obtain rfl := Option.some.inj h2
    rw [Sto.same]
    unfold intsD
    rw [List.map_append]
  · rw [List.getElem?_set_ne z] at h2
    have nb : b ≠ a := fun e => by
      subst e
      obtain ⟨i1, e1⟩ := List.getElem?_eq_some_iff.mp ha
      obtain ⟨i2, e2⟩ := List.getElem?_eq_some_iff.mp h1
      exact z ((List.getElem_inj (h₀ := i1) (h₁ := i2) h.nd).mp (e1.trans e2.symm))
    rw [Sto.ne nb]
    exact h.row i b row' h1 h2
theorem RAt.at {S : Sto} {r : Addr} {as : List Addr} {rows : List (List Int)} (h : RAt S r as rows) {p : Nat} (hp : p < rows.length) : ∃ a row, as[p]? = some a ∧ rows[p]? = some row ∧ (as.map D.ref)[p]? = some (.ref a) ∧ S a = some (.lst (intsD row)) ∧ a ∈ as := by
  have ha : as[p]? = some (as[p]'(by rw [h.len]; exact hp)) := List.getElem?_eq_getElem (by rw [h.len]; exact hp)
  have hr := List.getElem?_eq_getElem hp
  exact ⟨_, _, ha, hr, by rw [List.getElem?_map, ha]; rfl, h.row p _ _ ha hr, List.mem_of_getElem? ha⟩
theorem Good.mono {a b a' b' : Nat} {rows : List (List Int)} (h : Good a b rows) (h1 : a ≤ a') (h2 : b ≤ b') : Good a' b' rows := by
  obtain ⟨c, nm, o, u, k, g1, g2, g3, g4, g5⟩ := h
  exact ⟨c, nm, o, u, k, g1, by omega, g3, g4, by omega⟩
end Sv
set_option maxHeartbeats 400000
set_option maxHeartbeats 1000000
namespace Sv
open PySem L2
def swp (o : List (Int × Int)) : List (Int × Int) := o.map fun x => (x.2, x.1)
structure RWv (S0 S : Sto) (st rs r N W : Addr) (as : List Addr) (c : Nat) (nm : List Int) (rows : List (List Int)) (o : List (Int × Int)) (u i : Nat) : Prop where
  sk : SK (DQ st rs) S0 S
  ra : RAt S r as rows
  hN : S N = some (.lst (intsD (nm.drop u).reverse))
  hW : S W = some (.lst ((swp o).map pairD))
  g : Grown c nm rows o u i
theorem RWv.keep {S0 S S' : Sto} {st cl rs r N W : Addr} {as : List Addr} {c : Nat} {nm : List Int} {rows : List (List Int)} {o : List (Int × Int)} {u i : Nat} (h : RWv S0 S st rs r N W as c nm rows o u i) (k : SK (DQ st rs) S S')
    (nd : ∀ a, a = r ∨ a = N ∨ a = W ∨ a ∈ as → a ≠ st ∧ a ≠ cl ∧ a ≠ rs) : RWv S0 S' st rs r N W as c nm rows o u i := by
  have nq : ∀ a, a = r ∨ a = N ∨ a = W ∨ a ∈ as → ¬ DQ st rs a := fun a ha z => z.elim (nd a ha).1 (nd a ha).2.2
  exact ⟨h.sk.trans k, h.ra.keep k fun a z => ⟨fun e => nq a (.inl e) z, fun e => nq a (.inr (.inr (.inr e))) z⟩, k _ _ (nq _ (.inr (.inl rfl))) h.hN, k _ _ (nq _ (.inr (.inr (.inl rfl)))) h.hW, h.g⟩
theorem Dk.free {st cl rs : Addr} {n : Nat} {S0 S : Sto} (D : Dk st cl rs n S) (k : SK (DQ st rs) S0 S) {a : Addr} (z : S a = none) : S0 a = none := SK.free k z fun q => q.elim (D.fresh z).1 (D.fresh z).2.2
end Sv
set_option maxHeartbeats 800000
set_option autoImplicit false
set_option maxHeartbeats 400000
set_option maxHeartbeats 400000
set_option maxHeartbeats 400000
set_option maxHeartbeats 400000
namespace Sv
open PySem L2
structure Up (rows : List (List Int)) (low cs : List Nat) : Prop where
  len : cs.length = low.length
  ge : LeL low cs
  bot : ∀ L : List Nat, L.length = low.length → LeL low L → ConsL rows L → LeL cs L
structure IsUp (rows : List (List Int)) (low cs : List Nat) : Prop extends Up rows low cs where
  cons : ConsL rows cs
theorem IsUp.unique {rows : List (List Int)} {low a b : List Nat} (ha : IsUp rows low a) (hb : IsUp rows low b) : a = b := by
  apply List.ext_getElem (ha.len.trans hb.len.symm)
  intro i h1 h2
  have e1 := List.getElem?_eq_getElem h1
  have e2 := List.getElem?_eq_getElem h2
  exact Nat.le_antisymm (ha.bot b hb.len hb.ge hb.cons i _ _ e1 e2) (hb.bot a ha.len ha.ge ha.cons i _ _ e2 e1)
theorem Up.start (rows : List (List Int)) (low : List Nat) : Up rows low low := ⟨rfl, .refl _, fun _ _ h _ => h⟩
theorem Up.step {rows : List (List Int)} {low cs : List Nat} (h : Up rows low cs) {m : Int} {p k p' k' c c' : Nat} (hm : 0 < m) (h1 : hap rows m = some (p, k)) (h2 : hap rows (0 - m) = some (p', k')) (h3 : cs[p]? = some c) (h4 : cs[p']? = some c') (h5 : k' < c') (h6 : c ≤ k) : Up rows low (cs.set p (k + 1)) := by
  refine ⟨by rw [List.length_set]; exact h.len, fun i x y g1 g2 => ?_, fun L l1 l2 l3 i x y g1 g2 => ?_⟩
  · rw [List.getElem?_set] at g2
    split at g2
    · rename_i e
      subst e
      split at g2
      · obtain rfl := Option.some.inj g2
        have := h.ge _ _ _ g1 h3
        omega
      · cases g2
    · exact h.ge _ _ _ g1 g2
  · have hl := h.bot L l1 l2 l3
    rw [List.getElem?_set] at g1
    split at g1
    · rename_i e
      subst e
      split at g1
      · obtain rfl := Option.some.inj g1
        have hpl : p' < L.length := by
          rw [l1, ← h.len]
          exact (List.getElem?_eq_some_iff.mp h4).1
        have hp := List.getElem?_eq_getElem hpl
        have h7 := hl _ _ _ h4 hp
        have := l3 m p k p' k' y _ hm h1 h2 g2 hp (by omega)
        omega
      · cases g1
    · exact hl _ _ _ g1 g2
def capS (cs : List Nat) : Nat := (cs.map fun c => 1002 - c).sum
theorem capS_set {cs : List Nat} {p c k : Nat} (h : cs[p]? = some c) : capS (cs.set p k) + (1002 - c) = capS cs + (1002 - k) := by
  unfold capS
  rw [List.map_set]
  exact sum_set (by rw [List.getElem?_map, h]; rfl)
theorem up_exists {rows : List (List Int)} (hs : ∀ e, HapS (hap rows e)) (low : List Nat) : ∃ cs, IsUp rows low cs := by
  have go : ∀ (n : Nat) (cs : List Nat), capS cs ≤ n → Up rows low cs → ∃ cs, IsUp rows low cs := by
    intro n
    induction n with
    | zero =>
      intro cs hs' hd
      refine ⟨cs, hd, fun m p k p' k' c c' hm h1 h2 h3 h4 h5 => ?_⟩
      have := capS_set (k := k + 1) h3
      have := (hs _ _ _ h1).2
      omega
    | succ n ih =>
      intro cs hs' hd
      refine Classical.byContradiction fun no => no ⟨cs, hd, fun m p k p' k' c c' hm h1 h2 h3 h4 h5 => Classical.byContradiction fun h6 => no (ih (cs.set p (k + 1)) ?_ (hd.step hm h1 h2 h3 h4 h5 (by omega)))⟩
      have := capS_set (k := k + 1) h3
      have := (hs _ _ _ h1).2
      omega
  exact go _ low (Nat.le_refl _) (.start rows low)
open Classical in
noncomputable def upL (rows : List (List Int)) (low : List Nat) : List Nat := if h : ∃ cs, IsUp rows low cs then Classical.choose h else low
theorem up_is {rows : List (List Int)} {many most : Nat} (hG : Good many most rows) (h6 : many ≤ 6) (h60 : most ≤ 60) (low : List Nat) : IsUp rows low (upL rows low) := by
  have h := up_exists (fun e => hG.hapS h6 h60 e) low
  unfold upL
  rw [dif_pos h]
  exact Classical.choose_spec h
def stD (s : Nat × Nat) : D := prD ((s.1 : Int), (s.2 : Int))
def lowS (l : List Nat) (s : Nat × Nat) : List Nat := l.set s.1 (max (l.getD s.1 0) s.2)
def highS (l : List Nat) (s : Nat × Nat) : List Nat := l.set s.1 (min (l.getD s.1 0) s.2)
def lowL (rows : List (List Int)) (ss : List (Nat × Nat)) : List Nat := ss.foldl lowS (List.replicate rows.length 0)
def highL (rows : List (List Int)) (ss : List (Nat × Nat)) : List Nat := ss.foldl highS (prs rows)
theorem lowS_len (l : List Nat) (s : Nat × Nat) : (lowS l s).length = l.length := List.length_set ..
theorem highS_len (l : List Nat) (s : Nat × Nat) : (highS l s).length = l.length := List.length_set ..
theorem foldl_low_len : ∀ (ss : List (Nat × Nat)) (l : List Nat), (ss.foldl lowS l).length = l.length
  | [], _ => rfl
  | s :: ss, l => by rw [List.foldl_cons, foldl_low_len ss, lowS_len]
theorem foldl_high_len : ∀ (ss : List (Nat × Nat)) (l : List Nat), (ss.foldl highS l).length = l.length
  | [], _ => rfl
  | s :: ss, l => by rw [List.foldl_cons, foldl_high_len ss, highS_len]
theorem prs_len (rows : List (List Int)) : (prs rows).length = rows.length := List.length_map ..
theorem lowL_len (rows : List (List Int)) (ss : List (Nat × Nat)) : (lowL rows ss).length = rows.length := by
  unfold lowL
  rw [foldl_low_len, List.length_replicate]
theorem highL_len (rows : List (List Int)) (ss : List (Nat × Nat)) : (highL rows ss).length = rows.length := by
  unfold highL
  rw [foldl_high_len, prs_len]
theorem getD_of {l : List Nat} {i x : Nat} (h : l[i]? = some x) : l.getD i 0 = x := by rw [List.getD_eq_getElem?_getD, h]; rfl
theorem lowS_le {l L : List Nat} {s : Nat × Nat} (hl : L.length = l.length) (hs : s.1 < l.length) : LeL (lowS l s) L ↔ LeL l L ∧ ∀ x, L[s.1]? = some x → s.2 ≤ x := by
  have hx := List.getElem?_eq_getElem hs
  generalize l[s.1] = x at hx
  unfold lowS
  rw [getD_of hx]
  constructor
  · intro h
    refine ⟨fun i a b h1 h2 => ?_, fun y hy => ?_⟩
    · by_cases z : s.1 = i
      · subst z
        obtain rfl := Option.some.inj (hx.symm.trans h1)
        have := h _ _ _ (List.getElem?_set_self hs) h2
        omega
      · exact h i a b (by rw [List.getElem?_set_ne z]; exact h1) h2
    · have := h _ _ _ (List.getElem?_set_self hs) hy
      omega
  · rintro ⟨h, g⟩ i a b h1 h2
    by_cases z : s.1 = i
    · subst z
      rw [List.getElem?_set_self hs] at h1
      obtain rfl := Option.some.inj h1
      have := h _ _ _ hx h2
      have := g _ h2
      omega
    · rw [List.getElem?_set_ne z] at h1
      exact h i a b h1 h2
theorem highS_le {l L : List Nat} {s : Nat × Nat} (hl : L.length = l.length) (hs : s.1 < l.length) : LeL L (highS l s) ↔ LeL L l ∧ ∀ x, L[s.1]? = some x → x ≤ s.2 := by
  have hx := List.getElem?_eq_getElem hs
  generalize l[s.1] = x at hx
  unfold highS
  rw [getD_of hx]
  constructor
  · intro h
    refine ⟨fun i a b h1 h2 => ?_, fun y hy => ?_⟩
    · by_cases z : s.1 = i
      · subst z
        obtain rfl := Option.some.inj (hx.symm.trans h2)
        have := h _ _ _ h1 (List.getElem?_set_self hs)
        omega
      · exact h i a b h1 (by rw [List.getElem?_set_ne z]; exact h2)
    · have := h _ _ _ hy (List.getElem?_set_self hs)
      omega
  · rintro ⟨h, g⟩ i a b h1 h2
    by_cases z : s.1 = i
    · subst z
      rw [List.getElem?_set_self hs] at h2
      obtain rfl := Option.some.inj h2
      have := h _ _ _ h1 hx
      have := g _ h1
      omega
    · rw [List.getElem?_set_ne z] at h2
      exact h i a b h1 h2
theorem foldl_low_le : ∀ {ss : List (Nat × Nat)} {l L : List Nat}, L.length = l.length → (∀ s ∈ ss, s.1 < l.length) → (LeL (ss.foldl lowS l) L ↔ LeL l L ∧ ∀ s ∈ ss, ∀ x, L[s.1]? = some x → s.2 ≤ x)
  | [], l, L, _, _ => ⟨fun h => ⟨h, fun s hs => nomatch hs⟩, fun h => h.1⟩
  | s :: ss, l, L, hl, hs => by
    rw [List.foldl_cons, foldl_low_le (by rw [lowS_len]; exact hl) (fun t ht => by rw [lowS_len]; exact hs t (List.mem_cons_of_mem _ ht)), lowS_le hl (hs s List.mem_cons_self)]
    exact ⟨fun ⟨⟨a, b⟩, c⟩ => ⟨a, fun t ht => (List.mem_cons.mp ht).elim (fun z => z ▸ b) (c t)⟩, fun ⟨a, b⟩ => ⟨⟨a, b s List.mem_cons_self⟩, fun t ht => b t (List.mem_cons_of_mem _ ht)⟩⟩
theorem foldl_high_le : ∀ {ss : List (Nat × Nat)} {l L : List Nat}, L.length = l.length → (∀ s ∈ ss, s.1 < l.length) → (LeL L (ss.foldl highS l) ↔ LeL L l ∧ ∀ s ∈ ss, ∀ x, L[s.1]? = some x → x ≤ s.2)
  | [], l, L, _, _ => ⟨fun h => ⟨h, fun s hs => nomatch hs⟩, fun h => h.1⟩
  | s :: ss, l, L, hl, hs => by
    rw [List.foldl_cons, foldl_high_le (by rw [highS_len]; exact hl) (fun t ht => by rw [highS_len]; exact hs t (List.mem_cons_of_mem _ ht)), highS_le hl (hs s List.mem_cons_self)]
    exact ⟨fun ⟨⟨a, b⟩, c⟩ => ⟨a, fun t ht => (List.mem_cons.mp ht).elim (fun z => z ▸ b) (c t)⟩, fun ⟨a, b⟩ => ⟨⟨a, b s List.mem_cons_self⟩, fun t ht => b t (List.mem_cons_of_mem _ ht)⟩⟩
theorem lowL_le {rows : List (List Int)} {ss : List (Nat × Nat)} {L : List Nat} (hl : L.length = rows.length) (hs : ∀ s ∈ ss, s.1 < rows.length) : LeL (lowL rows ss) L ↔ ∀ s ∈ ss, ∀ x, L[s.1]? = some x → s.2 ≤ x := by
  unfold lowL
  rw [foldl_low_le (by rw [List.length_replicate]; exact hl) (fun s h => by rw [List.length_replicate]; exact hs s h)]
  refine ⟨fun h => h.2, fun h => ⟨fun i a b h1 _ => ?_, h⟩⟩
  obtain ⟨_, e⟩ := List.getElem?_eq_some_iff.mp h1
  rw [List.getElem_replicate] at e
  omega
theorem highL_le {rows : List (List Int)} {ss : List (Nat × Nat)} {L : List Nat} (hl : L.length = rows.length) (hs : ∀ s ∈ ss, s.1 < rows.length) : LeL L (highL rows ss) ↔ LeL L (prs rows) ∧ ∀ s ∈ ss, ∀ x, L[s.1]? = some x → x ≤ s.2 := by
  unfold highL
  exact foldl_high_le (by rw [prs_len]; exact hl) (fun s h => by rw [prs_len]; exact hs s h)
/-- a consistent line with the states -/
structure Thru (rows : List (List Int)) (ss : List (Nat × Nat)) (L : List Nat) : Prop where
  len : L.length = rows.length
  le : LeL L (prs rows)
  cons : ConsL rows L
  on : ∀ s ∈ ss, L[s.1]? = some s.2
theorem thru_iff {rows : List (List Int)} {ss : List (Nat × Nat)} {L : List Nat} (hs : ∀ s ∈ ss, s.1 < rows.length) : Thru rows ss L ↔ L.length = rows.length ∧ ConsL rows L ∧ LeL (lowL rows ss) L ∧ LeL L (highL rows ss) := by
  constructor
  · intro h
    refine ⟨h.len, h.cons, (lowL_le h.len hs).mpr fun s hs' x hx => ?_, (highL_le h.len hs).mpr ⟨h.le, fun s hs' x hx => ?_⟩⟩
    · have := h.on s hs'
      rw [this] at hx
      obtain rfl := Option.some.inj hx
      exact Nat.le_refl _
    · have := h.on s hs'
      rw [this] at hx
      obtain rfl := Option.some.inj hx
      exact Nat.le_refl _
  · rintro ⟨h1, h2, h3, h4⟩
    have h3 := (lowL_le h1 hs).mp h3
    have h4 := (highL_le h1 hs).mp h4
    refine ⟨h1, h4.1, h2, fun s hs' => ?_⟩
    have hl : s.1 < L.length := by rw [h1]; exact hs s hs'
    have hx := List.getElem?_eq_getElem hl
    rw [hx, Nat.le_antisymm (h4.2 s hs' _ hx) (h3 s hs' _ hx)]
/-- the least one, if there is one -/
theorem thru_up {rows : List (List Int)} {many most : Nat} (hG : Good many most rows) (h6 : many ≤ 6) (h60 : most ≤ 60) {ss : List (Nat × Nat)} (hs : ∀ s ∈ ss, s.1 < rows.length) : (∃ L, Thru rows ss L) ↔ LeL (upL rows (lowL rows ss)) (highL rows ss) := by
  have u := up_is hG h6 h60 (lowL rows ss)
  constructor
  · rintro ⟨L, h⟩
    obtain ⟨h1, h2, h3, h4⟩ := (thru_iff hs).mp h
    have := u.bot L (by rw [h1, lowL_len]) h3 h2
    intro i x y g1 g2
    have hl : i < L.length := by rw [h1, ← highL_len rows ss]; exact (List.getElem?_eq_some_iff.mp g2).1
    have e := List.getElem?_eq_getElem hl
    have a1 := this _ _ _ g1 e
    have a2 := h4 _ _ _ e g2
    omega
  · intro h
    exact ⟨_, (thru_iff hs).mpr ⟨u.len.trans (lowL_len rows ss), u.cons, u.ge, h⟩⟩
theorem SG.none' {S S' : Sto} (sg : SG S S') {p : Addr} (n : S' p = none) : S p = none := SK.free sg n fun z => z
end Sv
set_option maxHeartbeats 400000
namespace Sv
open PySem L2
def cutsU (rows : List (List Int)) : Nat → List (List Nat)
  | 0 => [[]]
  | i + 1 => (cutsU rows i).flatMap fun c => (List.range ((rows.getD i []).count 0 + 2)).map fun n => c ++ [n]
def cutD' (c : List Nat) : D := .tup (natD c)
theorem getD_count {rows : List (List Int)} {B : Nat} (h : ∀ r ∈ rows, r.count 0 + 2 ≤ B) (h2 : 2 ≤ B) (i : Nat) : (rows.getD i []).count 0 + 2 ≤ B := by
  rw [List.getD_eq_getElem?_getD]
  cases e : rows[i]? with
  | none => exact h2
  | some r => exact h r (List.mem_of_getElem? e)
theorem cutsU_lenB {rows : List (List Int)} {B : Nat} (h : ∀ r ∈ rows, r.count 0 + 2 ≤ B) (h2 : 2 ≤ B) : ∀ i, (cutsU rows i).length ≤ B ^ i
  | 0 => Nat.le_refl _
  | i + 1 => by
    have ih := cutsU_lenB h h2 i
    have hc : ∀ c ∈ cutsU rows i, ((List.range ((rows.getD i []).count 0 + 2)).map fun n => c ++ [n]).length ≤ B := fun c _ => by
      rw [List.length_map, List.length_range]
      exact getD_count h h2 i
    have := flat_le _ B (cutsU rows i) hc
    show ((cutsU rows i).flatMap _).length ≤ _
    rw [Nat.pow_succ]
    exact Nat.le_trans this (Nat.mul_le_mul_right B ih)
end Sv
set_option maxHeartbeats 400000
namespace Sv
open PySem L2
theorem cutI_to {row : List Int} {i : Nat} (h : i ≤ row.length) : cutD (intsD row) none (some (i : Int)) = intsD (row.take i) := by
  rw [cutD_to (by rw [intsD_len]; exact h)]
  unfold intsD
  rw [List.map_take]
end Sv
namespace Sv
open PySem PySem.Spec PyProof.Rows L2
structure Fine (n W : Nat) (d : PyData) : Prop where
  dep : d.depth ≤ n
  wei : d.weight ≤ W
  lay : d.canLay0 = true
  sho : d.showable = true
  ish : d.intsShort 40 = true
structure FineAll (n W : Nat) (ds : List PyData) : Prop where
  dep : PyData.depthAll ds ≤ n
  wei : PyData.weightAll ds ≤ W
  lay : PyData.canLayAll0 ds = true
  sho : PyData.showableAll ds = true
  ish : PyData.intsShortAll 40 ds = true
theorem FineAll.mono {n W m U : Nat} {d : List PyData} (h : FineAll n W d) (e : n ≤ m) (e2 : W ≤ U) : FineAll m U d := ⟨Nat.le_trans h.dep e, Nat.le_trans h.wei e2, h.lay, h.sho, h.ish⟩
theorem fine_nil : FineAll 0 0 [] := ⟨Nat.le_refl _, Nat.le_refl _, rfl, rfl, rfl⟩
theorem fine_cons {n W U : Nat} {d : PyData} {ds : List PyData} (h : Fine n W d) (hs : FineAll n U ds) : FineAll n (W + 1 + U) (d :: ds) := by
  refine ⟨?_, ?_, ?_, ?_, ?_⟩
  · simp only [PyData.depthAll]
    exact Nat.max_le.mpr ⟨h.dep, hs.dep⟩
  · have h1 := h.wei
    have h2 := hs.wei
    simp only [PyData.weightAll]
    omega
  · simp only [PyData.canLayAll0, h.lay, hs.lay, Bool.and_self]
  · simp only [PyData.showableAll, h.sho, hs.sho, Bool.and_self]
  · simp only [PyData.intsShortAll, h.ish, hs.ish, Bool.and_self]
theorem fine_all {n W : Nat} : ∀ {ds : List PyData}, (∀ d ∈ ds, Fine n W d) → FineAll n ((W + 1) * ds.length) ds
  | [], _ => fine_nil.mono (Nat.zero_le _) (Nat.zero_le _)
  | d :: ds, h => by
    have q := fine_cons (h d List.mem_cons_self) (fine_all fun x hx => h x (List.mem_cons_of_mem _ hx))
    refine q.mono (Nat.le_refl _) ?_
    rw [List.length_cons, Nat.mul_add, Nat.mul_one]
    omega
theorem fine_int {i : Int} (h : i.natAbs < 10 ^ 30) : Fine 0 101 (.int i) := by
  have hl : i.natAbs ≠ 0 → i.natAbs.log2 < 100 := fun h0 => (Nat.log2_lt h0).mpr (Nat.lt_trans h (by decide +kernel))
  have hl2 : i.natAbs.log2 < 1920 := by
    by_cases h0 : i.natAbs = 0
    · rw [h0]; decide
    · exact Nat.lt_trans (hl h0) (by decide)
  refine ⟨Nat.le_refl _, ?_, rfl, decide_eq_true hl2, decide_eq_true ?_⟩
  · simp only [PyData.weight]
    split
    · exact Nat.zero_le _
    · rename_i h0
      have : i.natAbs ≠ 0 := fun z => h0 (by rw [beq_iff_eq]; omega)
      have := hl this
      omega
  · have e := int_text_length_le10 (a := i) (k := 30) (by decide) h
    show (Str.ofString (toString i)).length ≤ 40
    rw [PySem.ofString_length]
    omega
theorem fine_ints {ns : List Int} (h : ∀ n ∈ ns, n.natAbs < 10 ^ 30) : FineAll 0 (102 * ns.length) (iD ns) := by
  have q := fine_all (n := 0) (W := 101) (ds := iD ns) fun d hd => by
    obtain ⟨n, hn, rfl⟩ := List.mem_map.mp hd
    exact fine_int (h n hn)
  unfold iD at q ⊢
  rw [List.length_map] at q
  exact q
theorem fine_tuple {n W : Nat} {ds : List PyData} (h : FineAll n W ds) : Fine (n + 1) W (.tuple ds) := by
  have h1 := h.dep
  refine ⟨by simp only [PyData.depth]; omega, h.wei, ?_, ?_, ?_⟩
  · simp only [PyData.canLay0, h.lay]
  · simp only [PyData.showable, h.sho]
  · simp only [PyData.intsShort, h.ish]
theorem Fine.len {n W : Nat} {d : PyData} (h : Fine n W d) (hW : W ≤ 300000) : d.shown.length ≤ sizeLine := by
  have q := PyData.shown_le 40 (by decide) d (PyData.leavesShort_of_canLay0 40 d h.lay h.ish)
  have := h.wei
  rw [sizeLine_eq]
  omega
theorem Fine.mono {n W m U : Nat} {d : PyData} (h : Fine n W d) (e : n ≤ m) (e2 : W ≤ U) : Fine m U d := ⟨Nat.le_trans h.dep e, Nat.le_trans h.wei e2, h.lay, h.sho, h.ish⟩
end Sv
set_option maxHeartbeats 400000
namespace Sv
open PySem PySem.Spec PyProof.Rows L2
def rPy (rows : List (List Int)) : PyData := .tuple (rows.map fun r => .tuple (r.map PyData.int))
theorem py_rows {S : Sto} (rows : List (List Int)) : Py S (D.tup (rowsD rows)) (rPy rows) := by
  refine .tup ?_
  induction rows with
  | nil => exact .nil
  | cons r t ih => exact .cons (.tup (pys_ints r)) ih
theorem py_nat {S : Sto} (cs : List Nat) : Py S (.tup (natD cs)) (.tuple ((cs.map fun (c : Nat) => (c : Int)).map PyData.int)) := by
  rw [natD_ints]
  exact .tup (pys_ints _)
theorem Fine.text {n W : Nat} {d : PyData} (h : Fine n W d) (hn : n ≤ 60) (hW : W ≤ 300000) (hi : isDisplay d = true) : Text d := ⟨hi, h.sho, PyData.hasDict_of_canLay d h.lay, Nat.le_trans h.dep hn, h.len hW⟩
theorem nat_text {cs : List Nat} (h6 : cs.length ≤ 100) (h : ∀ c ∈ cs, c ≤ 1000) : Text (.tuple ((cs.map fun (c : Nat) => (c : Int)).map PyData.int)) := by
  have q : FineAll 0 (102 * (cs.map fun (c : Nat) => (c : Int)).length) (iD (cs.map fun (c : Nat) => (c : Int))) := fine_ints fun x hx => by
    obtain ⟨c, hc, rfl⟩ := List.mem_map.mp hx
    have := h c hc
    have e : (10 : Nat) ^ 30 = 1000000000000000000000000000000 := by decide
    omega
  have q2 := fine_tuple q
  rw [List.length_map] at q2
  exact (q2.mono (Nat.le_refl _) (Nat.mul_le_mul_left _ h6)).text (by decide) (by decide) rfl
end Sv
set_option maxHeartbeats 400000
namespace Sv
open PySem PySem.Spec PyProof.Rows L2
/-- not too many lines -/
def Wl (rows : List (List Int)) : Prop := ∃ B, 2 ≤ B ∧ B ≤ 1000 ∧ (∀ r ∈ rows, r.count 0 + 2 ≤ B) ∧ B ^ rows.length ≤ 70000
theorem Wl.of {a b : Nat} {rows : List (List Int)} (hG : Good a b rows) (hb : b ≤ 60) (h : (b + 2) ^ a ≤ 70000) : Wl rows := by
  refine ⟨b + 2, by omega, by omega, fun r hr => ?_, ?_⟩
  · obtain ⟨i, hi⟩ := List.getElem?_of_mem hr
    have h1 := (hG.row hi).1
    have h2 : r.count 0 ≤ r.length := List.count_le_length ..
    omega
  · exact Nat.le_trans (Nat.pow_le_pow_right (by omega) hG.len.2) h
theorem Wl.len {rows : List (List Int)} (h : Wl rows) (i : Nat) (hi : i ≤ rows.length) : (cutsU rows i).length ≤ 70000 := by
  obtain ⟨B, h2, _, hc, hB⟩ := h
  exact Nat.le_trans (cutsU_lenB hc h2 i) (Nat.le_trans (Nat.pow_le_pow_right (by omega) hi) hB)
end Sv
set_option maxHeartbeats 400000
namespace Sv
open PySem PySem.Spec PyProof.Rows L2
theorem fine_pair {x : Int × Int} (h1 : x.1.natAbs < 10 ^ 30) (h2 : x.2.natAbs < 10 ^ 30) : Fine 1 204 (pD x) := by
  have q : FineAll 0 (102 * [x.1, x.2].length) (iD [x.1, x.2]) := fine_ints fun y hy => by
    rcases List.mem_cons.mp hy with rfl | hy
    · exact h1
    · rw [List.mem_singleton.mp hy]; exact h2
  exact fine_tuple q
theorem fine_list {n W : Nat} {ds : List PyData} (h : FineAll n W ds) : Fine (n + 1) W (.list ds) := by
  have h1 := h.dep
  refine ⟨by simp only [PyData.depth]; omega, h.wei, ?_, ?_, ?_⟩
  · simp only [PyData.canLay0, h.lay]
  · simp only [PyData.showable, h.sho]
  · simp only [PyData.intsShort, h.ish]
end Sv
set_option maxHeartbeats 400000
namespace Sv
open PySem PySem.Spec PyProof.Rows L2
def nxG (rows : List (List Int)) (nx : Int → Int → Bool) (m : Int) : List Int := (recvL rows).filter (nx m)
inductive Dz (rows : List (List Int)) (nx : Int → Int → Bool) (base : Int → Bool) : Nat → Int → Prop
  | base {m : Int} : m ∈ recvL rows → base m = true → Dz rows nx base 1 m
  | step {n : Nat} {m t : Int} : m ∈ recvL rows → nx m t = true → Dz rows nx base n t → Dz rows nx base (n + 1) m
section
variable {rows : List (List Int)} {nx : Int → Int → Bool} {base : Int → Bool}
theorem Dz.pos {n : Nat} {m : Int} (h : Dz rows nx base n m) : 1 ≤ n := by
  cases h with
  | base _ _ => exact Nat.le_refl _
  | step _ _ _ => omega
theorem Dz.one {m : Int} (h : Dz rows nx base 1 m) : base m = true := by
  generalize e : 1 = k at h
  cases h with
  | base _ h => exact h
  | step _ _ h =>
    have := h.pos
    omega
/-- the least length -/
def Le (rows : List (List Int)) (nx : Int → Int → Bool) (base : Int → Bool) (n : Nat) (m : Int) : Prop := Dz rows nx base n m ∧ ∀ k, k < n → ¬ Dz rows nx base k m
theorem Dz.least : ∀ {n : Nat} {m : Int}, Dz rows nx base n m → ∃ k, k ≤ n ∧ Le rows nx base k m := by
  intro n
  induction n using Nat.strongRecOn with
  | ind n ih =>
    intro m h
    by_cases z : ∃ k, k < n ∧ Dz rows nx base k m
    · obtain ⟨k, hk, hd⟩ := z
      obtain ⟨j, hj, hl⟩ := ih k hk hd
      exact ⟨j, by omega, hl⟩
    · exact ⟨n, Nat.le_refl _, h, fun k hk hd => z ⟨k, hk, hd⟩⟩
theorem Le.unique {n k : Nat} {m : Int} (h : Le rows nx base n m) (g : Le rows nx base k m) : n = k := by
  rcases Nat.lt_trichotomy n k with z | z | z
  · exact absurd h.1 (g.2 n z)
  · exact z
  · exact absurd g.1 (h.2 k z)
end
def sbB (rows : List (List Int)) (m : Int) (s : Nat × Nat) : Bool := match hap rows m with
  | some (p, k) => decide (p = s.1) && decide (s.2 ≤ k)
  | none => false
/-- messages that lead from a state (an interval) to a state -/
def Zk (rows : List (List Int)) (s t : Nat × Nat) : List Int → Prop
  | [] => s.1 = t.1 ∧ s.2 < t.2
  | m :: ms => m ∈ recvL rows ∧ sbB rows m s = true ∧ ∃ u, hap rows (0 - m) = some u ∧ Zk rows u t ms
def Zz (rows : List (List Int)) (s t : Nat × Nat) (ms : List Int) : Prop := ms ≠ [] ∧ Zk rows s t ms
/-- chosen step by step: each time the least message of those that are next to the end -/
inductive Best (rows : List (List Int)) (nx : Int → Int → Bool) (base : Int → Bool) : Nat → Int → List Int → Prop
  | one {m : Int} : Le rows nx base 1 m → Best rows nx base 1 m [m]
  | step {n : Nat} {m t : Int} {l : List Int} : Le rows nx base (n + 1) m → nx m t = true → (∀ t', nx m t' = true → Le rows nx base n t' → t ≤ t') → Best rows nx base n t l → Best rows nx base (n + 1) m (m :: l)
def lexle : List Int → List Int → Prop
  | [], _ => True
  | _ :: _, [] => False
  | a :: l, b :: r => a < b ∨ (a = b ∧ lexle l r)
theorem Best.le {rows : List (List Int)} {nx : Int → Int → Bool} {base : Int → Bool} {n : Nat} {m : Int} {l : List Int} (h : Best rows nx base n m l) : Le rows nx base n m := by
  cases h with
  | one h => exact h
  | step h _ _ _ => exact h
theorem Best.len {rows : List (List Int)} {nx : Int → Int → Bool} {base : Int → Bool} {n : Nat} {m : Int} {l : List Int} (h : Best rows nx base n m l) : l.length = n ∧ ∃ r, l = m :: r := by
  induction h with
  | one _ => exact ⟨rfl, [], rfl⟩
  | step _ _ _ _ ih => exact ⟨by rw [List.length_cons, ih.1], _, rfl⟩
/-- what find_zigzag promises -/
def FindZ (rows : List (List Int)) (s t : Nat × Nat) : Option (List Int) → Prop
  | none => ∀ ms, ¬ Zz rows s t ms
  | some ms => Zz rows s t ms ∧ ms.length ≤ 24 ∧ ∀ ms', Zz rows s t ms' → ms.length < ms'.length ∨ (ms.length = ms'.length ∧ lexle ms ms')
theorem lexle_anti : ∀ {a b : List Int}, lexle a b → lexle b a → a = b
  | [], [], _, _ => rfl
  | [], _ :: _, _, h => h.elim
  | _ :: _, [], h, _ => h.elim
  | x :: a, y :: b, h, g => by
    rcases h with h | ⟨rfl, h⟩
    · rcases g with g | ⟨rfl, g⟩
      · omega
      · omega
    · rcases g with g | ⟨_, g⟩
      · omega
      · rw [lexle_anti h g]
theorem FindZ.unique {rows : List (List Int)} {s t : Nat × Nat} : ∀ {a b : Option (List Int)}, FindZ rows s t a → FindZ rows s t b → a = b
  | none, none, _, _ => rfl
  | none, some ms, h, g => absurd g.1 (h ms)
  | some ms, none, h, g => absurd h.1 (g ms)
  | some a, some b, h, g => by
    rcases h.2.2 b g.1 with z | ⟨z, l1⟩
    · rcases g.2.2 a h.1 with y | ⟨y, _⟩ <;> omega
    · rcases g.2.2 a h.1 with y | ⟨y, l2⟩
      · omega
      · rw [lexle_anti l1 l2]
end Sv
set_option maxHeartbeats 400000
set_option autoImplicit false
namespace Sv
open PySem PySem.Spec PyProof.Rows L2
/-- the dict of what may stand behind each message -/
def StepsAt (S : Sto) (kvs : List (Key × D)) (rows : List (List Int)) (nx : Int → Int → Bool) : Prop := ∀ m ∈ recvL rows, ∃ l, getD' kvs (Sum.inl m) = some (.ref l) ∧ S l = some (.lst (intsD (nxG rows nx m)))
theorem StepsAt.keep {S S' : Sto} {kvs : List (Key × D)} {rows : List (List Int)} {nx : Int → Int → Bool} (h : StepsAt S kvs rows nx) (k : SG S S') : StepsAt S' kvs rows nx := fun m hm => by
  obtain ⟨l, h1, h2⟩ := h m hm
  exact ⟨l, h1, k _ _ (fun z => z) h2⟩
theorem SG.rem {S S1 : Sto} {p : Addr} (h : SG S S1) (n : S p = Option.none) : SG S (S1.rem p) := fun a o na e => by
  unfold Sto.rem
  rw [if_neg fun z => by rw [z, n] at e; cases e]
  exact h a o na e
end Sv
set_option maxHeartbeats 400000
set_option autoImplicit false
set_option maxHeartbeats 400000
set_option autoImplicit false
namespace Sv
open PySem PySem.Spec PyProof.Rows L2
/-- states of different processes -/
structure Ch (rows : List (List Int)) (ss : List (Nat × Nat)) : Prop where
  lt : ∀ s ∈ ss, s.1 < rows.length
  le : ∀ s ∈ ss, ∀ x, (prs rows)[s.1]? = some x → s.2 ≤ x
  one : ∀ s ∈ ss, ∀ t ∈ ss, s.1 = t.1 → s = t
end Sv
set_option maxHeartbeats 400000
set_option autoImplicit false
namespace Sv
open PySem PySem.Spec PyProof.Rows L2
def chX (i n : Nat) (cs : List (List (Nat × Nat))) : List (List (Nat × Nat)) := cs.flatMap fun c => (List.range n).map fun k => c ++ [(i, k)]
def chU (rows : List (List Int)) : Nat → List (List (Nat × Nat))
  | 0 => [[]]
  | i + 1 => chU rows i ++ chX i ((rows.getD i []).count 0 + 2) (chU rows i)
theorem chX_len {i n B : Nat} (h : n ≤ B) (cs : List (List (Nat × Nat))) : (chX i n cs).length ≤ cs.length * B := flat_le _ B cs fun c _ => by rw [List.length_map, List.length_range]; exact h
theorem chU_len {rows : List (List Int)} {B : Nat} (h : ∀ r ∈ rows, r.count 0 + 3 ≤ B) (h2 : 3 ≤ B) : ∀ i, (chU rows i).length ≤ B ^ i
  | 0 => Nat.le_refl _
  | i + 1 => by
    have ih := chU_len h h2 i
    have hc : (rows.getD i []).count 0 + 2 ≤ B - 1 := by
      have := getD_count (B := B - 1) (fun r hr => by have := h r hr; omega) (by omega) i
      exact this
    have h3 := chX_len (i := i) hc (chU rows i)
    show (chU rows i ++ _).length ≤ _
    rw [List.length_append, Nat.pow_succ]
    have h4 : (chU rows i).length * (B - 1) + (chU rows i).length = (chU rows i).length * B := by
      rw [← Nat.mul_succ]
      congr 1
      omega
    have h5 := Nat.mul_le_mul_right B ih
    omega
/-- not too many choices -/
def Wc (rows : List (List Int)) : Prop := ∃ B, 3 ≤ B ∧ B ≤ 1000 ∧ (∀ r ∈ rows, r.count 0 + 3 ≤ B) ∧ B ^ rows.length ≤ 70000
theorem Wc.of {a b : Nat} {rows : List (List Int)} (hG : Good a b rows) (hb : b ≤ 60) (h : (b + 3) ^ a ≤ 70000) : Wc rows := by
  refine ⟨b + 3, by omega, by omega, fun r hr => ?_, ?_⟩
  · obtain ⟨i, hi⟩ := List.getElem?_of_mem hr
    have h1 := (hG.row hi).1
    have h2 : r.count 0 ≤ r.length := List.count_le_length ..
    omega
  · exact Nat.le_trans (Nat.pow_le_pow_right (by omega) hG.len.2) h
theorem Wc.len {rows : List (List Int)} (h : Wc rows) (i : Nat) (hi : i ≤ rows.length) : (chU rows i).length ≤ 70000 := by
  obtain ⟨B, h2, _, hc, hB⟩ := h
  exact Nat.le_trans (chU_len hc h2 i) (Nat.le_trans (Nat.pow_le_pow_right (by omega) hi) hB)
end Sv
set_option maxHeartbeats 400000
set_option autoImplicit false
namespace Sv
open PySem PySem.Spec PyProof.Rows L2
theorem Dk.off {st cl rs : Addr} {n : Nat} {S : Sto} (h : Dk st cl rs n S) {f : Addr} {l : List D} (hf : S f = some (.lst l)) (ht : ∀ d ∈ l, ∃ xs, d = .tup xs) : f ≠ st ∧ f ≠ cl ∧ f ≠ rs := by
  obtain ⟨a1, a2, a3, cs, ws, t, tn, c0, cw, hs, hc, hw⟩ := h
  have go : ∀ (a : Addr) (d : D) (r : List D), S a = some (.lst (d :: r)) → (∀ xs, d ≠ .tup xs) → f ≠ a := fun a d r ha hd z => by
    subst z
    rw [ha] at hf
    cases hf
    obtain ⟨xs, e⟩ := ht d List.mem_cons_self
    exact hd xs e
  refine ⟨go _ _ _ hs (fun xs z => (nomatch z)), ?_, ?_⟩
  · obtain ⟨c, r, rfl⟩ := List.exists_cons_of_ne_nil (List.length_pos_iff.mp c0)
    exact go cl (.int c) (intsD r) hc (fun xs z => (nomatch z))
  · obtain ⟨c, r, rfl⟩ := List.exists_cons_of_ne_nil (List.length_pos_iff.mp (cw ▸ c0))
    exact go rs (.int c) (intsD r) hw (fun xs z => (nomatch z))
end Sv
set_option maxHeartbeats 1000000
set_option autoImplicit false
namespace Sv
open PySem PySem.Spec PyProof.Rows L2
structure RWs (S0 S : Sto) (st big r W : Addr) (rows : List (List Int)) (o : List (Int × Int)) : Prop where
  sk : SK (DS' st big) S0 S
  hr : S r = some (.lst (rowsD rows))
  hW : S W = some (.lst (o.map pairD))
theorem RWs.keep {S0 S S' : Sto} {st big al r W : Addr} {rows : List (List Int)} {o : List (Int × Int)} (h : RWs S0 S st big r W rows o) (k : SK (DS' st big) S S') (n1 : r ≠ st ∧ r ≠ big ∧ r ≠ al) (n2 : W ≠ st ∧ W ≠ big ∧ W ≠ al) : RWs S0 S' st big r W rows o :=
  ⟨h.sk.trans k, k _ _ (nDS n1) h.hr, k _ _ (nDS n2) h.hW⟩
end Sv
set_option maxHeartbeats 400000
set_option autoImplicit false
namespace Sv
open PySem PySem.Spec PyProof.Rows L2
theorem zk_mem {rows : List (List Int)} {t : Nat × Nat} : ∀ {ms : List Int} {s : Nat × Nat}, Zk rows s t ms → ∀ x ∈ ms, x ∈ recvL rows
  | [], _, _, x, hx => nomatch hx
  | m :: ms, s, ⟨h1, _, u, _, h4⟩, x, hx => by
    rcases List.mem_cons.mp hx with rfl | hx
    · exact h1
    · exact zk_mem h4 x hx
theorem w_isnum {i : Int} {S : Sto} {R : DK} (h : R (.bl true) S) : dFn 1 B_is_number_52f5 [.int i] S R := by
  refine ⟨_, rfl, _, "int", "int", true, rfl, rfl, isi_ii, _, rfl, ?_⟩
  exact ⟨_, rfl, _, "bool", "int", false, rfl, rfl, isi_ib, _, rfl, h⟩
end Sv
set_option maxHeartbeats 400000
set_option autoImplicit false
namespace Sv
open PySem PySem.Spec PyProof.Rows L2
theorem Zk.pos {rows : List (List Int)} {t : Nat × Nat} : ∀ {ms : List Int} {s : Nat × Nat}, Zk rows s t ms → 0 < t.2
  | [], s, ⟨h1, h2⟩ => Nat.lt_of_le_of_lt (Nat.zero_le _) h2
  | m :: ms, s, ⟨h1, h2, u, h3, h4⟩ => h4.pos
end Sv
set_option maxHeartbeats 400000
set_option autoImplicit false
namespace Sv
open PySem PySem.Spec PyProof.Rows L2
theorem eqv_nilT (ds : List PyData) : PyData.eqv (.tuple ds) (.tuple []) = ds.isEmpty := by
  cases ds <;> simp [PyData.eqv, PyData.eqvAll]
end Sv
set_option maxHeartbeats 400000
set_option autoImplicit false
namespace Sv
open PySem PySem.Spec PyProof.Rows L2
def keyS (s : Nat × Nat) : Nat := s.1 * 64 + s.2
theorem keyS_inj {s t : Nat × Nat} (hs : s.2 < 64) (ht : t.2 < 64) (h : keyS s = keyS t) : s = t := by
  obtain ⟨a, b⟩ := s
  obtain ⟨c, d⟩ := t
  unfold keyS at h
  have h : a * 64 + b = c * 64 + d := h
  have hs : b < 64 := hs
  have ht : d < 64 := ht
  have : a = c := by omega
  subst this
  have : b = d := by omega
  rw [this]
def ZzE (rows : List (List Int)) (a b : Nat × Nat) : Prop := ∃ ms, Zz rows a b ms
structure PairZ (rows : List (List Int)) (ss : List (Nat × Nat)) (a b : Nat × Nat) : Prop where
  one : a ∈ ss
  two : b ∈ ss
  zz : ZzE rows a b
  least : ∀ a' ∈ ss, ∀ b' ∈ ss, ZzE rows a' b' → keyS a < keyS a' ∨ (a = a' ∧ keyS b ≤ keyS b')
theorem PairZ.unique {rows : List (List Int)} {ss : List (Nat × Nat)} {a b a' b' : Nat × Nat} (hb : ∀ s ∈ ss, s.1 < 64 ∧ s.2 < 64) (h : PairZ rows ss a b) (g : PairZ rows ss a' b') : a = a' ∧ b = b' := by
  rcases h.least a' g.one b' g.two g.zz with z | ⟨z, z1⟩
  · rcases g.least a h.one b h.two h.zz with y | ⟨y, _⟩
    · omega
    · rw [y] at z; omega
  · rcases g.least a h.one b h.two h.zz with y | ⟨_, y1⟩
    · rw [z] at y; omega
    · exact ⟨z, keyS_inj (hb _ h.two).2 (hb _ g.two).2 (by omega)⟩
def lineD (c : List Nat) : D := .tup [.str "line", cutD' c]
def zigD (a b : Nat × Nat) (ms : List Int) : D := .tup [.str "zigzag", stD a, stD b, .tup (intsD ms)]
end Sv
set_option maxHeartbeats 400000
set_option autoImplicit false
set_option maxHeartbeats 400000
set_option autoImplicit false
namespace Sv
open PySem PySem.Spec PyProof.Rows L2
def inS (s : Nat × Nat) : Int × Int := ((s.1 : Int), (s.2 : Int))
inductive VD (rows : List (List Int)) (ss : List (Nat × Nat)) : D → Prop
  | line : (∃ L, Thru rows ss L) → VD rows ss (lineD (upL rows (lowL rows ss)))
  | zig {a b : Nat × Nat} {ms : List Int} : (¬ ∃ L, Thru rows ss L) → PairZ rows ss a b → FindZ rows a b (some ms) → VD rows ss (zigD a b ms)
theorem VD.unique {rows : List (List Int)} {ss : List (Nat × Nat)} (hb : ∀ s ∈ ss, s.1 < 64 ∧ s.2 < 64) {v w : D} (h : VD rows ss v) (g : VD rows ss w) : v = w := by
  cases h with
  | line h =>
    cases g with
    | line _ => rfl
    | zig n _ _ => exact absurd h n
  | zig n h1 h2 =>
    cases g with
    | line g => exact absurd g n
    | zig _ g1 g2 =>
      obtain ⟨rfl, rfl⟩ := h1.unique hb g1
      have := h2.unique g2
      cases this
      rfl
theorem fine_str {x : Str} (h1 : PyData.weight (.str x) ≤ 101) (h2 : PyData.canLay0 (.str x) = true) (h3 : PyData.intsShort 40 (.str x) = true) : Fine 0 101 (.str x) := ⟨by simp [PyData.depth], h1, h2, rfl, h3⟩
theorem fine_natT {cs : List Nat} (h : ∀ c ∈ cs, c ≤ 1000) (hl : cs.length ≤ 60) : Fine 1 6120 (.tuple ((cs.map fun (c : Nat) => (c : Int)).map PyData.int)) := by
  have q : FineAll 0 (102 * (cs.map fun (c : Nat) => (c : Int)).length) (iD (cs.map fun (c : Nat) => (c : Int))) := fine_ints fun x hx => by
    obtain ⟨c, hc, rfl⟩ := List.mem_map.mp hx
    have := h c hc
    have e : (10 : Nat) ^ 30 = 1000000000000000000000000000000 := by decide
    omega
  refine (fine_tuple q).mono (Nat.le_refl _) ?_
  rw [List.length_map]
  omega
theorem fine_intT {ms : List Int} (h : ∀ c ∈ ms, -1000 ≤ c ∧ c ≤ 1000) (hl : ms.length ≤ 60) : Fine 1 6120 (.tuple (ms.map PyData.int)) := by
  have q : FineAll 0 (102 * ms.length) (iD ms) := fine_ints fun x hx => by
    have := h x hx
    have e : (10 : Nat) ^ 30 = 1000000000000000000000000000000 := by decide
    omega
  refine (fine_tuple q).mono (Nat.le_refl _) ?_
  omega
theorem thru_small {rows : List (List Int)} {many most : Nat} (hG : Good many most rows) (h60 : most ≤ 60) {ss : List (Nat × Nat)} {c : List Nat} (h : Thru rows ss c) : (∀ x ∈ c, x ≤ 1000) := fun x hx => by
  obtain ⟨i, hi⟩ := List.getElem?_of_mem hx
  have hl := (List.getElem?_eq_some_iff.mp hi).1
  rw [h.len] at hl
  have hr := List.getElem?_eq_getElem hl
  have := h.le i x _ hi (prsA hr)
  have h1 := hG.row60 h60 _ (List.mem_of_getElem? hr)
  have h2 : rows[i].count 0 ≤ rows[i].length := List.count_le_length ..
  omega
theorem upL_thru {rows : List (List Int)} {many most : Nat} (hG : Good many most rows) (h6 : many ≤ 6) (h60 : most ≤ 60) {ss : List (Nat × Nat)} (hs : ∀ s ∈ ss, s.1 < rows.length) (h : ∃ L, Thru rows ss L) : Thru rows ss (upL rows (lowL rows ss)) := by
  have u := up_is hG h6 h60 (lowL rows ss)
  exact (thru_iff hs).mpr ⟨u.len.trans (lowL_len rows ss), u.cons, u.ge, (thru_up hG h6 h60 hs).mp h⟩
theorem fine_st {s : Nat × Nat} (h : s.1 < 64 ∧ s.2 < 64) : Fine 1 204 (pD (inS s)) := by
  have e : (10 : Nat) ^ 30 = 1000000000000000000000000000000 := by decide
  exact fine_pair (by show (s.1 : Int).natAbs < _; omega) (by show (s.2 : Int).natAbs < _; omega)
theorem VD.text {rows : List (List Int)} {many most : Nat} (hG : Good many most rows) (h6 : many ≤ 6) (h60 : most ≤ 60) {ss : List (Nat × Nat)} (hc : Ch rows ss) (hb : ∀ s ∈ ss, s.1 < 64 ∧ s.2 < 64) {v : D} (h : VD rows ss v) : ∃ p, (∀ S, Py S v p) ∧ Text p := by
  cases h with
  | line h =>
    have t := upL_thru hG h6 h60 hc.lt h
    have rl := hG.len
    refine ⟨.tuple [.str "line", .tuple (((upL rows (lowL rows ss)).map fun (c : Nat) => (c : Int)).map PyData.int)], fun S => .tup (.cons (.str _) (.cons (py_nat _) .nil)), ?_⟩
    have f1 : Fine 0 101 (.str "line") := fine_str (by decide +kernel) (by decide +kernel) (by decide +kernel)
    have f2 := fine_natT (thru_small hG h60 t) (by rw [t.len]; omega)
    exact ((fine_tuple (fine_cons (f1.mono (Nat.zero_le 1) (Nat.le_refl _)) (fine_cons f2 (fine_nil.mono (Nat.zero_le _) (Nat.le_refl _))))).mono (Nat.le_refl _) (Nat.le_refl _)).text (by omega) (by omega) rfl
  | @zig a b ms n h1 h2 =>
    have hm : ∀ m ∈ ms, -1000 ≤ m ∧ m ≤ 1000 := fun m hm => by
      have := names_mem.mp (List.mem_filter.mp (zk_mem h2.1.2 m hm)).1
      omega
    have hml := h2.2.1
    refine ⟨.tuple [.str "zigzag", pD (inS a), pD (inS b), .tuple (ms.map PyData.int)], fun S => .tup (.cons (.str _) (.cons (py_pair (inS a)) (.cons (py_pair (inS b)) (.cons (.tup (pys_ints ms)) .nil)))), ?_⟩
    have f1 : Fine 0 101 (.str "zigzag") := fine_str (by decide +kernel) (by decide +kernel) (by decide +kernel)
    have f2 := fine_st (hb _ h1.one)
    have f3 := fine_st (hb _ h1.two)
    have f4 := fine_intT hm (by omega)
    exact ((fine_tuple (fine_cons (f1.mono (Nat.zero_le 1) (Nat.le_refl _)) (fine_cons f2 (fine_cons f3 (fine_cons f4 (fine_nil.mono (Nat.zero_le _) (Nat.le_refl _))))))).mono (Nat.le_refl _) (Nat.le_refl _)).text (by omega) (by omega) rfl
end Sv
set_option maxHeartbeats 800000
set_option autoImplicit false
set_option maxHeartbeats 800000
set_option autoImplicit false
set_option maxHeartbeats 400000
namespace Sv
open PySem L2
/-- the states that can be deleted -/
def delU (rows : List (List Int)) (us : List (Int × Int)) : List (Int × Int) := (allU rows rows.length).filter fun x => decide (x.2 < ((((prs rows)[x.1.toNat]?).getD 0 : Nat) : Int)) && decide (x ∉ us)
theorem fm_ite {α β : Type} (g : α → β) (c : α → Bool) : ∀ l : List α, l.filterMap (fun x => if c x = true then some (g x) else none) = (l.filter c).map g
  | [] => rfl
  | a :: l => by
    rw [List.filterMap_cons, List.filter_cons]
    by_cases z : c a = true
    · simp only [z, if_true, List.map_cons, fm_ite g c l]
    · simp only [z, Bool.false_eq_true, if_false, fm_ite g c l]
end Sv
set_option maxHeartbeats 400000
namespace Sv
open PySem L2
theorem SG.none {S S' : Sto} {d : Addr} (h : SG S S') (n : S' d = none) : S d = none := by
  cases e : S d with
  | none => rfl
  | some o => rw [h _ _ (fun z => z) e] at n; cases n
end Sv
set_option maxHeartbeats 400000
namespace Sv
open PySem L2
/-- the history goes on -/
def Ext' (rows rows' : List (List Int)) : Prop := rows.length = rows'.length ∧ ∀ (i : Nat) (r r' : List Int), rows[i]? = some r → rows'[i]? = some r' → r <+: r'
theorem Ext'.refl (rows : List (List Int)) : Ext' rows rows := ⟨rfl, fun i r r' h1 h2 => by rw [h1] at h2; cases h2; exact List.prefix_rfl⟩
theorem Ext'.trans {a b c : List (List Int)} (x : Ext' a b) (y : Ext' b c) : Ext' a c := ⟨x.1.trans y.1, fun i r r' h1 h2 => by
  have hi : i < b.length := by rw [← x.1]; exact (List.getElem?_eq_some_iff.mp h1).1
  exact (x.2 i r _ h1 (List.getElem?_eq_getElem hi)).trans (y.2 i _ r' (List.getElem?_eq_getElem hi) h2)⟩
theorem Ext'.row {rows rows' : List (List Int)} (x : Ext' rows rows') {i : Nat} {r : List Int} (h : rows[i]? = some r) : ∃ r', rows'[i]? = some r' ∧ r <+: r' := by
  have hi : i < rows'.length := by rw [← x.1]; exact (List.getElem?_eq_some_iff.mp h).1
  exact ⟨_, List.getElem?_eq_getElem hi, x.2 i r _ h (List.getElem?_eq_getElem hi)⟩
theorem hap_inv {rows : List (List Int)} {e : Int} {p k : Nat} (h : hap rows e = some (p, k)) : ∃ row i, rows[p]? = some row ∧ row[i]? = some e ∧ k = (row.take i).count 0 := by
  rcases spot_hap (e := e) (rs := rows) (p := 0) with ⟨_, z⟩ | ⟨p', row, z1, z2, _, z4⟩
  · unfold hap at h
    rw [z] at h
    cases h
  · unfold hap at h
    rw [z4, Nat.zero_add] at h
    cases h
    have hk := List.idxOf_lt_length_iff.mpr z2
    exact ⟨row, row.idxOf e, z1, by rw [List.getElem?_eq_getElem hk]; exact congrArg some (List.getElem_idxOf hk), rfl⟩
theorem hap_le {rows : List (List Int)} {e : Int} {p k : Nat} {row : List Int} (h : hap rows e = some (p, k)) (hr : rows[p]? = some row) : k ≤ row.count 0 := by
  obtain ⟨row', i, h1, h2, rfl⟩ := hap_inv h
  rw [hr] at h1
  cases h1
  exact List.Sublist.count_le _ (List.take_sublist ..)
end Sv
set_option maxHeartbeats 400000
set_option maxHeartbeats 400000
namespace Sv
open PySem L2
def hisD (rows : List (List Int)) : D := .tup (rowsD rows)
theorem Deck.putF {st big p : Addr} {S : Sto} {o : Ob} (h : Deck st big S) (n : p ≠ st ∧ p ≠ big) : Deck st big (S.put p o) := by
  obtain ⟨hne, bs, a, b, c, hs, hb⟩ := h
  exact ⟨hne, bs, a, b, c, (Sto.ne n.1.symm).trans hs, (Sto.ne n.2.symm).trans hb⟩
theorem SK.putF {P : Addr → Prop} {S S' : Sto} {p : Addr} {o : Ob} (k : SK P S S') (n : S p = none) : SK P S (S'.put p o) := fun a u h e => by
  rw [Sto.ne fun z => by rw [z, n] at e; cases e]
  exact k a u h e
theorem w_lost {st big : Addr} {rows : List (List Int)} {S : Sto} {R : DK} (h : Deck st big S) (h1 : 1 ≤ rows.length) (h6 : rows.length ≤ 100)
    (k : ∀ (fs : List Int) S', fs.length ≤ 6 → (∀ f ∈ fs, 0 ≤ f ∧ f < rows.length) → Deck st big S' → SK (DP st big) S S' → R (.tup (intsD fs)) S') : dFn 3 B_law_lost_0080 [.ref st, .tup (rowsD rows)] S R := by
  have rdl : (rowsD rows).length = rows.length := List.length_map ..
  refine ⟨_, rfl, rfl, w_next h (by decide) (by decide) fun v S1 v0 v1 D1 k1 => ⟨_, rfl, by omega, by omega, fun p np => ?_⟩⟩
  obtain ⟨m, rfl⟩ : ∃ m : Nat, v = (m : Int) := ⟨v.toNat, by omega⟩
  have p12 := D1.fresh np
  refine ⟨fun i S' => i ≤ m ∧ Deck st big S' ∧ SK (DP st big) S S' ∧ ∃ fs : List Int, S' p = some (.lst (intsD fs)) ∧ fs.length = i ∧ ∀ f ∈ fs, 0 ≤ f ∧ f < rows.length, ⟨Nat.zero_le _, D1.keep (.new np), k1.trans (SK.new np), [], Sto.same, rfl, fun f hf => nomatch hf⟩, fun _ _ _ _ => True.intro, fun i d S' hd ⟨hi0, D', k', fs, hp, hl, hb⟩ => ?_, fun S' ⟨_, D', k', fs, hp, hl, hb⟩ => ?_⟩
  · obtain ⟨hi, rfl⟩ := rg_at hd
    rw [Int.toNat_natCast] at hi
    refine turn_y ?_
    refine ⟨_, rfl, _, rfl, _, _, rfl, rfl, rfl, w_next D' (by rw [rdl]; omega) (by rw [rdl]; omega) fun f S2 f0 f1 D2 k2 => ?_⟩
    rw [rdl] at f1
    have hp2 := k2 _ _ (nDP p12) hp
    refine ⟨_, hp2, by rw [intsD_len]; omega, hi, ?_, ?_, fs ++ [f], ?_, by rw [List.length_append, hl]; rfl, fun g hg => ?_⟩
    · exact D2.putF p12
    · exact (k'.trans k2).putF (k1.free np (nDP p12))
    · rw [Sto.same]
      unfold intsD
      rw [List.map_append]
      rfl
    · rcases List.mem_append.mp hg with z | z
      · exact hb g z
      · rw [List.mem_singleton.mp z]
        exact ⟨f0, f1⟩
  · have hl : fs.length = (rgD 0 ((m : Int)).toNat).length := hl
    rw [rg_len, Int.toNat_natCast] at hl
    exact ⟨_, _, rfl, seqOf_lst hp, fun ys z => (nomatch z), k fs S' (by omega) hb D' k'⟩
end Sv
set_option maxHeartbeats 400000
set_option maxHeartbeats 400000
namespace Sv
open PySem L2
theorem GF.of {S : Sto} {st big t f : Addr} {nm : List Int} {rows : List (List Int)} {o : List (Int × Int)} {u : Nat} {sh : Int} (h : GS S st big t nm rows o u sh) (n : S f = none) : GF S t f := by
  obtain ⟨N, O, h1, h2, h3, h4, h5, h6⟩ := h
  refine ⟨fun z => (by rw [z, n] at h1; cases h1), fun N2 O2 r s e => ?_⟩
  rw [h1] at e
  cases e
  exact ⟨fun z => (by rw [← z, n] at h2; cases h2), fun z => (by rw [← z, n] at h3; cases h3)⟩
theorem GS.putF {S : Sto} {st big t f : Addr} {ob : Ob} {nm : List Int} {rows : List (List Int)} {o : List (Int × Int)} {u : Nat} {sh : Int} (h : GS S st big t nm rows o u sh) (g : GF S t f) : GS (S.put f ob) st big t nm rows o u sh := by
  obtain ⟨N, O, h1, h2, h3, h4, h5, h6⟩ := h
  have := g.2 _ _ _ _ h1
  exact ⟨N, O, (Sto.ne g.1).trans h1, (Sto.ne this.1.symm).trans h2, (Sto.ne this.2.symm).trans h3, h4, h5, h6⟩
theorem GF.putF {S : Sto} {t f : Addr} {ob : Ob} (g : GF S t f) : GF (S.put f ob) t f := ⟨g.1, fun N O r s e => g.2 N O r s (by rw [Sto.ne g.1] at e; exact e)⟩
theorem GF.keep {S S' : Sto} {P : Addr → Prop} {st big t f : Addr} {nm : List Int} {rows : List (List Int)} {o : List (Int × Int)} {u : Nat} {sh : Int} (h : GS S st big t nm rows o u sh) (g : GF S t f) (k : SK (DP st big) S S') : GF S' t f := by
  obtain ⟨N, O, h1, h2, h3, h4, h5, h6⟩ := h
  refine ⟨g.1, fun N2 O2 r s e => ?_⟩
  rw [k _ _ (nDP h6) h1] at e
  cases e
  exact g.2 _ _ _ _ h1
theorem good_of {c u n many most : Nat} {nm : List Int} {rows : List (List Int)} {o : List (Int × Int)} (c1 : 1 ≤ c) (c6 : c ≤ many) (hp : nm.Perm names24) (h : Grown c nm rows o u n) (hn : n ≤ most) : Good many most rows := ⟨c, nm, o, u, n, c1, c6, hp, h, hn⟩
end Sv
set_option maxHeartbeats 400000
namespace Sv
open PySem L2
theorem w_history {st big : Addr} {S : Sto} {many most : Nat} {R : DK} (h : Deck st big S) (m1 : 1 ≤ many) (m6 : many ≤ 6) (h6 : 6 ≤ most) (h60 : most ≤ 60)
    (k : ∀ (rows : List (List Int)) S', Good (max many 2) most rows → Deck st big S' → SK (DP st big) S S' → R (hisD rows) S') : dFn 5 B_law_history_9bf0 [.ref st, .int many, .int most] S R := by
  have drawn : ∀ S1, Deck st big S1 → SK (DP st big) S S1 → (dSeq (dAsg (dCall 2 (dFn 3 B_law_begun_2a66) (dCons (dVar 0) (dCons (dVar 1) (dNil)))) (dgName 3))
      (dSeq (dFor (diRg1 (dCons (dCall 2 (dFn 4 B_law_next_74a4) (dCons (dVar 0) (dCons (dBin rAdd (dVar 2) (dC (.int 1))) (dNil)))) (dNil))) (dgName 4) (dAsg (dCall 2 (dFn 14 B_law_grown_680b) (dCons (dVar 0) (dCons (dVar 3) (dNil)))) (dgName 3)))
      (dRet (dBin rIxq (dVar 3) (dC (.int 0)))))) { nx := fun _ S' => R .non S', rt := R } (dStart 5 [.ref st, .int many, .int most]) S1 := fun S1 D1 k1 => by
    refine ⟨_, rfl, _, rfl, rfl, w_begun D1 m1 m6 fun t nm c sh S2 g2 hp c1 c6 D2 k2 => ?_⟩
    refine ⟨_, rfl, _, rfl, rfl, w_next D2 (by omega) (by omega) fun v S3 v0 v1 D3 k3 => ⟨_, rfl, by omega, by omega, ?_⟩⟩
    obtain ⟨m, rfl⟩ : ∃ m : Nat, v = (m : Int) := ⟨v.toNat, by omega⟩
    refine ⟨fun i env S' => i ≤ m ∧ ∃ (t : Addr) (x4 : Option D) (rows : List (List Int)) (o : List (Int × Int)) (u : Nat), env = [some (.ref st), some (.int many), some (.int most), some (.ref t), x4] ∧ GS S' st big t nm rows o u sh ∧ Grown c nm rows o u i ∧ Deck st big S' ∧ SK (DP st big) S S',
      ⟨Nat.zero_le _, t, _, _, _, _, rfl, g2.keep k3, .start, D3, (k1.trans k2).trans k3⟩, fun _ _ _ _ _ => True.intro, ?_, ?_⟩
    · rintro i d env S4 hd ⟨hi0, t, x4, rows, o, u, rfl, g4, hG, D4, k4⟩
      obtain ⟨hi, rfl⟩ := rg_at hd
      rw [Int.toNat_natCast] at hi
      exact ⟨_, rfl, _, rfl, rfl, w_grown D4 g4 hG hp c1 (by omega) (by omega) fun t' p row e o' u' S5 hrow g5 hG5 D5 k5 _ => ⟨hi, t', _, _, _, _, rfl, g5, hG5, D5, k4.trans k5⟩⟩
    · rintro env S4 ⟨hi0, t, x4, rows, o, u, rfl, g4, hG, D4, k4⟩
      have hlen : (rgD 0 ((m : Int)).toNat).length = m := by rw [rg_len, Int.toNat_natCast]
      have hG : Grown c nm rows o u (rgD 0 ((m : Int)).toNat).length := hG
      rw [hlen] at hG
      have ⟨N, O, h1, _⟩ := g4
      exact ⟨_, rfl, _, 0, _, seqOf_lst h1, rfl, rfl, k rows S4 (good_of c1 (by omega) hp hG (by omega)) D4 k4⟩
  refine ⟨_, rfl, _, rfl, iteB (fun h1 => ?_) (fun _ => ?_)⟩
  · refine ⟨_, rfl, rfl, w_next h (by decide) (by decide) fun v S1 v0 v1 D1 k1 => ⟨_, rfl, iteB (fun _ => ?_) (fun _ => ?_)⟩⟩
    · refine ⟨_, rfl, _, rfl, rfl, w_domino D1 h6 h60 fun n S2 n1 n24 D2 k2 => ?_⟩
      exact k [dOnes n, dOthers n] S2 ⟨2, names24, [], 2 * n, 6 * n, by decide, by omega, .refl _, dGrown n (by omega), n24⟩ D2 (k1.trans k2)
    · exact drawn S1 D1 k1
  · exact drawn S h (.refl S)
end Sv
set_option maxHeartbeats 400000
namespace Sv
open PySem L2
/-- the row without the saves that d names; n saves stood before it -/
def thin (d : Nat → Bool) : Nat → List Int → List Int
  | _, [] => []
  | n, e :: r => if e = 0 then (if d (n + 1) = true then thin d (n + 1) r else 0 :: thin d (n + 1) r) else e :: thin d n r
/-- the kept ones among the saves n + 1 .. n + m -/
def keptN (d : Nat → Bool) (n m : Nat) : List Nat := ((List.range m).map fun i => n + 1 + i).filter fun i => !d i
theorem keptN_succ (d : Nat → Bool) (n m : Nat) : keptN d n (m + 1) = (if d (n + 1) = true then [] else [n + 1]) ++ keptN d (n + 1) m := by
  unfold keptN
  rw [List.range_succ_eq_map, List.map_cons, List.filter_cons, List.map_map]
  have e : ((fun i => n + 1 + i) ∘ Nat.succ) = fun i => n + 1 + 1 + i := by
    funext i
    show n + 1 + (i + 1) = _
    omega
  rw [e]
  cases h : d (n + 1) with
  | true => simp [h]
  | false => simp [h]
theorem thin_mem {d : Nat → Bool} {e : Int} (he : e ≠ 0) : ∀ (n : Nat) (r : List Int), e ∈ thin d n r ↔ e ∈ r
  | _, [] => Iff.rfl
  | n, x :: r => by
    unfold thin
    by_cases z : x = 0
    · subst z
      rw [if_pos rfl]
      have : e ∈ (0 : Int) :: r ↔ e ∈ r := by
        rw [List.mem_cons]
        exact ⟨fun h => h.elim (fun h => absurd h he) id, .inr⟩
      rw [this]
      split
      · exact thin_mem he (n + 1) r
      · rw [List.mem_cons, thin_mem he (n + 1) r]
        exact ⟨fun h => h.elim (fun h => absurd h he) id, .inr⟩
    · rw [if_neg z, List.mem_cons, List.mem_cons, thin_mem he n r]
theorem idx_ne {x e : Int} {r : List Int} (h : ¬ x = e) : (x :: r).idxOf e = r.idxOf e + 1 := by
  rw [List.idxOf_cons, beq_false_of_ne h]
  rfl
/-- the saves before an event -/
theorem thin_idx {d : Nat → Bool} {e : Int} (he : e ≠ 0) : ∀ (n : Nat) (r : List Int), e ∈ r → ((thin d n r).take ((thin d n r).idxOf e)).count 0 = (keptN d n ((r.take (r.idxOf e)).count 0)).length
  | _, [], h => by cases h
  | n, x :: r, h => by
    unfold thin
    by_cases z : x = 0
    · subst z
      have hr : e ∈ r := (List.mem_cons.mp h).elim (fun h => absurd h he) id
      have ih := thin_idx (d := d) he (n + 1) r hr
      have i1 : ((0 : Int) :: r).idxOf e = r.idxOf e + 1 := idx_ne (fun z => he z.symm)
      rw [if_pos rfl, i1, List.take_succ_cons, List.count_cons_self, keptN_succ, List.length_append]
      cases hd : d (n + 1) with
      | true => rw [if_pos rfl, if_pos rfl, ih]; simp
      | false =>
        have i2 : ((0 : Int) :: thin d (n + 1) r).idxOf e = (thin d (n + 1) r).idxOf e + 1 := idx_ne (fun z => he z.symm)
        rw [if_neg Bool.false_ne_true, if_neg Bool.false_ne_true, i2, List.take_succ_cons, List.count_cons_self, ih]
        simp
        omega
    · rw [if_neg z]
      by_cases y : x = e
      · subst y
        rw [List.idxOf_cons_self, List.idxOf_cons_self]
        rfl
      · have hr : e ∈ r := (List.mem_cons.mp h).elim (fun h => absurd h.symm y) id
        have ih := thin_idx (d := d) he n r hr
        rw [idx_ne y, idx_ne y, List.take_succ_cons, List.take_succ_cons, List.count_cons_of_ne (by simpa using z), List.count_cons_of_ne (by simpa using z), ih]
/-- all rows without the saves that d names -/
def thinR (d : Nat → Nat → Bool) (rows : List (List Int)) : List (List Int) := rows.mapIdx fun p r => thin (d p) 0 r
theorem hap_thin {d : Nat → Nat → Bool} {rows : List (List Int)} {e : Int} (he : e ≠ 0) : hap (thinR d rows) e = (hap rows e).map fun x => (x.1, (keptN (d x.1) 0 x.2).length) := by
  have go : ∀ (rs : List (List Int)) (p : Nat), hapFrom e p (rs.mapIdx fun i r => thin (d (p + i)) 0 r) = (hapFrom e p rs).map fun x => (x.1, (keptN (d x.1) 0 x.2).length) := by
    intro rs
    induction rs with
    | nil => intro p; rfl
    | cons r rs ih =>
      intro p
      rw [List.mapIdx_cons]
      unfold hapFrom
      rw [Nat.add_zero]
      by_cases z : e ∈ r
      · rw [if_pos ((thin_mem he 0 r).mpr z), if_pos z, thin_idx he 0 r z]
        rfl
      · rw [if_neg (fun h => z ((thin_mem he 0 r).mp h)), if_neg z]
        have e2 : (fun (i : Nat) (r : List Int) => thin (d (p + (i + 1))) 0 r) = fun i r => thin (d (p + 1 + i)) 0 r := by
          funext i r
          rw [show p + (i + 1) = p + 1 + i by omega]
        rw [e2]
        exact ih (p + 1)
  have := go rows 0
  unfold thinR hap
  rw [← this]
  congr 2
  funext i r
  rw [Nat.zero_add]
end Sv
set_option maxHeartbeats 400000
namespace Sv
open PySem L2
/-- the numbers of the states that are kept, by their new numbers -/
def namesN (d : Nat → Bool) (m : Nat) : List Nat := 0 :: (keptN d 0 m ++ [m + 1])
theorem keptN_mem {d : Nat → Bool} {n m i : Nat} : i ∈ keptN d n m ↔ n + 1 ≤ i ∧ i ≤ n + m ∧ d i = false := by
  unfold keptN
  rw [List.mem_filter, List.mem_map]
  constructor
  · rintro ⟨⟨j, h1, rfl⟩, h2⟩
    have := List.mem_range.mp h1
    exact ⟨by omega, by omega, by simpa using h2⟩
  · rintro ⟨h1, h2, h3⟩
    exact ⟨⟨i - (n + 1), List.mem_range.mpr (by omega), by omega⟩, by rw [h3]; rfl⟩
theorem keptN_rise (d : Nat → Bool) (n m : Nat) : (keptN d n m).Pairwise (· < ·) := by
  unfold keptN
  refine List.Pairwise.filter _ (List.pairwise_map.mpr ((List.pairwise_lt_range (n := m)).imp fun h => ?_))
  omega
theorem namesN_rise (d : Nat → Bool) (m : Nat) : (namesN d m).Pairwise (· < ·) := by
  unfold namesN
  refine List.pairwise_cons.mpr ⟨fun x hx => ?_, List.pairwise_append.mpr ⟨keptN_rise d 0 m, List.pairwise_singleton _ _, fun x hx y hy => ?_⟩⟩
  · rcases List.mem_append.mp hx with z | z
    · have := keptN_mem.mp z; omega
    · rw [List.mem_singleton.mp z]; omega
  · have := keptN_mem.mp hx
    rw [List.mem_singleton.mp hy]
    omega
theorem keptN_take {d : Nat → Bool} {m k : Nat} (h : k ≤ m) : keptN d 0 k <+: keptN d 0 m := by
  refine ⟨((List.range (m - k)).map fun i => 0 + 1 + (k + i)).filter fun i => !d i, ?_⟩
  unfold keptN
  rw [← List.filter_append]
  congr 1
  have e : List.range m = List.range k ++ (List.range (m - k)).map (k + ·) := by
    conv => lhs; rw [show m = k + (m - k) by omega, List.range_add]
  rw [e, List.map_append, List.map_map]
  rfl
/-- an event stands before a kept state in both histories or in none -/
theorem kept_lt {d : Nat → Bool} {m k c n : Nat} (hk : k ≤ m) (h : (namesN d m)[c]? = some n) : k < n ↔ (keptN d 0 k).length < c := by
  have hpre := keptN_take (d := d) hk
  unfold namesN at h
  cases c with
  | zero =>
    cases h
    exact ⟨fun z => absurd z (Nat.not_lt_zero _), fun z => absurd z (Nat.not_lt_zero _)⟩
  | succ i =>
    rw [List.getElem?_cons_succ] at h
    rcases Nat.lt_or_ge i (keptN d 0 m).length with z | z
    · rw [List.getElem?_append_left z] at h
      rcases Nat.lt_or_ge i (keptN d 0 k).length with y | y
      · have e : (keptN d 0 k)[i]? = some n := by
          obtain ⟨t, ht⟩ := hpre
          rw [← ht, List.getElem?_append_left y] at h
          exact h
        have := keptN_mem.mp (List.mem_of_getElem? e)
        omega
      · obtain ⟨t, ht⟩ := hpre
        rw [← ht, List.getElem?_append_right y] at h
        have h1 : n ∈ t := List.mem_of_getElem? h
        have h2 := keptN_mem.mp (show n ∈ keptN d 0 m by rw [← ht]; exact List.mem_append.mpr (.inr h1))
        have h3 : n ∉ keptN d 0 k := fun w => by
          have pr := keptN_rise d 0 m
          rw [← ht] at pr
          exact Nat.lt_irrefl _ ((List.pairwise_append.mp pr).2.2 n w n h1)
        have h4 : ¬ n ≤ k := fun w => h3 (keptN_mem.mpr ⟨h2.1, by omega, h2.2.2⟩)
        omega
    · rw [List.getElem?_append_right z] at h
      have h2 : i - (keptN d 0 m).length = 0 := by
        have := (List.getElem?_eq_some_iff.mp h).1
        simp at this
        omega
      rw [h2] at h
      cases h
      have := hpre.length_le
      omega
end Sv
set_option maxHeartbeats 400000
namespace Sv
open PySem L2
theorem names_lt {d : Nat → Bool} {m c c' n n' : Nat} (h : (namesN d m)[c]? = some n) (h' : (namesN d m)[c']? = some n') (z : c < c') : n < n' := by
  obtain ⟨h1, h2⟩ := List.getElem?_eq_some_iff.mp h
  obtain ⟨h3, h4⟩ := List.getElem?_eq_some_iff.mp h'
  have := List.pairwise_iff_getElem.mp (namesN_rise d m) c c' h1 h3 z
  omega
theorem names_le {d : Nat → Bool} {m c c' n n' : Nat} (h : (namesN d m)[c]? = some n) (h' : (namesN d m)[c']? = some n') : c ≤ c' ↔ n ≤ n' := by
  constructor
  · intro z
    rcases Nat.lt_or_eq_of_le z with y | y
    · exact Nat.le_of_lt (names_lt h h' y)
    · subst y
      rw [h] at h'
      cases h'
      exact Nat.le_refl _
  · intro z
    rcases Nat.lt_or_ge c' c with y | y
    · have := names_lt h' h y; omega
    · exact y
/-- a line of the smaller history and the line that it names -/
structure Led (d : Nat → Nat → Bool) (rows : List (List Int)) (a b : List Nat) : Prop where
  la : a.length = rows.length
  lb : b.length = rows.length
  at' : ∀ (p : Nat) (row : List Int), rows[p]? = some row → ∃ c n, a[p]? = some c ∧ b[p]? = some n ∧ (namesN (d p) (row.count 0))[c]? = some n
theorem row_of {rows : List (List Int)} {p : Nat} (h : p < rows.length) : ∃ row, rows[p]? = some row := ⟨_, List.getElem?_eq_getElem h⟩
theorem Led.cons {d : Nat → Nat → Bool} {rows : List (List Int)} {a b : List Nat} (h : Led d rows a b) : ConsL (thinR d rows) a ↔ ConsL rows b := by
  have key : ∀ {e : Int} {p k : Nat}, e ≠ 0 → hap rows e = some (p, k) → hap (thinR d rows) e = some (p, (keptN (d p) 0 k).length) := fun {e p k} he h => by
    rw [hap_thin he, h]
    rfl
  have lt : ∀ {e : Int} {p k c n : Nat}, hap rows e = some (p, k) → a[p]? = some c → b[p]? = some n → (k < n ↔ (keptN (d p) 0 k).length < c) := fun {e p k c n} h1 h2 h3 => by
    obtain ⟨row, _, hr, _, _⟩ := hap_inv h1
    obtain ⟨c', n', h4, h5, h6⟩ := h.at' p row hr
    rw [h2] at h4
    rw [h3] at h5
    cases h4
    cases h5
    exact kept_lt (hap_le h1 hr) h6
  constructor
  · intro hc m p k p' k' c c' hm h1 h2 h3 h4 h5
    have ap : ∀ {q : Nat} {x : Nat}, b[q]? = some x → ∃ y, a[q]? = some y := fun {q x} z => ⟨_, List.getElem?_eq_getElem (by rw [h.la, ← h.lb]; exact (List.getElem?_eq_some_iff.mp z).1)⟩
    obtain ⟨y, hy⟩ := ap h3
    obtain ⟨y', hy'⟩ := ap h4
    exact (lt h1 hy h3).mpr (hc m p _ p' _ y y' hm (key (by omega) h1) (key (by omega) h2) hy hy' ((lt h2 hy' h4).mp h5))
  · intro hc m p k p' k' c c' hm h1 h2 h3 h4 h5
    have bp : ∀ {q : Nat} {x : Nat}, a[q]? = some x → ∃ y, b[q]? = some y := fun {q x} z => ⟨_, List.getElem?_eq_getElem (by rw [h.lb, ← h.la]; exact (List.getElem?_eq_some_iff.mp z).1)⟩
    obtain ⟨y, hy⟩ := bp h3
    obtain ⟨y', hy'⟩ := bp h4
    rw [hap_thin (by omega)] at h1 h2
    obtain ⟨⟨q, j⟩, g1, g2⟩ := Option.map_eq_some_iff.mp h1
    obtain ⟨⟨q', j'⟩, g3, g4⟩ := Option.map_eq_some_iff.mp h2
    cases g2
    cases g4
    exact (lt g1 h3 hy).mp (hc m _ j _ j' y y' hm g1 g3 hy hy' ((lt g3 h4 hy').mpr h5))
theorem Led.le {d : Nat → Nat → Bool} {rows : List (List Int)} {a b a' b' : List Nat} (h : Led d rows a b) (g : Led d rows a' b') (hl : LeL b b') : LeL a a' := fun i x y h1 h2 => by
  have hi : i < rows.length := by rw [← h.la]; exact (List.getElem?_eq_some_iff.mp h1).1
  obtain ⟨row, hr⟩ := row_of hi
  obtain ⟨c, n, e1, e2, e3⟩ := h.at' i row hr
  obtain ⟨c', n', e4, e5, e6⟩ := g.at' i row hr
  rw [h1] at e1
  rw [h2] at e4
  cases e1
  cases e4
  exact (names_le e3 e6).mpr (hl i n n' e2 e5)
end Sv
namespace Sv
open PySem PySem.Spec PyProof.Rows L2
def zerU (n : Nat) (row : List Int) : List Int := ((List.range n).filter fun j => decide (row[j]? = some 0)).map fun (j : Nat) => (j : Int)
def places (row : List Int) : List Int := 0 :: (zerU row.length row ++ [(row.length : Int)])
theorem zerU_succ (n : Nat) (row : List Int) : zerU (n + 1) row = zerU n row ++ (if row[n]? = some 0 then [(n : Int)] else []) := by
  unfold zerU
  rw [List.range_succ, List.filter_append, List.map_append]
  congr 1
  by_cases h : row[n]? = some 0
  · rw [if_pos h, List.filter_cons_of_pos (by rw [h]; rfl)]
    rfl
  · rw [if_neg h, List.filter_cons_of_neg (by rw [decide_eq_false h]; exact Bool.false_ne_true)]
    rfl
theorem zerU_len (row : List Int) : ∀ n, n ≤ row.length → (zerU n row).length = (row.take n).count 0
  | 0, _ => by simp [zerU]
  | n + 1, h => by
    rw [zerU_succ, List.length_append, zerU_len row n (by omega), List.take_add_one, List.count_append]
    congr 1
    have e := List.getElem?_eq_getElem (show n < row.length by omega)
    rw [e]
    by_cases h0 : row[n] = 0
    · rw [if_pos (by rw [h0]), h0]
      rfl
    · rw [if_neg (fun z => h0 (Option.some.inj z))]
      simp [h0]
theorem places_len (row : List Int) : (places row).length = row.count 0 + 2 := by
  unfold places
  rw [List.length_cons, List.length_append, zerU_len row row.length (Nat.le_refl _), List.take_length, List.length_singleton]
end Sv
set_option maxHeartbeats 400000
namespace Sv
open PySem L2
theorem zer_at (row : List Int) : ∀ (n : Nat), n ≤ row.length → ∀ (i : Nat) (x : Int), (zerU n row)[i]? = some x ↔ ∃ j : Nat, j < n ∧ x = (j : Int) ∧ row[j]? = some 0 ∧ (row.take j).count 0 = i
  | 0, _, i, x => by
    show ([] : List Int)[i]? = some x ↔ _
    constructor
    · intro h; cases h
    · rintro ⟨j, h, _⟩; exact absurd h (Nat.not_lt_zero _)
  | n + 1, h, i, x => by
    have ih := zer_at row n (by omega) i x
    have hl := zerU_len row n (by omega)
    rw [zerU_succ]
    rcases Nat.lt_or_ge i (zerU n row).length with z | z
    · rw [List.getElem?_append_left z, ih]
      constructor
      · rintro ⟨j, h1, h2⟩; exact ⟨j, by omega, h2⟩
      · rintro ⟨j, h1, h2, h3, h4⟩
        rcases Nat.lt_or_ge j n with y | y
        · exact ⟨j, y, h2, h3, h4⟩
        · obtain rfl : j = n := by omega
          omega
    · rw [List.getElem?_append_right z]
      constructor
      · intro e
        by_cases y : row[n]? = some 0
        · rw [if_pos y] at e
          have h0 : i - (zerU n row).length = 0 := by
            have := (List.getElem?_eq_some_iff.mp e).1
            simp at this
            omega
          rw [h0] at e
          cases e
          exact ⟨n, by omega, rfl, y, by omega⟩
        · rw [if_neg y] at e
          cases e
      · rintro ⟨j, h1, rfl, h3, h4⟩
        have hj : j = n := by
          rcases Nat.lt_or_ge j n with y | y
          · have e := (zer_at row n (by omega) i (j : Int)).mpr ⟨j, y, rfl, h3, h4⟩
            have := (List.getElem?_eq_some_iff.mp e).1
            omega
          · omega
        subst hj
        rw [if_pos h3, show i - (zerU j row).length = 0 by omega]
        rfl
theorem zer_eq (row : List Int) : ((row.mapIdx fun i e => (i, e)).filter fun x => decide (x.2 = 0)).map (fun x => ((x.1 : Nat) : Int)) = zerU row.length row := by
  have go : ∀ n, n ≤ row.length → (((row.mapIdx fun i e => (i, e)).take n).filter fun x => decide (x.2 = 0)).map (fun x => ((x.1 : Nat) : Int)) = zerU n row := by
    intro n
    induction n with
    | zero => intro _; rfl
    | succ n ih =>
      intro h
      have e : row[n]? = some row[n] := List.getElem?_eq_getElem h
      have e2 : (row.mapIdx fun i e => (i, e))[n]? = some (n, row[n]) := by rw [List.getElem?_mapIdx, e]; rfl
      rw [take_map e2, List.filter_append, List.map_append, ih (by omega), zerU_succ, e]
      congr 1
      by_cases z : row[n] = 0
      · rw [if_pos (by rw [z])]
        simp [z]
      · rw [if_neg (fun h => z (Option.some.inj h))]
        simp [z]
  have := go row.length (Nat.le_refl _)
  rw [List.take_of_length_le (by rw [List.length_mapIdx]; omega)] at this
  exact this
end Sv
set_option maxHeartbeats 800000
set_option autoImplicit false
namespace Sv
open PySem PySem.Spec PyProof.Rows L2
theorem zipN_rng {xs ys : List Nat} {n : Nat} (h1 : xs.length = n) (h2 : ys.length = n) : zipD (natD xs) (natD ys) = (List.range n).map fun p => D.tup [.int ((xs.getD p 0 : Nat) : Int), .int ((ys.getD p 0 : Nat) : Int)] := by
  apply List.ext_getElem?
  intro i
  unfold zipD natD
  rw [List.getElem?_zipWith, List.getElem?_map, List.getElem?_map, List.getElem?_map]
  rcases Nat.lt_or_ge i n with z | z
  · have e1 : xs[i]? = some xs[i] := List.getElem?_eq_getElem (by omega)
    have e2 : ys[i]? = some ys[i] := List.getElem?_eq_getElem (by omega)
    rw [List.getElem?_range z, e1, e2]
    show some (D.tup [D.int ((xs[i] : Nat) : Int), D.int ((ys[i] : Nat) : Int)]) = some (D.tup [D.int ((xs.getD i 0 : Nat) : Int), D.int ((ys.getD i 0 : Nat) : Int)])
    rw [List.getD_eq_getElem?_getD, List.getD_eq_getElem?_getD, e1, e2]
    rfl
  · rw [List.getElem?_eq_none (l := xs) (by omega), List.getElem?_eq_none (l := List.range n) (by rw [List.length_range]; exact z)]
    rfl
theorem w_within {x lo hi : Int} {S : Sto} {R : DK} (q : R (.bl (decide (lo ≤ x) && decide (x ≤ hi))) S) : dFn 3 B_is_number_within_7f04 [.int x, .int lo, .int hi] S R := by
  refine ⟨_, rfl, rfl, w_isnum ⟨_, rfl, goT ?_⟩⟩
  refine ⟨_, rfl, _, rfl, _, rfl, iteB (fun h => ?_) (fun h => ?_)⟩
  · have h : decide (lo ≤ x) = true := h
    rw [h, Bool.true_and] at q
    exact ⟨_, rfl, q⟩
  · have h : decide (lo ≤ x) = false := h
    rw [h, Bool.false_and] at q
    exact q
theorem w_isline {rows : List (List Int)} {c : List Nat} {S : Sto} {R : DK} (hr : rows.length ≤ 1000) (hl : c.length = rows.length) (hc : LeL c (prs rows)) (q : ∀ S', SG S S' → R (.bl true) S') : dFn 5 B_is_line_5402 [.tup (rowsD rows), .tup (natD c)] S R := by
  have e1 : (natD c).length = (rowsD rows).length := by rw [natD_len, rowsD, List.length_map, hl]
  refine ⟨_, rfl, _, _, _, _, rfl, rfl, (by decide +kernel : kitB "tuple" "tuple" = some true), _, rfl, goF ?_⟩
  refine ⟨_, rfl, _, _, rfl, rfl, _, rfl, _, _, rfl, rfl, _, rfl, ?_⟩
  rw [xor_tt, decide_eq_true (by rw [e1])]
  refine goF ?_
  refine ⟨_, rfl, rfl, w_nums hr fun S1 sg1 => ?_⟩
  have pl : (prs rows).length = rows.length := List.length_map ..
  refine ⟨_, rfl, _, rfl, _, _, .inl ⟨rfl, lc_mapE (List.range rows.length) (fun p => D.tup [.int ((c.getD p 0 : Nat) : Int), .int (((prs rows).getD p 0 : Nat) : Int)]) (zipN_rng hl pl) (fun p => some (D.bl true)) (by rw [List.length_range]; omega) (fun _ _ => True.intro) (fun p hp S2 sg2 K Kn hk _ => ?_) fun t S2 nt sg2 ht => ?_⟩⟩
  · have hp := List.mem_range.mp hp
    obtain ⟨x, hx⟩ : ∃ x, c[p]? = some x := ⟨_, List.getElem?_eq_getElem (by omega)⟩
    obtain ⟨y, hy⟩ : ∃ y, (prs rows)[p]? = some y := ⟨_, List.getElem?_eq_getElem (by omega)⟩
    have hxy := hc p x y hx hy
    have g1 : c.getD p 0 = x := by rw [List.getD_eq_getElem?_getD, hx]; rfl
    have g2 : (prs rows).getD p 0 = y := by rw [List.getD_eq_getElem?_getD, hy]; rfl
    rw [g1, g2]
    refine ⟨_, rfl, .inl (.inl rfl), _, _, rfl, _, _, rfl, rfl, yesS ⟨_, rfl, _, rfl, rfl, w_within ?_⟩⟩
    rw [decide_eq_true (show (0 : Int) ≤ x by omega), decide_eq_true (show (x : Int) ≤ y by omega)]
    exact hk _ rfl _ (.refl _)
  · rw [fm_map] at ht
    have et : (List.range rows.length).map (fun _ => D.bl true) = (List.replicate rows.length true).map D.bl := by
      rw [List.map_replicate, List.map_const', List.length_range]
    rw [et] at ht
    refine ⟨_, _, rfl, ht, ?_⟩
    have ea : (List.replicate rows.length true).all id = true := by
      rw [List.all_eq_true]
      intro x hx
      rw [(List.mem_replicate.mp hx).2]
      rfl
    show R (.bl ((List.replicate rows.length true).all id)) S2
    rw [ea]
    exact q _ (sg1.trans sg2)
theorem eqvA_natS : ∀ a b : List Nat, PyData.eqvAll ((a.map fun x : Nat => (x : Int)).map PyData.int) ((b.map fun x : Nat => (x : Int)).map PyData.int) = decide (a = b)
  | [], [] => by simp [PyData.eqvAll]
  | [], y :: b => by simp [PyData.eqvAll]
  | x :: a, [] => by simp [PyData.eqvAll]
  | x :: a, y :: b => by
    have ih := eqvA_natS a b
    rw [List.map_cons, List.map_cons, List.map_cons, List.map_cons, PyData.eqvAll, ih]
    simp only [PyData.eqv]
    rw [Bool.eq_iff_iff, Bool.and_eq_true, decide_eq_true_iff, decide_eq_true_iff, List.cons.injEq, beq_iff_eq, Int.natCast_inj]
theorem eqvT_nat (a b : List Nat) : PyData.eqv (.tuple ((a.map fun x : Nat => (x : Int)).map PyData.int)) (.tuple ((b.map fun x : Nat => (x : Int)).map PyData.int)) = decide (a = b) := by
  rw [← eqvA_natS, PyData.eqv]
theorem w_holds {rows : List (List Int)} {many most : Nat} {fs : List Int} {c : List Nat} {S : Sto} {R : DK} (hG : Good many most rows) (h6 : many ≤ 6) (h60 : most ≤ 60) (hf : fs.length ≤ 900) (hl : c.length = rows.length) (hc : LeL c (prs rows))
    (q : ∀ S', SG S S' → R (.bl (decide (c = fallL rows fs))) S') : dFn 3 B_fall_holds_03ce [.tup (rowsD rows), .tup (intsD fs), .tup (natD c)] S R := by
  have rl := hG.len
  refine ⟨_, rfl, _, rfl, rfl, w_isline (by omega) hl hc fun S1 sg1 => ⟨_, rfl, goT ?_⟩⟩
  refine ⟨_, rfl, _, rfl, _, rfl, _, rfl, ?_⟩
  have := w_fall (fs := fs) (S := S1) (R := fun d S' => rEqq false (.tup (natD c)) d S' R) hG h6 h60 hf fun S2 sg2 => by
    refine ⟨_, _, py_nat _, py_nat _, shaped_tup _, shaped_tup _, ?_⟩
    rw [eqvT_nat, xor_ff]
    exact q _ (sg1.trans sg2)
  show dFnS 1 5 B_fall_back_94df (D.tup (rowsD rows) :: (intsD fs ++ [])) S1 fun y S2 => rEqq false (D.tup (natD c)) y S2 R
  rw [List.append_nil]
  exact this
end Sv
set_option maxHeartbeats 400000
namespace Sv
open PySem L2
/-- which saves the smaller history lacks -/
def dOf (rows : List (List Int)) (us : List (Int × Int)) (p n : Nat) : Bool := decide (((p : Int), (n : Int)) ∈ delU rows us)
end Sv
set_option maxHeartbeats 400000
set_option maxHeartbeats 400000
namespace Sv
open PySem L2
def NamesAt (S : Sto) (rows : List (List Int)) (us : List (Int × Int)) (rs : List Addr) : Prop := ∀ (p : Nat) (r : Addr) (row : List Int), rs[p]? = some r → rows[p]? = some row → S r = some (.lst (natD (namesN (dOf rows us p) (row.count 0))))
theorem NamesAt.keep {S S' : Sto} {rows : List (List Int)} {us : List (Int × Int)} {rs : List Addr} (h : NamesAt S rows us rs) (k : SG S S') : NamesAt S' rows us rs := fun p r row h1 h2 => k _ _ (fun z => z) (h p r row h1 h2)
end Sv
set_option maxHeartbeats 400000
set_option maxHeartbeats 400000
set_option maxHeartbeats 400000
namespace Sv
open PySem L2
def freshR (rows : List (List Int)) : List (List Int) := rows.map fun r => r ++ [0]
theorem Grown.fresh {c : Nat} {nm : List Int} {rows : List (List Int)} {o : List (Int × Int)} {u k : Nat} (h : Grown c nm rows o u k) : Grown c nm (freshR rows) o u (k + rows.length) := by
  have go : ∀ i, i ≤ rows.length → Grown c nm ((rows.take i).map (fun r => r ++ [0]) ++ rows.drop i) o u (k + i) := by
    intro i
    induction i with
    | zero => intro _; exact h
    | succ i ih =>
      intro hi
      have hr : rows[i]? = some rows[i] := List.getElem?_eq_getElem hi
      have g := ih (by omega)
      have hl : ((rows.take i).map (fun r => r ++ [0])).length = i := by rw [List.length_map, List.length_take]; omega
      have hd : rows.drop i = rows[i] :: rows.drop (i + 1) := List.drop_eq_getElem_cons hi
      have hat : ((rows.take i).map (fun r => r ++ [0]) ++ rows.drop i)[i]? = some rows[i] := by
        rw [List.getElem?_append_right (by omega), hl, Nat.sub_self, hd]
        rfl
      have g2 := g.save hat
      have e : ((rows.take i).map (fun r => r ++ [0]) ++ rows.drop i).set i (rows[i] ++ [0]) = (rows.take (i + 1)).map (fun r => r ++ [0]) ++ rows.drop (i + 1) := by
        rw [take_map hr, List.map_append, List.set_append_right _ _ (by omega), hl, Nat.sub_self, hd, List.append_assoc]
        rfl
      rw [e] at g2
      exact g2
  have := go rows.length (Nat.le_refl _)
  rw [List.take_length, List.drop_length, List.append_nil] at this
  exact this
theorem Good.fresh {many most : Nat} {rows : List (List Int)} (h : Good many most rows) : Good many (most + many) (freshR rows) := by
  have hl := h.len
  obtain ⟨c, nm, o, u, k, h1, h2, h3, h4, h5⟩ := h
  exact ⟨c, nm, o, u, k + rows.length, h1, h2, h3, h4.fresh, by omega⟩
end Sv
set_option maxHeartbeats 400000
set_option maxHeartbeats 400000
set_option maxHeartbeats 400000
set_option maxHeartbeats 400000
set_option maxHeartbeats 400000
namespace Sv
open PySem L2
theorem SG.trans' {a b c : Sto} (x : SG a b) (y : SG b c) : SG a c := SK.trans x y
end Sv
set_option maxHeartbeats 400000
namespace Sv
open PySem L2
theorem w_spots {row : List Int} {S : Sto} {R : DK} (hl : row.length ≤ 900) (k : ∀ t S', SG S S' → S' t = some (.lst (intsD (places row))) → R (.ref t) S') : dFn 3 B_law_spots_60b5 [.tup (intsD row)] S R := by
  refine ⟨rfl, fun a na => ?_⟩
  have sga : SG S (S.put a (.lst [.int 0])) := .new na
  have ha : (S.put a (.lst [.int 0])) a = some (.lst [.int 0]) := Sto.same
  generalize S.put a (.lst [.int 0]) = S1 at sga ha ⊢
  refine ⟨_, rfl, _, _, rfl, rfl, lc_mapE (row.mapIdx fun i e => (i, e)) (fun x => .tup [.int ((x.1 : Nat) : Int), .int x.2]) (enD_map D.int row) (fun x => if decide (x.2 = 0) = true then some (D.int ((x.1 : Nat) : Int)) else none) (by rw [List.length_mapIdx]; omega) (fun _ _ => True.intro)
    (fun x _ S1 sg K Kn hk hn => ⟨_, rfl, .inl (.inl rfl), _, _, rfl, _, _, rfl, rfl, _, rfl, _, rfl, iteB (fun e => ?_) (fun e => ?_)⟩) fun p S2 np sg hp => ?_⟩
  · rw [xor_ff] at e
    exact ⟨_, rfl, hk _ (if_pos e) _ (.refl _)⟩
  · rw [xor_ff] at e
    exact hn (by show (if decide (x.2 = 0) = true then _ else _) = _; rw [e]; rfl) _ (.refl _)
  · rw [fm_ite (fun x : Nat × Int => D.int ((x.1 : Nat) : Int)) (fun x => decide (x.2 = 0))] at hp
    have e : ((row.mapIdx fun i e => (i, e)).filter fun x => decide (x.2 = 0)).map (fun x => D.int ((x.1 : Nat) : Int)) = intsD (zerU row.length row) := by
      rw [← zer_eq]
      unfold intsD
      rw [List.map_map]
      rfl
    rw [e] at hp
    have h1 := zerU_len row row.length (Nat.le_refl _)
    have h2 : ((row.take row.length).count 0) ≤ (row.take row.length).length := List.count_le_length ..
    rw [List.length_take] at h2
    refine ⟨_, _, sg _ _ (fun z => z) ha, hp, by rw [intsD_len]; show 1 + _ ≤ 100000; omega, fun b nb => ⟨_, rfl, _, _, rfl, rfl, rfl, fun c nc => ?_⟩⟩
    have sgb : SG S2 (S2.put b (.lst ([.int 0] ++ intsD (zerU row.length row)))) := .new nb
    have hb : (S2.put b (.lst ([.int 0] ++ intsD (zerU row.length row)))) b = some (.lst ([.int 0] ++ intsD (zerU row.length row))) := Sto.same
    generalize S2.put b (.lst ([.int 0] ++ intsD (zerU row.length row))) = S3 at sgb hb nc ⊢
    refine ⟨_, _, (Sto.ne fun z => by rw [z, nc] at hb; cases hb).trans hb, Sto.same, ?_, fun t nt => ?_⟩
    · rw [List.length_append, intsD_len]
      show 1 + _ + 1 ≤ 100000
      omega
    · refine k t _ (SG.trans' (SG.trans' (SG.trans' sga sg) sgb) (SG.trans' (.new nc) (.new nt))) ?_
      rw [Sto.same, intsD_len]
      unfold places intsD
      rw [List.map_cons, List.map_append]
      rfl
end Sv
set_option maxHeartbeats 400000
set_option maxHeartbeats 400000
set_option maxHeartbeats 400000
namespace Sv
open PySem L2
theorem zip_rng {α β : Type} {g : α → D} {h : β → D} {xs : List α} {ys : List β} {n : Nat} (a : α) (b : β) (h1 : xs.length = n) (h2 : ys.length = n) : zipD (xs.map g) (ys.map h) = (List.range n).map fun p => D.tup [g (xs.getD p a), h (ys.getD p b)] := by
  apply List.ext_getElem?
  intro i
  unfold zipD
  rw [List.getElem?_zipWith, List.getElem?_map, List.getElem?_map, List.getElem?_map]
  rcases Nat.lt_or_ge i n with z | z
  · have e1 : xs[i]? = some xs[i] := List.getElem?_eq_getElem (by omega)
    have e2 : ys[i]? = some ys[i] := List.getElem?_eq_getElem (by omega)
    rw [List.getElem?_range z, e1, e2]
    show some (D.tup [g xs[i], h ys[i]]) = some (D.tup [g (xs.getD i a), h (ys.getD i b)])
    rw [List.getD_eq_getElem?_getD, List.getD_eq_getElem?_getD, e1, e2]
    rfl
  · rw [List.getElem?_eq_none (l := xs) (by omega), List.getElem?_eq_none (l := List.range n) (by rw [List.length_range]; exact z)]
    rfl
/-- the places of a cut's states -/
def cutP (rows : List (List Int)) (cs : List Nat) : List Int := (List.range rows.length).map fun p => (places (rows.getD p [])).getD (cs.getD p 0) 0
end Sv
set_option maxHeartbeats 800000
set_option autoImplicit false
namespace Sv
open PySem PySem.Spec PyProof.Rows L2
def AtL (rows : List (List Int)) (p i : Nat) (e : Int) : Prop := ∃ row, rows[p]? = some row ∧ row[i]? = some e
theorem sent_ofL {many most : Nat} {rows : List (List Int)} (h : Good many most rows) {q j : Nat} {m : Int} (hm : 0 < m) (h1 : AtL rows q j (0 - m)) : ∃ p i, AtL rows p i m := by
  obtain ⟨c, nm, o, u, k, _, _, hp, g, _⟩ := h
  obtain ⟨row, h2, h3⟩ := h1
  have h4 : (0 - m) ∈ rows.flatten := List.mem_flatten.mpr ⟨row, List.mem_of_getElem? h2, List.mem_of_getElem? h3⟩
  have h5 : m ∈ negs rows.flatten := List.mem_map.mpr ⟨0 - m, List.mem_filter.mpr ⟨h4, decide_eq_true (by omega)⟩, by omega⟩
  have h6 := (g.once hp).2.mem_iff.mp (List.mem_append_left _ h5)
  have h7 := (g.once hp).1.mem_iff.mpr h6
  obtain ⟨r, hr, hmr⟩ := List.mem_flatten.mp (List.mem_filter.mp h7).1
  obtain ⟨p, hp1⟩ := List.getElem?_of_mem hr
  obtain ⟨i, hi⟩ := List.getElem?_of_mem hmr
  exact ⟨p, i, r, hp1, hi⟩
theorem cnt_monoL (row : List Int) {i j : Nat} (h : i ≤ j) : (row.take i).count 0 ≤ (row.take j).count 0 := by
  have : row.take i = (row.take j).take i := by rw [List.take_take, Nat.min_eq_left h]
  rw [this]
  exact List.Sublist.count_le _ (List.take_sublist _ _)
theorem place_le {row : List Int} {n i : Nat} {e : Int} (hn : n ≤ row.count 0 + 1) (h : row[i]? = some e) (he : e ≠ 0) : (places row).getD n 0 ≤ (i : Int) ↔ n ≤ (row.take i).count 0 := by
  have hi := (List.getElem?_eq_some_iff.mp h).1
  have hl := zerU_len row row.length (Nat.le_refl _)
  rw [List.take_length] at hl
  unfold places
  cases n with
  | zero => exact ⟨fun _ => Nat.zero_le _, fun _ => by show (0 : Int) ≤ i; omega⟩
  | succ n =>
    rw [List.getD_cons_succ, List.getD_eq_getElem?_getD]
    rcases Nat.lt_or_ge n (zerU row.length row).length with z | z
    · rw [List.getElem?_append_left z]
      have hx := List.getElem?_eq_getElem z
      generalize (zerU row.length row)[n] = x at hx
      obtain ⟨j, hj, rfl, h0, hc⟩ := (zer_at row _ (Nat.le_refl _) n x).mp hx
      rw [hx]
      show (j : Int) ≤ i ↔ _
      have hne : j ≠ i := fun y => by
        subst y
        rw [h] at h0
        exact he (Option.some.inj h0)
      constructor
      · intro hle
        have h1 := cnt_monoL row (show j + 1 ≤ i by omega)
        rw [take_map h0, List.count_append, hc] at h1
        have : List.count (0 : Int) [0] = 1 := rfl
        omega
      · intro hle
        rcases Nat.lt_or_ge i j with y | y
        · have h1 := cnt_monoL row (show i ≤ j by omega)
          omega
        · omega
    · have en : n = (zerU row.length row).length := by omega
      subst en
      rw [List.getElem?_append_right (Nat.le_refl _), Nat.sub_self]
      show ((row.length : Nat) : Int) ≤ i ↔ _
      have h1 := cnt_monoL row (show i ≤ row.length by omega)
      rw [List.take_length] at h1
      omega
abbrev LetR := Nat × Nat × Nat × Nat × Int
def ltD (x : LetR) : List D := [.int (x.1 : Int), .int (x.2.1 : Int), .int (x.2.2.1 : Int), .int (x.2.2.2.1 : Int), .int x.2.2.2.2]
def LetAt (rows : List (List Int)) (x : LetR) : Prop := 0 < x.2.2.2.2 ∧ AtL rows x.1 x.2.1 x.2.2.2.2 ∧ AtL rows x.2.2.1 x.2.2.2.1 (0 - x.2.2.2.2)
structure LetS (S : Sto) (f : Addr) (as : List Addr) (Ls : List LetR) : Prop where
  len : as.length = Ls.length
  fx : S f = some (.lst (as.map D.ref))
  at' : ∀ (k : Nat) (a : Addr) (x : LetR), as[k]? = some a → Ls[k]? = some x → S a = some (.lst (ltD x))
  off : ∀ a ∈ as, a ≠ f
theorem LetS.keep {S S' : Sto} {f : Addr} {as : List Addr} {Ls : List LetR} (h : LetS S f as Ls) (sg : SG S S') : LetS S' f as Ls := ⟨h.len, sg _ _ (fun z => z) h.fx, fun k a x h1 h2 => sg _ _ (fun z => z) (h.at' k a x h1 h2), h.off⟩
/-- all receipts before a place have letters -/
def LetTo (rows : List (List Int)) (Ls : List LetR) (P : Nat → Nat → Prop) : Prop := (∀ x ∈ Ls, LetAt rows x) ∧ ∀ (p i : Nat) (m : Int), P p i → 0 < m → AtL rows p i (0 - m) → ∃ x ∈ Ls, x.2.2.1 = p ∧ x.2.2.2.1 = i ∧ x.2.2.2.2 = m
end Sv
set_option maxHeartbeats 800000
set_option autoImplicit false
namespace Sv
open PySem PySem.Spec PyProof.Rows L2
def OkL (rows : List (List Int)) (cs : List Nat) (x : LetR) : Prop := ((rows.getD x.2.2.1 []).take x.2.2.2.1).count 0 < cs.getD x.2.2.1 0 → ((rows.getD x.1 []).take x.2.1).count 0 < cs.getD x.1 0
theorem getDN_of {cs : List Nat} {p c : Nat} (h : cs[p]? = some c) : cs.getD p 0 = c := by
  rw [List.getD_eq_getElem?_getD, h]
  rfl
theorem rowsDL {rows : List (List Int)} {p : Nat} {row : List Int} (h : rows[p]? = some row) : rows.getD p [] = row := by
  rw [List.getD_eq_getElem?_getD, h]
  rfl
theorem fits_iff {rows : List (List Int)} {many most : Nat} (hG : Good many most rows) {Ls : List LetR} (hL : LetTo rows Ls (fun _ _ => True)) {cs : List Nat} (hc : cs.length = rows.length) : (∀ x ∈ Ls, OkL rows cs x) ↔ ConsL rows cs := by
  constructor
  · intro h m p k p' k' c c' hm h1 h2 h3 h4 hlt
    obtain ⟨row, i, g1, g2, g3⟩ := hap_inv h2
    obtain ⟨x, hx, e1, e2, e3⟩ := hL.2 p' i m True.intro hm ⟨row, g1, g2⟩
    obtain ⟨x0, ⟨rs, a1, a2⟩, _⟩ := hL.1 x hx
    have hh := hG.hap_at a1 a2 (by omega)
    rw [e3, h1] at hh
    obtain ⟨b1, b2⟩ := Prod.mk.inj (Option.some.inj hh)
    have := h x hx
    unfold OkL at this
    rw [e1, e2, rowsDL g1, ← g3, getDN_of h4, rowsDL a1, ← b2, ← b1, getDN_of h3] at this
    exact this hlt
  · intro h x hx hlt
    obtain ⟨x0, ⟨rs, a1, a2⟩, ⟨rr, b1, b2⟩⟩ := hL.1 x hx
    have h1 := hG.hap_at a1 a2 (by omega)
    have h2 := hG.hap_at b1 b2 (by omega)
    obtain ⟨c, hc1⟩ : ∃ c, cs[x.1]? = some c := ⟨_, List.getElem?_eq_getElem (by rw [hc]; exact (List.getElem?_eq_some_iff.mp a1).1)⟩
    obtain ⟨c', hc2⟩ : ∃ c, cs[x.2.2.1]? = some c := ⟨_, List.getElem?_eq_getElem (by rw [hc]; exact (List.getElem?_eq_some_iff.mp b1).1)⟩
    rw [rowsDL b1, getDN_of hc2] at hlt
    rw [rowsDL a1, getDN_of hc1]
    exact h _ _ _ _ _ _ _ x0 h1 h2 hc1 hc2 hlt
theorem cutP_at {rows : List (List Int)} {cs : List Nat} {p c : Nat} {row : List Int} (h : rows[p]? = some row) (hc : cs[p]? = some c) : (cutP rows cs)[p]? = some ((places row).getD c 0) := by
  unfold cutP
  rw [List.getElem?_map, List.getElem?_range (List.getElem?_eq_some_iff.mp h).1]
  show some ((places (rows.getD p [])).getD (cs.getD p 0) 0) = _
  rw [rowsDL h, getDN_of hc]
end Sv
set_option maxHeartbeats 800000
set_option autoImplicit false
set_option maxHeartbeats 800000
set_option autoImplicit false
set_option maxHeartbeats 800000
set_option autoImplicit false
set_option maxHeartbeats 800000
set_option autoImplicit false
set_option maxHeartbeats 800000
set_option autoImplicit false
set_option maxHeartbeats 1000000
set_option autoImplicit false
set_option maxHeartbeats 1000000
set_option autoImplicit false
namespace Sv
open PySem PySem.Spec PyProof.Rows L2
theorem at_set {r : List (List Int)} {p : Nat} {row : List Int} (h : r[p]? = some row) (x : List Int) : (r.set p x)[p]? = some x := by
  rw [List.getElem?_set, if_pos rfl, if_pos (List.getElem?_eq_some_iff.mp h).1]
/-- the process that goes on: the lowest whose next event need not wait; S: what happened -/
def goesFrom (S : List Int) : Nat → List (List Int) → List Nat → Option (Nat × Int)
  | p, r :: rs, n :: ns => match r[n]? with
    | some e => if 0 ≤ e ∨ -e ∈ S then some (p, e) else goesFrom S (p + 1) rs ns
    | none => goesFrom S (p + 1) rs ns
  | _, _, _ => none
/-- the events that the places have passed -/
def seen : List (List Int) → List Nat → List Int
  | r :: rs, n :: ns => r.take n ++ seen rs ns
  | _, _ => []
def goes (rows : List (List Int)) (pl : List Nat) : Option (Nat × Int) := goesFrom (seen rows pl) 0 rows pl
def total (rows : List (List Int)) : Nat := (rows.map List.length).sum
theorem seen_step : ∀ {rows : List (List Int)} {pl : List Nat} {p n : Nat} {r : List Int} {e : Int}, rows[p]? = some r → pl[p]? = some n → r[n]? = some e → ∀ x, x ∈ seen rows (pl.set p (n + 1)) ↔ x = e ∨ x ∈ seen rows pl
  | [], _, p, _, _, _, h, _, _ => by simp at h
  | _ :: _, [], p, _, _, _, _, h, _ => by simp at h
  | a :: rs, m :: ns, 0, n, r, e, h1, h2, h3 => fun x => by
    obtain rfl : a = r := Option.some.inj h1
    obtain rfl : m = n := Option.some.inj h2
    simp only [List.set_cons_zero, seen, List.take_add_one, h3, Option.toList, List.mem_append, List.mem_singleton]
    constructor
    · rintro ((h | h) | h)
      · exact .inr (.inl h)
      · exact .inl h
      · exact .inr (.inr h)
    · rintro (h | h | h)
      · exact .inl (.inr h)
      · exact .inl (.inl h)
      · exact .inr h
  | a :: rs, m :: ns, p + 1, n, r, e, h1, h2, h3 => fun x => by
    have ih := seen_step (rows := rs) (pl := ns) (p := p) (n := n) (r := r) (e := e) h1 h2 h3 x
    simp only [List.set_cons_succ, seen, List.mem_append, ih]
    constructor
    · rintro (h | h | h)
      · exact .inr (.inl h)
      · exact .inl h
      · exact .inr (.inr h)
    · rintro (h | h | h)
      · exact .inr (.inl h)
      · exact .inl h
      · exact .inr (.inr h)
/-- the events of one process in such an order -/
def own (p : Nat) (l : List (Int × Int)) : List Int := (l.filter fun q => decide (q.1 = (p : Int))).map (·.2)
theorem set_at {r : List (List Int)} {p i : Nat} {x row : List Int} (h : (r.set p x)[i]? = some row) : (p = i ∧ row = x) ∨ (p ≠ i ∧ r[i]? = some row) := by
  by_cases e : p = i
  · subst e
    rw [List.getElem?_set, if_pos rfl] at h
    split at h
    · exact .inl ⟨rfl, (Option.some.inj h).symm⟩
    · cases h
  · rw [List.getElem?_set_ne e] at h
    exact .inr ⟨e, h⟩
end Sv
set_option maxHeartbeats 1000000
set_option autoImplicit false
set_option maxHeartbeats 1000000
set_option autoImplicit false
set_option maxHeartbeats 1000000
set_option autoImplicit false
set_option maxHeartbeats 1000000
set_option autoImplicit false
namespace Sv
open PySem PySem.Spec PyProof.Rows L2
theorem rep_nat (n : Nat) : (List.replicate ((n : Nat) : Int).toNat [D.int 0]).flatten = natD (List.replicate n 0) := by
  rw [Int.toNat_natCast]
  unfold natD
  rw [List.map_replicate]
  induction n with
  | zero => rfl
  | succ n ih => rw [List.replicate_succ, List.replicate_succ, List.flatten_cons, ih]; rfl
end Sv
set_option maxHeartbeats 1000000
set_option autoImplicit false
namespace Sv
open PySem PySem.Spec PyProof.Rows L2
def nz (row : List Int) : List Int := row.filter fun e => decide (e ≠ 0)
/-- times of the events: a row goes forward, a receipt is behind its sending -/
structure Rank (rows : List (List Int)) (t : Int → Nat) : Prop where
  row : ∀ row ∈ rows, (nz row).Pairwise fun a b => t a < t b
  rcv : ∀ row ∈ rows, ∀ e ∈ row, e < 0 → t (-e) < t e
structure Hist (rows : List (List Int)) : Prop where
  l1 : 1 ≤ rows.length
  l6 : rows.length ≤ 6
  tot : total rows ≤ 60
  rng : ∀ row ∈ rows, ∀ e ∈ row, -24 ≤ e ∧ e ≤ 24
  once : ∀ e, e ≠ 0 → rows.flatten.count e ≤ 1
  sent : ∀ (p : Nat) (row : List Int) (e : Int), rows[p]? = some row → e ∈ row → e < 0 → ∃ (q : Nat) (row2 : List Int), q ≠ p ∧ rows[q]? = some row2 ∧ -e ∈ row2
  rank : ∃ t, Rank rows t
end Sv
set_option maxHeartbeats 1000000
set_option autoImplicit false
namespace Sv
open PySem PySem.Spec PyProof.Rows L2
theorem Grown.open_at {c : Nat} {nm : List Int} {r : List (List Int)} {o : List (Int × Int)} {u k : Nat} (h : Grown c nm r o u k) : ∀ x ∈ o, ∃ (q : Nat) (row : List Int), x.2 = (q : Int) ∧ r[q]? = some row ∧ x.1 ∈ row := by
  have set' : ∀ {r : List (List Int)} {p : Nat} {row : List Int} {v : Int} {x : Int × Int}, r[p]? = some row → (∃ (q : Nat) (row : List Int), x.2 = (q : Int) ∧ r[q]? = some row ∧ x.1 ∈ row) → ∃ (q : Nat) (row' : List Int), x.2 = (q : Int) ∧ (r.set p (row ++ [v]))[q]? = some row' ∧ x.1 ∈ row' := by
    rintro r p row v x h ⟨q, row2, h1, h2, h3⟩
    by_cases z : p = q
    · subst z
      rw [h] at h2
      cases h2
      exact ⟨p, row ++ [v], h1, at_set h _, List.mem_append_left _ h3⟩
    · exact ⟨q, row2, h1, by rw [List.getElem?_set_ne z]; exact h2, h3⟩
  induction h with
  | start => exact fun x z => (nomatch z)
  | skip _ ih => exact ih
  | save _ h ih => exact fun x hx => set' h (ih x hx)
  | @send r o u k p row m _ h hu ih =>
    intro x hx
    rcases List.mem_append.mp hx with z | z
    · exact set' h (ih x z)
    · rw [List.mem_singleton.mp z]
      exact ⟨p, _, rfl, at_set h _, List.mem_append_right _ (List.mem_singleton_self _)⟩
  | recv _ h hj _ ih => exact fun x hx => set' h (ih x (List.mem_of_mem_eraseIdx hx))
theorem Grown.sentA {c : Nat} {nm : List Int} {r : List (List Int)} {o : List (Int × Int)} {u k : Nat} (h : Grown c nm r o u k) (hn : nm.Perm names24) : ∀ (p : Nat) (row : List Int) (e : Int), r[p]? = some row → e ∈ row → e < 0 → ∃ (q : Nat) (row2 : List Int), q ≠ p ∧ r[q]? = some row2 ∧ -e ∈ row2 := by
  have set' : ∀ {r : List (List Int)} {p : Nat} {row : List Int} {v : Int}, r[p]? = some row → (∀ (p : Nat) (row : List Int) (e : Int), r[p]? = some row → e ∈ row → e < 0 → ∃ (q : Nat) (row2 : List Int), q ≠ p ∧ r[q]? = some row2 ∧ -e ∈ row2) →
      (v < 0 → ∃ (q : Nat) (row2 : List Int), q ≠ p ∧ r[q]? = some row2 ∧ -v ∈ row2) → ∀ (p' : Nat) (row' : List Int) (e : Int), (r.set p (row ++ [v]))[p']? = some row' → e ∈ row' → e < 0 → ∃ (q : Nat) (row2 : List Int), q ≠ p' ∧ (r.set p (row ++ [v]))[q]? = some row2 ∧ -e ∈ row2 := by
    intro r p row v h ih hv p' row' e h1 h2 h3
    have up : (∃ (q : Nat) (row2 : List Int), q ≠ p' ∧ r[q]? = some row2 ∧ -e ∈ row2) → ∃ (q : Nat) (row2 : List Int), q ≠ p' ∧ (r.set p (row ++ [v]))[q]? = some row2 ∧ -e ∈ row2 := by
      rintro ⟨q, row2, a, b, c⟩
      by_cases z : p = q
      · subst z
        rw [h] at b
        cases b
        exact ⟨p, _, a, at_set h _, List.mem_append_left _ c⟩
      · exact ⟨q, row2, a, by rw [List.getElem?_set_ne z]; exact b, c⟩
    rcases set_at h1 with ⟨rfl, rfl⟩ | ⟨_, h4⟩
    · rcases List.mem_append.mp h2 with z | z
      · exact up (ih p row e h z h3)
      · rw [List.mem_singleton] at z
        subst z
        exact up (hv h3)
    · exact up (ih p' row' e h4 h2 h3)
  induction h with
  | start => intro p row e h1 h2; rw [(List.mem_replicate.mp (List.mem_of_getElem? h1)).2] at h2; cases h2
  | skip _ ih => exact ih
  | save _ h ih => exact set' h ih fun z => absurd z (by decide)
  | send _ h hu ih => exact set' h ih fun z => absurd z (by have := names_pos hn _ (List.mem_of_getElem? hu); omega)
  | @recv r o u k row j m q p g h hj hq ih =>
    refine set' h ih fun _ => ?_
    obtain ⟨q', row2, h1, h2, h3⟩ := g.open_at _ (List.mem_of_getElem? hj)
    have h1 : q = (q' : Int) := h1
    refine ⟨q', row2, fun z => hq (by rw [h1, z]), h2, ?_⟩
    have : -(0 - m) = m := by omega
    rw [this]
    exact h3
theorem nz_app (a b : List Int) : nz (a ++ b) = nz a ++ nz b := List.filter_append ..
theorem flat_mem {r : List (List Int)} {p : Nat} {row : List Int} {e : Int} (h : r[p]? = some row) (he : e ∈ row) : e ∈ r.flatten := List.mem_flatten.mpr ⟨row, List.mem_of_getElem? h, he⟩
theorem flat_setC {r : List (List Int)} {p : Nat} {row : List Int} (v e : Int) (h : r[p]? = some row) : (r.set p (row ++ [v])).flatten.count e = r.flatten.count e + (if v = e then 1 else 0) := by
  induction r generalizing p with
  | nil => simp at h
  | cons a r ih =>
    cases p with
    | zero =>
      obtain rfl : a = row := Option.some.inj h
      rw [List.set_cons_zero, List.flatten_cons, List.flatten_cons, List.count_append, List.count_append, List.count_append, List.count_singleton]
      simp only [beq_iff_eq]
      omega
    | succ p =>
      rw [List.set_cons_succ, List.flatten_cons, List.flatten_cons, List.count_append, List.count_append, ih (by simpa using h)]
      omega
theorem Grown.rankG {c : Nat} {nm : List Int} {r : List (List Int)} {o : List (Int × Int)} {u k : Nat} (h : Grown c nm r o u k) (hn : nm.Perm names24) : ∃ t : Int → Nat, Rank r t ∧ ∀ e ∈ r.flatten, e ≠ 0 → t e < k + 1 := by
  have new : ∀ {r : List (List Int)} {p : Nat} {row : List Int} {v : Int} {k : Nat}, r[p]? = some row → v ∉ r.flatten → v ≠ 0 → (v < 0 → -v ∈ r.flatten) → (0 < v → -v ∉ r.flatten) → (∃ t : Int → Nat, Rank r t ∧ ∀ e ∈ r.flatten, e ≠ 0 → t e < k + 1) → ∃ t : Int → Nat, Rank (r.set p (row ++ [v])) t ∧ ∀ e ∈ (r.set p (row ++ [v])).flatten, e ≠ 0 → t e < k + 1 + 1 := by
    rintro r p row v k h hv h0 hneg hpos ⟨t, rk, hb⟩
    refine ⟨fun x => if x = v then k + 1 else t x, ⟨fun row' hr => ?_, fun row' hr e he h3 => ?_⟩, fun e he he0 => ?_⟩
    · obtain ⟨i, hi⟩ := List.getElem?_of_mem hr
      have old : ∀ row ∈ r, (nz row).Pairwise fun a b => (if a = v then k + 1 else t a) < (if b = v then k + 1 else t b) := fun row hrow => by
        refine (rk.row row hrow).imp_of_mem fun {a b} ha hb' hab => ?_
        have na : a ≠ v := fun z => hv (List.mem_flatten.mpr ⟨row, hrow, z ▸ (List.mem_filter.mp ha).1⟩)
        have nb : b ≠ v := fun z => hv (List.mem_flatten.mpr ⟨row, hrow, z ▸ (List.mem_filter.mp hb').1⟩)
        rw [if_neg na, if_neg nb]
        exact hab
      rcases set_at hi with ⟨rfl, rfl⟩ | ⟨_, h4⟩
      · rw [nz_app]
        refine List.pairwise_append.mpr ⟨old row (List.mem_of_getElem? h), ?_, fun a ha b hb' => ?_⟩
        · have : nz [v] = [v] := by unfold nz; simp [h0]
          rw [this]
          exact List.pairwise_singleton _ _
        · have hb2 : b = v := by have := (List.mem_filter.mp hb').1; simpa using this
          have ha2 := flat_mem h (List.mem_filter.mp ha).1
          have na : a ≠ v := fun z => hv (z ▸ ha2)
          rw [if_neg na, if_pos hb2]
          exact hb a ha2 (by have := (List.mem_filter.mp ha).2; simpa using this)
      · exact old row' (List.mem_of_getElem? h4)
    · obtain ⟨i, hi⟩ := List.getElem?_of_mem hr
      have inOld : e ∈ r.flatten → e ≠ v → (if -e = v then k + 1 else t (-e)) < (if e = v then k + 1 else t e) := fun hm hne => by
        obtain ⟨row2, h5, h6⟩ := List.mem_flatten.mp hm
        have h7 := rk.rcv row2 h5 e h6 h3
        have : -e ≠ v := fun z => hpos (by omega) (by rw [← z, Int.neg_neg]; exact hm)
        rw [if_neg this, if_neg hne]
        exact h7
      rcases set_at hi with ⟨rfl, rfl⟩ | ⟨_, h4⟩
      · rcases List.mem_append.mp he with z | z
        · exact inOld (flat_mem h z) fun y => hv (y ▸ flat_mem h z)
        · rw [List.mem_singleton] at z
          subst z
          have h8 := hneg h3
          show (if -e = e then k + 1 else t (-e)) < (if e = e then k + 1 else t e)
          rw [if_pos rfl, if_neg (by omega)]
          exact hb _ h8 (by omega)
      · exact inOld (flat_mem h4 he) fun y => hv (y ▸ flat_mem h4 he)
    · show (if e = v then k + 1 else t e) < _
      by_cases z : e = v
      · rw [if_pos z]; omega
      · rw [if_neg z]
        have h1 := List.count_pos_iff.mpr he
        rw [flat_setC v e h, if_neg (Ne.symm z)] at h1
        have := hb e (List.count_pos_iff.mp h1) he0
        omega
  induction h with
  | start => exact ⟨fun _ => 0, ⟨fun row hr => by rw [(List.mem_replicate.mp hr).2]; exact List.Pairwise.nil, fun row hr e he => by rw [(List.mem_replicate.mp hr).2] at he; cases he⟩, fun e he _ => by obtain ⟨row, h1, h2⟩ := List.mem_flatten.mp he; rw [(List.mem_replicate.mp h1).2] at h2; cases h2⟩
  | skip _ ih =>
    obtain ⟨t, rk, hb⟩ := ih
    exact ⟨t, rk, fun e he h0 => Nat.lt_succ_of_lt (hb e he h0)⟩
  | @save r o u k p row g h ih =>
    obtain ⟨t, rk, hb⟩ := ih
    refine ⟨t, ⟨fun row' hr => ?_, fun row' hr e he h3 => ?_⟩, fun e he he0 => ?_⟩
    · obtain ⟨i, hi⟩ := List.getElem?_of_mem hr
      rcases set_at hi with ⟨rfl, rfl⟩ | ⟨_, h4⟩
      · have : nz (row ++ [0]) = nz row := by rw [nz_app]; unfold nz; simp
        rw [this]
        exact rk.row row (List.mem_of_getElem? h)
      · exact rk.row row' (List.mem_of_getElem? h4)
    · obtain ⟨i, hi⟩ := List.getElem?_of_mem hr
      rcases set_at hi with ⟨rfl, rfl⟩ | ⟨_, h4⟩
      · rcases List.mem_append.mp he with z | z
        · exact rk.rcv row (List.mem_of_getElem? h) e z h3
        · rw [List.mem_singleton] at z
          omega
      · exact rk.rcv row' (List.mem_of_getElem? h4) e he h3
    · have h1 := List.count_pos_iff.mpr he
      rw [flat_setC 0 e h, if_neg (Ne.symm he0)] at h1
      exact Nat.lt_succ_of_lt (hb e (List.count_pos_iff.mp h1) he0)
  | @send r o u k p row m g h hu ih =>
    have hm := names_pos hn _ (List.mem_of_getElem? hu)
    have hc := (Grown.send g h hu).count hn (e := m) (by omega)
    rw [flat_setC m m h, if_pos rfl] at hc
    have hnm : m ∉ r.flatten := fun z => by have := List.count_pos_iff.mpr z; omega
    refine new h hnm (by omega) (fun z => by omega) (fun _ z => ?_) ih
    obtain ⟨row2, h1, h2⟩ := List.mem_flatten.mp z
    obtain ⟨i, hi⟩ := List.getElem?_of_mem h1
    obtain ⟨q, row3, _, h4, h5⟩ := g.sentA hn i row2 (-m) hi h2 (by omega)
    rw [Int.neg_neg] at h5
    exact hnm (flat_mem h4 h5)
  | @recv r o u k row j m q p g h hj hq ih =>
    have hm : 1 ≤ m := by
      have := (g.nodup ((hn.nodup_iff).mpr names_nodup)).2 _ (List.mem_of_getElem? hj)
      exact (names_pos hn _ (List.mem_of_mem_take this)).1
    have hc := (Grown.recv g h hj hq).count hn (e := 0 - m) (by omega)
    rw [flat_setC (0 - m) (0 - m) h, if_pos rfl] at hc
    obtain ⟨q', row2, h1, h2, h3⟩ := g.open_at _ (List.mem_of_getElem? hj)
    refine new h (fun z => by have := List.count_pos_iff.mpr z; omega) (by omega) (fun _ => ?_) (fun z => by omega) ih
    have : -(0 - m) = m := by omega
    rw [this]
    exact flat_mem h2 h3
theorem Good.hist {many most : Nat} {rows : List (List Int)} (h : Good many most rows) (h6 : many ≤ 6) (h60 : most ≤ 60) : Hist rows := by
  obtain ⟨c, nm, o, u, k, hc1, hcm, hp, g, hk⟩ := id h
  obtain ⟨t, rk, _⟩ := g.rankG hp
  have := h.len
  exact ⟨this.1, by omega, Nat.le_trans h.events h60, (g.small hp).1, fun e he => g.count hp he, g.sentA hp, t, rk⟩
end Sv
set_option maxHeartbeats 1000000
set_option autoImplicit false
namespace Sv
open PySem PySem.Spec PyProof.Rows L2
theorem hapC {rows : List (List Int)} {p i : Nat} {row : List Int} {e : Int} (hc : rows.flatten.count e ≤ 1) (h1 : rows[p]? = some row) (h2 : row[i]? = some e) : hap rows e = some (p, (row.take i).count 0) := by
  have hm := List.mem_of_getElem? h2
  have h3 := hapFrom_some (e := e) (p := 0) (rs := rows) (i := p) (row := row) (fun j r hj hr hr2 => ?_) h1 hm
  · unfold hap
    rw [h3, Nat.zero_add, idx_once h2 (Nat.le_trans (count_at h1) hc)]
  · have := count_two hj hr h1 hr2 hm
    omega
theorem Hist.hapS {rows : List (List Int)} (h : Hist rows) (e : Int) : HapS (hap rows e) := by
  refine hapFrom_small (fun r hr => ?_) (by have := h.l6; omega)
  have h1 := h.tot
  have : r.length ≤ total rows := by
    obtain ⟨i, hi⟩ := List.getElem?_of_mem hr
    exact len_le_sum hi
  omega
theorem sl_to {row : List Int} {x : Nat} {S : Sto} {R : DK} (h : x ≤ row.length) (q : R (rowD (row.take x)) S) : rSlq (rowD row) none (some (x : Int)) S R := by
  show R (.tup (cutD (intsD row) none (some (x : Int)))) S
  rw [cutI_to h]
  exact q
end Sv
set_option maxHeartbeats 1000000
set_option autoImplicit false
namespace Sv
open PySem PySem.Spec PyProof.Rows L2
theorem once_pos {rows : List (List Int)} (h : ∀ e, e ≠ 0 → rows.flatten.count e ≤ 1) {i j k l : Nat} {r r' : List Int} {e : Int} (he : e ≠ 0) (h1 : rows[i]? = some r) (h2 : rows[j]? = some r') (h3 : r[k]? = some e) (h4 : r'[l]? = some e) : i = j ∧ k = l := by
  have hc := h e he
  have m1 := List.mem_of_getElem? h3
  have m2 := List.mem_of_getElem? h4
  have hij : i = j := by
    rcases Nat.lt_trichotomy i j with z | z | z
    · have := count_two z h1 h2 m1 m2; omega
    · exact z
    · have := count_two z h2 h1 m2 m1; omega
  subst hij
  rw [h1] at h2
  cases h2
  have c1 := Nat.le_trans (count_at h1 (e := e)) hc
  exact ⟨rfl, (idx_once h3 c1).symm.trans (idx_once h4 c1)⟩
end Sv
set_option maxHeartbeats 400000
set_option autoImplicit false
namespace Sv
open PySem PySem.Spec PyProof.Rows L2
/-- all of a history but its order -/
structure Pre (rows : List (List Int)) : Prop where
  l1 : 1 ≤ rows.length
  l6 : rows.length ≤ 6
  tot : total rows ≤ 60
  rng : ∀ row ∈ rows, ∀ e ∈ row, -24 ≤ e ∧ e ≤ 24
  once : ∀ e, e ≠ 0 → rows.flatten.count e ≤ 1
  sent : ∀ (p : Nat) (row : List Int) (e : Int), rows[p]? = some row → e ∈ row → e < 0 → ∃ (q : Nat) (row2 : List Int), q ≠ p ∧ rows[q]? = some row2 ∧ -e ∈ row2
theorem Pre.hist {rows : List (List Int)} (h : Pre rows) (r : ∃ t, Rank rows t) : Hist rows := ⟨h.l1, h.l6, h.tot, h.rng, h.once, h.sent, r⟩
theorem total_flat (rows : List (List Int)) : total rows = rows.flatten.length := by
  unfold total
  rw [List.length_flatten]
variable {rows : List (List Int)} {ord : List Nat} {na : List Int}
end Sv
set_option maxHeartbeats 800000
set_option autoImplicit false
set_option maxHeartbeats 800000
set_option autoImplicit false
namespace Sv
open PySem PySem.Spec PyProof.Rows L2
/-- rows that lack events of others -/
structure SubR (rows bs : List (List Int)) : Prop where
  len : bs.length = rows.length
  sub : ∀ (i : Nat) (a b : List Int), rows[i]? = some a → bs[i]? = some b → b.Sublist a
theorem sub_flat : ∀ {rows bs : List (List Int)}, SubR rows bs → bs.flatten.Sublist rows.flatten
  | [], [], _ => .slnil
  | [], _ :: _, h => nomatch h.len
  | _ :: _, [], h => nomatch h.len
  | r :: rs, b :: bs, h => by
    rw [List.flatten_cons, List.flatten_cons]
    exact (h.sub 0 r b rfl rfl).append (sub_flat ⟨by simpa using h.len, fun i a c h1 h2 => h.sub (i + 1) a c (by simpa using h1) (by simpa using h2)⟩)
theorem SubR.at {rows bs : List (List Int)} (s : SubR rows bs) {i : Nat} {b : List Int} (h : bs[i]? = some b) : ∃ a, rows[i]? = some a ∧ b.Sublist a := by
  have hi : i < rows.length := s.len ▸ (List.getElem?_eq_some_iff.mp h).1
  exact ⟨_, List.getElem?_eq_getElem hi, s.sub i _ _ (List.getElem?_eq_getElem hi) h⟩
/-- all of a history but sendings -/
theorem SubR.parts {rows bs : List (List Int)} (h : Hist rows) (s : SubR rows bs) : 1 ≤ bs.length ∧ bs.length ≤ 6 ∧ total bs ≤ 60 ∧ (∀ row ∈ bs, ∀ e ∈ row, -24 ≤ e ∧ e ≤ 24) ∧ (∀ e, e ≠ 0 → bs.flatten.count e ≤ 1) ∧ ∃ t, Rank bs t := by
  have hf := sub_flat s
  refine ⟨by rw [s.len]; exact h.l1, by rw [s.len]; exact h.l6, ?_, fun row hr e he => ?_, fun e he => Nat.le_trans (hf.count_le e) (h.once e he), ?_⟩
  · have := hf.length_le
    rw [← total_flat, ← total_flat] at this
    exact Nat.le_trans this h.tot
  · obtain ⟨i, hi⟩ := List.getElem?_of_mem hr
    obtain ⟨a, ha, sa⟩ := s.at hi
    exact h.rng a (List.mem_of_getElem? ha) e (sa.subset he)
  · obtain ⟨t, ht⟩ := h.rank
    refine ⟨t, fun row hr => ?_, fun row hr e he h0 => ?_⟩
    · obtain ⟨i, hi⟩ := List.getElem?_of_mem hr
      obtain ⟨a, ha, sa⟩ := s.at hi
      exact (ht.row a (List.mem_of_getElem? ha)).sublist (sa.filter _)
    · obtain ⟨i, hi⟩ := List.getElem?_of_mem hr
      obtain ⟨a, ha, sa⟩ := s.at hi
      exact ht.rcv a (List.mem_of_getElem? ha) e (sa.subset he) h0
theorem SubR.sent {rows bs : List (List Int)} (h : Hist rows) (s : SubR rows bs) : (∀ (p : Nat) (row : List Int) (e : Int), bs[p]? = some row → e ∈ row → e < 0 → ∃ (q : Nat) (row2 : List Int), q ≠ p ∧ bs[q]? = some row2 ∧ -e ∈ row2) ↔ ∀ e ∈ bs.flatten, e < 0 → -e ∈ bs.flatten := by
  constructor
  · intro hs e he h0
    obtain ⟨row, hr, he⟩ := List.mem_flatten.mp he
    obtain ⟨p, hp⟩ := List.getElem?_of_mem hr
    obtain ⟨q, row2, _, h2, h3⟩ := hs p row e hp he h0
    exact flat_mem h2 h3
  · intro hs p row e hp he h0
    obtain ⟨row2, hr, h3⟩ := List.mem_flatten.mp (hs e (flat_mem hp he) h0)
    obtain ⟨q, hq⟩ := List.getElem?_of_mem hr
    refine ⟨q, row2, fun z => ?_, hq, h3⟩
    subst z
    rw [hp] at hq
    cases hq
    obtain ⟨a, ha, sa⟩ := s.at hp
    obtain ⟨q', r', g1, g2, g3⟩ := h.sent q a e ha (sa.subset he) h0
    obtain ⟨i, hi⟩ := List.getElem?_of_mem (sa.subset h3)
    obtain ⟨j, hj⟩ := List.getElem?_of_mem g3
    exact g1 (once_pos h.once (by omega) g2 ha hj hi).1
theorem SubR.hist {rows bs : List (List Int)} (h : Hist rows) (s : SubR rows bs) : Hist bs ↔ ∀ e ∈ bs.flatten, e < 0 → -e ∈ bs.flatten := by
  obtain ⟨p1, p2, p3, p4, p5, p6⟩ := s.parts h
  exact ⟨fun hh => (s.sent h).mp hh.sent, fun hs => ⟨p1, p2, p3, p4, p5, (s.sent h).mpr hs, p6⟩⟩
end Sv
set_option maxHeartbeats 800000
set_option autoImplicit false
namespace Sv
open PySem PySem.Spec PyProof.Rows L2
/-- the events that the places have passed, row by row -/
def cutT : List (List Int) → List Nat → List (List Int)
  | r :: rs, n :: ns => r.take n :: cutT rs ns
  | _, _ => []
theorem cutT_flat : ∀ (rows : List (List Int)) (pl : List Nat), (cutT rows pl).flatten = seen rows pl
  | r :: rs, n :: ns => by
    show (r.take n :: cutT rs ns).flatten = r.take n ++ seen rs ns
    rw [List.flatten_cons, cutT_flat rs ns]
  | [], _ => rfl
  | _ :: _, [] => rfl
theorem cutT_len : ∀ {rows : List (List Int)} {pl : List Nat}, pl.length = rows.length → (cutT rows pl).length = rows.length
  | r :: rs, n :: ns, h => by
    show (r.take n :: cutT rs ns).length = _
    rw [List.length_cons, cutT_len (by simpa using h), List.length_cons]
  | [], _, _ => rfl
  | _ :: _, [], h => nomatch h
theorem cutT_at : ∀ {rows : List (List Int)} {pl : List Nat} {p n : Nat} {row : List Int}, rows[p]? = some row → pl[p]? = some n → (cutT rows pl)[p]? = some (row.take n)
  | r :: rs, n :: ns, 0, _, _, h1, h2 => by cases h1; cases h2; rfl
  | r :: rs, n :: ns, p + 1, _, _, h1, h2 => cutT_at (rows := rs) (pl := ns) (p := p) (by simpa using h1) (by simpa using h2)
  | [], _, _, _, _, h, _ => by simp at h
  | _ :: _, [], _, _, _, _, h => by simp at h
theorem cutT_sub {rows : List (List Int)} {pl : List Nat} (hl : pl.length = rows.length) : SubR rows (cutT rows pl) := by
  refine ⟨cutT_len hl, fun i a b h1 h2 => ?_⟩
  obtain ⟨n, hn⟩ : ∃ n, pl[i]? = some n := ⟨_, List.getElem?_eq_getElem (by rw [hl]; exact (List.getElem?_eq_some_iff.mp h1).1)⟩
  rw [cutT_at h1 hn] at h2
  cases h2
  exact List.take_sublist ..
/-- every receipt that the places have passed has its sending there -/
def Clo (rows : List (List Int)) (pl : List Nat) : Prop := ∀ e ∈ seen rows pl, e < 0 → -e ∈ seen rows pl
theorem Clo.hist {rows : List (List Int)} {pl : List Nat} (h : Hist rows) (hl : pl.length = rows.length) (hc : Clo rows pl) : Hist (cutT rows pl) := by
  rw [(cutT_sub hl).hist h, cutT_flat]
  exact hc
/-- ways from places to places, each event possible where it happens -/
inductive Runs (rows : List (List Int)) : List Nat → List (Int × Int) → List Nat → Prop
  | nil (pl : List Nat) : Runs rows pl [] pl
  | cons {pl pl' : List Nat} {p n : Nat} {r : List Int} {e : Int} {L : List (Int × Int)} (h1 : rows[p]? = some r) (h2 : pl[p]? = some n) (h3 : r[n]? = some e) (h4 : 0 ≤ e ∨ -e ∈ seen rows pl) (h5 : Runs rows (pl.set p (n + 1)) L pl') : Runs rows pl (((p : Int), e) :: L) pl'
theorem Runs.step {rows : List (List Int)} {pl pl' : List Nat} {x : Int × Int} {L : List (Int × Int)} (h : Runs rows pl (x :: L) pl') : ∃ (p n : Nat) (r : List Int) (e : Int), x = ((p : Int), e) ∧ rows[p]? = some r ∧ pl[p]? = some n ∧ r[n]? = some e ∧ (0 ≤ e ∨ -e ∈ seen rows pl) ∧ Runs rows (pl.set p (n + 1)) L pl' := by
  cases h with
  | cons a b c d f => exact ⟨_, _, _, _, rfl, a, b, c, d, f⟩
theorem Clo.step {rows : List (List Int)} {pl : List Nat} (hc : Clo rows pl) {p n : Nat} {r : List Int} {e : Int} (h1 : rows[p]? = some r) (h2 : pl[p]? = some n) (h3 : r[n]? = some e) (h4 : 0 ≤ e ∨ -e ∈ seen rows pl) : Clo rows (pl.set p (n + 1)) := fun x hx h0 => by
  have hs := seen_step h1 h2 h3
  rw [hs] at hx ⊢
  rcases hx with rfl | hx
  · exact .inr (h4.resolve_left (by omega))
  · exact .inr (hc x hx h0)
end Sv
set_option maxHeartbeats 400000
set_option autoImplicit false
namespace Sv
open PySem PySem.Spec PyProof.Rows L2
/-- the messages that are sent, in the order of the events -/
def sendsL (L : List (Int × Int)) : List Int := (L.map (·.2)).filter fun e => decide (0 < e)
theorem not_seen {rows : List (List Int)} (ho : ∀ e, e ≠ 0 → rows.flatten.count e ≤ 1) {pl : List Nat} {p n : Nat} {r : List Int} {e : Int} (hl : pl.length = rows.length) (h1 : rows[p]? = some r) (h2 : pl[p]? = some n) (h3 : r[n]? = some e) (h0 : e ≠ 0) : e ∉ seen rows pl := fun h => by
  rw [← cutT_flat] at h
  obtain ⟨c, hc, he⟩ := List.mem_flatten.mp h
  obtain ⟨q, hq⟩ := List.getElem?_of_mem hc
  obtain ⟨i, hi⟩ := List.getElem?_of_mem he
  have hql : q < rows.length := by rw [← cutT_len hl]; exact (List.getElem?_eq_some_iff.mp hq).1
  obtain ⟨row, hr⟩ : ∃ row, rows[q]? = some row := ⟨_, List.getElem?_eq_getElem hql⟩
  obtain ⟨m, hm⟩ : ∃ m, pl[q]? = some m := ⟨_, List.getElem?_eq_getElem (by omega)⟩
  rw [cutT_at hr hm] at hq
  cases hq
  rw [List.getElem?_take] at hi
  split at hi
  · obtain ⟨a, b⟩ := once_pos ho h0 h1 hr h3 hi
    subst a b
    rw [h2] at hm
    cases hm
    omega
  · cases hi
theorem Runs.nodup {rows : List (List Int)} (ho : ∀ e, e ≠ 0 → rows.flatten.count e ≤ 1) {pl pl' : List Nat} {L : List (Int × Int)} (h : Runs rows pl L pl') (hl : pl.length = rows.length) : (sendsL L).Nodup ∧ ∀ x ∈ sendsL L, x ∉ seen rows pl := by
  induction h with
  | nil pl => exact ⟨.nil, fun x hx => nomatch hx⟩
  | cons a b c d _ ih =>
    rename_i pl pl' p n r e L _
    obtain ⟨i1, i2⟩ := ih (by rw [List.length_set]; exact hl)
    have hs := seen_step a b c
    have e1 : sendsL (((p : Int), e) :: L) = (if 0 < e then [e] else []) ++ sendsL L := by
      unfold sendsL
      rw [List.map_cons, List.filter_cons]
      by_cases z : 0 < e
      · rw [if_pos (decide_eq_true z), if_pos z]; rfl
      · rw [if_neg (by simpa using z), if_neg z]; rfl
    rw [e1]
    by_cases z : 0 < e
    · rw [if_pos z]
      refine ⟨List.nodup_cons.mpr ⟨fun w => i2 e w ((hs e).mpr (.inl rfl)), i1⟩, fun x hx => ?_⟩
      rcases List.mem_cons.mp hx with rfl | hx
      · exact not_seen ho hl a b c (by omega)
      · exact fun w => i2 x hx ((hs x).mpr (.inr w))
    · rw [if_neg z]
      exact ⟨i1, fun x hx w => i2 x hx ((hs x).mpr (.inr w))⟩
end Sv
set_option maxHeartbeats 1000000
set_option autoImplicit false
namespace Sv
open PySem PySem.Spec PyProof.Rows L2
structure LetF (S0 S : Sto) (f : Addr) (as : List Addr) (Ls : List LetR) : Prop where
  len : as.length = Ls.length
  fx : S f = some (.lst (as.map D.ref))
  at' : ∀ (k : Nat) (a : Addr) (x : LetR), as[k]? = some a → Ls[k]? = some x → S a = some (.lst (ltD x))
  off : ∀ a ∈ as, a ≠ f ∧ S0 a = none
theorem LetF.keep {S0 S S' : Sto} {f : Addr} {as : List Addr} {Ls : List LetR} (h : LetF S0 S f as Ls) (sg : SG S S') : LetF S0 S' f as Ls := ⟨h.len, sg _ _ (fun z => z) h.fx, fun k a x h1 h2 => sg _ _ (fun z => z) (h.at' k a x h1 h2), h.off⟩
theorem w_lettersF {rows : List (List Int)} {many most : Nat} {S : Sto} {R : DK} (hG : Good many most rows) (h6 : many ≤ 6) (h60 : most ≤ 60)
    (q : ∀ (f : Addr) (as : List Addr) (Ls : List LetR) (S' : Sto), SG S S' → S f = none → LetF S S' f as Ls → Ls.length ≤ 400 → LetTo rows Ls (fun _ _ => True) → R (.ref f) S') : dFn 8 B_law_letters_6581 [.tup (rowsD rows)] S R := by
  have rl := hG.len
  have r60 := hG.row60 h60
  refine ⟨rfl, fun f nf => ?_⟩
  have sg1 : SG S (S.put f (.lst [])) := .new nf
  have L1 : LetF S (S.put f (.lst [])) f [] [] := ⟨rfl, Sto.same, fun k a x h => (nomatch h), fun a h => (nomatch h)⟩
  generalize S.put f (.lst []) = S1 at sg1 L1 ⊢
  refine ⟨_, rfl, _, _, rfl, rfl, fun p env S' => p ≤ rows.length ∧ ∃ (as : List Addr) (Ls : List LetR) (x2 x3 x4 x5 x6 : Option D), env = [some (.tup (rowsD rows)), some (.ref f), x2, x3, x4, x5, x6, none] ∧ SG S S' ∧ LetF S S' f as Ls ∧ Ls.length ≤ 60 * p ∧ LetTo rows Ls (fun p' _ => p' < p),
    ⟨Nat.zero_le _, [], [], _, _, _, _, _, rfl, sg1, L1, Nat.zero_le _, ⟨fun x h => (nomatch h), fun p' i m h => absurd h (Nat.not_lt_zero _)⟩⟩, fun _ _ _ _ _ => True.intro, ?_, ?_⟩
  · rintro p e0 env S2 he ⟨hp0, as, Ls, x2, x3, x4, x5, x6, rfl, sg2, L2', hlen, hto⟩
    have he : (enD (rowsD rows))[p]? = some e0 := he
    unfold enD rowsD at he
    rw [List.getElem?_mapIdx, List.getElem?_map, Option.map_map] at he
    obtain ⟨row, hrow, rfl⟩ := Option.map_eq_some_iff.mp he
    have hp := (List.getElem?_eq_some_iff.mp hrow).1
    have hr6 := r60 row (List.mem_of_getElem? hrow)
    refine ⟨_, rfl, .inl (.inl rfl), _, _, rfl, _, _, rfl, rfl, ?_⟩
    refine ⟨_, rfl, _, _, rfl, rfl, fun i env S' => i ≤ row.length ∧ ∃ (as : List Addr) (Ls : List LetR) (x4 x5 x6 : Option D), env = [some (.tup (rowsD rows)), some (.ref f), some (.int (p : Int)), some (rowD row), x4, x5, x6, none] ∧ SG S S' ∧ LetF S S' f as Ls ∧ Ls.length ≤ 60 * p + i ∧ LetTo rows Ls (fun p' i' => p' < p ∨ (p' = p ∧ i' < i)),
      ⟨Nat.zero_le _, as, Ls, _, _, _, rfl, sg2, L2', hlen, hto.1, fun p' i m h => hto.2 p' i m (h.elim id fun z => absurd z.2 (Nat.not_lt_zero _))⟩, fun _ _ _ _ _ => True.intro, ?_, ?_⟩
    · rintro i e1 env S3 he ⟨hi0, as, Ls, x4, x5, x6, rfl, sg3, L3, hlen, hto⟩
      have he : (enD (intsD row))[i]? = some e1 := he
      unfold enD at he
      rw [List.getElem?_mapIdx] at he
      obtain ⟨y, hy, rfl⟩ := Option.map_eq_some_iff.mp he
      unfold intsD at hy
      rw [List.getElem?_map] at hy
      obtain ⟨ev, hev, rfl⟩ := Option.map_eq_some_iff.mp hy
      have hi := (List.getElem?_eq_some_iff.mp hev).1
      refine ⟨_, rfl, .inl (.inl rfl), _, _, rfl, _, _, rfl, rfl, ?_⟩
      refine ⟨_, rfl, _, rfl, iteB (fun hc => ?_) (fun hc => ?_)⟩
      · have hc : decide (ev < 0) = true := hc
        have hneg := of_decide_eq_true hc
        have rdl : (rowsD rows).length = rows.length := List.length_map ..
        refine ⟨_, rfl, _, _, rfl, rfl, (rows.length : Int), by rw [rdl], by omega, by omega, ?_⟩
        refine lc_mapE (List.range rows.length) (fun n : Nat => .int (0 + (n : Int))) (by show rgD 0 (rows.length : Int).toNat = _; rw [Int.toNat_natCast]; rfl)
          (fun n : Nat => if decide ((0 - ev) ∈ rows.getD n []) = true then some (D.int (n : Int)) else none) (by rw [List.length_range]; omega) (fun _ _ => True.intro)
          (fun n hn S4 sg K Kn hk hkn => turn_n ?_) fun t S4 nt sg4 ht => ?_
        · have hn := List.mem_range.mp hn
          obtain ⟨rn, hrn⟩ := row_of hn
          have hrd : (rowsD rows)[n]? = some (rowD rn) := by
            unfold rowsD
            rw [List.getElem?_map, hrn]
            rfl
          have eg : rows.getD n [] = rn := by rw [List.getD_eq_getElem?_getD, hrn]; rfl
          rw [eg] at hk hkn
          rw [Int.zero_add]
          refine ⟨_, rfl, _, rfl, _, rfl, _, (n : Int), _, rfl, rfl, atI_nat hrd, _, _, .int _, .inr (.tup (pys_ints rn)), rfl, shaped_tup _, shaped_lst _, _, rfl, ?_⟩
          have ea : ((rn.map PyData.int).any fun z => PyData.eqv z (.int (0 - ev))) = decide ((0 - ev) ∈ rn) := any_int rn _
          rw [ea, xor_ff]
          exact iteB (fun c => ⟨_, rfl, hk _ (if_pos c) _ (.refl _)⟩) (fun c => hkn (if_neg (by rw [show decide ((0 - ev) ∈ rn) = false from c]; exact Bool.false_ne_true)) _ (.refl _))
        · rw [fm_ite (fun n : Nat => D.int (n : Int)) (fun n => decide ((0 - ev) ∈ rows.getD n []))] at ht
          obtain ⟨s0, i0, hs⟩ := sent_ofL hG (m := 0 - ev) (by omega) (q := p) (j := i) ⟨row, hrow, by rw [show (0 : Int) - (0 - ev) = ev by omega]; exact hev⟩
          have hs0 : s0 ∈ (List.range rows.length).filter fun n => decide ((0 - ev) ∈ rows.getD n []) := by
            obtain ⟨rs, h1, h2⟩ := hs
            refine List.mem_filter.mpr ⟨List.mem_range.mpr (List.getElem?_eq_some_iff.mp h1).1, decide_eq_true ?_⟩
            rw [List.getD_eq_getElem?_getD, h1]
            exact List.mem_of_getElem? h2
          have hall : ∀ n ∈ (List.range rows.length).filter fun n => decide ((0 - ev) ∈ rows.getD n []), n < rows.length ∧ (0 - ev) ∈ rows.getD n [] := fun n hn => ⟨List.mem_range.mp (List.mem_filter.mp hn).1, of_decide_eq_true (List.mem_filter.mp hn).2⟩
          generalize ((List.range rows.length).filter fun n => decide ((0 - ev) ∈ rows.getD n [])) = ps at ht hs0 hall
          cases ps with
          | nil => exact nomatch hs0
          | cons s ps =>
            obtain ⟨hsl, hsm⟩ := hall s List.mem_cons_self
            obtain ⟨rs, hrs⟩ := row_of hsl
            have hrd : (rowsD rows)[s]? = some (rowD rs) := by
              unfold rowsD
              rw [List.getElem?_map, hrs]
              rfl
            have eg : rows.getD s [] = rs := by rw [List.getD_eq_getElem?_getD, hrs]; rfl
            rw [eg] at hsm
            have L4 := L3.keep sg4
            refine ⟨_, ((0 : Nat) : Int), _, seqOf_lst ht, rfl, atI_nat (i := 0) (d := D.int (s : Int)) rfl, ?_⟩
            refine ⟨_, rfl, ⟨rfl, _, seqOf_lst L4.fx, noTup _⟩, _, rfl, _, rfl, _, rfl, _, (s : Int), _, rfl, rfl, atI_nat hrd, ⟨_, rfl⟩, _, rfl, rs, 0 - ev, rfl, rfl, hsm, _, rfl, _, rfl, _, rfl, rfl, fun a na => ?_⟩
            have sga : SG S4 (S4.put a (.lst (ltD (s, rs.idxOf (0 - ev), p, i, 0 - ev)))) := .new na
            have ha : (S4.put a (.lst (ltD (s, rs.idxOf (0 - ev), p, i, 0 - ev)))) a = some (.lst (ltD (s, rs.idxOf (0 - ev), p, i, 0 - ev))) := Sto.same
            have L5 := L4.keep sga
            have af : a ≠ f := fun z => by rw [z, L4.fx] at na; cases na
            have nal : ∀ b ∈ as, b ≠ a := fun b hb z => by
              obtain ⟨k, hk⟩ := List.getElem?_of_mem hb
              obtain ⟨x, hx⟩ : ∃ x, Ls[k]? = some x := ⟨_, List.getElem?_eq_getElem (by rw [← L4.len]; exact (List.getElem?_eq_some_iff.mp hk).1)⟩
              have := L4.at' k b x hk hx
              rw [z, na] at this
              cases this
            refine ⟨f, _, .ref a, rfl, rfl, L5.fx, by rw [List.length_map, L5.len]; have : 60 * p ≤ 60 * 6 := Nat.mul_le_mul_left _ (by omega); omega, hi, as ++ [a], Ls ++ [(s, rs.idxOf (0 - ev), p, i, 0 - ev)], _, _, _, rfl, SG.keepP nf ((sg3.trans sg4).trans sga) (.refl _), ⟨by rw [List.length_append, List.length_append, L5.len]; rfl, by rw [Sto.same, List.map_append]; rfl, fun k b x h1 h2 => ?_, fun b hb => ?_⟩, by rw [List.length_append]; show _ + 1 ≤ _; omega, fun x hx => ?_, fun p' i' m hP hm hat => ?_⟩
            · rcases Nat.lt_or_ge k as.length with z | z
              · rw [List.getElem?_append_left z] at h1
                rw [List.getElem?_append_left (by rw [← L5.len]; exact z)] at h2
                exact (Sto.ne (L5.off b (List.mem_of_getElem? h1)).1).trans (L5.at' k b x h1 h2)
              · rw [List.getElem?_append_right z] at h1
                rw [List.getElem?_append_right (by rw [← L5.len]; exact z), ← L5.len] at h2
                have k0 : k - as.length = 0 := by
                  have := (List.getElem?_eq_some_iff.mp h1).1
                  have : k - as.length < 1 := this
                  omega
                rw [k0] at h1 h2
                cases h1
                cases h2
                exact (Sto.ne af).trans ha
            · rcases List.mem_append.mp hb with z | z
              · exact L5.off b z
              · rw [List.mem_singleton.mp z]
                exact ⟨af, SK.free (sg3.trans sg4) na fun z => z⟩
            · rcases List.mem_append.mp hx with z | z
              · exact hto.1 x z
              · rw [List.mem_singleton.mp z]
                refine ⟨by show 0 < 0 - ev; omega, ⟨rs, hrs, ?_⟩, row, hrow, by show row[i]? = some (0 - (0 - ev)); rw [show (0 : Int) - (0 - ev) = ev by omega]; exact hev⟩
                have hix := List.idxOf_lt_length_iff.mpr hsm
                show rs[rs.idxOf (0 - ev)]? = some (0 - ev)
                rw [List.getElem?_eq_getElem hix, List.getElem_idxOf hix]
            · by_cases hh : p' < p ∨ (p' = p ∧ i' < i)
              · obtain ⟨x, hx, h1⟩ := hto.2 p' i' m hh hm hat
                exact ⟨x, List.mem_append_left _ hx, h1⟩
              · have e1 : p' = p := by omega
                have e2 : i' = i := by omega
                subst e1 e2
                refine ⟨_, List.mem_append_right _ List.mem_cons_self, rfl, rfl, ?_⟩
                obtain ⟨r2, g1, g2⟩ := hat
                rw [hrow] at g1
                cases g1
                rw [hev] at g2
                have := Option.some.inj g2
                show 0 - ev = m
                omega
      · have hc : decide (ev < 0) = false := hc
        have hnn := of_decide_eq_false hc
        refine ⟨hi, as, Ls, _, _, _, rfl, sg3, L3, by omega, hto.1, fun p' i' m hP hm hat => ?_⟩
        by_cases hh : p' < p ∨ (p' = p ∧ i' < i)
        · exact hto.2 p' i' m hh hm hat
        · have e1 : p' = p := by omega
          have e2 : i' = i := by omega
          subst e1 e2
          obtain ⟨r2, g1, g2⟩ := hat
          rw [hrow] at g1
          cases g1
          rw [hev] at g2
          have := Option.some.inj g2
          omega
    · rintro env S3 ⟨hi0, as, Ls, x4, x5, x6, rfl, sg3, L3, hlen, hto⟩
      have hto : LetTo rows Ls (fun p' i' => p' < p ∨ (p' = p ∧ i' < (enD (intsD row)).length)) := hto
      have hlen : Ls.length ≤ 60 * p + (enD (intsD row)).length := hlen
      rw [enD_len, intsD_len] at hto hlen
      refine ⟨hp, as, Ls, _, _, _, _, _, rfl, sg3, L3, by omega, hto.1, fun p' i m h hm hat => hto.2 p' i m ?_ hm hat⟩
      have h : p' < p + 1 := h
      by_cases z : p' < p
      · exact .inl z
      · have : p' = p := by omega
        subst this
        obtain ⟨r2, g1, g2⟩ := hat
        rw [hrow] at g1
        cases g1
        exact .inr ⟨rfl, (List.getElem?_eq_some_iff.mp g2).1⟩
  · rintro env S2 ⟨hp0, as, Ls, x2, x3, x4, x5, x6, rfl, sg2, L2', hlen, hto⟩
    have hto : LetTo rows Ls (fun p' _ => p' < (enD (rowsD rows)).length) := hto
    have hlen : Ls.length ≤ 60 * (enD (rowsD rows)).length := hlen
    have el : (enD (rowsD rows)).length = rows.length := by rw [enD_len]; exact List.length_map ..
    rw [el] at hto hlen
    have : 60 * rows.length ≤ 60 * 6 := Nat.mul_le_mul_left _ (by omega)
    exact ⟨_, rfl, q f as Ls S2 sg2 nf L2' (by omega) ⟨hto.1, fun p i m _ hm hat => hto.2 p i m (by obtain ⟨r, g, _⟩ := hat; exact (List.getElem?_eq_some_iff.mp g).1) hm hat⟩⟩
theorem w_topsF {rows : List (List Int)} {fs : List Int} {S : Sto} {R : DK} (hl : rows.length ≤ 1000) (k : ∀ p S', SG S S' → S p = none → S' p = some (.lst (natD (tops rows fs))) → R (.ref p) S') : dFn 4 B_law_tops_eaaa [hisD rows, .tup (intsD fs)] S R := by
  refine ⟨_, rfl, _, _, rfl, rfl, lc_mapE (rows.mapIdx fun i r => (i, r)) (fun x => .tup [.int ((x.1 : Nat) : Int), rowD x.2]) (enD_map rowD rows) (fun x => some (D.int (((x.2.count 0 : Nat) : Int) + 1 - (if decide (((x.1 : Nat) : Int) ∈ fs) = true then 1 else 0)))) (by rw [List.length_mapIdx]; omega) (fun _ _ => True.intro)
    (fun x _ S1 sg K Kn hk _ => ⟨_, rfl, .inl (.inl rfl), _, _, rfl, _, _, rfl, rfl, ?_⟩) fun p S1 np sg hp => ?_⟩
  · refine yesS ?_
    refine ⟨_, rfl, ⟨_, rfl⟩, x.2, 0, rfl, rfl, _, rfl, _, rfl, _, _, .int _, .inr (.tup (pys_ints fs)), rfl, shaped_ints fs, shaped_ints fs, _, rfl, ?_⟩
    rw [any_int]
    have hk := hk _ rfl S1 (.refl _)
    by_cases z : ((x.1 : Nat) : Int) ∈ fs
    · rw [decide_eq_true z] at hk ⊢
      exact hk
    · rw [decide_eq_false z] at hk ⊢
      exact hk
  · rw [fm_map] at hp
    refine k p S1 sg np ?_
    rw [hp]
    congr 2
    unfold tops natD
    apply List.ext_getElem?
    intro i
    rw [List.getElem?_map, List.getElem?_mapIdx, List.getElem?_map, List.getElem?_mapIdx]
    cases rows[i]? with
    | none => rfl
    | some r =>
      have e : ((r.count 0 : Nat) : Int) + 1 - (if decide ((i : Int) ∈ fs) = true then 1 else 0) = ((r.count 0 + (if decide ((i : Int) ∈ fs) = true then 0 else 1) : Nat) : Int) := by
        split <;> omega
      exact congrArg (fun z => some (D.int z)) e
theorem w_placesK {rows : List (List Int)} {cs : List Nat} {c : Addr} {S : Sto} {R : DK} (hr : rows.length ≤ 100) (hl : ∀ r ∈ rows, r.length ≤ 900) (hS : S c = some (.lst (natD cs))) (hc : cs.length = rows.length) (hb : LeL cs (prs rows))
    (k : ∀ t S', SG S S' → S t = none → S' t = some (.lst (intsD (cutP rows cs))) → R (.ref t) S') : dFn 4 B_law_places_cc50 [.tup (rowsD rows), .ref c] S R := by
  refine ⟨_, rfl, _, rfl, _, _, _, rfl, hS, lc_mapE (List.range rows.length) (fun p => D.tup [rowD (rows.getD p []), .int ((cs.getD p 0 : Nat) : Int)]) (zip_rng (g := rowD) (h := fun c : Nat => D.int (c : Int)) [] 0 rfl hc) (fun p => some (D.int ((places (rows.getD p [])).getD (cs.getD p 0) 0))) (by rw [List.length_range]; omega) (fun S' sg => sg _ _ (fun z => z) hS) (fun p hp S1 sg K Kn hk _ => ⟨_, rfl, .inl (.inl rfl), _, _, rfl, _, _, rfl, rfl, ?_⟩) fun t S1 nt sg ht => ?_⟩
  · refine yesS ?_
    obtain ⟨row, hrow⟩ := row_of (List.mem_range.mp hp)
    obtain ⟨x, hx⟩ : ∃ x, cs[p]? = some x := ⟨_, List.getElem?_eq_getElem (by rw [hc]; exact List.mem_range.mp hp)⟩
    rw [rowsDL hrow, getD_of hx] at hk ⊢
    have hxb := hb p x _ hx (prsA hrow)
    refine ⟨_, rfl, rfl, w_spots (hl row (List.mem_of_getElem? hrow)) fun t S2 sg2 ht => ⟨_, rfl, _, (x : Int), _, seqOf_lst ht, rfl, ?_, hk _ rfl _ sg2⟩⟩
    have e : (places row)[x]? = some ((places row).getD x 0) := by
      rw [List.getD_eq_getElem?_getD, List.getElem?_eq_getElem (show x < (places row).length by rw [places_len]; omega)]
      rfl
    exact atI_nat (by rw [intsD, List.getElem?_map, e]; rfl)
  · rw [fm_map] at ht
    refine k t S1 sg nt ?_
    rw [ht]
    unfold cutP intsD
    rw [List.map_map]
    rfl
theorem Dn.letter {rows : List (List Int)} {high cs c0 : List Nat} (h : Dn rows high cs) (h0 : LeL cs c0) (hl : c0.length = cs.length) {m : Int} {s k r k' c d : Nat} (hm : 0 < m) (h1 : hap rows m = some (s, k)) (h2 : hap rows (0 - m) = some (r, k')) (hs : s < cs.length) (hc : cs[r]? = some c) (hd : c0[s]? = some d) (hk : d ≤ k) : Dn rows high (cs.set r (min c k')) := by
  have hr := (List.getElem?_eq_some_iff.mp hc).1
  refine ⟨by rw [List.length_set, h.len], fun i x y g1 g2 => ?_, fun L hL1 hL2 hL3 => fun i x y g1 g2 => ?_⟩
  · by_cases z : r = i
    · subst z
      rw [List.getElem?_set_self hr] at g1
      cases g1
      have := h.le r c y hc g2
      omega
    · rw [List.getElem?_set_ne z] at g1
      exact h.le i x y g1 g2
  · have hle := h.top L hL1 hL2 hL3
    by_cases z : r = i
    · subst z
      rw [List.getElem?_set_self hr] at g2
      cases g2
      have a1 := hle r x c g1 hc
      refine Nat.le_min.mpr ⟨a1, Nat.le_of_not_lt fun w => ?_⟩
      have es := List.getElem?_eq_getElem (show s < L.length by rw [hL1, ← h.len]; exact hs)
      have a2 := hL3 m s k r k' _ _ hm h1 h2 es g1 w
      have a3 := hle s _ _ es (List.getElem?_eq_getElem hs)
      have a4 := h0 s _ _ (List.getElem?_eq_getElem hs) hd
      omega
    · rw [List.getElem?_set_ne z] at g2
      exact hle i x y g1 g2
theorem sum_setN {cs : List Nat} {p c k : Nat} (h : cs[p]? = some c) : (cs.set p k).sum + c = cs.sum + k := by
  induction cs generalizing p with
  | nil => simp at h
  | cons a r ih =>
    cases p with
    | zero =>
      cases h
      rw [List.set_cons_zero, List.sum_cons, List.sum_cons]
      omega
    | succ p =>
      have := ih (p := p) h
      rw [List.set_cons_succ, List.sum_cons, List.sum_cons]
      omega
theorem LetF.putC {S0 S : Sto} {f c : Addr} {as : List Addr} {Ls : List LetR} {o : Ob} (h : LetF S0 S f as Ls) (h1 : f ≠ c) (h2 : ∀ a ∈ as, a ≠ c) : LetF S0 (S.put c o) f as Ls :=
  ⟨h.len, (Sto.ne h1).trans h.fx, fun k a x e1 e2 => (Sto.ne (h2 a (List.mem_of_getElem? e1))).trans (h.at' k a x e1 e2), h.off⟩
theorem w_sunk {rows : List (List Int)} {many most : Nat} {fs : List Int} {S : Sto} {R : DK} (hG : Good many most rows) (h6 : many ≤ 6) (h60 : most ≤ 60) (q : ∀ S', SG S S' → R (.tup (natD (fallL rows fs))) S') : dFn 11 B_law_sunk_19fe [.tup (rowsD rows), .tup (intsD fs)] S R := by
  have rl := hG.len
  have hH := hG.hist h6 h60
  have r60 := hG.row60 h60
  have tl := tops_len rows fs
  have topsPr : LeL (tops rows fs) (prs rows) := fun i x y g1 g2 => by
    obtain ⟨row, hrow⟩ := row_of (show i < rows.length by rw [← tl]; exact (List.getElem?_eq_some_iff.mp g1).1)
    rw [tops_at hrow] at g1
    rw [prsA hrow] at g2
    cases g1
    cases g2
    split <;> omega
  have q : ∀ cs S', SG S S' → IsLow rows (tops rows fs) cs → R (.tup (natD cs)) S' := fun cs S' sg h => by
    rw [fall_eq h]
    exact q S' sg
  refine ⟨_, rfl, _, rfl, rfl, w_topsF (by omega) fun c S1 sg1 nc hc => ⟨_, rfl, rfl, w_lettersF hG h6 h60 fun f as Ls S2 sg2 nf L2 hlen hto => ⟨rfl, _, rfl, .inl (.inl rfl), _, _, rfl, _, _, rfl, _, _, rfl, rfl, ?_⟩⟩⟩
  have hc2 := sg2 _ _ (fun z => z) hc
  have cf : f ≠ c := fun z => by rw [z, hc] at nf; cases nf
  have ca : ∀ a ∈ as, a ≠ c := fun a ha z => by have := (L2.off a ha).2; rw [z, hc] at this; cases this
  have sg02 := sg1.trans sg2
  refine ⟨fun m env S' => ∃ (cs : List Nat) (b : Bool) (x5 x6 x7 x8 x9 x10 : Option D), env = [some (.tup (rowsD rows)), some (.tup (intsD fs)), some (.ref c), some (.ref f), some (.bl b), x5, x6, x7, x8, x9, x10] ∧ SG S S' ∧ S' c = some (.lst (natD cs)) ∧ LetF S1 S' f as Ls ∧ Dn rows (tops rows fs) cs ∧ (b = false → ConsL rows cs) ∧ m = 2 * cs.sum + (if b = true then 1 else 0), ⟨_, tops rows fs, true, _, _, _, _, _, _, rfl, sg02, hc2, L2, .start _ _, (fun z => nomatch z), rfl⟩, ?_⟩
  rintro m env S3 ⟨cs, b, x5, x6, x7, x8, x9, x10, rfl, sm, hcs, L3, hdn, hb, hm⟩
  refine ⟨_, rfl, b, rfl, ?_⟩
  cases b with
  | false =>
    refine goF ?_
    exact ⟨_, rfl, _, _, rfl, seqOf_lst hcs, fun ys z => (nomatch z), q cs _ sm ⟨hdn, hb rfl⟩⟩
  | true =>
    rw [if_pos rfl] at hm
    have cl : cs.length = rows.length := by rw [hdn.len, tl]
    have csPr : LeL cs (prs rows) := fun i x y g1 g2 => by
      have e := List.getElem?_eq_getElem (show i < (tops rows fs).length by rw [← hdn.len]; exact (List.getElem?_eq_some_iff.mp g1).1)
      exact Nat.le_trans (hdn.le i _ _ g1 e) (topsPr i _ _ e g2)
    refine goT ⟨_, rfl, _, rfl, rfl, w_placesK (by omega) (fun r hr => by have := r60 r hr; omega) hcs cl csPr fun t S4 sg4 nt ht => ⟨rfl, _, rfl, .inl (.inl rfl), _, _, rfl, _, _, rfl, rfl, ?_⟩⟩
    have L4 := L3.keep sg4
    have hc4 := sg4 _ _ (fun z => z) hcs
    have tc : t ≠ c := fun z => by rw [z, hcs] at nt; cases nt
    refine ⟨_, rfl, _, ⟨_, L4.fx, rfl⟩, fun j env S' => ∃ (c1 : List Nat) (b1 : Bool) (x6 x7 x8 x9 x10 : Option D), env = [some (.tup (rowsD rows)), some (.tup (intsD fs)), some (.ref c), some (.ref f), some (.bl b1), some (.ref t), x6, x7, x8, x9, x10] ∧ SG S S' ∧ S' c = some (.lst (natD c1)) ∧ LetF S1 S' f as Ls ∧ S' t = some (.lst (intsD (cutP rows cs))) ∧ Dn rows (tops rows fs) c1 ∧ LeL c1 cs ∧ ((b1 = true ∧ c1.sum < cs.sum) ∨ (b1 = false ∧ c1 = cs ∧ ∀ (i : Nat) (x : LetR), i < j → Ls[i]? = some x → OkL rows cs x)),
      ⟨cs, false, _, _, _, _, _, rfl, sm.trans sg4, hc4, L4, ht, hdn, fun i x y g1 g2 => by rw [g1] at g2; cases g2; exact Nat.le_refl _, .inr ⟨rfl, rfl, fun i x z => absurd z (Nat.not_lt_zero _)⟩⟩, fun j env S' _ h => ?_, ?_, ?_⟩
    · obtain ⟨_, _, _, _, _, _, _, _, _, _, h, _⟩ := h
      exact h.fx
    · rintro j d env S5 hd ⟨c1, b1, x6, x7, x8, x9, x10, rfl, s5, hc5, L5, ht5, hd5, hle, hor⟩
      have hd : (as.map D.ref)[j]? = some d := hd
      rw [List.getElem?_map] at hd
      obtain ⟨a, ha, rfl⟩ := Option.map_eq_some_iff.mp hd
      obtain ⟨x, hx⟩ : ∃ x, Ls[j]? = some x := ⟨_, List.getElem?_eq_getElem (by rw [← L5.len]; exact (List.getElem?_eq_some_iff.mp ha).1)⟩
      have hSa := L5.at' j a x ha hx
      obtain ⟨hm0, ⟨rowS, hs1, hs2⟩, ⟨rowR, hr1, hr2⟩⟩ := hto.1 x (List.mem_of_getElem? hx)
      have h1 := hapC (hH.once _ (show x.2.2.2.2 ≠ 0 by omega)) hs1 hs2
      have h2 := hapC (hH.once _ (show 0 - x.2.2.2.2 ≠ 0 by omega)) hr1 hr2
      have c1l : c1.length = rows.length := by rw [hd5.len, tl]
      have hsl : x.1 < rows.length := (List.getElem?_eq_some_iff.mp hs1).1
      have hrl : x.2.2.1 < rows.length := (List.getElem?_eq_some_iff.mp hr1).1
      have e1 := List.getElem?_eq_getElem (l := cs) (i := x.1) (by omega)
      have e2 := List.getElem?_eq_getElem (l := cs) (i := x.2.2.1) (by omega)
      have e3 := List.getElem?_eq_getElem (l := c1) (i := x.2.2.1) (by omega)
      generalize cs[x.1]'(by omega) = u at e1
      generalize cs[x.2.2.1]'(by omega) = v at e2
      generalize c1[x.2.2.1]'(by omega) = w at e3
      have p1 : (intsD (cutP rows cs))[x.1]? = some (D.int ((places rowS).getD u 0)) := by rw [intsD, List.getElem?_map, cutP_at hs1 e1]; rfl
      have p2 : (intsD (cutP rows cs))[x.2.2.1]? = some (D.int ((places rowR).getD v 0)) := by rw [intsD, List.getElem?_map, cutP_at hr1 e2]; rfl
      have b1' := place_le (csPr _ _ _ e1 (prsA hs1)) hs2 (by omega)
      have b2' := place_le (csPr _ _ _ e2 (prsA hr1)) hr2 (by omega)
      have rrD : (rowsD rows)[x.2.2.1]? = some (rowD rowR) := by rw [rowsD, List.getElem?_map, hr1]; rfl
      have rl2 := (List.getElem?_eq_some_iff.mp hr2).1
      refine ⟨ltD x, rfl, .inr ⟨_, rfl, hSa⟩, _, _, rfl, _, _, rfl, _, _, rfl, _, _, rfl, _, _, rfl, rfl, ?_⟩
      have no : ((rowR.take x.2.2.2.1).count 0 < v → (rowS.take x.2.1).count 0 < u) → ∃ (c1' : List Nat) (b1' : Bool) (y6 y7 y8 y9 y10 : Option D), [some (.tup (rowsD rows)), some (.tup (intsD fs)), some (.ref c), some (.ref f), some (.bl b1), some (.ref t), some (.int (x.1 : Int)), some (.int (x.2.1 : Int)), some (.int (x.2.2.1 : Int)), some (.int (x.2.2.2.1 : Int)), some (.int x.2.2.2.2)] = [some (.tup (rowsD rows)), some (.tup (intsD fs)), some (.ref c), some (.ref f), some (.bl b1'), some (.ref t), y6, y7, y8, y9, y10] ∧ SG S S5 ∧ S5 c = some (.lst (natD c1')) ∧ LetF S1 S5 f as Ls ∧ S5 t = some (.lst (intsD (cutP rows cs))) ∧ Dn rows (tops rows fs) c1' ∧ LeL c1' cs ∧ ((b1' = true ∧ c1'.sum < cs.sum) ∨ (b1' = false ∧ c1' = cs ∧ ∀ (i : Nat) (y : LetR), i < j + 1 → Ls[i]? = some y → OkL rows cs y)) := fun hok => by
        refine ⟨c1, b1, _, _, _, _, _, rfl, s5, hc5, L5, ht5, hd5, hle, ?_⟩
        rcases hor with z | ⟨z1, z2, z3⟩
        · exact .inl z
        · refine .inr ⟨z1, z2, fun i y hi hy => ?_⟩
          by_cases e : i = j
          · subst e
            rw [hx] at hy
            cases hy
            unfold OkL
            rw [rowsDL hr1, rowsDL hs1, getD_of e1, getD_of e2]
            exact hok
          · exact z3 i y (by omega) hy
      refine ⟨_, rfl, _, rfl, _, rfl, _, (x.2.2.1 : Int), _, seqOf_lst ht5, rfl, atI_nat p2, _, rfl, iteB (fun g1 => ?_) fun g1 => goF (no fun h => ?_)⟩
      rotate_left
      · have g1 : ¬ ((x.2.2.2.1 : Nat) : Int) < (places rowR).getD v 0 := of_decide_eq_false g1
        omega
      have g1 : ((x.2.2.2.1 : Nat) : Int) < (places rowR).getD v 0 := of_decide_eq_true g1
      have k1 : (rowR.take x.2.2.2.1).count 0 < v := by omega
      refine ⟨_, rfl, _, rfl, _, rfl, _, (x.1 : Int), _, seqOf_lst ht5, rfl, atI_nat p1, _, rfl, iteB (fun g2 => ?_) fun g2 => no fun h => ?_⟩
      rotate_left
      · have g2 : ¬ (places rowS).getD u 0 ≤ ((x.2.1 : Nat) : Int) := of_decide_eq_false g2
        omega
      have g2 : (places rowS).getD u 0 ≤ ((x.2.1 : Nat) : Int) := of_decide_eq_true g2
      have k2 : u ≤ (rowS.take x.2.1).count 0 := b1'.mp g2
      refine ⟨_, rfl, _, rfl, _, (x.2.2.1 : Int), _, seqOf_lst hc5, rfl, atI_nat (natD_at e3), _, rfl, _, rfl, _, (x.2.2.1 : Int), _, rfl, rfl, atI_nat rrD, _, rfl, _, rfl, sl_to (row := rowR) (x := x.2.2.2.1) (by omega) ⟨⟨_, rfl⟩, rowR.take x.2.2.2.1, 0, rfl, rfl, _, _, rfl, ?_⟩⟩
      have em : (if (((rowR.take x.2.2.2.1).count 0 : Nat) : Int) < ((w : Nat) : Int) then (((rowR.take x.2.2.2.1).count 0 : Nat) : Int) else ((w : Nat) : Int)) = ((min w ((rowR.take x.2.2.2.1).count 0) : Nat) : Int) := by
        split <;> omega
      rw [em]
      refine ⟨_, rfl, _, rfl, c, _, (x.2.2.1 : Int), x.2.2.1, rfl, rfl, hc5, ixnN (by rw [natD_len]; omega), ?_⟩
      have es : (natD c1).set x.2.2.1 (.int ((min w ((rowR.take x.2.2.2.1).count 0) : Nat) : Int)) = natD (c1.set x.2.2.1 (min w ((rowR.take x.2.2.2.1).count 0))) := by
        unfold natD
        rw [List.map_set]
      rw [es]
      have hsum := sum_setN (k := min w ((rowR.take x.2.2.2.1).count 0)) e3
      have hwv := hle _ _ _ e3 e2
      refine ⟨c1.set x.2.2.1 (min w ((rowR.take x.2.2.2.1).count 0)), true, _, _, _, _, _, rfl, SG.keepP nc s5 (.refl _), Sto.same, L5.putC cf ca, (Sto.ne tc).trans ht5, hd5.letter hle (by omega) hm0 h1 h2 (by omega) e3 e1 k2, fun i y z q1 q2 => ?_, .inl ⟨rfl, ?_⟩⟩
      · by_cases e : x.2.2.1 = i
        · subst e
          rw [List.getElem?_set_self (by omega)] at q1
          cases q1
          rw [e2] at q2
          cases q2
          omega
        · rw [List.getElem?_set_ne e] at q1
          exact hle i y z q1 q2
      · rcases hor with ⟨_, z⟩ | ⟨_, rfl, _⟩
        · omega
        · rw [e2] at e3
          cases e3
          omega
    · rintro env S5 ⟨c1, b1, x6, x7, x8, x9, x10, rfl, s5, hc5, L5, ht5, hd5, hle, hor⟩
      rcases hor with ⟨rfl, z⟩ | ⟨rfl, rfl, z3⟩
      · exact ⟨2 * c1.sum + 1, by omega, c1, true, _, _, _, _, _, _, rfl, s5, hc5, L5, hd5, (fun z => nomatch z), rfl⟩
      · refine ⟨2 * c1.sum, by omega, c1, false, _, _, _, _, _, _, rfl, s5, hc5, L5, hd5, fun _ => ?_, rfl⟩
        refine (fits_iff hG hto cl).mp fun x hx => ?_
        obtain ⟨i, hi⟩ := List.getElem?_of_mem hx
        refine z3 i x ?_ hi
        show i < (as.map D.ref).length
        rw [List.length_map, L5.len]
        exact (List.getElem?_eq_some_iff.mp hi).1
end Sv
set_option maxHeartbeats 2000000
set_option autoImplicit false
namespace Sv
open PySem PySem.Spec PyProof.Rows L2
def tys : List String := ["NoneType", "bool", "int", "str", "tuple", "list", "dict"]
theorem ty_tuple {t : String} (h : t ∈ tys) (n : t ≠ "tuple") : kitB t "tuple" = some false := by
  unfold tys at h
  simp only [List.mem_cons, List.not_mem_nil, or_false] at h
  rcases h with rfl | rfl | rfl | rfl | rfl | rfl | rfl
  · decide +kernel
  · decide +kernel
  · decide +kernel
  · decide +kernel
  · exact absurd rfl n
  · decide +kernel
  · decide +kernel
theorem ty_int {t : String} (h : t ∈ tys) (n : t ≠ "int") : (t = "bool" ∧ kitB t "int" = some true ∧ kitB t "bool" = some true) ∨ kitB t "int" = some false := by
  unfold tys at h
  simp only [List.mem_cons, List.not_mem_nil, or_false] at h
  rcases h with rfl | rfl | rfl | rfl | rfl | rfl | rfl
  · exact .inr (by decide +kernel)
  · exact .inl ⟨rfl, by decide +kernel, by decide +kernel⟩
  · exact absurd rfl n
  · exact .inr (by decide +kernel)
  · exact .inr (by decide +kernel)
  · exact .inr (by decide +kernel)
  · exact .inr (by decide +kernel)
theorem tyD_int {S : Sto} {d : D} (h : tyD S d = some "int") : ∃ i, d = .int i := by
  cases d with
  | int i => exact ⟨i, rfl⟩
  | ref a =>
    have h : (match S a with | some (.lst _) => some "list" | some (.dK _) => some "dict" | _ => none) = some "int" := h
    split at h
    · exact absurd (Option.some.inj h) (by decide)
    · exact absurd (Option.some.inj h) (by decide)
    · cases h
  | ty n => cases h
  | _ => exact absurd (Option.some.inj h) (by decide)
/-- an element is a number from 0 on -/
def okN (e : D) (y : Nat) : Bool := match e with
  | .int x => decide (0 ≤ x) && decide (x ≤ (y : Int))
  | _ => false
theorem w_withinV {e : D} {y : Nat} {t : String} {S : Sto} {R : DK} (ht : t ∈ tys) (hd : tyD S e = some t) (q : R (.bl (okN e y)) S) : dFn 3 B_is_number_within_7f04 [e, .int 0, .int (y : Int)] S R := by
  by_cases n : t = "int"
  · subst n
    obtain ⟨i, rfl⟩ := tyD_int hd
    exact w_within q
  · have hb : okN e y = false := by
      cases e with
      | int i => exact absurd (Option.some.inj hd).symm n
      | _ => rfl
    rw [hb] at q
    refine ⟨_, rfl, rfl, ?_⟩
    rcases ty_int ht n with ⟨_, h1, h2⟩ | h1
    · refine ⟨_, rfl, _, "int", t, true, rfl, hd, h1, _, rfl, ?_⟩
      exact ⟨_, rfl, _, "bool", t, true, rfl, hd, h2, _, rfl, _, rfl, goF q⟩
    · exact ⟨_, rfl, _, "int", t, false, rfl, hd, h1, _, rfl, ⟨_, rfl, goF q⟩⟩
def isLn (rows : List (List Int)) (ds : List D) : Bool := decide (ds.length = rows.length) && ((List.range rows.length).map fun p => okN (ds.getD p .non) ((prs rows).getD p 0)).all id
theorem zipD_rng {ds : List D} {ys : List Nat} {n : Nat} (h1 : ds.length = n) (h2 : ys.length = n) : zipD ds (natD ys) = (List.range n).map fun p => D.tup [ds.getD p .non, .int ((ys.getD p 0 : Nat) : Int)] := by
  apply List.ext_getElem?
  intro i
  unfold zipD natD
  rw [List.getElem?_zipWith, List.getElem?_map, List.getElem?_map]
  rcases Nat.lt_or_ge i n with z | z
  · have e1 : ds[i]? = some ds[i] := List.getElem?_eq_getElem (by omega)
    have e2 : ys[i]? = some ys[i] := List.getElem?_eq_getElem (by omega)
    rw [List.getElem?_range z, e1, e2]
    show some (D.tup [ds[i], D.int ((ys[i] : Nat) : Int)]) = some (D.tup [ds.getD i .non, D.int ((ys.getD i 0 : Nat) : Int)])
    rw [List.getD_eq_getElem?_getD, List.getD_eq_getElem?_getD, e1, e2]
    rfl
  · rw [List.getElem?_eq_none (l := ds) (by omega), List.getElem?_eq_none (l := List.range n) (by rw [List.length_range]; exact z)]
    rfl
theorem w_islineV {rows : List (List Int)} {ds : List D} {S : Sto} {R : DK} (hr : rows.length ≤ 1000) (hl : ds.length ≤ 1000) (hty : ∀ S', SG S S' → ∀ e ∈ ds, ∃ t ∈ tys, tyD S' e = some t) (q : ∀ S', SG S S' → R (.bl (isLn rows ds)) S') : dFn 5 B_is_line_5402 [.tup (rowsD rows), .tup ds] S R := by
  have erl : (rowsD rows).length = rows.length := List.length_map ..
  refine ⟨_, rfl, _, _, _, _, rfl, rfl, (by decide +kernel : kitB "tuple" "tuple" = some true), _, rfl, goF ?_⟩
  refine ⟨_, rfl, _, _, rfl, rfl, _, rfl, _, _, rfl, rfl, _, rfl, ?_⟩
  rw [xor_tt]
  by_cases hle : ds.length = rows.length
  · rw [decide_eq_true (by rw [erl, hle])]
    refine goF ?_
    refine ⟨_, rfl, rfl, w_nums hr fun S1 sg1 => ?_⟩
    have pl : (prs rows).length = rows.length := List.length_map ..
    refine ⟨_, rfl, _, rfl, _, _, .inl ⟨rfl, lc_mapE (List.range rows.length) (fun p => D.tup [ds.getD p .non, .int (((prs rows).getD p 0 : Nat) : Int)]) (zipD_rng hle pl) (fun p => some (D.bl (okN (ds.getD p .non) ((prs rows).getD p 0)))) (by rw [List.length_range]; omega) (fun _ _ => True.intro) (fun p hp S2 sg2 K Kn hk _ => ?_) fun t S2 nt sg2 ht => ?_⟩⟩
    · have hp := List.mem_range.mp hp
      have hx : ds[p]? = some ds[p] := List.getElem?_eq_getElem (by omega)
      have g1 : ds.getD p .non = ds[p] := by rw [List.getD_eq_getElem?_getD, hx]; rfl
      obtain ⟨t, ht, hd⟩ := hty S2 (sg1.trans sg2) (ds.getD p .non) (by rw [g1]; exact List.getElem_mem ..)
      refine ⟨_, rfl, .inl (.inl rfl), _, _, rfl, _, _, rfl, rfl, yesS ⟨_, rfl, _, rfl, rfl, w_withinV ht hd ?_⟩⟩
      exact hk _ rfl _ (.refl _)
    · rw [fm_map] at ht
      have et : (List.range rows.length).map (fun p => D.bl (okN (ds.getD p .non) ((prs rows).getD p 0))) = ((List.range rows.length).map fun p => okN (ds.getD p .non) ((prs rows).getD p 0)).map D.bl := by
        rw [List.map_map]
        rfl
      rw [et] at ht
      refine ⟨_, _, rfl, ht, ?_⟩
      have := q _ (sg1.trans sg2)
      unfold isLn at this
      rw [decide_eq_true hle, Bool.true_and] at this
      exact this
  · rw [decide_eq_false (fun z => hle (by rw [erl] at z; omega))]
    refine goT ?_
    have := q S (.refl _)
    unfold isLn at this
    rw [decide_eq_false hle, Bool.false_and] at this
    exact this
theorem isLn_nat {rows : List (List Int)} {ds : List D} (h : isLn rows ds = true) : ∃ c : List Nat, ds = natD c ∧ c.length = rows.length ∧ LeL c (prs rows) := by
  unfold isLn at h
  obtain ⟨h1, h2⟩ := Bool.and_eq_true_iff.mp h
  have h1 := of_decide_eq_true h1
  have pl : (prs rows).length = rows.length := List.length_map ..
  have at' : ∀ p (hp : p < rows.length), ∃ x : Nat, ds[p]? = some (.int (x : Int)) ∧ x ≤ (prs rows).getD p 0 := fun p hp => by
    have := List.all_eq_true.mp h2 _ (List.mem_map.mpr ⟨p, List.mem_range.mpr hp, rfl⟩)
    have hx : ds[p]? = some ds[p] := List.getElem?_eq_getElem (by omega)
    have g1 : ds.getD p .non = ds[p] := by rw [List.getD_eq_getElem?_getD, hx]; rfl
    have this : okN (ds.getD p .non) ((prs rows).getD p 0) = true := this
    rw [g1] at this
    rw [hx]
    cases hd : ds[p] with
    | int x =>
      rw [hd] at this
      obtain ⟨a, b⟩ := Bool.and_eq_true_iff.mp this
      have a := of_decide_eq_true a
      have b := of_decide_eq_true b
      exact ⟨x.toNat, by rw [Int.toNat_of_nonneg a], by omega⟩
    | _ => rw [hd] at this; cases this
  refine ⟨ds.map fun d => match d with | .int x => x.toNat | _ => 0, ?_, by rw [List.length_map, h1], fun p x y hx hy => ?_⟩
  · unfold natD
    rw [List.map_map]
    refine (List.map_id ds).symm.trans (List.map_congr_left fun d hd => ?_)
    obtain ⟨p, hp⟩ := List.getElem?_of_mem hd
    obtain ⟨x, hx, _⟩ := at' p (by have := (List.getElem?_eq_some_iff.mp hp).1; omega)
    rw [hp] at hx
    rw [Option.some.inj hx]
    rfl
  · rw [List.getElem?_map] at hx
    obtain ⟨d, hd, e⟩ := Option.map_eq_some_iff.mp hx
    obtain ⟨z, hz, hz2⟩ := at' p (by have := (List.getElem?_eq_some_iff.mp hd).1; omega)
    rw [hd] at hz
    rw [Option.some.inj hz] at e
    have e : ((z : Int)).toNat = x := e
    rw [List.getD_eq_getElem?_getD, hy] at hz2
    have hz2 : z ≤ y := hz2
    omega
theorem isLn_of {rows : List (List Int)} {c : List Nat} (hl : c.length = rows.length) (hc : LeL c (prs rows)) : isLn rows (natD c) = true := by
  have pl : (prs rows).length = rows.length := List.length_map ..
  unfold isLn
  rw [decide_eq_true (by rw [natD_len, hl]), Bool.true_and, List.all_eq_true]
  intro b hb
  obtain ⟨p, hp, rfl⟩ := List.mem_map.mp hb
  have hp := List.mem_range.mp hp
  obtain ⟨x, hx⟩ : ∃ x, c[p]? = some x := ⟨_, List.getElem?_eq_getElem (by omega)⟩
  obtain ⟨y, hy⟩ : ∃ y, (prs rows)[p]? = some y := ⟨_, List.getElem?_eq_getElem (by omega)⟩
  have hxy := hc p x y hx hy
  rw [List.getD_eq_getElem?_getD, natD_at hx, List.getD_eq_getElem?_getD, hy]
  show (decide ((0 : Int) ≤ (x : Int)) && decide ((x : Int) ≤ (y : Int))) = true
  rw [decide_eq_true (by omega), decide_eq_true (by omega)]
  rfl
/-- what a value is -/
def KdV (S : Sto) (d : D) (p : PyData) : Prop := (∃ xs : List Int, d = .tup (intsD xs) ∧ xs.length ≤ 100 ∧ p = .tuple (xs.map PyData.int)) ∨
  ((∀ ns, p.shown ≠ (natP ns).shown) ∧ ((∃ t ∈ tys, t ≠ "tuple" ∧ tyD S d = some t) ∨ ∃ ds, d = .tup ds ∧ ds.length ≤ 100 ∧ (∀ e ∈ ds, ∃ t ∈ tys, tyD S e = some t) ∧ ∃ e ∈ ds, ∀ i, e ≠ .int i))
structure VV (S : Sto) (d : D) (p : PyData) : Prop where
  vt : (Py S d p ∧ Fine 3 12000 p) ∨ (PyD S d p ∧ FineX 3 12000 p)
  rp : ∀ R : DK, R (.str p.shown) S → rReprD [d] S R
  kd : KdV S d p
/-- a negative number's text has its sign -/
theorem wd_neg {i : Int} (h : i < 0) : 45 ∈ wdT (.int i) := by
  unfold wdT
  rw [PyData.shown_int, Str.ofString_eq_toList]
  show 45 ∈ ((toString i : String).toList.map Char.toNat)
  cases i with
  | ofNat n => exact absurd h (by show ¬ ((n : Int) < 0); omega)
  | negSucc n =>
    have e : (toString (Int.negSucc n) : String) = "-" ++ Nat.repr (n + 1) := rfl
    rw [e, String.toList_append, List.map_append]
    exact List.mem_append_left _ List.mem_cons_self
theorem nok45 : ¬ okC 45 := by
  unfold okC isDg
  omega
/-- a tuple of ints has the text of a tuple of numbers from 0 on exactly if it is it -/
theorem ints_text {xs : List Int} {ns : List Nat} : (PyData.tuple (xs.map PyData.int)).shown = (natP ns).shown ↔ xs = ns.map fun n : Nat => (n : Int) := by
  constructor
  · intro h
    by_cases hn : ∃ x ∈ xs, x < 0
    · obtain ⟨x, hx, x0⟩ := hn
      exact absurd h (tup_ne (List.mem_map.mpr ⟨x, hx, rfl⟩) (wd_neg x0) nok45 ns)
    · have e : xs = (xs.map Int.toNat).map fun n : Nat => (n : Int) := by
        rw [List.map_map]
        refine (List.map_id xs).symm.trans (List.map_congr_left fun x hx => ?_)
        have : 0 ≤ x := Int.not_lt.mp fun z => hn ⟨x, hx, z⟩
        exact (Int.toNat_of_nonneg this).symm
      have e2 : PyData.tuple (xs.map PyData.int) = natP (xs.map Int.toNat) := by
        unfold natP
        congr 1
        rw [List.map_map]
        refine List.map_congr_left fun x hx => ?_
        have : 0 ≤ x := Int.not_lt.mp fun z => hn ⟨x, hx, z⟩
        show PyData.int x = PyData.int ((x.toNat : Nat) : Int)
        rw [Int.toNat_of_nonneg this]
      rw [e2] at h
      rw [e, nat_inj h]
  · rintro rfl
    unfold natP
    rw [List.map_map]
    rfl
theorem map_natI : ∀ {a b : List Nat}, (a.map fun n : Nat => (n : Int)) = b.map (fun n : Nat => (n : Int)) → a = b
  | [], [], _ => rfl
  | [], _ :: _, h => nomatch h
  | _ :: _, [], h => nomatch h
  | x :: a, y :: b, h => by
    rw [List.map_cons, List.map_cons] at h
    injection h with h1 h2
    rw [Int.ofNat.inj h1, map_natI h2]
theorem natP_eq (c : List Nat) : natP c = .tuple ((c.map fun (x : Nat) => (x : Int)).map PyData.int) := by
  unfold natP
  rw [List.map_map]
  rfl
theorem natD_ints41 (c : List Nat) : natD c = intsD (c.map fun n : Nat => (n : Int)) := by
  unfold natD intsD
  rw [List.map_map]
  rfl
theorem intsD_inj : ∀ {a b : List Int}, intsD a = intsD b → a = b
  | [], [], _ => rfl
  | [], _ :: _, h => nomatch h
  | _ :: _, [], h => nomatch h
  | a :: as, b :: bs, h => by
    have h : D.int a :: intsD as = D.int b :: intsD bs := h
    injection h with h1 h2
    injection h1 with h1
    rw [h1, intsD_inj h2]
theorem w_holdsV {rows : List (List Int)} {many most : Nat} {fs : List Int} {d : D} {p : PyData} {S : Sto} {R : DK} (hG : Good many most rows) (h6 : many ≤ 6) (h60 : most ≤ 60) (hf : fs.length ≤ 900) (hv : ∀ S', SG S S' → KdV S' d p) (hdue : LeL (fallL rows fs) (prs rows))
    (q : ∀ S', SG S S' → R (.bl (decide (p.shown = (natP (fallL rows fs)).shown))) S') : dFn 3 B_fall_holds_03ce [.tup (rowsD rows), .tup (intsD fs), d] S R := by
  have rl := hG.len
  rcases hv S (.refl _) with ⟨xs, rfl, hx, rfl⟩ | ⟨hne, ht⟩
  · have hty : ∀ S', SG S S' → ∀ e ∈ intsD xs, ∃ t ∈ tys, tyD S' e = some t := fun S' _ e he => by
      obtain ⟨x, _, rfl⟩ := List.mem_map.mp he
      exact ⟨"int", by decide, rfl⟩
    by_cases hL : isLn rows (intsD xs) = true
    · obtain ⟨c, hc, hcl, hcL⟩ := isLn_nat hL
      have ec : xs = c.map fun n : Nat => (n : Int) := intsD_inj (hc.trans (natD_ints41 c))
      rw [hc]
      refine w_holds hG h6 h60 hf hcl hcL fun S1 sg1 => ?_
      have := q S1 sg1
      rw [show decide ((PyData.tuple (xs.map PyData.int)).shown = (natP (fallL rows fs)).shown) = decide (c = fallL rows fs) from decide_eq_decide.mpr (by
        rw [ints_text, ec]
        constructor
        · intro h
          exact map_natI h
        · rintro rfl
          rfl)] at this
      exact this
    · have hL : isLn rows (intsD xs) = false := by simpa using hL
      refine ⟨_, rfl, _, rfl, rfl, w_islineV (by omega) (by rw [intsD_len]; omega) hty fun S1 sg1 => ⟨_, rfl, ?_⟩⟩
      rw [hL]
      refine goF ?_
      have := q S1 sg1
      rw [decide_eq_false (fun z => by
        have e := ints_text.mp z
        rw [e, ← natD_ints41, isLn_of (fall_len rows fs) hdue] at hL
        cases hL)] at this
      exact this
  · have hq : ∀ S', SG S S' → R (.bl false) S' := fun S' sg => by
      have := q S' sg
      rw [decide_eq_false (hne _)] at this
      exact this
    rcases ht with ⟨t, ht, n, hd⟩ | ⟨ds, rfl, hdl, hty, e, he, hi⟩
    · refine ⟨_, rfl, _, rfl, rfl, ⟨_, rfl, _, "tuple", t, false, rfl, hd, ty_tuple ht n, _, rfl, goT ?_⟩⟩
      exact ⟨_, rfl, goF (hq S (.refl _))⟩
    · have hty : ∀ S', SG S S' → ∀ e ∈ ds, ∃ t ∈ tys, tyD S' e = some t := fun S' sg => by
        rcases hv S' sg with ⟨xs, hx, _, _⟩ | ⟨_, ⟨t, ht, n, hd⟩ | ⟨ds', h1, _, h2, _⟩⟩
        · injection hx with hx
          rw [hx] at he
          obtain ⟨x, _, ex⟩ := List.mem_map.mp he
          exact absurd ex.symm (hi x)
        · exact absurd (Option.some.inj hd).symm n
        · injection h1 with h1
          rw [h1]
          exact h2
      have hL : isLn rows ds = false := by
        cases hL : isLn rows ds with
        | false => rfl
        | true =>
          obtain ⟨c, hc, _, _⟩ := isLn_nat hL
          rw [hc] at he
          obtain ⟨x, _, ex⟩ := List.mem_map.mp he
          exact absurd ex.symm (hi ((x : Nat) : Int))
      refine ⟨_, rfl, _, rfl, rfl, w_islineV (by omega) (by omega) hty fun S1 sg1 => ⟨_, rfl, ?_⟩⟩
      rw [hL]
      exact goF (hq S1 sg1)
theorem w_sameV {d : D} {p : PyData} {c : List Nat} {S : Sto} {R : DK} (hv : VV S d p) (tc : Text (natP c)) (q : R (.bl (decide (p.shown = (natP c).shown))) S) : dFn 2 B_law_same_6c33 [d, .tup (natD c)] S R := by
  refine ⟨_, rfl, hv.rp _ ⟨_, rfl, .inl (.inr (.inr ⟨_, _, rfl, by rw [natP_eq] at *; exact py_nat c, by rw [← natP_eq]; exact tc, ?_⟩))⟩⟩
  rw [natP_eq] at q
  show R (.bl (decide (_ = _) ^^ false)) S
  rw [xor_ff]
  exact q
theorem w_sameB41 {b : Bool} {S : Sto} {R : DK} (q : R (.bl true) S) : dFn 2 B_law_same_6c33 [.bl b, .bl b] S R := by
  refine ⟨_, rfl, .inl (.inl ⟨b, rfl, _, rfl, .inl (.inl ⟨b, rfl, ?_⟩)⟩)⟩
  show R (.bl (decide (_ = _) ^^ false)) S
  rw [xor_ff, decide_eq_true rfl]
  exact q
end Sv
namespace Sv
open PySem PySem.Spec PyProof.Rows L2
theorem Fine.x {n W : Nat} {d : PyData} (h : Fine n W d) : FineX n W d := ⟨h.dep, h.wei, h.sho, PyData.leavesShort_of_canLay0 40 d h.lay h.ish⟩
theorem FineX.textD {n W : Nat} {d : PyData} (h : FineX n W d) (hn : n ≤ 60) (hW : W ≤ 300000) : TextD d := ⟨h.sho, Nat.le_trans h.dep hn, h.len hW⟩
theorem fine_none41 : Fine 0 101 .none := ⟨Nat.le_refl _, Nat.zero_le _, rfl, rfl, rfl⟩
theorem fine_bool41 (b : Bool) : Fine 0 101 (.bool b) := ⟨Nat.le_refl _, Nat.zero_le _, rfl, rfl, rfl⟩
structure EV (S : Sto) (d : D) (p : PyData) : Prop where
  tx : (Py S d p ∧ Fine 2 400 p) ∨ (PyD S d p ∧ FineX 2 400 p)
  ty : ∃ t ∈ tys, tyD S d = some t
  kd : (∃ i : Int, d = .int i ∧ p = .int i ∧ i.natAbs < 10 ^ 30) ∨ ((∀ i, d ≠ .int i) ∧ ∃ c ∈ wdT p, ¬ okC c)
theorem rp_disp {S : Sto} {d : D} {p : PyData} (h : Py S d p) (t : Text p) : ∀ R : DK, R (.str p.shown) S → rReprD [d] S R := fun R q => .inl (.inr (.inr ⟨_, _, rfl, h, t, q⟩))
theorem vv_other {S : Sto} {d : D} {p : PyData} {t : String} {c : Nat} {r : List Nat} (tx : (Py S d p ∧ Fine 2 400 p) ∨ (PyD S d p ∧ FineX 2 400 p)) (ht : t ∈ tys) (hn : t ≠ "tuple") (hd : tyD S d = some t) (rp : ∀ R : DK, R (.str p.shown) S → rReprD [d] S R) (hw : wdT p = c :: r) (h40 : c ≠ 40) : VV S d p :=
  ⟨tx.imp (fun h => ⟨h.1, h.2.mono (by decide) (by decide)⟩) (fun h => ⟨h.1, h.2.mono (by decide) (by decide)⟩), rp, .inr ⟨head_ne hw h40, .inl ⟨t, ht, hn, hd⟩⟩⟩
theorem fine_intsT {xs : List Int} (hl : xs.length ≤ 100) (hx : ∀ x ∈ xs, x.natAbs < 10 ^ 30) : Fine 1 12000 (.tuple (xs.map PyData.int)) := by
  have q : FineAll 0 (102 * xs.length) (iD xs) := fine_ints hx
  exact (fine_tuple q).mono (Nat.le_refl _) (by omega)
theorem vv_ints {S : Sto} {xs : List Int} (hl : xs.length ≤ 100) (hx : ∀ x ∈ xs, x.natAbs < 10 ^ 30) : VV S (.tup (intsD xs)) (.tuple (xs.map PyData.int)) := by
  have f := fine_intsT hl hx
  exact ⟨.inl ⟨.tup (pys_ints xs), f.mono (by decide) (by decide)⟩, rp_disp (.tup (pys_ints xs)) (f.text (by decide) (by decide) rfl), .inl ⟨xs, rfl, hl, rfl⟩⟩
theorem pys_nat41 {S : Sto} (c : List Nat) : Pys S (natD c) (c.map fun (n : Nat) => PyData.int (n : Int)) := by
  induction c with
  | nil => exact .nil
  | cons x c ih => exact .cons (.int _) ih
theorem pyds_nat41 {S : Sto} (c : List Nat) : PyDs S (natD c) (c.map fun (n : Nat) => PyData.int (n : Int)) := by
  induction c with
  | nil => exact .nil
  | cons x c ih => exact .cons (.int _) ih
theorem pys_app {S : Sto} : ∀ {a b : List D} {p q : List PyData}, Pys S a p → Pys S b q → Pys S (a ++ b) (p ++ q)
  | _, _, _, _, .nil, h => h
  | _, _, _, _, .cons x t, h => .cons x (pys_app t h)
theorem pyds_app {S : Sto} : ∀ {a b : List D} {p q : List PyData}, PyDs S a p → PyDs S b q → PyDs S (a ++ b) (p ++ q)
  | _, _, _, _, .nil, h => h
  | _, _, _, _, .cons x t, h => .cons x (pyds_app t h)
abbrev natPs (c : List Nat) : List PyData := c.map fun (n : Nat) => PyData.int (n : Int)
theorem fine_natE {c : List Nat} (h : ∀ x ∈ c, x ≤ 1000) : ∀ d ∈ natPs c, Fine 0 101 d := fun d hd => by
  obtain ⟨x, hx, rfl⟩ := List.mem_map.mp hd
  have := h x hx
  have e : (10 : Nat) ^ 30 = 1000000000000000000000000000000 := by decide
  exact fine_int (by show ((x : Int)).natAbs < _; omega)
theorem vv_bad {S : Sto} {as bs : List Nat} {e : D} {q : PyData} (hl : as.length + bs.length ≤ 20) (ha : ∀ x ∈ as, x ≤ 1000) (hb : ∀ x ∈ bs, x ≤ 1000) (he : EV S e q) (hn : ∀ i, e ≠ .int i) : VV S (.tup (natD as ++ e :: natD bs)) (.tuple (natPs as ++ q :: natPs bs)) := by
  have ll : (natPs as ++ q :: natPs bs).length ≤ 21 := by rw [List.length_append, List.length_cons, List.length_map, List.length_map]; omega
  have mem : ∀ d ∈ natPs as ++ q :: natPs bs, d ∈ natPs as ∨ d = q ∨ d ∈ natPs bs := fun d hd => (List.mem_append.mp hd).imp id fun h => List.mem_cons.mp h
  have kd : KdV S (.tup (natD as ++ e :: natD bs)) (.tuple (natPs as ++ q :: natPs bs)) := by
    rcases he.kd with ⟨i, h, _⟩ | ⟨_, c, hc, ok⟩
    · exact absurd h (hn i)
    · refine .inr ⟨tup_ne (List.mem_append_right _ List.mem_cons_self) hc ok, .inr ⟨_, rfl, ?_, fun x hx => ?_, e, List.mem_append_right _ List.mem_cons_self, hn⟩⟩
      · rw [List.length_append, List.length_cons, natD_len, natD_len]
        omega
      · rcases List.mem_append.mp hx with hx | hx
        · obtain ⟨n, _, rfl⟩ := List.mem_map.mp hx
          exact ⟨"int", by decide, rfl⟩
        · rcases List.mem_cons.mp hx with rfl | hx
          · exact he.ty
          · obtain ⟨n, _, rfl⟩ := List.mem_map.mp hx
            exact ⟨"int", by decide, rfl⟩
  rcases he.tx with ⟨hp, f⟩ | ⟨hp, f⟩
  · have fa : Fine 3 12000 (.tuple (natPs as ++ q :: natPs bs)) := (fine_tuple (fine_all (n := 2) (W := 400) fun d hd => by
      rcases mem d hd with h | rfl | h
      · exact (fine_natE ha d h).mono (by decide) (by decide)
      · exact f
      · exact (fine_natE hb d h).mono (by decide) (by decide))).mono (Nat.le_refl _) (by omega)
    have py : Py S (.tup (natD as ++ e :: natD bs)) (.tuple (natPs as ++ q :: natPs bs)) := .tup (pys_app (pys_nat41 as) (.cons hp (pys_nat41 bs)))
    exact ⟨.inl ⟨py, fa⟩, rp_disp py (fa.text (by decide) (by decide) rfl), kd⟩
  · have fa : FineX 3 12000 (.tuple (natPs as ++ q :: natPs bs)) := (finex_tuple (finex_all (n := 2) (W := 400) fun d hd => by
      rcases mem d hd with h | rfl | h
      · exact ((fine_natE ha d h).mono (by decide) (by decide)).x
      · exact f
      · exact ((fine_natE hb d h).mono (by decide) (by decide)).x)).mono (Nat.le_refl _) (by omega)
    have py : PyD S (.tup (natD as ++ e :: natD bs)) (.tuple (natPs as ++ q :: natPs bs)) := .tup (pyds_app (pyds_nat41 as) (.cons hp (pyds_nat41 bs)))
    exact ⟨.inr ⟨py, fa⟩, fun R q => .inr (.inr (.inr ⟨_, _, rfl, ⟨0, .inr ⟨_, rfl⟩⟩, py, fa.textD (by decide) (by decide), q⟩)), kd⟩
structure OV (S : Sto) (d : D) (p : PyData) : Prop where
  ev : EV S d p
  vv : VV S d p
section
variable {S : Sto}
theorem ov_non : OV S .non .none := by
  have e : wdT .none = [78, 111, 110, 101] := by unfold wdT; rw [PyData.shown_none]; rfl
  have tx : (Py S .non .none ∧ Fine 2 400 .none) ∨ (PyD S .non .none ∧ FineX 2 400 .none) := .inl ⟨.non, fine_none41.mono (by decide) (by decide)⟩
  refine ⟨⟨tx, ⟨_, by decide, rfl⟩, .inr ⟨fun i z => (nomatch z), 78, by rw [e]; decide, by unfold okC isDg; omega⟩⟩, vv_other (t := "NoneType") tx (by decide) (by decide) rfl (fun R q => .inl (.inr (.inl ⟨rfl, ?_⟩))) e (by decide)⟩
  rw [PyData.shown_none] at q
  exact q
theorem ov_bl (b : Bool) : OV S (.bl b) (.bool b) := by
  have tx : (Py S (.bl b) (.bool b) ∧ Fine 2 400 (.bool b)) ∨ (PyD S (.bl b) (.bool b) ∧ FineX 2 400 (.bool b)) := .inl ⟨.bl b, (fine_bool41 b).mono (by decide) (by decide)⟩
  have rp : ∀ R : DK, R (.str (PyData.bool b).shown) S → rReprD [.bl b] S R := fun R q => .inl (.inl ⟨b, rfl, by rw [PyData.shown_bool] at q; cases b <;> exact q⟩)
  cases b with
  | true =>
    have e : wdT (.bool true) = [84, 114, 117, 101] := by unfold wdT; rw [PyData.shown_bool]; rfl
    exact ⟨⟨tx, ⟨_, by decide, rfl⟩, .inr ⟨fun i z => (nomatch z), 84, by rw [e]; decide, by unfold okC isDg; omega⟩⟩, vv_other (t := "bool") tx (by decide) (by decide) rfl rp e (by decide)⟩
  | false =>
    have e : wdT (.bool false) = [70, 97, 108, 115, 101] := by unfold wdT; rw [PyData.shown_bool]; rfl
    exact ⟨⟨tx, ⟨_, by decide, rfl⟩, .inr ⟨fun i z => (nomatch z), 70, by rw [e]; decide, by unfold okC isDg; omega⟩⟩, vv_other (t := "bool") tx (by decide) (by decide) rfl rp e (by decide)⟩
theorem ev_int {i : Int} (h : i.natAbs < 10 ^ 30) : EV S (.int i) (.int i) := ⟨.inl ⟨.int i, (fine_int h).mono (by decide) (by decide)⟩, ⟨"int", by decide, rfl⟩, .inl ⟨i, rfl, rfl, h⟩⟩
theorem ov_int {i : Int} {c : Nat} {r : List Nat} (h : i.natAbs < 10 ^ 30) (hw : wdT (.int i) = c :: r) (h40 : c ≠ 40) : OV S (.int i) (.int i) := by
  refine ⟨ev_int h, vv_other (t := "int") (ev_int h).tx (by decide) (by decide) rfl (fun R q => .inr (.inl ⟨i, rfl, ?_, ?_⟩)) hw h40⟩
  · have := (fine_int h).sho
    exact of_decide_eq_true this
  · rw [PyData.shown_int] at q
    exact q
/-- a text has its quotes -/
theorem wd_str (x : Str) : ∃ c ∈ wdT (.str x), ¬ okC c := by
  refine ⟨reprQuote x, ?_, ?_⟩
  · unfold wdT
    rw [PyData.shown_str]
    unfold reprText
    rw [Array.toList_push]
    exact List.mem_append_right _ (List.mem_singleton.mpr rfl)
  · unfold reprQuote okC isDg
    split <;> omega
theorem ev_str {x : Str} (h1 : PyData.weight (.str x) ≤ 101) (h2 : PyData.canLay0 (.str x) = true) : EV S (.str x) (.str x) :=
  ⟨.inl ⟨.str x, (fine_str h1 h2 rfl).mono (by decide) (by decide)⟩, ⟨"str", by decide, rfl⟩, .inr ⟨fun i z => (nomatch z), wd_str x⟩⟩
theorem ov_str {x : Str} {c : Nat} {r : List Nat} (h1 : PyData.weight (.str x) ≤ 101) (h2 : PyData.canLay0 (.str x) = true) (hl : (reprText x).length ≤ sizeLine) (hw : wdT (.str x) = c :: r) (h40 : c ≠ 40) : OV S (.str x) (.str x) := by
  refine ⟨ev_str h1 h2, vv_other (t := "str") (ev_str h1 h2).tx (by decide) (by decide) rfl (fun R q => .inr (.inr (.inl ⟨x, rfl, hl, ?_⟩))) hw h40⟩
  rw [PyData.shown_str] at q
  exact q
theorem ev_tup {ds : List D} {ps : List PyData} {c : Nat} (h : Pys S ds ps) (f : Fine 2 400 (.tuple ps)) (hc : c ∈ wdT (.tuple ps)) (ok : ¬ okC c) : EV S (.tup ds) (.tuple ps) := ⟨.inl ⟨.tup h, f⟩, ⟨"tuple", by decide, rfl⟩, .inr ⟨fun i z => (nomatch z), c, hc, ok⟩⟩
theorem nok40 : ¬ okC 40 := by
  unfold okC isDg
  omega
theorem wd_tup40 (ps : List PyData) : 40 ∈ wdT (.tuple ps) := by
  rw [tup_chars]
  exact List.mem_cons_self
theorem ov_ints {xs : List Int} (hl : xs.length ≤ 3) (hx : ∀ x ∈ xs, x.natAbs < 10 ^ 30) : OV S (.tup (intsD xs)) (.tuple (xs.map PyData.int)) := by
  have q : FineAll 0 (102 * xs.length) (iD xs) := fine_ints hx
  exact ⟨ev_tup (pys_ints xs) ((fine_tuple q).mono (by decide) (by omega)) (wd_tup40 _) nok40, vv_ints (by omega) hx⟩
theorem ov_tup1 {e : D} {q : PyData} (he : EV S e q) (hn : ∀ i, e ≠ .int i) (hp : Py S e q) (f : Fine 1 300 q) : OV S (.tup [e]) (.tuple [q]) :=
  ⟨ev_tup (.cons hp .nil) ((fine_tuple (fine_cons f (fine_nil.mono (Nat.zero_le _) (Nat.le_refl _)))).mono (by decide) (by decide)) (wd_tup40 _) nok40, vv_bad (as := []) (bs := []) (by decide) (fun x h => nomatch h) (fun x h => nomatch h) he hn⟩
theorem ov_lst {a : Addr} {xs : List Int} (ha : S a = some (.lst (intsD xs))) (hl : xs.length ≤ 3) (hx : ∀ x ∈ xs, x.natAbs < 10 ^ 30) : OV S (.ref a) (.list (xs.map PyData.int)) := by
  have q : FineAll 0 (102 * xs.length) (iD xs) := fine_ints hx
  have f : Fine 2 400 (.list (xs.map PyData.int)) := (fine_list q).mono (by decide) (by omega)
  have py : Py S (.ref a) (.list (xs.map PyData.int)) := .lst ha (pys_ints xs)
  have ty : tyD S (.ref a) = some "list" := by
    show (match S a with | some (.lst _) => some "list" | some (.dK _) => some "dict" | _ => none) = _
    rw [ha]
  have e : ∃ r, wdT (.list (xs.map PyData.int)) = 91 :: r := by
    unfold wdT
    rw [PyData.shown_list, Str.cps_append, Str.cps_append, Array.toList_append, Array.toList_append]
    exact ⟨_, rfl⟩
  obtain ⟨r, e⟩ := e
  exact ⟨⟨.inl ⟨py, f⟩, ⟨_, by decide, ty⟩, .inr ⟨fun i z => (nomatch z), 91, by rw [e]; exact List.mem_cons_self, by unfold okC isDg; omega⟩⟩, vv_other (t := "list") (.inl ⟨py, f⟩) (by decide) (by decide) ty (rp_disp py (f.text (by decide) (by decide) rfl)) e (by decide)⟩
theorem ov_dct {a : Addr} {kvs : List (Key × D)} {p : PyData} {r : List Nat} (ha : S a = some (.dK kvs)) (py : PyD S (.ref a) p) (f : FineX 2 400 p) (e : wdT p = 123 :: r) : OV S (.ref a) p := by
  have ty : tyD S (.ref a) = some "dict" := by
    show (match S a with | some (.lst _) => some "list" | some (.dK _) => some "dict" | _ => none) = _
    rw [ha]
  exact ⟨⟨.inr ⟨py, f⟩, ⟨_, by decide, ty⟩, .inr ⟨fun i z => (nomatch z), 123, by rw [e]; exact List.mem_cons_self, by unfold okC isDg; omega⟩⟩, vv_other (t := "dict") (.inr ⟨py, f⟩) (by decide) (by decide) ty (fun R q => .inr (.inr (.inr ⟨_, _, rfl, ⟨a, .inl rfl⟩, py, f.textD (by decide) (by decide), q⟩))) e (by decide)⟩
end
end Sv
namespace Sv
open PySem PySem.Spec PyProof.Rows L2
/-- what is new since S0 stays -/
def KpN (S0 S S' : Sto) : Prop := ∀ a o, S0 a = none → S a = some o → S' a = some o
def StOV (S0 S : Sto) (d : D) (p : PyData) : Prop := ∀ S', KpN S0 S S' → OV S' d p
def StEV (S0 S : Sto) (d : D) (p : PyData) : Prop := ∀ S', KpN S0 S S' → EV S' d p
def StVV (S0 S : Sto) (d : D) (p : PyData) : Prop := ∀ S', KpN S0 S S' → VV S' d p
theorem KpN.back {st big : Addr} {S S1 S2 S' : Sto} (h : KpN S S2 S') (D1 : Deck st big S1) (k1 : SK (DP st big) S S1) : KpN S1 S2 S' := fun a o n e => h a o (SK.free k1 n (nDP (D1.fresh n))) e
def odds (a1 a2 a3 a4 : Addr) : List D := [.non, .bl true, .bl false, .int 0, .int 1, .int (-1), .int (10 ^ 29), .str "", .str "0", .tup [], .tup [.int 0], .tup [.int 1], .tup [.bl true], .ref a1, .ref a2, .ref a3, .ref a4, .tup [.tup [.int 0]]]
theorem w_odd41 {st big : Addr} {S : Sto} {R : DK} (h : Deck st big S) (k : ∀ d p S', StOV S S' d p → Deck st big S' → SK (DP st big) S S' → R d S') : dFn 2 B_law_odd_0e8b [.ref st] S R := by
  have e29 : ((10 : Int) ^ (29 : Int).toNat) = 10 ^ 29 := rfl
  refine ⟨⟨by decide, by decide, by decide⟩, rfl, rfl, rfl, rfl, rfl, fun a1 n1 => ⟨rfl, fun a2 n2 => fun a3 n3 => fun a4 n4 => ⟨.inr "a", rfl, Sto.same, rfl, rfl, rfl, fun a5 n5 => ?_⟩⟩⟩
  rw [Sto.put_put] at n5 ⊢
  generalize hS1 : S.put a1 (.lst []) = S1 at n2 n3 n4 n5 ⊢
  generalize hS2 : S1.put a2 (.lst [.int 0]) = S2 at n3 n4 n5 ⊢
  generalize hS3 : S2.put a3 (.dK []) = S3 at n4 n5 ⊢
  generalize hS4 : S3.put a4 (.dK [(.inr "a", .int 1)]) = S4 at n5 ⊢
  have g1 : SG S S1 := by rw [← hS1]; exact .new n1
  have g2 : SG S1 S2 := by rw [← hS2]; exact .new n2
  have g3 : SG S2 S3 := by rw [← hS3]; exact .new n3
  have g4 : SG S3 S4 := by rw [← hS4]; exact .new n4
  have h1 : S1 a1 = some (.lst []) := by rw [← hS1]; exact Sto.same
  have h2 : S2 a2 = some (.lst [.int 0]) := by rw [← hS2]; exact Sto.same
  have h3 : S3 a3 = some (.dK []) := by rw [← hS3]; exact Sto.same
  have h4 : S4 a4 = some (.dK [(.inr "a", .int 1)]) := by rw [← hS4]; exact Sto.same
  have D1 := h.keep g1
  have D2 := D1.keep g2
  have D3 := D2.keep g3
  have D4 := D3.keep g4
  have f1 := h.fresh n1
  have f2 := D1.fresh n2
  have f3 := D2.fresh n3
  have f4 := D3.fresh n4
  have f5 := D4.fresh n5
  refine ⟨_, rfl, _, rfl, rfl, w_next (D4.keep (SK.new n5)) (by decide) (by decide) fun j S6 j0 j1 D6 k6 => ?_⟩
  have g5 : SG S4 (S4.put a5 (.lst (odds a1 a2 a3 a4))) := SK.new n5
  have kk : SK (DP st big) S S6 := (SG.sk ((((g1.trans g2).trans g3).trans g4).trans g5)).trans k6
  have h5 : S6 a5 = some (.lst (odds a1 a2 a3 a4)) := k6 _ _ (nDP f5) (Sto.same (S := S4))
  have k46 : SK (DP st big) S4 S6 := (SG.sk g5).trans k6
  obtain ⟨m, rfl⟩ : ∃ m : Nat, j = (m : Int) := ⟨j.toNat, by omega⟩
  have hm : m < 18 := by omega
  have go : ∀ (x : D) (p : PyData), (odds a1 a2 a3 a4)[m]? = some x → (∀ S', KpN S S6 S' → OV S' x p) → rIxq (.ref a5) (.int (m : Int)) S6 R := fun x p hx ho =>
    ⟨_, _, _, seqOf_lst h5, rfl, atI_nat hx, k x p S6 ho D6 kk⟩
  have b29 : ((10 : Int) ^ 29).natAbs < 10 ^ 30 := by decide +kernel
  have hm : m = 0 ∨ m = 1 ∨ m = 2 ∨ m = 3 ∨ m = 4 ∨ m = 5 ∨ m = 6 ∨ m = 7 ∨ m = 8 ∨ m = 9 ∨ m = 10 ∨ m = 11 ∨ m = 12 ∨ m = 13 ∨ m = 14 ∨ m = 15 ∨ m = 16 ∨ m = 17 := by omega
  have one : ∀ {i : Int}, i.natAbs < 10 ^ 30 → ∀ x ∈ [i], x.natAbs < 10 ^ 30 := fun hi x hx => by rw [List.mem_singleton.mp hx]; exact hi
  have z30 : (0 : Int).natAbs < 10 ^ 30 := by decide +kernel
  have o30 : (1 : Int).natAbs < 10 ^ 30 := by decide +kernel
  have wi : ∀ {i : Int} {c : Nat} {r : List Nat}, (Str.ofString (toString i : String)).cps.toList = c :: r → wdT (.int i) = c :: r := fun e => by unfold wdT; rw [PyData.shown_int]; exact e
  have ws : ∀ {x : Str} {c : Nat} {r : List Nat}, (reprText x).cps.toList = c :: r → wdT (.str x) = c :: r := fun e => by unfold wdT; rw [PyData.shown_str]; exact e
  rcases hm with rfl | rfl | rfl | rfl | rfl | rfl | rfl | rfl | rfl | rfl | rfl | rfl | rfl | rfl | rfl | rfl | rfl | rfl
  · exact go _ _ rfl fun _ _ => ov_non
  · exact go _ _ rfl fun _ _ => ov_bl true
  · exact go _ _ rfl fun _ _ => ov_bl false
  · exact go _ _ rfl fun _ _ => ov_int z30 (wi (r := []) (c := 48) (by decide +kernel)) (by decide)
  · exact go _ _ rfl fun _ _ => ov_int o30 (wi (r := []) (c := 49) (by decide +kernel)) (by decide)
  · exact go _ _ rfl fun _ _ => ov_int (by decide +kernel) (wi (r := [49]) (c := 45) (by decide +kernel)) (by decide)
  · exact go _ _ rfl fun _ _ => ov_int b29 (wi (r := List.replicate 29 48) (c := 49) (by decide +kernel)) (by decide)
  · exact go _ _ rfl fun _ _ => ov_str (by decide +kernel) (by decide +kernel) (by decide +kernel) (ws (r := [39]) (c := 39) (by decide +kernel)) (by decide)
  · exact go _ _ rfl fun _ _ => ov_str (by decide +kernel) (by decide +kernel) (by decide +kernel) (ws (r := [48, 39]) (c := 39) (by decide +kernel)) (by decide)
  · exact go _ _ rfl fun _ _ => ov_ints (xs := []) (by decide) (fun x hx => nomatch hx)
  · exact go _ _ rfl fun _ _ => ov_ints (xs := [0]) (by decide) (one z30)
  · exact go _ _ rfl fun _ _ => ov_ints (xs := [1]) (by decide) (one o30)
  · exact go _ _ rfl fun _ _ => ov_tup1 (ov_bl true).ev (fun i z => nomatch z) (.bl true) ((fine_bool41 true).mono (by decide) (by decide))
  · exact go _ _ rfl fun S' sk => ov_lst (xs := []) (sk _ _ n1 (k46 _ _ (nDP f1) (((g2.trans g3).trans g4) _ _ (fun z => z) h1))) (by decide) (fun x hx => nomatch hx)
  · exact go _ _ rfl fun S' sk => ov_lst (xs := [0]) (sk _ _ (SG.none' g1 n2) (k46 _ _ (nDP f2) ((g3.trans g4) _ _ (fun z => z) h2))) (by decide) (one z30)
  · refine go _ (.dict []) rfl fun S' sk => ?_
    have hd := sk _ _ (SG.none' (g1.trans g2) n3) (k46 _ _ (nDP f3) (g4 _ _ (fun z => z) h3))
    exact ov_dct (r := [125]) hd (.d0 hd) ⟨by decide +kernel, by decide +kernel, by decide +kernel, by decide +kernel⟩ (by unfold wdT; rw [PyData.shown_dict]; rfl)
  · refine go _ (.dict [(.str "a", .int 1)]) rfl fun S' sk => ?_
    have hd := sk _ _ (SG.none' ((g1.trans g2).trans g3) n4) (k46 _ _ (nDP f4) h4)
    refine ov_dct (r := [39, 97, 39, 58, 32, 49, 125]) hd (.d1 hd) ⟨by decide +kernel, by decide +kernel, by decide +kernel, by decide +kernel⟩ (by decide +kernel)
  · exact go _ _ rfl fun _ _ => ov_tup1 (ov_ints (xs := [0]) (by decide) (one z30)).ev (fun i z => nomatch z) (.tup (pys_ints [0])) ((fine_tuple (fine_ints (one z30))).mono (by decide) (by decide))
end Sv
namespace Sv
open PySem PySem.Spec PyProof.Rows L2 PySem.W.KIN
theorem small30 {i : Int} (h : -10000 ≤ i ∧ i ≤ 10000) : i.natAbs < 10 ^ 30 := by
  have e : (10 : Nat) ^ 30 = 1000000000000000000000000000000 := by decide
  omega
theorem ev_strI {S : Sto} {v : Nat} (h : v ≤ 1000) : EV S (.str ((toString ((v : Nat) : Int) : String) : Str)) (.str ((toString ((v : Nat) : Int) : String) : Str)) := by
  have f := fine_int (i := (v : Int)) (small30 (by omega))
  refine ev_str ?_ ?_
  · have := of_decide_eq_true f.ish
    rw [PyData.shown_int] at this
    show (Str.ofString (toString ((v : Nat) : Int) : String)).cps.size ≤ 101
    have this : (Str.ofString (toString ((v : Nat) : Int) : String)).cps.size ≤ 40 := this
    omega
  · show PyData.strOk (Str.ofString (toString ((v : Nat) : Int) : String)) = true
    unfold PyData.strOk
    rw [← Array.all_toList, List.all_eq_true]
    intro c hc
    rw [signs_num] at hc
    obtain ⟨d, hd, rfl⟩ := List.mem_map.mp hc
    have := digit_range (Nat.isDigit_of_mem_toDigits (by decide) (by decide) hd)
    exact decide_eq_true (by omega)
theorem w_chgE {self : DTS} {st big : Addr} {v : Nat} {S : Sto} {R : DK} (h : Deck st big S) (hv : v ≤ 1000) (k : ∀ d p S', StEV S S' d p → Deck st big S' → SK (DP st big) S S' → R d S') : dFn 4 (Bs_law_changed_f68e self) [.ref st, .int (v : Int)] S R := by
  refine ⟨_, rfl, _, "tuple", "int", false, rfl, rfl, by decide +kernel, _, rfl, goF (goF ?_)⟩
  refine ⟨_, rfl, rfl, w_next h (by decide) (by decide) fun way S1 w0 w1 D1 k1 => ?_⟩
  refine ⟨_, rfl, _, "tuple", "int", false, rfl, rfl, by decide +kernel, _, rfl, goF (goF ?_)⟩
  refine ⟨_, rfl, _, "int", "int", true, rfl, rfl, by decide +kernel, _, rfl, goT ⟨_, rfl, _, "bool", "int", false, rfl, rfl, by decide +kernel, _, rfl, goT ⟨_, rfl, _, rfl, iteB (fun lt => ?_) fun _ => ?_⟩⟩⟩
  · have lt : way < 5 := of_decide_eq_true lt
    obtain ⟨m, rfl⟩ : ∃ m : Nat, way = (m : Int) := ⟨way.toNat, by omega⟩
    have hl := of_decide_eq_true (fine_int (i := (v : Int)) (small30 (by omega))).sho
    refine ⟨_, rfl, _, rfl, _, rfl, _, rfl, _, rfl, ⟨hl, rfl, fun a na => ⟨_, rfl, ?_⟩⟩⟩
    have fa := D1.fresh na
    have kk : SK (DP st big) S (S1.put a (.lst [.int ((v : Int) + 1), .int ((v : Int) - 1), .bl (decide ((v : Int) = 1) ^^ false), .str ((toString ((v : Nat) : Int) : String) : Str), .int 0])) := k1.trans (SK.new na)
    have D2 := D1.keep (SK.new (o := .lst [.int ((v : Int) + 1), .int ((v : Int) - 1), .bl (decide ((v : Int) = 1) ^^ false), .str ((toString ((v : Nat) : Int) : String) : Str), .int 0]) na)
    have go : ∀ (x : D) (p : PyData), ([.int ((v : Int) + 1), .int ((v : Int) - 1), .bl (decide ((v : Int) = 1) ^^ false), .str ((toString ((v : Nat) : Int) : String) : Str), .int 0] : List D)[m]? = some x → (∀ S', EV S' x p) → rIxq (.ref a) (.int (m : Int)) (S1.put a (.lst [.int ((v : Int) + 1), .int ((v : Int) - 1), .bl (decide ((v : Int) = 1) ^^ false), .str ((toString ((v : Nat) : Int) : String) : Str), .int 0])) R := fun x p hx ho =>
      ⟨_, _, _, seqOf_lst Sto.same, rfl, atI_nat hx, k x p _ (fun S' _ => ho S') D2 kk⟩
    have hm : m = 0 ∨ m = 1 ∨ m = 2 ∨ m = 3 ∨ m = 4 := by omega
    rcases hm with rfl | rfl | rfl | rfl | rfl
    · exact go _ _ rfl fun _ => ev_int (small30 (by omega))
    · exact go _ _ rfl fun _ => ev_int (small30 (by omega))
    · exact go _ _ rfl fun _ => (ov_bl _).ev
    · exact go _ _ rfl fun _ => ev_strI hv
    · exact go _ _ rfl fun _ => ev_int (small30 (by omega))
  · exact ⟨_, rfl, rfl, w_odd41 D1 fun d p S2 ho D2 k2 => k d p S2 (fun S3 sk => (ho S3 (sk.back D1 k1)).ev) D2 (k1.trans k2)⟩
end Sv
namespace Sv
open PySem PySem.Spec PyProof.Rows L2
theorem cut_to41 {ds : List D} {n : Nat} (h : n ≤ ds.length) : cutD ds none (some (n : Int)) = ds.take n := by
  unfold cutD
  rw [HT.sIx_none, HT.sIx_nat, Nat.min_eq_left h, List.drop_zero, Nat.sub_zero]
theorem cut_from41 {ds : List D} {n : Nat} (h : n ≤ ds.length) : cutD ds (some (n : Int)) none = ds.drop n := by
  unfold cutD
  rw [HT.sIx_none, HT.sIx_nat, Nat.min_eq_left h, List.take_of_length_le (by rw [List.length_drop]; omega)]
theorem sIx_m1 (n d : Nat) (h : 1 ≤ n) : HT.sIx n d (some (-1)) = n - 1 := by
  show (if (-1 : Int) < 0 then ((-1 : Int) + (n : Int)).toNat else min (-1 : Int).toNat n) = n - 1
  rw [if_pos (by decide)]
  omega
theorem cut_to_m1 {ds : List D} (h : 1 ≤ ds.length) : cutD ds none (some (-1)) = ds.take (ds.length - 1) := by
  unfold cutD
  rw [HT.sIx_none, sIx_m1 _ _ h, List.drop_zero, Nat.sub_zero]
theorem cut_from_m1 {ds : List D} (h : 1 ≤ ds.length) : cutD ds (some (-1)) none = ds.drop (ds.length - 1) := by
  unfold cutD
  rw [HT.sIx_none, sIx_m1 _ _ h, List.take_of_length_le (by rw [List.length_drop]; omega)]
theorem natD_take (c : List Nat) (n : Nat) : (natD c).take n = natD (c.take n) := by
  unfold natD
  rw [List.map_take]
theorem natD_drop (c : List Nat) (n : Nat) : (natD c).drop n = natD (c.drop n) := by
  unfold natD
  rw [List.map_drop]
theorem natD_app (a b : List Nat) : natD a ++ natD b = natD (a ++ b) := by
  unfold natD
  rw [List.map_append]
theorem vv_nat {S : Sto} {c : List Nat} (hl : c.length ≤ 100) (hc : ∀ x ∈ c, x ≤ 1000) : ∃ p, VV S (.tup (natD c)) p ∧ p = natP c := by
  refine ⟨_, ?_, (natP_eq c).symm⟩
  rw [natD_ints41]
  exact vv_ints (by rw [List.length_map]; exact hl) fun x hx => by
    obtain ⟨n, hn, rfl⟩ := List.mem_map.mp hx
    have := hc n hn
    exact small30 (by omega)
theorem st_nat {S0 S : Sto} {c : List Nat} (hl : c.length ≤ 100) (hc : ∀ x ∈ c, x ≤ 1000) : StVV S0 S (.tup (natD c)) (natP c) := fun S' _ => by
  obtain ⟨p, h, rfl⟩ := vv_nat (S := S') hl hc
  exact h
theorem vv_lstN {S : Sto} {a : Addr} {c : List Nat} (ha : S a = some (.lst (natD c))) (hl : c.length ≤ 20) (hc : ∀ x ∈ c, x ≤ 1000) : VV S (.ref a) (.list ((c.map fun n : Nat => (n : Int)).map PyData.int)) := by
  have q : FineAll 0 (102 * (c.map fun n : Nat => (n : Int)).length) (iD (c.map fun n : Nat => (n : Int))) := fine_ints fun x hx => by
    obtain ⟨n, hn, rfl⟩ := List.mem_map.mp hx
    have := hc n hn
    exact small30 (by omega)
  rw [List.length_map] at q
  have f : Fine 3 12000 (.list ((c.map fun n : Nat => (n : Int)).map PyData.int)) := (fine_list q).mono (by decide) (by omega)
  have py : Py S (.ref a) (.list ((c.map fun n : Nat => (n : Int)).map PyData.int)) := .lst ha (by rw [natD_ints41]; exact pys_ints _)
  have ty : tyD S (.ref a) = some "list" := by
    show (match S a with | some (.lst _) => some "list" | some (.dK _) => some "dict" | _ => none) = _
    rw [ha]
  have e : ∃ r, wdT (.list ((c.map fun n : Nat => (n : Int)).map PyData.int)) = 91 :: r := by
    unfold wdT
    rw [PyData.shown_list, Str.cps_append, Str.cps_append, Array.toList_append, Array.toList_append]
    exact ⟨_, rfl⟩
  obtain ⟨r, e⟩ := e
  exact ⟨.inl ⟨py, f⟩, rp_disp py (f.text (by decide) (by decide) rfl), .inr ⟨head_ne e (by decide), .inl ⟨_, by decide, by decide, ty⟩⟩⟩
theorem w_chgV {st big : Addr} {c : List Nat} {S : Sto} {R : DK} (h : Deck st big S) (h1 : 1 ≤ c.length) (hl : c.length ≤ 20) (hc : ∀ x ∈ c, x ≤ 1000) (k : ∀ d p S', StVV S S' d p → Deck st big S' → SK (DP st big) S S' → R d S') : dFn 4 B_law_changed_f68e [.ref st, .tup (natD c)] S R := by
  have nl : (natD c).length = c.length := natD_len c
  have ctk : ∀ n, ∀ x ∈ c.take n, x ≤ 1000 := fun n x hx => hc x (List.mem_of_mem_take hx)
  have cdr : ∀ n, ∀ x ∈ c.drop n, x ≤ 1000 := fun n x hx => hc x (List.mem_of_mem_drop hx)
  -- not in the middle
  have rest : ∀ S1, Deck st big S1 → SK (DP st big) S S1 → (dSeq (dAsg (dCall 2 (dFn 4 B_law_next_74a4) (dCons (dVar 0) (dCons (dC (.int 6)) (dNil)))) (dgName 3))
      (dSeq (dIfS (dAnd (dB (dCB rIsi (dCons (dVar 1) (dCons (dC (.ty "tuple")) (dNil))))) (dB (dBin (rCmp fun i j => decide (i < j)) (dVar 3) (dC (.int 5))))) (dRet (dBin rIxq (dLst (dCons (dSl (dVar 1) (dNoP) (dPart (dUn rNeg (dC (.int 1))))) (dCons (dBin rAdd (dVar 1) (dSl (dVar 1) (dPart (dUn rNeg (dC (.int 1)))) (dNoP))) (dCons (dCB (rListq) (dCons (dVar 1) (dNil))) (dCons (dRev (dVar 1)) (dCons (dBin rAdd (dVar 1) (dTup (dCons (dC (.int 0)) (dNil)))) (dNil))))))) (dVar 3))) (dNext))
      (dSeq (dIfS (dAnd (dB (dCB rIsi (dCons (dVar 1) (dCons (dC (.ty "int")) (dNil))))) (dAnd (dNot (dB (dCB rIsi (dCons (dVar 1) (dCons (dC (.ty "bool")) (dNil)))))) (dB (dBin (rCmp fun i j => decide (i < j)) (dVar 3) (dC (.int 5)))))) (dRet (dBin rIxq (dLst (dCons (dBin rAdd (dVar 1) (dC (.int 1))) (dCons (dBin rSub (dVar 1) (dC (.int 1))) (dCons (dBin (rEqq false) (dVar 1) (dC (.int 1))) (dCons (dCB (rStr) (dCons (dVar 1) (dNil))) (dCons (dC (.int 0)) (dNil))))))) (dVar 3))) (dNext))
      (dRet (dCall 1 (dFn 2 B_law_odd_0e8b) (dCons (dVar 0) (dNil))))))) { nx := fun _ S' => R .non S', rt := R } (dStart 4 [.ref st, .tup (natD c)]) S1 := fun S1 D1 k1 => by
    refine ⟨_, rfl, rfl, w_next D1 (by decide) (by decide) fun way S2 w0 w1 D2 k2 => ?_⟩
    have k12 := k1.trans k2
    refine ⟨_, rfl, _, "tuple", "tuple", true, rfl, rfl, by decide +kernel, _, rfl, goT ⟨_, rfl, _, rfl, iteB (fun lt => ?_) fun _ => ?_⟩⟩
    · have lt : way < 5 := of_decide_eq_true lt
      obtain ⟨m, rfl⟩ : ∃ m : Nat, way = (m : Int) := ⟨way.toNat, by omega⟩
      refine ⟨_, rfl, (-1), rfl, ?_⟩
      dsimp only [rSlq, dNoP]
      rw [cut_to_m1 (by omega), nl, natD_take]
      refine ⟨_, rfl, _, rfl, (-1), rfl, ?_⟩
      dsimp only [rSlq, dNoP]
      rw [cut_from_m1 (by omega), nl, natD_drop]
      refine ⟨by rw [natD_len, natD_len, List.length_drop]; omega, ?_⟩
      rw [natD_app]
      refine ⟨_, rfl, _, _, rfl, rfl, fun b nb => ?_⟩
      have fb := D2.fresh nb
      refine ⟨_, rfl, _, rfl, _, rfl, rfl, ⟨by rw [natD_len]; show c.length + 1 ≤ 100000; omega, rfl, fun a na => ⟨_, rfl, ?_⟩⟩⟩
      have ba : b ≠ a := fun z => by rw [z, Sto.same] at na; cases na
      have fa := D2.fresh (SG.none' (SK.new nb) na)
      generalize hS3 : S2.put b (.lst (natD c)) = S3 at na ⊢
      have g3 : SG S2 S3 := by rw [← hS3]; exact .new nb
      have hb3 : S3 b = some (.lst (natD c)) := by rw [← hS3]; exact Sto.same
      generalize hL : ([.tup (natD (c.take (c.length - 1))), .tup (natD (c ++ c.drop (c.length - 1))), .ref b, .tup (natD c).reverse, .tup (natD c ++ [.int 0])] : List D) = L
      have g4 : SG S3 (S3.put a (.lst L)) := .new na
      have D4 := (D2.keep g3).keep g4
      have hb4 := g4 _ _ (fun z => z) hb3
      have kk : SK (DP st big) S (S3.put a (.lst L)) := k12.trans (SG.sk (g3.trans g4))
      have go : ∀ (x : D) (p : PyData), L[m]? = some x → StVV S (S3.put a (.lst L)) x p → rIxq (.ref a) (.int (m : Int)) (S3.put a (.lst L)) R := fun x p hx ho =>
        ⟨_, _, _, seqOf_lst Sto.same, rfl, atI_nat hx, k x p _ ho D4 kk⟩
      have hm : m = 0 ∨ m = 1 ∨ m = 2 ∨ m = 3 ∨ m = 4 := by omega
      have erev : (natD c).reverse = natD c.reverse := by unfold natD; rw [List.map_reverse]
      have ez : natD c ++ [.int 0] = natD (c ++ [0]) := (natD_app c [0])
      rcases hm with rfl | rfl | rfl | rfl | rfl
      · exact go _ _ (by rw [← hL]; rfl) (st_nat (by rw [List.length_take]; omega) (ctk _))
      · exact go _ _ (by rw [← hL]; rfl) (st_nat (by rw [List.length_append, List.length_drop]; omega) fun x hx => (List.mem_append.mp hx).elim (hc x) (cdr _ x))
      · exact go _ _ (by rw [← hL]; rfl) fun S' sk => vv_lstN (sk _ _ (SK.free k12 nb (nDP fb)) hb4) hl hc
      · exact go _ (natP c.reverse) (by rw [← hL, erev]; rfl) (st_nat (by rw [List.length_reverse]; omega) fun x hx => hc x (List.mem_reverse.mp hx))
      · exact go _ (natP (c ++ [0])) (by rw [← hL, ez]; rfl) (st_nat (by rw [List.length_append]; show c.length + 1 ≤ 100; omega) fun x hx => (List.mem_append.mp hx).elim (hc x) fun h => by rw [List.mem_singleton.mp h]; omega)
    · refine ⟨_, rfl, _, "int", "tuple", false, rfl, rfl, by decide +kernel, _, rfl, goF (goF ?_)⟩
      exact ⟨_, rfl, rfl, w_odd41 D2 fun d p S3 ho D3 k3 => k d p S3 (fun S' sk => (ho S' (sk.back D2 k12)).vv) D3 (k12.trans k3)⟩
  refine ⟨_, rfl, _, "tuple", "tuple", true, rfl, rfl, by decide +kernel, _, rfl, goT ⟨_, rfl, rfl, _, .tuple [], py_nat c, .tup .nil, shaped_tup _, by decide +kernel, _, rfl, ?_⟩⟩
  rw [eqv_nilT, show ((((c.map fun (x : Nat) => (x : Int)).map PyData.int)).isEmpty ^^ true) = true by cases c with | nil => exact absurd h1 (by decide) | cons a r => rfl]
  refine goT ⟨_, rfl, rfl, w_next h (by decide) (by decide) fun dd S1 d0 d1 D1 k1 => ⟨_, rfl, iteB (fun _ => ?_) fun _ => ?_⟩⟩
  · refine ⟨_, rfl, _, rfl, _, _, rfl, rfl, rfl, w_next D1 (by rw [nl]; omega) (by rw [nl]; omega) fun at' S2 a0 a1 D2 k2 => ?_⟩
    rw [nl] at a1
    obtain ⟨m, rfl⟩ : ∃ m : Nat, at' = (m : Int) := ⟨at'.toNat, by omega⟩
    have hm : m < c.length := by omega
    have hx := List.getElem?_eq_getElem hm
    refine ⟨_, rfl, _, rfl, (m : Int), rfl, ?_⟩
    dsimp only [rSlq, dNoP]
    rw [cut_to41 (by omega), natD_take]
    refine ⟨_, rfl, _, rfl, _, rfl, _, _, _, rfl, rfl, atI_nat (natD_at hx), rfl, w_chgE D2 (hc _ (List.getElem_mem ..)) fun e q S3 he D3 k3 => ⟨rfl, ?_⟩⟩
    refine ⟨by rw [natD_len, List.length_take]; show min m c.length + 1 ≤ 100000; omega, ?_⟩
    refine ⟨_, rfl, _, rfl, ((m : Int) + 1), rfl, ?_⟩
    dsimp only [rSlq, dNoP]
    rw [show ((m : Int) + 1) = ((m + 1 : Nat) : Int) by omega, cut_from41 (by omega), natD_drop]
    refine ⟨by rw [List.length_append, natD_len, natD_len, List.length_take, List.length_drop]; show min m c.length + 1 + _ ≤ 100000; omega, ?_⟩
    have kk := (k1.trans k2).trans k3
    have lt1 : (c.take m).length + (c.drop (m + 1)).length ≤ 20 := by rw [List.length_take, List.length_drop]; omega
    rw [List.append_assoc]
    by_cases hi : ∃ i, e = .int i
    · obtain ⟨i, rfl⟩ := hi
      refine k _ (.tuple (((c.take m).map (fun n : Nat => (n : Int)) ++ i :: (c.drop (m + 1)).map fun n : Nat => (n : Int)).map PyData.int)) S3 (fun S' sk => ?_) D3 kk
      have hb : i.natAbs < 10 ^ 30 := by
        rcases (he S' (sk.back D2 (k1.trans k2))).kd with ⟨j, h, _, hj⟩ | ⟨h, _⟩
        · injection h with h
          rw [h]
          exact hj
        · exact absurd rfl (h i)
      have ed : natD (c.take m) ++ ([D.int i] ++ natD (c.drop (m + 1))) = intsD ((c.take m).map (fun n : Nat => (n : Int)) ++ i :: (c.drop (m + 1)).map fun n : Nat => (n : Int)) := by
        rw [natD_ints41, natD_ints41]
        unfold intsD
        rw [List.map_append, List.map_cons]
        rfl
      rw [ed]
      refine vv_ints (by rw [List.length_append, List.length_cons, List.length_map, List.length_map]; omega) fun x hx => ?_
      rcases List.mem_append.mp hx with hx | hx
      · obtain ⟨n, hn, rfl⟩ := List.mem_map.mp hx
        have := ctk m n hn
        exact small30 (by omega)
      · rcases List.mem_cons.mp hx with rfl | hx
        · exact hb
        · obtain ⟨n, hn, rfl⟩ := List.mem_map.mp hx
          have := cdr (m + 1) n hn
          exact small30 (by omega)
    · have hi : ∀ i, e ≠ .int i := fun i z => hi ⟨i, z⟩
      exact k _ _ S3 (fun S' sk => vv_bad lt1 (ctk m) (cdr (m + 1)) (he S' (sk.back D2 (k1.trans k2))) hi) D3 kk
  · exact rest S1 D1 k1
end Sv
namespace Sv
open PySem PySem.Spec PyProof.Rows L2
theorem top_small {rows : List (List Int)} {many most : Nat} (hG : Good many most rows) (h60 : most ≤ 60) (fs : List Int) : ∀ x ∈ tops rows fs, x ≤ 1000 := fun x hx => by
  obtain ⟨i, hi⟩ := List.getElem?_of_mem hx
  have hl := (List.getElem?_eq_some_iff.mp hi).1
  rw [tops_len] at hl
  have hr := List.getElem?_eq_getElem hl
  have := tops_at (fs := fs) hr
  rw [hi] at this
  have h2 := hG.row60 h60 _ (List.mem_of_getElem? hr)
  have h3 : rows[i].count 0 ≤ rows[i].length := List.count_le_length ..
  have := Option.some.inj this
  split at this <;> omega
theorem fall_prs (rows : List (List Int)) (fs : List Int) : LeL (fallL rows fs) (prs rows) := fun i x y hx hy => by
  have hl := (List.getElem?_eq_some_iff.mp hx).1
  rw [fall_len] at hl
  have hr := List.getElem?_eq_getElem hl
  have ht := tops_at (fs := fs) hr
  have h1 := (fall_low rows fs).le i x _ hx ht
  have h2 := prsA hr
  rw [hy] at h2
  have := Option.some.inj h2
  split at h1 <;> omega
theorem fall_small {rows : List (List Int)} {many most : Nat} (hG : Good many most rows) (h60 : most ≤ 60) (fs : List Int) : ∀ x ∈ fallL rows fs, x ≤ 1000 := fun x hx => by
  obtain ⟨i, hi⟩ := List.getElem?_of_mem hx
  have hl := (List.getElem?_eq_some_iff.mp hi).1
  rw [fall_len] at hl
  have hr := List.getElem?_eq_getElem hl
  have h1 := fall_prs rows fs i x _ hi (prsA hr)
  have h2 := hG.row60 h60 _ (List.mem_of_getElem? hr)
  have h3 : rows[i].count 0 ≤ rows[i].length := List.count_le_length ..
  omega
/-- stable while only P changes -/
def StP (P : Addr → Prop) (S : Sto) (d : D) (p : PyData) : Prop := ∀ S', SK P S S' → VV S' d p
theorem StP.keep {P : Addr → Prop} {S S1 : Sto} {d : D} {p : PyData} (h : StP P S d p) (k : SK P S S1) : StP P S1 d p := fun S' sk => h S' (k.trans sk)
theorem StP.less {P Q : Addr → Prop} {S : Sto} {d : D} {p : PyData} (h : StP P S d p) (l : ∀ a, Q a → P a) : StP Q S d p := fun S' sk => h S' (sk.mono l)
theorem StVV.toP {P : Addr → Prop} {S0 S : Sto} {d : D} {p : PyData} (h : StVV S0 S d p) (hP : ∀ a, P a → S0 a ≠ none) : StP P S d p := fun S' sk => h S' fun a o n e => sk a o (fun z => hP a z n) e
theorem Deck.has {st big : Addr} {S : Sto} (h : Deck st big S) : ∀ a, DP st big a → S a ≠ none := fun a z n => (h.fresh n).elim fun e1 e2 => z.elim e1 e2
theorem stp_nat {P : Addr → Prop} {S : Sto} {c : List Nat} (hl : c.length ≤ 100) (hc : ∀ x ∈ c, x ≤ 1000) : StP P S (.tup (natD c)) (natP c) := fun S' _ => by
  obtain ⟨p, h, rfl⟩ := vv_nat (S := S') hl hc
  exact h
def AllV (P : Addr → Prop) (S : Sto) (vs : List D) : Prop := ∀ v ∈ vs, ∃ p, StP P S v p
theorem AllV.keep {P : Addr → Prop} {S S1 : Sto} {vs : List D} (h : AllV P S vs) (k : SK P S S1) : AllV P S1 vs := fun v hv => let ⟨p, hp⟩ := h v hv; ⟨p, hp.keep k⟩
theorem AllV.less {P Q : Addr → Prop} {S : Sto} {vs : List D} (h : AllV P S vs) (l : ∀ a, Q a → P a) : AllV Q S vs := fun v hv => let ⟨p, hp⟩ := h v hv; ⟨p, hp.less l⟩
theorem AllV.cons {P : Addr → Prop} {S : Sto} {v : D} {vs : List D} {p : PyData} (h : StP P S v p) (r : AllV P S vs) : AllV P S (v :: vs) := fun x hx => by
  rcases List.mem_cons.mp hx with rfl | hx
  · exact ⟨p, h⟩
  · exact r x hx
theorem AllV.nil {P : Addr → Prop} {S : Sto} : AllV P S [] := fun x hx => nomatch hx
theorem AllV.app {P : Addr → Prop} {S : Sto} {vs ws : List D} (h : AllV P S vs) (g : AllV P S ws) : AllV P S (vs ++ ws) := fun x hx => (List.mem_append.mp hx).elim (h x) (g x)
theorem w_values41 {rows : List (List Int)} {many most : Nat} {fs : List Int} {st big : Addr} {S : Sto} {R : DK} (hG : Good many most rows) (h6 : many ≤ 6) (h60 : most ≤ 60) (h : Deck st big S) (hf : fs.length ≤ 6) (hfb : ∀ f ∈ fs, 0 ≤ f ∧ f < rows.length)
    (k : ∀ (vs : List D) (F : Addr) S', S' F = some (.lst vs) → vs.length ≤ 100 → AllV (DP st big) S' vs → Deck st big S' → SK (DP st big) S S' → R (.ref F) S') : dFn 8 B_law_values_3d8f [.ref st, .tup (rowsD rows), .tup (intsD fs), .tup (natD (fallL rows fs))] S R := by
  have rl := hG.len
  have cl := fall_len rows fs
  have cs := fall_small hG h60 fs
  generalize hcc : fallL rows fs = c at cl cs
  have nl : (natD c).length = c.length := natD_len c
  have rdl : (rowsD rows).length = rows.length := List.length_map ..
  -- the lower ones
  refine ⟨_, rfl, _, rfl, fun p np => ?_⟩
  have fp := h.fresh np
  refine ⟨fun i S' => i ≤ c.length ∧ Deck st big S' ∧ SK (DP st big) S S' ∧ ∃ ls : List Nat, S' p = some (.lst (natD ls)) ∧ ls.length = i ∧ ∀ x ∈ ls, x ≤ 1000, ⟨Nat.zero_le _, h.keep (.new np), SK.new np, [], Sto.same, rfl, fun f hf => nomatch hf⟩, fun _ _ _ _ => True.intro, fun i d S1 hd h1 => ?_, fun S1 h1 => ?_⟩
  · obtain ⟨hi, D1, k1, ls, hp, hll, hls⟩ := h1
    have hd : (natD c)[i]? = some d := hd
    unfold natD at hd
    rw [List.getElem?_map] at hd
    obtain ⟨x, hx, rfl⟩ := Option.map_eq_some_iff.mp hd
    have hxs := cs x (List.mem_of_getElem? hx)
    have hi2 : i < c.length := (List.getElem?_eq_some_iff.mp hx).1
    refine turn_y ?_
    refine ⟨_, rfl, _, rfl, rfl, w_next D1 (by omega) (by omega) fun f S2 f0 f1 D2 k2 => ?_⟩
    obtain ⟨m, rfl⟩ : ∃ m : Nat, f = (m : Int) := ⟨f.toNat, by omega⟩
    have hp2 := k2 _ _ (nDP fp) hp
    refine ⟨_, hp2, by rw [natD_len]; omega, hi2, D2.putF fp, (k1.trans k2).putF np, ls ++ [m], ?_, by rw [List.length_append, hll]; rfl, fun g hg => ?_⟩
    · rw [Sto.same]
      unfold natD
      rw [List.map_append]
      rfl
    · rcases List.mem_append.mp hg with z | z
      · exact hls g z
      · rw [List.mem_singleton.mp z]
        omega
  obtain ⟨hi, D1, k1, ls, hp, hll, hls⟩ := h1
  have hll : ls.length = (natD c).length := hll
  refine ⟨_, _, rfl, seqOf_lst hp, fun ys z => (nomatch z), ?_⟩
  have tl := tops_len rows fs
  have tl0 := tops_len rows []
  -- the first six
  refine ⟨_, rfl, _, rfl, rfl, rfl, w_topsF (fs := []) (by omega) fun q1 S2 sg2 nq1 hq1 => ?_⟩
  refine ⟨_, _, rfl, seqOf_lst hq1, fun ys z => (nomatch z), ?_⟩
  refine ⟨_, rfl, _, rfl, rfl, w_topsF (fs := fs) (by omega) fun q2 S3 sg3 nq2 hq2 => ?_⟩
  refine ⟨_, _, rfl, seqOf_lst hq2, fun ys z => (nomatch z), ?_⟩
  refine ⟨rfl, _, rfl, _, _, rfl, rfl, (fun z => nomatch z), by omega, by omega, by decide, ?_⟩
  rw [rdl, rep_nat]
  refine ⟨_, rfl, _, rfl, _, _, rfl, rfl, fun b nb => ⟨rfl, fun a na => ?_⟩⟩
  have D3 := (D1.keep sg2).keep sg3
  have k3 := (k1.trans (SG.sk sg2)).trans (SG.sk sg3)
  have fb := D3.fresh nb
  generalize hS4 : S3.put b (.lst (natD c)) = S4 at na ⊢
  have sg4 : SG S3 S4 := by rw [← hS4]; exact .new nb
  have hb4 : S4 b = some (.lst (natD c)) := by rw [← hS4]; exact Sto.same
  have D4 := D3.keep sg4
  have fa := D4.fresh na
  generalize hL : ([.tup (natD c), .tup (natD (tops rows [])), .tup (natD (tops rows fs)), .tup (natD (List.replicate rows.length 0)), .tup (natD ls), .ref b] : List D) = L
  have sg5 : SG S4 (S4.put a (.lst L)) := .new na
  generalize hS5 : S4.put a (.lst L) = S5 at sg5 ⊢
  have ha5 : S5 a = some (.lst L) := by rw [← hS5]; exact Sto.same
  have D5 := D4.keep sg5
  have k5 := (k3.trans (SG.sk sg4)).trans (SG.sk sg5)
  have A5 : AllV (DP st big) S5 L := by
    rw [← hL]
    refine .cons (stp_nat (by omega) cs) (.cons (stp_nat (by omega) (top_small hG h60 [])) (.cons (stp_nat (by omega) (top_small hG h60 fs)) (.cons (stp_nat (by rw [List.length_replicate]; omega) fun x hx => by rw [(List.mem_replicate.mp hx).2]; omega) (.cons (stp_nat (by omega) hls) (.cons (p := .list ((c.map fun n : Nat => (n : Int)).map PyData.int)) (fun S' sk => vv_lstN (sk _ _ (nDP fb) (sg5 _ _ (fun z => z) hb4)) (by omega) cs) .nil)))))
  have hLl : L.length = 6 := by rw [← hL]; rfl
  -- three more
  refine ⟨_, rfl, _, rfl, _, rfl, _, rfl, _, rfl, _, _, rfl, rfl, rfl, w_next D5 (by omega) (by omega) fun f S6 f0 f1 D6 k6 => ⟨rfl, ⟨by rw [intsD_len]; show fs.length + 1 ≤ 100000; omega, rfl, ?_⟩⟩⟩
  rw [show intsD fs ++ [D.int f] = intsD (fs ++ [f]) by unfold intsD; rw [List.map_append]; rfl]
  refine w_sunk hG h6 h60 fun S7 sg7 => ?_
  refine ⟨_, rfl, _, rfl, _, rfl, rfl, w_odd41 (D6.keep sg7) fun od op S8 ho D8 k8 => ⟨rfl, fun a2 na2 => ?_⟩⟩
  have k58 := (k6.trans (SG.sk sg7)).trans k8
  have ha8 := k58 _ _ (nDP fa) ha5
  generalize hM : ([.tup (natD (fallL rows (fs ++ [f]))), .tup (natD c).reverse, od] : List D) = M
  have sg9 : SG S8 (S8.put a2 (.lst M)) := .new na2
  generalize hS9 : S8.put a2 (.lst M) = S9 at sg9 ⊢
  have ha29 : S9 a2 = some (.lst M) := by rw [← hS9]; exact Sto.same
  have hMl : M.length = 3 := by rw [← hM]; rfl
  have D9 := D8.keep sg9
  have A9 : AllV (DP st big) S9 (L ++ M) := by
    refine .app (A5.keep (k58.trans (SG.sk sg9))) ?_
    rw [← hM]
    have erev : (natD c).reverse = natD c.reverse := by unfold natD; rw [List.map_reverse]
    rw [erev]
    exact .cons (stp_nat (by rw [fall_len]; omega) (fall_small hG h60 _)) (.cons (stp_nat (by rw [List.length_reverse]; omega) fun x hx => cs x (List.mem_reverse.mp hx)) (.cons (StP.keep (StVV.toP (fun S' sk => (ho S' sk).vv) (D6.keep sg7).has) (SG.sk sg9)) .nil))
  refine ⟨_, _, sg9 _ _ (fun z => z) ha8, ha29, by omega, fun F nF => ?_⟩
  have fF := D9.fresh nF
  generalize hN : L ++ M = N at A9 ⊢
  have hNl : N.length = 9 := by rw [← hN, List.length_append, hLl, hMl]
  have sg10 : SG S9 (S9.put F (.lst N)) := .new nF
  generalize hS10 : S9.put F (.lst N) = S10 at sg10 ⊢
  have hF10 : S10 F = some (.lst N) := by rw [← hS10]; exact Sto.same
  have D10 := D9.keep sg10
  have A10 := A9.keep (SG.sk sg10)
  have k10 := ((k5.trans k58).trans (SG.sk sg9)).trans (SG.sk sg10)
  -- six changed
  refine ⟨_, rfl, 6, rfl, by decide, by decide, fun p2 np2 => ?_⟩
  have fp2 := D10.fresh np2
  have pF : p2 ≠ F := fun z => by rw [z, hF10] at np2; cases np2
  have np0 : S p2 = none := SK.free k10 np2 (nDP fp2)
  have ri : (rgD 0 (6 : Int).toNat).length = 6 := rg_len ..
  refine ⟨fun i S' => Deck st big S' ∧ SK (DP st big) S S' ∧ S' F = some (.lst N) ∧ SK (DP st big) S10 S' ∧ ∃ ws : List D, S' p2 = some (.lst ws) ∧ ws.length = i ∧ AllV (fun a => DP st big a ∨ a = p2) S' ws, ⟨D10.putF fp2, k10.putF np0, (Sto.ne (Ne.symm pF)).trans hF10, SK.new np2, [], Sto.same, rfl, .nil⟩, fun _ _ _ _ => True.intro, fun i d S11 hd h11 => ?_, fun S11 h11 => ?_⟩
  · obtain ⟨D11, k11, hF11, kT, ws, hp11, hwl, hwa⟩ := h11
    have hi6 : i < 6 := by rw [← ri]; exact (List.getElem?_eq_some_iff.mp hd).1
    refine turn_y ?_
    refine ⟨_, rfl, _, rfl, rfl, w_chgV D11 (by omega) (by omega) cs fun v p S12 hv D12 k12 => ?_⟩
    have hp12 := k12 _ _ (nDP fp2) hp11
    refine ⟨_, hp12, by omega, D12.putF fp2, (k11.trans k12).putF np0, (Sto.ne (Ne.symm pF)).trans (k12 _ _ (nDP fF) hF11), SK.putF (kT.trans k12) np2, ws ++ [v], Sto.same, by rw [List.length_append, hwl]; rfl, ?_⟩
    have kp : SK (fun a => DP st big a ∨ a = p2) S12 (S12.put p2 (.lst (ws ++ [v]))) := SK.put (.inr rfl)
    refine .app ((hwa.keep (k12.mono fun a z => .inl z)).keep kp) (.cons (StP.keep (StVV.toP hv fun a z n => ?_) kp) .nil)
    rcases z with z | rfl
    · exact D11.has a z n
    · rw [hp11] at n
      cases n
  · obtain ⟨D11, k11, hF11, kT, ws, hp11, hwl, hwa⟩ := h11
    have hwl : ws.length = (rgD 0 (6 : Int).toNat).length := hwl
    refine ⟨_, _, hF11, hp11, by omega, fun G nG => ?_⟩
    have sgG : SG S11 (S11.put G (.lst (N ++ ws))) := .new nG
    exact k _ G _ Sto.same (by rw [List.length_append]; omega) (((A10.keep kT).app (hwa.less fun a z => .inl z)).keep (SG.sk sgG)) (D11.keep sgG) (k11.trans (SG.sk sgG))
end Sv
namespace Sv
open PySem PySem.Spec PyProof.Rows L2
theorem fine_rows41 {rows : List (List Int)} (h6 : rows.length ≤ 6) (h60 : ∀ r ∈ rows, r.length ≤ 60 ∧ ∀ x ∈ r, -24 ≤ x ∧ x ≤ 24) : Fine 2 36726 (rPy rows) := by
  have h1 : ∀ d ∈ (rows.map fun r => PyData.tuple (r.map PyData.int)), Fine 1 6120 d := fun d hd => by
    obtain ⟨r, hr, rfl⟩ := List.mem_map.mp hd
    have hb := h60 r hr
    have q : FineAll 0 (102 * r.length) (iD r) := fine_ints fun x hx => by
      have := hb.2 x hx
      exact small30 (by omega)
    exact (fine_tuple q).mono (Nat.le_refl _) (by omega)
  have q := fine_tuple (fine_all h1)
  rw [List.length_map] at q
  exact q.mono (Nat.le_refl _) (by omega)
theorem pyd_rows {S : Sto} (rows : List (List Int)) : PyD S (.tup (rowsD rows)) (rPy rows) := by
  have one : ∀ r : List Int, PyDs S (intsD r) (r.map PyData.int) := fun r => by
    induction r with
    | nil => exact .nil
    | cons x r ih => exact .cons (.int x) ih
  refine .tup ?_
  unfold rowsD
  induction rows with
  | nil => exact .nil
  | cons r rows ih => exact .cons (.tup (one r)) ih
theorem pyd_ints {S : Sto} (xs : List Int) : PyD S (.tup (intsD xs)) (.tuple (xs.map PyData.int)) := by
  refine .tup ?_
  induction xs with
  | nil => exact .nil
  | cons x r ih => exact .cons (.int x) ih
/-- repr of the list of the three -/
theorem rl41 {rows : List (List Int)} {fs : List Int} {v : D} {p : PyData} {S : Sto} (fr : Fine 2 36726 (rPy rows)) (ff : Fine 1 12000 (.tuple (fs.map PyData.int))) (hv : VV S v p) :
    (Pys S [.tup (rowsD rows), .tup (intsD fs), v] [rPy rows, .tuple (fs.map PyData.int), p] ∧ Text (.list [rPy rows, .tuple (fs.map PyData.int), p])) ∨ (PyDs S [.tup (rowsD rows), .tup (intsD fs), v] [rPy rows, .tuple (fs.map PyData.int), p] ∧ TextD (.list [rPy rows, .tuple (fs.map PyData.int), p])) := by
  rcases hv.vt with ⟨h, f⟩ | ⟨h, f⟩
  · exact .inl ⟨.cons (py_rows rows) (.cons (.tup (pys_ints fs)) (.cons h .nil)), (fine_list (fine_cons (fr.mono (by decide : 2 ≤ 3) (Nat.le_refl _)) (fine_cons (ff.mono (by decide : 1 ≤ 3) (Nat.le_refl _)) (fine_cons f (fine_nil.mono (Nat.zero_le _) (Nat.le_refl _)))))).text (by decide) (by decide) rfl⟩
  · exact .inr ⟨.cons (pyd_rows rows) (.cons (pyd_ints fs) (.cons h .nil)), (finex_list (finex_cons (fr.x.mono (by decide : 2 ≤ 3) (Nat.le_refl _)) (finex_cons (ff.x.mono (by decide : 1 ≤ 3) (Nat.le_refl _)) (finex_cons f (finex_nil.mono (Nat.zero_le _) (Nat.le_refl _)))))).textD (by decide) (by decide)⟩
theorem rlq41 {S : Sto} {ds : List D} {ps0 : List PyData} {Q : List PyData → Prop} (h : (Pys S ds ps0 ∧ Text (.list ps0)) ∨ (PyDs S ds ps0 ∧ TextD (.list ps0))) (q : Q ps0) : (∃ ps, Pys S ds ps ∧ Text (.list ps) ∧ Q ps) ∨ (∃ ps, PyDs S ds ps ∧ TextD (.list ps) ∧ Q ps) :=
  h.imp (fun h => ⟨_, h.1, h.2, q⟩) (fun h => ⟨_, h.1, h.2, q⟩)
theorem law_k41 (ns : List Int) (hl : ns.length ≤ 63) : dFn 8 B_law_810c [.rol (intsD ns)] (fun _ => none) (fun d _ => d = .bl true) := by
  refine ⟨_, rfl, rfl, w_deck hl fun st big S1 D1 sg1 _ _ => ?_⟩
  refine ⟨8, rfl, by decide, by decide, fun i env S => Deck st big S ∧ ∃ (x2 x3 x4 x5 x6 x7 : Option D), env = [some (.rol (intsD ns)), some (.ref st), x2, x3, x4, x5, x6, x7], ⟨D1, _, _, _, _, _, _, rfl⟩, fun _ _ _ _ _ => True.intro, ?_, fun env S _ => rfl⟩
  rintro i d env S hd ⟨D2, x2, x3, x4, x5, x6, x7, rfl⟩
  refine ⟨_, rfl, rfl, w_history (many := 5) (most := 30) D2 (by decide) (by decide) (by decide) (by decide) fun rows S3 hG D3 k3 => ?_⟩
  have hG : Good 5 30 rows := hG
  have rl := hG.len
  have fr := fine_rows41 (rows := rows) (by omega) fun r hr => by
    obtain ⟨j, hj⟩ := List.getElem?_of_mem hr
    have := hG.row hj
    exact ⟨by omega, this.2⟩
  refine ⟨_, rfl, _, rfl, rfl, w_lost D3 rl.1 (by omega) fun fs1 S4 fl1 fb1 D4 k4 => ⟨_, rfl, _, rfl, rfl, w_lost D4 rl.1 (by omega) fun fs2 S5 fl2 fb2 D5 k5 => ⟨rfl, fun l nl => ?_⟩⟩⟩
  have fl := D5.fresh nl
  refine ⟨_, ⟨_, Sto.same, rfl⟩, fun j env S => Deck st big S ∧ S l = some (.lst [.tup (intsD fs1), .tup (intsD fs2)]) ∧ ∃ (x4 x5 x6 x7 : Option D), env = [some (.rol (intsD ns)), some (.ref st), some d, some (.tup (rowsD rows)), x4, x5, x6, x7], ⟨D5.putF fl, Sto.same, _, _, _, _, rfl⟩, fun j env S _ h => ?_, ?_, ?_⟩
  · obtain ⟨_, h, _⟩ := h
    exact h
  · rintro j e env S6 he ⟨D6, hl6, x4, x5, x6, x7, rfl⟩
    obtain ⟨fs, rfl, hf, hfb⟩ : ∃ fs : List Int, e = .tup (intsD fs) ∧ fs.length ≤ 6 ∧ ∀ f ∈ fs, 0 ≤ f ∧ f < rows.length := by
      have he : ([.tup (intsD fs1), .tup (intsD fs2)] : List D)[j]? = some e := he
      match j, he with
      | 0, he => exact ⟨fs1, (Option.some.inj he).symm, fl1, fb1⟩
      | 1, he => exact ⟨fs2, (Option.some.inj he).symm, fl2, fb2⟩
      | j + 2, he => simp at he
    have ff : Fine 1 12000 (.tuple (fs.map PyData.int)) := fine_intsT (by omega) fun x hx => small30 (by have := hfb x hx; omega)
    refine ⟨_, rfl, _, rfl, rfl, w_sunk hG (by decide) (by decide) fun S7 sg7 => ?_⟩
    have cl := fall_len rows fs
    have cs := fall_small hG (by decide) fs
    have tc : Text (natP (fallL rows fs)) := by rw [natP_eq]; exact nat_text (by omega) cs
    refine ⟨_, rfl, _, rfl, _, rfl, _, rfl, rfl, w_values41 hG (by decide) (by decide) (D6.keep sg7) hf hfb fun vs F S8 hF hvl hA D8 k8 => ?_⟩
    have hl8 := k8 _ _ (nDP fl) (sg7 _ _ (fun z => z) hl6)
    refine ⟨_, ⟨_, hF, rfl⟩, fun m env S => SG S8 S ∧ ∃ (x6 x7 : Option D), env = [some (.rol (intsD ns)), some (.ref st), some d, some (.tup (rowsD rows)), some (.tup (intsD fs)), some (.tup (natD (fallL rows fs))), x6, x7], ⟨.refl _, _, _, rfl⟩, fun m env S _ h => ?_, ?_, ?_⟩
    · obtain ⟨sg, _⟩ := h
      exact sg _ _ (fun z => z) hF
    · rintro m v env S9 hv ⟨sg9, x6, x7, rfl⟩
      obtain ⟨p, hp⟩ := hA v (List.mem_of_getElem? hv)
      have hV : ∀ S', SG S9 S' → VV S' v p := fun S' sg => hp S' (SG.sk (sg9.trans sg))
      refine ⟨_, rfl, _, rfl, _, rfl, ?_⟩
      refine ⟨rfl, fun a na => rlq41 (rl41 fr ff (hV _ (.new na))) ?_⟩
      have sg10 : SG S9 (S9.put a (.lst [.tup (rowsD rows), .tup (intsD fs), v])) := .new na
      generalize S9.put a (.lst [.tup (rowsD rows), .tup (intsD fs), v]) = S10 at sg10 ⊢
      have hV10 : ∀ S', SG S10 S' → VV S' v p := fun S' sg => hV S' (sg10.trans sg)
      refine ⟨_, rfl, _, rfl, _, rfl, rfl, w_holdsV hG (by decide) (by decide) (by omega) (fun S' sg => (hV10 S' sg).kd) (fall_prs rows fs) fun S11 sg11 => ⟨_, rfl, _, rfl, rfl, w_sameV (hV10 S11 sg11) tc ⟨rfl, w_sameB41 ⟨_, rfl, goF ?_⟩⟩⟩⟩
      have hV11 : ∀ S', SG S11 S' → VV S' v p := fun S' sg => hV10 S' (sg11.trans sg)
      refine ⟨_, rfl, _, rfl, _, rfl, ?_⟩
      refine ⟨rfl, fun a2 na2 => rlq41 (rl41 fr ff (hV11 _ (.new na2))) ?_⟩
      have sg12 : SG S11 (S11.put a2 (.lst [.tup (rowsD rows), .tup (intsD fs), v])) := .new na2
      generalize S11.put a2 (.lst [.tup (rowsD rows), .tup (intsD fs), v]) = S12 at sg12 ⊢
      refine ⟨_, rfl, _, rfl, ?_⟩
      rw [decide_eq_true rfl]
      refine goF ?_
      exact ⟨sg9.trans (sg10.trans (sg11.trans sg12)), _, _, rfl⟩
    · rintro env S9 ⟨sg9, x6, x7, rfl⟩
      exact ⟨D8.keep sg9, sg9 _ _ (fun z => z) hl8, _, _, _, _, rfl⟩
  · rintro env S6 ⟨D6, _, x4, x5, x6, x7, rfl⟩
    exact ⟨D6, _, _, _, _, _, _, rfl⟩
end Sv
namespace Sv
open PySem PySem.Spec PyProof.Rows L2
set_option maxHeartbeats 4000000 in
theorem all_mk {l : PySem.W.OpenLaw} {w : World} {K : PySem.W.Frag} {h : Heap} {mg : Str → Option Value} {fa f0 f1 f2 f3 f4 f5 f6 f7 f8 f9 f10 f11 f12 f13 f14 f15 f16 f17 f18 f19 f20 f21 f22 f23 f24 f25 f26 f27 f28 : Addr} (X : K.In h) (G : h.Ns mainGlobals mg) (hfa : mg "law" = some (.ref fa))
    {od0 an0 od1 an1 od2 an2 od3 an3 od4 an4 od5 an5 od6 an6 od7 an7 od8 an8 od9 an9 od10 an10 od11 an11 od12 an12 od13 an13 od14 an14 od15 an15 od16 an16 od17 an17 od18 an18 od19 an19 od20 an20 od21 an21 od22 an22 od23 an23 od24 an24 od25 an25 od26 an26 od27 an27 od28 an28 : Option Addr} {sl0 sl1 sl2 sl3 sl4 sl5 sl6 sl7 sl8 sl9 sl10 sl11 sl12 sl13 sl14 sl15 sl16 sl17 sl18 sl19 sl20 sl21 sl22 sl23 sl24 sl25 sl26 sl27 sl28 : Array (Option Value)} {oc0 kV0 dc0 pm0 cd0 ct0 oc1 kV1 dc1 pm1 cd1 ct1 oc2 kV2 dc2 pm2 cd2 ct2 oc3 kV3 dc3 pm3 cd3 ct3 oc4 kV4 dc4 pm4 cd4 ct4 oc5 kV5 dc5 pm5 cd5 ct5 oc6 kV6 dc6 pm6 cd6 ct6 oc7 kV7 dc7 pm7 cd7 ct7 oc8 kV8 dc8 pm8 cd8 ct8 oc9 kV9 dc9 pm9 cd9 ct9 oc10 kV10 dc10 pm10 cd10 ct10 oc11 kV11 dc11 pm11 cd11 ct11 oc12 kV12 dc12 pm12 cd12 ct12 oc13 kV13 dc13 pm13 cd13 ct13 oc14 kV14 dc14 pm14 cd14 ct14 oc15 kV15 dc15 pm15 cd15 ct15 oc16 kV16 dc16 pm16 cd16 ct16 oc17 kV17 dc17 pm17 cd17 ct17 oc18 kV18 dc18 pm18 cd18 ct18 oc19 kV19 dc19 pm19 cd19 ct19 oc20 kV20 dc20 pm20 cd20 ct20 oc21 kV21 dc21 pm21 cd21 ct21 oc22 kV22 dc22 pm22 cd22 ct22 oc23 kV23 dc23 pm23 cd23 ct23 oc24 kV24 dc24 pm24 cd24 ct24 oc25 kV25 dc25 pm25 cd25 ct25 oc26 kV26 dc26 pm26 cd26 ct26 oc27 kV27 dc27 pm27 cd27 ct27 oc28 kV28 dc28 pm28 cd28 ct28 : Value}
    (a0 : PySem.W.nsIn K mainGlobals "_law_next" = some (some (.ref f0))) (l0 : K.lookup f0 = some ⟨oc0, od0, .func (PySem.W.fnOf "_law_next" "_law_next" (defArgs s__law_next) (defBody s__law_next) (defScope s__law_next) .none kV0 dc0 pm0 an0 cd0 ct0), sl0⟩) (c0 : PySem.W.codeIn K cd0 "_law_next" = true) (k0 : PySem.W.keepIn K (.ref f0) = true)
    (a1 : PySem.W.nsIn K mainGlobals "_law_lost" = some (some (.ref f1))) (l1 : K.lookup f1 = some ⟨oc1, od1, .func (PySem.W.fnOf "_law_lost" "_law_lost" (defArgs s__law_lost) (defBody s__law_lost) (defScope s__law_lost) .none kV1 dc1 pm1 an1 cd1 ct1), sl1⟩) (c1 : PySem.W.codeIn K cd1 "_law_lost" = true) (k1 : PySem.W.keepIn K (.ref f1) = true)
    (a2 : PySem.W.nsIn K mainGlobals "_law_odd" = some (some (.ref f2))) (l2 : K.lookup f2 = some ⟨oc2, od2, .func (PySem.W.fnOf "_law_odd" "_law_odd" (defArgs s__law_odd) (defBody s__law_odd) (defScope s__law_odd) .none kV2 dc2 pm2 an2 cd2 ct2), sl2⟩) (c2 : PySem.W.codeIn K cd2 "_law_odd" = true) (k2 : PySem.W.keepIn K (.ref f2) = true)
    (a3 : PySem.W.nsIn K mainGlobals "_law_changed" = some (some (.ref f3))) (l3 : K.lookup f3 = some ⟨oc3, od3, .func (PySem.W.fnOf "_law_changed" "_law_changed" (defArgs s__law_changed) (defBody s__law_changed) (defScope s__law_changed) .none kV3 dc3 pm3 an3 cd3 ct3), sl3⟩) (c3 : PySem.W.codeIn K cd3 "_law_changed" = true) (k3 : PySem.W.keepIn K (.ref f3) = true)
    (a4 : PySem.W.nsIn K mainGlobals "_law_spots" = some (some (.ref f4))) (l4 : K.lookup f4 = some ⟨oc4, od4, .func (PySem.W.fnOf "_law_spots" "_law_spots" (defArgs s__law_spots) (defBody s__law_spots) (defScope s__law_spots) .none kV4 dc4 pm4 an4 cd4 ct4), sl4⟩) (c4 : PySem.W.codeIn K cd4 "_law_spots" = true) (k4 : PySem.W.keepIn K (.ref f4) = true)
    (a5 : PySem.W.nsIn K mainGlobals "_law_places" = some (some (.ref f5))) (l5 : K.lookup f5 = some ⟨oc5, od5, .func (PySem.W.fnOf "_law_places" "_law_places" (defArgs s__law_places) (defBody s__law_places) (defScope s__law_places) .none kV5 dc5 pm5 an5 cd5 ct5), sl5⟩) (c5 : PySem.W.codeIn K cd5 "_law_places" = true) (k5 : PySem.W.keepIn K (.ref f5) = true)
    (a6 : PySem.W.nsIn K mainGlobals "_law_letters" = some (some (.ref f6))) (l6 : K.lookup f6 = some ⟨oc6, od6, .func (PySem.W.fnOf "_law_letters" "_law_letters" (defArgs s__law_letters) (defBody s__law_letters) (defScope s__law_letters) .none kV6 dc6 pm6 an6 cd6 ct6), sl6⟩) (c6 : PySem.W.codeIn K cd6 "_law_letters" = true) (k6 : PySem.W.keepIn K (.ref f6) = true)
    (a7 : PySem.W.nsIn K mainGlobals "_law_tops" = some (some (.ref f7))) (l7 : K.lookup f7 = some ⟨oc7, od7, .func (PySem.W.fnOf "_law_tops" "_law_tops" (defArgs s__law_tops) (defBody s__law_tops) (defScope s__law_tops) .none kV7 dc7 pm7 an7 cd7 ct7), sl7⟩) (c7 : PySem.W.codeIn K cd7 "_law_tops" = true) (k7 : PySem.W.keepIn K (.ref f7) = true)
    (a8 : PySem.W.nsIn K mainGlobals "_law_sunk" = some (some (.ref f8))) (l8 : K.lookup f8 = some ⟨oc8, od8, .func (PySem.W.fnOf "_law_sunk" "_law_sunk" (defArgs s__law_sunk) (defBody s__law_sunk) (defScope s__law_sunk) .none kV8 dc8 pm8 an8 cd8 ct8), sl8⟩) (c8 : PySem.W.codeIn K cd8 "_law_sunk" = true) (k8 : PySem.W.keepIn K (.ref f8) = true)
    (a9 : PySem.W.nsIn K mainGlobals "_law_values" = some (some (.ref f9))) (l9 : K.lookup f9 = some ⟨oc9, od9, .func (PySem.W.fnOf "_law_values" "_law_values" (defArgs s__law_values) (defBody s__law_values) (defScope s__law_values) .none kV9 dc9 pm9 an9 cd9 ct9), sl9⟩) (c9 : PySem.W.codeIn K cd9 "_law_values" = true) (k9 : PySem.W.keepIn K (.ref f9) = true)
    (a10 : PySem.W.nsIn K mainGlobals "_law_same" = some (some (.ref f10))) (l10 : K.lookup f10 = some ⟨oc10, od10, .func (PySem.W.fnOf "_law_same" "_law_same" (defArgs s__law_same) (defBody s__law_same) (defScope s__law_same) .none kV10 dc10 pm10 an10 cd10 ct10), sl10⟩) (c10 : PySem.W.codeIn K cd10 "_law_same" = true) (k10 : PySem.W.keepIn K (.ref f10) = true)
    (a11 : PySem.W.nsIn K mainGlobals "is_number" = some (some (.ref f11))) (l11 : K.lookup f11 = some ⟨oc11, od11, .func (PySem.W.fnOf "is_number" "is_number" (defArgs s_is_number) (defBody s_is_number) (defScope s_is_number) .none kV11 dc11 pm11 an11 cd11 ct11), sl11⟩) (c11 : PySem.W.codeIn K cd11 "is_number" = true) (k11 : PySem.W.keepIn K (.ref f11) = true)
    (a12 : PySem.W.nsIn K mainGlobals "is_number_within" = some (some (.ref f12))) (l12 : K.lookup f12 = some ⟨oc12, od12, .func (PySem.W.fnOf "is_number_within" "is_number_within" (defArgs s_is_number_within) (defBody s_is_number_within) (defScope s_is_number_within) .none kV12 dc12 pm12 an12 cd12 ct12), sl12⟩) (c12 : PySem.W.codeIn K cd12 "is_number_within" = true) (k12 : PySem.W.keepIn K (.ref f12) = true)
    (a13 : PySem.W.nsIn K mainGlobals "state_numbers" = some (some (.ref f13))) (l13 : K.lookup f13 = some ⟨oc13, od13, .func (PySem.W.fnOf "state_numbers" "state_numbers" (defArgs s_state_numbers) (defBody s_state_numbers) (defScope s_state_numbers) .none kV13 dc13 pm13 an13 cd13 ct13), sl13⟩) (c13 : PySem.W.codeIn K cd13 "state_numbers" = true) (k13 : PySem.W.keepIn K (.ref f13) = true)
    (a14 : PySem.W.nsIn K mainGlobals "is_line" = some (some (.ref f14))) (l14 : K.lookup f14 = some ⟨oc14, od14, .func (PySem.W.fnOf "is_line" "is_line" (defArgs s_is_line) (defBody s_is_line) (defScope s_is_line) .none kV14 dc14 pm14 an14 cd14 ct14), sl14⟩) (c14 : PySem.W.codeIn K cd14 "is_line" = true) (k14 : PySem.W.keepIn K (.ref f14) = true)
    (a15 : PySem.W.nsIn K mainGlobals "is_orphan" = some (some (.ref f15))) (l15 : K.lookup f15 = some ⟨oc15, od15, .func (PySem.W.fnOf "is_orphan" "is_orphan" (defArgs s_is_orphan) (defBody s_is_orphan) (defScope s_is_orphan) .none kV15 dc15 pm15 an15 cd15 ct15), sl15⟩) (c15 : PySem.W.codeIn K cd15 "is_orphan" = true) (k15 : PySem.W.keepIn K (.ref f15) = true)
    (a16 : PySem.W.nsIn K mainGlobals "lowered" = some (some (.ref f16))) (l16 : K.lookup f16 = some ⟨oc16, od16, .func (PySem.W.fnOf "lowered" "lowered" (defArgs s_lowered) (defBody s_lowered) (defScope s_lowered) .none kV16 dc16 pm16 an16 cd16 ct16), sl16⟩) (c16 : PySem.W.codeIn K cd16 "lowered" = true) (k16 : PySem.W.keepIn K (.ref f16) = true)
    (a17 : PySem.W.nsIn K mainGlobals "happened_at" = some (some (.ref f17))) (l17 : K.lookup f17 = some ⟨oc17, od17, .func (PySem.W.fnOf "happened_at" "happened_at" (defArgs s_happened_at) (defBody s_happened_at) (defScope s_happened_at) .none kV17 dc17 pm17 an17 cd17 ct17), sl17⟩) (c17 : PySem.W.codeIn K cd17 "happened_at" = true) (k17 : PySem.W.keepIn K (.ref f17) = true)
    (a18 : PySem.W.nsIn K mainGlobals "trips_of" = some (some (.ref f18))) (l18 : K.lookup f18 = some ⟨oc18, od18, .func (PySem.W.fnOf "trips_of" "trips_of" (defArgs s_trips_of) (defBody s_trips_of) (defScope s_trips_of) .none kV18 dc18 pm18 an18 cd18 ct18), sl18⟩) (c18 : PySem.W.codeIn K cd18 "trips_of" = true) (k18 : PySem.W.keepIn K (.ref f18) = true)
    (a19 : PySem.W.nsIn K mainGlobals "fall_back" = some (some (.ref f19))) (l19 : K.lookup f19 = some ⟨oc19, od19, .func (PySem.W.fnOf "fall_back" "fall_back" (defArgs s_fall_back) (defBody s_fall_back) (defScope s_fall_back) .none kV19 dc19 pm19 an19 cd19 ct19), sl19⟩) (c19 : PySem.W.codeIn K cd19 "fall_back" = true) (k19 : PySem.W.keepIn K (.ref f19) = true)
    (a20 : PySem.W.nsIn K mainGlobals "fall_holds" = some (some (.ref f20))) (l20 : K.lookup f20 = some ⟨oc20, od20, .func (PySem.W.fnOf "fall_holds" "fall_holds" (defArgs s_fall_holds) (defBody s_fall_holds) (defScope s_fall_holds) .none kV20 dc20 pm20 an20 cd20 ct20), sl20⟩) (c20 : PySem.W.codeIn K cd20 "fall_holds" = true) (k20 : PySem.W.keepIn K (.ref f20) = true)
    (a21 : PySem.W.nsIn K mainGlobals "_law_one" = some (some (.ref f21))) (l21 : K.lookup f21 = some ⟨oc21, od21, .func (PySem.W.fnOf "_law_one" "_law_one" (defArgs s__law_one) (defBody s__law_one) (defScope s__law_one) .none kV21 dc21 pm21 an21 cd21 ct21), sl21⟩) (c21 : PySem.W.codeIn K cd21 "_law_one" = true) (k21 : PySem.W.keepIn K (.ref f21) = true)
    (a22 : PySem.W.nsIn K mainGlobals "_law_grown" = some (some (.ref f22))) (l22 : K.lookup f22 = some ⟨oc22, od22, .func (PySem.W.fnOf "_law_grown" "_law_grown" (defArgs s__law_grown) (defBody s__law_grown) (defScope s__law_grown) .none kV22 dc22 pm22 an22 cd22 ct22), sl22⟩) (c22 : PySem.W.codeIn K cd22 "_law_grown" = true) (k22 : PySem.W.keepIn K (.ref f22) = true)
    (a23 : PySem.W.nsIn K mainGlobals "_law_shuffled" = some (some (.ref f23))) (l23 : K.lookup f23 = some ⟨oc23, od23, .func (PySem.W.fnOf "_law_shuffled" "_law_shuffled" (defArgs s__law_shuffled) (defBody s__law_shuffled) (defScope s__law_shuffled) .none kV23 dc23 pm23 an23 cd23 ct23), sl23⟩) (c23 : PySem.W.codeIn K cd23 "_law_shuffled" = true) (k23 : PySem.W.keepIn K (.ref f23) = true)
    (a24 : PySem.W.nsIn K mainGlobals "_law_begun" = some (some (.ref f24))) (l24 : K.lookup f24 = some ⟨oc24, od24, .func (PySem.W.fnOf "_law_begun" "_law_begun" (defArgs s__law_begun) (defBody s__law_begun) (defScope s__law_begun) .none kV24 dc24 pm24 an24 cd24 ct24), sl24⟩) (c24 : PySem.W.codeIn K cd24 "_law_begun" = true) (k24 : PySem.W.keepIn K (.ref f24) = true)
    (a25 : PySem.W.nsIn K mainGlobals "_law_domino" = some (some (.ref f25))) (l25 : K.lookup f25 = some ⟨oc25, od25, .func (PySem.W.fnOf "_law_domino" "_law_domino" (defArgs s__law_domino) (defBody s__law_domino) (defScope s__law_domino) .none kV25 dc25 pm25 an25 cd25 ct25), sl25⟩) (c25 : PySem.W.codeIn K cd25 "_law_domino" = true) (k25 : PySem.W.keepIn K (.ref f25) = true)
    (a26 : PySem.W.nsIn K mainGlobals "_law_history" = some (some (.ref f26))) (l26 : K.lookup f26 = some ⟨oc26, od26, .func (PySem.W.fnOf "_law_history" "_law_history" (defArgs s__law_history) (defBody s__law_history) (defScope s__law_history) .none kV26 dc26 pm26 an26 cd26 ct26), sl26⟩) (c26 : PySem.W.codeIn K cd26 "_law_history" = true) (k26 : PySem.W.keepIn K (.ref f26) = true)
    (a27 : PySem.W.nsIn K mainGlobals "_law_deck" = some (some (.ref f27))) (l27 : K.lookup f27 = some ⟨oc27, od27, .func (PySem.W.fnOf "_law_deck" "_law_deck" (defArgs s__law_deck) (defBody s__law_deck) (defScope s__law_deck) .none kV27 dc27 pm27 an27 cd27 ct27), sl27⟩) (c27 : PySem.W.codeIn K cd27 "_law_deck" = true) (k27 : PySem.W.keepIn K (.ref f27) = true)
    (a28 : PySem.W.nsIn K mainGlobals "law" = some (some (.ref f28))) (l28 : K.lookup f28 = some ⟨oc28, od28, .func (PySem.W.fnOf "law" "law" (defArgs s_law) (defBody s_law) (defScope s_law) .none kV28 dc28 pm28 an28 cd28 ct28), sl28⟩) (c28 : PySem.W.codeIn K cd28 "law" = true) (k28 : PySem.W.keepIn K (.ref f28) = true)
    (z0 : PySem.W.nsIn K mainGlobals "int" = some none) (z1 : PySem.W.nsIn K mainGlobals "range" = some none) (z2 : PySem.W.nsIn K mainGlobals "len" = some none) (z3 : PySem.W.nsIn K mainGlobals "tuple" = some none) (z4 : PySem.W.nsIn K mainGlobals "isinstance" = some none) (z5 : PySem.W.nsIn K mainGlobals "bool" = some none) (z6 : PySem.W.nsIn K mainGlobals "str" = some none) (z7 : PySem.W.nsIn K mainGlobals "list" = some none) (z8 : PySem.W.nsIn K mainGlobals "enumerate" = some none) (z9 : PySem.W.nsIn K mainGlobals "zip" = some none) (z10 : PySem.W.nsIn K mainGlobals "min" = some none) (z11 : PySem.W.nsIn K mainGlobals "repr" = some none) (z12 : PySem.W.nsIn K mainGlobals "all" = some none) (z13 : PySem.W.nsIn K mainGlobals "sorted" = some none) (z14 : PySem.W.nsIn K mainGlobals "max" = some none) (z15 : PySem.W.nsIn K mainGlobals "abs" = some none) :
    ∃ fd : FuncData, (∀ (s : Shared) (v : Value), BindsTo s fd ⟨[v], []⟩ [("_law_script", v)]) ∧ ∀ base : Heap, K.In base → base.Ns mainGlobals mg → FnG l.prog w K mg base 7 fa fd ["_law_script"] (spLawD K) := by
  have e := hfa.symm.trans (PySem.W.mg_of X G a28)
  cases e
  have F0 := fun_mk (st := s__law_next) l0 c0 k0
  have F1 := fun_mk (st := s__law_lost) l1 c1 k1
  have F2 := fun_mk (st := s__law_odd) l2 c2 k2
  have F3 := fun_mk (st := s__law_changed) l3 c3 k3
  have F4 := fun_mk (st := s__law_spots) l4 c4 k4
  have F5 := fun_mk (st := s__law_places) l5 c5 k5
  have F6 := fun_mk (st := s__law_letters) l6 c6 k6
  have F7 := fun_mk (st := s__law_tops) l7 c7 k7
  have F8 := fun_mk (st := s__law_sunk) l8 c8 k8
  have F9 := fun_mk (st := s__law_values) l9 c9 k9
  have F10 := fun_mk (st := s__law_same) l10 c10 k10
  have F11 := fun_mk (st := s_is_number) l11 c11 k11
  have F12 := fun_mk (st := s_is_number_within) l12 c12 k12
  have F13 := fun_mk (st := s_state_numbers) l13 c13 k13
  have F14 := fun_mk (st := s_is_line) l14 c14 k14
  have F15 := fun_mk (st := s_is_orphan) l15 c15 k15
  have F16 := fun_mk (st := s_lowered) l16 c16 k16
  have F17 := fun_mk (st := s_happened_at) l17 c17 k17
  have F18 := fun_mk (st := s_trips_of) l18 c18 k18
  have F19 := fun_mk (st := s_fall_back) l19 c19 k19
  have F20 := fun_mk (st := s_fall_holds) l20 c20 k20
  have F21 := fun_mk (st := s__law_one) l21 c21 k21
  have F22 := fun_mk (st := s__law_grown) l22 c22 k22
  have F23 := fun_mk (st := s__law_shuffled) l23 c23 k23
  have F24 := fun_mk (st := s__law_begun) l24 c24 k24
  have F25 := fun_mk (st := s__law_domino) l25 c25 k25
  have F26 := fun_mk (st := s__law_history) l26 c26 k26
  have F27 := fun_mk (st := s__law_deck) l27 c27 k27
  have F28 := fun_mk (st := s_law) l28 c28 k28
  refine ⟨(PySem.W.fnOf "law" "law" (defArgs s_law) (defBody s_law) (defScope s_law) .none kV28 dc28 pm28 an28 cd28 ct28), fun s v => .of_eq rfl, fun base _ _ => ?_⟩
  have D__law_next : DFo l.prog w K mg base 1 "_law_next" 2 (dFn 4 B_law_next_74a4) := .mk' (der__law_next F0 (PySem.W.mg_none_of X G z0)) (PySem.W.mg_of X G a0) F0.kp (F0.binds (ps := ["_law_deck_here", "_law_many"]) fun _ _ _ _ _ _ us hl => match us, hl with | [_, _], _ => rfl)
  have D__law_lost : DFo l.prog w K mg base 2 "_law_lost" 2 (dFn 3 B_law_lost_0080) := .mk' (der__law_lost F1 D__law_next (PySem.W.mg_none_of X G z1) (PySem.W.mg_none_of X G z2) (PySem.W.mg_none_of X G z3)) (PySem.W.mg_of X G a1) F1.kp (F1.binds (ps := ["_law_deck_here", "_law_rows"]) fun _ _ _ _ _ _ us hl => match us, hl with | [_, _], _ => rfl)
  have D__law_odd : DFo l.prog w K mg base 2 "_law_odd" 1 (dFn 2 B_law_odd_0e8b) := .mk' (der__law_odd F2 D__law_next) (PySem.W.mg_of X G a2) F2.kp (F2.binds (ps := ["_law_deck_here"]) fun _ _ _ _ _ _ us hl => match us, hl with | [_], _ => rfl)
  have D__law_changed : DFo l.prog w K mg base 3 "_law_changed" 2 (dFn 4 dStop) := .mk' (fn_stop F3 sc__law_changed rfl) (PySem.W.mg_of X G a3) F3.kp (F3.binds (ps := ["_law_deck_here", "_law_value"]) fun _ _ _ _ _ _ us hl => match us, hl with | [_, _], _ => rfl)
  have D__law_changed : DFo l.prog w K mg base 4 "_law_changed" 2 (dFn 4 (Bs_law_changed_f68e dStop)) := .mk' (der__law_changed_1 F3 D__law_odd D__law_next D__law_changed (PySem.W.mg_none_of X G z0) (PySem.W.mg_none_of X G z4) (PySem.W.mg_none_of X G z5) (PySem.W.mg_none_of X G z6) (PySem.W.mg_none_of X G z3) (PySem.W.mg_none_of X G z7) (PySem.W.mg_none_of X G z2)) (PySem.W.mg_of X G a3) F3.kp (F3.binds (ps := ["_law_deck_here", "_law_value"]) fun _ _ _ _ _ _ us hl => match us, hl with | [_, _], _ => rfl)
  have D__law_changed : DFo l.prog w K mg base 5 "_law_changed" 2 (dFn 4 B_law_changed_f68e) := .mk' (der__law_changed_2 F3 D__law_odd D__law_next D__law_changed (PySem.W.mg_none_of X G z0) (PySem.W.mg_none_of X G z4) (PySem.W.mg_none_of X G z5) (PySem.W.mg_none_of X G z6) (PySem.W.mg_none_of X G z3) (PySem.W.mg_none_of X G z7) (PySem.W.mg_none_of X G z2)) (PySem.W.mg_of X G a3) F3.kp (F3.binds (ps := ["_law_deck_here", "_law_value"]) fun _ _ _ _ _ _ us hl => match us, hl with | [_, _], _ => rfl)
  have D__law_spots : DFo l.prog w K mg base 1 "_law_spots" 1 (dFn 3 B_law_spots_60b5) := .mk' (der__law_spots F4 (PySem.W.mg_none_of X G z8) (PySem.W.mg_none_of X G z2)) (PySem.W.mg_of X G a4) F4.kp (F4.binds (ps := ["_law_row"]) fun _ _ _ _ _ _ us hl => match us, hl with | [_], _ => rfl)
  have D__law_places : DFo l.prog w K mg base 2 "_law_places" 2 (dFn 4 B_law_places_cc50) := .mk' (der__law_places F5 D__law_spots (PySem.W.mg_none_of X G z9)) (PySem.W.mg_of X G a5) F5.kp (F5.binds (ps := ["_law_rows", "_law_cut"]) fun _ _ _ _ _ _ us hl => match us, hl with | [_, _], _ => rfl)
  have D__law_letters : DFo l.prog w K mg base 1 "_law_letters" 1 (dFn 8 B_law_letters_6581) := .mk' (der__law_letters F6 (PySem.W.mg_none_of X G z8) (PySem.W.mg_none_of X G z2) (PySem.W.mg_none_of X G z1)) (PySem.W.mg_of X G a6) F6.kp (F6.binds (ps := ["_law_rows"]) fun _ _ _ _ _ _ us hl => match us, hl with | [_], _ => rfl)
  have D__law_tops : DFo l.prog w K mg base 1 "_law_tops" 2 (dFn 4 B_law_tops_eaaa) := .mk' (der__law_tops F7 (PySem.W.mg_none_of X G z8) (PySem.W.mg_none_of X G z0)) (PySem.W.mg_of X G a7) F7.kp (F7.binds (ps := ["_law_rows", "_law_lost_here"]) fun _ _ _ _ _ _ us hl => match us, hl with | [_, _], _ => rfl)
  have D__law_sunk : DFo l.prog w K mg base 3 "_law_sunk" 2 (dFn 11 B_law_sunk_19fe) := .mk' (der__law_sunk F8 D__law_places D__law_letters D__law_tops (PySem.W.mg_none_of X G z3) (PySem.W.mg_none_of X G z10)) (PySem.W.mg_of X G a8) F8.kp (F8.binds (ps := ["_law_rows", "_law_lost_here"]) fun _ _ _ _ _ _ us hl => match us, hl with | [_, _], _ => rfl)
  have D__law_values : DFo l.prog w K mg base 6 "_law_values" 4 (dFn 8 B_law_values_3d8f) := .mk' (der__law_values F9 D__law_changed D__law_odd D__law_sunk D__law_next D__law_tops (PySem.W.mg_none_of X G z1) (PySem.W.mg_none_of X G z2) (PySem.W.mg_none_of X G z7) (PySem.W.mg_none_of X G z3)) (PySem.W.mg_of X G a9) F9.kp (F9.binds (ps := ["_law_deck_here", "_law_rows", "_law_lost_here", "_law_due"]) fun _ _ _ _ _ _ us hl => match us, hl with | [_, _, _, _], _ => rfl)
  have D__law_same : DFn l.prog w K mg base 1 "_law_same" 2 (dFn 2 B_law_same_6c33) := .mk' (der__law_same F10 (PySem.W.mg_none_of X G z11)) (PySem.W.mg_of X G a10) F10.kp (F10.binds (ps := ["_law_found", "_law_due"]) fun _ _ _ _ _ _ us hl => match us, hl with | [_, _], _ => rfl)
  have D_is_number : DFo l.prog w K mg base 1 "is_number" 1 (dFn 1 B_is_number_52f5) := .mk' (der_is_number F11 (PySem.W.mg_none_of X G z0) (PySem.W.mg_none_of X G z4) (PySem.W.mg_none_of X G z5)) (PySem.W.mg_of X G a11) F11.kp (F11.binds (ps := ["value"]) fun _ _ _ _ _ _ us hl => match us, hl with | [_], _ => rfl)
  have D_is_number_within : DFo l.prog w K mg base 2 "is_number_within" 3 (dFn 3 B_is_number_within_7f04) := .mk' (der_is_number_within F12 D_is_number) (PySem.W.mg_of X G a12) F12.kp (F12.binds (ps := ["value", "low", "high"]) fun _ _ _ _ _ _ us hl => match us, hl with | [_, _, _], _ => rfl)
  have D_state_numbers : DFo l.prog w K mg base 1 "state_numbers" 1 (dFn 2 B_state_numbers_78d0) := .mk' (der_state_numbers F13 (PySem.W.mg_none_of X G z3)) (PySem.W.mg_of X G a13) F13.kp (F13.binds (ps := ["history"]) fun _ _ _ _ _ _ us hl => match us, hl with | [_], _ => rfl)
  have D_is_line : DFo l.prog w K mg base 3 "is_line" 2 (dFn 5 B_is_line_5402) := .mk' (der_is_line F14 D_is_number_within D_state_numbers (PySem.W.mg_none_of X G z9) (PySem.W.mg_none_of X G z12) (PySem.W.mg_none_of X G z3) (PySem.W.mg_none_of X G z4) (PySem.W.mg_none_of X G z2)) (PySem.W.mg_of X G a14) F14.kp (F14.binds (ps := ["history", "value"]) fun _ _ _ _ _ _ us hl => match us, hl with | [_, _], _ => rfl)
  have D_is_orphan : DFo l.prog w K mg base 1 "is_orphan" 2 (dFn 6 B_is_orphan_8604) := .mk' (der_is_orphan F15 ) (PySem.W.mg_of X G a15) F15.kp (F15.binds (ps := ["trip", "line"]) fun _ _ _ _ _ _ us hl => match us, hl with | [_, _], _ => rfl)
  have D_lowered : DFo l.prog w K mg base 2 "lowered" 2 (dFn 7 B_lowered_c6aa) := .mk' (der_lowered F16 D_is_orphan (PySem.W.mg_none_of X G z3) (PySem.W.mg_none_of X G z7)) (PySem.W.mg_of X G a16) F16.kp (F16.binds (ps := ["trips", "high"]) fun _ _ _ _ _ _ us hl => match us, hl with | [_, _], _ => rfl)
  have D_happened_at : DFo l.prog w K mg base 1 "happened_at" 2 (dFn 6 B_happened_at_e85f) := .mk' (der_happened_at F17 (PySem.W.mg_none_of X G z8)) (PySem.W.mg_of X G a17) F17.kp (F17.binds (ps := ["history", "event"]) fun _ _ _ _ _ _ us hl => match us, hl with | [_, _], _ => rfl)
  have D_trips_of : DFo l.prog w K mg base 2 "trips_of" 1 (dFn 5 B_trips_of_ea9a) := .mk' (der_trips_of F18 D_happened_at (PySem.W.mg_none_of X G z13)) (PySem.W.mg_of X G a18) F18.kp (F18.binds (ps := ["history"]) fun _ _ _ _ _ _ us hl => match us, hl with | [_], _ => rfl)
  have D_fall_back : DFs l.prog w K mg base 3 "fall_back" (dFnS 1 5 B_fall_back_94df) := .mk' (der_fall_back F19 D_lowered D_trips_of D_state_numbers (PySem.W.mg_none_of X G z8) (fun us rest hl => StX.bind_star1 (B := fun us => bindArgs (PySem.W.fnOf "fall_back" "fall_back" (defArgs s_fall_back) (defBody s_fall_back) (defScope s_fall_back) .none kV19 dc19 pm19 an19 cd19 ct19) ⟨us, []⟩) (fun _ => rfl) (fun _ _ _ => rfl) us rest hl)) (PySem.W.mg_of X G a19) F19.kp
  have D_fall_holds : DFo l.prog w K mg base 4 "fall_holds" 3 (dFn 3 B_fall_holds_03ce) := .mk' (der_fall_holds F20 D_is_line D_fall_back) (PySem.W.mg_of X G a20) F20.kp (F20.binds (ps := ["history", "failed", "value"]) fun _ _ _ _ _ _ us hl => match us, hl with | [_, _, _], _ => rfl)
  have D__law_one : DFo l.prog w K mg base 2 "_law_one" 2 (dFn 2 B_law_one_4842) := .mk' (der__law_one F21 D__law_next (PySem.W.mg_none_of X G z2)) (PySem.W.mg_of X G a21) F21.kp (F21.binds (ps := ["_law_deck_here", "_law_items"]) fun _ _ _ _ _ _ us hl => match us, hl with | [_, _], _ => rfl)
  have D__law_grown : DFo l.prog w K mg base 3 "_law_grown" 2 (dFn 14 B_law_grown_680b) := .mk' (der__law_grown F22 D__law_one D__law_next (PySem.W.mg_none_of X G z2)) (PySem.W.mg_of X G a22) F22.kp (F22.binds (ps := ["_law_deck_here", "_law_state"]) fun _ _ _ _ _ _ us hl => match us, hl with | [_, _], _ => rfl)
  have D__law_shuffled : DFo l.prog w K mg base 2 "_law_shuffled" 2 (dFn 4 B_law_shuffled_c6aa) := .mk' (der__law_shuffled F23 D__law_next (PySem.W.mg_none_of X G z2) (PySem.W.mg_none_of X G z7)) (PySem.W.mg_of X G a23) F23.kp (F23.binds (ps := ["_law_deck_here", "_law_items"]) fun _ _ _ _ _ _ us hl => match us, hl with | [_, _], _ => rfl)
  have D__law_begun : DFo l.prog w K mg base 3 "_law_begun" 2 (dFn 3 B_law_begun_2a66) := .mk' (der__law_begun F24 D__law_next D__law_shuffled (PySem.W.mg_none_of X G z7) (PySem.W.mg_none_of X G z1)) (PySem.W.mg_of X G a24) F24.kp (F24.binds (ps := ["_law_deck_here", "_law_many"]) fun _ _ _ _ _ _ us hl => match us, hl with | [_, _], _ => rfl)
  have D__law_domino : DFo l.prog w K mg base 2 "_law_domino" 2 (dFn 5 B_law_domino_a8d9) := .mk' (der__law_domino F25 D__law_next (PySem.W.mg_none_of X G z14) (PySem.W.mg_none_of X G z1)) (PySem.W.mg_of X G a25) F25.kp (F25.binds (ps := ["_law_deck_here", "_law_most"]) fun _ _ _ _ _ _ us hl => match us, hl with | [_, _], _ => rfl)
  have D__law_history : DFo l.prog w K mg base 4 "_law_history" 3 (dFn 5 B_law_history_9bf0) := .mk' (der__law_history F26 D__law_next D__law_grown D__law_begun D__law_domino (PySem.W.mg_none_of X G z1)) (PySem.W.mg_of X G a26) F26.kp (F26.binds (ps := ["_law_deck_here", "_law_many", "_law_most"]) fun _ _ _ _ _ _ us hl => match us, hl with | [_, _, _], _ => rfl)
  have D__law_deck : DFo l.prog w K mg base 1 "_law_deck" 1 (dFn 2 B_law_deck_74a9) := .mk' (der__law_deck F27 (PySem.W.mg_none_of X G z2) (PySem.W.mg_none_of X G z15)) (PySem.W.mg_of X G a27) F27.kp (F27.binds (ps := ["_law_script"]) fun _ _ _ _ _ _ us hl => match us, hl with | [_], _ => rfl)
  exact (der_law F28 D__law_lost D__law_values D__law_same D_fall_holds D__law_sunk D__law_history D__law_deck (PySem.W.mg_none_of X G z1) (PySem.W.mg_none_of X G z11)).lawD rfl law_k41
end Sv
open PySem PySem.W PyProof.Rows in
set_option maxRecDepth 100000 in
set_option maxHeartbeats 0 in
theorem PySem.Challenge.cw_savelines_k41_fallen_lines_judged_holds : PySem.Challenge.rw_savelines_k41_fallen_lines_judged.Holds := by
  w_on; o_law; k_head; (case hw => w_witness2)
  k_fill
  refine Sv.walkG (l := PySem.Challenge.rw_savelines_k41_fallen_lines_judged) (n := 63) (k := 7) (x := "_law_script") (sp := Sv.spLawD) rfl (by decide) rfl ⟨rfl, by decide, by decide⟩ (fun w h Y => PySem.W.kIn_of Y) ?F (fun K H a ns hl hO hS => ⟨a, ns, rfl, hO, hS, hl, fun _ => rfl⟩)
  case F =>
    intro w mg fa h KX G hmg
    refine' Sv.all_mk KX G hmg ?a0 ?l0 ?c0 ?k0 ?a1 ?l1 ?c1 ?k1 ?a2 ?l2 ?c2 ?k2 ?a3 ?l3 ?c3 ?k3 ?a4 ?l4 ?c4 ?k4 ?a5 ?l5 ?c5 ?k5 ?a6 ?l6 ?c6 ?k6 ?a7 ?l7 ?c7 ?k7 ?a8 ?l8 ?c8 ?k8 ?a9 ?l9 ?c9 ?k9 ?a10 ?l10 ?c10 ?k10 ?a11 ?l11 ?c11 ?k11 ?a12 ?l12 ?c12 ?k12 ?a13 ?l13 ?c13 ?k13 ?a14 ?l14 ?c14 ?k14 ?a15 ?l15 ?c15 ?k15 ?a16 ?l16 ?c16 ?k16 ?a17 ?l17 ?c17 ?k17 ?a18 ?l18 ?c18 ?k18 ?a19 ?l19 ?c19 ?k19 ?a20 ?l20 ?c20 ?k20 ?a21 ?l21 ?c21 ?k21 ?a22 ?l22 ?c22 ?k22 ?a23 ?l23 ?c23 ?k23 ?a24 ?l24 ?c24 ?k24 ?a25 ?l25 ?c25 ?k25 ?a26 ?l26 ?c26 ?k26 ?a27 ?l27 ?c27 ?k27 ?a28 ?l28 ?c28 ?k28 ?z0 ?z1 ?z2 ?z3 ?z4 ?z5 ?z6 ?z7 ?z8 ?z9 ?z10 ?z11 ?z12 ?z13 ?z14 ?z15
    (case a0 => k_is)
    (case l0 => k_is)
    (case c0 => k_is)
    (case k0 => k_is)
    (case a1 => k_is)
    (case l1 => k_is)
    (case c1 => k_is)
    (case k1 => k_is)
    (case a2 => k_is)
    (case l2 => k_is)
    (case c2 => k_is)
    (case k2 => k_is)
    (case a3 => k_is)
    (case l3 => k_is)
    (case c3 => k_is)
    (case k3 => k_is)
    (case a4 => k_is)
    (case l4 => k_is)
    (case c4 => k_is)
    (case k4 => k_is)
    (case a5 => k_is)
    (case l5 => k_is)
    (case c5 => k_is)
    (case k5 => k_is)
    (case a6 => k_is)
    (case l6 => k_is)
    (case c6 => k_is)
    (case k6 => k_is)
    (case a7 => k_is)
    (case l7 => k_is)
    (case c7 => k_is)
    (case k7 => k_is)
    (case a8 => k_is)
    (case l8 => k_is)
    (case c8 => k_is)
    (case k8 => k_is)
    (case a9 => k_is)
    (case l9 => k_is)
    (case c9 => k_is)
    (case k9 => k_is)
    (case a10 => k_is)
    (case l10 => k_is)
    (case c10 => k_is)
    (case k10 => k_is)
    (case a11 => k_is)
    (case l11 => k_is)
    (case c11 => k_is)
    (case k11 => k_is)
    (case a12 => k_is)
    (case l12 => k_is)
    (case c12 => k_is)
    (case k12 => k_is)
    (case a13 => k_is)
    (case l13 => k_is)
    (case c13 => k_is)
    (case k13 => k_is)
    (case a14 => k_is)
    (case l14 => k_is)
    (case c14 => k_is)
    (case k14 => k_is)
    (case a15 => k_is)
    (case l15 => k_is)
    (case c15 => k_is)
    (case k15 => k_is)
    (case a16 => k_is)
    (case l16 => k_is)
    (case c16 => k_is)
    (case k16 => k_is)
    (case a17 => k_is)
    (case l17 => k_is)
    (case c17 => k_is)
    (case k17 => k_is)
    (case a18 => k_is)
    (case l18 => k_is)
    (case c18 => k_is)
    (case k18 => k_is)
    (case a19 => k_is)
    (case l19 => k_is)
    (case c19 => k_is)
    (case k19 => k_is)
    (case a20 => k_is)
    (case l20 => k_is)
    (case c20 => k_is)
    (case k20 => k_is)
    (case a21 => k_is)
    (case l21 => k_is)
    (case c21 => k_is)
    (case k21 => k_is)
    (case a22 => k_is)
    (case l22 => k_is)
    (case c22 => k_is)
    (case k22 => k_is)
    (case a23 => k_is)
    (case l23 => k_is)
    (case c23 => k_is)
    (case k23 => k_is)
    (case a24 => k_is)
    (case l24 => k_is)
    (case c24 => k_is)
    (case k24 => k_is)
    (case a25 => k_is)
    (case l25 => k_is)
    (case c25 => k_is)
    (case k25 => k_is)
    (case a26 => k_is)
    (case l26 => k_is)
    (case c26 => k_is)
    (case k26 => k_is)
    (case a27 => k_is)
    (case l27 => k_is)
    (case c27 => k_is)
    (case k27 => k_is)
    (case a28 => k_is)
    (case l28 => k_is)
    (case c28 => k_is)
    (case k28 => k_is)
    (case z0 => k_is)
    (case z1 => k_is)
    (case z2 => k_is)
    (case z3 => k_is)
    (case z4 => k_is)
    (case z5 => k_is)
    (case z6 => k_is)
    (case z7 => k_is)
    (case z8 => k_is)
    (case z9 => k_is)
    (case z10 => k_is)
    (case z11 => k_is)
    (case z12 => k_is)
    (case z13 => k_is)
    (case z14 => k_is)
    (case z15 => k_is)
