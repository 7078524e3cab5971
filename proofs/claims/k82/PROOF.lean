import PyProof.Rows.All
import Wide.All
import OpenK.AllK
import Wide.FinOn
import PyProof.EqAt
import PyProof.EqKinds
import PyProof.TupleCall
import HandS.ForMost
import HandS.Conv
import HandS.Style
import HandS.Deep
import KE.DataFind
import PyProof.ReprRoads
import HandS.Zip
import HandS.Walk
import HandS.Comp
import HandS.DictComp
import HandS.RaiseMore
import PyProof.CallFns
import KE.GoesEnum
import HandS.Star
import HandS.Iter
import HandS.IsInst
import HandS.Strs
import HandS.TupMul
import HandS.TupAny
import PyProof.ZipIter
import HandS.Zip0
import HandS.List
import HandS.TupSets
import HandS.SetBool
import KE.GoesMore
import PyProof.P3In
import PyProof.Rows.InDataRows
import HandS.GenList
import KE.KxField
import HandS.FStr
import HandS.SetKeys
import HandS.NoneIn
import HandS.SetFor
import HandS.SortRule
import KE.DataMinMax
import HandS.SortKw
import HandS.GenYield
import HandS.Flow
import HandS.RevRange
import KE.KTupSum
import KE.KSuper
import HandS.Nested
import HandS.ClsMeth
import HandS.Property
import HandS.Dict
import KE.SortData
import HandS.MakeKwOnly
import KE.SortCalls
import HandS.ExcInit
import HandS.ExcOwn
import HandS.TryOnly
import HandS.WordsExc
import HandS.ExcIs
import HandS.ExcField
import KE.KExcIs
import PyProof.Rows.IntBool
import HandS.Text
import HandS.StrMore
import HandS.Replace
import KE.KIntText
import KE.KEqDeep
import PySem.Challenge.RW_savelines_k82_history_texts_that_are_wro
set_option Elab.async false
set_option linter.all false
set_option maxRecDepth 100000
namespace Sv
open PySem PySem.Spec PyProof.Rows L2
/-- a def's promise for calls made where no repr runs -/
structure FnG (P : Program) (w : World) (K : PySem.W.Frag) (mg : Str → Option Value) (base : Heap)
    (k : Nat) (f : Addr) (fd : FuncData) (ps : List Str) (sp : Sp) : Prop where
  len : ∀ vs H Q E, sp vs H Q E → vs.length = ps.length
  run : ∀ (A : Around), A.guards = some [] →
    ∀ (outer : List Env) (s : Shared) (H : Hp) (args : Args) (us : List Value) (vs : List V) (Q : VK) (E : XK),
    Room k A → Env0 P w K mg base A outer s H → BindsTo s fd args (ps.zip us) → Vals vs us → sp vs H Q E →
    codeAny (model P w) A (.call (.ref f) args) (CR CX0 outer P w H s Q E) s
section
variable {P : Program} {w : World} {K : PySem.W.Frag} {mg : Str → Option Value} {base : Heap}
/-- the def's body, where no repr runs -/
theorem okG {x qual : Str} {st : Stmt} {f : Addr} {fd : FuncData} {N ps : List Str} {k : Nat} {sp : Sp}
    (F : Fun K x qual st f fd) (S : FnScope N ps (defScope st)) (len : ∀ vs H Q E, sp vs H Q E → vs.length = ps.length)
    (hbody : ∀ (cdv : Value) (A : Around) (outer : List Env) (s : Shared) (H : Hp) (vs : List V) (Q : VK) (E : XK),
      A.guards = some [] → Room k (A.deeper (envOfC qual (defScope st) s.heap.objs.size f cdv)) → sp vs H Q E →
      ∃ t, PSs (cxOf CX0 P w K mg base N qual (defScope st) f cdv A outer s H E).nox (defBody st) t ∧
        t { nx := fun _ H' => Q .non H', rt := Q } (start N vs) H) :
    FnG P w K mg base (k + 1) f fd ps sp := by
  obtain ⟨oc, od, kV, doc, pm, an, cdv, ct, osl, rfl, lk, hcd⟩ := F.ex
  refine ⟨len, fun A hg outer s H args us vs Q E hr e0 hb r hsp => ?_⟩
  have hl := len vs H Q E hsp
  have KX : K.In s.heap := e0.mod.kin.keeps fun b o e => And.left (e0.bs b o e)
  have lim := e0.mod.nolimit.keeps fun b o e => And.left (e0.bs b o e)
  have hkind : ∀ y ∈ ps.zip us, (defScope st).names.lookup y.1 = some .local ∨
      ((defScope st).names.lookup y.1 = some .cell ∧
        ((cellsFrom (s.heap.objs.size + 1) (defScope st).names []).lookup y.1).isSome = true) := by
    rintro ⟨n, v⟩ hy
    cases S.par n (List.of_mem_zip hy).1 with
    | inl q => exact Or.inl q
    | inr q => exact Or.inr ⟨q, PySem.W.cellsFrom_some _ _ _ (Or.inl q)⟩
  refine codeAny_call_function hr.depth (KX _ _ lk) rfl S.co S.gen rfl (PySem.W.codeRec_of KX hcd) (hb _ _ _ _ ?_)
  refine wpAny_newFunctionEnv_cells S.kind hkind fun env he s1 X1 => ?_
  subst he
  refine ⟨lim.keeps X1.toInCall.keep, codeAny_func ?_⟩
  obtain ⟨t, ht0, hq⟩ := hbody cdv A outer s H vs Q E hg (hr.deeper _) hsp
  have ht := ht0.nox
  have I0 := inv_start (CX := CX0) (E := E) S hr.hd e0 hl r X1
  refine wpAny_mono (ht.run [] s1 (start N vs) H _ I0 hq) (fun fl s' hs => ?_) (fun e s' hs => hs)
  cases fl with
  | ret u =>
    obtain ⟨v, σ', H', J, rv, q⟩ := hs
    exact ⟨v, H', J.os, J.bare, J.base, J.hok, rv, q⟩
  | next =>
    obtain ⟨σ', H', J, q⟩ := hs
    exact ⟨V.non, H', J.os, J.bare, J.base, J.hok, rfl, q⟩
  | brk =>
    obtain ⟨σ', H', J, q⟩ := hs
    exact q.elim
  | cont =>
    obtain ⟨σ', H', J, q⟩ := hs
    exact q.elim
end
section
variable {X : Cx} {k : Nat} {f : Addr} {fd : FuncData} {ps : List Str} {sp : Sp} {dvs : List V} {ds : List Value}
  {E : XK} {x : Str} {p pos : Pos} {e : Expr} {es : List Expr} {t : TA}
/-- f(e, ..) of such a def -/
theorem pe_callG (F : FnG X.prog X.w X.K X.mg X.base k f fd ps sp) (hgd : X.A.guards = some []) (hr : Room k X.A) (hg : Gl X x)
    (hm : X.mg x = some (.ref f)) (hk : PySem.W.keepIn X.K (.ref f) = true) (hb : Binds X.K fd ps ds) (hd : Vals dvs ds)
    (hx : Passes CX0 X E) (ha : PA X (e :: es) t) (hdb : (x == ("__debug__" : Str)) = false := by decide)
    (he : starEach (e :: es) X.env = (false, eval e X.env) :: starEach es X.env := by rfl)
    (hpl : (backTo pos (starEach es X.env)).any (·.1) = false := by rfl) :
    PE X (.Call (.Name x p) (e :: es) [] pos) (tCall sp dvs E t) := by
  refine ⟨fun pins s σ H Q I h => wpAny_Call_Name_kw (ld_glob I hg hm ?_ hdb)⟩
  refine PySem.W.callWith_K (h₀ := X.base) I.ok.mod.kin hk
    (thn (ha.run pos pins s σ H _ I h) fun us s1 ⟨vs, H1, I1, r, q⟩ => ⟨I1.kIn, ?_⟩) he hpl
  have r2 : Vals (vs ++ dvs) (us ++ ds) := r.append hd
  have hl : (us ++ ds).length = ps.length := r2.length.symm.trans (F.len _ _ _ _ q)
  refine wpAny_call (codeAny_mono (F.run X.A hgd X.stack s1 H1 ⟨us, []⟩ (us ++ ds) (vs ++ dvs) Q E hr I1.env0
    (hb s1 us I1.kIn hl) r2 q) fun res s' hq => ?_)
  cases res with
  | error e => exact hx pins σ H1 s1 e s' I1 hq
  | ok fl =>
    cases fl with
    | ret u => exact I1.after hq
    | next => exact hq.elim
    | brk => exact hq.elim
    | cont => exact hq.elim
end
section
variable {X : Cx}
def Shown (K : PySem.W.Frag) (H : Hp) (v : V) (d : PyData) : Prop :=
  Dp K H v d ∧ isDisplay d = true ∧ d.showable = true ∧ d.hasDict = false ∧ d.depth ≤ 60 ∧ d.shown.length ≤ sizeLine
/-- repr(x) of lists and tuples -/
theorem call_repr (hgd : X.A.guards = some []) (hu : X.A.units + 64 < cLine) : CallR X (.builtin "repr")
    (fun xs H Q => ∃ v d, xs = [v] ∧ Shown X.K H v d ∧ Q (.str d.shown) H) := by
  intro pins s σ H xs us Q I r h
  obtain ⟨v, d, rfl, ⟨hd, h1, h2, h3, h4, h5⟩, q⟩ := h
  obtain ⟨u, rfl, ru⟩ := vals1 r
  obtain ⟨as, R⟩ := Dp.reads I d v u hd ru
  obtain ⟨a, rfl⟩ := isRef_of_reads R h1
  refine repr_of_reads' R h2 (PyData.noDict_hsm h3) hgd (by omega) (fun _ _ e => e) (fun h' tk1 tk2 hk => ?_) h5
  exact ⟨.str _, H, I.kept (t' := tk2) hk, ⟨tk1, rfl⟩, q⟩
end
def TupN (H : Hp) (a : Addr) (xs : List V) : Prop := ∃ o : Obj, H a = some (.frz o (.tup xs)) ∧ o.dict = none
theorem TupN.sqT {K : PySem.W.Frag} {H : Hp} {a : Addr} {xs : List V} (h : TupN H a xs) : SqT K H a xs := by
  obtain ⟨o, h, _⟩ := h
  exact .inl (.inr ⟨o, h⟩)
theorem TupN.new {H : Hp} {p : Addr} {o : Obj} {xs : List V} (d : o.dict = none) : TupN (upd H p (.frz o (.tup xs))) p xs := ⟨o, upd_same, d⟩
section
variable {X : Cx} {es : List Expr} {t : TA} {pos : Pos}
def tTupF (t : TA) : TE := fun σ H Q => t σ H fun xs H1 => xs.length ≤ sizeLine ∧ ∀ (p : Addr) (o : Obj), H1 p = none → o.dict = none → Q (.ref p) (upd H1 p (.frz o (.tup xs)))
theorem pe_tupF {x1} (h : PA X es t) : PE X (.Tuple es x1 pos) (tTupF t) := by
  refine ⟨fun pins s σ H Q I hq => ?_⟩
  refine wpAny_Tuple_spliced (thn (h.run pos pins s σ H _ I hq) fun us s1 ⟨xs, H1, I1, r, z, q⟩ => ⟨r.length ▸ z, ?_⟩)
  have hf : H1 s1.heap.objs.size = none := I1.hok.fresh (Nat.le_refl _)
  have hg := Heap.get?_push_size s1.heap (o := { cls := .type "tuple", data := .seq us.toArray }) rfl
  refine ⟨.ref s1.heap.objs.size, _, I1.laid (t' := s1.toks) (o := .frz { cls := .type "tuple", data := .seq us.toArray } (.tup xs)) (fun b u e => Heap.get?_push_of_some _ e) (Nat.le_refl _) ?_, rfl, q _ _ hf rfl⟩
  exact ⟨hg, z, us, r, ⟨_, hg, rfl, _, rfl⟩⟩
end
section
variable {X : Cx}
def rRemD (K : PySem.W.Frag) : V → List V → Hp → VK → Prop := fun x args H Q => ∃ (l : Addr) (y : V) (d : PyData) (xs : List V) (ds : List PyData) (j : Nat),
  x = .ref l ∧ args = [y] ∧ H l = some (.lst xs) ∧ DpAll K H xs ds ∧ Dp K H y d ∧ PyData.plainAll ds = true ∧ d.plain = true ∧ d.depth ≤ 60 ∧
  SeqAt.dataPlace ds d = some j ∧ Q .non (upd H l (.lst (xs.eraseIdx j)))
theorem mt_removeD (hu : X.A.units + 64 < cLine) : MtR X "list.remove" (rRemD X.K) := by
  intro pins s σ H x args v us Q I rx ra h
  obtain ⟨l, y, d, xs, ds, j, rfl, rfl, hH, hds, hd, p1, p2, p3, hj, q⟩ := h
  cases rx
  obtain ⟨u, rfl, ru⟩ := vals1 ra
  obtain ⟨z, its, n, r, hl, e⟩ := I.lstM hH
  obtain ⟨as, R1⟩ := Dp.readsAll I ds xs its hds r
  obtain ⟨bs, R2⟩ := Dp.reads I d y u hd ru
  refine SeqAt.remove_list_data (vs := its.toArray) ⟨_, e, rfl, n, rfl⟩ R1 R2 p1 p2 (by omega) hj (by rw [List.size_toArray, ← hl]; exact z) ?_
  refine ⟨.non, _, I.lset (its' := its.eraseIdx j) (t' := s.toks) hH e ?_ (r.eraseIdx j) ?_, rfl, q⟩
  · show its.toArray.eraseIdxIfInBounds j = (its.eraseIdx j).toArray
    rw [List.eraseIdxIfInBounds_toArray]
  · have := List.length_eraseIdx_le xs j
    omega
end
def iD (ns : List Int) : List PyData := ns.map PyData.int
theorem iD_lay : ∀ ns : List Int, PyData.canLayAll0 (iD ns) = true
  | [] => by simp [iD, PyData.canLayAll0]
  | n :: r => by
    have h := iD_lay r
    simp only [iD, List.map_cons, PyData.canLayAll0, PyData.canLay0] at h ⊢
    rw [h]
    rfl
theorem iD_depth : ∀ ns : List Int, PyData.depthAll (iD ns) = 0
  | [] => by simp [iD, PyData.depthAll]
  | n :: r => by
    have h := iD_depth r
    simp only [iD, List.map_cons, PyData.depthAll, PyData.depth] at h ⊢
    rw [h]
    rfl
theorem shaped_lst (ns : List Int) : SeqAt.shaped (.list (iD ns)) = true := by
  have h1 := iD_lay ns
  have h2 := iD_depth ns
  show (PyData.canLay0 (.list (iD ns)) && decide (PyData.depth (.list (iD ns)) ≤ 64)) = true
  simp only [PyData.canLay0, PyData.depth, h1, h2, Bool.true_and]
  decide
theorem shaped_tup (ns : List Int) : SeqAt.shaped (.tuple (iD ns)) = true := by
  have h1 := iD_lay ns
  have h2 := iD_depth ns
  show (PyData.canLay0 (.tuple (iD ns)) && decide (PyData.depth (.tuple (iD ns)) ≤ 64)) = true
  simp only [PyData.canLay0, PyData.depth, h1, h2, Bool.true_and]
  decide
theorem eqv_nil (ds : List PyData) : PyData.eqv (.list ds) (.list []) = ds.isEmpty := by
  cases ds <;> simp [PyData.eqv, PyData.eqvAll]
def Kp (a b : Addr) (H H' : Hp) : Prop := ∀ c o, c ≠ a → c ≠ b → H c = some o → H' c = some o
theorem Kp.refl {a b : Addr} (H : Hp) : Kp a b H H := fun _ _ _ _ h => h
theorem Kp.trans {a b : Addr} {H H1 H2 : Hp} (x : Kp a b H H1) (y : Kp a b H1 H2) : Kp a b H H2 := fun c o h1 h2 h => y c o h1 h2 (x c o h1 h2 h)
theorem Kp.of {a b : Addr} {H H' : Hp} (h : Same H H') : Kp a b H H' := fun c o _ _ e => h c o e
theorem Kp.new {a b : Addr} {H : Hp} {p : Addr} {o : HO} (h : H p = none) : Kp a b H (upd H p o) := fun c u _ _ e => by
  rw [upd_ne (ne_of_none e h)]
  exact e
theorem Kp.put {a b : Addr} {H : Hp} {p : Addr} {o : HO} (h : p = a ∨ p = b) : Kp a b H (upd H p o) := fun c u h1 h2 e => by
  rw [upd_ne (by rcases h with rfl | rfl <;> assumption)]
  exact e
theorem Same.new {H : Hp} {p : Addr} {o : HO} (h : H p = none) : Same H (upd H p o) := fun c u e => by
  rw [upd_ne (ne_of_none e h)]
  exact e
end Sv
namespace Sv
open PySem PySem.Spec PyProof.Rows L2
section
variable {X : Cx}
def rTupF (K : PySem.W.Frag) : List V → Hp → VK → Prop := fun xs H Q => ∃ p ys, xs = [.ref p] ∧ SqL K H p ys ∧ ∀ (l : Addr) (o : Obj), H l = none → o.dict = none → Q (.ref l) (upd H l (.frz o (.tup ys)))
theorem call_tupleF : CallR X (.type "tuple") (rTupF X.K) := by
  intro pins s σ H xs us Q I r h
  obtain ⟨p, ys, rfl, hq, q⟩ := h
  obtain ⟨u, rfl, rx⟩ := vals1 r
  cases rx
  obtain ⟨its, r', pl, hz⟩ := I.list hq
  have hlen := r'.length
  refine call_tuple_list pl.isList (fun h' kp => ?_) (by simp only [List.size_toArray] <;> omega)
  have I1 : Inv X pins σ H { s with heap := h' } := I.kept (t' := s.toks) kp
  have hg := Heap.get?_push_size h' (o := { cls := .type "tuple", data := .seq its.toArray }) rfl
  refine ⟨.ref h'.objs.size, _, I1.laid (t' := s.toks) (o := .frz { cls := .type "tuple", data := .seq its.toArray } (.tup ys)) (fun b o e => Heap.get?_push_of_some _ e) (Nat.le_refl _) ?_, rfl, q _ _ (I1.hok.fresh (Nat.le_refl _)) rfl⟩
  exact ⟨hg, hz, its, r', ⟨_, hg, rfl, _, rfl⟩⟩
end
end Sv
namespace PySem
open Sem (wp)
set_option maxHeartbeats 1000000 in
theorem sv_enum_new {v : Value} {o : Obj} {H : Heap → Prop} (B : Begins v o H) :
    Meets (Builtin.«enumerate.__new__» ⟨[.type "enumerate", v], []⟩)
      (fun _ R s => H s.heap ∧ R (.ok (.ret (.ref (s.heap.push o).objs.size)))
        { s with heap := Heap.push (Heap.push s.heap o) { cls := .type "enumerate", data := .fields #[.none, .bool false, .ref s.heap.objs.size, rawInt 0, .none, .none] } }) := by
  refine .of_wp fun prog w A R s h => ?_
  obtain ⟨hp, g, d, tk, os⟩ := s
  obtain ⟨h1, h⟩ := h
  have hsub := sub_enumerate
  have q1 : ∀ {A' : Around} {E' : Value → Shared → Prop} {Q' : Value → Shared → Prop},
      Q' (.ref hp.objs.size) ⟨hp.push o, g, d, tk, os⟩ → wpAny (model prog w) A' (pyIter v) Q' E' ⟨hp, g, d, tk, os⟩ :=
    fun q => B.iter prog w _ _ ⟨hp, g, d, tk, os⟩ _ h1 q
  wp_walk using q1
  refine wpAny_stack_any fun st => wpAny_pure ?_
  split
  · rename_i c _ _ _ _ _
    cases hcc : (c == Value.type "enumerate") <;> (wp_walk using q1; exact ⟨_, rfl, h⟩)
  · wp_walk using q1
    exact ⟨_, rfl, h⟩
section
variable {prog : Program} {w : World} {A : Around} {E : Value → Shared → Prop} {s : Shared}
theorem sv_enum_call {v : Value} {o : Obj} {H : Heap → Prop} {Q : Value → Shared → Prop} (B : Begins v o H) (h1 : H s.heap)
    (h : ∀ h', IsEnum h' (s.heap.objs.size + 1) s.heap.objs.size 0 .none → h'.get? s.heap.objs.size = some o →
      (∀ b u, s.heap.get? b = some u → h'.get? b = some u) → Q (.ref (s.heap.objs.size + 1)) { s with heap := h' }) :
    wpAny (model prog w) A (call (.type "enumerate") [v]) Q E s := by
  refine callType_new F.called_enumerate (by decide) (F.typeCall_enumerate_1 _) (F.newCall_enumerate_1 _)
    (fun obj => F.args_object_init_2 obj _) F.entry_enumerate_new (sv_enum_new B) ⟨h1, ?_⟩
  have hz : (s.heap.push o).objs.size = s.heap.objs.size + 1 := Heap.size_push ..
  show _ ∧ _
  rw [hz]
  have he := Heap.get?_push_size (s.heap.push o)
    (o := { cls := .type "enumerate", data := .fields #[.none, .bool false, .ref s.heap.objs.size, rawInt 0, .none, .none] }) rfl
  rw [hz] at he
  exact ⟨⟨_, he, rfl⟩, h _ he (Heap.get?_push_of_some _ (Heap.get?_push_size _ B.free))
    fun b u x => Heap.get?_push_of_some _ (Heap.get?_push_of_some _ x)⟩
end
end PySem
namespace Sv
open PySem PySem.Spec PyProof.Rows L2
/-- a tuple's items, each in a new pair with its number -/
def Itte (K : PySem.W.Frag) (a : Addr) (xs : List V) : It where
  go := fun i H => SqT K H a xs ∧ i < xs.length
  yld := fun i H v H' => ∃ T x, v = .ref T ∧ H T = none ∧ H' = upd H T (.tup [.int (i : Nat), x]) ∧ xs[i]? = some x
  stop := fun i H => SqT K H a xs ∧ i = xs.length
theorem turn_etup {P : Program} {w : World} {K : PySem.W.Frag} {elts : List Expr} {kk : Nat} {tpos : Pos} (a e it : Addr) (xs : List V) :
    Turn P w K (.Tuple elts kk tpos) (Itte K a xs) [e, it] e
      (fun i h => (∃ old, IsEnum h e it ((i : Nat) : Int) old) ∧ h.IsTupleIter it a i ∧ e ≠ it ∧ a ≠ it ∧ a ≠ e) where
  mem := by simp
  obj := fun i h st b hb => by
    obtain ⟨⟨old, he⟩, ⟨o, ho, hc, hd⟩, _⟩ := st
    rcases (show b = e ∨ b = it by simpa using hb) with rfl | rfl
    · exact ⟨_, he, fun v q => nomatch q⟩
    · exact ⟨o, ho, fun v q => by rw [hd] at q; cases q⟩
  keep := fun i h h' st k => by
    obtain ⟨⟨old, he⟩, hi, hr⟩ := st
    exact ⟨⟨old, k e (by simp) _ he⟩, hi.at fun o q => k it (by simp) o q, hr⟩
  item := by
    intro X hP hw hK hc i pins s σ H E I hf st hg
    subst hP hw hK
    obtain ⟨⟨old, he⟩, hit, hne, hai, hae⟩ := st
    obtain ⟨hq, hi⟩ := hg
    obtain ⟨its, rv, p, hz⟩ := I.tuple hq
    have hlen := rv.length
    have hel : e < s.heap.objs.size := Heap.lt_size he
    have hil : it < s.heap.objs.size := by
      obtain ⟨_, q, _⟩ := hit
      exact Heap.lt_size q
    have D : Draws X.prog X.w X.A.in1 it [it, a] its.toArray.size (fun i v => its.toArray[i]? = some v)
        (fun i h => h.IsTupleIter it a i ∧ h.IsTuple a its.toArray) := Draws.tuple (A := X.A.in1) (show X.A.in1.handled = none from I.ok.hd hc) it a hai its.toArray
    refine wpAny_pyNext_enum_itemD D he ⟨hit, p⟩ (by rw [List.size_toArray]; omega) hne (by simp [hne, Ne.symm hae]) fun u h' tk hPu ho hst hT hsz hk => ?_
    refine ⟨_, rfl, wpAny_letOwnedTupleGo_enum (s := { s with heap := h', toks := tk + 1 }) ho fun h'' he' sb => ?_⟩
    obtain ⟨x, hx⟩ : ∃ x, xs[i]? = some x := ⟨_, List.getElem?_eq_getElem hi⟩
    obtain ⟨u', hu', ru⟩ := rv.get hx
    have hPu' : its[i]? = some u := by simpa using hPu
    obtain rfl : u' = u := Option.some.inj (hu'.symm.trans hPu')
    have hT2 : h''.get? s.heap.objs.size = some { cls := .type "tuple", data := .seq #[.int i tk, u'] } := (sb.2 _ (Nat.ne_of_gt hel)).trans hT
    have new : ObjOk X.prog X.w (upd H s.heap.objs.size (.tup [.int (i : Nat), x])) h'' s.heap.objs.size (.tup [.int (i : Nat), x]) := by
      refine ⟨?_, [.int i tk, u'], .cons ⟨_, rfl⟩ (.cons ru .nil), ⟨_, hT2, rfl, _, rfl⟩⟩
      show 2 ≤ sizeLine
      decide
    have I1 : Inv X pins σ (upd H s.heap.objs.size (.tup [.int (i : Nat), x])) { s with heap := h'', toks := tk + 1 } := by
      refine I.turnedNew (ch := [e, it]) (fun b ob hb q => ?_) hf (Nat.le_refl _) new
      have nb : b ≠ e ∧ b ≠ it := by simpa using hb
      exact (sb.2 b nb.1).trans (hk b ob nb.1 nb.2 q)
    refine ⟨.ref s.heap.objs.size, _, I1, rfl, ⟨_, x, rfl, I.hok.fresh (Nat.le_refl _), rfl, hx⟩,
      ⟨⟨u', ?_⟩, hst.1.at fun o q => (sb.2 it (Ne.symm hne)).trans q, hne, hai, hae⟩, fun b hb => ?_⟩
    · have e1 : ((i + 1 : Nat) : Int) = (i : Int) + 1 := by omega
      rw [e1]
      exact he'
    · have hb' : b < s.heap.objs.size := by
        rcases (show b = e ∨ b = it by simpa using hb) with rfl | rfl <;> assumption
      rw [upd_ne (Nat.ne_of_lt hb')]
      exact (hf b hb).1
  done := by
    intro X hP hw hK hc i pins s σ H E I hf st hg
    subst hP hw hK
    obtain ⟨⟨old, he⟩, hit, hne, hai, hae⟩ := st
    obtain ⟨hq, hi⟩ := hg
    obtain ⟨its, rv, p, hz⟩ := I.tuple hq
    have hlen := rv.length
    obtain ⟨f0, f1, f2, f3, f4, f5⟩ := hf it (by simp)
    have D : Draws X.prog X.w X.A.in1 it [it, a] its.toArray.size (fun i v => its.toArray[i]? = some v)
        (fun i h => h.IsTupleIter it a i ∧ h.IsTuple a its.toArray) := Draws.tuple (A := X.A.in1) (show X.A.in1.handled = none from I.ok.hd hc) it a hai its.toArray
    have hi2 : i = its.toArray.size := by
      rw [List.size_toArray]
      omega
    have hit2 : s.heap.IsTupleIter it a its.toArray.size := hi2 ▸ hit
    exact wpAny_pyNext_enum_endD D he ⟨hit2, p⟩ fun h' eb => ⟨rfl, I.turned (t' := s.toks) (fun b o hb q => eb b o hb q) f0 f1 f3 f4 f5⟩
  self := fun A i s Q E st h => by
    obtain ⟨⟨_, he⟩, _⟩ := st
    exact wpAny_pyIter_enum he h
end Sv
namespace Sv
open PySem PySem.Spec PyProof.Rows L2
section
variable {X : Cx}
/-- t[lo:hi], not the whole, known to bear no dict -/
def rSlTF (K : PySem.W.Frag) : V → Option Int → Option Int → Hp → VK → Prop := fun x lo hi H Q => ∃ a xs, x = .ref a ∧ SqT K H a xs ∧
  ¬ (HT.sIx xs.length 0 lo = 0 ∧ HT.sIx xs.length xs.length hi = xs.length) ∧ ∀ (p : Addr) (o : Obj), H p = none → o.dict = none → Q (.ref p) (upd H p (.frz o (.tup (cutV xs lo hi))))
theorem sl_tupF : SlR X (rSlTF X.K) := by
  intro pins s σ H x v vl vu lo hi sl Q I rx hs pl pu h
  obtain ⟨a, xs, rfl, hx, hw, q⟩ := h
  cases rx
  obtain ⟨its, r, ht, hz⟩ := I.tuple hx
  have hlen : its.toArray.size = xs.length := by
    rw [List.size_toArray]
    exact r.length.symm
  refine ⟨"tuple", _, PyProof.Rows.slot_tuple_getitem.lookup, ht.typeIs, ?_⟩
  have hnot : ¬ (HT.sIx its.toArray.size 0 lo = 0 ∧ HT.sIx its.toArray.size its.toArray.size hi = its.toArray.size) := by rwa [hlen]
  refine HT.getItem_tuple_cut ht hs pl pu hnot ?_ (hlen ▸ hz)
  rw [hlen]
  have hg := Heap.get?_push_size s.heap (o := { cls := .type "tuple", data := .seq ((its.toArray.toList.drop (HT.sIx xs.length 0 lo)).take (HT.sIx xs.length xs.length hi - HT.sIx xs.length 0 lo)).toArray }) rfl
  refine ⟨.ref s.heap.objs.size, _, I.laid (t' := s.toks) (o := .frz _ (.tup (cutV xs lo hi))) (fun b ob q => Heap.get?_push_of_some _ q) (Nat.le_refl _) ⟨hg, ?_⟩, rfl, q _ _ (I.hok.fresh (Nat.le_refl _)) rfl⟩
  exact ⟨Nat.le_trans (cutV_length xs lo hi) hz, _, (r.drop (HT.sIx xs.length 0 lo)).take (HT.sIx xs.length xs.length hi - HT.sIx xs.length 0 lo), ⟨_, hg, rfl, _, rfl⟩⟩
end
inductive Kn (K : PySem.W.Frag) (H : Hp) : V → Prop
  | non : Kn K H .non
  | bl (b : Bool) : Kn K H (.bl b)
  | int (i : Int) : Kn K H (.int i)
  | str (x : Str) : Kn K H (.str x)
  | lst {a : Addr} {xs : List V} (e : H a = some (.lst xs)) : Kn K H (.ref a)
  | tup {a : Addr} {xs : List V} (e : H a = some (.tup xs)) : Kn K H (.ref a)
  | ftup {a : Addr} {o : Obj} {xs : List V} (e : H a = some (.frz o (.tup xs))) : Kn K H (.ref a)
  | dK {a : Addr} {kvs : List (Key × V)} (e : H a = some (.dK kvs)) : Kn K H (.ref a)
end Sv
namespace Sv
open PySem PySem.Spec PyProof.Rows L2
mutual
inductive DX (N : Addr → Prop) (K : PySem.W.Frag) (H : Hp) : V → PyData → Prop
  | non : DX N K H .non .none
  | bl (b : Bool) : DX N K H (.bl b) (.bool b)
  | int (i : Int) : DX N K H (.int i) (.int i)
  | str (x : Str) : DX N K H (.str x) (.str x)
  | lst {a : Addr} {xs : List V} {ds : List PyData} : H a = some (.lst xs) → N a → DXs N K H xs ds → DX N K H (.ref a) (.list ds)
  | tup {a : Addr} {xs : List V} {ds : List PyData} : (H a = some (.tup xs) ∨ ∃ o, H a = some (.frz o (.tup xs))) → DXs N K H xs ds → DX N K H (.ref a) (.tuple ds)
  | d0 {a : Addr} : H a = some (.dK []) → DX N K H (.ref a) (.dict [])
  | d1 {a : Addr} {k : Str} {i : Int} : H a = some (.dK [(Sum.inr k, .int i)]) → DX N K H (.ref a) (.dict [(.str k, .int i)])
inductive DXs (N : Addr → Prop) (K : PySem.W.Frag) (H : Hp) : List V → List PyData → Prop
  | nil : DXs N K H [] []
  | cons {v : V} {vs : List V} {d : PyData} {ds : List PyData} : DX N K H v d → DXs N K H vs ds → DXs N K H (v :: vs) (d :: ds)
end
mutual
/-- wherever lists, tuples and dicts stay -/
theorem DX.keep {N : Addr → Prop} {K : PySem.W.Frag} {H H' : Hp} (e : ∀ (a : Addr) (xs : List V), N a → H a = some (.lst xs) → H' a = some (.lst xs)) (e2 : ∀ (a : Addr) (xs : List V), (H a = some (.tup xs) ∨ ∃ o, H a = some (.frz o (.tup xs))) → (H' a = some (.tup xs) ∨ ∃ o, H' a = some (.frz o (.tup xs))))
    (e3 : ∀ (a : Addr) (kvs : List (Key × V)), H a = some (.dK kvs) → H' a = some (.dK kvs)) : ∀ {v : V} {d : PyData}, DX N K H v d → DX N K H' v d
  | _, _, .non => .non
  | _, _, .bl b => .bl b
  | _, _, .int i => .int i
  | _, _, .str x => .str x
  | _, _, .lst h n hs => .lst (e _ _ n h) n (DXs.keep e e2 e3 hs)
  | _, _, .tup h hs => .tup (e2 _ _ h) (DXs.keep e e2 e3 hs)
  | _, _, .d0 h => .d0 (e3 _ _ h)
  | _, _, .d1 h => .d1 (e3 _ _ h)
theorem DXs.keep {N : Addr → Prop} {K : PySem.W.Frag} {H H' : Hp} (e : ∀ (a : Addr) (xs : List V), N a → H a = some (.lst xs) → H' a = some (.lst xs)) (e2 : ∀ (a : Addr) (xs : List V), (H a = some (.tup xs) ∨ ∃ o, H a = some (.frz o (.tup xs))) → (H' a = some (.tup xs) ∨ ∃ o, H' a = some (.frz o (.tup xs))))
    (e3 : ∀ (a : Addr) (kvs : List (Key × V)), H a = some (.dK kvs) → H' a = some (.dK kvs)) : ∀ {vs : List V} {ds : List PyData}, DXs N K H vs ds → DXs N K H' vs ds
  | _, _, .nil => .nil
  | _, _, .cons h hs => .cons (DX.keep e e2 e3 h) (DXs.keep e e2 e3 hs)
end
theorem DX.kp {K : PySem.W.Frag} {H H' : Hp} {a b : Addr} {N : Addr → Prop} {v : V} {d : PyData} (h : DX N K H v d) (e : Kp a b H H') (ha : ¬ N a) (hb : ¬ N b) (la : ∃ xs, H a = some (.lst xs)) (lb : ∃ xs, H b = some (.lst xs)) : DX N K H' v d := by
  obtain ⟨xa, la⟩ := la
  obtain ⟨xb, lb⟩ := lb
  refine h.keep (fun c xs hc q => e _ _ (fun z => ha (z ▸ hc)) (fun z => hb (z ▸ hc)) q) (fun c xs q => q.elim (fun q => .inl (e _ _ (ne_of q la (by intro z; cases z)) (ne_of q lb (by intro z; cases z)) q)) fun ⟨o, q⟩ => .inr ⟨o, e _ _ (ne_of q la (by intro z; cases z)) (ne_of q lb (by intro z; cases z)) q⟩)
    (fun c xs q => e _ _ (ne_of q la (by intro z; cases z)) (ne_of q lb (by intro z; cases z)) q)
theorem DXs.len {N : Addr → Prop} {K : PySem.W.Frag} {H : Hp} : ∀ {vs : List V} {ds : List PyData}, DXs N K H vs ds → vs.length = ds.length
  | _, _, .nil => rfl
  | _, _, .cons _ hs => by rw [List.length_cons, List.length_cons, DXs.len hs]
theorem DXs.at {N : Addr → Prop} {K : PySem.W.Frag} {H : Hp} : ∀ {vs : List V} {ds : List PyData}, DXs N K H vs ds → ∀ {i : Nat} {v : V}, vs[i]? = some v → ∃ d, ds[i]? = some d ∧ DX N K H v d
  | _, _, .nil, i, v, h => by simp at h
  | _, _, .cons (d := d) h1 h2, 0, v, h => by
    cases h
    exact ⟨d, rfl, h1⟩
  | _, _, .cons h1 h2, i + 1, v, h => DXs.at h2 (i := i) h
theorem DXs.append {N : Addr → Prop} {K : PySem.W.Frag} {H : Hp} : ∀ {vs : List V} {ds : List PyData} {ws : List V} {es : List PyData}, DXs N K H vs ds → DXs N K H ws es → DXs N K H (vs ++ ws) (ds ++ es)
  | _, _, _, _, .nil, h => h
  | _, _, _, _, .cons h1 h2, h => .cons h1 (DXs.append h2 h)
theorem DXs.ints {N : Addr → Prop} {K : PySem.W.Frag} {H : Hp} : ∀ ns : List Int, DXs N K H (ns.map V.int) (iD ns)
  | [] => .nil
  | n :: r => .cons (.int n) (DXs.ints r)
section
variable {X : Cx} {pins : List (Addr × Obj)} {σ : L2.St} {H : Hp} {s : Shared} {N : Addr → Prop}
mutual
theorem DX.reads (hN : ∀ a, N a → a ≠ sysModules) (I : Inv X pins σ H s) : ∀ (d : PyData) (v : V) (u : Value), DX N X.K H v d → RelV v u → ∃ as, Reads s.heap u d as ∧ sysModules ∉ as
  | .none, _, _, h, r => by
    cases h
    cases r
    exact ⟨_, Reads.none, List.not_mem_nil⟩
  | .bool b, _, _, h, r => by
    cases h
    cases r
    exact ⟨_, Reads.bool b, List.not_mem_nil⟩
  | .int i, _, _, h, r => by
    cases h
    obtain ⟨t, rfl⟩ := r
    exact ⟨_, Reads.int i t, List.not_mem_nil⟩
  | .str x, _, _, h, r => by
    cases h
    obtain ⟨t, rfl⟩ := r
    exact ⟨_, Reads.str x t, List.not_mem_nil⟩
  | .list ds, _, _, h, r => by
    cases h with
    | lst hs hn ha =>
      cases r
      obtain ⟨its, rv, ⟨o, n, ho, hc, _, hd⟩, _⟩ := I.list (.of hs)
      obtain ⟨as, hr, hm⟩ := DXs.reads hN I ds _ its ha rv
      exact ⟨_, Reads.list ho hc hd hr, fun z => (List.mem_cons.mp z).elim (fun z => hN _ hn z.symm) hm⟩
  | .tuple ds, _, _, h, r => by
    cases h with
    | tup hs ha =>
      cases r
      obtain ⟨its, rv, ⟨o, ho, hc, n, hd⟩, _⟩ := I.tuple (.inl hs)
      obtain ⟨as, hr, hm⟩ := DXs.reads hN I ds _ its ha rv
      exact ⟨_, Reads.tuple ho hc hd hr, hm⟩
  | .dict kvs, _, _, h, r => by
    cases h with
    | d0 hs =>
      cases r
      obtain ⟨_, hn, vs, kv, o, es, ep, ho, ⟨hc, _, _⟩, hd, _, hp, _⟩ := I.hok _ _ hs
      cases kv
      have he : es.toList = [] := by
        generalize es.toList = l at hp
        cases hp
        rfl
      refine ⟨_, Reads.dict (as := []) (bs := []) ho hc hd (by rw [he]; exact .nil) (by rw [he]; exact .nil), fun z => ?_⟩
      have hz := List.mem_singleton.mp (by simpa using z)
      rw [hz] at hn
      simp at hn
    | @d1 _ k i hs =>
      cases r
      obtain ⟨_, hn, vs, kv, o, es, ep, ho, ⟨hc, _, _⟩, hd, _, hp, _⟩ := I.hok _ _ hs
      obtain ⟨u, t, rfl, rfl⟩ : ∃ (u : Value) (t : Tok), vs = [(Sum.inr k, u)] ∧ u = .int i t := by
        match vs, kv with
        | [(k', u)], .cons ⟨e1, t, e2⟩ .nil => exact ⟨u, t, by rw [show (Sum.inr k : Key) = k' from e1], e2⟩
      generalize hl : es.toList = l at hp
      cases hp with
      | @cons e _ _ _ p1 p2 p3 =>
        cases p3
        obtain ⟨hh, key, val⟩ := e
        have p2' : val = Value.int i t := p2
        subst p2'
        have p1' : keyIs (Sum.inr k) key = true := p1
        obtain ⟨i', t', z, _⟩ | ⟨x, t', z, rfl⟩ := keyIs_shape p1'
        · cases z
        · cases z
          refine ⟨_, Reads.dict (as := [] ++ []) (bs := [] ++ []) ho hc hd (by rw [hl]; exact .cons (.str _ _) .nil) (by rw [hl]; exact .cons (.int _ _) .nil), fun z => ?_⟩
          have hz := List.mem_singleton.mp (by simpa using z)
          rw [hz] at hn
          simp at hn
theorem DXs.reads (hN : ∀ a, N a → a ≠ sysModules) (I : Inv X pins σ H s) : ∀ (ds : List PyData) (vs : List V) (us : List Value), DXs N X.K H vs ds → Vals vs us → ∃ as, ReadsAll s.heap us ds as ∧ sysModules ∉ as
  | [], _, _, h, r => by
    cases h
    cases r
    exact ⟨_, ReadsAll.nil, List.not_mem_nil⟩
  | d :: ds, _, _, h, r => by
    cases h with
    | cons h1 h2 =>
      cases r with
      | cons r1 r2 =>
        obtain ⟨as, q1, m1⟩ := DX.reads hN I d _ _ h1 r1
        obtain ⟨bs, q2, m2⟩ := DXs.reads hN I ds _ _ h2 r2
        exact ⟨_, ReadsAll.cons q1 q2, fun z => (List.mem_append.mp z).elim m1 m2⟩
end
end
/-- data whose text can be shown -/
structure FineX (n W : Nat) (d : PyData) : Prop where
  dep : d.depth ≤ n
  wei : d.weight ≤ W
  sho : d.showable = true
  lea : d.leavesShort 40 = true
structure FineXs (n W : Nat) (ds : List PyData) : Prop where
  dep : PyData.depthAll ds ≤ n
  wei : PyData.weightAll ds ≤ W
  sho : PyData.showableAll ds = true
  lea : PyData.leavesShortAll 40 ds = true
theorem FineX.mono {n W m U : Nat} {d : PyData} (h : FineX n W d) (e : n ≤ m) (e2 : W ≤ U) : FineX m U d := ⟨Nat.le_trans h.dep e, Nat.le_trans h.wei e2, h.sho, h.lea⟩
theorem FineXs.mono {n W m U : Nat} {d : List PyData} (h : FineXs n W d) (e : n ≤ m) (e2 : W ≤ U) : FineXs m U d := ⟨Nat.le_trans h.dep e, Nat.le_trans h.wei e2, h.sho, h.lea⟩
theorem finex_nil : FineXs 0 0 [] := ⟨Nat.le_refl _, Nat.le_refl _, rfl, rfl⟩
theorem finex_cons {n W U : Nat} {d : PyData} {ds : List PyData} (h : FineX n W d) (hs : FineXs n U ds) : FineXs n (W + 1 + U) (d :: ds) := by
  refine ⟨?_, ?_, ?_, ?_⟩
  · simp only [PyData.depthAll]
    exact Nat.max_le.mpr ⟨h.dep, hs.dep⟩
  · have h1 := h.wei
    have h2 := hs.wei
    simp only [PyData.weightAll]
    omega
  · simp only [PyData.showableAll, h.sho, hs.sho, Bool.and_self]
  · simp only [PyData.leavesShortAll, h.lea, hs.lea, Bool.and_self]
theorem finex_list {n W : Nat} {ds : List PyData} (h : FineXs n W ds) : FineX (n + 1) W (.list ds) := by
  have h1 := h.dep
  refine ⟨by simp only [PyData.depth]; omega, h.wei, ?_, ?_⟩
  · simp only [PyData.showable, h.sho]
  · simp only [PyData.leavesShort, h.lea]
theorem finex_tuple {n W : Nat} {ds : List PyData} (h : FineXs n W ds) : FineX (n + 1) W (.tuple ds) := by
  have h1 := h.dep
  refine ⟨by simp only [PyData.depth]; omega, h.wei, ?_, ?_⟩
  · simp only [PyData.showable, h.sho]
  · simp only [PyData.leavesShort, h.lea]
theorem FineX.len {n W : Nat} {d : PyData} (h : FineX n W d) (hW : W ≤ 300000) : d.shown.length ≤ sizeLine := by
  have q := PyData.shown_le 40 (by decide) d h.lea
  have := h.wei
  rw [sizeLine_eq]
  omega
section
variable {X : Cx}
def ShownX (N : Addr → Prop) (K : PySem.W.Frag) (H : Hp) (v : V) (d : PyData) : Prop := (∀ a, N a → a ≠ sysModules) ∧ DX N K H v d ∧ isDisplay d = true ∧ d.showable = true ∧ d.depth ≤ 60 ∧ d.shown.length ≤ sizeLine
theorem FineX.shown {N : Addr → Prop} {K : PySem.W.Frag} {H : Hp} {v : V} {n W : Nat} {d : PyData} (h : FineX n W d) (hn : n ≤ 60) (hW : W ≤ 300000) (hN : ∀ a, N a → a ≠ sysModules) (hd : DX N K H v d) (hi : isDisplay d = true) : ShownX N K H v d :=
  ⟨hN, hd, hi, h.sho, Nat.le_trans h.dep hn, h.len hW⟩
/-- a list display, told that it is not sys.modules -/
def tLstS (t : TA) : TE := fun σ H Q => t σ H fun xs H1 => xs.length ≤ sizeLine ∧ ∀ p, H1 p = none → p ≠ sysModules → Q (.ref p) (upd H1 p (.lst xs))
theorem pe_lstS {es : List Expr} {t : TA} {pos : Pos} (h : PA X es t) : PE X (.List es pos) (tLstS t) := by
  refine ⟨fun pins s σ H Q I hq => ?_⟩
  refine wpAny_List_spliced (thn (h.run pos pins s σ H _ I hq) fun us s1 ⟨xs, H1, I1, r, z, q⟩ => ⟨by rw [← r.length]; exact z, ?_⟩)
  have hf : H1 s1.heap.objs.size = none := I1.hok.fresh (Nat.le_refl _)
  refine ⟨.ref s1.heap.objs.size, upd H1 s1.heap.objs.size (.lst xs), I1.laid (t' := s1.toks) (fun b u e => Heap.get?_push_of_some _ e) (Nat.le_refl _) ?_, rfl, q _ hf (Ne.symm (Nat.ne_of_lt I1.big))⟩
  exact ⟨z, us, 0, r, Heap.get?_push_size _ rfl⟩
end
end Sv
set_option maxHeartbeats 4000000
namespace Sv
open PySem PySem.Spec PyProof.Rows L2
theorem tuple_mulW1 (l : Addr) (items : Array Value) (n : Nat) (dd : Option Addr) (sl : Array (Option Value)) (u : Tok) (c1 : (items.isEmpty || (1 : Int) == 1) = true) :
    Meets (Builtin.«tuple.__mul__» ⟨[.ref l, .int 1 u], []⟩) (fun _ R s => s.heap.get? l = some { cls := .type "tuple", dict := dd, data := .seq items n, slots := sl } ∧ R (.ok (.ret (Value.ref l))) s) :=
  .of_wp fun prog w A R s h => by
    obtain ⟨hp, g, d, tk, os⟩ := s
    obtain ⟨hl, h⟩ := h
    have f1 := AutoSeq1.idx_int
    wp_walk using wpAny_loadPart' hl
    repeat (first
      | (refine wpAny_ite_true (decide_eq_true c1) ?_; wp_walk using wpAny_loadPart' hl)
      | (refine wpAny_ite_false (decide_eq_false (by decide)) ?_; wp_walk using wpAny_loadPart' hl))
    exact ⟨_, rfl, h⟩
section
variable {X : Cx}
def rRep1 (K : PySem.W.Frag) : R2 := fun x y H Q => ∃ l xs, x = .ref l ∧ y = .int 1 ∧ SqT K H l xs ∧ Q (.ref l) H
theorem op_rep1 : OpR X (binaryOp .Mult) (rRep1 X.K) := by
  intro pins s σ H x y v u Q I rx ry h
  obtain ⟨l, xs, rfl, rfl, hT, q⟩ := h
  cases rx
  obtain ⟨t, rfl⟩ := ry
  obtain ⟨its, r, ⟨⟨cls, dd, data, sl⟩, ho, hc, n, hd⟩, hs⟩ := I.tuple hT
  simp only at hc hd
  subst hc hd
  refine wpAny_binaryOp_repeat_ref (T := "tuple") (U := "int") (by decide) ⟨_, ho, rfl⟩ (fun s' => typeIs_int s' 1 t) noFill_tuple_mul F.fills_int_mul F.slot_int_rmul repeat_tuple F.slot_int_index.lookup
    (call_meets F.slot_int_rmul (typeIs_int s 1 t) F.entry_int_rmul (F.args_int_rmul_2 _ _) (int_rmul_tuple 1 t l its.toArray n dd sl)
      ⟨ho, rfl, ⟨_, ho, rfl⟩, call_meets F.slot_tuple_mul ⟨_, ho, rfl⟩ F.entry_tuple_mul (F.args_tuple_mul_2 _ _) (tuple_mulW1 l its.toArray n dd sl t (by simp)) ⟨ho, ?_⟩⟩)
  exact ⟨.ref l, H, I, rfl, q⟩
end
end Sv
namespace Sv
open PySem PySem.Spec PyProof.Rows L2
def TupT (H : Hp) (a : Addr) (xs : List V) : Prop := H a = some (.tup xs) ∨ ∃ o, H a = some (.frz o (.tup xs))
theorem TupT.sqT {K : PySem.W.Frag} {H : Hp} {a : Addr} {xs : List V} (h : TupT H a xs) : SqT K H a xs := .inl h
end Sv
set_option maxHeartbeats 1000000
namespace Sv
open PySem
structure ZDist (z TI TO : Addr) (its ls : List Addr) : Prop where
  nd : (z :: TI :: TO :: its).Nodup
  away : ∀ l ∈ ls, l ∉ z :: TI :: TO :: its
  len : its.length = ls.length
  ne : its ≠ []
  sm : its.length ≤ 1000
end Sv
set_option maxHeartbeats 1000000
namespace Sv
open PySem
section
variable {prog : Program} {w : World} {A : Around} {E : Value → Shared → Prop} {s : Shared}
theorem ZDist.inj {z TI TO : Addr} {its ls : List Addr} (D : ZDist z TI TO its ls) {i j : Nat} {a : Addr} (h : its[i]? = some a) (g : its[j]? = some a) : i = j := by
  have n := D.nd
  simp only [List.nodup_cons] at n
  have n3 := n.2.2.2
  have hi := (List.getElem?_eq_some_iff.mp h).1
  exact (List.getElem?_inj hi n3).mp (h.trans g.symm)
end
end Sv
set_option maxHeartbeats 1000000
set_option maxHeartbeats 1000000
set_option maxHeartbeats 1000000
set_option maxHeartbeats 1000000
namespace Sv
open PySem PySem.Spec PyProof.Rows L2
section
variable {P : Program} {w : World} {K : PySem.W.Frag} {mg mb : Str → Option Value} {k : Nat} {fa a : Addr} {fd : FuncData} {x : Str} {sp : Sp}
  {s₁ : Shared} {vs : List Value} {ns : List Int}
/-- from one abstract heap that tracks nothing but the script -/
theorem headG_core (H : Hp) (KX : K.In s₁.heap) (hns : s₁.heap.Ns mainGlobals mg) (hb : s₁.heap.Ns builtinsNs mb)
    (hbb : ∀ y : Str, y ≠ "__name__" → mb y = bootBuiltins y) (hlim : s₁.heap.NoLimit) (hg : s₁.gens = #[])
    (ha : s₁.heap.get? a = some { cls := .type "list", data := .seq vs.toArray }) (hr : Room k callerA)
    (F : ∀ base : Heap, K.In base → base.Ns mainGlobals mg → FnG P w K mg base k fa fd [x] sp)
    (hbind : ∀ (s : Shared) (u : Value), BindsTo s fd ⟨[u], []⟩ [(x, u)])
    (hO : Only H) (hsp : sp [.ref a] H (fun v _ => v = .bl true) fun _ _ _ => False)
    (hok : HOk P w H s₁.heap) (hA : ∀ b, H b ≠ none → b = a) (hK : H a ≠ none → K.lookup a = none) :
    codeAny (model P w) callerA (.call (.ref fa) ⟨[.ref a], []⟩)
      (fun r s' => r = .ok (.ret (.bool true)) ∧ OldK s₁.heap s'.heap ∧ s'.os = s₁.os ∧ AllBare s'.gens) s₁ := by
  have tr : ∀ {b : Addr} {u : HO}, H b = some u → b = a := fun {b u} q => hA b (by rw [q]; exact Option.some_ne_none u)
  have under : ∀ {b : Addr} {o : Obj}, s₁.heap.get? b = some o → H b = none → (hidT s₁.heap H).get? b = some o := fun e n => hidT_get e n
  have dictN : ∀ {b : Addr} {o : Obj} {es : Array DictEntry} {ep : Nat}, s₁.heap.get? b = some o → o.data = .dict es ep → H b = none := by
    intro b o es ep e d
    rcases hH : H b with _ | u
    · rfl
    · have eb := tr hH
      rw [eb, ha] at e
      rw [← Option.some.inj e] at d
      exact absurd d (by intro z; cases z)
  have nsK : ∀ {b : Addr} {m : Str → Option Value}, s₁.heap.Ns b m → (hidT s₁.heap H).Ns b m := by
    rintro b m ⟨o, es, ep, e, d, r⟩
    exact ⟨o, es, ep, under e (dictN e d), d, r⟩
  have hKb : K.In (hidT s₁.heap H) := by
    intro b o e
    refine under (KX b o e) ?_
    rcases hH : H b with _ | u
    · rfl
    · have eb := tr hH
      rw [eb] at e hH
      rw [hK (by rw [hH]; exact Option.some_ne_none u)] at e
      cases e
  have hM : Mod K mg (hidT s₁.heap H) := by
    obtain ⟨mc, l1, l2⟩ := hlim
    exact ⟨hKb, nsK hns, ⟨mb, nsK hb, hbb⟩, ⟨mc, nsK l1, l2⟩⟩
  have e0 : Env0 P w K mg (hidT s₁.heap H) callerA [] s₁ H := by
    refine ⟨rfl, hM, fun b o e => of_hidT e, Nat.le_of_eq (hidT_size _ _), trivial, fun b hb => ?_, hok, .of_eq hg⟩
    exact absurd (show b ∈ ([] : List Addr) from hb) List.not_mem_nil
  have hrun := (F _ hKb (nsK hns)).run callerA rfl [] s₁ H ⟨[.ref a], []⟩ [.ref a] [.ref a] _ _ hr e0 (hbind s₁ (.ref a)) (.cons rfl .nil) hsp
  refine codeAny_mono hrun fun r s' h => ?_
  match r, h with
  | .error e, h => exact absurd h id
  | .ok .next, h => exact absurd h id
  | .ok .brk, h => exact absurd h id
  | .ok .cont, h => exact absurd h id
  | .ok (.ret u), h =>
    obtain ⟨v, H', os, bare, un, hok', r', q⟩ := h
    obtain rfl : v = .bl true := q
    obtain rfl : u = Value.bool true := r'
    refine ⟨rfl, OldK.of_keep fun b o e => ?_, os, bare⟩
    rcases hO b with z | ⟨ob, xs, z⟩
    · exact un.keep b o e z (fun m => absurd (show b ∈ ([] : List Addr) from m) List.not_mem_nil) List.not_mem_nil
    · obtain ⟨e1, _⟩ := hok b _ z
      obtain ⟨e2, _⟩ := hok' b _ (un.frzs b ob _ z)
      rw [← e, e1]
      exact e2
theorem headG (KX : K.In s₁.heap) (hns : s₁.heap.Ns mainGlobals mg) (hb : s₁.heap.Ns builtinsNs mb)
    (hbb : ∀ y : Str, y ≠ "__name__" → mb y = bootBuiltins y) (hlim : s₁.heap.NoLimit) (hg : s₁.gens = #[])
    (ha : s₁.heap.get? a = some { cls := .type "list", data := .seq vs.toArray }) (hi : IntsAre vs ns) (hl : ns.length ≤ sizeLine) (hr : Room k callerA)
    (F : ∀ base : Heap, K.In base → base.Ns mainGlobals mg → FnG P w K mg base k fa fd [x] sp)
    (hbind : ∀ (s : Shared) (u : Value), BindsTo s fd ⟨[u], []⟩ [(x, u)])
    (hsp : ∀ H : Hp, Only H → SqL K H a (ns.map V.int) → sp [.ref a] H (fun v _ => v = .bl true) fun _ _ _ => False) :
    codeAny (model P w) callerA (.call (.ref fa) ⟨[.ref a], []⟩)
      (fun r s' => r = .ok (.ret (.bool true)) ∧ OldK s₁.heap s'.heap ∧ s'.os = s₁.os ∧ AllBare s'.gens) s₁ := by
  have rv := vals_ints hi
  rcases hk : K.lookup a with _ | o
  · have hE : ∀ b, (if b = a then some (HO.frz { cls := .type "list", data := .seq vs.toArray } (.lst (ns.map V.int))) else none) ≠ none → b = a := by
      intro b z
      by_cases hb : b = a
      · exact hb
      · rw [if_neg hb] at z
        exact absurd rfl z
    have hO : Only fun b => if b = a then some (HO.frz { cls := .type "list", data := .seq vs.toArray } (.lst (ns.map V.int))) else none := by
      intro b
      by_cases hb : b = a
      · exact .inr ⟨_, _, if_pos hb⟩
      · exact .inl (if_neg hb)
    refine headG_core _ KX hns hb hbb hlim hg ha hr F hbind hO (hsp _ hO (.inl (.inr ⟨_, if_pos rfl⟩))) (fun b u z => ?_) hE fun _ => hk
    have hba : b = a := hE b (by rw [z]; exact Option.some_ne_none u)
    subst hba
    obtain rfl := Option.some.inj ((if_pos rfl).symm.trans z)
    exact ⟨ha, by rw [List.length_map]; exact hl, vs, _, rv, ha⟩
  · have e := KX a o hk
    obtain rfl := Option.some.inj (ha.symm.trans e)
    have hO : Only fun _ => none := fun _ => .inl rfl
    refine headG_core (fun _ => none) KX hns hb hbb hlim hg ha hr F hbind hO (hsp _ hO (.inr ⟨_, vs.toArray, _, hk, rfl, rfl, rfl, ?_, by simpa using rv⟩))
      (fun b u z => absurd (show (none : Option HO) = some u from z) (by intro q; cases q)) (fun b z => absurd rfl z) fun z => absurd rfl z
    rw [List.size_toArray, hi.length]
    exact hl
end
/-- the goal that the head leaves -/
theorem walkG {l : PySem.W.OpenLaw} {n k : Nat} {q : Program} {loose : List Str} {XP : (Str → Option Value) → Heap → Prop} {YP : World → Heap → Prop}
    {d : DefRec} {K : Params → PySem.W.Frag} {sp : PySem.W.Frag → Sp} {x : Str}
    (hn : l.most = some n) (hn2 : n ≤ sizeLine) (hdf : d.params.defaults = []) (hr : Room k callerA)
    (hY : ∀ (w : World) (h : Heap), YP w h → (K w.params).In h)
    (F : ∀ (w : World) (mg : Str → Option Value) (fa : Addr) (h : Heap), (K w.params).In h → h.Ns mainGlobals mg → mg d.name = some (.ref fa) →
      ∃ fd : FuncData, (∀ (s : Shared) (u : Value), BindsTo s fd ⟨[u], []⟩ [(x, u)]) ∧
        ∀ base : Heap, (K w.params).In base → base.Ns mainGlobals mg → FnG l.prog w (K w.params) mg base k fa fd [x] (sp (K w.params)))
    (hsp : ∀ (K : PySem.W.Frag) (H : Hp) (a : Addr) (ns : List Int), ns.length ≤ n → Only H → SqL K H a (ns.map V.int) → sp K [.ref a] H (fun v _ => v = .bl true) fun _ _ _ => False) :
    PySem.W.WalkO q loose XP YP l.row.toRowW d [] (fun f vs => PySem.call f vs) := by
  refine Att.attach_call hn hdf fun w s₀ s₁ mg mb fa o pm cd doc a vs ns G Y ho hd hcd hmg hobj hints hlen hg => ?_
  obtain ⟨fd, hbd, hF⟩ := F w mg fa _ (hY w _ Y) G.T.g hmg
  exact headG (hY w _ Y) G.T.g G.T.b G.T.builtins G.T.nolimit hg hobj hints (Nat.le_trans hlen hn2) hr hF hbd fun H h1 h2 => hsp _ H a ns hlen h1 h2
end Sv
set_option maxHeartbeats 1000000
set_option maxHeartbeats 1000000
namespace Sv
open PySem PySem.Spec PyProof.Rows L2
/-- lists that rise by a number are told by their members -/
theorem rise_eq {α : Type} (f : α → Int) : ∀ (l r : List α), l.Pairwise (fun a b => f a < f b) → r.Pairwise (fun a b => f a < f b) → (∀ x, x ∈ l ↔ x ∈ r) → l = r
  | [], [], _, _, _ => rfl
  | [], b :: r, _, _, h => absurd ((h b).mpr List.mem_cons_self) List.not_mem_nil
  | a :: l, [], _, _, h => absurd ((h a).mp List.mem_cons_self) List.not_mem_nil
  | a :: l, b :: r, h1, h2, h => by
    obtain ⟨p1, q1⟩ := List.pairwise_cons.mp h1
    obtain ⟨p2, q2⟩ := List.pairwise_cons.mp h2
    have e : a = b := by
      rcases List.mem_cons.mp ((h a).mp List.mem_cons_self) with z | z
      · exact z
      · rcases List.mem_cons.mp ((h b).mpr List.mem_cons_self) with y | y
        · exact y.symm
        · have := p2 a z
          have := p1 b y
          omega
    subst e
    congr 1
    refine rise_eq f l r q1 q2 fun x => ⟨fun z => ?_, fun z => ?_⟩
    · rcases List.mem_cons.mp ((h x).mp (List.mem_cons_of_mem _ z)) with y | y
      · subst y
        exact absurd (p1 _ z) (Int.lt_irrefl _)
      · exact y
    · rcases List.mem_cons.mp ((h x).mpr (List.mem_cons_of_mem _ z)) with y | y
      · subst y
        exact absurd (p2 _ z) (Int.lt_irrefl _)
      · exact y
/-- pairs by one number -/
def pc (x : Int × Int) : Int := x.1 * 64 + x.2
end Sv
namespace Sz
open PySem
/-- a frame of no generator's waking -/
def NoGen : Frame → Prop
  | .gen .. => False
  | _ => True
def GF (fs : List Frame) : Prop := ∀ f ∈ fs, NoGen f
theorem gf_nil : GF [] := fun _ h => (nomatch h)
theorem gf_split {fs : List Frame} {pre rest : List Frame} {x : Nat × (GenResult → Sem PySem.Fin) × Code × Pos} : GF fs → splitAtGen fs = some (pre, x, rest) → False := by
  induction fs generalizing pre rest x with
  | nil => intro _ h; cases h
  | cons f fs ih =>
    intro g h
    cases f with
    | gen _ _ _ _ _ => exact g _ (List.mem_cons_self ..)
    | ret _ _ _ _ _ _ _ =>
      unfold splitAtGen at h
      cases e : splitAtGen fs with
      | none => rw [e] at h; cases h
      | some y =>
        obtain ⟨a, b, c⟩ := y
        exact ih (fun f hf => g f (List.mem_cons_of_mem _ hf)) e
def GFEnd : End → Prop
  | .ret _ => True
  | .susp _ _ _ _ _ _ fs => GF fs
def GFGen : GenState → Prop
  | .suspended _ _ _ _ fs _ => GF fs
  | _ => True
theorem gf_state {e : End} (h : GFEnd e) : GFGen e.genState := by
  cases e with
  | ret _ => exact True.intro
  | susp _ _ _ _ _ _ _ => exact h
/-- it can't be woken -/
def Stuck : GenState → Prop
  | .suspended k _ _ _ _ _ => ∀ r, ∃ why, k r = .unsupported why
  | _ => False
abbrev Fz := Nat → Option GenState
def plug (F : Fz) (s : Shared) : Shared := { s with gens := s.gens.mapIdx fun i x => (F i).getD x }
structure Ok (F : Fz) (s : Shared) : Prop where
  fz : ∀ i st, F i = some st → ∃ x, s.gens[i]? = some x ∧ x.seen = st.seen ∧ Stuck x
  fr : ∀ i x, s.gens[i]? = some x → F i = none → GFGen x
variable {F : Fz} {M : Model}
theorem plug_at {s : Shared} {i : Nat} : (plug F s).gens[i]? = s.gens[i]?.map fun x => (F i).getD x := by
  unfold plug
  rw [Array.getElem?_mapIdx]
theorem plug_free {s : Shared} {i : Nat} {x : GenState} (h : s.gens[i]? = some x) (hf : F i = none) : (plug F s).gens[i]? = some x := by
  rw [plug_at, h, hf]
  rfl
theorem plug_set {s : Shared} {i : Nat} {x : GenState} (hf : F i = none) : plug F (s.setGen i x) = (plug F s).setGen i x := by
  unfold plug Shared.setGen
  congr 1
  apply Array.ext_getElem?
  intro j
  rw [Array.getElem?_mapIdx, Array.getElem?_setIfInBounds, Array.getElem?_setIfInBounds, Array.getElem?_mapIdx, Array.size_mapIdx]
  by_cases e : i = j
  · subst e
    rw [if_pos rfl, if_pos rfl, hf]
    split <;> rfl
  · rw [if_neg e, if_neg e]
theorem Ok.none_of {s : Shared} (h : Ok F s) {i : Nat} (hi : s.gens.size ≤ i) : F i = none := by
  cases e : F i with
  | none => rfl
  | some st =>
    obtain ⟨x, hx, _⟩ := h.fz i st e
    have := (Array.getElem?_eq_some_iff.mp hx).1
    omega
theorem plug_push {s : Shared} {x : GenState} (h : Ok F s) : plug F { s with gens := s.gens.push x } = { plug F s with gens := (plug F s).gens.push x } := by
  unfold plug
  congr 1
  apply Array.ext_getElem?
  intro j
  rw [Array.getElem?_mapIdx, Array.getElem?_push, Array.getElem?_push, Array.getElem?_mapIdx, Array.size_mapIdx]
  by_cases e : j = s.gens.size
  · subst e
    rw [if_pos rfl, if_pos rfl, h.none_of (Nat.le_refl _)]
    rfl
  · rw [if_neg e, if_neg e]
theorem plug_size {s : Shared} : (plug F s).gens.size = s.gens.size := by
  unfold plug
  exact Array.size_mapIdx
theorem Ok.set {s : Shared} (h : Ok F s) {i : Nat} {x : GenState} (hf : F i = none) (hx : GFGen x) : Ok F (s.setGen i x) := by
  refine ⟨fun j st e => ?_, fun j y hy e => ?_⟩
  · have hne : i ≠ j := fun z => by
      subst z
      rw [hf] at e
      cases e
    obtain ⟨y, h1, h2⟩ := h.fz j st e
    refine ⟨y, ?_, h2⟩
    show (s.gens.setIfInBounds i x)[j]? = _
    rw [Array.getElem?_setIfInBounds, if_neg hne]
    exact h1
  · have hy : (s.gens.setIfInBounds i x)[j]? = some y := hy
    rw [Array.getElem?_setIfInBounds] at hy
    by_cases z : i = j
    · rw [if_pos z] at hy
      split at hy
      · cases hy
        exact hx
      · cases hy
    · rw [if_neg z] at hy
      exact h.fr j y hy e
theorem Ok.push {s : Shared} (h : Ok F s) {x : GenState} (hx : GFGen x) : Ok F { s with gens := s.gens.push x } := by
  refine ⟨fun j st e => ?_, fun j y hy e => ?_⟩
  · obtain ⟨y, h1, h2⟩ := h.fz j st e
    refine ⟨y, ?_, h2⟩
    show (s.gens.push x)[j]? = _
    rw [Array.getElem?_push, if_neg (Nat.ne_of_lt (Array.getElem?_eq_some_iff.mp h1).1)]
    exact h1
  · have hy : (s.gens.push x)[j]? = some y := hy
    rw [Array.getElem?_push] at hy
    split at hy
    · cases hy
      exact hx
    · exact h.fr j y hy e
theorem no_unsup {Γ : Ctx} {p : Pos} {t : Sem PySem.Fin} {fs : List Frame} {s s' : Shared} {e : End} (h : Runs M Γ p t fs s e s') : ∀ why, t ≠ .unsupported why := by
  induction h <;> intro why z <;> first | (cases z; done) | (subst z; rename_i ih _; exact ih why rfl) | (subst z; rename_i ih; exact ih why rfl)
theorem stuck_not {x : GenState} (h : Stuck x) {k : Resume → Sem PySem.Fin} {l : List Value} {c : Code} {p : Pos} {fs : List Frame} {cl : Bool} (e : x = .suspended k l c p fs cl) {Γ : Ctx} {q : Pos} {r : Resume} {s s' : Shared} {en : End} (hr : Runs M Γ q (k r) fs s en s') : False := by
  subst e
  obtain ⟨why, hw⟩ := h r
  exact no_unsup hr why hw
theorem Ok.free_of {s : Shared} (h : Ok F s) {i : Nat} {x : GenState} (hx : s.gens[i]? = some x) (hn : Stuck x → False) : F i = none := by
  cases e : F i with
  | none => rfl
  | some st =>
    obtain ⟨y, hy, _, hs⟩ := h.fz i st e
    rw [hx] at hy
    cases hy
    exact (hn hs).elim
theorem Ok.seen {s : Shared} (o : Ok F s) {i : Nat} {st : GenState} (hs : s.gens[i]? = some st) : ∃ st', (plug F s).gens[i]? = some st' ∧ st'.seen = st.seen := by
  cases hf : F i with
  | none => exact ⟨st, plug_free hs hf, rfl⟩
  | some st' =>
    obtain ⟨x, hx, h2, _⟩ := o.fz i st' hf
    rw [hs] at hx
    cases hx
    refine ⟨st', ?_, h2.symm⟩
    rw [plug_at, hs, hf]
    rfl
/-- THE RULE: over the true generators too -/
theorem runs_plug {Γ : Ctx} {p : Pos} {t : Sem PySem.Fin} {fs : List Frame} {s s' : Shared} {e : End} (h : Runs M Γ p t fs s e s') : Ok F s → GF fs → Runs M Γ p t fs (plug F s) e (plug F s') ∧ Ok F s' ∧ GFEnd e := by
  induction h with
  | done => exact fun o _ => ⟨.done, o, True.intro⟩
  | raise => exact fun o _ => ⟨.raise, o, True.intro⟩
  | again hq _ ih => exact fun o g => ⟨.again hq (ih o g).1, (ih o g).2⟩
  | rule _ ih => exact fun o g => ⟨.rule (ih o g).1, (ih o g).2⟩
  | «at» _ ih => exact fun o g => ⟨.at (ih o g).1, (ih o g).2⟩
  | load ha _ ih => exact fun o g => ⟨.load ha (ih o g).1, (ih o g).2⟩
  | update ha _ ih => exact fun o g => ⟨.update ha (ih ⟨o.fz, o.fr⟩ g).1, (ih ⟨o.fz, o.fr⟩ g).2⟩
  | loadIfAlive _ ih => exact fun o g => ⟨.loadIfAlive (ih o g).1, (ih o g).2⟩
  | point _ ih => exact fun o g => ⟨.point (ih o g).1, (ih o g).2⟩
  | alloc _ ih => exact fun o g => ⟨.alloc (ih ⟨o.fz, o.fr⟩ g).1, (ih ⟨o.fz, o.fr⟩ g).2⟩
  | fresh _ ih => exact fun o g => ⟨.fresh (ih ⟨o.fz, o.fr⟩ g).1, (ih ⟨o.fz, o.fr⟩ g).2⟩
  | ask _ ih => exact fun o g => ⟨.ask (ih o g).1, (ih o g).2⟩
  | choose hn _ ih => exact fun o g => ⟨.choose hn (ih ⟨o.fz, o.fr⟩ g).1, (ih ⟨o.fz, o.fr⟩ g).2⟩
  | os _ ih => exact fun o g => ⟨.os (ih ⟨o.fz, o.fr⟩ g).1, (ih ⟨o.fz, o.fr⟩ g).2⟩
  | handled _ ih => exact fun o g => ⟨.handled (ih o g).1, (ih o g).2⟩
  | genState hs _ ih =>
    intro o g
    have r := (ih o g).1
    obtain ⟨st', h1, h2⟩ := o.seen hs
    rw [← h2] at r
    exact ⟨.genState h1 r, (ih o g).2⟩
  | stack _ ih => exact fun o g => ⟨.stack (ih o g).1, (ih o g).2⟩
  | thread _ ih => exact fun o g => ⟨.thread (ih o g).1, (ih o g).2⟩
  | newGen _ ih =>
    intro o g
    have r := ih (o.push True.intro) g
    refine ⟨.newGen ?_, r.2⟩
    have r1 := r.1
    rw [plug_push o] at r1
    rw [plug_size]
    exact r1
  | call _ _ ih1 ih2 =>
    intro o g
    obtain ⟨a1, a2, _⟩ := ih1 o gf_nil
    obtain ⟨b1, b2⟩ := ih2 a2 g
    exact ⟨.call a1 b1, b2⟩
  | callSusp _ ih =>
    intro o g
    obtain ⟨a1, a2, a3⟩ := ih o gf_nil
    refine ⟨.callSusp a1, a2, fun f hf => ?_⟩
    rcases List.mem_append.mp hf with z | z
    · exact a3 f z
    · rw [List.mem_singleton.mp z]
      exact True.intro
  | yield => exact fun o g => ⟨.yield, o, g⟩
  | resumeFresh hs _ hq _ ih1 ih2 =>
    intro o g
    have hf := o.free_of hs fun z => z
    obtain ⟨a1, a2, a3⟩ := ih1 (o.set hf True.intro) gf_nil
    obtain ⟨b1, b2⟩ := ih2 (a2.set hf (gf_state a3)) g
    rw [plug_set hf] at a1 b1
    exact ⟨.resumeFresh (plug_free hs hf) a1 hq b1, b2⟩
  | resumeSuspended hs h1 hq _ ih1 ih2 =>
    intro o g
    have hf := o.free_of hs fun z => stuck_not z rfl h1
    obtain ⟨a1, a2, a3⟩ := ih1 (o.set hf True.intro) (o.fr _ _ hs hf)
    obtain ⟨b1, b2⟩ := ih2 (a2.set hf (gf_state a3)) g
    rw [plug_set hf] at a1 b1
    exact ⟨.resumeSuspended (plug_free hs hf) a1 hq b1, b2⟩
  | resumeJustStarted hs hv _ ih =>
    intro o g
    have hf := o.free_of hs fun z => z
    exact ⟨.resumeJustStarted (plug_free hs hf) hv (ih o g).1, (ih o g).2⟩
  | resumeThrowFresh hs _ ih =>
    intro o g
    have hf := o.free_of hs fun z => z
    obtain ⟨b1, b2⟩ := ih (o.set hf True.intro) g
    rw [plug_set hf] at b1
    exact ⟨.resumeThrowFresh (plug_free hs hf) b1, b2⟩
  | resumeRunning hs _ ih =>
    intro o g
    have hf := o.free_of hs fun z => z
    exact ⟨.resumeRunning (plug_free hs hf) (ih o g).1, (ih o g).2⟩
  | resumeFinished hs _ ih =>
    intro o g
    have hf := o.free_of hs fun z => z
    exact ⟨.resumeFinished (plug_free hs hf) (ih o g).1, (ih o g).2⟩
  | segRet _ _ ih1 ih2 =>
    intro o g
    obtain ⟨a1, a2, _⟩ := ih1 o gf_nil
    obtain ⟨b1, b2⟩ := ih2 a2 fun f hf => g f (List.mem_cons_of_mem _ hf)
    exact ⟨.segRet a1 b1, b2⟩
  | segGen _ _ _ _ => exact fun _ g => (g _ (List.mem_cons_self ..)).elim
  | segSuspOut hsp _ ih =>
    intro o g
    obtain ⟨a1, a2, a3⟩ := ih o gf_nil
    refine ⟨.segSuspOut hsp a1, a2, fun f hf => ?_⟩
    rcases List.mem_append.mp hf with z | z
    · exact a3 f z
    · exact g f z
  | segSuspGen hsp _ _ _ _ _ => exact fun _ g => (gf_split g hsp).elim
/-- the same of what is shown of a term -/
theorem wakes_plug {Γ : Ctx} {p : Pos} {g : Nat} {r : Resume} {s s' : Shared} {res : GenResult} (h : Wakes M Γ p g r s res s') (o : Ok F s) : Wakes M Γ p g r (plug F s) res (plug F s') ∧ Ok F s' := by
  unfold Wakes at h ⊢
  cases hs : s.gens[g]? with
  | none => rw [hs] at h; exact h.elim
  | some x =>
    rw [hs] at h
    have hf : F g = none := by
      refine o.free_of hs fun z => ?_
      cases x with
      | suspended k l c p' fs cl =>
        obtain ⟨e₁, s₁, hr, _⟩ := h
        exact stuck_not z rfl hr
      | _ => exact z
    rw [plug_free hs hf]
    cases x with
    | fresh c =>
      cases r with
      | send v =>
        cases v with
        | none =>
          obtain ⟨e₁, s₁, hr, hq, h1, rfl⟩ := h
          obtain ⟨a1, a2, a3⟩ := runs_plug hr (o.set hf True.intro) gf_nil
          rw [plug_set hf] at a1
          exact ⟨⟨e₁, _, a1, hq, h1, plug_set hf⟩, a2.set hf (gf_state a3)⟩
        | _ =>
          obtain ⟨h1, rfl⟩ := h
          exact ⟨⟨h1, rfl⟩, o⟩
      | throw v =>
        obtain ⟨h1, rfl⟩ := h
        exact ⟨⟨h1, plug_set hf⟩, o.set hf True.intro⟩
    | suspended k l c p' fs cl =>
      obtain ⟨e₁, s₁, hr, hq, h1, rfl⟩ := h
      obtain ⟨a1, a2, a3⟩ := runs_plug hr (o.set hf True.intro) (o.fr _ _ hs hf)
      rw [plug_set hf] at a1
      exact ⟨⟨e₁, _, a1, hq, h1, plug_set hf⟩, a2.set hf (gf_state a3)⟩
    | running =>
      obtain ⟨h1, rfl⟩ := h
      exact ⟨⟨h1, rfl⟩, o⟩
    | finished =>
      obtain ⟨h1, rfl⟩ := h
      exact ⟨⟨h1, rfl⟩, o⟩
open Sem (wp)
theorem wp_plug {α : Type} (Γ : Ctx) (t : Sem α) : ∀ (Q : α → Pos → Shared → Prop) (E : Value → Pos → Shared → Prop) (p : Pos) (s : Shared), Ok F s → wp M Γ t Q E p s →
    wp M Γ t (fun a p' s' => ∃ z, s' = plug F z ∧ Ok F z ∧ Q a p' z) (fun e p' s' => ∃ z, s' = plug F z ∧ Ok F z ∧ E e p' z) p (plug F s) := by
  induction t with
  | pure a => intro Q E p s o h; exact ⟨s, rfl, o, h⟩
  | raise e => intro Q E p s o h; exact ⟨s, rfl, o, h⟩
  | unsupported _ => intro Q E p s _ h; exact h
  | finish _ => intro Q E p s _ h; exact h
  | rule _ k ih => intro Q E p s o h; exact ih () Q E p s o h
  | «at» p' k ih => intro Q E p s o h; exact ih () Q E p' s o h
  | load a _ k ih => intro Q E p s o h; obtain ⟨ob, ho, h⟩ := h; exact ⟨ob, ho, ih ob Q E p s o h⟩
  | update a _ f k ih => intro Q E p s o h; exact ⟨h.1, ih () Q E p { s with heap := s.heap.update a f } ⟨o.fz, o.fr⟩ h.2⟩
  | loadIfAlive a k ih => intro Q E p s o h; exact ih _ Q E p s o h
  | point _ k ih => intro Q E p s o h; exact ih () Q E p s o h
  | register _ _ => intro Q E p s _ h; exact h
  | alloc ob k ih => intro Q E p s o h; exact ih _ Q E p { s with heap := s.heap.push ob } ⟨o.fz, o.fr⟩ h
  | fresh k ih => intro Q E p s o h; exact ih _ Q E p { s with toks := s.toks + 1 } ⟨o.fz, o.fr⟩ h
  | ask k ih => intro Q E p s o h; exact ih _ Q E p s o h
  | choose src m k ih => intro Q E p s o h; exact ⟨h.1, ih _ Q E p { s with drawn := s.drawn.bump src } ⟨o.fz, o.fr⟩ h.2⟩
  | os q _ k ih => intro Q E p s o h; exact ih _ Q E p { s with os := (Os.step s.os q).1 } ⟨o.fz, o.fr⟩ h
  | call c hd _ _ k ih =>
    intro Q E p s o h
    obtain ⟨r, s', hr, h⟩ := h
    obtain ⟨a1, a2, _⟩ := runs_plug hr o gf_nil
    exact ⟨r, plug F s', a1, ih r Q E p s' a2 h⟩
  | handled own k ih => intro Q E p s o h; exact ih _ Q E p s o h
  | genState g k ih =>
    intro Q E p s o h
    obtain ⟨st, hs, h⟩ := h
    obtain ⟨st', h1, h2⟩ := o.seen hs
    refine ⟨st', h1, ?_⟩
    rw [h2]
    exact ih _ Q E p s o h
  | newGen c k ih =>
    intro Q E p s o h
    have r := ih _ Q E p _ (o.push (x := .fresh c) True.intro) h
    rw [plug_push o] at r
    show wp M Γ (k (plug F s).gens.size) _ _ p _
    rw [plug_size]
    exact r
  | resume g r _ k ih =>
    intro Q E p s o h
    obtain ⟨res, s', hw, h⟩ := h
    obtain ⟨a1, a2⟩ := wakes_plug hw o
    exact ⟨res, plug F s', a1, ih res Q E p s' a2 h⟩
  | yield _ _ _ _ => intro Q E p s _ h; exact h
  | stack k ih => intro Q E p s o h; exact ih _ Q E p s o h
  | fork _ _ => intro Q E p s _ h; exact h
  | thread k ih => intro Q E p s o h; exact ih _ Q E p s o h
  | await _ _ _ _ _ => intro Q E p s _ h; exact h
theorem wpAny_plug {α : Type} {A : Around} {t : Sem α} {Q : α → Shared → Prop} {E : Value → Shared → Prop} {s : Shared} (o : Ok F s) (h : wpAny M A t Q E s) :
    wpAny M A t (fun a s' => ∃ z, s' = plug F z ∧ Ok F z ∧ Q a z) (fun e s' => ∃ z, s' = plug F z ∧ Ok F z ∧ E e z) (plug F s) := fun Γ p hΓ => wp_plug Γ t _ _ p s o (h Γ p hΓ)
def held1 : GenState → GenState
  | .suspended _ l c p fs cl => .suspended (fun _ => .unsupported "") l c p fs cl
  | x => x
def IsSusp : GenState → Prop
  | .suspended .. => True
  | _ => False
def fzOf (G : Array GenState) : Fz := fun i => match G[i]? with
  | some (.suspended k l c p fs cl) => some (.suspended k l c p fs cl)
  | _ => none
def held (s : Shared) : Shared := { s with gens := s.gens.map held1 }
theorem fzOf_some {G : Array GenState} {i : Nat} {st : GenState} (h : fzOf G i = some st) : G[i]? = some st ∧ IsSusp st := by
  unfold fzOf at h
  split at h
  · cases h
    rename_i e
    exact ⟨e, True.intro⟩
  · cases h
theorem fzOf_susp {G : Array GenState} {i : Nat} {st : GenState} (h : G[i]? = some st) (hs : IsSusp st) : fzOf G i = some st := by
  cases st with
  | suspended k l c p fs cl => unfold fzOf; rw [h]
  | _ => exact hs.elim
theorem held_ok (s : Shared) : Ok (fzOf s.gens) (held s) := by
  refine ⟨fun i st e => ?_, fun i x hx e => ?_⟩
  · obtain ⟨h1, h2⟩ := fzOf_some e
    refine ⟨held1 st, ?_, ?_, ?_⟩
    · show (s.gens.map held1)[i]? = _
      rw [Array.getElem?_map, h1]
      rfl
    · cases st with
      | suspended k l c p fs cl => rfl
      | _ => exact h2.elim
    · cases st with
      | suspended k l c p fs cl => exact fun _ => ⟨_, rfl⟩
      | _ => exact h2.elim
  · have hx : (s.gens.map held1)[i]? = some x := hx
    rw [Array.getElem?_map] at hx
    cases h : s.gens[i]? with
    | none => rw [h] at hx; cases hx
    | some y =>
      rw [h] at hx
      cases hx
      cases y with
      | suspended k l c p fs cl =>
        rw [fzOf_susp h True.intro] at e
        cases e
      | _ => exact True.intro
theorem plug_held (s : Shared) : plug (fzOf s.gens) (held s) = s := by
  unfold plug held
  have e : ((s.gens.map held1).mapIdx fun i x => ((fzOf s.gens) i).getD x) = s.gens := by
    apply Array.ext_getElem?
    intro j
    rw [Array.getElem?_mapIdx, Array.getElem?_map]
    cases h : s.gens[j]? with
    | none => rfl
    | some y =>
      show some (((fzOf s.gens) j).getD (held1 y)) = some y
      congr 1
      cases y with
      | suspended k l c p fs cl => rw [fzOf_susp h True.intro]; rfl
      | _ =>
        have : fzOf s.gens j = none := by
          unfold fzOf
          rw [h]
        rw [this]
        rfl
  show ({ s with gens := _ } : Shared) = s
  rw [e]
theorem bare_held {G : Array GenState} (h : PyProof.Rows.AllBare G) : PyProof.Rows.AllBare (G.map held1) := fun y hy => by
  obtain ⟨x, hx, rfl⟩ := Array.mem_map.mp hy
  have := h x hx
  cases x <;> exact this
/-- what sleeps before it sleeps behind it, as it was: t is shown over held ones alone -/
theorem wpAny_held {α : Type} {A : Around} {t : Sem α} {Q : α → Shared → Prop} {E : Value → Shared → Prop} {s : Shared} (h : wpAny M A t Q E (held s)) :
    wpAny M A t (fun a s' => (∃ G, Q a { s' with gens := G } ∧ (PyProof.Rows.AllBare G → PyProof.Rows.AllBare s.gens → PyProof.Rows.AllBare s'.gens)) ∧ ∀ (g : Nat) (st : GenState), s.gens[g]? = some st → IsSusp st → s'.gens[g]? = some st)
      (fun e s' => (∃ G, E e { s' with gens := G } ∧ (PyProof.Rows.AllBare G → PyProof.Rows.AllBare s.gens → PyProof.Rows.AllBare s'.gens)) ∧ ∀ (g : Nat) (st : GenState), s.gens[g]? = some st → IsSusp st → s'.gens[g]? = some st) s := by
  have r := wpAny_plug (held_ok s) h
  rw [plug_held] at r
  have fin : ∀ {R : Shared → Prop} {s' z : Shared}, s' = plug (fzOf s.gens) z → Ok (fzOf s.gens) z → R z → (∃ G, R { s' with gens := G } ∧ (PyProof.Rows.AllBare G → PyProof.Rows.AllBare s.gens → PyProof.Rows.AllBare s'.gens)) ∧ ∀ (g : Nat) (st : GenState), s.gens[g]? = some st → IsSusp st → s'.gens[g]? = some st := fun {R s' z} e o q => by
    subst e
    refine ⟨⟨z.gens, q, fun b1 b2 y hy => ?_⟩, fun g st h1 h2 => ?_⟩
    · obtain ⟨i, hi⟩ := Array.getElem?_of_mem hy
      rw [plug_at] at hi
      cases hz : z.gens[i]? with
      | none => rw [hz] at hi; cases hi
      | some x =>
        rw [hz] at hi
        have hi : some (((fzOf s.gens) i).getD x) = some y := hi
        cases hf : fzOf s.gens i with
        | none =>
          rw [hf] at hi
          cases hi
          exact b1 _ (Array.mem_of_getElem? hz)
        | some st =>
          rw [hf] at hi
          cases hi
          exact b2 _ (Array.mem_of_getElem? (fzOf_some hf).1)
    · obtain ⟨x, hx, _⟩ := o.fz g st (fzOf_susp h1 h2)
      rw [plug_at, hx, fzOf_susp h1 h2]
      rfl
  exact wpAny_mono r (fun _ s' ⟨z, e, o, q⟩ => fin e o q) fun _ s' ⟨z, e, o, q⟩ => fin e o q
end Sz
namespace Sz
open PySem PySem.Spec PyProof.Rows L2
section
variable {X : Cx} {pins : List (Addr × Obj)} {σ : L2.St} {H : Hp} {s : Shared}
/-- the table of generators is no matter of it, but that they are bare -/
theorem inv_gens {G : Array GenState} (I : Inv X pins σ H { s with gens := G }) (b : AllBare s.gens) : Inv X pins σ H s :=
  ⟨I.ok, I.os, b, I.base, I.loc, I.cell, I.free, I.freeC, I.pin, I.hok, I.len⟩
theorem inv_held (I : Inv X pins σ H s) : Inv X pins σ H (held s) :=
  ⟨I.ok, I.os, bare_held I.bare, I.base, I.loc, I.cell, I.free, I.freeC, I.pin, I.hok, I.len⟩
/-- what sleeps in s sleeps in s' -/
def Stays (s s' : Shared) : Prop := ∀ (g : Nat) (st : GenState), s.gens[g]? = some st → IsSusp st → s'.gens[g]? = some st
theorem Stays.trans {a b c : Shared} (h : Stays a b) (k : Stays b c) : Stays a c := fun g st e z => k g st (h g st e z) z
/-- t run while they are held -/
theorem run_held {α : Type} {t : Sem α} {Q : α → Shared → Prop} (hxe : ∀ e s, ¬ X.xe e s) (h : wpAny (model X.prog X.w) X.A t Q X.xe (held s)) (hb : AllBare s.gens) :
    wpAny (model X.prog X.w) X.A t (fun a s' => (∃ G, Q a { s' with gens := G } ∧ (AllBare G → AllBare s'.gens)) ∧ Stays s s') X.xe s :=
  wpAny_mono (wpAny_held h) (fun a s' ⟨⟨G, q, b⟩, st⟩ => ⟨⟨G, q, fun z => b z hb⟩, st⟩) fun e s' ⟨⟨_, z, _⟩, _⟩ => (hxe _ _ z).elim
end
end Sz
namespace Sz
open PySem PySem.Spec PyProof.Rows L2 GenW
section
variable {M : Model} {A : Around} {R : GenEnd} {Y : Protocol} {n : Nat} {s₀ s : Shared} {c : Code} {fs : List Frame} {env : Env} {K : Flow → Sem PySem.Fin} {J : Value → Sem PySem.Fin} {gd : Bool → Bool} {lv : List Value → List Value}
abbrev NoE : Value → Shared → Prop := fun _ _ => False
/-- the frame that waits for the loop -/
def loopFrame (env : Env) (K : Flow → Sem PySem.Fin) (J : Value → Sem PySem.Fin) (gd : Bool → Bool) (lv : List Value → List Value) (c : Code) (p : Pos) : Frame :=
  .ret (fun r => ((match r with | .ok f => (.pure f : Sem Flow) | .error e => .raise e).onRaise (cameBack env)).wrap K J gd lv) none (gd false) (lv []) c p []
end
section
variable {P : Program} {w : World} {A : Around} {R : GenEnd} {Y : Protocol} {n : Nat} {s₀ s : Shared} {fs : List Frame} {env : Env}
/-- what is left of a turn of the loop -/
def turnK (tg : Expr) (it : Value) (body : List Stmt) (env : Env) : Flow → Sem PySem.Fin := fun f => match f with
  | .next | .cont => .pure (.again (.forLoop tg it body [] env))
  | .brk => .pure (.done .next)
  | .ret v => .pure (.done (.ret v))
def turnJ (env : Env) : Value → Sem PySem.Fin := fun e => (do noteFrame e env; theTreesLotGoes e : Sem Unit).wrap (fun _ => .raise e) .raise id id
end
end Sz
set_option autoImplicit false
namespace Sz
open PySem PySem.Spec PyProof.Rows L2 GenW
open Sem (wp)
/-- from here the run comes to an end of this kind -/
def Sg (M : Model) (A : Around) (Φ : End → Shared → Prop) (c : Code) (t : Sem PySem.Fin) (fs : List Frame) (s : Shared) : Prop :=
  ∀ Γ p, Γ.code = c → Γ.Woken A → ∃ e s', Runs M Γ p t fs s e s' ∧ Φ e s'
abbrev PostG := End → Shared → Prop
section
variable {M : Model} {A : Around} {Φ : PostG} {c : Code} {fs : List Frame} {s : Shared} {env : Env} {K : Flow → Sem PySem.Fin} {J : Value → Sem PySem.Fin} {gd : Bool → Bool} {lv : List Value → List Value}
theorem sg_wrap {α : Type} {m : Sem α} {K : α → Sem PySem.Fin} {H : Value → Sem PySem.Fin} {gd : Bool → Bool} {lv : List Value → List Value}
    (h : wpAny M (A.over c fs) m (fun a s' => Sg M A Φ c (K a) fs s') NoE s) : Sg M A Φ c (m.wrap K H gd lv) fs s := by
  rintro Γ p rfl hΓ
  exact runs_wrap_of_wp K H gd lv m (h (Γ.over fs) p (hΓ.over fs)) (fun a p' s' h' => h' Γ p' rfl hΓ) (fun x p' s' h' => h'.elim)
theorem sg_bind_wrap {α β : Type} {m : Sem α} {f : α → Sem β} {K : β → Sem PySem.Fin} {H : Value → Sem PySem.Fin} {gd : Bool → Bool} {lv : List Value → List Value}
    (h : wpAny M (A.over c fs) m (fun a s' => Sg M A Φ c ((f a).wrap K H gd lv) fs s') NoE s) : Sg M A Φ c ((m >>= f).wrap K H gd lv) fs s := by
  rw [Sem.bind_eq_wrap', Sem.wrap_wrap]
  exact sg_wrap h
theorem sg_at {p' : Pos} {k : Unit → Sem PySem.Fin} (h : Sg M A Φ c (k ()) fs s) : Sg M A Φ c (.at p' k) fs s :=
  sg_wrap (m := standAt p') (K := k) (H := .raise) (gd := id) (lv := id) (wpAny_standAt h)
theorem sg_point {l : List Value} {k : Unit → Sem PySem.Fin} (h : Sg M A Φ c (k ()) fs s) : Sg M A Φ c (.point l k) fs s :=
  sg_wrap (m := point) (K := k) (H := .raise) (gd := id) (lv := fun _ => l) (wpAny_point h)
theorem sg_call {c' : Code} {h : Option _} {g : Bool} {l : List Value} {k : Result → Sem PySem.Fin} (hc : ∀ p, Sg M A Φ c' (M.den c') (.ret k h g l c p [] :: fs) s) :
    Sg M A Φ c (.call c' h g l k) fs s := by
  rintro Γ p rfl hΓ
  obtain ⟨e, s', hr, he⟩ := hc p (Γ.goto c') p rfl (hΓ.goto c')
  exact ⟨e, s', runs_call_seg hr, he⟩
theorem sg_leaf {k : Result → Sem PySem.Fin} {h : Option _} {g : Bool} {l : List Value} {c₁ : Code} {p₁ : Pos} {kp : List Value} (r : Result) (hk : Sg M A Φ c₁ (k r) fs s) : Sg M A Φ c (leafOf r) (.ret k h g l c₁ p₁ kp :: fs) s := by
  rintro Γ p rfl hΓ
  obtain ⟨e, s', hr, he⟩ := hk (Γ.goto c₁) p₁ rfl (hΓ.goto c₁)
  exact ⟨e, s', Runs.pop r hr, he⟩
theorem sg_again {c' : Code} (hq : c'.quiet = true) (hc : Sg M A Φ c' (M.den c') fs s) : Sg M A Φ c (.pure (.again c')) fs s := by
  rintro Γ p rfl hΓ
  obtain ⟨e, s', hr, he⟩ := hc (Γ.goto c') p rfl (hΓ.goto c')
  exact ⟨e, s', Runs.head (c₁ := c') (fun _ _ x => .again hq x) hr, he⟩
theorem sg_end (r : Result) (h : Φ (.ret r) s) : Sg M A Φ c (leafOf r) [] s := by
  rintro Γ p rfl _
  exact ⟨.ret r, s, Runs.leaf r, h⟩
theorem sg_yield {v : Value} {g : Bool} {l : List Value} {k : Resume → Sem PySem.Fin} (hfs : splitAtGen fs = none) (h : ∀ p, Φ (.susp v g l k c p fs) s) : Sg M A Φ c (.yield v g l k) fs s := by
  rintro Γ p rfl _
  exact ⟨_, s, Runs.yield' fs hfs, h p⟩
theorem sg_execs_nil (h : Sg M A Φ c (K .next) fs s) : Sg M A Φ c ((execs [] env).wrap K J gd lv) fs s := h
theorem sg_execs_cons {st : Stmt} {rest : List Stmt}
    (h : Sg M A Φ c ((exec st env).wrap (fun f => match f with | .next => (execs rest env).wrap K J gd lv | f => K f) J gd lv) fs s) :
    Sg M A Φ c ((execs (st :: rest) env).wrap K J gd lv) fs s := by rw [execs_cons_wrap]; exact h
theorem sg_Expr_Yield {e : Expr} {ypos pos : Pos} (hfs : splitAtGen fs = none) (hgd : gd false = false) (hfg : fs.any Frame.guarded = false)
    (h : wpAny M (A.over c fs) (eval e env) (fun v s' => ∀ l k p, (∀ (A' : Around) (Φ' : PostG) (s'' : Shared), Sg M A' Φ' c (K .next) fs s'' → Sg M A' Φ' c (k (.send .none)) fs s'') → Φ (.susp v false l k c p fs) s') NoE s)
    (hco : env.scope.isCoroutine = false := by rfl) (hi : interactive env = false := by rfl) :
    Sg M A Φ c ((exec (.Expr (.Yield (some e) ypos) pos) env).wrap K J gd lv) fs s := by
  rw [exec_Expr env _ pos hi rfl]
  show Sg M A Φ c (.at pos fun _ => ((eval e env >>= fun v => (standAt ypos >>= fun _ => yieldOut env v)) >>= fun x =>
    dropValue (.Yield (some e) ypos) pos x).wrap K J gd lv) fs s
  have hy : ∀ v, yieldOut env v = yieldValue v := fun v => by simp only [yieldOut, hco, Bool.false_eq_true, if_false]
  simp only [hy]
  refine sg_at ?_
  rw [Sem.bind_eq_wrap', Sem.bind_eq_wrap', Sem.wrap_wrap, Sem.wrap_wrap]
  refine sg_wrap (wpAny_mono h (fun v s' h' => ?_) fun _ _ x => x)
  refine sg_at ?_
  show Sg M A Φ c (.yield v (gd false) _ _) fs s'
  rw [hgd]
  exact sg_yield hfs fun p => h' _ _ p fun A' Φ' s'' hx => hx
theorem sg_While {test : Expr} {body orelse : List Stmt} {pos : Pos}
    (h : ∀ p, Sg M A Φ (.whileLoop test body orelse env) (M.den (.whileLoop test body orelse env)) (loopFrame env K J gd lv c p :: fs) s) :
    Sg M A Φ c ((exec (.While test body orelse pos) env).wrap K J gd lv) fs s := sg_at (sg_call h)
theorem sg_For {tg iter : Expr} {body : List Stmt} {pos : Pos} (hs : ∀ x, foldedSetIterable iter env x = pure x)
    (h : wpAny M (A.over c fs) (eval iter env) (fun x s1 => wpAny M (A.over c fs) (pyIter x) (fun it s2 => ∀ p, Sg M A Φ (.forLoop tg it body [] env) (M.den (.forLoop tg it body [] env)) (loopFrame env K J gd lv c p :: fs) s2) NoE s1) NoE s) :
    Sg M A Φ c ((exec (.For tg iter body [] pos) env).wrap K J gd lv) fs s := by
  rw [exec_For]
  refine sg_bind_wrap (wpAny_standAt ?_)
  refine sg_bind_wrap (wpAny_mono h (fun x s1 h1 => ?_) fun _ _ z => False.elim z)
  refine sg_bind_wrap (wpAny_of_eq (hs x) ?_)
  refine sg_bind_wrap (wpAny_standAt ?_)
  refine sg_bind_wrap (wpAny_holding (wpAny_mono h1 (fun it s2 h2 => ?_) fun _ _ z => False.elim z))
  exact sg_call h2
end
section
variable {P : Program} {w : World} {A : Around} {Φ : PostG} {s : Shared} {fs : List Frame} {env : Env}
theorem sg_whileLoop {test : Expr} {body : List Stmt}
    (h : wpAny (model P w) (A.over (.whileLoop test body [] env) fs) (isTrue test env (eval test env)) (fun b s' =>
        if b = true then Sg (model P w) A Φ (.whileLoop test body [] env) ((execs body env).wrap (fun f => match f with
            | .next | .cont => .pure (.again (.whileLoop test body [] env))
            | .brk => .pure (.done .next)
            | .ret v => .pure (.done (.ret v))) (turnJ env) id id) fs s'
        else Sg (model P w) A Φ (.whileLoop test body [] env) (.pure (.done .next)) fs s') NoE s) :
    Sg (model P w) A Φ (.whileLoop test body [] env) ((model P w).den (.whileLoop test body [] env)) fs s := by
  show Sg _ A Φ _ ((whileTurn test body [] env).onRaise (fun x => do noteFrame x env; theTreesLotGoes x)) fs s
  unfold whileTurn
  rw [Sem.onRaise_eq_wrap, Sem.bind_eq_wrap', Sem.wrap_wrap]
  refine sg_wrap (wpAny_mono h (fun b s' hb => ?_) fun x s' hx => hx)
  cases b with
  | true =>
    rw [if_pos rfl] at hb
    show Sg _ A Φ _ (Sem.wrap _ _ _ _ (if true = true then _ else _)) fs s'
    rw [if_pos rfl, Sem.bind_eq_wrap', Sem.wrap_wrap]
    rw [Sem.wrap_congr (execs body env) _ _ (K' := fun f => match f with
          | .next | .cont => .pure (.again (.whileLoop test body [] env))
          | .brk => .pure (.done .next)
          | .ret v => .pure (.done (.ret v))) (H' := turnJ env)
      (fun f => by cases f <;> rfl)
      (fun e => by first | exact Sem.bind_eq_wrap _ _ | (show (do noteFrame e env; theTreesLotGoes e : Sem Unit).bind (fun _ => .raise e) = _; rw [Sem.bind_eq_wrap]; rfl))]
    exact hb
  | false =>
    rw [if_neg Bool.false_ne_true] at hb
    show Sg _ A Φ _ (Sem.wrap _ _ _ _ (if false = true then _ else _)) fs s'
    rw [if_neg Bool.false_ne_true, Sem.bind_eq_wrap', Sem.wrap_wrap]
    exact hb
theorem sg_forLoop {tg : Expr} {it : Value} {body : List Stmt}
    (h : wpAny (model P w) (A.over (.forLoop tg it body [] env) fs) (pyNext it) (fun r s' => match r with
      | none => Sg (model P w) A Φ (.block [] env) ((model P w).den (.block [] env)) fs s'
      | some v => wpAny (model P w) (A.over (.forLoop tg it body [] env) fs) (letOwnedTupleGo tg it v) (fun _ s1 => wpAny (model P w) (A.over (.forLoop tg it body [] env) fs) (assign tg env v)
          (fun _ s2 => Sg (model P w) A Φ (.forLoop tg it body [] env) ((execs body env).wrap (turnK tg it body env) (turnJ env) id id) fs s2) NoE s1) NoE s') NoE s) :
    Sg (model P w) A Φ (.forLoop tg it body [] env) ((model P w).den (.forLoop tg it body [] env)) fs s := by
  show Sg _ A Φ _ ((forTurn tg it body [] env).onRaise (fun x => do noteFrame x env; theTreesLotGoes x)) fs s
  unfold forTurn
  rw [Sem.onRaise_eq_wrap]
  refine sg_bind_wrap (wpAny_standAt ?_)
  refine sg_bind_wrap (wpAny_onRaise (wpAny_mono h (fun r s' hr => ?_) fun _ _ z => False.elim z))
  cases r with
  | none => exact sg_again rfl hr
  | some v =>
    refine sg_bind_wrap (wpAny_mono hr (fun _ s1 h1 => ?_) fun _ _ z => False.elim z)
    refine sg_bind_wrap (wpAny_mono h1 (fun _ s2 h2 => ?_) fun _ _ z => False.elim z)
    rw [Sem.bind_eq_wrap', Sem.wrap_wrap]
    rw [Sem.wrap_congr (execs body env) _ _ (K' := turnK tg it body env) (H' := turnJ env) (fun f => by cases f <;> rfl)
      (fun e => by first | exact Sem.bind_eq_wrap _ _ | (show (do noteFrame e env; theTreesLotGoes e : Sem Unit).bind (fun _ => .raise e) = _; rw [Sem.bind_eq_wrap]; rfl))]
    exact h2
theorem sg_block_nil (h : Sg (model P w) A Φ (.block [] env) (.pure (.done .next)) fs s) : Sg (model P w) A Φ (.block [] env) ((model P w).den (.block [] env)) fs s := h
theorem sg_func {body : List Stmt}
    (h : Sg (model P w) A Φ (.func body env) ((execs body env).wrap (fun f => .pure (.done (.ret (match f with | .ret v => v | _ => .none))))
      (fun e => (leaving env e).wrap (fun _ => .raise e) .raise id id) id id) fs s) :
    Sg (model P w) A Φ (.func body env) ((model P w).den (.func body env)) fs s := by
  show Sg _ A Φ _ (.point [] fun _ => ((execs body env).onRaise (leaving env)) >>= _) fs s
  refine sg_point ?_
  rw [Sem.onRaise_eq_wrap, Sem.bind_eq_wrap', Sem.wrap_wrap]
  rw [Sem.wrap_congr (execs body env) _ _ (K' := fun f => .pure (.done (.ret (match f with | .ret v => v | _ => .none))))
    (H' := fun e => (leaving env e).wrap (fun _ => .raise e) .raise id id) (fun f => by cases f <;> rfl)
    (fun e => by rw [Sem.bind_eq_wrap, Sem.wrap_wrap]; rfl)]
  exact h
end
def WkG (M : Model) (A : Around) (Φ : PostG) (gs : GenState) (r : Resume) (s : Shared) : Prop :=
  match gs with
  | .fresh c => r = .send .none ∧ Sg M A Φ c (M.den c) [] s
  | .suspended k _ c _ fs _ => Sg M A Φ c (k r) fs s
  | _ => False
theorem wpAny_resumeK {M : Model} {A : Around} {Φ : PostG} {E : Value → Shared → Prop} {s : Shared} {g : Nat} {gs : GenState}
    {r : Resume} {l : List Value} {α : Type} {k : GenResult → Sem α} {Q : α → Shared → Prop} (hg : s.gens[g]? = some gs)
    (hgo : WkG M A Φ gs r (s.setGen g .running)) (hq : ∀ e s₁, Φ e s₁ → e.quiet = true)
    (h : ∀ e s₁, Φ e s₁ → wpAny M A (k e.result) Q E (s₁.setGen g e.genState)) : wpAny M A (.resume g r l k) Q E s := by
  intro Γ p hΓ
  rw [Sem.wp_resume]
  have hB : ∀ c, (Γ.wake c p).Woken A := fun c => hΓ.wake c p
  cases gs with
  | fresh c =>
    obtain ⟨rfl, hs⟩ := hgo
    obtain ⟨e₁, s₁, hr, he⟩ := hs (Γ.wake c p) p rfl (hB c)
    exact ⟨_, _, by unfold Wakes; rw [hg]; exact ⟨e₁, s₁, hr, hq e₁ s₁ he, rfl, rfl⟩, h e₁ s₁ he Γ p hΓ⟩
  | suspended k₀ l₀ c₀ p₀ fs₀ cl =>
    obtain ⟨e₁, s₁, hr, he⟩ := hgo (Γ.wake c₀ p) p₀ rfl (hB c₀)
    exact ⟨_, _, by unfold Wakes; rw [hg]; exact ⟨e₁, s₁, hr, hq e₁ s₁ he, rfl, rfl⟩, h e₁ s₁ he Γ p hΓ⟩
  | running => exact hgo.elim
  | finished => exact hgo.elim
/-- next(g): it hands out a value, or it ends -/
theorem next_gk {P : Program} {w : World} {A : Around} {E : Value → Shared → Prop} {s : Shared} {a : Addr} {g : Nat} {gs : GenState} {Φ : PostG} {Q : Option Value → Shared → Prop} (hh : A.handled = none)
    (hl : s.heap.NoLimit) (hroom : A.depth < recursionLimit) (hg : s.heap.IsGen a g) (hgs : s.gens[g]? = some gs)
    (hgo : WkG (model P w) A.in1 Φ gs (.send .none) (s.setGen g .running)) (hq : ∀ e s₁, Φ e s₁ → e.quiet = true)
    (hY : ∀ v gd l k c p fs s₁, Φ (.susp v gd l k c p fs) s₁ → Q (some v) (s₁.setGen g (End.susp v gd l k c p fs).genState))
    (hP : ∀ r s₁, Φ (.ret r) s₁ → r = .ok (.ret .none) ∧ ∀ h', (∀ b o, s₁.heap.get? b = some o → h'.get? b = some o) → Q none { s₁.setGen g .finished with heap := h' }) :
    wpAny (model P w) A (pyNext (.ref a)) Q E s := by
  unfold pyNext
  refine wpAny_bind (wpAny_attempt (wpAny_callSpecial?_slot (name := Str.ofString "__next__") hg.typeIs slot_gen_next
    (wpAny_call_entry slot_gen_next hg.typeIs entry_gen_next ?_ (args_gen_next _))))
  show wpAny _ A.in1 (Builtin.Generator.genWake (.ref a) (.send .none)) _ _ s
  unfold Builtin.Generator.genWake
  refine wpAny_bind (wpAny_holding (wpAny_genNumber hg (wpAny_bind (wpAny_genState hgs ?_))))
  cases gs with
  | running => exact hgo.elim
  | finished => exact hgo.elim
  | _ =>
    refine wpAny_bind (wpAny_roomToWake hl hroom ?_)
    show wpAny _ A.in1 (.resume g (.send .none) [] _) _ _ s
    refine wpAny_resumeK hgs hgo hq fun e s₁ he => ?_
    cases e with
    | ret x =>
      obtain ⟨rfl, hp⟩ := hP x s₁ he
      have hres : End.result (.ret (.ok (.ret .none))) = .returned .none := rfl
      first | rw [hres] | simp only [hres]
      show wpAny _ A.in1 (newExc (.type "StopIteration") [] >>= _) _ _ _
      refine wpAny_bind ?_
      simp only [newExc, newTuple]
      refine wpAny_bind (wpAny_newObj_type ?_ (by size_fits))
      refine wpAny_bind (m := firstArgMember _ _) (wpAny_of_eq (a := Value.none) (by first | rfl | (simp only [firstArgMember]; rfl)) ?_)
      refine wpAny_newObj_type ?_ (by size_fits)
      simp only [raiseNew]
      refine wpAny_bind (wpAny_bind (wpAny_handled ?_))
      first | rw [show A.in1.handled = none from hh] | rw [hh]
      refine wpAny_throw ?_
      refine wpAny_bind (wpAny_isInstance (T := "StopIteration") (b := true) ⟨_, Heap.get?_push_size _ rfl, rfl⟩ isSubtype_stop ?_)
      exact wpAny_pure (hp _ fun b o hb => Heap.get?_push_of_some _ (Heap.get?_push_of_some _ hb))
    | susp v gd l k c p fs => exact wpAny_pure ⟨v, rfl, wpAny_pure (hY v gd l k c p fs s₁ he)⟩
end Sz
set_option autoImplicit false
namespace Sz
open PySem
open Sem (wp)
structure Dead (s s' : Shared) : Prop where
  sz : s.heap.objs.size ≤ s'.heap.objs.size
  no : ∀ b, b < s.heap.objs.size → s.heap.get? b = none → s'.heap.get? b = none
theorem Dead.refl (s : Shared) : Dead s s := ⟨Nat.le_refl _, fun _ _ h => h⟩
theorem Dead.trans {a b c : Shared} (h : Dead a b) (k : Dead b c) : Dead a c := ⟨Nat.le_trans h.sz k.sz, fun x l e => k.no x (Nat.lt_of_lt_of_le l h.sz) (h.no x l e)⟩
theorem Dead.same {s s' : Shared} (e : s'.heap = s.heap) : Dead s s' := ⟨by rw [e]; exact Nat.le_refl _, fun x _ h => by rw [e]; exact h⟩
theorem Dead.push {s : Shared} {o : Obj} {s' : Shared} (e : s'.heap = s.heap.push o) : Dead s s' := ⟨by rw [e, Heap.size_push]; exact Nat.le_succ _, fun x l h => by
  rw [e]
  have : (s.heap.push o).objs[x]? = s.heap.objs[x]? := by
    show (s.heap.objs.push o)[x]? = _
    rw [Array.getElem?_push, if_neg (Nat.ne_of_lt l)]
  unfold Heap.get? at h ⊢
  rw [this]
  exact h⟩
theorem Dead.upd {s : Shared} {a : Addr} {f : Obj → Obj} (ha : (s.heap.get? a).isSome = true) {s' : Shared} (e : s'.heap = s.heap.update a f) : Dead s s' := by
  have sz : (s.heap.update a f).objs.size = s.heap.objs.size := by
    first | exact Heap.size_update .. | (unfold Heap.update; simp)
  refine ⟨by rw [e, sz]; exact Nat.le_refl _, fun x l h => ?_⟩
  rw [e]
  have hne : x ≠ a := fun z => by subst z; rw [h] at ha; cases ha
  exact (Heap.get?_update_other _ _ (Ne.symm hne)).trans h
theorem Dead.set {s s' : Shared} {g : Nat} {x : GenState} (h : Dead (s.setGen g x) s') : Dead s s' := ⟨h.sz, h.no⟩
theorem Dead.set' {s s' : Shared} {g : Nat} {x : GenState} (h : Dead s s') : Dead s (s'.setGen g x) := ⟨h.sz, h.no⟩
theorem runs_dead {M : Model} {Γ : Ctx} {p : Pos} {t : Sem PySem.Fin} {fs : List Frame} {s s' : Shared} {e : End} (h : Runs M Γ p t fs s e s') : Dead s s' := by
  induction h
  all_goals first
    | exact .refl _
    | assumption
    | (rename_i ih; exact (Dead.upd (by assumption) rfl).trans ih)
    | (rename_i ih; exact (Dead.push rfl).trans ih)
    | (rename_i ih; exact ⟨ih.sz, ih.no⟩)
    | (rename_i ih; exact (Dead.same rfl).trans ih)
    | (rename_i ih1 ih2; exact ih1.trans ih2)
    | (rename_i ih1 ih2; exact ih1.set.trans ih2.set)
    | (rename_i ih1 ih2; exact Dead.trans ⟨ih1.sz, ih1.no⟩ ⟨ih2.sz, ih2.no⟩)
    | (rename_i ih1 ih2; exact Dead.trans ih1 ⟨ih2.sz, ih2.no⟩)
    | (rename_i _ ih1 ih2; exact ih1.set.trans ih2.set)
    | (rename_i ih; exact ih.set)
    | skip
theorem returns_dead {M : Model} {Γ : Ctx} {p : Pos} {s s' : Shared} {r : Result} (h : Returns M Γ p s r s') : Dead s s' := runs_dead h
theorem wakes_dead {M : Model} {Γ : Ctx} {p : Pos} {g : Nat} {r : Resume} {s s' : Shared} {res : GenResult} (h : Wakes M Γ p g r s res s') : Dead s s' := by
  unfold Wakes at h
  split at h
  · exact h.elim
  · split at h
    · obtain ⟨e₁, s₁, hr, _, _, rfl⟩ := h
      exact (runs_dead hr).set.set'
    · rw [h.2]; exact .refl _
    · rw [h.2]; exact (Dead.refl _).set'
  · obtain ⟨e₁, s₁, hr, _, _, rfl⟩ := h
    exact (runs_dead hr).set.set'
  · rw [h.2]; exact .refl _
  · rw [h.2]; exact .refl _
theorem wp_dead {α : Type} (M : Model) (Γ : Ctx) (s0 : Shared) (t : Sem α) : ∀ (Q : α → Pos → Shared → Prop) (E : Value → Pos → Shared → Prop) (p : Pos) (s : Shared), Dead s0 s → wp M Γ t Q E p s →
    wp M Γ t (fun a p' s' => Dead s0 s' ∧ Q a p' s') (fun e p' s' => Dead s0 s' ∧ E e p' s') p s := by
  induction t with
  | pure a => intro Q E p s hn h; exact ⟨hn, h⟩
  | raise e => intro Q E p s hn h; exact ⟨hn, h⟩
  | unsupported _ => intro Q E p s _ h; exact h
  | finish _ => intro Q E p s _ h; exact h
  | rule _ k ih => intro Q E p s hn h; exact ih () Q E p s hn h
  | «at» p' k ih => intro Q E p s hn h; exact ih () Q E p' s hn h
  | load a _ k ih => intro Q E p s hn h; obtain ⟨o, ho, h⟩ := h; exact ⟨o, ho, ih o Q E p s hn h⟩
  | update a _ f k ih => intro Q E p s hn h; exact ⟨h.1, ih () Q E p _ (hn.trans (Dead.upd h.1 rfl)) h.2⟩
  | loadIfAlive a k ih => intro Q E p s hn h; exact ih _ Q E p s hn h
  | point _ k ih => intro Q E p s hn h; exact ih () Q E p s hn h
  | register _ _ => intro Q E p s _ h; exact h
  | alloc o k ih => intro Q E p s hn h; exact ih _ Q E p _ (hn.trans (Dead.push rfl)) h
  | fresh k ih => intro Q E p s hn h; exact ih _ Q E p _ ⟨hn.sz, hn.no⟩ h
  | ask k ih => intro Q E p s hn h; exact ih _ Q E p s hn h
  | choose src m k ih => intro Q E p s hn h; exact ⟨h.1, ih _ Q E p _ ⟨hn.sz, hn.no⟩ h.2⟩
  | os q _ k ih => intro Q E p s hn h; exact ih _ Q E p _ ⟨hn.sz, hn.no⟩ h
  | call c hd _ _ k ih => intro Q E p s hn h; obtain ⟨r, s', hr, h⟩ := h; exact ⟨r, s', hr, ih r Q E p s' (hn.trans (returns_dead hr)) h⟩
  | handled own k ih => intro Q E p s hn h; exact ih _ Q E p s hn h
  | genState g k ih => intro Q E p s hn h; obtain ⟨st, hs, h⟩ := h; exact ⟨st, hs, ih _ Q E p s hn h⟩
  | newGen c k ih => intro Q E p s hn h; exact ih _ Q E p _ ⟨hn.sz, hn.no⟩ h
  | resume g r _ k ih => intro Q E p s hn h; obtain ⟨res, s', hw, h⟩ := h; exact ⟨res, s', hw, ih res Q E p s' (hn.trans (wakes_dead hw)) h⟩
  | yield _ _ _ _ => intro Q E p s _ h; exact h
  | stack k ih => intro Q E p s hn h; exact ih _ Q E p s hn h
  | fork _ _ => intro Q E p s _ h; exact h
  | thread k ih => intro Q E p s hn h; exact ih _ Q E p s hn h
  | await _ _ _ _ _ => intro Q E p s _ h; exact h
theorem wpAny_dead {α : Type} {M : Model} {A : Around} {s : Shared} {t : Sem α} {Q : α → Shared → Prop} {E : Value → Shared → Prop}
    (h : wpAny M A t (fun a s' => Dead s s' → Q a s') (fun e s' => Dead s s' → E e s') s) : wpAny M A t Q E s :=
  wpAny_mono (fun Γ p hΓ => wp_dead M Γ s t _ _ p s (.refl s) (h Γ p hΓ) : wpAny M A t (fun a s' => Dead s s' ∧ (Dead s s' → Q a s')) (fun e s' => Dead s s' ∧ (Dead s s' → E e s')) s)
    (fun _ _ x => x.2 x.1) fun _ _ x => x.2 x.1
end Sz
set_option maxHeartbeats 4000000
set_option autoImplicit false
namespace Sv
open PySem PySem.W PySem.Calls PyProof.Rows
def evT (i : Int) : Str := if 0 < i then Str.ofString "+" ++ Str.ofString (toString i) else Str.ofString (toString i)
end Sv
namespace Sv
open PySem PySem.Spec PyProof.Rows L2
/-- a value: tuples and lists that are only read by what they hold; what can change by its address -/
inductive D where
  | non | bl (b : Bool) | int (i : Int) | str (x : Str) | tup (ds : List D) | rol (ds : List D) | ref (a : Addr) | ty (n : String) | dct (kvs : List (Key × D))
  /-- a tuple whose methods are not called -/
  | wtup (ds : List D)
/-- what stands in the store -/
inductive Ob where
  | lst (ds : List D)
  | dK (kvs : List (Key × D))
  /-- an instance of an own class: the class's name, what it holds -/
  | ins (n : Str) (fs : List (Str × D))
  /-- a set of tuples of ints; a set of ints -/
  | tset (L : List (List Int)) | iset (ns : List Int)
abbrev Sto := Addr → Option Ob
def Sto.put (S : Sto) (a : Addr) (o : Ob) : Sto := fun b => if b = a then some o else S b
theorem Sto.same {S : Sto} {a : Addr} {o : Ob} : S.put a o a = some o := if_pos rfl
theorem Sto.ne {S : Sto} {a b : Addr} {o : Ob} (h : b ≠ a) : S.put a o b = S b := if_neg h
theorem Sto.put_put {S : Sto} {a : Addr} {o u : Ob} : (S.put a o).put a u = S.put a u := by
  funext b; unfold Sto.put; split <;> rfl
/-- the program, the world, the written part -/
structure KK where
  P : Program
  w : World
  k : PySem.W.Frag
abbrev _root_.L2.Cx.kk (X : Cx) : KK := ⟨X.prog, X.w, X.K⟩
/-- a list that is only read -/
def Rol (K : KK) (H : Hp) (a : Addr) (vs : List V) : Prop := (∃ o, H a = some (.frz o (.lst vs))) ∨
    ∃ (o : Obj) (its : Array Value) (n : Nat), K.k.lookup a = some o ∧ o.cls = .type "list" ∧ o.dict = none ∧ o.data = .seq its n ∧ its.size ≤ sizeLine ∧ Vals vs its.toList
theorem Rol.sqL {K : KK} {H : Hp} {a : Addr} {vs : List V} (h : Rol K H a vs) : SqL K.k H a vs := by
  rcases h with ⟨o, h⟩ | h
  · exact .inl (.inr ⟨o, h⟩)
  · exact .inr h
/-- what is locked stays -/
def Ext (H H' : Hp) : Prop := (∀ a o u, H a = some (.frz o u) → H' a = some (.frz o u)) ∧ ∀ a xs, H a = some (.tup xs) → H' a = some (.tup xs)
theorem Ext.refl (H : Hp) : Ext H H := ⟨fun _ _ _ h => h, fun _ _ h => h⟩
theorem Ext.trans {H H1 H2 : Hp} (x : Ext H H1) (y : Ext H1 H2) : Ext H H2 := ⟨fun a o u h => y.1 a o u (x.1 a o u h), fun a xs h => y.2 a xs (x.2 a xs h)⟩
theorem Ext.of {H H' : Hp} (h : Same H H') : Ext H H' := ⟨fun a o u e => h _ _ e, fun a xs e => h _ _ e⟩
theorem Ext.new {H : Hp} {p : Addr} {o : HO} (h : H p = none) : Ext H (upd H p o) := .of (Same.new h)
theorem Ext.put {H : Hp} {p : Addr} {o u : HO} (h : H p = some u) (m : Mut (some u)) : Ext H (upd H p o) := by
  refine ⟨fun a ob v e => ?_, fun a xs e => ?_⟩ <;>
  · rw [upd_ne]
    · exact e
    · rintro rfl
      rw [h] at e
      cases e
      exact m
theorem Rol.ext {K : KK} {H H' : Hp} {a : Addr} {vs : List V} (h : Rol K H a vs) (e : Ext H H') : Rol K H' a vs := by
  rcases h with ⟨o, h⟩ | h
  · exact .inl ⟨o, e.1 _ _ _ h⟩
  · exact .inr h
theorem TupN.ext {H H' : Hp} {a : Addr} {xs : List V} (h : TupN H a xs) (e : Ext H H') : TupN H' a xs := by
  obtain ⟨o, h, d⟩ := h
  exact ⟨o, e.1 _ _ _ h, d⟩
mutual
inductive RD (K : KK) (H : Hp) : D → V → Prop
  | non : RD K H .non .non
  | bl (b : Bool) : RD K H (.bl b) (.bl b)
  | int (i : Int) : RD K H (.int i) (.int i)
  | str (x : Str) : RD K H (.str x) (.str x)
  | ref (a : Addr) : RD K H (.ref a) (.ref a)
  | ty (n : String) : RD K H (.ty n) (.ty n)
  | tup {a : Addr} {ds : List D} {vs : List V} : TupN H a vs → RDs K H ds vs → RD K H (.tup ds) (.ref a)
  | rol {a : Addr} {ds : List D} {vs : List V} : Rol K H a vs → RDs K H ds vs → RD K H (.rol ds) (.ref a)
  | dct {a : Addr} {o : Obj} {kvs : List (Key × D)} {vs : List (Key × V)} : H a = some (.frz o (.dK vs)) → RDk K H kvs vs → RD K H (.dct kvs) (.ref a)
  | wtup {a : Addr} {ds : List D} {vs : List V} : H a = some (.tup vs) → RDs K H ds vs → RD K H (.wtup ds) (.ref a)
inductive RDs (K : KK) (H : Hp) : List D → List V → Prop
  | nil : RDs K H [] []
  | cons {d : D} {ds : List D} {v : V} {vs : List V} : RD K H d v → RDs K H ds vs → RDs K H (d :: ds) (v :: vs)
inductive RDk (K : KK) (H : Hp) : List (Key × D) → List (Key × V) → Prop
  | nil : RDk K H [] []
  | cons {k : Key} {d : D} {ds : List (Key × D)} {v : V} {vs : List (Key × V)} : RD K H d v → RDk K H ds vs → RDk K H ((k, d) :: ds) ((k, v) :: vs)
end
section
variable {K : KK} {H H' : Hp}
mutual
theorem RD.ext (e : Ext H H') : ∀ {d : D} {v : V}, RD K H d v → RD K H' d v
  | _, _, .non => .non
  | _, _, .bl b => .bl b
  | _, _, .int i => .int i
  | _, _, .str x => .str x
  | _, _, .ref a => .ref a
  | _, _, .ty n => .ty n
  | _, _, .tup h r => .tup (h.ext e) (RDs.ext e r)
  | _, _, .rol h r => .rol (h.ext e) (RDs.ext e r)
  | _, _, .dct h r => .dct (e.1 _ _ _ h) (RDk.ext e r)
  | _, _, .wtup h r => .wtup (e.2 _ _ h) (RDs.ext e r)
theorem RDs.ext (e : Ext H H') : ∀ {ds : List D} {vs : List V}, RDs K H ds vs → RDs K H' ds vs
  | _, _, .nil => .nil
  | _, _, .cons h r => .cons (RD.ext e h) (RDs.ext e r)
theorem RDk.ext (e : Ext H H') : ∀ {ds : List (Key × D)} {vs : List (Key × V)}, RDk K H ds vs → RDk K H' ds vs
  | _, _, .nil => .nil
  | _, _, .cons h r => .cons (RD.ext e h) (RDk.ext e r)
end
theorem RDk.length : ∀ {ds : List (Key × D)} {vs : List (Key × V)}, RDk K H ds vs → ds.length = vs.length
  | _, _, .nil => rfl
  | _, _, .cons _ r => by rw [List.length_cons, List.length_cons, RDk.length r]
theorem RDk.atv : ∀ {ds : List (Key × D)} {vs : List (Key × V)} {i : Nat} {k : Key} {v : V}, RDk K H ds vs → vs[i]? = some (k, v) → ∃ d, ds[i]? = some (k, d) ∧ RD K H d v
  | _, _, _, _, _, .nil, h => by simp at h
  | _, _, 0, _, _, .cons r _, h => by simp at h; obtain ⟨rfl, rfl⟩ := h; exact ⟨_, rfl, r⟩
  | _, _, i + 1, _, _, .cons _ t, h => RDk.atv (i := i) t (by simpa using h)
theorem RDs.length : ∀ {ds : List D} {vs : List V}, RDs K H ds vs → ds.length = vs.length
  | _, _, .nil => rfl
  | _, _, .cons _ r => by rw [List.length_cons, List.length_cons, RDs.length r]
theorem RDs.at : ∀ {ds : List D} {vs : List V} {i : Nat} {d : D}, RDs K H ds vs → ds[i]? = some d → ∃ v, vs[i]? = some v ∧ RD K H d v
  | _, _, _, _, .nil, h => by simp at h
  | _, _, 0, _, .cons r _, h => by simp at h; subst h; exact ⟨_, rfl, r⟩
  | _, _, i + 1, _, .cons _ t, h => RDs.at (i := i) t (by simpa using h)
theorem RDs.atv : ∀ {ds : List D} {vs : List V} {i : Nat} {v : V}, RDs K H ds vs → vs[i]? = some v → ∃ d, ds[i]? = some d ∧ RD K H d v
  | _, _, _, _, .nil, h => by simp at h
  | _, _, 0, _, .cons r _, h => by simp at h; subst h; exact ⟨_, rfl, r⟩
  | _, _, i + 1, _, .cons _ t, h => RDs.atv (i := i) t (by simpa using h)
theorem RDs.append : ∀ {ds : List D} {vs : List V} {es : List D} {ws : List V}, RDs K H ds vs → RDs K H es ws → RDs K H (ds ++ es) (vs ++ ws)
  | _, _, _, _, .nil, s => s
  | _, _, _, _, .cons r t, s => .cons r (RDs.append t s)
theorem RDs.take : ∀ {ds : List D} {vs : List V} (n : Nat), RDs K H ds vs → RDs K H (ds.take n) (vs.take n)
  | _, _, 0, _ => .nil
  | _, _, _ + 1, .nil => .nil
  | _, _, n + 1, .cons r t => .cons r (RDs.take n t)
theorem RDs.drop : ∀ {ds : List D} {vs : List V} (n : Nat), RDs K H ds vs → RDs K H (ds.drop n) (vs.drop n)
  | _, _, 0, r => r
  | _, _, _ + 1, .nil => .nil
  | _, _, n + 1, .cons _ t => RDs.drop n t
theorem RDs.set {d : D} {v : V} (h : RD K H d v) : ∀ {ds : List D} {vs : List V} (n : Nat), RDs K H ds vs → RDs K H (ds.set n d) (vs.set n v)
  | _, _, _, .nil => .nil
  | _, _, 0, .cons _ t => .cons h t
  | _, _, n + 1, .cons r t => .cons r (RDs.set h n t)
theorem RDs.eraseIdx : ∀ {ds : List D} {vs : List V} (n : Nat), RDs K H ds vs → RDs K H (ds.eraseIdx n) (vs.eraseIdx n)
  | _, _, _, .nil => .nil
  | _, _, 0, .cons _ t => t
  | _, _, n + 1, .cons r t => .cons r (RDs.eraseIdx n t)
theorem RDs.ints : ∀ ns : List Int, RDs K H (ns.map D.int) (ns.map V.int)
  | [] => .nil
  | n :: r => .cons (.int n) (RDs.ints r)
theorem RDs.ints_inv : ∀ {ns : List Int} {vs : List V}, RDs K H (ns.map D.int) vs → vs = ns.map V.int
  | [], _, .nil => rfl
  | n :: r, _, .cons (.int _) t => by rw [RDs.ints_inv t]; rfl
theorem RDs.inv1 {d : D} {vs : List V} (h : RDs K H [d] vs) : ∃ v, vs = [v] ∧ RD K H d v := by
  cases h with
  | cons r t => cases t; exact ⟨_, rfl, r⟩
theorem RDs.inv2 {d e : D} {vs : List V} (h : RDs K H [d, e] vs) : ∃ v u, vs = [v, u] ∧ RD K H d v ∧ RD K H e u := by
  cases h with
  | cons r t =>
    obtain ⟨u, rfl, q⟩ := t.inv1
    exact ⟨_, _, rfl, r, q⟩
end
/-- the class of that name -/
def ClsAt (K : PySem.W.Frag) (n : Str) (C : Addr) : Prop := PySem.W.nsIn K mainGlobals n = some (some (.ref C))
theorem ClsAt.eq {K : PySem.W.Frag} {n : Str} {C D : Addr} (h : ClsAt K n C) (g : ClsAt K n D) : C = D := by
  have e := (show PySem.W.nsIn K mainGlobals n = some (some (.ref C)) from h).symm.trans g
  cases e
  rfl
/-- what an instance holds -/
def RDf (K : KK) (H : Hp) : List (Str × D) → List (Str × V) → Prop
  | [], [] => True
  | (x, d) :: r, (y, v) :: q => x = y ∧ RD K H d v ∧ RDf K H r q
  | _, _ => False
theorem RDf.ext {K : KK} {H H' : Hp} (e : Ext H H') : ∀ {fs : List (Str × D)} {gs : List (Str × V)}, RDf K H fs gs → RDf K H' fs gs
  | [], [], _ => trivial
  | _ :: _, _ :: _, ⟨h, r, q⟩ => ⟨h, r.ext e, RDf.ext e q⟩
  | [], _ :: _, h => h.elim
  | _ :: _, [], h => h.elim
theorem RDf.length {K : KK} {H : Hp} : ∀ {fs : List (Str × D)} {gs : List (Str × V)}, RDf K H fs gs → fs.length = gs.length
  | [], [], _ => rfl
  | _ :: _, _ :: _, ⟨_, _, q⟩ => by rw [List.length_cons, List.length_cons, RDf.length q]
  | [], _ :: _, h => h.elim
  | _ :: _, [], h => h.elim
theorem RDf.look {K : KK} {H : Hp} {f : Str} : ∀ {fs : List (Str × D)} {gs : List (Str × V)} {d : D}, RDf K H fs gs → fs.lookup f = some d → ∃ v, gs.lookup f = some v ∧ RD K H d v
  | [], [], _, _, h => by cases h
  | (x, d) :: r, (y, v) :: q, e, ⟨h, r1, q1⟩, hl => by
    subst h
    rw [List.lookup_cons] at hl ⊢
    cases z : f == x with
    | true => rw [z] at hl; cases hl; exact ⟨_, rfl, r1⟩
    | false => rw [z] at hl; exact RDf.look q1 hl
  | [], _ :: _, _, h, _ => h.elim
  | _ :: _, [], _, h, _ => h.elim
theorem RDf.none {K : KK} {H : Hp} {f : Str} : ∀ {fs : List (Str × D)} {gs : List (Str × V)}, RDf K H fs gs → fs.lookup f = Option.none → gs.lookup f = Option.none
  | [], [], _, _ => rfl
  | (x, d) :: r, (y, v) :: q, ⟨h, r1, q1⟩, hl => by
    subst h
    rw [List.lookup_cons] at hl ⊢
    cases z : f == x with
    | true => rw [z] at hl; cases hl
    | false => rw [z] at hl; exact RDf.none q1 hl
  | [], _ :: _, h, _ => h.elim
  | _ :: _, [], h, _ => h.elim
def putFD (f : Str) (v : D) : List (Str × D) → List (Str × D)
  | [] => [(f, v)]
  | (g, x) :: r => if g = f then (g, v) :: r else (g, x) :: putFD f v r
theorem RDf.put {K : KK} {H : Hp} {f : Str} {d : D} {v : V} (h : RD K H d v) : ∀ {fs : List (Str × D)} {gs : List (Str × V)}, RDf K H fs gs → RDf K H (putFD f d fs) (putF f v gs)
  | [], [], _ => ⟨rfl, h, trivial⟩
  | (x, e) :: r, (y, w) :: q, ⟨z, r1, q1⟩ => by
    subst z
    unfold putFD putF
    by_cases z : x = f
    · rw [if_pos z, if_pos z]; exact ⟨rfl, h, q1⟩
    · rw [if_neg z, if_neg z]; exact ⟨rfl, r1, RDf.put h q1⟩
  | [], _ :: _, h => h.elim
  | _ :: _, [], h => h.elim
def RO (K : KK) (H : Hp) (a : Addr) : Ob → Prop
  | .lst ds => ∃ vs, H a = some (.lst vs) ∧ RDs K H ds vs
  | .dK kvs => ∃ vs, H a = some (.dK vs) ∧ RDk K H kvs vs
  | .ins n fs => ∃ C dx gs, ClsAt K.k n C ∧ H a = some (.ins C dx gs) ∧ RDf K H fs gs
  | .tset L => ∃ M : List (Addr × List Int), H a = some (SetTO K.P K.w a M) ∧ (∀ p ∈ M, TupN H p.1 (p.2.map V.int)) ∧ L = M.map (·.2)
  | .iset ns => ∃ S : Key → Bool, H a = some (SetK K.P K.w a S ns.length) ∧ ∀ i, S (Sum.inl i) = true ↔ i ∈ ns
def RelS (K : KK) (S : Sto) (H : Hp) : Prop := ∀ a o, S a = some o → RO K H a o
section
variable {K : KK} {H H' : Hp} {S : Sto} {a p : Addr} {o : Ob} {u w : HO}
theorem RO.ext {o : Ob} (h : RO K H a o) (e : Ext H H') (ha : H' a = H a) : RO K H' a o := by
  cases o with
  | lst ds => obtain ⟨vs, q, r⟩ := h; exact ⟨vs, ha.trans q, r.ext e⟩
  | dK kvs => obtain ⟨vs, q, r⟩ := h; exact ⟨vs, ha.trans q, r.ext e⟩
  | ins n fs => obtain ⟨C, dx, gs, c, q, r⟩ := h; exact ⟨C, dx, gs, c, ha.trans q, r.ext e⟩
  | tset L => obtain ⟨M, q, r, z⟩ := h; exact ⟨M, ha.trans q, fun p hp => (r p hp).ext e, z⟩
  | iset ns => obtain ⟨S, q, r⟩ := h; exact ⟨S, ha.trans q, r⟩
theorem RO.mut (h : RO K H a o) : ∃ u, H a = some u ∧ Mut (some u) := by
  cases o with
  | lst ds => obtain ⟨vs, q, r⟩ := h; exact ⟨_, q, trivial⟩
  | dK kvs => obtain ⟨vs, q, r⟩ := h; exact ⟨_, q, trivial⟩
  | ins n fs => obtain ⟨C, dx, gs, c, q, _⟩ := h; exact ⟨_, q, trivial⟩
  | tset L => obtain ⟨M, q, _⟩ := h; exact ⟨_, q, trivial⟩
  | iset ns => obtain ⟨S, q, _⟩ := h; exact ⟨_, q, trivial⟩
theorem RelS.fresh (h : RelS K S H) (n : H p = none) : S p = none := by
  cases e : S p with
  | none => rfl
  | some o =>
    obtain ⟨u, q, _⟩ := (h p o e).mut
    rw [n] at q
    cases q
/-- something new that is not of the store -/
theorem RelS.new (h : RelS K S H) (n : H p = none) : RelS K S (upd H p u) := fun a o e => (h a o e).ext (.new n) (upd_ne fun z => by
  subst z
  rw [h.fresh n] at e
  cases e)
/-- something new of the store -/
theorem RelS.lay (h : RelS K S H) (n : H p = none) (r : RO K (upd H p u) p o) : RelS K (S.put p o) (upd H p u) := fun a o' e => by
  by_cases z : a = p
  · subst z
    rw [Sto.same] at e
    cases e
    exact r
  · rw [Sto.ne z] at e
    exact h.new n a o' e
/-- something of the store written -/
theorem RelS.put (h : RelS K S H) (n : H p = some w) (m : Mut (some w)) (r : RO K (upd H p u) p o) : RelS K (S.put p o) (upd H p u) := fun a o' e => by
  by_cases z : a = p
  · subst z
    rw [Sto.same] at e
    cases e
    exact r
  · rw [Sto.ne z] at e
    exact (h a o' e).ext (.put n m) (upd_ne z)
theorem RelS.lst (h : RelS K S H) {ds : List D} (e : S a = some (.lst ds)) : ∃ vs, H a = some (.lst vs) ∧ RDs K H ds vs := h a _ e
end
abbrev Env := List (Option D)
abbrev DK := D → Sto → Prop
abbrev DTE := Env → Sto → DK → Prop
abbrev DTT := Env → Sto → (Bool → Sto → Prop) → Prop
abbrev DTA := Env → Sto → (List D → Sto → Prop) → Prop
structure DEnds where
  nx : Env → Sto → Prop
  rt : DK
  bk : Env → Sto → Prop := fun _ _ => False
  ct : Env → Sto → Prop := fun _ _ => False
abbrev DTS := DEnds → Env → Sto → Prop
structure RS (K : KK) (σ : L2.St) (H : Hp) (env : Env) (S : Sto) : Prop where
  len : env.length = σ.length
  slot : ∀ (i : Nat) (d : D), env[i]? = some (some d) → ∃ v, σ[i]? = some (some v) ∧ RD K H d v
  sto : RelS K S H
theorem RS.ext {K : KK} {σ : L2.St} {H H' : Hp} {env : Env} {S S' : Sto} (r : RS K σ H env S) (e : Ext H H') (s : RelS K S' H') : RS K σ H' env S' :=
  ⟨r.len, fun i d h => let ⟨v, q, x⟩ := r.slot i d h; ⟨v, q, x.ext e⟩, s⟩
theorem RS.set {K : KK} {σ : L2.St} {H : Hp} {env : Env} {S : Sto} {d : D} {v : V} (r : RS K σ H env S) (i : Nat) (h : RD K H d v) : RS K (σ.set i (some v)) H (env.set i (some d)) S := by
  refine ⟨by rw [List.length_set, List.length_set]; exact r.len, fun j d' e => ?_, r.sto⟩
  by_cases z : i = j
  · subst z
    by_cases hl : i < env.length
    · rw [List.getElem?_set_self hl] at e
      cases e
      exact ⟨v, List.getElem?_set_self (r.len ▸ hl), h⟩
    · rw [List.getElem?_eq_none (by rw [List.length_set]; omega)] at e
      cases e
  · rw [List.getElem?_set_ne z] at e ⊢
    exact r.slot j d' e
section
variable (K : KK)
def lE (t : DTE) : TE := fun σ H Q => ∃ env S R, RS K σ H env S ∧ t env S R ∧ ∀ d S' v H', R d S' → RelS K S' H' → RD K H' d v → Ext H H' → Q v H'
def lT (t : DTT) : TT := fun σ H Q => ∃ env S R, RS K σ H env S ∧ t env S R ∧ ∀ b S' H', R b S' → RelS K S' H' → Ext H H' → Q b H'
def lA (t : DTA) : TA := fun σ H Q => ∃ env S R, RS K σ H env S ∧ t env S R ∧ ∀ ds S' vs H', R ds S' → RelS K S' H' → RDs K H' ds vs → Ext H H' → Q vs H'
def lS (t : DTS) : TS := fun B σ H => ∃ env S C, RS K σ H env S ∧ t C env S ∧
  (∀ env' S' σ' H', C.nx env' S' → RS K σ' H' env' S' → Ext H H' → B.nx σ' H') ∧ (∀ d S' v H', C.rt d S' → RelS K S' H' → RD K H' d v → Ext H H' → B.rt v H') ∧
  (∀ env' S' σ' H', C.bk env' S' → RS K σ' H' env' S' → Ext H H' → B.bk σ' H') ∧ (∀ env' S' σ' H', C.ct env' S' → RS K σ' H' env' S' → Ext H H' → B.ct σ' H')
end
structure DE (X : Cx) (e : Expr) (t : DTE) : Prop where
  run : PE X e (lE X.kk t)
structure DT (X : Cx) (e : Expr) (t : DTT) : Prop where
  run : PT X e (lT X.kk t)
structure DW (X : Cx) (e : Expr) (t : DTT) : Prop where
  run : PW X e (lT X.kk t)
structure DA (X : Cx) (es : List Expr) (t : DTA) : Prop where
  run : PA X es (lA X.kk t)
structure DS (X : Cx) (st : Stmt) (t : DTS) : Prop where
  run : PS X st (lS X.kk t)
structure DSs (X : Cx) (sts : List Stmt) (t : DTS) : Prop where
  run : PSs X sts (lS X.kk t)
section
variable {X : Cx}
theorem _root_.L2.PE.of {e : Expr} {t t' : TE} (h : PE X e t) (q : ∀ σ H Q, t' σ H Q → t σ H Q) : PE X e t' := ⟨fun pins s σ H Q I w => h.run pins s σ H Q I (q σ H Q w)⟩
theorem _root_.L2.PT.of {e : Expr} {t t' : TT} (h : PT X e t) (q : ∀ σ H Q, t' σ H Q → t σ H Q) : PT X e t' := ⟨fun pins s σ H Q I w => h.run pins s σ H Q I (q σ H Q w)⟩
theorem _root_.L2.PW.of {e : Expr} {t t' : TT} (h : PW X e t) (q : ∀ σ H Q, t' σ H Q → t σ H Q) : PW X e t' := ⟨fun wh pins s σ H Q I w => h.run wh pins s σ H Q I (q σ H Q w)⟩
theorem _root_.L2.PA.of {e : List Expr} {t t' : TA} (h : PA X e t) (q : ∀ σ H Q, t' σ H Q → t σ H Q) : PA X e t' := ⟨fun pos pins s σ H Q I w => h.run pos pins s σ H Q I (q σ H Q w)⟩
theorem _root_.L2.PS.of {e : Stmt} {t t' : TS} (h : PS X e t) (q : ∀ σ H Q, t' Q σ H → t Q σ H) : PS X e t' := ⟨fun pins s σ H Q I w => h.run pins s σ H Q I (q σ H Q w)⟩
theorem _root_.L2.PSs.of {e : List Stmt} {t t' : TS} (h : PSs X e t) (q : ∀ σ H Q, t' Q σ H → t Q σ H) : PSs X e t' := ⟨fun pins s σ H Q I w => h.run pins s σ H Q I (q σ H Q w)⟩
def dVar (i : Nat) : DTE := fun env S R => ∃ d, env[i]? = some (some d) ∧ R d S
def dC (d : D) : DTE := fun _ S R => R d S
theorem de_var {i : Nat} {x : Str} {pos : Pos} (hN : X.N[i]? = some x) (hv : Vis X.env.scope x) (hd : (x == ("__debug__" : Str)) = false := by decide) (hcd : (x == ("__classdict__" : Str)) = false := by decide) : DE X (.Name x pos) (dVar i) :=
  ⟨(pe_var hN hv hd hcd).of fun σ H Q ⟨env, S, R, rs, ⟨d, h, q⟩, k⟩ => let ⟨v, e, r⟩ := rs.slot i d h; ⟨v, e, k _ _ _ _ q rs.sto r (.refl H)⟩⟩
theorem de_int {i j pos} : DE X (.Constant (.int i) j pos) (dC (.int i)) := ⟨pe_int.of fun σ H Q ⟨env, S, R, rs, q, k⟩ => k _ _ _ _ q rs.sto (.int i) (.refl H)⟩
theorem de_bl {b j pos} : DE X (.Constant (.bool b) j pos) (dC (.bl b)) := ⟨pe_bl.of fun σ H Q ⟨env, S, R, rs, q, k⟩ => k _ _ _ _ q rs.sto (.bl b) (.refl H)⟩
theorem de_non {j pos} : DE X (.Constant .none j pos) (dC .non) := ⟨pe_non.of fun σ H Q ⟨env, S, R, rs, q, k⟩ => k _ _ _ _ q rs.sto .non (.refl H)⟩
theorem de_str {x j pos} : DE X (.Constant (.str x) j pos) (dC (.str x)) := ⟨pe_str.of fun σ H Q ⟨env, S, R, rs, q, k⟩ => k _ _ _ _ q rs.sto (.str x) (.refl H)⟩
/-- a module's number -/
theorem de_num {x : Str} {i : Int} {t : Tok} {pos : Pos} (hg : Gl X x) (hm : X.mg x = some (.int i t)) (hd : (x == ("__debug__" : Str)) = false := by decide) : DE X (.Name x pos) (dC (.int i)) :=
  ⟨(pe_glob (v := .int i) hg hm ⟨t, rfl⟩ hd).of fun σ H Q ⟨env, S, R, rs, q, k⟩ => k _ _ _ _ q rs.sto (.int i) (.refl H)⟩
abbrev DR2 := D → D → Sto → DK → Prop
def l2 (K : KK) (r : DR2) : R2 := fun x y H Q => ∃ d e S R, RD K H d x ∧ RD K H e y ∧ RelS K S H ∧ r d e S R ∧ ∀ z S' v H', R z S' → RelS K S' H' → RD K H' z v → Ext H H' → Q v H'
def dBin (r : DR2) (ta tb : DTE) : DTE := fun env S R => ta env S fun x S1 => tb env S1 fun y S2 => r x y S2 R
theorem l2_bin {K : KK} {r : DR2} {ta tb : DTE} {σ : L2.St} {H : Hp} {Q : VK} (h : lE K (dBin r ta tb) σ H Q) : tOp (l2 K r) (lE K ta) (lE K tb) σ H Q := by
  obtain ⟨env, S, R, rs, h, k⟩ := h
  refine ⟨env, S, _, rs, h, fun d S1 v H1 q1 s1 r1 e1 => ⟨env, S1, _, rs.ext e1 s1, q1, fun e S2 u H2 q2 s2 r2 e2 => ⟨d, e, S2, R, r1.ext e2, r2, s2, q2, fun z S3 w H3 q3 s3 r3 e3 => k _ _ _ _ q3 s3 r3 (e1.trans (e2.trans e3))⟩⟩⟩
variable {a b : Expr} {ta tb tc : DTE} {pos : Pos}
theorem de_bin {op : Operator} {r : DR2} (ho : OpR X (binaryOp op) (l2 X.kk r)) (ha : DE X a ta) (hb : DE X b tb) : DE X (.BinOp a op b pos) (dBin r ta tb) := ⟨(pe_op ho ha.run hb.run).of fun _ _ _ => l2_bin⟩
theorem de_cmp {op : CmpOp} {r : DR2} (ho : OpR X (compareOp op) (l2 X.kk r)) (ha : DE X a ta) (hb : DE X b tb) (hm : behindInMarks op b = false := by first | rfl | exact nomark _) : DE X (.Compare a [op] [b] pos) (dBin r ta tb) := ⟨(pe_cmpR ho ha.run hb.run hm).of fun _ _ _ => l2_bin⟩
def dB (t : DTE) : DTT := fun env S R => t env S fun x S1 => ∃ c, x = .bl c ∧ R c S1
theorem lT_b {K : KK} {t : DTE} {σ : L2.St} {H : Hp} {Q : Bool → Hp → Prop} (h : lT K (dB t) σ H Q) : tB (lE K t) σ H Q := by
  obtain ⟨env, S, R, rs, h, k⟩ := h
  refine ⟨env, S, _, rs, h, fun d S1 v H1 ⟨c, q, q1⟩ s1 r1 e1 => ?_⟩
  subst q
  cases r1
  exact ⟨c, rfl, k _ _ _ q1 s1 e1⟩
theorem dt_cmp {op : CmpOp} {r : DR2} (ho : OpR X (compareOp op) (l2 X.kk r)) (ha : DE X a ta) (hb : DE X b tb) (hm : behindInMarks op b = false := by first | rfl | exact nomark _) : DT X (.Compare a [op] [b] pos) (dB (dBin r ta tb)) := by
  refine ⟨(pt_cmpR ho ha.run hb.run hm).of fun σ H Q h => ?_⟩
  obtain ⟨env, S, R, rs, h, k⟩ := lT_b h
  exact l2_bin ⟨env, S, R, rs, h, k⟩
/-- an expression whose value is a bool, as a test -/
theorem dt_val {e : Expr} {t : DTE} (h : DE X e t) (he : ∀ whole, isTrue e X.env whole = (do let v ← whole; standAt e.pos; holding [v] (truthy v)) := by intro _; rfl) : DT X e (dB t) := ⟨(pt_val h.run he).of fun _ _ _ => lT_b⟩
end
end Sv
namespace Sv
open PySem PySem.Spec PyProof.Rows L2
section
variable {X : Cx} {a b c e : Expr} {es rest : List Expr} {ta tb te : DTE} {t u : DTT} {tl : DTA} {pos : Pos}
def dAnd (t u : DTT) : DTT := fun env S R => t env S fun c S1 => if c = true then u env S1 R else R false S1
def dOr (t u : DTT) : DTT := fun env S R => t env S fun c S1 => if c = true then R true S1 else u env S1 R
def dNot (t : DTT) : DTT := fun env S R => t env S fun c S1 => R (!c) S1
theorem dw_and1 (h : DT X a t) : DW X (.BoolOp .And [a] pos) t := ⟨pw_and1 h.run⟩
theorem dw_or1 (h : DT X a t) : DW X (.BoolOp .Or [a] pos) t := ⟨pw_or1 h.run⟩
theorem dw_and (ha : DT X a t) (hb : DW X (.BoolOp .And (b :: rest) pos) u) : DW X (.BoolOp .And (a :: b :: rest) pos) (dAnd t u) := by
  refine ⟨(pw_and ha.run hb.run).of fun σ H Q ⟨env, S, R, rs, h, k⟩ => ⟨env, S, _, rs, h, fun c S1 H1 q s1 e1 => ?_⟩⟩
  cases c with
  | true => exact ⟨env, S1, R, rs.ext e1 s1, q, fun c S2 H2 q s2 e2 => k _ _ _ q s2 (e1.trans e2)⟩
  | false => exact k _ _ _ q s1 e1
theorem dw_or (ha : DT X a t) (hb : DW X (.BoolOp .Or (b :: rest) pos) u) : DW X (.BoolOp .Or (a :: b :: rest) pos) (dOr t u) := by
  refine ⟨(pw_or ha.run hb.run).of fun σ H Q ⟨env, S, R, rs, h, k⟩ => ⟨env, S, _, rs, h, fun c S1 H1 q s1 e1 => ?_⟩⟩
  cases c with
  | false => exact ⟨env, S1, R, rs.ext e1 s1, q, fun c S2 H2 q s2 e2 => k _ _ _ q s2 (e1.trans e2)⟩
  | true => exact k _ _ _ q s1 e1
theorem DW.dt (h : DW X e t) : DT X e t := ⟨h.run.pt⟩
theorem dt_not (h : DT X a t) : DT X (.UnaryOp .Not a pos) (dNot t) :=
  ⟨(pt_not h.run).of fun σ H Q ⟨env, S, R, rs, h, k⟩ => ⟨env, S, _, rs, h, fun c S1 H1 q s1 e1 => k _ _ _ q s1 e1⟩⟩
/-- bools as values -/
def dAndV (ta tb : DTE) : DTE := fun env S R => ta env S fun x S1 => ∃ c, x = .bl c ∧ if c = true then tb env S1 R else R (.bl false) S1
def dNotV (ta : DTE) : DTE := fun env S R => ta env S fun x S1 => ∃ c, x = .bl c ∧ R (.bl (!c)) S1
theorem de_one {op} (h : DE X a ta) : DE X (.BoolOp op [a] pos) ta := ⟨pe_one h.run⟩
theorem de_and (ha : DE X a ta) (hb : DE X (.BoolOp .And (b :: rest) pos) tb) : DE X (.BoolOp .And (a :: b :: rest) pos) (dAndV ta tb) := by
  refine ⟨(pe_and ha.run hb.run).of fun σ H Q ⟨env, S, R, rs, h, k⟩ => ⟨env, S, _, rs, h, fun d S1 v H1 ⟨c, z, q⟩ s1 r1 e1 => ?_⟩⟩
  subst z
  cases r1
  refine ⟨c, rfl, ?_⟩
  cases c with
  | true => exact ⟨env, S1, R, rs.ext e1 s1, q, fun c S2 v H2 q s2 r2 e2 => k _ _ _ _ q s2 r2 (e1.trans e2)⟩
  | false => exact k _ _ _ _ q s1 (.bl _) e1
theorem de_not (ha : DE X a ta) : DE X (.UnaryOp .Not a pos) (dNotV ta) := by
  refine ⟨(pe_not ha.run).of fun σ H Q ⟨env, S, R, rs, h, k⟩ => ⟨env, S, _, rs, h, fun d S1 v H1 ⟨c, z, q⟩ s1 r1 e1 => ?_⟩⟩
  subst z
  cases r1
  exact ⟨c, rfl, k _ _ _ _ q s1 (.bl _) e1⟩
def dIf (t : DTT) (ta tb : DTE) : DTE := fun env S R => t env S fun c S1 => if c = true then ta env S1 R else tb env S1 R
theorem de_ifExp (hc : DT X c t) (ha : DE X a ta) (hb : DE X b tb) : DE X (.IfExp c a b pos) (dIf t ta tb) := by
  refine ⟨(pe_ifExp hc.run ha.run hb.run).of fun σ H Q ⟨env, S, R, rs, h, k⟩ => ⟨env, S, _, rs, h, fun c S1 H1 q s1 e1 => ?_⟩⟩
  cases c with
  | true => exact ⟨env, S1, R, rs.ext e1 s1, q, fun c S2 v H2 q s2 r2 e2 => k _ _ _ _ q s2 r2 (e1.trans e2)⟩
  | false => exact ⟨env, S1, R, rs.ext e1 s1, q, fun c S2 v H2 q s2 r2 e2 => k _ _ _ _ q s2 r2 (e1.trans e2)⟩
/-- an operator of one value -/
abbrev DR1 := D → Sto → DK → Prop
def l1 (K : KK) (r : DR1) : V → Hp → VK → Prop := fun x H Q => ∃ d S R, RD K H d x ∧ RelS K S H ∧ r d S R ∧ ∀ z S' v H', R z S' → RelS K S' H' → RD K H' z v → Ext H H' → Q v H'
def dUn (r : DR1) (ta : DTE) : DTE := fun env S R => ta env S fun x S1 => r x S1 R
theorem l1_un {K : KK} {r : DR1} {σ : L2.St} {H : Hp} {Q : VK} (h : lE K (dUn r ta) σ H Q) : lE K ta σ H (fun x H1 => l1 K r x H1 Q) := by
  obtain ⟨env, S, R, rs, h, k⟩ := h
  exact ⟨env, S, _, rs, h, fun d S1 v H1 q s1 r1 e1 => ⟨d, S1, R, r1, s1, q, fun z S2 w H2 q2 s2 r2 e2 => k _ _ _ _ q2 s2 r2 (e1.trans e2)⟩⟩
theorem de_un {op : UnaryOp} {r : DR1} (ho : UnR X (unaryOp op) (l1 X.kk r)) (ha : DE X a ta) : DE X (.UnaryOp op a pos) (dUn r ta) := ⟨(pe_un ho ha.run).of fun _ _ _ => l1_un⟩
def isNon : D → Bool
  | .non => true
  | _ => false
def dIsN (ta : DTE) : DTE := dUn (fun d S R => R (.bl (isNon d)) S) ta
def dNotN (ta : DTE) : DTE := dUn (fun d S R => R (.bl (!isNon d)) S) ta
theorem rd_non {K : KK} {H : Hp} {d : D} {v : V} (r : RD K H d v) : decide (v = .non) = isNon d := by cases r <;> rfl
theorem lE_isN {K : KK} {σ : L2.St} {H : Hp} {Q : VK} (h : lE K (dIsN ta) σ H Q) : tIsN (lE K ta) σ H Q := by
  obtain ⟨env, S, R, rs, h, k⟩ := h
  refine ⟨env, S, _, rs, h, fun d S1 v H1 q s1 r1 e1 => ?_⟩
  show Q (.bl (decide (v = .non))) H1
  rw [rd_non r1]
  exact k _ _ _ _ q s1 (.bl _) e1
theorem lE_notN {K : KK} {σ : L2.St} {H : Hp} {Q : VK} (h : lE K (dNotN ta) σ H Q) : tNotN (lE K ta) σ H Q := by
  obtain ⟨env, S, R, rs, h, k⟩ := h
  refine ⟨env, S, _, rs, h, fun d S1 v H1 q s1 r1 e1 => ?_⟩
  show Q (.bl (!decide (v = .non))) H1
  rw [rd_non r1]
  exact k _ _ _ _ q s1 (.bl _) e1
theorem de_notN {j pos'} (ha : DE X a ta) : DE X (.Compare a [.IsNot] [.Constant .none j pos'] pos) (dNotN ta) := ⟨(pe_cmp (pc_notN ha.run)).of fun _ _ _ => lE_notN⟩
theorem dt_isN {j pos'} (ha : DE X a ta) : DT X (.Compare a [.Is] [.Constant .none j pos'] pos) (dB (dIsN ta)) := ⟨(pt_cmp (pc_isN ha.run)).of fun _ _ _ h => by
  obtain ⟨env, S, R, rs, h, k⟩ := lT_b h
  exact lE_isN ⟨env, S, R, rs, h, k⟩⟩
theorem dt_notN {j pos'} (ha : DE X a ta) : DT X (.Compare a [.IsNot] [.Constant .none j pos'] pos) (dB (dNotN ta)) := ⟨(pt_cmp (pc_notN ha.run)).of fun _ _ _ h => by
  obtain ⟨env, S, R, rs, h, k⟩ := lT_b h
  exact lE_notN ⟨env, S, R, rs, h, k⟩⟩
def dNil : DTA := fun _ S R => R [] S
def dCons (ta : DTE) (tr : DTA) : DTA := fun env S R => ta env S fun x S1 => tr env S1 fun xs S2 => R (x :: xs) S2
theorem da_nil : DA X [] dNil := ⟨pa_nil.of fun σ H Q ⟨env, S, R, rs, q, k⟩ => k _ _ _ _ q rs.sto .nil (.refl H)⟩
theorem da_cons (ha : DE X e ta) (hr : DA X es tl) (hs : starEach (e :: es) X.env = (false, eval e X.env) :: starEach es X.env := by rfl) : DA X (e :: es) (dCons ta tl) :=
  ⟨(pa_cons ha.run hr.run hs).of fun σ H Q ⟨env, S, R, rs, h, k⟩ => ⟨env, S, _, rs, h, fun d S1 v H1 q s1 r1 e1 => ⟨env, S1, _, rs.ext e1 s1, q, fun ds S2 vs H2 q2 s2 r2 e2 => k _ _ _ _ q2 s2 (.cons (r1.ext e2) r2) (e1.trans e2)⟩⟩⟩
theorem sz1000 {α : Type} {xs : List α} (h : decide (xs.length ≤ 1000) = true) : xs.length ≤ sizeLine := Nat.le_trans (of_decide_eq_true h) (by decide)
def dTup (t : DTA) : DTE := fun env S R => t env S fun ds S1 => decide (ds.length ≤ 1000) = true ∧ R (.tup ds) S1
def dLst (t : DTA) : DTE := fun env S R => t env S fun ds S1 => decide (ds.length ≤ 1000) = true ∧ ∀ p, S1 p = none → R (.ref p) (S1.put p (.lst ds))
theorem de_tup {x1} (h : DA X es tl) : DE X (.Tuple es x1 pos) (dTup tl) := by
  refine ⟨(pe_tupF h.run).of fun σ H Q ⟨env, S, R, rs, h, k⟩ => ⟨env, S, _, rs, h, fun ds S1 vs H1 ⟨hz, q⟩ s1 r1 e1 => ⟨?_, fun p o np ho => ?_⟩⟩⟩
  · rw [← r1.length]
    exact sz1000 hz
  · exact k _ _ _ _ q (s1.new np) (.tup (.new ho) (r1.ext (.new np))) (e1.trans (.new np))
theorem de_lst (h : DA X es tl) : DE X (.List es pos) (dLst tl) := by
  refine ⟨(pe_lst h.run).of fun σ H Q ⟨env, S, R, rs, h, k⟩ => ⟨env, S, _, rs, h, fun ds S1 vs H1 ⟨hz, q⟩ s1 r1 e1 => ⟨?_, fun p np => ?_⟩⟩⟩
  · rw [← r1.length]
    exact sz1000 hz
  · exact k _ _ _ _ (q p (s1.fresh np)) (s1.lay np ⟨_, upd_same, r1.ext (.new np)⟩) (.ref p) (e1.trans (.new np))
abbrev DRC := List D → Sto → DK → Prop
def lC (K : KK) (r : DRC) : List V → Hp → VK → Prop := fun vs H Q => ∃ ds S R, RDs K H ds vs ∧ RelS K S H ∧ r ds S R ∧ ∀ z S' v H', R z S' → RelS K S' H' → RD K H' z v → Ext H H' → Q v H'
def dCB (r : DRC) (t : DTA) : DTE := fun env S R => t env S fun ds S1 => r ds S1 R
theorem lC_of {K : KK} {r : DRC} {σ : L2.St} {H : Hp} {Q : VK} (h : lE K (dCB r tl) σ H Q) : lA K tl σ H (fun vs H1 => lC K r vs H1 Q) := by
  obtain ⟨env, S, R, rs, h, k⟩ := h
  exact ⟨env, S, _, rs, h, fun ds S1 vs H1 q s1 r1 e1 => ⟨ds, S1, R, r1, s1, q, fun z S2 w H2 q2 s2 r2 e2 => k _ _ _ _ q2 s2 r2 (e1.trans e2)⟩⟩
theorem de_callB {r : DRC} {id : String} {x : Str} {p : Pos} (hc : CallR X (.builtin id) (lC X.kk r)) (hg : Gl X x) (hm : X.mg x = none) (hv : bootBuiltins x = some (.builtin id)) (ha : DA X (e :: es) tl) (hn : x ≠ "__name__" := by decide) (hdb : (x == ("__debug__" : Str)) = false := by decide)
    (he : starEach (e :: es) X.env = (false, eval e X.env) :: starEach es X.env := by rfl) (hpl : (backTo pos (starEach es X.env)).any (·.1) = false := by rfl) : DE X (.Call (.Name x p) (e :: es) [] pos) (dCB r tl) :=
  ⟨(pe_callB hc hg hm hv ha.run hn hdb he hpl).of fun _ _ _ => lC_of⟩
theorem de_callTy {r : DRC} {T : String} {x : Str} {p : Pos} (hc : CallR X (.type T) (lC X.kk r)) (hg : Gl X x) (hm : X.mg x = none) (hv : bootBuiltins x = some (.type T)) (ha : DA X (e :: es) tl) (hn : x ≠ "__name__" := by decide) (hdb : (x == ("__debug__" : Str)) = false := by decide)
    (he : starEach (e :: es) X.env = (false, eval e X.env) :: starEach es X.env := by rfl) (hpl : (backTo pos (starEach es X.env)).any (·.1) = false := by rfl) : DE X (.Call (.Name x p) (e :: es) [] pos) (dCB r tl) :=
  ⟨(pe_callTy hc hg hm hv ha.run hn hdb he hpl).of fun _ _ _ => lC_of⟩
/-- a def's promise over data: n arguments -/
def lP (K : KK) (n : Nat) (r : DRC) : Sp := fun vs H Q _ => vs.length = n ∧ lC K r vs H Q
structure DFn (P : Program) (w : World) (K : PySem.W.Frag) (mg : Str → Option Value) (base : Heap) (k : Nat) (x : Str) (n : Nat) (r : DRC) : Prop where
  ex : ∃ (f : Addr) (fd : FuncData) (ps : List Str), FnG P w K mg base k f fd ps (lP ⟨P, w, K⟩ n r) ∧ mg x = some (.ref f) ∧ PySem.W.keepIn K (.ref f) = true ∧ Binds K fd ps []
def dCall (n : Nat) (r : DRC) (t : DTA) : DTE := dCB (fun ds S R => decide (ds.length = n) = true ∧ r ds S R) t
theorem de_call {k n : Nat} {r : DRC} {x : Str} {p : Pos} (F : DFn X.prog X.w X.K X.mg X.base k x n r) (hgd : X.A.guards = some []) (hr : Room k X.A) (hg : Gl X x) (ha : DA X (e :: es) tl) (hdb : (x == ("__debug__" : Str)) = false := by decide)
    (he : starEach (e :: es) X.env = (false, eval e X.env) :: starEach es X.env := by rfl) (hpl : (backTo pos (starEach es X.env)).any (·.1) = false := by rfl) : DE X (.Call (.Name x p) (e :: es) [] pos) (dCall n r tl) := by
  obtain ⟨f, fd, ps, F, hm, hk, hb⟩ := F.ex
  refine ⟨(pe_callG F hgd hr hg hm hk hb .nil (E := fun _ _ _ => False) pass0 ha.run hdb he hpl).of fun σ H Q h => ?_⟩
  obtain ⟨env, S, R, rs, h, k⟩ := lC_of h
  refine ⟨env, S, R, rs, h, fun ds S1 vs H1 q s1 r1 e1 => ?_⟩
  obtain ⟨ds', S', R', r', s', ⟨hl, q'⟩, k'⟩ := k ds S1 vs H1 q s1 r1 e1
  rw [List.append_nil]
  exact ⟨by rw [← r'.length]; exact of_decide_eq_true hl, ds', S', R', r', s', q', k'⟩
/-- the same of a def that makes no text (whatever runs around) -/
structure DFo (P : Program) (w : World) (K : PySem.W.Frag) (mg : Str → Option Value) (base : Heap) (k : Nat) (x : Str) (n : Nat) (r : DRC) : Prop where
  ex : ∃ (f : Addr) (fd : FuncData) (ps : List Str), FnOk P w K mg base CX0 k f fd ps (lP ⟨P, w, K⟩ n r) ∧ mg x = some (.ref f) ∧ PySem.W.keepIn K (.ref f) = true ∧ Binds K fd ps []
theorem de_callo {k n : Nat} {r : DRC} {x : Str} {p : Pos} (F : DFo X.prog X.w X.K X.mg X.base k x n r) (hr : Room k X.A) (hg : Gl X x) (ha : DA X (e :: es) tl) (hdb : (x == ("__debug__" : Str)) = false := by decide)
    (he : starEach (e :: es) X.env = (false, eval e X.env) :: starEach es X.env := by rfl) (hpl : (backTo pos (starEach es X.env)).any (·.1) = false := by rfl) : DE X (.Call (.Name x p) (e :: es) [] pos) (dCall n r tl) := by
  obtain ⟨f, fd, ps, F, hm, hk, hb⟩ := F.ex
  refine ⟨(pe_call F hr hg hm hk hb .nil (E := fun _ _ _ => False) pass0 ha.run hdb he hpl).of fun σ H Q h => ?_⟩
  obtain ⟨env, S, R, rs, h, k⟩ := lC_of h
  refine ⟨env, S, R, rs, h, fun ds S1 vs H1 q s1 r1 e1 => ?_⟩
  obtain ⟨ds', S', R', r', s', ⟨hl, q'⟩, k'⟩ := k ds S1 vs H1 q s1 r1 e1
  rw [List.append_nil]
  exact ⟨by rw [← r'.length]; exact of_decide_eq_true hl, ds', S', R', r', s', q', k'⟩
/-- .. of a def with a star: its values behind one another -/
structure DFs (P : Program) (w : World) (K : PySem.W.Frag) (mg : Str → Option Value) (base : Heap) (k : Nat) (x : Str) (r : DRC) : Prop where
  ex : ∃ f : Addr, FnR P w K mg base CX0 k f (fun vs H Q _ => lC ⟨P, w, K⟩ r vs H Q) ∧ mg x = some (.ref f) ∧ PySem.W.keepIn K (.ref f) = true
abbrev DRM := D → List D → Sto → DK → Prop
def lM (K : KK) (r : DRM) : V → List V → Hp → VK → Prop := fun x vs H Q => ∃ d ds S R, RD K H d x ∧ RDs K H ds vs ∧ RelS K S H ∧ r d ds S R ∧ ∀ z S' v H', R z S' → RelS K S' H' → RD K H' z v → Ext H H' → Q v H'
end
section
variable {X : Cx} {st : Stmt} {rest : List Stmt} {t u : DTS} {e : Expr} {te : DTE} {pos : Pos}
def dNext : DTS := fun C env S => C.nx env S
def dSeq (t u : DTS) : DTS := fun C env S => t { C with nx := u C } env S
theorem dss_nil : DSs X [] dNext := ⟨pss_nil.of fun σ H B ⟨env, S, C, rs, q, k, _⟩ => k _ _ _ _ q rs (.refl H)⟩
theorem lS_seq {K : KK} {σ : L2.St} {H : Hp} {B : Ends} (h : lS K (dSeq t u) B σ H) : tSeq (lS K t) (lS K u) B σ H := by
  obtain ⟨env, S, C, rs, h, k1, k2, k3, k4⟩ := h
  refine ⟨env, S, _, rs, h, fun env1 S1 σ1 H1 q r1 e1 => ⟨env1, S1, C, r1, q, ?_, ?_, ?_, ?_⟩, k2, k3, k4⟩
  · exact fun env2 S2 σ2 H2 q2 r2 e2 => k1 _ _ _ _ q2 r2 (e1.trans e2)
  · exact fun d S2 v H2 q2 s2 r2 e2 => k2 _ _ _ _ q2 s2 r2 (e1.trans e2)
  · exact fun env2 S2 σ2 H2 q2 r2 e2 => k3 _ _ _ _ q2 r2 (e1.trans e2)
  · exact fun env2 S2 σ2 H2 q2 r2 e2 => k4 _ _ _ _ q2 r2 (e1.trans e2)
theorem dss_cons (h1 : DS X st t) (h2 : DSs X rest u) : DSs X (st :: rest) (dSeq t u) := ⟨(pss_cons h1.run h2.run).of fun _ _ _ => lS_seq⟩
theorem dss_one (h1 : DS X st t) : DSs X [st] t := ⟨pss_one h1.run⟩
def dDrop (te : DTE) : DTS := fun C env S => te env S fun _ S1 => C.nx env S1
theorem ds_expr (he : DE X e te) (hs : swapsWith e none pos.line X.env = pure false := by rfl) : DS X (.Expr e pos) (dDrop te) :=
  ⟨(ps_expr he.run hs).of fun σ H B ⟨env, S, C, rs, h, k, _⟩ => ⟨env, S, _, rs, h, fun d S1 v H1 q s1 r1 e1 => k _ _ _ _ q (rs.ext e1 s1) e1⟩⟩
def dRet (te : DTE) : DTS := fun C env S => te env S C.rt
theorem ds_ret (he : DE X e te) : DS X (.Return (some e) pos) (dRet te) :=
  ⟨(ps_ret he.run).of fun σ H B ⟨env, S, C, rs, h, _, k, _⟩ => ⟨env, S, _, rs, h, fun d S1 v H1 q s1 r1 e1 => k _ _ _ _ q s1 r1 e1⟩⟩
/-- ways behind a first step -/
theorem lS_go {K : KK} {σ : L2.St} {H H1 : Hp} {B : Ends} {C : DEnds} {env : Env} {S1 : Sto} (rs : RS K σ H1 env S1) (e1 : Ext H H1) (q : t C env S1)
    (k : (∀ env' S' σ' H', C.nx env' S' → RS K σ' H' env' S' → Ext H H' → B.nx σ' H') ∧ (∀ d S' v H', C.rt d S' → RelS K S' H' → RD K H' d v → Ext H H' → B.rt v H') ∧
      (∀ env' S' σ' H', C.bk env' S' → RS K σ' H' env' S' → Ext H H' → B.bk σ' H') ∧ (∀ env' S' σ' H', C.ct env' S' → RS K σ' H' env' S' → Ext H H' → B.ct σ' H')) : lS K t B σ H1 :=
  ⟨env, S1, C, rs, q, fun _ _ _ _ q r e => k.1 _ _ _ _ q r (e1.trans e), fun _ _ _ _ q s r e => k.2.1 _ _ _ _ q s r (e1.trans e), fun _ _ _ _ q r e => k.2.2.1 _ _ _ _ q r (e1.trans e), fun _ _ _ _ q r e => k.2.2.2 _ _ _ _ q r (e1.trans e)⟩
def dIfS (c : DTT) (t u : DTS) : DTS := fun C env S => c env S fun b S1 => if b = true then t C env S1 else u C env S1
theorem ds_if {c : Expr} {a b : List Stmt} {tc : DTT} (hc : DT X c tc) (ha : DSs X a t) (hb : DSs X b u) : DS X (.If c a b pos) (dIfS tc t u) := by
  refine ⟨(ps_if hc.run ha.run hb.run).of fun σ H B ⟨env, S, C, rs, h, k⟩ => ⟨env, S, _, rs, h, fun c S1 H1 q s1 e1 => ?_⟩⟩
  cases c with
  | true => exact lS_go (rs.ext e1 s1) e1 q k
  | false => exact lS_go (rs.ext e1 s1) e1 q k
def RDw (K : KK) (b : Bool) (H : Hp) (d : D) (v : V) : Prop := RD K H d v ∨ (b = false ∧ ∃ a ds vs, d = .tup ds ∧ v = .ref a ∧ SqT K.k H a vs ∧ RDs K H ds vs)
abbrev DTG := D → Env → Sto → (Env → Sto → Prop) → Prop
abbrev DTGs := List D → Env → Sto → (Env → Sto → Prop) → Prop
def Off (vs : List Nat) (σ σ' : L2.St) : Prop := σ'.length = σ.length ∧ ∀ i, i ∉ vs → σ'[i]? = σ[i]?
theorem Off.refl (vs : List Nat) (σ : L2.St) : Off vs σ σ := ⟨rfl, fun _ _ => rfl⟩
theorem Off.trans {vs : List Nat} {σ σ1 σ2 : L2.St} (x : Off vs σ σ1) (y : Off vs σ1 σ2) : Off vs σ σ2 := ⟨y.1.trans x.1, fun i h => (y.2 i h).trans (x.2 i h)⟩
theorem Off.mono {vs us : List Nat} {σ σ' : L2.St} (x : Off vs σ σ') (h : ∀ i ∈ vs, i ∈ us) : Off us σ σ' := ⟨x.1, fun i hi => x.2 i fun z => hi (h i z)⟩
def lG (K : KK) (b : Bool) (vs : List Nat) (g : DTG) : TG := fun v σ H Q => ∃ d env S R, RDw K b H d v ∧ RS K σ H env S ∧ g d env S R ∧ ∀ env' S' σ' H', R env' S' → RS K σ' H' env' S' → Ext H H' → Off vs σ σ' → Q σ' H'
def lGs (K : KK) (vs : List Nat) (g : DTGs) : TGs := fun us σ H Q => ∃ ds env S R, RDs K H ds us ∧ RS K σ H env S ∧ g ds env S R ∧ ∀ env' S' σ' H', R env' S' → RS K σ' H' env' S' → Ext H H' → Off vs σ σ' → Q σ' H'
structure DG (X : Cx) (b : Bool) (vs : List Nat) (tg : Expr) (g : DTG) : Prop where
  run : PG X tg (lG X.kk b vs g)
structure DGs (X : Cx) (vs : List Nat) (ts : List Expr) (g : DTGs) : Prop where
  run : PGs X ts (lGs X.kk vs g)
theorem _root_.L2.PG.of {tg : Expr} {t t' : TG} (h : PG X tg t) (q : ∀ v σ H Q, t' v σ H Q → t v σ H Q) : PG X tg t' := ⟨fun pins s σ H v u Q I r w => h.run pins s σ H v u Q I r (q v σ H Q w)⟩
theorem _root_.L2.PG.or {tg : Expr} {t t' : TG} (h : PG X tg t) (h' : PG X tg t') : PG X tg (fun v σ H Q => t v σ H Q ∨ t' v σ H Q) := ⟨fun pins s σ H v u Q I r w => w.elim (h.run pins s σ H v u Q I r) (h'.run pins s σ H v u Q I r)⟩
theorem _root_.L2.PGs.of {ts : List Expr} {t t' : TGs} (h : PGs X ts t) (q : ∀ v σ H Q, t' v σ H Q → t v σ H Q) : PGs X ts t' := ⟨fun pins s σ H v u Q I r w => h.run pins s σ H v u Q I r (q v σ H Q w)⟩
def dgName (i : Nat) : DTG := fun d env S R => R (env.set i (some d)) S
theorem dg_name {i : Nat} {x : Str} (hN : X.N.Nodup) (hi : X.N[i]? = some x) (hx : Loc X.env.scope x) (hf : X.fn x = true ∨ X.env.scope.names.lookup x = some .local := by first | exact .inl rfl | exact .inr rfl | assumption) : DG X true [i] (.Name x pos) (dgName i) := by
  refine ⟨(pg_name hN hi hx hf).of fun v σ H Q ⟨d, env, S, R, rw', rs, q, k⟩ => ?_⟩
  rcases rw' with r | ⟨z, _⟩
  · exact k _ _ _ _ q (rs.set i r) (.refl H) ⟨List.length_set, fun j hj => List.getElem?_set_ne fun z => hj (by rw [z]; exact List.mem_singleton_self _)⟩
  · cases z
def dgNil : DTGs := fun ds env S R => ds = [] ∧ R env S
def dgCons (g : DTG) (gs : DTGs) : DTGs := fun ds env S R => ∃ d r, ds = d :: r ∧ g d env S fun env' S' => gs r env' S' R
theorem dgs_nil : DGs X [] [] dgNil := ⟨pgs_nil.of fun us σ H Q ⟨ds, env, S, R, r, rs, ⟨e, q⟩, k⟩ => by
  subst e
  cases r
  exact ⟨rfl, k _ _ _ _ q rs (.refl H) (.refl _ _)⟩⟩
theorem dgs_cons {e : Expr} {es : List Expr} {vs us : List Nat} {g : DTG} {gs : DTGs} (h1 : DG X true vs e g) (h2 : DGs X us es gs)
    (hs : (assignEach (e :: es) X.env).map (·.2) = assign e X.env :: (assignEach es X.env).map (·.2) := by rfl) : DGs X (vs ++ us) (e :: es) (dgCons g gs) := by
  refine ⟨(pgs_cons h1.run h2.run hs).of fun ws σ H Q ⟨ds, env, S, R, r, rs, ⟨d, r', e, q⟩, k⟩ => ?_⟩
  subst e
  cases r with
  | cons r1 rr =>
    refine ⟨_, _, rfl, d, env, S, _, .inl r1, rs, q, fun env1 S1 σ1 H1 q1 rs1 e1 o1 => ⟨r', env1, S1, R, rr.ext e1, rs1, q1, fun env2 S2 σ2 H2 q2 rs2 e2 o2 => ?_⟩⟩
    exact k _ _ _ _ q2 rs2 (e1.trans e2) ((o1.mono fun i h => List.mem_append_left _ h).trans (o2.mono fun i h => List.mem_append_right _ h))
/-- the items of a tuple or of a list -/
def dUnp (n : Nat) (gs : DTGs) : DTG := fun d env S R => ∃ ds, ds.length = n ∧ ((d = .tup ds ∨ d = .wtup ds) ∨ ∃ a, d = .ref a ∧ S a = some (.lst ds)) ∧ gs ds env S R
theorem dg_tup {es : List Expr} {k n : Nat} {b : Bool} {vs : List Nat} {gs : DTGs} (hc : X.calm = true) (h : DGs X vs es gs)
    (hn : (assignEach es X.env).length = n := by rfl) (hst : (assignEach es X.env).findIdx? (·.1) = none := by rfl) : DG X b vs (.Tuple es k pos) (dUnp n gs) := by
  refine ⟨((pg_tup hc h.run hn hst).or (pg_unl hc h.run hn hst)).of fun v σ H Q ⟨d, env, S, R, r, rs, ⟨ds, hl, e, q⟩, k⟩ => ?_⟩
  rcases e with (rfl | rfl) | ⟨a, rfl, e⟩
  · rcases r with r | ⟨_, a, ds', vs', z, rfl, ht, r⟩
    · cases r with
      | tup ht r => exact .inl ⟨_, _, rfl, ht.sqT, r.length.symm.trans hl, ds, env, S, R, r, rs, q, k⟩
    · cases z
      exact .inl ⟨a, vs', rfl, ht, r.length.symm.trans hl, ds, env, S, R, r, rs, q, k⟩
  · rcases r with r | ⟨_, a, ds', vs', z, rfl, ht, r⟩
    · cases r with
      | wtup ht r => exact .inl ⟨_, _, rfl, .of ht, r.length.symm.trans hl, ds, env, S, R, r, rs, q, k⟩
    · cases z
  · rcases r with r | ⟨_, a, ds', vs', z, rfl, ht, r⟩
    · cases r
      obtain ⟨vs', h1, r⟩ := rs.sto.lst e
      exact .inr ⟨_, _, rfl, .of h1, r.length.symm.trans hl, ds, env, S, R, r, rs, q, k⟩
    · cases z
/-- target = e -/
def dAsg (te : DTE) (g : DTG) : DTS := fun C env S => te env S fun d S1 => g d env S1 C.nx
theorem lS_asg {K : KK} {b : Bool} {vs : List Nat} {g : DTG} {σ : L2.St} {H : Hp} {B : Ends} (h : lS K (dAsg te g) B σ H) : tAsg (lE K te) (lG K b vs g) B σ H := by
  obtain ⟨env, S, C, rs, h, k, _⟩ := h
  exact ⟨env, S, _, rs, h, fun d S1 v H1 q s1 r1 e1 => ⟨d, env, S1, C.nx, .inl r1, rs.ext e1 s1, q, fun _ _ _ _ q r e _ => k _ _ _ _ q r (e1.trans e)⟩⟩
theorem ds_asg {tg : Expr} {b : Bool} {vs : List Nat} {g : DTG} (he : DE X e te) (hg : DG X b vs tg g) (hs : swapsWithSole [tg] e pos.line X.env = pure false := by rfl) (hw : swappedStores [tg] e X.env = pure none := by rfl)
    (h1 : (assignEach [tg] X.env).map (·.2) = [assign tg X.env] := by rfl) : DS X (.Assign [tg] e pos) (dAsg te g) := ⟨(ps_asg he.run hg.run hs hw h1).of fun _ _ _ => lS_asg⟩
theorem ds_set {i : Nat} {x : Str} {pos' : Pos} (hN : X.N.Nodup) (hi : X.N[i]? = some x) (hx : Loc X.env.scope x) (he : DE X e te) (hs : swapsWith e (some (.Name x pos')) pos.line X.env = pure false := by rfl) (hf : X.fn x = true ∨ X.env.scope.names.lookup x = some .local := by first | exact .inl rfl | exact .inr rfl | assumption) :
    DS X (.Assign [.Name x pos'] e pos) (dAsg te (dgName i)) :=
  ⟨(ps_set hN hi hx he.run hs hf).of fun σ H B ⟨env, S, C, rs, h, k, _⟩ => ⟨env, S, _, rs, h, fun d S1 v H1 q s1 r1 e1 => k _ _ _ _ q ((rs.ext e1 s1).set i r1) e1⟩⟩
/-- two local names at once -/
theorem ds_par {i j : Nat} {x y : Str} {a b : Expr} {ta : DTA} {px py pt : Pos} {kt k2 pt2} (hc : X.calm = true) (hN : X.N.Nodup) (hi : X.N[i]? = some x) (hj : X.N[j]? = some y) (hij : i ≠ j)
    (hx : X.env.scope.names.lookup x = some .local) (hy : X.env.scope.names.lookup y = some .local) (ha : DA X [a, b] ta)
    (hw : swappedStores [.Tuple [.Name x px, .Name y py] kt pt] (.Tuple [a, b] k2 pt2) X.env = pure (some [x, y]))
    (hs : swapsWithSole [.Tuple [.Name x px, .Name y py] kt pt] (.Tuple [a, b] k2 pt2) pos.line X.env = pure false := by rfl) :
    DS X (.Assign [.Tuple [.Name x px, .Name y py] kt pt] (.Tuple [a, b] k2 pt2) pos) (dAsg (dTup ta) (dUnp 2 (dgCons (dgName i) (dgCons (dgName j) dgNil)))) := by
  refine ⟨(ps_par hc hN hi hj hij hx hy ha.run hw hs).of fun σ H B ⟨env, S, C, rs, h, k, _⟩ => ⟨env, S, _, rs, h, fun ds S1 vs H1 ⟨_, ds', hl, hd, q⟩ s1 r1 e1 => ?_⟩⟩
  have hdd : ds = ds' := by
    rcases hd with (z | z) | ⟨a, z, _⟩
    · cases z; rfl
    · cases z
    · cases z
  subst hdd
  obtain ⟨d1, r', rfl, d2, r'', rfl, rfl, q⟩ := q
  obtain ⟨v, u, rfl, rv, ru⟩ := r1.inv2
  exact ⟨v, u, rfl, k _ _ _ _ q (((rs.ext e1 s1).set i rv).set j ru) e1⟩
end
section
variable {X : Cx} {pos : Pos}
def dWhile (c : DTT) (tb : DTS) : DTS := fun C env S => ∃ W : Nat → Env → Sto → Prop, (∃ m, W m env S) ∧ ∀ m env S, W m env S →
  c env S fun b S1 => if b = true then tb { C with nx := fun env' S' => ∃ m', m' < m ∧ W m' env' S', ct := fun env' S' => ∃ m', m' < m ∧ W m' env' S', bk := C.nx } env S1 else C.nx env S1
theorem ds_while {c : Expr} {body : List Stmt} {tc : DTT} {tb : DTS} (hp : PassesOwn (model X.prog X.w) X.A X.env X.xe) (hc : DT X c tc) (hb : DSs X body tb) : DS X (.While c body [] pos) (dWhile tc tb) := by
  refine ⟨(ps_while hp hc.run hb.run).of fun σ H B ⟨env, S, C, rs, ⟨W, ⟨m0, w0⟩, turn⟩, k1, k2, _⟩ => ?_⟩
  refine ⟨fun m σ' H' => ∃ env' S', RS X.kk σ' H' env' S' ∧ Ext H H' ∧ W m env' S', ⟨m0, env, S, rs, .refl H, w0⟩, ?_⟩
  rintro m σ1 H1 ⟨env1, S1, rs1, e1, w1⟩
  refine ⟨env1, S1, _, rs1, turn m env1 S1 w1, fun b S2 H2 q s2 e2 => ?_⟩
  cases b with
  | false => exact k1 _ _ _ _ q (rs1.ext e2 s2) (e1.trans e2)
  | true =>
    refine ⟨fun σ' H' => ∃ m', m' < m ∧ ∃ env' S', RS X.kk σ' H' env' S' ∧ Ext H H' ∧ W m' env' S', fun σ' H' h => h, env1, S2, _, rs1.ext e2 s2, q, ?_, ?_, ?_, ?_⟩
    · rintro env' S' σ' H' ⟨m', hm, w'⟩ rs' e'
      exact ⟨m', hm, env', S', rs', e1.trans (e2.trans e'), w'⟩
    · exact fun d S' v H' q' s' r' e' => k2 _ _ _ _ q' s' r' (e1.trans (e2.trans e'))
    · exact fun env' S' σ' H' q' r' e' => k1 _ _ _ _ q' r' (e1.trans (e2.trans e'))
    · rintro env' S' σ' H' ⟨m', hm, w'⟩ rs' e'
      exact ⟨m', hm, env', S', rs', e1.trans (e2.trans e'), w'⟩
/-- what is walked: its items, and what must hold of the store at each turn -/
structure Src where
  items : List D
  live : Sto → Prop := fun _ => True
abbrev DTI := Env → Sto → (Src → Sto → Prop) → Prop
structure Steps (K : KK) (b : Bool) (H0 : Hp) (J : It) (w : Src) : Prop where
  ex : ∃ (G : Hp → Prop) (Y : Nat → Hp → V → Hp → Prop), Walk J w.items.length G Y ∧ (∀ H S, Ext H0 H → RelS K S H → w.live S → G H) ∧
    ∀ i H x H', Ext H0 H → Y i H x H' → Ext H H' ∧ (∀ S, RelS K S H → RelS K S H') ∧ ∃ d, w.items[i]? = some d ∧ RDw K b H' d x
def lI (K : KK) (b : Bool) (t : DTI) : TI := fun σ H R => ∃ env S R0, RS K σ H env S ∧ t env S R0 ∧ ∀ w S' J H', R0 w S' → RelS K S' H' → Ext H H' → Steps K b H' J w → R J H'
structure DI (X : Cx) (b : Bool) (tg e : Expr) (t : DTI) : Prop where
  run : PI X tg e (lI X.kk b t)
theorem _root_.L2.PI.of {tg e : Expr} {t t' : TI} (h : PI X tg e t) (q : ∀ σ H R, t' σ H R → t σ H R) : PI X tg e t' := ⟨fun pins s σ H R I w => h.run pins s σ H R I (q σ H R w)⟩
theorem _root_.L2.PI.or {tg e : Expr} {t t' : TI} (h : PI X tg e t) (h' : PI X tg e t') : PI X tg e (fun σ H R => t σ H R ∨ t' σ H R) := ⟨fun pins s σ H R I w => w.elim (h.run pins s σ H R I) (h'.run pins s σ H R I)⟩
def dFor (ti : DTI) (g : DTG) (tb : DTS) : DTS := fun C env S => ti env S fun w S1 => ∃ Pv : Nat → Env → Sto → Prop, Pv 0 env S1 ∧ (∀ i env S, i ≤ w.items.length → Pv i env S → w.live S) ∧
  (∀ i d env S, w.items[i]? = some d → Pv i env S → g d env S fun env' S' => tb { C with nx := Pv (i + 1), ct := Pv (i + 1), bk := C.nx } env' S') ∧ ∀ env S, Pv w.items.length env S → C.nx env S
theorem ds_for {tg iter : Expr} {b : Bool} {vs : List Nat} {body : List Stmt} {ti : DTI} {g : DTG} {tb : DTS} (hp : PassesOwn (model X.prog X.w) X.A X.env X.xe) (hc : X.calm = true) (hi : DI X b tg iter ti) (hg : DG X b vs tg g) (hb : DSs X body tb)
    (hs : ∀ x, foldedSetIterable iter X.env x = pure x := by intro _; rfl) : DS X (.For tg iter body [] pos) (dFor ti g tb) := by
  refine ⟨(ps_for hp hc hi.run hg.run hb.run hs).of fun σ H B ⟨env, S, C, rs, h, k1, k2, _⟩ => ⟨env, S, _, rs, h, fun w S1 J H1 ⟨Pv, p0, lv, step, done⟩ s1 e1 st => ?_⟩⟩
  obtain ⟨G, Y, wk, hG, hY⟩ := st.ex
  refine for_it wk (fun i σ' H' => ∃ env' S', RS X.kk σ' H' env' S' ∧ Ext H1 H' ∧ Pv i env' S') ⟨env, S1, rs.ext e1 s1, .refl H1, p0⟩ (fun i σ' H' hi ⟨env', S', rs', e', p'⟩ => hG H' S' e' rs'.sto (lv i env' S' hi p')) ?_ ?_
  · rintro i x σ2 H2 H3 hi ⟨env2, S2, rs2, e2, p2⟩ y
    obtain ⟨e3, hS, d, hd, rd⟩ := hY i H2 x H3 e2 y
    refine ⟨d, env2, S2, _, rd, rs2.ext e3 (hS S2 rs2.sto), step i d env2 S2 hd p2, fun env4 S4 σ4 H4 q4 rs4 e4 _ => ⟨env4, S4, _, rs4, q4, ?_, ?_, ?_, ?_⟩⟩
    · exact fun env' S' σ' H' q' rs' e' => ⟨env', S', rs', e2.trans (e3.trans (e4.trans e')), q'⟩
    · exact fun d S' v H' q' s' r' e' => k2 _ _ _ _ q' s' r' (e1.trans (e2.trans (e3.trans (e4.trans e'))))
    · exact fun env' S' σ' H' q' rs' e' => k1 _ _ _ _ q' rs' (e1.trans (e2.trans (e3.trans (e4.trans e'))))
    · exact fun env' S' σ' H' q' rs' e' => ⟨env', S', rs', e2.trans (e3.trans (e4.trans e')), q'⟩
  · rintro σ2 H2 ⟨env2, S2, rs2, e2, p2⟩
    exact k1 _ _ _ _ (done env2 S2 p2) rs2 (e1.trans e2)
end
end Sv
namespace Sv
open PySem PySem.Spec PyProof.Rows L2
section
variable {X : Cx} {tg e : Expr} {te : DTE} {pos p : Pos}
/-- a tuple or a list, as it comes -/
def iVal (K : PySem.W.Frag) (tl : TE) : TI := fun σ H R => tl σ H fun x H1 => ∃ a, x = .ref a ∧ (((∃ xs, SqL K H1 a xs) ∧ R (Itl K a) H1) ∨ ((∃ xs, SqT K H1 a xs) ∧ R (Itt K a) H1))
theorem pi_val {l : Expr} {tl : TE} (hl : PE X l tl) : PI X tg l (iVal X.K tl) := by
  refine ⟨fun pins s σ H R I h => ?_⟩
  refine thn (hl.run pins s σ H _ I h) fun v s1 ⟨x, H1, I1, r1, q1⟩ => ?_
  obtain ⟨a, e, q⟩ := q1
  subst e
  cases r1
  rcases q with ⟨⟨xs, hq⟩, q⟩ | ⟨⟨xs, hq⟩, q⟩
  · obtain ⟨its, rv, p, hz⟩ := I1.list hq
    refine wpAny_pyIter_list p.isList ?_
    refine ⟨s1.heap.objs.size, [s1.heap.objs.size], _, _, H1, rfl, I1.kept (t' := s1.toks) fun b o e => Heap.get?_push_of_some _ e, turn_list a _, ⟨_, Heap.get?_push_size _ rfl, rfl, rfl⟩, fun b hb => ?_, q⟩
    have e : b = s1.heap.objs.size := by simpa using hb
    subst e
    exact I1.fpOk (Nat.le_refl _) (I1.hok.fresh (Nat.le_refl _))
  · obtain ⟨its, rv, p, hz⟩ := I1.tuple hq
    refine wpAny_pyIter_tuple (show s1.heap.IsTuple a its.toArray from p) ?_
    refine ⟨s1.heap.objs.size, [s1.heap.objs.size], _, _, H1, rfl, I1.kept (t' := s1.toks) fun b o e => Heap.get?_push_of_some _ e, turn_tuple a _, ⟨_, Heap.get?_push_size _ rfl, rfl, rfl⟩, fun b hb => ?_, q⟩
    have e : b = s1.heap.objs.size := by simpa using hb
    subst e
    exact I1.fpOk (Nat.le_refl _) (I1.hok.fresh (Nat.le_refl _))
/-- the items of a value, with what must stay -/
def Items (S : Sto) (d : D) (w : Src) : Prop := match d with
  | .tup ds => w = ⟨ds, fun _ => True⟩
  | .rol ds => w = ⟨ds, fun _ => True⟩
  | .wtup ds => w = ⟨ds, fun _ => True⟩
  | .ref a => ∃ ds, S a = some (.lst ds) ∧ w = ⟨ds, fun S' => S' a = some (.lst ds)⟩
  | _ => False
def diVal (te : DTE) : DTI := fun env S R => te env S fun d S1 => ∃ w, Items S1 d w ∧ R w S1
theorem steps_list {K : KK} {H0 : Hp} {a : Addr} {ds : List D} {lv : Sto → Prop} (h : ∀ H S, Ext H0 H → RelS K S H → lv S → ∃ vs, SqL K.k H a vs ∧ RDs K H ds vs) : Steps K true H0 (Itl K.k a) ⟨ds, lv⟩ := by
  refine ⟨fun H => ∃ vs, SqL K.k H a vs ∧ RDs K H ds vs, fun i H x H' => H' = H ∧ ∃ vs, RDs K H ds vs ∧ vs[i]? = some x, ⟨fun i H hi ⟨vs, h1, r⟩ => ?_, fun H ⟨vs, h1, r⟩ => ⟨vs, h1, by rw [← r.length]; exact Nat.le_refl _⟩, fun i H x H' hi ⟨vs, h1, r⟩ y => ⟨y.1, vs, r, y.2 vs h1⟩⟩, h, ?_⟩
  · have : i < vs.length := by rw [← r.length]; exact hi
    exact ⟨vs, vs[i], h1, by simp [this]⟩
  · rintro i H x H' e ⟨rfl, vs, r, hx⟩
    obtain ⟨d, h1, h2⟩ := r.atv hx
    exact ⟨.refl _, fun S s => s, d, h1, .inl h2⟩
theorem steps_tup {K : KK} {H0 : Hp} {a : Addr} {ds : List D} {vs : List V} (h : ∀ H, Ext H0 H → SqT K.k H a vs) (r : RDs K H0 ds vs) : Steps K true H0 (Itt K.k a) ⟨ds, fun _ => True⟩ := by
  refine ⟨fun H => SqT K.k H a vs, fun i H x H' => H' = H ∧ vs[i]? = some x, ?_, fun H S e _ _ => h H e, ?_⟩
  · have w := walk_tup (K := K.k) (a := a) (xs := vs)
    rw [← r.length] at w
    exact w
  · rintro i H x H' e ⟨rfl, hx⟩
    obtain ⟨d, h1, h2⟩ := (r.ext e).atv hx
    exact ⟨.refl _, fun S s => s, d, h1, .inl h2⟩
theorem di_val (he : DE X e te) : DI X true tg e (diVal te) := by
  refine ⟨(pi_val he.run).of fun σ H R ⟨env, S, R0, rs, h, k⟩ => ⟨env, S, _, rs, h, fun d S1 v H1 ⟨w, hw, q⟩ s1 r1 e1 => ?_⟩⟩
  cases r1 with
  | tup ht r =>
    cases (show w = ⟨_, _⟩ from hw)
    exact ⟨_, rfl, .inr ⟨⟨_, ht.sqT⟩, k _ _ _ _ q s1 e1 (steps_tup (fun H e => (ht.ext e).sqT) r)⟩⟩
  | wtup ht r =>
    cases (show w = ⟨_, _⟩ from hw)
    exact ⟨_, rfl, .inr ⟨⟨_, .of ht⟩, k _ _ _ _ q s1 e1 (steps_tup (fun H e => .of (e.2 _ _ ht)) r)⟩⟩
  | rol ht r =>
    cases (show w = ⟨_, _⟩ from hw)
    exact ⟨_, rfl, .inl ⟨⟨_, ht.sqL⟩, k _ _ _ _ q s1 e1 (steps_list fun H S e _ _ => ⟨_, (ht.ext e).sqL, r.ext e⟩)⟩⟩
  | ref a =>
    obtain ⟨ds, hs, rfl⟩ := hw
    obtain ⟨vs, h1, r⟩ := s1.lst hs
    refine ⟨_, rfl, .inl ⟨⟨_, .of h1⟩, k _ _ _ _ q s1 e1 (steps_list fun H S e s l => ?_)⟩⟩
    obtain ⟨vs', h2, r'⟩ := s.lst l
    exact ⟨vs', .of h2, r'⟩
  | _ => exact hw.elim
/-- range -/
def rgD (lo : Int) (n : Nat) : List D := (List.range n).map fun i => .int (lo + (i : Nat))
theorem steps_range {K : KK} {H0 : Hp} {lo : Int} {n : Nat} : Steps K true H0 (Itr lo n) ⟨rgD lo n, fun _ => True⟩ := by
  refine ⟨fun _ => True, fun i H x H' => i < n ∧ H' = H ∧ x = .int (lo + i), ?_, fun _ _ _ _ _ => trivial, ?_⟩
  · have w := walk_range (lo := lo) (n := n)
    have : (rgD lo n).length = n := by simp [rgD]
    rw [this]
    exact ⟨w.goes, w.stops, fun i H x H' hi g y => ⟨hi, w.yields i H x H' hi g y⟩⟩
  · rintro i H x H' e ⟨hi, rfl, rfl⟩
    refine ⟨.refl _, fun S s => s, .int (lo + i), ?_, .inl (.int _)⟩
    show (rgD lo n)[i]? = _
    rw [rgD, List.getElem?_map, List.getElem?_range hi]
    rfl
def diRg1 (ta : DTA) : DTI := fun env S R => ta env S fun ds S1 => ∃ n : Int, ds = [.int n] ∧ -(2 ^ 62) ≤ n ∧ n < 2 ^ 62 ∧ R ⟨rgD 0 n.toNat, fun _ => True⟩ S1
theorem di_rg1 {ta : DTA} (hg : Gl X "range") (hm : X.mg "range" = none) (ha : DA X [e] ta) (hs : starEach [e] X.env = [(false, eval e X.env)] := by rfl) : DI X true tg (.Call (.Name "range" p) [e] [] pos) (diRg1 ta) := by
  refine ⟨(pi_range1 hg hm ha.run hs).of fun σ H R ⟨env, S, R0, rs, h, k⟩ => ⟨env, S, _, rs, h, fun ds S1 vs H1 q s1 r1 e1 => ?_⟩⟩
  obtain ⟨n, rfl, h1, h2, q⟩ := q
  obtain ⟨v, rfl, r⟩ := r1.inv1
  cases r
  exact ⟨n, rfl, h1, h2, k _ _ _ _ q s1 e1 steps_range⟩
theorem rdw_pair {K : KK} {H : Hp} {T : Addr} {d e : D} {x y : V} (n : H T = none) (r1 : RD K H d x) (r2 : RD K H e y) : RDw K false (upd H T (.tup [x, y])) (.tup [d, e]) (.ref T) :=
  .inr ⟨rfl, T, [d, e], [x, y], rfl, rfl, .of upd_same, .cons (r1.ext (.new n)) (.cons (r2.ext (.new n)) .nil)⟩
theorem steps_pair {K : KK} {H0 : Hp} {J : It} {n : Nat} {G : Hp → Prop} {xs ys : Nat → Option V} {ps : List D} {lv : Sto → Prop} (w : Walk J n G (YPair xs ys)) (hn : ps.length = n) (hG : ∀ H S, Ext H0 H → RelS K S H → lv S → G H)
    (hp : ∀ i H x y, i < n → Ext H0 H → G H → xs i = some x → ys i = some y → ∃ d e, ps[i]? = some (.tup [d, e]) ∧ RD K H d x ∧ RD K H e y) : Steps K false H0 J ⟨ps, lv⟩ := by
  subst hn
  refine ⟨G, fun i H x H' => i < ps.length ∧ G H ∧ YPair xs ys i H x H', ⟨w.goes, w.stops, fun i H x H' hi g y => ⟨hi, g, w.yields i H x H' hi g y⟩⟩, hG, ?_⟩
  rintro i H v H' e ⟨hi, g, T, x, y, rfl, nT, rfl, hx, hy⟩
  obtain ⟨d, d', h1, h2, h3⟩ := hp i H x y hi e g hx hy
  exact ⟨.new nT, fun S s => s.new nT, _, h1, rdw_pair nT h2 h3⟩
def enD (ds : List D) : List D := ds.mapIdx fun i d => .tup [.int (i : Nat), d]
theorem enD_at {ds : List D} {i : Nat} {d : D} (h : ds[i]? = some d) : (enD ds)[i]? = some (.tup [.int (i : Nat), d]) := by
  rw [enD, List.getElem?_mapIdx, h]
  rfl
theorem enD_len (ds : List D) : (enD ds).length = ds.length := by simp [enD]
/-- enumerate of a tuple or a list -/
def iEnumA (K : PySem.W.Frag) (ta : TA) : TI := fun σ H R => ta σ H fun vs H1 => ∃ a xs, vs = [.ref a] ∧ ((SqL K H1 a xs ∧ R (Ite K a) H1) ∨ (SqT K H1 a xs ∧ R (Itte K a xs) H1))
theorem pi_enumA {ta : TA} {elts : List Expr} {kk : Nat} {tpos : Pos} (hg : Gl X "enumerate") (hm : X.mg "enumerate" = none) (ha : PA X [e] ta)
    (hs : starEach [e] X.env = [(false, eval e X.env)] := by rfl) : PI X (.Tuple elts kk tpos) (.Call (.Name "enumerate" p) [e] [] pos) (iEnumA X.K ta) := by
  refine ⟨fun pins s σ H R I h => ?_⟩
  refine Call_ (ld_blt I hg hm boot_enumerate (PyProof.Rows.callWith_type1 (thn (ha.run pos pins s σ H _ I h) fun us s1 ⟨vs, H1, I1, r1, q1⟩ => ?_) hs rfl))
  obtain ⟨a, xs, rfl, q⟩ := q1
  obtain ⟨u, rfl, ru⟩ := vals1 r1
  cases ru
  rcases q with ⟨hq, q⟩ | ⟨hq, q⟩
  · obtain ⟨its, rv, p', hz⟩ := I1.list hq
    refine call_enumerate_list p'.isList fun h' he hit hsz hk => wpAny_pyIter_enum he ?_
    have I2 : Inv X pins σ H1 { s1 with heap := h' } := I1.kept (t' := s1.toks) hk
    refine ⟨s1.heap.objs.size + 1, [s1.heap.objs.size + 1, s1.heap.objs.size], _, _, H1, rfl, I2, turn_enum a (s1.heap.objs.size + 1) s1.heap.objs.size, ⟨⟨.none, he⟩, hit, Nat.succ_ne_self _⟩, fun b hb => ?_, q⟩
    have hle : s1.heap.objs.size ≤ b := by
      rcases (show b = s1.heap.objs.size + 1 ∨ b = s1.heap.objs.size by simpa using hb) with rfl | rfl
      · exact Nat.le_succ _
      · exact Nat.le_refl _
    exact I1.fpOk hle (I1.hok.fresh hle)
  · obtain ⟨its, rv, p', hz⟩ := I1.tuple hq
    have hal : a < s1.heap.objs.size := by
      obtain ⟨o, ho, _⟩ := id p'
      exact Heap.lt_size ho
    refine sv_enum_call (begins_tuple a its.toArray) p' fun h' he hit hk => wpAny_pyIter_enum he ?_
    have I2 : Inv X pins σ H1 { s1 with heap := h' } := I1.kept (t' := s1.toks) hk
    refine ⟨s1.heap.objs.size + 1, [s1.heap.objs.size + 1, s1.heap.objs.size], _, _, H1, rfl, I2, turn_etup a (s1.heap.objs.size + 1) s1.heap.objs.size xs,
      ⟨⟨.none, he⟩, ⟨_, hit, rfl, rfl⟩, Nat.succ_ne_self _, Nat.ne_of_lt hal, Nat.ne_of_lt (Nat.lt_succ_of_lt hal)⟩, fun b hb => ?_, q⟩
    have hle : s1.heap.objs.size ≤ b := by
      rcases (show b = s1.heap.objs.size + 1 ∨ b = s1.heap.objs.size by simpa using hb) with rfl | rfl
      · exact Nat.le_succ _
      · exact Nat.le_refl _
    exact I1.fpOk hle (I1.hok.fresh hle)
theorem walk_etup' {K : PySem.W.Frag} {a : Addr} {xs : List V} : Walk (Itte K a xs) xs.length (fun H => SqT K H a xs) (YPair (fun i => some (.int (i : Nat))) (fun i => xs[i]?)) :=
  ⟨fun _ _ hi q => ⟨q, hi⟩, fun _ q => ⟨q, rfl⟩, fun i H v H' _ q y => by
    obtain ⟨T, x, h1, h2, h3, h4⟩ := y
    exact ⟨T, .int (i : Nat), x, h1, h2, h3, rfl, h4⟩⟩
theorem steps_enumL {K : KK} {H0 : Hp} {a : Addr} {ds : List D} {lv : Sto → Prop} (h : ∀ H S, Ext H0 H → RelS K S H → lv S → ∃ vs, SqL K.k H a vs ∧ RDs K H ds vs) : Steps K false H0 (Ite K.k a) ⟨enD ds, lv⟩ := by
  refine ⟨fun H => ∃ vs, SqL K.k H a vs ∧ RDs K H ds vs, fun i H v H' => ∃ T x vs, v = .ref T ∧ H T = none ∧ H' = upd H T (.tup [.int (i : Nat), x]) ∧ RDs K H ds vs ∧ vs[i]? = some x, ⟨fun i H hi ⟨vs, h1, r⟩ => ?_, fun H ⟨vs, h1, r⟩ => ⟨vs, h1, ?_⟩, fun i H v H' hi ⟨vs, h1, r⟩ y => ?_⟩, h, ?_⟩
  · have : i < vs.length := by rw [← r.length, ← enD_len]; exact hi
    exact ⟨vs, vs[i], h1, by simp [this]⟩
  · show vs.length ≤ (enD ds).length
    rw [← r.length, enD_len]
    exact Nat.le_refl _
  · obtain ⟨T, x, h2, h3, h4, h5⟩ := y
    exact ⟨T, x, vs, h2, h3, h4, r, h5 vs h1⟩
  · rintro i H v H' e ⟨T, x, vs, rfl, nT, rfl, r, hx⟩
    obtain ⟨d, h1, h2⟩ := r.atv hx
    exact ⟨.new nT, fun S s => s.new nT, _, enD_at h1, rdw_pair nT (.int _) h2⟩
def diEnum (ta : DTA) : DTI := fun env S R => ta env S fun ds S1 => ∃ d w, ds = [d] ∧ Items S1 d w ∧ R ⟨enD w.items, w.live⟩ S1
theorem di_enum {ta : DTA} {elts : List Expr} {kk : Nat} {tpos : Pos} (hg : Gl X "enumerate") (hm : X.mg "enumerate" = none) (ha : DA X [e] ta) (hs : starEach [e] X.env = [(false, eval e X.env)] := by rfl) :
    DI X false (.Tuple elts kk tpos) (.Call (.Name "enumerate" p) [e] [] pos) (diEnum ta) := by
  refine ⟨(pi_enumA hg hm ha.run hs).of fun σ H R ⟨env, S, R0, rs, h, k⟩ => ⟨env, S, _, rs, h, fun ds S1 vs H1 ⟨d, w, hd, hw, q⟩ s1 r1 e1 => ?_⟩⟩
  subst hd
  obtain ⟨v, rfl, r⟩ := r1.inv1
  cases r with
  | tup ht r =>
    cases (show w = ⟨_, _⟩ from hw)
    refine ⟨_, _, rfl, .inr ⟨ht.sqT, k _ _ _ _ q s1 e1 (steps_pair walk_etup' (by rw [enD_len, r.length]) (fun H S e _ _ => (ht.ext e).sqT) fun i H x y hi e g hx hy => ?_)⟩⟩
    cases hx
    obtain ⟨d, h1, h2⟩ := (r.ext e).atv hy
    exact ⟨_, _, enD_at h1, .int _, h2⟩
  | wtup ht r =>
    cases (show w = ⟨_, _⟩ from hw)
    refine ⟨_, _, rfl, .inr ⟨.of ht, k _ _ _ _ q s1 e1 (steps_pair walk_etup' (by rw [enD_len, r.length]) (fun H S e _ _ => .of (e.2 _ _ ht)) fun i H x y hi e g hx hy => ?_)⟩⟩
    cases hx
    obtain ⟨d, h1, h2⟩ := (r.ext e).atv hy
    exact ⟨_, _, enD_at h1, .int _, h2⟩
  | rol ht r =>
    cases (show w = ⟨_, _⟩ from hw)
    refine ⟨_, _, rfl, .inl ⟨ht.sqL, k _ _ _ _ q s1 e1 (steps_pair walk_enum (by rw [enD_len, r.length]) (fun H S e _ _ => (ht.ext e).sqL) fun i H x y hi e g hx hy => ?_)⟩⟩
    cases hx
    obtain ⟨d, h1, h2⟩ := (r.ext e).atv hy
    exact ⟨_, _, enD_at h1, .int _, h2⟩
  | ref a =>
    obtain ⟨ds, hs', rfl⟩ := hw
    obtain ⟨vs, h1, r⟩ := s1.lst hs'
    refine ⟨_, _, rfl, .inl ⟨.of h1, k _ _ _ _ q s1 e1 (steps_enumL fun H S e s l => ?_)⟩⟩
    obtain ⟨vs', h2, r'⟩ := s.lst l
    exact ⟨vs', .of h2, r'⟩
  | _ => exact hw.elim
end
end Sv
namespace Sv
open PySem PySem.Spec PyProof.Rows L2
theorem wipe_in {σ : L2.St} {i : Nat} : ∀ {vs : List Nat}, i ∈ vs → i < σ.length → (wipe σ vs)[i]? = some none
  | v :: vs, h, hl => by
    unfold wipe
    by_cases z : v = i
    · subst z
      rw [List.getElem?_set_self (by rw [wipe_length]; exact hl)]
    · rw [List.getElem?_set_ne z]
      exact wipe_in ((List.mem_cons.mp h).resolve_left fun e => z e.symm) hl
theorem wipe_at {σ τ : L2.St} {vs : List Nat} (hl : τ.length = σ.length) (h : ∀ i, i ∉ vs → τ[i]? = σ[i]?) : wipe τ vs = wipe σ vs := by
  refine List.ext_getElem? fun i => ?_
  by_cases hi : i ∈ vs
  · by_cases z : i < σ.length
    · rw [wipe_in hi z, wipe_in hi (hl ▸ z)]
    · rw [List.getElem?_eq_none (by rw [wipe_length]; omega), List.getElem?_eq_none (by rw [wipe_length]; omega)]
  · rw [wipe_out hi, wipe_out hi, h i hi]
theorem wipe_off {σ τ : L2.St} {vs us : List Nat} (o : Off vs (wipe σ us) τ) (h : ∀ i ∈ vs, i ∈ us) : wipe τ us = wipe σ us :=
  wipe_at (by rw [o.1, wipe_length]) fun i hi => by rw [o.2 i fun z => hi (h i z), wipe_out hi]
def dwipe (env : Env) : List Nat → Env
  | [] => env
  | v :: vs => (dwipe env vs).set v none
theorem RS.wipe {K : KK} {σ : L2.St} {H : Hp} {env : Env} {S : Sto} (r : RS K σ H env S) : ∀ vs : List Nat, RS K (L2.wipe σ vs) H (dwipe env vs) S
  | [] => r
  | v :: vs => by
    have q := RS.wipe r vs
    refine ⟨by unfold dwipe L2.wipe; rw [List.length_set, List.length_set]; exact q.len, fun i d h => ?_, q.sto⟩
    unfold dwipe at h
    by_cases z : v = i
    · subst z
      by_cases hl : v < (dwipe env vs).length
      · rw [List.getElem?_set_self hl] at h
        cases h
      · rw [List.getElem?_eq_none (by rw [List.length_set]; omega)] at h
        cases h
    · rw [List.getElem?_set_ne z] at h
      obtain ⟨x, h1, h2⟩ := q.slot i d h
      exact ⟨x, by unfold L2.wipe; rw [List.getElem?_set_ne z]; exact h1, h2⟩
structure DTs (X : Cx) (ifs : List Expr) (t : DTT) : Prop where
  run : PTs X ifs (lT X.kk t)
theorem PTs.of {X : Cx} {ifs : List Expr} {t t' : TT} (h : PTs X ifs t) (q : ∀ σ H Q, t' σ H Q → t σ H Q) : PTs X ifs t' := ⟨fun pins s σ H Q I w => h.run pins s σ H Q I (q σ H Q w)⟩
def dYes : DTT := fun _ S R => R true S
theorem dts_nil {X : Cx} : DTs X [] dYes := ⟨PTs.of pts_nil fun σ H Q ⟨env, S, R, rs, q, k⟩ => k _ _ _ q rs.sto (.refl H)⟩
theorem dts_one {X : Cx} {c : Expr} {t : DTT} (h : DT X c t) : DTs X [c] t := ⟨pts_one h.run⟩
section
variable {X : Cx}
/-- [elt for target in iter if ..]: p the new list -/
def dLc (ti : DTI) (g : DTG) (tt : DTT) (te : DTE) (us : List Nat) : DTE := fun env S R => ti env S fun w S1 => ∀ p, S1 p = none → ∃ Pv : Nat → Sto → Prop, Pv 0 (S1.put p (.lst [])) ∧ (∀ i S, i ≤ w.items.length → Pv i S → w.live S) ∧
  (∀ i d S, w.items[i]? = some d → Pv i S → g d (dwipe env us) S fun env' S' => tt env' S' fun b S2 => if b = true then te env' S2 fun y S3 => ∃ acc, S3 p = some (.lst acc) ∧ acc.length < 1000000 ∧ Pv (i + 1) (S3.put p (.lst (acc ++ [y]))) else Pv (i + 1) S2) ∧
  ∀ S, Pv w.items.length S → R (.ref p) S
theorem app_rel {K : KK} {S : Sto} {H : Hp} {p : Addr} {acc : List D} {y : D} {v : V} (s : RelS K S H) (h : S p = some (.lst acc)) (hl : acc.length < 1000000) (r : RD K H y v) :
    ∃ vs, H p = some (.lst vs) ∧ vs.length < sizeLine ∧ RelS K (S.put p (.lst (acc ++ [y]))) (upd H p (.lst (vs ++ [v]))) ∧ Ext H (upd H p (.lst (vs ++ [v]))) := by
  obtain ⟨vs, h1, h2⟩ := s.lst h
  have e : Ext H (upd H p (.lst (vs ++ [v]))) := .put h1 trivial
  exact ⟨vs, h1, Nat.lt_of_lt_of_le (h2.length ▸ hl) (by decide), s.put h1 trivial ⟨_, upd_same, (h2.append (.cons r .nil)).ext e⟩, e⟩
theorem lE_lc {K : KK} {b : Bool} {ti : DTI} {g : DTG} {tt : DTT} {te : DTE} {us vs : List Nat} {σ : L2.St} {H : Hp} {Q : VK} (hv : ∀ i ∈ vs, i ∈ us) (h : lE K (dLc ti g tt te us) σ H Q) : tLc (lI K b ti) (lG K b vs g) (lT K tt) (lE K te) us σ H Q := by
  obtain ⟨env, S, R, rs, h, k⟩ := h
  refine ⟨env, S, _, rs, h, fun w S1 J H1 q s1 e1 st p np => ?_⟩
  obtain ⟨Pv, p0, lv, step, done⟩ := q p (s1.fresh np)
  obtain ⟨G, Y, wk, hG, hY⟩ := st.ex
  have s1' : RelS K (S1.put p (.lst [])) (upd H1 p (.lst [])) := s1.lay np ⟨_, upd_same, .nil⟩
  have e1' : Ext H1 (upd H1 p (.lst [])) := .new np
  refine lc_it wk (fun i H' => ∃ S', RelS K S' H' ∧ Ext H1 H' ∧ Pv i S') ⟨_, s1', e1', p0⟩ (fun i H' hi ⟨S', s', e', p'⟩ => hG H' S' e' s' (lv i S' hi p')) ?_ ?_
  · rintro i x H2 H3 hi ⟨S2, s2, e2, p2⟩ y
    obtain ⟨e3, hS, d, hd, rd⟩ := hY i H2 x H3 e2 y
    have e13 := e1.trans (e2.trans e3)
    refine ⟨d, dwipe env us, S2, _, rd, (rs.ext e13 (hS S2 s2)).wipe us, step i d S2 hd p2, fun env4 S4 σ4 H4 q4 rs4 e4 o4 => ⟨wipe_off o4 hv, env4, S4, _, rs4, q4, fun c S5 H5 q5 s5 e5 => ?_⟩⟩
    cases c with
    | false => exact ⟨S5, s5, e2.trans (e3.trans (e4.trans e5)), q5⟩
    | true =>
      refine ⟨env4, S5, _, rs4.ext e5 s5, q5, fun y S6 v H6 ⟨acc, h1, h2, q6⟩ s6 r6 e6 => ?_⟩
      obtain ⟨vs', h3, h4, s7, e7⟩ := app_rel s6 h1 h2 r6
      exact ⟨vs', h3, h4, _, s7, e2.trans (e3.trans (e4.trans (e5.trans (e6.trans e7)))), q6⟩
  · rintro H2 ⟨S2, s2, e2, p2⟩
    exact k _ _ _ _ (done S2 p2) s2 (.ref p) (e1.trans e2)
variable {elt tg iter : Expr} {ifs : List Expr} {scope : Scope} {own : List (Str × Nat)} {vs : List Nat} {pos spos : Pos} {b : Bool} {ti : DTI} {g : DTG} {tt : DTT} {te : DTE}
theorem de_lc (hc : X.calm = true) (hN : X.N.Nodup) (hi : DI X b tg iter ti) (ok : BlkOk X.N X.env.scope scope own) (hv : ∀ i ∈ vs, i ∈ own.map (·.2))
    (hg : ∀ (s : Shared) (H : Hp) (C : Addr) (cl : List (Str × Addr)) (fp : List Addr), DG (X.blk s H scope (compEnvC scope cl C X.env) fp) b vs tg g) (ht : ∀ (s : Shared) (H : Hp) (C : Addr) (cl : List (Str × Addr)) (fp : List Addr), DTs (X.blk s H scope (compEnvC scope cl C X.env) fp) ifs tt)
    (he : ∀ (s : Shared) (H : Hp) (C : Addr) (cl : List (Str × Addr)) (fp : List Addr), DE (X.blk s H scope (compEnvC scope cl C X.env) fp) elt te) (hs : ∀ x, foldedSetIterable iter X.env x = pure x := by intro _; rfl) :
    DE X (.ListComp elt [⟨tg, iter, ifs, 0⟩] scope pos) (dLc ti g tt te (own.map (·.2))) :=
  ⟨(pe_lc (te := lE X.kk te) hc hN hi.run ok (fun s H C cl fp => (hg s H C cl fp).run) (fun s H C cl fp => (ht s H C cl fp).run) (fun s H C cl fp => (he s H C cl fp).run) hs).of fun _ _ _ => lE_lc hv⟩
theorem ds_setLc {i : Nat} {y : Str} {py : Pos} (hc : X.calm = true) (hN : X.N.Nodup) (hy : X.N[i]? = some y) (hyl : X.env.scope.names.lookup y = some .local)
    (hsw : swapsWith (.ListComp elt [⟨tg, iter, ifs, 0⟩] scope pos) (some (.Name y py)) spos.line X.env = pure true) (hi : DI X b tg iter ti) (ok : BlkOk X.N X.env.scope scope own) (hv : ∀ i ∈ vs, i ∈ own.map (·.2))
    (hg : ∀ (s : Shared) (H : Hp) (C : Addr) (cl : List (Str × Addr)) (fp : List Addr), DG (X.blk s H scope (compEnvC scope cl C X.env) fp) b vs tg g) (ht : ∀ (s : Shared) (H : Hp) (C : Addr) (cl : List (Str × Addr)) (fp : List Addr), DTs (X.blk s H scope (compEnvC scope cl C X.env) fp) ifs tt)
    (he : ∀ (s : Shared) (H : Hp) (C : Addr) (cl : List (Str × Addr)) (fp : List Addr), DE (X.blk s H scope (compEnvC scope cl C X.env) fp) elt te) (hs : ∀ x, foldedSetIterable iter X.env x = pure x := by intro _; rfl) :
    DS X (.Assign [.Name y py] (.ListComp elt [⟨tg, iter, ifs, 0⟩] scope pos) spos) (dAsg (dLc ti g tt te (own.map (·.2))) (dgName i)) := by
  refine ⟨(ps_setLc (g := lG X.kk b vs g) (tt := lT X.kk tt) (te := lE X.kk te) hc hN hy hyl hsw hi.run ok (fun s H C cl fp => (hg s H C cl fp).run) (fun s H C cl fp => (ht s H C cl fp).run) (fun s H C cl fp => (he s H C cl fp).run) hs).of fun σ H B h => ?_⟩
  obtain ⟨env, S, C, rs, h, k, _⟩ := h
  exact lE_lc hv ⟨env, S, _, rs, h, fun d S1 v H1 q s1 r1 e1 => k _ _ _ _ q ((rs.ext e1 s1).set i r1) e1⟩
end
end Sv
namespace Sv
open PySem PySem.Spec PyProof.Rows L2
mutual
inductive Py (S : Sto) : D → PyData → Prop
  | non : Py S .non .none
  | bl (b : Bool) : Py S (.bl b) (.bool b)
  | int (i : Int) : Py S (.int i) (.int i)
  | str (x : Str) : Py S (.str x) (.str x)
  | tup {ds : List D} {ps : List PyData} : Pys S ds ps → Py S (.tup ds) (.tuple ps)
  | rol {ds : List D} {ps : List PyData} : Pys S ds ps → Py S (.rol ds) (.list ps)
  | wtup {ds : List D} {ps : List PyData} : Pys S ds ps → Py S (.wtup ds) (.tuple ps)
  | lst {a : Addr} {ds : List D} {ps : List PyData} : S a = some (.lst ds) → Pys S ds ps → Py S (.ref a) (.list ps)
inductive Pys (S : Sto) : List D → List PyData → Prop
  | nil : Pys S [] []
  | cons {d : D} {ds : List D} {p : PyData} {ps : List PyData} : Py S d p → Pys S ds ps → Pys S (d :: ds) (p :: ps)
end
section
variable {K : KK} {S : Sto} {H : Hp}
mutual
theorem Py.dp (s : RelS K S H) : ∀ {d : D} {p : PyData} {v : V}, Py S d p → RD K H d v → Dp K.k H v p
  | _, _, _, .non, .non => .non
  | _, _, _, .bl b, .bl _ => .bl b
  | _, _, _, .int i, .int _ => .int i
  | _, _, _, .str x, .str _ => .str x
  | _, _, _, .tup h, .tup t r => .tup t.sqT (Pys.dp s h r)
  | _, _, _, .rol h, .rol t r => .lst t.sqL (Pys.dp s h r)
  | _, _, _, .wtup h, .wtup t r => .tup (.of t) (Pys.dp s h r)
  | _, _, _, .lst e h, .ref _ => let ⟨vs, q, r⟩ := s.lst e; .lst (.of q) (Pys.dp s h r)
theorem Pys.dp (s : RelS K S H) : ∀ {ds : List D} {ps : List PyData} {vs : List V}, Pys S ds ps → RDs K H ds vs → DpAll K.k H vs ps
  | _, _, _, .nil, .nil => .nil
  | _, _, _, .cons h t, .cons r q => .cons (Py.dp s h r) (Pys.dp s t q)
end
end
def rAdd : DR2 := fun x y S R => match x, y with
  | .int i, .int j => R (.int (i + j)) S
  | .tup xs, .tup ys => xs.length + ys.length ≤ 100000 ∧ R (.tup (xs ++ ys)) S
  | .str a, .str b => a.length + b.length ≤ 100000 ∧ R (.str (a ++ b)) S
  | .ref a, .ref b => ∃ xs ys, S a = some (.lst xs) ∧ S b = some (.lst ys) ∧ xs.length + ys.length ≤ 100000 ∧ ∀ p, S p = none → R (.ref p) (S.put p (.lst (xs ++ ys)))
  | _, _ => False
def rSub : DR2 := fun x y S R => match x, y with
  | .int i, .int j => R (.int (i - j)) S
  | _, _ => False
def rMul : DR2 := fun x y S R => match x, y with
  | .int i, .int j => CMul i j ∧ R (.int (i * j)) S
  | .tup xs, .int k => xs ≠ [] ∧ 1 ≤ k ∧ k ≤ 1000 ∧ xs.length ≤ 1000 ∧ R (.tup (List.replicate k.toNat xs).flatten) S
  | .ref a, .int k => ∃ xs, S a = some (.lst xs) ∧ 0 ≤ k ∧ k ≤ 1000 ∧ xs.length ≤ 1000 ∧ ∀ p, S p = none → R (.ref p) (S.put p (.lst (List.replicate k.toNat xs).flatten))
  | _, _ => False
def rDiv : DR2 := fun x y S R => match x, y with
  | .int i, .int j => CDiv i j ∧ R (.int (i / j)) S
  | _, _ => False
def rMod : DR2 := fun x y S R => match x, y with
  | .int i, .int j => 0 < j ∧ R (.int (i % j)) S
  | _, _ => False
def rPow : DR2 := fun x y S R => match x, y with
  | .int i, .int j => CPow i j ∧ R (.int (i ^ j.toNat)) S
  | _, _ => False
section
variable {X : Cx}
theorem cat_frz {pins : List (Addr × Obj)} {σ : L2.St} {H : Hp} {s : Shared} {a b : Addr} {xs ys : List V} {Q : VK} (I : Inv X pins σ H s) (ha : TupN H a xs) (hb : TupN H b ys) (hz : xs.length + ys.length ≤ sizeLine)
    (q : ∀ (H' : Hp) (p : Addr), Same H H' → (∀ b, H b ≠ none → H' b = H b) → TupN H' p (xs ++ ys) → Q (.ref p) H') (q2 : ∀ (p : Addr) (o : Obj), H p = none → o.dict = none → Q (.ref p) (upd H p (.frz o (.tup (xs ++ ys))))) : wpAny (model X.prog X.w) X.A (binaryOp .Add (.ref a) (.ref b)) (EP X pins σ Q) X.xe s := by
  obtain ⟨its, r1, p1, _⟩ := I.tuple (ha.sqT (K := X.K))
  obtain ⟨its2, r2, p2, _⟩ := I.tuple (hb.sqT (K := X.K))
  by_cases hx : its = []
  · subst hx
    have e1 : xs = [] := r1.nil_iff.mp rfl
    subst e1
    exact cat_tup0 p1 p2 ⟨.ref b, H, I, rfl, q H b (fun _ _ h => h) (fun _ _ => rfl) hb⟩
  · have hl : its.length + its2.length ≤ sizeLine := by rw [← r1.length, ← r2.length]; exact hz
    refine HT.cat_tup p1 p2 hx (fun z => ?_) (fun _ => ?_) hl
    · subst z
      have e2 : ys = [] := r2.nil_iff.mp rfl
      subst e2
      exact ⟨.ref a, H, I, rfl, q H a (fun _ _ h => h) (fun _ _ => rfl) (by rw [List.append_nil]; exact ha)⟩
    · have hg := Heap.get?_push_size s.heap (o := { cls := .type "tuple", data := .seq (its ++ its2).toArray }) rfl
      refine ⟨.ref s.heap.objs.size, _, I.laid (t' := s.toks) (o := .frz { cls := .type "tuple", data := .seq (its ++ its2).toArray } (.tup (xs ++ ys))) (fun b ob q => Heap.get?_push_of_some _ q) (Nat.le_refl _) ?_, rfl, q2 _ _ (I.hok.fresh (Nat.le_refl _)) rfl⟩
      exact ⟨hg, by rw [List.length_append]; exact hz, _, r1.append r2, ⟨_, hg, rfl, _, rfl⟩⟩
theorem big5 {n : Nat} (h : n ≤ 100000) : n ≤ sizeLine := Nat.le_trans h (by decide)
theorem o_add : OpR X (binaryOp .Add) (l2 X.kk rAdd) := by
  intro pins s σ H x y v u Q I rx ry ⟨d, e, S, R, r1, r2, s1, h, k⟩
  cases r1 with
  | int i =>
    cases r2 with
    | int j => exact op_add pins s σ H _ _ v u Q I rx ry ⟨i, j, rfl, rfl, k _ _ _ _ h s1 (.int _) (.refl H)⟩
    | _ => exact h.elim
  | str i =>
    cases r2 with
    | str j => exact op_add_str pins s σ H _ _ v u Q I rx ry ⟨i, j, rfl, rfl, big5 h.1, k _ _ _ _ h.2 s1 (.str _) (.refl H)⟩
    | _ => exact h.elim
  | tup t1 q1 =>
    cases r2 with
    | tup t2 q2 =>
      cases rx
      cases ry
      refine cat_frz I t1 t2 (by rw [← q1.length, ← q2.length]; exact big5 h.1) (fun H' p sm same t => ?_) fun p o np ho => ?_
      · exact k _ _ _ _ h.2 (fun a o e => (s1 a o e).ext (.of sm) (same a fun z => by obtain ⟨u, q, _⟩ := (s1 a o e).mut; rw [z] at q; cases q)) (.tup t ((q1.append q2).ext (.of sm))) (.of sm)
      · exact k _ _ _ _ h.2 (s1.new np) (.tup (.new ho) ((q1.append q2).ext (.new np))) (.new np)
    | _ => exact h.elim
  | ref a =>
    cases r2 with
    | ref b =>
      obtain ⟨xs, ys, h1, h2, hz, q⟩ := h
      obtain ⟨vs, e1, q1⟩ := s1.lst h1
      obtain ⟨ws, e2, q2⟩ := s1.lst h2
      exact op_cat pins s σ H _ _ v u Q I rx ry ⟨a, b, vs, ws, rfl, rfl, e1, e2, by rw [← q1.length, ← q2.length]; exact big5 hz, fun p np =>
        k _ _ _ _ (q p (s1.fresh np)) (s1.lay np ⟨_, upd_same, (q1.append q2).ext (.new np)⟩) (.ref p) (.new np)⟩
    | _ => exact h.elim
  | _ => exact h.elim
theorem o_sub : OpR X (binaryOp .Sub) (l2 X.kk rSub) := by
  intro pins s σ H x y v u Q I rx ry ⟨d, e, S, R, r1, r2, s1, h, k⟩
  cases r1 with
  | int i =>
    cases r2 with
    | int j => exact op_sub pins s σ H _ _ v u Q I rx ry ⟨i, j, rfl, rfl, k _ _ _ _ h s1 (.int _) (.refl H)⟩
    | _ => exact h.elim
  | _ => exact h.elim
theorem o_div : OpR X (binaryOp .FloorDiv) (l2 X.kk rDiv) := by
  intro pins s σ H x y v u Q I rx ry ⟨d, e, S, R, r1, r2, s1, h, k⟩
  cases r1 with
  | int i =>
    cases r2 with
    | int j => exact op_fdiv pins s σ H _ _ v u Q I rx ry ⟨i, j, rfl, rfl, h.1, k _ _ _ _ h.2 s1 (.int _) (.refl H)⟩
    | _ => exact h.elim
  | _ => exact h.elim
theorem o_mod : OpR X (binaryOp .Mod) (l2 X.kk rMod) := by
  intro pins s σ H x y v u Q I rx ry ⟨d, e, S, R, r1, r2, s1, h, k⟩
  cases r1 with
  | int i =>
    cases r2 with
    | int j => exact op_mod pins s σ H _ _ v u Q I rx ry ⟨i, j, rfl, rfl, h.1, k _ _ _ _ h.2 s1 (.int _) (.refl H)⟩
    | _ => exact h.elim
  | _ => exact h.elim
theorem o_pow : OpR X (binaryOp .Pow) (l2 X.kk rPow) := by
  intro pins s σ H x y v u Q I rx ry ⟨d, e, S, R, r1, r2, s1, h, k⟩
  cases r1 with
  | int i =>
    cases r2 with
    | int j => exact op_pow pins s σ H _ _ v u Q I rx ry ⟨i, j, rfl, rfl, h.1, k _ _ _ _ h.2 s1 (.int _) (.refl H)⟩
    | _ => exact h.elim
  | _ => exact h.elim
def rCmp (f : Int → Int → Bool) : DR2 := fun x y S R => match x, y with
  | .int i, .int j => R (.bl (f i j)) S
  | _, _ => False
theorem o_cmp {op : CmpOp} {f : Int → Int → Bool} (ho : OpR X (compareOp op) (rI0 fun i j => .bl (f i j))) : OpR X (compareOp op) (l2 X.kk (rCmp f)) := by
  intro pins s σ H x y v u Q I rx ry ⟨d, e, S, R, r1, r2, s1, h, k⟩
  cases r1 with
  | int i =>
    cases r2 with
    | int j => exact ho pins s σ H _ _ v u Q I rx ry ⟨i, j, rfl, rfl, k _ _ _ _ h s1 (.bl _) (.refl H)⟩
    | _ => exact h.elim
  | _ => exact h.elim
theorem o_lt : OpR X (compareOp .Lt) (l2 X.kk (rCmp fun i j => decide (i < j))) := o_cmp op_lt
theorem o_le : OpR X (compareOp .LtE) (l2 X.kk (rCmp fun i j => decide (i ≤ j))) := o_cmp op_le
theorem o_gt : OpR X (compareOp .Gt) (l2 X.kk (rCmp fun i j => decide (j < i))) := o_cmp op_gt
theorem o_ge : OpR X (compareOp .GtE) (l2 X.kk (rCmp fun i j => decide (j ≤ i))) := o_cmp op_ge
/-- == : ints, texts and bools at once, the rest as data -/
def rEqq (n : Bool) : DR2 := fun x y S R => match x, y with
  | .int i, .int j => R (.bl (decide (i = j) ^^ n)) S
  | .str i, .str j => R (.bl (decide (i = j) ^^ n)) S
  | .bl i, .bl j => R (.bl (decide (i = j) ^^ n)) S
  | _, _ => ∃ p q, Py S x p ∧ Py S y q ∧ SeqAt.shaped p = true ∧ SeqAt.shaped q = true ∧ R (.bl (PyData.eqv p q ^^ n)) S
theorem xor_ff (b : Bool) : (b ^^ false) = b := by cases b <;> rfl
theorem xor_tt (b : Bool) : (b ^^ true) = !b := by cases b <;> rfl
theorem o_eq (hu : X.A.units + 64 < cLine) : OpR X (compareOp .Eq) (l2 X.kk (rEqq false)) := by
  intro pins s σ H x y v u Q I rx ry ⟨d, e, S, R, r1, r2, s1, h, k⟩
  have dat : (∃ p q, Py S d p ∧ Py S e q ∧ SeqAt.shaped p = true ∧ SeqAt.shaped q = true ∧ R (.bl (PyData.eqv p q ^^ false)) S) → wpAny (model X.prog X.w) X.A (compareOp .Eq v u) (EP X pins σ Q) X.xe s := by
    rintro ⟨p, q, h1, h2, h3, h4, h5⟩
    rw [xor_ff] at h5
    exact op_eqD hu pins s σ H _ _ v u Q I rx ry ⟨p, q, h1.dp s1 r1, h2.dp s1 r2, h3, h4, k _ _ _ _ h5 s1 (.bl _) (.refl H)⟩
  have fl : ∀ {b : Bool}, decide (x = y) = b → scal x y = true → R (.bl (b ^^ false)) S → wpAny (model X.prog X.w) X.A (compareOp .Eq v u) (EP X pins σ Q) X.xe s := fun {b} hb hs q => by
    rw [xor_ff] at q
    exact op_eq pins s σ H _ _ v u Q I rx ry ⟨hs, by rw [hb]; exact k _ _ _ _ q s1 (.bl _) (.refl H)⟩
  cases r1 with
  | int i =>
    cases r2 with
    | int j => exact fl (by simp) rfl h
    | _ => exact dat h
  | str i =>
    cases r2 with
    | str j => exact fl (by simp) rfl h
    | _ => exact dat h
  | bl i =>
    cases r2 with
    | bl j => exact fl (by simp) rfl h
    | _ => exact dat h
  | _ => exact dat h
theorem o_ne (hu : X.A.units + 64 < cLine) : OpR X (compareOp .NotEq) (l2 X.kk (rEqq true)) := by
  intro pins s σ H x y v u Q I rx ry ⟨d, e, S, R, r1, r2, s1, h, k⟩
  have dat : (∃ p q, Py S d p ∧ Py S e q ∧ SeqAt.shaped p = true ∧ SeqAt.shaped q = true ∧ R (.bl (PyData.eqv p q ^^ true)) S) → wpAny (model X.prog X.w) X.A (compareOp .NotEq v u) (EP X pins σ Q) X.xe s := by
    rintro ⟨p, q, h1, h2, h3, h4, h5⟩
    rw [xor_tt] at h5
    exact op_neD hu pins s σ H _ _ v u Q I rx ry ⟨p, q, h1.dp s1 r1, h2.dp s1 r2, h3, h4, k _ _ _ _ h5 s1 (.bl _) (.refl H)⟩
  have fl : ∀ {b : Bool}, decide (x = y) = b → scal x y = true → R (.bl (b ^^ true)) S → wpAny (model X.prog X.w) X.A (compareOp .NotEq v u) (EP X pins σ Q) X.xe s := fun {b} hb hs q => by
    rw [xor_tt] at q
    exact op_ne pins s σ H _ _ v u Q I rx ry ⟨hs, by rw [hb]; exact k _ _ _ _ q s1 (.bl _) (.refl H)⟩
  cases r1 with
  | int i =>
    cases r2 with
    | int j => exact fl (by simp) rfl h
    | _ => exact dat h
  | str i =>
    cases r2 with
    | str j => exact fl (by simp) rfl h
    | _ => exact dat h
  | bl i =>
    cases r2 with
    | bl j => exact fl (by simp) rfl h
    | _ => exact dat h
  | _ => exact dat h
end
end Sv
namespace Sv
open PySem PySem.Spec PyProof.Rows L2
section
variable {X : Cx} {a b e : Expr} {es : List Expr} {ta tb te : DTE} {tl : DTA} {pos : Pos}
/-- the items of a sequence -/
def seqOf (S : Sto) : D → Option (List D)
  | .tup ds => some ds
  | .rol ds => some ds
  | .wtup ds => some ds
  | .ref a => match S a with
    | some (.lst ds) => some ds
    | _ => none
  | _ => none
theorem seqOf_ref {S : Sto} {a : Addr} {ds : List D} (h : seqOf S (.ref a) = some ds) : S a = some (.lst ds) := by
  have h : (match S a with
    | some (.lst ds) => some ds
    | _ => none) = some ds := h
  split at h
  · rename_i e
    rw [e]
    cases h
    rfl
  · cases h
theorem seqOf_lst {S : Sto} {a : Addr} {ds : List D} (h : S a = some (.lst ds)) : seqOf S (.ref a) = some ds := by
  show (match S a with
    | some (.lst ds) => some ds
    | _ => none) = some ds
  rw [h]
theorem seq_rel {K : KK} {S : Sto} {H : Hp} {d : D} {v : V} {ds : List D} (s : RelS K S H) (r : RD K H d v) (h : seqOf S d = some ds) : ∃ p vs, v = .ref p ∧ (SqL K.k H p vs ∨ SqT K.k H p vs) ∧ RDs K H ds vs := by
  cases r with
  | tup t q => cases h; exact ⟨_, _, rfl, .inr t.sqT, q⟩
  | rol t q => cases h; exact ⟨_, _, rfl, .inl t.sqL, q⟩
  | wtup t q => cases h; exact ⟨_, _, rfl, .inr (.of t), q⟩
  | ref a =>
    obtain ⟨vs, e, q⟩ := s.lst (seqOf_ref h)
    exact ⟨a, vs, rfl, .inl (.of e), q⟩
  | _ => cases h
theorem atI_rel {K : KK} {H : Hp} {ds : List D} {vs : List V} {i : Int} {d : D} (r : RDs K H ds vs) (h : atI ds i = some d) : ∃ v, atI vs i = some v ∧ RD K H d v := by
  unfold atI at h ⊢
  rw [← r.length]
  obtain ⟨j, h1, h2⟩ := Option.bind_eq_some_iff.mp h
  obtain ⟨v, h3, h4⟩ := r.at h2
  exact ⟨v, by rw [h1]; exact h3, h4⟩
/-- x[i] -/
def rIxq : DR2 := fun x y S R => ∃ ds i d, seqOf S x = some ds ∧ y = .int i ∧ atI ds i = some d ∧ R d S
theorem o_ix : IxR X (l2 X.kk rIxq) := by
  intro value slice pins s σ H x y v u Q I rx ry h hs
  obtain ⟨d, e, S, R, r1, r2, s1, ⟨ds, i, z, hd, rfl, hi, q⟩, k⟩ := h
  cases r2
  obtain ⟨p, vs, rfl, hq, r⟩ := seq_rel s1 r1 hd
  obtain ⟨w, hw, rw'⟩ := atI_rel r hi
  refine ix_seq value slice pins s σ H _ _ v u Q I rx ry ?_ hs
  have fin := k _ _ _ _ q s1 rw' (.refl H)
  rcases hq with hq | hq
  · exact .inl ⟨p, vs, i, w, rfl, rfl, hq, hw, fin⟩
  · exact .inr (.inl ⟨p, vs, i, w, rfl, rfl, hq, hw, fin⟩)
theorem de_ix {r : DR2} (hr : IxR X (l2 X.kk r)) (ha : DE X a ta) (hb : DE X b tb) (hs : PlainIx b := by intro _ _; rfl) : DE X (.Subscript a b pos) (dBin r ta tb) := ⟨(pe_ix hr ha.run hb.run hs).of fun _ _ _ => l2_bin⟩
abbrev DTO := Env → Sto → (Option Int → Sto → Prop) → Prop
def lO (K : KK) (t : DTO) : TO := fun σ H Q => ∃ env S R, RS K σ H env S ∧ t env S R ∧ ∀ o S' H', R o S' → RelS K S' H' → Ext H H' → Q o H'
structure DO (X : Cx) (e : Option Expr) (t : DTO) : Prop where
  run : PO X e (lO X.kk t)
theorem _root_.L2.PO.of {e : Option Expr} {t t' : TO} (h : PO X e t) (q : ∀ σ H Q, t' σ H Q → t σ H Q) : PO X e t' := ⟨fun pins s σ H Q I w => h.run pins s σ H Q I (q σ H Q w)⟩
def dNoP : DTO := fun _ S R => R none S
def dPart (t : DTE) : DTO := fun env S R => t env S fun d S1 => ∃ i, d = .int i ∧ R (some i) S1
theorem do_none : DO X none dNoP := ⟨po_none.of fun σ H Q ⟨env, S, R, rs, q, k⟩ => k _ _ _ q rs.sto (.refl H)⟩
theorem do_some (h : DE X e te) : DO X (some e) (dPart te) := ⟨(po_some h.run).of fun σ H Q ⟨env, S, R, rs, h, k⟩ => ⟨env, S, _, rs, h, fun d S1 v H1 ⟨i, z, q⟩ s1 r1 e1 => by
  subst z
  cases r1
  exact ⟨i, rfl, k _ _ _ q s1 e1⟩⟩⟩
def cutD (xs : List D) (lo hi : Option Int) : List D := (xs.drop (HT.sIx xs.length 0 lo)).take (HT.sIx xs.length xs.length hi - HT.sIx xs.length 0 lo)
theorem RDs.cut {K : KK} {H : Hp} {ds : List D} {vs : List V} (r : RDs K H ds vs) (lo hi : Option Int) : RDs K H (cutD ds lo hi) (cutV vs lo hi) := by
  unfold cutD cutV
  rw [r.length]
  exact (r.drop _).take _
/-- x[lo:hi] -/
def rSlq : D → Option Int → Option Int → Sto → DK → Prop := fun x lo hi S R => match x with
  | .tup ds => R (.tup (cutD ds lo hi)) S
  | .rol ds => ∀ p, S p = none → R (.ref p) (S.put p (.lst (cutD ds lo hi)))
  | .ref a => ∃ ds, S a = some (.lst ds) ∧ ∀ p, S p = none → R (.ref p) (S.put p (.lst (cutD ds lo hi)))
  | _ => False
def lSl (K : KK) (r : D → Option Int → Option Int → Sto → DK → Prop) : V → Option Int → Option Int → Hp → VK → Prop := fun x lo hi H Q => ∃ d S R, RD K H d x ∧ RelS K S H ∧ r d lo hi S R ∧ ∀ z S' v H', R z S' → RelS K S' H' → RD K H' z v → Ext H H' → Q v H'
theorem o_sl : SlR X (lSl X.kk rSlq) := by
  intro pins s σ H x v vl vu lo hi sl Q I rx hs pl pu ⟨d, S, R, r1, s1, h, k⟩
  cases r1 with
  | tup t q =>
    refine (sl_tupA.or sl_tupF) pins s σ H _ v vl vu lo hi sl Q I rx hs pl pu ?_
    rename_i a ds vs
    by_cases hw : HT.sIx vs.length 0 lo = 0 ∧ HT.sIx vs.length vs.length hi = vs.length
    · refine .inl ⟨a, vs, rfl, t.sqT, fun _ => k _ _ _ _ h s1 ?_ (.refl H), fun z => absurd hw z⟩
      have e : cutD ds lo hi = ds := by
        unfold cutD
        rw [q.length, hw.1, hw.2, List.drop_zero, Nat.sub_zero, ← q.length, List.take_length]
      rw [e]
      exact .tup t q
    · exact .inr ⟨a, vs, rfl, t.sqT, hw, fun p o np ho => k _ _ _ _ h (s1.new np) (.tup (.new ho) ((q.cut lo hi).ext (.new np))) (.new np)⟩
  | rol t q => exact sl_list pins s σ H _ v vl vu lo hi sl Q I rx hs pl pu ⟨_, _, rfl, t.sqL, fun p np => k _ _ _ _ (h p (s1.fresh np)) (s1.lay np ⟨_, upd_same, (q.cut lo hi).ext (.new np)⟩) (.ref p) (.new np)⟩
  | ref a =>
    obtain ⟨ds, h1, h⟩ := h
    obtain ⟨vs, e, q⟩ := s1.lst h1
    exact sl_list pins s σ H _ v vl vu lo hi sl Q I rx hs pl pu ⟨_, _, rfl, .of e, fun p np => k _ _ _ _ (h p (s1.fresh np)) (s1.lay np ⟨_, upd_same, (q.cut lo hi).ext (.new np)⟩) (.ref p) (.new np)⟩
  | _ => exact h.elim
def dSl (te : DTE) (tlo thi : DTO) : DTE := fun env S R => te env S fun d S1 => tlo env S1 fun lo S2 => thi env S2 fun hi S3 => rSlq d lo hi S3 R
theorem de_sl {lo hi : Option Expr} {tlo thi : DTO} {p2 : Pos} (he : DE X e te) (hl : DO X lo tlo) (hu : DO X hi thi) : DE X (.Subscript e (.Slice lo hi none p2) pos) (dSl te tlo thi) := by
  refine ⟨(pe_slice o_sl he.run hl.run hu.run).of fun σ H Q ⟨env, S, R, rs, h, k⟩ => ⟨env, S, _, rs, h, fun d S1 v H1 q s1 r1 e1 => ⟨env, S1, _, rs.ext e1 s1, q, fun lo S2 H2 q2 s2 e2 => ⟨env, S2, _, rs.ext (e1.trans e2) s2, q2, fun hi S3 H3 q3 s3 e3 => ?_⟩⟩⟩⟩
  exact ⟨d, S3, R, r1.ext (e2.trans e3), s3, q3, fun z S4 w H4 q4 s4 r4 e4 => k _ _ _ _ q4 s4 r4 (e1.trans (e2.trans (e3.trans e4)))⟩
def dSub (to ti : DTE) : DTG := fun d env S R => to env S fun o S1 => ti env S1 fun i S2 => ∃ a ds k j, o = .ref a ∧ i = .int k ∧ S2 a = some (.lst ds) ∧ ixN ds.length k = some j ∧ R env (S2.put a (.lst (ds.set j d)))
theorem dg_sub {o i : Expr} {to ti : DTE} (ho : DE X o to) (hi : DE X i ti)
    (ha : ∀ v, assign (.Subscript o i pos) X.env v = (do
      let ov ← holding [v] (eval o X.env)
      let iv ← holding [v, ov] (eval i X.env)
      standAt pos
      holding [v, ov, iv] (setItem ov iv v)
      release [v, ov, iv] []) := by intro _; rfl) : DG X true [] (.Subscript o i pos) (dSub to ti) := by
  refine ⟨(pg_sub ho.run hi.run set_list ha).of fun v σ H Q ⟨d, env, S, R, r, rs, h, k⟩ => ⟨env, S, _, rs, h, fun o S1 ov H1 q1 s1 r1 e1 => ⟨env, S1, _, rs.ext e1 s1, q1, fun i S2 iv H2 q2 s2 r2 e2 => ?_⟩⟩⟩
  obtain ⟨a, ds, kk, j, rfl, rfl, hs, hj, q⟩ := q2
  cases r1
  cases r2
  obtain ⟨vs, h1, q1⟩ := s2.lst hs
  have rd : RD X.kk H d v := by
    rcases r with r | ⟨z, _⟩
    · exact r
    · cases z
  refine ⟨a, vs, kk, j, rfl, rfl, h1, by rw [← q1.length]; exact hj, ?_⟩
  have e3 : Ext H2 (upd H2 a (.lst (vs.set j v))) := .put h1 trivial
  have e := e1.trans (e2.trans e3)
  exact k _ _ _ _ q (rs.ext e (s2.put h1 trivial ⟨_, upd_same, (q1.set (rd.ext (e1.trans e2)) j).ext e3⟩)) e (.refl _ _)
/-- x in seq, as data -/
def rInq (n : Bool) : DR2 := fun x y S R => ∃ p ps, Py S x p ∧ (Py S y (.list ps) ∨ Py S y (.tuple ps)) ∧ SeqAt.shaped p = true ∧ SeqAt.shaped (.tuple ps) = true ∧ SeqAt.shaped (.list ps) = true ∧ R (.bl ((ps.any fun z => PyData.eqv z p) ^^ n)) S
end
end Sv
namespace Sv
open PySem PySem.Spec PyProof.Rows L2
section
variable {X : Cx} {a b e : Expr} {es : List Expr} {ta tb te : DTE} {tl : DTA} {pos : Pos}
theorem o_in (hu : X.A.units + 65 < cLine) : OpR X (compareOp .In) (l2 X.kk (rInq false)) := by
  intro pins s σ H x y v u Q I rx ry ⟨d, e, S, R, r1, r2, s1, ⟨p, ps, h1, h2, h3, h4, h5, q⟩, k⟩
  rw [xor_ff] at q
  have fin := k _ _ _ _ q s1 (.bl _) (.refl H)
  obtain ⟨as, ra⟩ := Dp.reads I p x v (h1.dp s1 r1) rx
  rcases h2 with h2 | h2
  · exact op_inD hu pins s σ H _ _ v u Q I rx ry ⟨p, ps, h1.dp s1 r1, h2.dp s1 r2, h3, h5, fin⟩
  · obtain ⟨bs, rb⟩ := Dp.reads I (.tuple ps) y u (h2.dp s1 r2) ry
    exact SeqAt.in_tuple_reads rb ra (SeqAt.canLay_of_shaped h4) (SeqAt.canLay_of_shaped h3) (room_in_shaped h3 hu) ⟨.bl _, H, I, rfl, fin⟩
theorem o_nin (hu : X.A.units + 65 < cLine) : OpR X (compareOp .NotIn) (l2 X.kk (rInq true)) := by
  intro pins s σ H x y v u Q I rx ry ⟨d, e, S, R, r1, r2, s1, ⟨p, ps, h1, h2, h3, h4, h5, q⟩, k⟩
  rw [xor_tt] at q
  have fin := k _ _ _ _ q s1 (.bl _) (.refl H)
  obtain ⟨as, ra⟩ := Dp.reads I p x v (h1.dp s1 r1) rx
  rcases h2 with h2 | h2
  · exact op_notInD hu pins s σ H _ _ v u Q I rx ry ⟨p, ps, h1.dp s1 r1, h2.dp s1 r2, h3, h5, fin⟩
  · obtain ⟨bs, rb⟩ := Dp.reads I (.tuple ps) y u (h2.dp s1 r2) ry
    exact SeqAt.notIn_tuple_reads rb ra (SeqAt.canLay_of_shaped h4) (SeqAt.canLay_of_shaped h3) (room_in_shaped h3 hu) ⟨.bl _, H, I, rfl, fin⟩
def rLen : DRC := fun ds S R => ∃ d xs, ds = [d] ∧ seqOf S d = some xs ∧ R (.int xs.length) S
theorem b_len : CallR X (.builtin "len") (lC X.kk rLen) := by
  intro pins s σ H vs us Q I r ⟨ds, S, R, r1, s1, ⟨d, xs, hd, hx, q⟩, k⟩
  subst hd
  obtain ⟨v, rfl, rv⟩ := r1.inv1
  obtain ⟨p, ws, rfl, hq, rw'⟩ := seq_rel s1 rv hx
  refine call_len pins s σ H _ us Q I r ⟨.ref p, ws.length, rfl, ?_, ?_⟩
  · rcases hq with hq | hq
    · exact .inl ⟨ws, hq, rfl⟩
    · exact .inr ⟨ws, hq, rfl⟩
  · rw [← rw'.length]
    exact k _ _ _ _ q s1 (.int _) (.refl H)
def rAbs : DRC := fun ds S R => ∃ i, ds = [.int i] ∧ R (.int (if i < 0 then -i else i)) S
theorem b_abs : CallR X (.builtin "abs") (lC X.kk rAbs) := by
  intro pins s σ H vs us Q I r ⟨ds, S, R, r1, s1, ⟨i, hd, q⟩, k⟩
  subst hd
  obtain ⟨v, rfl, rv⟩ := r1.inv1
  cases rv
  exact call_abs pins s σ H _ us Q I r ⟨i, rfl, k _ _ _ _ q s1 (.int _) (.refl H)⟩
def rListq : DRC := fun ds S R => ∃ d xs, ds = [d] ∧ seqOf S d = some xs ∧ ∀ p, S p = none → R (.ref p) (S.put p (.lst xs))
theorem b_list : CallR X (.type "list") (lC X.kk rListq) := by
  intro pins s σ H vs us Q I r ⟨ds, S, R, r1, s1, ⟨d, xs, hd, hx, q⟩, k⟩
  subst hd
  obtain ⟨v, rfl, rv⟩ := r1.inv1
  obtain ⟨p, ws, rfl, hq, rw'⟩ := seq_rel s1 rv hx
  exact call_list_of pins s σ H _ us Q I r ⟨p, ws, rfl, hq, fun l nl => k _ _ _ _ (q l (s1.fresh nl)) (s1.lay nl ⟨_, upd_same, rw'.ext (.new nl)⟩) (.ref l) (.new nl)⟩
def rTupq : DRC := fun ds S R => ∃ d xs, ds = [d] ∧ seqOf S d = some xs ∧ (∀ ys, d ≠ .wtup ys) ∧ R (.tup xs) S
theorem b_tuple : CallR X (.type "tuple") (lC X.kk rTupq) := by
  intro pins s σ H vs us Q I r ⟨ds, S, R, r1, s1, ⟨d, xs, hd, hx, hw, q⟩, k⟩
  subst hd
  obtain ⟨v, rfl, rv⟩ := r1.inv1
  cases rv with
  | wtup t qq => exact absurd rfl (hw _)
  | tup t qq =>
    cases hx
    exact call_tuple_of pins s σ H _ us Q I r ⟨_, _, rfl, .inr ⟨t.sqT, k _ _ _ _ q s1 (.tup t qq) (.refl H)⟩⟩
  | rol t qq =>
    cases hx
    exact call_tupleF pins s σ H _ us Q I r ⟨_, _, rfl, t.sqL, fun l o nl ho => k _ _ _ _ q (s1.new nl) (.tup (.new ho) (qq.ext (.new nl))) (.new nl)⟩
  | ref a =>
    obtain ⟨ws, h1, qq⟩ := s1.lst (seqOf_ref hx)
    exact call_tupleF pins s σ H _ us Q I r ⟨_, _, rfl, .of h1, fun l o nl ho => k _ _ _ _ q (s1.new nl) (.tup (.new ho) (qq.ext (.new nl))) (.new nl)⟩
  | _ => cases hx
def intsD (ns : List Int) : List D := ns.map D.int
def rSum1 : DRC := fun ds S R => ∃ a ns, ds = [.ref a] ∧ S a = some (.lst (intsD ns)) ∧ R (.int ns.sum) S
theorem b_sum (hc : X.calm = true) : CallR X (.builtin "sum") (lC X.kk rSum1) := by
  intro pins s σ H vs us Q I r ⟨ds, S, R, r1, s1, ⟨a, ns, hd, hx, q⟩, k⟩
  subst hd
  obtain ⟨v, rfl, rv⟩ := r1.inv1
  cases rv
  obtain ⟨ws, h1, qq⟩ := s1.lst hx
  cases (RDs.ints_inv qq)
  exact cr_sum hc pins s σ H _ us Q I r ⟨a, ns, rfl, .of h1, k _ _ _ _ q s1 (.int _) (.refl H)⟩
theorem RDs.bls_inv {K : KK} {H : Hp} : ∀ {bs : List Bool} {vs : List V}, RDs K H (bs.map D.bl) vs → vs = bs.map V.bl
  | [], _, .nil => rfl
  | n :: r, _, .cons (.bl _) t => by rw [RDs.bls_inv t]; rfl
def rAnyq (f : List Bool → Bool) : DRC := fun ds S R => ∃ a bs, ds = [.ref a] ∧ S a = some (.lst (bs.map D.bl)) ∧ R (.bl (f bs)) S
theorem b_any (hc : X.calm = true) : CallR X (.builtin "any") (lC X.kk (rAnyq fun bs => bs.any id)) := by
  intro pins s σ H vs us Q I r ⟨ds, S, R, r1, s1, ⟨a, bs, hd, hx, q⟩, k⟩
  subst hd
  obtain ⟨v, rfl, rv⟩ := r1.inv1
  cases rv
  obtain ⟨ws, h1, qq⟩ := s1.lst hx
  cases (RDs.bls_inv qq)
  exact cr_any hc pins s σ H _ us Q I r ⟨a, bs, rfl, .of h1, k _ _ _ _ q s1 (.bl _) (.refl H)⟩
/-- data whose text may be made -/
structure Text (p : PyData) : Prop where
  dis : isDisplay p = true
  sho : p.showable = true
  nod : p.hasDict = false
  dep : p.depth ≤ 60
  len : p.shown.length ≤ sizeLine
def rRepr : DRC := fun ds S R => ∃ d p, ds = [d] ∧ Py S d p ∧ Text p ∧ R (.str p.shown) S
theorem b_repr (hgd : X.A.guards = some []) (hu : X.A.units + 64 < cLine) : CallR X (.builtin "repr") (lC X.kk rRepr) := by
  intro pins s σ H vs us Q I r ⟨ds, S, R, r1, s1, ⟨d, p, hd, hp, ht, q⟩, k⟩
  subst hd
  obtain ⟨v, rfl, rv⟩ := r1.inv1
  exact call_repr hgd hu pins s σ H _ us Q I r ⟨v, p, rfl, ⟨hp.dp s1 rv, ht.dis, ht.sho, ht.nod, ht.dep, ht.len⟩, k _ _ _ _ q s1 (.str _) (.refl H)⟩
def dMtq (T : String) (r : DRM) (to : DTE) (t : DTA) : DTE := fun env S R => to env S fun x S1 => (T = "list" ∧ ∃ xs, seqOf S1 x = some xs ∧ (∀ ds, x ≠ .tup ds) ∧ ∀ ds, x ≠ .wtup ds) ∧ t env S1 fun ds S2 => r x ds S2 R
theorem de_mL {r : DRM} {name : Str} {id : String} {o : Expr} {to : DTE} {apos cpos : Pos} (slot : Slot "list" name id) (hty : typeOf (.builtin id) = pure (.type "method_descriptor")) (hm : MtR X id (lM X.kk r)) (ho : DE X o to) (ha : DA X (e :: es) tl)
    (hbase : attributeBase o name X.env (eval o X.env) = eval o X.env := by rfl)
    (hfew : ((backTo cpos (starEach (e :: es) X.env)).all (fun x => !x.1) && (backToKw cpos (keywordEach [] X.env)).all (fun x => x.1.isSome)
      && decide ((e :: es).length + ([] : List Keyword).length + (if ([] : List Keyword).isEmpty then 0 else 1) < 30)) = true := by rfl)
    (hline : (apos.endLine == cpos.line) = true := by rfl) (hs : starEach (e :: es) X.env = (false, eval e X.env) :: starEach es X.env := by rfl) (hplain : (backTo cpos (starEach es X.env)).any (·.1) = false := by rfl) :
    DE X (.Call (.Attribute o name apos) (e :: es) [] cpos) (dMtq "list" r to tl) := by
  refine ⟨(pe_bm PySem.F.plainAttrs_list slot hty hm ho.run ha.run hbase hfew hline hs hplain).of fun σ H Q ⟨env, S, R, rs, h, k⟩ => ⟨env, S, _, rs, h, fun x S1 v H1 ⟨⟨_, xs, hx, hn⟩, q⟩ s1 r1 e1 => ⟨?_, env, S1, _, rs.ext e1 s1, q, fun ds S2 vs H2 q2 s2 r2 e2 => ?_⟩⟩⟩
  · cases r1 with
    | tup t qq => exact absurd rfl (hn.1 _)
    | wtup t qq => exact absurd rfl (hn.2 _)
    | rol t qq => exact .inl ⟨rfl, _, t.sqL⟩
    | ref a =>
      obtain ⟨ws, h1, _⟩ := s1.lst (seqOf_ref hx)
      exact .inl ⟨rfl, _, .of h1⟩
    | _ => cases hx
  · exact ⟨x, ds, S2, R, r1.ext e2, r2, s2, q2, fun z S3 w H3 q3 s3 r3 e3 => k _ _ _ _ q3 s3 r3 (e1.trans (e2.trans e3))⟩
def mAppend : DRM := fun x ds S R => ∃ l xs y, x = .ref l ∧ ds = [y] ∧ S l = some (.lst xs) ∧ xs.length < 1000000 ∧ R .non (S.put l (.lst (xs ++ [y])))
theorem m_append : MtR X "list.append" (lM X.kk mAppend) := by
  intro pins s σ H x vs v us Q I rx rv ⟨d, ds, S, R, r1, r2, s1, ⟨l, xs, y, hd, hds, hx, hl, q⟩, k⟩
  subst hd hds
  cases r1
  obtain ⟨w, rfl, rw'⟩ := r2.inv1
  obtain ⟨ws, h3, h4, s7, e7⟩ := app_rel s1 hx hl rw'
  exact mt_append pins s σ H _ _ v us Q I rx rv ⟨l, ws, w, rfl, rfl, h3, h4, k _ _ _ _ q s7 .non e7⟩
def mPopAt : DRM := fun x ds S R => ∃ l xs i j y, x = .ref l ∧ ds = [.int i] ∧ S l = some (.lst xs) ∧ -(2 ^ 63) ≤ i ∧ i < 2 ^ 63 ∧ seqIndex? i xs.length = some j ∧ xs[j]? = some y ∧ R y (S.put l (.lst (xs.eraseIdx j)))
theorem m_popAt : MtR X "list.pop" (lM X.kk mPopAt) := by
  intro pins s σ H x vs v us Q I rx rv ⟨d, ds, S, R, r1, r2, s1, ⟨l, xs, i, j, y, hd, hds, hx, h1, h2, hj, hy, q⟩, k⟩
  subst hd hds
  cases r1
  obtain ⟨w, rfl, rw'⟩ := r2.inv1
  cases rw'
  obtain ⟨ws, h3, q3⟩ := s1.lst hx
  obtain ⟨z, hz, rz⟩ := q3.at hy
  have e : Ext H (upd H l (.lst (ws.eraseIdx j))) := .put h3 trivial
  exact mt_popAt pins s σ H _ _ v us Q I rx rv ⟨l, ws, i, j, z, rfl, rfl, h3, h1, h2, q3.length ▸ hj, hz, k _ _ _ _ q (s1.put h3 trivial ⟨_, upd_same, (q3.eraseIdx j).ext e⟩) (rz.ext e) e⟩
end
end Sv
namespace Sv
open PySem PySem.Spec PyProof.Rows L2
theorem dv {X : Cx} (i : Nat) {x : Str} {pos : Pos} (hN : X.N[i]? = some x := by rfl) (hv : Vis X.env.scope x := by first | exact Or.inl rfl | exact Or.inr (Or.inl rfl) | exact Or.inr (Or.inr rfl)) (hd : (x == ("__debug__" : Str)) = false := by decide)
    (hcd : (x == ("__classdict__" : Str)) = false := by decide) : DE X (.Name x pos) (dVar i) := de_var hN hv hd hcd
section
variable {X : Cx} {a b c e : Expr} {ta tb tc te : DTE} {pos : Pos}
def rNeg : DR1 := fun d S R => match d with
  | .int i => R (.int (-i)) S
  | _ => False
theorem o_neg : UnR X (unaryOp .USub) (l1 X.kk rNeg) := by
  intro pins s σ H x v Q I rx ⟨d, S, R, r1, s1, h, k⟩
  cases r1 with
  | int i => exact un_neg pins s σ H _ v Q I rx ⟨i, rfl, k _ _ _ _ h s1 (.int _) (.refl H)⟩
  | _ => exact h.elim
/-- a op b op c -/
def dChain (r r' : DR2) (ta tb tc : DTE) : DTE := fun env S R => ta env S fun x S1 => tb env S1 fun y S2 => r x y S2 fun z S3 => ∃ k, z = .bl k ∧ if k = true then tc env S3 fun w S4 => r' y w S4 R else R (.bl false) S3
theorem de_chain {op op' : CmpOp} {r r' : DR2} (ho : OpR X (compareOp op) (l2 X.kk r)) (ho' : OpR X (compareOp op') (l2 X.kk r')) (ha : DE X a ta) (hb : DE X b tb) (hc : DE X c tc)
    (hm : lastMarks [op, op'] [b, c] = false := by with_unfolding_all rfl) : DE X (.Compare a [op, op'] [b, c] pos) (dChain r r' ta tb tc) := by
  refine ⟨(pe_chain ho ho' ha.run hb.run hc.run hm).of fun σ H Q ⟨env, S, R, rs, h, k⟩ => ⟨env, S, _, rs, h, fun x S1 v H1 q1 s1 r1 e1 => ⟨env, S1, _, rs.ext e1 s1, q1, fun y S2 u H2 q2 s2 r2 e2 => ⟨x, y, S2, _, r1.ext e2, r2, s2, q2, fun z S3 w H3 ⟨kk, hz, q3⟩ s3 r3 e3 => ?_⟩⟩⟩⟩
  subst hz
  cases r3
  refine ⟨kk, rfl, ?_⟩
  cases kk with
  | false => exact k _ _ _ _ q3 s3 (.bl _) (e1.trans (e2.trans e3))
  | true => exact ⟨env, S3, _, rs.ext (e1.trans (e2.trans e3)) s3, q3, fun w S4 t H4 q4 s4 r4 e4 => ⟨y, w, S4, R, r2.ext (e3.trans e4), r4, s4, q4, fun z S5 t H5 q5 s5 r5 e5 => k _ _ _ _ q5 s5 r5 (e1.trans (e2.trans (e3.trans (e4.trans e5))))⟩⟩
def dLRg2 (ta tb : DTE) : DTE := fun env S R => ta env S fun d S1 => tb env S1 fun e S2 => ∃ m n : Int, d = .int m ∧ e = .int n ∧ -1000 ≤ m ∧ m ≤ 1000 ∧ -1000 ≤ n ∧ n ≤ 1000 ∧ ∀ p, S2 p = none → R (.ref p) (S2.put p (.lst (rgD m (n - m).toNat)))
theorem rg_rel {K : KK} {H : Hp} {lo : Int} : ∀ {n : Nat}, RDs K H (rgD lo n) ((List.range n).map fun i => V.int (lo + (i : Nat))) := by
  intro n
  unfold rgD
  induction List.range n with
  | nil => exact .nil
  | cons i r ih => exact .cons (.int _) ih
theorem rg_relV {K : KK} {H : Hp} {m n : Int} : RDs K H (rgD m (n - m).toNat) (rgV m n) := rg_rel
theorem de_listRg2 {p p2 pos2 : Pos} (hc : X.calm = true) (hg : Gl X "list") (hm : X.mg "list" = none) (hg2 : Gl X "range") (hm2 : X.mg "range" = none) (ha : DE X a ta) (hb : DE X b tb) (na : starEach [a, b] X.env = (false, eval a X.env) :: starEach [b] X.env := by rfl) (na2 : starEach [b] X.env = (false, eval b X.env) :: starEach [] X.env := by rfl) (hp : (backTo pos2 (starEach [b] X.env)).any (fun x => x.1) = false := by rfl)
    (nb : starEach [.Call (.Name "range" p2) [a, b] [] pos2] X.env = (false, eval (.Call (.Name "range" p2) [a, b] [] pos2) X.env) :: starEach [] X.env := by rfl) : DE X (.Call (.Name "list" p) [.Call (.Name "range" p2) [a, b] [] pos2] [] pos) (dLRg2 ta tb) := by
  refine ⟨(pe_listRg hc hg hm (prg_2 hg2 hm2 ha.run hb.run na na2 hp) nb).of fun σ H Q ⟨env, S, R, rs, h, k⟩ => ⟨env, S, _, rs, h, fun d S1 v H1 q1 s1 r1 e1 => ⟨env, S1, _, rs.ext e1 s1, q1, fun e S2 u H2 ⟨m, n, hd, he, h0, h1, hn0, hn, q⟩ s2 r2 e2 => ?_⟩⟩⟩
  subst hd he
  cases r1
  cases r2
  refine ⟨m, n, rfl, rfl, ⟨by omega, by omega, by omega, by omega, by omega⟩, fun p np => k _ _ _ _ (q p (s2.fresh np)) (s2.lay np ⟨_, upd_same, rg_relV⟩) (.ref p) (e1.trans (e2.trans (.new np)))⟩
end
def dStart (n : Nat) (ds : List D) : Env := ds.map some ++ List.replicate (n - ds.length) none
def dFn (n : Nat) (B : DTS) : DRC := fun ds S R => B { nx := fun _ S' => R .non S', rt := R } (dStart n ds) S
section
variable {P : Program} {w : World} {K : PySem.W.Frag} {mg : Str → Option Value} {base : Heap}
theorem rs_start {K : KK} {H : Hp} {S : Sto} {N : List Str} {ds : List D} {vs : List V} (r : RDs K H ds vs) (s : RelS K S H) : RS K (L2.start N vs) H (dStart N.length ds) S := by
  have hl := r.length
  refine ⟨by unfold dStart L2.start; rw [List.length_append, List.length_append, List.length_map, List.length_map, List.length_replicate, List.length_replicate, hl], fun i d h => ?_, s⟩
  unfold dStart at h
  unfold L2.start
  by_cases hi : i < ds.length
  · rw [List.getElem?_append_left (by simpa using hi), List.getElem?_map] at h
    have hd : ds[i]? = some d := by
      cases e : ds[i]? with
      | none => rw [e] at h; cases h
      | some a => rw [e] at h; cases h; rfl
    obtain ⟨v, hv, rv⟩ := r.at hd
    exact ⟨v, by rw [List.getElem?_append_left (by rw [List.length_map]; omega), List.getElem?_map, hv]; rfl, rv⟩
  · rw [List.getElem?_append_right (by simpa using hi), List.getElem?_replicate] at h
    split at h <;> cases h
theorem fn_d {x : Str} {st : Stmt} {f : Addr} {fd : FuncData} {N ps : List Str} {k n : Nat} {B : DTS} (F : Fun K x x st f fd) (Sc : FnScope N ps (defScope st)) (hn : ps.length = n)
    (hbody : ∀ (cdv : Value) (A : Around) (outer : List PySem.Env) (s : Shared) (H : Hp) (E : XK), A.guards = some [] → Room k (A.deeper (envOfC x (defScope st) s.heap.objs.size f cdv)) →
      DSs (cxOf CX0 P w K mg base N x (defScope st) f cdv A outer s H E).nox (defBody st) B) : FnG P w K mg base (k + 1) f fd ps (lP ⟨P, w, K⟩ n (dFn N.length B)) := by
  refine okG F Sc (fun vs H Q E h => by rw [hn]; exact h.1) fun cdv A outer s H vs Q E hg hr h => ⟨_, (hbody cdv A outer s H E hg hr).run, ?_⟩
  obtain ⟨_, ds, S, R, r, s1, q, k⟩ := h
  exact ⟨_, S, _, rs_start r s1, q, fun env' S' σ' H' q' r' e' => k _ _ _ _ q' r'.sto .non e', fun d S' v H' q' s' r' e' => k _ _ _ _ q' s' r' e', fun _ _ _ _ q' => q'.elim, fun _ _ _ _ q' => q'.elim⟩
theorem DFn.mk' {k n : Nat} {x : Str} {r : DRC} {f : Addr} {fd : FuncData} {ps : List Str} (F : FnG P w K mg base k f fd ps (lP ⟨P, w, K⟩ n r)) (hm : mg x = some (.ref f)) (hk : PySem.W.keepIn K (.ref f) = true) (hb : Binds K fd ps []) : DFn P w K mg base k x n r :=
  ⟨f, fd, ps, F, hm, hk, hb⟩
theorem lP_law {K : KK} {H : Hp} {a : Addr} {ns : List Int} {r : DRC} (hO : Only H) (h : SqL K.k H a (ns.map V.int)) (q : r [.rol (intsD ns)] (fun _ => none) (fun d _ => d = .bl true)) : lP K 1 r [.ref a] H (fun v _ => v = .bl true) (fun _ _ _ => False) := by
  refine ⟨rfl, [.rol (intsD ns)], fun _ => none, _, .cons (.rol ?_ (.ints ns)) .nil, fun a o e => (nomatch e), q, fun z S' v H' e _ rz _ => ?_⟩
  · rcases h with h | h
    · rcases h with h | ⟨o, h⟩
      · rcases hO a with z | ⟨o, u, z⟩
        · rw [h] at z; cases z
        · rw [h] at z; cases z
      · exact .inl ⟨o, h⟩
    · exact .inr h
  · subst e
    cases rz
    rfl
end
end Sv
namespace Sv
open PySem PySem.Spec PyProof.Rows L2
section
variable {X : Cx} {pos : Pos}
/-- tuple * int, known to bear no dict -/
def rRepF (K : PySem.W.Frag) : R2 := fun x y H Q => ∃ l k xs, x = .ref l ∧ y = .int k ∧ SqT K H l xs ∧ xs ≠ [] ∧ 2 ≤ k ∧ k ≤ 1000 ∧ xs.length ≤ 1000 ∧ ∀ (p : Addr) (o : Obj), H p = none → o.dict = none → Q (.ref p) (upd H p (.frz o (.tup (List.replicate k.toNat xs).flatten)))
theorem op_repF : OpR X (binaryOp .Mult) (rRepF X.K) := by
  intro pins s σ H x y v u Q I rx ry h
  obtain ⟨l, k, xs, rfl, rfl, hT, hne, h1, h2, hz, q⟩ := h
  cases rx
  obtain ⟨t, rfl⟩ := ry
  obtain ⟨its, r, ⟨⟨cls, dd, data, sl⟩, ho, hc, n, hd⟩, hs⟩ := I.tuple hT
  simp only at hc hd
  subst hc hd
  have e1 : its.length = xs.length := r.length.symm
  have ne : its.toArray.isEmpty = false := by
    cases its with
    | nil => exact absurd (List.eq_nil_of_length_eq_zero e1.symm) hne
    | cons a b => rfl
  have e2 : its.toArray.size = xs.length := by rw [List.size_toArray, e1]
  have a1 : k.toNat * xs.length ≤ 1000 * 1000 := Nat.mul_le_mul (by omega) hz
  have a2 : ((xs.length : Nat) : Int) * k ≤ 1000000 := by
    have b1 : ((xs.length : Nat) : Int) * k ≤ 1000 * k := Int.mul_le_mul_of_nonneg_right (by omega) (by omega)
    omega
  have fl : (List.replicate k.toNat its).flatten.length ≤ sizeLine := by
    rw [PyProof.Rows.lm_len_rep_flat, e1, sizeLine_eq]
    omega
  have c4 : Builtin.Tuple.tupleTooMany (((its.toArray.size : Nat) : Int) * k) = false := by
    unfold Builtin.Tuple.tupleTooMany
    rw [sizeLine_eq, e2]
    exact decide_eq_false (by omega)
  refine wpAny_binaryOp_repeat_ref (T := "tuple") (U := "int") (by decide) ⟨_, ho, rfl⟩ (fun s' => typeIs_int s' k t) noFill_tuple_mul F.fills_int_mul F.slot_int_rmul repeat_tuple F.slot_int_index.lookup
    (call_meets F.slot_int_rmul (typeIs_int s k t) F.entry_int_rmul (F.args_int_rmul_2 _ _) (int_rmul_tuple k t l its.toArray n dd sl)
      ⟨ho, rfl, ⟨_, ho, rfl⟩, call_meets F.slot_tuple_mul ⟨_, ho, rfl⟩ F.entry_tuple_mul (F.args_tuple_mul_2 _ _)
        (tuple_mulW l its.toArray n dd sl k t (by rw [decide_eq_false (by omega), decide_eq_false (by omega)] <;> rfl) (by rw [ne, Bool.false_or]; exact beq_eq_false_iff_ne.mpr (by omega)) (by rw [ne, Bool.or_false]; exact decide_eq_false (by omega)) (by rw [e2]; omega) c4 (by rw [size_rep, List.size_toArray]; exact fl)) ⟨ho, ?_⟩⟩)
  rw [size_rep]
  have hg := Heap.get?_push_size s.heap (o := { cls := .type "tuple", data := .seq (List.replicate k.toNat its).flatten.toArray }) rfl
  refine ⟨.ref s.heap.objs.size, _, I.laid (t' := s.toks) (o := .frz { cls := .type "tuple", data := .seq (List.replicate k.toNat its).flatten.toArray } (.tup (List.replicate k.toNat xs).flatten)) (fun b ob q => Heap.get?_push_of_some _ q) (Nat.le_refl _) ?_, rfl, q _ _ (I.hok.fresh (Nat.le_refl _)) rfl⟩
  exact ⟨hg, by rw [PyProof.Rows.lm_len_rep_flat, sizeLine_eq]; omega, _, r.rep k.toNat, ⟨_, hg, rfl, _, rfl⟩⟩
theorem RDs.rep {K : KK} {H : Hp} {ds : List D} {vs : List V} (r : RDs K H ds vs) : ∀ n : Nat, RDs K H (List.replicate n ds).flatten (List.replicate n vs).flatten
  | 0 => .nil
  | n + 1 => by
    rw [List.replicate_succ, List.replicate_succ, List.flatten_cons, List.flatten_cons]
    exact r.append (RDs.rep r n)
theorem rep_one {α : Type} (xs : List α) : (List.replicate (1 : Int).toNat xs).flatten = xs := by
  show (List.replicate 1 xs).flatten = xs
  simp
theorem o_mul : OpR X (binaryOp .Mult) (l2 X.kk rMul) := by
  intro pins s σ H x y v u Q I rx ry ⟨d, e, S, R, r1, r2, s1, h, k⟩
  cases r1 with
  | int i =>
    cases r2 with
    | int j => exact op_mul pins s σ H _ _ v u Q I rx ry ⟨i, j, rfl, rfl, h.1, k _ _ _ _ h.2 s1 (.int _) (.refl H)⟩
    | _ => exact h.elim
  | tup t q =>
    cases r2 with
    | int j =>
      obtain ⟨hne, h1, h2, hz, qq⟩ := h
      by_cases hj : j = 1
      · subst hj
        rw [rep_one] at qq
        exact op_rep1 pins s σ H _ _ v u Q I rx ry ⟨_, _, rfl, rfl, t.sqT, k _ _ _ _ qq s1 (.tup t q) (.refl H)⟩
      · have hl := q.length
        refine op_repF pins s σ H _ _ v u Q I rx ry ⟨_, j, _, rfl, rfl, t.sqT, fun z => hne (List.eq_nil_of_length_eq_zero (by rw [hl, z]; rfl)), by omega, h2, hl ▸ hz, fun p o np ho => k _ _ _ _ qq (s1.new np) (.tup (.new ho) ((q.rep _).ext (.new np))) (.new np)⟩
    | _ => exact h.elim
  | ref a =>
    cases r2 with
    | int j =>
      obtain ⟨xs, h1, h0, hk, hz, qq⟩ := h
      obtain ⟨vs, e, q⟩ := s1.lst h1
      refine op_rep pins s σ H _ _ v u Q I rx ry ⟨a, j, vs, rfl, rfl, e, by omega, by omega, ?_, fun p np => k _ _ _ _ (qq p (s1.fresh np)) (s1.lay np ⟨_, upd_same, (q.rep _).ext (.new np)⟩) (.ref p) (.new np)⟩
      rw [← q.length]
      have : xs.length * j.toNat ≤ 1000 * 1000 := Nat.mul_le_mul hz (by omega)
      exact Nat.le_trans this (by decide)
    | _ => exact h.elim
  | _ => exact h.elim
end
end Sv
namespace Sv
open PySem PySem.Spec PyProof.Rows L2
section
variable {P : Program} {w : World} {K : PySem.W.Frag} {mg : Str → Option Value} {base : Heap}
theorem fn_o {x : Str} {st : Stmt} {f : Addr} {fd : FuncData} {N ps : List Str} {k n : Nat} {B : DTS} (F : Fun K x x st f fd) (Sc : FnScope N ps (defScope st)) (hn : ps.length = n)
    (hbody : ∀ (cdv : Value) (A : Around) (outer : List PySem.Env) (s : Shared) (H : Hp) (E : XK), Room k (A.deeper (envOfC x (defScope st) s.heap.objs.size f cdv)) →
      DSs (cxOf CX0 P w K mg base N x (defScope st) f cdv A outer s H E).nox (defBody st) B) : FnOk P w K mg base CX0 (k + 1) f fd ps (lP ⟨P, w, K⟩ n (dFn N.length B)) := by
  refine F.ok Sc (fun vs H Q E h => by rw [hn]; exact h.1) fun cdv A outer s H vs Q E hr h => ⟨_, (hbody cdv A outer s H E hr).run, ?_⟩
  obtain ⟨_, ds, S, R, r, s1, q, k⟩ := h
  exact ⟨_, S, _, rs_start r s1, q, fun env' S' σ' H' q' r' e' => k _ _ _ _ q' r'.sto .non e', fun d S' v H' q' s' r' e' => k _ _ _ _ q' s' r' e', fun _ _ _ _ q' => q'.elim, fun _ _ _ _ q' => q'.elim⟩
theorem DFo.mk' {k n : Nat} {x : Str} {r : DRC} {f : Addr} {fd : FuncData} {ps : List Str} (F : FnOk P w K mg base CX0 k f fd ps (lP ⟨P, w, K⟩ n r)) (hm : mg x = some (.ref f)) (hk : PySem.W.keepIn K (.ref f) = true) (hb : Binds K fd ps []) : DFo P w K mg base k x n r :=
  ⟨f, fd, ps, F, hm, hk, hb⟩
theorem DFs.mk' {k : Nat} {x : Str} {r : DRC} {f : Addr} (F : FnR P w K mg base CX0 k f (fun vs H Q _ => lC ⟨P, w, K⟩ r vs H Q)) (hm : mg x = some (.ref f)) (hk : PySem.W.keepIn K (.ref f) = true) : DFs P w K mg base k x r := ⟨f, F, hm, hk⟩
end
section
variable {X : Cx} {a b e : Expr} {es : List Expr} {ta tb te : DTE} {tl : DTA} {pos p : Pos}
def kD : Key → D
  | .inl i => .int i
  | .inr x => .str x
theorem kD_inv {K : KK} {H : Hp} {k : Key} {v : V} (r : RD K H (kD k) v) : v = kV k := by
  cases k with
  | inl i => cases r; rfl
  | inr x => cases r; rfl
def putD (kvs : List (Key × D)) (k : Key) (v : D) : List (Key × D) :=
  if (kvs.any fun kv => decide (kv.1 = k)) = true then kvs.map (fun kv => if kv.1 = k then (kv.1, v) else kv) else kvs ++ [(k, v)]
def getD' (kvs : List (Key × D)) (k : Key) : Option D := (kvs.find? fun kv => decide (kv.1 = k)).map (·.2)
theorem RDk.any {K : KK} {H : Hp} {k : Key} : ∀ {ds : List (Key × D)} {vs : List (Key × V)}, RDk K H ds vs → (ds.any fun kv => decide (kv.1 = k)) = (vs.any fun kv => decide (kv.1 = k))
  | _, _, .nil => rfl
  | _, _, .cons r t => by rw [List.any_cons, List.any_cons, RDk.any t]
theorem RDk.app {K : KK} {H : Hp} : ∀ {ds es : List (Key × D)} {vs ws : List (Key × V)}, RDk K H ds vs → RDk K H es ws → RDk K H (ds ++ es) (vs ++ ws)
  | _, _, _, _, .nil, s => s
  | _, _, _, _, .cons r t, s => .cons r (RDk.app t s)
theorem RDk.mapK {K : KK} {H : Hp} {k : Key} {d : D} {v : V} (h : RD K H d v) : ∀ {ds : List (Key × D)} {vs : List (Key × V)}, RDk K H ds vs → RDk K H (ds.map fun kv => if kv.1 = k then (kv.1, d) else kv) (vs.map fun kv => if kv.1 = k then (kv.1, v) else kv)
  | _, _, .nil => .nil
  | _, _, @RDk.cons _ _ k' d' ds v' vs r t => by
    rw [List.map_cons, List.map_cons]
    by_cases z : k' = k
    · subst z
      simp only [if_true]
      exact .cons h (RDk.mapK h t)
    · simp only [z, if_false]
      exact .cons r (RDk.mapK h t)
theorem RDk.put {K : KK} {H : Hp} {k : Key} {d : D} {v : V} (h : RD K H d v) {ds : List (Key × D)} {vs : List (Key × V)} (r : RDk K H ds vs) : RDk K H (putD ds k d) (putK vs k v) := by
  unfold putD putK
  rw [r.any]
  by_cases z : (vs.any fun kv => decide (kv.1 = k)) = true
  · rw [if_pos z, if_pos z]
    exact r.mapK h
  · rw [if_neg z, if_neg z]
    exact r.app (.cons h .nil)
theorem RDk.get {K : KK} {H : Hp} {k : Key} : ∀ {ds : List (Key × D)} {vs : List (Key × V)}, RDk K H ds vs → (∀ d, getD' ds k = some d → ∃ v, valV vs k = some v ∧ RD K H d v) ∧ (getD' ds k = none → valV vs k = none)
  | _, _, .nil => ⟨fun d h => (nomatch h), fun _ => rfl⟩
  | _, _, @RDk.cons _ _ k' d' ds v' vs r t => by
    have ih := RDk.get (k := k) t
    unfold getD' valV at ih ⊢
    rw [List.find?_cons, List.find?_cons]
    by_cases z : k' = k
    · subst z
      simp only [decide_true]
      exact ⟨fun d h => ⟨v', rfl, by cases h; exact r⟩, fun h => (nomatch h)⟩
    · simp only [z, decide_false]
      exact ih
/-- what a dict holds -/
def dictOf (S : Sto) : D → Option (List (Key × D))
  | .dct kvs => some kvs
  | .ref a => match S a with
    | some (.dK kvs) => some kvs
    | _ => none
  | _ => none
theorem dict_rel {K : KK} {S : Sto} {H : Hp} {d : D} {v : V} {kvs : List (Key × D)} (s : RelS K S H) (r : RD K H d v) (h : dictOf S d = some kvs) : ∃ a vs, v = .ref a ∧ Rd H a (.dK vs) ∧ RDk K H kvs vs := by
  cases r with
  | dct t q => cases h; exact ⟨_, _, rfl, .inr ⟨_, t⟩, q⟩
  | ref a =>
    have h : (match S a with
      | some (.dK kvs) => some kvs
      | _ => none) = some kvs := h
    split at h
    · rename_i e
      cases h
      obtain ⟨vs, h1, h2⟩ := s a _ e
      exact ⟨a, vs, rfl, .inl h1, h2⟩
    · cases h
  | _ => cases h
/-- k in d -/
def dDin (n : Bool) (ta tb : DTE) : DTE := fun env S R => ta env S fun y S1 => tb env S1 fun x S2 => ∃ kvs k, dictOf S2 x = some kvs ∧ y = kD k ∧ R (.bl ((getD' kvs k).isSome ^^ n)) S2
theorem getD_some {K : KK} {H : Hp} {kvs : List (Key × D)} {vs : List (Key × V)} {k : Key} (r : RDk K H kvs vs) : (getD' kvs k).isSome = (valV vs k).isSome := by
  cases h : getD' kvs k with
  | none => rw [r.get.2 h]; rfl
  | some d => obtain ⟨v, h1, _⟩ := r.get.1 d h; rw [h1]; rfl
theorem lE_din {K : KK} {σ : L2.St} {H : Hp} {Q : VK} (h : lE K (dDin false ta tb) σ H Q) : tDIn (lE K ta) (lE K tb) σ H Q := by
  obtain ⟨env, S, R, rs, h, k⟩ := h
  refine ⟨env, S, _, rs, h, fun y S1 v H1 q1 s1 r1 e1 => ⟨env, S1, _, rs.ext e1 s1, q1, fun x S2 u H2 ⟨kvs, kk, hx, hy, q⟩ s2 r2 e2 => ?_⟩⟩
  subst hy
  obtain ⟨aa, vs, rfl, h1, h2⟩ := dict_rel s2 r2 hx
  cases kD_inv r1
  rw [xor_ff, getD_some h2] at q
  exact ⟨aa, _, rfl, .inl ⟨vs, kk, h1, rfl, rfl⟩, k _ _ _ _ q s2 (.bl _) (e1.trans e2)⟩
theorem dt_din (hu : X.A.units + 1 < cLine) (ha : DE X a ta) (hb : DE X b tb) (hm : behindInMarks .In b = false := by rfl) : DT X (.Compare a [.In] [b] pos) (dB (dDin false ta tb)) := ⟨(pt_cmp (pc_din hu ha.run hb.run) hm).of fun _ _ _ h => by
  obtain ⟨env, S, R, rs, h, k⟩ := lT_b h
  exact lE_din ⟨env, S, R, rs, h, k⟩⟩
end
end Sv
namespace Sv
open PySem PySem.Spec PyProof.Rows L2
def spLawD (K : PySem.W.Frag) : Sp := fun vs H Q _ => ∃ (a : Addr) (ns : List Int), vs = [.ref a] ∧ Only H ∧ SqL K H a (ns.map V.int) ∧ ns.length ≤ 63 ∧ ∀ H', Q (.bl true) H'
theorem FnG.lawD {P : Program} {w : World} {K : PySem.W.Frag} {mg : Str → Option Value} {base : Heap} {k : Nat} {f : Addr} {fd : FuncData} {ps : List Str} {r : DRC} (F : FnG P w K mg base k f fd ps (lP ⟨P, w, K⟩ 1 r)) (hp : ps.length = 1)
    (h : ∀ ns : List Int, ns.length ≤ 63 → r [.rol (intsD ns)] (fun _ => none) (fun d _ => d = .bl true)) : FnG P w K mg base k f fd ps (spLawD K) := by
  have go : ∀ vs H Q E, spLawD K vs H Q E → lP ⟨P, w, K⟩ 1 r vs H Q E := by
    rintro vs H Q E ⟨a, ns, rfl, hO, hS, hl, q⟩
    obtain ⟨h1, ds, S, R, h2, h3, h4, h5⟩ := lP_law (K := ⟨P, w, K⟩) hO hS (h ns hl)
    exact ⟨h1, ds, S, R, h2, h3, h4, fun z S' v H' a1 a2 a3 a4 => by
      obtain rfl := h5 z S' v H' a1 a2 a3 a4
      exact q H'⟩
  refine ⟨fun vs H Q E h => ?_, fun A hg outer s H args us vs Q E hr e0 hb rv hsp => F.run A hg outer s H args us vs Q E hr e0 hb rv (go _ _ _ _ hsp)⟩
  obtain ⟨a, ns, rfl, _⟩ := h
  rw [hp]
  rfl
end Sv
namespace Sv
open PySem PySem.Spec PyProof.Rows L2
section
variable {X : Cx}
def prD (p : Int × Int) : D := .tup [.int p.1, .int p.2]
end
end Sv
namespace Sv
open PySem PySem.Spec PyProof.Rows L2
section
variable {X : Cx} {a b c e o : Expr} {es : List Expr} {ta tb tc te : DTE} {tl : DTA} {pos p : Pos}
theorem de_ty {x : Str} {n : String} (hg : Gl X x) (hm : X.mg x = none) (hv : bootBuiltins x = some (.type n)) (hn : x ≠ "__name__" := by decide) (hdb : (x == ("__debug__" : Str)) = false := by decide) : DE X (.Name x pos) (dC (.ty n)) :=
  ⟨(pe_bltn (v := .ty n) hg hm hv rfl hn hdb).of fun σ H Q ⟨env, S, R, rs, q, k⟩ => k _ _ _ _ q rs.sto (.ty n) (.refl H)⟩
def tyD (S : Sto) : D → Option String
  | .non => some "NoneType"
  | .bl _ => some "bool"
  | .int _ => some "int"
  | .str _ => some "str"
  | .tup _ => some "tuple"
  | .wtup _ => some "tuple"
  | .rol _ => some "list"
  | .dct _ => some "dict"
  | .ref a => match S a with
    | some (.lst _) => some "list"
    | some (.dK _) => some "dict"
    | _ => none
  | _ => none
theorem ty_rel {K : KK} {S : Sto} {H : Hp} {d : D} {v : V} {t : String} (s : RelS K S H) (r : RD K H d v) (h : tyD S d = some t) : TyX K.k H v (.type t) := by
  cases r with
  | non => cases h; exact .base .non
  | bl b => cases h; exact .base (.bl b)
  | int i => cases h; exact .base (.int i)
  | str x => cases h; exact .base (.str x)
  | ty n => cases h
  | tup t _ =>
    cases h
    obtain ⟨o, t, _⟩ := t
    exact .fTuple t
  | wtup t _ => cases h; exact .base (.tup t)
  | rol t _ =>
    cases h
    rcases t with ⟨o, t⟩ | ⟨o, its, n, h1, h2, _⟩
    · exact .base (.frz t)
    · exact .kList h1 h2
  | dct t _ => cases h; exact .fDict t
  | ref a =>
    have h : (match S a with
      | some (.lst _) => some "list"
      | some (.dK _) => some "dict"
      | _ => none) = some t := h
    split at h
    · rename_i e
      cases h
      obtain ⟨vs, h1, _⟩ := s a _ e
      exact .base (.lst h1)
    · rename_i e
      cases h
      obtain ⟨vs, h1, _⟩ := s a _ e
      exact .base (.dK h1)
    · cases h
def rIsi : DRC := fun ds S R => ∃ d T t b, ds = [d, .ty T] ∧ tyD S d = some t ∧ kitB t T = some b ∧ R (.bl b) S
theorem b_isi : CallR X (.builtin "isinstance") (lC X.kk Sv.rIsi) := by
  intro pins s σ H vs us Q I r ⟨ds, S, R, r1, s1, ⟨d, T, t, b, hd, ht, hk, q⟩, k⟩
  subst hd
  obtain ⟨v, u, rfl, rv, ru⟩ := r1.inv2
  cases ru
  exact call_isi pins s σ H _ us Q I r ⟨v, .ty T, .type t, .type T, b, rfl, .ty T, ty_rel s1 rv ht, kit_ty hk, k _ _ _ _ q s1 (.bl _) (.refl H)⟩
theorem isi_ii : kitB "int" "int" = some true := by decide +kernel
theorem isi_ib : kitB "int" "bool" = some false := by decide +kernel
theorem RDs.dropLast {K : KK} {H : Hp} {ds : List D} {vs : List V} (r : RDs K H ds vs) : RDs K H ds.dropLast vs.dropLast := by
  rw [List.dropLast_eq_take, List.dropLast_eq_take, r.length]
  exact r.take _
def mRemove : DRM := fun x ds S R => ∃ l xs y ps p j, x = .ref l ∧ ds = [y] ∧ S l = some (.lst xs) ∧ Pys S xs ps ∧ Py S y p ∧ PyData.plainAll ps = true ∧ p.plain = true ∧ p.depth ≤ 60 ∧ SeqAt.dataPlace ps p = some j ∧ R .non (S.put l (.lst (xs.eraseIdx j)))
theorem m_remove (hu : X.A.units + 64 < cLine) : MtR X "list.remove" (lM X.kk mRemove) := by
  intro pins s σ H x vs v us Q I rx rv ⟨d, ds, S, R, r1, r2, s1, ⟨l, xs, y, ps, p, j, hd, hds, hx, h1, h2, h3, h4, h5, h6, q⟩, k⟩
  subst hd hds
  cases r1
  obtain ⟨w, rfl, rw'⟩ := r2.inv1
  obtain ⟨ws, g3, q3⟩ := s1.lst hx
  have e : Ext H (upd H l (.lst (ws.eraseIdx j))) := .put g3 trivial
  exact mt_removeD hu pins s σ H _ _ v us Q I rx rv ⟨l, w, p, ws, ps, j, rfl, rfl, g3, Pys.dp s1 h1 q3, Py.dp s1 h2 rw', h3, h4, h5, h6, k _ _ _ _ q (s1.put g3 trivial ⟨_, upd_same, (q3.eraseIdx j).ext e⟩) .non e⟩
def dDNew : DTE := fun _ S R => ∀ p, S p = none → R (.ref p) (S.put p (.dK []))
theorem de_dnew : DE X (.Dict [] [] pos) dDNew := ⟨pe_dnewK.of fun σ H Q ⟨env, S, R, rs, q, k⟩ p np =>
  k _ _ _ _ (q p (rs.sto.fresh np)) (rs.sto.lay np ⟨_, upd_same, .nil⟩) (.ref p) (.new np)⟩
def dDPut (td ty tv : DTE) : DTS := fun C env S => tv env S fun v S1 => td env S1 fun x S2 => ty env S2 fun y S3 => ∃ a kvs k, x = .ref a ∧ y = kD k ∧ S3 a = some (.dK kvs) ∧ kvs.length < 1000000 ∧ C.nx env (S3.put a (.dK (putD kvs k v)))
theorem ds_dput {i : Expr} {pos' : Pos} {td ty tv : DTE} (hu : X.A.units + 1 < cLine) (ho : DE X o td) (hi : DE X i ty) (hv : DE X e tv) (hs : swapsWith e (some (.Subscript o i pos')) pos.line X.env = pure false := by rfl) : DS X (.Assign [.Subscript o i pos'] e pos) (dDPut td ty tv) := by
  refine ⟨(ps_dput hu ho.run hi.run hv.run hs).of fun σ H B ⟨env, S, C, rs, h, k, _⟩ => ⟨env, S, _, rs, h, fun v S1 u H1 q1 s1 r1 e1 => ⟨env, S1, _, rs.ext e1 s1, q1, fun x S2 w H2 q2 s2 r2 e2 => ⟨env, S2, _, rs.ext (e1.trans e2) s2, q2, fun y S3 t H3 ⟨aa, kvs, kk, hx, hy, ha, hl, q3⟩ s3 r3 e3 => ?_⟩⟩⟩⟩
  subst hx hy
  cases r2
  cases kD_inv r3
  obtain ⟨vs, h3, h4⟩ := s3 aa _ ha
  have e4 : Ext H3 (upd H3 aa (.dK (putK vs kk u))) := .put h3 trivial
  have ea : Ext H (upd H3 aa (.dK (putK vs kk u))) := e1.trans (e2.trans (e3.trans e4))
  exact ⟨aa, _, rfl, .k h3 (Nat.lt_of_lt_of_le (h4.length ▸ hl) (by decide)), k _ _ _ _ q3 (rs.ext ea (s3.put (o := .dK (putD kvs kk v)) h3 trivial ⟨_, upd_same, (h4.put (r1.ext (e2.trans e3))).ext e4⟩)) ea⟩
def rReprX : DRC := fun ds S R => (∃ b, ds = [.bl b] ∧ R (.str (if b = true then "True" else "False")) S) ∨ (ds = [.non] ∧ R (.str "None") S) ∨ rRepr ds S R
theorem b_reprX (hgd : X.A.guards = some []) (hu : X.A.units + 64 < cLine) : CallR X (.builtin "repr") (lC X.kk rReprX) := by
  intro pins s σ H vs us Q I r ⟨ds, S, R, r1, s1, h, k⟩
  rcases h with ⟨b, hd, q⟩ | ⟨hd, q⟩ | h
  · subst hd
    obtain ⟨v, rfl, rv⟩ := r1.inv1
    cases rv
    obtain ⟨u, rfl, ru⟩ := vals1 r
    cases ru
    exact PySem.P.repr_of_bool ⟨.str _, H, I.kept (t' := s.toks + 1) (fun b o e => e), ⟨_, rfl⟩, k _ _ _ _ q s1 (.str _) (.refl H)⟩
  · subst hd
    obtain ⟨v, rfl, rv⟩ := r1.inv1
    cases rv
    obtain ⟨u, rfl, ru⟩ := vals1 r
    cases ru
    exact PySem.P.repr_of_none ⟨.str _, H, I.kept (t' := s.toks + 1) (fun b o e => e), ⟨_, rfl⟩, k _ _ _ _ q s1 (.str _) (.refl H)⟩
  · exact b_repr hgd hu pins s σ H vs us Q I r ⟨ds, S, R, r1, s1, h, k⟩
end
end Sv
namespace Sv
open PySem PySem.Spec PyProof.Rows L2
section
variable {X : Cx} {a b c e o : Expr} {es : List Expr} {ta tb tc te : DTE} {tl : DTA} {pos p : Pos}
theorem Pys.len {S : Sto} : ∀ {ds : List D} {ps : List PyData}, Pys S ds ps → ds.length = ps.length
  | _, _, .nil => rfl
  | _, _, .cons _ t => by rw [List.length_cons, List.length_cons, Pys.len t]
end
end Sv
namespace Sv
open PySem L2
/-- is_number: 0 value -/
def B_is_number_52f5 : DTS := dRet (dAndV (dCB rIsi (dCons (dVar 0) (dCons (dC (.ty "int")) (dNil)))) (dNotV (dCB rIsi (dCons (dVar 0) (dCons (dC (.ty "bool")) (dNil))))))
end Sv
namespace Sv
open PySem PySem.Spec PyProof.Rows L2
section
variable {X : Cx}
theorem RDs.tups {K : KK} {H : Hp} : ∀ {L0 : List (List Int)} {vs : List V}, RDs K H (L0.map fun q => .tup (intsD q)) vs → ∃ ks : List (Addr × List Int), vs = ks.map (fun p => V.ref p.1) ∧ L0 = ks.map (·.2) ∧ ∀ p ∈ ks, TupN H p.1 (p.2.map V.int)
  | [], _, .nil => ⟨[], rfl, rfl, fun p hp => (nomatch hp)⟩
  | q :: L0, _, .cons r rs => by
    obtain ⟨ks, h1, h2, h3⟩ := RDs.tups (L0 := L0) rs
    cases r with
    | @tup a _ vs ht qq =>
      cases (RDs.ints_inv qq)
      refine ⟨(a, q) :: ks, by rw [h1]; rfl, by rw [h2]; rfl, fun p hp => ?_⟩
      rcases List.mem_cons.mp hp with rfl | hp
      · exact ht
      · exact h3 p hp
end
end Sv
set_option maxHeartbeats 2000000
namespace Sv
open PySem PySem.Spec PyProof.Rows L2
section
variable {P : Program} {w : World} {K : PySem.W.Frag} {mg : Str → Option Value} {base : Heap}
/-- called with the keyword -/
def FnRW (P : Program) (w : World) (K : PySem.W.Frag) (mg : Str → Option Value) (base : Heap) (CX : CXT) (k : Nat) (f : Addr) (kn : Str) (sp : List V → V → Hp → VK → XK → Prop) : Prop :=
  ∀ (A : Around) (outer : List PySem.Env) (s : Shared) (H : Hp) (us : List Value) (u : Value) (vs : List V) (z : V) (Q : VK) (E : XK), Room k A → Env0 P w K mg base A outer s H → Vals vs us → RelV z u → sp vs z H Q E →
    codeAny (model P w) A (.call (.ref f) ⟨us, [(kn, u)]⟩) (CR CX outer P w H s Q E) s
abbrev DRK := List D → D → Sto → DK → Prop
def lK (K : KK) (r : DRK) : List V → V → Hp → VK → Prop := fun vs z H Q => ∃ ds e S R, RDs K H ds vs ∧ RD K H e z ∧ RelS K S H ∧ r ds e S R ∧ ∀ y S' v H', R y S' → RelS K S' H' → RD K H' y v → Ext H H' → Q v H'
/-- a def of the module with the keyword, by promise -/
structure DFw (P : Program) (w : World) (K : PySem.W.Frag) (mg : Str → Option Value) (base : Heap) (k : Nat) (x kn : Str) (r : DRK) : Prop where
  ex : ∃ f : Addr, FnRW P w K mg base CX0 k f kn (fun vs z H Q _ => lK ⟨P, w, K⟩ r vs z H Q) ∧ mg x = some (.ref f) ∧ PySem.W.keepIn K (.ref f) = true
theorem DFw.mk' {k : Nat} {x kn : Str} {r : DRK} {f : Addr} (F : FnRW P w K mg base CX0 k f kn (fun vs z H Q _ => lK ⟨P, w, K⟩ r vs z H Q)) (hm : mg x = some (.ref f)) (hk : PySem.W.keepIn K (.ref f) = true) : DFw P w K mg base k x kn r := ⟨f, F, hm, hk⟩
end
end Sv
set_option maxHeartbeats 1000000
namespace Sv
open PySem PySem.Spec PyProof.Rows L2
section
variable {X : Cx} {a b c : Expr} {ta tb tc : DTE} {pos : Pos}
/-- a op b op c as a test -/
theorem lE_chain {K : KK} {r r' : DR2} {σ : L2.St} {H : Hp} {Q : VK} (h : lE K (dChain r r' ta tb tc) σ H Q) : tChain (l2 K r) (l2 K r') (lE K ta) (lE K tb) (lE K tc) σ H Q := by
  obtain ⟨env, S, R, rs, h, k⟩ := h
  refine ⟨env, S, _, rs, h, fun x S1 v H1 q1 s1 r1 e1 => ⟨env, S1, _, rs.ext e1 s1, q1, fun y S2 u H2 q2 s2 r2 e2 => ⟨x, y, S2, _, r1.ext e2, r2, s2, q2, fun z S3 w H3 ⟨kk, hz, q3⟩ s3 r3 e3 => ?_⟩⟩⟩
  subst hz
  cases r3
  refine ⟨kk, rfl, ?_⟩
  cases kk with
  | false => exact k _ _ _ _ q3 s3 (.bl _) (e1.trans (e2.trans e3))
  | true => exact ⟨env, S3, _, rs.ext (e1.trans (e2.trans e3)) s3, q3, fun w S4 t H4 q4 s4 r4 e4 => ⟨y, w, S4, R, r2.ext (e3.trans e4), r4, s4, q4, fun z S5 t H5 q5 s5 r5 e5 => k _ _ _ _ q5 s5 r5 (e1.trans (e2.trans (e3.trans (e4.trans e5))))⟩⟩
theorem dt_chain {op op' : CmpOp} {r r' : DR2} (ho : OpR X (compareOp op) (l2 X.kk r)) (ho' : OpR X (compareOp op') (l2 X.kk r')) (ha : DE X a ta) (hb : DE X b tb) (hc : DE X c tc)
    (hm : lastMarks [op, op'] [b, c] = false := by with_unfolding_all rfl) : DT X (.Compare a [op, op'] [b, c] pos) (dB (dChain r r' ta tb tc)) :=
  ⟨(pt_chain ho ho' ha.run hb.run hc.run hm).of fun _ _ _ h => lE_chain (lT_b h)⟩
end
end Sv
set_option maxHeartbeats 800000
set_option autoImplicit false
set_option maxHeartbeats 1000000
set_option autoImplicit false
namespace PySem
open Sem (wp)
end PySem
set_option maxHeartbeats 1000000
set_option autoImplicit false
set_option maxHeartbeats 1000000
set_option autoImplicit false
set_option maxHeartbeats 1000000
set_option autoImplicit false
set_option maxHeartbeats 1000000
namespace Sv
open PySem
/-- an iterator of a list or of a tuple, as ka says -/
def ItM (ka : Addr → Bool) (h : Heap) (a l : Addr) (i : Nat) : Prop := (ka l = true ∧ h.IsListIter a l i) ∨ (ka l = false ∧ h.IsTupleIter a l i)
def SqM (ka : Addr → Bool) (h : Heap) (l : Addr) (xs : Array Value) : Prop := (ka l = true ∧ h.IsList l xs) ∨ (ka l = false ∧ h.IsTuple l xs)
theorem ItM.at {ka : Addr → Bool} {h h' : Heap} {a l : Addr} {i : Nat} (H : ItM ka h a l i) (e : ∀ o, h.get? a = some o → h'.get? a = some o) : ItM ka h' a l i := H.elim (fun x => .inl ⟨x.1, x.2.at e⟩) fun x => .inr ⟨x.1, x.2.at e⟩
theorem SqM.keep {ka : Addr → Bool} {h h' : Heap} {l : Addr} {xs : Array Value} (H : SqM ka h l xs) (e : ∀ o, h.get? l = some o → h'.get? l = some o) : SqM ka h' l xs := by
  rcases H with ⟨k, o, ho, r⟩ | ⟨k, o, ho, r⟩
  · exact .inl ⟨k, o, e o ho, r⟩
  · exact .inr ⟨k, o, e o ho, r⟩
end Sv
set_option maxHeartbeats 1000000
set_option autoImplicit false
set_option maxHeartbeats 1000000
set_option autoImplicit false
set_option maxHeartbeats 1000000
set_option autoImplicit false
namespace Sv
open PySem L2
/-- _law_draw: 0 _law_state_here 1 _law_below 2 _law_rest 3 _law_cell 4 _law_mixed_here -/
def B_law_draw_a332 : DTS := dSeq (dWhile (dB (dBin (rEqq true) (dBin rIxq (dVar 0) (dC (.int 0))) (dLst (dNil)))) (dSeq (dAsg (dBin rIxq (dBin rIxq (dVar 0) (dC (.int 0))) (dC (.int 0))) (dgName 2))
  (dSeq (dIfS (dB (dBin (rCmp fun i j => decide (j < i)) (dVar 2) (dC (.int 0)))) (dSeq (dAsg (dBin rDiv (dVar 2) (dVar 1)) (dSub (dBin rIxq (dVar 0) (dC (.int 0))) (dC (.int 0))))
  (dRet (dBin rMod (dVar 2) (dVar 1)))) (dNext))
  (dDrop (dMtq "list" mPopAt (dBin rIxq (dVar 0) (dC (.int 0))) (dCons (dC (.int 0)) (dNil)))))))
  (dSeq (dAsg (dBin rAdd (dBin rIxq (dVar 0) (dC (.int 2))) (dC (.int 1))) (dSub (dVar 0) (dC (.int 2))))
  (dSeq (dAsg (dBin rMod (dBin rIxq (dBin rIxq (dVar 0) (dC (.int 1))) (dBin rMod (dBin rIxq (dVar 0) (dC (.int 2))) (dCB (rLen) (dCons (dBin rIxq (dVar 0) (dC (.int 1))) (dNil))))) (dC (.int 2147483629))) (dgName 3))
  (dSeq (dAsg (dBin rAdd (dBin rMul (dVar 3) (dBin rAdd (dC (.int 69621)) (dBin rMul (dC (.int 2)) (dBin rIxq (dVar 0) (dC (.int 2)))))) (dC (.int 30011))) (dgName 4))
  (dSeq (dAsg (dBin rMod (dBin rAdd (dVar 4) (dBin rMul (dBin rMul (dC (.int 48271)) (dBin rIxq (dVar 0) (dC (.int 2)))) (dBin rIxq (dVar 0) (dC (.int 2))))) (dC (.int 2147483587))) (dgName 4))
  (dRet (dBin rMod (dBin rDiv (dBin rMod (dBin rMul (dVar 4) (dVar 4)) (dC (.int 2147483563))) (dC (.int 16))) (dVar 1)))))))
/-- _law_same: 0 _law_found 1 _law_due_here -/
def B_law_same_de9b : DTS := dRet (dBin (rEqq false) (dCB (rReprX) (dCons (dVar 0) (dNil))) (dCB (rReprX) (dCons (dVar 1) (dNil))))
/-- is_number_within: 0 value 1 low 2 high -/
def B_is_number_within_7f04 : DTS := dRet (dAndV (dCall 1 (dFn 1 B_is_number_52f5) (dCons (dVar 0) (dNil))) (dChain (rCmp fun i j => decide (i ≤ j)) (rCmp fun i j => decide (i ≤ j)) (dVar 1) (dVar 0) (dVar 2)))
/-- _law_pick: 0 _law_state_here 1 _law_items -/
def B_law_pick_6e96 : DTS := dRet (dBin rIxq (dVar 1) (dCall 2 (dFn 5 B_law_draw_a332) (dCons (dVar 0) (dCons (dCB (rLen) (dCons (dVar 1) (dNil))) (dNil)))))
/-- _law_mixed: 0 _law_state_here 1 _law_items 2 _law_left 3 _law_found -/
def B_law_mixed_b93a : DTS := dSeq (dAsg (dTup (dCons (dCB (rListq) (dCons (dVar 1) (dNil))) (dCons (dLst (dNil)) (dNil)))) (dUnp 2 (dgCons (dgName 2) (dgCons (dgName 3) (dgNil)))))
  (dSeq (dWhile (dB (dBin (rEqq true) (dVar 2) (dLst (dNil)))) (dDrop (dMtq "list" mAppend (dVar 3) (dCons (dMtq "list" mPopAt (dVar 2) (dCons (dCall 2 (dFn 5 B_law_draw_a332) (dCons (dVar 0) (dCons (dCB (rLen) (dCons (dVar 2) (dNil))) (dNil)))) (dNil))) (dNil)))))
  (dRet (dCB (rTupq) (dCons (dVar 3) (dNil)))))
/-- _law_history: 0 _law_state_here 1 _law_many 2 _law_most 3 _law_count 4 _law_names 5 _law_kind 6 _law_rows 7 _law_open_ones 8 _law_used 9 _law_turn 10 _law_process 11 _law_way 12 _law_ready 13 _law_message 14 _law_pair -/
def B_law_history_6dd1 : DTS := dSeq (dAsg (dBin rAdd (dC (.int 1)) (dCall 2 (dFn 5 B_law_draw_a332) (dCons (dVar 0) (dCons (dVar 1) (dNil))))) (dgName 3))
  (dSeq (dAsg (dCall 2 (dFn 4 B_law_mixed_b93a) (dCons (dVar 0) (dCons (dLRg2 (dC (.int 1)) (dC (.int 25))) (dNil)))) (dgName 4))
  (dSeq (dAsg (dTup (dCons (dCall 2 (dFn 5 B_law_draw_a332) (dCons (dVar 0) (dCons (dC (.int 4)) (dNil)))) (dCons (dBin rMul (dLst (dCons (dTup (dNil)) (dNil))) (dVar 3)) (dCons (dLst (dNil)) (dCons (dC (.int 0)) (dNil)))))) (dUnp 4 (dgCons (dgName 5) (dgCons (dgName 6) (dgCons (dgName 7) (dgCons (dgName 8) (dgNil)))))))
  (dSeq (dFor (diRg1 (dCons (dCall 2 (dFn 5 B_law_draw_a332) (dCons (dVar 0) (dCons (dBin rAdd (dVar 2) (dC (.int 1))) (dNil)))) (dNil))) (dgName 9) (dSeq (dAsg (dTup (dCons (dCall 2 (dFn 5 B_law_draw_a332) (dCons (dVar 0) (dCons (dVar 3) (dNil)))) (dCons (dCall 2 (dFn 5 B_law_draw_a332) (dCons (dVar 0) (dCons (dC (.int 6)) (dNil)))) (dNil)))) (dUnp 2 (dgCons (dgName 10) (dgCons (dgName 11) (dgNil)))))
  (dSeq (dAsg (dLc (diVal (dVar 7)) (dgName 14) (dB (dBin (rEqq true) (dBin rIxq (dVar 14) (dC (.int 1))) (dVar 10))) (dVar 14) [14]) (dgName 12))
  (dIfS (dOr (dAnd (dB (dBin (rCmp fun i j => decide (i < j)) (dVar 11) (dC (.int 2)))) (dB (dBin (rEqq true) (dVar 5) (dC (.int 3))))) (dB (dBin (rEqq false) (dVar 11) (dC (.int 0))))) (dAsg (dBin rAdd (dBin rIxq (dVar 6) (dVar 10)) (dTup (dCons (dC (.int 0)) (dNil)))) (dSub (dVar 6) (dVar 10))) (dIfS (dOr (dAnd (dB (dBin (rCmp fun i j => decide (i < j)) (dVar 11) (dC (.int 4)))) (dB (dBin (rCmp fun i j => decide (i < j)) (dVar 8) (dC (.int 24))))) (dB (dBin (rEqq false) (dVar 12) (dLst (dNil))))) (dIfS (dB (dBin (rCmp fun i j => decide (i < j)) (dVar 8) (dC (.int 24)))) (dSeq (dAsg (dIf (dB (dBin (rEqq false) (dVar 5) (dC (.int 0)))) (dBin rAdd (dVar 8) (dC (.int 1))) (dBin rIxq (dVar 4) (dVar 8))) (dgName 13))
  (dSeq (dAsg (dBin rAdd (dBin rIxq (dVar 6) (dVar 10)) (dTup (dCons (dVar 13) (dNil)))) (dSub (dVar 6) (dVar 10)))
  (dSeq (dDrop (dMtq "list" mAppend (dVar 7) (dCons (dTup (dCons (dVar 13) (dCons (dVar 10) (dNil)))) (dNil))))
  (dAsg (dBin rAdd (dVar 8) (dC (.int 1))) (dgName 8))))) (dNext)) (dSeq (dAsg (dIf (dB (dBin (rEqq false) (dVar 5) (dC (.int 1)))) (dBin rIxq (dVar 12) (dC (.int 0))) (dCall 2 (dFn 2 B_law_pick_6e96) (dCons (dVar 0) (dCons (dVar 12) (dNil))))) (dgName 14))
  (dSeq (dDrop (dMtq "list" mRemove (dVar 7) (dCons (dVar 14) (dNil))))
  (dAsg (dBin rAdd (dBin rIxq (dVar 6) (dVar 10)) (dTup (dCons (dBin rSub (dC (.int 0)) (dBin rIxq (dVar 14) (dC (.int 0)))) (dNil)))) (dSub (dVar 6) (dVar 10))))))))))
  (dRet (dCB (rTupq) (dCons (dVar 6) (dNil)))))))
/-- _law_state: 0 _law_script 1 _law_cells 2 _law_cell -/
def B_law_state_64d4 : DTS := dSeq (dAsg (dLc (diVal (dVar 0)) (dgName 2) (dYes) (dCB (rAbs) (dCons (dVar 2) (dNil))) [2]) (dgName 1))
  (dRet (dLst (dCons (dLc (diVal (dVar 1)) (dgName 2) (dB (dBin (rCmp fun i j => decide (j ≤ i)) (dVar 2) (dBin rPow (dC (.int 10)) (dC (.int 18))))) (dVar 2) [2]) (dCons (dBin rAdd (dVar 1) (dLst (dCons (dBin rAdd (dCB (rLen) (dCons (dVar 1) (dNil))) (dC (.int 7))) (dNil)))) (dCons (dC (.int 0)) (dNil))))))
end Sv
set_option maxHeartbeats 800000
set_option autoImplicit false
namespace Sv
open PySem L2
/-- what is wanted where something is handed out; here: nothing, and it goes on -/
def ylL : List D → D → Sto → (Sto → Prop) → Prop := fun _ _ S k => k S
structure DGEnds where
  nx : List D → Env → Sto → Prop
  rt : List D → DK
  yl : List D → D → Sto → (Sto → Prop) → Prop := ylL
  bk : List D → Env → Sto → Prop := fun _ _ _ => False
  ct : List D → Env → Sto → Prop := fun _ _ _ => False
abbrev DTGn := DGEnds → List D → Env → Sto → Prop
/-- a statement that hands out nothing -/
def dgPlain (t : DTS) : DTGn := fun C ds env S => t { nx := C.nx ds, rt := C.rt ds, bk := C.bk ds, ct := C.ct ds } env S
def dgNext : DTGn := fun C ds env S => C.nx ds env S
def dgSeq (t u : DTGn) : DTGn := fun C ds env S => t { C with nx := u C } ds env S
def dgYield (te : DTE) : DTGn := fun C ds env S => ds.length < 1000000 ∧ te env S fun d S1 => C.yl ds d S1 fun S2 => C.nx (ds ++ [d]) env S2
def dgWhile (c : DTT) (tb : DTGn) : DTGn := fun C ds env S => ∃ W : Nat → List D → Env → Sto → Prop, (∃ m, W m ds env S) ∧ ∀ m ds env S, W m ds env S →
  c env S fun b S1 => if b = true then tb { C with nx := fun ds' env' S' => ∃ m', m' < m ∧ W m' ds' env' S', ct := fun ds' env' S' => ∃ m', m' < m ∧ W m' ds' env' S', bk := C.nx } ds env S1 else C.nx ds env S1
end Sv
set_option maxHeartbeats 800000
set_option autoImplicit false
namespace Sv
open PySem PySem.Spec PyProof.Rows L2
/-- what a generator def hands out -/
abbrev DRG := List D → Sto → (List D → Sto → Prop) → Prop
def lGf (K : KK) (n : Nat) (r : DRG) : SpG := fun vs H Q _ => vs.length = n ∧ ∃ ds S R, RDs K H ds vs ∧ RelS K S H ∧ r ds S R ∧ ∀ out S' ys H', R out S' → RDs K H' out ys → RelS K S' H' → Ext H H' → Q ys H'
section
variable {P : Program} {w : World} {K : PySem.W.Frag} {mg : Str → Option Value} {base : Heap}
structure DGo (P : Program) (w : World) (K : PySem.W.Frag) (mg : Str → Option Value) (base : Heap) (k : Nat) (x : Str) (n : Nat) (r : DRG) : Prop where
  ex : ∃ (f : Addr) (fd : FuncData) (ps : List Str), GFn P w K mg base k f fd ps (lGf ⟨P, w, K⟩ n r) ∧ mg x = some (.ref f) ∧ PySem.W.keepIn K (.ref f) = true ∧ Binds K fd ps []
theorem DGo.mk' {k n : Nat} {x : Str} {r : DRG} {f : Addr} {fd : FuncData} {ps : List Str} (F : GFn P w K mg base k f fd ps (lGf ⟨P, w, K⟩ n r)) (hm : mg x = some (.ref f)) (hk : PySem.W.keepIn K (.ref f) = true) (hb : Binds K fd ps []) : DGo P w K mg base k x n r :=
  ⟨f, fd, ps, F, hm, hk, hb⟩
end
end Sv
set_option autoImplicit false
namespace Sv
open PySem PySem.Spec PyProof.Rows L2 Sz
/-- it rests on its own object alone -/
def immO : HO → Bool
  | .tup _ => true
  | .tbl _ => true
  | .frz _ (.lst _) => true
  | .frz _ (.tup _) => true
  | .frz _ (.dK _) => true
  | _ => false
def keepO (u : HO) : Bool := immO u && (match u with | .tbl _ => false | _ => true)
def immH (H : Hp) : Hp := fun b => (H b).filter immO
theorem immH_some {H : Hp} {b : Addr} {u : HO} : immH H b = some u ↔ H b = some u ∧ immO u = true := by
  unfold immH
  rw [Option.filter_eq_some_iff]
theorem immH_none {H : Hp} {b : Addr} (h : H b = none) : immH H b = none := by unfold immH; rw [h]; rfl
/-- what is known and stays stays -/
def Ext3 (H H' : Hp) : Prop := ∀ b u, keepO u = true → H b = some u → H' b = some u
theorem Ext3.refl (H : Hp) : Ext3 H H := fun _ _ _ h => h
theorem Ext3.trans {H H1 H2 : Hp} (x : Ext3 H H1) (y : Ext3 H1 H2) : Ext3 H H2 := fun b u k h => y b u k (x b u k h)
theorem Ext3.of {H H' : Hp} (e : Ext H H') : Ext3 H H' := fun b u k h => by
  cases u with
  | tup xs => exact e.2 _ _ h
  | frz o u => exact e.1 _ _ _ h
  | _ => exact (nomatch (show false = true from k))
theorem keep_imm {u : HO} (h : keepO u = true) : immO u = true := by unfold keepO at h; exact (Bool.and_eq_true_iff.mp h).1
section
variable {K : KK} {H H' : Hp}
theorem TupN.ext3 {a : Addr} {xs : List V} (h : TupN H a xs) (e : Ext3 H H') : TupN H' a xs := by
  obtain ⟨o, h, d⟩ := h
  exact ⟨o, e _ _ rfl h, d⟩
theorem Rol.ext3 {a : Addr} {vs : List V} (h : Rol K H a vs) (e : Ext3 H H') : Rol K H' a vs := by
  rcases h with ⟨o, h⟩ | h
  · exact .inl ⟨o, e _ _ rfl h⟩
  · exact .inr h
mutual
theorem RD.ext3 (e : Ext3 H H') : ∀ {d : D} {v : V}, RD K H d v → RD K H' d v
  | _, _, .non => .non
  | _, _, .bl b => .bl b
  | _, _, .int i => .int i
  | _, _, .str x => .str x
  | _, _, .ref a => .ref a
  | _, _, .ty n => .ty n
  | _, _, .tup h r => .tup (h.ext3 e) (RDs.ext3 e r)
  | _, _, .rol h r => .rol (h.ext3 e) (RDs.ext3 e r)
  | _, _, .dct h r => .dct (e _ _ rfl h) (RDk.ext3 e r)
  | _, _, .wtup h r => .wtup (e _ _ rfl h) (RDs.ext3 e r)
theorem RDs.ext3 (e : Ext3 H H') : ∀ {ds : List D} {vs : List V}, RDs K H ds vs → RDs K H' ds vs
  | _, _, .nil => .nil
  | _, _, .cons h r => .cons (RD.ext3 e h) (RDs.ext3 e r)
theorem RDk.ext3 (e : Ext3 H H') : ∀ {ds : List (Key × D)} {vs : List (Key × V)}, RDk K H ds vs → RDk K H' ds vs
  | _, _, .nil => .nil
  | _, _, .cons h r => .cons (RD.ext3 e h) (RDk.ext3 e r)
end
end
theorem immOk {P : Program} {w : World} {H H' : Hp} {h h' : Heap} {a : Addr} {u : HO} (i : immO u = true) (x : ObjOk P w H h a u) (k : ∀ o, h.get? a = some o → h'.get? a = some o) : ObjOk P w H' h' a u := by
  have lstc : ∀ xs, ObjOk P w H h a (.lst xs) → ObjOk P w H' h' a (.lst xs) := fun xs x => by
    obtain ⟨z, its, n, r, e⟩ := x
    exact ⟨z, its, n, r, k _ e⟩
  have tupc : ∀ xs, ObjOk P w H h a (.tup xs) → ObjOk P w H' h' a (.tup xs) := fun xs x => by
    obtain ⟨z, its, r, ob, e, c⟩ := x
    exact ⟨z, its, r, ob, k _ e, c⟩
  have dc : ∀ xs, ObjOk P w H h a (.dK xs) → ObjOk P w H' h' a (.dK xs) := fun xs x => by
    obtain ⟨z, y, vs, r, ob, es, ep, e, c⟩ := x
    exact ⟨z, y, vs, r, ob, es, ep, k _ e, c⟩
  cases u with
  | tup xs => exact tupc xs x
  | tbl ps => exact k _ x
  | frz o u =>
    obtain ⟨e, q⟩ := x
    cases u with
    | lst xs => exact ⟨k _ e, lstc xs q⟩
    | tup xs => exact ⟨k _ e, tupc xs q⟩
    | dK xs => exact ⟨k _ e, dc xs q⟩
    | _ => exact (nomatch (show false = true from i))
  | _ => exact (nomatch (show false = true from i))
theorem mut_hidden {u : HO} (m : Mut (some u)) : immO u = false := by
  cases u with
  | tup _ => exact m.elim
  | tbl _ => exact m.elim
  | frz _ _ => exact m.elim
  | _ => rfl
/-- one thing as it stands -/
abbrev asIs (b : Addr) (o : Obj) : HO := .frz o (.ext fun h => h.get? b = some o)
/-- a generator's call: what it runs, where its frame's dict stands -/
structure GP where
  P : Program
  w : World
  K : PySem.W.Frag
  mg : Str → Option Value
  base : Heap
  N : List Str
  qual : Str
  scope : Scope
  f : Addr
  cdv : Value
  L : Addr
  k : Nat
abbrev GP.kk (g : GP) : KK := ⟨g.P, g.w, g.K⟩
abbrev GP.env (g : GP) : PySem.Env := envOfC g.qual g.scope g.L g.f g.cdv
structure GP.Ok (g : GP) : Prop where
  kind : g.scope.kind = .function
  noc : ∀ y ∈ g.scope.names, y.2 = .cell → False
  nofree : ∀ y ∈ g.scope.names, y.2 ≠ .free
  co : g.scope.isCoroutine = false
  inter : interactive g.env = false
  bsz : g.base.objs.size ≤ g.L
/-- a waking: around what, the frames that run, the state, the heap as it is known there, the generator's own things -/
structure Wk where
  A : Around
  outer : List PySem.Env
  s : Shared
  H : Hp
  fp : List Addr
def cutS (L : Nat) (s : Shared) : Shared := { s with heap := ⟨s.heap.objs.extract 0 L, s.heap.life⟩ }
theorem cutS_size {L : Nat} {s : Shared} (h : L ≤ s.heap.objs.size) : (cutS L s).heap.objs.size = L := by
  show (s.heap.objs.extract 0 L).size = L
  rw [Array.size_extract]
  omega
theorem cutS_get {L : Nat} {s : Shared} {b : Nat} (h : b < L) : (cutS L s).heap.get? b = s.heap.get? b := by
  have : (s.heap.objs.extract 0 L)[b]? = s.heap.objs[b]? := by
    rw [Array.getElem?_extract]
    by_cases hb : b < s.heap.objs.size
    · rw [if_pos (by omega), Nat.zero_add]
    · rw [if_neg (by omega), Array.getElem?_eq_none (by omega)]
  unfold Heap.get? cutS
  dsimp only
  rw [this]
theorem cutS_lt {L : Nat} {s : Shared} {b : Nat} {o : Obj} (h : (cutS L s).heap.get? b = some o) : b < L := by
  have h1 : b < (cutS L s).heap.objs.size := Heap.lt_size h
  have q : (cutS L s).heap.objs.size = min L s.heap.objs.size := by
    show (s.heap.objs.extract 0 L).size = _
    rw [Array.size_extract]
    omega
  omega
/-- what the generator is given: what is known and stays; of all else above L only that it stands as it stands -/
def guardH (L : Addr) (w : Wk) : Hp := fun b => match immH w.H b with
  | some u => some u
  | none => if L ≤ b ∧ b ∉ w.fp then (w.s.heap.get? b).map (asIs b) else none
def GP.cx (g : GP) (w : Wk) : Cx := (cxOf CX0 g.P g.w g.K g.mg g.base g.N g.qual g.scope g.f g.cdv w.A w.outer (cutS g.L w.s) (guardH g.L w) (fun _ _ _ => False)).nox
structure En (g : GP) (w : Wk) : Prop where
  e0 : Env0 g.P g.w g.K g.mg g.base w.A w.outer w.s w.H
  room : Room g.k (w.A.deeper g.env)
  fr : ∀ b ∈ frs w.outer, b < g.L
  lt : g.L < w.s.heap.objs.size
  fpL : g.L ∈ w.fp
  fpH : ∀ b ∈ w.fp, w.H b = none ∧ g.L ≤ b
section
variable {g : GP} {w w' : Wk} {b : Addr} {u : HO} {o : Obj}
theorem guard_imm (h : immH w.H b = some u) : guardH g.L w b = some u := by unfold guardH; rw [h]
theorem guard_low (h : immH w.H b = none) (hb : b < g.L) : guardH g.L w b = none := by
  unfold guardH
  rw [h]
  exact if_neg fun z => absurd z.1 (Nat.not_le_of_lt hb)
theorem guard_fp (E : En g w) (hb : b ∈ w.fp) : guardH g.L w b = none := by
  unfold guardH
  rw [immH_none (E.fpH b hb).1]
  exact if_neg fun z => z.2 hb
theorem guard_high (h : immH w.H b = none) (hb : g.L ≤ b) (hf : b ∉ w.fp) (e : w.s.heap.get? b = some o) : guardH g.L w b = some (asIs b o) := by
  unfold guardH
  rw [h]
  show (if _ then _ else _) = _
  rw [if_pos ⟨hb, hf⟩, e]
  rfl
theorem guard_cases (h : guardH g.L w b = some u) : (immH w.H b = some u) ∨ (immH w.H b = none ∧ g.L ≤ b ∧ b ∉ w.fp ∧ ∃ o, w.s.heap.get? b = some o ∧ u = asIs b o) := by
  unfold guardH at h
  cases e : immH w.H b with
  | some v => rw [e] at h; exact .inl h
  | none =>
    rw [e] at h
    have h : (if g.L ≤ b ∧ b ∉ w.fp then (w.s.heap.get? b).map (asIs b) else none) = some u := h
    by_cases z : g.L ≤ b ∧ b ∉ w.fp
    · rw [if_pos z] at h
      cases e2 : w.s.heap.get? b with
      | none => rw [e2] at h; cases h
      | some o =>
        rw [e2] at h
        exact .inr ⟨rfl, z.1, z.2, o, rfl, (Option.some.inj h).symm⟩
    · rw [if_neg z] at h
      cases h
theorem guard_keep (k : keepO u = true) (h : guardH g.L w b = some u) : w.H b = some u := by
  rcases guard_cases h with z | ⟨_, _, _, o, _, rfl⟩
  · exact (immH_some.mp z).1
  · exact (nomatch (show false = true from k))
theorem ext3_guard : Ext3 w.H (guardH g.L w) := fun b u k h => guard_imm (immH_some.mpr ⟨h, keep_imm k⟩)
theorem cx_env (E : En g w) : (g.cx w).env = g.env := by
  show envOfC g.qual g.scope (cutS g.L w.s).heap.objs.size g.f g.cdv = _
  rw [cutS_size (Nat.le_of_lt E.lt)]
theorem cx_A (E : En g w) : (g.cx w).A = w.A.deeper g.env := by
  show w.A.deeper (envOfC g.qual g.scope (cutS g.L w.s).heap.objs.size g.f g.cdv) = _
  rw [cutS_size (Nat.le_of_lt E.lt)]
theorem no_cells (G : g.Ok) (x : Str) (c : Addr) : g.env.cells.lookup x = some c → False := by
  have : ∀ (n : Nat) (l : List (Str × NameKind)), (∀ y ∈ l, y.2 = .cell → False) → cellsFrom n l [] = [] := by
    intro n l
    induction l generalizing n with
    | nil => intro _; first | rfl | (unfold cellsFrom; rfl)
    | cons a t ih =>
      intro h
      obtain ⟨x, k⟩ := a
      have h1 := h (x, k) List.mem_cons_self
      unfold cellsFrom
      have hk : (k == NameKind.cell) = false := by cases k <;> first | rfl | exact (h1 rfl).elim
      rw [hk, if_neg Bool.false_ne_true]
      exact ih _ fun y hy => h y (List.mem_cons_of_mem _ hy)
  intro h
  have e : g.env.cells = [] := this _ _ G.noc
  rw [e] at h
  cases h
end
end Sv
set_option autoImplicit false
namespace Sv
open PySem PySem.Spec PyProof.Rows L2 Sz
variable {g : GP} {w w' : Wk} {ip : List (Addr × Obj)} {σ : L2.St} {H : Hp} {s : Shared}
/-- the heap as the others know it behind the generator's turn -/
def outH (w : Wk) (H : Hp) : Hp := fun b => match w.H b with
  | some u => if immO u = true then immH H b else some u
  | none => immH H b
theorem outH_hid {b : Addr} {u : HO} (h : w.H b = some u) (n : immO u = false) : outH w H b = some u := by
  unfold outH
  rw [h]
  show (if _ then _ else _) = _
  rw [if_neg (by rw [n]; exact Bool.false_ne_true)]
theorem outH_imm {b : Addr} (h : ∀ u, w.H b = some u → immO u = true) : outH w H b = immH H b := by
  unfold outH
  cases e : w.H b with
  | none => rfl
  | some u =>
    show (if _ then _ else _) = _
    rw [if_pos (h u e)]
theorem immH_hid {b : Addr} {u : HO} (h : w.H b = some u) (n : immO u = false) : immH w.H b = none := by
  cases e : immH w.H b with
  | none => rfl
  | some v =>
    obtain ⟨h1, h2⟩ := immH_some.mp e
    rw [h] at h1
    cases h1
    rw [n] at h2
    cases h2
theorem nofr (E : En g w) {b : Addr} {u : HO} (h : w.H b = some u) : b ∉ frs w.outer := fun z => by
  rw [E.e0.frf b z] at h
  cases h
theorem in_keep (I : Inv (g.cx w) ip σ H s) {b : Addr} {u : HO} (k : keepO u = true) (h : w.H b = some u) : H b = some u := by
  have hg : guardH g.L w b = some u := guard_imm (immH_some.mpr ⟨h, keep_imm k⟩)
  cases u with
  | tup xs => exact I.base.tups _ _ hg
  | frz o v => exact I.base.frzs _ _ _ hg
  | _ => exact (nomatch (show false = true from k))
theorem in_imm (I : Inv (g.cx w) ip σ H s) {b : Addr} {u : HO} (k : immO u = true) (h : w.H b = some u) : ∃ v, H b = some v ∧ immO v = true := by
  by_cases z : keepO u = true
  · exact ⟨u, in_keep I z h, k⟩
  · cases u with
    | tbl ps =>
      obtain ⟨more, q⟩ := I.base.tbls _ _ (guard_imm (immH_some.mpr ⟨h, k⟩))
      exact ⟨_, q, rfl⟩
    | tup xs => exact absurd rfl z
    | frz o v =>
      unfold keepO at z
      rw [k] at z
      exact absurd rfl z
    | _ => exact (nomatch (show false = true from k))
theorem in_low (E : En g w) (I : Inv (g.cx w) ip σ H s) {b : Addr} {o : Obj} (n : immH w.H b = none) (hb : b < g.L) (e : w.s.heap.get? b = some o) : H b = none ∧ (b ∉ frs w.outer → s.heap.get? b = some o) ∧ (b ∈ frs w.outer → ∃ sl, s.heap.get? b = some { o with slots := sl }) := by
  have e' : (cutS g.L w.s).heap.get? b = some o := (cutS_get hb).trans e
  have gn : guardH g.L w b = none := guard_low n hb
  exact ⟨I.base.free b o e' gn (by show b ∉ []; simp), fun hf => I.base.keep b o e' gn hf (by show b ∉ []; simp), fun hf => I.base.slot b o e' gn hf (by show b ∉ []; simp)⟩
theorem in_high (E : En g w) (I : Inv (g.cx w) ip σ H s) {b : Addr} {o : Obj} (n : immH w.H b = none) (hb : g.L ≤ b) (hf : b ∉ w.fp) (e : w.s.heap.get? b = some o) : H b = some (asIs b o) ∧ s.heap.get? b = some o := by
  have q := I.base.frzs b o _ (guard_high n hb hf e)
  exact ⟨q, (I.hok b _ q).1⟩
/-- what is not the generator's own is kept -/
theorem in_kept (E : En g w) (I : Inv (g.cx w) ip σ H s) {b : Addr} {o : Obj} (n : immH w.H b = none) (hf : b ∉ w.fp) (hr : b ∉ frs w.outer) (e : w.s.heap.get? b = some o) : s.heap.get? b = some o ∧ immH H b = none := by
  by_cases hb : b < g.L
  · obtain ⟨q1, q2, _⟩ := in_low E I n hb e
    exact ⟨q2 hr, immH_none q1⟩
  · obtain ⟨q1, q2⟩ := in_high E I n (Nat.le_of_not_lt hb) hf e
    refine ⟨q2, ?_⟩
    unfold immH
    rw [q1]
    rfl
theorem out_same (E : En g w) (I : Inv (g.cx w) ip σ H s) {b : Addr} {u : HO} (h : w.H b = some u) (n : immO u = false) {o : Obj} (e : w.s.heap.get? b = some o) : s.heap.get? b = some o :=
  (in_kept E I (immH_hid h n) (fun z => by rw [(E.fpH b z).1] at h; cases h) (nofr E h) e).1
theorem out_ext (I : Inv (g.cx w) ip σ H s) : Ext w.H (outH w H) := by
  have key : ∀ b u, w.H b = some u → (keepO u = true ∨ immO u = false) → outH w H b = some u := fun b u h k => by
    rcases k with k | k
    · rw [outH_imm fun v q => by rw [h] at q; cases q; exact keep_imm k]
      exact immH_some.mpr ⟨in_keep I k h, keep_imm k⟩
    · exact outH_hid h k
  refine ⟨fun a o u h => key _ _ h ?_, fun a xs h => key _ _ h (.inl rfl)⟩
  cases u <;> first | exact .inl rfl | exact .inr rfl
theorem out_ok (E : En g w) (I : Inv (g.cx w) ip σ H s) : HOk g.P g.w (outH w H) s.heap := fun b u q => by
  have I3 : HOk g.P g.w H s.heap := I.hok
  by_cases hid : ∃ v, w.H b = some v ∧ immO v = false
  · obtain ⟨v, h, n⟩ := hid
    rw [outH_hid h n] at q
    cases q
    refine (E.e0.hok b _ h).stay (fun c o hc e => ?_) (fun c hc => outH_hid hc rfl) fun c xs hc => (out_ext I).2 c xs hc
    rcases hc with rfl | hc
    · exact out_same E I h n e
    · exact out_same E I hc rfl e
  · rw [outH_imm fun v hv => by
      cases e : immO v with
      | true => rfl
      | false => exact (hid ⟨v, hv, e⟩).elim] at q
    obtain ⟨q1, q2⟩ := immH_some.mp q
    exact immOk q2 (I3 b u q1) fun o e => e
theorem out_un (E : En g w) (I : Inv (g.cx w) ip σ H s) : Un (frs w.outer) w.fp w.H (outH w H) w.s.heap s.heap where
  keep := fun b o e n hf hx => (in_kept E I (immH_none n) hx hf e).1
  slot := fun b o e n hf hx => (in_low E I (immH_none n) (E.fr b hf) e).2.2 hf
  free := fun b o e n hx => by
    rw [outH_imm fun v hv => by rw [n] at hv; cases hv]
    by_cases hf : b ∈ frs w.outer
    · exact immH_none (in_low E I (immH_none n) (E.fr b hf) e).1
    · exact (in_kept E I (immH_none n) hx hf e).2
  there := fun b o e hx => by
    cases h : w.H b with
    | none =>
      by_cases hf : b ∈ frs w.outer
      · obtain ⟨sl, q⟩ := (in_low E I (immH_none h) (E.fr b hf) e).2.2 hf
        exact ⟨_, q⟩
      · exact ⟨o, (in_kept E I (immH_none h) hx hf e).1⟩
    | some u =>
      cases hi : immO u with
      | false => exact ⟨o, out_same E I h hi e⟩
      | true =>
        obtain ⟨v, q, _⟩ := in_imm I hi h
        have z := (I.hok b v q)
        have lt := z.lt
        cases v with
        | lst xs => obtain ⟨_, _, _, _, e⟩ := z; exact ⟨_, e⟩
        | tup xs => obtain ⟨_, _, _, ob, e, _⟩ := z; exact ⟨_, e⟩
        | tbl ps => exact ⟨_, z⟩
        | frz ob v => exact ⟨_, z.1⟩
        | _ => rename_i hv; exact (nomatch (show false = true from hv))
  tups := (out_ext I).2
  frzs := (out_ext I).1
  tbls := fun b ps h => by
    obtain ⟨more, q⟩ := I.base.tbls b ps (guard_imm (immH_some.mpr ⟨h, rfl⟩))
    refine ⟨more, ?_⟩
    rw [outH_imm fun v hv => by rw [h] at hv; cases hv; rfl]
    exact immH_some.mpr ⟨q, rfl⟩
theorem out_rel (I : Inv (g.cx w) ip σ H s) {K : KK} {S : Sto} (r : RelS K S w.H) : RelS K S (outH w H) := fun a o e => by
  obtain ⟨u, q, m⟩ := (r a o e).mut
  exact (r a o e).ext (out_ext I) ((outH_hid q (mut_hidden m)).trans q.symm)
theorem out_ext3 (E : En g w) (I : Inv (g.cx w) ip σ H s) : Ext3 H (outH w H) := fun b u k h => by
  have hn : ∀ v, w.H b = some v → immO v = true := fun v hv => by
    cases e : immO v with
    | true => rfl
    | false =>
      have ni := immH_hid hv e
      have hl := E.e0.hok.lt hv
      have nf : b ∉ w.fp := fun z => by rw [(E.fpH b z).1] at hv; cases hv
      have hx : ∃ o, w.s.heap.get? b = some o := by
        have x := E.e0.hok b v hv
        cases v with
        | lst xs => obtain ⟨_, _, _, _, e⟩ := x; exact ⟨_, e⟩
        | tup xs => obtain ⟨_, _, _, ob, e, _⟩ := x; exact ⟨_, e⟩
        | dK kvs => obtain ⟨_, _, _, _, o, _, _, e, _⟩ := x; exact ⟨_, e⟩
        | dT kvs => obtain ⟨_, _, _, _, o, _, _, e, _⟩ := x; exact ⟨_, e⟩
        | set S n => obtain ⟨o, _, _, _, e, _⟩ := x; exact ⟨_, e⟩
        | ins C dx fs => obtain ⟨_, _, _, e, _⟩ := x; exact ⟨_, e⟩
        | own y => obtain ⟨_, e⟩ := x; exact ⟨_, e⟩
        | xd fs => obtain ⟨_, ⟨_, _, _, e, _⟩, _⟩ := x; exact ⟨_, e⟩
        | rng lo hi => obtain ⟨_, _, _, e⟩ := x; exact ⟨_, e⟩
        | frz ob u => obtain ⟨e, _⟩ := x; exact ⟨_, e⟩
        | tbl ps => exact ⟨_, x⟩
        | met f y => exact ⟨_, x⟩
        | ext φ => obtain ⟨_, ⟨_, e⟩, _⟩ := x; exact ⟨_, e⟩
      obtain ⟨o, eo⟩ := hx
      have hm := (in_kept E I ni nf (nofr E hv) eo).2
      rw [immH_some.mpr ⟨h, keep_imm k⟩] at hm
      cases hm
  rw [outH_imm hn]
  exact immH_some.mpr ⟨h, keep_imm k⟩
end Sv
set_option autoImplicit false
namespace Sv
open PySem PySem.Spec PyProof.Rows L2 Sz
variable {g : GP} {w w' : Wk} {ip : List (Addr × Obj)} {σ : L2.St} {H : Hp} {s : Shared} {env : Env} {S : Sto}
theorem funs_cut {L : Nat} {base : Heap} {s : Shared} : ∀ {l : List PySem.Env}, (∀ b ∈ frs l, b < L) → s.heap.FunFrames base l → (cutS L s).heap.FunFrames base l := by
  intro l
  induction l with
  | nil => intro _ _; trivial
  | cons env r ih =>
    intro hs hl
    obtain ⟨hk, ⟨L1, o, hf, hn, ho, hd⟩, hr⟩ := hl
    have hL : L1 < L := hs L1 (by unfold frs; rw [List.filterMap_cons, hf]; exact List.mem_cons_self)
    exact ⟨hk, ⟨L1, _, hf, hn, (cutS_get hL).trans ho, hd⟩, ih (fun b hb => hs b (by unfold frs; rw [List.filterMap_cons, hf]; exact List.mem_cons_of_mem _ hb)) hr⟩
theorem cx_ok (G : g.Ok) (E : En g w) : (g.cx w).Ok := by
  have nc : ∀ x c, (g.cx w).env.cells.lookup x = some c → False := fun x c h => by rw [cx_env E] at h; exact no_cells G x c h
  have hlt : ∀ b o, g.base.get? b = some o → b < g.L := fun b o e => Nat.lt_of_lt_of_le (Heap.lt_size e) G.bsz
  refine ⟨E.e0.mod, G.kind, rfl, rfl, Nat.le_refl _, fun x y c h _ => (nc x c h).elim, fun x h => ?_, fun x c _ h => (nc x c h).elim, fun _ => ?_, Around.frames_deeper E.e0.frames, .inr ⟨rfl, rfl⟩, fun b z => ?_, fun b o e => ?_, ?_, fun b o e z => ?_, fun b z => ?_, funs_cut E.fr E.e0.funs, fun b hb => ?_⟩
  · have h : g.scope.names.lookup x = some .cell ∨ g.scope.names.lookup x = some .free := h
    rcases h with h | h
    · exact (G.noc _ (PySem.mem_of_lookup h) rfl).elim
    · exact absurd rfl (G.nofree _ (PySem.mem_of_lookup h))
  · rw [cx_A E]; exact E.room.hd
  · exact absurd (show b ∈ ([] : List Addr) from z) (by simp)
  · obtain ⟨q1, q2⟩ := E.e0.bs b o e
    exact ⟨(cutS_get (hlt b o e)).trans q1, guard_low (immH_none q2) (hlt b o e)⟩
  · show g.base.objs.size ≤ (cutS g.L w.s).heap.objs.size
    rw [cutS_size (Nat.le_of_lt E.lt)]
    exact G.bsz
  · exact absurd (show b ∈ ([] : List Addr) from z) (by simp)
  · exact absurd (show b ∈ ([] : List Addr) from z) (by simp)
  · exact guard_low (immH_none (E.e0.frf b hb)) (E.fr b hb)
/-- what is kept of a generator's store over its sleep -/
def keepLD (S : Sto) : Sto := fun b => match S b with
  | some (.lst ds) => some (.lst ds)
  | some (.dK kvs) => some (.dK kvs)
  | _ => none
theorem keepLD_some {b : Addr} {o : Ob} (h : keepLD S b = some o) : S b = some o ∧ ((∃ ds, o = .lst ds) ∨ ∃ kvs, o = .dK kvs) := by
  unfold keepLD at h
  cases e : S b with
  | none => rw [e] at h; cases h
  | some u =>
    rw [e] at h
    cases u with
    | lst ds => cases h; exact ⟨rfl, .inl ⟨_, rfl⟩⟩
    | dK ds => cases h; exact ⟨rfl, .inr ⟨_, rfl⟩⟩
    | _ => cases h
theorem keepLD_lst {b : Addr} {ds : List D} (h : S b = some (.lst ds)) : keepLD S b = some (.lst ds) := by unfold keepLD; rw [h]
theorem keepLD_dK {b : Addr} {ds : List (Key × D)} (h : S b = some (.dK ds)) : keepLD S b = some (.dK ds) := by unfold keepLD; rw [h]
structure AtG (g : GP) (w : Wk) (ip : List (Addr × Obj)) (σ : L2.St) (H : Hp) (s : Shared) (env : Env) (S : Sto) : Prop where
  en : En g w
  inv : Inv (g.cx w) ip σ H s
  dead : Dead w.s s
  rs : RS g.kk σ H env S
  ipok : ∀ p ∈ ip, g.L ≤ p.1
/-- it was the generator's own, or it was not -/
theorem new_or_own (E : En g w) (I : Inv (g.cx w) ip σ H s) {b : Addr} (hb : g.L ≤ b) (n : ∀ u, H b = some u → immO u = false ∧ ∀ o v, u ≠ .frz o v) : b ∈ w.fp ∨ w.s.heap.get? b = none := by
  by_cases hf : b ∈ w.fp
  · exact .inl hf
  · cases e : w.s.heap.get? b with
    | none => exact .inr rfl
    | some o =>
      cases hi : immH w.H b with
      | none => exact ((n _ (in_high E I hi hb hf e).1).2 _ _ rfl).elim
      | some u =>
        obtain ⟨h1, h2⟩ := immH_some.mp hi
        obtain ⟨v, q, k⟩ := in_imm I h2 h1
        have := (n v q).1
        rw [k] at this
        cases this
theorem ob_at {K : KK} {b : Addr} {o : Ob} (r : RelS K S H) (h : keepLD S b = some o) : (∃ vs, H b = some (.lst vs)) ∨ ∃ vs, H b = some (.dK vs) := by
  obtain ⟨h1, ⟨ds, rfl⟩ | ⟨kvs, rfl⟩⟩ := keepLD_some h
  · obtain ⟨vs, q, _⟩ := r b _ h1
    exact .inl ⟨vs, q⟩
  · obtain ⟨vs, q, _⟩ := r b _ h1
    exact .inr ⟨vs, q⟩
theorem ob_mut {K : KK} {b : Addr} {o : Ob} (r : RelS K S H) (h : keepLD S b = some o) : ∀ u, H b = some u → immO u = false ∧ ∀ o v, u ≠ .frz o v := fun u hu => by
  rcases ob_at r h with ⟨vs, q⟩ | ⟨vs, q⟩ <;>
  · rw [q] at hu
    cases hu
    exact ⟨rfl, fun _ _ z => nomatch z⟩
theorem ob_heap {P : Program} {w : World} {K : KK} {h : Heap} {b : Addr} {o : Ob} (r : RelS K S H) (hk : HOk P w H h) (e : keepLD S b = some o) : ∃ ob, h.get? b = some ob ∧ ∀ v, ob.data ≠ .cell v := by
  rcases ob_at r e with ⟨vs, q⟩ | ⟨vs, q⟩
  · obtain ⟨_, its, n, _, e⟩ := hk b _ q
    exact ⟨_, e, fun v z => nomatch z⟩
  · obtain ⟨_, _, ys, _, ob, es, ep, e, _, d, _⟩ := hk b _ q
    refine ⟨_, e, fun v z => ?_⟩
    first
      | (rw [d] at z; cases z)
      | (rw [d.1] at z; cases z)
theorem AtG.own (A : AtG g w ip σ H s env S) {b : Addr} {o : Ob} (h : keepLD S b = some o) : g.L ≤ b := by
  refine Nat.le_of_not_lt fun hb => ?_
  obtain ⟨ob, e, _⟩ := ob_heap A.rs.sto A.inv.hok h
  cases e1 : w.s.heap.get? b with
  | none =>
    rw [A.dead.no b (Nat.lt_trans hb A.en.lt) e1] at e
    cases e
  | some o1 =>
    cases hi : immH w.H b with
    | none =>
      have q := (in_low A.en A.inv hi hb e1).1
      rcases ob_at A.rs.sto h with ⟨vs, z⟩ | ⟨vs, z⟩ <;>
      · rw [q] at z
        cases z
    | some u =>
      obtain ⟨h1, h2⟩ := immH_some.mp hi
      obtain ⟨v, q, k⟩ := in_imm A.inv h2 h1
      have := (ob_mut A.rs.sto h v q).1
      rw [k] at this
      cases this
/-- the generator's own things over its sleep -/
def ownFp (L : Addr) (ip : List (Addr × Obj)) (S : Sto) (s : Shared) : List Addr := L :: (ip.map (·.1) ++ (List.range s.heap.objs.size).filter fun b => (keepLD S b).isSome)
theorem mem_ownFp {L : Addr} {b : Addr} (h : b ∈ ownFp L ip S s) : b = L ∨ (∃ p ∈ ip, p.1 = b) ∨ ∃ o, keepLD S b = some o := by
  rcases List.mem_cons.mp h with h | h
  · exact .inl h
  · rcases List.mem_append.mp h with h | h
    · obtain ⟨p, hp, e⟩ := List.mem_map.mp h
      exact .inr (.inl ⟨p, hp, e⟩)
    · exact .inr (.inr (Option.isSome_iff_exists.mp (List.mem_filter.mp h).2))
theorem own_mem (A : AtG g w ip σ H s env S) {b : Addr} {o : Ob} (h : keepLD S b = some o) : b ∈ ownFp g.L ip S s := by
  obtain ⟨ob, e, _⟩ := ob_heap A.rs.sto A.inv.hok h
  exact List.mem_cons_of_mem _ (List.mem_append_right _ (List.mem_filter.mpr ⟨List.mem_range.mpr (Heap.lt_size e), by rw [h]; rfl⟩))
theorem ip_mem {L : Addr} {p : Addr × Obj} (h : p ∈ ip) : p.1 ∈ ownFp L ip S s := List.mem_cons_of_mem _ (List.mem_append_left _ (List.mem_map.mpr ⟨p, h, rfl⟩))
/-- what the others get of the generator's turn -/
structure ExitR (g : GP) (w : Wk) (s : Shared) (Hm : Hp) (fp : List Addr) : Prop where
  os : s.os = w.s.os
  bare : AllBare s.gens
  dead : Dead w.s s
  un : Un (frs w.outer) w.fp w.H Hm w.s.heap s.heap
  ok : HOk g.P g.w Hm s.heap
  ext : Ext w.H Hm
  rel : ∀ (K : KK) (S : Sto), RelS K S w.H → RelS K S Hm
  fp : ∀ b ∈ fp, g.L ≤ b ∧ Hm b = none ∧ (b ∈ w.fp ∨ w.s.heap.get? b = none) ∧ ∃ o, s.heap.get? b = some o ∧ ∀ v, o.data ≠ .cell v
theorem loc_at (A : AtG g w ip σ H s env S) : ∃ m, s.heap.Ns g.L m ∧ H g.L = none := by
  obtain ⟨m, q, _⟩ := A.inv.loc
  have e : (g.cx w).env.locals = g.L := by rw [cx_env A.en]; rfl
  rw [e] at q
  exact ⟨m, q, by rw [← e]; exact A.inv.free⟩
theorem exit_of (A : AtG g w ip σ H s env S) : ExitR g w s (outH w H) (ownFp g.L ip S s) := by
  refine ⟨A.inv.os, A.inv.bare, A.dead, out_un A.en A.inv, out_ok A.en A.inv, out_ext A.inv, fun K S r => out_rel A.inv r, fun b hb => ?_⟩
  have gone : (b ∈ w.fp ∨ w.s.heap.get? b = none) → immH H b = none → outH w H b = none := fun h1 h2 => by
    have : w.H b = none := by
      rcases h1 with h1 | h1
      · exact (A.en.fpH b h1).1
      · cases e : w.H b with
        | none => rfl
        | some u =>
          have un := (out_un A.en A.inv)
          have x := A.en.e0.hok b u e
          have lt := x.lt
          exfalso
          have hx : ∃ o, w.s.heap.get? b = some o := by
            cases u with
            | lst xs => obtain ⟨_, _, _, _, e⟩ := x; exact ⟨_, e⟩
            | tup xs => obtain ⟨_, _, _, ob, e, _⟩ := x; exact ⟨_, e⟩
            | dK kvs => obtain ⟨_, _, _, _, o, _, _, e, _⟩ := x; exact ⟨_, e⟩
            | dT kvs => obtain ⟨_, _, _, _, o, _, _, e, _⟩ := x; exact ⟨_, e⟩
            | set S n => obtain ⟨o, _, _, _, e, _⟩ := x; exact ⟨_, e⟩
            | ins C dx fs => obtain ⟨_, _, _, e, _⟩ := x; exact ⟨_, e⟩
            | own y => obtain ⟨_, e⟩ := x; exact ⟨_, e⟩
            | xd fs => obtain ⟨_, ⟨_, _, _, e, _⟩, _⟩ := x; exact ⟨_, e⟩
            | rng lo hi => obtain ⟨_, _, _, e⟩ := x; exact ⟨_, e⟩
            | frz ob u => obtain ⟨e, _⟩ := x; exact ⟨_, e⟩
            | tbl ps => exact ⟨_, x⟩
            | met f y => exact ⟨_, x⟩
            | ext φ => obtain ⟨_, ⟨_, e⟩, _⟩ := x; exact ⟨_, e⟩
          obtain ⟨o, eo⟩ := hx
          rw [h1] at eo
          cases eo
    rw [outH_imm fun v hv => by rw [this] at hv; cases hv]
    exact h2
  rcases mem_ownFp hb with rfl | ⟨p, hp, rfl⟩ | ⟨o, ho⟩
  · obtain ⟨m, ⟨ob, es, ep, e, d, _⟩, hn⟩ := loc_at A
    exact ⟨Nat.le_refl _, gone (.inl A.en.fpL) (immH_none hn), .inl A.en.fpL, ob, e, fun v z => by rw [d] at z; cases z⟩
  · obtain ⟨q1, q2, q3, q4, q5⟩ := A.inv.pin p (List.mem_append_right _ hp)
    have hn := new_or_own A.en A.inv (A.ipok p hp) fun u hu => by rw [q2] at hu; cases hu
    exact ⟨A.ipok p hp, gone hn (immH_none q2), hn, p.2, q1, q5⟩
  · have hn := new_or_own A.en A.inv (A.own ho) (ob_mut A.rs.sto ho)
    refine ⟨A.own ho, gone hn ?_, hn, ob_heap A.rs.sto A.inv.hok ho⟩
    cases e : immH H b with
    | none => rfl
    | some u =>
      obtain ⟨h1, h2⟩ := immH_some.mp e
      have := (ob_mut A.rs.sto ho u h1).1
      rw [h2] at this
      cases this
end Sv
namespace Sv
open PySem PySem.Spec PyProof.Rows L2 Sz
variable {g : GP} {w w' : Wk} {ip : List (Addr × Obj)} {σ : L2.St} {H : Hp} {s : Shared} {env : Env} {S : Sto}
/-- the heap as the generator knows it, woken again -/
def inH (L : Addr) (w' : Wk) (S : Sto) (H : Hp) : Hp := fun b => if (keepLD S b).isSome then H b else guardH L w' b
theorem inH_own {b : Addr} {o : Ob} (h : keepLD S b = some o) : inH g.L w' S H b = H b := by unfold inH; rw [h]; rfl
theorem inH_not {b : Addr} (h : keepLD S b = none) : inH g.L w' S H b = guardH g.L w' b := by unfold inH; rw [h]; rfl
theorem reenter (G : g.Ok) (A : AtG g w ip σ H s env S) (E : En g w') (hf : w'.fp = ownFp g.L ip S s) (hk : ∀ b ∈ w'.fp, ∀ o, s.heap.get? b = some o → w'.s.heap.get? b = some o) (x : Ext3 (outH w H) w'.H) :
    AtG g w' ip σ (inH g.L w' S H) w'.s env (keepLD S) ∧ Ext3 H (inH g.L w' S H) := by
  have nc : ∀ x c, (g.cx w').env.cells.lookup x = some c → False := fun x c h => by rw [cx_env E] at h; exact no_cells G x c h
  have hown : ∀ {b o}, keepLD S b = some o → b ∈ w'.fp := fun h => by rw [hf]; exact own_mem A h
  have e3 : Ext3 H (inH g.L w' S H) := fun b u k h => by
    have hn : keepLD S b = none := by
      cases e : keepLD S b with
      | none => rfl
      | some o =>
        have := (ob_mut A.rs.sto e u h).1
        rw [keep_imm k] at this
        cases this
    rw [inH_not hn]
    exact guard_imm (immH_some.mpr ⟨x b u k (out_ext3 A.en A.inv b u k h), keep_imm k⟩)
  have notown : ∀ {b u}, guardH g.L w' b = some u → keepLD S b = none := fun {b u} h => by
    cases e : keepLD S b with
    | none => rfl
    | some o =>
      rw [guard_fp E (hown e)] at h
      cases h
  have eL : (g.cx w').env.locals = g.L := by rw [cx_env E]; rfl
  obtain ⟨mL, nsL, hL⟩ := loc_at A
  have LS : keepLD S g.L = none := by
    cases e : keepLD S g.L with
    | none => rfl
    | some o =>
      rcases ob_at A.rs.sto e with ⟨vs, z⟩ | ⟨vs, z⟩ <;>
      · rw [hL] at z
        cases z
  refine ⟨⟨E, ⟨cx_ok G E, rfl, E.e0.bare, ⟨fun b o e n hf hx => ?_, fun b o e n hf hx => ?_, fun b o e n hx => ?_, fun b o e hx => ?_, fun b xs h => ?_, fun b o u h => ?_, fun b ps h => ?_⟩, ?_, fun x c h => (nc x c h).elim, ?_, fun x c h => (nc x c h).elim, fun p hp => ?_, fun b u q => ?_, A.inv.len⟩, .refl _, ⟨A.rs.len, fun i d h => ?_, fun a o h => ?_⟩, A.ipok⟩, e3⟩
  · exact (cutS_get (cutS_lt e)).symm.trans e
  · exact ⟨o.slots, (cutS_get (cutS_lt e)).symm.trans e⟩
  · have hb := cutS_lt e
    cases e2 : keepLD S b with
    | none => exact (inH_not e2).trans n
    | some o => exact absurd (A.own e2) (Nat.not_le_of_lt hb)
  · exact ⟨o, (cutS_get (cutS_lt e)).symm.trans e⟩
  · exact (inH_not (notown h)).trans h
  · exact (inH_not (notown h)).trans h
  · exact ⟨#[], ((inH_not (notown h)).trans h).trans (by simp)⟩
  · obtain ⟨m, q, r⟩ := A.inv.loc
    have e0 : (g.cx w).env = (g.cx w').env := by rw [cx_env E, cx_env A.en]
    rw [e0] at q r
    refine ⟨m, ?_, fun i x v h1 h2 h3 => ?_⟩
    · obtain ⟨ob, es, ep, e, d⟩ := q
      exact ⟨ob, es, ep, hk _ (by rw [eL]; exact E.fpL) _ e, d⟩
    · obtain ⟨u, rv, l⟩ := r i x v h1 h2 h3
      refine ⟨u, rv, ?_⟩
      rcases l with l | ⟨_, c, e, _⟩
      · exact .inl l
      · exact (nc x c e).elim
  · rw [eL, inH_not LS]
    exact guard_fp E E.fpL
  · have hp' : p ∈ ip := by
      rcases List.mem_append.mp hp with z | z
      · exact absurd (show p ∈ ([] : List (Addr × Obj)) from z) (by simp)
      · exact z
    obtain ⟨q1, q2, q3, q4, q5⟩ := A.inv.pin p (List.mem_append_right _ hp')
    have hpf : p.1 ∈ w'.fp := by rw [hf]; exact ip_mem hp'
    refine ⟨hk _ hpf _ q1, ?_, ?_, fun z => absurd (E.fr _ z) (Nat.not_lt_of_le (A.ipok p hp')), q5⟩
    · cases e : keepLD S p.1 with
      | none => exact (inH_not e).trans (guard_fp E hpf)
      | some o => exact (inH_own e).trans q2
    · rw [eL]
      have e1 : (g.cx w).env.locals = g.L := by rw [cx_env A.en]; rfl
      rw [← e1]
      exact q3
  · cases e : keepLD S b with
    | some o =>
      rw [inH_own e] at q
      have x := A.inv.hok b u q
      have kp : ∀ ob, s.heap.get? b = some ob → w'.s.heap.get? b = some ob := fun ob eo => hk b (hown e) ob eo
      rcases ob_at A.rs.sto e with ⟨vs, z⟩ | ⟨vs, z⟩
      · rw [q] at z
        cases z
        obtain ⟨z, its, n, r, e⟩ := x
        exact ⟨z, its, n, r, kp _ e⟩
      · rw [q] at z
        cases z
        obtain ⟨z, y, vs, r, ob, es, ep, e, c⟩ := x
        exact ⟨z, y, vs, r, ob, es, ep, kp _ e, c⟩
    | none =>
      rw [inH_not e] at q
      rcases guard_cases q with z | ⟨_, _, _, o, eo, rfl⟩
      · obtain ⟨z1, z2⟩ := immH_some.mp z
        exact immOk z2 (E.e0.hok b u z1) fun o e => e
      · exact ⟨eo, eo, ⟨o, eo⟩, fun h1 h2 p st => st _ p⟩
  · obtain ⟨v, q1, q2⟩ := A.rs.slot i d h
    exact ⟨v, q1, q2.ext3 e3⟩
  · obtain ⟨h1, h2⟩ := keepLD_some h
    have hq : inH g.L w' S H a = H a := inH_own h
    rcases h2 with ⟨ds, rfl⟩ | ⟨kvs, rfl⟩
    · obtain ⟨vs, q, r⟩ := A.rs.sto a _ h1
      exact ⟨vs, hq.trans q, r.ext3 e3⟩
    · obtain ⟨vs, q, r⟩ := A.rs.sto a _ h1
      exact ⟨vs, hq.trans q, r.ext3 e3⟩
end Sv
set_option maxHeartbeats 1000000
set_option autoImplicit false
namespace Sv
open PySem PySem.Spec PyProof.Rows L2 Sz GenW
/-- what one waking comes to: with n items to come -/
def PostN (g : GP) (out : List D) : Nat → Wk → PostG
  | 0, w => fun e s => e = .ret (.ok (.ret .none)) ∧ ∃ Hm, ExitR g w s Hm []
  | n + 1, w => fun e s => ∃ v gd l k c p fs, e = .susp v gd l k c p fs ∧ e.quiet = true ∧ ∃ d x Hm fp, out[out.length - (n + 1)]? = some d ∧ RelV x v ∧ RD g.kk Hm d x ∧ g.L ∈ fp ∧ ExitR g w s Hm fp ∧
      ∀ w' : Wk, w'.fp = fp → En g w' → (∀ b ∈ fp, ∀ o, s.heap.get? b = some o → w'.s.heap.get? b = some o) → Ext3 Hm w'.H → Sg (model g.P g.w) w'.A (PostN g out n w') c (k (.send .none)) fs w'.s
/-- among others: the next of out, and what is kept -/
def ylF (out : List D) : List D → D → Sto → (Sto → Prop) → Prop := fun ds d S k => (∃ more, out = ds ++ d :: more) ∧ k (keepLD S)
structure GCo (g : GP) (c : Code) (fs : List Frame) (gd : Bool → Bool) : Prop where
  over : ∀ A : Around, A.over c fs = A.deeper g.env
  split : splitAtGen fs = none
  guard : fs.any Frame.guarded = false
  gd : gd false = false
def FlG (g : GP) (C : DGEnds) (f : Flow) (ds : List D) (env : Env) (S : Sto) (H : Hp) : Prop := match f with
  | .next => C.nx ds env S
  | .brk => C.bk ds env S
  | .cont => C.ct ds env S
  | .ret u => ∃ d v, C.rt ds d S ∧ RD g.kk H d v ∧ RelV v u
structure GKo (g : GP) (out : List D) (ip : List (Addr × Obj)) (H0 : Hp) (c : Code) (fs : List Frame) (K : Flow → Sem PySem.Fin) (C : DGEnds) : Prop where
  ok : ∀ (f : Flow) (w : Wk) (σ : L2.St) (H : Hp) (s : Shared) (env : Env) (S : Sto) (ds : List D), AtG g w ip σ H s env S → Ext3 H0 H → (∃ more, out = ds ++ more) → FlG g C f ds env S H → Sg (model g.P g.w) w.A (PostN g out (out.length - ds.length) w) c (K f) fs s
structure DJ (g : GP) (out : List D) (st : Stmt) (t : DTGn) : Prop where
  run : ∀ (w : Wk) (ip : List (Addr × Obj)) (σ : L2.St) (H : Hp) (s : Shared) (env : Env) (S : Sto) (ds : List D) (c : Code) (fs : List Frame) (K : Flow → Sem PySem.Fin) (J : Value → Sem PySem.Fin) (gd : Bool → Bool) (lv : List Value → List Value) (C : DGEnds),
    GCo g c fs gd → AtG g w ip σ H s env S → (∃ more, out = ds ++ more) → C.yl = ylF out → GKo g out ip H c fs K C → t C ds env S →
    Sg (model g.P g.w) w.A (PostN g out (out.length - ds.length) w) c ((exec st g.env).wrap K J gd lv) fs s
structure DJs (g : GP) (out : List D) (st : List Stmt) (t : DTGn) : Prop where
  run : ∀ (w : Wk) (ip : List (Addr × Obj)) (σ : L2.St) (H : Hp) (s : Shared) (env : Env) (S : Sto) (ds : List D) (c : Code) (fs : List Frame) (K : Flow → Sem PySem.Fin) (J : Value → Sem PySem.Fin) (gd : Bool → Bool) (lv : List Value → List Value) (C : DGEnds),
    GCo g c fs gd → AtG g w ip σ H s env S → (∃ more, out = ds ++ more) → C.yl = ylF out → GKo g out ip H c fs K C → t C ds env S →
    Sg (model g.P g.w) w.A (PostN g out (out.length - ds.length) w) c ((execs st g.env).wrap K J gd lv) fs s
variable {g : GP} {out : List D} {st : Stmt} {rest : List Stmt} {pos : Pos}
theorem AtG.go {w : Wk} {ip : List (Addr × Obj)} {σ σ' : L2.St} {H H' : Hp} {s s' : Shared} {env env' : Env} {S S' : Sto} (A : AtG g w ip σ H s env S) (I : Inv (g.cx w) ip σ' H' s') (d : Dead s s') (r : RS g.kk σ' H' env' S') : AtG g w ip σ' H' s' env' S' :=
  ⟨A.en, I, A.dead.trans d, r, A.ipok⟩
theorem rs_blank {K : KK} {σ : L2.St} {H : Hp} {S : Sto} (r : RelS K S H) : RS K σ H (List.replicate σ.length none) S :=
  ⟨List.length_replicate, fun i d h => (by rw [List.getElem?_replicate] at h; split at h <;> cases h), r⟩
theorem dj_nil : DJs g out [] dgNext := ⟨fun w ip σ H s env S ds c fs K J gd lv C gc A pf hy k h => sg_execs_nil (k.ok .next w σ H s env S ds A (.refl H) pf h)⟩
theorem dj_cons {t u : DTGn} (a : DJ g out st t) (b : DJs g out rest u) : DJs g out (st :: rest) (dgSeq t u) := by
  refine ⟨fun w ip σ H s env S ds c fs K J gd lv C gc A pf hy k h => sg_execs_cons (a.run w ip σ H s env S ds c fs _ J gd lv { C with nx := u C } gc A pf hy ⟨fun f w' σ' H' s' env' S' ds' A' e' pf' q => ?_⟩ h)⟩
  cases f with
  | next => exact b.run w' ip σ' H' s' env' S' ds' c fs K J gd lv C gc A' pf' hy ⟨fun f w2 σ2 H2 s2 env2 S2 ds2 A2 e2 pf2 q2 => k.ok f w2 σ2 H2 s2 env2 S2 ds2 A2 (e'.trans e2) pf2 q2⟩ q
  | brk => exact k.ok .brk w' σ' H' s' env' S' ds' A' e' pf' q
  | cont => exact k.ok .cont w' σ' H' s' env' S' ds' A' e' pf' q
  | ret v => exact k.ok (.ret v) w' σ' H' s' env' S' ds' A' e' pf' q
theorem sp_cases {X : Cx} {pins : List (Addr × Obj)} {D : Ends} {f : Flow} {s : Shared} (h : SP X pins D f s) : (f = .next ∧ ∃ σ H, Inv X pins σ H s ∧ D.nx σ H) ∨ (f = .brk ∧ ∃ σ H, Inv X pins σ H s ∧ D.bk σ H) ∨ (f = .cont ∧ ∃ σ H, Inv X pins σ H s ∧ D.ct σ H) ∨ ∃ u v σ H, f = .ret u ∧ Inv X pins σ H s ∧ RelV v u ∧ D.rt v H := by
  cases f with
  | next => exact .inl ⟨rfl, h⟩
  | brk => exact .inr (.inl ⟨rfl, h⟩)
  | cont => exact .inr (.inr (.inl ⟨rfl, h⟩))
  | ret u => obtain ⟨v, σ, H, I, r, q⟩ := h; exact .inr (.inr (.inr ⟨u, v, σ, H, rfl, I, r, q⟩))
/-- a statement that hands out nothing -/
theorem dj_ps {t : DTS} (h : ∀ w, En g w → DS (g.cx w) st t) : DJ g out st (dgPlain t) := by
  refine ⟨fun w ip σ H s env S ds c fs K J gd lv C gc A pf hy k ht => sg_wrap ?_⟩
  rw [gc.over]
  have E := A.en
  have r := (h w E).run.run ip s σ H (Ends.mk (fun σ' H' => ∃ env' S', C.nx ds env' S' ∧ RS g.kk σ' H' env' S' ∧ Ext H H') (fun v H' => ∃ d S', C.rt ds d S' ∧ RelS g.kk S' H' ∧ RD g.kk H' d v ∧ Ext H H')
      (fun σ' H' => ∃ env' S', C.bk ds env' S' ∧ RS g.kk σ' H' env' S' ∧ Ext H H') (fun σ' H' => ∃ env' S', C.ct ds env' S' ∧ RS g.kk σ' H' env' S' ∧ Ext H H')) A.inv
    ⟨env, S, _, A.rs, ht, fun env' S' σ' H' q r e => ⟨env', S', q, r, e⟩, fun d S' v H' q s r e => ⟨d, S', q, s, r, e⟩, fun env' S' σ' H' q r e => ⟨env', S', q, r, e⟩, fun env' S' σ' H' q r e => ⟨env', S', q, r, e⟩⟩
  rw [cx_A E, cx_env E] at r
  refine wpAny_dead (wpAny_mono r (fun f s' hs dd => ?_) fun _ _ z => False.elim z)
  rcases sp_cases hs with ⟨rfl, σ', H', I, env', S', q, rs, e⟩ | ⟨rfl, σ', H', I, env', S', q, rs, e⟩ | ⟨rfl, σ', H', I, env', S', q, rs, e⟩ | ⟨u, v, σ', H', rfl, I, rv, d, S', q, s1, rd, e⟩
  · exact k.ok .next w σ' H' s' env' S' ds (A.go I dd rs) (.of e) pf q
  · exact k.ok .brk w σ' H' s' env' S' ds (A.go I dd rs) (.of e) pf q
  · exact k.ok .cont w σ' H' s' env' S' ds (A.go I dd rs) (.of e) pf q
  · exact k.ok (.ret u) w σ' H' s' _ S' ds (A.go I dd (rs_blank s1)) (.of e) pf ⟨d, v, q, rd, rv⟩
/-- yield -/
theorem dj_yield {e : Expr} {yp : Pos} {te : DTE} (G : g.Ok) (h : ∀ w, En g w → DE (g.cx w) e te) : DJ g out (.Expr (.Yield (some e) yp) pos) (dgYield te) := by
  refine ⟨fun w ip σ H s env S ds c fs K J gd lv C gc A pf hy k ⟨hl, ht⟩ => sg_Expr_Yield gc.split gc.gd gc.guard ?_ G.co G.inter⟩
  rw [gc.over]
  have E := A.en
  have r := (h w E).run.run ip s σ H (fun v H' => ∃ d S', C.yl ds d S' (fun S2 => C.nx (ds ++ [d]) env S2) ∧ RelS g.kk S' H' ∧ RD g.kk H' d v ∧ Ext H H') A.inv ⟨env, S, _, A.rs, ht, fun d S' v H' q s r e => ⟨d, S', q, s, r, e⟩⟩
  rw [cx_A E, cx_env E] at r
  refine wpAny_dead (wpAny_mono r (fun u s' hs dd => ?_) fun _ _ z => False.elim z)
  obtain ⟨v, H', I, rv, d, S', q, s1, rd, e⟩ := hs
  intro l kk p hk
  rw [hy] at q
  obtain ⟨⟨more, hm⟩, q⟩ := q
  have A' : AtG g w ip σ H' s' env S' := A.go I dd (A.rs.ext e s1)
  have hlen : out.length - ds.length = more.length + 1 := by rw [hm, List.length_append, List.length_cons]; omega
  rw [hlen]
  refine ⟨u, false, l, kk, c, p, fs, rfl, ?_, d, v, outH w H', ownFp g.L ip S' s', ?_, rv, rd.ext3 (out_ext3 A'.en A'.inv), List.mem_cons_self, exit_of A', fun w' hf E' hkp x => ?_⟩
  · simp [End.quiet, gc.guard]
  · have : out.length - (more.length + 1) = ds.length := by rw [hm, List.length_append, List.length_cons]; omega
    rw [this, hm, List.getElem?_append_right (Nat.le_refl _), Nat.sub_self]
    rfl
  · obtain ⟨B, e3⟩ := reenter G A' E' hf (fun b hb => hkp b (hf ▸ hb)) x
    refine hk w'.A (PostN g out more.length w') w'.s ?_
    have hl2 : more.length = out.length - (ds ++ [d]).length := by rw [hm]; simp; omega
    rw [hl2]
    exact k.ok .next w' σ _ w'.s env (keepLD S') (ds ++ [d]) B (fun b u kk h => e3 b u kk (Ext3.of e b u kk h)) ⟨more, by rw [hm, List.append_assoc]; rfl⟩ q
theorem gc_in {c c' : Code} {fs : List Frame} {gd : Bool → Bool} {k : Result → Sem PySem.Fin} {l kp : List Value} {p : Pos} (h : GCo g c fs gd) (hw : c'.weight = 0) (hu : c'.cUnits = 0) : GCo g c' (.ret k none (gd false) l c p kp :: fs) id where
  over := fun A => (over_loop hw hu).trans (h.over A)
  split := by
    show (splitAtGen fs).map _ = none
    rw [h.split]; rfl
  guard := by
    show (gd false || fs.any Frame.guarded) = false
    rw [h.gd, h.guard]; rfl
  gd := rfl
/-- while -/
theorem dj_while {c : Expr} {body : List Stmt} {tc : DTT} {tb : DTGn} (hc : ∀ w, En g w → DT (g.cx w) c tc) (hb : DJs g out body tb) : DJ g out (.While c body [] pos) (dgWhile tc tb) := by
  refine ⟨fun w ip σ H s env S ds cc fs K J gd lv C gc A pf hy k ⟨W, ⟨m0, w0⟩, turn⟩ => sg_While fun p => ?_⟩
  have gl : GCo g (.whileLoop c body [] g.env) (loopFrame g.env K J gd lv cc p :: fs) id := gc_in gc rfl rfl
  have loop : ∀ (m : Nat) (w : Wk) (σ : L2.St) (H1 : Hp) (s : Shared) (env : Env) (S : Sto) (ds : List D), AtG g w ip σ H1 s env S → Ext3 H H1 → (∃ more, out = ds ++ more) → W m ds env S →
      Sg (model g.P g.w) w.A (PostN g out (out.length - ds.length) w) (.whileLoop c body [] g.env) ((model g.P g.w).den (.whileLoop c body [] g.env)) (loopFrame g.env K J gd lv cc p :: fs) s := by
    intro m
    induction m using Nat.strongRecOn with
    | ind m ih =>
      intro w σ H1 s env S ds A e1 pf wm
      refine sg_whileLoop ?_
      rw [gl.over]
      have E := A.en
      have r := (hc w E).run.run ip s σ H1 (fun b H' => ∃ S', RelS g.kk S' H' ∧ Ext H1 H' ∧ (if b = true then tb { C with nx := fun ds' env' S' => ∃ m', m' < m ∧ W m' ds' env' S', ct := fun ds' env' S' => ∃ m', m' < m ∧ W m' ds' env' S', bk := C.nx } ds env S' else C.nx ds env S')) A.inv
        ⟨env, S, _, A.rs, turn m ds env S wm, fun b S' H' q s1 e => ⟨S', s1, e, q⟩⟩
      rw [cx_A E, cx_env E] at r
      refine wpAny_dead (wpAny_mono r (fun b s' hs dd => ?_) fun _ _ z => False.elim z)
      obtain ⟨H2, I2, S2, s2, e2, q⟩ := hs
      have A2 : AtG g w ip σ H2 s' env S2 := A.go I2 dd (A.rs.ext e2 s2)
      have e12 : Ext3 H H2 := e1.trans (.of e2)
      cases b with
      | true =>
        rw [if_pos rfl] at q ⊢
        refine hb.run w ip σ H2 s' env S2 ds _ _ _ _ id id { C with nx := fun ds' env' S' => ∃ m', m' < m ∧ W m' ds' env' S', ct := fun ds' env' S' => ∃ m', m' < m ∧ W m' ds' env' S', bk := C.nx } gl A2 pf hy ⟨fun f w3 σ3 H3 s3 env3 S3 ds3 A3 e3 pf3 q3 => ?_⟩ q
        cases f with
        | next =>
          obtain ⟨m', hm, w'⟩ := q3
          exact sg_again rfl (ih m' hm w3 σ3 H3 s3 env3 S3 ds3 A3 (e12.trans e3) pf3 w')
        | cont =>
          obtain ⟨m', hm, w'⟩ := q3
          exact sg_again rfl (ih m' hm w3 σ3 H3 s3 env3 S3 ds3 A3 (e12.trans e3) pf3 w')
        | brk => exact sg_leaf (.ok .next) (k.ok .next w3 σ3 H3 s3 env3 S3 ds3 A3 (e12.trans e3) pf3 q3)
        | ret v => exact sg_leaf (.ok (.ret v)) (k.ok (.ret v) w3 σ3 H3 s3 env3 S3 ds3 A3 (e12.trans e3) pf3 q3)
      | false =>
        rw [if_neg Bool.false_ne_true] at q ⊢
        exact sg_leaf (.ok .next) (k.ok .next w σ H2 s' env S2 ds A2 e12 pf q)
  exact loop m0 w σ H s env S ds A (.refl H) pf w0
end Sv
set_option maxHeartbeats 1000000
set_option autoImplicit false
namespace Sv
open PySem PySem.Spec PyProof.Rows L2 Sz GenW
structure Steps3 (K : KK) (b : Bool) (H0 : Hp) (J : It) (w : Src) : Prop where
  ex : ∃ (G : Hp → Prop) (Y : Nat → Hp → V → Hp → Prop), Walk J w.items.length G Y ∧ (∀ H S, Ext3 H0 H → RelS K S H → w.live S → G H) ∧
    ∀ i H x H', Ext3 H0 H → Y i H x H' → Ext H H' ∧ (∀ S, RelS K S H → RelS K S H') ∧ ∃ d, w.items[i]? = some d ∧ RDw K b H' d x
def lI3 (K : KK) (b : Bool) (t : DTI) : TI := fun σ H R => ∃ env S R0, RS K σ H env S ∧ t env S R0 ∧ ∀ w S' J H', R0 w S' → RelS K S' H' → Ext H H' → Steps3 K b H' J w → R J H'
structure DI3 (X : Cx) (b : Bool) (tg e : Expr) (t : DTI) : Prop where
  run : PI X tg e (lI3 X.kk b t)
theorem steps3_pair {K : KK} {H0 : Hp} {J : It} {n : Nat} {G : Hp → Prop} {xs ys : Nat → Option V} {ps : List D} {lv : Sto → Prop} (w : Walk J n G (YPair xs ys)) (hn : ps.length = n) (hG : ∀ H S, Ext3 H0 H → RelS K S H → lv S → G H)
    (hp : ∀ i H x y, i < n → Ext3 H0 H → G H → xs i = some x → ys i = some y → ∃ d e, ps[i]? = some (.tup [d, e]) ∧ RD K H d x ∧ RD K H e y) : Steps3 K false H0 J ⟨ps, lv⟩ := by
  subst hn
  refine ⟨G, fun i H x H' => i < ps.length ∧ G H ∧ YPair xs ys i H x H', ⟨w.goes, w.stops, fun i H x H' hi g y => ⟨hi, g, w.yields i H x H' hi g y⟩⟩, hG, ?_⟩
  rintro i H v H' e ⟨hi, g, T, x, y, rfl, nT, rfl, hx, hy⟩
  obtain ⟨d, d', h1, h2, h3⟩ := hp i H x y hi e g hx hy
  exact ⟨.new nT, fun S s => s.new nT, _, h1, rdw_pair nT h2 h3⟩
/-- enumerate of a tuple, as data only -/
def diEnT (ta : DTA) : DTI := fun env S R => ta env S fun ds S1 => ∃ xs, (ds = [.tup xs] ∨ ds = [.wtup xs]) ∧ R ⟨enD xs, fun _ => True⟩ S1
theorem di_enT {X : Cx} {e : Expr} {p pos : Pos} {ta : DTA} {elts : List Expr} {kk : Nat} {tpos : Pos} (hg : Gl X "enumerate") (hm : X.mg "enumerate" = none) (ha : DA X [e] ta) (hs : starEach [e] X.env = [(false, eval e X.env)] := by rfl) :
    DI3 X false (.Tuple elts kk tpos) (.Call (.Name "enumerate" p) [e] [] pos) (diEnT ta) := by
  refine ⟨(pi_enumA hg hm ha.run hs).of fun σ H R ⟨env, S, R0, rs, h, k⟩ => ⟨env, S, _, rs, h, fun ds S1 vs H1 ⟨xs, hd, q⟩ s1 r1 e1 => ?_⟩⟩
  rcases hd with hd | hd
  · subst hd
    obtain ⟨v, rfl, r⟩ := r1.inv1
    cases r with
    | tup ht r =>
      refine ⟨_, _, rfl, .inr ⟨ht.sqT, k _ _ _ _ q s1 e1 (steps3_pair walk_etup' (by rw [enD_len, r.length]) (fun H S e _ _ => (ht.ext3 e).sqT) fun i H x y hi e g hx hy => ?_)⟩⟩
      cases hx
      obtain ⟨d, h1, h2⟩ := (r.ext3 e).atv hy
      exact ⟨_, _, enD_at h1, .int _, h2⟩
  · subst hd
    obtain ⟨v, rfl, r⟩ := r1.inv1
    cases r with
    | wtup ht r =>
      refine ⟨_, _, rfl, .inr ⟨.of ht, k _ _ _ _ q s1 e1 (steps3_pair walk_etup' (by rw [enD_len, r.length]) (fun H S e _ _ => .of (e _ _ rfl ht)) fun i H x y hi e g hx hy => ?_)⟩⟩
      cases hx
      obtain ⟨d, h1, h2⟩ := (r.ext3 e).atv hy
      exact ⟨_, _, enD_at h1, .int _, h2⟩
/-- a for whose turns hand something out -/
def dgFor (ti : DTI) (gg : DTG) (tb : DTGn) : DTGn := fun C ds env S => ti env S fun w S1 => ∃ Pv : Nat → List D → Env → Sto → Prop, Pv 0 ds env S1 ∧ (∀ i ds env S, i ≤ w.items.length → Pv i ds env S → w.live S) ∧
  (∀ i d ds env S, w.items[i]? = some d → Pv i ds env S → gg d env S fun env' S' => tb { C with nx := Pv (i + 1), ct := Pv (i + 1), bk := C.nx } ds env' S') ∧ ∀ ds env S, Pv w.items.length ds env S → C.nx ds env S
variable {g : GP} {out : List D} {pos : Pos}
theorem fp_ok {w : Wk} {ip : List (Addr × Obj)} {H : Hp} {b : Addr} (E : En g w) (h1 : g.L ≤ b) (h2 : b ≠ g.L) (h3 : ∀ p ∈ ip, p.1 ≠ b) (G : g.Ok) (n : H b = none) : FpOk (g.cx w) ip H b := by
  refine ⟨n, ?_, fun z => absurd (E.fr _ z) (Nat.not_lt_of_le h1), .inr ?_, fun x c h => ?_, fun p hp => ?_⟩
  · rw [cx_env E]; exact h2
  · show (cutS g.L w.s).heap.objs.size ≤ b
    rw [cutS_size (Nat.le_of_lt E.lt)]
    exact h1
  · rw [cx_env E] at h
    exact (no_cells G x c h).elim
  · rcases List.mem_append.mp hp with z | z
    · exact absurd (show p ∈ ([] : List (Addr × Obj)) from z) (by simp)
    · exact h3 p z
theorem of_fp_ok {w : Wk} {ip : List (Addr × Obj)} {H : Hp} {b : Addr} (E : En g w) (h : FpOk (g.cx w) ip H b) : g.L ≤ b ∧ b ≠ g.L ∧ (∀ p ∈ ip, p.1 ≠ b) ∧ H b = none := by
  obtain ⟨n, h1, _, h3, _, h5⟩ := h
  rw [cx_env E] at h1
  refine ⟨?_, h1, fun p hp => h5 p (List.mem_append_right _ hp), n⟩
  rcases h3 with z | z
  · exact absurd (show b ∈ ([] : List Addr) from z) (by simp)
  · have z : (cutS g.L w.s).heap.objs.size ≤ b := z
    rw [cutS_size (Nat.le_of_lt E.lt)] at z
    exact z
theorem dj_for {tg iter : Expr} {b : Bool} {vs : List Nat} {body : List Stmt} {ti : DTI} {gg : DTG} {tb : DTGn} (G : g.Ok) (hi : ∀ w, En g w → DI3 (g.cx w) b tg iter ti) (hg : ∀ w, En g w → DG (g.cx w) b vs tg gg) (hb : DJs g out body tb)
    (hs : ∀ x, foldedSetIterable iter g.env x = pure x := by intro _; rfl) : DJ g out (.For tg iter body [] pos) (dgFor ti gg tb) := by
  refine ⟨fun w0 ip σ0 H0 s0 env0 S0 ds0 cc fs K J gd lv C gc A0 pf0 hy k ht => sg_For hs ?_⟩
  rw [gc.over]
  have E0 := A0.en
  have r0 := (hi w0 E0).run.run ip s0 σ0 H0 (fun J H' => ∃ w S', RelS g.kk S' H' ∧ Ext H0 H' ∧ Steps3 g.kk b H' J w ∧ ∃ Pv : Nat → List D → Env → Sto → Prop, Pv 0 ds0 env0 S' ∧ (∀ i ds env S, i ≤ w.items.length → Pv i ds env S → w.live S) ∧
    (∀ i d ds env S, w.items[i]? = some d → Pv i ds env S → gg d env S fun env' S' => tb { C with nx := Pv (i + 1), ct := Pv (i + 1), bk := C.nx } ds env' S') ∧ ∀ ds env S, Pv w.items.length ds env S → C.nx ds env S) A0.inv
    ⟨env0, S0, _, A0.rs, ht, fun w S' J H' q s1 e st => ⟨w, S', s1, e, st, q⟩⟩
  rw [cx_A E0, cx_env E0] at r0
  refine wpAny_dead (wpAny_mono r0 (fun v s1 h1 d1 => wpAny_dead (wpAny_mono h1 (fun itv s2 h2 d2 p => ?_) fun _ _ z => False.elim z)) fun _ _ z => False.elim z)
  obtain ⟨it, fp, tn, JJ, H2, rfl, I2, T, t2, f2, src, S2, s2', e2, st, Pv, pv0, lv', step, done⟩ := h2
  have fst : ∀ b ∈ fp, g.L ≤ b ∧ b ≠ g.L ∧ ∀ p ∈ ip, p.1 ≠ b := fun b hb => let z := of_fp_ok E0 (f2 b hb); ⟨z.1, z.2.1, z.2.2.1⟩
  obtain ⟨Gw, Y, wk, hG, hY⟩ := st.ex
  have gl : GCo g (.forLoop tg (.ref it) body [] g.env) (loopFrame g.env K J gd lv cc p :: fs) id := gc_in gc rfl rfl
  have A2 : AtG g w0 ip σ0 H2 s2 env0 S2 := A0.go I2 (d1.trans d2) (A0.rs.ext e2 s2')
  have loop : ∀ (n i : Nat) (w : Wk) (σ : L2.St) (H : Hp) (s : Shared) (env : Env) (S : Sto) (ds : List D), src.items.length - i = n → i ≤ src.items.length → AtG g w ip σ H s env S → Ext3 H2 H → (∃ more, out = ds ++ more) → Pv i ds env S → tn i s.heap → (∀ b ∈ fp, H b = none) →
      Sg (model g.P g.w) w.A (PostN g out (out.length - ds.length) w) (.forLoop tg (.ref it) body [] g.env) ((model g.P g.w).den (.forLoop tg (.ref it) body [] g.env)) (loopFrame g.env K J gd lv cc p :: fs) s := by
    intro n
    induction n with
    | zero =>
      intro i w σ H s env S ds hn hi A e1 pf pv ti' fr
      have hi : i = src.items.length := by omega
      subst hi
      have E := A.en
      refine sg_forLoop ?_
      rw [gl.over]
      have stop := wk.stops H (hG H S e1 A.rs.sto (lv' _ ds env S (Nat.le_refl _) pv))
      have r := T.done (g.cx w) rfl rfl rfl rfl _ ip s σ H NoE A.inv (fun b hb => fp_ok E (fst b hb).1 (fst b hb).2.1 (fst b hb).2.2 G (fr b hb)) ti' stop
      rw [cx_A E] at r
      refine wpAny_dead (wpAny_mono r (fun rr s3 h3 d3 => ?_) fun _ _ z => False.elim z)
      obtain ⟨rfl, I3⟩ := h3
      refine sg_block_nil (sg_leaf (.ok .next) ?_)
      exact k.ok .next w σ H s3 env S ds (A.go I3 d3 A.rs) ((Ext3.of e2).trans e1) pf (done ds env S pv)
    | succ n ih =>
      intro i w σ H s env S ds hn hi A e1 pf pv ti' fr
      have hlt : i < src.items.length := by omega
      have E := A.en
      refine sg_forLoop ?_
      rw [gl.over]
      have gh := hG H S e1 A.rs.sto (lv' _ ds env S hi pv)
      have r := T.item (g.cx w) rfl rfl rfl rfl i ip s σ H NoE A.inv (fun b hb => fp_ok E (fst b hb).1 (fst b hb).2.1 (fst b hb).2.2 G (fr b hb)) ti' (wk.goes i H hlt gh)
      rw [cx_A E] at r
      refine wpAny_dead (wpAny_mono r (fun rr s3 h3 d3 => ?_) fun _ _ z => False.elim z)
      obtain ⟨u, rfl, h3⟩ := h3
      refine wpAny_dead (wpAny_mono h3 (fun _ s4 h4 d4 => ?_) fun _ _ z => False.elim z)
      obtain ⟨x, H4, I4, rx, yx, t4, f4⟩ := h4
      obtain ⟨e4, hS4, d, hd, rd⟩ := hY i H x H4 e1 (wk.yields i H x H4 hlt gh yx)
      have I4' := I4.pinned (fun b hb => fp_ok E (fst b hb).1 (fst b hb).2.1 (fst b hb).2.2 G (f4 b hb)) (T.obj _ _ t4)
      have A4 : AtG g w (ip ++ pinsAt fp s4.heap) σ H4 s4 env S := ⟨E, I4', A.dead.trans (d3.trans d4), A.rs.ext e4 (hS4 S A.rs.sto), fun p hp => (List.mem_append.mp hp).elim (A.ipok p) fun z => (fst p.1 (of_pinsAt z).1).1⟩
      have r4 := (hg w E).run.run _ s4 σ H4 x u (fun σ' H' => ∃ env' S', tb { C with nx := Pv (i + 1), ct := Pv (i + 1), bk := C.nx } ds env' S' ∧ RS g.kk σ' H' env' S' ∧ Ext H4 H') I4' rx
        ⟨d, env, S, _, rd, A4.rs, step i d ds env S hd pv, fun env' S' σ' H' q r e _ => ⟨env', S', q, r, e⟩⟩
      rw [cx_A E, cx_env E] at r4
      refine wpAny_dead (wpAny_mono r4 (fun _ s5 h5 d5 => ?_) fun _ _ z => False.elim z)
      obtain ⟨σ5, H5, I5, env5, S5, q5, rs5, e5⟩ := h5
      have A5 : AtG g w (ip ++ pinsAt fp s4.heap) σ5 H5 s5 env5 S5 := A4.go I5 d5 rs5
      have e15 : Ext3 H2 H5 := e1.trans (.of (e4.trans e5))
      have back : ∀ {w6 : Wk} {σ6 : L2.St} {H6 : Hp} {s6 : Shared} {env6 : Env} {S6 : Sto}, AtG g w6 (ip ++ pinsAt fp s4.heap) σ6 H6 s6 env6 S6 → AtG g w6 ip σ6 H6 s6 env6 S6 ∧ tn (i + 1) s6.heap ∧ ∀ b ∈ fp, H6 b = none := fun {w6 σ6 H6 s6 env6 S6} A6 => by
        have at' : ∀ b ∈ fp, ∀ o, s4.heap.get? b = some o → s6.heap.get? b = some o ∧ H6 b = none := fun b hb o e =>
          let z := A6.inv.pin (b, o) (List.mem_append_right _ (List.mem_append_right _ (mem_pinsAt hb e)))
          ⟨z.1, z.2.1⟩
        refine ⟨⟨A6.en, A6.inv.unpinned, A6.dead, A6.rs, fun p hp => A6.ipok p (List.mem_append_left _ hp)⟩, T.keep _ _ _ t4 fun b hb o e => (at' b hb o e).1, fun b hb => ?_⟩
        obtain ⟨o, e, _⟩ := T.obj _ _ t4 b hb
        exact (at' b hb o e).2
      refine hb.run w _ σ5 H5 s5 env5 S5 ds _ _ _ _ id id { C with nx := Pv (i + 1), ct := Pv (i + 1), bk := C.nx } gl A5 pf hy ⟨fun f w6 σ6 H6 s6 env6 S6 ds6 A6 e6 pf6 q6 => ?_⟩ q5
      obtain ⟨B6, t6, f6⟩ := back A6
      cases f with
      | next => exact sg_again rfl (ih (i + 1) w6 σ6 H6 s6 env6 S6 ds6 (by omega) hlt B6 (e15.trans e6) pf6 q6 t6 f6)
      | cont => exact sg_again rfl (ih (i + 1) w6 σ6 H6 s6 env6 S6 ds6 (by omega) hlt B6 (e15.trans e6) pf6 q6 t6 f6)
      | brk => exact sg_leaf (.ok .next) (k.ok .next w6 σ6 H6 s6 env6 S6 ds6 B6 ((Ext3.of e2).trans (e15.trans e6)) pf6 q6)
      | ret v => exact sg_leaf (.ok (.ret v)) (k.ok (.ret v) w6 σ6 H6 s6 env6 S6 ds6 B6 ((Ext3.of e2).trans (e15.trans e6)) pf6 q6)
  exact loop _ 0 w0 σ0 H2 s2 env0 S2 ds0 rfl (Nat.zero_le _) A2 (.refl H2) pf0 pv0 t2 fun b hb => (f2 b hb).1
end Sv
set_option maxHeartbeats 1000000
set_option autoImplicit false
namespace Sv
open PySem PySem.Spec PyProof.Rows L2 Sz GenW
/-- it sleeps: n items are to come -/
structure Slp (g : GP) (out : List D) (n : Nat) (a : Addr) (gn : Nat) (fp : List Addr) (Hm : Hp) (s : Shared) : Prop where
  isg : s.heap.IsGen a gn
  anot : a ∉ fp
  fpL : g.L ∈ fp
  ex : ∀ b ∈ fp, g.L ≤ b ∧ ∃ o, s.heap.get? b = some o ∧ ∀ v, o.data ≠ .cell v
  rdy : ∃ gs, s.gens[gn]? = some gs ∧ (n < out.length → IsSusp gs) ∧ ∀ w' : Wk, w'.fp = fp → En g w' → (∀ b ∈ fp, ∀ o, s.heap.get? b = some o → w'.s.heap.get? b = some o) → Ext3 Hm w'.H → WkG (model g.P g.w) w'.A (PostN g out n w') gs (.send .none) w'.s
variable {g : GP} {out : List D} {n gn : Nat} {a : Addr} {fp : List Addr} {Hm : Hp} {X : Cx} {pins : List (Addr × Obj)} {σ : L2.St} {H : Hp} {s s' : Shared}
theorem Slp.keep (h : Slp g out n a gn fp Hm s) (hn : n < out.length) (k : ∀ b ∈ a :: fp, ∀ o, s.heap.get? b = some o → s'.heap.get? b = some o) (st : Stays s s') : Slp g out n a gn fp Hm s' := by
  obtain ⟨gs, h1, h2, h3⟩ := h.rdy
  refine ⟨?_, h.anot, h.fpL, fun b hb => ?_, gs, st gn gs h1 (h2 hn), h2, fun w' e E kk x => h3 w' e E (fun b hb o eo => kk b hb o (k b (List.mem_cons_of_mem _ hb) o eo)) x⟩
  · obtain ⟨o, nm, qn, ho, r⟩ := h.isg
    exact ⟨o, nm, qn, k a List.mem_cons_self o ho, r⟩
  · obtain ⟨h1, o, e, d⟩ := h.ex b hb
    exact ⟨h1, o, k b (List.mem_cons_of_mem _ hb) o e, d⟩
/-- the one who wakes it -/
structure Host (g : GP) (X : Cx) : Prop where
  P : g.P = X.prog
  w : g.w = X.w
  K : g.K = X.K
  mg : g.mg = X.mg
  base : g.base = X.base
  s0 : X.s_0.heap.objs.size ≤ g.L
  fr : ∀ b ∈ frs X.stack, b < g.L
  calm : X.calm = true
  room : Room (g.k + 2) X.A
/-- an around near by -/
structure Near (X : Cx) (A : Around) : Prop where
  hd : A.handled = none
  fr : A.frames = some X.stack
  dp : A.depth ≤ X.A.depth + 2
  un : A.units ≤ X.A.units + 16
theorem Near.self (hx : Host g X) (I : Inv X pins σ H s) : Near X X.A := ⟨I.ok.hd hx.calm, I.ok.frames, by omega, by omega⟩
theorem Slp.lt (h : Slp g out n a gn fp Hm s) : g.L < s.heap.objs.size := let ⟨_, o, e, _⟩ := h.ex g.L h.fpL; Heap.lt_size e
theorem Host.en {A : Around} (hx : Host g X) (nr : Near X A) (I : Inv X pins σ H s) (h : Slp g out n a gn fp Hm s) (hf : ∀ b ∈ a :: fp, FpOk X pins H b) : En g ⟨A.in1, X.stack, s.setGen gn .running, H, fp⟩ := by
  have e := I.env0
  have r := hx.room
  refine ⟨?_, ⟨nr.hd, ?_, ?_⟩, hx.fr, h.lt, h.fpL, fun b hb => ⟨(hf b (List.mem_cons_of_mem _ hb)).1, (h.ex b hb).1⟩⟩
  · rw [hx.P, hx.w, hx.K, hx.mg, hx.base]
    exact ⟨nr.fr, e.mod, e.bs, e.bsz, e.funs, e.frf, e.hok, allBare_setGen e.bare rfl⟩
  · have := r.dp
    have := nr.dp
    show A.depth + 1 + 3 * g.k + 5 < _
    omega
  · have := r.un
    have := nr.un
    show A.units + 1 + 3 + 16 * g.k + 200 < _
    omega
/-- what stands is no new thing's place -/
theorem fp_next (hx : Host g X) (I : Inv X pins σ H s) {b : Addr} {H' : Hp} (hL : g.L ≤ b) (n : H' b = none) (h : s.heap.get? b = none) : FpOk X pins H' b := by
  have ne : ∀ c o, s.heap.get? c = some o → c ≠ b := fun c o e z => by rw [z, h] at e; cases e
  refine ⟨n, ?_, fun z => ?_, .inr (Nat.le_trans hx.s0 hL), fun x c e => ?_, fun p hp => ?_⟩
  · obtain ⟨m, ⟨o, _, _, e, _⟩, _⟩ := I.loc
    exact (ne _ o e).symm
  · obtain ⟨_, o, e, _⟩ := I.funs.mem z
    exact ne _ o e rfl
  · obtain ⟨v, o, e, _⟩ := I.cell x c e
    exact ne _ o e
  · exact ne _ _ (I.pin p hp).1
theorem inv_out {A : Around} {fp' : List Addr} {s1 : Shared} {H1 : Hp} (hx : Host g X) (I : Inv X pins σ H s) (hf : ∀ b ∈ a :: fp, FpOk X pins H b) (x : ExitR g ⟨A.in1, X.stack, s.setGen gn .running, H, fp⟩ s1 H1 fp') : Inv X pins σ H1 s1 :=
  I.call' (ch := fp) x.os x.un (by have := x.ok; rw [hx.P, hx.w] at this; exact this) x.bare fun b hb =>
    let z := hf b (List.mem_cons_of_mem _ hb)
    ⟨z.2.2.2.1, z.2.1, z.2.2.2.2.1, z.2.2.2.2.2⟩
theorem post_quiet {m : Nat} {w : Wk} {e : End} {s1 : Shared} (h : PostN g out m w e s1) : e.quiet = true := by
  cases m with
  | zero => obtain ⟨rfl, _⟩ := h; rfl
  | succ m => obtain ⟨_, _, _, _, _, _, _, rfl, q, _⟩ := h; exact q
/-- it hands out the next item -/
theorem wake_item {A : Around} {E : Value → Shared → Prop} (hx : Host g X) (nr : Near X A) (I : Inv X pins σ H s) (h : Slp g out (n + 1) a gn fp Hm s) (e3 : Ext3 Hm H) (hf : ∀ b ∈ a :: fp, FpOk X pins H b) (hn : n < out.length) :
    wpAny (model X.prog X.w) A (pyNext (.ref a)) (fun r s1 => ∃ u, r = some u ∧ ∃ d x H1 fp', out[out.length - (n + 1)]? = some d ∧ RelV x u ∧ RD X.kk H1 d x ∧ Inv X pins σ H1 s1 ∧ Ext H H1 ∧ (∀ S, RelS X.kk S H → RelS X.kk S H1) ∧ Slp g out n a gn fp' H1 s1 ∧ ∀ b ∈ a :: fp', FpOk X pins H1 b) E s := by
  obtain ⟨gs, h1, _, h3⟩ := h.rdy
  have hgl : gn < s.gens.size := (Array.getElem?_eq_some_iff.mp h1).1
  have En := hx.en nr I h hf
  have kk : X.kk = g.kk := by show (⟨X.prog, X.w, X.K⟩ : KK) = ⟨g.P, g.w, g.K⟩; rw [hx.P, hx.w, hx.K]
  have go := h3 ⟨A.in1, X.stack, s.setGen gn .running, H, fp⟩ rfl En (fun b hb o eo => eo) e3
  rw [hx.P, hx.w] at go
  refine wpAny_gsz (n := gn + 1) hgl (next_gk nr.hd I.nolimit (by have := hx.room.dp; have := nr.dp; show A.depth < _; omega) h.isg h1 go (fun e s1 q => post_quiet q) (fun v gd l k c p fs s1 hp hsz => ?_) fun r s1 hp => ?_)
  · obtain ⟨v', gd', l', k', c', p', fs', ee, q, d, x, H1, fp', hd, rx, rd, hL, ex, rest⟩ := hp
    cases ee
    have I1 := inv_out hx I hf ex
    have hs1 : gn < s1.gens.size := by
      have q : (s1.setGen gn (End.susp v gd l k c p fs).genState).gens.size = s1.gens.size := setGen_size _ _ _
      have hsz' : gn + 1 ≤ (s1.setGen gn (End.susp v gd l k c p fs).genState).gens.size := hsz
      omega
    have hb2 : AllBare (s1.setGen gn (End.susp v gd l k c p fs).genState).gens := allBare_setGen ex.bare (End.bare_of_quiet q)
    have I2 : Inv X pins σ H1 (s1.setGen gn (End.susp v gd l k c p fs).genState) := ⟨I1.ok, I1.os, hb2, I1.base, I1.loc, I1.cell, I1.free, I1.freeC, I1.pin, I1.hok, I1.len⟩
    have gone : ∀ b ∈ fp', FpOk X pins H1 b := fun b hb => by
      obtain ⟨f1, f2, f3, _⟩ := ex.fp b hb
      rcases f3 with z | z
      · exact ⟨f2, (hf b (List.mem_cons_of_mem _ z)).2⟩
      · exact fp_next hx I f1 f2 z
    have ga : s1.heap.IsGen a gn ∧ H1 a = none ∧ a ∉ fp' := by
      obtain ⟨o, nm, qn, ho, r⟩ := h.isg
      have fa := hf a List.mem_cons_self
      have nst : a ∉ frs X.stack := fun z => by
        rcases List.mem_cons.mp (I.stkSub a z) with z | z
        · exact fa.2.1 z
        · exact fa.2.2.1 z
      refine ⟨⟨o, nm, qn, ex.un.keep a o ho fa.1 nst h.anot, r⟩, ex.un.free a o ho fa.1 h.anot, fun z => ?_⟩
      obtain ⟨_, _, f3, _⟩ := ex.fp a z
      rcases f3 with z | z
      · exact h.anot z
      · have z : s.heap.get? a = none := z
        rw [ho] at z
        cases z
    refine ⟨v, rfl, d, x, H1, fp', hd, rx, by rw [kk]; exact rd, I2, ex.ext, fun S => ex.rel _ S, ⟨ga.1, ga.2.2, hL, fun b hb => ⟨(ex.fp b hb).1, (ex.fp b hb).2.2.2⟩, _, setGen_at hs1, fun _ => True.intro, fun w' ef E' kp x' => ?_⟩, fun b hb => ?_⟩
    · exact rest w' ef E' kp x'
    · rcases List.mem_cons.mp hb with rfl | hb
      · exact ⟨ga.2.1, (hf _ List.mem_cons_self).2⟩
      · exact gone b hb
  · obtain ⟨_, _, _, _, _, _, _, ee, _⟩ := hp
    cases ee
/-- it ends -/
theorem wake_done {A : Around} {E : Value → Shared → Prop} (hx : Host g X) (nr : Near X A) (I : Inv X pins σ H s) (h : Slp g out 0 a gn fp Hm s) (e3 : Ext3 Hm H) (hf : ∀ b ∈ a :: fp, FpOk X pins H b) :
    wpAny (model X.prog X.w) A (pyNext (.ref a)) (fun r s1 => r = none ∧ ∃ H1, Inv X pins σ H1 s1 ∧ Ext H H1 ∧ ∀ S, RelS X.kk S H → RelS X.kk S H1) E s := by
  obtain ⟨gs, h1, _, h3⟩ := h.rdy
  have En := hx.en nr I h hf
  have go := h3 ⟨A.in1, X.stack, s.setGen gn .running, H, fp⟩ rfl En (fun b hb o eo => eo) e3
  rw [hx.P, hx.w] at go
  refine next_gk nr.hd I.nolimit (by have := hx.room.dp; have := nr.dp; show A.depth < _; omega) h.isg h1 go (fun e s1 q => post_quiet q) (fun v gd l k c p fs s1 hp => ?_) fun r s1 hp => ?_
  · obtain ⟨ee, _⟩ := hp
    cases ee
  · obtain ⟨ee, H1, ex⟩ := hp
    cases ee
    refine ⟨rfl, fun h' hk => ⟨rfl, H1, ?_, ex.ext, fun S => ex.rel _ S⟩⟩
    have I1 := inv_out hx I hf ex
    have I2 : Inv X pins σ H1 (s1.setGen gn .finished) := ⟨I1.ok, I1.os, allBare_setGen ex.bare rfl, I1.base, I1.loc, I1.cell, I1.free, I1.freeC, I1.pin, I1.hok, I1.len⟩
    exact I2.kept (t' := s1.toks) hk
end Sv
set_option maxHeartbeats 1000000
set_option autoImplicit false
namespace Sv
open PySem PySem.Spec PyProof.Rows L2 Sz GenW
/-- a generator's call: all that it will hand out -/
abbrev DTGi := Env → Sto → (List D → Sto → Prop) → Prop
structure PGi (X : Cx) (e : Expr) (t : DTGi) : Prop where
  run : ∀ (pins : List (Addr × Obj)) (s : Shared) (σ : L2.St) (H : Hp) (env : Env) (S : Sto) (R : List D → Sto → Prop), Inv X pins σ H s → RS X.kk σ H env S → t env S R →
    wpAny (model X.prog X.w) X.A (eval e X.env) (fun u s' => ∃ g out a gn S' H', u = .ref a ∧ Host g X ∧ Inv X pins σ H' s' ∧ RelS X.kk S' H' ∧ Ext H H' ∧ Slp g out out.length a gn [g.L] H' s' ∧ (∀ b ∈ [a, g.L], FpOk X pins H' b) ∧ R out S') X.xe s
def diGen (t : DTGi) : DTI := fun env S R => t env S fun out S1 => R ⟨out, fun _ => True⟩ S1
variable {X : Cx} {pos : Pos}
theorem ds_forG {tg iter : Expr} {vs : List Nat} {body : List Stmt} {t : DTGi} {gg : DTG} {tb : DTS} (hxe : ∀ e s, ¬ X.xe e s) (hp : PassesOwn (model X.prog X.w) X.A X.env X.xe) (hi : PGi X iter t) (hg : DG X true vs tg gg) (hb : DSs X body tb)
    (hs : ∀ x, foldedSetIterable iter X.env x = pure x := by intro _; rfl) : DS X (.For tg iter body [] pos) (dFor (diGen t) gg tb) := by
  refine ⟨⟨fun pn s0 σ0 H0 D0 I0 ⟨env0, S0, C, rs0, h, k1, k2, _⟩ => ?_⟩⟩
  refine wpAny_For (thn (hi.run pn s0 σ0 H0 env0 S0 _ I0 rs0 h) fun v s1 h1 => ?_) hs
  obtain ⟨g, out, a, gn, S1, H1, rfl, hx, I1, s1', e1, sl, f1, Pv, pv0, lv, step, done⟩ := h1
  refine wpAny_pyIter_gen sl.isg ?_
  refine codeAny_forLoop_any (fun m s' => ∃ i σ' H' env S fp Hm, m = out.length - i ∧ i ≤ out.length ∧ Inv X pn σ' H' s' ∧ RS X.kk σ' H' env S ∧ Ext H1 H' ∧ Ext3 Hm H' ∧ Pv i env S ∧ Slp g out (out.length - i) a gn fp Hm s' ∧ ∀ b ∈ a :: fp, FpOk X pn H' b) ?_ out.length
    ⟨0, σ0, H1, env0, S1, [g.L], H1, rfl, Nat.zero_le _, I1, rs0.ext e1 s1', .refl H1, .refl H1, pv0, sl, f1⟩
  rintro m sa ⟨i, σa, Ha, env, S, fp, Hm, rfl, hi', Ia, rsa, ea, e3, pv, sla, fa⟩
  by_cases hlt : i < out.length
  · obtain ⟨n, hn⟩ : ∃ n, out.length - i = n + 1 := ⟨out.length - i - 1, by omega⟩
    rw [hn] at sla
    refine wpAny_passesOwn hp (thn (wake_item hx (.self hx Ia) Ia sla e3 fa (by omega)) fun r sb ⟨u, hr, d, x, Hb, fp', hd, rx, rd, Ib, eb, hS, slb, fb⟩ => ?_)
    subst hr
    have hi2 : out.length - (n + 1) = i := by omega
    rw [hi2] at hd
    obtain ⟨go, gnm, gqn, gho, ghc, ghd, _⟩ := id slb.isg
    refine wpAny_passesOwn hp (go_of gho ghc ghd (by decide) ?_)
    have obj : ∀ b ∈ a :: fp', ∃ o, sb.heap.get? b = some o ∧ ∀ v, o.data ≠ .cell v := fun b hb => by
      rcases List.mem_cons.mp hb with rfl | hb
      · obtain ⟨o, nm, qn, ho, _, hd, _⟩ := slb.isg
        exact ⟨o, ho, fun v z => by rw [hd] at z; cases z⟩
      · exact (slb.ex b hb).2
    have Ip := Ib.pinned fb obj
    have rsb : RS X.kk σa Hb env S := rsa.ext eb (hS S rsa.sto)
    refine wpAny_passesOwn hp (thn (run_held hxe (hg.run.run _ (held sb) σa Hb x u (fun σ' H' => ∃ env' S', tb { C with nx := Pv (i + 1), ct := Pv (i + 1), bk := C.nx } env' S' ∧ RS X.kk σ' H' env' S' ∧ Ext Hb H') (inv_held Ip) rx
      ⟨d, env, S, _, .inl rd, rsb, step i d env S hd pv, fun env' S' σ' H' q r e _ => ⟨env', S', q, r, e⟩⟩) Ip.bare) fun _ sd ⟨⟨G, ⟨σd, Hd, Id', envd, Sd, qd, rsd, ed⟩, bd⟩, std⟩ => ?_)
    have Id := inv_gens Id' (bd Id'.bare)
    refine wpAny_passesOwn hp (thn (run_held hxe (hb.run.run _ (held sd) σd Hd (Ends.mk (fun σ' H' => ∃ env' S', Pv (i + 1) env' S' ∧ RS X.kk σ' H' env' S' ∧ Ext Hd H') (fun v H' => D0.rt v H')
      (fun σ' H' => D0.nx σ' H') (fun σ' H' => ∃ env' S', Pv (i + 1) env' S' ∧ RS X.kk σ' H' env' S' ∧ Ext Hd H')) (inv_held Id)
      ⟨envd, Sd, _, rsd, qd, fun env' S' σ' H' q r e => ⟨env', S', q, r, e⟩, fun d S' v H' q s r e => k2 _ _ _ _ q s r (e1.trans (ea.trans (eb.trans (ed.trans e)))), fun env' S' σ' H' q r e => k1 _ _ _ _ q r (e1.trans (ea.trans (eb.trans (ed.trans e)))), fun env' S' σ' H' q r e => ⟨env', S', q, r, e⟩⟩) Id.bare) fun f se ⟨⟨G2, qe, be⟩, ste⟩ => ?_)
    have again : ∀ {σe : L2.St} {He : Hp}, Inv X (pn ++ pinsAt (a :: fp') sb.heap) σe He { se with gens := G2 } → (∃ env' S', Pv (i + 1) env' S' ∧ RS X.kk σe He env' S' ∧ Ext Hd He) →
        ∃ m, m < out.length - i ∧ ∃ i σ' H' env S fp Hm, m = out.length - i ∧ i ≤ out.length ∧ Inv X pn σ' H' se ∧ RS X.kk σ' H' env S ∧ Ext H1 H' ∧ Ext3 Hm H' ∧ Pv i env S ∧ Slp g out (out.length - i) a gn fp Hm se ∧ ∀ b ∈ a :: fp, FpOk X pn H' b := fun {σe He} Ie' ⟨env', S', pv', rs', ee⟩ => by
      have Ie := inv_gens Ie' (be Ie'.bare)
      have at' : ∀ b ∈ a :: fp', ∀ o, sb.heap.get? b = some o → se.heap.get? b = some o ∧ He b = none := fun b hb o e =>
        let z := Ie.pin (b, o) (List.mem_append_right _ (List.mem_append_right _ (mem_pinsAt hb e)))
        ⟨z.1, z.2.1⟩
      refine ⟨out.length - (i + 1), by omega, i + 1, σe, He, env', S', fp', Hb, rfl, hlt, Ie.unpinned, rs', ea.trans (eb.trans (ed.trans ee)), .of (ed.trans ee), pv', ?_, fun b hb => ?_⟩
      · have : out.length - (i + 1) = n := by omega
        rw [this]
        exact slb.keep (by omega) (fun b hb o e => (at' b hb o e).1) (std.trans ste)
      · obtain ⟨o, e, _⟩ := obj b hb
        exact ⟨(at' b hb o e).2, (fb b hb).2⟩
    cases f with
    | next => obtain ⟨σe, He, Ie, ne⟩ := qe; exact again Ie ne
    | cont => obtain ⟨σe, He, Ie, ne⟩ := qe; exact again Ie ne
    | brk => obtain ⟨σe, He, Ie, q⟩ := qe; exact ⟨σe, He, (inv_gens Ie (be Ie.bare)).unpinned, q⟩
    | ret v => obtain ⟨xe, σe, He, Ie, re, q⟩ := qe; exact ⟨xe, σe, He, (inv_gens Ie (be Ie.bare)).unpinned, re, q⟩
  · have hi2 : i = out.length := by omega
    subst hi2
    rw [Nat.sub_self] at sla
    refine wpAny_passesOwn hp (thn (wake_done hx (.self hx Ia) Ia sla e3 fa) fun r sb ⟨hr, Hb, Ib, eb, hS⟩ => ?_)
    subst hr
    exact wpAny_execs_nil ⟨σa, Hb, Ib, k1 _ _ _ _ (done env S pv) (rsa.ext eb (hS S rsa.sto)) (e1.trans (ea.trans eb))⟩
end Sv
set_option maxHeartbeats 1000000
set_option autoImplicit false
namespace Sv
open PySem PySem.Spec PyProof.Rows L2 Sz GenW
def dGf (n : Nat) (B : DTGn) (ds out : List D) : Prop := B { nx := fun o _ _ => o = out, rt := fun o d _ => d = .non ∧ o = out, yl := ylF out } [] (dStart n ds) (fun _ => none)
/-- what a generator's code was made of -/
structure GP.Is (g : GP) (P : Program) (w : World) (K : PySem.W.Frag) (mg : Str → Option Value) (base : Heap) (N : List Str) (x : Str) (sc : Scope) (f : Addr) (k : Nat) : Prop where
  P : g.P = P
  w : g.w = w
  K : g.K = K
  mg : g.mg = mg
  base : g.base = base
  N : g.N = N
  qual : g.qual = x
  scope : g.scope = sc
  f : g.f = f
  k : g.k = k
def dGfn (n N : Nat) (B : DTGn) (ds out : List D) : Prop := ds.length = n ∧ dGf N B ds out
structure GMk (P : Program) (w : World) (K : PySem.W.Frag) (mg : Str → Option Value) (base : Heap) (k : Nat) (f : Addr) (r : List D → List D → Prop) : Prop where
  run : ∀ (X : Cx) (pins : List (Addr × Obj)) (s : Shared) (σ : L2.St) (H : Hp) (us : List Value) (vs : List V) (ds out : List D) (E : Value → Shared → Prop), X.prog = P → X.w = w → X.K = K → X.mg = mg → X.base = base → X.calm = true → Room (k + 2) X.A → Inv X pins σ H s → Vals vs us → RDs X.kk H ds vs → r ds out →
    wpAny (model X.prog X.w) X.A (call (.ref f) us) (fun u s' => ∃ g a gn H', u = .ref a ∧ Host g X ∧ Inv X pins σ H' s' ∧ Ext H H' ∧ (∀ S, RelS X.kk S H → RelS X.kk S H') ∧ Slp g out out.length a gn [g.L] H' s' ∧ ∀ b ∈ [a, g.L], FpOk X pins H' b) E s
theorem rs_dstart {K : KK} {H : Hp} {S : Sto} {ds : List D} {vs : List V} {N : List Str} (r : RDs K H ds vs) (s : RelS K S H) : RS K (start N vs) H (dStart N.length ds) S := rs_start r s
theorem inv_guard {g : GP} {w : Wk} {σ : L2.St} (G : g.Ok) (E : En g w) (loc : ∃ m, w.s.heap.Ns g.L m ∧ ∀ (i : Nat) (x : Str) (v : V), g.N[i]? = some x → σ[i]? = some (some v) → Vis g.env.scope x → ∃ u, RelV v u ∧ Look g.env w.s.heap m x u) (hl : σ.length = g.N.length) :
    Inv (g.cx w) [] σ (guardH g.L w) w.s := by
  have nc : ∀ x c, (g.cx w).env.cells.lookup x = some c → False := fun x c h => by rw [cx_env E] at h; exact no_cells G x c h
  refine ⟨cx_ok G E, rfl, E.e0.bare, ⟨fun b o e n hf hx => ?_, fun b o e n hf hx => ?_, fun b o e n hx => n, fun b o e hx => ?_, fun b xs h => h, fun b o u h => h, fun b ps h => ⟨#[], by rw [show guardH g.L w b = _ from h]; simp⟩⟩, ?_, fun x c h => (nc x c h).elim, ?_, fun x c h => (nc x c h).elim, fun p hp => ?_, fun b u q => ?_, hl⟩
  · exact (cutS_get (cutS_lt e)).symm.trans e
  · exact ⟨o.slots, (cutS_get (cutS_lt e)).symm.trans e⟩
  · exact ⟨o, (cutS_get (cutS_lt e)).symm.trans e⟩
  · obtain ⟨m, q, r⟩ := loc
    refine ⟨m, by rw [cx_env E]; exact q, fun i x v h1 h2 h3 => ?_⟩
    rw [cx_env E] at h3 ⊢
    exact r i x v h1 h2 h3
  · have eL : (g.cx w).env.locals = g.L := by rw [cx_env E]; rfl
    rw [eL]
    exact guard_fp E E.fpL
  · exact absurd (show p ∈ ([] : List (Addr × Obj)) from hp) (by simp)
  · rcases guard_cases q with z | ⟨_, _, _, o, eo, rfl⟩
    · obtain ⟨z1, z2⟩ := immH_some.mp z
      exact immOk z2 (E.e0.hok b u z1) fun o e => e
    · exact ⟨eo, eo, ⟨o, eo⟩, fun h1 h2 p st => st _ p⟩
theorem out_guard {g : GP} {w : Wk} {b : Addr} {u : HO} (k : keepO u = true) (h : outH w (guardH g.L w) b = some u) : w.H b = some u := by
  cases e : w.H b with
  | none =>
    rw [outH_imm fun v hv => by rw [e] at hv; cases hv] at h
    have := guard_keep k (immH_some.mp h).1
    rw [e] at this
    cases this
  | some v =>
    cases hi : immO v with
    | true =>
      rw [outH_imm fun v' hv => by rw [e] at hv; cases hv; exact hi] at h
      rw [← e]
      exact guard_keep k (immH_some.mp h).1
    | false =>
      rw [outH_hid e hi] at h
      exact h
section
variable {P : Program} {w : World} {K : PySem.W.Frag} {mg : Str → Option Value} {base : Heap}
theorem gmk_core {x : Str} {st : Stmt} {f : Addr} {fd : FuncData} {N ps : List Str} {k : Nat} {B : DTGn} {X : Cx} {pins : List (Addr × Obj)} {σ : L2.St} {H0 : Hp} {s0 : Shared} {us0 : List Value} {out : List D} {E : Value → Shared → Prop} (F : Fun K x x st f fd) (S : GScope N ps (defScope st)) (noc : ∀ y ∈ (defScope st).names, y.2 = .cell → False)
    (hin : ∀ L cdv, interactive (envOfC x (defScope st) L f cdv) = false) (hbody : ∀ g : GP, g.Is P w K mg base N x (defScope st) f k → g.Ok → ∀ out, DJs g out (defBody st) B)
    (hP : X.prog = P) (hw : X.w = w) (hK : X.K = K) (hmg : X.mg = mg) (hbase : X.base = base) (hcalm : X.calm = true) (hr : Room (k + 2) X.A) (I0 : Inv X pins σ H0 s0)
    (hbind : ∀ (Q : List (Str × Value) → Shared → Prop) (E : Value → Shared → Prop), (∀ us vs ds H s, Inv X pins σ H s → Ext H0 H → (∀ S, RelS X.kk S H0 → RelS X.kk S H) → Vals vs us → RDs X.kk H ds vs → ds.length = ps.length → dGf N.length B ds out → Q (ps.zip us) s) → wpAny (model P w) X.A.in1 (bindArgs fd ⟨us0, []⟩) Q E s0) :
    wpAny (model X.prog X.w) X.A (call (.ref f) us0) (fun u s' => ∃ g a gn H', u = .ref a ∧ Host g X ∧ Inv X pins σ H' s' ∧ Ext H0 H' ∧ (∀ S, RelS X.kk S H0 → RelS X.kk S H') ∧ Slp g out out.length a gn [g.L] H' s' ∧ ∀ b ∈ [a, g.L], FpOk X pins H' b) E s0 := by
  obtain ⟨oc, od, kV, doc, pm, an, cdv, ct, osl, rfl, lk, hcd⟩ := F.ex
  have KX0 : K.In s0.heap := by have := I0.kIn; rw [hK] at this; exact this
  refine wpAny_call ?_
  rw [hP, hw]
  refine codeAny_call_generator (by have := hr.dp; show X.A.depth < _; omega) (KX0 _ _ lk) rfl S.co S.gen rfl (PySem.W.codeRec_of KX0 hcd) (hbind _ _ fun us vs ds H s I ext0 rel0 r rd hlen hq => ?_)
  have e0 := I.env0
  rw [hP, hw, hK, hmg, hbase] at e0
  have hl : vs.length = ps.length := by rw [← rd.length, hlen]
  have KX : K.In s.heap := e0.mod.kin.keeps fun b o e => (e0.bs b o e).1
  have lim : s.heap.NoLimit := e0.mod.nolimit.keeps fun b o e => (e0.bs b o e).1
  have hkind : ∀ y ∈ ps.zip us, (defScope st).names.lookup y.1 = some .local ∨ ((defScope st).names.lookup y.1 = some .cell ∧ ((cellsFrom (s.heap.objs.size + 1) (defScope st).names []).lookup y.1).isSome = true) := fun ⟨n, v⟩ hy => by
    rcases S.par n (List.of_mem_zip hy).1 with q | q
    · exact .inl q
    · exact .inr ⟨q, PySem.W.cellsFrom_some _ _ _ (.inl q)⟩
  refine wpAny_newFunctionEnv_cells S.kind hkind fun env he s1 x1 => ?_
  subst he
  have lim1 : s1.heap.NoLimit := lim.keeps x1.toInCall.keep
  refine ⟨lim1, ?_⟩
  obtain ⟨h1, tk, es1, hk1⟩ := x1.done
  have os1 : s1.os = s.os := by rw [es1]
  have gen1 : s1.gens = s.gens := by rw [es1]
  have lt1 : s.heap.objs.size < s1.heap.objs.size := x1.toInCall.ns.lt
  have kp1 : ∀ b o, s.heap.get? b = some o → s1.heap.get? b = some o := x1.toInCall.keep
  have main : ∀ (go : Obj) (nm qn : Value) (tk2 : Nat), go.cls = .type "generator" → go.data = .fields #[.int s1.gens.size 0, nm, qn] → go.slots = #[] → (∀ h : Heap, (h.push go).get? h.objs.size = some go) →
      ∃ g a gn H', (Value.ref s1.heap.objs.size) = .ref a ∧ Host g X ∧ Inv X pins σ H' { s1 with gens := s1.gens.push (.fresh (.func (defBody st) (envOfC x (defScope st) s.heap.objs.size f cdv))), toks := tk2, heap := s1.heap.push go } ∧ Ext H0 H' ∧ (∀ S, RelS X.kk S H0 → RelS X.kk S H') ∧
        Slp g out out.length a gn [g.L] H' { s1 with gens := s1.gens.push (.fresh (.func (defBody st) (envOfC x (defScope st) s.heap.objs.size f cdv))), toks := tk2, heap := s1.heap.push go } ∧ ∀ b ∈ [a, g.L], FpOk X pins H' b := by
    intro go nm qn tk2 hgc hgd0 hgs hgp
    let s2 : Shared := { s1 with gens := s1.gens.push (.fresh (.func (defBody st) (envOfC x (defScope st) s.heap.objs.size f cdv))), toks := tk2, heap := s1.heap.push go }
    have kp : ∀ b o, s.heap.get? b = some o → (s1.heap.push go).get? b = some o := fun b o e => Heap.get?_push_of_some _ (kp1 b o e)
    have hb' : AllBare (s1.gens.push (.fresh (.func (defBody st) (envOfC x (defScope st) s.heap.objs.size f cdv)))) := AllBare.push (by rw [gen1]; exact e0.bare) rfl
    have I1 : Inv X pins σ H s2 :=
      I.call' (ch := []) os1 (Un.kept kp) (I.hok.kept kp) hb' fun b z => by simp at z
    let g : GP := ⟨P, w, K, mg, base, N, x, defScope st, f, cdv, s.heap.objs.size, k⟩
    have hG : g.Ok := ⟨S.kind, noc, S.nofree, S.co, hin _ _, e0.bsz⟩
    have frL : ∀ b ∈ frs X.stack, b < s.heap.objs.size := fun b hb => by
      obtain ⟨_, o, ho, _⟩ := I.stack.mem hb
      exact Heap.lt_size ho
    have hx : Host g X := ⟨hP.symm, hw.symm, hK.symm, hmg.symm, hbase.symm, I.sz, frL, hcalm, hr⟩
    have e1 := I1.env0
    rw [hP, hw, hK, hmg, hbase] at e1
    have E0 : En g ⟨X.A, X.stack, s2, H, [g.L]⟩ := by
      refine ⟨e1, ⟨hr.hd, ?_, ?_⟩, frL, ?_, List.mem_singleton_self _, fun b hb => ?_⟩
      · have := hr.dp
        show X.A.depth + 1 + 3 * k + 5 < _
        omega
      · have := hr.un
        show X.A.units + 3 + 16 * k + 200 < _
        omega
      · show s.heap.objs.size < (s1.heap.push go).objs.size
        rw [Heap.size_push]; exact Nat.lt_succ_of_lt lt1
      · rw [List.mem_singleton.mp hb]
        exact ⟨I.hok.fresh (Nat.le_refl _), Nat.le_refl _⟩
    have IG := inv_startG (P := P) (w := w) (K := K) (mg := mg) (base := base) (f := f) (cd := cdv) (E := fun _ _ _ => False) S (by exact hr.hd) e0 hl r x1
    have IW : Inv (g.cx ⟨X.A, X.stack, s2, H, [g.L]⟩) [] (start N vs) (guardH g.L ⟨X.A, X.stack, s2, H, [g.L]⟩) s2 := by
      refine inv_guard (w := ⟨X.A, X.stack, s2, H, [g.L]⟩) hG E0 ?_ IG.len
      obtain ⟨m, q, rr⟩ := IG.loc
      refine ⟨m, q.push go, fun i y v h1 h2 h3 => ?_⟩
      obtain ⟨u, ru, l⟩ := rr i y v h1 h2 h3
      refine ⟨u, ru, ?_⟩
      rcases l with l | ⟨_, c, e, _⟩
      · exact .inl l
      · exact (no_cells hG y c e).elim
    have kk : X.kk = g.kk := by show (⟨X.prog, X.w, X.K⟩ : KK) = ⟨P, w, K⟩; rw [hP, hw, hK]
    have AW : AtG g ⟨X.A, X.stack, s2, H, [g.L]⟩ [] (start N vs) _ _ (dStart N.length ds) (fun _ => none) := ⟨E0, IW, .refl _, rs_dstart (by rw [← kk]; exact rd.ext3 ext3_guard) (fun a o h => nomatch h), fun p hp => by simp at hp⟩
    have hgen : (s1.heap.push go).IsGen s1.heap.objs.size s1.gens.size := ⟨go, nm, qn, hgp _, hgc, hgd0, hgs⟩
    have hne : s1.heap.objs.size ≠ s.heap.objs.size := Nat.ne_of_gt lt1
    refine ⟨g, s1.heap.objs.size, s1.gens.size, H, rfl, hx, I1, ext0, rel0, ⟨hgen, fun z => hne (List.mem_singleton.mp z), List.mem_singleton_self _, fun b hb => ?_, _, Array.getElem?_push_size .., fun z => absurd z (Nat.lt_irrefl _), fun w' hf En' hkp x' => ?_⟩, fun b hb => ?_⟩
    · rw [List.mem_singleton.mp hb]
      obtain ⟨m, ⟨ob, es, ep, e, d, _⟩, _⟩ := loc_at AW
      exact ⟨Nat.le_refl _, ob, e, fun v z => by rw [d] at z; cases z⟩
    · have own0 : ownFp g.L [] (fun _ => none) s2 = [g.L] := by
        unfold ownFp
        have : (List.range (s1.heap.push go).objs.size).filter (fun b => (keepLD (fun _ => none) b).isSome) = [] := List.filter_eq_nil_iff.mpr fun b _ z => nomatch z
        show g.L :: ([] ++ (List.range (s1.heap.push go).objs.size).filter (fun b => (keepLD (fun _ => none) b).isSome)) = _
        rw [this]
        rfl
      obtain ⟨B1, _⟩ := reenter hG AW En' (hf.trans own0.symm) (fun b hb => hkp b (hf ▸ hb)) fun b u kq h => x' b u kq (out_guard kq h)
      refine ⟨rfl, sg_func ?_⟩
      have hj := hbody g ⟨rfl, rfl, rfl, rfl, rfl, rfl, rfl, rfl, rfl, rfl⟩ hG out
      refine hj.run w' [] (start N vs) _ w'.s (dStart N.length ds) _ [] _ [] _ _ id id _ ⟨fun A => over_func, rfl, rfl, rfl⟩ B1 ⟨out, rfl⟩ rfl ⟨fun fl w2 σ2 H2 s3 env2 S2 ds2 A2 _ _ q => ?_⟩ hq
      have fin : ds2 = out → ∀ u, u = Value.none → Sg (model P w) w2.A (PostN g out (out.length - ds2.length) w2) (.func (defBody st) g.env) (.pure (.done (.ret u))) [] s3 := fun hd u hu => by
        subst hd
        subst hu
        rw [Nat.sub_self]
        have ex := exit_of A2
        exact sg_end (.ok (.ret .none)) ⟨rfl, _, ex.os, ex.bare, ex.dead, ex.un, ex.ok, ex.ext, ex.rel, fun b hb => by simp at hb⟩
      cases fl with
      | next => exact fin q _ rfl
      | brk => exact q.elim
      | cont => exact q.elim
      | ret u =>
        obtain ⟨d, v, ⟨rfl, q⟩, rd, rv⟩ := q
        cases rd
        exact fin q _ rv
    · rcases List.mem_cons.mp hb with rfl | hb
      · exact I.fpOk (Nat.le_of_lt lt1) (I.hok.fresh (Nat.le_of_lt lt1))
      · rw [List.mem_singleton.mp hb]
        exact I.fpOk (Nat.le_refl _) (I.hok.fresh (Nat.le_refl _))
  exact main _ _ _ _ rfl rfl rfl fun h => Heap.get?_push_size _ rfl
theorem gmk_of {x : Str} {st : Stmt} {f : Addr} {fd : FuncData} {N ps : List Str} {k n : Nat} {B : DTGn} (F : Fun K x x st f fd) (S : GScope N ps (defScope st)) (hn : ps.length = n) (noc : ∀ y ∈ (defScope st).names, y.2 = .cell → False) (hbd : Binds K fd ps [])
    (hin : ∀ L cdv, interactive (envOfC x (defScope st) L f cdv) = false) (hbody : ∀ g : GP, g.Is P w K mg base N x (defScope st) f k → g.Ok → ∀ out, DJs g out (defBody st) B) :
    GMk P w K mg base k f (dGfn n N.length B) := by
  refine ⟨fun X pins s σ H us vs ds out E hP hw hK hmg hbase hcalm hr I r rd hq => gmk_core F S noc hin hbody hP hw hK hmg hbase hcalm hr I fun Q E h => ?_⟩
  have hul : us.length = ps.length := by rw [← r.length, ← rd.length, hq.1, hn]
  have KX : K.In s.heap := by have := I.kIn; rw [hK] at this; exact this
  have hbs : BindsTo s fd ⟨us, []⟩ (ps.zip us) := by
    have := hbd s us KX (by rw [List.append_nil]; exact hul)
    rw [List.append_nil] at this
    exact this
  exact hbs _ _ _ _ (h us vs ds H s I (.refl H) (fun _ h => h) r rd (hq.1.trans hn.symm) hq.2)
/-- a generator def by its name -/
structure DGf (P : Program) (w : World) (K : PySem.W.Frag) (mg : Str → Option Value) (base : Heap) (k : Nat) (x : Str) (r : List D → List D → Prop) : Prop where
  ex : ∃ f : Addr, GMk P w K mg base k f r ∧ mg x = some (.ref f) ∧ PySem.W.keepIn K (.ref f) = true
end
/-- the call of a generator def -/
def dGenC (r : List D → List D → Prop) (ta : DTA) : DTGi := fun env S R => ta env S fun ds S1 => ∃ out, r ds out ∧ R out S1
theorem pgi_call {X : Cx} {e : Expr} {es : List Expr} {tl : DTA} {k : Nat} {r : List D → List D → Prop} {x : Str} {p pos' : Pos} (F : DGf X.prog X.w X.K X.mg X.base k x r) (hc : X.calm = true) (hr : Room (k + 2) X.A) (hg : Gl X x) (ha : DA X (e :: es) tl)
    (hdb : (x == ("__debug__" : Str)) = false := by decide) (he : starEach (e :: es) X.env = (false, eval e X.env) :: starEach es X.env := by rfl) (hpl : (backTo pos' (starEach es X.env)).any (·.1) = false := by rfl) :
    PGi X (.Call (.Name x p) (e :: es) [] pos') (dGenC r tl) := by
  obtain ⟨f, M, hm, hk⟩ := F.ex
  refine ⟨fun pins s σ H env S R I rs h => ?_⟩
  refine wpAny_Call_Name_kw (ld_glob I hg hm ?_ hdb)
  refine PySem.W.callWith_K (h₀ := X.base) I.ok.mod.kin hk (thn (ha.run.run pos' pins s σ H (fun vs H' => ∃ ds S', RelS X.kk S' H' ∧ RDs X.kk H' ds vs ∧ Ext H H' ∧ ∃ out, r ds out ∧ R out S') I
    ⟨env, S, _, rs, h, fun ds S' vs H' q s1 r1 e1 => ⟨ds, S', s1, r1, e1, q⟩⟩) fun us s1 ⟨vs, H1, I1, r1, ds, S1, s1', rd, e1, out, hq, hR⟩ => ⟨I1.kIn, ?_⟩) he hpl
  exact thn (M.run X pins s1 σ H1 us vs ds out X.xe rfl rfl rfl rfl rfl hc hr I1 r1 rd hq) fun u s2 ⟨g, a, gn, H2, hu, hx, I2, e2, hS, sl, fa⟩ => ⟨g, out, a, gn, S1, H2, hu, hx, I2, hS _ s1', e1.trans e2, sl, fa, hR⟩
end Sv
set_option maxHeartbeats 1000000
set_option autoImplicit false
namespace Sv
open PySem PySem.Spec PyProof.Rows L2 Sz GenW
variable {g : GP} {out : List D} {n gn : Nat} {a S : Addr} {fp : List Addr} {Hm : Hp} {X : Cx} {pins : List (Addr × Obj)} {σ : L2.St} {H : Hp} {s s' : Shared}
theorem pin_fp {acc : Array Value} {c : Nat} (I : Inv X ((S, lstObj acc c) :: pins) σ H s) (h0 : X.s_0.heap.objs.size ≤ S) (hp : ∀ p ∈ X.pn ++ pins, p.1 ≠ S) : FpOk X pins H S := by
  obtain ⟨q1, q2, q3, q4, _⟩ := I.pin (S, lstObj acc c) (List.mem_append_right _ List.mem_cons_self)
  refine ⟨q2, q3, q4, .inr h0, fun x c' e z => ?_, hp⟩
  obtain ⟨v, o, ho, hd⟩ := I.cell x c' e
  rw [z, q1] at ho
  cases ho
  cases hd
theorem repin {acc : Array Value} {c : Nat} {v : Value} (I : Inv X ((S, lstObj acc c) :: pins) σ H s) (h0 : X.s_0.heap.objs.size ≤ S) (hp : ∀ p ∈ X.pn ++ pins, p.1 ≠ S) :
    ∃ c', Inv X ((S, lstObj (acc.push v) c') :: pins) σ H { s with heap := s.heap.update S (Obj.mapSeq (·.push v)) } ∧ (s.heap.update S (Obj.mapSeq (·.push v))).get? S = some (lstObj (acc.push v) c') := by
  obtain ⟨q1, q2, q3, q4, _⟩ := I.pin (S, lstObj acc c) (List.mem_append_right _ List.mem_cons_self)
  have f := pin_fp I h0 hp
  have I0 : Inv X pins σ H s := I.pins_of fun p hp => I.pin p (List.mem_append_right _ (List.mem_cons_of_mem _ hp))
  have e := Heap.get?_update_self (Obj.mapSeq (·.push v)) q1 rfl
  have I1 := I0.turned (t' := s.toks) (it := S) (h' := s.heap.update S (Obj.mapSeq (·.push v))) (fun b o hb e => (Heap.get?_update_other _ _ (Ne.symm hb)).trans e) q2 q3 (.inr h0) f.2.2.2.2.1 hp
  refine ⟨_, I1.pins_of fun p hp' => ?_, e⟩
  rcases List.mem_cons.mp hp' with z | z
  · rw [z]
    exact ⟨e, q2, q3, q4, fun v z => by cases z⟩
  · exact I1.pin p (List.mem_append_right _ z)
theorem drainK {A : Around} {res : Value} {R : Result → Shared → Prop} (hx : Host g X) (nr : Near X A.in1) (h0 : X.s_0.heap.objs.size ≤ S) (hp : ∀ p ∈ X.pn ++ pins, p.1 ≠ S) (hle : out.length ≤ 1000000) {H0 : Hp}
    (hend : ∀ s' H' acc c vs, Inv X ((S, lstObj acc c) :: pins) σ H' s' → RDs X.kk H' out vs → Vals vs acc.toList → Ext H0 H' → (∀ S, RelS X.kk S H0 → RelS X.kk S H') → R (.ok (.ret res)) s') :
    ∀ (n : Nat) (s : Shared) (H Hm : Hp) (fp : List Addr) (acc : Array Value) (c : Nat) (vs : List V), n ≤ out.length → Inv X ((S, lstObj acc c) :: pins) σ H s → Slp g out n a gn fp Hm s → Ext3 Hm H → (∀ b ∈ a :: fp, FpOk X ((S, lstObj acc c) :: pins) H b) →
      RDs X.kk H (out.take (out.length - n)) vs → Vals vs acc.toList → Ext H0 H → (∀ S, RelS X.kk S H0 → RelS X.kk S H) →
      codeAny (model X.prog X.w) A (.builtin "list.extend.loop" ⟨[.ref S, .ref a, res], []⟩) R s := by
  intro n
  induction n with
  | zero =>
    intro s H Hm fp acc c vs hn I sl e3 hf rd rv e0 hS
    refine codeAny_builtin F.entry_extend_loop ?_
    rw [Around.under_plainId F.plain_extend_loop _]
    show wpAny _ A.in1 (pyNext (.ref a) >>= _) _ _ s
    refine wpAny_bind (thn (wake_done hx nr I sl e3 hf) fun r s1 ⟨hr, H1, I1, e1, hS1⟩ => ?_)
    subst hr
    rw [Nat.sub_zero, List.take_length] at rd
    exact wpAny_pure (hend s1 H1 acc c vs I1 (rd.ext e1) rv (e0.trans e1) fun S h => hS1 S (hS S h))
  | succ n ih =>
    intro s H Hm fp acc c vs hn I sl e3 hf rd rv e0 hS
    refine codeAny_builtin F.entry_extend_loop ?_
    rw [Around.under_plainId F.plain_extend_loop _]
    show wpAny _ A.in1 (pyNext (.ref a) >>= _) _ _ s
    refine wpAny_bind (thn (wake_item hx nr I sl e3 hf (by omega)) fun r s1 ⟨u, hr, d, x, H1, fp', hd, rx, rdx, I1, e1, hS1, sl1, f1⟩ => ?_)
    subst hr
    show wpAny _ A.in1 (updateSeq S (·.push u) >>= _) _ _ _
    have q1 := (I1.pin (S, lstObj acc c) (List.mem_append_right _ List.mem_cons_self)).1
    have hsz : acc.size = out.length - (n + 1) := by
      have h1 := rv.length
      have h2 := rd.length
      rw [List.length_take] at h2
      have h3 : acc.toList.length = acc.size := by simp
      omega
    refine wpAny_bind ?_
    have mil : (1000000 : Nat) ≤ sizeLine := by decide
    refine wpAny_updateSeq q1 rfl (wpAny_pure ⟨plainId_quiet F.plain_extend_loop _, ?_⟩) (by rw [hsz]; omega) (by show (acc.push u).size ≤ sizeLine + 1; rw [Array.size_push, hsz]; omega)
    obtain ⟨c', I2, q2⟩ := repin (v := u) I1 h0 hp
    have hSa : ∀ b ∈ a :: fp', S ≠ b := fun b hb => (f1 b hb).2.2.2.2.2 (S, lstObj acc c) (List.mem_append_right _ List.mem_cons_self)
    refine ih _ H1 H1 fp' (acc.push u) c' (vs ++ [x]) (by omega) I2 (sl1.keep (by omega) (fun b hb o e => (Heap.get?_update_other _ _ (hSa b hb)).trans e) fun _ _ e _ => e) (.refl _) (fun b hb => ?_) ?_ ?_ (e0.trans e1) fun S h => hS1 S (hS S h)
    · obtain ⟨z1, z2, z3, z4, z5, z6⟩ := f1 b hb
      refine ⟨z1, z2, z3, z4, z5, fun p hp' => ?_⟩
      rcases List.mem_append.mp hp' with z | z
      · exact z6 p (List.mem_append_left _ z)
      · rcases List.mem_cons.mp z with z | z
        · rw [z]; exact hSa b hb
        · exact z6 p (List.mem_append_right _ (List.mem_cons_of_mem _ z))
    · have : out.length - n = out.length - (n + 1) + 1 := by omega
      rw [this, List.take_add_one, hd]
      exact (rd.ext e1).append (.cons rdx .nil)
    · rw [Array.toList_push]
      exact rv.append (.cons rx .nil)
/-- list(g) -/
theorem call_listK {E : Value → Shared → Prop} {Q' : Value → Shared → Prop} (hx : Host g X) (I : Inv X pins σ H s) (sl : Slp g out out.length a gn fp H s) (hf : ∀ b ∈ a :: fp, FpOk X pins H b) (hle : out.length ≤ 1000000)
    (hQ : ∀ S s' H' vs, H' S = none → Inv X pins σ (upd H' S (.lst vs)) s' → RDs X.kk H' out vs → Ext H H' → (∀ S, RelS X.kk S H → RelS X.kk S H') → Q' (.ref S) s') :
    wpAny (model X.prog X.w) X.A (call (.type "list") [.ref a]) Q' E s := by
  have hl := I.nolimit
  have hr := hx.room
  obtain ⟨go, gnm, gqn, gho, ghc, ghd, ghs⟩ := id sl.isg
  have ha2 : a < s.heap.objs.size := Heap.lt_size gho
  have hSa : s.heap.objs.size ≠ a := Nat.ne_of_gt ha2
  refine callType_codes (Q₁ := fun obj s₁ => obj = .ref s.heap.objs.size ∧ s₁ = { s with heap := s.heap.push { cls := .type "list", data := .seq #[] } }) F.called_list (F.typeCall_list_1 _) F.entry_list_init
    (code_list_new _ ⟨rfl, rfl⟩) fun obj s₁ h₁ => ?_
  obtain ⟨rfl, rfl⟩ := h₁
  have hS : (s.heap.push { cls := .type "list", data := .seq #[] }).get? s.heap.objs.size = some { cls := .type "list", data := .seq #[] } := Heap.get?_push_size _ rfl
  refine ⟨⟨_, hS, rfl⟩, F.args_list_init_2 _ _, ?_⟩
  show wpAny _ X.A.in1.in1 (do let old ← Builtin.List.listItems (.ref s.heap.objs.size); Builtin.List.listUpdate (.ref s.heap.objs.size) (fun _ => #[]); letGo old.toList.reverse; Builtin.List.listExtendWith (.ref s.heap.objs.size) (.ref a) .none) _ _ _
  refine wpAny_bind ?_
  unfold Builtin.List.listItems
  refine wpAny_bind (wpAny_seqItems hS rfl (wpAny_pure ?_))
  show wpAny _ X.A.in1.in1 (updateSeq s.heap.objs.size (fun _ => #[]) >>= fun _ => letGo (#[] : Array Value).toList.reverse >>= fun _ => Builtin.List.listExtendWith (.ref s.heap.objs.size) (.ref a) .none) _ _ _
  refine wpAny_bind (wpAny_updateSeq hS rfl ?_)
  have hS2 := Heap.get?_update_self (Obj.mapSeq (fun _ => (#[] : Array Value))) hS rfl
  refine wpAny_bind (wpAny_letGo ?_)
  unfold Builtin.List.listExtendWith
  have up : ∀ (h : Heap) (f : Obj → Obj), (∀ b o, s.heap.get? b = some o → h.get? b = some o) → ∀ b o, s.heap.get? b = some o → (h.update s.heap.objs.size f).get? b = some o := fun h f q b o e =>
    (Heap.get?_update_other _ _ (Ne.symm (Nat.ne_of_lt (Heap.lt_size e)))).trans (q b o e)
  have k1 : ∀ b o, s.heap.get? b = some o → (s.heap.push { cls := .type "list", data := .seq #[] }).get? b = some o := fun b o e => Heap.get?_push_of_some _ e
  have k2 := up _ (Obj.mapSeq (fun _ => (#[] : Array Value))) k1
  have gty : ∀ {h : Heap}, (∀ b o, s.heap.get? b = some o → h.get? b = some o) → h.IsGen a gn := fun {h} q => sl.isg.keeps q
  refine wpAny_bind (wpAny_typeOf (Heap.IsGen.typeIs (s := { s with heap := _ }) (gty k2)) ?_)
  have h1 : Builtin.List.listSameRef (.ref s.heap.objs.size) (.ref a) = false := by simp [Builtin.List.listSameRef, hSa]
  have h2 : (Value.type "generator" == Value.type "list") = false := by decide
  have h3 : (Value.type "generator" == Value.type "tuple") = false := by decide
  simp only [h1, h2, h3, Bool.or_false, Bool.false_eq_true, if_false]
  refine wpAny_bind (wpAny_pyIter_gen (s := { s with heap := _ }) (gty k2) ?_)
  refine wpAny_bind (wpAny_holding ?_)
  unfold Builtin.List.listLengthHint
  refine wpAny_bind (wpAny_specialOf (Heap.IsGen.typeIs (s := { s with heap := _ }) (gty k2)) F.gen_no_len ?_)
  show wpAny _ X.A.in1.in1 (specialOf (Value.ref a) (Str.ofString "__length_hint__") >>= _) _ _ _
  refine wpAny_bind (wpAny_specialOf (Heap.IsGen.typeIs (s := { s with heap := _ }) (gty k2)) F.gen_no_hint ?_)
  refine wpAny_pure ?_
  show wpAny _ X.A.in1.in1 (rule "list.extend.makes-room" >>= fun _ => Builtin.List.listTouch (.ref s.heap.objs.size) >>= fun _ =>
    again (.builtin "list.extend.loop" ⟨[.ref s.heap.objs.size, .ref a, .none], []⟩)) _ _ _
  refine wpAny_bind (wpAny_rule ?_)
  refine wpAny_bind ?_
  show wpAny _ X.A.in1.in1 (updateSeq s.heap.objs.size (·.push .none) >>= fun _ => updateSeq s.heap.objs.size (·.pop)) _ _ _
  refine wpAny_bind (wpAny_updateSeq hS2 rfl ?_)
  have hS3 := Heap.get?_update_self (Obj.mapSeq (·.push Value.none)) hS2 rfl
  refine wpAny_updateSeq (hz := by seq_fits) hS3 rfl ?_
  have hS4 := Heap.get?_update_self (Obj.mapSeq (·.pop)) hS3 rfl
  have k4 := up _ (Obj.mapSeq (·.pop)) (up _ (Obj.mapSeq (·.push Value.none)) k2)
  refine wpAny_pure ⟨plainId_quiet F.plain_extend_loop _, ?_⟩
  have hpn : ∀ p ∈ X.pn ++ pins, p.1 ≠ s.heap.objs.size := fun p hp => Nat.ne_of_lt (Heap.lt_size (I.pin p hp).1)
  have I4 := I.kept (t' := s.toks) k4
  have hHS : H s.heap.objs.size = none := I.hok.fresh (Nat.le_refl _)
  obtain ⟨c4, hS4'⟩ : ∃ c, (((s.heap.push { cls := .type "list", data := .seq #[] }).update s.heap.objs.size (Obj.mapSeq (fun _ => (#[] : Array Value)))).update s.heap.objs.size (Obj.mapSeq (·.push Value.none)) |>.update s.heap.objs.size (Obj.mapSeq (·.pop))).get? s.heap.objs.size = some (lstObj #[] c) := ⟨_, hS4⟩
  have I5 : Inv X ((s.heap.objs.size, lstObj #[] c4) :: pins) σ H _ := I4.pins_of fun p hp => by
    rcases List.mem_cons.mp hp with z | z
    · rw [z]
      have fS := I.fpOk (H' := H) (Nat.le_refl _) hHS
      exact ⟨hS4', hHS, fS.2.1, fS.2.2.1, fun v z => by cases z⟩
    · exact I4.pin p (List.mem_append_right _ z)
  refine drainK (g := g) (A := X.A.in1) (out := out) (a := a) (gn := gn) (H0 := H) hx ⟨hr.hd, I.ok.frames, by show X.A.depth ≤ _; omega, by show X.A.units + 1 + 1 ≤ _; omega⟩ I.sz hpn hle
    (fun s' H' acc c vs I' rd rv e hS' => ⟨rfl, ?_⟩) out.length _ H H fp #[] c4 [] (Nat.le_refl _) I5 ?slp (.refl _) (fun b hb => ?fpk) (by rw [Nat.sub_self]; exact .nil) .nil (.refl _) fun _ h => h
  case slp =>
    obtain ⟨gs, r1, r2, r3⟩ := sl.rdy
    exact ⟨gty k4, sl.anot, sl.fpL, fun b hb => ⟨(sl.ex b hb).1, let ⟨o, e, d⟩ := (sl.ex b hb).2; ⟨o, k4 b o e, d⟩⟩, gs, r1, r2, fun w' hw En hk x => r3 w' hw En (fun b hb o e => hk b hb o (k4 b o e)) x⟩
  case fpk =>
    obtain ⟨z1, z2, z3, z4, z5, z6⟩ := hf b hb
    refine ⟨z1, z2, z3, z4, z5, fun p hp' => ?_⟩
    rcases List.mem_append.mp hp' with z | z
    · exact z6 p (List.mem_append_left _ z)
    · rcases List.mem_cons.mp z with z | z
      · rw [z]
        rcases List.mem_cons.mp hb with rfl | hb
        · exact hSa
        · obtain ⟨_, o, e, _⟩ := sl.ex b hb
          exact Nat.ne_of_gt (Heap.lt_size e)
      · exact z6 p (List.mem_append_right _ z)
  · obtain ⟨q1, q2, q3, q4, _⟩ := I'.pin (s.heap.objs.size, lstObj acc c) (List.mem_append_right _ List.mem_cons_self)
    have fS := pin_fp I' I.sz hpn
    have I0 : Inv X pins σ H' s' := I'.pins_of fun p hp => I'.pin p (List.mem_append_right _ (List.mem_cons_of_mem _ hp))
    have hlen : vs.length ≤ sizeLine := by rw [← rd.length]; exact Nat.le_trans hle (by decide)
    refine hQ _ s' H' vs q2 (I0.call' (ch := [s.heap.objs.size]) rfl ⟨fun b o e n _ _ => e, fun b o e n _ _ => ⟨o.slots, e⟩, fun b o e n hx => by rw [upd_ne (fun z => hx (List.mem_singleton.mpr z))]; exact n, fun b o e _ => ⟨o, e⟩, fun b xs e => by rw [upd_ne (ne_of_none e q2)]; exact e,
      fun b o u e => by rw [upd_ne (ne_of_none e q2)]; exact e, fun b ps e => ⟨#[], by rw [upd_ne (ne_of_none e q2), e]; simp⟩⟩ (fun b u e => ?_) I0.bare fun b hb => ?_) rd e hS'
    · by_cases hb : b = s.heap.objs.size
      · subst hb
        rw [upd_same] at e
        cases e
        exact ⟨hlen, acc.toList, c, rv, by rw [q1]⟩
      · rw [upd_ne hb] at e
        exact (I0.hok b u e).stay (fun _ _ _ z => z) (fun d z => by rw [upd_ne (ne_of_none z q2)]; exact z) fun d xs z => by rw [upd_ne (ne_of_none z q2)]; exact z
    · rw [List.mem_singleton.mp hb]
      exact ⟨fS.2.2.2.1, fS.2.1, fS.2.2.2.2.1, fS.2.2.2.2.2⟩
def dListK (t : DTGi) : DTE := fun env S R => t env S fun out S1 => out.length ≤ 1000000 ∧ ∀ p, S1 p = none → R (.ref p) (S1.put p (.lst out))
theorem de_listK {X : Cx} {e : Expr} {t : DTGi} {nm : Str} {p2 pos : Pos} (h : PGi X e t) (hgl : Gl X nm) (hmg : X.mg nm = none) (hv : bootBuiltins nm = some (.type "list")) (hnm : nm ≠ "__name__" := by decide) (hdn : (nm == ("__debug__" : Str)) = false := by decide)
    (he : starEach [e] X.env = (false, eval e X.env) :: starEach [] X.env := by rfl) : DE X (.Call (.Name nm p2) [e] [] pos) (dListK t) := by
  refine ⟨⟨fun pins s σ H Q I ⟨env, S, R, rs, hq, k⟩ => ?_⟩⟩
  refine wpAny_Call_Name_kw (ld_blt I hgl hmg hv ?_ hnm hdn)
  refine PyProof.Rows.callWith_type1 ?_ he rfl
  rw [he]
  show wpAny _ _ (spliced ((false, eval e X.env) :: backTo pos (starEach [] X.env))) _ _ s
  refine Calls.spliced_cons (thn (h.run pins s σ H env S _ I rs hq) fun u s1 ⟨g, out, a, gn, S1, H1, hu, hx, I1, s1', e1, sl, fa, hle, hR⟩ => ?_)
  subst hu
  refine Calls.spliced_nil ?_
  refine call_listK hx I1 sl fa hle fun p s2 H2 vs hn I2 rd e2 hS => ?_
  have s2' := hS _ s1'
  exact ⟨.ref p, _, I2, rfl, k _ _ _ _ (hR p (s2'.fresh hn)) (s2'.lay hn ⟨vs, upd_same, rd.ext (.new hn)⟩) (.ref p) (e1.trans (e2.trans (.new hn)))⟩
end Sv
set_option maxHeartbeats 1000000
set_option autoImplicit false
namespace Sv
open PySem PySem.Spec PyProof.Rows L2
theorem En.cv {g : GP} {w : Wk} (E : En g w) : Room g.k (w.A.deeper (envOfC g.qual g.scope (cutS g.L w.s).heap.objs.size g.f g.cdv)) := by rw [cutS_size (Nat.le_of_lt E.lt)]; exact E.room
def rGetL (K : PySem.W.Frag) : V → V → Hp → VK → Prop := fun o i H Q => ∃ (p : Addr) (xs : List V) (k : Nat) (v : V), o = .ref p ∧ i = .int k ∧ SqL K H p xs ∧ xs[k]? = some v ∧ Q v H
section
variable {X : Cx}
theorem pget_list : PGet X (rGetL X.K) := by
  intro pins s σ H o i ov iv Q I ro ri h
  obtain ⟨p, xs, k, v, rfl, rfl, hq, hx, q⟩ := h
  cases ro
  obtain ⟨t, rfl⟩ := ri
  obtain ⟨its, r, pl, hz⟩ := I.list hq
  obtain ⟨w, ew, rw'⟩ := r.get hx
  have hk : k < xs.length := (List.getElem?_eq_some_iff.mp hx).1
  have hn := line63
  exact wpAny_getItem_list pl.isList (Int.natCast_nonneg k) (by omega) (by rw [Int.toNat_natCast]; simpa using ew) ⟨v, H, I, rw', q⟩
/-- o[i] op= e, a list of ints -/
def dAugL (to ti te : DTE) (f : Int → Int → Int) : DTS := fun C env S => to env S fun o S1 => ti env S1 fun i S2 => ∃ (a : Addr) (ds : List D) (k : Nat) (x : Int), o = .ref a ∧ i = .int k ∧ S2 a = some (.lst ds) ∧ ds[k]? = some (.int x) ∧
  te env S2 fun y S3 => ∃ (j : Int) (ds3 : List D), y = .int j ∧ S3 a = some (.lst ds3) ∧ k < ds3.length ∧ C.nx env (S3.put a (.lst (ds3.set k (.int (f x j)))))
theorem ds_augL {o i e : Expr} {to ti te : DTE} {op : Operator} {tpos pos : Pos} {f : Int → Int → Int} (hop : PIp X op (ipI f)) (ho : DE X o to) (hi : DE X i ti) (he : DE X e te)
    (ha : ∀ ov iv new, augStore i ov iv new = (do holding [new, ov, iv] (setItem ov iv new); release [new, ov, iv] []; pure .next) := by intros; rfl) : DS X (.AugAssign (.Subscript o i tpos) op e pos) (dAugL to ti te f) := by
  refine ⟨(ps_augS ho.run hi.run pget_list he.run hop set_list ha).of fun σ H B ⟨env, S, C, rs, h, kk, _⟩ => ⟨env, S, _, rs, h, fun o S1 ov H1 q1 s1 r1 e1 => ⟨env, S1, _, rs.ext e1 s1, q1, fun i S2 iv H2 q2 s2 r2 e2 => ?_⟩⟩⟩
  obtain ⟨a, ds, k, x, rfl, rfl, hs, hx, q⟩ := q2
  cases r1
  cases r2
  obtain ⟨vs, h1, q1⟩ := s2.lst hs
  obtain ⟨v, hv, rv⟩ := q1.at hx
  cases rv
  refine ⟨a, vs, k, .int x, rfl, rfl, .of h1, hv, env, S2, _, rs.ext (e1.trans e2) s2, q, fun y S3 u H3 ⟨j, ds3, hy, hs3, hk, q3⟩ s3 r3 e3 => ?_⟩
  subst hy
  cases r3
  obtain ⟨vs3, h3, q3'⟩ := s3.lst hs3
  have hk' : k < vs3.length := by rw [← q3'.length]; exact hk
  refine ⟨x, j, rfl, rfl, a, vs3, k, k, rfl, rfl, h3, ?_, ?_⟩
  · unfold ixN
    first
      | (rw [if_neg (by omega)]; simp; omega)
      | simp [hk']
      | omega
  · have e4 : Ext H3 (upd H3 a (.lst (vs3.set k (.int (f x j))))) := .put h3 trivial
    exact kk _ _ _ _ q3 (rs.ext (e1.trans (e2.trans (e3.trans e4))) (s3.put h3 trivial ⟨_, upd_same, (q3'.set (.int _) k).ext e4⟩)) (e1.trans (e2.trans (e3.trans e4)))
/-- x or y, where x is None or a tuple that holds something -/
def dOrN (ta tb : DTE) : DTE := fun env S R => ta env S fun x S1 => (x = .non ∧ tb env S1 R) ∨ (∃ d ds, x = .tup (d :: ds) ∧ R x S1)
theorem de_orN {a b : Expr} {rest : List Expr} {pos : Pos} {ta tb : DTE} (ha : DE X a ta) (hb : DE X (.BoolOp .Or (b :: rest) pos) tb) : DE X (.BoolOp .Or (a :: b :: rest) pos) (dOrN ta tb) := by
  refine ⟨(pe_orT ha.run hb.run).of fun σ H Q ⟨env, S, R, rs, h, k⟩ => ⟨env, S, _, rs, h, fun x S1 v H1 q s1 r1 e1 => ?_⟩⟩
  rcases q with ⟨rfl, q⟩ | ⟨d, ds, rfl, q⟩
  · cases r1
    exact ⟨false, by first | trivial | rfl | simp [TruV], env, S1, R, rs.ext e1 s1, q, fun d S2 v H2 q s2 r2 e2 => k _ _ _ _ q s2 r2 (e1.trans e2)⟩
  · have r2 := r1
    cases r1 with
    | tup ht r =>
      cases r with
      | cons r0 rr => exact ⟨true, .inr (.inl ⟨_, ht.sqT, rfl⟩), k _ _ _ _ q s1 r2 e1⟩
def dSet0 : DTE := fun _ S R => ∀ p, S p = none → R (.ref p) (S.put p (.iset []))
theorem de_set0 {x : Str} {p pos : Pos} (hg : Gl X x) (hm : X.mg x = none) (hv : bootBuiltins x = some (.type "set")) (hn : x ≠ "__name__" := by decide) (hdb : (x == ("__debug__" : Str)) = false := by decide) : DE X (.Call (.Name x p) [] [] pos) dSet0 := by
  refine ⟨(pe_callTy0 cr_set0K hg hm hv hn hdb).of fun σ H Q ⟨env, S, R, rs, h, k⟩ => ?_⟩
  refine ⟨rfl, fun p np => ?_⟩
  exact k _ _ _ _ (h p (rs.sto.fresh np)) (rs.sto.lay (o := .iset []) np ⟨fun _ => false, upd_same, fun i => by simp⟩) (.ref p) (.new np)
/-- s.add(i) -/
def dSAdd (to : DTE) (tl : DTA) : DTE := fun env S R => to env S fun x S1 => ∃ (a : Addr) (ns0 : List Int), x = .ref a ∧ S1 a = some (.iset ns0) ∧ tl env S1 fun ds S2 => ∃ (i : Int) (ns : List Int), ds = [.int i] ∧ S2 a = some (.iset ns) ∧ ns.length ≤ 4000 ∧
  R .non (S2.put a (.iset (if i ∈ ns then ns else ns ++ [i])))
theorem de_sadd {o e : Expr} {to : DTE} {tl : DTA} {apos cpos : Pos} (ho : DE X o to) (da : DA X [e] tl)
    (hbase : attributeBase o "add" X.env (eval o X.env) = eval o X.env := by rfl)
    (hfew : ((backTo cpos (starEach [e] X.env)).all (fun x => !x.1) && (backToKw cpos (keywordEach [] X.env)).all (fun x => x.1.isSome)
      && decide (([e] : List Expr).length + ([] : List Keyword).length + (if ([] : List Keyword).isEmpty then 0 else 1) < 30)) = true := by rfl)
    (hline : (apos.endLine == cpos.line) = true := by rfl) (hs : starEach [e] X.env = (false, eval e X.env) :: starEach [] X.env := by rfl) (hplain : (backTo cpos (starEach [] X.env)).any (·.1) = false := by rfl) :
    DE X (.Call (.Attribute o "add" apos) [e] [] cpos) (dSAdd to tl) := by
  refine ⟨(pe_saddK ho.run da.run hbase hfew hline hs hplain).of fun σ H Q ⟨env, S, R, rs, h, k⟩ => ⟨env, S, _, rs, h, fun x S1 v H1 q1 s1 r1 e1 => ?_⟩⟩
  obtain ⟨a, ns0, rfl, h0, q⟩ := q1
  cases r1
  obtain ⟨S0, hS0, _⟩ := s1 a _ h0
  refine ⟨⟨a, S0, _, rfl, hS0⟩, env, S1, _, rs.ext e1 s1, q, fun ds S2 vs H2 q2 s2 r2 e2 => ?_⟩
  · obtain ⟨i, ns, rfl, h2, hl, q⟩ := q2
    obtain ⟨v, rfl, rv⟩ := r2.inv1
    cases rv
    obtain ⟨S2', hS2, hin⟩ := s2 a _ h2
    have e3 : Ext H2 (upd H2 a (SetK X.prog X.w a (fun j => S2' j || decide (j = .inl i)) (if S2' (.inl i) = true then ns.length else ns.length + 1))) := .put hS2 trivial
    refine ⟨a, .inl i, S2', ns.length, rfl, rfl, hS2, Nat.lt_of_le_of_lt (Nat.succ_le_succ hl) (by decide), ?_⟩
    refine k _ _ _ _ q (s2.put hS2 trivial ⟨fun j => S2' j || decide (j = .inl i), ?_, fun j => ?_⟩) .non (e1.trans (e2.trans e3))
    · rw [upd_same]
      congr 2
      by_cases z : i ∈ ns
      · rw [if_pos ((hin i).mpr z), if_pos z]
      · rw [if_neg (fun y => z ((hin i).mp y)), if_neg z, List.length_append]
        rfl
    · have : (S2' (.inl j) || decide ((Sum.inl j : Key) = .inl i)) = true ↔ j ∈ ns ∨ j = i := by
        rw [Bool.or_eq_true, hin j, decide_eq_true_iff]
        constructor
        · rintro (h | h)
          · exact .inl h
          · exact .inr (Sum.inl.inj h)
        · rintro (h | h)
          · exact .inl h
          · exact .inr (by rw [h])
      rw [this]
      by_cases z : i ∈ ns
      · rw [if_pos z]
        constructor
        · rintro (h | h)
          · exact h
          · rw [h]; exact z
        · exact .inl
      · rw [if_neg z, List.mem_append, List.mem_singleton]
/-- i in s -/
def rInS (n : Bool) : DR2 := fun x y S R => ∃ (i : Int) (a : Addr) (ns : List Int), x = .int i ∧ y = .ref a ∧ S a = some (.iset ns) ∧ R (.bl (decide (i ∈ ns) ^^ n)) S
theorem o_inS : OpR X (compareOp .In) (l2 X.kk (rInS false)) := by
  intro pins s σ H x y v u Q I rx ry ⟨d, e, S, R, r1, r2, s1, ⟨i, a, ns, hd, he, hs, q⟩, k⟩
  subst hd he
  cases r1
  cases r2
  obtain ⟨S2, hS, hin⟩ := s1 a _ hs
  refine or_sinK pins s σ H _ _ v u Q I rx ry ⟨.inl i, a, S2, _, rfl, rfl, hS, ?_⟩
  have : S2 (.inl i) = decide (i ∈ ns) := by
    cases e : S2 (.inl i) with
    | true => exact (decide_eq_true ((hin i).mp e)).symm
    | false => exact (decide_eq_false fun z => by rw [(hin i).mpr z] at e; cases e).symm
  rw [this]
  rw [xor_ff] at q
  exact k _ _ _ _ q s1 (.bl _) (.refl H)
end
end Sv
namespace Sv
open PySem L2
/-- event_count: 0 rows 1 row -/
def B_event_count_1213 : DTS := dRet (dCB (rSum1) (dCons (dLc (diVal (dVar 0)) (dgName 1) (dYes) (dCB (rLen) (dCons (dVar 1) (dNil))) [1]) (dNil)))
/-- shape_error: 0 value 1 process 2 row -/
def B_shape_error_72a0 : DTS := dSeq (dIfS (dOr (dNot (dB (dCB rIsi (dCons (dVar 0) (dCons (dC (.ty "tuple")) (dNil)))))) (dNot (dB (dChain (rCmp fun i j => decide (i ≤ j)) (rCmp fun i j => decide (i ≤ j)) (dC (.int 1)) (dCB (rLen) (dCons (dVar 0) (dNil))) (dC (.int 6)))))) (dRet (dTup (dCons (dC (.str "history")) (dNil)))) (dNext))
  (dSeq (dFor (diEnum (dCons (dVar 0) (dNil))) (dUnp 2 (dgCons (dgName 1) (dgCons (dgName 2) (dgNil)))) (dIfS (dNot (dB (dCB rIsi (dCons (dVar 2) (dCons (dC (.ty "tuple")) (dNil)))))) (dRet (dTup (dCons (dC (.str "row")) (dCons (dVar 1) (dNil))))) (dNext)))
  (dSeq (dIfS (dB (dBin (rCmp fun i j => decide (j < i)) (dCall 1 (dFn 2 B_event_count_1213) (dCons (dVar 0) (dNil))) (dC (.int 60)))) (dRet (dTup (dCons (dC (.str "events")) (dNil)))) (dNext))
  (dRet (dC .non))))
/-- placed_events: 0 rows 1 process 2 row 3 place 4 event -/
def B_placed_events_e217 : DTGn := dgSeq (dgFor (diEnT (dCons (dVar 0) (dNil))) (dUnp 2 (dgCons (dgName 1) (dgCons (dgName 2) (dgNil)))) (dgSeq (dgFor (diEnT (dCons (dVar 2) (dNil))) (dUnp 2 (dgCons (dgName 3) (dgCons (dgName 4) (dgNil)))) (dgSeq (dgYield (dTup (dCons (dVar 1) (dCons (dVar 3) (dCons (dVar 4) (dNil))))))
  (dgNext)))
  (dgNext)))
  (dgNext)
/-- event_error: 0 rows 1 process 2 place 3 event -/
def B_event_error_3c54 : DTS := dSeq (dFor (diGen (dGenC (dGfn 1 5 B_placed_events_e217) (dCons (dVar 0) (dNil)))) (dUnp 3 (dgCons (dgName 1) (dgCons (dgName 2) (dgCons (dgName 3) (dgNil))))) (dIfS (dNot (dB (dCall 3 (dFn 3 B_is_number_within_7f04) (dCons (dVar 3) (dCons (dUn rNeg (dC (.int 24))) (dCons (dC (.int 24)) (dNil))))))) (dRet (dTup (dCons (dC (.str "event")) (dCons (dVar 1) (dCons (dVar 2) (dNil)))))) (dNext)))
  (dRet (dC .non))
/-- twice_error: 0 rows 1 seen 2 process 3 place 4 event -/
def B_twice_error_125f : DTS := dSeq (dAsg (dSet0) (dgName 1))
  (dSeq (dFor (diGen (dGenC (dGfn 1 5 B_placed_events_e217) (dCons (dVar 0) (dNil)))) (dUnp 3 (dgCons (dgName 2) (dgCons (dgName 3) (dgCons (dgName 4) (dgNil))))) (dSeq (dIfS (dB (dBin (rInS false) (dVar 4) (dVar 1))) (dRet (dTup (dCons (dC (.str "twice")) (dCons (dVar 2) (dCons (dVar 3) (dNil)))))) (dNext))
  (dIfS (dB (dBin (rEqq true) (dVar 4) (dC (.int 0)))) (dDrop (dSAdd (dVar 1) (dCons (dVar 4) (dNil)))) (dNext))))
  (dRet (dC .non)))
/-- is_sent_by_another: 0 rows 1 process 2 message 3 sender 4 row -/
def B_is_sent_by_another_87f2 : DTS := dRet (dCB (rAnyq fun bs => bs.any id) (dCons (dLc (diEnum (dCons (dVar 0) (dNil))) (dUnp 2 (dgCons (dgName 3) (dgCons (dgName 4) (dgNil)))) (dB (dBin (rEqq true) (dVar 3) (dVar 1))) (dBin (rInq false) (dVar 2) (dVar 4)) [3, 4]) (dNil)))
/-- unsent_error: 0 rows 1 process 2 place 3 event -/
def B_unsent_error_5d57 : DTS := dSeq (dFor (diGen (dGenC (dGfn 1 5 B_placed_events_e217) (dCons (dVar 0) (dNil)))) (dUnp 3 (dgCons (dgName 1) (dgCons (dgName 2) (dgCons (dgName 3) (dgNil))))) (dIfS (dAnd (dB (dBin (rCmp fun i j => decide (i < j)) (dVar 3) (dC (.int 0)))) (dNot (dB (dCall 3 (dFn 5 B_is_sent_by_another_87f2) (dCons (dVar 0) (dCons (dVar 1) (dCons (dUn rNeg (dVar 3)) (dNil)))))))) (dRet (dTup (dCons (dC (.str "unsent")) (dCons (dVar 1) (dCons (dVar 2) (dNil)))))) (dNext)))
  (dRet (dC .non))
/-- ready_process: 0 history 1 places 2 happened 3 process 4 row 5 event -/
def B_ready_process_c75e : DTS := dSeq (dFor (diEnum (dCons (dVar 0) (dNil))) (dUnp 2 (dgCons (dgName 3) (dgCons (dgName 4) (dgNil)))) (dIfS (dB (dBin (rCmp fun i j => decide (i < j)) (dBin rIxq (dVar 1) (dVar 3)) (dCB (rLen) (dCons (dVar 4) (dNil))))) (dSeq (dAsg (dBin rIxq (dVar 4) (dBin rIxq (dVar 1) (dVar 3))) (dgName 5))
  (dIfS (dOr (dB (dBin (rCmp fun i j => decide (j ≤ i)) (dVar 5) (dC (.int 0)))) (dB (dDin false (dUn rNeg (dVar 5)) (dVar 2)))) (dRet (dVar 3)) (dNext))) (dNext)))
  (dRet (dC .non))
/-- some_order: 0 history 1 places 2 happened 3 process 4 event -/
def B_some_order_66e8 : DTGn := dgSeq (dgPlain (dAsg (dBin rMul (dLst (dCons (dC (.int 0)) (dNil))) (dCB (rLen) (dCons (dVar 0) (dNil)))) (dgName 1)))
  (dgSeq (dgPlain (dAsg (dDNew) (dgName 2)))
  (dgSeq (dgPlain (dAsg (dCall 3 (dFn 6 B_ready_process_c75e) (dCons (dVar 0) (dCons (dVar 1) (dCons (dVar 2) (dNil))))) (dgName 3)))
  (dgSeq (dgWhile (dB (dNotN (dVar 3))) (dgSeq (dgPlain (dAsg (dBin rIxq (dBin rIxq (dVar 0) (dVar 3)) (dBin rIxq (dVar 1) (dVar 3))) (dgName 4)))
  (dgSeq (dgPlain (dAugL (dVar 1) (dVar 3) (dC (.int 1)) (fun i j => i + j)))
  (dgSeq (dgPlain (dDPut (dVar 2) (dVar 4) (dC (.bl true))))
  (dgSeq (dgYield (dTup (dCons (dVar 3) (dCons (dVar 4) (dNil)))))
  (dgSeq (dgPlain (dAsg (dCall 3 (dFn 6 B_ready_process_c75e) (dCons (dVar 0) (dCons (dVar 1) (dCons (dVar 2) (dNil))))) (dgName 3)))
  (dgNext)))))))
  (dgNext))))
/-- circle_error: 0 rows -/
def B_circle_error_0309 : DTS := dSeq (dIfS (dB (dBin (rCmp fun i j => decide (i < j)) (dCB (rLen) (dCons (dListK (dGenC (dGfn 1 5 B_some_order_66e8) (dCons (dVar 0) (dNil)))) (dNil))) (dCall 1 (dFn 2 B_event_count_1213) (dCons (dVar 0) (dNil))))) (dRet (dTup (dCons (dC (.str "circle")) (dNil)))) (dNext))
  (dRet (dC .non))
/-- history_error: 0 value -/
def B_history_error_d6f4 : DTS := dRet (dOrN (dCall 1 (dFn 3 B_shape_error_72a0) (dCons (dVar 0) (dNil))) (dOrN (dCall 1 (dFn 4 B_event_error_3c54) (dCons (dVar 0) (dNil))) (dOrN (dCall 1 (dFn 5 B_twice_error_125f) (dCons (dVar 0) (dNil))) (dOrN (dCall 1 (dFn 4 B_unsent_error_5d57) (dCons (dVar 0) (dNil))) (dCall 1 (dFn 1 B_circle_error_0309) (dCons (dVar 0) (dNil)))))))
end Sv
set_option maxHeartbeats 800000
set_option autoImplicit false
set_option autoImplicit false
set_option autoImplicit false
set_option maxHeartbeats 4000000
set_option maxHeartbeats 1000000
set_option autoImplicit false
set_option maxHeartbeats 800000
set_option autoImplicit false
set_option maxHeartbeats 1000000
set_option autoImplicit false
set_option maxHeartbeats 1000000
set_option autoImplicit false
set_option maxHeartbeats 1000000
set_option autoImplicit false
set_option maxHeartbeats 1000000
set_option autoImplicit false
namespace Sv
open PySem PySem.Spec PyProof.Rows L2 HT
section
variable {X : Cx} {ek ev : Expr} {ty tv : DTE} {pos : Pos}
def dDisp1 (ty tv : DTE) : DTE := fun env S R => ∀ p, S p = none → ty env (S.put p (.dK [])) fun y S1 => tv env S1 fun v S2 => ∃ k, y = kD k ∧ S2 p = some (.dK []) ∧ R (.ref p) (S2.put p (.dK [(k, v)]))
theorem de_disp1 (hk : DE X ek ty) (hv : DE X ev tv) : DE X (.Dict [some ek] [ev] pos) (dDisp1 ty tv) := by
  refine ⟨(pe_disp (pps_cons hk.run hv.run pps_nil) rfl rfl (by simp) (by simp)).of fun σ H Q ⟨env, S, R, rs, q, k⟩ p np => ?_⟩
  have e0 : Ext H (upd H p (.dK [])) := .new np
  have s0 := rs.sto.lay np (o := .dK []) ⟨_, upd_same, .nil⟩
  refine ⟨env, S.put p (.dK []), _, rs.ext e0 s0, q p (rs.sto.fresh np), fun y S1 x H1 q1 s1 r1 e1 => ⟨env, S1, _, rs.ext (e0.trans e1) s1, q1, fun v S2 u H2 ⟨kk, hy, hp, q2⟩ s2 r2 e2 => ?_⟩⟩
  subst hy
  cases kD_inv r1
  obtain ⟨vs, h3, h4⟩ := s2 p _ hp
  cases h4
  have e3 : Ext H2 (upd H2 p (.dK [(kk, u)])) := .put h3 trivial
  exact ⟨h3, [(kk, u)], rfl, by simp, k _ _ _ _ q2 (s2.put (o := .dK [(kk, v)]) h3 trivial ⟨_, upd_same, .cons (r2.ext e3) .nil⟩) (.ref p) (e0.trans (e1.trans (e2.trans e3)))⟩
def rStr : DRC := fun ds S R => ∃ d, ds = [d] ∧ match d with
  | .int i => i.natAbs.log2 < 1920 ∧ R (.str (toString i)) S
  | .bl b => R (.str (if b then "True" else "False")) S
  | .non => R (.str "None") S
  | _ => False
theorem b_str : CallR X (.type "str") (lC X.kk rStr) := by
  intro pins s σ H vs us Q I r ⟨ds, S, R, r1, s1, ⟨d, hd, q⟩, k⟩
  subst hd
  obtain ⟨v, rfl, rv⟩ := r1.inv1
  cases rv with
  | int i => exact call_str_int pins s σ H _ us Q I r ⟨i, rfl, q.1, k _ _ _ _ q.2 s1 (.str _) (.refl H)⟩
  | bl b =>
    obtain ⟨u, rfl, t, rfl⟩ := vals1 r
    exact PySem.P.str_of_bool ⟨.str _, H, I.tok _, ⟨_, rfl⟩, k _ _ _ _ q s1 (.str _) (.refl H)⟩
  | non =>
    obtain ⟨u, rfl, r1⟩ := vals1 r
    cases r1
    exact PySem.P.str_of_none ⟨.str _, H, I.tok _, ⟨_, rfl⟩, k _ _ _ _ q s1 (.str _) (.refl H)⟩
  | _ => exact q.elim
end
end Sv
set_option autoImplicit false
namespace Sv
open PySem PySem.Spec PyProof.Rows L2
def PEA (X : Cx) (b0 : List Stmt) (e : Expr) (t : TE) : Prop := ∀ (pins : List (Addr × Obj)) (s : Shared) (σ : L2.St) (H : Hp) (Q : VK), Inv X pins σ H s → t σ H Q → _root_.PySem.wpAt (model X.prog X.w) X.A (.func b0 X.env) (eval e X.env) (EP X pins σ Q) X.xe s
def PSA (X : Cx) (b0 : List Stmt) (st : Stmt) (t : TS) : Prop := ∀ (pins : List (Addr × Obj)) (s : Shared) (σ : L2.St) (H : Hp) (D : Ends), Inv X pins σ H s → t D σ H → _root_.PySem.wpAt (model X.prog X.w) X.A (.func b0 X.env) (exec st X.env) (SP X pins D) X.xe s
def PSsA (X : Cx) (b0 : List Stmt) (st : List Stmt) (t : TS) : Prop := ∀ (pins : List (Addr × Obj)) (s : Shared) (σ : L2.St) (H : Hp) (D : Ends), Inv X pins σ H s → t D σ H → _root_.PySem.wpAt (model X.prog X.w) X.A (.func b0 X.env) (execs st X.env) (SP X pins D) X.xe s
/-- what it says of an object's class C, for the name m: the def at f2 -/
structure SupM (K : PySem.W.Frag) (D C : Addr) (m : Str) (f2 : Addr) : Prop where
  sub : PySem.W.mroIn K C (.ref D) = some true
  sup : PySem.W.ks_superIn K C D m = some (some (.ref f2))
  ty : PySem.W.typeIn K (.ref f2) = some (.type "function")
  op : PySem.W.nsIn K cStatics "thirdparty.any" = some none
  fi : PySem.W.fnIn K f2 = true
  nm : (m == ("__class__" : Str)) = false
abbrev nfS (x qual : Str) (st : Stmt) (cda cc : Addr) : NdefX.NF := ⟨x, qual, defArgs st, defBody st, defScope st, [("__class__", cc)], cda⟩
theorem _root_.Sv.PSsA.nox {X : Cx} {b0 sts : List Stmt} {t : TS} (h : PSsA X.nox b0 sts t) : PSsA X b0 sts t := fun pins s σ H D I hw =>
  ks_wpAt_mono (h pins s σ H D (I.wish _) hw) (fun f s' hq => by
    cases f with
    | next => obtain ⟨σ', H', I', q⟩ := hq; exact ⟨σ', H', I'.wish _, q⟩
    | brk => obtain ⟨σ', H', I', q⟩ := hq; exact ⟨σ', H', I'.wish _, q⟩
    | cont => obtain ⟨σ', H', I', q⟩ := hq; exact ⟨σ', H', I'.wish _, q⟩
    | ret u => obtain ⟨v, σ', H', I', r, q⟩ := hq; exact ⟨v, σ', H', I'.wish _, r, q⟩) fun _ _ z => z.elim
section
variable {X : Cx} {b0 : List Stmt} {st : Stmt} {rest : List Stmt} {t u : DTS} {e : Expr} {te : DTE} {pos : Pos}
theorem _root_.Sv.PEA.of {e : Expr} {t t' : TE} (h : PEA X b0 e t) (q : ∀ σ H Q, t' σ H Q → t σ H Q) : PEA X b0 e t' := fun pins s σ H Q I w => h pins s σ H Q I (q σ H Q w)
theorem _root_.Sv.PSA.of {e : Stmt} {t t' : TS} (h : PSA X b0 e t) (q : ∀ σ H Q, t' Q σ H → t Q σ H) : PSA X b0 e t' := fun pins s σ H Q I w => h pins s σ H Q I (q σ H Q w)
theorem _root_.Sv.PSsA.of {e : List Stmt} {t t' : TS} (h : PSsA X b0 e t) (q : ∀ σ H Q, t' Q σ H → t Q σ H) : PSsA X b0 e t' := fun pins s σ H Q I w => h pins s σ H Q I (q σ H Q w)
structure DSup (P : Program) (w : World) (K : PySem.W.Frag) (mg : Str → Option Value) (base : Heap) (k : Nat) (D : Addr) (cn m : Str) (n : Nat) (r : DRC) : Prop where
  ex : ∃ C f2, ClsAt K cn C ∧ SupM K D C m f2 ∧ FnR P w K mg base CX0 k f2 (lP ⟨P, w, K⟩ n r)
/-- tables by classes -/
inductive AllP {α : Type} (p : α → Prop) : List α → Prop
  | nil : AllP p []
  | cons {x : α} {l : List α} : p x → AllP p l → AllP p (x :: l)
theorem AllP.mem {α : Type} {p : α → Prop} : ∀ {l : List α} {x : α}, AllP p l → x ∈ l → p x
  | _, _, .nil, h => by cases h
  | _, _, .cons h t, m => by
    cases m with
    | head => exact h
    | tail _ m => exact AllP.mem t m
theorem DSup.mono {P : Program} {w : World} {K : PySem.W.Frag} {mg : Str → Option Value} {base : Heap} {j k n : Nat} {D : Addr} {cn m : Str} {r : DRC} (d : DSup P w K mg base j D cn m n r) (h : j ≤ k) : DSup P w K mg base k D cn m n r := by
  obtain ⟨C, f, h1, h2, h4⟩ := d.ex
  exact ⟨C, f, h1, h2, h4.mono h⟩
end
end Sv
set_option autoImplicit false
namespace Sv
open PySem PySem.Spec PyProof.Rows L2
section facts
variable (P : Program) (w : World) (K : PySem.W.Frag) (mg : Str → Option Value) (base : Heap)
/-- the field f of the class cn -/
structure ClsF (cn f : Str) : Prop where
  ex : ∃ C, ClsAt K cn C ∧ Cls K C ∧ NoAttr K C f
/-- the method m of the class cn, n values with the object -/
structure DMet (k : Nat) (cn m : Str) (n : Nat) (r : DRC) : Prop where
  ex : ∃ C f, ClsAt K cn C ∧ Cls K C ∧ Meth K C m f ∧ FnR P w K mg base CX0 k f (lP ⟨P, w, K⟩ n r)
/-- the class cn can be made -/
structure DMk (k : Nat) (cn : Str) (n : Nat) (r : DRC) : Prop where
  ex : ∃ C f, ClsAt K cn C ∧ Mk K C f ∧ mg cn = some (.ref C) ∧ FnR P w K mg base CX0 k f (lP ⟨P, w, K⟩ n r)
/-- a property -/
structure DPr (k : Nat) (cn f : Str) (r : DRC) : Prop where
  ex : ∃ C p g fd ps, ClsAt K cn C ∧ Cls K C ∧ PropOf K C f p g ∧ FnOk P w K mg base CX0 k g fd ps (lP ⟨P, w, K⟩ 1 r) ∧ Binds K fd ps []
/-- a class's constant, a text -/
structure DCv (cn f x : Str) : Prop where
  ex : ∃ C mc u, mg cn = some (.ref C) ∧ ClX.CRead K C mc ∧ ClX.CVal K C mc f (.str x) u
/-- .. read through an instance -/
structure DCi (cn f x : Str) : Prop where
  ex : ∃ C u, ClsAt K cn C ∧ Cls K C ∧ Con K C f (.str x) u
structure IsOk (C : Addr) : Prop where
  ha : PySem.W.findIn K (.ref C) "__class__" = some (some (.builtin "object.__class__"))
  hn : PySem.W.specialIn K (.builtin "object.__class__") "__get__" = some (some (.builtin "getset_descriptor.__get__"))
  htk : PySem.W.takesIn K (.builtin "object.__class__") = some true
  hm : PySem.W.mroIn K C (.type "object") = some true
/-- whether an instance of cn is one of dn -/
structure DIs (cn dn : Str) (b : Bool) : Prop where
  ex : ∃ C Dd, ClsAt K cn C ∧ Cls K C ∧ IsOk K C ∧ mg dn = some (.ref Dd) ∧ PySem.W.kitOne K (.ref C) (.ref Dd) = some b
end facts
theorem DMet.mono {P : Program} {w : World} {K : PySem.W.Frag} {mg : Str → Option Value} {base : Heap} {j k n : Nat} {cn m : Str} {r : DRC} (d : DMet P w K mg base j cn m n r) (h : j ≤ k) : DMet P w K mg base k cn m n r := by
  obtain ⟨C, f, h1, h2, h3, h4⟩ := d.ex
  exact ⟨C, f, h1, h2, h3, h4.mono h⟩
theorem DPr.mono {P : Program} {w : World} {K : PySem.W.Frag} {mg : Str → Option Value} {base : Heap} {j k : Nat} {cn m : Str} {r : DRC} (d : DPr P w K mg base j cn m r) (h : j ≤ k) : DPr P w K mg base k cn m r := by
  obtain ⟨C, p, g, fd, ps, h1, h2, h3, h4, h5⟩ := d.ex
  exact ⟨C, p, g, fd, ps, h1, h2, h3, h4.mono h, h5⟩
theorem fnr_of {P : Program} {w : World} {K : PySem.W.Frag} {mg : Str → Option Value} {base : Heap} {k n : Nat} {f : Addr} {fd : FuncData} {ps : List Str} {r : DRC} (F : FnOk P w K mg base CX0 k f fd ps (lP ⟨P, w, K⟩ n r)) (hb : Binds K fd ps []) : FnR P w K mg base CX0 k f (lP ⟨P, w, K⟩ n r) :=
  (F.raw hb .nil).imp fun vs H Q E h => by rw [List.append_nil]; exact h
def clsB (s : Stmt) : List Stmt := match s with
  | .ClassDef _ _ _ b _ _ _ _ _ _ _ => b
  | _ => []
section
variable {P : Program} {w : World} {K : PySem.W.Frag} {mg : Str → Option Value} {base : Heap} {k n : Nat} {cn dn m f x : Str} {C Dd fa p : Addr} {fd : FuncData} {ps : List Str} {r : DRC}
theorem DMet.of (hC : PySem.W.nsIn K mainGlobals cn = some (some (.ref C))) (c : Cls K C) (ha : PySem.W.findIn K (.ref C) m = some (some (.ref fa))) (hf : PySem.W.isFn K (.ref fa) = true) (hk : PySem.W.keepIn K (.ref fa) = true)
    (F : FnOk P w K mg base CX0 k fa fd ps (lP ⟨P, w, K⟩ n r)) (hb : Binds K fd ps []) : DMet P w K mg base k cn m n r := ⟨C, fa, hC, c, ⟨ha, hf, hk⟩, fnr_of F hb⟩
theorem DMk.of (hC : PySem.W.nsIn K mainGlobals cn = some (some (.ref C))) (hm : mg cn = some (.ref C)) (ha : PySem.W.makesIn K C = true) (hi : PySem.W.findIn K (.ref C) "__init__" = some (some (.ref fa))) (hf : PySem.W.isFn K (.ref fa) = true) (hk : PySem.W.keepIn K (.ref C) = true)
    (F : FnOk P w K mg base CX0 k fa fd ps (lP ⟨P, w, K⟩ n r)) (hb : Binds K fd ps []) : DMk P w K mg base k cn n r := ⟨C, fa, hC, ⟨ha, hi, hf, hk⟩, hm, fnr_of F hb⟩
theorem DPr.of {rest : List Value} (hC : PySem.W.nsIn K mainGlobals cn = some (some (.ref C))) (c : Cls K C) (ha : PySem.W.findIn K (.ref C) f = some (some (.ref p))) (hg : PySem.W.specialIn K (.ref p) "__get__" = some (some (.builtin "property.__get__"))) (ht : PySem.W.takesIn K (.ref p) = some true)
    (hr : PySem.W.recIn K p "property" = some (.ref fa :: rest)) (F : FnOk P w K mg base CX0 k fa fd ps (lP ⟨P, w, K⟩ 1 r)) (hb : Binds K fd ps []) : DPr P w K mg base k cn f r := ⟨C, p, fa, fd, ps, hC, c, ⟨ha, hg, ht, rest, hr⟩, F, hb⟩
theorem ClsF.of (hC : PySem.W.nsIn K mainGlobals cn = some (some (.ref C))) (c : Cls K C) (h : PySem.W.findIn K (.ref C) f = some none) : ClsF K cn f := ⟨C, hC, c, h⟩
theorem DCv.of {mc : Value} {t : Tok} (hm : mg cn = some (.ref C)) (h1 : PySem.W.readsIn K C mc = true) (h2 : PySem.W.specialIn K (.ref C) "__getattribute__" = some (some (.builtin "type.__getattribute__"))) (h3 : PySem.W.findCls K (.ref C) mc f = some (.val (.str x t))) : DCv K mg cn f x :=
  ⟨C, mc, _, hm, ⟨h1, h2⟩, ⟨h3, t, rfl⟩⟩
theorem DCi.of {t : Tok} (hC : PySem.W.nsIn K mainGlobals cn = some (some (.ref C))) (c : Cls K C) (h1 : PySem.W.findIn K (.ref C) f = some (some (.str x t))) (h2 : PySem.W.specialIn K (.str x t) "__get__" = some none) (h3 : PySem.W.copiedNames.contains f = false) : DCi K cn f x :=
  ⟨C, _, hC, c, ⟨h1, ⟨t, rfl⟩, h2, h3⟩⟩
theorem DIs.of {b : Bool} (hC : PySem.W.nsIn K mainGlobals cn = some (some (.ref C))) (c : Cls K C) (h : IsOk K C) (hm : mg dn = some (.ref Dd)) (hk : PySem.W.kitOne K (.ref C) (.ref Dd) = some b) : DIs K mg cn dn b := ⟨C, Dd, hC, c, h, hm, hk⟩
theorem DSup.of {D : Addr} (hC : PySem.W.nsIn K mainGlobals cn = some (some (.ref C))) (h1 : PySem.W.mroIn K C (.ref D) = some true) (h2 : PySem.W.ks_superIn K C D m = some (some (.ref fa))) (h3 : PySem.W.typeIn K (.ref fa) = some (.type "function")) (h4 : PySem.W.nsIn K cStatics "thirdparty.any" = some none) (h5 : PySem.W.fnIn K fa = true) (h6 : (m == ("__class__" : Str)) = false)
    (F : FnOk P w K mg base CX0 k fa fd ps (lP ⟨P, w, K⟩ n r)) (hb : Binds K fd ps []) : DSup P w K mg base k D cn m n r := ⟨C, fa, hC, ⟨h1, h2, h3, h4, h5, h6⟩, fnr_of F hb⟩
end
end Sv
set_option autoImplicit false
namespace Sv
open PySem PySem.Spec PyProof.Rows L2
section
variable {X : Cx} {e : Expr} {te : DTE} {pos p : Pos}
theorem TyX.new {K : PySem.W.Frag} {H : Hp} {x : V} {t : String} {T : Addr} {o : HO} (n : H T = none) (h : TyX K H x (.type t)) : TyX K (upd H T o) x (.type t) := by
  have k : ∀ {a : Addr} {u : HO}, H a = some u → upd H T o a = some u := fun {a u} e => by
    rw [upd_ne fun z => by rw [z, n] at e; cases e]
    exact e
  cases h with
  | base h =>
    cases h with
    | non => exact .base .non
    | bl x => exact .base (.bl x)
    | int x => exact .base (.int x)
    | str x => exact .base (.str x)
    | flt x => exact .base (.flt x)
    | lst e => exact .base (.lst (k e))
    | frz e => exact .base (.frz (k e))
    | tup e => exact .base (.tup (k e))
    | dK e => exact .base (.dK (k e))
    | dT e => exact .base (.dT (k e))
  | byt b => exact .byt b
  | set e => exact .set (k e)
  | kList e c => exact .kList e c
  | kTuple e c => exact .kTuple e c
  | kDict e c => exact .kDict e c
  | fTuple e => exact .fTuple (k e)
  | fDict e => exact .fDict (k e)
end
end Sv
set_option autoImplicit false
set_option autoImplicit false
set_option autoImplicit false
namespace Sv
open PySem PySem.Spec PyProof.Rows L2
structure DMkK (P : Program) (w : World) (K : PySem.W.Frag) (mg : Str → Option Value) (base : Heap) (k : Nat) (cn : Str) (n : Nat) (ks : List Str) (N : Nat) (gD : List D → List D → List D) (r : DRC) : Prop where
  ex : ∃ C f fd ps g gV, ClsAt K cn C ∧ Mk K C f ∧ mg cn = some (.ref C) ∧ FnOk P w K mg base CX0 k f fd ps (lP ⟨P, w, K⟩ N r) ∧ KBn K fd ps (n + 1) ks g gV ∧ ∀ (H : Hp) (ds es : List D) (vs zs : List V), RDs ⟨P, w, K⟩ H ds vs → RDs ⟨P, w, K⟩ H es zs → RDs ⟨P, w, K⟩ H (gD ds es) (gV vs zs)
/-- what a call with keywords binds, from what stands of the def -/
theorem DMkK.of {P : Program} {w : World} {K : PySem.W.Frag} {mg : Str → Option Value} {base : Heap} {k n N : Nat} {cn : Str} {ks ps : List Str} {gD : List D → List D → List D} {r : DRC} {C fa : Addr} {fd : FuncData} {g : List Value → List Value → List Value} {gV : List V → List V → List V}
    (hC : PySem.W.nsIn K mainGlobals cn = some (some (.ref C))) (hm : mg cn = some (.ref C)) (ha : PySem.W.makesIn K C = true) (hi : PySem.W.findIn K (.ref C) "__init__" = some (some (.ref fa))) (hf : PySem.W.isFn K (.ref fa) = true) (hk : PySem.W.keepIn K (.ref C) = true)
    (F : FnOk P w K mg base CX0 k fa fd ps (lP ⟨P, w, K⟩ N r)) (hb : KBn K fd ps (n + 1) ks g gV) (hr : ∀ (H : Hp) (ds es : List D) (vs zs : List V), RDs ⟨P, w, K⟩ H ds vs → RDs ⟨P, w, K⟩ H es zs → RDs ⟨P, w, K⟩ H (gD ds es) (gV vs zs)) : DMkK P w K mg base k cn n ks N gD r :=
  ⟨C, fa, fd, ps, g, gV, hC, ⟨ha, hi, hf, hk⟩, hm, F, hb, hr⟩
end Sv
set_option autoImplicit false
set_option maxHeartbeats 2000000
set_option autoImplicit false
namespace Sv
open PySem PySem.Spec PyProof.Rows L2
/-- what becomes of an error: its class's name, what it holds -/
abbrev DXc := Str → List (Str × D) → Sto → Prop
abbrev DXV := Str → List (Str × D) → Env → Sto → Prop
def XRel (K : KK) (H : Hp) (cn : Str) (fs : List (Str × D)) (cls : Value) (d : Option Addr) : Prop :=
  ∃ C, ClsAt K.k cn C ∧ cls = .ref C ∧ ∃ dd gs, d = some dd ∧ H dd = some (.xd gs) ∧ RDf K H fs gs
/-- an error that is let go -/
def lXK (K : KK) (H0 : Hp) (EX : DXc) : XK := fun cls d H' => ∃ cn fs S', EX cn fs S' ∧ RelS K S' H' ∧ XRel K H' cn fs cls d ∧ Ext H0 H'
/-- readings that may raise: of an expression, of a statement -/
def lEX (K : KK) (W : WX) (t : DXV → DTE) : TE := fun σ H Q => ∃ env S R EX, RS K σ H env S ∧ t EX env S R ∧ (∀ d S' v H', R d S' → RelS K S' H' → RD K H' d v → Ext H H' → Q v H') ∧
  ∀ cn fs env' S' σ' H' cls d, EX cn fs env' S' → RS K σ' H' env' S' → XRel K H' cn fs cls d → Ext H H' → W cls d σ' H'
def lSX (K : KK) (W : WX) (t : DXV → DTS) : TS := fun B σ H => ∃ env S C EX, RS K σ H env S ∧ t EX C env S ∧
  ((∀ env' S' σ' H', C.nx env' S' → RS K σ' H' env' S' → Ext H H' → B.nx σ' H') ∧ (∀ d S' v H', C.rt d S' → RelS K S' H' → RD K H' d v → Ext H H' → B.rt v H') ∧
  (∀ env' S' σ' H', C.bk env' S' → RS K σ' H' env' S' → Ext H H' → B.bk σ' H') ∧ (∀ env' S' σ' H', C.ct env' S' → RS K σ' H' env' S' → Ext H H' → B.ct σ' H')) ∧
  ∀ cn fs env' S' σ' H' cls d, EX cn fs env' S' → RS K σ' H' env' S' → XRel K H' cn fs cls d → Ext H H' → W cls d σ' H'
structure DEX (X : Cx) (W : WX) (e : Expr) (t : DXV → DTE) : Prop where
  run : PE X e (lEX X.kk W t)
structure DSX (X : Cx) (W : WX) (st : Stmt) (t : DXV → DTS) : Prop where
  run : PS X st (lSX X.kk W t)
structure DSXs (X : Cx) (W : WX) (sts : List Stmt) (t : DXV → DTS) : Prop where
  run : PSs X sts (lSX X.kk W t)
section
variable {X : Cx} {W : WX} {st : Stmt} {rest : List Stmt} {e : Expr} {es : List Expr} {pos p : Pos} {t u : DXV → DTS} {te : DXV → DTE} {tl : DTA}
theorem lSX_lS {K : KK} {t : DTS} {σ : L2.St} {H : Hp} {B : Ends} (h : lSX K W (fun _ => t) B σ H) : lS K t B σ H := by
  obtain ⟨env, S, C, EX, rs, h, k, _⟩ := h
  exact ⟨env, S, C, rs, h, k⟩
theorem lSX_go {K : KK} {σ : L2.St} {H H1 : Hp} {B : Ends} {C : DEnds} {EX : DXV} {env : Env} {S1 : Sto} (rs : RS K σ H1 env S1) (e1 : Ext H H1) (q : t EX C env S1)
    (k : (∀ env' S' σ' H', C.nx env' S' → RS K σ' H' env' S' → Ext H H' → B.nx σ' H') ∧ (∀ d S' v H', C.rt d S' → RelS K S' H' → RD K H' d v → Ext H H' → B.rt v H') ∧
      (∀ env' S' σ' H', C.bk env' S' → RS K σ' H' env' S' → Ext H H' → B.bk σ' H') ∧ (∀ env' S' σ' H', C.ct env' S' → RS K σ' H' env' S' → Ext H H' → B.ct σ' H'))
    (kx : ∀ cn fs env' S' σ' H' cls d, EX cn fs env' S' → RS K σ' H' env' S' → XRel K H' cn fs cls d → Ext H H' → W cls d σ' H') : lSX K W t B σ H1 :=
  ⟨env, S1, C, EX, rs, q, ⟨fun _ _ _ _ q r e => k.1 _ _ _ _ q r (e1.trans e), fun _ _ _ _ q s r e => k.2.1 _ _ _ _ q s r (e1.trans e), fun _ _ _ _ q r e => k.2.2.1 _ _ _ _ q r (e1.trans e), fun _ _ _ _ q r e => k.2.2.2 _ _ _ _ q r (e1.trans e)⟩,
    fun _ _ _ _ _ _ _ _ q r x e => kx _ _ _ _ _ _ _ _ q r x (e1.trans e)⟩
/-- a statement that raises nothing -/
theorem dsx_pure {t : DTS} (h : DS X st t) : DSX X W st (fun _ => t) := ⟨h.run.of fun _ _ _ => lSX_lS⟩
theorem dsxs_one (h : DSX X W st t) : DSXs X W [st] t := ⟨pss_one h.run⟩
theorem dsxs_nil : DSXs X W [] (fun _ => dNext) := ⟨(dss_nil (X := X)).run.of fun _ _ _ => lSX_lS⟩
theorem lSX_seq {K : KK} {σ : L2.St} {H : Hp} {B : Ends} (h : lSX K W (fun EX => dSeq (t EX) (u EX)) B σ H) : tSeq (lSX K W t) (lSX K W u) B σ H := by
  obtain ⟨env, S, C, EX, rs, h, k, kx⟩ := h
  refine ⟨env, S, _, EX, rs, h, ⟨fun env1 S1 σ1 H1 q r1 e1 => ?_, k.2.1, k.2.2.1, k.2.2.2⟩, kx⟩
  exact lSX_go r1 e1 q k kx
theorem dsxs_cons (h1 : DSX X W st t) (h2 : DSXs X W rest u) : DSXs X W (st :: rest) (fun EX => dSeq (t EX) (u EX)) := ⟨(pss_cons h1.run h2.run).of fun _ _ _ => lSX_seq⟩
theorem dsx_if {c : Expr} {a b : List Stmt} {tc : DTT} (hc : DT X c tc) (ha : DSXs X W a t) (hb : DSXs X W b u) : DSX X W (.If c a b pos) (fun EX => dIfS tc (t EX) (u EX)) := by
  refine ⟨(ps_if hc.run ha.run hb.run).of fun σ H B ⟨env, S, C, EX, rs, h, k, kx⟩ => ⟨env, S, _, rs, h, fun c S1 H1 q s1 e1 => ?_⟩⟩
  cases c with
  | true => exact lSX_go (rs.ext e1 s1) e1 q k kx
  | false => exact lSX_go (rs.ext e1 s1) e1 q k kx
theorem dsx_set {i : Nat} {x : Str} {pos' : Pos} (hN : X.N.Nodup) (hi : X.N[i]? = some x) (hx : Loc X.env.scope x) (he : DEX X W e te) (hs : swapsWith e (some (.Name x pos')) pos.line X.env = pure false := by rfl) (hf : X.fn x = true ∨ X.env.scope.names.lookup x = some .local := by first | exact .inl rfl | exact .inr rfl | assumption) :
    DSX X W (.Assign [.Name x pos'] e pos) (fun EX => dAsg (te EX) (dgName i)) :=
  ⟨(ps_set hN hi hx he.run hs hf).of fun σ H B ⟨env, S, C, EX, rs, h, k, kx⟩ => ⟨env, S, _, EX, rs, h, fun d S1 v H1 q s1 r1 e1 => k.1 _ _ _ _ q ((rs.ext e1 s1).set i r1) e1, kx⟩⟩
/-- what an error holds: the last field first -/
def fieldsX : List Str → List D → List (Str × D)
  | [f], [d] => [(f, d)]
  | [f, g], [d, e] => [(g, e), (f, d)]
  | _, _ => []
def dRaise (EX : DXV) (cn : Str) (ns : List Str) (ta : DTA) : DTS := fun _ env S => ta env S fun ds S1 => ds.length = ns.length ∧ EX cn (fieldsX ns ds) env S1
/-- an own error's __init__ keeps its arguments -/
def spX1 (C : Addr) (f : Str) : Sp := fun vs H Q _ => ∃ a v, vs = [.ref a, v] ∧ H a = some (exo a C none) ∧ ∀ dx, H dx = none → dx ≠ a → Q .non (upd (upd H dx (exd dx [(f, v)])) a (exo a C (some dx)))
def spX2 (C : Addr) (f g : Str) : Sp := fun vs H Q _ => ∃ a v u, vs = [.ref a, v, u] ∧ H a = some (exo a C none) ∧ ∀ dx, H dx = none → dx ≠ a → Q .non (upd (upd (upd H dx (exd dx [(f, v)])) a (exo a C (some dx))) dx (exd dx [(g, u), (f, v)]))
/-- the class of an own error with fields, as a raise wants it -/
structure XCls (P : Program) (w : World) (K : PySem.W.Frag) (mg : Str → Option Value) (base : Heap) (k : Nat) (cn : Str) (ns : List Str) : Prop where
  ex : ∃ (C fI : Addr) (fd : FuncData) (ps : List Str) (sp : Sp), OexC K C ∧ ClsAt K cn C ∧ mg cn = some (.ref C) ∧ PySem.W.findIn K (.ref C) "__init__" = some (some (.ref fI)) ∧ PySem.W.typeIn K (.ref fI) = some (.type "function") ∧ FnOk P w K mg base CX0 k fI fd ps sp ∧ Binds K fd ps [] ∧
    ((∃ f, ns = [f] ∧ sp = spX1 C f) ∨ ∃ f g, ns = [f, g] ∧ sp = spX2 C f g)
theorem goneX {H : Hp} {a d : Addr} {G : Hp} {o : HO} {fs : List (Str × V)} (na : H a = none) (hda : d ≠ a) (hG : ∀ b, b ≠ a → b ≠ d → G b = H b) : upd (del G a) d (.xd fs) = upd H d (.xd fs) := by
  funext b
  by_cases z : b = d
  · subst z; rw [upd_same, upd_same]
  · rw [upd_ne z, upd_ne z]
    by_cases y : b = a
    · subst y; rw [del_same, na]
    · rw [del_ne y, hG b y z]
theorem xrel_new {K : KK} {H : Hp} {S : Sto} {cn : Str} {C d : Addr} {fs : List (Str × D)} {gs : List (Str × V)} (hc : ClsAt K.k cn C) (nd : H d = none) (s : RelS K S H) (r : RDf K H fs gs) :
    RelS K S (upd H d (.xd gs)) ∧ XRel K (upd H d (.xd gs)) cn fs (.ref C) (some d) ∧ Ext H (upd H d (.xd gs)) :=
  ⟨s.new nd, ⟨C, hc, rfl, d, gs, rfl, upd_same, RDf.ext (.new nd) r⟩, .new nd⟩
theorem dsx_raise {cn : Str} {ns : List Str} {k : Nat} {pos2 : Pos} (hcm : X.calm = true) (T : XCls X.prog X.w X.K X.mg X.base k cn ns) (tk : Takes X W) (hr : Room (k + 1) X.A) (hg : Gl X cn) (ha : DA X (e :: es) tl)
    (hdb : (cn == ("__debug__" : Str)) = false := by decide) (he : starEach (e :: es) X.env = (false, eval e X.env) :: starEach es X.env := by rfl) (hpl : (backTo pos (starEach es X.env)).any (·.1) = false := by rfl) :
    DSX X W (.Raise (some (.Call (.Name cn p) (e :: es) [] pos)) none pos2) (fun EX => dRaise EX cn ns tl) := by
  obtain ⟨C, fI, fd, ps, sp, oex, hC, hm, iC, tI, FI, hb, hsp⟩ := T.ex
  have mk := pmk_oex (p := p) (pos := pos) oex iC tI FI hr hb .nil pass0 hg hm ha.run hdb he hpl
  refine ⟨(ps_raise (pos := pos2) hcm tk mk).of fun σ H B ⟨env, S, C', EX, rs, h, k, kx⟩ => ?_⟩
  refine ⟨env, S, _, rs, h, fun ds S1 vs H1 ⟨hl, q⟩ s1 r1 e1 => ?_⟩
  have vl := r1.length
  rcases hsp with ⟨f, rfl, rfl⟩ | ⟨f, g, rfl, rfl⟩
  · obtain ⟨d0, rfl⟩ : ∃ d0, ds = [d0] := by
      match ds, hl with
      | [d0], _ => exact ⟨d0, rfl⟩
    obtain ⟨v, rfl, rv⟩ := r1.inv1
    refine ⟨by show 1 ≤ 1000; omega, fun a na => ⟨a, v, rfl, upd_same, fun dx nx hne => ⟨rfl, dx, [(f, v)], upd_same, ?_, ?_, ?_⟩⟩⟩
    · rw [upd_ne hne, upd_same]
    · rw [upd_ne hne] at nx; exact nx
    · have nx' : H1 dx = none := by rw [upd_ne hne] at nx; exact nx
      rw [goneX (H := H1) (o := .xd []) na hne fun b y z => by rw [upd_ne y, upd_ne z, upd_ne y]]
      obtain ⟨g1, g2, g3⟩ := xrel_new (fs := [(f, d0)]) (gs := [(f, v)]) hC nx' s1 ⟨rfl, rv, trivial⟩
      exact kx cn [(f, d0)] env S1 σ _ _ _ q (rs.ext (e1.trans g3) g1) g2 (e1.trans g3)
  · obtain ⟨d0, d1, rfl⟩ : ∃ d0 d1, ds = [d0, d1] := by
      match ds, hl with
      | [d0, d1], _ => exact ⟨d0, d1, rfl⟩
    obtain ⟨v, u, rfl, rv, ru⟩ := r1.inv2
    refine ⟨by show 2 ≤ 1000; omega, fun a na => ⟨a, v, u, rfl, upd_same, fun dx nx hne => ⟨rfl, dx, [(g, u), (f, v)], ?_, upd_same, ?_, ?_⟩⟩⟩
    · rw [upd_ne (Ne.symm hne), upd_same]
    · rw [upd_ne hne] at nx; exact nx
    · have nx' : H1 dx = none := by rw [upd_ne hne] at nx; exact nx
      rw [goneX (H := H1) (o := .xd []) na hne fun b y z => by rw [upd_ne z, upd_ne y, upd_ne z, upd_ne y]]
      obtain ⟨g1, g2, g3⟩ := xrel_new (fs := [(g, d1), (f, d0)]) (gs := [(g, u), (f, v)]) hC nx' s1 ⟨rfl, ru, rfl, rv, trivial⟩
      exact kx cn [(g, d1), (f, d0)] env S1 σ _ _ _ q (rs.ext (e1.trans g3) g1) g2 (e1.trans g3)
end
end Sv
set_option maxHeartbeats 2000000
set_option autoImplicit false
namespace Sv
open PySem PySem.Spec PyProof.Rows L2
abbrev DRX := DXc → DRC
def lCX (K : KK) (r : DRX) : List V → Hp → VK → XK → Prop := fun vs H Q E => ∃ ds S R EX, RDs K H ds vs ∧ RelS K S H ∧ r EX ds S R ∧ (∀ z S' v H', R z S' → RelS K S' H' → RD K H' z v → Ext H H' → Q v H') ∧ ∀ cls d H', lXK K H EX cls d H' → E cls d H'
def dFnX (n : Nat) (B : DXV → DTS) : DRX := fun EX ds S R => B (fun cn fs _ S' => EX cn fs S') { nx := fun _ S' => R .non S', rt := R } (dStart n ds) S
section
variable {P : Program} {w : World} {K : PySem.W.Frag} {mg : Str → Option Value} {base : Heap}
abbrev WR (E : XK) : WX := fun cls d _ H => E cls d H
theorem lSX_start {K : KK} {N : List Str} {B : DXV → DTS} {vs : List V} {H : Hp} {Q : VK} {E : XK} (h : lCX K (dFnX N.length B) vs H Q E) : lSX K (WR E) B { nx := fun _ H' => Q .non H', rt := Q } (L2.start N vs) H := by
  obtain ⟨ds, S, R, EX, r, s1, q, k, kx⟩ := h
  exact ⟨_, S, _, _, rs_start r s1, q, ⟨fun env' S' σ' H' q' r' e' => k _ _ _ _ q' r'.sto .non e', fun d S' v H' q' s' r' e' => k _ _ _ _ q' s' r' e', fun _ _ _ _ q' => q'.elim, fun _ _ _ _ q' => q'.elim⟩,
    fun cn fs env' S' σ' H' cls d q' r' x' e' => kx cls d H' ⟨cn, fs, S', q', r'.sto, x', e'⟩⟩
theorem fn_ox {x : Str} {st : Stmt} {f : Addr} {fd : FuncData} {N ps : List Str} {k n : Nat} {B : DXV → DTS} (F : Fun K x x st f fd) (Sc : FnScope N ps (defScope st)) (hn : ps.length = n)
    (hbody : ∀ (cdv : Value) (A : Around) (outer : List PySem.Env) (s : Shared) (H : Hp) (E : XK), Room k (A.deeper (envOfC x (defScope st) s.heap.objs.size f cdv)) → Takes (cxOf (L2.CX P w) P w K mg base N x (defScope st) f cdv A outer s H E) (WR E) →
      DSXs (cxOf (L2.CX P w) P w K mg base N x (defScope st) f cdv A outer s H E) (WR E) (defBody st) B) : FnOk P w K mg base (L2.CX P w) (k + 1) f fd ps (fun vs H Q E => vs.length = n ∧ lCX ⟨P, w, K⟩ (dFnX N.length B) vs H Q E) := by
  refine F.okX Sc (fun vs H Q E h => by rw [hn]; exact h.1) fun cdv A outer s H vs Q E hr h => ⟨_, (hbody cdv A outer s H E hr (takes_of rfl rfl rfl rfl)).run, lSX_start h.2⟩
/-- a def that may raise, by promise -/
structure DFx (P : Program) (w : World) (K : PySem.W.Frag) (mg : Str → Option Value) (base : Heap) (k : Nat) (x : Str) (n : Nat) (r : DRX) : Prop where
  ex : ∃ (f : Addr) (fd : FuncData) (ps : List Str), FnOk P w K mg base (L2.CX P w) k f fd ps (fun vs H Q E => vs.length = n ∧ lCX ⟨P, w, K⟩ r vs H Q E) ∧ mg x = some (.ref f) ∧ PySem.W.keepIn K (.ref f) = true ∧ Binds K fd ps []
structure DFsx (P : Program) (w : World) (K : PySem.W.Frag) (mg : Str → Option Value) (base : Heap) (k : Nat) (x : Str) (r : DRX) : Prop where
  ex : ∃ f : Addr, FnR P w K mg base (L2.CX P w) k f (lCX ⟨P, w, K⟩ r) ∧ mg x = some (.ref f) ∧ PySem.W.keepIn K (.ref f) = true
end
section
variable {X : Cx} {W : WX} {e kv : Expr} {es : List Expr} {te : DTE} {tl : DTA} {pos p kpos : Pos}
def dCBX (r : DRX) (t : DTA) (EX : DXV) : DTE := fun env S R => t env S fun ds S1 => r (fun cn fs S' => EX cn fs env S') ds S1 R
theorem dex_callS {k : Nat} {r : DRX} {x : Str} (F : DFsx X.prog X.w X.K X.mg X.base k x r) (tk : Takes X W) (hr : Room k X.A) (hg : Gl X x) (ha : DA X (e :: es) tl) (hdb : (x == ("__debug__" : Str)) = false := by decide)
    (he : starEach (e :: es) X.env = (false, eval e X.env) :: starEach es X.env := by rfl) (hpl : (backTo pos (starEach es X.env)).any (·.1) = false := by rfl) : DEX X W (.Call (.Name x p) (e :: es) [] pos) (dCBX r tl) := by
  obtain ⟨f, F, hm, hk⟩ := F.ex
  refine ⟨⟨fun pins s σ H Q I h => ?_⟩⟩
  obtain ⟨env, S, R, EX, rs, h, kq, kx⟩ := h
  refine wpAny_Call_Name_kw (ld_glob I hg hm ?_ hdb)
  refine PySem.W.callWith_K (h₀ := X.base) I.ok.mod.kin hk (thn (ha.run.run pos pins s σ H (fun vs H1 => lCX X.kk r vs H1 Q (WE W σ)) I ?_) fun us s1 ⟨vs, H1, I1, rv, q1⟩ => ⟨I1.kIn, ?_⟩) he hpl
  · exact ⟨env, S, _, rs, h, fun ds S1 vs H1 q1 s1 r1 e1 => ⟨ds, S1, R, _, r1, s1, q1, fun z S2 v H2 q2 s2 r2 e2 => kq _ _ _ _ q2 s2 r2 (e1.trans e2), fun cls d H' ⟨cn, fs, S', q', s', x', e'⟩ => kx cn fs env S' σ H' cls d q' (rs.ext (e1.trans e') s') x' (e1.trans e')⟩⟩
  · refine wpAny_call (codeAny_mono (F X.A X.stack s1 H1 us vs Q (WE W σ) hr I1.env0 rv q1) fun r s' hq => ?_)
    cases r with
    | error e => exact passAt tk σ pins H1 s1 e s' I1 hq
    | ok fl =>
      cases fl with
      | ret u => exact I1.after hq
      | next => exact False.elim hq
      | brk => exact False.elim hq
      | cont => exact False.elim hq
theorem dex_callo {k n : Nat} {r : DRX} {x : Str} (F : DFx X.prog X.w X.K X.mg X.base k x n r) (tk : Takes X W) (hr : Room k X.A) (hg : Gl X x) (ha : DA X (e :: es) tl) (hdb : (x == ("__debug__" : Str)) = false := by decide)
    (he : starEach (e :: es) X.env = (false, eval e X.env) :: starEach es X.env := by rfl) (hpl : (backTo pos (starEach es X.env)).any (·.1) = false := by rfl) : DEX X W (.Call (.Name x p) (e :: es) [] pos) (dCBX (fun EX ds S R => ds.length = n ∧ r EX ds S R) tl) := by
  obtain ⟨f, fd, ps, F, hm, hk, hb⟩ := F.ex
  have G := F.raw hb .nil
  refine dex_callS ⟨f, G.imp fun vs H Q E h => ?_, hm, hk⟩ tk hr hg ha hdb he hpl
  obtain ⟨ds, S, R, EX, rd, s1, ⟨hl, q⟩, kk, kx⟩ := h
  rw [List.append_nil]
  exact ⟨by rw [← rd.length]; exact hl, ds, S, R, EX, rd, s1, q, kk, kx⟩
/-- which own errors a clause takes -/
def TabX (K : PySem.W.Frag) (c : Value) (tab : List (Str × Bool)) : Prop := ∀ cn b, (cn, b) ∈ tab → ∀ C, ClsAt K cn C → PySem.W.exmOne K (.ref C) c = some b
theorem takes_none : Takes X (fun _ _ _ _ => False) := fun u s' ⟨_, _, _, _, _, _, _, _, _, _, _, _, _, _, _, _, z⟩ => z.elim
end
end Sv
set_option maxHeartbeats 2000000
set_option autoImplicit false
namespace Sv
open PySem PySem.Spec PyProof.Rows L2
section
variable {P : Program} {w : World} {K : PySem.W.Frag} {mg : Str → Option Value} {base : Heap} {C fI : Addr} {fd : FuncData} {st : Stmt} {qual f g x y : Str} {p1 p2 p3 p4 q1 q2 q3 q4 : Pos}
theorem fn_x1 (F : Fun K "__init__" qual st fI fd) (Sc : FnScope ["self", x] ["self", x] (defScope st)) (T : OexC K C) (hno : PySem.W.findIn K (.ref C) f = some none) (hb : defBody st = [.Assign [.Attribute (.Name "self" p1) f p2] (.Name x p3) p4])
    (v0 : Vis (defScope st) "self") (v1 : Vis (defScope st) x) (hd : (x == ("__debug__" : Str)) = false := by decide) (hcd : (x == ("__classdict__" : Str)) = false := by decide) : FnOk P w K mg base CX0 1 fI fd ["self", x] (spX1 C f) := by
  refine F.ok Sc (fun vs H Q E h => by obtain ⟨a, v, rfl, _⟩ := h; rfl) fun cdv A outer s H vs Q E hr h => ⟨tOst K f (tVar 0) (tVar 1), ?_, ?_⟩
  · rw [hb]
    exact pss_one (ps_ost (pe_var rfl v0 (by decide) (by decide)) (pe_var rfl v1 hd hcd))
  · obtain ⟨a, v, rfl, hH, k⟩ := h
    exact ⟨v, rfl, .ref a, rfl, a, C, rfl, T, hno, .inl ⟨hH, k⟩⟩
theorem XCls.of1 {cn : Str} {ps : List Str} {k : Nat} (T : OexC K C) (hC : ClsAt K cn C) (hm : mg cn = some (.ref C)) (iC : PySem.W.findIn K (.ref C) "__init__" = some (some (.ref fI))) (tI : PySem.W.typeIn K (.ref fI) = some (.type "function"))
    (F : FnOk P w K mg base CX0 k fI fd ps (spX1 C f)) (hb : Binds K fd ps []) : XCls P w K mg base k cn [f] := ⟨C, fI, fd, ps, _, T, hC, hm, iC, tI, F, hb, .inl ⟨f, rfl, rfl⟩⟩
theorem tab_nil {c : Value} : TabX K c [] := fun cn b h => (nomatch h)
theorem tab_cons {c : Value} {cn : Str} {b : Bool} {C1 : Addr} {tab : List (Str × Bool)} (hC : ClsAt K cn C1) (e : PySem.W.exmOne K (.ref C1) c = some b) (r : TabX K c tab) : TabX K c ((cn, b) :: tab) := fun cn' b' h C' hC' => by
  rcases List.mem_cons.mp h with z | z
  · cases z
    rw [← hC.eq hC']
    exact e
  · exact r cn' b' z C' hC'
/-- the clause's class by its name, with its table -/
structure DTab (K : PySem.W.Frag) (mg : Str → Option Value) (x : Str) (tab : List (Str × Bool)) : Prop where
  ex : ∃ C, mg x = some (.ref C) ∧ TabX K (.ref C) tab
end
end Sv
set_option maxHeartbeats 2000000
set_option autoImplicit false
namespace Sv
open PySem PySem.Spec PyProof.Rows L2
/-- an own error's class, as a suite asks it -/
structure XSu (K : PySem.W.Frag) (cn : Str) (fl : List Str) : Prop where
  ex : ∃ C, ClsAt K cn C ∧ ExcC K C ∧ ∀ f ∈ fl, PySem.W.findIn K (.ref C) f = some none
/-- a class that is asked for by its name, and which own errors are of it -/
structure XT (K : PySem.W.Frag) (mg : Str → Option Value) (x : Str) (tab : List (Str × Bool)) : Prop where
  ex : ∃ (v : V) (cv : Value), (∀ u, RelV v u → u = cv) ∧ RelV v cv ∧ (mg x = some cv ∨ (mg x = none ∧ bootBuiltins x = some cv)) ∧ ∀ cn b, (cn, b) ∈ tab → ∀ C, ClsAt K cn C → PySem.W.kitOne K (.ref C) cv = some b
structure XStep (K : KK) (H H' : Hp) : Prop where
  ext : Ext H H'
  sto : ∀ S, RelS K S H → RelS K S H'
  keep : ∀ x o, H x = some o → H' x = some o
theorem XStep.refl {K : KK} {H : Hp} : XStep K H H := ⟨.refl _, fun _ h => h, fun _ _ h => h⟩
theorem XStep.trans {K : KK} {H H1 H2 : Hp} (a : XStep K H H1) (b : XStep K H1 H2) : XStep K H H2 := ⟨a.ext.trans b.ext, fun S h => b.sto S (a.sto S h), fun x o h => b.keep x o (a.keep x o h)⟩
theorem XStep.new {K : KK} {H : Hp} {p : Addr} {o : HO} (np : H p = none) : XStep K H (upd H p o) := ⟨.new np, fun S h => h.new np, fun x u h => by rw [upd_ne]; exact h; rintro rfl; rw [np] at h; cases h⟩
theorem XRel.step {K : KK} {H H' : Hp} {cn : Str} {fs : List (Str × D)} {cls : Value} {d : Option Addr} (x : XRel K H cn fs cls d) (k : ∀ x o, H x = some o → H' x = some o) (e : Ext H H') : XRel K H' cn fs cls d := by
  obtain ⟨C, hC, ec, dd, gs, ed, hd, r⟩ := x
  exact ⟨C, hC, ec, dd, gs, ed, k _ _ hd, r.ext e⟩
/-- the error stands in slot i -/
def XAt (K : KK) (i : Nat) (a : Addr) (cls : Value) (d : Option Addr) (σ : L2.St) (H : Hp) (cn : Str) (fs : List (Str × D)) : Prop := σ[i]? = some (some (V.ref a)) ∧ XRel K H cn fs cls d
theorem XAt.step {K : KK} {i : Nat} {a : Addr} {cls : Value} {d : Option Addr} {σ : L2.St} {H H' : Hp} {cn : Str} {fs : List (Str × D)} (x : XAt K i a cls d σ H cn fs) (k : XStep K H H') : XAt K i a cls d σ H' cn fs := ⟨x.1, x.2.step k.keep k.ext⟩
abbrev XTT := Str → (Bool → Prop) → Prop
abbrev XTA := Str → List (Str × D) → (List D → Prop) → Prop
abbrev XTS := Str → List (Str × D) → DTS
def lXT (K : KK) (i : Nat) (a : Addr) (cls : Value) (d : Option Addr) (t : XTT) : TT := fun σ H Q => ∃ cn fs R, XAt K i a cls d σ H cn fs ∧ t cn R ∧ ∀ b H', R b → XStep K H H' → Q b H'
def lXA (K : KK) (i : Nat) (a : Addr) (cls : Value) (d : Option Addr) (t : XTA) : TA := fun σ H Q => ∃ cn fs R, XAt K i a cls d σ H cn fs ∧ t cn fs R ∧ ∀ ds vs, R ds → RDs K H ds vs → Q vs H
def lXS (K : KK) (i : Nat) (a : Addr) (cls : Value) (d : Option Addr) (t : XTS) : TS := fun B σ H => ∃ cn fs, XAt K i a cls d σ H cn fs ∧ lS K (t cn fs) B σ H
section
variable {K : PySem.W.Frag} {mg : Str → Option Value} {C D : Addr} {b : Bool} {x cn : Str} {tab : List (Str × Bool)}
theorem clsOf (h : PySem.W.hasDictIn K C = true) : (PySem.W.clsIn K C).isSome = true := by
  obtain ⟨cd, hc, _⟩ := PySem.W.any_some h
  rw [hc]
  rfl
theorem kitX_self (e : (Value.ref C == Value.ref C) = true) : PySem.W.kitOne K (.ref C) (.ref C) = some true := if_pos e
theorem kitX_own (e : (Value.ref C == Value.ref D) = false) (td : PySem.W.hasDictIn K D = true) (ty : PySem.W.typeIn K (.ref D) = some (.type "type")) (ts : PySem.W.subIn K (.ref C) (.ref D) = some b) : PySem.W.kitOne K (.ref C) (.ref D) = some b := by
  refine (if_neg (by rw [e]; exact Bool.false_ne_true)).trans ?_
  exact (if_pos (by rw [clsOf td, ty]; rfl)).trans ts
def Kits (K : PySem.W.Frag) (c : Value) (tab : List (Str × Bool)) : Prop := ∀ cn b, (cn, b) ∈ tab → ∀ C, ClsAt K cn C → PySem.W.kitOne K (.ref C) c = some b
theorem kits_nil {c : Value} : Kits K c [] := fun _ _ h => nomatch h
theorem kits_cons {c : Value} (g : PySem.W.nsIn K mainGlobals cn = some (some (.ref C))) (e : PySem.W.kitOne K (.ref C) c = some b) (r : Kits K c tab) : Kits K c ((cn, b) :: tab) := fun cn' b' h C' hC' => by
  rcases List.mem_cons.mp h with z | z
  · cases z
    have g : ClsAt K cn C := g
    rw [← g.eq hC']
    exact e
  · exact r cn' b' z C' hC'
theorem XT.own (hm : mg x = some (.ref D)) (h : Kits K (.ref D) tab) : XT K mg x tab := ⟨.ref D, .ref D, fun _ r => r, rfl, .inl hm, h⟩
end
def rIsX (K : PySem.W.Frag) (a : Addr) (cls : Value) (d : Option Addr) : List V → Hp → VK → Prop := fun xs H Q => ∃ (c : V) (cv : Value) (C dd : Addr) (fs : List (Str × V)) (b : Bool), xs = [.ref a, c] ∧ cls = .ref C ∧ d = some dd ∧ H dd = some (.xd fs) ∧ ExcC K C ∧ (∀ u, RelV c u → u = cv) ∧ PySem.W.kitOne K (.ref C) cv = some b ∧ Q (.bl b) H
def rIsXT (K : PySem.W.Frag) (a : Addr) (cls : Value) (d : Option Addr) : List V → Hp → VK → Prop := fun xs H Q => ∃ (tp : Addr) (ws : List V) (cvs : List Value) (C dd : Addr) (fs : List (Str × V)) (b : Bool), xs = [.ref a, .ref tp] ∧ H tp = some (.tup ws) ∧ cls = .ref C ∧ d = some dd ∧ H dd = some (.xd fs) ∧ ExcC K C ∧ (∀ us, Vals ws us → us = cvs) ∧ PySem.W.kitAny K (.ref C) cvs = some b ∧ Q (.bl b) H
section
variable {X : Cx} {a : Addr} {oe : Obj} {cls : Value} {d : Option Addr} {pn : List (Addr × Obj)} {i : Nat}
theorem inst_of {C dd : Addr} {fs : List (Str × V)} {pins : List (Addr × Obj)} {σ : L2.St} {H : Hp} {s : Shared} (hz : Zc (.ref C) (some dd) oe) (hf : ∃ vs, oe.data = .fields vs) (I : Inv (X.suite a ((a, oe) :: pn)) pins σ H s) (hd : H dd = some (.xd fs)) : ∃ od, PySem.W.InstAt s.heap a oe C (some od) := by
  obtain ⟨ha, _⟩ := I.pin (a, oe) (List.mem_append_left _ List.mem_cons_self)
  obtain ⟨vs, hdat⟩ := hf
  have hx : ObjOk X.prog X.w H s.heap dd (.xd fs) := I.hok dd _ hd
  obtain ⟨mA, hns, hr⟩ := hx
  obtain ⟨od, ho, hl⟩ := lookIn_ns hns
  exact ⟨od, ha, hz.1, by unfold PySem.W.notCls; rw [hdat] <;> rfl, by rw [hz.2]; exact ho⟩
theorem kitE {K : PySem.W.Frag} {C : Addr} (x : Addr) (ox : Obj) (od : Option Obj) (c : ExcC K C) : PySem.W.KitX K (.ref x) (.ref C) (fun h => PySem.W.InstAt h x ox C od) := PySem.W.kitx_exc (clsOf c.hd) c.hg c.hk c.hs c.ha c.hn c.ht c.hm
theorem call_isX (hz : Zc cls d oe) (hf : ∃ vs, oe.data = .fields vs) : CallR (X.suite a ((a, oe) :: pn)) (.builtin "isinstance") (rIsX X.K a cls d) := by
  intro pins s σ H xs us Q I r ⟨c, cv, C, dd, fs, b, ex, ec, ed, hd, E, hc, hk, q⟩
  subst ex ec ed
  obtain ⟨u1, u2, rfl, r1, r2⟩ := vals2 r
  cases r1
  cases hc _ r2
  obtain ⟨od, J⟩ := inst_of hz hf I hd
  exact PySem.W.kia_one (kitE a oe (some od) E) I.kIn J hk (fun z => nomatch z) fun tk => ⟨.bl b, H, I.tok tk, rfl, q⟩
theorem call_isXT (hz : Zc cls d oe) (hf : ∃ vs, oe.data = .fields vs) : CallR (X.suite a ((a, oe) :: pn)) (.builtin "isinstance") (rIsXT X.K a cls d) := by
  intro pins s σ H xs us Q I r ⟨tp, ws, cvs, C, dd, fs, b, ex, hT, ec, ed, hd, E, hc, hk, q⟩
  subst ex ec ed
  obtain ⟨u1, u2, rfl, r1, r2⟩ := vals2 r
  cases r1
  cases (show u2 = Value.ref tp from r2)
  obtain ⟨od, J⟩ := inst_of hz hf I hd
  have hO : ObjOk X.prog X.w H s.heap tp (.tup ws) := I.hok tp _ hT
  obtain ⟨_, its, rv, o, h1, h2, n, h3⟩ := hO
  have e3 := hc _ rv
  subst e3
  obtain ⟨oc, od', dt, sl⟩ := o
  dsimp only at h2 h3
  subst h2 h3
  exact PySem.W.kia_tup (kitE a oe (some od) E) I.kIn J h1 hk (fun z => nomatch z) fun tk => ⟨.bl b, H, I.tok tk, rfl, q⟩
/-- the class by its name -/
theorem pe_cls {x : Str} {tab : List (Str × Bool)} {p : Pos} (T : XT X.K X.mg x tab) (gx : Gl X x) (hn : x ≠ "__name__" := by decide) (hdb : (x == ("__debug__" : Str)) = false := by decide) :
    ∃ (v : V) (cv : Value), (∀ u, RelV v u → u = cv) ∧ RelV v cv ∧ PE (X.suite a ((a, oe) :: pn)) (.Name x p) (tC v) ∧ ∀ cn b, (cn, b) ∈ tab → ∀ C, ClsAt X.K cn C → PySem.W.kitOne X.K (.ref C) cv = some b := by
  obtain ⟨v, cv, h1, h2, h3, h4⟩ := T.ex
  refine ⟨v, cv, h1, h2, ?_, h4⟩
  rcases h3 with h3 | ⟨h3, h5⟩
  · exact pe_glob (X := X.suite a ((a, oe) :: pn)) gx h3 h2 hdb
  · exact pe_bltn (X := X.suite a ((a, oe) :: pn)) gx h3 h5 h2 hn hdb
def xIs (tab : List (Str × Bool)) : XTT := fun cn R => ∃ b, (cn, b) ∈ tab ∧ R b
def xIs2 (tab tab' : List (Str × Bool)) : XTT := fun cn R => ∃ b c, (cn, b) ∈ tab ∧ (cn, c) ∈ tab' ∧ R (b || c)
def xNot (t : XTT) : XTT := fun cn R => t cn fun b => R (!b)
def xAnd (t u : XTT) : XTT := fun cn R => t cn fun b => if b = true then u cn R else R false
/-- every error that is asked is an own one of the table -/
def XSus (K : PySem.W.Frag) (cs : List (Str × List Str)) : Prop := ∀ q ∈ cs, XSu K q.1 q.2
theorem xsus_nil {K : PySem.W.Frag} : XSus K [] := fun q h => nomatch h
theorem xsus_cons {K : PySem.W.Frag} {cn : Str} {fl : List Str} {cs : List (Str × List Str)} (h : XSu K cn fl) (r : XSus K cs) : XSus K ((cn, fl) :: cs) := fun q m => by
  rcases List.mem_cons.mp m with rfl | m
  · exact h
  · exact r q m
theorem xt_is {n x : Str} {tab : List (Str × Bool)} {p p1 p2 pos : Pos} {cs : List (Str × List Str)} (hz : Zc cls d oe) (hf : ∃ vs, oe.data = .fields vs) (su : XSus X.K cs) (hcs : tab.all (fun q => cs.any (fun z => z.1 == q.1)) = true) (T : XT X.K X.mg x tab) (hg : Gl X "isinstance") (hm : X.mg "isinstance" = none) (gx : Gl X x)
    (hi : X.N[i]? = some n := by rfl) (hv : Vis X.env.scope n := by first | exact Or.inl rfl | exact Or.inr (Or.inl rfl) | exact Or.inr (Or.inr rfl)) (hn : x ≠ "__name__" := by decide) (hdb : (x == ("__debug__" : Str)) = false := by decide) (nd : (n == ("__debug__" : Str)) = false := by decide) (nc : (n == ("__classdict__" : Str)) = false := by decide)
    (hs1 : starEach [.Name n p1, .Name x p2] X.env = (false, eval (.Name n p1) X.env) :: starEach [.Name x p2] X.env := by rfl) (hs2 : starEach [Expr.Name x p2] X.env = (false, eval (.Name x p2) X.env) :: starEach [] X.env := by rfl) (hpl : (backTo pos (starEach [Expr.Name x p2] X.env)).any (·.1) = false := by rfl) :
    PT (X.suite a ((a, oe) :: pn)) (.Call (.Name "isinstance" p) [.Name n p1, .Name x p2] [] pos) (lXT X.kk i a cls d (xIs tab)) := by
  obtain ⟨v, cv, h1, h2, h3, h4⟩ := pe_cls (a := a) (oe := oe) (pn := pn) (p := p2) T gx hn hdb
  refine (pt_val (pe_callB (X := X.suite a ((a, oe) :: pn)) (call_isX hz hf) hg hm (by decide +kernel) (pa_cons (pe_var hi hv nd nc) (pa_cons h3 pa_nil hs2) hs1) (by decide) (by decide) hs1 hpl) (by intro _; rfl)).of fun σ H Q ⟨cn, fs, R, ⟨hσ, C, hC, ec, dd, gs, ed, hd, rf⟩, ⟨b, hb, hR⟩, k⟩ => ?_
  obtain ⟨q, hq, hq2⟩ := List.any_eq_true.mp (List.all_eq_true.mp hcs (cn, b) hb)
  obtain ⟨C', hC', E, _⟩ := (su q hq).ex
  rw [beq_iff_eq.mp hq2] at hC'
  cases hC.eq hC'
  exact ⟨_, hσ, v, cv, C, dd, gs, b, rfl, ec, ed, hd, E, h1, h4 cn b hb C hC, b, rfl, k b H hR .refl⟩
theorem kitAny2 {K : PySem.W.Frag} {t c c' : Value} {b b' : Bool} (h : PySem.W.kitOne K t c = some b) (h' : PySem.W.kitOne K t c' = some b') : PySem.W.kitAny K t [c, c'] = some (b || b') :=
  kitAny_cons h (fun z => by subst z; exact kitAny_cons h' (fun z => by subst z; exact kitAny_nil) fun z => by subst z; rfl) fun z => by subst z; rfl
/-- isinstance of a tuple of two classes -/
theorem xt_is2 {n x y : Str} {tab tab' : List (Str × Bool)} {x1} {p p1 p2 p3 p4 pos : Pos} {cs : List (Str × List Str)} (hz : Zc cls d oe) (hf : ∃ vs, oe.data = .fields vs) (su : XSus X.K cs) (hcs : tab.all (fun q => cs.any (fun z => z.1 == q.1)) = true) (T : XT X.K X.mg x tab) (T' : XT X.K X.mg y tab') (hg : Gl X "isinstance") (hm : X.mg "isinstance" = none) (gx : Gl X x) (gy : Gl X y)
    (hi : X.N[i]? = some n := by rfl) (hv : Vis X.env.scope n := by first | exact Or.inl rfl | exact Or.inr (Or.inl rfl) | exact Or.inr (Or.inr rfl)) (hn : x ≠ "__name__" := by decide) (hdb : (x == ("__debug__" : Str)) = false := by decide) (hn' : y ≠ "__name__" := by decide) (hdb' : (y == ("__debug__" : Str)) = false := by decide) (nd : (n == ("__debug__" : Str)) = false := by decide) (nc : (n == ("__classdict__" : Str)) = false := by decide)
    (hs1 : starEach [.Name n p1, .Tuple [.Name x p2, .Name y p3] x1 p4] X.env = (false, eval (.Name n p1) X.env) :: starEach [.Tuple [.Name x p2, .Name y p3] x1 p4] X.env := by rfl) (hs2 : starEach [Expr.Tuple [.Name x p2, .Name y p3] x1 p4] X.env = (false, eval (.Tuple [.Name x p2, .Name y p3] x1 p4) X.env) :: starEach [] X.env := by rfl) (hpl : (backTo pos (starEach [Expr.Tuple [.Name x p2, .Name y p3] x1 p4] X.env)).any (·.1) = false := by rfl)
    (hs3 : starEach [.Name x p2, .Name y p3] X.env = (false, eval (.Name x p2) X.env) :: starEach [.Name y p3] X.env := by rfl) (hs4 : starEach [Expr.Name y p3] X.env = (false, eval (.Name y p3) X.env) :: starEach [] X.env := by rfl) :
    PT (X.suite a ((a, oe) :: pn)) (.Call (.Name "isinstance" p) [.Name n p1, .Tuple [.Name x p2, .Name y p3] x1 p4] [] pos) (lXT X.kk i a cls d (xIs2 tab tab')) := by
  obtain ⟨v, cv, h1, h2, h3, h4⟩ := pe_cls (a := a) (oe := oe) (pn := pn) (p := p2) T gx hn hdb
  obtain ⟨v', cv', h1', h2', h3', h4'⟩ := pe_cls (a := a) (oe := oe) (pn := pn) (p := p3) T' gy hn' hdb'
  refine (pt_val (pe_callB (X := X.suite a ((a, oe) :: pn)) (call_isXT hz hf) hg hm (by decide +kernel) (pa_cons (pe_var hi hv nd nc) (pa_cons (pe_tup (pa_cons h3 (pa_cons h3' pa_nil hs4) hs3)) pa_nil hs2) hs1) (by decide) (by decide) hs1 hpl) (by intro _; rfl)).of fun σ H Q ⟨cn, fs, R, ⟨hσ, C, hC, ec, dd, gs, ed, hd, rf⟩, ⟨b, c, hb, hc, hR⟩, k⟩ => ?_
  obtain ⟨q, hq, hq2⟩ := List.any_eq_true.mp (List.all_eq_true.mp hcs (cn, b) hb)
  obtain ⟨C', hC', E, _⟩ := (su q hq).ex
  rw [beq_iff_eq.mp hq2] at hC'
  cases hC.eq hC'
  refine ⟨_, hσ, by show 2 ≤ sizeLine; decide, fun tp np => ⟨tp, [v, v'], [cv, cv'], C, dd, gs, b || c, rfl, upd_same, ec, ed, (XStep.new (K := X.kk) np).keep _ _ hd, E, fun us r => ?_, kitAny2 (h4 cn b hb C hC) (h4' cn c hc C hC), b || c, rfl, k _ _ hR (.new np)⟩⟩
  obtain ⟨u1, u2, rfl, r1, r2⟩ := vals2 r
  rw [h1 _ r1, h1' _ r2]
section
variable {Y : Cx} {c e : Expr} {rest : List Expr} {t u : XTT} {pos : Pos}
theorem xt_not (h : PT Y c (lXT Y.kk i a cls d t)) : PT Y (.UnaryOp .Not c pos) (lXT Y.kk i a cls d (xNot t)) :=
  (pt_not h).of fun σ H Q ⟨cn, fs, R, hx, h, k⟩ => ⟨cn, fs, _, hx, h, fun b H' q e => k _ _ q e⟩
theorem xw_and1 (h : PT Y c (lXT Y.kk i a cls d t)) : PW Y (.BoolOp .And [c] pos) (lXT Y.kk i a cls d t) := pw_and1 h
theorem xw_and (h : PT Y c (lXT Y.kk i a cls d t)) (h2 : PW Y (.BoolOp .And (e :: rest) pos) (lXT Y.kk i a cls d u)) : PW Y (.BoolOp .And (c :: e :: rest) pos) (lXT Y.kk i a cls d (xAnd t u)) := by
  refine (pw_and h h2).of fun σ H Q ⟨cn, fs, R, hx, h, k⟩ => ⟨cn, fs, _, hx, h, fun b H' q e => ?_⟩
  cases b with
  | true => exact ⟨cn, fs, R, hx.step e, q, fun b H2 q2 e2 => k _ _ q2 (e.trans e2)⟩
  | false => exact k _ _ q e
theorem PW.xt (h : PW Y e (lXT Y.kk i a cls d t)) : PT Y e (lXT Y.kk i a cls d t) := h.pt
end
def xNil : XTA := fun _ _ R => R []
def xConsC (z : D) (t : XTA) : XTA := fun cn fs R => t cn fs fun ds => R (z :: ds)
def xConsF (cn0 f : Str) (t : XTA) : XTA := fun cn fs R => cn = cn0 ∧ ∃ z, fs.lookup f = some z ∧ t cn fs fun ds => R (z :: ds)
section
variable {es : List Expr} {ta : XTA} {pos : Pos}
theorem xa_nil {Y : Cx} : PA Y [] (lXA Y.kk i a cls d xNil) := pa_nil.of fun σ H Q ⟨cn, fs, R, hx, h, k⟩ => k _ _ h .nil
theorem xa_str {Y : Cx} {x : Str} {j} (hr : PA Y es (lXA Y.kk i a cls d ta)) (hs : starEach (.Constant (.str x) j pos :: es) Y.env = (false, eval (.Constant (.str x) j pos) Y.env) :: starEach es Y.env := by rfl) : PA Y (.Constant (.str x) j pos :: es) (lXA Y.kk i a cls d (xConsC (.str x) ta)) :=
  (pa_cons pe_str hr hs).of fun σ H Q ⟨cn, fs, R, hx, h, k⟩ => ⟨cn, fs, _, hx, h, fun ds vs q r => k _ _ q (.cons (.str x) r)⟩
theorem xa_non {Y : Cx} {j} (hr : PA Y es (lXA Y.kk i a cls d ta)) (hs : starEach (.Constant .none j pos :: es) Y.env = (false, eval (.Constant .none j pos) Y.env) :: starEach es Y.env := by rfl) : PA Y (.Constant .none j pos :: es) (lXA Y.kk i a cls d (xConsC .non ta)) :=
  (pa_cons pe_non hr hs).of fun σ H Q ⟨cn, fs, R, hx, h, k⟩ => ⟨cn, fs, _, hx, h, fun ds vs q r => k _ _ q (.cons .non r)⟩
theorem xa_fld {n f : Str} {cn0 : Str} {fl : List Str} {p : Pos} (hz : Zc cls d oe) (hf : ∃ vs, oe.data = .fields vs) (su : XSu X.K cn0 fl) (hfl : f ∈ fl) (hr : PA (X.suite a ((a, oe) :: pn)) es (lXA X.kk i a cls d ta))
    (hi : X.N[i]? = some n := by rfl) (hv : Vis X.env.scope n := by first | exact Or.inl rfl | exact Or.inr (Or.inl rfl) | exact Or.inr (Or.inr rfl)) (nd : (n == ("__debug__" : Str)) = false := by decide) (nc : (n == ("__classdict__" : Str)) = false := by decide) (hb : attributeBase (.Name n p) f X.env (eval (.Name n p) X.env) = eval (.Name n p) X.env := by rfl)
    (hs : starEach (.Attribute (.Name n p) f pos :: es) X.env = (false, eval (.Attribute (.Name n p) f pos) X.env) :: starEach es X.env := by rfl) :
    PA (X.suite a ((a, oe) :: pn)) (.Attribute (.Name n p) f pos :: es) (lXA X.kk i a cls d (xConsF cn0 f ta)) := by
  obtain ⟨C, hC, E, hno⟩ := su.ex
  refine (pa_cons (pe_xf ⟨E.hg, E.hk, E.hs, E.hd⟩ (hno f hfl) hz hf (pe_var (X := X.suite a ((a, oe) :: pn)) hi hv nd nc) hb) hr hs).of fun σ H Q ⟨cn, fs, R, hx, ⟨ecn, z, hl, h⟩, k⟩ => ?_
  subst ecn
  obtain ⟨hσ, C', hC', ec, dd, gs, ed, hd, rf⟩ := hx
  cases hC.eq hC'
  obtain ⟨v, hl2, rv⟩ := rf.look hl
  exact ⟨_, hσ, rfl, ec, dd, gs, v, ed, hd, hl2, cn, fs, _, ⟨hσ, C, hC, ec, dd, gs, ed, hd, rf⟩, h, fun ds vs q r => k _ _ q (.cons rv r)⟩
end
section
variable {Y : Cx} {c : Expr} {es : List Expr} {body orelse rest : List Stmt} {tc : XTT} {ta : XTA} {tb te tr : XTS} {pos pos' lpos : Pos}
theorem lS_step {K : KK} {σ : L2.St} {H H1 : Hp} {B : Ends} {C : DEnds} {t : DTS} {env : Env} {S : Sto} (rs : RS K σ H env S) (st : XStep K H H1) (q : t C env S)
    (k : (∀ env' S' σ' H', C.nx env' S' → RS K σ' H' env' S' → Ext H H' → B.nx σ' H') ∧ (∀ d S' v H', C.rt d S' → RelS K S' H' → RD K H' d v → Ext H H' → B.rt v H') ∧
      (∀ env' S' σ' H', C.bk env' S' → RS K σ' H' env' S' → Ext H H' → B.bk σ' H') ∧ (∀ env' S' σ' H', C.ct env' S' → RS K σ' H' env' S' → Ext H H' → B.ct σ' H')) : lS K t B σ H1 :=
  lS_go (rs.ext st.ext (st.sto S rs.sto)) st.ext q k
theorem xs_pure {t : DTS} (h : DSs Y rest t) : PSs Y rest (lXS Y.kk i a cls d (fun _ _ => t)) := h.run.of fun σ H B ⟨cn, fs, hx, h⟩ => h
def xIf (tc : XTT) (tb te : XTS) : XTS := fun cn fs C env S => tc cn fun b => if b = true then tb cn fs C env S else te cn fs C env S
/-- the last if -/
theorem xs_if (hc : PT Y c (lXT Y.kk i a cls d tc)) (hb : PSs Y body (lXS Y.kk i a cls d tb)) (he : PSs Y orelse (lXS Y.kk i a cls d te)) : PSs Y [.If c body orelse pos] (lXS Y.kk i a cls d (xIf tc tb te)) := by
  refine (pss_one (ps_if hc hb he)).of fun σ H B ⟨cn, fs, hx, env, S, C, rs, h, k⟩ => ?_
  refine ⟨cn, fs, _, hx, h, fun b H1 q st => ?_⟩
  cases b with
  | true => exact ⟨cn, fs, hx.step st, lS_step rs st q k⟩
  | false => exact ⟨cn, fs, hx.step st, lS_step rs st q k⟩
theorem xs_nil : PSs Y [] (lXS Y.kk i a cls d (fun _ _ => dNext)) := xs_pure dss_nil
def xAsgL (j : Nat) (ta : XTA) (tr : XTS) : XTS := fun cn fs C env S => ta cn fs fun ds => decide (ds.length ≤ 1000) = true ∧ ∀ p, S p = none → tr cn fs C (env.set j (some (.ref p))) (S.put p (.lst ds))
theorem xs_asgL {j : Nat} {x : Str} (hN : Y.N.Nodup) (hj : Y.N[j]? = some x) (hx : Loc Y.env.scope x) (hij : (j == i) = false) (ha : PA Y es (lXA Y.kk i a cls d ta)) (hr : PSs Y rest (lXS Y.kk i a cls d tr)) (hs : swapsWith (.List es lpos) (some (.Name x pos')) pos.line Y.env = pure false := by rfl)
    (hf : Y.fn x = true ∨ Y.env.scope.names.lookup x = some .local := by first | exact .inl rfl | exact .inr rfl | assumption) : PSs Y (.Assign [.Name x pos'] (.List es lpos) pos :: rest) (lXS Y.kk i a cls d (xAsgL j ta tr)) := by
  refine (pss_cons (ps_set hN hj hx (pe_lst ha) hs hf) hr).of fun σ H B ⟨cn, fs, hx, env, S, C, rs, h, k⟩ => ?_
  refine ⟨cn, fs, _, hx, h, fun ds vs ⟨hl, q⟩ r => ⟨by rw [← r.length]; exact sz1000 hl, fun p np => ?_⟩⟩
  have ne : j ≠ i := fun z => by subst z; rw [beq_self_eq_true] at hij; cases hij
  have e1 : Ext H (upd H p (.lst vs)) := .new np
  refine ⟨cn, fs, ⟨by rw [List.getElem?_set_ne ne]; exact hx.1, hx.2.step (XStep.new (K := Y.kk) np).keep e1⟩, ?_⟩
  exact lS_go ((rs.ext e1 (rs.sto.lay (o := .lst ds) np ⟨_, upd_same, r.ext e1⟩)).set j (.ref p)) e1 (q p (rs.sto.fresh np)) k
end
end
section
variable {X : Cx} {pos : Pos}
theorem RS.unset {K : KK} {σ : L2.St} {H : Hp} {env : Env} {S : Sto} {x : Option V} (r : RS K σ H env S) (i : Nat) : RS K (σ.set i x) H (env.set i none) S := by
  refine ⟨by rw [List.length_set, List.length_set]; exact r.len, fun j d' e => ?_, r.sto⟩
  by_cases z : i = j
  · subst z
    by_cases hl : i < env.length
    · rw [List.getElem?_set_self hl] at e
      cases e
    · rw [List.getElem?_eq_none (by rw [List.length_set]; omega)] at e
      cases e
  · rw [List.getElem?_set_ne z] at e ⊢
    exact r.slot j d' e
def dTryAs (i : Nat) (tab : List (Str × Bool)) (t : DXV → DTS) (h : XTS) : DTS := fun C env S => t (fun cn fs env' S' => decide (i < env'.length) = true ∧ ∃ b, (cn, b) ∈ tab ∧ if b = true then h cn fs { nx := fun env2 S2 => C.nx (env2.set i none) S2, rt := C.rt, bk := fun env2 S2 => C.bk (env2.set i none) S2, ct := fun env2 S2 => C.ct (env2.set i none) S2 } (env'.set i none) S' else False) C env S
theorem ds_tryAs {i : Nat} {n x : Str} {b0 : Stmt} {body suite : List Stmt} {np pos' : Pos} {tab : List (Str × Bool)} {t : DXV → DTS} {h : XTS} (hs : X.stack = X.env :: X.outer) (hf : X.env.frame = some X.env.locals) (hN : X.N.Nodup) (hi : X.N[i]? = some n) (hln : X.env.kindOf n = some .local) (hg : Gl X x) (T : DTab X.K X.mg x tab)
    (hb : ∀ (W : WX) (pn : List (Addr × Obj)) (xe : Value → Shared → Prop), Takes (X.tr pn xe) W → DSXs (X.tr pn xe) W body t)
    (hsu : ∀ (a : Addr) (oe : Obj) (cls : Value) (d : Option Addr) (pn : List (Addr × Obj)), Zc cls d oe → (∃ vs, oe.data = .fields vs) → PSs (X.suite a ((a, oe) :: pn)) (b0 :: suite) (lXS X.kk i a cls d h)) (hdb : (x == ("__debug__" : Str)) = false := by decide) :
    DS X (.Try body [.ExceptHandler (some (.Name x np)) (some n) (b0 :: suite) pos'] [] [] pos) (dTryAs i tab t h) := by
  obtain ⟨c, hm, htab⟩ := T.ex
  refine ⟨(ps_try_as (tb := fun W => lSX X.kk W t) (ts := fun a cls d => lXS X.kk i a cls d h) (Wout := fun _ _ _ _ => False) hs hf hN hi hln ⟨hg, hdb, .inl hm⟩ takes_none (fun W pn xe tk _ => (hb W pn xe tk).run) hsu).of fun σ H B ⟨env, S, C, rs, q, k⟩ => ?_⟩
  refine ⟨env, S, C, _, rs, q, k, fun cn fs env' S' σ' H' cls d ⟨hlt, b, hm, q'⟩ rs' xr e' => ?_⟩
  obtain ⟨CC, hC, ec, xr2⟩ := xr
  have xr : XRel X.kk H' cn fs cls d := ⟨CC, hC, ec, xr2⟩
  subst ec
  refine ⟨b, htab cn b hm CC hC, fun hb1 a na => ?_, fun hb0 => ?_⟩
  · subst hb1
    have q' := (if_pos rfl).mp q'
    refine ⟨cn, fs, ⟨?_, xr⟩, ?_⟩
    · exact List.getElem?_set_self (by rw [← rs'.len]; exact of_decide_eq_true hlt)
    · exact lS_go (rs'.unset i) e' q' ⟨fun env2 S2 σ2 H2 z r e => k.1 _ _ _ _ z (r.unset i) e, k.2.1, fun env2 S2 σ2 H2 z r e => k.2.2.1 _ _ _ _ z (r.unset i) e, fun env2 S2 σ2 H2 z r e => k.2.2.2 _ _ _ _ z (r.unset i) e⟩
  · subst hb0
    exact (if_neg Bool.false_ne_true).mp q'
end
end Sv
set_option maxHeartbeats 400000
set_option autoImplicit false
set_option maxHeartbeats 1000000
set_option autoImplicit false
namespace Sv
open PySem PySem.Spec PyProof.Rows L2
mutual
/-- data without lists, with dicts -/
inductive PyD (S : Sto) : D → PyData → Prop
  | non : PyD S .non .none
  | bl (b : Bool) : PyD S (.bl b) (.bool b)
  | int (i : Int) : PyD S (.int i) (.int i)
  | str (x : Str) : PyD S (.str x) (.str x)
  | tup {ds : List D} {ps : List PyData} : PyDs S ds ps → PyD S (.tup ds) (.tuple ps)
  | d0 {a : Addr} : S a = some (.dK []) → PyD S (.ref a) (.dict [])
  | d1 {a : Addr} {x : Str} {i : Int} : S a = some (.dK [(.inr x, .int i)]) → PyD S (.ref a) (.dict [(.str x, .int i)])
  /-- a list that is known not to be sys.modules -/
  | lst {a : Addr} {ds : List D} {ps : List PyData} : S a = some (.lst ds) → a ≠ sysModules → PyDs S ds ps → PyD S (.ref a) (.list ps)
inductive PyDs (S : Sto) : List D → List PyData → Prop
  | nil : PyDs S [] []
  | cons {d : D} {ds : List D} {p : PyData} {ps : List PyData} : PyD S d p → PyDs S ds ps → PyDs S (d :: ds) (p :: ps)
end
section
variable {S : Sto} {q : Addr} {o : Ob}
mutual
theorem PyD.put (nq : S q = none) : ∀ {d : D} {p : PyData}, PyD S d p → PyD (S.put q o) d p
  | _, _, .non => .non
  | _, _, .bl b => .bl b
  | _, _, .int i => .int i
  | _, _, .str x => .str x
  | _, _, .tup h => .tup (PyDs.put nq h)
  | _, _, .d0 h => .d0 ((Sto.ne fun z => by rw [z, nq] at h; cases h).trans h)
  | _, _, .d1 h => .d1 ((Sto.ne fun z => by rw [z, nq] at h; cases h).trans h)
  | _, _, .lst h n r => .lst ((Sto.ne fun z => by rw [z, nq] at h; cases h).trans h) n (PyDs.put nq r)
theorem PyDs.put (nq : S q = none) : ∀ {ds : List D} {ps : List PyData}, PyDs S ds ps → PyDs (S.put q o) ds ps
  | _, _, .nil => .nil
  | _, _, .cons h t => .cons (PyD.put nq h) (PyDs.put nq t)
end
end
def dLstS (ta : DTA) : DTE := fun env S R => ta env S fun ds S1 => decide (ds.length ≤ 1000) = true ∧ ∀ p, S1 p = none → p ≠ sysModules → R (.ref p) (S1.put p (.lst ds))
section
variable {X : Cx} {es : List Expr} {ta : DTA} {pos : Pos}
theorem de_lstS (h : DA X es ta) : DE X (.List es pos) (dLstS ta) := by
  refine ⟨(pe_lstS h.run).of fun σ H Q ⟨env, S, R, rs, h, k⟩ => ⟨env, S, _, rs, h, fun ds S1 vs H1 ⟨hz, q⟩ s1 r1 e1 => ⟨?_, fun p np ns => ?_⟩⟩⟩
  · rw [← r1.length]
    exact sz1000 hz
  · exact k _ _ _ _ (q p (s1.fresh np) ns) (s1.lay np ⟨_, upd_same, r1.ext (.new np)⟩) (.ref p) (e1.trans (.new np))
end
end Sv
set_option maxHeartbeats 2000000
set_option autoImplicit false
namespace Sv
open PySem PySem.Spec PyProof.Rows L2
def lAX (K : KK) (W : WX) (t : DXV → DTA) : TA := fun σ H Q => ∃ env S R EX, RS K σ H env S ∧ t EX env S R ∧ (∀ ds S' vs H', R ds S' → RelS K S' H' → RDs K H' ds vs → Ext H H' → Q vs H') ∧
  ∀ cn fs env' S' σ' H' cls d, EX cn fs env' S' → RS K σ' H' env' S' → XRel K H' cn fs cls d → Ext H H' → W cls d σ' H'
structure DAX (X : Cx) (W : WX) (es : List Expr) (t : DXV → DTA) : Prop where
  run : PA X es (lAX X.kk W t)
section
variable {X : Cx} {W : WX} {e : Expr} {es : List Expr} {te : DTE} {tx : DXV → DTE} {tl : DXV → DTA} {pos lpos : Pos}
theorem dax_last (he : DEX X W e tx) (hs : starEach [e] X.env = (false, eval e X.env) :: starEach [] X.env := by rfl) : DAX X W [e] (fun EX env S R => tx EX env S fun d S1 => R [d] S1) :=
  ⟨(pa_cons he.run pa_nil hs).of fun σ H Q ⟨env, S, R, EX, rs, h, k, kx⟩ => ⟨env, S, _, EX, rs, h, fun d S1 v H1 q s1 r1 e1 => k _ _ _ _ q s1 (.cons r1 .nil) e1, kx⟩⟩
theorem dax_cons (he : DE X e te) (hr : DAX X W es tl) (hs : starEach (e :: es) X.env = (false, eval e X.env) :: starEach es X.env := by rfl) : DAX X W (e :: es) (fun EX env S R => te env S fun d S1 => tl EX env S1 fun ds S2 => R (d :: ds) S2) :=
  ⟨(pa_cons he.run hr.run hs).of fun σ H Q ⟨env, S, R, EX, rs, h, k, kx⟩ => ⟨env, S, _, rs, h, fun d S1 v H1 q s1 r1 e1 => ⟨env, S1, _, EX, rs.ext e1 s1, q, fun ds S2 vs H2 q2 s2 r2 e2 => k _ _ _ _ q2 s2 (.cons (r1.ext e2) r2) (e1.trans e2), fun cn fs env' S' σ' H' cls d q' r' x' e' => kx cn fs env' S' σ' H' cls d q' r' x' (e1.trans e')⟩⟩⟩
def dXLst (tl : DXV → DTA) (EX : DXV) : DTE := fun env S R => tl EX env S fun ds S1 => decide (ds.length ≤ 1000) = true ∧ ∀ p, S1 p = none → p ≠ sysModules → R (.ref p) (S1.put p (.lst ds))
theorem dex_lst (h : DAX X W es tl) : DEX X W (.List es pos) (dXLst tl) := by
  refine ⟨(pe_lstS h.run).of fun σ H Q ⟨env, S, R, EX, rs, h, k, kx⟩ => ⟨env, S, _, EX, rs, h, fun ds S1 vs H1 ⟨hz, q⟩ s1 r1 e1 => ⟨?_, fun p np ns => ?_⟩, kx⟩⟩
  · rw [← r1.length]
    exact sz1000 hz
  · exact k _ _ _ _ (q p (s1.fresh np) ns) (s1.lay np ⟨_, upd_same, r1.ext (.new np)⟩) (.ref p) (e1.trans (.new np))
end
end Sv
set_option maxHeartbeats 1000000
set_option autoImplicit false
set_option maxHeartbeats 1000000
set_option autoImplicit false
set_option maxHeartbeats 1000000
set_option autoImplicit false
namespace Sv
open PySem L2
/-- _law_odd: 0 _law_state_here 1 _law_some -/
def B_law_odd_0f51 : DTS := dSeq (dAsg (dLstS (dCons (dC .non) (dCons (dC (.bl true)) (dCons (dC (.bl false)) (dCons (dUn rNeg (dC (.int 1))) (dCons (dC (.int 0)) (dCons (dC (.int 1)) (dCons (dC (.int 2)) (dCons (dC (.int 6)) (dCons (dC (.int 24)) (dCons (dC (.int 25)) (dCons (dUn rNeg (dC (.int 25))) (dCons (dBin rPow (dC (.int 10)) (dC (.int 29))) (dCons (dC (.str "")) (dCons (dC (.str "0")) (dCons (dC (.str "+1")) (dCons (dTup (dNil)) (dCons (dLstS (dNil)) (dCons (dDNew) (dCons (dTup (dCons (dC (.int 0)) (dNil))) (dCons (dLstS (dCons (dC (.int 0)) (dNil))) (dCons (dTup (dCons (dTup (dNil)) (dNil))) (dNil))))))))))))))))))))))) (dgName 1))
  (dRet (dBin rIxq (dBin rAdd (dVar 1) (dLstS (dCons (dTup (dCons (dC (.int 0)) (dCons (dC (.int 0)) (dNil)))) (dCons (dTup (dCons (dC (.int 0)) (dCons (dC (.int 1)) (dNil)))) (dCons (dDisp1 (dC (.str "a")) (dC (.int 1))) (dNil)))))) (dCall 2 (dFn 5 B_law_draw_a332) (dCons (dVar 0) (dCons (dC (.int 24)) (dNil))))))
end Sv
set_option maxHeartbeats 2000000
set_option autoImplicit false
namespace Sv
open PySem PySem.Spec PyProof.Rows L2
section
variable {X : Cx} {o e a : Expr} {to te ta tb : DTE} {pos : Pos}
/-- sep.join(list of texts) -/
def dJoin (to te : DTE) : DTE := fun env S R => to env S fun x S1 => ∃ sep : Str, x = .str sep ∧ te env S1 fun y S2 => ∃ (p : Addr) (ys : List Str), y = .ref p ∧ S2 p = some (.lst (ys.map D.str)) ∧ (ys.map (·.length)).sum + ys.length * sep.length ≤ 16777216 ∧ R (.str (Str.join sep ys)) S2
theorem rds_strs {K : KK} {H : Hp} : ∀ {xs : List Str} {vs : List V}, RDs K H (xs.map D.str) vs → vs = xs.map V.str
  | [], _, r => by cases r; rfl
  | x :: xs, _, r => by
    cases r with
    | cons a t =>
      cases a
      rw [rds_strs t]
      rfl
theorem strs_rds {K : KK} {H : Hp} : ∀ xs : List Str, RDs K H (xs.map D.str) (xs.map V.str)
  | [] => .nil
  | x :: xs => .cons (.str x) (strs_rds xs)
theorem de_join {apos : Pos} (ho : DE X o to) (he : DE X e te) (hs : starEach [e] X.env = [(false, eval e X.env)] := by rfl) (hbase : attributeBase o "join" X.env (eval o X.env) = eval o X.env := by rfl) (hline : (apos.endLine == pos.line) = true := by rfl) :
    DE X (.Call (.Attribute o "join" apos) [e] [] pos) (dJoin to te) := by
  refine ⟨(pe_join ho.run he.run hs hbase hline).of fun σ H Q ⟨env, S, R, rs, h, k⟩ => ⟨env, S, _, rs, h, fun x S1 v H1 ⟨sep, hx, q⟩ s1 r1 e1 => ?_⟩⟩
  subst hx
  cases r1
  refine ⟨⟨sep, rfl⟩, env, S1, _, rs.ext e1 s1, q, fun y S2 u H2 ⟨p, ys, hy, hp, hl, q2⟩ s2 r2 e2 => ?_⟩
  subst hy
  cases r2
  obtain ⟨vs, h1, r⟩ := s2.lst hp
  have e3 := rds_strs r
  subst e3
  refine ⟨sep, p, ys, rfl, rfl, .inl (.of h1), hl, ?_⟩
  rw [show Txt.join sep ys = Str.join sep ys from StrLaws.glued_eq_join sep ys]
  exact k _ _ _ _ q2 s2 (.str _) (e1.trans e2)
/-- text.split(sep) -/
def dSplit (to te : DTE) : DTE := fun env S R => to env S fun x S1 => ∃ a : Str, x = .str a ∧ te env S1 fun y S2 => ∃ b : Str, y = .str b ∧ (b.length == 0) = false ∧ a.length + 2 ≤ sizeLine ∧ ∀ p, S2 p = none → R (.ref p) (S2.put p (.lst ((Txt.split a b).map D.str)))
theorem de_split {apos : Pos} (ho : DE X o to) (he : DE X e te) (hs : starEach [e] X.env = [(false, eval e X.env)] := by rfl) (hbase : attributeBase o "split" X.env (eval o X.env) = eval o X.env := by rfl) (hline : (apos.endLine == pos.line) = true := by rfl) :
    DE X (.Call (.Attribute o "split" apos) [e] [] pos) (dSplit to te) := by
  refine ⟨(pe_split ho.run he.run hs hbase hline).of fun σ H Q ⟨env, S, R, rs, h, k⟩ => ⟨env, S, _, rs, h, fun x S1 v H1 ⟨a, hx, q⟩ s1 r1 e1 => ?_⟩⟩
  subst hx
  cases r1
  refine ⟨⟨a, rfl⟩, env, S1, _, rs.ext e1 s1, q, fun y S2 u H2 ⟨b, hy, hb, hl, q2⟩ s2 r2 e2 => ?_⟩
  subst hy
  cases r2
  exact ⟨a, b, rfl, rfl, hb, hl, fun p np => k _ _ _ _ (q2 p (s2.fresh np)) (s2.lay np ⟨_, upd_same, strs_rds _⟩) (.ref p) (e1.trans (e2.trans (.new np)))⟩
/-- a question to a text -/
def dAskS (f : Str → Bool) (to : DTE) : DTE := fun env S R => to env S fun x S1 => ∃ a : Str, x = .str a ∧ R (.bl (f a)) S1
theorem de_isascii {apos : Pos} (ho : DE X o to) (hbase : attributeBase o "isascii" X.env (eval o X.env) = eval o X.env := by rfl) (hline : (apos.endLine == pos.line) = true := by rfl) : DE X (.Call (.Attribute o "isascii" apos) [] [] pos) (dAskS Txt.isascii to) := by
  refine ⟨(pe_m0 F.slot_str_isascii F.type_str_isascii mt_isascii ho.run hbase hline).of fun σ H Q ⟨env, S, R, rs, h, k⟩ => ⟨env, S, _, rs, h, fun x S1 v H1 ⟨a, hx, q⟩ s1 r1 e1 => ?_⟩⟩
  subst hx
  cases r1
  exact ⟨⟨a, rfl⟩, a, rfl, rfl, True.intro, k _ _ _ _ q s1 (.bl _) e1⟩
theorem de_isdigit {apos : Pos} (ho : DE X o to) (hbase : attributeBase o "isdigit" X.env (eval o X.env) = eval o X.env := by rfl) (hline : (apos.endLine == pos.line) = true := by rfl) : DE X (.Call (.Attribute o "isdigit" apos) [] [] pos) (dAskS Txt.isdigit to) := by
  refine ⟨(pe_m0 F.slot_str_isdigit F.type_str_isdigit mt_isdigit ho.run hbase hline).of fun σ H Q ⟨env, S, R, rs, h, k⟩ => ⟨env, S, _, rs, h, fun x S1 v H1 ⟨a, hx, q⟩ s1 r1 e1 => ?_⟩⟩
  subst hx
  cases r1
  exact ⟨⟨a, rfl⟩, a, rfl, rfl, True.intro, k _ _ _ _ q s1 (.bl _) e1⟩
/-- int(text) -/
def rIntS : DRC := fun ds S R => ∃ (a : Str) (n : Int), ds = [.str a] ∧ PySem.intText? a = some n ∧ a.length ≤ 640 ∧ R (.int n) S
theorem b_intS : CallR X (.type "int") (lC X.kk rIntS) := by
  intro pins s σ H vs us Q I r ⟨ds, S, R, r1, s1, ⟨a, n, hd, hn, hl, q⟩, k⟩
  subst hd
  obtain ⟨v, rfl, rv⟩ := r1.inv1
  cases rv
  exact call_int_str pins s σ H _ us Q I r ⟨a, n, rfl, hn, hl, k _ _ _ _ q s1 (.int _) (.refl H)⟩
/-- len(text) -/
def rLenT : DRC := fun ds S R => ∃ a : Str, ds = [.str a] ∧ a.length ≤ sizeLine ∧ R (.int a.length) S
theorem b_lenT : CallR X (.builtin "len") (lC X.kk rLenT) := by
  intro pins s σ H vs us Q I r ⟨ds, S, R, r1, s1, ⟨a, hd, hl, q⟩, k⟩
  subst hd
  obtain ⟨v, rfl, rv⟩ := r1.inv1
  cases rv
  exact call_len_str pins s σ H _ us Q I r ⟨a, rfl, hl, k _ _ _ _ q s1 (.int _) (.refl H)⟩
/-- a sign of a text -/
def rIxS2 : DR2 := fun x y S R => ∃ (z : Str) (i : Int) (c : Nat), x = .str z ∧ y = .int i ∧ z.length ≤ sizeLine ∧ atI z.cps.toList i = some c ∧ R (.str ⟨#[c]⟩) S
theorem o_ixS : IxR X (l2 X.kk rIxS2) := by
  intro value slice pins s σ H x y v u Q I rx ry ⟨d, e, S, R, r1, r2, s1, ⟨z, i, c, hx, hy, hl, hc, q⟩, k⟩ hs
  subst hx hy
  cases r1
  cases r2
  exact ix_str value slice pins s σ H _ _ v u Q I rx ry ⟨z, i, c, rfl, rfl, hl, hc, k _ _ _ _ q s1 (.str _) (.refl H)⟩ hs
/-- a part of a text -/
def dSlS (te : DTE) (tlo thi : DTO) : DTE := fun env S R => te env S fun d S1 => tlo env S1 fun lo S2 => thi env S2 fun hi S3 => ∃ z : Str, d = .str z ∧ z.length ≤ sizeLine ∧ R (.str (L2.cutS z lo hi)) S3
theorem de_slS {lo hi : Option Expr} {tlo thi : DTO} {p2 : Pos} (he : DE X e te) (hl : DO X lo tlo) (hu : DO X hi thi) : DE X (.Subscript e (.Slice lo hi none p2) pos) (dSlS te tlo thi) := by
  refine ⟨(pe_slice sl_str he.run hl.run hu.run).of fun σ H Q ⟨env, S, R, rs, h, k⟩ => ⟨env, S, _, rs, h, fun d S1 v H1 q s1 r1 e1 => ⟨env, S1, _, rs.ext e1 s1, q, fun lo S2 H2 q2 s2 e2 => ⟨env, S2, _, rs.ext (e1.trans e2) s2, q2, fun hi S3 H3 ⟨z, hd, hz, q3⟩ s3 e3 => ?_⟩⟩⟩⟩
  subst hd
  cases r1
  exact ⟨z, rfl, hz, k _ _ _ _ q3 s3 (.str _) (e1.trans (e2.trans e3))⟩
/-- a text or another value -/
def dOrS (ta tb : DTE) : DTE := fun env S R => ta env S fun x S1 => ∃ y : Str, x = .str y ∧ y.length ≤ sizeLine ∧ ((y.length = 0 ∧ tb env S1 R) ∨ (y.length ≠ 0 ∧ R x S1))
theorem de_orS {a b : Expr} {rest : List Expr} {ta tb : DTE} (ha : DE X a ta) (hb : DE X (.BoolOp .Or (b :: rest) pos) tb) : DE X (.BoolOp .Or (a :: b :: rest) pos) (dOrS ta tb) := by
  refine ⟨(pe_orT ha.run hb.run).of fun σ H Q ⟨env, S, R, rs, h, k⟩ => ⟨env, S, _, rs, h, fun x S1 v H1 ⟨y, hx, hl, q⟩ s1 r1 e1 => ?_⟩⟩
  subst hx
  rcases q with ⟨h0, q⟩ | ⟨h0, q⟩
  · cases r1
    exact ⟨false, ⟨hl, by rw [h0]; rfl⟩, env, S1, R, rs.ext e1 s1, q, fun d S2 v H2 q s2 r2 e2 => k _ _ _ _ q s2 r2 (e1.trans e2)⟩
  · have r2 := r1
    cases r1
    exact ⟨true, ⟨hl, by
      have : ((y.length : Int) != 0) = true := by rw [bne_iff_ne]; omega
      exact this.symm⟩, k _ _ _ _ q s1 r2 e1⟩
/-- a text that stands at the top -/
theorem de_gstr {x z : Str} {t : Tok} (hg : Gl X x) (hm : X.mg x = some (.str z t)) (hd : (x == ("__debug__" : Str)) = false := by decide) : DE X (.Name x pos) (dC (.str z)) :=
  ⟨(pe_glob (v := .str z) hg hm ⟨t, rfl⟩ hd).of fun σ H Q ⟨env, S, R, rs, q, k⟩ => k _ _ _ _ q rs.sto (.str z) (.refl H)⟩
end
end Sv
namespace Sv
open PySem L2
/-- number_of: 0 word -/
def B_number_of_1a7b : DTS := dSeq (dIfS (dOr (dNot (dB (dAskS Txt.isascii (dVar 0)))) (dOr (dNot (dB (dAskS Txt.isdigit (dVar 0)))) (dB (dBin (rCmp fun i j => decide (j < i)) (dCB rLenT (dCons (dVar 0) (dNil))) (dC (.int 6)))))) (dRet (dC .non)) (dNext))
  (dSeq (dIfS (dAnd (dB (dBin (rEqq false) (dBin rIxS2 (dVar 0) (dC (.int 0))) (dC (.str "0")))) (dB (dBin (rEqq true) (dVar 0) (dC (.str "0"))))) (dRet (dC .non)) (dNext))
  (dRet (dCB rIntS (dCons (dVar 0) (dNil)))))
/-- event_of: 0 word 1 message -/
def B_event_of_16da : DTS := dSeq (dIfS (dB (dBin (rEqq false) (dVar 0) (dC (.str ".")))) (dRet (dC (.int 0))) (dNext))
  (dSeq (dAsg (dCall 1 (dFn 1 B_number_of_1a7b) (dCons (dSlS (dVar 0) (dPart (dC (.int 1))) (dNoP)) (dNil))) (dgName 1))
  (dSeq (dIfS (dNot (dB (dCall 3 (dFn 3 B_is_number_within_7f04) (dCons (dVar 1) (dCons (dC (.int 1)) (dCons (dC (.int 24)) (dNil))))))) (dRet (dC .non)) (dNext))
  (dSeq (dIfS (dB (dBin (rEqq false) (dBin rIxS2 (dVar 0) (dC (.int 0))) (dC (.str "+")))) (dRet (dVar 1)) (dNext))
  (dSeq (dIfS (dB (dBin (rEqq false) (dBin rIxS2 (dVar 0) (dC (.int 0))) (dC (.str "-")))) (dRet (dUn rNeg (dVar 1))) (dNext))
  (dRet (dC .non))))))
/-- can_follow: 0 row 1 word -/
def B_can_follow_f9d7 : DTS := dSeq (dIfS (dB (dBin (rEqq false) (dVar 1) (dC (.str "|")))) (dRet (dBin (rCmp fun i j => decide (j < i)) (dCB (rLen) (dCons (dVar 0) (dNil))) (dC (.int 0)))) (dNext))
  (dSeq (dIfS (dB (dBin (rEqq false) (dVar 1) (dC (.str "_")))) (dRet (dBin (rEqq false) (dCB (rLen) (dCons (dVar 0) (dNil))) (dC (.int 0)))) (dNext))
  (dRet (dAndV (dBin (rEqq true) (dVar 0) (dLst (dCons (dC (.str "_")) (dNil)))) (dNotN (dCall 1 (dFn 2 B_event_of_16da) (dCons (dVar 1) (dNil)))))))
/-- words_of: 0 text -/
def B_words_of_9073 : DTS := dRet (dSplit (dVar 0) (dC (.str " ")))
/-- row_of: 0 words 1 word -/
def B_row_of_e8a1 : DTS := dRet (dCB (rTupq) (dCons (dLc (diVal (dVar 0)) (dgName 1) (dB (dBin (rEqq true) (dVar 1) (dC (.str "_")))) (dCall 1 (dFn 2 B_event_of_16da) (dCons (dVar 1) (dNil))) [1]) (dNil)))
/-- _law_event_text: 0 _law_event -/
def B_law_event_text_afb5 : DTS := dRet (dIf (dB (dBin (rEqq false) (dVar 0) (dC (.int 0)))) (dC (.str ".")) (dIf (dB (dBin (rCmp fun i j => decide (j < i)) (dVar 0) (dC (.int 0)))) (dBin rAdd (dC (.str "+")) (dCB (rStr) (dCons (dVar 0) (dNil)))) (dCB (rStr) (dCons (dVar 0) (dNil)))))
/-- _law_history_text: 0 _law_rows 1 _law_parts 2 _law_row 3 _law_event -/
def B_law_history_text_6ea4 : DTS := dSeq (dAsg (dLst (dNil)) (dgName 1))
  (dSeq (dFor (diVal (dVar 0)) (dgName 2) (dDrop (dMtq "list" mAppend (dVar 1) (dCons (dOrS (dJoin (dC (.str " ")) (dLc (diVal (dVar 2)) (dgName 3) (dYes) (dCall 1 (dFn 1 B_law_event_text_afb5) (dCons (dVar 3) (dNil))) [3])) (dC (.str "_"))) (dNil)))))
  (dRet (dJoin (dC (.str " | ")) (dVar 1))))
end Sv
set_option maxHeartbeats 2000000
set_option autoImplicit false
namespace Sv
open PySem PySem.Spec PyProof.Rows L2
abbrev DXI := DXV → DTI
def lIX (K : KK) (b : Bool) (W : WX) (t : DXI) : TI := fun σ H R => ∃ env S R0 EX, RS K σ H env S ∧ t EX env S R0 ∧ (∀ w S' J H', R0 w S' → RelS K S' H' → Ext H H' → Steps K b H' J w → R J H') ∧
  ∀ cn fs env' S' σ' H' cls d, EX cn fs env' S' → RS K σ' H' env' S' → XRel K H' cn fs cls d → Ext H H' → W cls d σ' H'
structure DIX (X : Cx) (b : Bool) (W : WX) (tg e : Expr) (t : DXI) : Prop where
  run : PI X tg e (lIX X.kk b W t)
section
variable {X : Cx} {W : WX} {tg e elt iter : Expr} {es : List Expr} {ifs : List Expr} {scope : Scope} {own : List (Str × Nat)} {vs : List Nat} {pos p : Pos} {b : Bool} {g : DTG} {tt : DTT} {te : DTE} {tx : DXV → DTE} {ti : DTI} {tix : DXI}
def dixVal (tx : DXV → DTE) : DXI := fun EX env S R => tx EX env S fun d S1 => ∃ w, Items S1 d w ∧ R w S1
theorem dix_val (he : DEX X W e tx) : DIX X true W tg e (dixVal tx) := by
  refine ⟨(pi_val he.run).of fun σ H R ⟨env, S, R0, EX, rs, h, k, kx⟩ => ⟨env, S, _, EX, rs, h, fun d S1 v H1 ⟨w, hw, q⟩ s1 r1 e1 => ?_, kx⟩⟩
  cases r1 with
  | tup ht r =>
    cases (show w = ⟨_, _⟩ from hw)
    exact ⟨_, rfl, .inr ⟨⟨_, ht.sqT⟩, k _ _ _ _ q s1 e1 (steps_tup (fun H e => (ht.ext e).sqT) r)⟩⟩
  | wtup ht r =>
    cases (show w = ⟨_, _⟩ from hw)
    exact ⟨_, rfl, .inr ⟨⟨_, .of ht⟩, k _ _ _ _ q s1 e1 (steps_tup (fun H e => .of (e.2 _ _ ht)) r)⟩⟩
  | rol ht r =>
    cases (show w = ⟨_, _⟩ from hw)
    exact ⟨_, rfl, .inl ⟨⟨_, ht.sqL⟩, k _ _ _ _ q s1 e1 (steps_list fun H S e _ _ => ⟨_, (ht.ext e).sqL, r.ext e⟩)⟩⟩
  | ref a =>
    obtain ⟨ds, ha, rfl⟩ := hw
    obtain ⟨ws, h1, _⟩ := s1.lst ha
    exact ⟨_, rfl, .inl ⟨⟨_, .of h1⟩, k _ _ _ _ q s1 e1 (steps_list fun H S _ s l => let ⟨ws, h1, r⟩ := s.lst l; ⟨ws, .of h1, r⟩)⟩⟩
  | _ => exact absurd hw (fun z => z)
def dxLc (tix : DXI) (g : DTG) (tt : DTT) (te : DTE) (us : List Nat) (EX : DXV) : DTE := dLc (tix EX) g tt te us
theorem lEX_lc {K : KK} {σ : L2.St} {H : Hp} {Q : VK} {us : List Nat} (hv : ∀ i ∈ vs, i ∈ us) (h : lEX K W (dxLc tix g tt te us) σ H Q) : tLc (lIX K b W tix) (lG K b vs g) (lT K tt) (lE K te) us σ H Q := by
  obtain ⟨env, S, R, EX, rs, h, k, kx⟩ := h
  refine ⟨env, S, _, EX, rs, h, fun w S1 J H1 q s1 e1 st p np => ?_, kx⟩
  obtain ⟨Pv, p0, lv, step, done⟩ := q p (s1.fresh np)
  obtain ⟨G, Y, wk, hG, hY⟩ := st.ex
  have s1' : RelS K (S1.put p (.lst [])) (upd H1 p (.lst [])) := s1.lay np ⟨_, upd_same, .nil⟩
  have e1' : Ext H1 (upd H1 p (.lst [])) := .new np
  refine lc_it wk (fun i H' => ∃ S', RelS K S' H' ∧ Ext H1 H' ∧ Pv i S') ⟨_, s1', e1', p0⟩ (fun i H' hi ⟨S', s', e', p'⟩ => hG H' S' e' s' (lv i S' hi p')) ?_ ?_
  · rintro i x H2 H3 hi ⟨S2, s2, e2, p2⟩ y
    obtain ⟨e3, hS, d, hd, rd⟩ := hY i H2 x H3 e2 y
    have e13 := e1.trans (e2.trans e3)
    refine ⟨d, dwipe env us, S2, _, rd, (rs.ext e13 (hS S2 s2)).wipe us, step i d S2 hd p2, fun env4 S4 σ4 H4 q4 rs4 e4 o4 => ⟨wipe_off o4 hv, env4, S4, _, rs4, q4, fun c S5 H5 q5 s5 e5 => ?_⟩⟩
    cases c with
    | false => exact ⟨S5, s5, e2.trans (e3.trans (e4.trans e5)), q5⟩
    | true =>
      refine ⟨env4, S5, _, rs4.ext e5 s5, q5, fun y S6 v H6 ⟨acc, h1, h2, q6⟩ s6 r6 e6 => ?_⟩
      obtain ⟨vs', h3, h4, s7, e7⟩ := app_rel s6 h1 h2 r6
      exact ⟨vs', h3, h4, _, s7, e2.trans (e3.trans (e4.trans (e5.trans (e6.trans e7)))), q6⟩
  · rintro H2 ⟨S2, s2, e2, p2⟩
    exact k _ _ _ _ (done S2 p2) s2 (.ref p) (e1.trans e2)
theorem dex_lc (hc : X.calm = true) (hN : X.N.Nodup) (hi : DIX X b W tg iter tix) (ok : BlkOk X.N X.env.scope scope own) (hv : ∀ i ∈ vs, i ∈ own.map (·.2))
    (hg : ∀ (s : Shared) (H : Hp) (C : Addr) (cl : List (Str × Addr)) (fp : List Addr), DG (X.blk s H scope (compEnvC scope cl C X.env) fp) b vs tg g) (ht : ∀ (s : Shared) (H : Hp) (C : Addr) (cl : List (Str × Addr)) (fp : List Addr), DTs (X.blk s H scope (compEnvC scope cl C X.env) fp) ifs tt)
    (he : ∀ (s : Shared) (H : Hp) (C : Addr) (cl : List (Str × Addr)) (fp : List Addr), DE (X.blk s H scope (compEnvC scope cl C X.env) fp) elt te) (hs : ∀ x, foldedSetIterable iter X.env x = pure x := by intro _; rfl) :
    DEX X W (.ListComp elt [⟨tg, iter, ifs, 0⟩] scope pos) (dxLc tix g tt te (own.map (·.2))) :=
  ⟨(pe_lc (te := lE X.kk te) hc hN hi.run ok (fun s H C cl fp => (hg s H C cl fp).run) (fun s H C cl fp => (ht s H C cl fp).run) (fun s H C cl fp => (he s H C cl fp).run) hs).of fun _ _ _ => lEX_lc hv⟩
/-- a type of one argument that may raise -/
def dxCB1 (r : DRC) (tx : DXV → DTE) (EX : DXV) : DTE := fun env S R => tx EX env S fun d S1 => r [d] S1 R
theorem dex_callTy {r : DRC} {T : String} {x : Str} (hc : CallR X (.type T) (lC X.kk r)) (hg : Gl X x) (hm : X.mg x = none) (hv : bootBuiltins x = some (.type T)) (ha : DEX X W e tx) (hn : x ≠ "__name__" := by decide) (hdb : (x == ("__debug__" : Str)) = false := by decide)
    (he : starEach [e] X.env = (false, eval e X.env) :: starEach [] X.env := by rfl) (hpl : (backTo pos (starEach ([] : List Expr) X.env)).any (·.1) = false := by rfl) : DEX X W (.Call (.Name x p) [e] [] pos) (dxCB1 r tx) :=
  ⟨(pe_callTy hc hg hm hv (dax_last ha he).run hn hdb he hpl).of fun σ H Q ⟨env, S, R, EX, rs, h, k, kx⟩ => ⟨env, S, (fun ds S1 => r ds S1 R), EX, rs, h, fun ds S1 vs H1 q s1 r1 e1 => ⟨ds, S1, R, r1, s1, q, fun z S' v H' q' s' r' e' => k _ _ _ _ q' s' r' (e1.trans e')⟩, kx⟩⟩
/-- a loop whose body may raise -/
def dxFor (ti : DTI) (g : DTG) (tb : DXV → DTS) (EX : DXV) : DTS := dFor ti g (tb EX)
theorem dsx_for {tg iter : Expr} {body : List Stmt} {tb : DXV → DTS} (hp : PassesOwn (model X.prog X.w) X.A X.env X.xe) (hc : X.calm = true) (hi : DI X b tg iter ti) (hg : DG X b vs tg g) (hb : DSXs X W body tb)
    (hs : ∀ x, foldedSetIterable iter X.env x = pure x := by intro _; rfl) : DSX X W (.For tg iter body [] pos) (dxFor ti g tb) := by
  refine ⟨(ps_for hp hc hi.run hg.run hb.run hs).of fun σ H B ⟨env, S, C, EX, rs, h, ⟨k1, k2, _⟩, kx⟩ => ⟨env, S, _, rs, h, fun w S1 J H1 ⟨Pv, p0, lv, step, done⟩ s1 e1 st => ?_⟩⟩
  obtain ⟨G, Y, wk, hG, hY⟩ := st.ex
  refine for_it wk (fun i σ' H' => ∃ env' S', RS X.kk σ' H' env' S' ∧ Ext H1 H' ∧ Pv i env' S') ⟨env, S1, rs.ext e1 s1, .refl H1, p0⟩ (fun i σ' H' hi ⟨env', S', rs', e', p'⟩ => hG H' S' e' rs'.sto (lv i env' S' hi p')) ?_ ?_
  · rintro i x σ2 H2 H3 hi ⟨env2, S2, rs2, e2, p2⟩ y
    obtain ⟨e3, hS, d, hd, rd⟩ := hY i H2 x H3 e2 y
    refine ⟨d, env2, S2, _, rd, rs2.ext e3 (hS S2 rs2.sto), step i d env2 S2 hd p2, fun env4 S4 σ4 H4 q4 rs4 e4 _ => ⟨env4, S4, _, EX, rs4, q4, ⟨?_, ?_, ?_, ?_⟩, ?_⟩⟩
    · exact fun env' S' σ' H' q' rs' e' => ⟨env', S', rs', e2.trans (e3.trans (e4.trans e')), q'⟩
    · exact fun d S' v H' q' s' r' e' => k2 _ _ _ _ q' s' r' (e1.trans (e2.trans (e3.trans (e4.trans e'))))
    · exact fun env' S' σ' H' q' rs' e' => k1 _ _ _ _ q' rs' (e1.trans (e2.trans (e3.trans (e4.trans e'))))
    · exact fun env' S' σ' H' q' rs' e' => ⟨env', S', rs', e2.trans (e3.trans (e4.trans e')), q'⟩
    · exact fun cn fs env' S' σ' H' cls d q' rs' x' e' => kx _ _ _ _ _ _ _ _ q' rs' x' (e1.trans (e2.trans (e3.trans (e4.trans e'))))
  · rintro σ2 H2 ⟨env2, S2, rs2, e2, p2⟩
    exact k1 _ _ _ _ (done env2 S2 p2) rs2 (e1.trans e2)
end
section
variable {X : Cx} {tg e o : Expr} {te to : DTE} {pos : Pos}
/-- the signs of a text -/
def signD (z : Str) : List D := z.cps.toList.map fun c => D.str ⟨#[c]⟩
def diStr (te : DTE) : DTI := fun env S R => te env S fun d S1 => ∃ z : Str, d = .str z ∧ R ⟨signD z, fun _ => True⟩ S1
theorem signD_len (z : Str) : (signD z).length = z.cps.size := by unfold signD; rw [List.length_map, Array.length_toList]
theorem steps_str {K : KK} {H0 : Hp} {z : Str} : Steps K true H0 (Its z) ⟨signD z, fun _ => True⟩ := by
  refine ⟨fun _ => True, fun i H v H' => H' = H ∧ ∃ c, z.cps[i]? = some c ∧ v = .str ⟨#[c]⟩, ⟨fun i H hi _ => ?_, fun H _ => ?_, fun i H v H' hi _ y => y⟩, fun _ _ _ _ _ => trivial, ?_⟩
  · show i < z.cps.size
    rw [← signD_len]
    exact hi
  · show z.cps.size ≤ (signD z).length
    rw [signD_len]
    exact Nat.le_refl _
  · rintro i H v H' e ⟨rfl, c, hc, rfl⟩
    refine ⟨.refl _, fun S s => s, .str ⟨#[c]⟩, ?_, .inl (.str _)⟩
    show (signD z)[i]? = _
    unfold signD
    rw [List.getElem?_map, Array.getElem?_toList, hc]
    rfl
theorem di_str (he : DE X e te) : DI X true tg e (diStr te) := by
  refine ⟨(pi_str he.run).of fun σ H R ⟨env, S, R0, rs, h, k⟩ => ⟨env, S, _, rs, h, fun d S1 v H1 ⟨z, hz, q⟩ s1 r1 e1 => ?_⟩⟩
  subst hz
  cases r1
  exact ⟨z, rfl, k _ _ _ _ q s1 e1 steps_str⟩
/-- a sign in a text -/
def rInG (n : Bool) : DR2 := fun x y S R => ∃ (c : Nat) (z : Str), x = .str ⟨#[c]⟩ ∧ y = .str z ∧ R (.bl (decide (c ∈ z.cps.toList) ^^ n)) S
theorem o_ninG : OpR X (compareOp .NotIn) (l2 X.kk (rInG true)) := by
  intro pins s σ H x y v u Q I rx ry ⟨d, e, S, R, r1, r2, s1, ⟨c, z, hx, hy, q⟩, k⟩
  subst hx hy
  cases r1
  cases r2
  rw [xor_tt] at q
  exact op_notIn_sign pins s σ H _ _ v u Q I rx ry ⟨c, z, rfl, rfl, k _ _ _ _ q s1 (.bl _) (.refl H)⟩
/-- z[::-1], z a text -/
def revS (z : Str) : Str := ⟨((Builtin.Str.strSliceIndices none none (-1) z.length).filterMap (z.cps[·]?)).toArray⟩
def dRevS (te : DTE) : DTE := fun env S R => te env S fun d S1 => ∃ z : Str, d = .str z ∧ (revS z).length ≤ sizeLine ∧ R (.str (revS z)) S1
theorem de_revS {k : Nat} {p1 p2 p3 : Pos} (he : DE X e te) : DE X (.Subscript e (.Slice none none (some (.UnaryOp .USub (.Constant (.int 1) k p1) p2)) p3) pos) (dRevS te) := by
  refine ⟨⟨fun pins s σ H Q I ⟨env, S, R, rs, hq, kk⟩ => ?_⟩⟩
  refine Subscript_ (thn (he.run.run pins s σ H (fun x H1 => ∃ z : Str, x = .str z ∧ (revS z).length ≤ sizeLine ∧ Q (.str (revS z)) H1) I ⟨env, S, _, rs, hq, fun d S1 v H1 ⟨z, hd, hz, q⟩ s1 r1 e1 => ?_⟩) fun v s1 ⟨x, H1, I1, r1, q1⟩ => ?_)
  · subst hd
    cases r1
    exact ⟨z, rfl, hz, kk _ _ _ _ q s1 (.str _) e1⟩
  obtain ⟨z, ex, hz, q⟩ := q1
  subst ex
  obtain ⟨t, rfl⟩ := r1
  have hst : PO X (some (.UnaryOp .USub (.Constant (.int 1) k p1) p2)) (tPart (tUn (rU fun i => .int (-i)) (tC (.int 1)))) := po_some (pe_un un_neg pe_int)
  refine wpAny_Slice (thn (po_none.run pins s1 σ H1 (fun o H2 => o = none ∧ H2 = H1) I1 ⟨rfl, rfl⟩) fun vl s2 ⟨l, H2, I2, pl, el, e2⟩ => ?_)
  subst el e2
  refine thn (po_none.run pins s2 σ H2 (fun o H3 => o = none ∧ H3 = H2) I2 ⟨rfl, rfl⟩) fun vu s3 ⟨u, H3, I3, pu, eu, e3⟩ => ?_
  subst eu e3
  refine thn (hst.run pins s3 σ H3 (fun o H4 => o = some (-1) ∧ H4 = H3) I3 ⟨1, rfl, -1, rfl, rfl, rfl⟩) fun vs s4 ⟨o, H4, I4, ps, eo, e4⟩ => ?_
  subst eo e4
  have I5 : Inv X pins σ H4 { s4 with heap := s4.heap.push { cls := .type "slice", data := .fields #[vl, vu, vs] } } := I4.kept (t' := s4.toks) fun b ob q => Heap.get?_push_of_some _ q
  obtain ⟨l, rfl, hl⟩ := IsPart.raw pl
  obtain ⟨u, rfl, hu⟩ := IsPart.raw pu
  obtain ⟨w, rfl, hw⟩ := IsPart.raw ps
  show wpAny (model X.prog X.w) X.A (subscriptTail e (.Slice none none (some (.UnaryOp .USub (.Constant (.int 1) k p1) p2)) p3) (.str z t) (.ref s4.heap.objs.size)) (EP X pins σ Q) X.xe _
  refine tail_any (ops := [.str z t, .ref s4.heap.objs.size]) (typeIs_str _ _ _) (F.slot_str_getitem.lookup) ?_ (by with_unfolding_all rfl)
  have e1 : (w.map (·.1)).getD 1 = -1 := by rw [hw]; rfl
  refine wpAny_getItem_str_slice (l := l) (u := u) (st := w) ⟨_, Heap.get?_push_size _ rfl, rfl, rfl⟩ (by rw [e1]; rfl) ?_
  unfold sliceMade
  rw [e1]
  have e2 : slicePicked z l u w = Builtin.Str.strSliceIndices none none (-1) z.length := by
    unfold slicePicked
    rw [hl, hu, hw]
    rfl
  rw [e2, if_neg (by simp)]
  exact ⟨hz, .str _, H4, I5.tok _, ⟨_, rfl⟩, q⟩
end
end Sv
set_option maxHeartbeats 2000000
set_option autoImplicit false
namespace Sv
open PySem PySem.Spec PyProof.Rows L2
section
variable {X : Cx} {e o : Expr} {es : List Expr} {te to : DTE} {tl : DTA} {pos : Pos}
/-- arguments read while a token is out -/
structure DAT (X : Cx) (es : List Expr) (t : DTA) : Prop where
  run : PAT X es (lA X.kk t)
structure DET (X : Cx) (e : Expr) (t : DTE) : Prop where
  run : PET X e (lE X.kk t)
theorem DET.of (h : DE X e te) : DET X e te := ⟨fun pins s σ H Q _ I q => h.run.run pins s σ H Q I q⟩
theorem dat_nil : DAT X [] dNil := ⟨fun pos pins s σ H Q _ I q => da_nil.run.run pos pins s σ H Q I q⟩
theorem dat_cons (ha : DET X e te) (hr : DAT X es tl) (hs : starEach (e :: es) X.env = (false, eval e X.env) :: starEach es X.env := by rfl) : DAT X (e :: es) (dCons te tl) :=
  ⟨fun pos pins s σ H Q h0 I ⟨env, S, R, rs, h, k⟩ => pat_cons ha.run hr.run hs pos pins s σ H Q h0 I ⟨env, S, _, rs, h, fun d S1 v H1 q s1 r1 e1 => ⟨env, S1, _, rs.ext e1 s1, q, fun ds S2 vs H2 q2 s2 r2 e2 => k _ _ _ _ q2 s2 (.cons (r1.ext e2) r2) (e1.trans e2)⟩⟩⟩
/-- a text and a written one: behind them a token is out -/
theorem da_upS {c : Str} {j : Nat} {p1 p2 : Pos} (ha : DE X e te) (hr : DAT X es tl) (hs : starEach (.BinOp e .Add (.Constant (.str c) j p1) p2 :: es) X.env = (false, eval (.BinOp e .Add (.Constant (.str c) j p1) p2) X.env) :: starEach es X.env := by rfl) :
    DA X (.BinOp e .Add (.Constant (.str c) j p1) p2 :: es) (dCons (dBin rAdd te (dC (.str c))) tl) := by
  refine ⟨⟨fun pos pins s σ H Q I ⟨env, S, R, rs, h, k⟩ => ?_⟩⟩
  rw [hs]
  show wpAny _ _ (spliced ((false, eval (.BinOp e .Add (.Constant (.str c) j p1) p2) X.env) :: backTo pos (starEach es X.env))) _ _ s
  have h2 : tOp (l2 X.kk rAdd) (lE X.kk te) (lE X.kk (dC (.str c))) σ H (fun x H1 => lA X.kk tl σ H1 fun xs H2 => Q (x :: xs) H2) :=
    l2_bin ⟨env, S, _, rs, h, fun d S1 v H1 q s1 r1 e1 => ⟨env, S1, _, rs.ext e1 s1, q, fun ds S2 vs H2 q2 s2 r2 e2 => k _ _ _ _ q2 s2 (.cons (r1.ext e2) r2) (e1.trans e2)⟩⟩
  refine Calls.spliced_cons (wpAny_BinOp (thn (ha.run.run pins s σ H _ I h2) fun v s1 ⟨x, H1, I1, r1, q1⟩ => Calls.Constant_str ?_))
  obtain ⟨env', S', R', rs', q', k'⟩ := q1
  have q2 := k' _ _ _ _ q' rs'.sto (.str c) (.refl H1)
  refine wpAny_mono (PySem.wpAny_toks_of (n := 1) (show 1 ≤ s1.toks + 1 by omega) (o_add pins _ σ H1 x (.str c) v (.str c s1.toks) _ (I1.tok (s1.toks + 1)) r1 ⟨s1.toks, rfl⟩ q2)) (fun r s3 ⟨hk, hq⟩ => ?_) fun _ _ z => z.2
  obtain ⟨z, H3, I3, r3, q3⟩ := hq
  exact thn (hr.run pos pins s3 σ H3 _ hk I3 q3) fun us s4 ⟨xs, H4, I4, r4, q4⟩ => ⟨z :: xs, H4, I4, .cons r3 r4, q4⟩
def dRepl (y z : Str) (to : DTE) : DTE := fun env S R => to env S fun d S1 => ∃ x : Str, d = .str x ∧ x.length + (x.length + 1) * z.length ≤ 16777216 ∧ R (.str (Txt.replace x y z)) S1
theorem de_repl {y z : Str} {j0 j1 : Nat} {c0 c1 apos : Pos} (ho : DE X o to) (hyz : (y == z) = false := by decide) (hst : starEach [.Constant (.str y) j0 c0, .Constant (.str z) j1 c1] X.env = [(false, eval (.Constant (.str y) j0 c0) X.env), (false, eval (.Constant (.str z) j1 c1) X.env)] := by rfl)
    (hbase : attributeBase o "replace" X.env (eval o X.env) = eval o X.env := by rfl) (hline : (apos.endLine == pos.line) = true := by rfl) :
    DET X (.Call (.Attribute o "replace" apos) [.Constant (.str y) j0 c0, .Constant (.str z) j1 c1] [] pos) (dRepl y z to) := by
  refine ⟨fun pins s σ H Q h0 I ⟨env, S, R, rs, h, k⟩ => ?_⟩
  refine PySem.Call_method2 hbase hst hline (wpAny_mono (PySem.wpAny_toks_of (n := 1) h0 (ho.run.run pins s σ H (fun d H1 => ∃ x : Str, d = .str x ∧ x.length + (x.length + 1) * z.length ≤ 16777216 ∧ Q (.str (Txt.replace x y z)) H1) I ⟨env, S, _, rs, h, fun d S1 v H1 ⟨x, hx, hb, q⟩ s1 r1 e1 => ?_⟩)) (fun v s1 ⟨hk, hv⟩ => ?_) fun _ _ z => z.2)
  · subst hx
    cases r1
    exact ⟨x, rfl, hb, k _ _ _ _ q s1 (.str _) e1⟩
  obtain ⟨d, H1, I1, r1, x, hx, hb, q⟩ := hv
  subst hx
  obtain ⟨t, rfl⟩ := r1
  refine ⟨"str", _, F.plainAttrs_str, F.slot_str_replace, F.type_str_replace, typeIs_str _ _ _, (fun _ e => nomatch e), Calls.callWith_builtin rfl (Calls.evalArgs_plain (Calls.spliced_cons (Calls.Constant_str (Calls.spliced_cons (Calls.Constant_str (Calls.spliced_nil ?_))))))⟩
  exact PySem.SC.replace (show s1.toks ≠ 0 by omega) (show s1.toks + 1 ≠ 0 by omega) (show s1.toks ≠ s1.toks + 1 by omega) hyz hb fun t' k' => ⟨.str (Txt.replace x y z), H1, I1.tok k', ⟨t', rfl⟩, q⟩
end
end Sv
namespace Sv
open PySem L2
/-- _law_number_in: 0 _law_word 1 _law_most 2 _law_sign -/
def B_law_number_in_d447 : DTS := dSeq (dIfS (dOr (dB (dBin (rEqq false) (dVar 0) (dC (.str "")))) (dOr (dB (dBin (rCmp fun i j => decide (j < i)) (dCB rLenT (dCons (dVar 0) (dNil))) (dVar 1))) (dB (dBin (rEqq true) (dLc (diStr (dVar 0)) (dgName 2) (dB (dBin (rInG true) (dVar 2) (dC (.str "0123456789")))) (dVar 2) [2]) (dLst (dNil)))))) (dRet (dC .non)) (dNext))
  (dRet (dIf (dAnd (dB (dBin (rEqq false) (dBin rIxS2 (dVar 0) (dC (.int 0))) (dC (.str "0")))) (dB (dBin (rEqq true) (dVar 0) (dC (.str "0"))))) (dC .non) (dCB rIntS (dCons (dVar 0) (dNil)))))
/-- _law_event_in: 0 _law_word 1 _law_number -/
def B_law_event_in_1ebf : DTS := dSeq (dIfS (dB (dBin (rEqq false) (dVar 0) (dC (.str ".")))) (dRet (dC (.int 0))) (dNext))
  (dSeq (dAsg (dCall 2 (dFn 3 B_law_number_in_d447) (dCons (dSlS (dVar 0) (dPart (dC (.int 1))) (dNoP)) (dCons (dC (.int 2)) (dNil)))) (dgName 1))
  (dSeq (dIfS (dOr (dB (dBin (rInq true) (dSlS (dVar 0) (dNoP) (dPart (dC (.int 1)))) (dLst (dCons (dC (.str "+")) (dCons (dC (.str "-")) (dNil)))))) (dOr (dB (dIsN (dVar 1))) (dNot (dB (dChain (rCmp fun i j => decide (i ≤ j)) (rCmp fun i j => decide (i ≤ j)) (dC (.int 1)) (dVar 1) (dC (.int 24))))))) (dRet (dC .non)) (dNext))
  (dRet (dIf (dB (dBin (rEqq false) (dBin rIxS2 (dVar 0) (dC (.int 0))) (dC (.str "+")))) (dVar 1) (dBin rSub (dC (.int 0)) (dVar 1))))))
/-- _law_due: 0 _law_value 1 _law_words 2 _law_rows 3 _law_row 4 _law_closed 5 _law_index 6 _law_word 7 _law_event 8 _law_error -/
def B_law_due_dd10 : DTS := dSeq (dIfS (dNot (dB (dCB rIsi (dCons (dVar 0) (dCons (dC (.ty "str")) (dNil)))))) (dRet (dLst (dCons (dC (.str "wrong")) (dCons (dC .non) (dNil))))) (dNext))
  (dSeq (dAsg (dTup (dCons (dSplit (dVar 0) (dC (.str " "))) (dCons (dLst (dNil)) (dCons (dLst (dNil)) (dCons (dC (.bl false)) (dNil)))))) (dUnp 4 (dgCons (dgName 1) (dgCons (dgName 2) (dgCons (dgName 3) (dgCons (dgName 4) (dgNil)))))))
  (dSeq (dFor (diEnum (dCons (dVar 1) (dNil))) (dUnp 2 (dgCons (dgName 5) (dgCons (dgName 6) (dgNil)))) (dSeq (dAsg (dCall 1 (dFn 2 B_law_event_in_1ebf) (dCons (dVar 6) (dNil))) (dgName 7))
  (dIfS (dAnd (dB (dBin (rEqq false) (dVar 6) (dC (.str "|")))) (dOr (dB (dBin (rEqq true) (dVar 3) (dLst (dNil)))) (dB (dVar 4)))) (dSeq (dDrop (dMtq "list" mAppend (dVar 2) (dCons (dCB (rTupq) (dCons (dVar 3) (dNil))) (dNil))))
  (dAsg (dTup (dCons (dLst (dNil)) (dCons (dC (.bl false)) (dNil)))) (dUnp 2 (dgCons (dgName 3) (dgCons (dgName 4) (dgNil)))))) (dIfS (dAnd (dB (dBin (rEqq false) (dVar 6) (dC (.str "_")))) (dAnd (dB (dBin (rEqq false) (dVar 3) (dLst (dNil)))) (dNot (dB (dVar 4))))) (dAsg (dC (.bl true)) (dgName 4)) (dIfS (dAnd (dB (dNotN (dVar 7))) (dNot (dB (dVar 4)))) (dDrop (dMtq "list" mAppend (dVar 3) (dCons (dVar 7) (dNil)))) (dRet (dLst (dCons (dC (.str "wrong")) (dCons (dVar 5) (dNil))))))))))
  (dSeq (dIfS (dAnd (dB (dBin (rEqq false) (dVar 3) (dLst (dNil)))) (dNot (dB (dVar 4)))) (dRet (dLst (dCons (dC (.str "wrong")) (dCons (dCB (rLen) (dCons (dVar 1) (dNil))) (dNil))))) (dNext))
  (dSeq (dAsg (dCB (rTupq) (dCons (dBin rAdd (dVar 2) (dLst (dCons (dCB (rTupq) (dCons (dVar 3) (dNil))) (dNil)))) (dNil))) (dgName 2))
  (dSeq (dAsg (dCall 1 (dFn 1 B_history_error_d6f4) (dCons (dVar 2) (dNil))) (dgName 8))
  (dRet (dIf (dB (dIsN (dVar 8))) (dLst (dCons (dC (.str "value")) (dCons (dVar 2) (dNil)))) (dLst (dCons (dC (.str "rows")) (dCons (dVar 8) (dNil)))))))))))
/-- rows_of_words: 0 words 1 rows 2 index 3 word -/
def B_rows_of_words_6edf : DXV → DTS := fun EX => dSeq (dAsg (dLst (dCons (dLst (dNil)) (dNil))) (dgName 1))
  (dSeq (dxFor (diEnum (dCons (dVar 0) (dNil))) (dUnp 2 (dgCons (dgName 2) (dgCons (dgName 3) (dgNil)))) (fun EX => dSeq (dIfS (dNot (dB (dCall 2 (dFn 2 B_can_follow_f9d7) (dCons (dBin rIxq (dVar 1) (dUn rNeg (dC (.int 1)))) (dCons (dVar 3) (dNil)))))) (dRaise EX "BadText" ["index"] (dCons (dVar 2) (dNil))) (dNext))
  (dIfS (dB (dBin (rEqq false) (dVar 3) (dC (.str "|")))) (dDrop (dMtq "list" mAppend (dVar 1) (dCons (dLst (dNil)) (dNil)))) (dDrop (dMtq "list" mAppend (dBin rIxq (dVar 1) (dUn rNeg (dC (.int 1)))) (dCons (dVar 3) (dNil)))))) EX)
  (dSeq (dIfS (dB (dBin (rEqq false) (dCB (rLen) (dCons (dBin rIxq (dVar 1) (dUn rNeg (dC (.int 1)))) (dNil))) (dC (.int 0)))) (dRaise EX "BadText" ["index"] (dCons (dCB (rLen) (dCons (dVar 0) (dNil))) (dNil))) (dNext))
  (dRet (dVar 1))))
/-- parse_history: 0 value 1 rows 2 error 3 words -/
def B_parse_history_f38e : DXV → DTS := fun EX => dSeq (dIfS (dNot (dB (dCB rIsi (dCons (dVar 0) (dCons (dC (.ty "str")) (dNil)))))) (dRaise EX "BadText" ["index"] (dCons (dC .non) (dNil))) (dNext))
  (dSeq (dAsg (dxCB1 rTupq (fun EX => dxLc (dixVal (fun EX => dCBX (fun EX ds S R => ds.length = 1 ∧ dFnX 4 B_rows_of_words_6edf EX ds S R) (dCons (dCall 1 (dFn 1 B_words_of_9073) (dCons (dVar 0) (dNil))) (dNil)) EX)) (dgName 3) (dYes) (dCall 1 (dFn 2 B_row_of_e8a1) (dCons (dVar 3) (dNil))) [3] EX) EX) (dgName 1))
  (dSeq (dAsg (dCall 1 (dFn 1 B_history_error_d6f4) (dCons (dVar 1) (dNil))) (dgName 2))
  (dSeq (dIfS (dB (dNotN (dVar 2))) (dRaise EX "BadHistory" ["error"] (dCons (dVar 2) (dNil))) (dNext))
  (dRet (dVar 1)))))
/-- _law_told: 0 _law_value 1 _law_found 2 e -/
def B_law_told_75e9 : DTS := dSeq (dAsg (dC .non) (dgName 1))
  (dSeq (dTryAs 2 [("BadHistory", true), ("BadText", true)] (fun EX => dAsg (dXLst (fun EX => fun env S R => (dC (.str "value")) env S fun d S1 => (fun env S R => (dCBX (fun EX ds S R => ds.length = 1 ∧ dFnX 4 B_parse_history_f38e EX ds S R) (dCons (dVar 0) (dNil)) EX) env S fun d S1 => R [d] S1) env S1 fun ds S2 => R (d :: ds) S2) EX) (dgName 1)) (xAsgL 1 (xConsC (.str "other") (xConsC .non (xNil))) (xIf (xAnd (xIs [("BadHistory", false), ("BadText", true)]) (xNot (xIs2 [("BadHistory", true), ("BadText", false)] [("BadHistory", false), ("BadText", false)]))) (xAsgL 1 (xConsC (.str "wrong") (xConsF "BadText" "index" (xNil))) (fun _ _ => dNext)) (xIf (xAnd (xIs [("BadHistory", true), ("BadText", false)]) (xNot (xIs2 [("BadHistory", false), ("BadText", true)] [("BadHistory", false), ("BadText", false)]))) (xAsgL 1 (xConsC (.str "rows") (xConsF "BadHistory" "error" (xNil))) (fun _ _ => dNext)) (fun _ _ => dNext)))))
  (dRet (dVar 1)))
/-- _law_spoilt: 0 _law_state_here 1 _law_word 2 _law_at 3 _law_sign 4 _law_parts 5 _law_k 6 _law_some -/
def B_law_spoilt_0b62 : DTS := dSeq (dAsg (dCall 2 (dFn 5 B_law_draw_a332) (dCons (dVar 0) (dCons (dBin rAdd (dCB rLenT (dCons (dVar 1) (dNil))) (dC (.int 1))) (dNil)))) (dgName 2))
  (dSeq (dAsg (dBin rIxS2 (dC (.str " 0129+-._|:x\n")) (dCall 2 (dFn 5 B_law_draw_a332) (dCons (dVar 0) (dCons (dC (.int 13)) (dNil))))) (dgName 3))
  (dSeq (dAsg (dSplit (dVar 1) (dC (.str " "))) (dgName 4))
  (dSeq (dAsg (dCall 2 (dFn 5 B_law_draw_a332) (dCons (dVar 0) (dCons (dCB (rLen) (dCons (dVar 4) (dNil))) (dNil)))) (dgName 5))
  (dSeq (dAsg (dLst (dCons (dBin rAdd (dBin rAdd (dSlS (dVar 1) (dNoP) (dPart (dVar 2))) (dVar 3)) (dSlS (dVar 1) (dPart (dVar 2)) (dNoP))) (dCons (dBin rAdd (dBin rAdd (dSlS (dVar 1) (dNoP) (dPart (dVar 2))) (dVar 3)) (dSlS (dVar 1) (dPart (dBin rAdd (dVar 2) (dC (.int 1)))) (dNoP))) (dCons (dBin rAdd (dSlS (dVar 1) (dNoP) (dPart (dVar 2))) (dSlS (dVar 1) (dPart (dBin rAdd (dVar 2) (dC (.int 1)))) (dNoP))) (dCons (dSlS (dVar 1) (dNoP) (dPart (dVar 2))) (dNil)))))) (dgName 6))
  (dSeq (dAsg (dBin rAdd (dVar 6) (dLst (dCons (dJoin (dC (.str " ")) (dBin rAdd (dSl (dVar 4) (dNoP) (dPart (dVar 5))) (dSl (dVar 4) (dPart (dBin rAdd (dVar 5) (dC (.int 1)))) (dNoP)))) (dCons (dJoin (dC (.str " ")) (dBin rAdd (dSl (dVar 4) (dNoP) (dPart (dBin rAdd (dVar 5) (dC (.int 1))))) (dSl (dVar 4) (dPart (dVar 5)) (dNoP)))) (dCons (dBin rAdd (dVar 1) (dC (.str "\n"))) (dCons (dBin rAdd (dC (.str " ")) (dVar 1)) (dNil))))))) (dgName 6))
  (dSeq (dAsg (dBin rAdd (dVar 6) (dLst (dCons (dBin rAdd (dVar 1) (dC (.str " "))) (dCons (dJoin (dC (.str " ")) (dBin rAdd (dBin rAdd (dSl (dVar 4) (dNoP) (dPart (dVar 5))) (dLst (dCons (dC (.str "_")) (dNil)))) (dSl (dVar 4) (dPart (dBin rAdd (dVar 5) (dC (.int 1)))) (dNoP)))) (dCons (dRepl " " "  " (dVar 1)) (dCons (dRevS (dVar 1)) (dNil))))))) (dgName 6))
  (dRet (dBin rIxq (dBin rAdd (dVar 6) (dLst (dCons (dJoin (dC (.str " ")) (dBin rAdd (dBin rAdd (dSl (dVar 4) (dNoP) (dPart (dVar 5))) (dLst (dCons (dC (.str "|")) (dNil)))) (dSl (dVar 4) (dPart (dVar 5)) (dNoP)))) (dNil)))) (dCall 2 (dFn 5 B_law_draw_a332) (dCons (dVar 0) (dCons (dC (.int 13)) (dNil))))))))))))
/-- law: 0 _law_script 1 _law_state_here 2 _law_fixed 3 _law_value 4 _law_turn 5 _law_word 6 _law_k -/
def B_law_4b1d : DTS := dSeq (dAsg (dCall 1 (dFn 3 B_law_state_64d4) (dCons (dVar 0) (dNil))) (dgName 1))
  (dSeq (dAsg (dLst (dCons (dC (.str "")) (dCons (dC (.str " ")) (dCons (dC (.str "_")) (dCons (dC (.str "_ _")) (dCons (dC (.str "_ |")) (dCons (dC (.str "| _")) (dCons (dC (.str "_ | _")) (dCons (dC (.str ". _")) (dCons (dC (.str "_ .")) (dCons (dC (.str "+1")) (dCons (dC (.str "-1")) (dCons (dC (.str "+0")) (dCons (dC (.str "+01")) (dCons (dC (.str "+25")) (dCons (dC (.str "++1")) (dNil))))))))))))))))) (dgName 2))
  (dSeq (dAsg (dBin rAdd (dVar 2) (dLst (dCons (dC (.str "+-1")) (dCons (dC (.str "1")) (dCons (dC (.str "+_")) (dCons (dC (.str "+1_0")) (dNil))))))) (dgName 2))
  (dSeq (dAsg (dBin rAdd (dVar 2) (dLst (dCons (dC (.str "+1 | -1")) (dCons (dC (.str "+1 -1")) (dCons (dC (.str "+1 | +1")) (dCons (dC (.str "-1 +2 | -2 +1")) (dCons (dC (.str ".|.")) (dCons (dC (.str ". | . ")) (dCons (dC (.str "+1_ | -1")) (dNil)))))))))) (dgName 2))
  (dSeq (dDrop (dMtq "list" mAppend (dVar 2) (dCons (dC (.str "_ | _ | _ | _ | _ | _")) (dNil))))
  (dSeq (dAsg (dBin rAdd (dVar 2) (dLst (dCons (dC (.str "_ | _ | _ | _ | _ | _ | _")) (dCons (dJoin (dC (.str " ")) (dBin rMul (dLst (dCons (dC (.str ".")) (dNil))) (dC (.int 60)))) (dCons (dJoin (dC (.str " ")) (dBin rMul (dLst (dCons (dC (.str ".")) (dNil))) (dC (.int 61)))) (dCons (dC (.str ". | +1 | -2 -1")) (dNil))))))) (dgName 2))
  (dSeq (dFor (diVal (dBin rAdd (dVar 2) (dLst (dCons (dC .non) (dCons (dC (.int 0)) (dCons (dC (.bl true)) (dCons (dTup (dNil)) (dCons (dLst (dNil)) (dCons (dDNew) (dCons (dTup (dCons (dTup (dCons (dC (.int 0)) (dNil))) (dNil))) (dCons (dCall 1 (dFn 2 B_law_odd_0f51) (dCons (dVar 1) (dNil))) (dNil)))))))))))) (dgName 3) (dIfS (dNot (dB (dCall 2 (dFn 2 B_law_same_de9b) (dCons (dCall 1 (dFn 3 B_law_told_75e9) (dCons (dVar 3) (dNil))) (dCons (dCall 1 (dFn 9 B_law_due_dd10) (dCons (dVar 3) (dNil))) (dNil)))))) (dRet (dC (.bl false))) (dNext)))
  (dSeq (dFor (diRg1 (dCons (dC (.int 3)) (dNil))) (dgName 4) (dSeq (dAsg (dCall 1 (dFn 4 B_law_history_text_6ea4) (dCons (dCall 3 (dFn 15 B_law_history_6dd1) (dCons (dVar 1) (dCons (dC (.int 6)) (dCons (dC (.int 30)) (dNil))))) (dNil))) (dgName 5))
  (dFor (diRg1 (dCons (dC (.int 12)) (dNil))) (dgName 6) (dSeq (dAsg (dCall 2 (dFn 7 B_law_spoilt_0b62) (dCons (dVar 1) (dCons (dVar 5) (dNil)))) (dgName 3))
  (dSeq (dIfS (dB (dBin (rEqq false) (dCall 2 (dFn 5 B_law_draw_a332) (dCons (dVar 1) (dCons (dC (.int 2)) (dNil)))) (dC (.int 0)))) (dAsg (dCall 2 (dFn 7 B_law_spoilt_0b62) (dCons (dVar 1) (dCons (dVar 3) (dNil)))) (dgName 3)) (dNext))
  (dIfS (dNot (dB (dCall 2 (dFn 2 B_law_same_de9b) (dCons (dCall 1 (dFn 3 B_law_told_75e9) (dCons (dVar 3) (dNil))) (dCons (dCall 1 (dFn 9 B_law_due_dd10) (dCons (dVar 3) (dNil))) (dNil)))))) (dRet (dC (.bl false))) (dNext)))))))
  (dRet (dC (.bl true))))))))))
end Sv
namespace Sv
open PySem PySem.Spec PyProof.Rows L2
def topS (i : Nat) : Stmt := PySem.Challenge.pw_savelines_k82_history_texts_that_are_wro.main.body.getD i (.Pass ⟨0, 0, 0, 0⟩)
abbrev s_BadText____init__ : Stmt := (clsB (topS 6)).getD 0 (.Pass ⟨0, 0, 0, 0⟩)
theorem sc_BadText____init__ : FnScope ["self", "index"] ["self", "index"] (defScope s_BadText____init__) := ⟨rfl, rfl, rfl, by decide +kernel, rfl, by decide +kernel, by decide +kernel⟩
theorem derX_BadText {P : Program} {w : World} {K : PySem.W.Frag} {mg : Str → Option Value} {base : Heap} {C f : Addr} {fd : FuncData} (F : Fun K "__init__" "BadText.__init__" s_BadText____init__ f fd) (T : OexC K C) (n_index : PySem.W.findIn K (.ref C) "index" = some none) : FnOk P w K mg base CX0 1 f fd ["self", "index"] (spX1 C "index") := fn_x1 F sc_BadText____init__ T n_index rfl (Or.inl rfl) (Or.inl rfl)
abbrev s_BadHistory____init__ : Stmt := (clsB (topS 7)).getD 0 (.Pass ⟨0, 0, 0, 0⟩)
theorem sc_BadHistory____init__ : FnScope ["self", "error"] ["self", "error"] (defScope s_BadHistory____init__) := ⟨rfl, rfl, rfl, by decide +kernel, rfl, by decide +kernel, by decide +kernel⟩
theorem derX_BadHistory {P : Program} {w : World} {K : PySem.W.Frag} {mg : Str → Option Value} {base : Heap} {C f : Addr} {fd : FuncData} (F : Fun K "__init__" "BadHistory.__init__" s_BadHistory____init__ f fd) (T : OexC K C) (n_error : PySem.W.findIn K (.ref C) "error" = some none) : FnOk P w K mg base CX0 1 f fd ["self", "error"] (spX1 C "error") := fn_x1 F sc_BadHistory____init__ T n_error rfl (Or.inl rfl) (Or.inl rfl)
abbrev s__law_same : Stmt := topS 41
theorem sc__law_same : FnScope ["_law_found", "_law_due_here"] ["_law_found", "_law_due_here"] (defScope s__law_same) := ⟨rfl, rfl, rfl, by decide +kernel, rfl, by decide +kernel, by decide +kernel⟩
set_option maxHeartbeats 4000000 in
theorem der__law_same {P : Program} {w : World} {K : PySem.W.Frag} {mg : Str → Option Value} {base : Heap} {f : Addr} {fd : FuncData} (F : Fun K "_law_same" "_law_same" s__law_same f fd)  (m_repr : mg "repr" = none): FnG P w K mg base 1 f fd ["_law_found", "_law_due_here"] (lP ⟨P, w, K⟩ 2 (dFn 2 B_law_same_de9b)) := by
  refine fn_d F sc__law_same rfl fun cdv A outer s H E hg hr => ?_
  have nd := sc__law_same.nd
  have u64 := hr.units
  have u65 : (A.deeper (envOfC "_law_same" (defScope s__law_same) s.heap.objs.size f cdv)).units + 65 < cLine := by have := hr.un; omega
  have u1 : (A.deeper (envOfC "_law_same" (defScope s__law_same) s.heap.objs.size f cdv)).units + 1 < cLine := by have := hr.un; omega
  unfold B_law_same_de9b
  exact dss_one (ds_ret (de_cmp (o_eq u64) (de_callB (b_reprX hg u64) (by rfl) m_repr (by decide +kernel) (da_cons (dv 0) (da_nil))) (de_callB (b_reprX hg u64) (by rfl) m_repr (by decide +kernel) (da_cons (dv 1) (da_nil)))))
abbrev s_event_count : Stmt := topS 18
theorem sc_event_count : FnScope ["rows", "row"] ["rows"] (defScope s_event_count) := ⟨rfl, rfl, rfl, by decide +kernel, rfl, by decide +kernel, by decide +kernel⟩
set_option maxHeartbeats 4000000 in
theorem der_event_count {P : Program} {w : World} {K : PySem.W.Frag} {mg : Str → Option Value} {base : Heap} {f : Addr} {fd : FuncData} (F : Fun K "event_count" "event_count" s_event_count f fd)  (m_len : mg "len" = none) (m_sum : mg "sum" = none): FnOk P w K mg base CX0 1 f fd ["rows"] (lP ⟨P, w, K⟩ 1 (dFn 2 B_event_count_1213)) := by
  refine fn_o F sc_event_count rfl fun cdv A outer s H E hr => ?_
  have nd := sc_event_count.nd
  have u64 := hr.units
  have u65 : (A.deeper (envOfC "event_count" (defScope s_event_count) s.heap.objs.size f cdv)).units + 65 < cLine := by have := hr.un; omega
  have u1 : (A.deeper (envOfC "event_count" (defScope s_event_count) s.heap.objs.size f cdv)).units + 1 < cLine := by have := hr.un; omega
  unfold B_event_count_1213
  exact dss_one (ds_ret (de_callB (b_sum rfl) (by rfl) m_sum (by decide +kernel) (da_cons (de_lc (own := [("row", 1)]) rfl nd (di_val (dv 0)) (blkOk_by (by first | decide +kernel | rfl)) (by decide) (fun _ _ _ _ _ => dg_name (i := 1) nd rfl (by first | exact .inl rfl | exact .inr rfl)) (fun _ _ _ _ _ => dts_nil) (fun _ _ _ _ _ => de_callB b_len (by rfl) m_len PySem.boot_len (da_cons (dv 1) (da_nil)))) (da_nil))))
abbrev s_shape_error : Stmt := topS 13
theorem sc_shape_error : FnScope ["value", "process", "row"] ["value"] (defScope s_shape_error) := ⟨rfl, rfl, rfl, by decide +kernel, rfl, by decide +kernel, by decide +kernel⟩
set_option maxHeartbeats 4000000 in
theorem der_shape_error {P : Program} {w : World} {K : PySem.W.Frag} {mg : Str → Option Value} {base : Heap} {f : Addr} {fd : FuncData} (F : Fun K "shape_error" "shape_error" s_shape_error f fd) (D_event_count : DFo P w K mg base 1 "event_count" 1 (dFn 2 B_event_count_1213)) (m_enumerate : mg "enumerate" = none) (m_tuple : mg "tuple" = none) (m_isinstance : mg "isinstance" = none) (m_len : mg "len" = none) {t_MAX_EVENTS : Tok} (hc_MAX_EVENTS : mg "MAX_EVENTS" = some (.int 60 t_MAX_EVENTS)) {t_MAX_PROCESSES : Tok} (hc_MAX_PROCESSES : mg "MAX_PROCESSES" = some (.int 6 t_MAX_PROCESSES)): FnOk P w K mg base CX0 2 f fd ["value"] (lP ⟨P, w, K⟩ 1 (dFn 3 B_shape_error_72a0)) := by
  refine fn_o F sc_shape_error rfl fun cdv A outer s H E hr => ?_
  have nd := sc_shape_error.nd
  have u64 := hr.units
  have u65 : (A.deeper (envOfC "shape_error" (defScope s_shape_error) s.heap.objs.size f cdv)).units + 65 < cLine := by have := hr.un; omega
  have u1 : (A.deeper (envOfC "shape_error" (defScope s_shape_error) s.heap.objs.size f cdv)).units + 1 < cLine := by have := hr.un; omega
  unfold B_shape_error_72a0
  exact dss_cons (ds_if (DW.dt (dw_or (dt_not (dt_val (de_callB b_isi (by rfl) m_isinstance (by decide +kernel) (da_cons (dv 0) (da_cons (de_ty (by rfl) m_tuple (by decide +kernel)) (da_nil)))))) (dw_or1 (dt_not (dt_chain o_le o_le (de_int) (de_callB b_len (by rfl) m_len PySem.boot_len (da_cons (dv 0) (da_nil))) (de_num (by rfl) hc_MAX_PROCESSES)))))) (dss_one (ds_ret (de_tup (da_cons (de_str) (da_nil))))) (dss_nil))
    (dss_cons (ds_for PassesOwn.never rfl (di_enum (by rfl) m_enumerate (da_cons (dv 0) (da_nil))) (dg_tup rfl (dgs_cons (dg_name (i := 1) nd rfl (by first | exact .inl rfl | exact .inr rfl)) (dgs_cons (dg_name (i := 2) nd rfl (by first | exact .inl rfl | exact .inr rfl)) (dgs_nil)))) (dss_one (ds_if (dt_not (dt_val (de_callB b_isi (by rfl) m_isinstance (by decide +kernel) (da_cons (dv 2) (da_cons (de_ty (by rfl) m_tuple (by decide +kernel)) (da_nil)))))) (dss_one (ds_ret (de_tup (da_cons (de_str) (da_cons (dv 1) (da_nil)))))) (dss_nil))))
    (dss_cons (ds_if (dt_cmp o_gt (de_callo D_event_count (hr.mono (by decide)) (by rfl) (da_cons (dv 0) (da_nil))) (de_num (by rfl) hc_MAX_EVENTS)) (dss_one (ds_ret (de_tup (da_cons (de_str) (da_nil))))) (dss_nil))
    (dss_one (ds_ret (de_non)))))
abbrev s_placed_events : Stmt := topS 19
theorem sc_placed_events : GScope ["rows", "process", "row", "place", "event"] ["rows"] (defScope s_placed_events) := ⟨rfl, rfl, rfl, by decide +kernel, rfl, by decide +kernel, by decide +kernel⟩
set_option maxHeartbeats 4000000 in
theorem der_placed_events {P : Program} {w : World} {K : PySem.W.Frag} {mg : Str → Option Value} {base : Heap} {f : Addr} {fd : FuncData} (F : Fun K "placed_events" "placed_events" s_placed_events f fd)  (m_enumerate : mg "enumerate" = none) (hb : Binds K fd ["rows"] []) : GMk P w K mg base 0 f (dGfn 1 5 B_placed_events_e217) := by
  have nd := sc_placed_events.nd
  refine gmk_of F sc_placed_events rfl (by decide +kernel) hb (fun _ _ => rfl) fun g hg G out => ?_
  obtain ⟨P', w', K', mg', base', N', q', sc', f', cdv, L, k'⟩ := g
  obtain ⟨h1, h2, h3, h4, h5, h6, h7, h8, h9, h10⟩ := hg
  dsimp only at h1 h2 h3 h4 h5 h6 h7 h8 h9 h10
  subst h1 h2 h3 h4 h5 h6 h7 h8 h9 h10
  have ux : ∀ {A : Around} (j : Nat), j < 200 → Room 0 A → A.units + j < cLine := fun j hj hr => by have := hr.un; omega
  unfold B_placed_events_e217
  exact dj_cons (dj_for G (fun w E => by have hr : Room 0 _ := E.cv; have u64 := hr.units; have u65 := ux 65 (by omega) hr; have u1 := ux 1 (by omega) hr; exact (di_enT (by rfl) m_enumerate (da_cons (dv 0) (da_nil)))) (fun w E => by have hr : Room 0 _ := E.cv; have u64 := hr.units; have u65 := ux 65 (by omega) hr; have u1 := ux 1 (by omega) hr; exact (dg_tup rfl (dgs_cons (dg_name (i := 1) nd rfl (by first | exact .inl rfl | exact .inr rfl)) (dgs_cons (dg_name (i := 2) nd rfl (by first | exact .inl rfl | exact .inr rfl)) (dgs_nil))))) (dj_cons (dj_for G (fun w E => by have hr : Room 0 _ := E.cv; have u64 := hr.units; have u65 := ux 65 (by omega) hr; have u1 := ux 1 (by omega) hr; exact (di_enT (by rfl) m_enumerate (da_cons (dv 2) (da_nil)))) (fun w E => by have hr : Room 0 _ := E.cv; have u64 := hr.units; have u65 := ux 65 (by omega) hr; have u1 := ux 1 (by omega) hr; exact (dg_tup rfl (dgs_cons (dg_name (i := 3) nd rfl (by first | exact .inl rfl | exact .inr rfl)) (dgs_cons (dg_name (i := 4) nd rfl (by first | exact .inl rfl | exact .inr rfl)) (dgs_nil))))) (dj_cons (dj_yield G (fun w E => by have hr : Room 0 _ := E.cv; have u64 := hr.units; have u65 := ux 65 (by omega) hr; have u1 := ux 1 (by omega) hr; exact (de_tup (da_cons (dv 1) (da_cons (dv 3) (da_cons (dv 4) (da_nil)))))))
    (dj_nil)))
    (dj_nil)))
    (dj_nil)
abbrev s_is_number : Stmt := topS 9
theorem sc_is_number : FnScope ["value"] ["value"] (defScope s_is_number) := ⟨rfl, rfl, rfl, by decide +kernel, rfl, by decide +kernel, by decide +kernel⟩
set_option maxHeartbeats 4000000 in
theorem der_is_number {P : Program} {w : World} {K : PySem.W.Frag} {mg : Str → Option Value} {base : Heap} {f : Addr} {fd : FuncData} (F : Fun K "is_number" "is_number" s_is_number f fd)  (m_int : mg "int" = none) (m_isinstance : mg "isinstance" = none) (m_bool : mg "bool" = none): FnOk P w K mg base CX0 1 f fd ["value"] (lP ⟨P, w, K⟩ 1 (dFn 1 B_is_number_52f5)) := by
  refine fn_o F sc_is_number rfl fun cdv A outer s H E hr => ?_
  have nd := sc_is_number.nd
  have u64 := hr.units
  have u65 : (A.deeper (envOfC "is_number" (defScope s_is_number) s.heap.objs.size f cdv)).units + 65 < cLine := by have := hr.un; omega
  have u1 : (A.deeper (envOfC "is_number" (defScope s_is_number) s.heap.objs.size f cdv)).units + 1 < cLine := by have := hr.un; omega
  unfold B_is_number_52f5
  exact dss_one (ds_ret (de_and (de_callB b_isi (by rfl) m_isinstance (by decide +kernel) (da_cons (dv 0) (da_cons (de_ty (by rfl) m_int (by decide +kernel)) (da_nil)))) (de_one (de_not (de_callB b_isi (by rfl) m_isinstance (by decide +kernel) (da_cons (dv 0) (da_cons (de_ty (by rfl) m_bool (by decide +kernel)) (da_nil))))))))
abbrev s_is_number_within : Stmt := topS 10
theorem sc_is_number_within : FnScope ["value", "low", "high"] ["value", "low", "high"] (defScope s_is_number_within) := ⟨rfl, rfl, rfl, by decide +kernel, rfl, by decide +kernel, by decide +kernel⟩
set_option maxHeartbeats 4000000 in
theorem der_is_number_within {P : Program} {w : World} {K : PySem.W.Frag} {mg : Str → Option Value} {base : Heap} {f : Addr} {fd : FuncData} (F : Fun K "is_number_within" "is_number_within" s_is_number_within f fd) (D_is_number : DFo P w K mg base 1 "is_number" 1 (dFn 1 B_is_number_52f5)): FnOk P w K mg base CX0 2 f fd ["value", "low", "high"] (lP ⟨P, w, K⟩ 3 (dFn 3 B_is_number_within_7f04)) := by
  refine fn_o F sc_is_number_within rfl fun cdv A outer s H E hr => ?_
  have nd := sc_is_number_within.nd
  have u64 := hr.units
  have u65 : (A.deeper (envOfC "is_number_within" (defScope s_is_number_within) s.heap.objs.size f cdv)).units + 65 < cLine := by have := hr.un; omega
  have u1 : (A.deeper (envOfC "is_number_within" (defScope s_is_number_within) s.heap.objs.size f cdv)).units + 1 < cLine := by have := hr.un; omega
  unfold B_is_number_within_7f04
  exact dss_one (ds_ret (de_and (de_callo D_is_number (hr.mono (by decide)) (by rfl) (da_cons (dv 0) (da_nil))) (de_one (de_chain o_le o_le (dv 1) (dv 0) (dv 2)))))
abbrev s_event_error : Stmt := topS 14
theorem sc_event_error : FnScope ["rows", "process", "place", "event"] ["rows"] (defScope s_event_error) := ⟨rfl, rfl, rfl, by decide +kernel, rfl, by decide +kernel, by decide +kernel⟩
set_option maxHeartbeats 4000000 in
theorem der_event_error {P : Program} {w : World} {K : PySem.W.Frag} {mg : Str → Option Value} {base : Heap} {f : Addr} {fd : FuncData} (F : Fun K "event_error" "event_error" s_event_error f fd) (D_placed_events : DGf P w K mg base 0 "placed_events" (dGfn 1 5 B_placed_events_e217)) (D_is_number_within : DFo P w K mg base 2 "is_number_within" 3 (dFn 3 B_is_number_within_7f04)) {t_MAX_MESSAGES : Tok} (hc_MAX_MESSAGES : mg "MAX_MESSAGES" = some (.int 24 t_MAX_MESSAGES)): FnOk P w K mg base CX0 3 f fd ["rows"] (lP ⟨P, w, K⟩ 1 (dFn 4 B_event_error_3c54)) := by
  refine fn_o F sc_event_error rfl fun cdv A outer s H E hr => ?_
  have nd := sc_event_error.nd
  have u64 := hr.units
  have u65 : (A.deeper (envOfC "event_error" (defScope s_event_error) s.heap.objs.size f cdv)).units + 65 < cLine := by have := hr.un; omega
  have u1 : (A.deeper (envOfC "event_error" (defScope s_event_error) s.heap.objs.size f cdv)).units + 1 < cLine := by have := hr.un; omega
  unfold B_event_error_3c54
  exact dss_cons (ds_forG (fun _ _ z => z) PassesOwn.never (pgi_call D_placed_events rfl (hr.mono (by decide)) (by rfl) (da_cons (dv 0) (da_nil))) (dg_tup rfl (dgs_cons (dg_name (i := 1) nd rfl (by first | exact .inl rfl | exact .inr rfl)) (dgs_cons (dg_name (i := 2) nd rfl (by first | exact .inl rfl | exact .inr rfl)) (dgs_cons (dg_name (i := 3) nd rfl (by first | exact .inl rfl | exact .inr rfl)) (dgs_nil))))) (dss_one (ds_if (dt_not (dt_val (de_callo D_is_number_within (hr.mono (by decide)) (by rfl) (da_cons (dv 3) (da_cons (de_un o_neg (de_num (by rfl) hc_MAX_MESSAGES)) (da_cons (de_num (by rfl) hc_MAX_MESSAGES) (da_nil))))))) (dss_one (ds_ret (de_tup (da_cons (de_str) (da_cons (dv 1) (da_cons (dv 2) (da_nil))))))) (dss_nil))))
    (dss_one (ds_ret (de_non)))
abbrev s_twice_error : Stmt := topS 15
theorem sc_twice_error : FnScope ["rows", "seen", "process", "place", "event"] ["rows"] (defScope s_twice_error) := ⟨rfl, rfl, rfl, by decide +kernel, rfl, by decide +kernel, by decide +kernel⟩
set_option maxHeartbeats 4000000 in
theorem der_twice_error {P : Program} {w : World} {K : PySem.W.Frag} {mg : Str → Option Value} {base : Heap} {f : Addr} {fd : FuncData} (F : Fun K "twice_error" "twice_error" s_twice_error f fd) (D_placed_events : DGf P w K mg base 0 "placed_events" (dGfn 1 5 B_placed_events_e217)) (m_set : mg "set" = none): FnOk P w K mg base CX0 3 f fd ["rows"] (lP ⟨P, w, K⟩ 1 (dFn 5 B_twice_error_125f)) := by
  refine fn_o F sc_twice_error rfl fun cdv A outer s H E hr => ?_
  have nd := sc_twice_error.nd
  have u64 := hr.units
  have u65 : (A.deeper (envOfC "twice_error" (defScope s_twice_error) s.heap.objs.size f cdv)).units + 65 < cLine := by have := hr.un; omega
  have u1 : (A.deeper (envOfC "twice_error" (defScope s_twice_error) s.heap.objs.size f cdv)).units + 1 < cLine := by have := hr.un; omega
  unfold B_twice_error_125f
  exact dss_cons (ds_set (i := 1) nd rfl (by first | exact .inl rfl | exact .inr rfl) (de_set0 (by rfl) m_set (by decide +kernel)))
    (dss_cons (ds_forG (fun _ _ z => z) PassesOwn.never (pgi_call D_placed_events rfl (hr.mono (by decide)) (by rfl) (da_cons (dv 0) (da_nil))) (dg_tup rfl (dgs_cons (dg_name (i := 2) nd rfl (by first | exact .inl rfl | exact .inr rfl)) (dgs_cons (dg_name (i := 3) nd rfl (by first | exact .inl rfl | exact .inr rfl)) (dgs_cons (dg_name (i := 4) nd rfl (by first | exact .inl rfl | exact .inr rfl)) (dgs_nil))))) (dss_cons (ds_if (dt_cmp o_inS (dv 4) (dv 1)) (dss_one (ds_ret (de_tup (da_cons (de_str) (da_cons (dv 2) (da_cons (dv 3) (da_nil))))))) (dss_nil))
    (dss_one (ds_if (dt_cmp (o_ne u64) (dv 4) (de_int)) (dss_one (ds_expr (de_sadd (dv 1) (da_cons (dv 4) (da_nil))))) (dss_nil)))))
    (dss_one (ds_ret (de_non))))
abbrev s_is_sent_by_another : Stmt := topS 20
theorem sc_is_sent_by_another : FnScope ["rows", "process", "message", "sender", "row"] ["rows", "process", "message"] (defScope s_is_sent_by_another) := ⟨rfl, rfl, rfl, by decide +kernel, rfl, by decide +kernel, by decide +kernel⟩
set_option maxHeartbeats 4000000 in
theorem der_is_sent_by_another {P : Program} {w : World} {K : PySem.W.Frag} {mg : Str → Option Value} {base : Heap} {f : Addr} {fd : FuncData} (F : Fun K "is_sent_by_another" "is_sent_by_another" s_is_sent_by_another f fd)  (m_enumerate : mg "enumerate" = none) (m_any : mg "any" = none): FnOk P w K mg base CX0 1 f fd ["rows", "process", "message"] (lP ⟨P, w, K⟩ 3 (dFn 5 B_is_sent_by_another_87f2)) := by
  refine fn_o F sc_is_sent_by_another rfl fun cdv A outer s H E hr => ?_
  have nd := sc_is_sent_by_another.nd
  have u64 := hr.units
  have u65 : (A.deeper (envOfC "is_sent_by_another" (defScope s_is_sent_by_another) s.heap.objs.size f cdv)).units + 65 < cLine := by have := hr.un; omega
  have u1 : (A.deeper (envOfC "is_sent_by_another" (defScope s_is_sent_by_another) s.heap.objs.size f cdv)).units + 1 < cLine := by have := hr.un; omega
  unfold B_is_sent_by_another_87f2
  exact dss_one (ds_ret (de_callB (b_any rfl) (by rfl) m_any (by decide +kernel) (da_cons (de_lc (own := [("sender", 3), ("row", 4)]) rfl nd (di_enum (by rfl) m_enumerate (da_cons (dv 0) (da_nil))) (blkOk_by (by first | decide +kernel | rfl)) (by decide) (fun _ _ _ _ _ => dg_tup rfl (dgs_cons (dg_name (i := 3) nd rfl (by first | exact .inl rfl | exact .inr rfl)) (dgs_cons (dg_name (i := 4) nd rfl (by first | exact .inl rfl | exact .inr rfl)) (dgs_nil)))) (fun _ _ _ _ _ => dts_one (dt_cmp (o_ne u64) (dv 3) (dv 1))) (fun _ _ _ _ _ => de_cmp (o_in u65) (dv 2) (dv 4))) (da_nil))))
abbrev s_unsent_error : Stmt := topS 16
theorem sc_unsent_error : FnScope ["rows", "process", "place", "event"] ["rows"] (defScope s_unsent_error) := ⟨rfl, rfl, rfl, by decide +kernel, rfl, by decide +kernel, by decide +kernel⟩
set_option maxHeartbeats 4000000 in
theorem der_unsent_error {P : Program} {w : World} {K : PySem.W.Frag} {mg : Str → Option Value} {base : Heap} {f : Addr} {fd : FuncData} (F : Fun K "unsent_error" "unsent_error" s_unsent_error f fd) (D_placed_events : DGf P w K mg base 0 "placed_events" (dGfn 1 5 B_placed_events_e217)) (D_is_sent_by_another : DFo P w K mg base 1 "is_sent_by_another" 3 (dFn 5 B_is_sent_by_another_87f2)): FnOk P w K mg base CX0 3 f fd ["rows"] (lP ⟨P, w, K⟩ 1 (dFn 4 B_unsent_error_5d57)) := by
  refine fn_o F sc_unsent_error rfl fun cdv A outer s H E hr => ?_
  have nd := sc_unsent_error.nd
  have u64 := hr.units
  have u65 : (A.deeper (envOfC "unsent_error" (defScope s_unsent_error) s.heap.objs.size f cdv)).units + 65 < cLine := by have := hr.un; omega
  have u1 : (A.deeper (envOfC "unsent_error" (defScope s_unsent_error) s.heap.objs.size f cdv)).units + 1 < cLine := by have := hr.un; omega
  unfold B_unsent_error_5d57
  exact dss_cons (ds_forG (fun _ _ z => z) PassesOwn.never (pgi_call D_placed_events rfl (hr.mono (by decide)) (by rfl) (da_cons (dv 0) (da_nil))) (dg_tup rfl (dgs_cons (dg_name (i := 1) nd rfl (by first | exact .inl rfl | exact .inr rfl)) (dgs_cons (dg_name (i := 2) nd rfl (by first | exact .inl rfl | exact .inr rfl)) (dgs_cons (dg_name (i := 3) nd rfl (by first | exact .inl rfl | exact .inr rfl)) (dgs_nil))))) (dss_one (ds_if (DW.dt (dw_and (dt_cmp o_lt (dv 3) (de_int)) (dw_and1 (dt_not (dt_val (de_callo D_is_sent_by_another (hr.mono (by decide)) (by rfl) (da_cons (dv 0) (da_cons (dv 1) (da_cons (de_un o_neg (dv 3)) (da_nil)))))))))) (dss_one (ds_ret (de_tup (da_cons (de_str) (da_cons (dv 1) (da_cons (dv 2) (da_nil))))))) (dss_nil))))
    (dss_one (ds_ret (de_non)))
abbrev s_ready_process : Stmt := topS 22
theorem sc_ready_process : FnScope ["history", "places", "happened", "process", "row", "event"] ["history", "places", "happened"] (defScope s_ready_process) := ⟨rfl, rfl, rfl, by decide +kernel, rfl, by decide +kernel, by decide +kernel⟩
set_option maxHeartbeats 4000000 in
theorem der_ready_process {P : Program} {w : World} {K : PySem.W.Frag} {mg : Str → Option Value} {base : Heap} {f : Addr} {fd : FuncData} (F : Fun K "ready_process" "ready_process" s_ready_process f fd)  (m_enumerate : mg "enumerate" = none) (m_len : mg "len" = none): FnOk P w K mg base CX0 1 f fd ["history", "places", "happened"] (lP ⟨P, w, K⟩ 3 (dFn 6 B_ready_process_c75e)) := by
  refine fn_o F sc_ready_process rfl fun cdv A outer s H E hr => ?_
  have nd := sc_ready_process.nd
  have u64 := hr.units
  have u65 : (A.deeper (envOfC "ready_process" (defScope s_ready_process) s.heap.objs.size f cdv)).units + 65 < cLine := by have := hr.un; omega
  have u1 : (A.deeper (envOfC "ready_process" (defScope s_ready_process) s.heap.objs.size f cdv)).units + 1 < cLine := by have := hr.un; omega
  unfold B_ready_process_c75e
  exact dss_cons (ds_for PassesOwn.never rfl (di_enum (by rfl) m_enumerate (da_cons (dv 0) (da_nil))) (dg_tup rfl (dgs_cons (dg_name (i := 3) nd rfl (by first | exact .inl rfl | exact .inr rfl)) (dgs_cons (dg_name (i := 4) nd rfl (by first | exact .inl rfl | exact .inr rfl)) (dgs_nil)))) (dss_one (ds_if (dt_cmp o_lt (de_ix o_ix (dv 1) (dv 3)) (de_callB b_len (by rfl) m_len PySem.boot_len (da_cons (dv 4) (da_nil)))) (dss_cons (ds_set (i := 5) nd rfl (by first | exact .inl rfl | exact .inr rfl) (de_ix o_ix (dv 4) (de_ix o_ix (dv 1) (dv 3))))
    (dss_one (ds_if (DW.dt (dw_or (dt_cmp o_ge (dv 5) (de_int)) (dw_or1 (dt_din u1 (de_un o_neg (dv 5)) (dv 2))))) (dss_one (ds_ret (dv 3))) (dss_nil)))) (dss_nil))))
    (dss_one (ds_ret (de_non)))
abbrev s_some_order : Stmt := topS 21
theorem sc_some_order : GScope ["history", "places", "happened", "process", "event"] ["history"] (defScope s_some_order) := ⟨rfl, rfl, rfl, by decide +kernel, rfl, by decide +kernel, by decide +kernel⟩
set_option maxHeartbeats 4000000 in
theorem der_some_order {P : Program} {w : World} {K : PySem.W.Frag} {mg : Str → Option Value} {base : Heap} {f : Addr} {fd : FuncData} (F : Fun K "some_order" "some_order" s_some_order f fd) (D_ready_process : DFo P w K mg base 1 "ready_process" 3 (dFn 6 B_ready_process_c75e)) (m_len : mg "len" = none) (hb : Binds K fd ["history"] []) : GMk P w K mg base 1 f (dGfn 1 5 B_some_order_66e8) := by
  have nd := sc_some_order.nd
  refine gmk_of F sc_some_order rfl (by decide +kernel) hb (fun _ _ => rfl) fun g hg G out => ?_
  obtain ⟨P', w', K', mg', base', N', q', sc', f', cdv, L, k'⟩ := g
  obtain ⟨h1, h2, h3, h4, h5, h6, h7, h8, h9, h10⟩ := hg
  dsimp only at h1 h2 h3 h4 h5 h6 h7 h8 h9 h10
  subst h1 h2 h3 h4 h5 h6 h7 h8 h9 h10
  have ux : ∀ {A : Around} (j : Nat), j < 200 → Room 1 A → A.units + j < cLine := fun j hj hr => by have := hr.un; omega
  unfold B_some_order_66e8
  exact dj_cons (dj_ps (fun w E => by have hr : Room 1 _ := E.cv; have u64 := hr.units; have u65 := ux 65 (by omega) hr; have u1 := ux 1 (by omega) hr; exact (ds_set (i := 1) nd rfl (by first | exact .inl rfl | exact .inr rfl) (de_bin o_mul (de_lst (da_cons (de_int) (da_nil))) (de_callB b_len (by rfl) m_len PySem.boot_len (da_cons (dv 0) (da_nil)))))))
    (dj_cons (dj_ps (fun w E => by have hr : Room 1 _ := E.cv; have u64 := hr.units; have u65 := ux 65 (by omega) hr; have u1 := ux 1 (by omega) hr; exact (ds_set (i := 2) nd rfl (by first | exact .inl rfl | exact .inr rfl) (de_dnew))))
    (dj_cons (dj_ps (fun w E => by have hr : Room 1 _ := E.cv; have u64 := hr.units; have u65 := ux 65 (by omega) hr; have u1 := ux 1 (by omega) hr; exact (ds_set (i := 3) nd rfl (by first | exact .inl rfl | exact .inr rfl) (de_callo D_ready_process (hr.mono (by decide)) (by rfl) (da_cons (dv 0) (da_cons (dv 1) (da_cons (dv 2) (da_nil))))))))
    (dj_cons (dj_while (fun w E => by have hr : Room 1 _ := E.cv; have u64 := hr.units; have u65 := ux 65 (by omega) hr; have u1 := ux 1 (by omega) hr; exact (dt_notN (dv 3))) (dj_cons (dj_ps (fun w E => by have hr : Room 1 _ := E.cv; have u64 := hr.units; have u65 := ux 65 (by omega) hr; have u1 := ux 1 (by omega) hr; exact (ds_set (i := 4) nd rfl (by first | exact .inl rfl | exact .inr rfl) (de_ix o_ix (de_ix o_ix (dv 0) (dv 3)) (de_ix o_ix (dv 1) (dv 3))))))
    (dj_cons (dj_ps (fun w E => by have hr : Room 1 _ := E.cv; have u64 := hr.units; have u65 := ux 65 (by omega) hr; have u1 := ux 1 (by omega) hr; exact (ds_augL ip_add (dv 1) (dv 3) (de_int))))
    (dj_cons (dj_ps (fun w E => by have hr : Room 1 _ := E.cv; have u64 := hr.units; have u65 := ux 65 (by omega) hr; have u1 := ux 1 (by omega) hr; exact (ds_dput u1 (dv 2) (dv 4) (de_bl))))
    (dj_cons (dj_yield G (fun w E => by have hr : Room 1 _ := E.cv; have u64 := hr.units; have u65 := ux 65 (by omega) hr; have u1 := ux 1 (by omega) hr; exact (de_tup (da_cons (dv 3) (da_cons (dv 4) (da_nil))))))
    (dj_cons (dj_ps (fun w E => by have hr : Room 1 _ := E.cv; have u64 := hr.units; have u65 := ux 65 (by omega) hr; have u1 := ux 1 (by omega) hr; exact (ds_set (i := 3) nd rfl (by first | exact .inl rfl | exact .inr rfl) (de_callo D_ready_process (hr.mono (by decide)) (by rfl) (da_cons (dv 0) (da_cons (dv 1) (da_cons (dv 2) (da_nil))))))))
    (dj_nil)))))))
    (dj_nil))))
abbrev s_circle_error : Stmt := topS 17
theorem sc_circle_error : FnScope ["rows"] ["rows"] (defScope s_circle_error) := ⟨rfl, rfl, rfl, by decide +kernel, rfl, by decide +kernel, by decide +kernel⟩
set_option maxHeartbeats 4000000 in
theorem der_circle_error {P : Program} {w : World} {K : PySem.W.Frag} {mg : Str → Option Value} {base : Heap} {f : Addr} {fd : FuncData} (F : Fun K "circle_error" "circle_error" s_circle_error f fd) (D_some_order : DGf P w K mg base 1 "some_order" (dGfn 1 5 B_some_order_66e8)) (D_event_count : DFo P w K mg base 1 "event_count" 1 (dFn 2 B_event_count_1213)) (m_list : mg "list" = none) (m_len : mg "len" = none): FnOk P w K mg base CX0 4 f fd ["rows"] (lP ⟨P, w, K⟩ 1 (dFn 1 B_circle_error_0309)) := by
  refine fn_o F sc_circle_error rfl fun cdv A outer s H E hr => ?_
  have nd := sc_circle_error.nd
  have u64 := hr.units
  have u65 : (A.deeper (envOfC "circle_error" (defScope s_circle_error) s.heap.objs.size f cdv)).units + 65 < cLine := by have := hr.un; omega
  have u1 : (A.deeper (envOfC "circle_error" (defScope s_circle_error) s.heap.objs.size f cdv)).units + 1 < cLine := by have := hr.un; omega
  unfold B_circle_error_0309
  exact dss_cons (ds_if (dt_cmp o_lt (de_callB b_len (by rfl) m_len PySem.boot_len (da_cons (de_listK (pgi_call D_some_order rfl (hr.mono (by decide)) (by rfl) (da_cons (dv 0) (da_nil))) (by rfl) m_list (by decide +kernel)) (da_nil))) (de_callo D_event_count (hr.mono (by decide)) (by rfl) (da_cons (dv 0) (da_nil)))) (dss_one (ds_ret (de_tup (da_cons (de_str) (da_nil))))) (dss_nil))
    (dss_one (ds_ret (de_non)))
abbrev s_history_error : Stmt := topS 12
theorem sc_history_error : FnScope ["value"] ["value"] (defScope s_history_error) := ⟨rfl, rfl, rfl, by decide +kernel, rfl, by decide +kernel, by decide +kernel⟩
set_option maxHeartbeats 4000000 in
theorem der_history_error {P : Program} {w : World} {K : PySem.W.Frag} {mg : Str → Option Value} {base : Heap} {f : Addr} {fd : FuncData} (F : Fun K "history_error" "history_error" s_history_error f fd) (D_shape_error : DFo P w K mg base 2 "shape_error" 1 (dFn 3 B_shape_error_72a0)) (D_event_error : DFo P w K mg base 3 "event_error" 1 (dFn 4 B_event_error_3c54)) (D_twice_error : DFo P w K mg base 3 "twice_error" 1 (dFn 5 B_twice_error_125f)) (D_unsent_error : DFo P w K mg base 3 "unsent_error" 1 (dFn 4 B_unsent_error_5d57)) (D_circle_error : DFo P w K mg base 4 "circle_error" 1 (dFn 1 B_circle_error_0309)): FnOk P w K mg base CX0 5 f fd ["value"] (lP ⟨P, w, K⟩ 1 (dFn 1 B_history_error_d6f4)) := by
  refine fn_o F sc_history_error rfl fun cdv A outer s H E hr => ?_
  have nd := sc_history_error.nd
  have u64 := hr.units
  have u65 : (A.deeper (envOfC "history_error" (defScope s_history_error) s.heap.objs.size f cdv)).units + 65 < cLine := by have := hr.un; omega
  have u1 : (A.deeper (envOfC "history_error" (defScope s_history_error) s.heap.objs.size f cdv)).units + 1 < cLine := by have := hr.un; omega
  unfold B_history_error_d6f4
  exact dss_one (ds_ret (de_orN (de_callo D_shape_error (hr.mono (by decide)) (by rfl) (da_cons (dv 0) (da_nil))) (de_orN (de_callo D_event_error (hr.mono (by decide)) (by rfl) (da_cons (dv 0) (da_nil))) (de_orN (de_callo D_twice_error (hr.mono (by decide)) (by rfl) (da_cons (dv 0) (da_nil))) (de_orN (de_callo D_unsent_error (hr.mono (by decide)) (by rfl) (da_cons (dv 0) (da_nil))) (de_one (de_callo D_circle_error (hr.mono (by decide)) (by rfl) (da_cons (dv 0) (da_nil)))))))))
abbrev s__law_number_in : Stmt := topS 37
theorem sc__law_number_in : FnScope ["_law_word", "_law_most", "_law_sign"] ["_law_word", "_law_most"] (defScope s__law_number_in) := ⟨rfl, rfl, rfl, by decide +kernel, rfl, by decide +kernel, by decide +kernel⟩
set_option maxHeartbeats 4000000 in
theorem der__law_number_in {P : Program} {w : World} {K : PySem.W.Frag} {mg : Str → Option Value} {base : Heap} {f : Addr} {fd : FuncData} (F : Fun K "_law_number_in" "_law_number_in" s__law_number_in f fd)  (m_int : mg "int" = none) (m_len : mg "len" = none): FnOk P w K mg base CX0 1 f fd ["_law_word", "_law_most"] (lP ⟨P, w, K⟩ 2 (dFn 3 B_law_number_in_d447)) := by
  refine fn_o F sc__law_number_in rfl fun cdv A outer s H E hr => ?_
  have nd := sc__law_number_in.nd
  have u64 := hr.units
  have u65 : (A.deeper (envOfC "_law_number_in" (defScope s__law_number_in) s.heap.objs.size f cdv)).units + 65 < cLine := by have := hr.un; omega
  have u1 : (A.deeper (envOfC "_law_number_in" (defScope s__law_number_in) s.heap.objs.size f cdv)).units + 1 < cLine := by have := hr.un; omega
  unfold B_law_number_in_d447
  exact dss_cons (ds_if (DW.dt (dw_or (dt_cmp (o_eq u64) (dv 0) (de_str)) (dw_or (dt_cmp o_gt (de_callB b_lenT (by rfl) m_len PySem.boot_len (da_cons (dv 0) (da_nil))) (dv 1)) (dw_or1 (dt_cmp (o_ne u64) (de_lc (own := [("_law_sign", 2)]) rfl nd (di_str (dv 0)) (blkOk_by (by first | decide +kernel | rfl)) (by decide) (fun _ _ _ _ _ => dg_name (i := 2) nd rfl (by first | exact .inl rfl | exact .inr rfl)) (fun _ _ _ _ _ => dts_one (dt_cmp o_ninG (dv 2) (de_str))) (fun _ _ _ _ _ => dv 2)) (de_lst (da_nil))))))) (dss_one (ds_ret (de_non))) (dss_nil))
    (dss_one (ds_ret (de_ifExp (DW.dt (dw_and (dt_cmp (o_eq u64) (de_ix o_ixS (dv 0) (de_int)) (de_str)) (dw_and1 (dt_cmp (o_ne u64) (dv 0) (de_str))))) (de_non) (de_callTy b_intS (by rfl) m_int (by decide +kernel) (da_cons (dv 0) (da_nil))))))
abbrev s__law_event_in : Stmt := topS 48
theorem sc__law_event_in : FnScope ["_law_word", "_law_number"] ["_law_word"] (defScope s__law_event_in) := ⟨rfl, rfl, rfl, by decide +kernel, rfl, by decide +kernel, by decide +kernel⟩
set_option maxHeartbeats 4000000 in
theorem der__law_event_in {P : Program} {w : World} {K : PySem.W.Frag} {mg : Str → Option Value} {base : Heap} {f : Addr} {fd : FuncData} (F : Fun K "_law_event_in" "_law_event_in" s__law_event_in f fd) (D__law_number_in : DFo P w K mg base 1 "_law_number_in" 2 (dFn 3 B_law_number_in_d447)): FnOk P w K mg base CX0 2 f fd ["_law_word"] (lP ⟨P, w, K⟩ 1 (dFn 2 B_law_event_in_1ebf)) := by
  refine fn_o F sc__law_event_in rfl fun cdv A outer s H E hr => ?_
  have nd := sc__law_event_in.nd
  have u64 := hr.units
  have u65 : (A.deeper (envOfC "_law_event_in" (defScope s__law_event_in) s.heap.objs.size f cdv)).units + 65 < cLine := by have := hr.un; omega
  have u1 : (A.deeper (envOfC "_law_event_in" (defScope s__law_event_in) s.heap.objs.size f cdv)).units + 1 < cLine := by have := hr.un; omega
  unfold B_law_event_in_1ebf
  exact dss_cons (ds_if (dt_cmp (o_eq u64) (dv 0) (de_str)) (dss_one (ds_ret (de_int))) (dss_nil))
    (dss_cons (ds_set (i := 1) nd rfl (by first | exact .inl rfl | exact .inr rfl) (de_callo D__law_number_in (hr.mono (by decide)) (by rfl) (da_cons (de_slS (dv 0) (do_some (de_int)) (do_none)) (da_cons (de_int) (da_nil)))))
    (dss_cons (ds_if (DW.dt (dw_or (dt_cmp (o_nin u65) (de_slS (dv 0) (do_none) (do_some (de_int))) (de_lst (da_cons (de_str) (da_cons (de_str) (da_nil))))) (dw_or (dt_isN (dv 1)) (dw_or1 (dt_not (dt_chain o_le o_le (de_int) (dv 1) (de_int))))))) (dss_one (ds_ret (de_non))) (dss_nil))
    (dss_one (ds_ret (de_ifExp (dt_cmp (o_eq u64) (de_ix o_ixS (dv 0) (de_int)) (de_str)) (dv 1) (de_bin o_sub (de_int) (dv 1)))))))
abbrev s__law_due : Stmt := topS 49
theorem sc__law_due : FnScope ["_law_value", "_law_words", "_law_rows", "_law_row", "_law_closed", "_law_index", "_law_word", "_law_event", "_law_error"] ["_law_value"] (defScope s__law_due) := ⟨rfl, rfl, rfl, by decide +kernel, rfl, by decide +kernel, by decide +kernel⟩
set_option maxHeartbeats 4000000 in
theorem der__law_due {P : Program} {w : World} {K : PySem.W.Frag} {mg : Str → Option Value} {base : Heap} {f : Addr} {fd : FuncData} (F : Fun K "_law_due" "_law_due" s__law_due f fd) (D_history_error : DFo P w K mg base 5 "history_error" 1 (dFn 1 B_history_error_d6f4)) (D__law_event_in : DFo P w K mg base 2 "_law_event_in" 1 (dFn 2 B_law_event_in_1ebf)) (m_tuple : mg "tuple" = none) (m_len : mg "len" = none) (m_enumerate : mg "enumerate" = none) (m_str : mg "str" = none) (m_isinstance : mg "isinstance" = none): FnOk P w K mg base CX0 6 f fd ["_law_value"] (lP ⟨P, w, K⟩ 1 (dFn 9 B_law_due_dd10)) := by
  refine fn_o F sc__law_due rfl fun cdv A outer s H E hr => ?_
  have nd := sc__law_due.nd
  have u64 := hr.units
  have u65 : (A.deeper (envOfC "_law_due" (defScope s__law_due) s.heap.objs.size f cdv)).units + 65 < cLine := by have := hr.un; omega
  have u1 : (A.deeper (envOfC "_law_due" (defScope s__law_due) s.heap.objs.size f cdv)).units + 1 < cLine := by have := hr.un; omega
  unfold B_law_due_dd10
  exact dss_cons (ds_if (dt_not (dt_val (de_callB b_isi (by rfl) m_isinstance (by decide +kernel) (da_cons (dv 0) (da_cons (de_ty (by rfl) m_str (by decide +kernel)) (da_nil)))))) (dss_one (ds_ret (de_lst (da_cons (de_str) (da_cons (de_non) (da_nil)))))) (dss_nil))
    (dss_cons (ds_asg (b := true) (de_tup (da_cons (de_split (dv 0) (de_str)) (da_cons (de_lst (da_nil)) (da_cons (de_lst (da_nil)) (da_cons (de_bl) (da_nil)))))) (dg_tup rfl (dgs_cons (dg_name (i := 1) nd rfl (by first | exact .inl rfl | exact .inr rfl)) (dgs_cons (dg_name (i := 2) nd rfl (by first | exact .inl rfl | exact .inr rfl)) (dgs_cons (dg_name (i := 3) nd rfl (by first | exact .inl rfl | exact .inr rfl)) (dgs_cons (dg_name (i := 4) nd rfl (by first | exact .inl rfl | exact .inr rfl)) (dgs_nil)))))))
    (dss_cons (ds_for PassesOwn.never rfl (di_enum (by rfl) m_enumerate (da_cons (dv 1) (da_nil))) (dg_tup rfl (dgs_cons (dg_name (i := 5) nd rfl (by first | exact .inl rfl | exact .inr rfl)) (dgs_cons (dg_name (i := 6) nd rfl (by first | exact .inl rfl | exact .inr rfl)) (dgs_nil)))) (dss_cons (ds_set (i := 7) nd rfl (by first | exact .inl rfl | exact .inr rfl) (de_callo D__law_event_in (hr.mono (by decide)) (by rfl) (da_cons (dv 6) (da_nil))))
    (dss_one (ds_if (DW.dt (dw_and (dt_cmp (o_eq u64) (dv 6) (de_str)) (dw_and1 (DW.dt (dw_or (dt_cmp (o_ne u64) (dv 3) (de_lst (da_nil))) (dw_or1 (dt_val (dv 4)))))))) (dss_cons (ds_expr (de_mL PySem.F.slot_list_append PySem.F.type_list_append m_append (dv 2) (da_cons (de_callTy b_tuple (by rfl) m_tuple (by decide +kernel) (da_cons (dv 3) (da_nil))) (da_nil))))
    (dss_one (ds_par (i := 3) (j := 4) (by rfl) nd rfl rfl (by decide) rfl rfl (da_cons (de_lst (da_nil)) (da_cons (de_bl) (da_nil))) (by rfl)))) (dss_one (ds_if (DW.dt (dw_and (dt_cmp (o_eq u64) (dv 6) (de_str)) (dw_and (dt_cmp (o_eq u64) (dv 3) (de_lst (da_nil))) (dw_and1 (dt_not (dt_val (dv 4))))))) (dss_one (ds_set (i := 4) nd rfl (by first | exact .inl rfl | exact .inr rfl) (de_bl))) (dss_one (ds_if (DW.dt (dw_and (dt_notN (dv 7)) (dw_and1 (dt_not (dt_val (dv 4)))))) (dss_one (ds_expr (de_mL PySem.F.slot_list_append PySem.F.type_list_append m_append (dv 3) (da_cons (dv 7) (da_nil))))) (dss_one (ds_ret (de_lst (da_cons (de_str) (da_cons (dv 5) (da_nil))))))))))))))
    (dss_cons (ds_if (DW.dt (dw_and (dt_cmp (o_eq u64) (dv 3) (de_lst (da_nil))) (dw_and1 (dt_not (dt_val (dv 4)))))) (dss_one (ds_ret (de_lst (da_cons (de_str) (da_cons (de_callB b_len (by rfl) m_len PySem.boot_len (da_cons (dv 1) (da_nil))) (da_nil)))))) (dss_nil))
    (dss_cons (ds_set (i := 2) nd rfl (by first | exact .inl rfl | exact .inr rfl) (de_callTy b_tuple (by rfl) m_tuple (by decide +kernel) (da_cons (de_bin o_add (dv 2) (de_lst (da_cons (de_callTy b_tuple (by rfl) m_tuple (by decide +kernel) (da_cons (dv 3) (da_nil))) (da_nil)))) (da_nil))))
    (dss_cons (ds_set (i := 8) nd rfl (by first | exact .inl rfl | exact .inr rfl) (de_callo D_history_error (hr.mono (by decide)) (by rfl) (da_cons (dv 2) (da_nil))))
    (dss_one (ds_ret (de_ifExp (dt_isN (dv 8)) (de_lst (da_cons (de_str) (da_cons (dv 2) (da_nil)))) (de_lst (da_cons (de_str) (da_cons (dv 8) (da_nil))))))))))))
abbrev s_number_of : Stmt := topS 26
theorem sc_number_of : FnScope ["word"] ["word"] (defScope s_number_of) := ⟨rfl, rfl, rfl, by decide +kernel, rfl, by decide +kernel, by decide +kernel⟩
set_option maxHeartbeats 4000000 in
theorem der_number_of {P : Program} {w : World} {K : PySem.W.Frag} {mg : Str → Option Value} {base : Heap} {f : Addr} {fd : FuncData} (F : Fun K "number_of" "number_of" s_number_of f fd)  (m_int : mg "int" = none) (m_len : mg "len" = none) {t_MAX_DIGITS : Tok} (hc_MAX_DIGITS : mg "MAX_DIGITS" = some (.int 6 t_MAX_DIGITS)): FnOk P w K mg base CX0 1 f fd ["word"] (lP ⟨P, w, K⟩ 1 (dFn 1 B_number_of_1a7b)) := by
  refine fn_o F sc_number_of rfl fun cdv A outer s H E hr => ?_
  have nd := sc_number_of.nd
  have u64 := hr.units
  have u65 : (A.deeper (envOfC "number_of" (defScope s_number_of) s.heap.objs.size f cdv)).units + 65 < cLine := by have := hr.un; omega
  have u1 : (A.deeper (envOfC "number_of" (defScope s_number_of) s.heap.objs.size f cdv)).units + 1 < cLine := by have := hr.un; omega
  unfold B_number_of_1a7b
  exact dss_cons (ds_if (DW.dt (dw_or (dt_not (dt_val (de_isascii (dv 0)))) (dw_or (dt_not (dt_val (de_isdigit (dv 0)))) (dw_or1 (dt_cmp o_gt (de_callB b_lenT (by rfl) m_len PySem.boot_len (da_cons (dv 0) (da_nil))) (de_num (by rfl) hc_MAX_DIGITS)))))) (dss_one (ds_ret (de_non))) (dss_nil))
    (dss_cons (ds_if (DW.dt (dw_and (dt_cmp (o_eq u64) (de_ix o_ixS (dv 0) (de_int)) (de_str)) (dw_and1 (dt_cmp (o_ne u64) (dv 0) (de_str))))) (dss_one (ds_ret (de_non))) (dss_nil))
    (dss_one (ds_ret (de_callTy b_intS (by rfl) m_int (by decide +kernel) (da_cons (dv 0) (da_nil))))))
abbrev s_event_of : Stmt := topS 35
theorem sc_event_of : FnScope ["word", "message"] ["word"] (defScope s_event_of) := ⟨rfl, rfl, rfl, by decide +kernel, rfl, by decide +kernel, by decide +kernel⟩
set_option maxHeartbeats 4000000 in
theorem der_event_of {P : Program} {w : World} {K : PySem.W.Frag} {mg : Str → Option Value} {base : Heap} {f : Addr} {fd : FuncData} (F : Fun K "event_of" "event_of" s_event_of f fd) (D_is_number_within : DFo P w K mg base 2 "is_number_within" 3 (dFn 3 B_is_number_within_7f04)) (D_number_of : DFo P w K mg base 1 "number_of" 1 (dFn 1 B_number_of_1a7b)) {t_MAX_MESSAGES : Tok} (hc_MAX_MESSAGES : mg "MAX_MESSAGES" = some (.int 24 t_MAX_MESSAGES)) {t_SAVE : Tok} (hc_SAVE : mg "SAVE" = some (.str "." t_SAVE)): FnOk P w K mg base CX0 3 f fd ["word"] (lP ⟨P, w, K⟩ 1 (dFn 2 B_event_of_16da)) := by
  refine fn_o F sc_event_of rfl fun cdv A outer s H E hr => ?_
  have nd := sc_event_of.nd
  have u64 := hr.units
  have u65 : (A.deeper (envOfC "event_of" (defScope s_event_of) s.heap.objs.size f cdv)).units + 65 < cLine := by have := hr.un; omega
  have u1 : (A.deeper (envOfC "event_of" (defScope s_event_of) s.heap.objs.size f cdv)).units + 1 < cLine := by have := hr.un; omega
  unfold B_event_of_16da
  exact dss_cons (ds_if (dt_cmp (o_eq u64) (dv 0) (de_gstr (by rfl) hc_SAVE)) (dss_one (ds_ret (de_int))) (dss_nil))
    (dss_cons (ds_set (i := 1) nd rfl (by first | exact .inl rfl | exact .inr rfl) (de_callo D_number_of (hr.mono (by decide)) (by rfl) (da_cons (de_slS (dv 0) (do_some (de_int)) (do_none)) (da_nil))))
    (dss_cons (ds_if (dt_not (dt_val (de_callo D_is_number_within (hr.mono (by decide)) (by rfl) (da_cons (dv 1) (da_cons (de_int) (da_cons (de_num (by rfl) hc_MAX_MESSAGES) (da_nil))))))) (dss_one (ds_ret (de_non))) (dss_nil))
    (dss_cons (ds_if (dt_cmp (o_eq u64) (de_ix o_ixS (dv 0) (de_int)) (de_str)) (dss_one (ds_ret (dv 1))) (dss_nil))
    (dss_cons (ds_if (dt_cmp (o_eq u64) (de_ix o_ixS (dv 0) (de_int)) (de_str)) (dss_one (ds_ret (de_un o_neg (dv 1)))) (dss_nil))
    (dss_one (ds_ret (de_non)))))))
abbrev s_can_follow : Stmt := topS 33
theorem sc_can_follow : FnScope ["row", "word"] ["row", "word"] (defScope s_can_follow) := ⟨rfl, rfl, rfl, by decide +kernel, rfl, by decide +kernel, by decide +kernel⟩
set_option maxHeartbeats 4000000 in
theorem der_can_follow {P : Program} {w : World} {K : PySem.W.Frag} {mg : Str → Option Value} {base : Heap} {f : Addr} {fd : FuncData} (F : Fun K "can_follow" "can_follow" s_can_follow f fd) (D_event_of : DFo P w K mg base 3 "event_of" 1 (dFn 2 B_event_of_16da)) (m_len : mg "len" = none) {t_NO_EVENTS : Tok} (hc_NO_EVENTS : mg "NO_EVENTS" = some (.str "_" t_NO_EVENTS)) {t_NEXT_ROW : Tok} (hc_NEXT_ROW : mg "NEXT_ROW" = some (.str "|" t_NEXT_ROW)): FnOk P w K mg base CX0 4 f fd ["row", "word"] (lP ⟨P, w, K⟩ 2 (dFn 2 B_can_follow_f9d7)) := by
  refine fn_o F sc_can_follow rfl fun cdv A outer s H E hr => ?_
  have nd := sc_can_follow.nd
  have u64 := hr.units
  have u65 : (A.deeper (envOfC "can_follow" (defScope s_can_follow) s.heap.objs.size f cdv)).units + 65 < cLine := by have := hr.un; omega
  have u1 : (A.deeper (envOfC "can_follow" (defScope s_can_follow) s.heap.objs.size f cdv)).units + 1 < cLine := by have := hr.un; omega
  unfold B_can_follow_f9d7
  exact dss_cons (ds_if (dt_cmp (o_eq u64) (dv 1) (de_gstr (by rfl) hc_NEXT_ROW)) (dss_one (ds_ret (de_cmp o_gt (de_callB b_len (by rfl) m_len PySem.boot_len (da_cons (dv 0) (da_nil))) (de_int)))) (dss_nil))
    (dss_cons (ds_if (dt_cmp (o_eq u64) (dv 1) (de_gstr (by rfl) hc_NO_EVENTS)) (dss_one (ds_ret (de_cmp (o_eq u64) (de_callB b_len (by rfl) m_len PySem.boot_len (da_cons (dv 0) (da_nil))) (de_int)))) (dss_nil))
    (dss_one (ds_ret (de_and (de_cmp (o_ne u64) (dv 0) (de_lst (da_cons (de_gstr (by rfl) hc_NO_EVENTS) (da_nil)))) (de_one (de_notN (de_callo D_event_of (hr.mono (by decide)) (by rfl) (da_cons (dv 1) (da_nil)))))))))
abbrev s_rows_of_words : Stmt := topS 32
theorem sc_rows_of_words : FnScope ["words", "rows", "index", "word"] ["words"] (defScope s_rows_of_words) := ⟨rfl, rfl, rfl, by decide +kernel, rfl, by decide +kernel, by decide +kernel⟩
set_option maxHeartbeats 4000000 in
theorem der_rows_of_words {P : Program} {w : World} {K : PySem.W.Frag} {mg : Str → Option Value} {base : Heap} {f : Addr} {fd : FuncData} (F : Fun K "rows_of_words" "rows_of_words" s_rows_of_words f fd) (D_can_follow : DFo P w K mg base 4 "can_follow" 2 (dFn 2 B_can_follow_f9d7)) (X_BadText : XCls P w K mg base 1 "BadText" ["index"]) (m_len : mg "len" = none) (m_enumerate : mg "enumerate" = none) {t_NEXT_ROW : Tok} (hc_NEXT_ROW : mg "NEXT_ROW" = some (.str "|" t_NEXT_ROW)): FnOk P w K mg base (L2.CX P w) 5 f fd ["words"] (fun vs H Q E => vs.length = 1 ∧ lCX ⟨P, w, K⟩ (dFnX 4 B_rows_of_words_6edf) vs H Q E) := by
  refine fn_ox F sc_rows_of_words rfl fun cdv A outer s H E hr tk => ?_
  have nd := sc_rows_of_words.nd
  have u64 := hr.units
  have u65 : (A.deeper (envOfC "rows_of_words" (defScope s_rows_of_words) s.heap.objs.size f cdv)).units + 65 < cLine := by have := hr.un; omega
  have u1 : (A.deeper (envOfC "rows_of_words" (defScope s_rows_of_words) s.heap.objs.size f cdv)).units + 1 < cLine := by have := hr.un; omega
  unfold B_rows_of_words_6edf
  exact dsxs_cons (dsx_pure (ds_set (i := 1) nd rfl (by first | exact .inl rfl | exact .inr rfl) (de_lst (da_cons (de_lst (da_nil)) (da_nil)))))
    (dsxs_cons (dsx_for (passes_of rfl) rfl (di_enum (by rfl) m_enumerate (da_cons (dv 0) (da_nil))) (dg_tup rfl (dgs_cons (dg_name (i := 2) nd rfl (by first | exact .inl rfl | exact .inr rfl)) (dgs_cons (dg_name (i := 3) nd rfl (by first | exact .inl rfl | exact .inr rfl)) (dgs_nil)))) (dsxs_cons (dsx_if (dt_not (dt_val (de_callo D_can_follow (hr.mono (by decide)) (by rfl) (da_cons (de_ix o_ix (dv 1) (de_un o_neg (de_int))) (da_cons (dv 3) (da_nil)))))) (dsxs_one (dsx_raise rfl X_BadText tk (hr.mono (by decide)) (by rfl) (da_cons (dv 2) (da_nil)))) (dsxs_nil))
    (dsxs_one (dsx_pure (ds_if (dt_cmp (o_eq u64) (dv 3) (de_gstr (by rfl) hc_NEXT_ROW)) (dss_one (ds_expr (de_mL PySem.F.slot_list_append PySem.F.type_list_append m_append (dv 1) (da_cons (de_lst (da_nil)) (da_nil))))) (dss_one (ds_expr (de_mL PySem.F.slot_list_append PySem.F.type_list_append m_append (de_ix o_ix (dv 1) (de_un o_neg (de_int))) (da_cons (dv 3) (da_nil))))))))))
    (dsxs_cons (dsx_if (dt_cmp (o_eq u64) (de_callB b_len (by rfl) m_len PySem.boot_len (da_cons (de_ix o_ix (dv 1) (de_un o_neg (de_int))) (da_nil))) (de_int)) (dsxs_one (dsx_raise rfl X_BadText tk (hr.mono (by decide)) (by rfl) (da_cons (de_callB b_len (by rfl) m_len PySem.boot_len (da_cons (dv 0) (da_nil))) (da_nil)))) (dsxs_nil))
    (dsxs_one (dsx_pure (ds_ret (dv 1))))))
abbrev s_words_of : Stmt := topS 25
theorem sc_words_of : FnScope ["text"] ["text"] (defScope s_words_of) := ⟨rfl, rfl, rfl, by decide +kernel, rfl, by decide +kernel, by decide +kernel⟩
set_option maxHeartbeats 4000000 in
theorem der_words_of {P : Program} {w : World} {K : PySem.W.Frag} {mg : Str → Option Value} {base : Heap} {f : Addr} {fd : FuncData} (F : Fun K "words_of" "words_of" s_words_of f fd) : FnOk P w K mg base CX0 1 f fd ["text"] (lP ⟨P, w, K⟩ 1 (dFn 1 B_words_of_9073)) := by
  refine fn_o F sc_words_of rfl fun cdv A outer s H E hr => ?_
  have nd := sc_words_of.nd
  have u64 := hr.units
  have u65 : (A.deeper (envOfC "words_of" (defScope s_words_of) s.heap.objs.size f cdv)).units + 65 < cLine := by have := hr.un; omega
  have u1 : (A.deeper (envOfC "words_of" (defScope s_words_of) s.heap.objs.size f cdv)).units + 1 < cLine := by have := hr.un; omega
  unfold B_words_of_9073
  exact dss_one (ds_ret (de_split (dv 0) (de_str)))
abbrev s_row_of : Stmt := topS 34
theorem sc_row_of : FnScope ["words", "word"] ["words"] (defScope s_row_of) := ⟨rfl, rfl, rfl, by decide +kernel, rfl, by decide +kernel, by decide +kernel⟩
set_option maxHeartbeats 4000000 in
theorem der_row_of {P : Program} {w : World} {K : PySem.W.Frag} {mg : Str → Option Value} {base : Heap} {f : Addr} {fd : FuncData} (F : Fun K "row_of" "row_of" s_row_of f fd) (D_event_of : DFo P w K mg base 3 "event_of" 1 (dFn 2 B_event_of_16da)) (m_tuple : mg "tuple" = none) {t_NO_EVENTS : Tok} (hc_NO_EVENTS : mg "NO_EVENTS" = some (.str "_" t_NO_EVENTS)): FnOk P w K mg base CX0 4 f fd ["words"] (lP ⟨P, w, K⟩ 1 (dFn 2 B_row_of_e8a1)) := by
  refine fn_o F sc_row_of rfl fun cdv A outer s H E hr => ?_
  have nd := sc_row_of.nd
  have u64 := hr.units
  have u65 : (A.deeper (envOfC "row_of" (defScope s_row_of) s.heap.objs.size f cdv)).units + 65 < cLine := by have := hr.un; omega
  have u1 : (A.deeper (envOfC "row_of" (defScope s_row_of) s.heap.objs.size f cdv)).units + 1 < cLine := by have := hr.un; omega
  unfold B_row_of_e8a1
  exact dss_one (ds_ret (de_callTy b_tuple (by rfl) m_tuple (by decide +kernel) (da_cons (de_lc (own := [("word", 1)]) rfl nd (di_val (dv 0)) (blkOk_by (by first | decide +kernel | rfl)) (by decide) (fun _ _ _ _ _ => dg_name (i := 1) nd rfl (by first | exact .inl rfl | exact .inr rfl)) (fun _ _ _ _ _ => dts_one (dt_cmp (o_ne u64) (dv 1) (de_gstr (by rfl) hc_NO_EVENTS))) (fun _ _ _ _ _ => de_callo D_event_of (hr.mono (by decide)) (by rfl) (da_cons (dv 1) (da_nil)))) (da_nil))))
abbrev s_parse_history : Stmt := topS 31
theorem sc_parse_history : FnScope ["value", "rows", "error", "words"] ["value"] (defScope s_parse_history) := ⟨rfl, rfl, rfl, by decide +kernel, rfl, by decide +kernel, by decide +kernel⟩
set_option maxHeartbeats 4000000 in
theorem der_parse_history {P : Program} {w : World} {K : PySem.W.Frag} {mg : Str → Option Value} {base : Heap} {f : Addr} {fd : FuncData} (F : Fun K "parse_history" "parse_history" s_parse_history f fd) (D_history_error : DFo P w K mg base 5 "history_error" 1 (dFn 1 B_history_error_d6f4)) (DX_rows_of_words : DFx P w K mg base 5 "rows_of_words" 1 (dFnX 4 B_rows_of_words_6edf)) (D_words_of : DFo P w K mg base 1 "words_of" 1 (dFn 1 B_words_of_9073)) (D_row_of : DFo P w K mg base 4 "row_of" 1 (dFn 2 B_row_of_e8a1)) (X_BadHistory : XCls P w K mg base 1 "BadHistory" ["error"]) (X_BadText : XCls P w K mg base 1 "BadText" ["index"]) (m_tuple : mg "tuple" = none) (m_str : mg "str" = none) (m_isinstance : mg "isinstance" = none): FnOk P w K mg base (L2.CX P w) 6 f fd ["value"] (fun vs H Q E => vs.length = 1 ∧ lCX ⟨P, w, K⟩ (dFnX 4 B_parse_history_f38e) vs H Q E) := by
  refine fn_ox F sc_parse_history rfl fun cdv A outer s H E hr tk => ?_
  have nd := sc_parse_history.nd
  have u64 := hr.units
  have u65 : (A.deeper (envOfC "parse_history" (defScope s_parse_history) s.heap.objs.size f cdv)).units + 65 < cLine := by have := hr.un; omega
  have u1 : (A.deeper (envOfC "parse_history" (defScope s_parse_history) s.heap.objs.size f cdv)).units + 1 < cLine := by have := hr.un; omega
  unfold B_parse_history_f38e
  exact dsxs_cons (dsx_if (dt_not (dt_val (de_callB b_isi (by rfl) m_isinstance (by decide +kernel) (da_cons (dv 0) (da_cons (de_ty (by rfl) m_str (by decide +kernel)) (da_nil)))))) (dsxs_one (dsx_raise rfl X_BadText tk (hr.mono (by decide)) (by rfl) (da_cons (de_non) (da_nil)))) (dsxs_nil))
    (dsxs_cons (dsx_set (i := 1) nd rfl (by first | exact .inl rfl | exact .inr rfl) (dex_callTy b_tuple (by rfl) m_tuple (by decide +kernel) (dex_lc (own := [("words", 3)]) rfl nd (dix_val (dex_callo DX_rows_of_words tk (hr.mono (by decide)) (by rfl) (da_cons (de_callo D_words_of (hr.mono (by decide)) (by rfl) (da_cons (dv 0) (da_nil))) (da_nil)))) (blkOk_by (by first | decide +kernel | rfl)) (by decide) (fun _ _ _ _ _ => dg_name (i := 3) nd rfl (by first | exact .inl rfl | exact .inr rfl)) (fun _ _ _ _ _ => dts_nil) (fun _ _ _ _ _ => de_callo D_row_of (hr.mono (by decide)) (by rfl) (da_cons (dv 3) (da_nil))))))
    (dsxs_cons (dsx_pure (ds_set (i := 2) nd rfl (by first | exact .inl rfl | exact .inr rfl) (de_callo D_history_error (hr.mono (by decide)) (by rfl) (da_cons (dv 1) (da_nil)))))
    (dsxs_cons (dsx_if (dt_notN (dv 2)) (dsxs_one (dsx_raise rfl X_BadHistory tk (hr.mono (by decide)) (by rfl) (da_cons (dv 2) (da_nil)))) (dsxs_nil))
    (dsxs_one (dsx_pure (ds_ret (dv 1)))))))
abbrev s__law_told : Stmt := topS 50
theorem sc__law_told : FnScope ["_law_value", "_law_found", "e"] ["_law_value"] (defScope s__law_told) := ⟨rfl, rfl, rfl, by decide +kernel, rfl, by decide +kernel, by decide +kernel⟩
set_option maxHeartbeats 4000000 in
theorem der__law_told {P : Program} {w : World} {K : PySem.W.Frag} {mg : Str → Option Value} {base : Heap} {f : Addr} {fd : FuncData} (F : Fun K "_law_told" "_law_told" s__law_told f fd) (DX_parse_history : DFx P w K mg base 6 "parse_history" 1 (dFnX 4 B_parse_history_f38e)) (T_LineError : DTab K mg "LineError" [("BadHistory", true), ("BadText", true)]) (XS : XSus K [("BadHistory", ["error"]), ("BadText", ["index"])]) (XT_BadText : XT K mg "BadText" [("BadHistory", false), ("BadText", true)]) (XT_BadHistory : XT K mg "BadHistory" [("BadHistory", true), ("BadText", false)]) (XT_BadEvent : XT K mg "BadEvent" [("BadHistory", false), ("BadText", false)]) (m_isinstance : mg "isinstance" = none): FnOk P w K mg base CX0 7 f fd ["_law_value"] (lP ⟨P, w, K⟩ 1 (dFn 3 B_law_told_75e9)) := by
  refine fn_o F sc__law_told rfl fun cdv A outer s H E hr => ?_
  have nd := sc__law_told.nd
  have u64 := hr.units
  have u65 : (A.deeper (envOfC "_law_told" (defScope s__law_told) s.heap.objs.size f cdv)).units + 65 < cLine := by have := hr.un; omega
  have u1 : (A.deeper (envOfC "_law_told" (defScope s__law_told) s.heap.objs.size f cdv)).units + 1 < cLine := by have := hr.un; omega
  unfold B_law_told_75e9
  exact dss_cons (ds_set (i := 1) nd rfl (by first | exact .inl rfl | exact .inr rfl) (de_non))
    (dss_cons (ds_tryAs rfl rfl nd rfl rfl (by rfl) T_LineError (fun W pn xe tk => dsxs_one (dsx_set (i := 1) nd rfl (by first | exact .inl rfl | exact .inr rfl) (dex_lst (dax_cons (de_str) (dax_last (dex_callo DX_parse_history tk (hr.mono (by decide)) (by rfl) (da_cons (dv 0) (da_nil)))))))) (fun a oe cls d pn hz hf => xs_asgL (j := 1) nd rfl (by first | exact .inl rfl | exact .inr rfl) (by rfl) (xa_str (xa_non (xa_nil))) (xs_if (PW.xt (xw_and (xt_is hz hf XS rfl XT_BadText (by rfl) m_isinstance (by rfl)) (xw_and1 (xt_not (xt_is2 hz hf XS rfl XT_BadHistory XT_BadEvent (by rfl) m_isinstance (by rfl) (by rfl)))))) (xs_asgL (j := 1) nd rfl (by first | exact .inl rfl | exact .inr rfl) (by rfl) (xa_str (xa_fld hz hf (XS ("BadText", ["index"]) (List.mem_of_getElem? (i := 1) rfl)) (List.mem_of_getElem? (i := 0) rfl) (xa_nil))) (xs_nil)) (xs_if (PW.xt (xw_and (xt_is hz hf XS rfl XT_BadHistory (by rfl) m_isinstance (by rfl)) (xw_and1 (xt_not (xt_is2 hz hf XS rfl XT_BadText XT_BadEvent (by rfl) m_isinstance (by rfl) (by rfl)))))) (xs_asgL (j := 1) nd rfl (by first | exact .inl rfl | exact .inr rfl) (by rfl) (xa_str (xa_fld hz hf (XS ("BadHistory", ["error"]) (List.mem_of_getElem? (i := 0) rfl)) (List.mem_of_getElem? (i := 0) rfl) (xa_nil))) (xs_nil)) (xs_nil)))))
    (dss_one (ds_ret (dv 1))))
abbrev s__law_draw : Stmt := topS 39
theorem sc__law_draw : FnScope ["_law_state_here", "_law_below", "_law_rest", "_law_cell", "_law_mixed_here"] ["_law_state_here", "_law_below"] (defScope s__law_draw) := ⟨rfl, rfl, rfl, by decide +kernel, rfl, by decide +kernel, by decide +kernel⟩
set_option maxHeartbeats 4000000 in
theorem der__law_draw {P : Program} {w : World} {K : PySem.W.Frag} {mg : Str → Option Value} {base : Heap} {f : Addr} {fd : FuncData} (F : Fun K "_law_draw" "_law_draw" s__law_draw f fd)  (m_len : mg "len" = none): FnOk P w K mg base CX0 1 f fd ["_law_state_here", "_law_below"] (lP ⟨P, w, K⟩ 2 (dFn 5 B_law_draw_a332)) := by
  refine fn_o F sc__law_draw rfl fun cdv A outer s H E hr => ?_
  have nd := sc__law_draw.nd
  have u64 := hr.units
  have u65 : (A.deeper (envOfC "_law_draw" (defScope s__law_draw) s.heap.objs.size f cdv)).units + 65 < cLine := by have := hr.un; omega
  have u1 : (A.deeper (envOfC "_law_draw" (defScope s__law_draw) s.heap.objs.size f cdv)).units + 1 < cLine := by have := hr.un; omega
  unfold B_law_draw_a332
  exact dss_cons (ds_while PassesOwn.never (dt_cmp (o_ne u64) (de_ix o_ix (dv 0) (de_int)) (de_lst (da_nil))) (dss_cons (ds_set (i := 2) nd rfl (by first | exact .inl rfl | exact .inr rfl) (de_ix o_ix (de_ix o_ix (dv 0) (de_int)) (de_int)))
    (dss_cons (ds_if (dt_cmp o_gt (dv 2) (de_int)) (dss_cons (ds_asg (b := true) (de_bin o_div (dv 2) (dv 1)) (dg_sub (de_ix o_ix (dv 0) (de_int)) (de_int)))
    (dss_one (ds_ret (de_bin o_mod (dv 2) (dv 1))))) (dss_nil))
    (dss_one (ds_expr (de_mL PySem.F.slot_list_pop PySem.F.type_list_pop m_popAt (de_ix o_ix (dv 0) (de_int)) (da_cons (de_int) (da_nil))))))))
    (dss_cons (ds_asg (b := true) (de_bin o_add (de_ix o_ix (dv 0) (de_int)) (de_int)) (dg_sub (dv 0) (de_int)))
    (dss_cons (ds_set (i := 3) nd rfl (by first | exact .inl rfl | exact .inr rfl) (de_bin o_mod (de_ix o_ix (de_ix o_ix (dv 0) (de_int)) (de_bin o_mod (de_ix o_ix (dv 0) (de_int)) (de_callB b_len (by rfl) m_len PySem.boot_len (da_cons (de_ix o_ix (dv 0) (de_int)) (da_nil))))) (de_int)))
    (dss_cons (ds_set (i := 4) nd rfl (by first | exact .inl rfl | exact .inr rfl) (de_bin o_add (de_bin o_mul (dv 3) (de_bin o_add (de_int) (de_bin o_mul (de_int) (de_ix o_ix (dv 0) (de_int))))) (de_int)))
    (dss_cons (ds_set (i := 4) nd rfl (by first | exact .inl rfl | exact .inr rfl) (de_bin o_mod (de_bin o_add (dv 4) (de_bin o_mul (de_bin o_mul (de_int) (de_ix o_ix (dv 0) (de_int))) (de_ix o_ix (dv 0) (de_int)))) (de_int)))
    (dss_one (ds_ret (de_bin o_mod (de_bin o_div (de_bin o_mod (de_bin o_mul (dv 4) (dv 4)) (de_int)) (de_int)) (dv 1))))))))
abbrev s__law_spoilt : Stmt := topS 47
theorem sc__law_spoilt : FnScope ["_law_state_here", "_law_word", "_law_at", "_law_sign", "_law_parts", "_law_k", "_law_some"] ["_law_state_here", "_law_word"] (defScope s__law_spoilt) := ⟨rfl, rfl, rfl, by decide +kernel, rfl, by decide +kernel, by decide +kernel⟩
set_option maxHeartbeats 4000000 in
theorem der__law_spoilt {P : Program} {w : World} {K : PySem.W.Frag} {mg : Str → Option Value} {base : Heap} {f : Addr} {fd : FuncData} (F : Fun K "_law_spoilt" "_law_spoilt" s__law_spoilt f fd) (D__law_draw : DFo P w K mg base 1 "_law_draw" 2 (dFn 5 B_law_draw_a332)) (m_len : mg "len" = none): FnOk P w K mg base CX0 2 f fd ["_law_state_here", "_law_word"] (lP ⟨P, w, K⟩ 2 (dFn 7 B_law_spoilt_0b62)) := by
  refine fn_o F sc__law_spoilt rfl fun cdv A outer s H E hr => ?_
  have nd := sc__law_spoilt.nd
  have u64 := hr.units
  have u65 : (A.deeper (envOfC "_law_spoilt" (defScope s__law_spoilt) s.heap.objs.size f cdv)).units + 65 < cLine := by have := hr.un; omega
  have u1 : (A.deeper (envOfC "_law_spoilt" (defScope s__law_spoilt) s.heap.objs.size f cdv)).units + 1 < cLine := by have := hr.un; omega
  unfold B_law_spoilt_0b62
  exact dss_cons (ds_set (i := 2) nd rfl (by first | exact .inl rfl | exact .inr rfl) (de_callo D__law_draw (hr.mono (by decide)) (by rfl) (da_cons (dv 0) (da_cons (de_bin o_add (de_callB b_lenT (by rfl) m_len PySem.boot_len (da_cons (dv 1) (da_nil))) (de_int)) (da_nil)))))
    (dss_cons (ds_set (i := 3) nd rfl (by first | exact .inl rfl | exact .inr rfl) (de_ix o_ixS (de_str) (de_callo D__law_draw (hr.mono (by decide)) (by rfl) (da_cons (dv 0) (da_cons (de_int) (da_nil))))))
    (dss_cons (ds_set (i := 4) nd rfl (by first | exact .inl rfl | exact .inr rfl) (de_split (dv 1) (de_str)))
    (dss_cons (ds_set (i := 5) nd rfl (by first | exact .inl rfl | exact .inr rfl) (de_callo D__law_draw (hr.mono (by decide)) (by rfl) (da_cons (dv 0) (da_cons (de_callB b_len (by rfl) m_len PySem.boot_len (da_cons (dv 4) (da_nil))) (da_nil)))))
    (dss_cons (ds_set (i := 6) nd rfl (by first | exact .inl rfl | exact .inr rfl) (de_lst (da_cons (de_bin o_add (de_bin o_add (de_slS (dv 1) (do_none) (do_some (dv 2))) (dv 3)) (de_slS (dv 1) (do_some (dv 2)) (do_none))) (da_cons (de_bin o_add (de_bin o_add (de_slS (dv 1) (do_none) (do_some (dv 2))) (dv 3)) (de_slS (dv 1) (do_some (de_bin o_add (dv 2) (de_int))) (do_none))) (da_cons (de_bin o_add (de_slS (dv 1) (do_none) (do_some (dv 2))) (de_slS (dv 1) (do_some (de_bin o_add (dv 2) (de_int))) (do_none))) (da_cons (de_slS (dv 1) (do_none) (do_some (dv 2))) (da_nil)))))))
    (dss_cons (ds_set (i := 6) nd rfl (by first | exact .inl rfl | exact .inr rfl) (de_bin o_add (dv 6) (de_lst (da_cons (de_join (de_str) (de_bin o_add (de_sl (dv 4) (do_none) (do_some (dv 5))) (de_sl (dv 4) (do_some (de_bin o_add (dv 5) (de_int))) (do_none)))) (da_cons (de_join (de_str) (de_bin o_add (de_sl (dv 4) (do_none) (do_some (de_bin o_add (dv 5) (de_int)))) (de_sl (dv 4) (do_some (dv 5)) (do_none)))) (da_cons (de_bin o_add (dv 1) (de_str)) (da_cons (de_bin o_add (de_str) (dv 1)) (da_nil))))))))
    (dss_cons (ds_set (i := 6) nd rfl (by first | exact .inl rfl | exact .inr rfl) (de_bin o_add (dv 6) (de_lst (da_upS (dv 1) (dat_cons (DET.of (de_join (de_str) (de_bin o_add (de_bin o_add (de_sl (dv 4) (do_none) (do_some (dv 5))) (de_lst (da_cons (de_str) (da_nil)))) (de_sl (dv 4) (do_some (de_bin o_add (dv 5) (de_int))) (do_none))))) (dat_cons (de_repl (dv 1)) (dat_cons (DET.of (de_revS (dv 1))) (dat_nil))))))))
    (dss_one (ds_ret (de_ix o_ix (de_bin o_add (dv 6) (de_lst (da_cons (de_join (de_str) (de_bin o_add (de_bin o_add (de_sl (dv 4) (do_none) (do_some (dv 5))) (de_lst (da_cons (de_str) (da_nil)))) (de_sl (dv 4) (do_some (dv 5)) (do_none)))) (da_nil)))) (de_callo D__law_draw (hr.mono (by decide)) (by rfl) (da_cons (dv 0) (da_cons (de_int) (da_nil)))))))))))))
abbrev s__law_event_text : Stmt := topS 42
theorem sc__law_event_text : FnScope ["_law_event"] ["_law_event"] (defScope s__law_event_text) := ⟨rfl, rfl, rfl, by decide +kernel, rfl, by decide +kernel, by decide +kernel⟩
set_option maxHeartbeats 4000000 in
theorem der__law_event_text {P : Program} {w : World} {K : PySem.W.Frag} {mg : Str → Option Value} {base : Heap} {f : Addr} {fd : FuncData} (F : Fun K "_law_event_text" "_law_event_text" s__law_event_text f fd)  (m_str : mg "str" = none): FnOk P w K mg base CX0 1 f fd ["_law_event"] (lP ⟨P, w, K⟩ 1 (dFn 1 B_law_event_text_afb5)) := by
  refine fn_o F sc__law_event_text rfl fun cdv A outer s H E hr => ?_
  have nd := sc__law_event_text.nd
  have u64 := hr.units
  have u65 : (A.deeper (envOfC "_law_event_text" (defScope s__law_event_text) s.heap.objs.size f cdv)).units + 65 < cLine := by have := hr.un; omega
  have u1 : (A.deeper (envOfC "_law_event_text" (defScope s__law_event_text) s.heap.objs.size f cdv)).units + 1 < cLine := by have := hr.un; omega
  unfold B_law_event_text_afb5
  exact dss_one (ds_ret (de_ifExp (dt_cmp (o_eq u64) (dv 0) (de_int)) (de_str) (de_ifExp (dt_cmp o_gt (dv 0) (de_int)) (de_bin o_add (de_str) (de_callTy b_str (by rfl) m_str (by decide +kernel) (da_cons (dv 0) (da_nil)))) (de_callTy b_str (by rfl) m_str (by decide +kernel) (da_cons (dv 0) (da_nil))))))
abbrev s__law_history_text : Stmt := topS 43
theorem sc__law_history_text : FnScope ["_law_rows", "_law_parts", "_law_row", "_law_event"] ["_law_rows"] (defScope s__law_history_text) := ⟨rfl, rfl, rfl, by decide +kernel, rfl, by decide +kernel, by decide +kernel⟩
set_option maxHeartbeats 4000000 in
theorem der__law_history_text {P : Program} {w : World} {K : PySem.W.Frag} {mg : Str → Option Value} {base : Heap} {f : Addr} {fd : FuncData} (F : Fun K "_law_history_text" "_law_history_text" s__law_history_text f fd) (D__law_event_text : DFo P w K mg base 1 "_law_event_text" 1 (dFn 1 B_law_event_text_afb5)): FnOk P w K mg base CX0 2 f fd ["_law_rows"] (lP ⟨P, w, K⟩ 1 (dFn 4 B_law_history_text_6ea4)) := by
  refine fn_o F sc__law_history_text rfl fun cdv A outer s H E hr => ?_
  have nd := sc__law_history_text.nd
  have u64 := hr.units
  have u65 : (A.deeper (envOfC "_law_history_text" (defScope s__law_history_text) s.heap.objs.size f cdv)).units + 65 < cLine := by have := hr.un; omega
  have u1 : (A.deeper (envOfC "_law_history_text" (defScope s__law_history_text) s.heap.objs.size f cdv)).units + 1 < cLine := by have := hr.un; omega
  unfold B_law_history_text_6ea4
  exact dss_cons (ds_set (i := 1) nd rfl (by first | exact .inl rfl | exact .inr rfl) (de_lst (da_nil)))
    (dss_cons (ds_for PassesOwn.never rfl (di_val (dv 0)) (dg_name (i := 2) nd rfl (by first | exact .inl rfl | exact .inr rfl)) (dss_one (ds_expr (de_mL PySem.F.slot_list_append PySem.F.type_list_append m_append (dv 1) (da_cons (de_orS (de_join (de_str) (de_lc (own := [("_law_event", 3)]) rfl nd (di_val (dv 2)) (blkOk_by (by first | decide +kernel | rfl)) (by decide) (fun _ _ _ _ _ => dg_name (i := 3) nd rfl (by first | exact .inl rfl | exact .inr rfl)) (fun _ _ _ _ _ => dts_nil) (fun _ _ _ _ _ => de_callo D__law_event_text (hr.mono (by decide)) (by rfl) (da_cons (dv 3) (da_nil))))) (de_one (de_str))) (da_nil))))))
    (dss_one (ds_ret (de_join (de_str) (dv 1)))))
abbrev s__law_pick : Stmt := topS 45
theorem sc__law_pick : FnScope ["_law_state_here", "_law_items"] ["_law_state_here", "_law_items"] (defScope s__law_pick) := ⟨rfl, rfl, rfl, by decide +kernel, rfl, by decide +kernel, by decide +kernel⟩
set_option maxHeartbeats 4000000 in
theorem der__law_pick {P : Program} {w : World} {K : PySem.W.Frag} {mg : Str → Option Value} {base : Heap} {f : Addr} {fd : FuncData} (F : Fun K "_law_pick" "_law_pick" s__law_pick f fd) (D__law_draw : DFo P w K mg base 1 "_law_draw" 2 (dFn 5 B_law_draw_a332)) (m_len : mg "len" = none): FnOk P w K mg base CX0 2 f fd ["_law_state_here", "_law_items"] (lP ⟨P, w, K⟩ 2 (dFn 2 B_law_pick_6e96)) := by
  refine fn_o F sc__law_pick rfl fun cdv A outer s H E hr => ?_
  have nd := sc__law_pick.nd
  have u64 := hr.units
  have u65 : (A.deeper (envOfC "_law_pick" (defScope s__law_pick) s.heap.objs.size f cdv)).units + 65 < cLine := by have := hr.un; omega
  have u1 : (A.deeper (envOfC "_law_pick" (defScope s__law_pick) s.heap.objs.size f cdv)).units + 1 < cLine := by have := hr.un; omega
  unfold B_law_pick_6e96
  exact dss_one (ds_ret (de_ix o_ix (dv 1) (de_callo D__law_draw (hr.mono (by decide)) (by rfl) (da_cons (dv 0) (da_cons (de_callB b_len (by rfl) m_len PySem.boot_len (da_cons (dv 1) (da_nil))) (da_nil))))))
abbrev s__law_mixed : Stmt := topS 44
theorem sc__law_mixed : FnScope ["_law_state_here", "_law_items", "_law_left", "_law_found"] ["_law_state_here", "_law_items"] (defScope s__law_mixed) := ⟨rfl, rfl, rfl, by decide +kernel, rfl, by decide +kernel, by decide +kernel⟩
set_option maxHeartbeats 4000000 in
theorem der__law_mixed {P : Program} {w : World} {K : PySem.W.Frag} {mg : Str → Option Value} {base : Heap} {f : Addr} {fd : FuncData} (F : Fun K "_law_mixed" "_law_mixed" s__law_mixed f fd) (D__law_draw : DFo P w K mg base 1 "_law_draw" 2 (dFn 5 B_law_draw_a332)) (m_tuple : mg "tuple" = none) (m_len : mg "len" = none) (m_list : mg "list" = none): FnOk P w K mg base CX0 2 f fd ["_law_state_here", "_law_items"] (lP ⟨P, w, K⟩ 2 (dFn 4 B_law_mixed_b93a)) := by
  refine fn_o F sc__law_mixed rfl fun cdv A outer s H E hr => ?_
  have nd := sc__law_mixed.nd
  have u64 := hr.units
  have u65 : (A.deeper (envOfC "_law_mixed" (defScope s__law_mixed) s.heap.objs.size f cdv)).units + 65 < cLine := by have := hr.un; omega
  have u1 : (A.deeper (envOfC "_law_mixed" (defScope s__law_mixed) s.heap.objs.size f cdv)).units + 1 < cLine := by have := hr.un; omega
  unfold B_law_mixed_b93a
  exact dss_cons (ds_par (i := 2) (j := 3) (by rfl) nd rfl rfl (by decide) rfl rfl (da_cons (de_callTy b_list (by rfl) m_list (by decide +kernel) (da_cons (dv 1) (da_nil))) (da_cons (de_lst (da_nil)) (da_nil))) (by rfl))
    (dss_cons (ds_while PassesOwn.never (dt_cmp (o_ne u64) (dv 2) (de_lst (da_nil))) (dss_one (ds_expr (de_mL PySem.F.slot_list_append PySem.F.type_list_append m_append (dv 3) (da_cons (de_mL PySem.F.slot_list_pop PySem.F.type_list_pop m_popAt (dv 2) (da_cons (de_callo D__law_draw (hr.mono (by decide)) (by rfl) (da_cons (dv 0) (da_cons (de_callB b_len (by rfl) m_len PySem.boot_len (da_cons (dv 2) (da_nil))) (da_nil)))) (da_nil))) (da_nil))))))
    (dss_one (ds_ret (de_callTy b_tuple (by rfl) m_tuple (by decide +kernel) (da_cons (dv 3) (da_nil))))))
abbrev s__law_history : Stmt := topS 46
theorem sc__law_history : FnScope ["_law_state_here", "_law_many", "_law_most", "_law_count", "_law_names", "_law_kind", "_law_rows", "_law_open_ones", "_law_used", "_law_turn", "_law_process", "_law_way", "_law_ready", "_law_message", "_law_pair"] ["_law_state_here", "_law_many", "_law_most"] (defScope s__law_history) := ⟨rfl, rfl, rfl, by decide +kernel, rfl, by decide +kernel, by decide +kernel⟩
set_option maxHeartbeats 4000000 in
theorem der__law_history {P : Program} {w : World} {K : PySem.W.Frag} {mg : Str → Option Value} {base : Heap} {f : Addr} {fd : FuncData} (F : Fun K "_law_history" "_law_history" s__law_history f fd) (D__law_draw : DFo P w K mg base 1 "_law_draw" 2 (dFn 5 B_law_draw_a332)) (D__law_pick : DFo P w K mg base 2 "_law_pick" 2 (dFn 2 B_law_pick_6e96)) (D__law_mixed : DFo P w K mg base 2 "_law_mixed" 2 (dFn 4 B_law_mixed_b93a)) (m_tuple : mg "tuple" = none) (m_range : mg "range" = none) (m_list : mg "list" = none): FnOk P w K mg base CX0 3 f fd ["_law_state_here", "_law_many", "_law_most"] (lP ⟨P, w, K⟩ 3 (dFn 15 B_law_history_6dd1)) := by
  refine fn_o F sc__law_history rfl fun cdv A outer s H E hr => ?_
  have nd := sc__law_history.nd
  have u64 := hr.units
  have u65 : (A.deeper (envOfC "_law_history" (defScope s__law_history) s.heap.objs.size f cdv)).units + 65 < cLine := by have := hr.un; omega
  have u1 : (A.deeper (envOfC "_law_history" (defScope s__law_history) s.heap.objs.size f cdv)).units + 1 < cLine := by have := hr.un; omega
  unfold B_law_history_6dd1
  exact dss_cons (ds_set (i := 3) nd rfl (by first | exact .inl rfl | exact .inr rfl) (de_bin o_add (de_int) (de_callo D__law_draw (hr.mono (by decide)) (by rfl) (da_cons (dv 0) (da_cons (dv 1) (da_nil))))))
    (dss_cons (ds_set (i := 4) nd rfl (by first | exact .inl rfl | exact .inr rfl) (de_callo D__law_mixed (hr.mono (by decide)) (by rfl) (da_cons (dv 0) (da_cons (de_listRg2 rfl (by rfl) m_list (by rfl) m_range (de_int) (de_int)) (da_nil)))))
    (dss_cons (ds_asg (b := true) (de_tup (da_cons (de_callo D__law_draw (hr.mono (by decide)) (by rfl) (da_cons (dv 0) (da_cons (de_int) (da_nil)))) (da_cons (de_bin o_mul (de_lst (da_cons (de_tup (da_nil)) (da_nil))) (dv 3)) (da_cons (de_lst (da_nil)) (da_cons (de_int) (da_nil)))))) (dg_tup rfl (dgs_cons (dg_name (i := 5) nd rfl (by first | exact .inl rfl | exact .inr rfl)) (dgs_cons (dg_name (i := 6) nd rfl (by first | exact .inl rfl | exact .inr rfl)) (dgs_cons (dg_name (i := 7) nd rfl (by first | exact .inl rfl | exact .inr rfl)) (dgs_cons (dg_name (i := 8) nd rfl (by first | exact .inl rfl | exact .inr rfl)) (dgs_nil)))))))
    (dss_cons (ds_for PassesOwn.never rfl (di_rg1 (by rfl) m_range (da_cons (de_callo D__law_draw (hr.mono (by decide)) (by rfl) (da_cons (dv 0) (da_cons (de_bin o_add (dv 2) (de_int)) (da_nil)))) (da_nil))) (dg_name (i := 9) nd rfl (by first | exact .inl rfl | exact .inr rfl)) (dss_cons (ds_asg (b := true) (de_tup (da_cons (de_callo D__law_draw (hr.mono (by decide)) (by rfl) (da_cons (dv 0) (da_cons (dv 3) (da_nil)))) (da_cons (de_callo D__law_draw (hr.mono (by decide)) (by rfl) (da_cons (dv 0) (da_cons (de_int) (da_nil)))) (da_nil)))) (dg_tup rfl (dgs_cons (dg_name (i := 10) nd rfl (by first | exact .inl rfl | exact .inr rfl)) (dgs_cons (dg_name (i := 11) nd rfl (by first | exact .inl rfl | exact .inr rfl)) (dgs_nil)))))
    (dss_cons (ds_setLc (i := 12) (own := [("_law_pair", 14)]) rfl nd rfl rfl (sw_true rfl rfl rfl (by decide +kernel)) (di_val (dv 7)) (blkOk_by (by first | decide +kernel | rfl)) (by decide) (fun _ _ _ _ _ => dg_name (i := 14) nd rfl (by first | exact .inl rfl | exact .inr rfl)) (fun _ _ _ _ _ => dts_one (dt_cmp (o_ne u64) (de_ix o_ix (dv 14) (de_int)) (dv 10))) (fun _ _ _ _ _ => dv 14))
    (dss_one (ds_if (DW.dt (dw_or (DW.dt (dw_and (dt_cmp o_lt (dv 11) (de_int)) (dw_and1 (dt_cmp (o_ne u64) (dv 5) (de_int))))) (dw_or1 (dt_cmp (o_eq u64) (dv 11) (de_int))))) (dss_one (ds_asg (b := true) (de_bin o_add (de_ix o_ix (dv 6) (dv 10)) (de_tup (da_cons (de_int) (da_nil)))) (dg_sub (dv 6) (dv 10)))) (dss_one (ds_if (DW.dt (dw_or (DW.dt (dw_and (dt_cmp o_lt (dv 11) (de_int)) (dw_and1 (dt_cmp o_lt (dv 8) (de_int))))) (dw_or1 (dt_cmp (o_eq u64) (dv 12) (de_lst (da_nil)))))) (dss_one (ds_if (dt_cmp o_lt (dv 8) (de_int)) (dss_cons (ds_set (i := 13) nd rfl (by first | exact .inl rfl | exact .inr rfl) (de_ifExp (dt_cmp (o_eq u64) (dv 5) (de_int)) (de_bin o_add (dv 8) (de_int)) (de_ix o_ix (dv 4) (dv 8))))
    (dss_cons (ds_asg (b := true) (de_bin o_add (de_ix o_ix (dv 6) (dv 10)) (de_tup (da_cons (dv 13) (da_nil)))) (dg_sub (dv 6) (dv 10)))
    (dss_cons (ds_expr (de_mL PySem.F.slot_list_append PySem.F.type_list_append m_append (dv 7) (da_cons (de_tup (da_cons (dv 13) (da_cons (dv 10) (da_nil)))) (da_nil))))
    (dss_one (ds_set (i := 8) nd rfl (by first | exact .inl rfl | exact .inr rfl) (de_bin o_add (dv 8) (de_int))))))) (dss_nil))) (dss_cons (ds_set (i := 14) nd rfl (by first | exact .inl rfl | exact .inr rfl) (de_ifExp (dt_cmp (o_eq u64) (dv 5) (de_int)) (de_ix o_ix (dv 12) (de_int)) (de_callo D__law_pick (hr.mono (by decide)) (by rfl) (da_cons (dv 0) (da_cons (dv 12) (da_nil))))))
    (dss_cons (ds_expr (de_mL PySem.F.slot_list_remove PySem.F.type_list_remove (m_remove u64) (dv 7) (da_cons (dv 14) (da_nil))))
    (dss_one (ds_asg (b := true) (de_bin o_add (de_ix o_ix (dv 6) (dv 10)) (de_tup (da_cons (de_bin o_sub (de_int) (de_ix o_ix (dv 14) (de_int))) (da_nil)))) (dg_sub (dv 6) (dv 10)))))))))))))
    (dss_one (ds_ret (de_callTy b_tuple (by rfl) m_tuple (by decide +kernel) (da_cons (dv 6) (da_nil))))))))
abbrev s__law_odd : Stmt := topS 40
theorem sc__law_odd : FnScope ["_law_state_here", "_law_some"] ["_law_state_here"] (defScope s__law_odd) := ⟨rfl, rfl, rfl, by decide +kernel, rfl, by decide +kernel, by decide +kernel⟩
set_option maxHeartbeats 4000000 in
theorem der__law_odd {P : Program} {w : World} {K : PySem.W.Frag} {mg : Str → Option Value} {base : Heap} {f : Addr} {fd : FuncData} (F : Fun K "_law_odd" "_law_odd" s__law_odd f fd) (D__law_draw : DFo P w K mg base 1 "_law_draw" 2 (dFn 5 B_law_draw_a332)): FnOk P w K mg base CX0 2 f fd ["_law_state_here"] (lP ⟨P, w, K⟩ 1 (dFn 2 B_law_odd_0f51)) := by
  refine fn_o F sc__law_odd rfl fun cdv A outer s H E hr => ?_
  have nd := sc__law_odd.nd
  have u64 := hr.units
  have u65 : (A.deeper (envOfC "_law_odd" (defScope s__law_odd) s.heap.objs.size f cdv)).units + 65 < cLine := by have := hr.un; omega
  have u1 : (A.deeper (envOfC "_law_odd" (defScope s__law_odd) s.heap.objs.size f cdv)).units + 1 < cLine := by have := hr.un; omega
  unfold B_law_odd_0f51
  exact dss_cons (ds_set (i := 1) nd rfl (by first | exact .inl rfl | exact .inr rfl) (de_lstS (da_cons (de_non) (da_cons (de_bl) (da_cons (de_bl) (da_cons (de_un o_neg (de_int)) (da_cons (de_int) (da_cons (de_int) (da_cons (de_int) (da_cons (de_int) (da_cons (de_int) (da_cons (de_int) (da_cons (de_un o_neg (de_int)) (da_cons (de_bin o_pow (de_int) (de_int)) (da_cons (de_str) (da_cons (de_str) (da_cons (de_str) (da_cons (de_tup (da_nil)) (da_cons (de_lstS (da_nil)) (da_cons (de_dnew) (da_cons (de_tup (da_cons (de_int) (da_nil))) (da_cons (de_lstS (da_cons (de_int) (da_nil))) (da_cons (de_tup (da_cons (de_tup (da_nil)) (da_nil))) (da_nil))))))))))))))))))))))))
    (dss_one (ds_ret (de_ix o_ix (de_bin o_add (dv 1) (de_lstS (da_cons (de_tup (da_cons (de_int) (da_cons (de_int) (da_nil)))) (da_cons (de_tup (da_cons (de_int) (da_cons (de_int) (da_nil)))) (da_cons (de_disp1 (de_str) (de_int)) (da_nil)))))) (de_callo D__law_draw (hr.mono (by decide)) (by rfl) (da_cons (dv 0) (da_cons (de_int) (da_nil)))))))
abbrev s__law_state : Stmt := topS 38
theorem sc__law_state : FnScope ["_law_script", "_law_cells", "_law_cell"] ["_law_script"] (defScope s__law_state) := ⟨rfl, rfl, rfl, by decide +kernel, rfl, by decide +kernel, by decide +kernel⟩
set_option maxHeartbeats 4000000 in
theorem der__law_state {P : Program} {w : World} {K : PySem.W.Frag} {mg : Str → Option Value} {base : Heap} {f : Addr} {fd : FuncData} (F : Fun K "_law_state" "_law_state" s__law_state f fd)  (m_len : mg "len" = none) (m_abs : mg "abs" = none): FnOk P w K mg base CX0 1 f fd ["_law_script"] (lP ⟨P, w, K⟩ 1 (dFn 3 B_law_state_64d4)) := by
  refine fn_o F sc__law_state rfl fun cdv A outer s H E hr => ?_
  have nd := sc__law_state.nd
  have u64 := hr.units
  have u65 : (A.deeper (envOfC "_law_state" (defScope s__law_state) s.heap.objs.size f cdv)).units + 65 < cLine := by have := hr.un; omega
  have u1 : (A.deeper (envOfC "_law_state" (defScope s__law_state) s.heap.objs.size f cdv)).units + 1 < cLine := by have := hr.un; omega
  unfold B_law_state_64d4
  exact dss_cons (ds_setLc (i := 1) (own := [("_law_cell", 2)]) rfl nd rfl rfl (sw_true rfl rfl rfl (by decide +kernel)) (di_val (dv 0)) (blkOk_by (by first | decide +kernel | rfl)) (by decide) (fun _ _ _ _ _ => dg_name (i := 2) nd rfl (by first | exact .inl rfl | exact .inr rfl)) (fun _ _ _ _ _ => dts_nil) (fun _ _ _ _ _ => de_callB b_abs (by rfl) m_abs (by decide +kernel) (da_cons (dv 2) (da_nil))))
    (dss_one (ds_ret (de_lst (da_cons (de_lc (own := [("_law_cell", 2)]) rfl nd (di_val (dv 1)) (blkOk_by (by first | decide +kernel | rfl)) (by decide) (fun _ _ _ _ _ => dg_name (i := 2) nd rfl (by first | exact .inl rfl | exact .inr rfl)) (fun _ _ _ _ _ => dts_one (dt_cmp o_ge (dv 2) (de_bin o_pow (de_int) (de_int)))) (fun _ _ _ _ _ => dv 2)) (da_cons (de_bin o_add (dv 1) (de_lst (da_cons (de_bin o_add (de_callB b_len (by rfl) m_len PySem.boot_len (da_cons (dv 1) (da_nil))) (de_int)) (da_nil)))) (da_cons (de_int) (da_nil)))))))
abbrev s_law : Stmt := topS 51
theorem sc_law : FnScope ["_law_script", "_law_state_here", "_law_fixed", "_law_value", "_law_turn", "_law_word", "_law_k"] ["_law_script"] (defScope s_law) := ⟨rfl, rfl, rfl, by decide +kernel, rfl, by decide +kernel, by decide +kernel⟩
set_option maxHeartbeats 4000000 in
theorem der_law {P : Program} {w : World} {K : PySem.W.Frag} {mg : Str → Option Value} {base : Heap} {f : Addr} {fd : FuncData} (F : Fun K "law" "law" s_law f fd) (D__law_same : DFn P w K mg base 1 "_law_same" 2 (dFn 2 B_law_same_de9b)) (D__law_due : DFo P w K mg base 6 "_law_due" 1 (dFn 9 B_law_due_dd10)) (D__law_told : DFo P w K mg base 7 "_law_told" 1 (dFn 3 B_law_told_75e9)) (D__law_draw : DFo P w K mg base 1 "_law_draw" 2 (dFn 5 B_law_draw_a332)) (D__law_spoilt : DFo P w K mg base 2 "_law_spoilt" 2 (dFn 7 B_law_spoilt_0b62)) (D__law_history_text : DFo P w K mg base 2 "_law_history_text" 1 (dFn 4 B_law_history_text_6ea4)) (D__law_history : DFo P w K mg base 3 "_law_history" 3 (dFn 15 B_law_history_6dd1)) (D__law_odd : DFo P w K mg base 2 "_law_odd" 1 (dFn 2 B_law_odd_0f51)) (D__law_state : DFo P w K mg base 1 "_law_state" 1 (dFn 3 B_law_state_64d4)) (m_range : mg "range" = none): FnG P w K mg base 8 f fd ["_law_script"] (lP ⟨P, w, K⟩ 1 (dFn 7 B_law_4b1d)) := by
  refine fn_d F sc_law rfl fun cdv A outer s H E hg hr => ?_
  have nd := sc_law.nd
  have u64 := hr.units
  have u65 : (A.deeper (envOfC "law" (defScope s_law) s.heap.objs.size f cdv)).units + 65 < cLine := by have := hr.un; omega
  have u1 : (A.deeper (envOfC "law" (defScope s_law) s.heap.objs.size f cdv)).units + 1 < cLine := by have := hr.un; omega
  unfold B_law_4b1d
  exact dss_cons (ds_set (i := 1) nd rfl (by first | exact .inl rfl | exact .inr rfl) (de_callo D__law_state (hr.mono (by decide)) (by rfl) (da_cons (dv 0) (da_nil))))
    (dss_cons (ds_set (i := 2) nd rfl (by first | exact .inl rfl | exact .inr rfl) (de_lst (da_cons (de_str) (da_cons (de_str) (da_cons (de_str) (da_cons (de_str) (da_cons (de_str) (da_cons (de_str) (da_cons (de_str) (da_cons (de_str) (da_cons (de_str) (da_cons (de_str) (da_cons (de_str) (da_cons (de_str) (da_cons (de_str) (da_cons (de_str) (da_cons (de_str) (da_nil))))))))))))))))))
    (dss_cons (ds_set (i := 2) nd rfl (by first | exact .inl rfl | exact .inr rfl) (de_bin o_add (dv 2) (de_lst (da_cons (de_str) (da_cons (de_str) (da_cons (de_str) (da_cons (de_str) (da_nil))))))))
    (dss_cons (ds_set (i := 2) nd rfl (by first | exact .inl rfl | exact .inr rfl) (de_bin o_add (dv 2) (de_lst (da_cons (de_str) (da_cons (de_str) (da_cons (de_str) (da_cons (de_str) (da_cons (de_str) (da_cons (de_str) (da_cons (de_str) (da_nil)))))))))))
    (dss_cons (ds_expr (de_mL PySem.F.slot_list_append PySem.F.type_list_append m_append (dv 2) (da_cons (de_str) (da_nil))))
    (dss_cons (ds_set (i := 2) nd rfl (by first | exact .inl rfl | exact .inr rfl) (de_bin o_add (dv 2) (de_lst (da_cons (de_str) (da_cons (de_join (de_str) (de_bin o_mul (de_lst (da_cons (de_str) (da_nil))) (de_int))) (da_cons (de_join (de_str) (de_bin o_mul (de_lst (da_cons (de_str) (da_nil))) (de_int))) (da_cons (de_str) (da_nil))))))))
    (dss_cons (ds_for PassesOwn.never rfl (di_val (de_bin o_add (dv 2) (de_lst (da_cons (de_non) (da_cons (de_int) (da_cons (de_bl) (da_cons (de_tup (da_nil)) (da_cons (de_lst (da_nil)) (da_cons (de_dnew) (da_cons (de_tup (da_cons (de_tup (da_cons (de_int) (da_nil))) (da_nil))) (da_cons (de_callo D__law_odd (hr.mono (by decide)) (by rfl) (da_cons (dv 1) (da_nil))) (da_nil)))))))))))) (dg_name (i := 3) nd rfl (by first | exact .inl rfl | exact .inr rfl)) (dss_one (ds_if (dt_not (dt_val (de_call D__law_same hg (hr.mono (by decide)) (by rfl) (da_cons (de_callo D__law_told (hr.mono (by decide)) (by rfl) (da_cons (dv 3) (da_nil))) (da_cons (de_callo D__law_due (hr.mono (by decide)) (by rfl) (da_cons (dv 3) (da_nil))) (da_nil)))))) (dss_one (ds_ret (de_bl))) (dss_nil))))
    (dss_cons (ds_for PassesOwn.never rfl (di_rg1 (by rfl) m_range (da_cons (de_int) (da_nil))) (dg_name (i := 4) nd rfl (by first | exact .inl rfl | exact .inr rfl)) (dss_cons (ds_set (i := 5) nd rfl (by first | exact .inl rfl | exact .inr rfl) (de_callo D__law_history_text (hr.mono (by decide)) (by rfl) (da_cons (de_callo D__law_history (hr.mono (by decide)) (by rfl) (da_cons (dv 1) (da_cons (de_int) (da_cons (de_int) (da_nil))))) (da_nil))))
    (dss_one (ds_for PassesOwn.never rfl (di_rg1 (by rfl) m_range (da_cons (de_int) (da_nil))) (dg_name (i := 6) nd rfl (by first | exact .inl rfl | exact .inr rfl)) (dss_cons (ds_set (i := 3) nd rfl (by first | exact .inl rfl | exact .inr rfl) (de_callo D__law_spoilt (hr.mono (by decide)) (by rfl) (da_cons (dv 1) (da_cons (dv 5) (da_nil)))))
    (dss_cons (ds_if (dt_cmp (o_eq u64) (de_callo D__law_draw (hr.mono (by decide)) (by rfl) (da_cons (dv 1) (da_cons (de_int) (da_nil)))) (de_int)) (dss_one (ds_set (i := 3) nd rfl (by first | exact .inl rfl | exact .inr rfl) (de_callo D__law_spoilt (hr.mono (by decide)) (by rfl) (da_cons (dv 1) (da_cons (dv 3) (da_nil)))))) (dss_nil))
    (dss_one (ds_if (dt_not (dt_val (de_call D__law_same hg (hr.mono (by decide)) (by rfl) (da_cons (de_callo D__law_told (hr.mono (by decide)) (by rfl) (da_cons (dv 3) (da_nil))) (da_cons (de_callo D__law_due (hr.mono (by decide)) (by rfl) (da_cons (dv 3) (da_nil))) (da_nil)))))) (dss_one (ds_ret (de_bl))) (dss_nil)))))))))
    (dss_one (ds_ret (de_bl))))))))))
end Sv
set_option maxHeartbeats 4000000
set_option autoImplicit false
namespace Sv
open PySem PySem.Spec PyProof.Rows L2
def evS (i : Int) : Str := if i = 0 then Str.ofString "." else evT i
/-- what is asked of a word of an event -/
def evOk (i : Int) : Bool :=
  let w := evS i
  decide (1 ≤ w.length) && decide (w.length ≤ 3) && w.cps.all (fun c => decide (c < 127) && decide (c ≠ 32)) && decide (w ≠ Str.ofString "|") && decide (w ≠ Str.ofString "_") &&
  (if i = 0 then decide (w = Str.ofString ".") else
    let z := L2.cutS w (some 1) none
    decide (w ≠ Str.ofString ".") && Txt.isascii z && Txt.isdigit z && decide (1 ≤ z.length) && decide (z.length ≤ 6) && (match atI z.cps.toList 0 with | some c => !decide (c = 48) | none => false) &&
    decide (PySem.intText? z = some (i.natAbs : Int)) && (match atI w.cps.toList 0 with | some c => decide (c = if 0 < i then 43 else 45) | none => false))
theorem ev_all : (List.range 49).all (fun k => evOk ((k : Int) - 24)) = true := by decide +kernel
theorem ev_ok {i : Int} (h0 : -24 ≤ i) (h1 : i ≤ 24) : evOk i = true := by
  have h := List.all_eq_true.mp ev_all (i + 24).toNat (List.mem_range.mpr (by omega))
  have e : (((i + 24).toNat : Nat) : Int) - 24 = i := by omega
  rw [e] at h
  exact h
structure EvW (i : Int) : Prop where
  len1 : 1 ≤ (evS i).length
  len3 : (evS i).length ≤ 3
  sgn : ∀ c ∈ TL.tl (evS i), c < 127 ∧ c ≠ 32
  bar : evS i ≠ Str.ofString "|"
  non : evS i ≠ Str.ofString "_"
structure EvM (i : Int) : Prop where
  dot : evS i ≠ Str.ofString "."
  asc : Txt.isascii (L2.cutS (evS i) (some 1) none) = true
  dig : Txt.isdigit (L2.cutS (evS i) (some 1) none) = true
  l1 : 1 ≤ (L2.cutS (evS i) (some 1) none).length
  l6 : (L2.cutS (evS i) (some 1) none).length ≤ 6
  fst : ∃ c, atI (L2.cutS (evS i) (some 1) none).cps.toList 0 = some c ∧ c ≠ 48
  int : PySem.intText? (L2.cutS (evS i) (some 1) none) = some (i.natAbs : Int)
  sig : atI (evS i).cps.toList 0 = some (if 0 < i then 43 else 45)
theorem ev_w {i : Int} (h0 : -24 ≤ i) (h1 : i ≤ 24) : EvW i := by
  have h := ev_ok h0 h1
  unfold evOk at h
  simp only [Bool.and_eq_true] at h
  obtain ⟨⟨⟨⟨⟨a, b⟩, c⟩, d⟩, e⟩, f⟩ := h
  refine ⟨of_decide_eq_true a, of_decide_eq_true b, fun x hx => ?_, of_decide_eq_true d, of_decide_eq_true e⟩
  rw [Array.all_eq_true_iff_forall_mem] at c
  have := c x (by rw [← Array.mem_toList_iff]; exact hx)
  rw [Bool.and_eq_true, decide_eq_true_iff, decide_eq_true_iff] at this
  exact this
theorem ev_m {i : Int} (h0 : -24 ≤ i) (h1 : i ≤ 24) (hn : i ≠ 0) : EvM i := by
  have h := ev_ok h0 h1
  unfold evOk at h
  simp only [Bool.and_eq_true] at h
  obtain ⟨_, f⟩ := h
  rw [if_neg hn] at f
  simp only [Bool.and_eq_true] at f
  obtain ⟨⟨⟨⟨⟨⟨⟨g1, g2⟩, g3⟩, g4⟩, g5⟩, g6⟩, g7⟩, g8⟩ := f
  refine ⟨of_decide_eq_true g1, g2, g3, of_decide_eq_true g4, of_decide_eq_true g5, ?_, of_decide_eq_true g7, ?_⟩
  · revert g6
    cases atI (L2.cutS (evS i) (some 1) none).cps.toList 0 with
    | none => intro g; cases g
    | some c => intro g; exact ⟨c, rfl, fun z => by subst z; cases g⟩
  · revert g8
    cases atI (evS i).cps.toList 0 with
    | none => intro g; cases g
    | some c => intro g; exact congrArg some (of_decide_eq_true g)
theorem ev_zero : evS 0 = Str.ofString "." := rfl
end Sv
namespace Sv
open PySem L2
theorem seqP {t u : DTS} {C : DEnds} {env : Env} {S : Sto} (P : Env → Sto → Prop) (h1 : ∀ C' : DEnds, C'.rt = C.rt → C'.bk = C.bk → C'.ct = C.ct → (∀ e s, P e s → C'.nx e s) → t C' env S) (h2 : ∀ e s, P e s → u C e s) : dSeq t u C env S :=
  h1 { C with nx := u C } rfl rfl rfl h2
theorem iteB {c : Bool} {A B : Prop} (h1 : c = true → A) (h2 : c = false → B) : if c = true then A else B := by
  cases c with
  | true => exact (if_pos rfl).mpr (h1 rfl)
  | false => exact (if_neg Bool.false_ne_true).mpr (h2 rfl)
theorem goT {A B : Prop} (h : A) : if true = true then A else B := (if_pos rfl).mpr h
theorem goF {A B : Prop} (h : B) : if false = true then A else B := (if_neg Bool.false_ne_true).mpr h
/-- all that stands stays, but at some places -/
def SK (P : Addr → Prop) (S S' : Sto) : Prop := ∀ a o, ¬ P a → S a = some o → S' a = some o
theorem SK.refl {P : Addr → Prop} (S : Sto) : SK P S S := fun _ _ _ h => h
theorem SK.trans {P : Addr → Prop} {S S1 S2 : Sto} (x : SK P S S1) (y : SK P S1 S2) : SK P S S2 := fun a o n h => y a o n (x a o n h)
theorem SK.put {P : Addr → Prop} {S : Sto} {p : Addr} {o : Ob} (h : P p) : SK P S (S.put p o) := fun a u n e => by
  rw [Sto.ne fun z => n (by rw [z]; exact h)]
  exact e
theorem SK.new {P : Addr → Prop} {S : Sto} {p : Addr} {o : Ob} (h : S p = none) : SK P S (S.put p o) := fun a u _ e => by
  rw [Sto.ne fun z => by rw [z, h] at e; cases e]
  exact e
theorem SK.mono {P Q : Addr → Prop} {S S' : Sto} (x : SK P S S') (h : ∀ a, P a → Q a) : SK Q S S' := fun a o n e => x a o (fun z => n (h a z)) e
/-- only new things -/
abbrev SG : Sto → Sto → Prop := SK fun _ => False
theorem SG.sk {P : Addr → Prop} {S S' : Sto} (x : SG S S') : SK P S S' := x.mono fun _ h => h.elim
theorem noTup (a : Addr) : (∀ ds, D.ref a ≠ D.tup ds) ∧ ∀ ds, D.ref a ≠ D.wtup ds := ⟨fun _ z => (nomatch z), fun _ z => (nomatch z)⟩
/-- the draws' state -/
def Deck (st big : Addr) (S : Sto) : Prop := st ≠ big ∧ ∃ (bs : List Int) (a b c : Int), S st = some (.lst [.ref big, .int a, .int b, .int c]) ∧ S big = some (.lst (intsD bs))
abbrev DP (st big : Addr) : Addr → Prop := fun a => a = st ∨ a = big
theorem Deck.keep {st big : Addr} {S S' : Sto} (h : Deck st big S) (k : SG S S') : Deck st big S' := by
  obtain ⟨h1, bs, a, b, c, h2, h3⟩ := h
  exact ⟨h1, bs, a, b, c, k _ _ (fun z => z) h2, k _ _ (fun z => z) h3⟩
theorem Deck.keepP {st big : Addr} {S S' : Sto} {P : Addr → Prop} (h : Deck st big S) (k : SK P S S') (n1 : ¬ P st) (n2 : ¬ P big) : Deck st big S' := by
  obtain ⟨h1, bs, a, b, c, h2, h3⟩ := h
  exact ⟨h1, bs, a, b, c, k _ _ n1 h2, k _ _ n2 h3⟩
theorem shaped_ints (bs : List Int) : SeqAt.shaped (.list (bs.map PyData.int)) = true := shaped_lst bs
theorem pys_ints {S : Sto} : ∀ bs : List Int, Pys S (intsD bs) (bs.map PyData.int)
  | [] => .nil
  | b :: r => .cons (.int b) (pys_ints r)
end Sv
namespace Sv
open PySem PySem.Spec PyProof.Rows L2
inductive Grown (c : Nat) (nm : List Int) : List (List Int) → List (Int × Int) → Nat → Nat → Prop
  | start : Grown c nm (List.replicate c []) [] 0 0
  | skip {r o u k} : Grown c nm r o u k → Grown c nm r o u (k + 1)
  | save {r o u k p row} : Grown c nm r o u k → r[p]? = some row → Grown c nm (r.set p (row ++ [0])) o u (k + 1)
  | send {r o u k p row m} : Grown c nm r o u k → r[p]? = some row → nm[u]? = some m → Grown c nm (r.set p (row ++ [m])) (o ++ [(m, (p : Int))]) (u + 1) (k + 1)
  | recv {r o u k row j m q} {p : Nat} : Grown c nm r o u k → r[p]? = some row → o[j]? = some (m, q) → q ≠ (p : Int) → Grown c nm (r.set p (row ++ [0 - m])) (o.eraseIdx j) u (k + 1)
def names24 : List Int := (List.range 24).map fun (i : Nat) => (1 : Int) + (i : Nat)
/-- the rows of a history that the law may draw: at most `many` rows, `most` events -/
def Good (many most : Nat) (rows : List (List Int)) : Prop := ∃ (c : Nat) (nm : List Int) (o : List (Int × Int)) (u k : Nat), 1 ≤ c ∧ c ≤ many ∧ nm.Perm names24 ∧ Grown c nm rows o u k ∧ k ≤ most
theorem Grown.len {c : Nat} {nm : List Int} {r : List (List Int)} {o : List (Int × Int)} {u k : Nat} (h : Grown c nm r o u k) : r.length = c := by
  induction h with
  | start => exact List.length_replicate ..
  | skip _ ih => exact ih
  | save _ _ ih => rw [List.length_set]; exact ih
  | send _ _ _ ih => rw [List.length_set]; exact ih
  | recv _ _ _ _ ih => rw [List.length_set]; exact ih
theorem sum_len_set {r : List (List Int)} {p : Nat} {row : List Int} {v : Int} (h : r[p]? = some row) : ((r.set p (row ++ [v])).map List.length).sum = (r.map List.length).sum + 1 := by
  induction r generalizing p with
  | nil => simp at h
  | cons a r ih =>
    cases p with
    | zero =>
      have e : a = row := Option.some.inj h
      subst e
      simp only [List.set_cons_zero, List.map_cons, List.sum_cons, List.length_append, List.length_singleton]
      omega
    | succ p =>
      have := ih (p := p) h
      simp only [List.set_cons_succ, List.map_cons, List.sum_cons, this]
      omega
theorem Grown.events {c : Nat} {nm : List Int} {r : List (List Int)} {o : List (Int × Int)} {u k : Nat} (h : Grown c nm r o u k) : (r.map List.length).sum ≤ k := by
  induction h with
  | start => simp
  | skip _ ih => omega
  | save _ h ih => rw [sum_len_set h]; omega
  | send _ h _ ih => rw [sum_len_set h]; omega
  | recv _ h _ _ ih => rw [sum_len_set h]; omega
theorem Grown.opens_le {c : Nat} {nm : List Int} {r : List (List Int)} {o : List (Int × Int)} {u k : Nat} (h : Grown c nm r o u k) : o.length ≤ k := by
  induction h with
  | start => exact Nat.le_refl _
  | skip _ ih => omega
  | save _ _ ih => omega
  | send _ _ _ ih => rw [List.length_append, List.length_singleton]; omega
  | recv _ _ _ _ ih =>
    rw [List.length_eraseIdx]
    split <;> omega
theorem len_le_sum {r : List (List Int)} {p : Nat} {row : List Int} (h : r[p]? = some row) : row.length ≤ (r.map List.length).sum := by
  induction r generalizing p with
  | nil => simp at h
  | cons a r ih =>
    cases p with
    | zero =>
      have e : a = row := Option.some.inj h
      subst e
      simp only [List.map_cons, List.sum_cons]
      omega
    | succ p =>
      have := ih (p := p) h
      simp only [List.map_cons, List.sum_cons]
      omega
def pD (p : Int × Int) : PyData := .tuple [.int p.1, .int p.2]
theorem pD_eqv (a b : Int × Int) : PyData.eqv (pD a) (pD b) = decide (a = b) := by
  obtain ⟨x, y⟩ := a
  obtain ⟨z, w⟩ := b
  have e : PyData.eqv (pD (x, y)) (pD (z, w)) = ((x == z) && ((y == w) && true)) := by simp only [pD, PyData.eqv, PyData.eqvAll]
  rw [e, Bool.and_true]
  by_cases h1 : x = z
  · by_cases h2 : y = w
    · subst h1 h2
      simp
    · have : (y == w) = false := beq_eq_false_iff_ne.mpr h2
      rw [this, Bool.and_false]
      exact (decide_eq_false fun q => h2 (Prod.mk.inj q).2).symm
  · have : (x == z) = false := beq_eq_false_iff_ne.mpr h1
    rw [this, Bool.false_and]
    exact (decide_eq_false fun q => h1 (Prod.mk.inj q).1).symm
theorem pD_plain : ∀ o : List (Int × Int), PyData.plainAll (o.map pD) = true
  | [] => rfl
  | p :: r => by
    have h := pD_plain r
    show (PyData.plain (pD p) && PyData.plainAll (r.map pD)) = true
    rw [h]
    rfl
theorem pD_lay : ∀ o : List (Int × Int), PyData.canLayAll0 (o.map pD) = true
  | [] => by simp [PyData.canLayAll0]
  | p :: r => by
    have h := pD_lay r
    simp only [List.map_cons, PyData.canLayAll0, h, pD, PyData.canLay0, Bool.and_self]
theorem pD_depth : ∀ o : List (Int × Int), PyData.depthAll (o.map pD) ≤ 1
  | [] => by simp [PyData.depthAll]
  | p :: r => by
    have h := pD_depth r
    have h2 : (pD p).depth = 1 := by simp [pD, PyData.depth, PyData.depthAll]
    simp only [List.map_cons, PyData.depthAll]
    omega
theorem shaped_pairs (o : List (Int × Int)) : SeqAt.shaped (.list (o.map pD)) = true := by
  have h1 := pD_lay o
  have h2 := pD_depth o
  show (PyData.canLay0 (.list (o.map pD)) && decide (PyData.depth (.list (o.map pD)) ≤ 64)) = true
  simp only [PyData.canLay0, PyData.depth, h1, Bool.true_and]
  exact decide_eq_true (by omega)
theorem names24_len : names24.length = 24 := by decide +kernel
end Sv
namespace Sv
open PySem L2
/-- one turn -/
def Turn1 (g : DTG) (tt : DTT) (te : DTE) (env : Env) (d : D) (S : Sto) (K : DK) (Kn : Sto → Prop) : Prop := g d env S fun env' S' => tt env' S' fun b S2 => if b = true then te env' S2 K else Kn S2
theorem turn_y {i : Nat} {te : DTE} {env : Env} {d : D} {S : Sto} {K : DK} {Kn : Sto → Prop} (h : te (env.set i (some d)) S K) : Turn1 (dgName i) dYes te env d S K Kn := by
  show (if true = true then te (env.set i (some d)) S K else Kn S)
  exact goT h
theorem turn_n {i : Nat} {t : DTT} {te : DTE} {env : Env} {d : D} {S : Sto} {K : DK} {Kn : Sto → Prop} (h : t (env.set i (some d)) S fun b S2 => if b = true then te (env.set i (some d)) S2 K else Kn S2) : Turn1 (dgName i) t te env d S K Kn := h
theorem fm_map {α β : Type} (f : α → β) (l : List α) : l.filterMap (fun x => some (f x)) = l.map f := by
  induction l with
  | nil => rfl
  | cons a l ih => rw [List.filterMap_cons, List.map_cons, ih]
/-- data of rows -/
def rowD (r : List Int) : D := .tup (intsD r)
def rowsD (rows : List (List Int)) : List D := rows.map rowD
end Sv
namespace Sv
open PySem L2
theorem Deck.st' {st big : Addr} {S : Sto} (h : Deck st big S) : ∃ o, S st = some o := by
  obtain ⟨_, _, _, _, _, h, _⟩ := h
  exact ⟨_, h⟩
theorem Deck.big' {st big : Addr} {S : Sto} (h : Deck st big S) : ∃ o, S big = some o := by
  obtain ⟨_, _, _, _, _, _, h⟩ := h
  exact ⟨_, h⟩
theorem Deck.fresh {st big : Addr} {S : Sto} (h : Deck st big S) {p : Addr} (n : S p = none) : p ≠ st ∧ p ≠ big := by
  obtain ⟨o, e⟩ := h.st'
  obtain ⟨u, f⟩ := h.big'
  exact ⟨fun z => (by rw [z, e] at n; cases n), fun z => (by rw [z, f] at n; cases n)⟩
theorem SK.free {P : Addr → Prop} {S S' : Sto} (k : SK P S S') {p : Addr} (n : S' p = none) (hp : ¬ P p) : S p = none := by
  cases e : S p with
  | none => rfl
  | some o => rw [k _ _ hp e] at n; cases n
theorem rg_at {lo : Int} {n i : Nat} {d : D} (h : (rgD lo n)[i]? = some d) : i < n ∧ d = .int (lo + (i : Nat)) := by
  have hi : i < n := by
    have := (List.getElem?_eq_some_iff.mp h).1
    rwa [rgD, List.length_map, List.length_range] at this
  refine ⟨hi, ?_⟩
  rw [rgD, List.getElem?_map, List.getElem?_range hi] at h
  cases h
  rfl
theorem rg_len (lo : Int) (n : Nat) : (rgD lo n).length = n := by rw [rgD, List.length_map, List.length_range]
theorem eraseIdx_map' {α β : Type} (f : α → β) : ∀ (l : List α) (j : Nat), (l.map f).eraseIdx j = (l.eraseIdx j).map f
  | [], _ => rfl
  | _ :: _, 0 => rfl
  | a :: l, j + 1 => by
    show f a :: (l.map f).eraseIdx j = f a :: (l.eraseIdx j).map f
    rw [eraseIdx_map' f l j]
theorem perm_eraseIdx {α : Type} : ∀ (l : List α) (j : Nat) (h : j < l.length), (l[j] :: l.eraseIdx j).Perm l
  | a :: l, 0, _ => .refl _
  | a :: l, j + 1, h => by
    have hj : j < l.length := Nat.lt_of_succ_lt_succ h
    have ih := perm_eraseIdx l j hj
    exact (List.Perm.swap a (l[j]'hj) (l.eraseIdx j)).trans (ih.cons a)
theorem intsD_len (xs : List Int) : (intsD xs).length = xs.length := List.length_map ..
end Sv
namespace Sv
open PySem L2
def pairD (p : Int × Int) : D := .tup [.int p.1, .int p.2]
def GS (S : Sto) (st big t : Addr) (nm : List Int) (rows : List (List Int)) (o : List (Int × Int)) (u : Nat) (sh : Int) : Prop :=
  ∃ N O : Addr, S t = some (.lst [.tup (rowsD rows), .ref N, .ref O, .int sh]) ∧ S N = some (.lst (intsD (nm.drop u))) ∧ S O = some (.lst (o.map pairD)) ∧ (N ≠ st ∧ N ≠ big) ∧ (O ≠ st ∧ O ≠ big) ∧ t ≠ st ∧ t ≠ big
theorem nDP {st big a : Addr} (h : a ≠ st ∧ a ≠ big) : ¬ DP st big a := fun z => z.elim h.1 h.2
theorem GS.keep {S S' : Sto} {st big t : Addr} {nm : List Int} {rows : List (List Int)} {o : List (Int × Int)} {u : Nat} {sh : Int} (h : GS S st big t nm rows o u sh) (k : SK (DP st big) S S') : GS S' st big t nm rows o u sh := by
  obtain ⟨N, O, h1, h2, h3, h4, h5, h6⟩ := h
  exact ⟨N, O, k _ _ (nDP h6) h1, k _ _ (nDP h4) h2, k _ _ (nDP h5) h3, h4, h5, h6⟩
theorem rg24D : rgD 1 24 = intsD names24 := by
  unfold rgD intsD names24
  rw [List.map_map]
  rfl
end Sv
set_option maxHeartbeats 400000
namespace Sv
open PySem L2
theorem py_pair {S : Sto} (p : Int × Int) : Py S (pairD p) (pD p) := .tup (.cons (.int _) (.cons (.int _) .nil))
theorem pys_pairs {S : Sto} : ∀ o : List (Int × Int), Pys S (o.map pairD) (o.map pD)
  | [] => .nil
  | p :: r => .cons (py_pair p) (pys_pairs r)
theorem dIfS_by {c : DTT} {t u : DTS} {C : DEnds} {env : Env} {S : Sto} (P : Bool → Sto → Prop) (hc : ∀ K : Bool → Sto → Prop, (∀ b S', P b S' → K b S') → c env S K) (ht : ∀ S', P true S' → t C env S') (hu : ∀ S', P false S' → u C env S') : dIfS c t u C env S := by
  refine hc _ fun b S' h => ?_
  cases b with
  | true => exact goT (ht S' h)
  | false => exact goF (hu S' h)
theorem atI_nat {xs : List D} {i : Nat} {d : D} (h : xs[i]? = some d) : atI xs (i : Int) = some d := by
  have hi := (List.getElem?_eq_some_iff.mp h).1
  unfold atI ixN
  rw [if_pos (Int.natCast_nonneg i), if_pos (Int.ofNat_lt.mpr hi), Int.toNat_natCast]
  exact h
end Sv
set_option maxHeartbeats 400000
set_option maxHeartbeats 400000
namespace Sv
open PySem L2
/-- no part of the drawn state -/
def GF (S : Sto) (t f : Addr) : Prop := t ≠ f ∧ ∀ (N O : Addr) (r s : D), S t = some (.lst [r, .ref N, .ref O, s]) → f ≠ N ∧ f ≠ O
end Sv
set_option maxHeartbeats 400000
namespace Sv
open PySem L2
/-- the draws' state: cells at cl (never written), at most n draws so far, what is left of large cells at rs -/
def Dk (st cl rs : Addr) (n : Nat) (S : Sto) : Prop := st ≠ cl ∧ st ≠ rs ∧ cl ≠ rs ∧ ∃ (cs ws : List Int) (t : Nat), t ≤ n ∧ 0 < cs.length ∧ cs.length = ws.length ∧ S st = some (.lst [.ref cl, .int (t : Int), .ref rs]) ∧ S cl = some (.lst (intsD cs)) ∧ S rs = some (.lst (intsD ws))
abbrev DQ (st rs : Addr) : Addr → Prop := fun a => a = st ∨ a = rs
theorem Dk.keepP {st cl rs : Addr} {n : Nat} {S S' : Sto} {P : Addr → Prop} (h : Dk st cl rs n S) (k : SK P S S') (n1 : ¬ P st) (n2 : ¬ P cl) (n3 : ¬ P rs) : Dk st cl rs n S' := by
  obtain ⟨a1, a2, a3, cs, ws, t, tn, c0, cw, hs, hc, hw⟩ := h
  exact ⟨a1, a2, a3, cs, ws, t, tn, c0, cw, k _ _ n1 hs, k _ _ n2 hc, k _ _ n3 hw⟩
theorem Dk.keep {st cl rs : Addr} {n : Nat} {S S' : Sto} (h : Dk st cl rs n S) (k : SG S S') : Dk st cl rs n S' := h.keepP k (fun z => z) (fun z => z) (fun z => z)
theorem Dk.mono {st cl rs : Addr} {n m : Nat} {S : Sto} (h : Dk st cl rs n S) (e : n ≤ m) : Dk st cl rs m S := by
  obtain ⟨a1, a2, a3, cs, ws, t, tn, c0, cw, hs, hc, hw⟩ := h
  exact ⟨a1, a2, a3, cs, ws, t, by omega, c0, cw, hs, hc, hw⟩
theorem Dk.fresh {st cl rs : Addr} {n : Nat} {S : Sto} (h : Dk st cl rs n S) {p : Addr} (z : S p = none) : p ≠ st ∧ p ≠ cl ∧ p ≠ rs := by
  obtain ⟨a1, a2, a3, cs, ws, t, tn, c0, cw, hs, hc, hw⟩ := h
  exact ⟨fun e => (by rw [e, hs] at z; cases z), fun e => (by rw [e, hc] at z; cases z), fun e => (by rw [e, hw] at z; cases z)⟩
theorem Dk.put {st cl rs : Addr} {n : Nat} {S : Sto} (h : Dk st cl rs n S) {p : Addr} {o : Ob} (z : p ≠ st ∧ p ≠ cl ∧ p ≠ rs) : Dk st cl rs n (S.put p o) := by
  obtain ⟨a1, a2, a3, cs, ws, t, tn, c0, cw, hs, hc, hw⟩ := h
  exact ⟨a1, a2, a3, cs, ws, t, tn, c0, cw, (Sto.ne (Ne.symm z.1)).trans hs, (Sto.ne (Ne.symm z.2.1)).trans hc, (Sto.ne (Ne.symm z.2.2)).trans hw⟩
theorem SK.own {P : Addr → Prop} {S0 S : Sto} {a : Addr} {o : Ob} (h : SK P S0 S) (n : S0 a = none) : SK P S0 (S.put a o) := fun b u nb e => by
  rw [Sto.ne fun z => by rw [z, n] at e; cases e]
  exact h b u nb e
theorem intsD_at {cs : List Int} {i : Nat} {c : Int} (h : cs[i]? = some c) : (intsD cs)[i]? = some (D.int c) := by
  unfold intsD
  rw [List.getElem?_map, h]
  rfl
theorem intsD_set (cs : List Int) (i : Nat) (c : Int) : (intsD cs).set i (.int c) = intsD (cs.set i c) := by
  unfold intsD
  rw [List.map_set]
theorem ixnN' {n j : Nat} (hj : j < n) : ixN n (j : Int) = some j := by
  unfold ixN
  rw [if_pos (Int.natCast_nonneg j), if_pos (Int.ofNat_lt.mpr hj), Int.toNat_natCast]
end Sv
set_option maxHeartbeats 800000
set_option autoImplicit false
namespace Sv
open PySem PySem.Spec PyProof.Rows L2
/-- the draws' state, at most n mixed draws so far -/
def Ds (st big al : Addr) (n : Nat) (S : Sto) : Prop := st ≠ big ∧ st ≠ al ∧ big ≠ al ∧ ∃ (bs cs : List Int) (t : Nat), t ≤ n ∧ 0 < cs.length ∧ cs.length ≤ 100000 ∧ S st = some (.lst [.ref big, .ref al, .int (t : Int)]) ∧ S big = some (.lst (intsD bs)) ∧ S al = some (.lst (intsD cs))
/-- what a draw may change -/
abbrev DS' (st big : Addr) : Addr → Prop := fun a => a = st ∨ a = big
theorem Ds.keepP {st big al : Addr} {n : Nat} {S S' : Sto} {P : Addr → Prop} (h : Ds st big al n S) (k : SK P S S') (n1 : ¬ P st) (n2 : ¬ P big) (n3 : ¬ P al) : Ds st big al n S' := by
  obtain ⟨a1, a2, a3, bs, cs, t, ht, c0, c9, h1, h2, h3⟩ := h
  exact ⟨a1, a2, a3, bs, cs, t, ht, c0, c9, k _ _ n1 h1, k _ _ n2 h2, k _ _ n3 h3⟩
theorem Ds.keep {st big al : Addr} {n : Nat} {S S' : Sto} (h : Ds st big al n S) (k : SG S S') : Ds st big al n S' := h.keepP k (fun z => z) (fun z => z) (fun z => z)
theorem Ds.mono {st big al : Addr} {n m : Nat} {S : Sto} (h : Ds st big al n S) (e : n ≤ m) : Ds st big al m S := by
  obtain ⟨a1, a2, a3, bs, cs, t, ht, h⟩ := h
  exact ⟨a1, a2, a3, bs, cs, t, by omega, h⟩
theorem Ds.fresh {st big al : Addr} {n : Nat} {S : Sto} (h : Ds st big al n S) {p : Addr} (z : S p = none) : p ≠ st ∧ p ≠ big ∧ p ≠ al := by
  obtain ⟨a1, a2, a3, bs, cs, t, ht, c0, c9, h1, h2, h3⟩ := h
  exact ⟨fun e => (by rw [e, h1] at z; cases z), fun e => (by rw [e, h2] at z; cases z), fun e => (by rw [e, h3] at z; cases z)⟩
theorem Ds.put {st big al : Addr} {n : Nat} {S : Sto} (h : Ds st big al n S) {p : Addr} {o : Ob} (z : p ≠ st ∧ p ≠ big ∧ p ≠ al) : Ds st big al n (S.put p o) := by
  obtain ⟨a1, a2, a3, bs, cs, t, ht, c0, c9, h1, h2, h3⟩ := h
  exact ⟨a1, a2, a3, bs, cs, t, ht, c0, c9, (Sto.ne (Ne.symm z.1)).trans h1, (Sto.ne (Ne.symm z.2.1)).trans h2, (Sto.ne (Ne.symm z.2.2)).trans h3⟩
theorem nDS {st big al p : Addr} (z : p ≠ st ∧ p ≠ big ∧ p ≠ al) : ¬ DS' st big p := fun e => e.elim z.1 z.2.1
theorem Ds.free {st big al : Addr} {n : Nat} {S0 S : Sto} (D : Ds st big al n S) (k : SK (DS' st big) S0 S) {a : Addr} (z : S a = none) : S0 a = none := by
  cases e : S0 a with
  | none => rfl
  | some o =>
    have f := D.fresh z
    rw [k _ _ (nDS f) e] at z
    cases z
/-- a list whose items are tuples is none of the draws' own -/
theorem Ds.off {st big al : Addr} {n : Nat} {S : Sto} (h : Ds st big al n S) {p : Addr} {ds : List D} (e : S p = some (.lst ds)) (ht : ∀ d ∈ ds, ∃ xs, d = D.tup xs) (ne : ds ≠ []) : p ≠ st ∧ p ≠ big ∧ p ≠ al := by
  obtain ⟨a1, a2, a3, bs, cs, t, _, _, _, h1, h2, h3⟩ := h
  have pin : ∀ l : List Int, S p = some (.lst (intsD l)) → False := fun l hl => by
    rw [hl] at e
    have e := (Ob.lst.inj (Option.some.inj e)).symm
    subst e
    cases l with
    | nil => exact ne rfl
    | cons b r =>
      obtain ⟨xs, hx⟩ := ht _ List.mem_cons_self
      cases hx
  refine ⟨fun z => ?_, fun z => pin bs (z ▸ h2), fun z => pin cs (z ▸ h3)⟩
  subst z
  rw [h1] at e
  have e := (Ob.lst.inj (Option.some.inj e)).symm
  subst e
  obtain ⟨xs, hx⟩ := ht _ List.mem_cons_self
  cases hx
theorem w_drawS {st big al : Addr} {n : Nat} {S : Sto} {m : Int} {R : DK} (h : Ds st big al n S) (hn : n ≤ 1000000) (h0 : 0 < m) (h1 : m < 1000000) (k : ∀ (d : Nat) S', (d : Int) < m → Ds st big al (n + 1) S' → SK (DS' st big) S S' → R (.int (d : Int)) S') : dFn 5 B_law_draw_a332 [.ref st, .int m] S R := by
  obtain ⟨a1, a2, a3, bs, cs, t, ht, c0, c9, hs, hb, ha⟩ := h
  have k : ∀ (d : Int) S', 0 ≤ d → d < m → Ds st big al (n + 1) S' → SK (DS' st big) S S' → R (.int d) S' := fun d S' d0 d1 D sk => by
    obtain ⟨e, rfl⟩ : ∃ e : Nat, d = (e : Int) := ⟨d.toNat, by omega⟩
    exact k e S' d1 D sk
  refine seqP (fun env S' => ∃ (x2 : Option D) (bs : List Int), env = [some (.ref st), some (.int m), x2, none, none] ∧ S' st = some (.lst [.ref big, .ref al, .int (t : Int)]) ∧ S' big = some (.lst (intsD bs)) ∧ S' al = some (.lst (intsD cs)) ∧ SK (DS' st big) S S') (fun C' hrt _ _ hnx => ?_) ?_
  · refine ⟨fun n env S' => ∃ (x2 : Option D) (bs : List Int), n = bs.length ∧ env = [some (.ref st), some (.int m), x2, none, none] ∧ S' st = some (.lst [.ref big, .ref al, .int (t : Int)]) ∧ S' big = some (.lst (intsD bs)) ∧ S' al = some (.lst (intsD cs)) ∧ SK (DS' st big) S S', ⟨_, _, bs, rfl, rfl, hs, hb, ha, .refl S⟩, ?_⟩
    rintro n' env S1 ⟨x2, bs, rfl, rfl, hs, hb, ha, sk⟩
    refine ⟨_, rfl, _, 0, _, seqOf_lst hs, rfl, rfl, rfl, fun p np => ?_⟩
    have sgp : SG S1 (S1.put p (.lst [])) := .new np
    have hs2 := sgp _ _ (fun z => z) hs
    have hb2 := sgp _ _ (fun z => z) hb
    have ha2 := sgp _ _ (fun z => z) ha
    have sk2 := sk.trans sgp.sk
    have hp2 : (S1.put p (.lst [])) p = some (.lst []) := Sto.same
    generalize S1.put p (.lst []) = S2 at hs2 hb2 ha2 sk2 hp2 ⊢
    refine ⟨.list (bs.map .int), .list [], .lst hb2 (pys_ints bs), .lst hp2 .nil, shaped_ints bs, by decide +kernel, _, rfl, ?_⟩
    cases bs with
    | nil => exact goF (hnx _ _ ⟨_, [], rfl, hs2, hb2, ha2, sk2⟩)
    | cons e bs =>
      refine goT ⟨_, rfl, _, 0, _, seqOf_lst hs2, rfl, rfl, _, ((0 : Nat) : Int), _, seqOf_lst hb2, rfl, atI_nat (i := 0) (d := D.int e) rfl, ?_⟩
      refine ⟨_, rfl, _, rfl, iteB (fun hc => ?_) (fun hc => ?_)⟩
      · refine ⟨_, rfl, _, rfl, ⟨h0, by omega⟩, _, rfl, _, 0, _, seqOf_lst hs2, rfl, rfl, big, _, ((0 : Nat) : Int), 0, rfl, rfl, hb2, ixnN' (by rw [intsD_len]; exact Nat.succ_pos _), ?_⟩
        refine ⟨_, rfl, _, rfl, h0, ?_⟩
        rw [hrt]
        refine k _ _ (Int.emod_nonneg _ (by omega)) (Int.emod_lt_of_pos _ h0) ⟨a1, a2, a3, (e :: bs).set 0 (e / m), cs, t, by omega, c0, c9, (Sto.ne a1).trans hs2, ?_, (Sto.ne (Ne.symm a3)).trans ha2⟩ (sk2.trans (.put (.inr rfl)))
        rw [Sto.same]
        exact congrArg (fun l => some (Ob.lst l)) (intsD_set (e :: bs) 0 (e / m))
      · refine ⟨_, rfl, _, 0, _, seqOf_lst hs2, rfl, rfl, ⟨rfl, _, seqOf_lst hb2, noTup _⟩, big, _, 0, 0, .int e, rfl, rfl, hb2, by decide, by decide, ?_, rfl, bs.length, Nat.lt_succ_self _, ?_⟩
        · exact seqIndex_of (by decide) (by simp [intsD])
        exact ⟨_, bs, rfl, rfl, (Sto.ne a1).trans hs2, Sto.same, (Sto.ne (Ne.symm a3)).trans ha2, sk2.trans (.put (.inr rfl))⟩
  · rintro env S1 ⟨x2, bs, rfl, hs, hb, ha, sk⟩
    refine ⟨_, rfl, _, 2, _, seqOf_lst hs, rfl, rfl, _, rfl, st, _, 2, 2, rfl, rfl, hs, rfl, ?_⟩
    have hs4 : (S1.put st (.lst ([D.ref big, .ref al, .int (t : Int)].set 2 (.int ((t : Int) + 1))))) st = some (.lst [D.ref big, .ref al, .int ((t + 1 : Nat) : Int)]) := Sto.same
    have hb4 : (S1.put st (.lst ([D.ref big, .ref al, .int (t : Int)].set 2 (.int ((t : Int) + 1))))) big = _ := (Sto.ne (Ne.symm a1)).trans hb
    have ha4 : (S1.put st (.lst ([D.ref big, .ref al, .int (t : Int)].set 2 (.int ((t : Int) + 1))))) al = _ := (Sto.ne (Ne.symm a2)).trans ha
    have sk4 : SK (DS' st big) S (S1.put st (.lst ([D.ref big, .ref al, .int (t : Int)].set 2 (.int ((t : Int) + 1))))) := sk.trans (.put (.inl rfl))
    generalize S1.put st (.lst ([D.ref big, .ref al, .int (t : Int)].set 2 (.int ((t : Int) + 1)))) = S4 at hs4 hb4 ha4 sk4 ⊢
    obtain ⟨pl, hpl, hlt⟩ : ∃ pl : Nat, ((t + 1 : Nat) : Int) % ((intsD cs).length : Int) = (pl : Int) ∧ pl < cs.length := ⟨(t + 1) % cs.length, by rw [intsD_len]; omega, Nat.mod_lt _ c0⟩
    obtain ⟨c, hcp⟩ : ∃ c, cs[pl]? = some c := ⟨_, List.getElem?_eq_getElem hlt⟩
    refine ⟨_, rfl, _, 1, _, seqOf_lst hs4, rfl, rfl, _, rfl, _, 2, _, seqOf_lst hs4, rfl, rfl, _, rfl, _, 1, _, seqOf_lst hs4, rfl, rfl, _, _, rfl, seqOf_lst ha4, by rw [intsD_len]; omega, _, (pl : Int), _, seqOf_lst ha4, by rw [hpl], atI_nat (intsD_at hcp), by decide, ?_⟩
    generalize hv : c % 2147483629 = v
    have v0 : 0 ≤ v := hv ▸ Int.emod_nonneg _ (by decide)
    have v1 : v < 2147483629 := hv ▸ Int.emod_lt_of_pos _ (by decide)
    refine ⟨_, rfl, _, rfl, _, 2, _, seqOf_lst hs4, rfl, rfl, .inl ⟨by decide, by decide⟩, .inl ⟨by omega, by omega⟩, ?_⟩
    refine ⟨_, rfl, _, rfl, _, 2, _, seqOf_lst hs4, rfl, rfl, .inl ⟨by decide, by decide⟩, _, rfl, _, 2, _, seqOf_lst hs4, rfl, rfl, .inr ⟨by omega, by omega⟩, by decide, ?_⟩
    generalize hw : (v * (69621 + 2 * ((t + 1 : Nat) : Int)) + 30011 + 48271 * ((t + 1 : Nat) : Int) * ((t + 1 : Nat) : Int)) % 2147483587 = w
    have w0 : 0 ≤ w := hw ▸ Int.emod_nonneg _ (by decide)
    have w1 : w < 2147483587 := hw ▸ Int.emod_lt_of_pos _ (by decide)
    refine ⟨_, rfl, _, rfl, .inl ⟨by omega, by omega⟩, by decide, ⟨by decide, by decide⟩, _, rfl, h0, ?_⟩
    exact k _ _ (Int.emod_nonneg _ (by omega)) (Int.emod_lt_of_pos _ h0) ⟨a1, a2, a3, bs, cs, t + 1, by omega, c0, c9, hs4, hb4, ha4⟩ sk4
end Sv
namespace Sv
open PySem PySem.Spec PyProof.Rows L2
def hapFrom (e : Int) : Nat → List (List Int) → Option (Nat × Nat)
  | _, [] => none
  | p, r :: rs => if e ∈ r then some (p, (r.take (r.idxOf e)).count 0) else hapFrom e (p + 1) rs
def hap (rows : List (List Int)) (e : Int) : Option (Nat × Nat) := hapFrom e 0 rows
def poss (l : List Int) : List Int := l.filter fun e => decide (0 < e)
def negs (l : List Int) : List Int := (l.filter fun e => decide (e < 0)).map fun e => -e
def LeL (a b : List Nat) : Prop := ∀ (i x y : Nat), a[i]? = some x → b[i]? = some y → x ≤ y
theorem LeL.set {a b : List Nat} (h : LeL a b) {p d k : Nat} (hd : a[p]? = some d) (hk : k ≤ d) : LeL (a.set p k) b := fun i x y g1 g2 => by
  rw [List.getElem?_set] at g1
  split at g1
  · rename_i e
    subst e
    split at g1
    · obtain rfl := Option.some.inj g1
      have := h _ _ _ hd g2
      omega
    · cases g1
  · exact h _ _ _ g1 g2
theorem flat_set {r : List (List Int)} {p : Nat} {row : List Int} {v : Int} (h : r[p]? = some row) : (r.set p (row ++ [v])).flatten.Perm (v :: r.flatten) := by
  induction r generalizing p with
  | nil => simp at h
  | cons a r ih =>
    cases p with
    | zero =>
      obtain rfl : a = row := Option.some.inj h
      simp only [List.set_cons_zero, List.flatten_cons, List.append_assoc, List.singleton_append]
      exact List.perm_middle
    | succ p =>
      simp only [List.set_cons_succ, List.flatten_cons]
      exact ((ih (p := p) h).append_left a).trans List.perm_middle
theorem names_pos {nm : List Int} (hn : nm.Perm names24) : ∀ m ∈ nm, 1 ≤ m ∧ m ≤ 24 := by
  intro m h1
  have h2 := hn.mem_iff.mp h1
  obtain ⟨i, hi, rfl⟩ := List.mem_map.mp h2
  have := List.mem_range.mp hi
  omega
theorem Grown.small {c : Nat} {nm : List Int} {r : List (List Int)} {o : List (Int × Int)} {u k : Nat} (h : Grown c nm r o u k) (hn : nm.Perm names24) :
    (∀ row ∈ r, ∀ e ∈ row, -24 ≤ e ∧ e ≤ 24) ∧ ∀ p ∈ o, 1 ≤ p.1 ∧ p.1 ≤ 24 := by
  have setl : ∀ {r : List (List Int)} {p : Nat} {row : List Int} {v : Int}, (∀ row ∈ r, ∀ e ∈ row, -24 ≤ e ∧ e ≤ 24) → r[p]? = some row → -24 ≤ v → v ≤ 24 → ∀ row' ∈ r.set p (row ++ [v]), ∀ e ∈ row', -24 ≤ e ∧ e ≤ 24 := by
    intro r p row v h1 h2 h3 h4 row' hr e he
    rcases List.mem_or_eq_of_mem_set hr with z | rfl
    · exact h1 _ z e he
    · rcases List.mem_append.mp he with z | z
      · exact h1 _ (List.mem_of_getElem? h2) e z
      · rw [List.mem_singleton.mp z]
        exact ⟨h3, h4⟩
  have hm : ∀ m ∈ nm, 1 ≤ m ∧ m ≤ 24 := by
    intro m h1
    have h2 := hn.mem_iff.mp h1
    obtain ⟨i, hi, rfl⟩ := List.mem_map.mp h2
    have := List.mem_range.mp hi
    omega
  induction h with
  | start =>
    refine ⟨fun row hr e he => ?_, fun p hp => (nomatch hp)⟩
    rw [(List.mem_replicate.mp hr).2] at he
    exact (nomatch he)
  | skip _ ih => exact ih
  | save _ h ih => exact ⟨setl ih.1 h (by decide) (by decide), ih.2⟩
  | send _ h hu ih =>
    have := hm _ (List.mem_of_getElem? hu)
    refine ⟨setl ih.1 h (by omega) (by omega), fun p hp => ?_⟩
    rcases List.mem_append.mp hp with z | z
    · exact ih.2 p z
    · rw [List.mem_singleton.mp z]
      exact this
  | recv _ h hj _ ih =>
    have := ih.2 _ (List.mem_of_getElem? hj)
    exact ⟨setl ih.1 h (by omega) (by omega), fun p hp => ih.2 p (List.mem_of_mem_eraseIdx hp)⟩
theorem unerase_perm {α : Type} : ∀ {o : List α} {j : Nat} {x : α}, o[j]? = some x → (x :: o.eraseIdx j).Perm o
  | [], j, _, h => by simp at h
  | a :: o, 0, x, h => by
    obtain rfl : a = x := Option.some.inj h
    exact .refl _
  | a :: o, j + 1, x, h => by
    rw [List.eraseIdx_cons_succ]
    exact (List.Perm.swap a x _).trans ((unerase_perm (o := o) (j := j) h).cons a)
theorem Grown.once {c : Nat} {nm : List Int} {r : List (List Int)} {o : List (Int × Int)} {u k : Nat} (h : Grown c nm r o u k) (hn : nm.Perm names24) :
    (poss r.flatten).Perm (nm.take u) ∧ (negs r.flatten ++ o.map (·.1)).Perm (nm.take u) := by
  induction h with
  | start =>
    have e : (List.replicate c ([] : List Int)).flatten = [] := by simp
    rw [e]
    exact ⟨.refl _, .refl _⟩
  | skip _ ih => exact ih
  | save _ h ih =>
    have p := flat_set (v := 0) h
    exact ⟨(p.filter _).trans ih.1, (((p.filter _).map _).append_right _).trans ih.2⟩
  | @send r o u k p row m g h hu ih =>
    have q := flat_set (v := m) h
    have hm := names_pos hn _ (List.mem_of_getElem? hu)
    have tk : nm.take (u + 1) = nm.take u ++ [m] := by
      rw [List.take_add_one, hu]
      rfl
    rw [tk]
    have h1 : poss (m :: r.flatten) = m :: poss r.flatten := List.filter_cons_of_pos (decide_eq_true (by omega))
    have h2 : negs (m :: r.flatten) = negs r.flatten := by
      unfold negs
      rw [List.filter_cons_of_neg (by rw [decide_eq_false (show ¬ m < 0 by omega)]; exact Bool.false_ne_true)]
    refine ⟨(q.filter _).trans ?_, (((q.filter _).map _).append_right _).trans ?_⟩
    · show (poss (m :: r.flatten)).Perm _
      rw [h1]
      exact (ih.1.cons m).trans (List.perm_append_singleton m _).symm
    · show (negs (m :: r.flatten) ++ _).Perm _
      rw [h2, List.map_append, ← List.append_assoc]
      exact ih.2.append_right _
  | @recv r o u k row j m q p g h hj _ ih =>
    have w := flat_set (v := 0 - m) h
    have hm := (g.small hn).2 _ (List.mem_of_getElem? hj)
    have h1 : poss ((0 - m) :: r.flatten) = poss r.flatten := List.filter_cons_of_neg (by rw [decide_eq_false (show ¬ 0 < 0 - m by simp only at hm; omega)]; exact Bool.false_ne_true)
    have h2 : negs ((0 - m) :: r.flatten) = m :: negs r.flatten := by
      have d : decide (0 - m < 0) = true := decide_eq_true (by simp only at hm; omega)
      have e1 : -(0 - m) = m := by omega
      unfold negs
      simp only [List.filter_cons, d, if_true, List.map_cons, e1]
    refine ⟨(w.filter _).trans ?_, (((w.filter _).map _).append_right _).trans ?_⟩
    · show (poss ((0 - m) :: r.flatten)).Perm _
      rw [h1]
      exact ih.1
    · show (negs ((0 - m) :: r.flatten) ++ _).Perm _
      rw [h2]
      have e := (unerase_perm hj).map Prod.fst
      refine List.Perm.trans ?_ ((e.append_left _).trans ih.2)
      exact List.perm_middle.symm
theorem names_nodup : names24.Nodup := by decide
theorem Grown.count {c : Nat} {nm : List Int} {r : List (List Int)} {o : List (Int × Int)} {u k : Nat} (h : Grown c nm r o u k) (hn : nm.Perm names24) {e : Int} (he : e ≠ 0) : r.flatten.count e ≤ 1 := by
  obtain ⟨h1, h2⟩ := h.once hn
  have nt : (nm.take u).Nodup := ((hn.nodup_iff).mpr names_nodup).sublist (List.take_sublist _ _)
  by_cases hp : 0 < e
  · have n1 : (poss r.flatten).Nodup := h1.nodup_iff.mpr nt
    have := List.nodup_iff_count.mp n1 e
    unfold poss at this
    rw [List.count_filter (p := fun e : Int => decide (0 < e)) (decide_eq_true hp)] at this
    exact this
  · have n2 : (negs r.flatten).Nodup := (h2.nodup_iff.mpr nt).sublist (List.sublist_append_left _ _)
    have hlt : e < 0 := by omega
    have n3 : (r.flatten.filter fun e => decide (e < 0)).Nodup := by
      unfold negs at n2
      exact (List.pairwise_map.mp n2).imp fun h z => h (by rw [z])
    have := List.nodup_iff_count.mp n3 e
    rw [List.count_filter (p := fun e : Int => decide (e < 0)) (decide_eq_true hlt)] at this
    exact this
theorem hapFrom_some {e : Int} : ∀ {rs : List (List Int)} {p i : Nat} {row : List Int}, (∀ (j : Nat) (r : List Int), j < i → rs[j]? = some r → e ∉ r) → rs[i]? = some row → e ∈ row → hapFrom e p rs = some (p + i, (row.take (row.idxOf e)).count 0)
  | [], _, i, _, _, h, _ => by simp at h
  | r :: rs, p, 0, row, _, h, he => by
    obtain rfl : r = row := Option.some.inj h
    unfold hapFrom
    rw [if_pos he]
    rfl
  | r :: rs, p, i + 1, row, hn, h, he => by
    unfold hapFrom
    rw [if_neg (hn 0 r (Nat.succ_pos _) rfl), hapFrom_some (i := i) (fun j r' hj hr => hn (j + 1) r' (Nat.succ_lt_succ hj) hr) h he]
    have : p + 1 + i = p + (i + 1) := by omega
    rw [this]
theorem idx_once : ∀ {row : List Int} {i : Nat} {e : Int}, row[i]? = some e → row.count e ≤ 1 → row.idxOf e = i
  | [], i, _, h, _ => by simp at h
  | a :: r, 0, e, h, _ => by
    obtain rfl : a = e := Option.some.inj h
    exact List.idxOf_cons_self
  | a :: r, i + 1, e, h, hc => by
    have h1 : e ∈ r := List.mem_of_getElem? (i := i) h
    have h2 := List.count_pos_iff.mpr h1
    have hne : a ≠ e := fun z => by
      subst z
      rw [List.count_cons_self] at hc
      omega
    rw [List.count_cons_of_ne hne] at hc
    rw [List.idxOf_cons, idx_once (row := r) (i := i) h hc, beq_false_of_ne hne]
    rfl
theorem count_at : ∀ {r : List (List Int)} {i : Nat} {row : List Int} {e : Int}, r[i]? = some row → row.count e ≤ r.flatten.count e
  | [], i, _, _, h => by simp at h
  | a :: r, 0, row, e, h => by
    obtain rfl : a = row := Option.some.inj h
    rw [List.flatten_cons, List.count_append]
    omega
  | a :: r, i + 1, row, e, h => by
    have := count_at (r := r) (i := i) (e := e) h
    rw [List.flatten_cons, List.count_append]
    omega
theorem count_two : ∀ {r : List (List Int)} {i j : Nat} {a b : List Int} {e : Int}, i < j → r[i]? = some a → r[j]? = some b → e ∈ a → e ∈ b → 2 ≤ r.flatten.count e
  | [], i, _, _, _, _, _, h, _, _, _ => by simp at h
  | x :: r, 0, j + 1, a, b, e, _, h1, h2, h3, h4 => by
    obtain rfl : x = a := Option.some.inj h1
    have h5 := count_at (r := r) (i := j) (e := e) h2
    have h6 := List.count_pos_iff.mpr h3
    have h7 := List.count_pos_iff.mpr h4
    rw [List.flatten_cons, List.count_append]
    omega
  | x :: r, i + 1, j + 1, a, b, e, hij, h1, h2, h3, h4 => by
    have := count_two (r := r) (i := i) (j := j) (Nat.lt_of_succ_lt_succ hij) h1 h2 h3 h4
    rw [List.flatten_cons, List.count_append]
    omega
/-- where an event of a message happened -/
theorem Good.hap_at {many most : Nat} {rows : List (List Int)} (h : Good many most rows) {p i : Nat} {row : List Int} {e : Int} (h1 : rows[p]? = some row) (h2 : row[i]? = some e) (he : e ≠ 0) : hap rows e = some (p, (row.take i).count 0) := by
  obtain ⟨c, nm, o, u, k, _, _, hp, g, _⟩ := h
  have hc := g.count hp he
  have hm := List.mem_of_getElem? h2
  have h3 := hapFrom_some (e := e) (p := 0) (rs := rows) (i := p) (row := row) (fun j r hj hr hr2 => ?_) h1 hm
  · unfold hap
    rw [h3, Nat.zero_add, idx_once h2 (Nat.le_trans (count_at h1) hc)]
  · have := count_two hj hr h1 hr2 hm
    omega
theorem Good.len {many most : Nat} {rows : List (List Int)} (h : Good many most rows) : 1 ≤ rows.length ∧ rows.length ≤ many := by
  obtain ⟨c, nm, o, u, k, h1, h2, h3, h4, h5⟩ := h
  rw [h4.len]
  exact ⟨h1, h2⟩
theorem Good.events {many most : Nat} {rows : List (List Int)} (h : Good many most rows) : (rows.map List.length).sum ≤ most := by
  obtain ⟨c, nm, o, u, k, h1, h2, h3, h4, h5⟩ := h
  exact Nat.le_trans h4.events h5
theorem Good.row {many most : Nat} {rows : List (List Int)} (h : Good many most rows) {i : Nat} {row : List Int} (e : rows[i]? = some row) : row.length ≤ most ∧ ∀ x ∈ row, -24 ≤ x ∧ x ≤ 24 := by
  obtain ⟨c, nm, o, u, k, h1, h2, h3, h4, h5⟩ := id h
  exact ⟨Nat.le_trans (len_le_sum e) h.events, (h4.small h3).1 row (List.mem_of_getElem? e)⟩
def recvM (rows : List (List Int)) (m : Int) : Bool := (hap rows (0 - m)).isSome
def recvL (rows : List (List Int)) : List Int := names24.filter (recvM rows)
theorem recvL_nodup (rows : List (List Int)) : (recvL rows).Nodup := names_nodup.sublist List.filter_sublist
theorem names_mem {m : Int} : m ∈ names24 ↔ 1 ≤ m ∧ m ≤ 24 := by
  unfold names24
  rw [List.mem_map]
  constructor
  · rintro ⟨i, hi, rfl⟩
    have := List.mem_range.mp hi
    omega
  · intro h
    exact ⟨(m - 1).toNat, List.mem_range.mpr (by omega), by omega⟩
/-- where an event stands first -/
def spotFrom (e : Int) : Nat → List (List Int) → Option (Nat × Nat)
  | _, [] => none
  | p, r :: rs => if e ∈ r then some (p, r.idxOf e) else spotFrom e (p + 1) rs
theorem spot_hap {e : Int} : ∀ {rs : List (List Int)} {p : Nat}, (spotFrom e p rs = none ∧ hapFrom e p rs = none) ∨ ∃ j row, rs[j]? = some row ∧ e ∈ row ∧ spotFrom e p rs = some (p + j, row.idxOf e) ∧ hapFrom e p rs = some (p + j, (row.take (row.idxOf e)).count 0)
  | [], _ => .inl ⟨rfl, rfl⟩
  | r :: rs, p => by
    unfold spotFrom hapFrom
    by_cases h : e ∈ r
    · rw [if_pos h, if_pos h]
      exact .inr ⟨0, r, rfl, h, rfl, rfl⟩
    · rw [if_neg h, if_neg h]
      rcases spot_hap (e := e) (rs := rs) (p := p + 1) with q | ⟨j, row, h1, h2, h3, h4⟩
      · exact .inl q
      · refine .inr ⟨j + 1, row, h1, h2, ?_, ?_⟩
        · rw [h3]; congr 2; omega
        · rw [h4]; congr 2; omega
theorem Good.recv {many most : Nat} {rows : List (List Int)} (h : Good many most rows) : (negs rows.flatten).Perm (recvL rows) := by
  obtain ⟨c, nm, o, u, k, h1, h2, hp, g, h5⟩ := id h
  have nt : (nm.take u).Nodup := ((hp.nodup_iff).mpr names_nodup).sublist (List.take_sublist _ _)
  have n1 : (negs rows.flatten).Nodup := ((g.once hp).2.nodup_iff.mpr nt).sublist (List.sublist_append_left _ _)
  refine (List.perm_ext_iff_of_nodup n1 (recvL_nodup rows)).mpr fun m => ?_
  unfold negs recvL
  rw [List.mem_map, List.mem_filter, names_mem]
  constructor
  · rintro ⟨e, he, rfl⟩
    obtain ⟨hm, hneg⟩ := List.mem_filter.mp he
    obtain ⟨row, hr, hmr⟩ := List.mem_flatten.mp hm
    obtain ⟨p, hp1⟩ := List.getElem?_of_mem hr
    obtain ⟨i, hi⟩ := List.getElem?_of_mem hmr
    have hb := (h.row hp1).2 e hmr
    have h0 : e < 0 := of_decide_eq_true hneg
    refine ⟨by omega, ?_⟩
    unfold recvM
    rw [show (0 : Int) - -e = e by omega, h.hap_at hp1 hi (by omega)]
    rfl
  · rintro ⟨hm, hs⟩
    refine ⟨0 - m, List.mem_filter.mpr ⟨?_, decide_eq_true (by omega)⟩, by omega⟩
    rcases spot_hap (e := 0 - m) (rs := rows) (p := 0) with ⟨_, z⟩ | ⟨p, row, z1, z2, _⟩
    · unfold recvM hap at hs
      rw [z] at hs
      cases hs
    · exact List.mem_flatten.mpr ⟨row, List.mem_of_getElem? z1, z2⟩
def sentM (rows : List (List Int)) (m : Int) : Bool := (hap rows m).isSome
def sentL (rows : List (List Int)) : List Int := names24.filter (sentM rows)
theorem Good.sent {many most : Nat} {rows : List (List Int)} (h : Good many most rows) : (poss rows.flatten).Perm (sentL rows) := by
  obtain ⟨c, nm, o, u, k, h1, h2, hp, g, h5⟩ := id h
  have nt : (nm.take u).Nodup := ((hp.nodup_iff).mpr names_nodup).sublist (List.take_sublist _ _)
  have n1 : (poss rows.flatten).Nodup := (g.once hp).1.nodup_iff.mpr nt
  have n2 : (sentL rows).Nodup := names_nodup.sublist List.filter_sublist
  refine (List.perm_ext_iff_of_nodup n1 n2).mpr fun m => ?_
  unfold poss sentL
  rw [List.mem_filter, List.mem_filter, names_mem]
  constructor
  · rintro ⟨hm, hpos⟩
    obtain ⟨row, hr, hmr⟩ := List.mem_flatten.mp hm
    obtain ⟨p, hp1⟩ := List.getElem?_of_mem hr
    obtain ⟨i, hi⟩ := List.getElem?_of_mem hmr
    have hb := (h.row hp1).2 m hmr
    have h0 : 0 < m := of_decide_eq_true hpos
    refine ⟨by omega, ?_⟩
    unfold sentM
    rw [h.hap_at hp1 hi (by omega)]
    rfl
  · rintro ⟨hm, hs⟩
    refine ⟨?_, decide_eq_true (by omega)⟩
    rcases spot_hap (e := m) (rs := rows) (p := 0) with ⟨_, z⟩ | ⟨p, row, z1, z2, _⟩
    · unfold sentM hap at hs
      rw [z] at hs
      cases hs
    · exact List.mem_flatten.mpr ⟨row, List.mem_of_getElem? z1, z2⟩
theorem LeL.refl (a : List Nat) : LeL a a := fun i x y h1 h2 => by rw [h1] at h2; rw [Option.some.inj h2]; exact Nat.le_refl _
/-- no message is received before the line and sent behind it -/
def ConsL (rows : List (List Int)) (cs : List Nat) : Prop := ∀ (m : Int) (p k p' k' c c' : Nat), 0 < m → hap rows m = some (p, k) → hap rows (0 - m) = some (p', k') → cs[p]? = some c → cs[p']? = some c' → k' < c' → k < c
structure Dn (rows : List (List Int)) (high cs : List Nat) : Prop where
  len : cs.length = high.length
  le : LeL cs high
  top : ∀ L : List Nat, L.length = high.length → LeL L high → ConsL rows L → LeL L cs
structure IsLow (rows : List (List Int)) (high cs : List Nat) : Prop extends Dn rows high cs where
  cons : ConsL rows cs
/-- the greatest numbers that are left if these fail -/
def tops (rows : List (List Int)) (fs : List Int) : List Nat := rows.mapIdx fun i r => r.count 0 + (if decide ((i : Int) ∈ fs) = true then 0 else 1)
def prs (rows : List (List Int)) : List Nat := rows.map fun r => r.count 0 + 1
/-- a state that is needed when f fails -/
def NeedAt (rows : List (List Int)) (f p n : Nat) : Prop := ∃ cs : List Nat, IsLow rows (tops rows [(f : Int)]) cs ∧ cs[p]? = some n ∧ n < ((prs rows)[p]?).getD 0
def NeedL (rows : List (List Int)) (us : List (Int × Int)) : Prop := us.length < 64 ∧ us.Pairwise (fun a b => pc a < pc b) ∧ ∀ x, x ∈ us ↔ ∃ f p n : Nat, f < rows.length ∧ NeedAt rows f p n ∧ x = ((p : Int), (n : Int))
theorem NeedL.unique {rows : List (List Int)} {us vs : List (Int × Int)} (h : NeedL rows us) (g : NeedL rows vs) : us = vs := rise_eq pc us vs h.2.1 g.2.1 fun x => (h.2.2 x).trans (g.2.2 x).symm
theorem IsLow.unique {rows : List (List Int)} {high a b : List Nat} (ha : IsLow rows high a) (hb : IsLow rows high b) : a = b := by
  apply List.ext_getElem (ha.len.trans hb.len.symm)
  intro i h1 h2
  have e1 := List.getElem?_eq_getElem h1
  have e2 := List.getElem?_eq_getElem h2
  exact Nat.le_antisymm (hb.top a ha.len ha.le ha.cons i _ _ e1 e2) (ha.top b hb.len hb.le hb.cons i _ _ e2 e1)
theorem Dn.step {rows : List (List Int)} {high cs : List Nat} (h : Dn rows high cs) {m : Int} {p k p' k' c c' : Nat} (hm : 0 < m) (h1 : hap rows m = some (p, k)) (h2 : hap rows (0 - m) = some (p', k')) (h3 : cs[p]? = some c) (h4 : cs[p']? = some c') (h5 : k' < c') (h6 : c ≤ k) : Dn rows high (cs.set p' k') := by
  refine ⟨by rw [List.length_set]; exact h.len, fun i x y g1 g2 => ?_, fun L l1 l2 l3 i x y g1 g2 => ?_⟩
  · rw [List.getElem?_set] at g1
    split at g1
    · rename_i e
      subst e
      split at g1
      · obtain rfl := Option.some.inj g1
        have := h.le _ _ _ h4 g2
        omega
      · cases g1
    · exact h.le _ _ _ g1 g2
  · have hl := h.top L l1 l2 l3
    rw [List.getElem?_set] at g2
    split at g2
    · rename_i e
      subst e
      split at g2
      · obtain rfl := Option.some.inj g2
        have hpl : p < L.length := by
          rw [l1, ← h.len]
          exact (List.getElem?_eq_some_iff.mp h3).1
        have hp := List.getElem?_eq_getElem hpl
        have h7 := hl _ _ _ hp h3
        rcases Nat.lt_or_ge k' x with z | z
        · have := l3 m p k p' k' _ x hm h1 h2 hp g1 z
          omega
        · exact z
      · cases g2
    · exact hl _ _ _ g1 g2
theorem Dn.start (rows : List (List Int)) (high : List Nat) : Dn rows high high := ⟨rfl, .refl _, fun _ _ h _ => h⟩
theorem sum_set {cs : List Nat} {p c k : Nat} (h : cs[p]? = some c) : (cs.set p k).sum + c = cs.sum + k := by
  induction cs generalizing p with
  | nil => simp at h
  | cons a r ih =>
    cases p with
    | zero =>
      obtain rfl : a = c := Option.some.inj h
      simp only [List.set_cons_zero, List.sum_cons]
      omega
    | succ p =>
      have := ih (p := p) h
      simp only [List.set_cons_succ, List.sum_cons]
      omega
theorem tops_at {rows : List (List Int)} {fs : List Int} {i : Nat} {r : List Int} (h : rows[i]? = some r) : (tops rows fs)[i]? = some (r.count 0 + (if decide ((i : Int) ∈ fs) = true then 0 else 1)) := by
  unfold tops
  rw [List.getElem?_mapIdx, h]
  rfl
theorem tops_len (rows : List (List Int)) (fs : List Int) : (tops rows fs).length = rows.length := by
  unfold tops
  rw [List.length_mapIdx]
def rowU (p j : Nat) : List (Int × Int) := (List.range j).map fun (n : Nat) => ((p : Int), (n : Int))
def allU (rows : List (List Int)) (i : Nat) : List (Int × Int) := (List.range i).flatMap fun p => rowU p (((prs rows)[p]?).getD 0 + 1)
theorem prsA {rows : List (List Int)} {p : Nat} {row : List Int} (h : rows[p]? = some row) : (prs rows)[p]? = some (row.count 0 + 1) := by
  unfold prs
  rw [List.getElem?_map, h]
  rfl
theorem NeedAt.lt {rows : List (List Int)} {f p n : Nat} (h : NeedAt rows f p n) : p < rows.length := by
  obtain ⟨cs, h1, h2, _⟩ := h
  have := (List.getElem?_eq_some_iff.mp h2).1
  rw [h1.len, tops_len] at this
  exact this
def minL (a b : List Nat) : List Nat := List.zipWith min a b
theorem minL_len {a b : List Nat} (h : a.length = b.length) : (minL a b).length = a.length := by
  unfold minL
  rw [List.length_zipWith, h, Nat.min_self]
theorem minL_inv {a b : List Nat} {i z : Nat} (h : (minL a b)[i]? = some z) : ∃ x y, a[i]? = some x ∧ b[i]? = some y ∧ z = min x y := by
  unfold minL at h
  rw [List.getElem?_zipWith] at h
  cases h1 : a[i]? with
  | none => rw [h1] at h; cases h
  | some x =>
    cases h2 : b[i]? with
    | none => rw [h1, h2] at h; cases h
    | some y =>
      rw [h1, h2] at h
      exact ⟨x, y, rfl, rfl, (Option.some.inj h).symm⟩
theorem minL_at {a b : List Nat} {i x y : Nat} (h1 : a[i]? = some x) (h2 : b[i]? = some y) : (minL a b)[i]? = some (min x y) := by
  unfold minL
  rw [List.getElem?_zipWith, h1, h2]
theorem IsLow.min {rows : List (List Int)} {h1 h2 a b : List Nat} (ha : IsLow rows h1 a) (hb : IsLow rows h2 b) (hl : h1.length = h2.length) : IsLow rows (minL h1 h2) (minL a b) := by
  have la := ha.len
  have lb := hb.len
  refine ⟨⟨by rw [minL_len (by omega), minL_len hl]; exact la, fun i x y g1 g2 => ?_, fun L l1 l2 l3 i x y g1 g2 => ?_⟩, fun m p k p' k' c c' hm e1 e2 g1 g2 hlt => ?_⟩
  · obtain ⟨u, v, u1, u2, rfl⟩ := minL_inv g1
    obtain ⟨u', v', v1, v2, rfl⟩ := minL_inv g2
    have q1 := ha.le _ _ _ u1 v1
    have q2 := hb.le _ _ _ u2 v2
    omega
  · rw [minL_len hl] at l1
    obtain ⟨u, v, u1, u2, rfl⟩ := minL_inv g2
    have q1 := ha.top L l1 (fun i x y z1 z2 => by
      obtain ⟨y', hy'⟩ : ∃ y', h2[i]? = some y' := ⟨_, List.getElem?_eq_getElem (by have := (List.getElem?_eq_some_iff.mp z2).1; omega)⟩
      have := l2 i x _ z1 (minL_at z2 hy')
      omega) l3 _ _ _ g1 u1
    have q2 := hb.top L (by omega) (fun i x y z1 z2 => by
      obtain ⟨y', hy'⟩ : ∃ y', h1[i]? = some y' := ⟨_, List.getElem?_eq_getElem (by have := (List.getElem?_eq_some_iff.mp z2).1; omega)⟩
      have := l2 i x _ z1 (minL_at hy' z2)
      omega) l3 _ _ _ g1 u2
    omega
  · obtain ⟨u, v, u1, u2, rfl⟩ := minL_inv g1
    obtain ⟨u', v', v1, v2, rfl⟩ := minL_inv g2
    have q1 := ha.cons m p k p' k' u u' hm e1 e2 u1 v1 (by omega)
    have q2 := hb.cons m p k p' k' v v' hm e1 e2 u2 v2 (by omega)
    omega
theorem tops_app (rows : List (List Int)) (fs gs : List Int) : tops rows (fs ++ gs) = minL (tops rows fs) (tops rows gs) := by
  apply List.ext_getElem?
  intro i
  by_cases hi : i < rows.length
  · have hr := List.getElem?_eq_getElem hi
    rw [tops_at (fs := fs ++ gs) hr, minL_at (tops_at (fs := fs) hr) (tops_at (fs := gs) hr)]
    by_cases h1 : (i : Int) ∈ fs
    · rw [decide_eq_true h1, decide_eq_true (List.mem_append_left gs h1), if_pos rfl]
      split <;> rw [Nat.min_eq_left (by omega)]
    · by_cases h2 : (i : Int) ∈ gs
      · rw [decide_eq_false h1, decide_eq_true h2, decide_eq_true (List.mem_append_right fs h2), if_pos rfl, if_neg Bool.false_ne_true, Nat.min_eq_right (by omega)]
      · have h3 : ¬ ((i : Int) ∈ fs ++ gs) := fun z => by
          rcases List.mem_append.mp z with z | z
          · exact h1 z
          · exact h2 z
        rw [decide_eq_false h1, decide_eq_false h2, decide_eq_false h3, Nat.min_self]
  · rw [List.getElem?_eq_none (by rw [tops_len]; omega), List.getElem?_eq_none (by rw [minL_len (by rw [tops_len, tops_len]), tops_len]; omega)]
theorem tops_congr {rows : List (List Int)} {fs gs : List Int} (h : ∀ x, x ∈ fs ↔ x ∈ gs) : tops rows fs = tops rows gs := by
  apply List.ext_getElem?
  intro i
  by_cases hi : i < rows.length
  · have hr := List.getElem?_eq_getElem hi
    rw [tops_at (fs := fs) hr, tops_at (fs := gs) hr, decide_eq_decide.mpr (h i)]
  · rw [List.getElem?_eq_none (by rw [tops_len]; omega), List.getElem?_eq_none (by rw [tops_len]; omega)]
theorem IsLow.app {rows : List (List Int)} {fs gs : List Int} {a b : List Nat} (ha : IsLow rows (tops rows fs) a) (hb : IsLow rows (tops rows gs) b) : IsLow rows (tops rows (fs ++ gs)) (minL a b) := by
  rw [tops_app]
  exact ha.min hb (by rw [tops_len, tops_len])
theorem IsLow.mono {rows : List (List Int)} {fs gs : List Int} {a b : List Nat} (ha : IsLow rows (tops rows fs) a) (hb : IsLow rows (tops rows gs) b) (h : ∀ x ∈ gs, x ∈ fs) : LeL a b := by
  have e : tops rows fs = tops rows (fs ++ gs) := tops_congr fun x => ⟨fun z => List.mem_append_left _ z, fun z => (List.mem_append.mp z).elim id (h x)⟩
  have q := ha
  rw [e] at q
  have := q.unique (ha.app hb)
  intro i x y g1 g2
  rw [this] at g1
  obtain ⟨u, v, u1, u2, rfl⟩ := minL_inv g1
  obtain rfl := Option.some.inj (u2.symm.trans g2)
  exact Nat.min_le_right _ _
/-- what a tuple holds is little -/
def small (d : PyData) : Prop := ∀ ds, d = .tuple ds → ds.length ≤ 10
/-- a process and an interval that are small -/
def HapS (o : Option (Nat × Nat)) : Prop := ∀ p k, o = some (p, k) → p ≤ 1000 ∧ k ≤ 1000
theorem hapFrom_small {e : Int} : ∀ {rs : List (List Int)} {p : Nat}, (∀ r ∈ rs, r.length ≤ 1000) → p + rs.length ≤ 1000 → HapS (hapFrom e p rs)
  | [], _, _, _ => fun p k h => (nomatch h)
  | r :: rs, p, h, hl => by
    unfold hapFrom
    rw [List.length_cons] at hl
    split
    · intro p' k' h'
      cases h'
      refine ⟨by omega, Nat.le_trans (List.count_le_length ..) ?_⟩
      rw [List.length_take]
      exact Nat.le_trans (Nat.min_le_right _ _) (h r List.mem_cons_self)
    · exact hapFrom_small (fun r' hr => h r' (List.mem_cons_of_mem _ hr)) (by omega)
theorem Good.hapS {many most : Nat} {rows : List (List Int)} (h : Good many most rows) (h1 : many ≤ 6) (h2 : most ≤ 60) (e : Int) : HapS (hap rows e) := by
  refine hapFrom_small (fun r hr => ?_) (by have := h.len; omega)
  obtain ⟨i, hi⟩ := List.getElem?_of_mem hr
  have := (h.row hi).1
  omega
end Sv
namespace Sv
open PySem L2
theorem lc_map {α : Type} {g : DTG} {tt : DTT} {te : DTE} {us : List Nat} {env : Env} {S1 : Sto} {Rp : Addr → Sto → Prop} (xs : List α) (gx : α → D) (lv : Sto → Prop) (f : α → Option D) (hlen : xs.length ≤ 100000) (live : ∀ S, SG S1 S → lv S)
    (step : ∀ a ∈ xs, ∀ S, SG S1 S → ∀ (K : DK) (Kn : Sto → Prop), (∀ y, f a = some y → ∀ S', SG S S' → K y S') → (f a = none → ∀ S', SG S S' → Kn S') → Turn1 g tt te (dwipe env us) (gx a) S K Kn)
    (fin : ∀ p S', S1 p = none → SG S1 S' → S' p = some (.lst (xs.filterMap f)) → Rp p S') :
    ∀ p, S1 p = none → ∃ Pv : Nat → Sto → Prop, Pv 0 (S1.put p (.lst [])) ∧ (∀ i S, i ≤ (Src.mk (xs.map gx) lv).items.length → Pv i S → (Src.mk (xs.map gx) lv).live S) ∧
      (∀ i d S, (Src.mk (xs.map gx) lv).items[i]? = some d → Pv i S → g d (dwipe env us) S fun env' S' => tt env' S' fun b S2 => if b = true then te env' S2 fun y S3 => ∃ acc, S3 p = some (.lst acc) ∧ acc.length < 1000000 ∧ Pv (i + 1) (S3.put p (.lst (acc ++ [y]))) else Pv (i + 1) S2) ∧
      ∀ S, Pv (Src.mk (xs.map gx) lv).items.length S → Rp p S := by
  intro p np
  refine ⟨fun i S => SG S1 S ∧ S p = some (.lst ((xs.take i).filterMap f)) ∧ i ≤ xs.length, ⟨.new np, Sto.same, Nat.zero_le _⟩, fun i S _ h => live S h.1, fun i d S hd h => ?_, fun S h => ?_⟩
  · have hd : (xs.map gx)[i]? = some d := hd
    rw [List.getElem?_map] at hd
    obtain ⟨a, ha, rfl⟩ := Option.map_eq_some_iff.mp hd
    have hi : i < xs.length := (List.getElem?_eq_some_iff.mp ha).1
    have ht : xs.take (i + 1) = xs.take i ++ [a] := by rw [List.take_add_one, ha]; rfl
    refine step a (List.mem_of_getElem? ha) S h.1 _ _ (fun y hy S' sg => ?_) (fun hn S' sg => ?_)
    · have hp : S' p = _ := sg _ _ (fun z => z) h.2.1
      have hl : ((xs.take i).filterMap f).length ≤ 100000 := Nat.le_trans (List.length_filterMap_le ..) (by rw [List.length_take]; omega)
      refine ⟨_, hp, by omega, fun a o n e => ?_, ?_, hi⟩
      · have hap : a ≠ p := fun z => by rw [z, np] at e; cases e
        rw [Sto.ne hap]
        exact sg _ _ n (h.1 _ _ n e)
      · rw [Sto.same, ht, List.filterMap_append]
        simp [hy]
    · refine ⟨h.1.trans sg, ?_, hi⟩
      rw [sg _ _ (fun z => z) h.2.1, ht, List.filterMap_append]
      simp [hn]
  · have h : SG S1 S ∧ S p = some (.lst ((xs.take (xs.map gx).length).filterMap f)) ∧ _ := h
    have h2 := h.2.1
    rw [List.length_map, List.take_length] at h2
    exact fin p S np h.1 h2
theorem flat_le {α β : Type} (F : α → List β) (n : Nat) : ∀ xs : List α, (∀ a ∈ xs, (F a).length ≤ n) → (xs.flatMap F).length ≤ xs.length * n
  | [], _ => Nat.zero_le _
  | a :: r, h => by
    rw [List.flatMap_cons, List.length_append, List.length_cons, Nat.succ_mul]
    have := h a List.mem_cons_self
    have := flat_le F n r fun b hb => h b (List.mem_cons_of_mem _ hb)
    omega
theorem take_map {α : Type} {xs : List α} {i : Nat} {a : α} (ha : xs[i]? = some a) : xs.take (i + 1) = xs.take i ++ [a] := by rw [List.take_add_one, ha]; rfl
theorem SG.keepP {S1 S S' : Sto} {p : Addr} {o : Ob} (np : S1 p = none) (h : SG S1 S) (sg : SG S S') : SG S1 (S'.put p o) := fun a o n e => by
  have hap : a ≠ p := fun z => by rw [z, np] at e; cases e
  rw [Sto.ne hap]
  exact sg _ _ n (h _ _ n e)
end Sv
set_option maxHeartbeats 400000
namespace Sv
open PySem L2
def natD (cs : List Nat) : List D := cs.map fun (c : Nat) => D.int (c : Int)
theorem natD_ints (cs : List Nat) : natD cs = intsD (cs.map fun (c : Nat) => (c : Int)) := by
  unfold natD intsD
  rw [List.map_map]
  rfl
theorem natD_len (cs : List Nat) : (natD cs).length = cs.length := List.length_map ..
theorem natD_at {cs : List Nat} {i c : Nat} (h : cs[i]? = some c) : (natD cs)[i]? = some (D.int (c : Int)) := by
  unfold natD
  rw [List.getElem?_map, h]
  rfl
theorem Good.row60 {many most : Nat} {rows : List (List Int)} (h : Good many most rows) (h60 : most ≤ 60) : ∀ r ∈ rows, r.length ≤ 60 := fun r hr => by
  obtain ⟨i, hi⟩ := List.getElem?_of_mem hr
  have := (h.row hi).1
  omega
end Sv
set_option maxHeartbeats 400000
namespace Sv
open PySem L2
theorem lc_mapE {α : Type} {g : DTG} {tt : DTT} {te : DTE} {us : List Nat} {env : Env} {S1 : Sto} {Rp : Addr → Sto → Prop} {w : Src} (xs : List α) (gx : α → D) (hw : w.items = xs.map gx) (f : α → Option D) (hlen : xs.length ≤ 100000) (live : ∀ S, SG S1 S → w.live S)
    (step : ∀ a ∈ xs, ∀ S, SG S1 S → ∀ (K : DK) (Kn : Sto → Prop), (∀ y, f a = some y → ∀ S', SG S S' → K y S') → (f a = none → ∀ S', SG S S' → Kn S') → Turn1 g tt te (dwipe env us) (gx a) S K Kn)
    (fin : ∀ p S', S1 p = none → SG S1 S' → S' p = some (.lst (xs.filterMap f)) → Rp p S') :
    ∀ p, S1 p = none → ∃ Pv : Nat → Sto → Prop, Pv 0 (S1.put p (.lst [])) ∧ (∀ i S, i ≤ w.items.length → Pv i S → w.live S) ∧
      (∀ i d S, w.items[i]? = some d → Pv i S → g d (dwipe env us) S fun env' S' => tt env' S' fun b S2 => if b = true then te env' S2 fun y S3 => ∃ acc, S3 p = some (.lst acc) ∧ acc.length < 1000000 ∧ Pv (i + 1) (S3.put p (.lst (acc ++ [y]))) else Pv (i + 1) S2) ∧
      ∀ S, Pv w.items.length S → Rp p S := by
  obtain ⟨it, lv⟩ := w
  cases hw
  exact lc_map xs gx lv f hlen live step fin
theorem enD_map {α : Type} (h : α → D) (cs : List α) : enD (cs.map h) = (cs.mapIdx fun i c => (i, c)).map fun x => D.tup [.int ((x.1 : Nat) : Int), h x.2] := by
  unfold enD
  apply List.ext_getElem?
  intro i
  rw [List.getElem?_mapIdx, List.getElem?_map, List.getElem?_map, List.getElem?_mapIdx]
  cases cs[i]? <;> rfl
theorem any_int (fs : List Int) (i : Int) : ((fs.map PyData.int).any fun z => PyData.eqv z (.int i)) = decide (i ∈ fs) := by
  induction fs with
  | nil => rfl
  | cons a r ih =>
    rw [List.map_cons, List.any_cons, ih, show PyData.eqv (.int a) (.int i) = decide (a = i) from rfl]
    by_cases h : a = i
    · subst h; simp
    · have h' : i ≠ a := fun z => h z.symm
      simp [h, h']
end Sv
set_option maxHeartbeats 400000
namespace Sv
open PySem L2
structure RAt (S : Sto) (r : Addr) (as : List Addr) (rows : List (List Int)) : Prop where
  len : as.length = rows.length
  lst : S r = some (.lst (as.map D.ref))
  row : ∀ (i : Nat) (a : Addr) (row : List Int), as[i]? = some a → rows[i]? = some row → S a = some (.lst (intsD row))
  nd : as.Nodup
  nr : r ∉ as
theorem RAt.keep {S S' : Sto} {P : Addr → Prop} {r : Addr} {as : List Addr} {rows : List (List Int)} (h : RAt S r as rows) (k : SK P S S') (n : ∀ a, P a → a ≠ r ∧ a ∉ as) : RAt S' r as rows :=
  ⟨h.len, k _ _ (fun z => (n _ z).1 rfl) h.lst, fun i a row h1 h2 => k _ _ (fun z => (n _ z).2 (List.mem_of_getElem? h1)) (h.row i a row h1 h2), h.nd, h.nr⟩
theorem RAt.keepG {S S' : Sto} {r : Addr} {as : List Addr} {rows : List (List Int)} (h : RAt S r as rows) (k : SG S S') : RAt S' r as rows := h.keep k fun _ z => z.elim
theorem RAt.put {S : Sto} {r a : Addr} {as : List Addr} {rows : List (List Int)} {p : Nat} {row : List Int} (h : RAt S r as rows) (ha : as[p]? = some a) (hr : rows[p]? = some row) (vs : List Int) : RAt (S.put a (.lst (intsD row ++ intsD vs))) r as (rows.set p (row ++ vs)) := by
  have hp : p < rows.length := (List.getElem?_eq_some_iff.mp hr).1
  refine ⟨by rw [List.length_set]; exact h.len, (Sto.ne fun z => h.nr (by rw [z]; exact List.mem_of_getElem? ha)).trans h.lst, fun i b row' h1 h2 => ?_, h.nd, h.nr⟩
  by_cases z : p = i
  · subst z
    obtain rfl := Option.some.inj (ha.symm.trans h1)
    rw [List.getElem?_set_self hp] at h2
    obtain rfl := Option.some.inj h2
    rw [Sto.same]
    unfold intsD
    rw [List.map_append]
  · rw [List.getElem?_set_ne z] at h2
    have nb : b ≠ a := fun e => by
      subst e
      obtain ⟨i1, e1⟩ := List.getElem?_eq_some_iff.mp ha
      obtain ⟨i2, e2⟩ := List.getElem?_eq_some_iff.mp h1
      exact z ((List.getElem_inj (h₀ := i1) (h₁ := i2) h.nd).mp (e1.trans e2.symm))
    rw [Sto.ne nb]
    exact h.row i b row' h1 h2
theorem RAt.at {S : Sto} {r : Addr} {as : List Addr} {rows : List (List Int)} (h : RAt S r as rows) {p : Nat} (hp : p < rows.length) : ∃ a row, as[p]? = some a ∧ rows[p]? = some row ∧ (as.map D.ref)[p]? = some (.ref a) ∧ S a = some (.lst (intsD row)) ∧ a ∈ as := by
  have ha : as[p]? = some (as[p]'(by rw [h.len]; exact hp)) := List.getElem?_eq_getElem (by rw [h.len]; exact hp)
  have hr := List.getElem?_eq_getElem hp
  exact ⟨_, _, ha, hr, by rw [List.getElem?_map, ha]; rfl, h.row p _ _ ha hr, List.mem_of_getElem? ha⟩
theorem Good.mono {a b a' b' : Nat} {rows : List (List Int)} (h : Good a b rows) (h1 : a ≤ a') (h2 : b ≤ b') : Good a' b' rows := by
  obtain ⟨c, nm, o, u, k, g1, g2, g3, g4, g5⟩ := h
  exact ⟨c, nm, o, u, k, g1, by omega, g3, g4, by omega⟩
theorem set_set {α : Type} (l : List α) (p : Nat) (a b : α) : (l.set p a).set p b = l.set p b := List.set_set ..
end Sv
set_option maxHeartbeats 400000
set_option maxHeartbeats 1000000
namespace Sv
open PySem L2
theorem place_ofM {o : List (Int × Int)} {p : Int × Int} (h : p ∈ o) : ∃ j, SeqAt.dataPlace (o.map pD) (pD p) = some j ∧ o[j]? = some p := by
  induction o with
  | nil => cases h
  | cons a r ih =>
    unfold SeqAt.dataPlace at ih ⊢
    rw [List.map_cons, List.findIdx?_cons, pD_eqv]
    by_cases e : a = p
    · subst e
      exact ⟨0, by rw [decide_eq_true rfl]; rfl, rfl⟩
    · rw [decide_eq_false e]
      rcases List.mem_cons.mp h with z | z
      · exact absurd z.symm e
      · obtain ⟨j, h1, h2⟩ := ih z
        exact ⟨j + 1, by rw [h1]; rfl, h2⟩
def swp (o : List (Int × Int)) : List (Int × Int) := o.map fun x => (x.2, x.1)
theorem pD_ok (p : Int × Int) : (pD p).plain = true := rfl
structure RWv (S0 S : Sto) (st rs r N W : Addr) (as : List Addr) (c : Nat) (nm : List Int) (rows : List (List Int)) (o : List (Int × Int)) (u i : Nat) : Prop where
  sk : SK (DQ st rs) S0 S
  ra : RAt S r as rows
  hN : S N = some (.lst (intsD (nm.drop u).reverse))
  hW : S W = some (.lst ((swp o).map pairD))
  g : Grown c nm rows o u i
theorem RWv.keep {S0 S S' : Sto} {st cl rs r N W : Addr} {as : List Addr} {c : Nat} {nm : List Int} {rows : List (List Int)} {o : List (Int × Int)} {u i : Nat} (h : RWv S0 S st rs r N W as c nm rows o u i) (k : SK (DQ st rs) S S')
    (nd : ∀ a, a = r ∨ a = N ∨ a = W ∨ a ∈ as → a ≠ st ∧ a ≠ cl ∧ a ≠ rs) : RWv S0 S' st rs r N W as c nm rows o u i := by
  have nq : ∀ a, a = r ∨ a = N ∨ a = W ∨ a ∈ as → ¬ DQ st rs a := fun a ha z => z.elim (nd a ha).1 (nd a ha).2.2
  exact ⟨h.sk.trans k, h.ra.keep k fun a z => ⟨fun e => nq a (.inl e) z, fun e => nq a (.inr (.inr (.inr e))) z⟩, k _ _ (nq _ (.inr (.inl rfl))) h.hN, k _ _ (nq _ (.inr (.inr (.inl rfl)))) h.hW, h.g⟩
theorem RWv.keepG {S0 S S' : Sto} {st rs r N W : Addr} {as : List Addr} {c : Nat} {nm : List Int} {rows : List (List Int)} {o : List (Int × Int)} {u i : Nat} (h : RWv S0 S st rs r N W as c nm rows o u i) (k : SG S S') : RWv S0 S' st rs r N W as c nm rows o u i :=
  ⟨h.sk.trans k.sk, h.ra.keepG k, k _ _ (fun z => z) h.hN, k _ _ (fun z => z) h.hW, h.g⟩
theorem Dk.free {st cl rs : Addr} {n : Nat} {S0 S : Sto} (D : Dk st cl rs n S) (k : SK (DQ st rs) S0 S) {a : Addr} (z : S a = none) : S0 a = none := SK.free k z fun q => q.elim (D.fresh z).1 (D.fresh z).2.2
theorem fm_not {α β : Type} (g : α → β) (q : α → Bool) : ∀ l : List α, (l.filterMap fun x => if q x = true then none else some (g x)) = (l.filter fun x => !q x).map g
  | [] => rfl
  | a :: l => by
    rw [List.filterMap_cons, List.filter_cons]
    cases h : q a with
    | true => simp only [if_true, Bool.not_true, Bool.false_eq_true, if_false]; exact fm_not g q l
    | false => simp only [Bool.false_eq_true, if_false, Bool.not_false, if_true, List.map_cons]; rw [fm_not g q l]
theorem atI_last {xs : List D} {d : D} : atI (xs ++ [d]) (-1) = some d := by
  unfold atI ixN
  rw [if_neg (by decide), if_pos (by rw [List.length_append, List.length_singleton]; omega)]
  show (xs ++ [d])[_]? = some d
  have : (-1 + ((xs ++ [d]).length : Int)).toNat = xs.length := by rw [List.length_append, List.length_singleton]; omega
  rw [this, List.getElem?_append_right (Nat.le_refl _), Nat.sub_self]
  rfl
end Sv
set_option maxHeartbeats 800000
set_option autoImplicit false
namespace Sv
open PySem PySem.Spec PyProof.Rows L2
theorem fm_iteS {α β : Type} (g : α → β) (c : α → Bool) : ∀ l : List α, l.filterMap (fun x => if c x = true then some (g x) else none) = (l.filter c).map g
  | [] => rfl
  | a :: l => by
    rw [List.filterMap_cons, List.filter_cons]
    cases h : c a with
    | true =>
      rw [if_pos rfl, if_pos rfl, List.map_cons, fm_iteS g c l]
    | false =>
      rw [if_neg Bool.false_ne_true, if_neg Bool.false_ne_true, fm_iteS g c l]
theorem w_stateS {ns : List Int} {S : Sto} {R : DK} (hn : ns.length ≤ 1000) (k : ∀ st big al S', Ds st big al 0 S' → SG S S' → S st = none → S big = none → S al = none → R (.ref st) S') : dFn 3 B_law_state_64d4 [.rol (intsD ns)] S R := by
  refine ⟨_, rfl, _, rfl, ?_⟩
  refine lc_mapE ns D.int rfl (fun i => some (D.int (if i < 0 then -i else i))) (by omega) (fun _ _ => True.intro) (fun i hi S1 sg K Kn hk _ => turn_y ⟨_, rfl, i, rfl, hk _ rfl _ (.refl _)⟩) fun p S1 np sg1 hp => ?_
  rw [fm_map] at hp
  have ep : ns.map (fun i => D.int (if i < 0 then -i else i)) = intsD (ns.map fun i => if i < 0 then -i else i) := by
    unfold intsD
    rw [List.map_map]
    rfl
  rw [ep] at hp
  have bl : (ns.map fun i => if i < 0 then -i else i).length = ns.length := List.length_map ..
  generalize (ns.map fun i => if i < 0 then -i else i) = bs at hp bl
  have pow : ((10 : Int) ^ (18 : Int).toNat) = 1000000000000000000 := by decide
  refine ⟨_, rfl, _, ⟨_, hp, rfl⟩, ?_⟩
  refine lc_mapE bs D.int rfl (fun i => if decide ((1000000000000000000 : Int) ≤ i) = true then some (D.int i) else none) (by omega) (fun S' sg => sg _ _ (fun z => z) hp) (fun i hi S2 sg K Kn hk hkn => turn_n ?_) fun q S2 nq sg2 hq => ?_
  · refine ⟨_, rfl, ⟨by decide, by decide, by decide⟩, _, rfl, ?_⟩
    rw [pow]
    exact iteB (fun c => ⟨_, rfl, hk _ (if_pos c) _ (.refl _)⟩) (fun c => hkn (if_neg (by rw [show decide ((1000000000000000000 : Int) ≤ i) = false from c]; exact Bool.false_ne_true)) _ (.refl _))
  rw [fm_iteS] at hq
  have hq : S2 q = some (.lst (intsD (bs.filter fun i => decide ((1000000000000000000 : Int) ≤ i)))) := hq
  have hp2 := sg2 _ _ (fun z => z) hp
  refine ⟨_, rfl, _, rfl, _, _, rfl, seqOf_lst hp2, rfl, fun a na => ?_⟩
  have sga : SG S2 (S2.put a (.lst [.int (((intsD bs).length : Int) + 7)])) := .new na
  have ha : (S2.put a (.lst [.int (((intsD bs).length : Int) + 7)])) a = some (.lst (intsD [((intsD bs).length : Int) + 7])) := Sto.same
  have hp3 := sga _ _ (fun z => z) hp2
  have hq3 := sga _ _ (fun z => z) hq
  generalize S2.put a (.lst [.int (((intsD bs).length : Int) + 7)]) = S3 at sga ha hp3 hq3 ⊢
  refine ⟨_, _, hp3, ha, by rw [intsD_len, intsD_len]; show _ + 1 ≤ _; omega, fun v nv => ?_⟩
  have sgv : SG S3 (S3.put v (.lst (intsD bs ++ intsD [((intsD bs).length : Int) + 7]))) := .new nv
  have hv : (S3.put v (.lst (intsD bs ++ intsD [((intsD bs).length : Int) + 7]))) v = some (.lst (intsD (bs ++ [((intsD bs).length : Int) + 7]))) := by
    rw [Sto.same]
    unfold intsD
    rw [List.map_append]
  have hq4 := sgv _ _ (fun z => z) hq3
  have vq : q ≠ v := fun z => by rw [← z, hq3] at nv; cases nv
  generalize S3.put v (.lst (intsD bs ++ intsD [((intsD bs).length : Int) + 7])) = S4 at sgv hv hq4 ⊢
  refine ⟨rfl, fun st nst => ?_⟩
  have sg14 := ((sg1.trans sg2).trans sga).trans sgv
  have n1 : st ≠ q := fun z => by rw [z, hq4] at nst; cases nst
  have n2 : st ≠ v := fun z => by rw [z, hv] at nst; cases nst
  have none_of : ∀ {S' : Sto} {x : Addr}, SG S S' → S' x = none → S x = none := fun {S' x} sg h => by
    cases z : S x with
    | none => rfl
    | some o => rw [sg _ _ (fun z => z) z] at h; cases h
  exact k st q v _ ⟨n1, n2, vq, _, _, 0, Nat.le_refl _, by rw [List.length_append]; exact Nat.succ_pos _, by rw [List.length_append]; show _ + 1 ≤ _; omega, Sto.same, (Sto.ne (Ne.symm n1)).trans hq4, (Sto.ne (Ne.symm n2)).trans hv⟩ (sg14.trans (.new nst)) (none_of sg14 nst) (none_of sg1 nq) (none_of ((sg1.trans sg2).trans sga) nv)
theorem w_pickS {st big al : Addr} {n : Nat} {S : Sto} {d : D} {ds : List D} {R : DK} (h : Ds st big al n S) (h9 : n ≤ 1000000) (hd : ∀ S', SK (DS' st big) S S' → seqOf S' d = some ds) (h0 : ds ≠ []) (hn : ds.length ≤ 100000)
    (k : ∀ (j : Nat) (x : D) S', ds[j]? = some x → Ds st big al (n + 1) S' → SK (DS' st big) S S' → R x S') : dFn 2 B_law_pick_6e96 [.ref st, d] S R := by
  refine ⟨_, rfl, _, rfl, _, rfl, d, _, rfl, hd S (.refl S), rfl, ?_⟩
  have hp : 0 < ds.length := List.length_pos_iff.mpr h0
  refine w_drawS h h9 (by omega) (by omega) fun j S3 i1 D3 k3 => ?_
  have hj : j < ds.length := by omega
  have hx := List.getElem?_eq_getElem hj
  exact ⟨ds, j, ds[j], hd S3 k3, rfl, atI_nat hx, k j _ S3 hx D3 k3⟩
theorem w_mixedS {st big al : Addr} {n : Nat} {S : Sto} {d : D} {ns : List Int} {R : DK} (h : Ds st big al n S) (h9 : n + 200 ≤ 1000000) (hd : seqOf S d = some (intsD ns)) (hn : ns.length ≤ 100)
    (k : ∀ (ms : List Int) S', Ds st big al (n + ns.length) S' → SK (DS' st big) S S' → ms.Perm ns → R (.tup (intsD ms)) S') : dFn 4 B_law_mixed_b93a [.ref st, d] S R := by
  refine ⟨_, rfl, d, _, rfl, hd, fun l nl => ⟨rfl, fun f nf => ⟨rfl, _, rfl, .inl (.inl rfl), _, _, rfl, _, _, rfl, rfl, ?_⟩⟩⟩
  have hlf : l ≠ f := fun z => by rw [← z, Sto.same] at nf; cases nf
  have k0 : SK (DS' st big) S ((S.put l (.lst (intsD ns))).put f (.lst [])) := (SK.new nl).trans (.new nf)
  have nfS : S f = none := by rw [Sto.ne (Ne.symm hlf)] at nf; exact nf
  have l1 := h.fresh nl
  have f1 := h.fresh nfS
  have h0 : Ds st big al n ((S.put l (.lst (intsD ns))).put f (.lst [])) := (h.put l1).put f1
  have hl0 : ((S.put l (.lst (intsD ns))).put f (.lst [])) l = some (.lst (intsD ns)) := (Sto.ne hlf).trans Sto.same
  have hf0 : ((S.put l (.lst (intsD ns))).put f (.lst [])) f = some (.lst (intsD [])) := Sto.same
  generalize (S.put l (.lst (intsD ns))).put f (.lst []) = S0 at k0 h0 hl0 hf0 ⊢
  show dSeq (dWhile _ _) (dRet _) _ [some (D.ref st), some d, some (D.ref l), some (D.ref f)] S0
  refine seqP (fun env S' => env = [some (.ref st), some d, some (.ref l), some (.ref f)] ∧ ∃ ms : List Int, Ds st big al (n + ns.length) S' ∧ SK (DS' st big) S S' ∧ S' f = some (.lst (intsD ms)) ∧ ms.Perm ns) (fun C' _ _ _ hnx => ?_) ?_
  · refine ⟨fun m env S' => ∃ xs ys : List Int, m = xs.length ∧ env = [some (.ref st), some d, some (.ref l), some (.ref f)] ∧ Ds st big al (n + ys.length) S' ∧ SK (DS' st big) S S' ∧ S' l = some (.lst (intsD xs)) ∧ S' f = some (.lst (intsD ys)) ∧ (ys ++ xs).Perm ns, ⟨_, ns, [], rfl, rfl, h0, k0, hl0, hf0, .refl _⟩, ?_⟩
    rintro m env S1 ⟨xs, ys, rfl, rfl, D1, k1, hl, hf, pm⟩
    refine ⟨_, rfl, rfl, fun p np => ?_⟩
    have k2 : SG S1 (S1.put p (.lst [])) := .new np
    have D2 := D1.keep k2
    have hl2 := k2 _ _ (fun z => z) hl
    have hf2 := k2 _ _ (fun z => z) hf
    have hp2 : (S1.put p (.lst [])) p = some (.lst []) := Sto.same
    have k2' := k1.trans k2.sk
    generalize S1.put p (.lst []) = S2 at D2 hl2 hf2 hp2 k2' ⊢
    refine ⟨_, _, .lst hl2 (pys_ints xs), .lst hp2 .nil, shaped_ints xs, by decide +kernel, _, rfl, ?_⟩
    have pl := pm.length_eq
    rw [List.length_append] at pl
    cases xs with
    | nil =>
      refine goF (hnx _ _ ⟨rfl, ys, D2.mono (by simp at pl; omega), k2', hf2, ?_⟩)
      rw [List.append_nil] at pm
      exact pm
    | cons x xs =>
      have hle : (x :: xs).length ≤ 100 := by omega
      refine goT ⟨_, rfl, ⟨rfl, _, seqOf_lst hf2, noTup _⟩, _, rfl, ⟨rfl, _, seqOf_lst hl2, noTup _⟩, _, rfl, _, rfl, _, _, rfl, seqOf_lst hl2, rfl, ?_⟩
      rw [intsD_len]
      have hlpos : (0 : Int) < ((x :: xs).length : Int) := by rw [List.length_cons]; omega
      refine w_drawS D2 (by omega) hlpos (by omega) fun j S3 i1 D3 k3 => ?_
      have hl3 := k3 _ _ (nDS l1) hl2
      have hf3 := k3 _ _ (nDS f1) hf2
      have hj : j < (x :: xs).length := by omega
      have hx : (x :: xs)[j]? = some (x :: xs)[j] := List.getElem?_eq_getElem hj
      refine ⟨l, _, (j : Int), j, .int (x :: xs)[j], rfl, rfl, hl3, by omega, by omega, ?_, by rw [intsD, List.getElem?_map, hx]; rfl, ?_⟩
      · exact seqIndex_of (by omega) (by rw [intsD_len]; omega)
      have e1 : (intsD (x :: xs)).eraseIdx j = intsD ((x :: xs).eraseIdx j) := by
        unfold intsD
        rw [eraseIdx_map']
      rw [e1]
      have hf4 : (S3.put l (.lst (intsD ((x :: xs).eraseIdx j)))) f = _ := (Sto.ne (Ne.symm hlf)).trans hf3
      refine ⟨f, _, _, rfl, rfl, hf4, by rw [intsD_len]; omega, _, ?_, (x :: xs).eraseIdx j, ys ++ [(x :: xs)[j]], rfl, rfl, ?_, ?_, (Sto.ne hlf).trans Sto.same, ?_, ?_⟩
      · rw [List.length_eraseIdx, if_pos hj, List.length_cons]
        omega
      · refine ((D3.put l1).put f1).mono ?_
        rw [List.length_append]
        show n + ys.length + 1 ≤ n + (ys.length + 1)
        omega
      · exact SK.own (SK.own (k2'.trans k3) nl) nfS
      · rw [Sto.same]
        unfold intsD
        rw [List.map_append]
        rfl
      · rw [List.append_assoc]
        refine (List.Perm.append_left ys ?_).trans pm
        have : ((x :: xs)[j] :: (x :: xs).eraseIdx j).Perm (x :: xs) := perm_eraseIdx _ j hj
        exact this
  · rintro env S1 ⟨rfl, ms, D1, k1, hf, pm⟩
    exact ⟨_, rfl, _, _, rfl, seqOf_lst hf, fun ys z => (nomatch z), k ms S1 D1 k1 pm⟩
end Sv
set_option maxHeartbeats 400000
set_option maxHeartbeats 400000
set_option maxHeartbeats 400000
set_option maxHeartbeats 400000
namespace Sv
open PySem L2
structure Up (rows : List (List Int)) (low cs : List Nat) : Prop where
  len : cs.length = low.length
  ge : LeL low cs
  bot : ∀ L : List Nat, L.length = low.length → LeL low L → ConsL rows L → LeL cs L
structure IsUp (rows : List (List Int)) (low cs : List Nat) : Prop extends Up rows low cs where
  cons : ConsL rows cs
theorem IsUp.unique {rows : List (List Int)} {low a b : List Nat} (ha : IsUp rows low a) (hb : IsUp rows low b) : a = b := by
  apply List.ext_getElem (ha.len.trans hb.len.symm)
  intro i h1 h2
  have e1 := List.getElem?_eq_getElem h1
  have e2 := List.getElem?_eq_getElem h2
  exact Nat.le_antisymm (ha.bot b hb.len hb.ge hb.cons i _ _ e1 e2) (hb.bot a ha.len ha.ge ha.cons i _ _ e2 e1)
theorem Up.start (rows : List (List Int)) (low : List Nat) : Up rows low low := ⟨rfl, .refl _, fun _ _ h _ => h⟩
theorem Up.step {rows : List (List Int)} {low cs : List Nat} (h : Up rows low cs) {m : Int} {p k p' k' c c' : Nat} (hm : 0 < m) (h1 : hap rows m = some (p, k)) (h2 : hap rows (0 - m) = some (p', k')) (h3 : cs[p]? = some c) (h4 : cs[p']? = some c') (h5 : k' < c') (h6 : c ≤ k) : Up rows low (cs.set p (k + 1)) := by
  refine ⟨by rw [List.length_set]; exact h.len, fun i x y g1 g2 => ?_, fun L l1 l2 l3 i x y g1 g2 => ?_⟩
  · rw [List.getElem?_set] at g2
    split at g2
    · rename_i e
      subst e
      split at g2
      · obtain rfl := Option.some.inj g2
        have := h.ge _ _ _ g1 h3
        omega
      · cases g2
    · exact h.ge _ _ _ g1 g2
  · have hl := h.bot L l1 l2 l3
    rw [List.getElem?_set] at g1
    split at g1
    · rename_i e
      subst e
      split at g1
      · obtain rfl := Option.some.inj g1
        have hpl : p' < L.length := by
          rw [l1, ← h.len]
          exact (List.getElem?_eq_some_iff.mp h4).1
        have hp := List.getElem?_eq_getElem hpl
        have h7 := hl _ _ _ h4 hp
        have := l3 m p k p' k' y _ hm h1 h2 g2 hp (by omega)
        omega
      · cases g1
    · exact hl _ _ _ g1 g2
def capS (cs : List Nat) : Nat := (cs.map fun c => 1002 - c).sum
theorem capS_set {cs : List Nat} {p c k : Nat} (h : cs[p]? = some c) : capS (cs.set p k) + (1002 - c) = capS cs + (1002 - k) := by
  unfold capS
  rw [List.map_set]
  exact sum_set (by rw [List.getElem?_map, h]; rfl)
theorem up_exists {rows : List (List Int)} (hs : ∀ e, HapS (hap rows e)) (low : List Nat) : ∃ cs, IsUp rows low cs := by
  have go : ∀ (n : Nat) (cs : List Nat), capS cs ≤ n → Up rows low cs → ∃ cs, IsUp rows low cs := by
    intro n
    induction n with
    | zero =>
      intro cs hs' hd
      refine ⟨cs, hd, fun m p k p' k' c c' hm h1 h2 h3 h4 h5 => ?_⟩
      have := capS_set (k := k + 1) h3
      have := (hs _ _ _ h1).2
      omega
    | succ n ih =>
      intro cs hs' hd
      refine Classical.byContradiction fun no => no ⟨cs, hd, fun m p k p' k' c c' hm h1 h2 h3 h4 h5 => Classical.byContradiction fun h6 => no (ih (cs.set p (k + 1)) ?_ (hd.step hm h1 h2 h3 h4 h5 (by omega)))⟩
      have := capS_set (k := k + 1) h3
      have := (hs _ _ _ h1).2
      omega
  exact go _ low (Nat.le_refl _) (.start rows low)
open Classical in
noncomputable def upL (rows : List (List Int)) (low : List Nat) : List Nat := if h : ∃ cs, IsUp rows low cs then Classical.choose h else low
theorem up_is {rows : List (List Int)} {many most : Nat} (hG : Good many most rows) (h6 : many ≤ 6) (h60 : most ≤ 60) (low : List Nat) : IsUp rows low (upL rows low) := by
  have h := up_exists (fun e => hG.hapS h6 h60 e) low
  unfold upL
  rw [dif_pos h]
  exact Classical.choose_spec h
def stD (s : Nat × Nat) : D := prD ((s.1 : Int), (s.2 : Int))
def lowS (l : List Nat) (s : Nat × Nat) : List Nat := l.set s.1 (max (l.getD s.1 0) s.2)
def highS (l : List Nat) (s : Nat × Nat) : List Nat := l.set s.1 (min (l.getD s.1 0) s.2)
def lowL (rows : List (List Int)) (ss : List (Nat × Nat)) : List Nat := ss.foldl lowS (List.replicate rows.length 0)
def highL (rows : List (List Int)) (ss : List (Nat × Nat)) : List Nat := ss.foldl highS (prs rows)
theorem lowS_len (l : List Nat) (s : Nat × Nat) : (lowS l s).length = l.length := List.length_set ..
theorem highS_len (l : List Nat) (s : Nat × Nat) : (highS l s).length = l.length := List.length_set ..
theorem foldl_low_len : ∀ (ss : List (Nat × Nat)) (l : List Nat), (ss.foldl lowS l).length = l.length
  | [], _ => rfl
  | s :: ss, l => by rw [List.foldl_cons, foldl_low_len ss, lowS_len]
theorem foldl_high_len : ∀ (ss : List (Nat × Nat)) (l : List Nat), (ss.foldl highS l).length = l.length
  | [], _ => rfl
  | s :: ss, l => by rw [List.foldl_cons, foldl_high_len ss, highS_len]
theorem prs_len (rows : List (List Int)) : (prs rows).length = rows.length := List.length_map ..
theorem lowL_len (rows : List (List Int)) (ss : List (Nat × Nat)) : (lowL rows ss).length = rows.length := by
  unfold lowL
  rw [foldl_low_len, List.length_replicate]
theorem highL_len (rows : List (List Int)) (ss : List (Nat × Nat)) : (highL rows ss).length = rows.length := by
  unfold highL
  rw [foldl_high_len, prs_len]
theorem getD_of {l : List Nat} {i x : Nat} (h : l[i]? = some x) : l.getD i 0 = x := by rw [List.getD_eq_getElem?_getD, h]; rfl
theorem lowS_le {l L : List Nat} {s : Nat × Nat} (hl : L.length = l.length) (hs : s.1 < l.length) : LeL (lowS l s) L ↔ LeL l L ∧ ∀ x, L[s.1]? = some x → s.2 ≤ x := by
  have hx := List.getElem?_eq_getElem hs
  generalize l[s.1] = x at hx
  unfold lowS
  rw [getD_of hx]
  constructor
  · intro h
    refine ⟨fun i a b h1 h2 => ?_, fun y hy => ?_⟩
    · by_cases z : s.1 = i
      · subst z
        obtain rfl := Option.some.inj (hx.symm.trans h1)
        have := h _ _ _ (List.getElem?_set_self hs) h2
        omega
      · exact h i a b (by rw [List.getElem?_set_ne z]; exact h1) h2
    · have := h _ _ _ (List.getElem?_set_self hs) hy
      omega
  · rintro ⟨h, g⟩ i a b h1 h2
    by_cases z : s.1 = i
    · subst z
      rw [List.getElem?_set_self hs] at h1
      obtain rfl := Option.some.inj h1
      have := h _ _ _ hx h2
      have := g _ h2
      omega
    · rw [List.getElem?_set_ne z] at h1
      exact h i a b h1 h2
theorem highS_le {l L : List Nat} {s : Nat × Nat} (hl : L.length = l.length) (hs : s.1 < l.length) : LeL L (highS l s) ↔ LeL L l ∧ ∀ x, L[s.1]? = some x → x ≤ s.2 := by
  have hx := List.getElem?_eq_getElem hs
  generalize l[s.1] = x at hx
  unfold highS
  rw [getD_of hx]
  constructor
  · intro h
    refine ⟨fun i a b h1 h2 => ?_, fun y hy => ?_⟩
    · by_cases z : s.1 = i
      · subst z
        obtain rfl := Option.some.inj (hx.symm.trans h2)
        have := h _ _ _ h1 (List.getElem?_set_self hs)
        omega
      · exact h i a b h1 (by rw [List.getElem?_set_ne z]; exact h2)
    · have := h _ _ _ hy (List.getElem?_set_self hs)
      omega
  · rintro ⟨h, g⟩ i a b h1 h2
    by_cases z : s.1 = i
    · subst z
      rw [List.getElem?_set_self hs] at h2
      obtain rfl := Option.some.inj h2
      have := h _ _ _ h1 hx
      have := g _ h1
      omega
    · rw [List.getElem?_set_ne z] at h2
      exact h i a b h1 h2
theorem foldl_low_le : ∀ {ss : List (Nat × Nat)} {l L : List Nat}, L.length = l.length → (∀ s ∈ ss, s.1 < l.length) → (LeL (ss.foldl lowS l) L ↔ LeL l L ∧ ∀ s ∈ ss, ∀ x, L[s.1]? = some x → s.2 ≤ x)
  | [], l, L, _, _ => ⟨fun h => ⟨h, fun s hs => nomatch hs⟩, fun h => h.1⟩
  | s :: ss, l, L, hl, hs => by
    rw [List.foldl_cons, foldl_low_le (by rw [lowS_len]; exact hl) (fun t ht => by rw [lowS_len]; exact hs t (List.mem_cons_of_mem _ ht)), lowS_le hl (hs s List.mem_cons_self)]
    exact ⟨fun ⟨⟨a, b⟩, c⟩ => ⟨a, fun t ht => (List.mem_cons.mp ht).elim (fun z => z ▸ b) (c t)⟩, fun ⟨a, b⟩ => ⟨⟨a, b s List.mem_cons_self⟩, fun t ht => b t (List.mem_cons_of_mem _ ht)⟩⟩
theorem foldl_high_le : ∀ {ss : List (Nat × Nat)} {l L : List Nat}, L.length = l.length → (∀ s ∈ ss, s.1 < l.length) → (LeL L (ss.foldl highS l) ↔ LeL L l ∧ ∀ s ∈ ss, ∀ x, L[s.1]? = some x → x ≤ s.2)
  | [], l, L, _, _ => ⟨fun h => ⟨h, fun s hs => nomatch hs⟩, fun h => h.1⟩
  | s :: ss, l, L, hl, hs => by
    rw [List.foldl_cons, foldl_high_le (by rw [highS_len]; exact hl) (fun t ht => by rw [highS_len]; exact hs t (List.mem_cons_of_mem _ ht)), highS_le hl (hs s List.mem_cons_self)]
    exact ⟨fun ⟨⟨a, b⟩, c⟩ => ⟨a, fun t ht => (List.mem_cons.mp ht).elim (fun z => z ▸ b) (c t)⟩, fun ⟨a, b⟩ => ⟨⟨a, b s List.mem_cons_self⟩, fun t ht => b t (List.mem_cons_of_mem _ ht)⟩⟩
theorem lowL_le {rows : List (List Int)} {ss : List (Nat × Nat)} {L : List Nat} (hl : L.length = rows.length) (hs : ∀ s ∈ ss, s.1 < rows.length) : LeL (lowL rows ss) L ↔ ∀ s ∈ ss, ∀ x, L[s.1]? = some x → s.2 ≤ x := by
  unfold lowL
  rw [foldl_low_le (by rw [List.length_replicate]; exact hl) (fun s h => by rw [List.length_replicate]; exact hs s h)]
  refine ⟨fun h => h.2, fun h => ⟨fun i a b h1 _ => ?_, h⟩⟩
  obtain ⟨_, e⟩ := List.getElem?_eq_some_iff.mp h1
  rw [List.getElem_replicate] at e
  omega
theorem highL_le {rows : List (List Int)} {ss : List (Nat × Nat)} {L : List Nat} (hl : L.length = rows.length) (hs : ∀ s ∈ ss, s.1 < rows.length) : LeL L (highL rows ss) ↔ LeL L (prs rows) ∧ ∀ s ∈ ss, ∀ x, L[s.1]? = some x → x ≤ s.2 := by
  unfold highL
  exact foldl_high_le (by rw [prs_len]; exact hl) (fun s h => by rw [prs_len]; exact hs s h)
/-- a consistent line with the states -/
structure Thru (rows : List (List Int)) (ss : List (Nat × Nat)) (L : List Nat) : Prop where
  len : L.length = rows.length
  le : LeL L (prs rows)
  cons : ConsL rows L
  on : ∀ s ∈ ss, L[s.1]? = some s.2
theorem thru_iff {rows : List (List Int)} {ss : List (Nat × Nat)} {L : List Nat} (hs : ∀ s ∈ ss, s.1 < rows.length) : Thru rows ss L ↔ L.length = rows.length ∧ ConsL rows L ∧ LeL (lowL rows ss) L ∧ LeL L (highL rows ss) := by
  constructor
  · intro h
    refine ⟨h.len, h.cons, (lowL_le h.len hs).mpr fun s hs' x hx => ?_, (highL_le h.len hs).mpr ⟨h.le, fun s hs' x hx => ?_⟩⟩
    · have := h.on s hs'
      rw [this] at hx
      obtain rfl := Option.some.inj hx
      exact Nat.le_refl _
    · have := h.on s hs'
      rw [this] at hx
      obtain rfl := Option.some.inj hx
      exact Nat.le_refl _
  · rintro ⟨h1, h2, h3, h4⟩
    have h3 := (lowL_le h1 hs).mp h3
    have h4 := (highL_le h1 hs).mp h4
    refine ⟨h1, h4.1, h2, fun s hs' => ?_⟩
    have hl : s.1 < L.length := by rw [h1]; exact hs s hs'
    have hx := List.getElem?_eq_getElem hl
    rw [hx, Nat.le_antisymm (h4.2 s hs' _ hx) (h3 s hs' _ hx)]
/-- the least one, if there is one -/
theorem thru_up {rows : List (List Int)} {many most : Nat} (hG : Good many most rows) (h6 : many ≤ 6) (h60 : most ≤ 60) {ss : List (Nat × Nat)} (hs : ∀ s ∈ ss, s.1 < rows.length) : (∃ L, Thru rows ss L) ↔ LeL (upL rows (lowL rows ss)) (highL rows ss) := by
  have u := up_is hG h6 h60 (lowL rows ss)
  constructor
  · rintro ⟨L, h⟩
    obtain ⟨h1, h2, h3, h4⟩ := (thru_iff hs).mp h
    have := u.bot L (by rw [h1, lowL_len]) h3 h2
    intro i x y g1 g2
    have hl : i < L.length := by rw [h1, ← highL_len rows ss]; exact (List.getElem?_eq_some_iff.mp g2).1
    have e := List.getElem?_eq_getElem hl
    have a1 := this _ _ _ g1 e
    have a2 := h4 _ _ _ e g2
    omega
  · intro h
    exact ⟨_, (thru_iff hs).mpr ⟨u.len.trans (lowL_len rows ss), u.cons, u.ge, h⟩⟩
theorem SG.none' {S S' : Sto} (sg : SG S S') {p : Addr} (n : S' p = none) : S p = none := SK.free sg n fun z => z
end Sv
set_option maxHeartbeats 400000
namespace Sv
open PySem L2
def cutsU (rows : List (List Int)) : Nat → List (List Nat)
  | 0 => [[]]
  | i + 1 => (cutsU rows i).flatMap fun c => (List.range ((rows.getD i []).count 0 + 2)).map fun n => c ++ [n]
def cutD' (c : List Nat) : D := .tup (natD c)
theorem getD_count {rows : List (List Int)} {B : Nat} (h : ∀ r ∈ rows, r.count 0 + 2 ≤ B) (h2 : 2 ≤ B) (i : Nat) : (rows.getD i []).count 0 + 2 ≤ B := by
  rw [List.getD_eq_getElem?_getD]
  cases e : rows[i]? with
  | none => exact h2
  | some r => exact h r (List.mem_of_getElem? e)
theorem cutsU_lenB {rows : List (List Int)} {B : Nat} (h : ∀ r ∈ rows, r.count 0 + 2 ≤ B) (h2 : 2 ≤ B) : ∀ i, (cutsU rows i).length ≤ B ^ i
  | 0 => Nat.le_refl _
  | i + 1 => by
    have ih := cutsU_lenB h h2 i
    have hc : ∀ c ∈ cutsU rows i, ((List.range ((rows.getD i []).count 0 + 2)).map fun n => c ++ [n]).length ≤ B := fun c _ => by
      rw [List.length_map, List.length_range]
      exact getD_count h h2 i
    have := flat_le _ B (cutsU rows i) hc
    show ((cutsU rows i).flatMap _).length ≤ _
    rw [Nat.pow_succ]
    exact Nat.le_trans this (Nat.mul_le_mul_right B ih)
end Sv
set_option maxHeartbeats 400000
namespace Sv
open PySem PySem.Spec PyProof.Rows L2
structure Fine (n W : Nat) (d : PyData) : Prop where
  dep : d.depth ≤ n
  wei : d.weight ≤ W
  lay : d.canLay0 = true
  sho : d.showable = true
  ish : d.intsShort 40 = true
structure FineAll (n W : Nat) (ds : List PyData) : Prop where
  dep : PyData.depthAll ds ≤ n
  wei : PyData.weightAll ds ≤ W
  lay : PyData.canLayAll0 ds = true
  sho : PyData.showableAll ds = true
  ish : PyData.intsShortAll 40 ds = true
theorem FineAll.mono {n W m U : Nat} {d : List PyData} (h : FineAll n W d) (e : n ≤ m) (e2 : W ≤ U) : FineAll m U d := ⟨Nat.le_trans h.dep e, Nat.le_trans h.wei e2, h.lay, h.sho, h.ish⟩
theorem fine_nil : FineAll 0 0 [] := ⟨Nat.le_refl _, Nat.le_refl _, rfl, rfl, rfl⟩
theorem fine_cons {n W U : Nat} {d : PyData} {ds : List PyData} (h : Fine n W d) (hs : FineAll n U ds) : FineAll n (W + 1 + U) (d :: ds) := by
  refine ⟨?_, ?_, ?_, ?_, ?_⟩
  · simp only [PyData.depthAll]
    exact Nat.max_le.mpr ⟨h.dep, hs.dep⟩
  · have h1 := h.wei
    have h2 := hs.wei
    simp only [PyData.weightAll]
    omega
  · simp only [PyData.canLayAll0, h.lay, hs.lay, Bool.and_self]
  · simp only [PyData.showableAll, h.sho, hs.sho, Bool.and_self]
  · simp only [PyData.intsShortAll, h.ish, hs.ish, Bool.and_self]
theorem fine_all {n W : Nat} : ∀ {ds : List PyData}, (∀ d ∈ ds, Fine n W d) → FineAll n ((W + 1) * ds.length) ds
  | [], _ => fine_nil.mono (Nat.zero_le _) (Nat.zero_le _)
  | d :: ds, h => by
    have q := fine_cons (h d List.mem_cons_self) (fine_all fun x hx => h x (List.mem_cons_of_mem _ hx))
    refine q.mono (Nat.le_refl _) ?_
    rw [List.length_cons, Nat.mul_add, Nat.mul_one]
    omega
theorem fine_int {i : Int} (h : i.natAbs < 10 ^ 30) : Fine 0 101 (.int i) := by
  have hl : i.natAbs ≠ 0 → i.natAbs.log2 < 100 := fun h0 => (Nat.log2_lt h0).mpr (Nat.lt_trans h (by decide +kernel))
  have hl2 : i.natAbs.log2 < 1920 := by
    by_cases h0 : i.natAbs = 0
    · rw [h0]; decide
    · exact Nat.lt_trans (hl h0) (by decide)
  refine ⟨Nat.le_refl _, ?_, rfl, decide_eq_true hl2, decide_eq_true ?_⟩
  · simp only [PyData.weight]
    split
    · exact Nat.zero_le _
    · rename_i h0
      have : i.natAbs ≠ 0 := fun z => h0 (by rw [beq_iff_eq]; omega)
      have := hl this
      omega
  · have e := int_text_length_le10 (a := i) (k := 30) (by decide) h
    show (Str.ofString (toString i)).length ≤ 40
    rw [PySem.ofString_length]
    omega
theorem fine_ints {ns : List Int} (h : ∀ n ∈ ns, n.natAbs < 10 ^ 30) : FineAll 0 (102 * ns.length) (iD ns) := by
  have q := fine_all (n := 0) (W := 101) (ds := iD ns) fun d hd => by
    obtain ⟨n, hn, rfl⟩ := List.mem_map.mp hd
    exact fine_int (h n hn)
  unfold iD at q ⊢
  rw [List.length_map] at q
  exact q
theorem fine_tuple {n W : Nat} {ds : List PyData} (h : FineAll n W ds) : Fine (n + 1) W (.tuple ds) := by
  have h1 := h.dep
  refine ⟨by simp only [PyData.depth]; omega, h.wei, ?_, ?_, ?_⟩
  · simp only [PyData.canLay0, h.lay]
  · simp only [PyData.showable, h.sho]
  · simp only [PyData.intsShort, h.ish]
theorem Fine.len {n W : Nat} {d : PyData} (h : Fine n W d) (hW : W ≤ 300000) : d.shown.length ≤ sizeLine := by
  have q := PyData.shown_le 40 (by decide) d (PyData.leavesShort_of_canLay0 40 d h.lay h.ish)
  have := h.wei
  rw [sizeLine_eq]
  omega
theorem Fine.mono {n W m U : Nat} {d : PyData} (h : Fine n W d) (e : n ≤ m) (e2 : W ≤ U) : Fine m U d := ⟨Nat.le_trans h.dep e, Nat.le_trans h.wei e2, h.lay, h.sho, h.ish⟩
end Sv
set_option maxHeartbeats 400000
namespace Sv
open PySem PySem.Spec PyProof.Rows L2
def rPy (rows : List (List Int)) : PyData := .tuple (rows.map fun r => .tuple (r.map PyData.int))
theorem py_rows {S : Sto} (rows : List (List Int)) : Py S (D.tup (rowsD rows)) (rPy rows) := by
  refine .tup ?_
  induction rows with
  | nil => exact .nil
  | cons r t ih => exact .cons (.tup (pys_ints r)) ih
theorem py_nat {S : Sto} (cs : List Nat) : Py S (.tup (natD cs)) (.tuple ((cs.map fun (c : Nat) => (c : Int)).map PyData.int)) := by
  rw [natD_ints]
  exact .tup (pys_ints _)
theorem Fine.text {n W : Nat} {d : PyData} (h : Fine n W d) (hn : n ≤ 60) (hW : W ≤ 300000) (hi : isDisplay d = true) : Text d := ⟨hi, h.sho, PyData.hasDict_of_canLay d h.lay, Nat.le_trans h.dep hn, h.len hW⟩
end Sv
set_option maxHeartbeats 400000
namespace Sv
open PySem PySem.Spec PyProof.Rows L2
/-- not too many lines -/
def Wl (rows : List (List Int)) : Prop := ∃ B, 2 ≤ B ∧ B ≤ 1000 ∧ (∀ r ∈ rows, r.count 0 + 2 ≤ B) ∧ B ^ rows.length ≤ 70000
theorem Wl.of {a b : Nat} {rows : List (List Int)} (hG : Good a b rows) (hb : b ≤ 60) (h : (b + 2) ^ a ≤ 70000) : Wl rows := by
  refine ⟨b + 2, by omega, by omega, fun r hr => ?_, ?_⟩
  · obtain ⟨i, hi⟩ := List.getElem?_of_mem hr
    have h1 := (hG.row hi).1
    have h2 : r.count 0 ≤ r.length := List.count_le_length ..
    omega
  · exact Nat.le_trans (Nat.pow_le_pow_right (by omega) hG.len.2) h
theorem Wl.len {rows : List (List Int)} (h : Wl rows) (i : Nat) (hi : i ≤ rows.length) : (cutsU rows i).length ≤ 70000 := by
  obtain ⟨B, h2, _, hc, hB⟩ := h
  exact Nat.le_trans (cutsU_lenB hc h2 i) (Nat.le_trans (Nat.pow_le_pow_right (by omega) hi) hB)
end Sv
set_option maxHeartbeats 400000
namespace Sv
open PySem PySem.Spec PyProof.Rows L2
theorem fine_pair {x : Int × Int} (h1 : x.1.natAbs < 10 ^ 30) (h2 : x.2.natAbs < 10 ^ 30) : Fine 1 204 (pD x) := by
  have q : FineAll 0 (102 * [x.1, x.2].length) (iD [x.1, x.2]) := fine_ints fun y hy => by
    rcases List.mem_cons.mp hy with rfl | hy
    · exact h1
    · rw [List.mem_singleton.mp hy]; exact h2
  exact fine_tuple q
theorem fine_list {n W : Nat} {ds : List PyData} (h : FineAll n W ds) : Fine (n + 1) W (.list ds) := by
  have h1 := h.dep
  refine ⟨by simp only [PyData.depth]; omega, h.wei, ?_, ?_, ?_⟩
  · simp only [PyData.canLay0, h.lay]
  · simp only [PyData.showable, h.sho]
  · simp only [PyData.intsShort, h.ish]
end Sv
set_option maxHeartbeats 400000
namespace Sv
open PySem PySem.Spec PyProof.Rows L2
def nxG (rows : List (List Int)) (nx : Int → Int → Bool) (m : Int) : List Int := (recvL rows).filter (nx m)
inductive Dz (rows : List (List Int)) (nx : Int → Int → Bool) (base : Int → Bool) : Nat → Int → Prop
  | base {m : Int} : m ∈ recvL rows → base m = true → Dz rows nx base 1 m
  | step {n : Nat} {m t : Int} : m ∈ recvL rows → nx m t = true → Dz rows nx base n t → Dz rows nx base (n + 1) m
section
variable {rows : List (List Int)} {nx : Int → Int → Bool} {base : Int → Bool}
theorem Dz.mem {n : Nat} {m : Int} (h : Dz rows nx base n m) : m ∈ recvL rows := by
  cases h with
  | base h _ => exact h
  | step h _ _ => exact h
theorem Dz.pos {n : Nat} {m : Int} (h : Dz rows nx base n m) : 1 ≤ n := by
  cases h with
  | base _ _ => exact Nat.le_refl _
  | step _ _ _ => omega
theorem Dz.inv {n : Nat} {m : Int} (h : Dz rows nx base (n + 1) m) (hn : 1 ≤ n) : ∃ t, nx m t = true ∧ Dz rows nx base n t := by
  generalize e : n + 1 = k at h
  cases h with
  | base _ _ => omega
  | step _ h1 h2 =>
    obtain rfl := Nat.succ.inj e
    exact ⟨_, h1, h2⟩
theorem Dz.one {m : Int} (h : Dz rows nx base 1 m) : base m = true := by
  generalize e : 1 = k at h
  cases h with
  | base _ h => exact h
  | step _ _ h =>
    have := h.pos
    omega
/-- the least length -/
def Le (rows : List (List Int)) (nx : Int → Int → Bool) (base : Int → Bool) (n : Nat) (m : Int) : Prop := Dz rows nx base n m ∧ ∀ k, k < n → ¬ Dz rows nx base k m
theorem Dz.least : ∀ {n : Nat} {m : Int}, Dz rows nx base n m → ∃ k, k ≤ n ∧ Le rows nx base k m := by
  intro n
  induction n using Nat.strongRecOn with
  | ind n ih =>
    intro m h
    by_cases z : ∃ k, k < n ∧ Dz rows nx base k m
    · obtain ⟨k, hk, hd⟩ := z
      obtain ⟨j, hj, hl⟩ := ih k hk hd
      exact ⟨j, by omega, hl⟩
    · exact ⟨n, Nat.le_refl _, h, fun k hk hd => z ⟨k, hk, hd⟩⟩
theorem Le.unique {n k : Nat} {m : Int} (h : Le rows nx base n m) (g : Le rows nx base k m) : n = k := by
  rcases Nat.lt_trichotomy n k with z | z | z
  · exact absurd h.1 (g.2 n z)
  · exact z
  · exact absurd g.1 (h.2 k z)
end
def sbB (rows : List (List Int)) (m : Int) (s : Nat × Nat) : Bool := match hap rows m with
  | some (p, k) => decide (p = s.1) && decide (s.2 ≤ k)
  | none => false
def rbB (rows : List (List Int)) (s : Nat × Nat) (m : Int) : Bool := match hap rows (0 - m) with
  | some (p, k) => decide (p = s.1) && decide (k < s.2)
  | none => false
/-- messages that lead from a state (an interval) to a state -/
def Zk (rows : List (List Int)) (s t : Nat × Nat) : List Int → Prop
  | [] => s.1 = t.1 ∧ s.2 < t.2
  | m :: ms => m ∈ recvL rows ∧ sbB rows m s = true ∧ ∃ u, hap rows (0 - m) = some u ∧ Zk rows u t ms
def Zz (rows : List (List Int)) (s t : Nat × Nat) (ms : List Int) : Prop := ms ≠ [] ∧ Zk rows s t ms
/-- chosen step by step: each time the least message of those that are next to the end -/
inductive Best (rows : List (List Int)) (nx : Int → Int → Bool) (base : Int → Bool) : Nat → Int → List Int → Prop
  | one {m : Int} : Le rows nx base 1 m → Best rows nx base 1 m [m]
  | step {n : Nat} {m t : Int} {l : List Int} : Le rows nx base (n + 1) m → nx m t = true → (∀ t', nx m t' = true → Le rows nx base n t' → t ≤ t') → Best rows nx base n t l → Best rows nx base (n + 1) m (m :: l)
def lexle : List Int → List Int → Prop
  | [], _ => True
  | _ :: _, [] => False
  | a :: l, b :: r => a < b ∨ (a = b ∧ lexle l r)
theorem Best.le {rows : List (List Int)} {nx : Int → Int → Bool} {base : Int → Bool} {n : Nat} {m : Int} {l : List Int} (h : Best rows nx base n m l) : Le rows nx base n m := by
  cases h with
  | one h => exact h
  | step h _ _ _ => exact h
theorem Best.len {rows : List (List Int)} {nx : Int → Int → Bool} {base : Int → Bool} {n : Nat} {m : Int} {l : List Int} (h : Best rows nx base n m l) : l.length = n ∧ ∃ r, l = m :: r := by
  induction h with
  | one _ => exact ⟨rfl, [], rfl⟩
  | step _ _ _ _ ih => exact ⟨by rw [List.length_cons, ih.1], _, rfl⟩
/-- what find_zigzag promises -/
def FindZ (rows : List (List Int)) (s t : Nat × Nat) : Option (List Int) → Prop
  | none => ∀ ms, ¬ Zz rows s t ms
  | some ms => Zz rows s t ms ∧ ms.length ≤ 24 ∧ ∀ ms', Zz rows s t ms' → ms.length < ms'.length ∨ (ms.length = ms'.length ∧ lexle ms ms')
theorem lexle_anti : ∀ {a b : List Int}, lexle a b → lexle b a → a = b
  | [], [], _, _ => rfl
  | [], _ :: _, _, h => h.elim
  | _ :: _, [], h, _ => h.elim
  | x :: a, y :: b, h, g => by
    rcases h with h | ⟨rfl, h⟩
    · rcases g with g | ⟨rfl, g⟩
      · omega
      · omega
    · rcases g with g | ⟨_, g⟩
      · omega
      · rw [lexle_anti h g]
theorem FindZ.unique {rows : List (List Int)} {s t : Nat × Nat} : ∀ {a b : Option (List Int)}, FindZ rows s t a → FindZ rows s t b → a = b
  | none, none, _, _ => rfl
  | none, some ms, h, g => absurd g.1 (h ms)
  | some ms, none, h, g => absurd h.1 (g ms)
  | some a, some b, h, g => by
    rcases h.2.2 b g.1 with z | ⟨z, l1⟩
    · rcases g.2.2 a h.1 with y | ⟨y, _⟩ <;> omega
    · rcases g.2.2 a h.1 with y | ⟨y, l2⟩
      · omega
      · rw [lexle_anti l1 l2]
end Sv
set_option maxHeartbeats 400000
set_option autoImplicit false
namespace Sv
open PySem PySem.Spec PyProof.Rows L2
theorem dictOf_ref {S : Sto} {a : Addr} {kvs : List (Key × D)} (h : S a = some (.dK kvs)) : dictOf S (.ref a) = some kvs := by
  show (match S a with
    | some (.dK kvs) => some kvs
    | _ => none) = some kvs
  rw [h]
/-- the dict of what may stand behind each message -/
def StepsAt (S : Sto) (kvs : List (Key × D)) (rows : List (List Int)) (nx : Int → Int → Bool) : Prop := ∀ m ∈ recvL rows, ∃ l, getD' kvs (Sum.inl m) = some (.ref l) ∧ S l = some (.lst (intsD (nxG rows nx m)))
theorem StepsAt.keep {S S' : Sto} {kvs : List (Key × D)} {rows : List (List Int)} {nx : Int → Int → Bool} (h : StepsAt S kvs rows nx) (k : SG S S') : StepsAt S' kvs rows nx := fun m hm => by
  obtain ⟨l, h1, h2⟩ := h m hm
  exact ⟨l, h1, k _ _ (fun z => z) h2⟩
end Sv
set_option maxHeartbeats 400000
set_option autoImplicit false
set_option maxHeartbeats 400000
set_option autoImplicit false
namespace Sv
open PySem PySem.Spec PyProof.Rows L2
/-- states of different processes -/
structure Ch (rows : List (List Int)) (ss : List (Nat × Nat)) : Prop where
  lt : ∀ s ∈ ss, s.1 < rows.length
  le : ∀ s ∈ ss, ∀ x, (prs rows)[s.1]? = some x → s.2 ≤ x
  one : ∀ s ∈ ss, ∀ t ∈ ss, s.1 = t.1 → s = t
end Sv
set_option maxHeartbeats 400000
set_option autoImplicit false
namespace Sv
open PySem PySem.Spec PyProof.Rows L2
def chX (i n : Nat) (cs : List (List (Nat × Nat))) : List (List (Nat × Nat)) := cs.flatMap fun c => (List.range n).map fun k => c ++ [(i, k)]
def chU (rows : List (List Int)) : Nat → List (List (Nat × Nat))
  | 0 => [[]]
  | i + 1 => chU rows i ++ chX i ((rows.getD i []).count 0 + 2) (chU rows i)
theorem chX_len {i n B : Nat} (h : n ≤ B) (cs : List (List (Nat × Nat))) : (chX i n cs).length ≤ cs.length * B := flat_le _ B cs fun c _ => by rw [List.length_map, List.length_range]; exact h
theorem chU_len {rows : List (List Int)} {B : Nat} (h : ∀ r ∈ rows, r.count 0 + 3 ≤ B) (h2 : 3 ≤ B) : ∀ i, (chU rows i).length ≤ B ^ i
  | 0 => Nat.le_refl _
  | i + 1 => by
    have ih := chU_len h h2 i
    have hc : (rows.getD i []).count 0 + 2 ≤ B - 1 := by
      have := getD_count (B := B - 1) (fun r hr => by have := h r hr; omega) (by omega) i
      exact this
    have h3 := chX_len (i := i) hc (chU rows i)
    show (chU rows i ++ _).length ≤ _
    rw [List.length_append, Nat.pow_succ]
    have h4 : (chU rows i).length * (B - 1) + (chU rows i).length = (chU rows i).length * B := by
      rw [← Nat.mul_succ]
      congr 1
      omega
    have h5 := Nat.mul_le_mul_right B ih
    omega
/-- not too many choices -/
def Wc (rows : List (List Int)) : Prop := ∃ B, 3 ≤ B ∧ B ≤ 1000 ∧ (∀ r ∈ rows, r.count 0 + 3 ≤ B) ∧ B ^ rows.length ≤ 70000
theorem Wc.of {a b : Nat} {rows : List (List Int)} (hG : Good a b rows) (hb : b ≤ 60) (h : (b + 3) ^ a ≤ 70000) : Wc rows := by
  refine ⟨b + 3, by omega, by omega, fun r hr => ?_, ?_⟩
  · obtain ⟨i, hi⟩ := List.getElem?_of_mem hr
    have h1 := (hG.row hi).1
    have h2 : r.count 0 ≤ r.length := List.count_le_length ..
    omega
  · exact Nat.le_trans (Nat.pow_le_pow_right (by omega) hG.len.2) h
theorem Wc.len {rows : List (List Int)} (h : Wc rows) (i : Nat) (hi : i ≤ rows.length) : (chU rows i).length ≤ 70000 := by
  obtain ⟨B, h2, _, hc, hB⟩ := h
  exact Nat.le_trans (chU_len hc h2 i) (Nat.le_trans (Nat.pow_le_pow_right (by omega) hi) hB)
end Sv
set_option maxHeartbeats 400000
set_option autoImplicit false
namespace Sv
open PySem PySem.Spec PyProof.Rows L2
theorem Dk.off {st cl rs : Addr} {n : Nat} {S : Sto} (h : Dk st cl rs n S) {f : Addr} {l : List D} (hf : S f = some (.lst l)) (ht : ∀ d ∈ l, ∃ xs, d = .tup xs) : f ≠ st ∧ f ≠ cl ∧ f ≠ rs := by
  obtain ⟨a1, a2, a3, cs, ws, t, tn, c0, cw, hs, hc, hw⟩ := h
  have go : ∀ (a : Addr) (d : D) (r : List D), S a = some (.lst (d :: r)) → (∀ xs, d ≠ .tup xs) → f ≠ a := fun a d r ha hd z => by
    subst z
    rw [ha] at hf
    cases hf
    obtain ⟨xs, e⟩ := ht d List.mem_cons_self
    exact hd xs e
  refine ⟨go _ _ _ hs (fun xs z => (nomatch z)), ?_, ?_⟩
  · obtain ⟨c, r, rfl⟩ := List.exists_cons_of_ne_nil (List.length_pos_iff.mp c0)
    exact go cl (.int c) (intsD r) hc (fun xs z => (nomatch z))
  · obtain ⟨c, r, rfl⟩ := List.exists_cons_of_ne_nil (List.length_pos_iff.mp (cw ▸ c0))
    exact go rs (.int c) (intsD r) hw (fun xs z => (nomatch z))
end Sv
set_option maxHeartbeats 1000000
set_option autoImplicit false
namespace Sv
open PySem PySem.Spec PyProof.Rows L2
structure RWs (S0 S : Sto) (st big r W : Addr) (rows : List (List Int)) (o : List (Int × Int)) : Prop where
  sk : SK (DS' st big) S0 S
  hr : S r = some (.lst (rowsD rows))
  hW : S W = some (.lst (o.map pairD))
theorem RWs.keep {S0 S S' : Sto} {st big al r W : Addr} {rows : List (List Int)} {o : List (Int × Int)} (h : RWs S0 S st big r W rows o) (k : SK (DS' st big) S S') (n1 : r ≠ st ∧ r ≠ big ∧ r ≠ al) (n2 : W ≠ st ∧ W ≠ big ∧ W ≠ al) : RWs S0 S' st big r W rows o :=
  ⟨h.sk.trans k, k _ _ (nDS n1) h.hr, k _ _ (nDS n2) h.hW⟩
theorem RWs.keepG {S0 S S' : Sto} {st big r W : Addr} {rows : List (List Int)} {o : List (Int × Int)} (h : RWs S0 S st big r W rows o) (k : SG S S') : RWs S0 S' st big r W rows o :=
  ⟨h.sk.trans k.sk, k _ _ (fun z => z) h.hr, k _ _ (fun z => z) h.hW⟩
theorem w_historyS {st big al : Addr} {n pr ev : Nat} {S0 : Sto} {R : DK} (h : Ds st big al n S0) (h9 : n + 400 ≤ 1000000) (p1 : 1 ≤ pr) (p6 : pr ≤ 6) (e6 : ev ≤ 60)
    (k : ∀ rows S', Good pr ev rows → Ds st big al (n + 300) S' → SK (DS' st big) S0 S' → R (.tup (rowsD rows)) S') : dFn 15 B_law_history_6dd1 [.ref st, .int (pr : Int), .int (ev : Int)] S0 R := by
  refine ⟨_, rfl, _, rfl, rfl, w_drawS h (by omega) (by omega) (by omega) fun c0 S1 hc0 D1 k1 => ?_⟩
  have ec : (1 : Int) + (c0 : Int) = ((c0 + 1 : Nat) : Int) := by omega
  dsimp only [rAdd]
  rw [ec]
  generalize hcc : c0 + 1 = c at *
  have c1 : 1 ≤ c := by omega
  have c6 : c ≤ pr := by omega
  refine ⟨_, rfl, 1, 25, rfl, rfl, by decide, by decide, by decide, by decide, fun l nl => ⟨rfl, ?_⟩⟩
  have D2 := D1.keep (SK.new (o := .lst (rgD 1 (25 - 1 : Int).toNat)) nl)
  have k2 : SK (DS' st big) S0 (S1.put l (.lst (rgD 1 (25 - 1 : Int).toNat))) := k1.trans (.new nl)
  have hl2 : (S1.put l (.lst (rgD 1 (25 - 1 : Int).toNat))) l = some (.lst (intsD names24)) := by rw [Sto.same, ← rg24D]; rfl
  generalize S1.put l (.lst (rgD 1 (25 - 1 : Int).toNat)) = S2 at D2 k2 hl2 ⊢
  refine w_mixedS D2 (by omega) (seqOf_lst hl2) (by rw [names24_len]; decide) fun ms S3 D3 k3 pm => ?_
  rw [names24_len] at D3
  refine ⟨_, rfl, rfl, w_drawS D3 (by omega) (by decide) (by decide) fun kd S4 hkd D4 k4 => ⟨rfl, rfl, fun q nq => ⟨_, rfl, _, Sto.same, by omega, by omega, by decide, fun r nr => ⟨rfl, fun W nW => ⟨rfl, _, rfl, .inl (.inl rfl), _, _, rfl, _, _, rfl, _, _, rfl, _, _, rfl, rfl, ?_⟩⟩⟩⟩⟩
  have er : (List.replicate ((c : Nat) : Int).toNat [D.tup []]).flatten = rowsD (List.replicate c []) := by
    rw [Int.toNat_natCast]
    unfold rowsD
    rw [List.map_replicate]
    generalize c = c
    induction c with
    | zero => rfl
    | succ n ih => rw [List.replicate_succ, List.replicate_succ, List.flatten_cons, ih]; rfl
  have k04 := (k2.trans k3).trans k4
  have sgq : SG S4 (S4.put q (.lst [D.tup []])) := .new nq
  have sgr := sgq.trans (SK.new (o := .lst (List.replicate ((c : Nat) : Int).toNat [D.tup []]).flatten) nr)
  have hr5 : ((S4.put q (.lst [D.tup []])).put r (.lst (List.replicate ((c : Nat) : Int).toNat [D.tup []]).flatten)) r = some (.lst (rowsD (List.replicate c []))) := by rw [Sto.same, er]
  have nr4 : S4 r = none := by
    by_cases z : r = q
    · rw [z]; exact nq
    · rw [Sto.ne z] at nr; exact nr
  have nr0 := D4.free k04 nr4
  have D5 := D4.keep sgr
  have k05 := k04.trans (SG.sk sgr)
  generalize (S4.put q (.lst [D.tup []])).put r (.lst (List.replicate ((c : Nat) : Int).toNat [D.tup []]).flatten) = S5 at hr5 nW D5 k05 ⊢
  have nW0 := D5.free k05 nW
  have rW : r ≠ W := fun z => by rw [← z, hr5] at nW; cases nW
  have rd := h.fresh nr0
  have Wd := h.fresh nW0
  have sgW : SG S5 (S5.put W (.lst [])) := .new nW
  have v0 : RWs S0 (S5.put W (.lst [])) st big r W (List.replicate c []) [] := ⟨k05.trans (SG.sk sgW), sgW _ _ (fun z => z) hr5, Sto.same⟩
  have D6 := D5.keep sgW
  generalize S5.put W (.lst []) = S6 at v0 D6 ⊢
  obtain ⟨nm, hnm0, hnm1, nmp⟩ : ∃ nm : List Int, (kd = 0 → nm = names24) ∧ (kd ≠ 0 → nm = ms) ∧ nm.Perm names24 := by
    by_cases z : kd = 0
    · exact ⟨names24, fun _ => rfl, fun y => absurd z y, .refl _⟩
    · exact ⟨ms, fun y => absurd y z, fun _ => rfl, pm⟩
  have nml : nm.length = 24 := by rw [nmp.length_eq, names24_len]
  refine ⟨_, rfl, _, rfl, rfl, w_drawS D6 (by omega) (by omega) (by omega) fun T S7 hT D7 k7 => ⟨_, rfl, by omega, by omega, ?_⟩⟩
  have v7 := v0.keep k7 rd Wd
  refine ⟨fun i env S => i ≤ T ∧ ∃ (rows : List (List Int)) (o : List (Int × Int)) (u : Nat) (x9 x10 x11 x12 x13 x14 : Option D), env = [some (.ref st), some (.int (pr : Int)), some (.int (ev : Int)), some (.int (c : Int)), some (.tup (intsD ms)), some (.int (kd : Int)), some (.ref r), some (.ref W), some (.int (u : Int)), x9, x10, x11, x12, x13, x14] ∧ Ds st big al (n + 30 + 4 * i) S ∧ RWs S0 S st big r W rows o ∧ Grown c nm rows o u i,
    ⟨Nat.zero_le _, _, _, 0, _, _, _, _, _, _, rfl, D7.mono (by omega), v7, .start⟩, fun _ _ _ _ _ => True.intro, ?_, ?_⟩
  · rintro i d env S8 hd ⟨hi0, rows, o, u, x9, x10, x11, x12, x13, x14, rfl, D8, v8, g⟩
    obtain ⟨hi', hd'⟩ := rg_at hd
    have hi : i < T := by omega
    rw [Int.zero_add] at hd'
    subst hd'
    have iT : i ≤ 60 := by omega
    have ol := g.opens_le
    have rl := g.len
    refine ⟨_, rfl, _, rfl, rfl, w_drawS D8 (by omega) (by omega) (by omega) fun p S9 hp D9 k9 => ⟨_, rfl, rfl, w_drawS D9 (by omega) (by decide) (by decide) fun way S10 hway D10 k10 => ⟨rfl, _, rfl, .inl (.inl rfl), _, _, rfl, _, _, rfl, rfl, ?_⟩⟩⟩
    have v10 := v8.keep (k9.trans k10) rd Wd
    have hpc : p < rows.length := by omega
    have hrow := List.getElem?_eq_getElem hpc
    generalize rows[p] = row at hrow
    have hrd : (rowsD rows)[p]? = some (rowD row) := by rw [rowsD, List.getElem?_map, hrow]; rfl
    have rowl : row.length ≤ 200 := Nat.le_trans (len_le_sum hrow) (Nat.le_trans g.events (by omega))
    have es : ∀ e : Int, (rowsD rows).set p (.tup (intsD row ++ [D.int e])) = rowsD (rows.set p (row ++ [e])) := fun e => by
      unfold rowsD
      rw [List.map_set]
      congr 1
      show _ = D.tup (intsD (row ++ [e]))
      unfold intsD
      rw [List.map_append]
      rfl
    have ln : (intsD row).length + 1 ≤ 100000 := by rw [intsD_len]; omega
    have ixp : ixN (rowsD rows).length (p : Int) = some p := ixnN' (by rw [rowsD, List.length_map]; exact hpc)
    refine ⟨_, rfl, _, ⟨_, v10.hW, rfl⟩, lc_mapE o pairD rfl (fun x => if decide (x.2 = (p : Int)) = true then none else some (pairD x)) (by omega) (fun S' sg => sg _ _ (fun z => z) v10.hW) (fun x _ S11 sg K Kn hk hn => turn_n ⟨_, rfl, _, 1, _, rfl, rfl, rfl, _, rfl, _, rfl, iteB (fun e => ⟨_, rfl, hk _ ?_ _ (.refl _)⟩) (fun e => hn ?_ _ (.refl _))⟩) fun y S11 ny sg11 hy => ?_⟩
    · rw [xor_tt, Bool.not_eq_true'] at e
      show (if decide (x.2 = (p : Int)) = true then none else some (pairD x)) = _
      rw [e, if_neg Bool.false_ne_true]
    · rw [xor_tt, Bool.not_eq_false'] at e
      show (if decide (x.2 = (p : Int)) = true then none else some (pairD x)) = _
      rw [e, if_pos rfl]
    rw [fm_not pairD (fun x : Int × Int => decide (x.2 = (p : Int)))] at hy
    generalize hoth : o.filter (fun x => !decide (x.2 = (p : Int))) = oth at hy
    have othl : oth.length ≤ 60 := by
      rw [← hoth]
      have := List.length_filter_le (fun x : Int × Int => !decide (x.2 = (p : Int))) o
      omega
    have v11 := v10.keepG sg11
    have D11 := D10.keep sg11
    have y11 := D10.fresh ny
    dsimp only [dgName]
    refine dIfS_by (fun b S' => S' = S11) (fun K hK => ?_) (fun S' e => ?_) (fun S' e => ?_)
    · refine ⟨_, rfl, _, rfl, iteB (fun _ => ⟨_, rfl, _, rfl, iteB (fun _ => hK _ _ rfl) (fun _ => ⟨_, rfl, _, rfl, hK _ _ rfl⟩)⟩) (fun _ => goF ⟨_, rfl, _, rfl, hK _ _ rfl⟩)⟩
    · -- a save
      have e := e.symm
      subst e
      refine ⟨_, rfl, _, rfl, _, (p : Int), _, seqOf_lst v11.hr, rfl, atI_nat hrd, rfl, ln, _, rfl, _, rfl, r, _, (p : Int), p, rfl, rfl, v11.hr, ixp, ?_⟩
      rw [es]
      exact ⟨hi, _, o, u, _, _, _, _, _, _, rfl, (D11.put rd).mono (by omega), ⟨v11.sk.own nr0, Sto.same, (Sto.ne (Ne.symm rW)).trans v11.hW⟩, .save g hrow⟩
    · have e := e.symm
      subst e
      refine dIfS_by (fun b S' => Ds st big al (n + 32 + 4 * i) S' ∧ RWs S0 S' st big r W rows o ∧ S' y = some (.lst (oth.map pairD)) ∧ (b = false → oth ≠ [])) (fun K hK => ?_) (fun S' ⟨D12, v12, hy12, _⟩ => ?_) (fun S' ⟨D12, v12, hy12, hne⟩ => ?_)
      · have sec : (dB (dBin (rEqq false) (dVar 12) (dLst dNil))) [some (.ref st), some (.int (pr : Int)), some (.int (ev : Int)), some (.int (c : Int)), some (.tup (intsD ms)), some (.int (kd : Int)), some (.ref r), some (.ref W), some (.int (u : Int)), some (.int (i : Int)), some (.int (p : Int)), some (.int (way : Int)), some (.ref y), x13, x14] S11 K := by
          refine ⟨_, rfl, rfl, fun q nq => ⟨_, _, .lst ((Sto.ne fun z => by rw [← z, hy] at nq; cases nq).trans hy) (pys_pairs _), .lst Sto.same .nil, shaped_pairs _, by decide +kernel, _, rfl, ?_⟩⟩
          have sgq : SG S11 (S11.put q (.lst [])) := .new nq
          refine hK _ _ ⟨(D11.keep sgq).mono (by omega), v11.keepG sgq, sgq _ _ (fun z => z) hy, fun e z => ?_⟩
          rw [eqv_nil, xor_ff, z] at e
          cases e
        refine ⟨_, rfl, _, rfl, iteB (fun _ => ⟨_, rfl, _, rfl, iteB (fun _ => hK _ _ ⟨D11.mono (by omega), v11, hy, (fun z => nomatch z)⟩) (fun _ => sec)⟩) (fun _ => goF sec)⟩
      · -- a sending, if there are names left
        refine ⟨_, rfl, _, rfl, iteB (fun hu => ?_) (fun _ => ?_)⟩
        · have hu : decide ((u : Int) < 24) = true := hu
          have hu := of_decide_eq_true hu
          refine seqP (fun env S => ∃ m : Int, nm[u]? = some m ∧ env = [some (.ref st), some (.int (pr : Int)), some (.int (ev : Int)), some (.int (c : Int)), some (.tup (intsD ms)), some (.int (kd : Int)), some (.ref r), some (.ref W), some (.int (u : Int)), some (.int (i : Int)), some (.int (p : Int)), some (.int (way : Int)), some (.ref y), some (.int m), x14] ∧ S' = S) (fun C' _ _ _ hnx => ?_) ?_
          · refine ⟨_, rfl, _, rfl, iteB (fun h0 => ?_) (fun h0 => ?_)⟩
            · have h0 : (decide ((kd : Int) = 0) ^^ false) = true := h0
              rw [xor_ff, decide_eq_true_iff] at h0
              refine ⟨_, rfl, hnx _ _ ⟨(u : Int) + 1, ?_, rfl, rfl⟩⟩
              rw [hnm0 (by omega)]
              unfold names24
              rw [List.getElem?_map, List.getElem?_range (by omega)]
              show some ((1 : Int) + (u : Nat)) = _
              congr 1
              omega
            · have h0 : (decide ((kd : Int) = 0) ^^ false) = false := h0
              rw [xor_ff, decide_eq_false_iff_not] at h0
              have enm := hnm1 (by omega)
              obtain ⟨m, hm⟩ : ∃ m, nm[u]? = some m := ⟨_, List.getElem?_eq_getElem (by omega)⟩
              have hm2 := hm
              rw [enm] at hm2
              exact ⟨_, rfl, _, rfl, _, (u : Int), _, rfl, rfl, atI_nat (intsD_at hm2), hnx _ _ ⟨m, hm, rfl, rfl⟩⟩
          · rintro _ _ ⟨m, hm, rfl, rfl⟩
            refine ⟨_, rfl, _, rfl, _, (p : Int), _, seqOf_lst v12.hr, rfl, atI_nat hrd, _, rfl, rfl, ln, _, rfl, _, rfl, r, _, (p : Int), p, rfl, rfl, v12.hr, ixp, ?_⟩
            rw [es]
            have hW13 : (S'.put r (.lst (rowsD (rows.set p (row ++ [m]))))) W = _ := (Sto.ne (Ne.symm rW)).trans v12.hW
            have hr13 : (S'.put r (.lst (rowsD (rows.set p (row ++ [m]))))) r = _ := Sto.same
            have D13 := D12.put (o := .lst (rowsD (rows.set p (row ++ [m])))) rd
            have k13 := v12.sk.own (o := .lst (rowsD (rows.set p (row ++ [m])))) nr0
            generalize S'.put r (.lst (rowsD (rows.set p (row ++ [m])))) = S13 at hW13 hr13 D13 k13 ⊢
            refine ⟨_, rfl, ⟨rfl, _, seqOf_lst hW13, noTup _⟩, _, rfl, _, rfl, rfl, W, _, _, rfl, rfl, hW13, by rw [List.length_map]; omega, ?_⟩
            have ew : o.map pairD ++ [D.tup [.int m, .int (p : Int)]] = (o ++ [(m, (p : Int))]).map pairD := by
              rw [List.map_append]
              rfl
            rw [ew]
            exact ⟨_, rfl, hi, _, o ++ [(m, (p : Int))], u + 1, _, _, _, _, _, _, rfl, (D13.put Wd).mono (by omega), ⟨k13.own nW0, (Sto.ne rW).trans hr13, Sto.same⟩, .send g hrow hm⟩
        · exact ⟨hi, rows, o, u, _, _, _, _, _, _, rfl, D12.mono (by omega), v12, .skip g⟩
      · -- a receipt
        have hne := hne rfl
        refine seqP (fun env S => ∃ (m qq : Int), (m, qq) ∈ oth ∧ env = [some (.ref st), some (.int (pr : Int)), some (.int (ev : Int)), some (.int (c : Int)), some (.tup (intsD ms)), some (.int (kd : Int)), some (.ref r), some (.ref W), some (.int (u : Int)), some (.int (i : Int)), some (.int (p : Int)), some (.int (way : Int)), some (.ref y), x13, some (pairD (m, qq))] ∧ Ds st big al (n + 33 + 4 * i) S ∧ RWs S0 S st big r W rows o) (fun C' _ _ _ hnx => ?_) ?_
        · refine ⟨_, rfl, _, rfl, iteB (fun _ => ?_) (fun _ => ?_)⟩
          · have op : 0 < oth.length := List.length_pos_iff.mpr hne
            have hqm := List.getElem?_eq_getElem op
            generalize oth[0] = qm at hqm
            obtain ⟨m, qq⟩ := qm
            have hjd : (oth.map pairD)[0]? = some (pairD (m, qq)) := by rw [List.getElem?_map, hqm]; rfl
            exact ⟨_, rfl, _, ((0 : Nat) : Int), _, seqOf_lst hy12, rfl, atI_nat hjd, hnx _ _ ⟨m, qq, List.mem_of_getElem? hqm, rfl, D12.mono (by omega), v12⟩⟩
          · refine ⟨_, rfl, _, rfl, rfl, w_pickS D12 (by omega) (fun S'' sk => seqOf_lst (sk _ _ (nDS y11) hy12)) (fun z => hne (List.map_eq_nil_iff.mp z)) (by rw [List.length_map]; omega) fun j x S13 hx D13 k13 => ?_⟩
            rw [List.getElem?_map] at hx
            obtain ⟨⟨m, qq⟩, hqm, rfl⟩ := Option.map_eq_some_iff.mp hx
            exact hnx _ _ ⟨m, qq, List.mem_of_getElem? hqm, rfl, D13.mono (by omega), v12.keep k13 rd Wd⟩
        · rintro _ S13 ⟨m, qq, hmem, rfl, D13, v13⟩
          rw [← hoth] at hmem
          obtain ⟨hmo, hqp⟩ := List.mem_filter.mp hmem
          have hqp : qq ≠ (p : Int) := by simpa using hqp
          obtain ⟨j', hj1, hj2⟩ := place_ofM hmo
          refine ⟨_, rfl, ⟨rfl, _, seqOf_lst v13.hW, noTup _⟩, _, rfl, W, _, _, _, _, j', rfl, rfl, v13.hW, pys_pairs _, py_pair _, pD_plain _, pD_ok _, ?_, hj1, ?_⟩
          · simp [pD, PyData.depth, PyData.depthAll]
          rw [eraseIdx_map']
          have D14 := D13.put (o := .lst ((o.eraseIdx j').map pairD)) Wd
          have v14 : RWs S0 (S13.put W (.lst ((o.eraseIdx j').map pairD))) st big r W rows (o.eraseIdx j') := ⟨v13.sk.own nW0, (Sto.ne rW).trans v13.hr, Sto.same⟩
          generalize S13.put W (.lst ((o.eraseIdx j').map pairD)) = S14 at D14 v14 ⊢
          refine ⟨_, rfl, _, rfl, _, (p : Int), _, seqOf_lst v14.hr, rfl, atI_nat hrd, _, rfl, _, 0, _, rfl, rfl, rfl, rfl, ln, _, rfl, _, rfl, r, _, (p : Int), p, rfl, rfl, v14.hr, ixp, ?_⟩
          rw [es]
          exact ⟨hi, _, o.eraseIdx j', u, _, _, _, _, _, _, rfl, (D14.put rd).mono (by omega), ⟨v14.sk.own nr0, Sto.same, (Sto.ne (Ne.symm rW)).trans v14.hW⟩, .recv g hrow hj2 hqp⟩
  · rintro env S8 ⟨hi0, rows, o, u, x9, x10, x11, x12, x13, x14, rfl, D8, v8, g⟩
    have hlen : (rgD 0 (T : Int).toNat).length = T := by rw [rg_len]; omega
    have g : Grown c nm rows o u (rgD 0 (T : Int).toNat).length := g
    have D8 : Ds st big al (n + 30 + 4 * (rgD 0 (T : Int).toNat).length) S8 := D8
    rw [hlen] at g D8
    have rl := g.len
    exact ⟨_, rfl, _, _, rfl, seqOf_lst v8.hr, fun ys z => (nomatch z), k rows S8 ⟨c, nm, o, u, T, by omega, c6, nmp, g, by omega⟩ (D8.mono (by omega)) v8.sk⟩
end Sv
set_option maxHeartbeats 400000
set_option autoImplicit false
namespace Sv
open PySem PySem.Spec PyProof.Rows L2
theorem zk_mem {rows : List (List Int)} {t : Nat × Nat} : ∀ {ms : List Int} {s : Nat × Nat}, Zk rows s t ms → ∀ x ∈ ms, x ∈ recvL rows
  | [], _, _, x, hx => nomatch hx
  | m :: ms, s, ⟨h1, _, u, _, h4⟩, x, hx => by
    rcases List.mem_cons.mp hx with rfl | hx
    · exact h1
    · exact zk_mem h4 x hx
theorem w_isnum {i : Int} {S : Sto} {R : DK} (h : R (.bl true) S) : dFn 1 B_is_number_52f5 [.int i] S R := by
  refine ⟨_, rfl, _, "int", "int", true, rfl, rfl, isi_ii, _, rfl, ?_⟩
  exact ⟨_, rfl, _, "bool", "int", false, rfl, rfl, isi_ib, _, rfl, h⟩
end Sv
set_option maxHeartbeats 400000
set_option autoImplicit false
namespace Sv
open PySem PySem.Spec PyProof.Rows L2
theorem Zk.pos {rows : List (List Int)} {t : Nat × Nat} : ∀ {ms : List Int} {s : Nat × Nat}, Zk rows s t ms → 0 < t.2
  | [], s, ⟨h1, h2⟩ => Nat.lt_of_le_of_lt (Nat.zero_le _) h2
  | m :: ms, s, ⟨h1, h2, u, h3, h4⟩ => h4.pos
end Sv
set_option maxHeartbeats 400000
set_option autoImplicit false
set_option maxHeartbeats 400000
set_option autoImplicit false
namespace Sv
open PySem PySem.Spec PyProof.Rows L2
def keyS (s : Nat × Nat) : Nat := s.1 * 64 + s.2
theorem keyS_inj {s t : Nat × Nat} (hs : s.2 < 64) (ht : t.2 < 64) (h : keyS s = keyS t) : s = t := by
  obtain ⟨a, b⟩ := s
  obtain ⟨c, d⟩ := t
  unfold keyS at h
  have h : a * 64 + b = c * 64 + d := h
  have hs : b < 64 := hs
  have ht : d < 64 := ht
  have : a = c := by omega
  subst this
  have : b = d := by omega
  rw [this]
def ZzE (rows : List (List Int)) (a b : Nat × Nat) : Prop := ∃ ms, Zz rows a b ms
structure PairZ (rows : List (List Int)) (ss : List (Nat × Nat)) (a b : Nat × Nat) : Prop where
  one : a ∈ ss
  two : b ∈ ss
  zz : ZzE rows a b
  least : ∀ a' ∈ ss, ∀ b' ∈ ss, ZzE rows a' b' → keyS a < keyS a' ∨ (a = a' ∧ keyS b ≤ keyS b')
theorem PairZ.unique {rows : List (List Int)} {ss : List (Nat × Nat)} {a b a' b' : Nat × Nat} (hb : ∀ s ∈ ss, s.1 < 64 ∧ s.2 < 64) (h : PairZ rows ss a b) (g : PairZ rows ss a' b') : a = a' ∧ b = b' := by
  rcases h.least a' g.one b' g.two g.zz with z | ⟨z, z1⟩
  · rcases g.least a h.one b h.two h.zz with y | ⟨y, _⟩
    · omega
    · rw [y] at z; omega
  · rcases g.least a h.one b h.two h.zz with y | ⟨_, y1⟩
    · rw [z] at y; omega
    · exact ⟨z, keyS_inj (hb _ h.two).2 (hb _ g.two).2 (by omega)⟩
def lineD (c : List Nat) : D := .tup [.str "line", cutD' c]
def zigD (a b : Nat × Nat) (ms : List Int) : D := .tup [.str "zigzag", stD a, stD b, .tup (intsD ms)]
end Sv
set_option maxHeartbeats 400000
set_option autoImplicit false
set_option maxHeartbeats 400000
set_option autoImplicit false
namespace Sv
open PySem PySem.Spec PyProof.Rows L2
theorem ok_of {x : Str} (h : ∀ k, 0x110000 ≤ k → k ∉ x.cps.toList) : PyData.strOk x = true := by
  unfold PyData.strOk
  rw [Array.all_eq_true_iff_forall_mem]
  intro k hk
  refine decide_eq_true ?_
  refine Nat.lt_of_not_le fun z => h k z (by simpa using hk)
def inS (s : Nat × Nat) : Int × Int := ((s.1 : Int), (s.2 : Int))
inductive VD (rows : List (List Int)) (ss : List (Nat × Nat)) : D → Prop
  | line : (∃ L, Thru rows ss L) → VD rows ss (lineD (upL rows (lowL rows ss)))
  | zig {a b : Nat × Nat} {ms : List Int} : (¬ ∃ L, Thru rows ss L) → PairZ rows ss a b → FindZ rows a b (some ms) → VD rows ss (zigD a b ms)
theorem VD.unique {rows : List (List Int)} {ss : List (Nat × Nat)} (hb : ∀ s ∈ ss, s.1 < 64 ∧ s.2 < 64) {v w : D} (h : VD rows ss v) (g : VD rows ss w) : v = w := by
  cases h with
  | line h =>
    cases g with
    | line _ => rfl
    | zig n _ _ => exact absurd h n
  | zig n h1 h2 =>
    cases g with
    | line g => exact absurd g n
    | zig _ g1 g2 =>
      obtain ⟨rfl, rfl⟩ := h1.unique hb g1
      have := h2.unique g2
      cases this
      rfl
theorem fine_str {x : Str} (h1 : PyData.weight (.str x) ≤ 101) (h2 : PyData.canLay0 (.str x) = true) (h3 : PyData.intsShort 40 (.str x) = true) : Fine 0 101 (.str x) := ⟨by simp [PyData.depth], h1, h2, rfl, h3⟩
theorem fine_natT {cs : List Nat} (h : ∀ c ∈ cs, c ≤ 1000) (hl : cs.length ≤ 60) : Fine 1 6120 (.tuple ((cs.map fun (c : Nat) => (c : Int)).map PyData.int)) := by
  have q : FineAll 0 (102 * (cs.map fun (c : Nat) => (c : Int)).length) (iD (cs.map fun (c : Nat) => (c : Int))) := fine_ints fun x hx => by
    obtain ⟨c, hc, rfl⟩ := List.mem_map.mp hx
    have := h c hc
    have e : (10 : Nat) ^ 30 = 1000000000000000000000000000000 := by decide
    omega
  refine (fine_tuple q).mono (Nat.le_refl _) ?_
  rw [List.length_map]
  omega
theorem fine_intT {ms : List Int} (h : ∀ c ∈ ms, -1000 ≤ c ∧ c ≤ 1000) (hl : ms.length ≤ 60) : Fine 1 6120 (.tuple (ms.map PyData.int)) := by
  have q : FineAll 0 (102 * ms.length) (iD ms) := fine_ints fun x hx => by
    have := h x hx
    have e : (10 : Nat) ^ 30 = 1000000000000000000000000000000 := by decide
    omega
  refine (fine_tuple q).mono (Nat.le_refl _) ?_
  omega
theorem thru_small {rows : List (List Int)} {many most : Nat} (hG : Good many most rows) (h60 : most ≤ 60) {ss : List (Nat × Nat)} {c : List Nat} (h : Thru rows ss c) : (∀ x ∈ c, x ≤ 1000) := fun x hx => by
  obtain ⟨i, hi⟩ := List.getElem?_of_mem hx
  have hl := (List.getElem?_eq_some_iff.mp hi).1
  rw [h.len] at hl
  have hr := List.getElem?_eq_getElem hl
  have := h.le i x _ hi (prsA hr)
  have h1 := hG.row60 h60 _ (List.mem_of_getElem? hr)
  have h2 : rows[i].count 0 ≤ rows[i].length := List.count_le_length ..
  omega
theorem upL_thru {rows : List (List Int)} {many most : Nat} (hG : Good many most rows) (h6 : many ≤ 6) (h60 : most ≤ 60) {ss : List (Nat × Nat)} (hs : ∀ s ∈ ss, s.1 < rows.length) (h : ∃ L, Thru rows ss L) : Thru rows ss (upL rows (lowL rows ss)) := by
  have u := up_is hG h6 h60 (lowL rows ss)
  exact (thru_iff hs).mpr ⟨u.len.trans (lowL_len rows ss), u.cons, u.ge, (thru_up hG h6 h60 hs).mp h⟩
theorem fine_st {s : Nat × Nat} (h : s.1 < 64 ∧ s.2 < 64) : Fine 1 204 (pD (inS s)) := by
  have e : (10 : Nat) ^ 30 = 1000000000000000000000000000000 := by decide
  exact fine_pair (by show (s.1 : Int).natAbs < _; omega) (by show (s.2 : Int).natAbs < _; omega)
theorem VD.text {rows : List (List Int)} {many most : Nat} (hG : Good many most rows) (h6 : many ≤ 6) (h60 : most ≤ 60) {ss : List (Nat × Nat)} (hc : Ch rows ss) (hb : ∀ s ∈ ss, s.1 < 64 ∧ s.2 < 64) {v : D} (h : VD rows ss v) : ∃ p, (∀ S, Py S v p) ∧ Text p := by
  cases h with
  | line h =>
    have t := upL_thru hG h6 h60 hc.lt h
    have rl := hG.len
    refine ⟨.tuple [.str "line", .tuple (((upL rows (lowL rows ss)).map fun (c : Nat) => (c : Int)).map PyData.int)], fun S => .tup (.cons (.str _) (.cons (py_nat _) .nil)), ?_⟩
    have f1 : Fine 0 101 (.str "line") := fine_str (by decide +kernel) (by decide +kernel) (by decide +kernel)
    have f2 := fine_natT (thru_small hG h60 t) (by rw [t.len]; omega)
    exact ((fine_tuple (fine_cons (f1.mono (Nat.zero_le 1) (Nat.le_refl _)) (fine_cons f2 (fine_nil.mono (Nat.zero_le _) (Nat.le_refl _))))).mono (Nat.le_refl _) (Nat.le_refl _)).text (by omega) (by omega) rfl
  | @zig a b ms n h1 h2 =>
    have hm : ∀ m ∈ ms, -1000 ≤ m ∧ m ≤ 1000 := fun m hm => by
      have := names_mem.mp (List.mem_filter.mp (zk_mem h2.1.2 m hm)).1
      omega
    have hml := h2.2.1
    refine ⟨.tuple [.str "zigzag", pD (inS a), pD (inS b), .tuple (ms.map PyData.int)], fun S => .tup (.cons (.str _) (.cons (py_pair (inS a)) (.cons (py_pair (inS b)) (.cons (.tup (pys_ints ms)) .nil)))), ?_⟩
    have f1 : Fine 0 101 (.str "zigzag") := fine_str (by decide +kernel) (by decide +kernel) (by decide +kernel)
    have f2 := fine_st (hb _ h1.one)
    have f3 := fine_st (hb _ h1.two)
    have f4 := fine_intT hm (by omega)
    exact ((fine_tuple (fine_cons (f1.mono (Nat.zero_le 1) (Nat.le_refl _)) (fine_cons f2 (fine_cons f3 (fine_cons f4 (fine_nil.mono (Nat.zero_le _) (Nat.le_refl _))))))).mono (Nat.le_refl _) (Nat.le_refl _)).text (by omega) (by omega) rfl
theorem strs_lay : ∀ {xs : List Str}, (∀ x ∈ xs, PyData.strOk x = true) → PyData.canLayAll0 (xs.map PyData.str) = true ∧ PyData.depthAll (xs.map PyData.str) = 0
  | [], _ => ⟨rfl, by simp [PyData.depthAll]⟩
  | x :: xs, h => by
    obtain ⟨h1, h2⟩ := strs_lay fun y hy => h y (List.mem_cons_of_mem _ hy)
    refine ⟨?_, ?_⟩
    · simp only [List.map_cons, PyData.canLayAll0, PyData.canLay0, h x List.mem_cons_self, h1, Bool.and_self]
    · simp only [List.map_cons, PyData.depthAll, PyData.depth, h2]
      rfl
theorem pys_strs {S : Sto} : ∀ xs : List Str, Pys S (xs.map D.str) (xs.map PyData.str)
  | [] => .nil
  | x :: xs => .cons (.str x) (pys_strs xs)
end Sv
set_option maxHeartbeats 800000
set_option autoImplicit false
set_option maxHeartbeats 800000
set_option autoImplicit false
set_option maxHeartbeats 400000
namespace Sv
open PySem L2
/-- the states that can be deleted -/
def delU (rows : List (List Int)) (us : List (Int × Int)) : List (Int × Int) := (allU rows rows.length).filter fun x => decide (x.2 < ((((prs rows)[x.1.toNat]?).getD 0 : Nat) : Int)) && decide (x ∉ us)
end Sv
set_option maxHeartbeats 400000
namespace Sv
open PySem L2
theorem SG.none {S S' : Sto} {d : Addr} (h : SG S S') (n : S' d = none) : S d = none := by
  cases e : S d with
  | none => rfl
  | some o => rw [h _ _ (fun z => z) e] at n; cases n
end Sv
set_option maxHeartbeats 400000
namespace Sv
open PySem L2
/-- the history goes on -/
def Ext' (rows rows' : List (List Int)) : Prop := rows.length = rows'.length ∧ ∀ (i : Nat) (r r' : List Int), rows[i]? = some r → rows'[i]? = some r' → r <+: r'
theorem Ext'.refl (rows : List (List Int)) : Ext' rows rows := ⟨rfl, fun i r r' h1 h2 => by rw [h1] at h2; cases h2; exact List.prefix_rfl⟩
theorem Ext'.trans {a b c : List (List Int)} (x : Ext' a b) (y : Ext' b c) : Ext' a c := ⟨x.1.trans y.1, fun i r r' h1 h2 => by
  have hi : i < b.length := by rw [← x.1]; exact (List.getElem?_eq_some_iff.mp h1).1
  exact (x.2 i r _ h1 (List.getElem?_eq_getElem hi)).trans (y.2 i _ r' (List.getElem?_eq_getElem hi) h2)⟩
theorem Ext'.row {rows rows' : List (List Int)} (x : Ext' rows rows') {i : Nat} {r : List Int} (h : rows[i]? = some r) : ∃ r', rows'[i]? = some r' ∧ r <+: r' := by
  have hi : i < rows'.length := by rw [← x.1]; exact (List.getElem?_eq_some_iff.mp h).1
  exact ⟨_, List.getElem?_eq_getElem hi, x.2 i r _ h (List.getElem?_eq_getElem hi)⟩
theorem hap_inv {rows : List (List Int)} {e : Int} {p k : Nat} (h : hap rows e = some (p, k)) : ∃ row i, rows[p]? = some row ∧ row[i]? = some e ∧ k = (row.take i).count 0 := by
  rcases spot_hap (e := e) (rs := rows) (p := 0) with ⟨_, z⟩ | ⟨p', row, z1, z2, _, z4⟩
  · unfold hap at h
    rw [z] at h
    cases h
  · unfold hap at h
    rw [z4, Nat.zero_add] at h
    cases h
    have hk := List.idxOf_lt_length_iff.mpr z2
    exact ⟨row, row.idxOf e, z1, by rw [List.getElem?_eq_getElem hk]; exact congrArg some (List.getElem_idxOf hk), rfl⟩
theorem hap_le {rows : List (List Int)} {e : Int} {p k : Nat} {row : List Int} (h : hap rows e = some (p, k)) (hr : rows[p]? = some row) : k ≤ row.count 0 := by
  obtain ⟨row', i, h1, h2, rfl⟩ := hap_inv h
  rw [hr] at h1
  cases h1
  exact List.Sublist.count_le _ (List.take_sublist ..)
end Sv
set_option maxHeartbeats 400000
set_option maxHeartbeats 400000
set_option maxHeartbeats 400000
set_option maxHeartbeats 400000
namespace Sv
open PySem L2
theorem GF.of {S : Sto} {st big t f : Addr} {nm : List Int} {rows : List (List Int)} {o : List (Int × Int)} {u : Nat} {sh : Int} (h : GS S st big t nm rows o u sh) (n : S f = none) : GF S t f := by
  obtain ⟨N, O, h1, h2, h3, h4, h5, h6⟩ := h
  refine ⟨fun z => (by rw [z, n] at h1; cases h1), fun N2 O2 r s e => ?_⟩
  rw [h1] at e
  cases e
  exact ⟨fun z => (by rw [← z, n] at h2; cases h2), fun z => (by rw [← z, n] at h3; cases h3)⟩
theorem GF.keep {S S' : Sto} {P : Addr → Prop} {st big t f : Addr} {nm : List Int} {rows : List (List Int)} {o : List (Int × Int)} {u : Nat} {sh : Int} (h : GS S st big t nm rows o u sh) (g : GF S t f) (k : SK (DP st big) S S') : GF S' t f := by
  obtain ⟨N, O, h1, h2, h3, h4, h5, h6⟩ := h
  refine ⟨g.1, fun N2 O2 r s e => ?_⟩
  rw [k _ _ (nDP h6) h1] at e
  cases e
  exact g.2 _ _ _ _ h1
end Sv
set_option maxHeartbeats 400000
set_option maxHeartbeats 400000
namespace Sv
open PySem L2
/-- the row without the saves that d names; n saves stood before it -/
def thin (d : Nat → Bool) : Nat → List Int → List Int
  | _, [] => []
  | n, e :: r => if e = 0 then (if d (n + 1) = true then thin d (n + 1) r else 0 :: thin d (n + 1) r) else e :: thin d n r
/-- the kept ones among the saves n + 1 .. n + m -/
def keptN (d : Nat → Bool) (n m : Nat) : List Nat := ((List.range m).map fun i => n + 1 + i).filter fun i => !d i
theorem keptN_succ (d : Nat → Bool) (n m : Nat) : keptN d n (m + 1) = (if d (n + 1) = true then [] else [n + 1]) ++ keptN d (n + 1) m := by
  unfold keptN
  rw [List.range_succ_eq_map, List.map_cons, List.filter_cons, List.map_map]
  have e : ((fun i => n + 1 + i) ∘ Nat.succ) = fun i => n + 1 + 1 + i := by
    funext i
    show n + 1 + (i + 1) = _
    omega
  rw [e]
  cases h : d (n + 1) with
  | true => simp [h]
  | false => simp [h]
theorem thin_mem {d : Nat → Bool} {e : Int} (he : e ≠ 0) : ∀ (n : Nat) (r : List Int), e ∈ thin d n r ↔ e ∈ r
  | _, [] => Iff.rfl
  | n, x :: r => by
    unfold thin
    by_cases z : x = 0
    · subst z
      rw [if_pos rfl]
      have : e ∈ (0 : Int) :: r ↔ e ∈ r := by
        rw [List.mem_cons]
        exact ⟨fun h => h.elim (fun h => absurd h he) id, .inr⟩
      rw [this]
      split
      · exact thin_mem he (n + 1) r
      · rw [List.mem_cons, thin_mem he (n + 1) r]
        exact ⟨fun h => h.elim (fun h => absurd h he) id, .inr⟩
    · rw [if_neg z, List.mem_cons, List.mem_cons, thin_mem he n r]
theorem idx_ne {x e : Int} {r : List Int} (h : ¬ x = e) : (x :: r).idxOf e = r.idxOf e + 1 := by
  rw [List.idxOf_cons, beq_false_of_ne h]
  rfl
/-- the saves before an event -/
theorem thin_idx {d : Nat → Bool} {e : Int} (he : e ≠ 0) : ∀ (n : Nat) (r : List Int), e ∈ r → ((thin d n r).take ((thin d n r).idxOf e)).count 0 = (keptN d n ((r.take (r.idxOf e)).count 0)).length
  | _, [], h => by cases h
  | n, x :: r, h => by
    unfold thin
    by_cases z : x = 0
    · subst z
      have hr : e ∈ r := (List.mem_cons.mp h).elim (fun h => absurd h he) id
      have ih := thin_idx (d := d) he (n + 1) r hr
      have i1 : ((0 : Int) :: r).idxOf e = r.idxOf e + 1 := idx_ne (fun z => he z.symm)
      rw [if_pos rfl, i1, List.take_succ_cons, List.count_cons_self, keptN_succ, List.length_append]
      cases hd : d (n + 1) with
      | true => rw [if_pos rfl, if_pos rfl, ih]; simp
      | false =>
        have i2 : ((0 : Int) :: thin d (n + 1) r).idxOf e = (thin d (n + 1) r).idxOf e + 1 := idx_ne (fun z => he z.symm)
        rw [if_neg Bool.false_ne_true, if_neg Bool.false_ne_true, i2, List.take_succ_cons, List.count_cons_self, ih]
        simp
        omega
    · rw [if_neg z]
      by_cases y : x = e
      · subst y
        rw [List.idxOf_cons_self, List.idxOf_cons_self]
        rfl
      · have hr : e ∈ r := (List.mem_cons.mp h).elim (fun h => absurd h.symm y) id
        have ih := thin_idx (d := d) he n r hr
        rw [idx_ne y, idx_ne y, List.take_succ_cons, List.take_succ_cons, List.count_cons_of_ne (by simpa using z), List.count_cons_of_ne (by simpa using z), ih]
/-- all rows without the saves that d names -/
def thinR (d : Nat → Nat → Bool) (rows : List (List Int)) : List (List Int) := rows.mapIdx fun p r => thin (d p) 0 r
theorem hap_thin {d : Nat → Nat → Bool} {rows : List (List Int)} {e : Int} (he : e ≠ 0) : hap (thinR d rows) e = (hap rows e).map fun x => (x.1, (keptN (d x.1) 0 x.2).length) := by
  have go : ∀ (rs : List (List Int)) (p : Nat), hapFrom e p (rs.mapIdx fun i r => thin (d (p + i)) 0 r) = (hapFrom e p rs).map fun x => (x.1, (keptN (d x.1) 0 x.2).length) := by
    intro rs
    induction rs with
    | nil => intro p; rfl
    | cons r rs ih =>
      intro p
      rw [List.mapIdx_cons]
      unfold hapFrom
      rw [Nat.add_zero]
      by_cases z : e ∈ r
      · rw [if_pos ((thin_mem he 0 r).mpr z), if_pos z, thin_idx he 0 r z]
        rfl
      · rw [if_neg (fun h => z ((thin_mem he 0 r).mp h)), if_neg z]
        have e2 : (fun (i : Nat) (r : List Int) => thin (d (p + (i + 1))) 0 r) = fun i r => thin (d (p + 1 + i)) 0 r := by
          funext i r
          rw [show p + (i + 1) = p + 1 + i by omega]
        rw [e2]
        exact ih (p + 1)
  have := go rows 0
  unfold thinR hap
  rw [← this]
  congr 2
  funext i r
  rw [Nat.zero_add]
end Sv
set_option maxHeartbeats 400000
namespace Sv
open PySem L2
theorem name_pos {nm : List Int} (hp : nm.Perm names24) {m : Int} (h : m ∈ nm) : 1 ≤ m := (names_mem.mp (hp.mem_iff.mp h)).1
/-- the numbers of the states that are kept, by their new numbers -/
def namesN (d : Nat → Bool) (m : Nat) : List Nat := 0 :: (keptN d 0 m ++ [m + 1])
theorem keptN_mem {d : Nat → Bool} {n m i : Nat} : i ∈ keptN d n m ↔ n + 1 ≤ i ∧ i ≤ n + m ∧ d i = false := by
  unfold keptN
  rw [List.mem_filter, List.mem_map]
  constructor
  · rintro ⟨⟨j, h1, rfl⟩, h2⟩
    have := List.mem_range.mp h1
    exact ⟨by omega, by omega, by simpa using h2⟩
  · rintro ⟨h1, h2, h3⟩
    exact ⟨⟨i - (n + 1), List.mem_range.mpr (by omega), by omega⟩, by rw [h3]; rfl⟩
theorem keptN_rise (d : Nat → Bool) (n m : Nat) : (keptN d n m).Pairwise (· < ·) := by
  unfold keptN
  refine List.Pairwise.filter _ (List.pairwise_map.mpr ((List.pairwise_lt_range (n := m)).imp fun h => ?_))
  omega
theorem namesN_rise (d : Nat → Bool) (m : Nat) : (namesN d m).Pairwise (· < ·) := by
  unfold namesN
  refine List.pairwise_cons.mpr ⟨fun x hx => ?_, List.pairwise_append.mpr ⟨keptN_rise d 0 m, List.pairwise_singleton _ _, fun x hx y hy => ?_⟩⟩
  · rcases List.mem_append.mp hx with z | z
    · have := keptN_mem.mp z; omega
    · rw [List.mem_singleton.mp z]; omega
  · have := keptN_mem.mp hx
    rw [List.mem_singleton.mp hy]
    omega
theorem keptN_take {d : Nat → Bool} {m k : Nat} (h : k ≤ m) : keptN d 0 k <+: keptN d 0 m := by
  refine ⟨((List.range (m - k)).map fun i => 0 + 1 + (k + i)).filter fun i => !d i, ?_⟩
  unfold keptN
  rw [← List.filter_append]
  congr 1
  have e : List.range m = List.range k ++ (List.range (m - k)).map (k + ·) := by
    conv => lhs; rw [show m = k + (m - k) by omega, List.range_add]
  rw [e, List.map_append, List.map_map]
  rfl
/-- an event stands before a kept state in both histories or in none -/
theorem kept_lt {d : Nat → Bool} {m k c n : Nat} (hk : k ≤ m) (h : (namesN d m)[c]? = some n) : k < n ↔ (keptN d 0 k).length < c := by
  have hpre := keptN_take (d := d) hk
  unfold namesN at h
  cases c with
  | zero =>
    cases h
    exact ⟨fun z => absurd z (Nat.not_lt_zero _), fun z => absurd z (Nat.not_lt_zero _)⟩
  | succ i =>
    rw [List.getElem?_cons_succ] at h
    rcases Nat.lt_or_ge i (keptN d 0 m).length with z | z
    · rw [List.getElem?_append_left z] at h
      rcases Nat.lt_or_ge i (keptN d 0 k).length with y | y
      · have e : (keptN d 0 k)[i]? = some n := by
          obtain ⟨t, ht⟩ := hpre
          rw [← ht, List.getElem?_append_left y] at h
          exact h
        have := keptN_mem.mp (List.mem_of_getElem? e)
        omega
      · obtain ⟨t, ht⟩ := hpre
        rw [← ht, List.getElem?_append_right y] at h
        have h1 : n ∈ t := List.mem_of_getElem? h
        have h2 := keptN_mem.mp (show n ∈ keptN d 0 m by rw [← ht]; exact List.mem_append.mpr (.inr h1))
        have h3 : n ∉ keptN d 0 k := fun w => by
          have pr := keptN_rise d 0 m
          rw [← ht] at pr
          exact Nat.lt_irrefl _ ((List.pairwise_append.mp pr).2.2 n w n h1)
        have h4 : ¬ n ≤ k := fun w => h3 (keptN_mem.mpr ⟨h2.1, by omega, h2.2.2⟩)
        omega
    · rw [List.getElem?_append_right z] at h
      have h2 : i - (keptN d 0 m).length = 0 := by
        have := (List.getElem?_eq_some_iff.mp h).1
        simp at this
        omega
      rw [h2] at h
      cases h
      have := hpre.length_le
      omega
end Sv
set_option maxHeartbeats 400000
namespace Sv
open PySem L2
theorem names_lt {d : Nat → Bool} {m c c' n n' : Nat} (h : (namesN d m)[c]? = some n) (h' : (namesN d m)[c']? = some n') (z : c < c') : n < n' := by
  obtain ⟨h1, h2⟩ := List.getElem?_eq_some_iff.mp h
  obtain ⟨h3, h4⟩ := List.getElem?_eq_some_iff.mp h'
  have := List.pairwise_iff_getElem.mp (namesN_rise d m) c c' h1 h3 z
  omega
theorem names_le {d : Nat → Bool} {m c c' n n' : Nat} (h : (namesN d m)[c]? = some n) (h' : (namesN d m)[c']? = some n') : c ≤ c' ↔ n ≤ n' := by
  constructor
  · intro z
    rcases Nat.lt_or_eq_of_le z with y | y
    · exact Nat.le_of_lt (names_lt h h' y)
    · subst y
      rw [h] at h'
      cases h'
      exact Nat.le_refl _
  · intro z
    rcases Nat.lt_or_ge c' c with y | y
    · have := names_lt h' h y; omega
    · exact y
/-- a line of the smaller history and the line that it names -/
structure Led (d : Nat → Nat → Bool) (rows : List (List Int)) (a b : List Nat) : Prop where
  la : a.length = rows.length
  lb : b.length = rows.length
  at' : ∀ (p : Nat) (row : List Int), rows[p]? = some row → ∃ c n, a[p]? = some c ∧ b[p]? = some n ∧ (namesN (d p) (row.count 0))[c]? = some n
theorem row_of {rows : List (List Int)} {p : Nat} (h : p < rows.length) : ∃ row, rows[p]? = some row := ⟨_, List.getElem?_eq_getElem h⟩
theorem Led.cons {d : Nat → Nat → Bool} {rows : List (List Int)} {a b : List Nat} (h : Led d rows a b) : ConsL (thinR d rows) a ↔ ConsL rows b := by
  have key : ∀ {e : Int} {p k : Nat}, e ≠ 0 → hap rows e = some (p, k) → hap (thinR d rows) e = some (p, (keptN (d p) 0 k).length) := fun {e p k} he h => by
    rw [hap_thin he, h]
    rfl
  have lt : ∀ {e : Int} {p k c n : Nat}, hap rows e = some (p, k) → a[p]? = some c → b[p]? = some n → (k < n ↔ (keptN (d p) 0 k).length < c) := fun {e p k c n} h1 h2 h3 => by
    obtain ⟨row, _, hr, _, _⟩ := hap_inv h1
    obtain ⟨c', n', h4, h5, h6⟩ := h.at' p row hr
    rw [h2] at h4
    rw [h3] at h5
    cases h4
    cases h5
    exact kept_lt (hap_le h1 hr) h6
  constructor
  · intro hc m p k p' k' c c' hm h1 h2 h3 h4 h5
    have ap : ∀ {q : Nat} {x : Nat}, b[q]? = some x → ∃ y, a[q]? = some y := fun {q x} z => ⟨_, List.getElem?_eq_getElem (by rw [h.la, ← h.lb]; exact (List.getElem?_eq_some_iff.mp z).1)⟩
    obtain ⟨y, hy⟩ := ap h3
    obtain ⟨y', hy'⟩ := ap h4
    exact (lt h1 hy h3).mpr (hc m p _ p' _ y y' hm (key (by omega) h1) (key (by omega) h2) hy hy' ((lt h2 hy' h4).mp h5))
  · intro hc m p k p' k' c c' hm h1 h2 h3 h4 h5
    have bp : ∀ {q : Nat} {x : Nat}, a[q]? = some x → ∃ y, b[q]? = some y := fun {q x} z => ⟨_, List.getElem?_eq_getElem (by rw [h.lb, ← h.la]; exact (List.getElem?_eq_some_iff.mp z).1)⟩
    obtain ⟨y, hy⟩ := bp h3
    obtain ⟨y', hy'⟩ := bp h4
    rw [hap_thin (by omega)] at h1 h2
    obtain ⟨⟨q, j⟩, g1, g2⟩ := Option.map_eq_some_iff.mp h1
    obtain ⟨⟨q', j'⟩, g3, g4⟩ := Option.map_eq_some_iff.mp h2
    cases g2
    cases g4
    exact (lt g1 h3 hy).mp (hc m _ j _ j' y y' hm g1 g3 hy hy' ((lt g3 h4 hy').mpr h5))
theorem Led.le {d : Nat → Nat → Bool} {rows : List (List Int)} {a b a' b' : List Nat} (h : Led d rows a b) (g : Led d rows a' b') (hl : LeL b b') : LeL a a' := fun i x y h1 h2 => by
  have hi : i < rows.length := by rw [← h.la]; exact (List.getElem?_eq_some_iff.mp h1).1
  obtain ⟨row, hr⟩ := row_of hi
  obtain ⟨c, n, e1, e2, e3⟩ := h.at' i row hr
  obtain ⟨c', n', e4, e5, e6⟩ := g.at' i row hr
  rw [h1] at e1
  rw [h2] at e4
  cases e1
  cases e4
  exact (names_le e3 e6).mpr (hl i n n' e2 e5)
end Sv
set_option maxHeartbeats 400000
set_option maxHeartbeats 800000
set_option autoImplicit false
namespace Sv
open PySem PySem.Spec PyProof.Rows L2
theorem w_within {x lo hi : Int} {S : Sto} {R : DK} (q : R (.bl (decide (lo ≤ x) && decide (x ≤ hi))) S) : dFn 3 B_is_number_within_7f04 [.int x, .int lo, .int hi] S R := by
  refine ⟨_, rfl, rfl, w_isnum ⟨_, rfl, goT ?_⟩⟩
  refine ⟨_, rfl, _, rfl, _, rfl, iteB (fun h => ?_) (fun h => ?_)⟩
  · have h : decide (lo ≤ x) = true := h
    rw [h, Bool.true_and] at q
    exact ⟨_, rfl, q⟩
  · have h : decide (lo ≤ x) = false := h
    rw [h, Bool.false_and] at q
    exact q
end Sv
set_option maxHeartbeats 1000000
set_option autoImplicit false
namespace Sv
open PySem PySem.Spec PyProof.Rows L2
variable {S : Sto} {R : DK}
theorem w_numY {w : Str} {n : Int} {c : Nat} (h1 : Txt.isascii w = true) (h2 : Txt.isdigit w = true) (h3 : w.length ≤ 6) (h0 : atI w.cps.toList 0 = some c) (h48 : c ≠ 48) (hi : PySem.intText? w = some n) (q : R (.int n) S) : dFn 1 B_number_of_1a7b [.str w] S R := by
  refine ⟨_, rfl, _, rfl, _, rfl, ?_⟩
  rw [h1]
  refine goF ⟨_, rfl, _, rfl, _, rfl, ?_⟩
  rw [h2]
  refine goF ⟨_, rfl, _, rfl, Nat.le_trans h3 (by decide), _, rfl, ?_⟩
  refine iteB (fun h => absurd (of_decide_eq_true h) (by omega)) fun _ => ?_
  refine ⟨_, rfl, _, 0, c, rfl, rfl, Nat.le_trans h3 (by decide), h0, _, rfl, ?_⟩
  have hne : (⟨#[c]⟩ : Str) ≠ ("0" : Str) := fun z => h48 (by
    have := congrArg (fun x : Str => x.cps.toList) z
    exact List.head_eq_of_cons_eq this)
  rw [xor_ff, decide_eq_false hne]
  exact goF ⟨_, rfl, _, _, rfl, hi, Nat.le_trans h3 (by decide), q⟩
theorem w_evY {i : Int} (h0 : -24 ≤ i) (h1 : i ≤ 24) (q : R (.int i) S) : dFn 2 B_event_of_16da [.str (evS i)] S R := by
  have w := ev_w h0 h1
  by_cases hz : i = 0
  · subst hz
    refine ⟨_, rfl, _, rfl, ?_⟩
    rw [xor_ff, decide_eq_true ev_zero]
    exact goT q
  have m := ev_m h0 h1 hz
  obtain ⟨c, hc, h48⟩ := m.fst
  refine ⟨_, rfl, _, rfl, ?_⟩
  rw [xor_ff, decide_eq_false m.dot]
  refine goF ⟨_, rfl, 1, rfl, _, rfl, Nat.le_trans w.len3 (by decide), rfl, w_numY m.asc m.dig m.l6 hc h48 m.int ⟨_, rfl, rfl, w_within ⟨_, rfl, ?_⟩⟩⟩
  rw [decide_eq_true (show (1 : Int) ≤ (i.natAbs : Int) by omega), decide_eq_true (show (i.natAbs : Int) ≤ 24 by omega)]
  refine goF ⟨_, rfl, _, 0, _, rfl, rfl, Nat.le_trans w.len3 (by decide), m.sig, _, rfl, ?_⟩
  by_cases hp : 0 < i
  · rw [if_pos hp, xor_ff, decide_eq_true (show (⟨#[43]⟩ : Str) = ("+" : Str) by decide)]
    refine goT ⟨_, rfl, ?_⟩
    have e : (i.natAbs : Int) = i := by omega
    rw [e]
    exact q
  · rw [if_neg hp, xor_ff, decide_eq_false (show ¬ (⟨#[45]⟩ : Str) = ("+" : Str) by decide)]
    refine goF ⟨_, rfl, _, 0, _, rfl, rfl, Nat.le_trans w.len3 (by decide), m.sig, _, rfl, ?_⟩
    rw [if_neg hp, xor_ff, decide_eq_true (show (⟨#[45]⟩ : Str) = ("-" : Str) by decide)]
    refine goT ⟨_, rfl, ?_⟩
    have e : -(i.natAbs : Int) = i := by omega
    show R (.int (-(i.natAbs : Int))) S
    rw [e]
    exact q
end Sv
set_option maxHeartbeats 1000000
set_option autoImplicit false
namespace Sv
open PySem PySem.Spec PyProof.Rows L2
variable {S : Sto} {R : DK}
theorem eqv_strs : ∀ a b : List Str, PyData.eqvAll (a.map PyData.str) (b.map PyData.str) = decide (a = b)
  | [], [] => rfl
  | [], _ :: _ => rfl
  | _ :: _, [] => rfl
  | x :: xs, y :: ys => by
    rw [List.map_cons, List.map_cons, PyData.eqvAll, eqv_strs xs ys]
    have e : PyData.eqv (.str x) (.str y) = decide (x = y) := by
      rw [PyData.eqv]
      by_cases h : x = y
      · subst h; simp
      · rw [decide_eq_false h]; simpa using h
    rw [e]
    by_cases h : x = y
    · subst h
      by_cases h2 : xs = ys
      · subst h2; simp
      · simp [h2]
    · simp [h]
theorem strs_shaped {xs : List Str} (h : ∀ x ∈ xs, PyData.strOk x = true) : SeqAt.shaped (.list (xs.map PyData.str)) = true := by
  obtain ⟨l1, l2⟩ := strs_lay h
  show (PyData.canLay0 (.list _) && decide (PyData.depth (.list _) ≤ 64)) = true
  simp only [PyData.canLay0, PyData.depth, l1, l2, Bool.true_and]
  decide
theorem ev_strOk {i : Int} (h0 : -24 ≤ i) (h1 : i ≤ 24) : PyData.strOk (evS i) = true := ok_of fun k hk hm => by
  have := (ev_w h0 h1).sgn k hm
  omega
/-- a word that may follow -/
inductive OkW : List Str → Str → Prop
  | bar {c : List Str} : c ≠ [] → OkW c (Str.ofString "|")
  | non : OkW [] (Str.ofString "_")
  | ev {c : List Str} {i : Int} : -24 ≤ i → i ≤ 24 → c ≠ [Str.ofString "_"] → OkW c (evS i)
theorem w_follow {c : List Str} {x : Str} {a : Addr} (ha : S a = some (.lst (c.map D.str))) (hc : ∀ y ∈ c, PyData.strOk y = true) (h : OkW c x) (q : ∀ S', SG S S' → R (.bl true) S') : dFn 2 B_can_follow_f9d7 [.ref a, .str x] S R := by
  cases h with
  | bar h =>
    refine ⟨_, rfl, _, rfl, ?_⟩
    rw [xor_ff, decide_eq_true (show (Str.ofString "|" : Str) = ("|" : Str) from rfl)]
    refine goT ⟨_, rfl, _, _, rfl, seqOf_lst ha, ?_⟩
    have hl : 0 < c.length := List.length_pos_iff.mpr h
    show R (.bl (decide ((0 : Int) < ((c.map D.str).length : Int)))) S
    rw [List.length_map, decide_eq_true (show (0 : Int) < (c.length : Int) by omega)]
    exact q S (.refl _)
  | non =>
    refine ⟨_, rfl, _, rfl, ?_⟩
    rw [xor_ff, decide_eq_false (show ¬ (Str.ofString "_" : Str) = ("|" : Str) by decide)]
    refine goF ⟨_, rfl, _, rfl, ?_⟩
    rw [xor_ff, decide_eq_true (show (Str.ofString "_" : Str) = ("_" : Str) from rfl)]
    exact goT ⟨_, rfl, _, _, rfl, seqOf_lst ha, q S (.refl _)⟩
  | @ev _ i h0 h1 hn =>
    have w := ev_w h0 h1
    refine ⟨_, rfl, _, rfl, ?_⟩
    rw [xor_ff, decide_eq_false w.bar]
    refine goF ⟨_, rfl, _, rfl, ?_⟩
    rw [xor_ff, decide_eq_false w.non]
    refine goF ⟨_, rfl, rfl, fun b nb => ?_⟩
    have sg : SG S (S.put b (.lst [D.str "_"])) := .new nb
    have hb : (S.put b (.lst [D.str "_"])) b = some (.lst ([Str.ofString "_"].map D.str)) := Sto.same
    refine ⟨_, _, .lst (sg _ _ (fun z => z) ha) (pys_strs _), .lst hb (pys_strs _), strs_shaped hc, strs_shaped (fun y hy => by rw [List.mem_singleton.mp hy]; decide +kernel), ?_⟩
    rw [show PyData.eqv (.list (c.map PyData.str)) (.list ([Str.ofString "_"].map PyData.str)) = PyData.eqvAll (c.map PyData.str) ([Str.ofString "_"].map PyData.str) by rw [PyData.eqv], eqv_strs, decide_eq_false hn]
    exact ⟨_, rfl, goT ⟨_, rfl, rfl, w_evY h0 h1 (q _ sg)⟩⟩
end Sv
set_option maxHeartbeats 1000000
set_option autoImplicit false
set_option maxHeartbeats 2000000
set_option autoImplicit false
namespace Sv
open PySem PySem.Spec PyProof.Rows L2
def tys : List String := ["NoneType", "bool", "int", "str", "tuple", "list", "dict"]
theorem ty_int {t : String} (h : t ∈ tys) (n : t ≠ "int") : (t = "bool" ∧ kitB t "int" = some true ∧ kitB t "bool" = some true) ∨ kitB t "int" = some false := by
  unfold tys at h
  simp only [List.mem_cons, List.not_mem_nil, or_false] at h
  rcases h with rfl | rfl | rfl | rfl | rfl | rfl | rfl
  · exact .inr (by decide +kernel)
  · exact .inl ⟨rfl, by decide +kernel, by decide +kernel⟩
  · exact absurd rfl n
  · exact .inr (by decide +kernel)
  · exact .inr (by decide +kernel)
  · exact .inr (by decide +kernel)
  · exact .inr (by decide +kernel)
theorem tyD_int {S : Sto} {d : D} (h : tyD S d = some "int") : ∃ i, d = .int i := by
  cases d with
  | int i => exact ⟨i, rfl⟩
  | ref a =>
    have h : (match S a with | some (.lst _) => some "list" | some (.dK _) => some "dict" | _ => none) = some "int" := h
    split at h
    · exact absurd (Option.some.inj h) (by decide)
    · exact absurd (Option.some.inj h) (by decide)
    · cases h
  | ty n => cases h
  | _ => exact absurd (Option.some.inj h) (by decide)
theorem fine_none41 : Fine 0 101 .none := ⟨Nat.le_refl _, Nat.zero_le _, rfl, rfl, rfl⟩
end Sv
set_option maxHeartbeats 400000
namespace Sv
open PySem L2
/-- which saves the smaller history lacks -/
def dOf (rows : List (List Int)) (us : List (Int × Int)) (p n : Nat) : Bool := decide (((p : Int), (n : Int)) ∈ delU rows us)
end Sv
set_option maxHeartbeats 400000
set_option maxHeartbeats 400000
namespace Sv
open PySem L2
def NamesAt (S : Sto) (rows : List (List Int)) (us : List (Int × Int)) (rs : List Addr) : Prop := ∀ (p : Nat) (r : Addr) (row : List Int), rs[p]? = some r → rows[p]? = some row → S r = some (.lst (natD (namesN (dOf rows us p) (row.count 0))))
theorem NamesAt.keep {S S' : Sto} {rows : List (List Int)} {us : List (Int × Int)} {rs : List Addr} (h : NamesAt S rows us rs) (k : SG S S') : NamesAt S' rows us rs := fun p r row h1 h2 => k _ _ (fun z => z) (h p r row h1 h2)
end Sv
set_option maxHeartbeats 400000
set_option maxHeartbeats 400000
set_option maxHeartbeats 400000
namespace Sv
open PySem L2
def freshR (rows : List (List Int)) : List (List Int) := rows.map fun r => r ++ [0]
theorem Grown.fresh {c : Nat} {nm : List Int} {rows : List (List Int)} {o : List (Int × Int)} {u k : Nat} (h : Grown c nm rows o u k) : Grown c nm (freshR rows) o u (k + rows.length) := by
  have go : ∀ i, i ≤ rows.length → Grown c nm ((rows.take i).map (fun r => r ++ [0]) ++ rows.drop i) o u (k + i) := by
    intro i
    induction i with
    | zero => intro _; exact h
    | succ i ih =>
      intro hi
      have hr : rows[i]? = some rows[i] := List.getElem?_eq_getElem hi
      have g := ih (by omega)
      have hl : ((rows.take i).map (fun r => r ++ [0])).length = i := by rw [List.length_map, List.length_take]; omega
      have hd : rows.drop i = rows[i] :: rows.drop (i + 1) := List.drop_eq_getElem_cons hi
      have hat : ((rows.take i).map (fun r => r ++ [0]) ++ rows.drop i)[i]? = some rows[i] := by
        rw [List.getElem?_append_right (by omega), hl, Nat.sub_self, hd]
        rfl
      have g2 := g.save hat
      have e : ((rows.take i).map (fun r => r ++ [0]) ++ rows.drop i).set i (rows[i] ++ [0]) = (rows.take (i + 1)).map (fun r => r ++ [0]) ++ rows.drop (i + 1) := by
        rw [take_map hr, List.map_append, List.set_append_right _ _ (by omega), hl, Nat.sub_self, hd, List.append_assoc]
        rfl
      rw [e] at g2
      exact g2
  have := go rows.length (Nat.le_refl _)
  rw [List.take_length, List.drop_length, List.append_nil] at this
  exact this
theorem Good.fresh {many most : Nat} {rows : List (List Int)} (h : Good many most rows) : Good many (most + many) (freshR rows) := by
  have hl := h.len
  obtain ⟨c, nm, o, u, k, h1, h2, h3, h4, h5⟩ := h
  exact ⟨c, nm, o, u, k + rows.length, h1, h2, h3, h4.fresh, by omega⟩
end Sv
set_option maxHeartbeats 400000
set_option maxHeartbeats 400000
set_option maxHeartbeats 400000
set_option maxHeartbeats 400000
set_option maxHeartbeats 400000
set_option maxHeartbeats 400000
set_option maxHeartbeats 400000
set_option maxHeartbeats 400000
set_option maxHeartbeats 400000
set_option maxHeartbeats 800000
set_option autoImplicit false
namespace Sv
open PySem PySem.Spec PyProof.Rows L2
abbrev LetR := Nat × Nat × Nat × Nat × Int
def ltD (x : LetR) : List D := [.int (x.1 : Int), .int (x.2.1 : Int), .int (x.2.2.1 : Int), .int (x.2.2.2.1 : Int), .int x.2.2.2.2]
structure LetS (S : Sto) (f : Addr) (as : List Addr) (Ls : List LetR) : Prop where
  len : as.length = Ls.length
  fx : S f = some (.lst (as.map D.ref))
  at' : ∀ (k : Nat) (a : Addr) (x : LetR), as[k]? = some a → Ls[k]? = some x → S a = some (.lst (ltD x))
  off : ∀ a ∈ as, a ≠ f
theorem LetS.keep {S S' : Sto} {f : Addr} {as : List Addr} {Ls : List LetR} (h : LetS S f as Ls) (sg : SG S S') : LetS S' f as Ls := ⟨h.len, sg _ _ (fun z => z) h.fx, fun k a x h1 h2 => sg _ _ (fun z => z) (h.at' k a x h1 h2), h.off⟩
end Sv
set_option maxHeartbeats 800000
set_option autoImplicit false
set_option maxHeartbeats 800000
set_option autoImplicit false
set_option maxHeartbeats 800000
set_option autoImplicit false
set_option maxHeartbeats 800000
set_option autoImplicit false
set_option maxHeartbeats 800000
set_option autoImplicit false
set_option maxHeartbeats 1000000
set_option autoImplicit false
set_option maxHeartbeats 1000000
set_option autoImplicit false
namespace Sv
open PySem PySem.Spec PyProof.Rows L2
theorem w_sameP {x y : D} {p : PyData} {S : Sto} {R : DK} (hx : Py S x p) (hy : Py S y p) (t : Text p) (q : R (.bl true) S) : dFn 2 B_law_same_de9b [x, y] S R := by
  refine ⟨_, rfl, .inr (.inr ⟨_, _, rfl, hx, t, _, rfl, .inr (.inr ⟨_, _, rfl, hy, t, ?_⟩)⟩)⟩
  show R (.bl (decide (_ = _) ^^ false)) S
  rw [decide_eq_true rfl]
  exact q
end Sv
namespace Sv
open PySem PySem.Spec PyProof.Rows L2
def Has (r : List (List Int)) (e : Int) : Prop := ∃ (j : Nat) (row : List Int) (k : Nat), r[j]? = some row ∧ row[k]? = some e
theorem at_set {r : List (List Int)} {p : Nat} {row : List Int} (h : r[p]? = some row) (x : List Int) : (r.set p x)[p]? = some x := by
  rw [List.getElem?_set, if_pos rfl, if_pos (List.getElem?_eq_some_iff.mp h).1]
/-- a row grows: what was there stays there -/
theorem grow_at {r : List (List Int)} {p : Nat} {row : List Int} {v : Int} (h : r[p]? = some row) {i n : Nat} {a : List Int} {e : Int} (h1 : r[i]? = some a) (h2 : a[n]? = some e) : ∃ b, (r.set p (row ++ [v]))[i]? = some b ∧ b[n]? = some e := by
  by_cases z : p = i
  · subst z
    obtain rfl := Option.some.inj (h.symm.trans h1)
    exact ⟨_, at_set h _, by rw [List.getElem?_append_left (List.getElem?_eq_some_iff.mp h2).1]; exact h2⟩
  · exact ⟨a, by rw [List.getElem?_set_ne z]; exact h1, h2⟩
theorem Has.grow {r : List (List Int)} {p : Nat} {row : List Int} {v e : Int} (h : r[p]? = some row) (q : Has r e) : Has (r.set p (row ++ [v])) e := by
  obtain ⟨j, a, k, h1, h2⟩ := q
  obtain ⟨b, h3, h4⟩ := grow_at (v := v) h h1 h2
  exact ⟨j, b, k, h3, h4⟩
/-- the process that goes on: the lowest whose next event need not wait; S: what happened -/
def goesFrom (S : List Int) : Nat → List (List Int) → List Nat → Option (Nat × Int)
  | p, r :: rs, n :: ns => match r[n]? with
    | some e => if 0 ≤ e ∨ -e ∈ S then some (p, e) else goesFrom S (p + 1) rs ns
    | none => goesFrom S (p + 1) rs ns
  | _, _, _ => none
/-- the events that the places have passed -/
def seen : List (List Int) → List Nat → List Int
  | r :: rs, n :: ns => r.take n ++ seen rs ns
  | _, _ => []
def goes (rows : List (List Int)) (pl : List Nat) : Option (Nat × Int) := goesFrom (seen rows pl) 0 rows pl
def steps (rows : List (List Int)) : Nat → List Nat → List (Int × Int)
  | 0, _ => []
  | k + 1, pl => match goes rows pl with
    | some (p, e) => ((p : Int), e) :: steps rows k (pl.set p (pl.getD p 0 + 1))
    | none => []
def total (rows : List (List Int)) : Nat := (rows.map List.length).sum
def order (rows : List (List Int)) : List (Int × Int) := steps rows (total rows + 1) (List.replicate rows.length 0)
theorem goesFrom_none {S : List Int} : ∀ {rs : List (List Int)} {pl : List Nat} {q : Nat}, (∀ (j : Nat) (r : List Int) (n : Nat), rs[j]? = some r → pl[j]? = some n → ∀ e, r[n]? = some e → ¬ (0 ≤ e ∨ -e ∈ S)) → goesFrom S q rs pl = none
  | [], _, _, _ => by simp [goesFrom]
  | _ :: _, [], _, _ => by simp [goesFrom]
  | a :: rs, m :: ns, q, hn => by
    have ih := goesFrom_none (S := S) (rs := rs) (pl := ns) (q := q + 1) (fun j r n hr hp => hn (j + 1) r n hr hp)
    unfold goesFrom
    cases hr : a[m]? with
    | none => exact ih
    | some x =>
      simp only
      rw [if_neg (hn 0 a m rfl rfl x hr)]
      exact ih
/-- it skips those that must wait -/
theorem goesFrom_skip {S : List Int} : ∀ {rs : List (List Int)} {pl : List Nat} {q i : Nat} {r : List Int} {n : Nat} {e : Int}, (∀ (j : Nat) (r : List Int) (n : Nat), j < i → rs[j]? = some r → pl[j]? = some n → ∀ e, r[n]? = some e → ¬ (0 ≤ e ∨ -e ∈ S)) →
    rs[i]? = some r → pl[i]? = some n → r[n]? = some e → (0 ≤ e ∨ -e ∈ S) → goesFrom S q rs pl = some (q + i, e)
  | [], _, q, i, r, n, e, _, h, _, _, _ => by simp at h
  | _ :: _, [], q, i, r, n, e, _, _, h, _, _ => by simp at h
  | a :: rs, m :: ns, q, 0, r, n, e, hn, h1, h2, h3, h4 => by
    obtain rfl : a = r := Option.some.inj h1
    obtain rfl : m = n := Option.some.inj h2
    unfold goesFrom
    rw [h3]
    simp only
    rw [if_pos h4]
    rfl
  | a :: rs, m :: ns, q, i + 1, r, n, e, hn, h1, h2, h3, h4 => by
    have ih := goesFrom_skip (S := S) (rs := rs) (pl := ns) (q := q + 1) (i := i) (r := r) (n := n) (e := e) (fun j r n hj hr hp => hn (j + 1) r n (Nat.succ_lt_succ hj) hr hp) h1 h2 h3 h4
    have hq : q + 1 + i = q + (i + 1) := by omega
    rw [hq] at ih
    unfold goesFrom
    cases hr : a[m]? with
    | none => exact ih
    | some x =>
      simp only
      rw [if_neg (hn 0 a m (Nat.succ_pos _) rfl rfl x hr)]
      exact ih
theorem goesFrom_some {S : List Int} : ∀ {rs : List (List Int)} {pl : List Nat} {q p : Nat} {e : Int}, goesFrom S q rs pl = some (p, e) → ∃ i r n, p = q + i ∧ rs[i]? = some r ∧ pl[i]? = some n ∧ r[n]? = some e ∧ (0 ≤ e ∨ -e ∈ S)
  | [], _, q, p, e, h => by simp [goesFrom] at h
  | _ :: _, [], q, p, e, h => by simp [goesFrom] at h
  | r :: rs, n :: ns, q, p, e, h => by
    unfold goesFrom at h
    have more : goesFrom S (q + 1) rs ns = some (p, e) → ∃ i r' n', p = q + i ∧ (r :: rs)[i]? = some r' ∧ (n :: ns)[i]? = some n' ∧ r'[n']? = some e ∧ (0 ≤ e ∨ -e ∈ S) := fun h => by
      obtain ⟨i, r', n', h1, h2, h3, h4, h5⟩ := goesFrom_some h
      exact ⟨i + 1, r', n', by omega, h2, h3, h4, h5⟩
    cases hr : r[n]? with
    | none =>
      rw [hr] at h
      exact more h
    | some x =>
      rw [hr] at h
      simp only at h
      split at h
      · rename_i hx
        cases h
        exact ⟨0, r, n, rfl, rfl, rfl, hr, hx⟩
      · exact more h
theorem goes_some {rows : List (List Int)} {pl : List Nat} {p : Nat} {e : Int} (h : goes rows pl = some (p, e)) : ∃ r n, rows[p]? = some r ∧ pl[p]? = some n ∧ r[n]? = some e ∧ (0 ≤ e ∨ -e ∈ seen rows pl) := by
  obtain ⟨i, r, n, rfl, h2, h3, h4, h5⟩ := goesFrom_some h
  rw [Nat.zero_add]
  exact ⟨r, n, h2, h3, h4, h5⟩
theorem seen_step : ∀ {rows : List (List Int)} {pl : List Nat} {p n : Nat} {r : List Int} {e : Int}, rows[p]? = some r → pl[p]? = some n → r[n]? = some e → ∀ x, x ∈ seen rows (pl.set p (n + 1)) ↔ x = e ∨ x ∈ seen rows pl
  | [], _, p, _, _, _, h, _, _ => by simp at h
  | _ :: _, [], p, _, _, _, _, h, _ => by simp at h
  | a :: rs, m :: ns, 0, n, r, e, h1, h2, h3 => fun x => by
    obtain rfl : a = r := Option.some.inj h1
    obtain rfl : m = n := Option.some.inj h2
    simp only [List.set_cons_zero, seen, List.take_add_one, h3, Option.toList, List.mem_append, List.mem_singleton]
    constructor
    · rintro ((h | h) | h)
      · exact .inr (.inl h)
      · exact .inl h
      · exact .inr (.inr h)
    · rintro (h | h | h)
      · exact .inl (.inr h)
      · exact .inl (.inl h)
      · exact .inr h
  | a :: rs, m :: ns, p + 1, n, r, e, h1, h2, h3 => fun x => by
    have ih := seen_step (rows := rs) (pl := ns) (p := p) (n := n) (r := r) (e := e) h1 h2 h3 x
    simp only [List.set_cons_succ, seen, List.mem_append, ih]
    constructor
    · rintro (h | h | h)
      · exact .inr (.inl h)
      · exact .inl h
      · exact .inr (.inr h)
    · rintro (h | h | h)
      · exact .inr (.inl h)
      · exact .inl h
      · exact .inr (.inr h)
theorem steps_succ {rows : List (List Int)} {pl : List Nat} {p n k : Nat} {e : Int} (h : goes rows pl = some (p, e)) (h2 : pl[p]? = some n) : steps rows (k + 1) pl = ((p : Int), e) :: steps rows k (pl.set p (n + 1)) := by
  have e1 : pl.getD p 0 = n := by rw [List.getD_eq_getElem?_getD, h2]; rfl
  rw [← e1]
  conv => lhs; unfold steps
  rw [h]
/-- the places are within the rows -/
def Fit (rows : List (List Int)) (pl : List Nat) : Prop := ∀ (i : Nat) (r : List Int) (n : Nat), rows[i]? = some r → pl[i]? = some n → n ≤ r.length
theorem fit_set {rows : List (List Int)} {pl : List Nat} {p n : Nat} {r : List Int} {e : Int} (f : Fit rows pl) (h : rows[p]? = some r) (h1 : pl[p]? = some n) (h2 : r[n]? = some e) : Fit rows (pl.set p (n + 1)) := fun i r' n' a b => by
  by_cases z : p = i
  · subst z
    rw [h] at a
    cases a
    rw [List.getElem?_set] at b
    rw [if_pos rfl] at b
    split at b
    · cases b
      exact (List.getElem?_eq_some_iff.mp h2).1
    · cases b
  · rw [List.getElem?_set_ne z] at b
    exact f i r' n' a b
theorem fit_zero {rows : List (List Int)} {n : Nat} : Fit rows (List.replicate n 0) := fun i r m _ b => by
  rw [(List.mem_replicate.mp (List.mem_of_getElem? b)).2]
  exact Nat.zero_le _
theorem fit_sum : ∀ {rows : List (List Int)} {pl : List Nat}, pl.length = rows.length → Fit rows pl → pl.sum ≤ total rows
  | [], [], _, _ => Nat.le_refl _
  | [], _ :: _, h, _ => by simp at h
  | _ :: _, [], _, _ => Nat.zero_le _
  | r :: rs, n :: ns, h, f => by
    have h1 := fit_sum (rows := rs) (pl := ns) (by simpa using h) fun i r n a b => f (i + 1) r n a b
    have h2 := f 0 r n rfl rfl
    unfold total at h1 ⊢
    simp only [List.map_cons, List.sum_cons]
    omega
/-- the events of one process in such an order -/
def own (p : Nat) (l : List (Int × Int)) : List Int := (l.filter fun q => decide (q.1 = (p : Int))).map (·.2)
def Ready (r : List (List Int)) (n : Nat → Nat) : Prop := ∃ (i : Nat) (row : List Int) (e : Int), r[i]? = some row ∧ row[n i]? = some e ∧ (0 ≤ e ∨ ∃ (j : Nat) (row2 : List Int) (k : Nat), r[j]? = some row2 ∧ k < n j ∧ row2[k]? = some (-e))
theorem set_at {r : List (List Int)} {p i : Nat} {x row : List Int} (h : (r.set p x)[i]? = some row) : (p = i ∧ row = x) ∨ (p ≠ i ∧ r[i]? = some row) := by
  by_cases e : p = i
  · subst e
    rw [List.getElem?_set, if_pos rfl] at h
    split at h
    · exact .inl ⟨rfl, (Option.some.inj h).symm⟩
    · cases h
  · rw [List.getElem?_set_ne e] at h
    exact .inr ⟨e, h⟩
/-- one event more: someone can go on -/
theorem ready_grow {r : List (List Int)} {p : Nat} {row : List Int} {v : Int} (h : r[p]? = some row) (hv : 0 ≤ v ∨ Has r (-v)) {n : Nat → Nat} (ih : (∃ (i : Nat) (a : List Int), r[i]? = some a ∧ n i < a.length) → Ready r n)
    (hi : ∃ (i : Nat) (a : List Int), (r.set p (row ++ [v]))[i]? = some a ∧ n i < a.length) : Ready (r.set p (row ++ [v])) n := by
  by_cases z : ∃ (i : Nat) (a : List Int), r[i]? = some a ∧ n i < a.length
  · obtain ⟨i, a, e, h1, h2, h3⟩ := ih z
    obtain ⟨b, h4, h5⟩ := grow_at (v := v) h h1 h2
    refine ⟨i, b, e, h4, h5, h3.imp_right ?_⟩
    rintro ⟨j, a2, k, h6, h7, h8⟩
    obtain ⟨b2, h9, h10⟩ := grow_at (v := v) h h6 h8
    exact ⟨j, b2, k, h9, h7, h10⟩
  · have all : ∀ (i : Nat) (a : List Int), r[i]? = some a → a.length ≤ n i := fun i a h1 => Nat.le_of_not_lt fun h2 => z ⟨i, a, h1, h2⟩
    obtain ⟨i, a, h1, h2⟩ := hi
    rcases set_at h1 with ⟨rfl, rfl⟩ | ⟨_, h3⟩
    · have h4 := all _ _ h
      rw [List.length_append, List.length_singleton] at h2
      have h5 : n p = row.length := by omega
      refine ⟨p, _, v, h1, by rw [h5]; exact List.getElem?_concat_length, hv.imp_right ?_⟩
      rintro ⟨j, a2, k, h6, h7⟩
      obtain ⟨b2, h9, h10⟩ := grow_at (v := v) h h6 h7
      exact ⟨j, b2, k, h9, Nat.lt_of_lt_of_le (List.getElem?_eq_some_iff.mp h7).1 (all _ _ h6), h10⟩
    · exact absurd (all _ _ h3) (by omega)
theorem Grown.open_has {c : Nat} {nm : List Int} {r : List (List Int)} {o : List (Int × Int)} {u k : Nat} (h : Grown c nm r o u k) : ∀ p ∈ o, Has r p.1 := by
  induction h with
  | start => exact fun _ z => (nomatch z)
  | skip _ ih => exact ih
  | save _ h ih => exact fun p hp => (ih p hp).grow h
  | send _ h hu ih =>
    intro p hp
    rcases List.mem_append.mp hp with z | z
    · exact (ih p z).grow h
    · rw [List.mem_singleton.mp z]
      exact ⟨_, _, _, at_set h _, List.getElem?_concat_length⟩
  | recv _ h hj _ ih => exact fun p hp => (ih p (List.mem_of_mem_eraseIdx hp)).grow h
theorem Grown.ready {c : Nat} {nm : List Int} {r : List (List Int)} {o : List (Int × Int)} {u k : Nat} (h : Grown c nm r o u k) (hn : nm.Perm names24) (n : Nat → Nat) : (∃ (i : Nat) (a : List Int), r[i]? = some a ∧ n i < a.length) → Ready r n := by
  induction h with
  | start =>
    rintro ⟨i, a, h1, h2⟩
    rw [(List.mem_replicate.mp (List.mem_of_getElem? h1)).2] at h2
    exact absurd h2 (Nat.not_lt_zero _)
  | skip _ ih => exact ih
  | save _ h ih => exact ready_grow h (.inl (by decide)) ih
  | send _ h hu ih => exact ready_grow h (.inl (by have := names_pos hn _ (List.mem_of_getElem? hu); omega)) ih
  | recv g h hj _ ih =>
    refine ready_grow h (.inr ?_) ih
    have e : ∀ m : Int, -(0 - m) = m := fun m => by omega
    rw [e]
    exact g.open_has _ (List.mem_of_getElem? hj)
theorem goesFrom_any {S : List Int} : ∀ {rs : List (List Int)} {pl : List Nat} {q i n : Nat} {r : List Int} {e : Int}, rs[i]? = some r → pl[i]? = some n → r[n]? = some e → (0 ≤ e ∨ -e ∈ S) → goesFrom S q rs pl ≠ none
  | [], _, q, i, n, r, e, h, _, _, _ => by simp at h
  | _ :: _, [], q, i, n, r, e, _, h, _, _ => by simp at h
  | a :: rs, m :: ns, q, 0, n, r, e, h1, h2, h3, h4 => by
    obtain rfl : a = r := Option.some.inj h1
    obtain rfl : m = n := Option.some.inj h2
    unfold goesFrom
    rw [h3]
    simp only
    rw [if_pos h4]
    exact fun z => (nomatch z)
  | a :: rs, m :: ns, q, i + 1, n, r, e, h1, h2, h3, h4 => by
    have ih := goesFrom_any (S := S) (rs := rs) (pl := ns) (q := q + 1) (i := i) h1 h2 h3 h4
    unfold goesFrom
    cases a[m]? with
    | none => exact ih
    | some x =>
      simp only
      split
      · exact fun z => (nomatch z)
      · exact ih
theorem seen_mem : ∀ {rows : List (List Int)} {pl : List Nat} {j k n : Nat} {row : List Int} {e : Int}, rows[j]? = some row → pl[j]? = some n → k < n → row[k]? = some e → e ∈ seen rows pl
  | [], _, j, _, _, _, _, h, _, _, _ => by simp at h
  | _ :: _, [], j, _, _, _, _, _, h, _, _ => by simp at h
  | r :: rs, m :: ns, 0, k, n, row, e, h1, h2, h3, h4 => by
    obtain rfl : r = row := Option.some.inj h1
    obtain rfl : m = n := Option.some.inj h2
    unfold seen
    refine List.mem_append_left _ (List.mem_of_getElem? (i := k) ?_)
    rw [List.getElem?_take_of_lt h3]
    exact h4
  | r :: rs, m :: ns, j + 1, k, n, row, e, h1, h2, h3, h4 => by
    unfold seen
    exact List.mem_append_right _ (seen_mem (rows := rs) (pl := ns) (j := j) h1 h2 h3 h4)
/-- never stuck -/
theorem Good.done {many most : Nat} {rows : List (List Int)} (h : Good many most rows) {pl : List Nat} (hl : pl.length = rows.length) (hg : goes rows pl = none) : ∀ (i : Nat) (r : List Int) (n : Nat), rows[i]? = some r → pl[i]? = some n → r.length ≤ n := by
  obtain ⟨c, nm, o, u, k, _, _, hp, g, _⟩ := h
  intro i r n h1 h2
  refine Nat.le_of_not_lt fun h3 => ?_
  have e2 : pl.getD i 0 = n := by rw [List.getD_eq_getElem?_getD, h2]; rfl
  obtain ⟨i', a, e, h4, h5, h6⟩ := g.ready hp (fun i => pl.getD i 0) ⟨i, r, h1, by rw [e2]; exact h3⟩
  have at' : ∀ {j : Nat} {b : List Int}, rows[j]? = some b → pl[j]? = some (pl.getD j 0) := fun {j b} hj => by
    have hj' : j < pl.length := by
      rw [hl]
      exact (List.getElem?_eq_some_iff.mp hj).1
    rw [List.getD_eq_getElem?_getD, List.getElem?_eq_getElem hj']
    rfl
  refine goesFrom_any (S := seen rows pl) (q := 0) h4 (at' h4) h5 (h6.imp_right ?_) hg
  rintro ⟨j, b, k', h7, h8, h9⟩
  exact seen_mem h7 (at' h7) h8 h9
theorem total_le : ∀ {rows : List (List Int)} {pl : List Nat}, pl.length = rows.length → (∀ (i : Nat) (r : List Int) (n : Nat), rows[i]? = some r → pl[i]? = some n → r.length ≤ n) → total rows ≤ pl.sum
  | [], _, _, _ => Nat.zero_le _
  | _ :: _, [], h, _ => by simp at h
  | r :: rs, n :: ns, h, f => by
    have h1 := total_le (rows := rs) (pl := ns) (by simpa using h) fun i r n a b => f (i + 1) r n a b
    have h2 := f 0 r n rfl rfl
    unfold total at h1 ⊢
    simp only [List.map_cons, List.sum_cons]
    omega
theorem own_cons {p : Nat} {x : Int} {e : Int} {l : List (Int × Int)} : own p ((x, e) :: l) = if x = (p : Int) then e :: own p l else own p l := by
  unfold own
  by_cases h : x = (p : Int)
  · simp [List.filter_cons, h]
  · simp [List.filter_cons, h]
theorem seen_zero : ∀ {rows : List (List Int)} {n : Nat}, seen rows (List.replicate n 0) = []
  | [], n => by simp [seen]
  | r :: rs, 0 => by simp [seen]
  | r :: rs, n + 1 => by
    show r.take 0 ++ seen rs (List.replicate n 0) = []
    rw [seen_zero]
    rfl
end Sv
set_option maxHeartbeats 1000000
set_option autoImplicit false
namespace Sv
open PySem PySem.Spec PyProof.Rows L2
def blockP (p : Nat) (row : List Int) : List (Nat × Nat × Int) := row.mapIdx fun i e => (p, i, e)
def placedFrom : Nat → List (List Int) → List (Nat × Nat × Int)
  | _, [] => []
  | p, r :: rs => blockP p r ++ placedFrom (p + 1) rs
abbrev placed (rows : List (List Int)) : List (Nat × Nat × Int) := placedFrom 0 rows
def plD (x : Nat × Nat × Int) : D := .tup [.int (x.1 : Int), .int (x.2.1 : Int), .int x.2.2]
theorem placed_app : ∀ (p : Nat) (a b : List (List Int)), placedFrom p (a ++ b) = placedFrom p a ++ placedFrom (p + a.length) b
  | p, [], b => by simp [placedFrom]
  | p, r :: a, b => by
    show blockP p r ++ placedFrom (p + 1) (a ++ b) = (blockP p r ++ placedFrom (p + 1) a) ++ _
    rw [placed_app (p + 1) a b, List.append_assoc, List.length_cons]
    have : p + 1 + a.length = p + (a.length + 1) := by omega
    rw [this]
theorem block_len (p : Nat) (row : List Int) : (blockP p row).length = row.length := by simp [blockP]
theorem placed_len : ∀ (p : Nat) (rows : List (List Int)), (placedFrom p rows).length = total rows
  | _, [] => rfl
  | p, r :: rs => by
    show (blockP p r ++ placedFrom (p + 1) rs).length = _
    rw [List.length_append, block_len, placed_len (p + 1) rs]
    rfl
theorem placed_take {rows : List (List Int)} {i : Nat} {row : List Int} (h : rows[i]? = some row) : placed (rows.take (i + 1)) = placed (rows.take i) ++ blockP i row := by
  have hi : i < rows.length := (List.getElem?_eq_some_iff.mp h).1
  rw [List.take_add_one, h]
  show placedFrom 0 (rows.take i ++ [row]) = _
  rw [placed_app, List.length_take, Nat.min_eq_left (Nat.le_of_lt hi), Nat.zero_add]
  show _ ++ (blockP i row ++ []) = _
  rw [List.append_nil]
theorem placed_split (rows : List (List Int)) (i : Nat) : ∃ more, placed rows = placed (rows.take i) ++ more := by
  refine ⟨placedFrom (0 + (rows.take i).length) (rows.drop i), ?_⟩
  rw [← placed_app, List.take_append_drop]
theorem block_at {p i : Nat} {row : List Int} {e : Int} (h : row[i]? = some e) : (blockP p row)[i]? = some (p, i, e) := by
  unfold blockP
  rw [List.getElem?_mapIdx, h]
  rfl
theorem enD_rows {rows : List (List Int)} {i : Nat} {d : D} (h : (enD (rowsD rows))[i]? = some d) : ∃ row, rows[i]? = some row ∧ d = .tup [.int (i : Nat), rowD row] := by
  have hl := (List.getElem?_eq_some_iff.mp h).1
  rw [enD_len, rowsD, List.length_map] at hl
  refine ⟨rows[i], List.getElem?_eq_getElem hl, ?_⟩
  have := enD_at (ds := rowsD rows) (i := i) (d := rowD rows[i]) (by rw [rowsD, List.getElem?_map, List.getElem?_eq_getElem hl]; rfl)
  rw [this] at h
  exact (Option.some.inj h).symm
theorem enD_ints {row : List Int} {i : Nat} {d : D} (h : (enD (intsD row))[i]? = some d) : ∃ e, row[i]? = some e ∧ d = .tup [.int (i : Nat), .int e] := by
  have hl := (List.getElem?_eq_some_iff.mp h).1
  rw [enD_len, intsD_len] at hl
  refine ⟨row[i], List.getElem?_eq_getElem hl, ?_⟩
  have := enD_at (ds := intsD row) (i := i) (d := .int row[i]) (by rw [intsD, List.getElem?_map, List.getElem?_eq_getElem hl]; rfl)
  rw [this] at h
  exact (Option.some.inj h).symm
theorem gen_placed {rows : List (List Int)} (ht : total rows ≤ 1000) : dGfn 1 5 B_placed_events_e217 [.tup (rowsD rows)] ((placed rows).map plD) := by
  refine ⟨rfl, ?_⟩
  refine ⟨_, rfl, rowsD rows, .inl rfl, fun i ds env S => ds = (placed (rows.take i)).map plD ∧ ∃ x1 x2 x3 x4 : Option D, env = [some (.tup (rowsD rows)), x1, x2, x3, x4], ⟨rfl, _, _, _, _, rfl⟩, fun _ _ _ _ _ _ => True.intro, ?_, ?_⟩
  · rintro i d ds env S hd ⟨rfl, x1, x2, x3, x4, rfl⟩
    obtain ⟨row, hrow, rfl⟩ := enD_rows hd
    refine ⟨_, rfl, .inl (.inl rfl), _, _, rfl, _, _, rfl, rfl, ?_⟩
    refine ⟨_, rfl, intsD row, .inl rfl, fun j ds env S => ds = (placed (rows.take i) ++ (blockP i row).take j).map plD ∧ ∃ x3 x4 : Option D, env = [some (.tup (rowsD rows)), some (.int (i : Nat)), some (rowD row), x3, x4], ⟨by rw [List.take_zero, List.append_nil], _, _, rfl⟩, fun _ _ _ _ _ _ => True.intro, ?_, ?_⟩
    · rintro j e ds env S he ⟨rfl, x3, x4, rfl⟩
      obtain ⟨v, hv, rfl⟩ := enD_ints he
      refine ⟨_, rfl, .inl (.inl rfl), _, _, rfl, _, _, rfl, rfl, ?_⟩
      have hb := block_at (p := i) hv
      have htk : placed (rows.take i) ++ (blockP i row).take (j + 1) = placed (rows.take i) ++ (blockP i row).take j ++ [(i, j, v)] := by
        rw [List.take_add_one, hb, List.append_assoc]
        rfl
      obtain ⟨more, hm⟩ := placed_split rows (i + 1)
      rw [placed_take hrow] at hm
      have hm2 : placed rows = placed (rows.take i) ++ (blockP i row).take j ++ (i, j, v) :: ((blockP i row).drop (j + 1) ++ more) := by
        obtain ⟨hj, hj'⟩ := List.getElem?_eq_some_iff.mp hb
        rw [hm]
        conv => lhs; rw [← List.take_append_drop j (blockP i row), List.drop_eq_getElem_cons hj, hj']
        simp
      refine ⟨?_, _, rfl, _, rfl, _, rfl, rfl, ⟨((blockP i row).drop (j + 1) ++ more).map plD, ?_⟩, ?_, _, _, rfl⟩
      · rw [List.length_map]
        have h1 := congrArg List.length hm2
        rw [placed_len, List.length_append] at h1
        omega
      · show (placed rows).map plD = (placed (rows.take i) ++ (blockP i row).take j).map plD ++ plD (i, j, v) :: ((blockP i row).drop (j + 1) ++ more).map plD
        rw [hm2, List.map_append, List.map_cons]
      · show (placed (rows.take i) ++ (blockP i row).take j).map plD ++ [plD (i, j, v)] = _
        simp only [htk, List.map_append, List.map_cons, List.map_nil]
    · rintro ds env S ⟨rfl, x3, x4, rfl⟩
      refine ⟨?_, _, _, _, _, rfl⟩
      rw [placed_take hrow]
      have : (enD (intsD row)).length = (blockP i row).length := by rw [enD_len, intsD_len, block_len]
      show List.map plD (placed (rows.take i) ++ (blockP i row).take (enD (intsD row)).length) = _
      rw [this, List.take_length]
  · rintro ds env S ⟨rfl, x1, x2, x3, x4, rfl⟩
    show List.map plD (placed (rows.take (enD (rowsD rows)).length)) = _
    rw [enD_len, rowsD, List.length_map, List.take_length]
def errD (tag : Str) : Option (Nat × Nat × Int) → D
  | none => .non
  | some x => .tup [.str tag, .int (x.1 : Int), .int (x.2.1 : Int)]
theorem find_at {α : Type} {p : α → Bool} {L : List α} {n : Nat} {x : α} (h : L[n]? = some x) (hx : p x = true) (hb : ∀ y ∈ L.take n, p y = false) : L.find? p = some x := by
  induction L generalizing n with
  | nil => simp at h
  | cons a r ih =>
    cases n with
    | zero =>
      obtain rfl : a = x := Option.some.inj h
      rw [List.find?_cons, hx]
    | succ n =>
      rw [List.find?_cons, hb a (by simp)]
      exact ih (by simpa using h) fun y hy => hb y (by rw [List.take_succ_cons]; exact List.mem_cons_of_mem _ hy)
theorem find_no {α : Type} {p : α → Bool} {L : List α} (hb : ∀ y ∈ L, p y = false) : L.find? p = none := by
  rw [List.find?_eq_none]
  intro y hy
  rw [hb y hy]
  exact Bool.false_ne_true
theorem plD_at {rows : List (List Int)} {n : Nat} {d : D} (h : ((placed rows).map plD)[n]? = some d) : ∃ x, (placed rows)[n]? = some x ∧ d = plD x := by
  rw [List.getElem?_map] at h
  cases e : (placed rows)[n]? with
  | none => rw [e] at h; cases h
  | some x => rw [e] at h; exact ⟨x, rfl, (Option.some.inj h).symm⟩
def badE (x : Nat × Nat × Int) : Bool := !(decide (-24 ≤ x.2.2) && decide (x.2.2 ≤ 24))
def evErr (rows : List (List Int)) : Option (Nat × Nat × Int) := (placed rows).find? badE
theorem w_evErr {rows : List (List Int)} {S : Sto} {R : DK} (ht : total rows ≤ 1000) (q : R (errD "event" (evErr rows)) S) : dFn 4 B_event_error_3c54 [.tup (rowsD rows)] S R := by
  refine ⟨_, rfl, _, gen_placed ht, fun n env S' => S' = S ∧ (∀ y ∈ (placed rows).take n, badE y = false) ∧ ∃ x1 x2 x3 : Option D, env = [some (.tup (rowsD rows)), x1, x2, x3], ⟨rfl, fun y hy => by simp at hy, _, _, _, rfl⟩, fun _ _ _ _ _ => True.intro, ?_, ?_⟩
  · rintro n d env S' hd ⟨rfl, hb, x1, x2, x3, rfl⟩
    obtain ⟨x, hx, rfl⟩ := plD_at hd
    refine ⟨_, rfl, .inl (.inl rfl), _, _, rfl, _, _, rfl, _, _, rfl, rfl, ?_⟩
    refine ⟨_, rfl, rfl, w_within ⟨_, rfl, ?_⟩⟩
    refine iteB (fun h => ?_) fun h => ?_
    · refine ⟨_, rfl, _, rfl, rfl, ?_⟩
      have : evErr rows = some x := find_at hx h hb
      rw [this] at q
      exact q
    · refine ⟨rfl, fun y hy => ?_, _, _, _, rfl⟩
      rw [List.take_add_one, hx] at hy
      rcases List.mem_append.mp hy with z | z
      · exact hb y z
      · rw [show y = x by simpa using z]
        exact h
  · rintro env S' ⟨rfl, hb, x1, x2, x3, rfl⟩
    have : evErr rows = none := find_no fun y hy => hb y (by
      show y ∈ (placed rows).take ((placed rows).map plD).length
      rw [List.length_map, List.take_length]
      exact hy)
    rw [this] at q
    exact q
end Sv
set_option maxHeartbeats 1000000
set_option autoImplicit false
namespace Sv
open PySem PySem.Spec PyProof.Rows L2
theorem lens_sum (rows : List (List Int)) : (rows.map fun r => (r.length : Int)).sum = (total rows : Int) := by
  induction rows with
  | nil => rfl
  | cons r rs ih =>
    rw [List.map_cons, List.sum_cons, ih]
    unfold total
    rw [List.map_cons, List.sum_cons]
    omega
theorem w_count {rows : List (List Int)} {S : Sto} {R : DK} (hl : rows.length ≤ 1000) (k : ∀ S', SG S S' → R (.int (total rows : Int)) S') : dFn 2 B_event_count_1213 [.tup (rowsD rows)] S R := by
  refine ⟨_, rfl, _, rfl, lc_map rows rowD (fun _ => True) (fun r => some (D.int (r.length : Int))) (by omega) (fun _ _ => True.intro) (fun r _ S' sg K Kn hk _ => turn_y ⟨_, rfl, _, _, rfl, rfl, ?_⟩) fun t S' nt sg ht => ⟨_, rows.map fun r => (r.length : Int), rfl, ?_, ?_⟩⟩
  · rw [intsD_len]
    exact hk _ rfl _ (.refl _)
  · rw [ht, fm_map]
    unfold intsD
    rw [List.map_map]
    rfl
  · rw [lens_sum]
    exact k _ sg
def shD (rows : List (List Int)) : D := if (decide (1 ≤ rows.length) && decide (rows.length ≤ 6)) = true then (if decide (60 < total rows) = true then .tup [.str "events"] else .non) else .tup [.str "history"]
theorem w_shape {rows : List (List Int)} {S : Sto} {R : DK} (k : ∀ S', SG S S' → R (shD rows) S') : dFn 3 B_shape_error_72a0 [.tup (rowsD rows)] S R := by
  have erl : (rowsD rows).length = rows.length := List.length_map ..
  refine ⟨_, rfl, _, _, _, _, rfl, rfl, (by decide +kernel : kitB "tuple" "tuple" = some true), _, rfl, goF ?_⟩
  refine ⟨_, rfl, _, _, rfl, rfl, _, rfl, iteB (fun h1 => ?_) fun h1 => ?_⟩
  · have h1 : decide ((1 : Int) ≤ ((rowsD rows).length : Int)) = true := h1
    have h1 : 1 ≤ rows.length := by have := of_decide_eq_true h1; rw [erl] at this; omega
    refine ⟨_, rfl, iteB (fun h2 => ?_) fun h2 => ?_⟩
    · have h2 : (!decide (((rowsD rows).length : Int) ≤ 6)) = true := h2
      have h2 : ¬ rows.length ≤ 6 := by
        intro z
        rw [decide_eq_true (show ((rowsD rows).length : Int) ≤ 6 by rw [erl]; omega)] at h2
        cases h2
      have e : shD rows = .tup [.str "history"] := by
        unfold shD
        rw [decide_eq_true h1, decide_eq_false h2]
        rfl
      have q := k _ (.refl S)
      rw [e] at q
      exact ⟨rfl, q⟩
    · have h2 : (!decide (((rowsD rows).length : Int) ≤ 6)) = false := h2
      have h2 : rows.length ≤ 6 := by
        rw [Bool.not_eq_false'] at h2
        have := of_decide_eq_true h2
        rw [erl] at this
        omega
      refine ⟨_, rfl, _, _, rfl, rfl, fun i env S' => S' = S ∧ ∃ x1 x2 : Option D, env = [some (.tup (rowsD rows)), x1, x2], ⟨rfl, _, _, rfl⟩, fun _ _ _ _ _ => True.intro, ?_, ?_⟩
      · rintro i d env S' hd ⟨rfl, x1, x2, rfl⟩
        obtain ⟨row, hrow, rfl⟩ := enD_rows hd
        refine ⟨_, rfl, .inl (.inl rfl), _, _, rfl, _, _, rfl, rfl, ?_⟩
        exact ⟨_, rfl, _, _, _, _, rfl, rfl, (by decide +kernel : kitB "tuple" "tuple" = some true), _, rfl, goF ⟨rfl, _, _, rfl⟩⟩
      · rintro env S' ⟨rfl, x1, x2, rfl⟩
        refine ⟨_, rfl, rfl, w_count (by omega) fun S2 sg => ⟨_, rfl, iteB (fun h3 => ?_) fun h3 => ?_⟩⟩
        · have h3 : decide ((60 : Int) < (total rows : Int)) = true := h3
          have e : shD rows = .tup [.str "events"] := by
            unfold shD
            rw [decide_eq_true h1, decide_eq_true h2, decide_eq_true (show 60 < total rows by have := of_decide_eq_true h3; omega)]
            rfl
          refine ⟨rfl, ?_⟩
          have q := k _ sg
          rw [e] at q
          exact q
        · have h3 : decide ((60 : Int) < (total rows : Int)) = false := h3
          have e : shD rows = .non := by
            unfold shD
            rw [decide_eq_true h1, decide_eq_true h2, decide_eq_false (show ¬ 60 < total rows by have := of_decide_eq_false h3; omega)]
            rfl
          have q := k _ sg
          rw [e] at q
          exact q
  · have h1 : decide ((1 : Int) ≤ ((rowsD rows).length : Int)) = false := h1
    have h1 : ¬ 1 ≤ rows.length := by have := of_decide_eq_false h1; rw [erl] at this; omega
    have e : shD rows = .tup [.str "history"] := by
      unfold shD
      rw [decide_eq_false h1]
      rfl
    have q := k _ (.refl S)
    rw [e] at q
    refine ⟨_, rfl, goT ⟨rfl, q⟩⟩
def twF : List Int → List (Nat × Nat × Int) → Option (Nat × Nat × Int)
  | _, [] => none
  | ns, x :: r => if x.2.2 ∈ ns then some x else twF (if x.2.2 = 0 then ns else ns ++ [x.2.2]) r
def twErr (rows : List (List Int)) : Option (Nat × Nat × Int) := twF [] (placed rows)
theorem w_twErr {rows : List (List Int)} {S : Sto} {R : DK} (ht : total rows ≤ 1000) (k : ∀ S', SG S S' → R (errD "twice" (twErr rows)) S') : dFn 5 B_twice_error_125f [.tup (rowsD rows)] S R := by
  refine fun p np => ?_
  refine ⟨_, rfl, _, gen_placed ht, fun n env S' => ∃ ns : List Int, SG S S' ∧ S' p = some (.iset ns) ∧ ns.length ≤ n ∧ twErr rows = twF ns ((placed rows).drop n) ∧ ∃ x2 x3 x4 : Option D, env = [some (.tup (rowsD rows)), some (.ref p), x2, x3, x4], ⟨[], .new np, Sto.same, Nat.le_refl _, rfl, _, _, _, rfl⟩, fun _ _ _ _ _ => True.intro, ?_, ?_⟩
  · rintro n d env S' hd ⟨ns, sg, hp, hn, htw, x2, x3, x4, rfl⟩
    obtain ⟨x, hx, rfl⟩ := plD_at hd
    obtain ⟨hl, hx'⟩ := List.getElem?_eq_some_iff.mp hx
    rw [List.drop_eq_getElem_cons hl, hx'] at htw
    have hl2 : n < total rows := by rw [placed_len] at hl; exact hl
    refine ⟨_, rfl, .inl (.inl rfl), _, _, rfl, _, _, rfl, _, _, rfl, rfl, ?_⟩
    refine ⟨_, rfl, _, rfl, _, _, _, rfl, rfl, hp, _, rfl, ?_⟩
    rw [xor_ff]
    refine iteB (fun h => ?_) fun h => ?_
    · have h := of_decide_eq_true h
      refine ⟨_, rfl, _, rfl, rfl, ?_⟩
      have q := k _ sg
      rw [htw] at q
      unfold twF at q
      rw [if_pos h] at q
      exact q
    · have h := of_decide_eq_false h
      unfold twF at htw
      rw [if_neg h] at htw
      refine ⟨_, rfl, _, rfl, ?_⟩
      rw [xor_tt]
      refine iteB (fun h0 => ?_) fun h0 => ?_
      · rw [Bool.not_eq_true'] at h0
        have h0 := of_decide_eq_false h0
        rw [if_neg h0] at htw
        refine ⟨_, rfl, _, _, rfl, hp, _, rfl, _, ns, rfl, hp, by omega, ?_⟩
        rw [if_neg h]
        refine ⟨_, SG.keepP np sg (.refl _), Sto.same, ?_, htw, _, _, _, rfl⟩
        rw [List.length_append]
        show ns.length + 1 ≤ _
        omega
      · rw [Bool.not_eq_false'] at h0
        have h0 := of_decide_eq_true h0
        rw [if_pos h0] at htw
        exact ⟨ns, sg, hp, by omega, htw, _, _, _, rfl⟩
  · rintro env S' ⟨ns, sg, hp, hn, htw, x2, x3, x4, rfl⟩
    have q := k _ sg
    have e : ((placed rows).drop ((placed rows).map plD).length) = [] := by
      rw [List.length_map, List.drop_length]
    have htw : twErr rows = twF ns ((placed rows).drop ((placed rows).map plD).length) := htw
    rw [e] at htw
    rw [htw] at q
    exact q
end Sv
set_option maxHeartbeats 1000000
set_option autoImplicit false
namespace Sv
open PySem PySem.Spec PyProof.Rows L2
def sentBy (rows : List (List Int)) (p : Nat) (m : Int) : Bool := (List.range rows.length).any fun q => decide (q ≠ p) && decide (m ∈ rows.getD q [])
theorem en_rows (rows : List (List Int)) : enD (rowsD rows) = (List.range rows.length).map fun (q : Nat) => D.tup [.int (q : Int), rowD (rows.getD q [])] := by
  apply List.ext_getElem?
  intro i
  rw [List.getElem?_map]
  rcases Nat.lt_or_ge i rows.length with z | z
  · rw [List.getElem?_range z]
    have : (rowsD rows)[i]? = some (rowD (rows.getD i [])) := by rw [rowsD, List.getElem?_map, List.getD_eq_getElem?_getD, List.getElem?_eq_getElem z]; rfl
    rw [enD_at this]
    rfl
  · rw [List.getElem?_eq_none (by rw [enD_len, rowsD, List.length_map]; exact z), List.getElem?_eq_none (l := List.range rows.length) (by rw [List.length_range]; exact z)]
    rfl
theorem any_range (f : Nat → Option Bool) (P : Nat → Bool) (h : ∀ q, (f q = some true ↔ P q = true)) (l : List Nat) : (l.filterMap f).any id = l.any P := by
  induction l with
  | nil => rfl
  | cons a r ih =>
    rw [List.filterMap_cons, List.any_cons, ← ih]
    cases e : f a with
    | none =>
      have : P a = false := by
        cases z : P a with
        | false => rfl
        | true => rw [(h a).mpr z] at e; cases e
      rw [this]
      rfl
    | some b =>
      show (b :: r.filterMap f).any id = _
      rw [List.any_cons]
      congr 1
      cases b with
      | true => exact ((h a).mp e).symm
      | false =>
        cases z : P a with
        | false => rfl
        | true => rw [(h a).mpr z] at e; cases e
theorem w_sentBy {rows : List (List Int)} {p : Nat} {m : Int} {S : Sto} {R : DK} (hl : rows.length ≤ 1000) (k : ∀ S', SG S S' → R (.bl (sentBy rows p m)) S') : dFn 5 B_is_sent_by_another_87f2 [.tup (rowsD rows), .int (p : Int), .int m] S R := by
  refine ⟨_, rfl, _, _, rfl, rfl, lc_mapE (List.range rows.length) (fun (q : Nat) => D.tup [.int (q : Int), rowD (rows.getD q [])]) (en_rows rows) (fun (q : Nat) => if decide ((q : Int) ≠ (p : Int)) = true then some (D.bl (decide (m ∈ rows.getD q []))) else none) (by rw [List.length_range]; omega) (fun _ _ => True.intro) (fun q hq S2 sg2 K Kn hk hn => ?_) fun t S2 nt sg2 ht => ?_⟩
  · refine ⟨_, rfl, .inl (.inl rfl), _, _, rfl, _, _, rfl, rfl, ⟨_, rfl, _, rfl, _, rfl, iteB (fun e => ?_) fun e => ?_⟩⟩
    · have e' : decide ((q : Int) ≠ (p : Int)) = true := by
        rw [xor_tt, Bool.not_eq_true'] at e
        exact decide_eq_true (of_decide_eq_false e)
      refine ⟨_, rfl, _, rfl, .int m, (rows.getD q []).map PyData.int, .int m, .inr (.tup (pys_ints _)), rfl, shaped_tup _, shaped_lst _, ?_⟩
      rw [any_int, xor_ff]
      exact hk _ (if_pos e') _ (.refl _)
    · have e' : decide ((q : Int) ≠ (p : Int)) = false := by
        rw [xor_tt, Bool.not_eq_false'] at e
        exact decide_eq_false fun z => z (of_decide_eq_true e)
      exact hn (if_neg (by rw [e']; exact Bool.false_ne_true)) _ (.refl _)
  · have et : (List.range rows.length).filterMap (fun (q : Nat) => if decide ((q : Int) ≠ (p : Int)) = true then some (D.bl (decide (m ∈ rows.getD q []))) else none) = ((List.range rows.length).filterMap fun (q : Nat) => if decide ((q : Int) ≠ (p : Int)) = true then some (decide (m ∈ rows.getD q [])) else none).map D.bl := by
      rw [List.map_filterMap]
      congr 1
      funext q
      split <;> rfl
    rw [et] at ht
    refine ⟨_, _, rfl, ht, ?_⟩
    show R (.bl ((List.filterMap (fun (q : Nat) => if decide ((q : Int) ≠ (p : Int)) = true then some (decide (m ∈ rows.getD q [])) else none) (List.range rows.length)).any id)) S2
    rw [any_range _ (fun (q : Nat) => decide (q ≠ p) && decide (m ∈ rows.getD q []))]
    · exact k _ sg2
    · intro q
      by_cases z : q = p
      · subst z
        simp
      · have z' : (q : Int) ≠ (p : Int) := fun y => z (by omega)
        simp [z, z']
def unBad (rows : List (List Int)) (x : Nat × Nat × Int) : Bool := decide (x.2.2 < 0) && !sentBy rows x.1 (-x.2.2)
def unErr (rows : List (List Int)) : Option (Nat × Nat × Int) := (placed rows).find? (unBad rows)
theorem w_unErr {rows : List (List Int)} {S : Sto} {R : DK} (hl : rows.length ≤ 1000) (ht : total rows ≤ 1000) (k : ∀ S', SG S S' → R (errD "unsent" (unErr rows)) S') : dFn 4 B_unsent_error_5d57 [.tup (rowsD rows)] S R := by
  refine ⟨_, rfl, _, gen_placed ht, fun n env S' => SG S S' ∧ (∀ y ∈ (placed rows).take n, unBad rows y = false) ∧ ∃ x1 x2 x3 : Option D, env = [some (.tup (rowsD rows)), x1, x2, x3], ⟨.refl _, fun y hy => by simp at hy, _, _, _, rfl⟩, fun _ _ _ _ _ => True.intro, ?_, ?_⟩
  · rintro n d env S' hd ⟨sg, hb, x1, x2, x3, rfl⟩
    obtain ⟨x, hx, rfl⟩ := plD_at hd
    have nxt : unBad rows x = false → ∀ y ∈ (placed rows).take (n + 1), unBad rows y = false := fun h y hy => by
      rw [List.take_add_one, hx] at hy
      rcases List.mem_append.mp hy with z | z
      · exact hb y z
      · rw [show y = x by simpa using z]
        exact h
    refine ⟨_, rfl, .inl (.inl rfl), _, _, rfl, _, _, rfl, _, _, rfl, rfl, ?_⟩
    refine ⟨_, rfl, _, rfl, iteB (fun h1 => ?_) fun h1 => ?_⟩
    · have h1 : decide (x.2.2 < 0) = true := h1
      refine ⟨_, rfl, _, rfl, _, rfl, rfl, w_sentBy hl fun S2 sg2 => ⟨_, rfl, iteB (fun h2 => ?_) fun h2 => ?_⟩⟩
      · refine ⟨_, rfl, _, rfl, rfl, ?_⟩
        have q := k _ (sg.trans sg2)
        have : unErr rows = some x := find_at hx (by unfold unBad; rw [h1, h2]; rfl) hb
        rw [this] at q
        exact q
      · exact ⟨sg.trans sg2, nxt (by unfold unBad; rw [h2, Bool.and_false]), _, _, _, rfl⟩
    · have h1 : decide (x.2.2 < 0) = false := h1
      exact goF ⟨sg, nxt (by unfold unBad; rw [h1, Bool.false_and]), _, _, _, rfl⟩
  · rintro env S' ⟨sg, hb, x1, x2, x3, rfl⟩
    have : unErr rows = none := find_no fun y hy => hb y (by
      show y ∈ (placed rows).take ((placed rows).map plD).length
      rw [List.length_map, List.take_length]
      exact hy)
    have q := k _ sg
    rw [this] at q
    exact q
def HapD (kvs : List (Key × D)) (S : List Int) : Prop := ∀ x : Int, (getD' kvs (Sum.inl x)).isSome = decide (x ∈ S)
theorem getD_any (kvs : List (Key × D)) (k : Key) : (getD' kvs k).isSome = kvs.any fun kv => decide (kv.1 = k) := by
  unfold getD'
  rw [Option.isSome_map]
  induction kvs with
  | nil => rfl
  | cons a r ih =>
    rw [List.find?_cons, List.any_cons, ← ih]
    cases decide (a.1 = k) <;> rfl
theorem putD_some {kvs : List (Key × D)} {k k' : Key} {v : D} : (getD' (putD kvs k v) k').isSome = (decide (k' = k) || (getD' kvs k').isSome) := by
  rw [getD_any, getD_any]
  unfold putD
  by_cases h : (kvs.any fun kv => decide (kv.1 = k)) = true
  · rw [if_pos h]
    have e1 : (kvs.map fun kv => if kv.1 = k then (kv.1, v) else kv).any (fun kv => decide (kv.1 = k')) = kvs.any (fun kv => decide (kv.1 = k')) := by
      rw [List.any_map]
      congr 1
      funext kv
      show decide ((if kv.1 = k then (kv.1, v) else kv).1 = k') = decide (kv.1 = k')
      split <;> rfl
    rw [e1]
    by_cases e : k' = k
    · subst e
      rw [h]
      simp
    · rw [decide_eq_false e, Bool.false_or]
  · rw [if_neg h, List.any_append]
    show ((kvs.any fun kv => decide (kv.1 = k')) || (decide (k = k') || false)) = _
    rw [Bool.or_false, Bool.or_comm]
    congr 1
    by_cases e : k = k'
    · subst e; rfl
    · rw [decide_eq_false e, decide_eq_false (Ne.symm e)]
theorem putD_len {kvs : List (Key × D)} {k : Key} {v : D} : (putD kvs k v).length ≤ kvs.length + 1 := by
  unfold putD
  split
  · rw [List.length_map]
    omega
  · rw [List.length_append]
    exact Nat.le_refl _
def goD : Option (Nat × Int) → D
  | none => .non
  | some (p, _) => .int (p : Int)
theorem w_ready {rows : List (List Int)} {pl : List Nat} {kvs : List (Key × D)} {b d : Addr} {S : Sto} {R : DK} (hp : pl.length = rows.length) (hb : S b = some (.lst (natD pl))) (hd : S d = some (.dK kvs)) (hk : HapD kvs (seen rows pl)) (q : R (goD (goes rows pl)) S) :
    dFn 6 B_ready_process_c75e [.tup (rowsD rows), .ref b, .ref d] S R := by
  refine ⟨_, rfl, _, _, rfl, rfl, fun i env S' => S' = S ∧ (∀ (j : Nat) (r : List Int) (n : Nat), j < i → rows[j]? = some r → pl[j]? = some n → ∀ e, r[n]? = some e → ¬ (0 ≤ e ∨ -e ∈ seen rows pl)) ∧ ∃ x3 x4 x5 : Option D, env = [some (.tup (rowsD rows)), some (.ref b), some (.ref d), x3, x4, x5], ⟨rfl, fun j _ _ z => absurd z (Nat.not_lt_zero _), _, _, _, rfl⟩, fun _ _ _ _ _ => True.intro, ?_, ?_⟩
  · rintro i e env S' he ⟨rfl, hno, x3, x4, x5, rfl⟩
    obtain ⟨row, hrow, rfl⟩ := enD_rows he
    clear he
    have hi := (List.getElem?_eq_some_iff.mp hrow).1
    have hpi := List.getElem?_eq_getElem (show i < pl.length by omega)
    generalize pl[i] = n at hpi
    refine ⟨_, rfl, .inl (.inl rfl), _, _, rfl, _, _, rfl, rfl, ?_⟩
    refine ⟨_, rfl, _, rfl, _, (i : Int), _, seqOf_lst hb, rfl, atI_nat (natD_at hpi), _, rfl, _, _, rfl, rfl, _, rfl, iteB (fun h1 => ?_) fun h1 => ?_⟩
    · have h1 : decide ((n : Int) < ((intsD row).length : Int)) = true := h1
      have h1 := of_decide_eq_true h1
      rw [intsD_len] at h1
      have hn : n < row.length := by omega
      have he : row[n]? = some row[n] := List.getElem?_eq_getElem hn
      generalize row[n] = ev at he
      have hev : (intsD row)[n]? = some (D.int ev) := by rw [intsD, List.getElem?_map, he]; rfl
      refine ⟨_, rfl, _, rfl, _, rfl, _, (i : Int), _, seqOf_lst hb, rfl, atI_nat (natD_at hpi), _, (n : Int), _, rfl, rfl, atI_nat hev, ?_⟩
      have hit : (0 ≤ ev ∨ -ev ∈ seen rows pl) → R (.int (i : Int)) S' := fun h => by
        have : goes rows pl = some (i, ev) := by
          have := goesFrom_skip (S := seen rows pl) (q := 0) (fun j r n hj hr hn => hno j r n hj hr hn) hrow hpi he h
          rw [Nat.zero_add] at this
          exact this
        rw [this] at q
        exact q
      have miss : ¬ (0 ≤ ev ∨ -ev ∈ seen rows pl) → ∀ (j : Nat) (r : List Int) (n : Nat), j < i + 1 → rows[j]? = some r → pl[j]? = some n → ∀ e, r[n]? = some e → ¬ (0 ≤ e ∨ -e ∈ seen rows pl) := fun h j r n' hj hr hn' e' he' => by
        rcases Nat.lt_succ_iff_lt_or_eq.mp hj with z | z
        · exact hno j r n' z hr hn' e' he'
        · subst z
          rw [hrow] at hr
          cases hr
          rw [hpi] at hn'
          cases hn'
          have hq := he.symm.trans he'
          cases hq
          exact h
      refine ⟨_, rfl, _, rfl, iteB (fun h2 => ?_) fun h2 => ?_⟩
      · have h2 := of_decide_eq_true h2
        exact goT ⟨_, rfl, hit (.inl h2)⟩
      · have h2 := of_decide_eq_false h2
        refine ⟨_, rfl, _, rfl, kvs, .inl (-ev), dictOf_ref hd, rfl, _, rfl, ?_⟩
        rw [xor_ff, hk]
        refine iteB (fun h3 => ?_) fun h3 => ?_
        · exact ⟨_, rfl, hit (.inr (of_decide_eq_true h3))⟩
        · exact ⟨rfl, miss (fun z => z.elim h2 (of_decide_eq_false h3)), _, _, _, rfl⟩
    · have h1 : decide ((n : Int) < ((intsD row).length : Int)) = false := h1
      have h1 := of_decide_eq_false h1
      rw [intsD_len] at h1
      refine ⟨rfl, fun j r n' hj hr hn' e' he' => ?_, _, _, _, rfl⟩
      rcases Nat.lt_succ_iff_lt_or_eq.mp hj with z | z
      · exact hno j r n' z hr hn' e' he'
      · subst z
        rw [hrow] at hr
        cases hr
        rw [hpi] at hn'
        cases hn'
        have := (List.getElem?_eq_some_iff.mp he').1
        omega
  · rintro env S' ⟨rfl, hno, x3, x4, x5, rfl⟩
    have : goes rows pl = none := goesFrom_none fun j r n hr hn => hno j r n (by
      show j < (enD (rowsD rows)).length
      rw [enD_len, rowsD, List.length_map]
      exact (List.getElem?_eq_some_iff.mp hr).1) hr hn
    rw [this] at q
    exact q
end Sv
set_option maxHeartbeats 1000000
set_option autoImplicit false
namespace Sv
open PySem PySem.Spec PyProof.Rows L2
theorem rep_nat (n : Nat) : (List.replicate ((n : Nat) : Int).toNat [D.int 0]).flatten = natD (List.replicate n 0) := by
  rw [Int.toNat_natCast]
  unfold natD
  rw [List.map_replicate]
  induction n with
  | zero => rfl
  | succ n ih => rw [List.replicate_succ, List.replicate_succ, List.flatten_cons, ih]; rfl
theorem natD_set (pl : List Nat) (p n : Nat) : (natD pl).set p (.int (n : Int)) = natD (pl.set p n) := by
  unfold natD
  rw [List.map_set]
theorem steps_none {rows : List (List Int)} {pl : List Nat} (h : goes rows pl = none) : ∀ k, steps rows k pl = []
  | 0 => rfl
  | k + 1 => by unfold steps; rw [h]
theorem order_len {rows : List (List Int)} : (order rows).length ≤ total rows + 1 := by
  have : ∀ k pl, (steps rows k pl).length ≤ k := by
    intro k
    induction k with
    | zero => intro pl; exact Nat.le_refl _
    | succ k ih =>
      intro pl
      unfold steps
      split
      · rw [List.length_cons]
        exact Nat.succ_le_succ (ih _)
      · exact Nat.zero_le _
  exact this _ _
theorem gen_order {rows : List (List Int)} (hl : rows.length ≤ 900) (ht : total rows ≤ 1000) : dGfn 1 5 B_some_order_66e8 [.tup (rowsD rows)] ((order rows).map pairD) := by
  have erl : (rowsD rows).length = rows.length := List.length_map ..
  have hol := @order_len rows
  refine ⟨rfl, ?_⟩
  refine ⟨rfl, fun q nq => ⟨_, rfl, _, _, rfl, rfl, _, Sto.same, by omega, by rw [erl]; omega, by decide, fun p1 np1 => ?_⟩⟩
  rw [erl, rep_nat]
  have hp1 : (Sto.put (Sto.put (fun _ => none) q (.lst [D.int 0])) p1 (.lst (natD (List.replicate rows.length 0)))) p1 = some (.lst (natD (List.replicate rows.length 0))) := Sto.same
  generalize (Sto.put (Sto.put (fun _ => none) q (.lst [D.int 0])) p1 (.lst (natD (List.replicate rows.length 0)))) = S0 at hp1 ⊢
  intro p2 np2
  have n12 : p1 ≠ p2 := fun z => by rw [z, np2] at hp1; cases hp1
  have hp1' : (S0.put p2 (.dK [])) p1 = some (.lst (natD (List.replicate rows.length 0))) := (Sto.ne n12).trans hp1
  have hp2 : (S0.put p2 (.dK [])) p2 = some (.dK []) := Sto.same
  generalize S0.put p2 (.dK []) = S1 at hp1' hp2 ⊢
  have hap0 : HapD [] (seen rows (List.replicate rows.length 0)) := fun x => by rw [seen_zero]; rfl
  refine ⟨_, rfl, _, rfl, _, rfl, rfl, w_ready (List.length_replicate ..) hp1' hp2 hap0 ?_⟩
  refine ⟨fun m ds env S => ∃ (pl : List Nat) (kvs : List (Key × D)) (x4 : Option D), pl.length = rows.length ∧ Fit rows pl ∧ m = total rows - pl.sum ∧ HapD kvs (seen rows pl) ∧ kvs.length ≤ pl.sum ∧ S p1 = some (.lst (natD pl)) ∧ S p2 = some (.dK kvs) ∧
    env = [some (.tup (rowsD rows)), some (.ref p1), some (.ref p2), some (goD (goes rows pl)), x4] ∧ (order rows).map pairD = ds ++ (steps rows (total rows + 1 - pl.sum) pl).map pairD, ⟨_, List.replicate rows.length 0, [], _, List.length_replicate .., fit_zero, rfl, hap0, by simp, hp1', hp2, rfl, ?_⟩, ?_⟩
  · have : total rows + 1 - (List.replicate rows.length 0).sum = total rows + 1 := by simp
    rw [this]
    rfl
  · rintro m ds env S ⟨pl, kvs, x4, hpl, hfit, rfl, hap, hkl, hS1, hS2, rfl, hout⟩
    refine ⟨_, rfl, _, rfl, ?_⟩
    cases hg : goes rows pl with
    | none =>
      rw [steps_none hg] at hout
      refine goF ?_
      show ds = (order rows).map pairD
      rw [hout]
      simp
    | some pe =>
      obtain ⟨p, e⟩ := pe
      obtain ⟨r, n, h1, h2, h3, h4⟩ := goes_some hg
      have hsum : (pl.set p (n + 1)).sum = pl.sum + 1 := by have := sum_set (k := n + 1) h2; omega
      have hfit' := fit_set hfit h1 h2 h3
      have hfs := fit_sum (rows := rows) (pl := pl.set p (n + 1)) (by rw [List.length_set]; exact hpl) hfit'
      obtain ⟨k, hk⟩ : ∃ k, total rows + 1 - pl.sum = k + 1 := ⟨total rows - pl.sum, by omega⟩
      rw [hk, steps_succ hg h2] at hout
      have hrd : (rowsD rows)[p]? = some (rowD r) := by rw [rowsD, List.getElem?_map, h1]; rfl
      have hev : (intsD r)[n]? = some (D.int e) := by rw [intsD, List.getElem?_map, h3]; rfl
      refine goT ?_
      refine ⟨_, rfl, _, rfl, _, (p : Int), _, rfl, rfl, atI_nat hrd, _, rfl, _, rfl, _, (p : Int), _, seqOf_lst hS1, rfl, atI_nat (natD_at h2), _, (n : Int), _, rfl, rfl, atI_nat hev, ?_⟩
      refine ⟨_, rfl, _, rfl, p1, natD pl, p, (n : Int), rfl, rfl, hS1, natD_at h2, 1, natD pl, rfl, hS1, ?_, ?_⟩
      · rw [natD_len]
        exact (List.getElem?_eq_some_iff.mp h2).1
      have eset : (natD pl).set p (.int ((n : Int) + 1)) = natD (pl.set p (n + 1)) := by
        rw [← natD_set]
        rfl
      rw [eset]
      have hT1 : (S.put p1 (.lst (natD (pl.set p (n + 1))))) p1 = some (.lst (natD (pl.set p (n + 1)))) := Sto.same
      have hT2 : (S.put p1 (.lst (natD (pl.set p (n + 1))))) p2 = some (.dK kvs) := (Sto.ne (Ne.symm n12)).trans hS2
      generalize S.put p1 (.lst (natD (pl.set p (n + 1)))) = T at hT1 hT2 ⊢
      refine ⟨_, rfl, _, rfl, p2, kvs, .inl e, rfl, rfl, hT2, by omega, ?_⟩
      have hU1 : (T.put p2 (.dK (putD kvs (.inl e) (.bl true)))) p1 = some (.lst (natD (pl.set p (n + 1)))) := (Sto.ne n12).trans hT1
      have hU2 : (T.put p2 (.dK (putD kvs (.inl e) (.bl true)))) p2 = some (.dK (putD kvs (.inl e) (.bl true))) := Sto.same
      generalize T.put p2 (.dK (putD kvs (.inl e) (.bl true))) = U at hU1 hU2 ⊢
      have hl2 : ds.length < 1000000 := by
        have := congrArg List.length hout
        rw [List.length_map, List.length_append, List.length_map, List.length_cons] at this
        omega
      refine ⟨hl2, _, rfl, _, rfl, rfl, ⟨(steps rows k (pl.set p (n + 1))).map pairD, ?_⟩, ?_⟩
      · rw [hout]
        rfl
      have hap' : HapD (putD kvs (.inl e) (.bl true)) (seen rows (pl.set p (n + 1))) := fun x => by
        rw [putD_some, hap x]
        have := seen_step h1 h2 h3 x
        by_cases z : x = e
        · subst z
          simp [this]
        · have z' : ((Sum.inl x : Key) = .inl e) = False := by simp [z]
          simp [this, z, z']
      refine ⟨_, rfl, _, rfl, _, rfl, rfl, w_ready (pl := pl.set p (n + 1)) (by rw [List.length_set]; exact hpl) (keepLD_lst hU1) (keepLD_dK hU2) hap' ?_⟩
      refine ⟨total rows - (pl.set p (n + 1)).sum, by omega, pl.set p (n + 1), _, _, by rw [List.length_set]; exact hpl, hfit', rfl, hap', Nat.le_trans putD_len (by omega), keepLD_lst hU1, keepLD_dK hU2, rfl, ?_⟩
      have ek : total rows + 1 - (pl.set p (n + 1)).sum = k := by omega
      rw [ek, hout, List.map_cons, List.append_assoc]
      rfl
def cirD (rows : List (List Int)) : D := if decide ((order rows).length < total rows) = true then .tup [.str "circle"] else .non
theorem w_cirErr {rows : List (List Int)} {S : Sto} {R : DK} (hl : rows.length ≤ 900) (ht : total rows ≤ 1000) (k : ∀ S', SG S S' → R (cirD rows) S') : dFn 1 B_circle_error_0309 [.tup (rowsD rows)] S R := by
  have hol := @order_len rows
  refine ⟨_, rfl, _, gen_order hl ht, by rw [List.length_map]; omega, fun p np => ⟨_, _, rfl, seqOf_lst Sto.same, _, rfl, rfl, w_count (by omega) fun S2 sg2 => ⟨_, rfl, iteB (fun h => ?_) fun h => ?_⟩⟩⟩
  · have h : decide ((((order rows).map pairD).length : Int) < (total rows : Int)) = true := h
    have q := k _ ((show SG S _ from .new np).trans sg2)
    have e : decide ((order rows).length < total rows) = true := by
      have := of_decide_eq_true h
      rw [List.length_map] at this
      exact decide_eq_true (by omega)
    unfold cirD at q
    rw [if_pos e] at q
    exact ⟨rfl, q⟩
  · have h : decide ((((order rows).map pairD).length : Int) < (total rows : Int)) = false := h
    have q := k _ ((show SG S _ from .new np).trans sg2)
    have e : ¬ decide ((order rows).length < total rows) = true := by
      have := of_decide_eq_false h
      rw [List.length_map] at this
      intro z
      have := of_decide_eq_true z
      omega
    unfold cirD at q
    rw [if_neg e] at q
    exact q
/-- the first error of rows of ints -/
def heD (rows : List (List Int)) : D := match shD rows with
  | .non => (match evErr rows with
    | some x => errD "event" (some x)
    | none => match twErr rows with
      | some x => errD "twice" (some x)
      | none => match unErr rows with
        | some x => errD "unsent" (some x)
        | none => cirD rows)
  | d => d
theorem sh_cases (rows : List (List Int)) : (shD rows = .non ∧ 1 ≤ rows.length ∧ rows.length ≤ 6 ∧ total rows ≤ 60) ∨ (shD rows ≠ .non ∧ ∃ t, shD rows = .tup [.str t]) := by
  unfold shD
  by_cases h1 : 1 ≤ rows.length
  · by_cases h2 : rows.length ≤ 6
    · by_cases h3 : 60 < total rows
      · rw [decide_eq_true h1, decide_eq_true h2, decide_eq_true h3]
        exact .inr ⟨fun z => (nomatch z), _, rfl⟩
      · rw [decide_eq_true h1, decide_eq_true h2, decide_eq_false h3]
        exact .inl ⟨rfl, h1, h2, by omega⟩
    · rw [decide_eq_false h2, Bool.and_false]
      exact .inr ⟨fun z => (nomatch z), _, rfl⟩
  · rw [decide_eq_false h1, Bool.false_and]
    exact .inr ⟨fun z => (nomatch z), _, rfl⟩
theorem w_herr {rows : List (List Int)} {S : Sto} {R : DK} (k : ∀ S', SG S S' → R (heD rows) S') : dFn 1 B_history_error_d6f4 [.tup (rowsD rows)] S R := by
  refine ⟨_, rfl, rfl, w_shape fun S1 sg1 => ?_⟩
  rcases sh_cases rows with ⟨h, h1, h6, h60⟩ | ⟨hn, t, h⟩
  · refine .inl ⟨h, _, rfl, rfl, w_evErr (by omega) ?_⟩
    have he : heD rows = (match evErr rows with
      | some x => errD "event" (some x)
      | none => match twErr rows with
        | some x => errD "twice" (some x)
        | none => match unErr rows with
          | some x => errD "unsent" (some x)
          | none => cirD rows) := by unfold heD; rw [h]
    cases h2 : evErr rows with
    | some x =>
      rw [h2] at he
      exact .inr ⟨_, _, rfl, by have q := k _ sg1; rw [he] at q; exact q⟩
    | none =>
      rw [h2] at he
      refine .inl ⟨rfl, _, rfl, rfl, w_twErr (by omega) fun S2 sg2 => ?_⟩
      cases h3 : twErr rows with
      | some x =>
        rw [h3] at he
        exact .inr ⟨_, _, rfl, by have q := k _ (sg1.trans sg2); rw [he] at q; exact q⟩
      | none =>
        rw [h3] at he
        refine .inl ⟨rfl, _, rfl, rfl, w_unErr (by omega) (by omega) fun S3 sg3 => ?_⟩
        cases h4 : unErr rows with
        | some x =>
          rw [h4] at he
          exact .inr ⟨_, _, rfl, by have q := k _ ((sg1.trans sg2).trans sg3); rw [he] at q; exact q⟩
        | none =>
          rw [h4] at he
          refine .inl ⟨rfl, _, rfl, rfl, w_cirErr (by omega) (by omega) fun S4 sg4 => ?_⟩
          have q := k _ (((sg1.trans sg2).trans sg3).trans sg4)
          rw [he] at q
          exact q
  · have he : heD rows = .tup [.str t] := by unfold heD; rw [h]
    refine .inr ⟨_, _, h, ?_⟩
    have q := k _ sg1
    rw [he] at q
    rw [h]
    exact q
end Sv
set_option maxHeartbeats 1000000
set_option autoImplicit false
namespace Sv
open PySem PySem.Spec PyProof.Rows L2
def nz (row : List Int) : List Int := row.filter fun e => decide (e ≠ 0)
/-- times of the events: a row goes forward, a receipt is behind its sending -/
structure Rank (rows : List (List Int)) (t : Int → Nat) : Prop where
  row : ∀ row ∈ rows, (nz row).Pairwise fun a b => t a < t b
  rcv : ∀ row ∈ rows, ∀ e ∈ row, e < 0 → t (-e) < t e
structure Hist (rows : List (List Int)) : Prop where
  l1 : 1 ≤ rows.length
  l6 : rows.length ≤ 6
  tot : total rows ≤ 60
  rng : ∀ row ∈ rows, ∀ e ∈ row, -24 ≤ e ∧ e ≤ 24
  once : ∀ e, e ≠ 0 → rows.flatten.count e ≤ 1
  sent : ∀ (p : Nat) (row : List Int) (e : Int), rows[p]? = some row → e ∈ row → e < 0 → ∃ (q : Nat) (row2 : List Int), q ≠ p ∧ rows[q]? = some row2 ∧ -e ∈ row2
  rank : ∃ t, Rank rows t
theorem placed_evs : ∀ (p : Nat) (rows : List (List Int)), (placedFrom p rows).map (·.2.2) = rows.flatten
  | _, [] => rfl
  | p, r :: rs => by
    show (blockP p r ++ placedFrom (p + 1) rs).map (·.2.2) = _
    rw [List.map_append, placed_evs (p + 1) rs, List.flatten_cons]
    congr 1
    unfold blockP
    apply List.ext_getElem?
    intro i
    rw [List.getElem?_map, List.getElem?_mapIdx]
    cases r[i]? <;> rfl
theorem placed_mem {rows : List (List Int)} {x : Nat × Nat × Int} (h : x ∈ placed rows) : ∃ row, rows[x.1]? = some row ∧ row[x.2.1]? = some x.2.2 := by
  have : ∀ (p : Nat) (rows : List (List Int)) (x : Nat × Nat × Int), x ∈ placedFrom p rows → p ≤ x.1 ∧ ∃ row, rows[x.1 - p]? = some row ∧ row[x.2.1]? = some x.2.2 := by
    intro p rows
    induction rows generalizing p with
    | nil => intro x h; simp [placedFrom] at h
    | cons r rs ih =>
      intro x h
      have h : x ∈ blockP p r ++ placedFrom (p + 1) rs := h
      rcases List.mem_append.mp h with z | z
      · unfold blockP at z
        obtain ⟨i, hi, rfl⟩ := List.mem_mapIdx.mp z
        exact ⟨Nat.le_refl _, r, by simp, List.getElem?_eq_getElem hi⟩
      · obtain ⟨h1, row, h2, h3⟩ := ih (p + 1) x z
        refine ⟨by omega, row, ?_, h3⟩
        have : x.1 - p = (x.1 - (p + 1)) + 1 := by omega
        rw [this, List.getElem?_cons_succ]
        exact h2
  obtain ⟨_, row, h2, h3⟩ := this 0 rows x h
  exact ⟨row, by simpa using h2, h3⟩
theorem mem_placed {rows : List (List Int)} {p i : Nat} {row : List Int} {e : Int} (h : rows[p]? = some row) (h2 : row[i]? = some e) : (p, i, e) ∈ placed rows := by
  obtain ⟨more, hm⟩ := placed_split rows (p + 1)
  rw [hm, placed_take h]
  exact List.mem_append_left _ (List.mem_append_right _ (List.mem_of_getElem? (block_at h2)))
theorem ev_none {rows : List (List Int)} : evErr rows = none ↔ ∀ row ∈ rows, ∀ e ∈ row, -24 ≤ e ∧ e ≤ 24 := by
  unfold evErr
  rw [List.find?_eq_none]
  constructor
  · intro h row hr e he
    obtain ⟨p, hp⟩ := List.getElem?_of_mem hr
    obtain ⟨i, hi⟩ := List.getElem?_of_mem he
    have := h _ (mem_placed hp hi)
    unfold badE at this
    simpa using this
  · intro h x hx
    obtain ⟨row, h1, h2⟩ := placed_mem hx
    have := h row (List.mem_of_getElem? h1) x.2.2 (List.mem_of_getElem? h2)
    unfold badE
    simp [this.1, this.2]
theorem tw_none : ∀ (L : List (Nat × Nat × Int)) (ns : List Int), (0 : Int) ∉ ns → (twF ns L = none ↔ (∀ e ∈ ns, e ∉ L.map (·.2.2)) ∧ ∀ e, e ≠ 0 → (L.map (·.2.2)).count e ≤ 1)
  | [], ns, _ => by simp [twF]
  | x :: r, ns, h0 => by
    unfold twF
    by_cases hx : x.2.2 ∈ ns
    · rw [if_pos hx]
      refine ⟨fun z => (nomatch z), fun ⟨h1, _⟩ => absurd (List.mem_cons_self : x.2.2 ∈ (x :: r).map (·.2.2)) (h1 _ hx)⟩
    · rw [if_neg hx]
      by_cases hz : x.2.2 = 0
      · rw [if_pos hz, tw_none r ns h0]
        constructor
        · rintro ⟨h1, h2⟩
          refine ⟨fun e he hm => ?_, fun e he => ?_⟩
          · rcases List.mem_cons.mp hm with z | z
            · exact hx (Eq.mp (congrArg (fun y => y ∈ ns) (show e = x.2.2 from z)) he)
            · exact h1 e he z
          · rw [List.map_cons, List.count_cons, if_neg (by simp [hz]; exact Ne.symm he)]
            exact h2 e he
        · rintro ⟨h1, h2⟩
          refine ⟨fun e he hm => h1 e he (List.mem_cons_of_mem _ hm), fun e he => ?_⟩
          have := h2 e he
          rw [List.map_cons, List.count_cons] at this
          omega
      · rw [if_neg hz, tw_none r (ns ++ [x.2.2]) (by rw [List.mem_append, List.mem_singleton]; exact fun z => z.elim h0 fun z => hz z.symm)]
        constructor
        · rintro ⟨h1, h2⟩
          refine ⟨fun e he hm => ?_, fun e he => ?_⟩
          · rcases List.mem_cons.mp hm with z | z
            · exact hx (Eq.mp (congrArg (fun y => y ∈ ns) (show e = x.2.2 from z)) he)
            · exact h1 e (List.mem_append_left _ he) z
          · rw [List.map_cons, List.count_cons]
            by_cases z : x.2.2 = e
            · have : (r.map (·.2.2)).count e = 0 := List.count_eq_zero.mpr (h1 e (List.mem_append_right _ (by rw [z]; exact List.mem_singleton_self _)))
              rw [this]
              split <;> omega
            · rw [if_neg (by simp [z])]
              exact h2 e he
        · rintro ⟨h1, h2⟩
          refine ⟨fun e he hm => ?_, fun e he => ?_⟩
          · rcases List.mem_append.mp he with z | z
            · exact h1 e z (List.mem_cons_of_mem _ hm)
            · rw [List.mem_singleton] at z
              subst z
              have := h2 x.2.2 hz
              rw [List.map_cons, List.count_cons_self] at this
              have h3 := List.count_pos_iff.mpr hm
              omega
          · have := h2 e he
            rw [List.map_cons, List.count_cons] at this
            omega
theorem twErr_none {rows : List (List Int)} : twErr rows = none ↔ ∀ e, e ≠ 0 → rows.flatten.count e ≤ 1 := by
  unfold twErr
  rw [tw_none _ _ (by simp), placed_evs]
  simp
theorem sentBy_iff {rows : List (List Int)} {p : Nat} {m : Int} : sentBy rows p m = true ↔ ∃ (q : Nat) (row2 : List Int), q ≠ p ∧ rows[q]? = some row2 ∧ m ∈ row2 := by
  unfold sentBy
  rw [List.any_eq_true]
  constructor
  · rintro ⟨q, hq, h⟩
    rw [Bool.and_eq_true, decide_eq_true_iff, decide_eq_true_iff] at h
    have hq := List.mem_range.mp hq
    refine ⟨q, rows[q], h.1, List.getElem?_eq_getElem hq, ?_⟩
    have := h.2
    rw [List.getD_eq_getElem?_getD, List.getElem?_eq_getElem hq] at this
    exact this
  · rintro ⟨q, row2, h1, h2, h3⟩
    refine ⟨q, List.mem_range.mpr (List.getElem?_eq_some_iff.mp h2).1, ?_⟩
    rw [Bool.and_eq_true, decide_eq_true_iff, decide_eq_true_iff, List.getD_eq_getElem?_getD, h2]
    exact ⟨h1, h3⟩
theorem un_none {rows : List (List Int)} : unErr rows = none ↔ ∀ (p : Nat) (row : List Int) (e : Int), rows[p]? = some row → e ∈ row → e < 0 → ∃ (q : Nat) (row2 : List Int), q ≠ p ∧ rows[q]? = some row2 ∧ -e ∈ row2 := by
  unfold unErr
  rw [List.find?_eq_none]
  constructor
  · intro h p row e hp he h0
    obtain ⟨i, hi⟩ := List.getElem?_of_mem he
    have := h _ (mem_placed hp hi)
    unfold unBad at this
    rw [decide_eq_true h0, Bool.true_and] at this
    exact sentBy_iff.mp (by simpa using this)
  · intro h x hx
    obtain ⟨row, h1, h2⟩ := placed_mem hx
    unfold unBad
    by_cases h0 : x.2.2 < 0
    · have := sentBy_iff.mpr (h x.1 row x.2.2 h1 (List.mem_of_getElem? h2) h0)
      rw [this, Bool.not_true, Bool.and_false]
      exact Bool.false_ne_true
    · rw [decide_eq_false h0, Bool.false_and]
      exact Bool.false_ne_true
/-- the events that are not read yet -/
def Unread (rows : List (List Int)) (n : Nat → Nat) (e : Int) : Prop := ∃ (i k : Nat) (row : List Int), rows[i]? = some row ∧ n i ≤ k ∧ row[k]? = some e
theorem nz_pair {row : List Int} {t : Int → Nat} (h : (nz row).Pairwise fun a b => t a < t b) : ∀ {i j : Nat} {a b : Int}, i < j → row[i]? = some a → row[j]? = some b → a ≠ 0 → b ≠ 0 → t a < t b := by
  induction row with
  | nil => intro i j a b _ h1; simp at h1
  | cons x r ih =>
    intro i j a b hij h1 h2 ha hb
    have hr : (nz r).Pairwise fun a b => t a < t b := h.sublist (by unfold nz; rw [List.filter_cons]; split; exact List.sublist_cons_self _ _; exact List.Sublist.refl _)
    obtain ⟨j, rfl⟩ : ∃ k, j = k + 1 := ⟨j - 1, by omega⟩
    rw [List.getElem?_cons_succ] at h2
    cases i with
    | zero =>
      obtain rfl : x = a := Option.some.inj h1
      have : nz (x :: r) = x :: nz r := by unfold nz; rw [List.filter_cons, if_pos (by simpa using ha)]
      rw [this, List.pairwise_cons] at h
      exact h.1 b (List.mem_filter.mpr ⟨List.mem_of_getElem? h2, by simpa using hb⟩)
    | succ i =>
      rw [List.getElem?_cons_succ] at h1
      exact ih hr (by omega) h1 h2 ha hb
theorem rank_ready {rows : List (List Int)} {t : Int → Nat} (h : Rank rows t) (sent : ∀ (p : Nat) (row : List Int) (e : Int), rows[p]? = some row → e ∈ row → e < 0 → ∃ (q : Nat) (row2 : List Int), q ≠ p ∧ rows[q]? = some row2 ∧ -e ∈ row2) (n : Nat → Nat)
    (hu : ∃ (i : Nat) (a : List Int), rows[i]? = some a ∧ n i < a.length) : Ready rows n := by
  by_cases hz : ∃ (i : Nat) (row : List Int), rows[i]? = some row ∧ row[n i]? = some 0
  · obtain ⟨i, row, h1, h2⟩ := hz
    exact ⟨i, row, 0, h1, h2, .inl (Int.le_refl _)⟩
  · have nzn : ∀ (i : Nat) (row : List Int) (e : Int), rows[i]? = some row → row[n i]? = some e → e ≠ 0 := fun i row e h1 h2 z => hz ⟨i, row, h1, by rw [h2, z]⟩
    -- the least time of an unread event other than a save
    have least : ∀ m : Nat, ∀ e, Unread rows n e → e ≠ 0 → t e ≤ m → ∃ e', Unread rows n e' ∧ e' ≠ 0 ∧ ∀ e2, Unread rows n e2 → e2 ≠ 0 → t e' ≤ t e2 := by
      intro m
      induction m with
      | zero => exact fun e hu h0 hm => ⟨e, hu, h0, fun e2 _ _ => by omega⟩
      | succ m ih =>
        intro e hu h0 hm
        by_cases q : ∃ e2, Unread rows n e2 ∧ e2 ≠ 0 ∧ t e2 < t e
        · obtain ⟨e2, a, b, c⟩ := q
          exact ih e2 a b (by omega)
        · exact ⟨e, hu, h0, fun e2 a b => Nat.le_of_not_lt fun c => q ⟨e2, a, b, c⟩⟩
    obtain ⟨i, a, h1, h2⟩ := hu
    have h3 := List.getElem?_eq_getElem h2
    obtain ⟨e, ⟨i, k, row, hr, hk, he⟩, h0, hmin⟩ := least _ _ ⟨i, n i, a, h1, Nat.le_refl _, h3⟩ (nzn i a _ h1 h3) (Nat.le_refl _)
    have hkn : k = n i := by
      rcases Nat.lt_or_ge (n i) k with z | z
      · have hl : n i < row.length := Nat.lt_trans z (List.getElem?_eq_some_iff.mp he).1
        have h4 := List.getElem?_eq_getElem hl
        have h5 := nzn i row _ hr h4
        have h6 := nz_pair (h.row row (List.mem_of_getElem? hr)) z h4 he h5 h0
        have h7 := hmin _ ⟨i, n i, row, hr, Nat.le_refl _, h4⟩ h5
        omega
      · omega
    subst hkn
    refine ⟨i, row, e, hr, he, ?_⟩
    by_cases hp : 0 ≤ e
    · exact .inl hp
    · obtain ⟨q, row2, _, h5, h6⟩ := sent i row e hr (List.mem_of_getElem? he) (by omega)
      obtain ⟨k2, h7⟩ := List.getElem?_of_mem h6
      have h8 := h.rcv row (List.mem_of_getElem? hr) e (List.mem_of_getElem? he) (by omega)
      refine .inr ⟨q, row2, k2, h5, Nat.lt_of_not_le fun z => ?_, h7⟩
      have := hmin (-e) ⟨q, k2, row2, h5, z, h7⟩ (by omega)
      omega
end Sv
set_option maxHeartbeats 1000000
set_option autoImplicit false
namespace Sv
open PySem PySem.Spec PyProof.Rows L2
theorem doneR {rows : List (List Int)} (h : ∀ n : Nat → Nat, (∃ (i : Nat) (a : List Int), rows[i]? = some a ∧ n i < a.length) → Ready rows n) {pl : List Nat} (hl : pl.length = rows.length) (hg : goes rows pl = none) : ∀ (i : Nat) (r : List Int) (n : Nat), rows[i]? = some r → pl[i]? = some n → r.length ≤ n := by
  intro i r n h1 h2
  refine Nat.le_of_not_lt fun h3 => ?_
  have e2 : pl.getD i 0 = n := by rw [List.getD_eq_getElem?_getD, h2]; rfl
  obtain ⟨i', a, e, h4, h5, h6⟩ := h (fun i => pl.getD i 0) ⟨i, r, h1, by rw [e2]; exact h3⟩
  have at' : ∀ {j : Nat} {b : List Int}, rows[j]? = some b → pl[j]? = some (pl.getD j 0) := fun {j b} hj => by
    have hj' : j < pl.length := by
      rw [hl]
      exact (List.getElem?_eq_some_iff.mp hj).1
    rw [List.getD_eq_getElem?_getD, List.getElem?_eq_getElem hj']
    rfl
  refine goesFrom_any (S := seen rows pl) (q := 0) h4 (at' h4) h5 (h6.imp_right ?_) hg
  rintro ⟨j, b, k', h7, h8, h9⟩
  exact seen_mem h7 (at' h7) h8 h9
theorem steps_allR {rows : List (List Int)} (h : ∀ n : Nat → Nat, (∃ (i : Nat) (a : List Int), rows[i]? = some a ∧ n i < a.length) → Ready rows n) : ∀ (k : Nat) {pl : List Nat}, pl.length = rows.length → Fit rows pl → k + pl.sum = total rows + 1 →
    (steps rows k pl).length + pl.sum = total rows ∧ ∀ (p : Nat) (row : List Int) (n : Nat), rows[p]? = some row → pl[p]? = some n → own p (steps rows k pl) = row.drop n
  | 0, pl, hl, hf, hk => by
    have := fit_sum hl hf
    omega
  | k + 1, pl, hl, hf, hk => by
    cases hg : goes rows pl with
    | none =>
      have all := doneR h hl hg
      have e0 : steps rows (k + 1) pl = [] := by
        unfold steps
        rw [hg]
      rw [e0]
      have h1 := total_le hl all
      have h2 := fit_sum hl hf
      refine ⟨by rw [List.length_nil]; omega, fun p row n a b => ?_⟩
      have := all p row n a b
      rw [List.drop_of_length_le this]
      rfl
    | some pe =>
      obtain ⟨q, e⟩ := pe
      obtain ⟨r, m, h1, h2, h3, h4⟩ := goes_some hg
      have hs : (pl.set q (m + 1)).sum = pl.sum + 1 := by have := sum_set (k := m + 1) h2; omega
      obtain ⟨i1, i2⟩ := steps_allR h k (pl := pl.set q (m + 1)) (by rw [List.length_set]; exact hl) (fit_set hf h1 h2 h3) (by rw [hs]; omega)
      rw [steps_succ hg h2]
      refine ⟨by rw [List.length_cons]; omega, fun p row n a b => ?_⟩
      by_cases z : q = p
      · subst z
        obtain rfl := Option.some.inj (h1.symm.trans a)
        obtain rfl := Option.some.inj (h2.symm.trans b)
        have i3 := i2 q r (m + 1) h1 (by rw [List.getElem?_set, if_pos rfl, if_pos (List.getElem?_eq_some_iff.mp h2).1])
        rw [own_cons, if_pos rfl, i3]
        obtain ⟨hm, he⟩ := List.getElem?_eq_some_iff.mp h3
        rw [List.drop_eq_getElem_cons hm, he]
      · have i3 := i2 p row n a (by rw [List.getElem?_set_ne z]; exact b)
        rw [own_cons, if_neg (show ¬ (q : Int) = (p : Int) from fun w => z (by omega)), i3]
theorem order_full {rows : List (List Int)} (h : ∀ n : Nat → Nat, (∃ (i : Nat) (a : List Int), rows[i]? = some a ∧ n i < a.length) → Ready rows n) : (order rows).length = total rows := by
  obtain ⟨h1, h2⟩ := steps_allR h (total rows + 1) (pl := List.replicate rows.length 0) (List.length_replicate ..) fit_zero (by simp)
  show (steps rows (total rows + 1) (List.replicate rows.length 0)).length = _
  simpa using h1
theorem he_hist {rows : List (List Int)} (h : Hist rows) : heD rows = .non := by
  have hs : shD rows = .non := by
    unfold shD
    rw [decide_eq_true h.l1, decide_eq_true h.l6, decide_eq_false (show ¬ 60 < total rows by have := h.tot; omega)]
    rfl
  obtain ⟨t, ht⟩ := h.rank
  have hc : cirD rows = .non := by
    unfold cirD
    rw [order_full (rank_ready ht h.sent), if_neg (by simp)]
  unfold heD
  rw [hs, ev_none.mpr h.rng, twErr_none.mpr h.once, un_none.mpr h.sent, hc]
theorem flat_mem {r : List (List Int)} {p : Nat} {row : List Int} {e : Int} (h : r[p]? = some row) (he : e ∈ row) : e ∈ r.flatten := List.mem_flatten.mpr ⟨row, List.mem_of_getElem? h, he⟩
end Sv
set_option maxHeartbeats 1000000
set_option autoImplicit false
namespace Sv
open PySem PySem.Spec PyProof.Rows L2
theorem Hist.hapS {rows : List (List Int)} (h : Hist rows) (e : Int) : HapS (hap rows e) := by
  refine hapFrom_small (fun r hr => ?_) (by have := h.l6; omega)
  have h1 := h.tot
  have : r.length ≤ total rows := by
    obtain ⟨i, hi⟩ := List.getElem?_of_mem hr
    exact len_le_sum hi
  omega
theorem nz_mem {l : List Int} {e : Int} : e ∈ nz l ↔ e ∈ l ∧ e ≠ 0 := by
  unfold nz
  rw [List.mem_filter, decide_eq_true_iff]
end Sv
set_option maxHeartbeats 1000000
set_option autoImplicit false
namespace Sv
open PySem PySem.Spec PyProof.Rows L2
theorem once_pos {rows : List (List Int)} (h : ∀ e, e ≠ 0 → rows.flatten.count e ≤ 1) {i j k l : Nat} {r r' : List Int} {e : Int} (he : e ≠ 0) (h1 : rows[i]? = some r) (h2 : rows[j]? = some r') (h3 : r[k]? = some e) (h4 : r'[l]? = some e) : i = j ∧ k = l := by
  have hc := h e he
  have m1 := List.mem_of_getElem? h3
  have m2 := List.mem_of_getElem? h4
  have hij : i = j := by
    rcases Nat.lt_trichotomy i j with z | z | z
    · have := count_two z h1 h2 m1 m2; omega
    · exact z
    · have := count_two z h2 h1 m2 m1; omega
  subst hij
  rw [h1] at h2
  cases h2
  have c1 := Nat.le_trans (count_at h1 (e := e)) hc
  exact ⟨rfl, (idx_once h3 c1).symm.trans (idx_once h4 c1)⟩
theorem fit_full : ∀ {rows : List (List Int)} {pl : List Nat}, pl.length = rows.length → Fit rows pl → pl.sum = total rows → ∀ (i : Nat) (r : List Int) (n : Nat), rows[i]? = some r → pl[i]? = some n → n = r.length
  | [], _, _, _, _, i, _, _, h, _ => by simp at h
  | _ :: _, [], h, _, _, _, _, _, _, _ => by simp at h
  | r :: rs, n :: ns, hl, hf, hs, i, r', n', h1, h2 => by
    have f0 := hf 0 r n rfl rfl
    have fs := fit_sum (rows := rs) (pl := ns) (by simpa using hl) fun i r n a b => hf (i + 1) r n a b
    have hs' : n + ns.sum = r.length + total rs := by
      have : total (r :: rs) = r.length + total rs := rfl
      rw [List.sum_cons, this] at hs
      exact hs
    cases i with
    | zero => cases h1; cases h2; omega
    | succ i => exact fit_full (rows := rs) (pl := ns) (by simpa using hl) (fun i r n a b => hf (i + 1) r n a b) (by omega) i r' n' h1 h2
theorem steps_rank {rows : List (List Int)} (o : ∀ e, e ≠ 0 → rows.flatten.count e ≤ 1) : ∀ (k : Nat) {pl : List Nat}, pl.length = rows.length → Fit rows pl → (steps rows k pl).length + pl.sum = total rows →
    ∃ t : Int → Nat, (∀ (p : Nat) (row : List Int) (n : Nat), rows[p]? = some row → pl[p]? = some n → (nz (row.drop n)).Pairwise fun a b => t a < t b) ∧
      ∀ (p : Nat) (row : List Int) (n : Nat) (e : Int), rows[p]? = some row → pl[p]? = some n → e ∈ row.drop n → e < 0 → -e ∈ seen rows pl ∨ t (-e) < t e := by
  have base : ∀ {pl : List Nat}, pl.length = rows.length → Fit rows pl → pl.sum = total rows → ∃ t : Int → Nat, (∀ (p : Nat) (row : List Int) (n : Nat), rows[p]? = some row → pl[p]? = some n → (nz (row.drop n)).Pairwise fun a b => t a < t b) ∧
      ∀ (p : Nat) (row : List Int) (n : Nat) (e : Int), rows[p]? = some row → pl[p]? = some n → e ∈ row.drop n → e < 0 → -e ∈ seen rows pl ∨ t (-e) < t e := by
    intro pl hl hf hs
    refine ⟨fun _ => 0, fun p row n h1 h2 => ?_, fun p row n e h1 h2 h3 => ?_⟩
    · rw [fit_full hl hf hs p row n h1 h2, List.drop_length]
      exact List.Pairwise.nil
    · rw [fit_full hl hf hs p row n h1 h2, List.drop_length] at h3
      cases h3
  intro k
  induction k with
  | zero =>
    intro pl hl hf hs
    exact base hl hf (by simpa [steps] using hs)
  | succ k ih =>
    intro pl hl hf hs
    cases hg : goes rows pl with
    | none =>
      rw [steps_none hg] at hs
      exact base hl hf (by simpa using hs)
    | some pe =>
      obtain ⟨q, e⟩ := pe
      obtain ⟨r, m, h1, h2, h3, h4⟩ := goes_some hg
      have hsum : (pl.set q (m + 1)).sum = pl.sum + 1 := by have := sum_set (k := m + 1) h2; omega
      rw [steps_succ hg h2, List.length_cons] at hs
      obtain ⟨t, t1, t2⟩ := ih (pl := pl.set q (m + 1)) (by rw [List.length_set]; exact hl) (fit_set hf h1 h2 h3) (by omega)
      have hq : (pl.set q (m + 1))[q]? = some (m + 1) := by rw [List.getElem?_set, if_pos rfl, if_pos (List.getElem?_eq_some_iff.mp h2).1]
      obtain ⟨hm, he⟩ := List.getElem?_eq_some_iff.mp h3
      have hdrop : r.drop m = e :: r.drop (m + 1) := by rw [List.drop_eq_getElem_cons hm, he]
      -- what is behind the event
      have later : ∀ (p : Nat) (row : List Int) (n : Nat) (x : Int), rows[p]? = some row → (pl.set q (m + 1))[p]? = some n → x ∈ row.drop n → x ≠ 0 → x ≠ e := by
        intro p row n x a b c h0 z
        subst z
        obtain ⟨i, hi⟩ := List.getElem?_of_mem c
        rw [List.getElem?_drop] at hi
        obtain ⟨z1, z2⟩ := once_pos o h0 h1 a h3 hi
        subst z1
        rw [hq] at b
        cases b
        omega
      refine ⟨fun x => if x = e ∧ e ≠ 0 then 0 else t x + 1, fun p row n a b => ?_, fun p row n x a b c h0 => ?_⟩
      · have tail : ∀ (p : Nat) (row : List Int) (n : Nat), rows[p]? = some row → (pl.set q (m + 1))[p]? = some n → (nz (row.drop n)).Pairwise fun a b => (if a = e ∧ e ≠ 0 then 0 else t a + 1) < (if b = e ∧ e ≠ 0 then 0 else t b + 1) := fun p row n a b => by
          refine (t1 p row n a b).imp_of_mem fun {x y} hx hy hxy => ?_
          have x1 := later p row n x a b (nz_mem.mp hx).1 (nz_mem.mp hx).2
          have y1 := later p row n y a b (nz_mem.mp hy).1 (nz_mem.mp hy).2
          rw [if_neg (fun z => x1 z.1), if_neg (fun z => y1 z.1)]
          omega
        by_cases z : q = p
        · subst z
          rw [h1] at a
          cases a
          rw [h2] at b
          cases b
          rw [hdrop]
          have tl := tail q r (m + 1) h1 hq
          by_cases e0 : e = 0
          · have : nz (e :: r.drop (m + 1)) = nz (r.drop (m + 1)) := by unfold nz; rw [List.filter_cons, if_neg (by simp [e0])]
            rw [this]
            exact tl
          · have : nz (e :: r.drop (m + 1)) = e :: nz (r.drop (m + 1)) := by unfold nz; rw [List.filter_cons, if_pos (by simp [e0])]
            rw [this]
            refine List.pairwise_cons.mpr ⟨fun y hy => ?_, tl⟩
            have y1 := later q r (m + 1) y h1 hq (nz_mem.mp hy).1 (nz_mem.mp hy).2
            show (if e = e ∧ e ≠ 0 then 0 else t e + 1) < (if y = e ∧ e ≠ 0 then 0 else t y + 1)
            rw [if_pos ⟨rfl, e0⟩, if_neg (fun z => y1 z.1)]
            omega
        · exact tail p row n a (by rw [List.getElem?_set_ne z]; exact b)
      · have rest : ∀ (p : Nat) (row : List Int) (n : Nat), rows[p]? = some row → (pl.set q (m + 1))[p]? = some n → x ∈ row.drop n → -x ∈ seen rows pl ∨ (if -x = e ∧ e ≠ 0 then 0 else t (-x) + 1) < (if x = e ∧ e ≠ 0 then 0 else t x + 1) := fun p row n a b c => by
          have x1 := later p row n x a b c (by omega)
          rw [if_neg (c := x = e ∧ e ≠ 0) (fun z => x1 z.1)]
          by_cases z : -x = e ∧ e ≠ 0
          · rw [if_pos z]
            exact .inr (Nat.succ_pos _)
          · rw [if_neg z]
            rcases t2 p row n x a b c h0 with y | y
            · rcases (seen_step h1 h2 h3 (-x)).mp y with w | w
              · exact absurd ⟨w, by omega⟩ z
              · exact .inl w
            · exact .inr (by omega)
        by_cases z : q = p
        · subst z
          rw [h1] at a
          cases a
          rw [h2] at b
          cases b
          rw [hdrop] at c
          rcases List.mem_cons.mp c with y | y
          · subst y
            rcases h4 with w | w
            · omega
            · exact .inl w
          · exact rest q r (m + 1) h1 hq y
        · exact rest p row n a (by rw [List.getElem?_set_ne z]; exact b) c
theorem order_rank {rows : List (List Int)} (o : ∀ e, e ≠ 0 → rows.flatten.count e ≤ 1) (h : ¬ (order rows).length < total rows) : ∃ t, Rank rows t := by
  have hle : (order rows).length ≤ total rows := by
    have : ∀ (k : Nat) (pl : List Nat), pl.length = rows.length → Fit rows pl → (steps rows k pl).length + pl.sum ≤ total rows := by
      intro k
      induction k with
      | zero => intro pl hl hf; have := fit_sum hl hf; simpa [steps] using this
      | succ k ih =>
        intro pl hl hf
        cases hg : goes rows pl with
        | none => rw [steps_none hg]; have := fit_sum hl hf; simpa using this
        | some pe =>
          obtain ⟨q, e⟩ := pe
          obtain ⟨r, m, h1, h2, h3, h4⟩ := goes_some hg
          have hsum : (pl.set q (m + 1)).sum = pl.sum + 1 := by have := sum_set (k := m + 1) h2; omega
          have := ih (pl.set q (m + 1)) (by rw [List.length_set]; exact hl) (fit_set hf h1 h2 h3)
          rw [steps_succ hg h2, List.length_cons]
          omega
    have := this (total rows + 1) (List.replicate rows.length 0) (List.length_replicate ..) fit_zero
    show (steps rows (total rows + 1) (List.replicate rows.length 0)).length ≤ _
    omega
  obtain ⟨t, t1, t2⟩ := steps_rank o (total rows + 1) (pl := List.replicate rows.length 0) (List.length_replicate ..) fit_zero (by
    have : (order rows).length = total rows := by omega
    show (order rows).length + _ = _
    rw [this]
    simp)
  have at0 : ∀ {p : Nat} {row : List Int}, rows[p]? = some row → (List.replicate rows.length 0)[p]? = some 0 := fun {p row} hp => by rw [List.getElem?_replicate, if_pos (List.getElem?_eq_some_iff.mp hp).1]
  refine ⟨t, fun row hr => ?_, fun row hr e he h0 => ?_⟩
  · obtain ⟨p, hp⟩ := List.getElem?_of_mem hr
    have := t1 p row 0 hp (at0 hp)
    rwa [List.drop_zero] at this
  · obtain ⟨p, hp⟩ := List.getElem?_of_mem hr
    rcases t2 p row 0 e hp (at0 hp) (by rw [List.drop_zero]; exact he) h0 with z | z
    · rw [seen_zero] at z
      cases z
    · exact z
/-- what has no error is a history -/
theorem he_non {rows : List (List Int)} (h : heD rows = .non) : Hist rows := by
  unfold heD at h
  rcases sh_cases rows with ⟨hs, h1, h6, h60⟩ | ⟨hn, t, hs⟩
  · rw [hs] at h
    cases h2 : evErr rows with
    | some x => rw [h2] at h; cases h
    | none =>
      rw [h2] at h
      cases h3 : twErr rows with
      | some x => rw [h3] at h; cases h
      | none =>
        rw [h3] at h
        cases h4 : unErr rows with
        | some x => rw [h4] at h; cases h
        | none =>
          rw [h4] at h
          have h : cirD rows = .non := h
          unfold cirD at h
          refine ⟨h1, h6, h60, ev_none.mp h2, twErr_none.mp h3, un_none.mp h4, order_rank (twErr_none.mp h3) fun z => ?_⟩
          rw [if_pos (decide_eq_true z)] at h
          cases h
  · rw [hs] at h
    cases h
theorem he_iff {rows : List (List Int)} : isNon (heD rows) = true ↔ Hist rows := by
  constructor
  · intro h
    refine he_non ?_
    cases e : heD rows <;> first | rfl | (rw [e] at h; cases h)
  · intro h
    rw [he_hist h]
    rfl
end Sv
set_option maxHeartbeats 400000
set_option autoImplicit false
namespace Sv
open PySem PySem.Spec PyProof.Rows L2
/-- all of a history but its order -/
structure Pre (rows : List (List Int)) : Prop where
  l1 : 1 ≤ rows.length
  l6 : rows.length ≤ 6
  tot : total rows ≤ 60
  rng : ∀ row ∈ rows, ∀ e ∈ row, -24 ≤ e ∧ e ≤ 24
  once : ∀ e, e ≠ 0 → rows.flatten.count e ≤ 1
  sent : ∀ (p : Nat) (row : List Int) (e : Int), rows[p]? = some row → e ∈ row → e < 0 → ∃ (q : Nat) (row2 : List Int), q ≠ p ∧ rows[q]? = some row2 ∧ -e ∈ row2
theorem Hist.pre {rows : List (List Int)} (h : Hist rows) : Pre rows := ⟨h.l1, h.l6, h.tot, h.rng, h.once, h.sent⟩
theorem total_flat (rows : List (List Int)) : total rows = rows.flatten.length := by
  unfold total
  rw [List.length_flatten]
variable {rows : List (List Int)} {ord : List Nat} {na : List Int}
end Sv
set_option maxHeartbeats 800000
set_option autoImplicit false
set_option maxHeartbeats 800000
set_option autoImplicit false
namespace Sv
open PySem PySem.Spec PyProof.Rows L2
/-- rows that lack events of others -/
structure SubR (rows bs : List (List Int)) : Prop where
  len : bs.length = rows.length
  sub : ∀ (i : Nat) (a b : List Int), rows[i]? = some a → bs[i]? = some b → b.Sublist a
theorem SubR.at {rows bs : List (List Int)} (s : SubR rows bs) {i : Nat} {b : List Int} (h : bs[i]? = some b) : ∃ a, rows[i]? = some a ∧ b.Sublist a := by
  have hi : i < rows.length := s.len ▸ (List.getElem?_eq_some_iff.mp h).1
  exact ⟨_, List.getElem?_eq_getElem hi, s.sub i _ _ (List.getElem?_eq_getElem hi) h⟩
theorem SubR.sent {rows bs : List (List Int)} (h : Hist rows) (s : SubR rows bs) : (∀ (p : Nat) (row : List Int) (e : Int), bs[p]? = some row → e ∈ row → e < 0 → ∃ (q : Nat) (row2 : List Int), q ≠ p ∧ bs[q]? = some row2 ∧ -e ∈ row2) ↔ ∀ e ∈ bs.flatten, e < 0 → -e ∈ bs.flatten := by
  constructor
  · intro hs e he h0
    obtain ⟨row, hr, he⟩ := List.mem_flatten.mp he
    obtain ⟨p, hp⟩ := List.getElem?_of_mem hr
    obtain ⟨q, row2, _, h2, h3⟩ := hs p row e hp he h0
    exact flat_mem h2 h3
  · intro hs p row e hp he h0
    obtain ⟨row2, hr, h3⟩ := List.mem_flatten.mp (hs e (flat_mem hp he) h0)
    obtain ⟨q, hq⟩ := List.getElem?_of_mem hr
    refine ⟨q, row2, fun z => ?_, hq, h3⟩
    subst z
    rw [hp] at hq
    cases hq
    obtain ⟨a, ha, sa⟩ := s.at hp
    obtain ⟨q', r', g1, g2, g3⟩ := h.sent q a e ha (sa.subset he) h0
    obtain ⟨i, hi⟩ := List.getElem?_of_mem (sa.subset h3)
    obtain ⟨j, hj⟩ := List.getElem?_of_mem g3
    exact g1 (once_pos h.once (by omega) g2 ha hj hi).1
end Sv
set_option maxHeartbeats 800000
set_option autoImplicit false
namespace Sv
open PySem PySem.Spec PyProof.Rows L2
/-- every receipt that the places have passed has its sending there -/
def Clo (rows : List (List Int)) (pl : List Nat) : Prop := ∀ e ∈ seen rows pl, e < 0 → -e ∈ seen rows pl
/-- ways from places to places, each event possible where it happens -/
inductive Runs (rows : List (List Int)) : List Nat → List (Int × Int) → List Nat → Prop
  | nil (pl : List Nat) : Runs rows pl [] pl
  | cons {pl pl' : List Nat} {p n : Nat} {r : List Int} {e : Int} {L : List (Int × Int)} (h1 : rows[p]? = some r) (h2 : pl[p]? = some n) (h3 : r[n]? = some e) (h4 : 0 ≤ e ∨ -e ∈ seen rows pl) (h5 : Runs rows (pl.set p (n + 1)) L pl') : Runs rows pl (((p : Int), e) :: L) pl'
theorem Runs.inv {rows : List (List Int)} {pl pl' : List Nat} {L : List (Int × Int)} (h : Runs rows pl L pl') (hl : pl.length = rows.length) (hf : Fit rows pl) : pl'.length = rows.length ∧ Fit rows pl' ∧ pl'.sum = pl.sum + L.length := by
  induction h with
  | nil pl => exact ⟨hl, hf, rfl⟩
  | cons a b c d _ ih =>
    obtain ⟨i1, i2, i3⟩ := ih (by rw [List.length_set]; exact hl) (fit_set hf a b c)
    refine ⟨i1, i2, ?_⟩
    rename_i n _ _ _ _
    have := sum_set (k := n + 1) b
    rw [List.length_cons]
    omega
theorem Runs.step {rows : List (List Int)} {pl pl' : List Nat} {x : Int × Int} {L : List (Int × Int)} (h : Runs rows pl (x :: L) pl') : ∃ (p n : Nat) (r : List Int) (e : Int), x = ((p : Int), e) ∧ rows[p]? = some r ∧ pl[p]? = some n ∧ r[n]? = some e ∧ (0 ≤ e ∨ -e ∈ seen rows pl) ∧ Runs rows (pl.set p (n + 1)) L pl' := by
  cases h with
  | cons a b c d f => exact ⟨_, _, _, _, rfl, a, b, c, d, f⟩
theorem Clo.step {rows : List (List Int)} {pl : List Nat} (hc : Clo rows pl) {p n : Nat} {r : List Int} {e : Int} (h1 : rows[p]? = some r) (h2 : pl[p]? = some n) (h3 : r[n]? = some e) (h4 : 0 ≤ e ∨ -e ∈ seen rows pl) : Clo rows (pl.set p (n + 1)) := fun x hx h0 => by
  have hs := seen_step h1 h2 h3
  rw [hs] at hx ⊢
  rcases hx with rfl | hx
  · exact .inr (h4.resolve_left (by omega))
  · exact .inr (hc x hx h0)
end Sv
set_option maxHeartbeats 1000000
set_option autoImplicit false
set_option maxHeartbeats 400000
set_option autoImplicit false
set_option maxHeartbeats 400000
namespace Sv
open PySem L2
/-- the draws' state, at most n mixed draws so far -/
def Df (st big : Addr) (n : Nat) (S : Sto) : Prop := st ≠ big ∧ ∃ (bs : List Int) (a : Int) (t : Nat) (c : Int), t ≤ n ∧ S st = some (.lst [.ref big, .int a, .int (t : Int), .int c]) ∧ S big = some (.lst (intsD bs))
theorem Df.keepP {st big : Addr} {n : Nat} {S S' : Sto} {P : Addr → Prop} (h : Df st big n S) (k : SK P S S') (n1 : ¬ P st) (n2 : ¬ P big) : Df st big n S' := by
  obtain ⟨h1, bs, a, t, c, ht, h2, h3⟩ := h
  exact ⟨h1, bs, a, t, c, ht, k _ _ n1 h2, k _ _ n2 h3⟩
theorem Df.keep {st big : Addr} {n : Nat} {S S' : Sto} (h : Df st big n S) (k : SG S S') : Df st big n S' := h.keepP k (fun z => z) (fun z => z)
theorem Df.mono {st big : Addr} {n m : Nat} {S : Sto} (h : Df st big n S) (e : n ≤ m) : Df st big m S := by
  obtain ⟨h1, bs, a, t, c, ht, h2, h3⟩ := h
  exact ⟨h1, bs, a, t, c, by omega, h2, h3⟩
theorem Df.fresh {st big : Addr} {n : Nat} {S : Sto} (h : Df st big n S) {p : Addr} (z : S p = none) : p ≠ st ∧ p ≠ big := by
  obtain ⟨h1, bs, a, t, c, ht, h2, h3⟩ := h
  exact ⟨fun e => (by rw [e, h2] at z; cases z), fun e => (by rw [e, h3] at z; cases z)⟩
theorem Df.put {st big : Addr} {n : Nat} {S : Sto} (h : Df st big n S) {p : Addr} {o : Ob} (z : p ≠ st ∧ p ≠ big) : Df st big n (S.put p o) := by
  obtain ⟨h1, bs, a, t, c, ht, h2, h3⟩ := h
  exact ⟨h1, bs, a, t, c, ht, (Sto.ne (Ne.symm z.1)).trans h2, (Sto.ne (Ne.symm z.2)).trans h3⟩
theorem Df.free {st big : Addr} {n : Nat} {S0 S : Sto} (D : Df st big n S) (k : SK (DP st big) S0 S) {a : Addr} (z : S a = none) : S0 a = none := SK.free k z fun q => q.elim (D.fresh z).1 (D.fresh z).2
/-- a list whose items are tuples is none of the draws' own -/
theorem Df.off {st big : Addr} {n : Nat} {S : Sto} (h : Df st big n S) {p : Addr} {ds : List D} (e : S p = some (.lst ds)) (ht : ∀ d ∈ ds, ∃ xs, d = D.tup xs) (ne : ds ≠ []) : p ≠ st ∧ p ≠ big := by
  obtain ⟨h1, bs, a, t, c, _, h2, h3⟩ := h
  refine ⟨fun z => ?_, fun z => ?_⟩
  · subst z
    rw [h2] at e
    have e := (Ob.lst.inj (Option.some.inj e)).symm
    subst e
    obtain ⟨xs, hx⟩ := ht _ List.mem_cons_self
    cases hx
  · subst z
    rw [h3] at e
    have e := (Ob.lst.inj (Option.some.inj e)).symm
    subst e
    cases bs with
    | nil => exact ne rfl
    | cons b r =>
      obtain ⟨xs, hx⟩ := ht _ List.mem_cons_self
      cases hx
end Sv
set_option maxHeartbeats 1000000
namespace Sv
open PySem L2
structure RWf (S0 S : Sto) (st big r N W : Addr) (nm : List Int) (rows : List (List Int)) (o : List (Int × Int)) (u : Nat) : Prop where
  sk : SK (DP st big) S0 S
  hr : S r = some (.lst (rowsD rows))
  hN : S N = some (.lst (intsD (nm.drop u).reverse))
  hW : S W = some (.lst (o.map pairD))
theorem RWf.keep {S0 S S' : Sto} {st big r N W : Addr} {nm : List Int} {rows : List (List Int)} {o : List (Int × Int)} {u : Nat} (h : RWf S0 S st big r N W nm rows o u) (k : SK (DP st big) S S') (nd : ∀ a, a = r ∨ a = N ∨ a = W → a ≠ st ∧ a ≠ big) : RWf S0 S' st big r N W nm rows o u := by
  have nq : ∀ a, a = r ∨ a = N ∨ a = W → ¬ DP st big a := fun a ha => nDP (nd a ha)
  exact ⟨h.sk.trans k, k _ _ (nq _ (.inl rfl)) h.hr, k _ _ (nq _ (.inr (.inl rfl))) h.hN, k _ _ (nq _ (.inr (.inr rfl))) h.hW⟩
theorem RWf.keepG {S0 S S' : Sto} {st big r N W : Addr} {nm : List Int} {rows : List (List Int)} {o : List (Int × Int)} {u : Nat} (h : RWf S0 S st big r N W nm rows o u) (k : SG S S') : RWf S0 S' st big r N W nm rows o u :=
  ⟨h.sk.trans k.sk, k _ _ (fun z => z) h.hr, k _ _ (fun z => z) h.hN, k _ _ (fun z => z) h.hW⟩
end Sv
set_option maxHeartbeats 1000000
namespace Sv
open PySem L2
/-- before each receipt that stands where g tells so a save; b: a sending stands before without a save behind it -/
def insF (g : Bool → Bool) : Bool → List Int → List Int
  | _, [] => []
  | b, e :: r => (if decide (e < 0) && g b then [0] else []) ++ e :: insF g (decide (0 < e)) r
def lastF : Bool → List Int → Bool
  | b, [] => b
  | _, e :: r => lastF (decide (0 < e)) r
theorem insF_snoc (g : Bool → Bool) (e : Int) : ∀ (b : Bool) (r : List Int), insF g b (r ++ [e]) = insF g b r ++ (if decide (e < 0) && g (lastF b r) then [0] else []) ++ [e]
  | b, [] => by
    show (if decide (e < 0) && g b then [0] else []) ++ e :: [] = [] ++ (if decide (e < 0) && g b then [0] else []) ++ [e]
    rw [List.nil_append]
  | b, x :: r => by
    show (if decide (x < 0) && g b then [0] else []) ++ x :: insF g (decide (0 < x)) (r ++ [e]) = ((if decide (x < 0) && g b then [0] else []) ++ x :: insF g (decide (0 < x)) r) ++ (if decide (e < 0) && g (lastF (decide (0 < x)) r) then [0] else []) ++ [e]
    rw [insF_snoc g e (decide (0 < x)) r]
    simp only [List.append_assoc, List.cons_append]
def insR (g : Bool → Bool) (rows : List (List Int)) : List (List Int) := rows.map (insF g false)
theorem insR_at {g : Bool → Bool} {rows : List (List Int)} {p : Nat} {row : List Int} (h : rows[p]? = some row) : (insR g rows)[p]? = some (insF g false row) := by
  unfold insR
  rw [List.getElem?_map, h]
  rfl
theorem insR_set {g : Bool → Bool} {rows : List (List Int)} {p : Nat} {row : List Int} : insR g (rows.set p row) = (insR g rows).set p (insF g false row) := by
  unfold insR
  rw [List.map_set]
theorem Grown.opens_u {c : Nat} {nm : List Int} {r : List (List Int)} {o : List (Int × Int)} {u k : Nat} (h : Grown c nm r o u k) : o.length ≤ u ∧ 2 * u ≤ k + o.length := by
  induction h with
  | start => exact ⟨Nat.le_refl _, Nat.le_refl _⟩
  | skip _ ih => exact ⟨ih.1, by omega⟩
  | save _ _ ih => exact ⟨ih.1, by omega⟩
  | send _ _ _ ih =>
    rw [List.length_append]
    show _ + 1 ≤ _ ∧ 2 * (_ + 1) ≤ _ + (_ + 1)
    exact ⟨by omega, by omega⟩
  | recv _ _ hj _ ih =>
    have := (List.getElem?_eq_some_iff.mp hj).1
    rw [List.length_eraseIdx, if_pos this]
    exact ⟨by omega, by omega⟩
theorem Grown.ins (g : Bool → Bool) {c : Nat} {nm : List Int} {r : List (List Int)} {o : List (Int × Int)} {u k : Nat} (hp : nm.Perm names24) (h : Grown c nm r o u k) : ∃ k', k' + o.length ≤ k + u ∧ Grown c nm (insR g r) o u k' := by
  induction h with
  | start =>
    refine ⟨0, Nat.le_refl _, ?_⟩
    have : insR g (List.replicate c []) = List.replicate c [] := by
      unfold insR
      rw [List.map_replicate]
      rfl
    rw [this]
    exact .start
  | skip h ih =>
    obtain ⟨k', h1, h2⟩ := ih
    exact ⟨k', by omega, h2⟩
  | @save r o u k p row h hr ih =>
    obtain ⟨k', h1, h2⟩ := ih
    refine ⟨k' + 1, by omega, ?_⟩
    rw [insR_set, insF_snoc, decide_eq_false (by decide : ¬ (0 : Int) < 0), Bool.false_and, if_neg Bool.false_ne_true, List.append_nil]
    exact .save h2 (insR_at hr)
  | @send r o u k p row m h hr hm ih =>
    obtain ⟨k', h1, h2⟩ := ih
    have m1 := name_pos hp (List.mem_of_getElem? hm)
    refine ⟨k' + 1, by rw [List.length_append]; show k' + 1 + (o.length + 1) ≤ _; omega, ?_⟩
    rw [insR_set, insF_snoc, decide_eq_false (by omega : ¬ m < 0), Bool.false_and, if_neg Bool.false_ne_true, List.append_nil]
    exact .send h2 (insR_at hr) hm
  | @recv r o u k row j m q p h hr hj hq ih =>
    obtain ⟨k', h1, h2⟩ := ih
    have hjl := (List.getElem?_eq_some_iff.mp hj).1
    have hpl := (List.getElem?_eq_some_iff.mp hr).1
    rw [insR_set, insF_snoc]
    cases hb : (decide (0 - m < 0) && g (lastF false row)) with
    | false =>
      rw [if_neg Bool.false_ne_true, List.append_nil]
      exact ⟨k' + 1, by rw [List.length_eraseIdx, if_pos hjl]; omega, .recv h2 (insR_at hr) hj hq⟩
    | true =>
      rw [if_pos rfl]
      refine ⟨k' + 1 + 1, by rw [List.length_eraseIdx, if_pos hjl]; omega, ?_⟩
      have g1 := Grown.save h2 (insR_at hr)
      have hr2 : ((insR g r).set p (insF g false row ++ [0]))[p]? = some (insF g false row ++ [0]) := List.getElem?_set_self (by unfold insR; rw [List.length_map]; exact hpl)
      have g2 := Grown.recv g1 hr2 hj hq
      rw [List.set_set] at g2
      exact g2
theorem Good.ins {many most : Nat} {rows : List (List Int)} (h : Good many most rows) (g : Bool → Bool) : Good many (most + most / 2) (insR g rows) := by
  obtain ⟨c, nm, o, u, k, h1, h2, h3, h4, h5⟩ := h
  obtain ⟨k', g1, g2⟩ := h4.ins g h3
  have := h4.opens_u
  exact ⟨c, nm, o, u, k', h1, h2, h3, g2, by omega⟩
end Sv
set_option maxHeartbeats 400000
set_option autoImplicit false
set_option maxHeartbeats 400000
set_option autoImplicit false
namespace Sv
open PySem PySem.Spec PyProof.Rows L2
/-- for each process the number of its first state from which no way leads -/
def IsAp (rows : List (List Int)) (nx : Int → Int → Bool) (s : Nat × Nat) (ap : List Nat) : Prop :=
  ap.length = rows.length ∧ ∀ (p n x : Nat), ap[p]? = some x → (n < x ↔ ∃ (m : Int) (k c : Nat), Dz rows nx (rbB rows s) c m ∧ hap rows m = some (p, k) ∧ n ≤ k)
theorem IsAp.unique {rows : List (List Int)} {nx : Int → Int → Bool} {s : Nat × Nat} {a b : List Nat} (h : IsAp rows nx s a) (g : IsAp rows nx s b) : a = b := by
  refine List.ext_getElem (h.1.trans g.1.symm) fun i h1 h2 => ?_
  have e1 := List.getElem?_eq_getElem h1
  have e2 := List.getElem?_eq_getElem h2
  generalize a[i] = x at e1
  generalize b[i] = y at e2
  have key : ∀ n, n < x ↔ n < y := fun n => (h.2 i n x e1).trans (g.2 i n y e2).symm
  have k1 := key x
  have k2 := key y
  omega
end Sv
set_option maxHeartbeats 400000
set_option autoImplicit false
set_option maxHeartbeats 400000
set_option autoImplicit false
set_option maxHeartbeats 400000
set_option autoImplicit false
namespace Sv
open PySem PySem.Spec PyProof.Rows L2
/-- the rows of the one go on to those of the other -/
structure Pfx (a b : List (List Int)) : Prop where
  len : a.length = b.length
  pre : ∀ (p : Nat) (r r' : List Int), a[p]? = some r → b[p]? = some r' → ∃ t, r' = r ++ t
section
variable {a b : List (List Int)}
theorem Pfx.at (h : Pfx a b) {p : Nat} {r : List Int} (hr : a[p]? = some r) : ∃ t, b[p]? = some (r ++ t) := by
  have hp : p < b.length := h.len ▸ (List.getElem?_eq_some_iff.mp hr).1
  obtain ⟨t, e⟩ := h.pre p r _ hr (List.getElem?_eq_getElem hp)
  exact ⟨t, by rw [List.getElem?_eq_getElem hp, e]⟩
end
end Sv
set_option maxHeartbeats 400000
set_option autoImplicit false
set_option maxHeartbeats 400000
set_option autoImplicit false
namespace Sv
open PySem PySem.Spec PyProof.Rows L2
section
variable {a b : List (List Int)}
theorem Pfx.trans {c : List (List Int)} (h : Pfx a b) (g : Pfx b c) : Pfx a c := by
  refine ⟨h.len.trans g.len, fun p r r' h1 h2 => ?_⟩
  obtain ⟨t, ht⟩ := h.at h1
  obtain ⟨t', e⟩ := g.pre p _ r' ht h2
  exact ⟨t ++ t', by rw [e, List.append_assoc]⟩
theorem Pfx.refl (a : List (List Int)) : Pfx a a := ⟨rfl, fun p r r' h1 h2 => by rw [h1] at h2; cases h2; exact ⟨[], (List.append_nil _).symm⟩⟩
end
end Sv
set_option maxHeartbeats 1000000
set_option autoImplicit false
namespace Sv
open PySem PySem.Spec PyProof.Rows L2
/-- a number from lo to hi -/
def inR (e : D) (lo hi : Int) : Bool := match e with
  | .int x => decide (lo ≤ x) && decide (x ≤ hi)
  | _ => false
theorem w_withinG {e : D} {lo hi : Int} {t : String} {S : Sto} {R : DK} (ht : t ∈ tys) (hd : tyD S e = some t) (q : R (.bl (inR e lo hi)) S) : dFn 3 B_is_number_within_7f04 [e, .int lo, .int hi] S R := by
  by_cases n : t = "int"
  · subst n
    obtain ⟨i, rfl⟩ := tyD_int hd
    exact w_within q
  · have hb : inR e lo hi = false := by
      cases e with
      | int i => exact absurd (Option.some.inj hd).symm n
      | _ => rfl
    rw [hb] at q
    refine ⟨_, rfl, rfl, ?_⟩
    rcases ty_int ht n with ⟨_, h1, h2⟩ | h1
    · refine ⟨_, rfl, _, "int", t, true, rfl, hd, h1, _, rfl, ?_⟩
      exact ⟨_, rfl, _, "bool", t, true, rfl, hd, h2, _, rfl, _, rfl, goF q⟩
    · exact ⟨_, rfl, _, "int", t, false, rfl, hd, h1, _, rfl, ⟨_, rfl, goF q⟩⟩
end Sv
set_option maxHeartbeats 2000000
set_option autoImplicit false
namespace Sv
open PySem PySem.Spec PyProof.Rows L2 TL
/-- a number's digits, without a leading zero -/
structure Canon (l : List Nat) : Prop where
  ne : l ≠ []
  dig : ∀ c ∈ l, 48 ≤ c ∧ c ≤ 57
  lead : l.head? = some 48 → l = [48]
theorem canon_num : ∀ (k : Nat) {l : List Nat}, l.length ≤ k → Canon l → ∃ n, l = numL n
  | 0, l, h, c => absurd (List.eq_nil_of_length_eq_zero (by omega)) c.ne
  | k + 1, l, h, c => by
    obtain ⟨q, d, rfl⟩ : ∃ q d, l = q ++ [d] := ⟨l.dropLast, l.getLast c.ne, (List.dropLast_concat_getLast c.ne).symm⟩
    have hd := c.dig d (by simp)
    cases q with
    | nil =>
      refine ⟨d - 48, ?_⟩
      rw [numL_lt (by omega)]
      show [d] = [48 + (d - 48)]
      congr 1
      omega
    | cons x q =>
      have hx : x ≠ 48 := by
        intro z
        subst z
        have := c.lead rfl
        have := congrArg List.length this
        simp at this
      have c' : Canon (x :: q) := ⟨by simp, fun y hy => c.dig y (List.mem_append_left _ hy), fun z => absurd (Option.some.inj z) hx⟩
      obtain ⟨m, hm⟩ := canon_num k (l := x :: q) (by simp at h ⊢; omega) c'
      have m1 : 1 ≤ m := by
        rcases Nat.eq_zero_or_pos m with z | z
        · subst z
          rw [numL_lt (by decide)] at hm
          exact absurd (List.head_eq_of_cons_eq hm) hx
        · exact z
      refine ⟨10 * m + (d - 48), ?_⟩
      rw [numL_step (by omega), hm]
      have e1 : (10 * m + (d - 48)) / 10 = m := by omega
      have e2 : (10 * m + (d - 48)) % 10 = d - 48 := by omega
      rw [e1, e2]
      congr 2
      omega
theorem digit_dec {c : Nat} (h : c < 127) : Unicode.isDigit c = decide (48 ≤ c ∧ c ≤ 57) := by
  have : (List.range 127).all (fun c => Unicode.isDigit c == decide (48 ≤ c ∧ c ≤ 57)) = true := by decide +kernel
  exact eq_of_beq (List.all_eq_true.mp this c (List.mem_range.mpr h))
def Asc (w : Str) : Prop := ∀ c ∈ tl w, c < 127
theorem isdigit_iff {w : Str} (h : Asc w) : Txt.isdigit w = true ↔ tl w ≠ [] ∧ ∀ c ∈ tl w, 48 ≤ c ∧ c ≤ 57 := by
  unfold Txt.isdigit
  rw [Bool.and_eq_true, decide_eq_true_iff, Array.all_eq_true_iff_forall_mem]
  have hl : w.length > 0 ↔ tl w ≠ [] := by
    rw [len_tl]
    exact List.length_pos_iff
  rw [hl]
  refine and_congr_right fun _ => ⟨fun q c hc => ?_, fun q c hc => ?_⟩
  · have := q c (by rw [← Array.mem_toList_iff]; exact hc)
    rw [digit_dec (h c hc)] at this
    exact of_decide_eq_true this
  · have hc' : c ∈ tl w := by rw [← Array.mem_toList_iff] at hc; exact hc
    rw [digit_dec (h c hc')]
    exact decide_eq_true (q c hc')
theorem isascii_of {w : Str} (h : Asc w) : Txt.isascii w = true := by
  unfold Txt.isascii
  rw [Array.all_eq_true_iff_forall_mem]
  intro c hc
  rw [← Array.mem_toList_iff] at hc
  have := h c hc
  exact decide_eq_true (by omega)
theorem ev_pos_tl {n : Nat} (h1 : 1 ≤ n) (h24 : n ≤ 24) : tl (evS (n : Int)) = 43 :: numL n := by
  have : (List.range 25).all (fun n => n == 0 || decide (tl (evS (n : Int)) = 43 :: numL n)) = true := by decide +kernel
  have := List.all_eq_true.mp this n (List.mem_range.mpr (by omega))
  rw [Bool.or_eq_true, beq_iff_eq] at this
  rcases this with z | z
  · omega
  · exact of_decide_eq_true z
theorem ev_neg_tl {n : Nat} (h1 : 1 ≤ n) (h24 : n ≤ 24) : tl (evS (-(n : Int))) = 45 :: numL n := by
  have : (List.range 25).all (fun n => n == 0 || decide (tl (evS (-(n : Int))) = 45 :: numL n)) = true := by decide +kernel
  have := List.all_eq_true.mp this n (List.mem_range.mpr (by omega))
  rw [Bool.or_eq_true, beq_iff_eq] at this
  rcases this with z | z
  · omega
  · exact of_decide_eq_true z
theorem tl_cut1 {w : Str} : tl (L2.cutS w (some 1) none) = (tl w).drop 1 := by
  show ((w.cps.toList.drop (HT.sIx w.length 0 (some 1))).take (w.length - HT.sIx w.length 0 (some 1))) = _
  have e : HT.sIx w.length 0 (some 1) = min 1 w.length := HT.sIx_nat w.length 0 1
  rw [e, len_tl]
  cases h : tl w with
  | nil =>
    have h : w.cps.toList = [] := h
    rw [h]
    rfl
  | cons c r =>
    have h : w.cps.toList = c :: r := h
    rw [h]
    have e2 : min 1 (c :: r).length = 1 := by simp
    rw [e2]
    show r.take ((c :: r).length - 1) = r
    simp
theorem cut1_asc {w : Str} (h : Asc w) : Asc (L2.cutS w (some 1) none) := fun c hc => h c (by rw [tl_cut1] at hc; exact List.mem_of_mem_drop hc)
variable {S : Sto} {R : DK}
theorem at0 {w : Str} {c : Nat} {r : List Nat} (h : tl w = c :: r) : atI w.cps.toList 0 = some c := by
  have h : w.cps.toList = c :: r := h
  rw [h]
  exact L2.atI_nat (j := 0) rfl
theorem sgn_eq {c k : Nat} {s : Str} (hs : s = ⟨#[k]⟩) : ((⟨#[c]⟩ : Str) = s) ↔ c = k := by
  subst hs
  constructor
  · intro z
    exact List.head_eq_of_cons_eq (congrArg (fun x : Str => x.cps.toList) z)
  · rintro rfl; rfl
theorem int_canon {z : Str} {n : Nat} (h : tl z = numL n) (hl : z.length ≤ 640) : PySem.intText? z = some (n : Int) := by
  have e := PySem.intText_digits (x := z) (by rw [show z.cps.toList = numL n from h]; exact numL_digits n) (by rw [show z.cps.toList = numL n from h]; exact numL_ne n) (by omega)
  rw [show z.cps.toList = numL n from h, numL_val] at e
  exact e
/-- a word without a leading zero, or "0" -/
theorem lead_case {z : Str} {c : Nat} {r : List Nat} (hz : tl z = c :: r) (hdig : ∀ c ∈ tl z, 48 ≤ c ∧ c ≤ 57) (h : c = 48 → z = (Str.ofString "0")) : ∃ n, tl z = numL n := by
  refine canon_num _ (Nat.le_refl _) ⟨by rw [hz]; simp, hdig, fun hd => ?_⟩
  rw [hz] at hd
  have := h (Option.some.inj hd)
  rw [this]
  rfl
/-- the number of a word, or none -/
theorem w_numP {z : Str} (hz : Asc z) (hl : z.length ≤ 100000) (k1 : ∀ n : Nat, tl z = numL n → R (.int (n : Int)) S) (k2 : R .non S) : dFn 1 B_number_of_1a7b [.str z] S R := by
  have hs : z.length ≤ sizeLine := Nat.le_trans hl (by decide)
  refine ⟨_, rfl, _, rfl, _, rfl, ?_⟩
  rw [isascii_of hz]
  refine goF ⟨_, rfl, _, rfl, _, rfl, ?_⟩
  by_cases hd : Txt.isdigit z = true
  · rw [hd]
    obtain ⟨hne, hdig⟩ := (isdigit_iff hz).mp hd
    obtain ⟨c, r, hcr⟩ := List.exists_cons_of_ne_nil hne
    refine goF ⟨_, rfl, _, rfl, hs, _, rfl, iteB (fun _ => k2) fun h6 => ?_⟩
    have h6 : ¬ (6 : Int) < (z.length : Int) := of_decide_eq_false h6
    refine ⟨_, rfl, _, 0, c, rfl, rfl, hs, at0 hcr, _, rfl, ?_⟩
    have last : (c = 48 → z = Str.ofString "0") → dCB rIntS (dCons (dVar 0) dNil) [some (.str z)] S R := fun hc => by
      obtain ⟨n, hn⟩ := lead_case hcr hdig hc
      exact ⟨_, rfl, _, _, rfl, int_canon hn (by omega), by omega, k1 n hn⟩
    by_cases h0 : c = 48
    · rw [xor_ff, decide_eq_true (show (⟨#[c]⟩ : Str) = ("0" : Str) from (sgn_eq rfl).mpr h0)]
      refine goT ⟨_, rfl, _, rfl, iteB (fun _ => k2) fun h => last fun _ => ?_⟩
      rw [xor_tt, Bool.not_eq_false'] at h
      exact of_decide_eq_true h
    · rw [xor_ff, decide_eq_false (show ¬ (⟨#[c]⟩ : Str) = ("0" : Str) from fun q => h0 ((sgn_eq rfl).mp q))]
      exact goF (last fun q => absurd q h0)
  · rw [Bool.not_eq_true] at hd
    rw [hd]
    exact goT k2
/-- a word that is none of an event -/
def NoEv (w : Str) : Prop := ∀ i : Int, -24 ≤ i → i ≤ 24 → w ≠ evS i
theorem w_evN {w : Str} (hw : Asc w) (hl : w.length ≤ 100000) (hn : NoEv w) (q : R .non S) : dFn 2 B_event_of_16da [.str w] S R := by
  have hs : w.length ≤ sizeLine := Nat.le_trans hl (by decide)
  refine ⟨_, rfl, _, rfl, ?_⟩
  rw [xor_ff, decide_eq_false (show ¬ w = ("." : Str) from hn 0 (by decide) (by decide))]
  refine goF ⟨_, rfl, 1, rfl, _, rfl, hs, rfl, ?_⟩
  have hzl : (L2.cutS w (some 1) none).length ≤ 100000 := Nat.le_trans (cutS_length _ _ _) hl
  refine w_numP (cut1_asc hw) hzl (fun n hn' => ⟨_, rfl, rfl, w_within ⟨_, rfl, ?_⟩⟩) ⟨_, rfl, rfl, w_withinG (t := "NoneType") (by unfold tys; simp) rfl ⟨_, rfl, ?_⟩⟩
  · by_cases h1 : 1 ≤ n
    · by_cases h24 : n ≤ 24
      · rw [decide_eq_true (show (1 : Int) ≤ (n : Int) by omega), decide_eq_true (show (n : Int) ≤ 24 by omega)]
        obtain ⟨c, hc⟩ : ∃ c, tl w = c :: numL n := by
          rw [tl_cut1] at hn'
          cases h : tl w with
          | nil => rw [h] at hn'; exact absurd hn'.symm (numL_ne n)
          | cons c r => rw [h] at hn'; exact ⟨c, by rw [show r = numL n from hn']⟩
        refine goF ⟨_, rfl, _, 0, c, rfl, rfl, hs, at0 hc, _, rfl, ?_⟩
        have n1 : c ≠ 43 := fun z => hn n (by omega) (by omega) (ext_tl (by rw [hc, z, ev_pos_tl h1 h24]))
        have n2 : c ≠ 45 := fun z => hn (-(n : Int)) (by omega) (by omega) (ext_tl (by rw [hc, z, ev_neg_tl h1 h24]))
        rw [xor_ff, decide_eq_false (show ¬ (⟨#[c]⟩ : Str) = ("+" : Str) from fun q => n1 ((sgn_eq rfl).mp q))]
        refine goF ⟨_, rfl, _, 0, c, rfl, rfl, hs, at0 hc, _, rfl, ?_⟩
        rw [xor_ff, decide_eq_false (show ¬ (⟨#[c]⟩ : Str) = ("-" : Str) from fun q => n2 ((sgn_eq rfl).mp q))]
        exact goF q
      · rw [decide_eq_false (show ¬ (n : Int) ≤ 24 by omega), Bool.and_false]
        exact goT q
    · rw [decide_eq_false (show ¬ (1 : Int) ≤ (n : Int) by omega), Bool.false_and]
      exact goT q
  · exact goT q
def digS : Str := Str.ofString "0123456789"
theorem dig_mem {c : Nat} : c ∈ tl digS ↔ 48 ≤ c ∧ c ≤ 57 := by
  have e : tl digS = [48, 49, 50, 51, 52, 53, 54, 55, 56, 57] := by decide
  rw [e]
  simp only [List.mem_cons, List.not_mem_nil, or_false]
  omega
theorem numL_head : ∀ (n : Nat) {r : List Nat}, numL n = 48 :: r → n = 0 := by
  intro n
  induction n using Nat.strongRecOn with
  | ind n ih =>
    intro r h
    by_cases z : n < 10
    · rw [numL_lt z] at h
      have := List.head_eq_of_cons_eq h
      omega
    · rw [numL_step (by omega)] at h
      obtain ⟨x, y, hx⟩ := List.exists_cons_of_ne_nil (numL_ne (n / 10))
      rw [hx] at h
      have h1 : x = 48 := List.head_eq_of_cons_eq h
      rw [h1] at hx
      have := ih (n / 10) (by omega) hx
      omega
theorem w_lawNumP {z : Str} (hz : Asc z) (hl : z.length ≤ 100000) (k1 : ∀ (n : Nat) S', SG S S' → tl z = numL n → z.length ≤ 2 → R (.int (n : Int)) S') (k2 : (∀ n, tl z = numL n → ¬ z.length ≤ 2) → ∀ S', SG S S' → R .non S') : dFn 3 B_law_number_in_d447 [.str z, .int 2] S R := by
  have hs : z.length ≤ sizeLine := Nat.le_trans hl (by decide)
  refine ⟨_, rfl, _, rfl, ?_⟩
  by_cases h0 : z = Str.ofString ""
  · rw [xor_ff, decide_eq_true (show z = ("" : Str) from h0)]
    exact goT (k2 (fun n hn _ => numL_ne n (by rw [← hn, h0]; rfl)) S (.refl _))
  rw [xor_ff, decide_eq_false (show ¬ z = ("" : Str) from h0)]
  refine goF ⟨_, rfl, _, rfl, hs, _, rfl, _, rfl, iteB (fun h2 => k2 (fun n _ q => absurd (of_decide_eq_true h2) (by omega)) S (.refl _)) fun h2 => ?_⟩
  have h2 : ¬ (2 : Int) < (z.length : Int) := of_decide_eq_false h2
  refine ⟨_, rfl, z, rfl, lc_mapE (tl z) (fun c => D.str ⟨#[c]⟩) rfl (fun c => if 48 ≤ c ∧ c ≤ 57 then none else some (D.str ⟨#[c]⟩)) (by rw [← len_tl]; omega) (fun _ _ => True.intro) (fun c hc S1 sg K Kn hk hn => turn_n ⟨_, rfl, c, digS, rfl, rfl, _, rfl, ?_⟩) fun t S2 nt sg ht => ⟨rfl, fun b nb => ?_⟩⟩
  · by_cases hd : 48 ≤ c ∧ c ≤ 57
    · rw [decide_eq_true (show c ∈ digS.cps.toList from dig_mem.mpr hd)]
      exact goF (hn (if_pos hd) _ (.refl _))
    · rw [decide_eq_false (show ¬ c ∈ digS.cps.toList from fun q => hd (dig_mem.mp q))]
      exact goT ⟨_, rfl, hk _ (if_neg hd) _ (.refl _)⟩
  · have e : (tl z).filterMap (fun c => if 48 ≤ c ∧ c ≤ 57 then none else some (D.str ⟨#[c]⟩)) = (((tl z).filter fun c => !decide (48 ≤ c ∧ c ≤ 57)).map fun c => (⟨#[c]⟩ : Str)).map D.str := by
      generalize tl z = l
      induction l with
      | nil => rfl
      | cons a l ih =>
        rw [List.filterMap_cons, List.filter_cons, ih]
        by_cases h : 48 ≤ a ∧ a ≤ 57
        · rw [if_pos h, decide_eq_true h]
          rfl
        · rw [if_neg h, decide_eq_false h]
          rfl
    rw [e] at ht
    have sgb : SG S2 (S2.put b (.lst [])) := .new nb
    have ht2 := sgb _ _ (fun z => z) ht
    have hb : (S2.put b (.lst [])) b = some (.lst (([] : List Str).map D.str)) := Sto.same
    have sgb := SK.trans sg sgb
    generalize S2.put b (.lst []) = S3 at ht2 hb sgb ⊢
    refine ⟨_, _, .lst ht2 (pys_strs _), .lst hb (pys_strs _), strs_shaped (fun y hy => ?_), strs_shaped (by simp), ?_⟩
    · obtain ⟨c, hc, rfl⟩ := List.mem_map.mp hy
      refine ok_of fun k hk hm => ?_
      have := hz c (List.mem_filter.mp hc).1
      rw [List.mem_singleton.mp (show k ∈ [c] from hm)] at hk
      omega
    rw [show PyData.eqv (.list ((((tl z).filter fun c => !decide (48 ≤ c ∧ c ≤ 57)).map fun c => (⟨#[c]⟩ : Str)).map PyData.str)) (.list (([] : List Str).map PyData.str)) = PyData.eqvAll ((((tl z).filter fun c => !decide (48 ≤ c ∧ c ≤ 57)).map fun c => (⟨#[c]⟩ : Str)).map PyData.str) (([] : List Str).map PyData.str) by rw [PyData.eqv], eqv_strs]
    refine ⟨_, rfl, iteB (fun hemp => k2 (fun n hn _ => ?_) S3 sgb) fun hemp => ?_⟩
    · rw [xor_tt, Bool.not_eq_true'] at hemp
      refine of_decide_eq_false hemp ?_
      have : ((tl z).filter fun c => !decide (48 ≤ c ∧ c ≤ 57)) = [] := List.filter_eq_nil_iff.mpr fun c hc => by
        rw [hn] at hc
        rw [decide_eq_true (numL_digits n c hc)]
        exact Bool.false_ne_true
      rw [this]
      rfl
    have hemp : ((tl z).filter fun c => !decide (48 ≤ c ∧ c ≤ 57)) = [] := by
      rw [xor_tt, Bool.not_eq_false'] at hemp
      exact List.map_eq_nil_iff.mp (of_decide_eq_true hemp)
    have hdig : ∀ c ∈ tl z, 48 ≤ c ∧ c ≤ 57 := fun c hc => by
      have := List.filter_eq_nil_iff.mp hemp c hc
      rw [Bool.not_eq_true, Bool.not_eq_false'] at this
      exact of_decide_eq_true this
    obtain ⟨c, r, hcr⟩ : ∃ c r, tl z = c :: r := List.exists_cons_of_ne_nil fun q => h0 (ext_tl (by rw [q]; rfl))
    have last : (c = 48 → z = Str.ofString "0") → dCB rIntS (dCons (dVar 0) dNil) [some (.str z), some (.int 2), none] S3 R := fun hc => by
      obtain ⟨n, hn⟩ := lead_case hcr hdig hc
      exact ⟨_, rfl, _, _, rfl, int_canon hn (by omega), by omega, k1 n S3 sgb hn (by omega)⟩
    refine ⟨_, rfl, _, 0, c, rfl, rfl, hs, at0 hcr, _, rfl, ?_⟩
    by_cases h4 : c = 48
    · rw [xor_ff, decide_eq_true (show (⟨#[c]⟩ : Str) = ("0" : Str) from (sgn_eq rfl).mpr h4)]
      refine goT ⟨_, rfl, _, rfl, iteB (fun h => k2 (fun n hn _ => ?_) S3 sgb) fun h => last fun _ => ?_⟩
      · rw [xor_tt, Bool.not_eq_true'] at h
        refine of_decide_eq_false h ?_
        have e := numL_head n (r := r) (by rw [← hn, hcr, h4])
        subst e
        exact ext_tl (by rw [hn]; rfl)
      rw [xor_tt, Bool.not_eq_false'] at h
      exact of_decide_eq_true h
    · rw [xor_ff, decide_eq_false (show ¬ (⟨#[c]⟩ : Str) = ("0" : Str) from fun q => h4 ((sgn_eq rfl).mp q))]
      exact goF (last fun q => absurd q h4)
end Sv
set_option maxHeartbeats 2000000
set_option autoImplicit false
namespace Sv
open PySem PySem.Spec PyProof.Rows L2 TL
variable {S : Sto} {R : DK}
theorem tl_take1 {w : Str} : tl (L2.cutS w none (some 1)) = (tl w).take 1 := by
  show ((w.cps.toList.drop 0).take (HT.sIx w.length w.length (some 1) - 0)) = _
  have e : HT.sIx w.length w.length (some 1) = min 1 w.length := HT.sIx_nat w.length _ 1
  rw [e, List.drop_zero, Nat.sub_zero, len_tl]
  show (tl w).take (min 1 (tl w).length) = _
  cases tl w with
  | nil => rfl
  | cons c r =>
    have e2 : min 1 (c :: r).length = 1 := by simp
    rw [e2]
theorem str_shaped {x : Str} (h : Asc x) : SeqAt.shaped (.str x) = true := by
  have ok : PyData.strOk x = true := ok_of fun k hk hm => by have := h k hm; omega
  show (PyData.canLay0 (.str _) && decide (PyData.depth (.str _) ≤ 64)) = true
  simp only [PyData.canLay0, PyData.depth, ok, Bool.true_and]
  rfl
theorem eqv_str1 (x y : Str) : PyData.eqv (.str x) (.str y) = decide (x = y) := by
  rw [PyData.eqv]
  by_cases h : x = y
  · subst h; simp
  · rw [decide_eq_false h]; simpa using h
/-- among + and - -/
theorem in_signs {x : Str} {b : Addr} (hx : Asc x) (hb : S b = some (.lst [.str "+", .str "-"])) (q : R (.bl (!(decide (x = Str.ofString "+") || decide (x = Str.ofString "-")))) S) : rInq true (.str x) (.ref b) S R := by
  refine ⟨.str x, [.str "+", .str "-"], .str x, .inl (.lst hb (.cons (.str _) (.cons (.str _) .nil))), str_shaped hx, by decide +kernel, by decide +kernel, ?_⟩
  have e : (([PyData.str "+", PyData.str "-"].any fun z => PyData.eqv z (.str x)) ^^ true) = !(decide (x = Str.ofString "+") || decide (x = Str.ofString "-")) := by
    rw [List.any_cons, List.any_cons, List.any_nil, eqv_str1, eqv_str1, xor_tt, Bool.or_false]
    congr 2
    · exact decide_eq_decide.mpr ⟨fun z => z.symm, fun z => z.symm⟩
    · exact decide_eq_decide.mpr ⟨fun z => z.symm, fun z => z.symm⟩
  rw [e]
  exact q
theorem w_lawEvY {i : Int} (h0 : -24 ≤ i) (h1 : i ≤ 24) (q : ∀ S', SG S S' → R (.int i) S') : dFn 2 B_law_event_in_1ebf [.str (evS i)] S R := by
  have w := ev_w h0 h1
  have ha : Asc (evS i) := fun c hc => (w.sgn c hc).1
  by_cases hz : i = 0
  · subst hz
    refine ⟨_, rfl, _, rfl, ?_⟩
    rw [xor_ff, decide_eq_true ev_zero]
    exact goT (q S (.refl _))
  obtain ⟨n, n1, n24, c, hc, hi⟩ : ∃ n : Nat, 1 ≤ n ∧ n ≤ 24 ∧ ∃ c, tl (evS i) = c :: numL n ∧ ((c = 43 ∧ i = n) ∨ (c = 45 ∧ i = -(n : Int))) := by
    rcases Int.lt_or_le 0 i with hp | hp
    · refine ⟨i.toNat, by omega, by omega, 43, ?_, .inl ⟨rfl, by omega⟩⟩
      have e : i = ((i.toNat : Nat) : Int) := by omega
      rw [e]
      exact ev_pos_tl (by omega) (by omega)
    · refine ⟨(-i).toNat, by omega, by omega, 45, ?_, .inr ⟨rfl, by omega⟩⟩
      have e : i = -(((-i).toNat : Nat) : Int) := by omega
      have := ev_neg_tl (n := (-i).toNat) (by omega) (by omega)
      rw [← e] at this
      exact this
  have hs : (evS i).length ≤ sizeLine := Nat.le_trans w.len3 (by decide)
  refine ⟨_, rfl, _, rfl, ?_⟩
  rw [xor_ff, decide_eq_false (show ¬ evS i = ("." : Str) from (ev_m h0 h1 hz).dot)]
  have hzt : tl (L2.cutS (evS i) (some 1) none) = numL n := by rw [tl_cut1, hc]; rfl
  refine goF ⟨_, rfl, 1, rfl, _, rfl, hs, rfl, w_lawNumP (cut1_asc ha) (Nat.le_trans (cutS_length _ _ _) (Nat.le_trans w.len3 (by decide))) (fun m S1 sg1 hm _ => ?_) (fun hno S1 sg1 => ?_)⟩
  · have hmn : m = n := numL_inj (by rw [← hm, hzt])
    subst hmn
    refine ⟨_, rfl, 1, rfl, _, rfl, hs, rfl, fun b nb => ?_⟩
    have sgb : SG S1 (S1.put b (.lst [.str "+", .str "-"])) := .new nb
    have hx : L2.cutS (evS i) none (some 1) = ⟨#[c]⟩ := ext_tl (by rw [tl_take1, hc]; rfl)
    refine in_signs (b := b) (fun c' hc' => ha c' (by rw [tl_take1] at hc'; exact List.mem_of_mem_take hc')) Sto.same ⟨_, rfl, ?_⟩
    have hor : (decide (L2.cutS (evS i) none (some 1) = Str.ofString "+") || decide (L2.cutS (evS i) none (some 1) = Str.ofString "-")) = true := by
      rw [hx]
      rcases hi with ⟨rfl, _⟩ | ⟨rfl, _⟩ <;> decide
    rw [hor]
    have q := q _ (sg1.trans sgb)
    generalize S1.put b (.lst [.str "+", .str "-"]) = S2 at q ⊢
    have m1 : (1 : Int) ≤ (m : Int) := by omega
    have m24 : (m : Int) ≤ 24 := by omega
    refine goF ⟨_, rfl, _, rfl, goF ⟨_, rfl, _, rfl, ?_⟩⟩
    refine iteB (fun _ => ⟨_, rfl, ?_⟩) fun h => absurd m1 (of_decide_eq_false h)
    refine iteB (fun h => by
      have h : (!decide ((m : Int) ≤ 24)) = true := h
      rw [decide_eq_true m24] at h
      cases h) fun _ => ?_
    refine ⟨_, rfl, _, 0, c, rfl, rfl, hs, at0 hc, _, rfl, ?_⟩
    rcases hi with ⟨rfl, hi⟩ | ⟨rfl, hi⟩
    · rw [xor_ff, decide_eq_true (show (⟨#[43]⟩ : Str) = ("+" : Str) by decide)]
      refine goT ⟨_, rfl, ?_⟩
      rw [← hi]
      exact q
    · rw [xor_ff, decide_eq_false (show ¬ (⟨#[45]⟩ : Str) = ("+" : Str) by decide)]
      refine goF ⟨_, rfl, ?_⟩
      show R (.int (0 - (m : Int))) S2
      rw [show (0 : Int) - (m : Int) = i by omega]
      exact q
  · refine absurd ?_ (hno n hzt)
    rw [len_tl, hzt]
    exact numL_len (by decide) (by omega)
theorem w_lawEvN {w : Str} (hw : Asc w) (hl : w.length ≤ 100000) (hn : NoEv w) (q : ∀ S', SG S S' → R .non S') : dFn 2 B_law_event_in_1ebf [.str w] S R := by
  have hs : w.length ≤ sizeLine := Nat.le_trans hl (by decide)
  refine ⟨_, rfl, _, rfl, ?_⟩
  rw [xor_ff, decide_eq_false (show ¬ w = ("." : Str) from hn 0 (by decide) (by decide))]
  refine goF ⟨_, rfl, 1, rfl, _, rfl, hs, rfl, w_lawNumP (cut1_asc hw) (Nat.le_trans (cutS_length _ _ _) hl) (fun n S1 sg1 hn' _ => ?_) (fun _ S1 sg1 => ?_)⟩
  · obtain ⟨c, hc⟩ : ∃ c, tl w = c :: numL n := by
      rw [tl_cut1] at hn'
      cases h : tl w with
      | nil => rw [h] at hn'; exact absurd hn'.symm (numL_ne n)
      | cons c r => rw [h] at hn'; exact ⟨c, by rw [show r = numL n from hn']⟩
    refine ⟨_, rfl, 1, rfl, _, rfl, hs, rfl, fun b nb => ?_⟩
    have sgb : SG S1 (S1.put b (.lst [.str "+", .str "-"])) := .new nb
    have hx : L2.cutS w none (some 1) = ⟨#[c]⟩ := ext_tl (by rw [tl_take1, hc]; rfl)
    refine in_signs (b := b) (fun c' hc' => hw c' (by rw [tl_take1] at hc'; exact List.mem_of_mem_take hc')) Sto.same ⟨_, rfl, ?_⟩
    have q := q _ (sg1.trans sgb)
    generalize S1.put b (.lst [.str "+", .str "-"]) = S2 at q ⊢
    refine iteB (fun _ => q) fun hsg => ?_
    have hsg : c = 43 ∨ c = 45 := by
      rw [Bool.not_eq_false', Bool.or_eq_true, decide_eq_true_iff, decide_eq_true_iff, hx] at hsg
      rcases hsg with z | z
      · exact .inl ((sgn_eq rfl).mp z)
      · exact .inr ((sgn_eq rfl).mp z)
    refine ⟨_, rfl, _, rfl, goF ⟨_, rfl, _, rfl, ?_⟩⟩
    refine iteB (fun h1 => ⟨_, rfl, ?_⟩) fun _ => ⟨_, rfl, goT q⟩
    · have h1 : (1 : Int) ≤ (n : Int) := of_decide_eq_true h1
      have h1 : 1 ≤ n := by omega
      refine iteB (fun _ => q) fun h24 => ?_
      have h24 : (!decide ((n : Int) ≤ 24)) = false := h24
      rw [Bool.not_eq_false'] at h24
      have h24 := of_decide_eq_true h24
      have h24 : n ≤ 24 := by omega
      · rcases hsg with z | z
        · exact absurd (ext_tl (by rw [hc, z, ev_pos_tl h1 h24])) (hn n (by omega) (by omega))
        · exact absurd (ext_tl (by rw [hc, z, ev_neg_tl h1 h24])) (hn (-(n : Int)) (by omega) (by omega))
  · refine ⟨_, rfl, 1, rfl, _, rfl, hs, rfl, fun b nb => ?_⟩
    have sgb : SG S1 (S1.put b (.lst [.str "+", .str "-"])) := .new nb
    refine in_signs (b := b) (fun c' hc' => hw c' (by rw [tl_take1] at hc'; exact List.mem_of_mem_take hc')) Sto.same ⟨_, rfl, iteB (fun _ => q _ (sg1.trans sgb)) fun _ => ⟨_, rfl, _, rfl, goT (q _ (sg1.trans sgb))⟩⟩
end Sv
set_option maxHeartbeats 1000000
set_option autoImplicit false
namespace Sv
open PySem PySem.Spec PyProof.Rows L2
abbrev barW : Str := Str.ofString "|"
structure RwAt (S0 S : Sto) (l : Addr) (d : List (List Str)) (c : List Str) (as : List Addr) (a : Addr) : Prop where
  sg : SG S0 S
  hl : S l = some (.lst (as.map D.ref ++ [D.ref a]))
  len : as.length = d.length
  old : ∀ x ∈ as.zip d, S x.1 = some (.lst (x.2.map D.str))
  cur : S a = some (.lst (c.map D.str))
  na : a ∉ as
  nl : l ∉ as
  al : a ≠ l
  fl : S0 l = none
  fa : S0 a = none
theorem RwAt.keep {S0 S S' : Sto} {l a : Addr} {d : List (List Str)} {c : List Str} {as : List Addr} (h : RwAt S0 S l d c as a) (k : SG S S') : RwAt S0 S' l d c as a :=
  ⟨h.sg.trans k, k _ _ (fun z => z) h.hl, h.len, fun x hx => k _ _ (fun z => z) (h.old x hx), k _ _ (fun z => z) h.cur, h.na, h.nl, h.al, h.fl, h.fa⟩
theorem RwAt.more {S0 S : Sto} {l a : Addr} {d : List (List Str)} {c : List Str} {as : List Addr} (h : RwAt S0 S l d c as a) (w : Str) : RwAt S0 (S.put a (.lst (c.map D.str ++ [.str w]))) l d (c ++ [w]) as a := by
  refine ⟨SG.keepP h.fa h.sg (.refl _), ?_, h.len, fun x hx => ?_, ?_, h.na, h.nl, h.al, h.fl, h.fa⟩
  · rw [Sto.ne (fun z => h.al z.symm)]; exact h.hl
  · have : x.1 ∈ as := (List.of_mem_zip hx).1
    have ne : x.1 ≠ a := fun z => h.na (by rw [← z]; exact this)
    rw [Sto.ne ne]; exact h.old x hx
  · rw [Sto.same, List.map_append]; rfl
theorem RwAt.row {S0 S : Sto} {l a : Addr} {d : List (List Str)} {c : List Str} {as : List Addr} (h : RwAt S0 S l d c as a) {b : Addr} (nb : S b = none) : RwAt S0 ((S.put b (.lst [])).put l (.lst (as.map D.ref ++ [D.ref a] ++ [D.ref b]))) l (d ++ [c]) [] (as ++ [a]) b := by
  have ba : b ≠ a := fun z => by rw [z, h.cur] at nb; cases nb
  have bl : b ≠ l := fun z => by rw [z, h.hl] at nb; cases nb
  have bas : b ∉ as := fun z => by
    obtain ⟨j, hj⟩ := List.getElem?_of_mem z
    have hjl := (List.getElem?_eq_some_iff.mp hj).1
    have hd := List.getElem?_eq_getElem (show j < d.length by rw [← h.len]; exact hjl)
    have hz : (as.zip d)[j]? = some (b, d[j]'(by rw [← h.len]; exact hjl)) := by rw [List.getElem?_zip_eq_some]; exact ⟨hj, hd⟩
    have := h.old _ (List.mem_of_getElem? hz)
    rw [nb] at this
    cases this
  have fb : S0 b = none := h.sg.none nb
  refine ⟨SG.keepP h.fl (h.sg.trans (.new nb)) (.refl _), ?_, ?_, fun x hx => ?_, ?_, ?_, ?_, bl, h.fl, fb⟩
  · rw [Sto.same, List.map_append]; rfl
  · rw [List.length_append, List.length_append, h.len]; rfl
  · rw [List.zip_append h.len] at hx
    rcases List.mem_append.mp hx with hx | hx
    · have : x.1 ∈ as := (List.of_mem_zip hx).1
      have n1 : x.1 ≠ l := fun z => h.nl (by rw [← z]; exact this)
      have n2 : x.1 ≠ b := fun z => bas (by rw [← z]; exact this)
      rw [Sto.ne n1, Sto.ne n2]; exact h.old x hx
    · have hx : x = (a, c) := List.mem_singleton.mp hx
      subst hx
      rw [Sto.ne h.al, Sto.ne (fun z => ba z.symm)]; exact h.cur
  · rw [Sto.ne bl, Sto.same]; rfl
  · intro z
    rcases List.mem_append.mp z with z | z
    · exact bas z
    · exact ba (List.mem_singleton.mp z)
  · intro z
    rcases List.mem_append.mp z with z | z
    · exact h.nl z
    · exact h.al (List.mem_singleton.mp z).symm
theorem enD_strs {ws : List Str} {i : Nat} {d : D} (h : (enD (ws.map D.str))[i]? = some d) : ∃ w, ws[i]? = some w ∧ d = .tup [.int (i : Nat), .str w] := by
  rw [enD_map, List.getElem?_map, List.getElem?_mapIdx] at h
  obtain ⟨y, hy, rfl⟩ := Option.map_eq_some_iff.mp h
  obtain ⟨w, hw, rfl⟩ := Option.map_eq_some_iff.mp hy
  exact ⟨w, hw, rfl⟩
end Sv
set_option maxHeartbeats 1000000
set_option autoImplicit false
namespace Sv
open PySem PySem.Spec PyProof.Rows L2 TL
abbrev spW : Str := Str.ofString " "
abbrev nonW : Str := Str.ofString "_"
def rowW (r : List Int) : List Str := if r = [] then [nonW] else r.map evS
def rowT (r : List Int) : Str := Str.join spW (rowW r)
def histT (rows : List (List Int)) : Str := Str.join (Str.ofString " | ") (rows.map rowT)
def joinW : List (List Str) → List Str
  | [] => []
  | [r] => r
  | r :: s :: rs => r ++ barW :: joinW (s :: rs)
def InR (r : List Int) : Prop := ∀ x ∈ r, -24 ≤ x ∧ x ≤ 24
theorem rowW_ne (r : List Int) : rowW r ≠ [] := by
  unfold rowW
  by_cases h : r = []
  · rw [if_pos h]; simp
  · rw [if_neg h]; simpa using h
theorem joinW_ne {rs : List (List Str)} (h : rs ≠ []) (hr : ∀ r ∈ rs, r ≠ []) : joinW rs ≠ [] := by
  match rs with
  | [] => exact absurd rfl h
  | [r] => exact hr r (List.mem_singleton.mpr rfl)
  | r :: s :: rs => show r ++ barW :: joinW (s :: rs) ≠ []; simp
theorem joinL_app (S : List Nat) : ∀ {a b : List (List Nat)}, a ≠ [] → b ≠ [] → joinL S (a ++ b) = joinL S a ++ (S ++ joinL S b)
  | [], _, h, _ => absurd rfl h
  | [x], [], _, h => absurd rfl h
  | [x], y :: b, _, _ => rfl
  | x :: y :: a, b, _, hb => by
    show x ++ (S ++ joinL S (y :: a ++ b)) = x ++ (S ++ joinL S (y :: a)) ++ (S ++ joinL S b)
    rw [joinL_app S (by simp) hb]
    simp only [List.append_assoc]
theorem hist_tl : ∀ {rs : List (List Str)}, (∀ r ∈ rs, r ≠ []) → joinL [32, 124, 32] (rs.map fun r => joinL [32] (r.map tl)) = joinL [32] ((joinW rs).map tl)
  | [], _ => rfl
  | [r], _ => rfl
  | r :: s :: rs, h => by
    have ih := hist_tl (rs := s :: rs) fun x hx => h x (List.mem_cons_of_mem _ hx)
    show joinL [32] (r.map tl) ++ ([32, 124, 32] ++ joinL [32, 124, 32] ((s :: rs).map fun r => joinL [32] (r.map tl))) = joinL [32] ((r ++ barW :: joinW (s :: rs)).map tl)
    rw [ih, List.map_append, joinL_app [32] (by have := h r List.mem_cons_self; simpa using this) (by simp)]
    have hne : (joinW (s :: rs)).map tl ≠ [] := by
      have := joinW_ne (rs := s :: rs) (by simp) fun x hx => h x (List.mem_cons_of_mem _ hx)
      simpa using this
    rw [List.map_cons]
    have e : joinL [32] (tl barW :: (joinW (s :: rs)).map tl) = tl barW ++ ([32] ++ joinL [32] ((joinW (s :: rs)).map tl)) := by
      generalize (joinW (s :: rs)).map tl = m at hne
      cases m with
      | nil => exact absurd rfl hne
      | cons a b => rfl
    rw [e]
    rfl
theorem histT_eq (rows : List (List Int)) : histT rows = Str.join spW (joinW (rows.map rowW)) := by
  apply ext_tl
  unfold histT
  rw [tl_join, tl_join, List.map_map]
  have e : rows.map (tl ∘ rowT) = (rows.map rowW).map fun r => joinL [32] (r.map tl) := by
    rw [List.map_map]
    refine List.map_congr_left fun r _ => ?_
    show tl (Str.join spW (rowW r)) = _
    rw [tl_join]
    rfl
  rw [e]
  exact hist_tl fun r hr => by obtain ⟨x, _, rfl⟩ := List.mem_map.mp hr; exact rowW_ne x
theorem word_free {r : List Int} (h : InR r) : ∀ w ∈ rowW r, 32 ∉ tl w ∧ PyData.strOk w = true ∧ w.length ≤ 3 := by
  intro w hw
  unfold rowW at hw
  by_cases z : r = []
  · rw [if_pos z, List.mem_singleton] at hw
    subst hw
    decide +kernel
  · rw [if_neg z] at hw
    obtain ⟨i, hi, rfl⟩ := List.mem_map.mp hw
    have := h i hi
    exact ⟨fun q => ((ev_w this.1 this.2).sgn 32 q).2 rfl, ev_strOk this.1 this.2, (ev_w this.1 this.2).len3⟩
theorem joinW_mem {P : Str → Prop} : ∀ {rs : List (List Str)}, (∀ r ∈ rs, ∀ w ∈ r, P w) → P barW → ∀ w ∈ joinW rs, P w
  | [], _, _, w, hw => nomatch hw
  | [r], h, _, w, hw => h r List.mem_cons_self w hw
  | r :: s :: rs, h, hb, w, hw => by
    have hw : w ∈ r ++ barW :: joinW (s :: rs) := hw
    rcases List.mem_append.mp hw with hw | hw
    · exact h r List.mem_cons_self w hw
    · rcases List.mem_cons.mp hw with hw | hw
      · rw [hw]; exact hb
      · exact joinW_mem (fun x hx => h x (List.mem_cons_of_mem _ hx)) hb w hw
theorem words_all {rows : List (List Int)} (h : ∀ r ∈ rows, InR r) : ∀ w ∈ joinW (rows.map rowW), 32 ∉ tl w ∧ PyData.strOk w = true ∧ w.length ≤ 3 :=
  joinW_mem (fun r hr w hw => by obtain ⟨x, hx, rfl⟩ := List.mem_map.mp hr; exact word_free (h x hx) w hw) (by decide +kernel)
theorem joinW_len : ∀ rs : List (List Str), (joinW rs).length ≤ (rs.map fun r => r.length + 1).sum
  | [] => Nat.le_refl _
  | [r] => by show r.length ≤ (r.length + 1) + 0; omega
  | r :: s :: rs => by
    have ih := joinW_len (s :: rs)
    show (r ++ barW :: joinW (s :: rs)).length ≤ (r.length + 1) + ((s :: rs).map fun r => r.length + 1).sum
    rw [List.length_append, List.length_cons]
    omega
theorem joinL_len (S : List Nat) : ∀ ps : List (List Nat), (joinL S ps).length ≤ (ps.map List.length).sum + ps.length * S.length
  | [] => Nat.zero_le _
  | [p] => by show p.length ≤ (p.length + 0) + 1 * S.length; omega
  | p :: q :: r => by
    have ih := joinL_len S (q :: r)
    show (p ++ (S ++ joinL S (q :: r))).length ≤ (p.length + ((q :: r).map List.length).sum) + ((q :: r).length + 1) * S.length
    rw [List.length_append, List.length_append, Nat.add_mul]
    omega
theorem join_len (y : Str) (ps : List Str) : (Str.join y ps).length ≤ (ps.map (·.length)).sum + ps.length * y.length := by
  rw [len_tl, tl_join, len_tl y]
  refine Nat.le_trans (joinL_len _ _) ?_
  rw [List.length_map, List.map_map]
  have e : List.length ∘ tl = fun x : Str => x.length := funext fun x => (len_tl x).symm
  rw [e]
  exact Nat.le_refl _
theorem sum_le_mul {α : Type} {f : α → Nat} {k : Nat} : ∀ {l : List α}, (∀ x ∈ l, f x ≤ k) → (l.map f).sum ≤ l.length * k
  | [], _ => Nat.zero_le _
  | a :: l, h => by
    have ih := sum_le_mul fun x hx => h x (List.mem_cons_of_mem _ hx)
    have := h a List.mem_cons_self
    rw [List.map_cons, List.sum_cons, List.length_cons, Nat.add_mul]
    omega
theorem rowW_len {r : List Int} (h : r.length ≤ 60) : (rowW r).length ≤ 60 := by
  unfold rowW
  by_cases z : r = []
  · rw [if_pos z]; decide
  · rw [if_neg z, List.length_map]; exact h
theorem rowT_len {r : List Int} (h : r.length ≤ 60) (hr : InR r) : (rowT r).length ≤ 240 := by
  have h1 := join_len spW (rowW r)
  have h2 := sum_le_mul (f := fun w : Str => w.length) (k := 3) fun w hw => (word_free hr w hw).2.2
  have h3 := rowW_len h
  have e : spW.length = 1 := rfl
  rw [e] at h1
  unfold rowT
  omega
theorem words_len {rows : List (List Int)} (h6 : rows.length ≤ 6) (h : ∀ r ∈ rows, r.length ≤ 60) : (joinW (rows.map rowW)).length ≤ 366 := by
  refine Nat.le_trans (joinW_len _) ?_
  have := sum_le_mul (f := fun r : List Str => r.length + 1) (k := 61) (l := rows.map rowW) fun r hr => by
    obtain ⟨x, hx, rfl⟩ := List.mem_map.mp hr
    have := rowW_len (h x hx)
    omega
  rw [List.length_map] at this
  omega
theorem histT_len {rows : List (List Int)} (h6 : rows.length ≤ 6) (h : ∀ r ∈ rows, r.length ≤ 60 ∧ InR r) : (histT rows).length ≤ 1464 := by
  rw [histT_eq]
  have h1 := join_len spW (joinW (rows.map rowW))
  have h2 := sum_le_mul (f := fun w : Str => w.length) (k := 3) fun w hw => (words_all (fun r hr => (h r hr).2) w hw).2.2
  have h3 := words_len h6 fun r hr => (h r hr).1
  have e : spW.length = 1 := rfl
  rw [e] at h1
  omega
theorem joinL_mem {S : List Nat} {P : Nat → Prop} (hS : ∀ c ∈ S, P c) : ∀ {ps : List (List Nat)}, (∀ p ∈ ps, ∀ c ∈ p, P c) → ∀ c ∈ joinL S ps, P c
  | [], _, c, hc => nomatch hc
  | [p], h, c, hc => h p List.mem_cons_self c hc
  | p :: q :: r, h, c, hc => by
    have hc : c ∈ p ++ (S ++ joinL S (q :: r)) := hc
    rcases List.mem_append.mp hc with hc | hc
    · exact h p List.mem_cons_self c hc
    · rcases List.mem_append.mp hc with hc | hc
      · exact hS c hc
      · exact joinL_mem hS (fun x hx => h x (List.mem_cons_of_mem _ hx)) c hc
theorem histT_sgn {rows : List (List Int)} (h : ∀ r ∈ rows, InR r) : ∀ c ∈ tl (histT rows), c < 127 := by
  rw [histT_eq, tl_join]
  refine joinL_mem (P := fun c => c < 127) (by decide) fun p hp c hc => ?_
  obtain ⟨w, hw, rfl⟩ := List.mem_map.mp hp
  refine joinW_mem (P := fun w => ∀ c ∈ tl w, c < 127) (fun r hr w hw c hc => ?_) (by decide +kernel) w hw c hc
  obtain ⟨x, hx, rfl⟩ := List.mem_map.mp hr
  unfold rowW at hw
  by_cases z : x = []
  · rw [if_pos z, List.mem_singleton] at hw
    subst hw
    revert c
    decide +kernel
  · rw [if_neg z] at hw
    obtain ⟨i, hi, rfl⟩ := List.mem_map.mp hw
    have := h x hx i hi
    exact ((ev_w this.1 this.2).sgn c hc).1
end Sv
set_option maxHeartbeats 1000000
set_option autoImplicit false
namespace Sv
open PySem PySem.Spec PyProof.Rows L2
variable {S : Sto} {R : DK}
theorem w_lawEvText {i : Int} (h0 : -24 ≤ i) (h1 : i ≤ 24) (q : R (.str (evS i)) S) : dFn 1 B_law_event_text_afb5 [.int i] S R := by
  have hz : i.natAbs.log2 < 1920 := Nat.lt_of_le_of_lt (Nat.log2_le_self _) (by omega)
  refine ⟨_, rfl, _, rfl, iteB (fun h => ?_) fun h => ?_⟩
  · have h : i = 0 := of_decide_eq_true (by rw [xor_ff] at h; exact h)
    subst h
    exact q
  have h : ¬ i = 0 := of_decide_eq_false (by rw [xor_ff] at h; exact h)
  unfold evS evT at q
  rw [if_neg h] at q
  refine ⟨_, rfl, _, rfl, iteB (fun h2 => ?_) fun h2 => ?_⟩
  · have h2 : 0 < i := of_decide_eq_true h2
    rw [if_pos h2] at q
    refine ⟨_, rfl, _, rfl, hz, ?_, q⟩
    have := (ev_w h0 h1).len3
    unfold evS evT at this
    rw [if_neg h, if_pos h2] at this
    have e : (Str.ofString "+" ++ Str.ofString (toString i)).length = (Str.ofString "+").length + (Str.ofString (toString i)).length := by
      rw [TL.len_tl, TL.len_tl, TL.len_tl, TL.tl_append, List.length_append]
    rw [e] at this
    exact Nat.le_trans this (by decide)
  · have h2 : ¬ 0 < i := of_decide_eq_false h2
    rw [if_neg h2] at q
    exact ⟨_, rfl, _, rfl, hz, q⟩
theorem join_size {xs : List Str} {sep : Str} {n k : Nat} (hn : xs.length ≤ n) (hk : ∀ x ∈ xs, x.length ≤ k) (hs : sep.length ≤ 4) (h : n * k + n * 4 ≤ 16777216) : (xs.map (·.length)).sum + xs.length * sep.length ≤ 16777216 := by
  have h1 := sum_le_mul (f := fun x : Str => x.length) hk
  have h2 : xs.length * k ≤ n * k := Nat.mul_le_mul_right k hn
  have h3 : xs.length * sep.length ≤ n * 4 := Nat.mul_le_mul hn hs
  omega
theorem w_lawHistText {rows : List (List Int)} (h6 : rows.length ≤ 6) (h : ∀ r ∈ rows, r.length ≤ 60 ∧ InR r) (k : ∀ S', SG S S' → R (.str (histT rows)) S') : dFn 4 B_law_history_text_6ea4 [.tup (rowsD rows)] S R := by
  refine ⟨rfl, fun l nl => ⟨_, rfl, _, rfl, fun n env S' => ∃ x2 : Option D, env = [some (.tup (rowsD rows)), some (.ref l), x2, none] ∧ SG S S' ∧ S' l = some (.lst (((rows.take n).map rowT).map D.str)), ⟨_, rfl, .new nl, Sto.same⟩, fun _ _ _ _ _ => True.intro, ?_, ?_⟩⟩
  · rintro n d env S2 hd ⟨x2, rfl, sg, hl⟩
    have hd : (rowsD rows)[n]? = some d := hd
    rw [rowsD, List.getElem?_map] at hd
    obtain ⟨r, hr, rfl⟩ := Option.map_eq_some_iff.mp hd
    have hm := h r (List.mem_of_getElem? hr)
    have hn := (List.getElem?_eq_some_iff.mp hr).1
    have fin : ∀ S3 (x : Str), SG S2 S3 → x = rowT r → mAppend (.ref l) [.str x] S3 fun _ S' => ∃ x2 : Option D, [some (D.tup (rowsD rows)), some (.ref l), some (rowD r), none] = [some (.tup (rowsD rows)), some (.ref l), x2, none] ∧ SG S S' ∧ S' l = some (.lst (((rows.take (n + 1)).map rowT).map D.str)) := fun S3 x sg3 hx => by
      refine ⟨l, _, _, rfl, rfl, sg3 _ _ (fun z => z) hl, by rw [List.length_map, List.length_map, List.length_take]; omega, _, rfl, SG.keepP nl (sg.trans sg3) (.refl _), ?_⟩
      rw [Sto.same, hx, List.take_add_one, hr, List.map_append, List.map_append]
      rfl
    refine ⟨_, rfl, ⟨rfl, _, seqOf_lst hl, fun _ z => (nomatch z), fun _ z => (nomatch z)⟩, _, rfl, _, rfl, _, rfl, lc_mapE r D.int rfl (fun i => some (.str (evS i))) (by omega) (fun _ _ => True.intro) (fun i hi S1 sg K Kn hk _ => turn_y ⟨_, rfl, rfl, w_lawEvText (hm.2 i hi).1 (hm.2 i hi).2 (hk _ rfl _ (.refl _))⟩) fun t S3 nt sg3 ht => ?_⟩
    rw [fm_map] at ht
    refine ⟨t, r.map evS, rfl, by rw [ht, List.map_map]; rfl, join_size (n := 60) (k := 3) (by rw [List.length_map]; exact hm.1) (fun x hx => by obtain ⟨i, hi, rfl⟩ := List.mem_map.mp hx; exact (ev_w (hm.2 i hi).1 (hm.2 i hi).2).len3) (by decide) (by decide), _, rfl, ?_⟩
    by_cases z : r = []
    · subst z
      exact ⟨by decide, .inl ⟨rfl, fin S3 nonW sg3 rfl⟩⟩
    · have e : rowT r = Str.join spW (r.map evS) := by unfold rowT rowW; rw [if_neg z]
      refine ⟨?_, .inr ⟨?_, fin S3 _ sg3 e.symm⟩⟩
      · have := rowT_len hm.1 hm.2
        rw [e] at this
        exact Nat.le_trans this (by decide)
      · intro q
        obtain ⟨i, r', rfl⟩ := List.exists_cons_of_ne_nil z
        have hw := ev_w (hm.2 i List.mem_cons_self).1 (hm.2 i List.mem_cons_self).2
        have h1 : (TL.tl (Str.join spW ((i :: r').map evS))).length = 0 := by rw [← TL.len_tl]; exact q
        rw [TL.tl_join] at h1
        have h2 := hw.len1
        rw [TL.len_tl] at h2
        cases r' with
        | nil => exact absurd h1 (by show (TL.tl (evS i)).length ≠ 0; omega)
        | cons j r' =>
          have h1 : (TL.tl (evS i) ++ (TL.tl spW ++ TL.joinL (TL.tl spW) (((j :: r').map evS).map TL.tl))).length = 0 := h1
          rw [List.length_append] at h1
          omega
  · rintro env S2 ⟨x2, rfl, sg, hl⟩
    have e : rows.take (rowsD rows).length = rows := by rw [rowsD, List.length_map, List.take_length]
    have hl : S2 l = some (.lst (((rows.take (rowsD rows).length).map rowT).map D.str)) := hl
    rw [e] at hl
    exact ⟨_, rfl, _, rfl, l, rows.map rowT, rfl, hl, join_size (n := 6) (k := 240) (by rw [List.length_map]; exact h6) (fun x hx => by obtain ⟨r, hr, rfl⟩ := List.mem_map.mp hx; exact rowT_len (h r hr).1 (h r hr).2) (by decide) (by decide), k S2 sg⟩
end Sv
set_option maxHeartbeats 1000000
set_option autoImplicit false
namespace Sv
open PySem PySem.Spec PyProof.Rows L2
variable {S : Sto} {R : DK}
theorem zip_ref {as : List Addr} {rows : List (List Int)} (h : as.length ≤ rows.length) : as.map D.ref = (as.zip rows).map fun x => D.ref x.1 := by
  have e := congrArg (List.map D.ref) (List.map_fst_zip h)
  rw [List.map_map] at e
  exact e.symm
theorem zip_row {as : List Addr} {rows : List (List Int)} (h : rows.length ≤ as.length) : ((as.zip rows).map fun x => rowD x.2) = rowsD rows := by
  have e := congrArg (List.map rowD) (List.map_snd_zip h)
  rw [List.map_map] at e
  exact e
end Sv
set_option maxHeartbeats 2000000
set_option autoImplicit false
namespace Sv
open PySem PySem.Spec PyProof.Rows L2 TL
inductive Res
  | ok (rows : List (List Int))
  | bad (i : Nat)
inductive BadW : List Int → Bool → Str → Prop
  | bar {w : Str} : w = barW → BadW [] false w
  | non {row : List Int} {cl : Bool} {w : Str} : w = nonW → ¬ (row = [] ∧ cl = false) → BadW row cl w
  | cl {row : List Int} {i : Int} : -24 ≤ i → i ≤ 24 → BadW row true (evS i)
  | no {row : List Int} {cl : Bool} {w : Str} : w ≠ barW → w ≠ nonW → NoEv w → BadW row cl w
inductive Go : List (List Int) → List Int → Bool → Nat → List Str → Res → Prop
  | fin {d : List (List Int)} {row : List Int} {cl : Bool} {n : Nat} : (row ≠ [] ∨ cl = true) → Go d row cl n [] (.ok (d ++ [row]))
  | finBad {d : List (List Int)} {n : Nat} : Go d [] false n [] (.bad n)
  | bar {d : List (List Int)} {row : List Int} {cl : Bool} {n : Nat} {ws : List Str} {r : Res} : (row ≠ [] ∨ cl = true) → Go (d ++ [row]) [] false (n + 1) ws r → Go d row cl n (barW :: ws) r
  | non {d : List (List Int)} {n : Nat} {ws : List Str} {r : Res} : Go d [] true (n + 1) ws r → Go d [] false n (nonW :: ws) r
  | ev {d : List (List Int)} {row : List Int} {n : Nat} {i : Int} {ws : List Str} {r : Res} : -24 ≤ i → i ≤ 24 → Go d (row ++ [i]) false (n + 1) ws r → Go d row false n (evS i :: ws) r
  | wrong {d : List (List Int)} {row : List Int} {cl : Bool} {n : Nat} {w : Str} {ws : List Str} : BadW row cl w → Go d row cl n (w :: ws) (.bad n)
theorem go_total : ∀ (ws : List Str) (d : List (List Int)) (row : List Int) (cl : Bool) (n : Nat), (cl = true → row = []) → ∃ r, Go d row cl n ws r
  | [], d, row, cl, n, hcl => by
    cases cl with
    | true => exact ⟨_, .fin (.inr rfl)⟩
    | false =>
      cases row with
      | nil => exact ⟨_, .finBad⟩
      | cons x y => exact ⟨_, .fin (.inl (by simp))⟩
  | w :: ws, d, row, cl, n, hcl => by
    by_cases hb : w = barW
    · subst hb
      by_cases h : row ≠ [] ∨ cl = true
      · obtain ⟨r, hr⟩ := go_total ws (d ++ [row]) [] false (n + 1) (fun _ => rfl)
        exact ⟨r, .bar h hr⟩
      · have h1 : row = [] := Classical.not_not.mp fun z => h (.inl z)
        have h2 : cl = false := by cases cl with | true => exact absurd (.inr rfl) h | false => rfl
        subst h1 h2
        exact ⟨_, .wrong (.bar rfl)⟩
    by_cases hn : w = nonW
    · subst hn
      by_cases h : row = [] ∧ cl = false
      · obtain ⟨rfl, rfl⟩ := h
        obtain ⟨r, hr⟩ := go_total ws d [] true (n + 1) (fun _ => rfl)
        exact ⟨r, .non hr⟩
      · exact ⟨_, .wrong (.non rfl h)⟩
    by_cases he : NoEv w
    · exact ⟨_, .wrong (.no hb hn he)⟩
    · obtain ⟨i, h0, h1, rfl⟩ : ∃ i : Int, -24 ≤ i ∧ i ≤ 24 ∧ w = evS i := by
        refine Classical.byContradiction fun z => he fun i a b c => z ⟨i, a, b, c⟩
      cases cl with
      | true => exact ⟨_, .wrong (.cl h0 h1)⟩
      | false =>
        obtain ⟨r, hr⟩ := go_total ws d (row ++ [i]) false (n + 1) (fun z => nomatch z)
        exact ⟨r, .ev h0 h1 hr⟩
/-- a row's words so far -/
def curW (row : List Int) (cl : Bool) : List Str := if cl = true then [nonW] else row.map evS
theorem curW_row {row : List Int} {cl : Bool} (hcl : cl = true → row = []) (h : row ≠ [] ∨ cl = true) : curW row cl = rowW row := by
  unfold curW rowW
  cases cl with
  | true => rw [if_pos rfl, if_pos (hcl rfl)]
  | false => rw [if_neg Bool.false_ne_true, if_neg (h.elim (fun z => z) fun z => nomatch z)]
theorem curW_ok {row : List Int} {cl : Bool} (hr : InR row) : ∀ y ∈ curW row cl, PyData.strOk y = true := by
  intro y hy
  unfold curW at hy
  cases cl with
  | true => rw [if_pos rfl, List.mem_singleton] at hy; subst hy; decide +kernel
  | false =>
    rw [if_neg Bool.false_ne_true] at hy
    obtain ⟨i, hi, rfl⟩ := List.mem_map.mp hy
    exact ev_strOk (hr i hi).1 (hr i hi).2
theorem curW_not {row : List Int} (hr : InR row) : curW row false ≠ [nonW] := by
  unfold curW
  rw [if_neg Bool.false_ne_true]
  intro z
  have : nonW ∈ row.map evS := by rw [z]; exact List.mem_singleton.mpr rfl
  obtain ⟨i, hi, e⟩ := List.mem_map.mp this
  exact (ev_w (hr i hi).1 (hr i hi).2).non e
theorem curW_len {row : List Int} {cl : Bool} : (curW row cl).length ≤ row.length + 1 := by
  unfold curW
  cases cl with
  | true => rw [if_pos rfl]; show 1 ≤ _; omega
  | false => rw [if_neg Bool.false_ne_true, List.length_map]; omega
theorem curW_nil {row : List Int} {cl : Bool} (hcl : cl = true → row = []) : curW row cl = [] ↔ (row = [] ∧ cl = false) := by
  unfold curW
  cases cl with
  | true => rw [if_pos rfl]; simp
  | false => rw [if_neg Bool.false_ne_true]; simp
variable {S : Sto} {R : DK}
/-- a word that may not follow -/
theorem w_followN {row : List Int} {cl : Bool} {x : Str} {a : Addr} (ha : S a = some (.lst ((curW row cl).map D.str))) (hr : InR row) (hcl : cl = true → row = []) (hx : Asc x) (hxl : x.length ≤ 100000) (h : BadW row cl x) (q : ∀ S', SG S S' → R (.bl false) S') : dFn 2 B_can_follow_f9d7 [.ref a, .str x] S R := by
  have third : ∀ {y : Str}, y ≠ barW → y ≠ nonW → (∀ b, S b = none → ∃ k : Bool, decide (curW row cl = [nonW]) = k ∧ (k = false → dFn 2 B_event_of_16da [.str y] (S.put b (.lst [D.str "_"])) fun x S' => (R (.bl (!isNon x))) S')) → dFn 2 B_can_follow_f9d7 [.ref a, .str y] S R := by
    intro y hb hn h3
    refine ⟨_, rfl, _, rfl, ?_⟩
    rw [xor_ff, decide_eq_false (show ¬ y = ("|" : Str) from hb)]
    refine goF ⟨_, rfl, _, rfl, ?_⟩
    rw [xor_ff, decide_eq_false (show ¬ y = ("_" : Str) from hn)]
    refine goF ⟨_, rfl, rfl, fun b nb => ?_⟩
    obtain ⟨k, hk, h4⟩ := h3 b nb
    have sg : SG S (S.put b (.lst [D.str "_"])) := .new nb
    have hb : (S.put b (.lst [D.str "_"])) b = some (.lst ([Str.ofString "_"].map D.str)) := Sto.same
    refine ⟨_, _, .lst (sg _ _ (fun z => z) ha) (pys_strs _), .lst hb (pys_strs _), strs_shaped (curW_ok hr), strs_shaped (fun y hy => by rw [List.mem_singleton.mp hy]; decide +kernel), ?_⟩
    rw [show PyData.eqv (.list ((curW row cl).map PyData.str)) (.list ([Str.ofString "_"].map PyData.str)) = PyData.eqvAll ((curW row cl).map PyData.str) ([Str.ofString "_"].map PyData.str) by rw [PyData.eqv], eqv_strs, hk, xor_tt]
    cases k with
    | true => exact ⟨_, rfl, goF (q _ sg)⟩
    | false => exact ⟨_, rfl, goT ⟨_, rfl, rfl, h4 rfl⟩⟩
  cases h with
  | bar h =>
    refine ⟨_, rfl, _, rfl, ?_⟩
    rw [xor_ff, decide_eq_true (show x = ("|" : Str) from h)]
    exact goT ⟨_, rfl, _, _, rfl, seqOf_lst ha, q S (.refl _)⟩
  | non h hno =>
    refine ⟨_, rfl, _, rfl, ?_⟩
    rw [xor_ff, decide_eq_false (show ¬ x = ("|" : Str) by rw [h]; decide)]
    refine goF ⟨_, rfl, _, rfl, ?_⟩
    rw [xor_ff, decide_eq_true (show x = ("_" : Str) from h)]
    refine goT ⟨_, rfl, _, _, rfl, seqOf_lst ha, ?_⟩
    show R (.bl (decide ((((curW row cl).map D.str).length : Int) = 0) ^^ false)) S
    have hne : curW row cl ≠ [] := fun z => hno ((curW_nil hcl).mp z)
    have hp := List.length_pos_iff.mpr hne
    rw [List.length_map, decide_eq_false (show ¬ ((curW row cl).length : Int) = 0 by omega)]
    exact q S (.refl _)
  | @cl _ i h0 h1 =>
    have w := ev_w h0 h1
    exact third w.bar w.non fun b nb => ⟨true, by unfold curW; rw [if_pos rfl]; exact decide_eq_true rfl, fun z => nomatch z⟩
  | no hb hn he =>
    refine third hb hn fun b nb => ⟨_, rfl, fun _ => w_evN hx hxl he ?_⟩
    exact q _ (.new nb)
end Sv
set_option maxHeartbeats 2000000
set_option autoImplicit false
namespace Sv
open PySem PySem.Spec PyProof.Rows L2 TL
variable {S : Sto} {R : DK} {EX : DXc}
def GoodW (ws : List Str) : Prop := ∀ w ∈ ws, Asc w ∧ w.length ≤ 100000
theorem w_rowsX {ws : List Str} {res : Res} {f : Addr} (hf : S f = some (.lst (ws.map D.str))) (hl : ws.length ≤ 100000) (hg : GoodW ws) (hr : Go [] [] false 0 ws res)
    (k : ∀ (rows : List (List Int)) (l : Addr) (as : List Addr) (S' : Sto), res = .ok rows → SG S S' → S' l = some (.lst (as.map D.ref)) → as.length = rows.length → rows.length ≤ ws.length + 1 → (∀ x ∈ as.zip rows, InR x.2 ∧ x.2.length ≤ ws.length ∧ S' x.1 = some (.lst ((rowW x.2).map D.str))) → R (.ref l) S')
    (kx : ∀ (i : Nat) (S' : Sto), res = .bad i → SG S S' → EX "BadText" [("index", .int (i : Int))] S') : dFnX 4 B_rows_of_words_6edf EX [.ref f] S R := by
  refine ⟨rfl, fun a na => ⟨rfl, fun l nl => ?_⟩⟩
  have al : a ≠ l := fun z => by rw [← z, Sto.same] at nl; cases nl
  have nl0 : S l = none := by rw [Sto.ne (fun z => al z.symm)] at nl; exact nl
  have r0 : RwAt S ((S.put a (.lst [])).put l (.lst [.ref a])) l [] [] [] a := by
    refine ⟨SK.trans (SK.new na) (SK.new nl), Sto.same, rfl, (by simp), ?_, (by simp), (by simp), al, nl0, na⟩
    rw [Sto.ne al, Sto.same]; rfl
  generalize (S.put a (.lst [])).put l (.lst [.ref a]) = S1 at r0
  have hf1 := r0.sg _ _ (fun z => z) hf
  refine ⟨_, rfl, _, _, rfl, ⟨_, hf1, rfl⟩, fun n env S' => ∃ (d : List (List Int)) (row : List Int) (cl : Bool) (as : List Addr) (b : Addr) (x2 x3 : Option D), env = [some (.ref f), some (.ref l), x2, x3] ∧ RwAt S S' l (d.map rowW) (curW row cl) as b ∧ Go d row cl n (ws.drop n) res ∧ (cl = true → row = []) ∧ InR row ∧ (∀ r ∈ d, InR r ∧ r.length ≤ n) ∧ d.length ≤ n ∧ row.length ≤ n ∧ n ≤ ws.length, ⟨[], [], false, [], a, _, _, rfl, r0, hr, (by simp), (by unfold InR; simp), (by simp), Nat.zero_le _, Nat.zero_le _, Nat.zero_le _⟩, fun i env S' _ ⟨_, _, _, _, _, _, _, _, r, _⟩ => r.sg _ _ (fun z => z) hf, ?_, ?_⟩
  · rintro n dd env S2 hd ⟨d, row, cl, as, b, x2, x3, rfl, r, hrun, hcl, hin, hd', l1, l2, l3⟩
    obtain ⟨w, hw, rfl⟩ := enD_strs hd
    obtain ⟨hn, hwe⟩ := List.getElem?_eq_some_iff.mp hw
    rw [List.drop_eq_getElem_cons hn, hwe] at hrun
    have hgw := hg w (List.mem_of_getElem? hw)
    have hal : as.length = d.length := by have := r.len; rw [List.length_map] at this; exact this
    have hcw := curW_len (row := row) (cl := cl)
    refine ⟨_, rfl, .inl (.inl rfl), _, _, rfl, _, _, rfl, rfl, ?_⟩
    cases hrun with
    | bar h h' =>
      refine ⟨_, rfl, _, -1, _, seqOf_lst r.hl, rfl, atI_last, _, rfl, rfl, w_follow r.cur (curW_ok hin) (.bar fun z => ?_) fun S3 sg3 => ⟨_, rfl, goF ⟨_, rfl, _, rfl, ?_⟩⟩⟩
      · obtain ⟨z1, z2⟩ := (curW_nil hcl).mp z
        subst z1 z2
        rcases h with h | h
        · exact h rfl
        · cases h
      have r := r.keep sg3
      rw [xor_ff, decide_eq_true (show barW = ("|" : Str) from rfl)]
      refine goT ⟨_, rfl, ⟨rfl, _, seqOf_lst r.hl, fun _ z => (nomatch z), fun _ z => (nomatch z)⟩, rfl, fun b' nb' => ?_⟩
      have r' := r.row nb'
      have bl : b' ≠ l := fun z => by rw [z, r.hl] at nb'; cases nb'
      rw [curW_row hcl h] at r'
      have er : d.map rowW ++ [rowW row] = (d ++ [row]).map rowW := by rw [List.map_append]; rfl
      rw [er] at r'
      refine ⟨l, _, .ref b', rfl, rfl, by rw [Sto.ne (fun z => bl z.symm)]; exact r.hl, by rw [List.length_append, List.length_map, List.length_singleton]; omega, _, _, _, _, _, _, _, rfl, r', h', fun _ => rfl, (by unfold InR; simp), fun x hx => ?_, by rw [List.length_append, List.length_singleton]; omega, Nat.zero_le _, by omega⟩
      rcases List.mem_append.mp hx with hx | hx
      · exact ⟨(hd' x hx).1, by have := (hd' x hx).2; omega⟩
      · rw [List.mem_singleton.mp hx]
        exact ⟨hin, by omega⟩
    | non h' =>
      refine ⟨_, rfl, _, -1, _, seqOf_lst r.hl, rfl, atI_last, _, rfl, rfl, w_follow r.cur (curW_ok hin) .non fun S3 sg3 => ⟨_, rfl, goF ⟨_, rfl, _, rfl, ?_⟩⟩⟩
      have r := r.keep sg3
      rw [xor_ff, decide_eq_false (show ¬ nonW = ("|" : Str) by decide)]
      have r' := r.more nonW
      refine goF ⟨_, rfl, _, -1, _, seqOf_lst r.hl, rfl, atI_last, ⟨rfl, _, seqOf_lst r.cur, fun _ z => (nomatch z), fun _ z => (nomatch z)⟩, _, rfl, _, _, .str nonW, rfl, rfl, r.cur, (by decide), _, _, true, _, _, _, _, rfl, r', h', fun _ => rfl, hin, fun x hx => ⟨(hd' x hx).1, by have := (hd' x hx).2; omega⟩, by omega, Nat.zero_le _, by omega⟩
    | @ev _ _ _ i _ _ h0 h1 h' =>
      have w := ev_w h0 h1
      refine ⟨_, rfl, _, -1, _, seqOf_lst r.hl, rfl, atI_last, _, rfl, rfl, w_follow r.cur (curW_ok hin) (.ev h0 h1 (curW_not hin)) fun S3 sg3 => ⟨_, rfl, goF ⟨_, rfl, _, rfl, ?_⟩⟩⟩
      have r := r.keep sg3
      rw [xor_ff, decide_eq_false (show ¬ evS i = ("|" : Str) from w.bar)]
      have r' := r.more (evS i)
      have e : curW row false ++ [evS i] = curW (row ++ [i]) false := by unfold curW; rw [if_neg Bool.false_ne_true, if_neg Bool.false_ne_true, List.map_append]; rfl
      rw [e] at r'
      refine goF ⟨_, rfl, _, -1, _, seqOf_lst r.hl, rfl, atI_last, ⟨rfl, _, seqOf_lst r.cur, fun _ z => (nomatch z), fun _ z => (nomatch z)⟩, _, rfl, _, _, .str (evS i), rfl, rfl, r.cur, by rw [List.length_map]; omega, _, _, false, _, _, _, _, rfl, r', h', (by simp), fun x hx => ?_, fun x hx => ⟨(hd' x hx).1, by have := (hd' x hx).2; omega⟩, by omega, by rw [List.length_append, List.length_singleton]; omega, by omega⟩
      rcases List.mem_append.mp hx with hx | hx
      · exact hin x hx
      · rw [List.mem_singleton.mp hx]
        exact ⟨h0, h1⟩
    | wrong hb =>
      exact ⟨_, rfl, _, -1, _, seqOf_lst r.hl, rfl, atI_last, _, rfl, rfl, w_followN r.cur hin hcl hgw.1 hgw.2 hb fun S3 sg3 => ⟨_, rfl, goT ⟨_, rfl, rfl, kx n S3 rfl (r.sg.trans sg3)⟩⟩⟩
  · rintro env S2 ⟨d, row, cl, as, b, x2, x3, rfl, r, hrun, hcl, hin, hd', l1, l2, l3⟩
    have e0 : (enD (ws.map D.str)).length = ws.length := by rw [enD_len, List.length_map]
    have e : ws.drop (enD (ws.map D.str)).length = [] := by rw [e0, List.drop_length]
    have hrun : Go d row cl (enD (ws.map D.str)).length (ws.drop (enD (ws.map D.str)).length) res := hrun
    have hd' : ∀ r ∈ d, InR r ∧ r.length ≤ (enD (ws.map D.str)).length := hd'
    have l1 : d.length ≤ (enD (ws.map D.str)).length := l1
    have l2 : row.length ≤ (enD (ws.map D.str)).length := l2
    rw [e] at hrun
    rw [e0] at hrun hd' l1 l2
    have hal : as.length = d.length := by have := r.len; rw [List.length_map] at this; exact this
    cases hrun with
    | fin h =>
      have hc : curW row cl ≠ [] := fun z => by
        obtain ⟨z1, z2⟩ := (curW_nil hcl).mp z
        subst z1 z2
        rcases h with h | h
        · exact h rfl
        · cases h
      have hl : 0 < (curW row cl).length := List.length_pos_iff.mpr hc
      refine ⟨_, rfl, _, -1, _, seqOf_lst r.hl, rfl, atI_last, _, _, rfl, seqOf_lst r.cur, ?_⟩
      show ∃ c_1, D.bl (decide ((((curW row cl).map D.str).length : Int) = 0) ^^ false) = .bl c_1 ∧ _
      rw [List.length_map, decide_eq_false (show ¬ ((curW row cl).length : Int) = 0 by omega)]
      refine ⟨_, rfl, goF ⟨_, rfl, k (d ++ [row]) l (as ++ [b]) S2 rfl r.sg (by rw [r.hl, List.map_append]; rfl) (by rw [List.length_append, List.length_append, hal]; rfl) (by rw [List.length_append, List.length_singleton]; omega) fun x hx => ?_⟩⟩
      rw [List.zip_append hal] at hx
      rcases List.mem_append.mp hx with hx | hx
      · have h2 := (List.of_mem_zip hx).2
        have := r.old (x.1, rowW x.2) (by rw [List.zip_map_right]; exact List.mem_map.mpr ⟨x, hx, rfl⟩)
        exact ⟨(hd' _ h2).1, (hd' _ h2).2, this⟩
      · have hx : x = (b, row) := List.mem_singleton.mp hx
        subst hx
        have := r.cur
        rw [curW_row hcl h] at this
        exact ⟨hin, l2, this⟩
    | finBad =>
      refine ⟨_, rfl, _, -1, _, seqOf_lst r.hl, rfl, atI_last, _, _, rfl, seqOf_lst r.cur, ?_⟩
      refine ⟨_, rfl, goT ⟨_, rfl, _, _, rfl, seqOf_lst (r.sg _ _ (fun z => z) hf), ?_⟩⟩
      rw [List.length_map]
      exact ⟨rfl, kx _ S2 rfl r.sg⟩
end Sv
set_option maxHeartbeats 2000000
set_option autoImplicit false
namespace Sv
open PySem PySem.Spec PyProof.Rows L2 TL
variable {S : Sto} {R : DK} {EX : DXc}
theorem w_rowOfL {r : List Int} {b : Addr} (hl : r.length ≤ 100000) (hr : InR r) (hb : S b = some (.lst ((rowW r).map D.str))) (k : ∀ S', SG S S' → R (.tup (intsD r)) S') : dFn 2 B_row_of_e8a1 [.ref b] S R := by
  unfold rowW at hb
  by_cases z : r = []
  · subst z
    rw [if_pos rfl] at hb
    refine ⟨_, rfl, _, ⟨_, hb, rfl⟩, lc_mapE [nonW] D.str rfl (fun _ => none) (by decide) (fun S' sg => sg _ _ (fun z => z) hb) (fun w hw S1 sg K Kn _ hn => turn_n ⟨_, rfl, ?_⟩) fun t S2 nt sg ht => ⟨_, _, rfl, seqOf_lst ht, fun ys z => (nomatch z), k S2 sg⟩⟩
    rw [List.mem_singleton.mp hw]
    show ∃ c, D.bl (decide (nonW = ("_" : Str)) ^^ true) = .bl c ∧ _
    rw [decide_eq_true (show nonW = ("_" : Str) from rfl)]
    exact ⟨_, rfl, goF (hn rfl _ (.refl _))⟩
  · rw [if_neg z] at hb
    refine ⟨_, rfl, _, ⟨_, hb, rfl⟩, lc_mapE r (fun i => D.str (evS i)) (by show (r.map evS).map D.str = _; rw [List.map_map]; rfl) (fun i => some (.int i)) (by omega) (fun S' sg => sg _ _ (fun z => z) hb) (fun i hi S1 sg K Kn hk _ => turn_n ⟨_, rfl, ?_⟩) fun t S2 nt sg ht => ⟨_, _, rfl, seqOf_lst ht, fun ys z => (nomatch z), ?_⟩⟩
    · have w := ev_w (hr i hi).1 (hr i hi).2
      show ∃ c, D.bl (decide (evS i = ("_" : Str)) ^^ true) = .bl c ∧ _
      rw [decide_eq_false (show ¬ evS i = ("_" : Str) from w.non)]
      exact ⟨_, rfl, goT ⟨_, rfl, rfl, w_evY (hr i hi).1 (hr i hi).2 (hk _ rfl _ (.refl _))⟩⟩
    · rw [fm_map]
      exact k S2 sg
theorem spl_facts (P : Nat → Prop) (sp : List Nat) : ∀ (l : List Nat) (k : Nat) (acc : List Nat), (∀ c ∈ acc, P c) → (∀ c ∈ l, P c) → (∀ w ∈ spl sp k acc l, (∀ c ∈ w, P c) ∧ w.length ≤ acc.length + l.length) ∧ (spl sp k acc l).length ≤ l.length + 1
  | [], k, acc, ha, hl => by
    rw [spl_nil]
    exact ⟨fun w hw => by rw [List.mem_singleton.mp hw]; exact ⟨ha, Nat.le_refl _⟩, Nat.le_refl _⟩
  | c :: r, 0, acc, ha, hl => by
    have hr : ∀ c ∈ r, P c := fun x hx => hl x (List.mem_cons_of_mem _ hx)
    cases h : pre sp (c :: r) with
    | true =>
      rw [spl_hit h]
      obtain ⟨h1, h2⟩ := spl_facts P sp r (sp.length - 1) [] (by simp) hr
      refine ⟨fun w hw => ?_, by rw [List.length_cons, List.length_cons]; omega⟩
      rcases List.mem_cons.mp hw with z | z
      · rw [z]; exact ⟨ha, Nat.le_add_right _ _⟩
      · have := h1 w z
        exact ⟨this.1, by have := this.2; rw [List.length_nil] at this; rw [List.length_cons]; omega⟩
    | false =>
      rw [spl_miss h]
      obtain ⟨h1, h2⟩ := spl_facts P sp r 0 (acc ++ [c]) (fun x hx => by
        rcases List.mem_append.mp hx with z | z
        · exact ha x z
        · rw [List.mem_singleton.mp z]; exact hl c List.mem_cons_self) hr
      refine ⟨fun w hw => ?_, by rw [List.length_cons]; omega⟩
      have := h1 w hw
      exact ⟨this.1, by have := this.2; rw [List.length_append, List.length_singleton] at this; rw [List.length_cons]; omega⟩
  | c :: r, k + 1, acc, ha, hl => by
    have hr : ∀ c ∈ r, P c := fun x hx => hl x (List.mem_cons_of_mem _ hx)
    obtain ⟨h1, h2⟩ := spl_facts P sp r k acc ha hr
    show (∀ w ∈ spl sp k acc r, _) ∧ (spl sp k acc r).length ≤ _
    exact ⟨fun w hw => ⟨(h1 w hw).1, by have := (h1 w hw).2; rw [List.length_cons]; omega⟩, by rw [List.length_cons]; omega⟩
theorem split_good {x : Str} (hx : Asc x) (hl : x.length ≤ 90000) : GoodW (Txt.split x spW) ∧ (Txt.split x spW).length ≤ x.length + 1 := by
  have e := split_spl x spW (by decide) (kind_ok (by decide +kernel))
  obtain ⟨h1, h2⟩ := spl_facts (fun c => c < 127) (tl spW) (tl x) 0 [] (by simp) hx
  rw [← e] at h1 h2
  rw [List.length_map, ← len_tl] at h2
  refine ⟨fun w hw => ?_, h2⟩
  have := h1 (tl w) (List.mem_map.mpr ⟨w, hw, rfl⟩)
  refine ⟨this.1, ?_⟩
  have := this.2
  rw [← len_tl, ← len_tl, List.length_nil] at this
  omega
theorem w_parseX {x : Str} {res : Res} (hx : Asc x) (hl : x.length ≤ 90000) (hr : Go [] [] false 0 (Txt.split x spW) res)
    (k : ∀ (rows : List (List Int)) (S' : Sto), res = .ok rows → SG S S' → heD rows = .non → R (.tup (rowsD rows)) S')
    (kh : ∀ (rows : List (List Int)) (S' : Sto), res = .ok rows → SG S S' → heD rows ≠ .non → EX "BadHistory" [("error", heD rows)] S')
    (kx : ∀ (i : Nat) (S' : Sto), res = .bad i → SG S S' → EX "BadText" [("index", .int (i : Int))] S') : dFnX 4 B_parse_history_f38e EX [.str x] S R := by
  obtain ⟨hgw, hwl⟩ := split_good hx hl
  refine ⟨_, rfl, _, _, _, true, rfl, rfl, by decide +kernel, _, rfl, goF ?_⟩
  refine ⟨_, rfl, rfl, _, rfl, _, rfl, _, rfl, by decide, Nat.le_trans (Nat.add_le_add_right hl 2) (by decide), fun f nf => ⟨rfl, ?_⟩⟩
  have sgf : SG S (S.put f (.lst ((Txt.split x spW).map D.str))) := .new nf
  have hf : (S.put f (.lst ((Txt.split x spW).map D.str))) f = some (.lst ((Txt.split x spW).map D.str)) := Sto.same
  show dFnX 4 B_rows_of_words_6edf _ [.ref f] (S.put f (.lst ((Txt.split x spW).map D.str))) _
  generalize S.put f (.lst ((Txt.split x spW).map D.str)) = S1 at sgf hf ⊢
  refine w_rowsX hf (by omega) hgw hr (fun rows l as S2 he sg2 hl2 hal hrl hrow => ⟨_, ⟨_, hl2, rfl⟩, ?_⟩) (fun i S2 he sg2 => kx i S2 he (sgf.trans sg2))
  refine lc_mapE (as.zip rows) (fun x => D.ref x.1) (zip_ref (by omega)) (fun x => some (rowD x.2)) (by rw [List.length_zip]; omega) (fun S' sg => sg _ _ (fun z => z) hl2) (fun y hy S3 sg3 K Kn hk _ => turn_y ⟨_, rfl, rfl, ?_⟩) fun t S4 nt sg4 ht => ⟨_, _, rfl, seqOf_lst ht, fun ys z => (nomatch z), ?_⟩
  · obtain ⟨h1, h2, hb⟩ := hrow y hy
    exact w_rowOfL (by omega) h1 (sg3 _ _ (fun z => z) hb) (hk _ rfl)
  · rw [fm_map]
    rw [zip_row (by omega)]
    refine ⟨_, rfl, rfl, w_herr fun S5 sg5 => ?_⟩
    have sg := ((sgf.trans sg2).trans sg4).trans sg5
    rcases Classical.em (heD rows = .non) with he2 | he2
    · rw [he2]
      exact ⟨_, rfl, _, rfl, goF ⟨_, rfl, k rows S5 he sg he2⟩⟩
    · have e : isNon (heD rows) = false := by
        cases hd : heD rows with
        | non => exact absurd hd he2
        | _ => rfl
      refine ⟨_, rfl, _, rfl, ?_⟩
      rw [e]
      exact goT ⟨_, rfl, rfl, kh rows S5 he sg he2⟩
theorem w_parseN {v : D} {t : String} (ht : t ∈ tys) (hd : tyD S v = some t) (hn : t ≠ "str") (kx : EX "BadText" [("index", .non)] S) : dFnX 4 B_parse_history_f38e EX [v] S R := by
  have hk : kitB t "str" = some false := by
    unfold tys at ht
    simp only [List.mem_cons, List.not_mem_nil, or_false] at ht
    rcases ht with rfl | rfl | rfl | rfl | rfl | rfl | rfl
    all_goals first | exact absurd rfl hn | decide +kernel
  exact ⟨_, rfl, _, _, _, false, rfl, hd, hk, _, rfl, goT ⟨rfl, kx⟩⟩
end Sv
set_option maxHeartbeats 2000000
set_option autoImplicit false
namespace Sv
open PySem PySem.Spec PyProof.Rows L2 TL
variable {S : Sto} {R : DK}
def dueL : Res → List D
  | .ok rows => if isNon (heD rows) = true then [.str "value", .tup (rowsD rows)] else [.str "rows", heD rows]
  | .bad i => [.str "wrong", .int (i : Int)]
theorem due_ok {rows : List (List Int)} (h : heD rows = .non) : dueL (.ok rows) = [.str "value", .tup (rowsD rows)] := by
  unfold dueL
  simp only [h]
  rfl
theorem due_he {rows : List (List Int)} (h : heD rows ≠ .non) : dueL (.ok rows) = [.str "rows", heD rows] := by
  have e : isNon (heD rows) = false := by
    cases hd : heD rows with
    | non => exact absurd hd h
    | _ => rfl
  unfold dueL
  simp only [e]
  rfl
theorem w_toldX {x : Str} {res : Res} (hx : Asc x) (hl : x.length ≤ 90000) (hr : Go [] [] false 0 (Txt.split x spW) res)
    (k : ∀ (g : Addr) (S' : Sto), SG S S' → S' g = some (.lst (dueL res)) → R (.ref g) S') : dFn 3 B_law_told_75e9 [.str x] S R := by
  have mH : ∀ {b c : Bool}, (("BadHistory" : Str), b) ∈ [(("BadHistory" : Str), b), (("BadText" : Str), c)] := .head _
  have mT : ∀ {b c : Bool}, (("BadText" : Str), b) ∈ [(("BadHistory" : Str), c), (("BadText" : Str), b)] := .tail _ (.head _)
  refine ⟨_, rfl, rfl, w_parseX hx hl hr (fun rows S1 he sg1 h0 => ⟨rfl, fun g ng ns => ⟨_, rfl, k g _ (sg1.trans (.new ng)) ?_⟩⟩) (fun rows S1 he sg1 h0 => ⟨rfl, true, mH, goT ⟨rfl, fun g ng => ⟨false, mH, goF (goF ⟨true, mH, goT ⟨false, false, mH, mH, goT ⟨rfl, _, rfl, rfl, fun g2 ng2 => ⟨_, rfl, k g2 _ ((sg1.trans (.new ng)).trans (.new ng2)) ?_⟩⟩⟩⟩)⟩⟩⟩) (fun i S1 he sg1 => ⟨rfl, true, mT, goT ⟨rfl, fun g ng => ⟨true, mT, goT ⟨false, false, mT, mT, goT ⟨rfl, _, rfl, rfl, fun g2 ng2 => ⟨_, rfl, k g2 _ ((sg1.trans (.new ng)).trans (.new ng2)) ?_⟩⟩⟩⟩⟩⟩)⟩
  · rw [he, due_ok h0, Sto.same]
  · rw [he, due_he h0, Sto.same]
  · rw [he, Sto.same]
    rfl
theorem w_toldN {v : D} {t : String} (ht : t ∈ tys) (hd : tyD S v = some t) (hn : t ≠ "str")
    (k : ∀ (g : Addr) (S' : Sto), SG S S' → S' g = some (.lst [.str "wrong", .non]) → R (.ref g) S') : dFn 3 B_law_told_75e9 [v] S R := by
  have mH : ∀ {b c : Bool}, (("BadHistory" : Str), b) ∈ [(("BadHistory" : Str), b), (("BadText" : Str), c)] := .head _
  have mT : ∀ {b c : Bool}, (("BadText" : Str), b) ∈ [(("BadHistory" : Str), c), (("BadText" : Str), b)] := .tail _ (.head _)
  exact ⟨_, rfl, rfl, w_parseN ht hd hn ⟨rfl, true, mT, goT ⟨rfl, fun g ng => ⟨true, mT, goT ⟨false, false, mT, mT, goT ⟨rfl, _, rfl, rfl, fun g2 ng2 => ⟨_, rfl, k g2 _ (SK.trans (SK.new ng) (SK.new ng2)) Sto.same⟩⟩⟩⟩⟩⟩⟩
theorem cmpRow {n : Bool} {env : Env} {q : Addr} {row : List Int} {Q : Bool → Sto → Prop} (h3 : env[3]? = some (some (.ref q))) (hq : S q = some (.lst (intsD row))) (k : ∀ S', SG S S' → Q (decide (row = []) ^^ n) S') : dB (dBin (rEqq n) (dVar 3) (dLst dNil)) env S Q := by
  refine ⟨_, h3, rfl, fun b nb => ?_⟩
  have sg : SG S (S.put b (.lst [])) := .new nb
  have hb : (S.put b (.lst [])) b = some (.lst (intsD [])) := Sto.same
  refine ⟨_, _, .lst (sg _ _ (fun z => z) hq) (pys_ints row), .lst hb (pys_ints []), shaped_lst row, shaped_lst [], _, rfl, ?_⟩
  have e : PyData.eqv (.list (row.map PyData.int)) (.list (([] : List Int).map PyData.int)) = decide (row = []) := by
    rw [PyData.eqv]
    cases row with
    | nil => rfl
    | cons a r => rfl
  rw [e]
  exact k _ sg
theorem w_dueN {v : D} {t : String} (ht : t ∈ tys) (hd : tyD S v = some t) (hn : t ≠ "str")
    (k : ∀ (g : Addr) (S' : Sto), SG S S' → S' g = some (.lst [.str "wrong", .non]) → R (.ref g) S') : dFn 9 B_law_due_dd10 [v] S R := by
  have hk : kitB t "str" = some false := by
    unfold tys at ht
    simp only [List.mem_cons, List.not_mem_nil, or_false] at ht
    rcases ht with rfl | rfl | rfl | rfl | rfl | rfl | rfl
    all_goals first | exact absurd rfl hn | decide +kernel
  exact ⟨_, rfl, _, _, _, false, rfl, hd, hk, _, rfl, goT ⟨rfl, fun g ng => k g _ (.new ng) Sto.same⟩⟩
theorem w_dueX {x : Str} {res : Res} (hx : Asc x) (hl : x.length ≤ 90000) (hr : Go [] [] false 0 (Txt.split x spW) res)
    (k : ∀ (g : Addr) (S' : Sto), SG S S' → S' g = some (.lst (dueL res)) → R (.ref g) S') : dFn 9 B_law_due_dd10 [.str x] S R := by
  obtain ⟨hgw, hwl⟩ := split_good hx hl
  refine ⟨_, rfl, _, _, _, true, rfl, rfl, by decide +kernel, _, rfl, goF ?_⟩
  refine ⟨_, rfl, _, rfl, _, rfl, by decide, Nat.le_trans (Nat.add_le_add_right hl 2) (by decide), fun f nf => ⟨rfl, fun p np => ⟨rfl, fun q nq => ⟨rfl, _, rfl, .inl (.inl rfl), _, _, rfl, _, _, rfl, _, _, rfl, _, _, rfl, rfl, ?_⟩⟩⟩⟩
  have hf0 : (S.put f (.lst ((Txt.split x spW).map D.str))) f = some (.lst ((Txt.split x spW).map D.str)) := Sto.same
  have sgf : SG S (S.put f (.lst ((Txt.split x spW).map D.str))) := .new nf
  generalize hS1 : S.put f (.lst ((Txt.split x spW).map D.str)) = S1 at sgf hf0
  have np : S1 p = none := by rw [← hS1]; exact np
  have nq : (S1.put p (.lst [])) q = none := by rw [← hS1]; exact nq
  have pq : p ≠ q := fun z => by rw [← z, Sto.same] at nq; cases nq
  have nq1 : S1 q = none := by rw [Sto.ne (fun z => pq z.symm)] at nq; exact nq
  have sgp : SG S1 ((S1.put p (.lst [])).put q (.lst [])) := SK.trans (SK.new np) (SK.new nq)
  have hp2 : ((S1.put p (.lst [])).put q (.lst [])) p = some (.lst (rowsD [])) := by rw [Sto.ne pq, Sto.same]; rfl
  have hq2 : ((S1.put p (.lst [])).put q (.lst [])) q = some (.lst (intsD [])) := Sto.same
  generalize (S1.put p (.lst [])).put q (.lst []) = S2 at sgp hp2 hq2 ⊢
  generalize hws : Txt.split x spW = ws at hgw hwl hf0 hr
  clear hS1
  have hf2 := sgp _ _ (fun z => z) hf0
  have wl : ws.length ≤ 90001 := by omega
  refine ⟨_, rfl, _, _, rfl, ⟨_, hf2, rfl⟩, fun n env S' => ∃ (d : List (List Int)) (row : List Int) (cl : Bool) (q : Addr) (x5 x6 x7 : Option D), env = [some (.str x), some (.ref f), some (.ref p), some (.ref q), some (.bl cl), x5, x6, x7, none] ∧ SG S1 S' ∧ S' p = some (.lst (rowsD d)) ∧ S' q = some (.lst (intsD row)) ∧ S1 q = none ∧ p ≠ q ∧ Go d row cl n (ws.drop n) res ∧ (cl = true → row = []) ∧ d.length ≤ n ∧ row.length ≤ n ∧ n ≤ ws.length, ⟨[], [], false, q, _, _, _, rfl, sgp, hp2, hq2, nq1, pq, hr, (by simp), Nat.zero_le _, Nat.zero_le _, Nat.zero_le _⟩, fun i env S' _ ⟨_, _, _, _, _, _, _, _, sg, _⟩ => sg _ _ (fun z => z) hf0, ?_, ?_⟩
  · rintro n dd env S3 hd ⟨d, row, cl, q, x5, x6, x7, rfl, sg, hp, hq, fq, pq, hrun, hcl, l1, l2, l3⟩
    obtain ⟨w, hw, rfl⟩ := enD_strs hd
    obtain ⟨hn, hwe⟩ := List.getElem?_eq_some_iff.mp hw
    rw [List.drop_eq_getElem_cons hn, hwe] at hrun
    have hgw' := hgw w (List.mem_of_getElem? hw)
    have wrong : ∀ {ev : D} {S' : Sto}, res = .bad n → SG S1 S' → dRet (dLst (dCons (dC (.str "wrong")) (dCons (dVar 5) dNil))) { nx := fun _ _ => False, rt := R } [some (.str x), some (.ref f), some (.ref p), some (.ref q), some (.bl cl), some (.int (n : Int)), some (.str w), some ev, none] S' := fun he sg' => by
      refine ⟨_, rfl, rfl, fun g ng => k g _ (sgf.trans (sg'.trans (.new ng))) ?_⟩
      rw [he, Sto.same]
      rfl
    refine ⟨_, rfl, .inl (.inl rfl), _, _, rfl, _, _, rfl, rfl, ?_⟩
    cases hrun with
    | bar h h' =>
      refine ⟨_, rfl, rfl, w_lawEvN hgw'.1 hgw'.2 (fun i a b z => (ev_w a b).bar z.symm) fun S4 sg4 => ⟨_, rfl, _, rfl, ?_⟩⟩
      rw [xor_ff, decide_eq_true (show barW = ("|" : Str) from rfl)]
      refine goT (cmpRow rfl (sg4 _ _ (fun z => z) hq) fun S5 sg5 => ?_)
      have sg45 := sg4.trans sg5
      have go : (dSeq (dDrop (dMtq "list" mAppend (dVar 2) (dCons (dCB rTupq (dCons (dVar 3) dNil)) dNil))) (dAsg (dTup (dCons (dLst dNil) (dCons (dC (.bl false)) dNil))) (dUnp 2 (dgCons (dgName 3) (dgCons (dgName 4) dgNil))))) { nx := fun env' S' => ∃ (d : List (List Int)) (row : List Int) (cl : Bool) (q : Addr) (x5 x6 x7 : Option D), env' = [some (.str x), some (.ref f), some (.ref p), some (.ref q), some (.bl cl), x5, x6, x7, none] ∧ SG S1 S' ∧ S' p = some (.lst (rowsD d)) ∧ S' q = some (.lst (intsD row)) ∧ S1 q = none ∧ p ≠ q ∧ Go d row cl (n + 1) (ws.drop (n + 1)) res ∧ (cl = true → row = []) ∧ d.length ≤ n + 1 ∧ row.length ≤ n + 1 ∧ n + 1 ≤ ws.length, rt := R } [some (.str x), some (.ref f), some (.ref p), some (.ref q), some (.bl cl), some (.int (n : Int)), some (.str barW), some .non, none] S5 := by
        have hp5 := sg45 _ _ (fun z => z) hp
        have hq5 := sg45 _ _ (fun z => z) hq
        refine ⟨_, rfl, ⟨rfl, _, seqOf_lst hp5, fun _ z => (nomatch z), fun _ z => (nomatch z)⟩, _, rfl, _, _, rfl, seqOf_lst hq5, fun _ z => (nomatch z), p, _, _, rfl, rfl, hp5, by rw [rowsD, List.length_map]; omega, rfl, fun q' nq' => ⟨rfl, _, rfl, .inl (.inl rfl), _, _, rfl, _, _, rfl, rfl, d ++ [row], [], false, q', _, _, _, rfl, ?_, ?_, Sto.same, ?_, ?_, h', (by simp), by rw [List.length_append, List.length_singleton]; omega, Nat.zero_le _, by omega⟩⟩
        · exact SK.trans (SG.keepP np sg sg45) (SK.new nq')
        · rw [Sto.ne (fun z => by rw [← z, Sto.same] at nq'; cases nq'), Sto.same, rowsD, rowsD, List.map_append]; rfl
        · have pq' : q' ≠ p := fun z => by rw [z, Sto.same] at nq'; cases nq'
          rw [Sto.ne pq'] at nq'
          exact SG.none (SK.trans sg sg45) nq'
        · exact fun z => by rw [← z, Sto.same] at nq'; cases nq'
      rw [xor_tt]
      by_cases hrow : row = []
      · rw [decide_eq_true hrow]
        have hc : cl = true := h.elim (fun z => absurd hrow z) id
        refine goF ⟨_, rfl, _, rfl, ?_⟩
        subst hc
        exact goT go
      · rw [decide_eq_false hrow]
        exact goT (goT go)
    | non h' =>
      refine ⟨_, rfl, rfl, w_lawEvN hgw'.1 hgw'.2 (fun i a b z => (ev_w a b).non z.symm) fun S4 sg4 => ⟨_, rfl, _, rfl, ?_⟩⟩
      rw [xor_ff, decide_eq_false (show ¬ nonW = ("|" : Str) by decide)]
      refine goF ⟨_, rfl, _, rfl, ?_⟩
      rw [xor_ff, decide_eq_true (show nonW = ("_" : Str) from rfl)]
      refine goT (cmpRow rfl (sg4 _ _ (fun z => z) hq) fun S5 sg5 => ?_)
      have sg45 := sg4.trans sg5
      rw [xor_ff, decide_eq_true (show ([] : List Int) = [] from rfl)]
      refine goT ⟨_, rfl, _, rfl, goT ?_⟩
      exact ⟨d, [], true, q, _, _, _, rfl, sg.trans sg45, sg45 _ _ (fun z => z) hp, sg45 _ _ (fun z => z) hq, fq, pq, h', fun _ => rfl, by omega, Nat.zero_le _, by omega⟩
    | @ev _ _ _ i _ _ h0 h1 h' =>
      have we := ev_w h0 h1
      refine ⟨_, rfl, rfl, w_lawEvY h0 h1 fun S4 sg4 => ⟨_, rfl, _, rfl, ?_⟩⟩
      rw [xor_ff, decide_eq_false (show ¬ evS i = ("|" : Str) from we.bar)]
      refine goF ⟨_, rfl, _, rfl, ?_⟩
      rw [xor_ff, decide_eq_false (show ¬ evS i = ("_" : Str) from we.non)]
      refine goF ⟨_, rfl, _, rfl, goT ⟨_, rfl, _, rfl, goT ?_⟩⟩
      have hp4 := sg4 _ _ (fun z => z) hp
      have hq4 := sg4 _ _ (fun z => z) hq
      refine ⟨_, rfl, ⟨rfl, _, seqOf_lst hq4, fun _ z => (nomatch z), fun _ z => (nomatch z)⟩, _, rfl, q, _, _, rfl, rfl, hq4, by rw [intsD_len]; omega, d, row ++ [i], false, q, _, _, _, rfl, SG.keepP fq (sg.trans sg4) (.refl _), ?_, ?_, fq, pq, h', (by simp), by omega, by rw [List.length_append, List.length_singleton]; omega, by omega⟩
      · rw [Sto.ne pq]; exact hp4
      · rw [Sto.same, intsD, intsD, List.map_append]; rfl
    | wrong hb =>
      cases hb with
      | bar hw' =>
        refine ⟨_, rfl, rfl, w_lawEvN hgw'.1 hgw'.2 (fun i a b z => (ev_w a b).bar (by rw [← z, hw'])) fun S4 sg4 => ⟨_, rfl, _, rfl, ?_⟩⟩
        rw [xor_ff, decide_eq_true (show w = ("|" : Str) from hw')]
        refine goT (cmpRow rfl (sg4 _ _ (fun z => z) hq) fun S5 sg5 => ?_)
        have sg45 := sg4.trans sg5
        rw [xor_tt, decide_eq_true (show ([] : List Int) = [] from rfl)]
        refine goF ⟨_, rfl, _, rfl, goF ⟨_, rfl, _, rfl, ?_⟩⟩
        rw [xor_ff, decide_eq_false (show ¬ w = ("_" : Str) by rw [hw']; decide)]
        exact goF ⟨_, rfl, _, rfl, goF (wrong rfl (sg.trans sg45))⟩
      | non hw' hno =>
        refine ⟨_, rfl, rfl, w_lawEvN hgw'.1 hgw'.2 (fun i a b z => (ev_w a b).non (by rw [← z, hw'])) fun S4 sg4 => ⟨_, rfl, _, rfl, ?_⟩⟩
        rw [xor_ff, decide_eq_false (show ¬ w = ("|" : Str) by rw [hw']; decide)]
        refine goF ⟨_, rfl, _, rfl, ?_⟩
        rw [xor_ff, decide_eq_true (show w = ("_" : Str) from hw')]
        refine goT (cmpRow rfl (sg4 _ _ (fun z => z) hq) fun S5 sg5 => ?_)
        have sg45 := sg4.trans sg5
        rw [xor_ff]
        by_cases hrow : row = []
        · rw [decide_eq_true hrow]
          have hc : cl = true := by cases cl with | true => rfl | false => exact absurd ⟨hrow, rfl⟩ hno
          subst hc
          exact goT ⟨_, rfl, _, rfl, goF ⟨_, rfl, _, rfl, goF (wrong rfl (sg.trans sg45))⟩⟩
        · rw [decide_eq_false hrow]
          exact goF (goF ⟨_, rfl, _, rfl, goF (wrong rfl (sg.trans sg45))⟩)
      | @cl _ i h0 h1 =>
        have we := ev_w h0 h1
        refine ⟨_, rfl, rfl, w_lawEvY h0 h1 fun S4 sg4 => ⟨_, rfl, _, rfl, ?_⟩⟩
        rw [xor_ff, decide_eq_false (show ¬ evS i = ("|" : Str) from we.bar)]
        refine goF ⟨_, rfl, _, rfl, ?_⟩
        rw [xor_ff, decide_eq_false (show ¬ evS i = ("_" : Str) from we.non)]
        exact goF ⟨_, rfl, _, rfl, goT ⟨_, rfl, _, rfl, goF (wrong rfl (sg.trans sg4))⟩⟩
      | no hb hn' he =>
        refine ⟨_, rfl, rfl, w_lawEvN hgw'.1 hgw'.2 he fun S4 sg4 => ⟨_, rfl, _, rfl, ?_⟩⟩
        rw [xor_ff, decide_eq_false (show ¬ w = ("|" : Str) from hb)]
        refine goF ⟨_, rfl, _, rfl, ?_⟩
        rw [xor_ff, decide_eq_false (show ¬ w = ("_" : Str) from hn')]
        exact goF ⟨_, rfl, _, rfl, goF (wrong rfl (sg.trans sg4))⟩
  · rintro env S3 ⟨d, row, cl, q, x5, x6, x7, rfl, sg, hp, hq, fq, pq, hrun, hcl, l1, l2, l3⟩
    have e0 : (enD (ws.map D.str)).length = ws.length := by rw [enD_len, List.length_map]
    have e : ws.drop (enD (ws.map D.str)).length = [] := by rw [e0, List.drop_length]
    have hrun : Go d row cl (enD (ws.map D.str)).length (ws.drop (enD (ws.map D.str)).length) res := hrun
    have l1 : d.length ≤ (enD (ws.map D.str)).length := l1
    rw [e, e0] at hrun
    rw [e0] at l1
    refine cmpRow rfl hq fun S4 sg4 => ?_
    rw [xor_ff]
    have hf4 := SK.trans sg sg4 _ _ (fun z => z) hf0
    have hp4 := sg4 _ _ (fun z => z) hp
    have hq4 := sg4 _ _ (fun z => z) hq
    have sg24 := SK.trans sg sg4
    cases hrun with
    | finBad =>
      rw [decide_eq_true (show ([] : List Int) = [] from rfl)]
      refine goT ⟨_, rfl, _, rfl, goT ⟨_, rfl, _, _, rfl, seqOf_lst hf4, rfl, fun g ng => k g _ (SK.trans (SK.trans sgf sg24) (SK.new ng)) ?_⟩⟩
      rw [Sto.same, List.length_map]
      rfl
    | fin h =>
      have fin : (dSeq (dAsg (dCB rTupq (dCons (dBin rAdd (dVar 2) (dLst (dCons (dCB rTupq (dCons (dVar 3) dNil)) dNil))) dNil)) (dgName 2)) (dSeq (dAsg (dCall 1 (dFn 1 B_history_error_d6f4) (dCons (dVar 2) dNil)) (dgName 8)) (dRet (dIf (dB (dIsN (dVar 8))) (dLst (dCons (dC (.str "value")) (dCons (dVar 2) dNil))) (dLst (dCons (dC (.str "rows")) (dCons (dVar 8) dNil))))))) { nx := fun _ S' => R .non S', rt := R } [some (.str x), some (.ref f), some (.ref p), some (.ref q), some (.bl cl), x5, x6, x7, none] S4 := by
        refine ⟨_, rfl, _, rfl, _, _, rfl, seqOf_lst hq4, fun _ z => (nomatch z), rfl, fun b nb => ?_⟩
        have sgb : SG S4 (S4.put b (.lst [.tup (intsD row)])) := .new nb
        refine ⟨_, _, sgb _ _ (fun z => z) hp4, Sto.same, by rw [rowsD, List.length_map]; show _ + 1 ≤ _; omega, fun c nc => ⟨_, _, rfl, seqOf_lst Sto.same, fun _ z => (nomatch z), ?_⟩⟩
        have er : rowsD d ++ [D.tup (intsD row)] = rowsD (d ++ [row]) := by rw [rowsD, rowsD, List.map_append]; rfl
        rw [er]
        have sgc := SK.trans sgb (SK.new (o := .lst (rowsD (d ++ [row]))) nc)
        refine ⟨_, rfl, rfl, w_herr fun S6 sg6 => ?_⟩
        have sgall := SK.trans (SK.trans (SK.trans sgf sg24) sgc) sg6
        rcases Classical.em (heD (d ++ [row]) = .non) with he | he
        · have e1 : isNon (heD (d ++ [row])) = true := by rw [he]; rfl
          refine ⟨_, rfl, _, rfl, ?_⟩
          rw [e1]
          refine goT ⟨_, rfl, rfl, fun g ng => k g _ (SK.trans sgall (SK.new ng)) ?_⟩
          rw [Sto.same, due_ok he]
        · have e1 : isNon (heD (d ++ [row])) = false := by
            cases hd : heD (d ++ [row]) with
            | non => exact absurd hd he
            | _ => rfl
          refine ⟨_, rfl, _, rfl, ?_⟩
          rw [e1]
          refine goF ⟨_, rfl, rfl, fun g ng => k g _ (SK.trans sgall (SK.new ng)) ?_⟩
          rw [Sto.same, due_he he]
      by_cases hrow : row = []
      · rw [decide_eq_true hrow]
        have hc : cl = true := h.elim (fun z => absurd hrow z) id
        subst hc
        exact goT ⟨_, rfl, _, rfl, goF fin⟩
      · rw [decide_eq_false hrow]
        exact goF (goF fin)
end Sv
set_option maxHeartbeats 2000000
set_option autoImplicit false
namespace Sv
open PySem PySem.Spec PyProof.Rows L2 TL
variable {S : Sto} {R : DK}
def SmF (d : D) : Prop := ∃ p, (∀ S, Py S d p) ∧ Fine 1 400 p
theorem smf_non : SmF .non := ⟨.none, fun S => .non, fine_none41.mono (by decide) (by decide)⟩
theorem smf_s {x : Str} (h1 : PyData.weight (.str x) ≤ 101) (h2 : PyData.canLay0 (.str x) = true) : SmF (.tup [.str x]) :=
  ⟨.tuple [.str x], fun S => .tup (.cons (.str _) .nil), (fine_tuple (fine_cons (fine_str h1 h2 rfl) fine_nil)).mono (by decide) (by decide)⟩
theorem smf_ij {x : Str} {i j : Nat} (h1 : PyData.weight (.str x) ≤ 101) (h2 : PyData.canLay0 (.str x) = true) (hi : i ≤ 100000) (hj : j ≤ 100000) : SmF (.tup [.str x, .int (i : Int), .int (j : Int)]) := by
  have e : (10 : Nat) ^ 30 = 1000000000000000000000000000000 := by decide
  exact ⟨.tuple [.str x, .int i, .int j], fun S => .tup (.cons (.str _) (.cons (.int _) (.cons (.int _) .nil))), (fine_tuple (fine_cons (fine_str h1 h2 rfl) (fine_cons (fine_int (by omega)) (fine_cons (fine_int (by omega)) fine_nil)))).mono (by decide) (by decide)⟩
theorem twF_mem {x : Nat × Nat × Int} : ∀ {L : List (Nat × Nat × Int)} {ns : List Int}, twF ns L = some x → x ∈ L := by
  intro L
  induction L with
  | nil => intro ns h; cases h
  | cons y L ih =>
    intro ns h
    unfold twF at h
    by_cases z : y.2.2 ∈ ns
    · rw [if_pos z] at h
      rw [Option.some.inj h]
      exact List.mem_cons_self
    · rw [if_neg z] at h
      exact List.mem_cons_of_mem _ (ih h)
theorem smf_he (rows : List (List Int)) : SmF (heD rows) := by
  rcases sh_cases rows with ⟨h, h1, h6, h60⟩ | ⟨hn, t, h⟩
  · have hb : ∀ x ∈ placed rows, x.1 ≤ 100000 ∧ x.2.1 ≤ 100000 := fun x hx => by
      obtain ⟨row, h1, h2⟩ := placed_mem hx
      have a := (List.getElem?_eq_some_iff.mp h1).1
      have b := (List.getElem?_eq_some_iff.mp h2).1
      rw [total_flat] at h60
      have := (List.sublist_flatten_of_mem (List.mem_of_getElem? h1)).length_le
      omega
    have he : heD rows = (match evErr rows with
      | some x => errD "event" (some x)
      | none => match twErr rows with
        | some x => errD "twice" (some x)
        | none => match unErr rows with
          | some x => errD "unsent" (some x)
          | none => cirD rows) := by unfold heD; first | (rw [h]; rfl) | rw [h]
    rw [he]
    cases h2 : evErr rows with
    | some x =>
      have := hb x (List.mem_of_find?_eq_some h2)
      exact smf_ij (by decide +kernel) (by decide +kernel) this.1 this.2
    | none =>
      show SmF (match twErr rows with
        | some x => errD "twice" (some x)
        | none => match unErr rows with
          | some x => errD "unsent" (some x)
          | none => cirD rows)
      cases ht : twErr rows with
      | some x =>
        have := hb x (twF_mem ht)
        exact smf_ij (by decide +kernel) (by decide +kernel) this.1 this.2
      | none =>
        show SmF (match unErr rows with
          | some x => errD "unsent" (some x)
          | none => cirD rows)
        cases hu : unErr rows with
        | some x =>
          have := hb x (List.mem_of_find?_eq_some hu)
          exact smf_ij (by decide +kernel) (by decide +kernel) this.1 this.2
        | none =>
          show SmF (cirD rows)
          unfold cirD
          split
          · exact smf_s (by decide +kernel) (by decide +kernel)
          · exact smf_non
  · have he : heD rows = .tup [.str t] := by unfold heD; first | (rw [h]; rfl) | rw [h]
    rw [he]
    have ht : t = Str.ofString "events" ∨ t = Str.ofString "history" := by
      unfold shD at h
      split at h
      · split at h
        · cases h; exact .inl rfl
        · cases h
      · cases h; exact .inr rfl
    rcases ht with rfl | rfl <;> exact smf_s (by decide +kernel) (by decide +kernel)
theorem go_bad {d : List (List Int)} {row : List Int} {cl : Bool} {n : Nat} {ws : List Str} {r : Res} (h : Go d row cl n ws r) : ∀ i, r = .bad i → i ≤ n + ws.length := by
  induction h with
  | fin _ => intro i z; cases z
  | finBad => intro i z; cases z; simp
  | bar _ _ ih => intro i z; have := ih i z; rw [List.length_cons]; omega
  | non _ ih => intro i z; have := ih i z; rw [List.length_cons]; omega
  | ev _ _ _ ih => intro i z; have := ih i z; rw [List.length_cons]; omega
  | wrong _ => intro i z; cases z; omega
theorem due_text {res : Res} (hb : ∀ i, res = .bad i → i ≤ 100000) : ∃ p, (∀ (S : Sto) (a : Addr), S a = some (.lst (dueL res)) → Py S (.ref a) p) ∧ Text p := by
  cases res with
  | bad i =>
    have hi := hb i rfl
    have e : (10 : Nat) ^ 30 = 1000000000000000000000000000000 := by decide
    refine ⟨.list [.str "wrong", .int i], fun S a h => .lst h (.cons (.str _) (.cons (.int _) .nil)), ?_⟩
    exact (fine_list (fine_cons (fine_str (by decide +kernel) (by decide +kernel) rfl) (fine_cons (fine_int (by omega)) fine_nil))).text (by decide) (by decide) rfl
  | ok rows =>
    rcases Classical.em (heD rows = .non) with he | he
    · have hH : Hist rows := he_iff.mp (by rw [he]; rfl)
      have hR : ∀ r ∈ rows, r.length ≤ 60 ∧ ∀ x ∈ r, -24 ≤ x ∧ x ≤ 24 := fun r hr => by
        have ht := hH.tot
        rw [total_flat] at ht
        have := (List.sublist_flatten_of_mem hr).length_le
        exact ⟨by omega, fun x hx => hH.rng r hr x hx⟩
      have h1 : ∀ d ∈ (rows.map fun r => PyData.tuple (r.map PyData.int)), Fine 1 6120 d := fun d hd => by
        obtain ⟨r, hr, rfl⟩ := List.mem_map.mp hd
        have hb := hR r hr
        have q : FineAll 0 (102 * r.length) (iD r) := fine_ints fun x hx => by
          have := hb.2 x hx
          have e : (10 : Nat) ^ 30 = 1000000000000000000000000000000 := by decide
          omega
        exact (fine_tuple q).mono (Nat.le_refl _) (by omega)
      have q := fine_tuple (fine_all h1)
      rw [List.length_map] at q
      have q := q.mono (Nat.le_refl _) (Nat.le_trans (Nat.mul_le_mul_left _ hH.l6) (show (6120 + 1) * 6 ≤ 37000 by decide))
      rw [due_ok he]
      refine ⟨.list [.str "value", rPy rows], fun S a h => .lst h (.cons (.str _) (.cons (py_rows rows) .nil)), ?_⟩
      exact (fine_list (fine_cons ((fine_str (by decide +kernel) (by decide +kernel) rfl).mono (Nat.zero_le 2) (Nat.le_refl _)) (fine_cons q (fine_nil.mono (Nat.zero_le _) (Nat.le_refl _))))).text (by decide) (by decide) rfl
    · obtain ⟨p, hp, f⟩ := smf_he rows
      rw [due_he he]
      refine ⟨.list [.str "rows", p], fun S a h => .lst h (.cons (.str _) (.cons (hp S) .nil)), ?_⟩
      exact (fine_list (fine_cons ((fine_str (by decide +kernel) (by decide +kernel) rfl).mono (Nat.zero_le 1) (Nat.le_refl _)) (fine_cons f (fine_nil.mono (Nat.zero_le _) (Nat.le_refl _))))).text (by decide) (by decide) rfl
/-- a value that is read twice, once by each -/
inductive Rd (S : Sto) : D → Prop
  | str {x : Str} : Asc x → x.length ≤ 90000 → Rd S (.str x)
  | oth {v : D} {t : String} : t ∈ tys → (∀ S', SG S S' → tyD S' v = some t) → t ≠ "str" → Rd S v
end Sv
set_option maxHeartbeats 2000000
set_option autoImplicit false
namespace Sv
open PySem PySem.Spec PyProof.Rows L2 TL
structure GB (b : Nat) (y : Str) : Prop where
  asc : Asc y
  len : y.length ≤ b
theorem GB.mono {a b : Nat} {y : Str} (h : GB a y) (e : a ≤ b) : GB b y := ⟨h.asc, Nat.le_trans h.len e⟩
theorem GB.app {a b : Nat} {x y : Str} (h : GB a x) (g : GB b y) : GB (a + b) (x ++ y) := by
  refine ⟨fun c hc => ?_, ?_⟩
  · rw [tl_append] at hc
    rcases List.mem_append.mp hc with z | z
    · exact h.asc c z
    · exact g.asc c z
  · have := h.len
    have := g.len
    rw [len_tl, tl_append, List.length_append, ← len_tl, ← len_tl]
    omega
theorem GB.cut {b : Nat} {x : Str} (h : GB b x) (lo hi : Option Int) : GB b (L2.cutS x lo hi) := by
  refine ⟨fun c hc => h.asc c ?_, Nat.le_trans (cutS_length x lo hi) h.len⟩
  have hc : c ∈ ((x.cps.toList.drop (HT.sIx x.length 0 lo)).take (HT.sIx x.length x.length hi - HT.sIx x.length 0 lo)) := hc
  exact List.mem_of_mem_drop (List.mem_of_mem_take hc)
theorem rev_len (n : Nat) : (Builtin.Str.strSliceIndices none none (-1) n).length = n := by
  unfold Builtin.Str.strSliceIndices sliceRange
  simp only [List.length_map, List.length_range]
  split
  · rename_i h; exact absurd h (by decide)
  · split
    · rw [show (- -1 : Int) = 1 from rfl, Int.ediv_one]
      omega
    · omega
theorem GB.rev {b : Nat} {x : Str} (h : GB b x) : GB b (revS x) := by
  refine ⟨fun c hc => ?_, ?_⟩
  · have hc : c ∈ (Builtin.Str.strSliceIndices none none (-1) x.length).filterMap (x.cps[·]?) := hc
    obtain ⟨i, _, hi⟩ := List.mem_filterMap.mp hc
    exact h.asc c (by
      have := Array.mem_of_getElem? hi
      exact Array.mem_toList_iff.mpr this)
  · have e : (revS x).length = ((Builtin.Str.strSliceIndices none none (-1) x.length).filterMap (x.cps[·]?)).length := by
      rw [len_tl]
      rfl
    rw [e]
    refine Nat.le_trans (List.length_filterMap_le ..) ?_
    rw [rev_len]
    exact h.len
theorem asc_join {y : Str} {ps : List Str} (hy : Asc y) (h : ∀ p ∈ ps, Asc p) : Asc (Str.join y ps) := by
  intro c hc
  rw [tl_join] at hc
  refine joinL_mem (P := fun c => c < 127) hy (fun p hp c hc => ?_) c hc
  obtain ⟨w, hw, rfl⟩ := List.mem_map.mp hp
  exact h w hw c hc
theorem parts_mem {x : Str} {w : Nat} : ∀ (cuts : List Nat) (a : Nat), ∀ p ∈ StrLaws.partsFrom x w a cuts, ∀ c ∈ tl p, c ∈ tl x
  | [], a, p, hp, c, hc => by
    rw [List.mem_singleton.mp hp] at hc
    have hc : c ∈ (Builtin.Str.strSub x a x.length).cps.toList := hc
    rw [StrLaws.strSub_toList] at hc
    exact List.mem_of_mem_drop (List.mem_of_mem_take hc)
  | k :: r, a, p, hp, c, hc => by
    rcases List.mem_cons.mp hp with z | z
    · rw [z] at hc
      have hc : c ∈ (Builtin.Str.strSub x a k).cps.toList := hc
      rw [StrLaws.strSub_toList] at hc
      exact List.mem_of_mem_drop (List.mem_of_mem_take hc)
    · exact parts_mem r (k + w) p z c hc
theorem GB.repl {b : Nat} {x y z : Str} (h : GB b x) (hz : Asc z) (hzl : z.length = 2) : GB (3 * b + 2) (Txt.replace x y z) := by
  refine ⟨?_, ?_⟩
  · unfold Txt.replace
    split
    · exact h.asc
    · rw [StrLaws.glued_eq_join, StrLaws.partsBetween_eq]
      exact asc_join hz fun p hp c hc => h.asc c (parts_mem _ _ p hp c hc)
  · have h1 := TK.replace_len x y z
    have := h.len
    rw [hzl] at h1
    omega
/-- words and their sum -/
structure PW (s n : Nat) (ws : List Str) : Prop where
  asc : ∀ w ∈ ws, Asc w
  sum : (ws.map (·.length)).sum ≤ s
  len : ws.length ≤ n
theorem PW.app {s n s' n' : Nat} {a b : List Str} (h : PW s n a) (g : PW s' n' b) : PW (s + s') (n + n') (a ++ b) := by
  refine ⟨fun w hw => ?_, ?_, ?_⟩
  · rcases List.mem_append.mp hw with z | z
    · exact h.asc w z
    · exact g.asc w z
  · have := h.sum
    have := g.sum
    rw [List.map_append, List.sum_append]
    omega
  · have := h.len
    have := g.len
    rw [List.length_append]
    omega
theorem sub_sum {a b : List Nat} (h : List.Sublist a b) : a.sum ≤ b.sum := by
  induction h with
  | slnil => exact Nat.le_refl _
  | cons x _ ih => rw [List.sum_cons]; omega
  | cons_cons x _ ih => rw [List.sum_cons, List.sum_cons]; omega
theorem PW.sub {s n : Nat} {a b : List Str} (h : PW s n b) (g : List.Sublist a b) : PW s n a :=
  ⟨fun w hw => h.asc w (g.subset hw), Nat.le_trans (sub_sum (g.map _)) h.sum, Nat.le_trans g.length_le h.len⟩
theorem PW.join {s n : Nat} {ws : List Str} (h : PW s n ws) : GB (s + n) (Str.join spW ws) := by
  refine ⟨asc_join (by unfold Asc; decide +kernel) h.asc, ?_⟩
  have h1 := join_len spW ws
  have h2 := h.sum
  have h3 := h.len
  have e : spW.length = 1 := rfl
  rw [e] at h1
  omega
theorem spl_sum (sp : List Nat) : ∀ (l : List Nat) (k : Nat) (acc : List Nat), ((spl sp k acc l).map List.length).sum ≤ acc.length + l.length ∧ spl sp k acc l ≠ []
  | [], k, acc => by rw [spl_nil]; exact ⟨by show acc.length + 0 ≤ acc.length + 0; omega, by simp⟩
  | c :: r, 0, acc => by
    cases h : pre sp (c :: r) with
    | true =>
      rw [spl_hit h]
      have ih := (spl_sum sp r (sp.length - 1) []).1
      refine ⟨?_, by simp⟩
      rw [List.map_cons, List.sum_cons, List.length_cons]
      rw [List.length_nil] at ih
      omega
    | false =>
      rw [spl_miss h]
      have ih := spl_sum sp r 0 (acc ++ [c])
      refine ⟨?_, ih.2⟩
      have := ih.1
      rw [List.length_append, List.length_singleton] at this
      rw [List.length_cons]
      omega
  | c :: r, k + 1, acc => by
    have ih := spl_sum sp r k acc
    show ((spl sp k acc r).map List.length).sum ≤ _ ∧ spl sp k acc r ≠ []
    exact ⟨by rw [List.length_cons]; omega, ih.2⟩
theorem split_pw {b : Nat} {x : Str} (h : GB b x) (hb : b ≤ 90000) : PW b (b + 1) (Txt.split x spW) ∧ 1 ≤ (Txt.split x spW).length := by
  have e := split_spl x spW (by decide) (kind_ok (by decide +kernel))
  have hs := spl_sum (tl spW) (tl x) 0 []
  rw [← e] at hs
  obtain ⟨hg, hl⟩ := split_good h.asc (Nat.le_trans h.len hb)
  have hb' := h.len
  refine ⟨⟨fun w hw => (hg w hw).1, ?_, by omega⟩, ?_⟩
  · have h1 := hs.1
    rw [List.map_map] at h1
    have e2 : List.length ∘ tl = fun x : Str => x.length := funext fun x => (len_tl x).symm
    rw [e2, List.length_nil, ← len_tl] at h1
    exact Nat.le_trans h1 (by omega)
  · refine List.length_pos_iff.mpr fun z => hs.2 ?_
    rw [z]
    rfl
def cutW (ws : List Str) (lo hi : Option Int) : List Str := (ws.drop (HT.sIx ws.length 0 lo)).take (HT.sIx ws.length ws.length hi - HT.sIx ws.length 0 lo)
theorem cutD_strs (ws : List Str) (lo hi : Option Int) : cutD (ws.map D.str) lo hi = (cutW ws lo hi).map D.str := by
  unfold cutD cutW
  rw [List.length_map, List.map_take, List.map_drop]
theorem cutW_sub (ws : List Str) (lo hi : Option Int) : List.Sublist (cutW ws lo hi) ws := (List.take_sublist _ _).trans (List.drop_sublist _ _)
variable {S : Sto} {R : DK}
theorem sl_hi {env : Env} {f : Addr} {ws : List Str} {s n : Nat} {te : DTE} {k : Int} (h4 : env[4]? = some (some (.ref f))) (hf : S f = some (.lst (ws.map D.str))) (hte : ∀ Q : DK, Q (.int k) S → te env S Q) (hw : PW s n ws)
    (q : ∀ (ws' : List Str) (p : Addr) (S' : Sto), SG S S' → PW s n ws' → S' p = some (.lst (ws'.map D.str)) → R (.ref p) S') : dSl (dVar 4) dNoP (dPart te) env S R :=
  ⟨_, h4, hte _ ⟨k, rfl, _, hf, fun p np => q (cutW ws none (some k)) p _ (.new np) (hw.sub (cutW_sub _ _ _)) (by rw [Sto.same, cutD_strs])⟩⟩
theorem sl_lo {env : Env} {f : Addr} {ws : List Str} {s n : Nat} {te : DTE} {k : Int} (h4 : env[4]? = some (some (.ref f))) (hf : S f = some (.lst (ws.map D.str))) (hte : ∀ Q : DK, Q (.int k) S → te env S Q) (hw : PW s n ws)
    (q : ∀ (ws' : List Str) (p : Addr) (S' : Sto), SG S S' → PW s n ws' → S' p = some (.lst (ws'.map D.str)) → R (.ref p) S') : dSl (dVar 4) (dPart te) dNoP env S R :=
  ⟨_, h4, hte _ ⟨k, rfl, _, hf, fun p np => q (cutW ws (some k) none) p _ (.new np) (hw.sub (cutW_sub _ _ _)) (by rw [Sto.same, cutD_strs])⟩⟩
theorem add_l {a b : Addr} {xs ys : List Str} {s n s' n' : Nat} (ha : S a = some (.lst (xs.map D.str))) (hb : S b = some (.lst (ys.map D.str))) (h : PW s n xs) (g : PW s' n' ys) (hn : n + n' ≤ 100000)
    (q : ∀ (p : Addr) (S' : Sto), SG S S' → PW (s + s') (n + n') (xs ++ ys) → S' p = some (.lst ((xs ++ ys).map D.str)) → R (.ref p) S') : rAdd (.ref a) (.ref b) S R := by
  have h1 := h.len
  have h2 := g.len
  exact ⟨_, _, ha, hb, by rw [List.length_map, List.length_map]; omega, fun p np => q p _ (.new np) (h.app g) (by rw [Sto.same, List.map_append])⟩
theorem join_go {p : Addr} {ws : List Str} {s n : Nat} (hp : S p = some (.lst (ws.map D.str))) (h : PW s n ws) (hb : s + n ≤ 1000000) (q : GB (s + n) (Str.join spW ws) → R (.str (Str.join spW ws)) S) :
    ∃ (p' : Addr) (ys : List Str), D.ref p = .ref p' ∧ S p' = some (.lst (ys.map D.str)) ∧ (ys.map (·.length)).sum + ys.length * spW.length ≤ 16777216 ∧ R (.str (Str.join spW ys)) S := by
  have h1 := h.sum
  have h2 := h.len
  have e : spW.length = 1 := rfl
  exact ⟨p, ws, rfl, hp, by rw [e]; omega, q h.join⟩
end Sv
set_option maxHeartbeats 2000000
set_option autoImplicit false
namespace Sv
open PySem PySem.Spec PyProof.Rows L2 TL
/-- a text is made, of at most so many signs -/
def Mk (B : Nat) (te : DTE) (env : Env) (S : Sto) : Prop := ∀ Q : DK, (∀ y S', SG S S' → GB B y → Q (.str y) S') → te env S Q
def MkL (B n : Nat) (ta : DTA) (env : Env) (S : Sto) : Prop := ∀ Q : List D → Sto → Prop, (∀ (ys : List Str) S', SG S S' → ys.length = n → (∀ y ∈ ys, GB B y) → Q (ys.map D.str) S') → ta env S Q
theorem mk_nil {B : Nat} {env : Env} {S : Sto} : MkL B 0 dNil env S := fun Q q => q [] S (.refl _) rfl (by simp)
theorem mk_cons {B n : Nat} {te : DTE} {ta : DTA} {env : Env} {S : Sto} (h : Mk B te env S) (g : ∀ S', SG S S' → MkL B n ta env S') : MkL B (n + 1) (dCons te ta) env S := fun Q q =>
  h _ fun y S1 sg1 hy => g S1 sg1 _ fun ys S2 sg2 hl hys => q (y :: ys) S2 (sg1.trans sg2) (by rw [List.length_cons, hl]) fun z hz => by
    rcases List.mem_cons.mp hz with rfl | hz
    · exact hy
    · exact hys z hz
theorem mk_lst {B n : Nat} {ta : DTA} {env : Env} {S : Sto} {R : DK} (h : MkL B n ta env S) (hn : n ≤ 1000) (q : ∀ (ys : List Str) (g : Addr) (S' : Sto), SG S S' → ys.length = n → (∀ y ∈ ys, GB B y) → S' g = some (.lst (ys.map D.str)) → R (.ref g) S') : dLst ta env S R :=
  h _ fun ys S1 sg1 hl hg => ⟨decide_eq_true (by rw [List.length_map, hl]; exact hn), fun g ng => q ys g _ (SK.trans sg1 (SK.new ng)) hl hg Sto.same⟩
theorem mk_more {B n m : Nat} {ta : DTA} {env : Env} {S : Sto} {R : DK} {g : Addr} {zs : List Str} (h6 : env[6]? = some (some (.ref g))) (hg : S g = some (.lst (zs.map D.str))) (hz : zs.length = m) (hb : ∀ y ∈ zs, GB B y) (h : MkL B n ta env S) (hn : m + n ≤ 1000)
    (q : ∀ (ys : List Str) (g : Addr) (S' : Sto), SG S S' → ys.length = m + n → (∀ y ∈ ys, GB B y) → S' g = some (.lst (ys.map D.str)) → R (.ref g) S') : dBin rAdd (dVar 6) (dLst ta) env S R :=
  ⟨_, h6, mk_lst h (by omega) fun ys g1 S1 sg1 hl hgy hg1 => ⟨_, _, sg1 _ _ (fun z => z) hg, hg1, by rw [List.length_map, List.length_map]; omega, fun p np => q (zs ++ ys) p _ (SK.trans sg1 (SK.new np)) (by rw [List.length_append]; omega) (fun y hy => (List.mem_append.mp hy).elim (hb y) (hgy y)) (by rw [Sto.same, List.map_append])⟩⟩
section
variable {B L : Nat} {env : Env} {S : Sto} {x : Str} {te : DTE} {k : Int}
theorem ss_hi {Q : DK} (h1 : env[1]? = some (some (.str x))) (hs : x.length ≤ sizeLine) (hte : ∀ Q : DK, Q (.int k) S → te env S Q) (q : Q (.str (L2.cutS x none (some k))) S) : dSlS (dVar 1) dNoP (dPart te) env S Q :=
  ⟨_, h1, hte _ ⟨k, rfl, x, rfl, hs, q⟩⟩
theorem ss_lo {Q : DK} (h1 : env[1]? = some (some (.str x))) (hs : x.length ≤ sizeLine) (hte : ∀ Q : DK, Q (.int k) S → te env S Q) (q : Q (.str (L2.cutS x (some k) none)) S) : dSlS (dVar 1) (dPart te) dNoP env S Q :=
  ⟨_, h1, hte _ ⟨k, rfl, x, rfl, hs, q⟩⟩
theorem v_int {i : Nat} {v : Int} (h : env[i]? = some (some (.int v))) : ∀ Q : DK, Q (.int v) S → dVar i env S Q := fun Q q => ⟨_, h, q⟩
theorem v_int1 {i : Nat} {v : Int} (h : env[i]? = some (some (.int v))) : ∀ Q : DK, Q (.int (v + 1)) S → dBin rAdd (dVar i) (dC (.int 1)) env S Q := fun Q q => ⟨_, h, q⟩
/-- x[:k] + c + x[j:] -/
theorem mk_mid {t2 : DTE} {j : Int} {c : Nat} (h1 : env[1]? = some (some (.str x))) (h3 : env[3]? = some (some (.str ⟨#[c]⟩))) (hx : GB L x) (hc : c < 127) (hL : L ≤ 30000) (hte : ∀ Q : DK, Q (.int k) S → te env S Q) (hte2 : ∀ Q : DK, Q (.int j) S → t2 env S Q) :
    Mk (4 * L + 10) (dBin rAdd (dBin rAdd (dSlS (dVar 1) dNoP (dPart te)) (dVar 3)) (dSlS (dVar 1) (dPart t2) dNoP)) env S := fun Q q => by
  have hs : x.length ≤ sizeLine := Nat.le_trans hx.len (Nat.le_trans hL (by decide))
  have g1 := hx.cut none (some k)
  have g2 : GB 1 (⟨#[c]⟩ : Str) := ⟨fun y hy => by rw [List.mem_singleton.mp (show y ∈ [c] from hy)]; exact hc, Nat.le_refl _⟩
  have g3 := hx.cut (some j) none
  have g12 := g1.app g2
  have g := g12.app g3
  have l1 := g1.len
  have l2 := g2.len
  have l3 := g3.len
  have l12 := g12.len
  have f2 : rAdd (.str (L2.cutS x none (some k) ++ ⟨#[c]⟩)) (.str (L2.cutS x (some j) none)) S Q := ⟨by omega, q _ S (.refl _) (g.mono (by omega))⟩
  have f1 : rAdd (.str (L2.cutS x none (some k))) (.str ⟨#[c]⟩) S (fun d S1 => dSlS (dVar 1) (dPart t2) dNoP env S1 fun e S2 => rAdd d e S2 Q) := ⟨by omega, ss_lo h1 hs hte2 f2⟩
  exact ss_hi (Q := fun d S1 => dVar 3 env S1 fun e S2 => rAdd d e S2 fun d S1 => dSlS (dVar 1) (dPart t2) dNoP env S1 fun e S2 => rAdd d e S2 Q) h1 hs hte ⟨_, h3, f1⟩
theorem mk_gap {t2 : DTE} {j : Int} (h1 : env[1]? = some (some (.str x))) (hx : GB L x) (hL : L ≤ 30000) (hte : ∀ Q : DK, Q (.int k) S → te env S Q) (hte2 : ∀ Q : DK, Q (.int j) S → t2 env S Q) :
    Mk (4 * L + 10) (dBin rAdd (dSlS (dVar 1) dNoP (dPart te)) (dSlS (dVar 1) (dPart t2) dNoP)) env S := fun Q q => by
  have hs : x.length ≤ sizeLine := Nat.le_trans hx.len (Nat.le_trans hL (by decide))
  have g1 := hx.cut none (some k)
  have g3 := hx.cut (some j) none
  have g := g1.app g3
  have l1 := g1.len
  have l3 := g3.len
  have fin : rAdd (.str (L2.cutS x none (some k))) (.str (L2.cutS x (some j) none)) S Q := ⟨by omega, q _ S (.refl _) (g.mono (by omega))⟩
  exact ss_hi (Q := fun d S1 => dSlS (dVar 1) (dPart t2) dNoP env S1 fun e S2 => rAdd d e S2 Q) h1 hs hte (ss_lo h1 hs hte2 fin)
theorem mk_hi (h1 : env[1]? = some (some (.str x))) (hx : GB L x) (hL : L ≤ 30000) (hte : ∀ Q : DK, Q (.int k) S → te env S Q) : Mk (4 * L + 10) (dSlS (dVar 1) dNoP (dPart te)) env S := fun Q q =>
  ss_hi h1 (Nat.le_trans hx.len (Nat.le_trans hL (by decide))) hte (q _ S (.refl _) ((hx.cut _ _).mono (by omega)))
theorem mk_app {c : Str} (h1 : env[1]? = some (some (.str x))) (hx : GB L x) (hL : L ≤ 30000) (hc : GB 1 c) : Mk (4 * L + 10) (dBin rAdd (dVar 1) (dC (.str c))) env S := fun Q q => by
  have l1 := hx.len
  have l2 := hc.len
  exact ⟨_, h1, by omega, q _ S (.refl _) ((hx.app hc).mono (by omega))⟩
theorem mk_pre {c : Str} (h1 : env[1]? = some (some (.str x))) (hx : GB L x) (hL : L ≤ 30000) (hc : GB 1 c) : Mk (4 * L + 10) (dBin rAdd (dC (.str c)) (dVar 1)) env S := fun Q q => by
  have l1 := hx.len
  have l2 := hc.len
  exact ⟨_, h1, by omega, q _ S (.refl _) ((hc.app hx).mono (by omega))⟩
theorem mk_rev (h1 : env[1]? = some (some (.str x))) (hx : GB L x) (hL : L ≤ 30000) : Mk (4 * L + 10) (dRevS (dVar 1)) env S := fun Q q =>
  ⟨_, h1, x, rfl, Nat.le_trans hx.rev.len (Nat.le_trans hL (by decide)), q _ S (.refl _) (hx.rev.mono (by omega))⟩
theorem mk_repl (h1 : env[1]? = some (some (.str x))) (hx : GB L x) (hL : L ≤ 30000) : Mk (4 * L + 10) (dRepl " " "  " (dVar 1)) env S := fun Q q => by
  have hl := hx.len
  have e : (Str.ofString "  ").length = 2 := by decide
  refine ⟨_, h1, x, rfl, ?_, q _ S (.refl _) ((hx.repl (by unfold Asc; decide +kernel) e).mono (by omega))⟩
  show x.length + (x.length + 1) * (Str.ofString "  ").length ≤ _
  rw [e]
  omega
variable {f : Addr} {ws : List Str}
/-- ' '.join(ws[:k] + ws[j:]) -/
theorem mk_two {t2 : DTE} {j : Int} (h4 : env[4]? = some (some (.ref f))) (hf : S f = some (.lst (ws.map D.str))) (hw : PW L (L + 1) ws) (hL : L ≤ 30000) (hte : ∀ S' (Q : DK), Q (.int k) S' → te env S' Q) (hte2 : ∀ S' (Q : DK), Q (.int j) S' → t2 env S' Q) :
    Mk (4 * L + 10) (dJoin (dC (.str " ")) (dBin rAdd (dSl (dVar 4) dNoP (dPart te)) (dSl (dVar 4) (dPart t2) dNoP))) env S := fun Q q =>
  ⟨_, rfl, sl_hi h4 hf (hte S) hw fun w1 p1 S1 sg1 hw1 hp1 => sl_lo h4 (sg1 _ _ (fun z => z) hf) (hte2 S1) hw fun w2 p2 S2 sg2 hw2 hp2 =>
    add_l (sg2 _ _ (fun z => z) hp1) hp2 hw1 hw2 (by omega) fun p3 S3 sg3 hw3 hp3 => join_go hp3 hw3 (by omega) fun g => q _ S3 ((sg1.trans sg2).trans sg3) (g.mono (by omega))⟩
/-- ' '.join(ws[:k] + [c] + ws[j:]) -/
theorem mk_three {t2 : DTE} {j : Int} {c : Str} (h4 : env[4]? = some (some (.ref f))) (hf : S f = some (.lst (ws.map D.str))) (hw : PW L (L + 1) ws) (hL : L ≤ 30000) (hc : GB 1 c) (hte : ∀ S' (Q : DK), Q (.int k) S' → te env S' Q) (hte2 : ∀ S' (Q : DK), Q (.int j) S' → t2 env S' Q) :
    Mk (4 * L + 10) (dJoin (dC (.str " ")) (dBin rAdd (dBin rAdd (dSl (dVar 4) dNoP (dPart te)) (dLst (dCons (dC (.str c)) dNil))) (dSl (dVar 4) (dPart t2) dNoP))) env S := fun Q q =>
  ⟨_, rfl, sl_hi h4 hf (hte S) hw fun w1 p1 S1 sg1 hw1 hp1 => ⟨rfl, fun b nb => by
    have sgb : SG S1 (S1.put b (.lst [.str c])) := .new nb
    have hb : (S1.put b (.lst [.str c])) b = some (.lst ([c].map D.str)) := Sto.same
    have hcw : PW 1 1 [c] := ⟨fun w hw => by rw [List.mem_singleton.mp hw]; exact hc.asc, by show c.length + 0 ≤ 1; have := hc.len; omega, Nat.le_refl _⟩
    exact add_l (sgb _ _ (fun z => z) hp1) hb hw1 hcw (by omega) fun p2 S2 sg2 hw2 hp2 => sl_lo h4 (sg2 _ _ (fun z => z) (sgb _ _ (fun z => z) (sg1 _ _ (fun z => z) hf))) (hte2 S2) hw fun w3 p3 S3 sg3 hw3 hp3 =>
      add_l (sg3 _ _ (fun z => z) hp2) hp3 hw2 hw3 (by omega) fun p4 S4 sg4 hw4 hp4 => join_go hp4 hw4 (by omega) fun g => q _ S4 ((((sg1.trans sgb).trans sg2).trans sg3).trans sg4) (g.mono (by omega))⟩⟩
end
/-- a list of texts is none of the draws' own -/
theorem Ds.offT {st big al : Addr} {n : Nat} {S : Sto} (h : Ds st big al n S) {p : Addr} {ys : List Str} (e : S p = some (.lst (ys.map D.str))) (ne : 1 ≤ ys.length) : p ≠ st ∧ p ≠ big ∧ p ≠ al := by
  obtain ⟨a1, a2, a3, bs, cs, t, _, _, _, h1, h2, h3⟩ := h
  obtain ⟨y, r, rfl⟩ := List.exists_cons_of_ne_nil (List.length_pos_iff.mp ne)
  have pin : ∀ l : List Int, S p = some (.lst (intsD l)) → False := fun l hl => by
    rw [hl] at e
    have e := Ob.lst.inj (Option.some.inj e)
    cases l with
    | nil => cases e
    | cons b r => exact D.noConfusion (List.head_eq_of_cons_eq e)
  refine ⟨fun z => ?_, fun z => pin bs (z ▸ h2), fun z => pin cs (z ▸ h3)⟩
  subst z
  rw [h1] at e
  exact D.noConfusion (List.head_eq_of_cons_eq (Ob.lst.inj (Option.some.inj e)))
def signs13 : Str := Str.ofString " 0129+-._|:x\n"
theorem sign_at {d : Nat} (h : d < 13) : ∃ c, atI signs13.cps.toList (d : Int) = some c ∧ c < 127 := by
  have : (List.range 13).all (fun d => match atI signs13.cps.toList (d : Int) with | some c => decide (c < 127) | none => false) = true := by decide +kernel
  have := List.all_eq_true.mp this d (List.mem_range.mpr h)
  revert this
  cases atI signs13.cps.toList (d : Int) with
  | none => intro z; cases z
  | some c => intro z; exact ⟨c, rfl, of_decide_eq_true z⟩
theorem gb1 {c : Str} (h : (decide (c.length ≤ 1) && c.cps.all (fun k => decide (k < 127))) = true := by decide +kernel) : GB 1 c := by
  rw [Bool.and_eq_true] at h
  obtain ⟨h1, h2⟩ := h
  rw [Array.all_eq_true_iff_forall_mem] at h2
  exact ⟨fun k hk => of_decide_eq_true (h2 k (Array.mem_toList_iff.mp hk)), of_decide_eq_true h1⟩
theorem w_spoilt {st big al : Addr} {n L : Nat} {S : Sto} {R : DK} {x : Str} (h : Ds st big al n S) (hn : n + 4 ≤ 1000000) (hx : GB L x) (hL : L ≤ 30000)
    (k : ∀ y S', GB (4 * L + 10) y → Ds st big al (n + 4) S' → SK (DS' st big) S S' → R (.str y) S') : dFn 7 B_law_spoilt_0b62 [.ref st, .str x] S R := by
  have hl := hx.len
  have hs : x.length ≤ sizeLine := Nat.le_trans hl (Nat.le_trans hL (by decide))
  refine ⟨_, rfl, _, rfl, _, rfl, hs, ?_⟩
  dsimp only [rAdd]
  refine ⟨rfl, w_drawS h (by omega) (by omega) (by omega) fun a S1 ha D1 k1 => ?_⟩
  refine ⟨_, rfl, rfl, w_drawS D1 (by omega) (by decide) (by decide) fun sd S2 hsd D2 k2 => ?_⟩
  obtain ⟨c, hc, hc127⟩ := sign_at (show sd < 13 by omega)
  refine ⟨_, _, c, rfl, rfl, by decide, hc, ?_⟩
  obtain ⟨hw, hw1⟩ := split_pw hx (by omega)
  refine ⟨_, rfl, _, rfl, _, rfl, by decide, Nat.le_trans (Nat.add_le_add_right (Nat.le_trans hl hL) 2) (by decide), fun f nf => ?_⟩
  have ff := D2.fresh nf
  have D3 := D2.keep (SK.new (o := .lst ((Txt.split x (Str.ofString " ")).map D.str)) nf)
  have k3 : SK (DS' st big) S (S2.put f (.lst ((Txt.split x (Str.ofString " ")).map D.str))) := (k1.trans k2).trans (.new nf)
  have hf3 : (S2.put f (.lst ((Txt.split x (Str.ofString " ")).map D.str))) f = some (.lst ((Txt.split x spW).map D.str)) := Sto.same
  generalize S2.put f (.lst ((Txt.split x (Str.ofString " ")).map D.str)) = S3 at D3 k3 hf3 ⊢
  generalize Txt.split x spW = ws at hw hw1 hf3
  have hwl := hw.len
  refine ⟨_, rfl, _, rfl, _, _, rfl, seqOf_lst hf3, rfl, w_drawS D3 (by omega) (by rw [List.length_map]; omega) (by rw [List.length_map]; omega) fun kk S4 hkk D4 k4 => ?_⟩
  have hf4 := k4 _ _ (nDS ff) hf3
  have k04 := k3.trans k4
  -- the first four
  dsimp only [dgName, dSeq, dAsg, dRet]
  refine mk_lst (B := 4 * L + 10) (n := 4) ?h1 (by decide) fun ys1 g1 S6 sg1 hy1 hg1 hG1 => ?_
  case h1 => exact mk_cons (mk_mid (k := (a : Int)) (j := (a : Int)) rfl rfl hx hc127 hL (v_int rfl) (v_int rfl)) fun _ _ => mk_cons (mk_mid (k := (a : Int)) (j := (a : Int) + 1) rfl rfl hx hc127 hL (v_int rfl) (v_int1 rfl)) fun _ _ => mk_cons (mk_gap (k := (a : Int)) (j := (a : Int) + 1) rfl hx hL (v_int rfl) (v_int1 rfl)) fun _ _ => mk_cons (mk_hi (k := (a : Int)) rfl hx hL (v_int rfl)) fun _ _ => mk_nil
  have hf6 := sg1 _ _ (fun z => z) hf4
  -- four more
  refine mk_more (B := 4 * L + 10) (n := 4) rfl hG1 hy1 hg1 ?h2 (by decide) fun zs g3 S9 sg3 hy12 hg12 hG3 => ?_
  case h2 => exact mk_cons (mk_two (k := (kk : Int)) (j := (kk : Int) + 1) rfl hf6 hw hL (fun _ => v_int rfl) (fun _ => v_int1 rfl)) fun S7 sg7 => mk_cons (mk_two (k := (kk : Int) + 1) (j := (kk : Int)) rfl (sg7 _ _ (fun z => z) hf6) hw hL (fun _ => v_int1 rfl) (fun _ => v_int rfl)) fun _ _ => mk_cons (mk_app rfl hx hL gb1) fun _ _ => mk_cons (mk_pre rfl hx hL gb1) fun _ _ => mk_nil
  have hf9 := sg3 _ _ (fun z => z) hf6
  -- and four
  refine mk_more (B := 4 * L + 10) (n := 4) rfl hG3 hy12 hg12 ?h3 (by decide) fun us g5 S12 sg5 hyz hgz hG5 => ?_
  case h3 => exact mk_cons (mk_app rfl hx hL gb1) fun S10 sg10 => mk_cons (mk_three (k := (kk : Int)) (j := (kk : Int) + 1) rfl (sg10 _ _ (fun z => z) hf9) hw hL gb1 (fun _ => v_int rfl) (fun _ => v_int1 rfl)) fun _ _ => mk_cons (mk_repl rfl hx hL) fun _ _ => mk_cons (mk_rev rfl hx hL) fun _ _ => mk_nil
  have hf12 := sg5 _ _ (fun z => z) hf9
  -- the last
  refine mk_more (B := 4 * L + 10) (n := 1) rfl hG5 hyz hgz ?h4 (by decide) fun vs g7 S15 sg7 hyl hgl hG7 => ?_
  case h4 => exact mk_cons (mk_three (k := (kk : Int)) (j := (kk : Int)) rfl hf12 hw hL gb1 (fun _ => v_int rfl) (fun _ => v_int rfl)) fun _ _ => mk_nil
  have sgA : SG S4 S15 := SK.trans (SK.trans (SK.trans sg1 sg3) sg5) sg7
  have D15 := D4.keep sgA
  have k15 : SK (DS' st big) S S15 := k04.trans (SG.sk sgA)
  have hyl : vs.length = 13 := hyl
  -- the list is none of the draws' own
  have f7 : ¬ DS' st big g7 := nDS (D15.offT hG7 (by omega))
  refine ⟨_, rfl, rfl, w_drawS D15 (by omega) (by decide) (by decide) fun m S16 hm D16 k16 => ?_⟩
  have hm : m < vs.length := by omega
  have hG16 := k16 _ _ f7 hG7
  have hv := List.getElem?_eq_getElem hm
  exact ⟨_, (m : Int), _, seqOf_lst hG16, rfl, atI_nat (d := .str vs[m]) (by rw [List.getElem?_map, hv]; rfl), k _ S16 (hgl _ (List.getElem_mem hm)) D16 (k15.trans k16)⟩
end Sv
set_option maxHeartbeats 1000000
set_option autoImplicit false
namespace Sv
open PySem PySem.Spec PyProof.Rows L2
/-- reads so, from now on -/
def StD (P : Addr → Prop) (S : Sto) (d : D) (p : PyData) : Prop := ∀ S', SK P S S' → PyD S' d p
def StDs (P : Addr → Prop) (S : Sto) (ds : List D) (ps : List PyData) : Prop := ∀ S', SK P S S' → PyDs S' ds ps
/-- reads as some data of this depth and this weight -/
def RV (P : Addr → Prop) (n w : Nat) (S : Sto) (d : D) : Prop := ∃ p, StD P S d p ∧ FineX n w p
section
variable {P : Addr → Prop} {n w m u k l : Nat} {S S' : Sto} {d : D} {ds : List D}
theorem RV.keep (h : RV P n w S d) (q : SK P S S') : RV P n w S' d := let ⟨p, a, b⟩ := h; ⟨p, fun S2 k2 => a S2 (q.trans k2), b⟩
theorem RV.mono (h : RV P n w S d) (e : n ≤ m) (e2 : w ≤ u) : RV P m u S d := let ⟨p, a, b⟩ := h; ⟨p, a, b.mono e e2⟩
theorem ty_atL {a : Addr} {xs : List D} (e : S a = some (.lst xs)) : tyD S (.ref a) = some "list" := by
  show (match S a with | some (.lst _) => some "list" | some (.dK _) => some "dict" | _ => none) = _
  rw [e]
theorem ty_at {a : Addr} {xs : List (Key × D)} (e : S a = some (.dK xs)) : tyD S (.ref a) = some "dict" := by
  show (match S a with | some (.lst _) => some "list" | some (.dK _) => some "dict" | _ => none) = _
  rw [e]
/-- the kind of what reads as data -/
theorem RV.ty (h : RV P n w S d) : ∃ t ∈ tys, tyD S d = some t := by
  obtain ⟨p, a, _⟩ := h
  have a := a S (.refl S)
  cases a with
  | non => exact ⟨"NoneType", by decide, rfl⟩
  | bl b => exact ⟨"bool", by decide, rfl⟩
  | int i => exact ⟨"int", by decide, rfl⟩
  | str x => exact ⟨"str", by decide, rfl⟩
  | tup _ => exact ⟨"tuple", by decide, rfl⟩
  | d0 e => exact ⟨"dict", by decide, ty_at e⟩
  | d1 e => exact ⟨"dict", by decide, ty_at e⟩
  | lst e _ _ => exact ⟨"list", by decide, ty_atL e⟩
end
def BD (k : Nat) (i : Int) : Prop := i.natAbs ≤ 10 ^ 29 + k
theorem BD.lt {k : Nat} {i : Int} (h : BD k i) (hk : k ≤ 1000) : i.natAbs < 10 ^ 30 := by
  unfold BD at h
  have e : (10 : Nat) ^ 29 = 100000000000000000000000000000 := by decide
  have e2 : (10 : Nat) ^ 30 = 1000000000000000000000000000000 := by decide
  omega
theorem BD.small {k : Nat} {i : Int} (h : i.natAbs ≤ 10000) : BD k i := by
  unfold BD
  have e : (10 : Nat) ^ 29 = 100000000000000000000000000000 := by decide
  omega
theorem BD.mono {k l : Nat} {i : Int} (h : BD k i) (e : k ≤ l) : BD l i := Nat.le_trans h (Nat.add_le_add_left e _)
/-- an item of an element -/
abbrev It (P : Addr → Prop) (S : Sto) (d : D) : Prop := RV P 1 206 S d
structure El (P : Addr → Prop) (k : Nat) (S : Sto) (d : D) : Prop where
  rv : RV P 2 2700 S d
  int : ∀ i, d = .int i → BD k i
  tup : ∀ ds, d = .tup ds → ds.length ≤ 3 + k ∧ ∀ e ∈ ds, It P S e
structure Va (P : Addr → Prop) (k : Nat) (S : Sto) (d : D) : Prop where
  rv : RV P 3 230000 S d
  int : ∀ i, d = .int i → BD k i
  tup : ∀ ds, d = .tup ds → ds.length ≤ 72 + k ∧ ∀ e ∈ ds, El P k S e
section
variable {P : Addr → Prop} {k l : Nat} {S S' : Sto} {d : D} {ds : List D}
theorem El.keep (h : El P k S d) (q : SK P S S') : El P k S' d := ⟨h.rv.keep q, h.int, fun ds e => ⟨(h.tup ds e).1, fun x hx => ((h.tup ds e).2 x hx).keep q⟩⟩
theorem El.mono (h : El P k S d) (e : k ≤ l) : El P l S d := ⟨h.rv, fun i z => (h.int i z).mono e, fun ds z => ⟨by have := (h.tup ds z).1; omega, (h.tup ds z).2⟩⟩
theorem Va.keep (h : Va P k S d) (q : SK P S S') : Va P k S' d := ⟨h.rv.keep q, h.int, fun ds e => ⟨(h.tup ds e).1, fun x hx => ((h.tup ds e).2 x hx).keep q⟩⟩
theorem Va.mono (h : Va P k S d) (e : k ≤ l) : Va P l S d := ⟨h.rv, fun i z => (h.int i z).mono e, fun ds z => ⟨by have := (h.tup ds z).1; omega, fun x hx => ((h.tup ds z).2 x hx).mono e⟩⟩
theorem It.el (h : It P S d) (hi : ∀ i, d = .int i → BD k i) (ht : ∀ ds, d = .tup ds → ds.length ≤ 3 + k ∧ ∀ e ∈ ds, It P S e) : El P k S d := ⟨h.mono (by decide) (by decide), hi, ht⟩
/-- an element that is no tuple, or one of at most three elements, as a value -/
theorem El.va (h : El P k S d) (ht : ∀ ds, d = .tup ds → ds.length ≤ 72 + k ∧ ∀ e ∈ ds, El P k S e) : Va P k S d := ⟨h.rv.mono (by decide) (by decide), h.int, ht⟩
end
end Sv
set_option maxHeartbeats 2000000
set_option autoImplicit false
namespace Sv
open PySem PySem.Spec PyProof.Rows L2
/-- an odd value: as an element, as a value -/
structure Od (P : Addr → Prop) (S : Sto) (d : D) : Prop where
  el : El P 0 S d
  va : Va P 0 S d
section
variable {P : Addr → Prop} {k l : Nat} {S S' : Sto} {d : D} {ds : List D}
theorem Od.keep (h : Od P S d) (q : SK P S S') : Od P S' d := ⟨h.el.keep q, h.va.keep q⟩
end
end Sv
set_option maxHeartbeats 2000000
set_option autoImplicit false
namespace Sv
open PySem PySem.Spec PyProof.Rows L2
def kitB' (S : Sto) (v : D) (T : String) : Option Bool := (tyD S v).bind fun t => kitB t T
theorem kb' {S : Sto} {v : D} {t T : String} {b : Bool} (h : tyD S v = some t) (e : kitB t T = some b) : kitB' S v T = some b := by
  unfold kitB'
  rw [h]
  exact e
end Sv
set_option maxHeartbeats 2000000
set_option autoImplicit false
namespace Sv
open PySem PySem.Spec PyProof.Rows L2
section
variable {P : Addr → Prop} {k : Nat} {S : Sto} {v d : D}
theorem RV.split {m w : Nat} (h : RV P m w S v) : (∃ ds, v = .tup ds) ∨ kitB' S v "tuple" = some false := by
  obtain ⟨p, hp, _⟩ := h
  have hp := hp S (.refl S)
  cases hp with
  | non => exact .inr (kb' rfl (by decide +kernel))
  | bl b => exact .inr (kb' rfl (by decide +kernel))
  | int b => exact .inr (kb' rfl (by decide +kernel))
  | str x => exact .inr (kb' rfl (by decide +kernel))
  | d0 e => exact .inr (kb' (ty_at e) (by decide +kernel))
  | d1 e => exact .inr (kb' (ty_at e) (by decide +kernel))
  | lst e _ _ => exact .inr (kb' (ty_atL e) (by decide +kernel))
  | tup _ => exact .inl ⟨_, rfl⟩
end
end Sv
set_option maxHeartbeats 400000
set_option autoImplicit false
namespace Sv
open PySem PySem.Spec PyProof.Rows L2
def WayK (rows : List (List Int)) (s u : Nat × Nat) : List Int → Prop
  | [] => u = s
  | m :: ms => m ∈ recvL rows ∧ sbB rows m s = true ∧ ∃ v, hap rows (0 - m) = some v ∧ WayK rows v u ms
theorem zk_wk {rows : List (List Int)} {t : Nat × Nat} : ∀ {ms : List Int} {s : Nat × Nat}, Zk rows s t ms ↔ ∃ u, WayK rows s u ms ∧ u.1 = t.1 ∧ u.2 < t.2
  | [], s => ⟨fun h => ⟨s, rfl, h⟩, fun ⟨u, h, g⟩ => by rw [h] at g; exact g⟩
  | m :: ms, s => by
    constructor
    · rintro ⟨h1, h2, v, h3, h4⟩
      obtain ⟨u, h5, h6⟩ := zk_wk.mp h4
      exact ⟨u, ⟨h1, h2, v, h3, h5⟩, h6⟩
    · rintro ⟨u, ⟨h1, h2, v, h3, h5⟩, h6⟩
      exact ⟨h1, h2, v, h3, zk_wk.mpr ⟨u, h5, h6⟩⟩
theorem wk_app {rows : List (List Int)} {u : Nat × Nat} {b : List Int} : ∀ {a : List Int} {s : Nat × Nat}, WayK rows s u (a ++ b) ↔ ∃ v, WayK rows s v a ∧ WayK rows v u b
  | [], s => ⟨fun h => ⟨s, rfl, h⟩, fun ⟨v, h, g⟩ => by rw [h] at g; exact g⟩
  | m :: a, s => by
    constructor
    · rintro ⟨h1, h2, v, h3, h4⟩
      obtain ⟨w, h5, h6⟩ := wk_app.mp h4
      exact ⟨w, ⟨h1, h2, v, h3, h5⟩, h6⟩
    · rintro ⟨w, ⟨h1, h2, v, h3, h5⟩, h6⟩
      exact ⟨h1, h2, v, h3, wk_app.mpr ⟨w, h5, h6⟩⟩
/-- where a way that ends with a message ends -/
theorem wk_last {rows : List (List Int)} {s u : Nat × Nat} {a : List Int} {m : Int} (h : WayK rows s u (a ++ [m])) : hap rows (0 - m) = some u := by
  obtain ⟨v, _, h2⟩ := wk_app.mp h
  obtain ⟨_, _, w, h3, h4⟩ := h2
  have h4 : u = w := h4
  rw [h4]
  exact h3
theorem snoc_of {l : List Int} (h : l ≠ []) : ∃ a m, l = a ++ [m] := ⟨l.dropLast, l.getLast h, (List.dropLast_concat_getLast h).symm⟩
structure Lev (rows : List (List Int)) (s : Nat × Nat) (k : Nat) (qs : List (List Int)) : Prop where
  way : ∀ q ∈ qs, q.length = k ∧ ∃ u, WayK rows s u q
  all : ∀ w m u, (w ++ [m]).length = k → WayK rows s u (w ++ [m]) → ∃ q, q ++ [m] ∈ qs ∧ lexle (q ++ [m]) (w ++ [m])
  few : qs.length ≤ 24
/-- none of those: no zigzag of the length; else the least of them -/
theorem Lev.none {rows : List (List Int)} {s t : Nat × Nat} {k : Nat} {qs : List (List Int)} (h : Lev rows s k qs) (hk : 1 ≤ k) (hno : ∀ q ∈ qs, ¬ Zz rows s t q) : ∀ w, w.length = k → ¬ Zz rows s t w := by
  rintro w hl ⟨hne, hz⟩
  obtain ⟨a, m, rfl⟩ := snoc_of hne
  obtain ⟨u, hu, ht⟩ := zk_wk.mp hz
  obtain ⟨q, hq, _⟩ := h.all a m u hl hu
  obtain ⟨_, v, hv⟩ := h.way _ hq
  have e := (wk_last hv).symm.trans (wk_last hu)
  obtain rfl := Option.some.inj e
  exact hno _ hq ⟨by simp, zk_wk.mpr ⟨v, hv, ht⟩⟩
end Sv
set_option maxHeartbeats 800000
set_option autoImplicit false
set_option maxHeartbeats 800000
set_option autoImplicit false
set_option maxHeartbeats 1000000
set_option autoImplicit false
namespace Sv
open PySem PySem.Spec PyProof.Rows L2
/-- the first process that is named with two states -/
structure IsTwo (n : Nat) (ss : List (Nat × Nat)) (p : Nat) : Prop where
  lt : p < n
  two : ∃ s ∈ ss, ∃ t ∈ ss, s.1 = p ∧ t.1 = p ∧ s ≠ t
  first : ∀ q, q < p → ∀ s ∈ ss, ∀ t ∈ ss, s.1 = q → t.1 = q → s = t
theorem IsTwo.unique {n p p' : Nat} {ss : List (Nat × Nat)} (h : IsTwo n ss p) (g : IsTwo n ss p') : p = p' := by
  refine Classical.byContradiction fun ne => ?_
  rcases Nat.lt_or_gt_of_ne ne with z | z
  · obtain ⟨s, hs, t, ht, e1, e2, e3⟩ := h.two
    exact e3 (g.first p z s hs t ht e1 e2)
  · obtain ⟨s, hs, t, ht, e1, e2, e3⟩ := g.two
    exact e3 (h.first p' z s hs t ht e1 e2)
end Sv
set_option maxHeartbeats 400000
set_option autoImplicit false
set_option maxHeartbeats 2000000
set_option autoImplicit false
set_option maxHeartbeats 1000000
set_option autoImplicit false
set_option maxHeartbeats 1000000
set_option autoImplicit false
namespace Sv
open PySem PySem.Spec PyProof.Rows L2
/-- a row of values, by their weights' sum -/
inductive RSum (P : Addr → Prop) (n : Nat) (S : Sto) : Nat → List D → Prop
  | nil : RSum P n S 0 []
  | cons {w u : Nat} {d : D} {ds : List D} : RV P n w S d → RSum P n S u ds → RSum P n S (w + 1 + u) (d :: ds)
/-- a row whose sum is at most this -/
def RRow (P : Addr → Prop) (n w : Nat) (S : Sto) (ds : List D) : Prop := ∃ u, u ≤ w ∧ RSum P n S u ds
section
variable {P : Addr → Prop} {n m w u : Nat} {S S' : Sto} {d : D} {a b ds : List D}
theorem RSum.keep (q : SK P S S') : ∀ {w : Nat} {ds : List D}, RSum P n S w ds → RSum P n S' w ds
  | _, _, .nil => .nil
  | _, _, .cons h t => .cons (h.keep q) (t.keep q)
theorem RSum.read : ∀ {w : Nat} {ds : List D}, RSum P n S w ds → ∃ ps, StDs P S ds ps ∧ FineXs n w ps
  | _, _, .nil => ⟨[], fun _ _ => .nil, finex_nil.mono (Nat.zero_le _) (Nat.le_refl _)⟩
  | _, _, .cons ⟨p, x, f⟩ t => by
    obtain ⟨ps, y, g⟩ := t.read
    exact ⟨p :: ps, fun S' k => .cons (x S' k) (y S' k), finex_cons f g⟩
theorem RSum.app : ∀ {w : Nat} {a : List D}, RSum P n S w a → RSum P n S u b → RSum P n S (w + u) (a ++ b)
  | _, _, .nil, g => by rw [Nat.zero_add]; exact g
  | _, _, .cons (w := w) (u := v) h t, g => by
    rw [show w + 1 + v + u = w + 1 + (v + u) by omega]
    exact .cons h (t.app g)
theorem RSum.split : ∀ {w : Nat} (a : List D) {b : List D}, RSum P n S w (a ++ b) → ∃ x y, x + y = w ∧ RSum P n S x a ∧ RSum P n S y b
  | w, [], b, h => ⟨0, w, Nat.zero_add _, .nil, h⟩
  | _, d :: a, b, .cons (w := w) h t => by
    obtain ⟨x, y, e, p, q⟩ := RSum.split a t
    exact ⟨w + 1 + x, y, by omega, .cons h p, q⟩
theorem RRow.keep (h : RRow P n w S ds) (q : SK P S S') : RRow P n w S' ds := let ⟨u, e, r⟩ := h; ⟨u, e, r.keep q⟩
theorem RRow.mono (h : RRow P n w S ds) (e : w ≤ u) : RRow P n u S ds := let ⟨v, e2, r⟩ := h; ⟨v, Nat.le_trans e2 e, r⟩
theorem RRow.nil : RRow P n w S [] := ⟨0, Nat.zero_le _, .nil⟩
theorem RRow.app (h : RRow P n w S a) (g : RRow P n u S b) : RRow P n (w + u) S (a ++ b) := let ⟨x, e, p⟩ := h; let ⟨y, f, q⟩ := g; ⟨x + y, by omega, p.app q⟩
theorem RRow.one (h : RV P n w S d) : RRow P n (w + 1) S [d] := ⟨w + 1 + 0, by omega, .cons h .nil⟩
theorem RRow.take (h : RRow P n w S ds) (i : Nat) : RRow P n w S (ds.take i) := by
  obtain ⟨u, e, r⟩ := h
  rw [← List.take_append_drop i ds] at r
  obtain ⟨x, y, f, p, _⟩ := RSum.split _ r
  exact ⟨x, by omega, p⟩
theorem RRow.drop (h : RRow P n w S ds) (i : Nat) : RRow P n w S (ds.drop i) := by
  obtain ⟨u, e, r⟩ := h
  rw [← List.take_append_drop i ds] at r
  obtain ⟨x, y, f, _, q⟩ := RSum.split _ r
  exact ⟨y, by omega, q⟩
theorem RSum.rev : ∀ {w : Nat} {ds : List D}, RSum P n S w ds → RSum P n S w ds.reverse
  | _, _, .nil => .nil
  | _, _, .cons (w := w) (u := u) (d := d) (ds := ds) h t => by
    rw [List.reverse_cons, show w + 1 + u = u + (w + 1 + 0) by omega]
    exact t.rev.app (.cons h .nil)
theorem RRow.rev (h : RRow P n w S ds) : RRow P n w S ds.reverse := let ⟨u, e, r⟩ := h; ⟨u, e, r.rev⟩
/-- one is put in another's place -/
theorem RRow.set (h : RRow P n w S ds) (g : RV P n u S d) (i : Nat) : RRow P n (w + (u + 1)) S (ds.take i ++ [d] ++ ds.drop (i + 1)) := by
  obtain ⟨v, e, r⟩ := h
  rw [← List.take_append_drop i ds] at r
  obtain ⟨x, y, f, p, q⟩ := RSum.split _ r
  have q : RRow P n y S ((ds.drop i).drop 1) := RRow.drop ⟨y, Nat.le_refl _, q⟩ 1
  rw [List.drop_drop] at q
  exact ((RRow.app ⟨x, Nat.le_refl _, p⟩ (RRow.one g)).app q).mono (by omega)
theorem RRow.tup (h : RRow P n w S ds) : RV P (n + 1) w S (.tup ds) := by
  obtain ⟨u, e, r⟩ := h
  obtain ⟨ps, x, f⟩ := r.read
  exact ⟨.tuple ps, fun S' k => .tup (x S' k), (finex_tuple f).mono (Nat.le_refl _) e⟩
theorem RRow.lst {p : Addr} (h : RRow P n w S ds) (hp : S p = some (.lst ds)) (np : ¬ P p) (ns : p ≠ sysModules) : RV P (n + 1) w S (.ref p) := by
  obtain ⟨u, e, r⟩ := h
  obtain ⟨ps, x, f⟩ := r.read
  exact ⟨.list ps, fun S' k => .lst (k _ _ np hp) ns (x S' k), (finex_list f).mono (Nat.le_refl _) e⟩
end
end Sv
set_option maxHeartbeats 1000000
set_option autoImplicit false
namespace Sv
open PySem PySem.Spec PyProof.Rows L2
/-- how heavy after k bends -/
def accW (f : Nat → Nat) : Nat → Nat
  | 0 => 250
  | k + 1 => accW f k + f (k + 1) + 1
def Wlv : Nat → Nat → Nat
  | 0 => fun k => 250 + 6 * k
  | l + 1 => accW (Wlv l)
theorem wlv_up (l k : Nat) : Wlv l k ≤ Wlv l (k + 1) := by
  cases l with
  | zero => show 250 + 6 * k ≤ 250 + 6 * (k + 1); omega
  | succ l => show _ ≤ Wlv (l + 1) k + Wlv l (k + 1) + 1; omega
/-- a value of level l, bent at most k times -/
def Lvl (P : Addr → Prop) : Nat → Nat → Sto → D → Prop
  | 0, k, S, d => RV P 2 (Wlv 0 k) S d ∧ (∀ i, d = .int i → BD k i) ∧ ∀ ds, d = .tup ds → ds.length ≤ 100 + k ∧ RRow P 1 (Wlv 0 k) S ds ∧ ∀ e ∈ ds, RV P 1 5 S e
  | l + 1, k, S, d => RV P (l + 3) (Wlv (l + 1) k) S d ∧ (∀ i, d = .int i → BD k i) ∧ ∀ ds, d = .tup ds → ds.length ≤ 100 + k ∧ RRow P (l + 2) (Wlv (l + 1) k) S ds ∧ ∀ e ∈ ds, Lvl P l k S e
section
variable {P : Addr → Prop} {l k : Nat} {S S' : Sto} {v d : D}
theorem Lvl.rv (h : Lvl P l k S d) : RV P (l + 2) (Wlv l k) S d := by
  cases l with
  | zero => exact h.1
  | succ l => exact h.1
theorem Lvl.int (h : Lvl P l k S d) : ∀ i, d = .int i → BD k i := by
  cases l with
  | zero => exact h.2.1
  | succ l => exact h.2.1
theorem Lvl.keep (q : SK P S S') : ∀ {l : Nat} {d : D}, Lvl P l k S d → Lvl P l k S' d
  | 0, _, h => ⟨h.1.keep q, h.2.1, fun ds e => ⟨(h.2.2 ds e).1, (h.2.2 ds e).2.1.keep q, fun x hx => ((h.2.2 ds e).2.2 x hx).keep q⟩⟩
  | _ + 1, _, h => ⟨h.1.keep q, h.2.1, fun ds e => ⟨(h.2.2 ds e).1, (h.2.2 ds e).2.1.keep q, fun x hx => Lvl.keep q ((h.2.2 ds e).2.2 x hx)⟩⟩
theorem Lvl.up : ∀ {l : Nat} {d : D}, Lvl P l k S d → Lvl P l (k + 1) S d
  | 0, _, h => ⟨h.1.mono (Nat.le_refl _) (wlv_up 0 k), fun i z => (h.2.1 i z).mono (Nat.le_succ _), fun ds e => ⟨by have := (h.2.2 ds e).1; omega, (h.2.2 ds e).2.1.mono (wlv_up 0 k), (h.2.2 ds e).2.2⟩⟩
  | l + 1, _, h => ⟨h.1.mono (Nat.le_refl _) (wlv_up (l + 1) k), fun i z => (h.2.1 i z).mono (Nat.le_succ _), fun ds e => ⟨by have := (h.2.2 ds e).1; omega, (h.2.2 ds e).2.1.mono (wlv_up (l + 1) k), fun x hx => Lvl.up ((h.2.2 ds e).2.2 x hx)⟩⟩
/-- what one bend may add -/
def below : Nat → Nat → Nat
  | 0, _ => 5
  | l + 1, k => Wlv l (k + 1)
theorem below_up : ∀ l k, Wlv l k + below l k + 1 ≤ Wlv l (k + 1)
  | 0, k => by show 250 + 6 * k + 5 + 1 ≤ 250 + 6 * (k + 1); omega
  | _ + 1, _ => Nat.le_refl _
theorem Lvl.row {ds : List D} (h : Lvl P l k S (.tup ds)) : ds.length ≤ 100 + k ∧ RRow P (l + 1) (Wlv l k) S ds ∧ ∀ e ∈ ds, RV P (l + 1) (below l k) S e := by
  cases l with
  | zero => exact ⟨(h.2.2 ds rfl).1, (h.2.2 ds rfl).2.1, fun e he => ((h.2.2 ds rfl).2.2 e he)⟩
  | succ l => exact ⟨(h.2.2 ds rfl).1, (h.2.2 ds rfl).2.1, fun e he => (((h.2.2 ds rfl).2.2 e he).rv).mono (Nat.le_refl _) (wlv_up l k)⟩
end
end Sv
set_option maxHeartbeats 1000000
set_option autoImplicit false
namespace Sv
open PySem PySem.Spec PyProof.Rows L2
section
variable {P : Addr → Prop} {O : D → Prop} {l k : Nat} {S : Sto} {v d : D}
/-- one element bent -/
theorem Lvl.set {ds : List D} {i : Nat} (hi : i < ds.length) (hv : Lvl P (l + 1) k S (.tup ds)) (he : Lvl P l (k + 1) S d) : Lvl P (l + 1) (k + 1) S (.tup (ds.take i ++ [d] ++ ds.drop (i + 1))) := by
  have r : RRow P (l + 2) (Wlv (l + 1) (k + 1)) S (ds.take i ++ [d] ++ ds.drop (i + 1)) := (RRow.set (hv.2.2 ds rfl).2.1 he.rv i).mono (below_up (l + 1) k)
  have h0 := (hv.2.2 ds rfl).1
  have eq : ∀ {p : List D → Prop} {ds' : List D}, p ds' → ∀ xs, D.tup ds' = .tup xs → p xs := fun hp xs z => by injection z with z; rw [← z]; exact hp
  refine ⟨r.tup, fun i z => (nomatch z), eq ⟨?_, r, fun x hx => ?_⟩⟩
  · rw [List.length_append, List.length_append, List.length_take, List.length_drop]
    show min i _ + 1 + _ ≤ _
    omega
  · rcases List.mem_append.mp hx with hx | hx
    · rcases List.mem_append.mp hx with hx | hx
      · exact ((hv.2.2 ds rfl).2.2 x (List.mem_of_mem_take hx)).up
      · rw [List.mem_singleton.mp hx]; exact he
    · exact ((hv.2.2 ds rfl).2.2 x (List.mem_of_mem_drop hx)).up
end
end Sv
set_option maxHeartbeats 2000000
set_option autoImplicit false
set_option maxHeartbeats 2000000
set_option autoImplicit false
set_option maxHeartbeats 2000000
set_option autoImplicit false
set_option maxHeartbeats 2000000
set_option autoImplicit false
namespace Sv
open PySem PySem.Spec PyProof.Rows L2
/-- a value that is read, one level, two levels -/
abbrev A0 (P : Addr → Prop) (S : Sto) (d : D) : Prop := RV P 10 130000 S d
structure A1 (P : Addr → Prop) (S : Sto) (d : D) : Prop where
  rv : A0 P S d
  tup : ∀ ds, d = .tup ds → ds.length ≤ 900 ∧ ∀ e ∈ ds, A0 P S e
structure A2 (P : Addr → Prop) (S : Sto) (d : D) : Prop where
  rv : A0 P S d
  tup : ∀ ds, d = .tup ds → ds.length ≤ 900 ∧ ∀ e ∈ ds, A1 P S e
section
variable {P : Addr → Prop} {k m l : Nat} {S S' : Sto} {d : D}
theorem A1.keep (h : A1 P S d) (q : SK P S S') : A1 P S' d := ⟨h.rv.keep q, fun ds e => ⟨(h.tup ds e).1, fun x hx => ((h.tup ds e).2 x hx).keep q⟩⟩
theorem A2.keep (h : A2 P S d) (q : SK P S S') : A2 P S' d := ⟨h.rv.keep q, fun ds e => ⟨(h.tup ds e).1, fun x hx => ((h.tup ds e).2 x hx).keep q⟩⟩
end
end Sv
set_option maxHeartbeats 2000000
set_option autoImplicit false
namespace Sv
open PySem PySem.Spec PyProof.Rows L2
def odds01 (a1 a2 a3 : Addr) : List D := [.non, .bl true, .bl false, .int (-1), .int 0, .int 1, .int 2, .int 6, .int 24, .int 25, .int (-25), .int (10 ^ 29), .str "", .str "0", .str "+1", .tup [], .ref a1, .ref a2, .tup [.int 0], .ref a3, .tup [.tup []]]
end Sv
set_option maxHeartbeats 2000000
set_option autoImplicit false
namespace Sv
open PySem PySem.Spec PyProof.Rows L2
theorem w_odd82 {st big al : Addr} {n : Nat} {S : Sto} {R : DK} (h : Ds st big al n S) (hn : n ≤ 1000000) (k : ∀ d S', Rd S' d → Ds st big al (n + 1) S' → SK (DS' st big) S S' → R d S') : dFn 2 B_law_odd_0f51 [.ref st] S R := by
  refine ⟨⟨by decide, by decide, by decide⟩, rfl, rfl, fun a1 n1 s1 => fun a2 n2 => ⟨rfl, rfl, fun a3 n3 s3 => ⟨rfl, rfl, rfl, fun a4 n4 s4 => ?_⟩⟩⟩
  generalize hS1 : S.put a1 (.lst []) = S1 at n2 n3 n4 ⊢
  generalize hS2 : S1.put a2 (.dK []) = S2 at n3 n4 ⊢
  generalize hS3 : S2.put a3 (.lst [.int 0]) = S3 at n4 ⊢
  have g1 : SG S S1 := by rw [← hS1]; exact .new n1
  have g2 : SG S1 S2 := by rw [← hS2]; exact .new n2
  have g3 : SG S2 S3 := by rw [← hS3]; exact .new n3
  have h1 : S1 a1 = some (.lst []) := by rw [← hS1]; exact Sto.same
  have h2 : S2 a2 = some (.dK []) := by rw [← hS2]; exact Sto.same
  have h3 : S3 a3 = some (.lst [.int 0]) := by rw [← hS3]; exact Sto.same
  obtain ⟨S4, hS4⟩ : ∃ S4, S3.put a4 (.lst (odds01 a1 a2 a3)) = S4 := ⟨_, rfl⟩
  have g4 : SG S3 S4 := by rw [← hS4]; exact .new n4
  have h4 : S4 a4 = some (.lst (odds01 a1 a2 a3)) := by rw [← hS4]; exact Sto.same
  have e4 : S3.put a4 (.lst [.non, .bl true, .bl false, .int (-1), .int 0, .int 1, .int 2, .int 6, .int 24, .int 25, .int (-25), .int (10 ^ (29 : Int).toNat), .str "", .str "0", .str "+1", .tup [], .ref a1, .ref a2, .tup [.int 0], .ref a3, .tup [.tup []]]) = S4 := hS4
  rw [e4]
  refine ⟨_, rfl, rfl, rfl, fun a5 n5 => ⟨.inr "a", rfl, Sto.same, rfl, fun a6 n6 s6 => ?_⟩⟩
  rw [Sto.put_put] at n6 ⊢
  generalize hS5 : S4.put a5 (.dK [(.inr "a", .int 1)]) = S5 at n6 ⊢
  have g5 : SG S4 S5 := by rw [← hS5]; exact .new n5
  have h5 : S5 a5 = some (.dK [(.inr "a", .int 1)]) := by rw [← hS5]; exact Sto.same
  have g6 : SG S5 (S5.put a6 (.lst [.tup [.int 0, .int 0], .tup [.int 0, .int 1], .ref a5])) := .new n6
  have h6 : (S5.put a6 (.lst [.tup [.int 0, .int 0], .tup [.int 0, .int 1], .ref a5])) a6 = some (.lst [.tup [.int 0, .int 0], .tup [.int 0, .int 1], .ref a5]) := Sto.same
  generalize S5.put a6 (.lst [.tup [.int 0, .int 0], .tup [.int 0, .int 1], .ref a5]) = S6 at g6 h6 ⊢
  refine ⟨_, _, (g5.trans g6) _ _ (fun z => z) h4, h6, by show 21 + 3 ≤ 100000; decide, fun a7 n7 => ?_⟩
  have D6 := (((((h.keep g1).keep g2).keep g3).keep g4).keep g5).keep g6
  have f7 := D6.fresh n7
  generalize hL : odds01 a1 a2 a3 ++ [.tup [.int 0, .int 0], .tup [.int 0, .int 1], .ref a5] = L
  have g7 : SG S6 (S6.put a7 (.lst L)) := .new n7
  have h7 : (S6.put a7 (.lst L)) a7 = some (.lst L) := Sto.same
  generalize S6.put a7 (.lst L) = S7 at g7 h7 ⊢
  refine ⟨_, rfl, rfl, w_drawS (D6.keep g7) hn (by decide) (by decide) fun m S8 hm D8 k8 => ?_⟩
  have hm : m < 24 := by omega
  have h8 := k8 _ _ (nDS f7) h7
  have kk : SK (DS' st big) S S8 := (SG.sk ((((((g1.trans g2).trans g3).trans g4).trans g5).trans g6).trans g7)).trans k8
  have na2 := SG.none' g1 n2
  have na3 := SG.none' (g1.trans g2) n3
  have na5 := SG.none' (((g1.trans g2).trans g3).trans g4) n5
  have f1 := nDS (h.fresh n1)
  have f2 := nDS (h.fresh na2)
  have f3 := nDS (h.fresh na3)
  have f5 := nDS (h.fresh na5)
  have q1 := k8 _ _ f1 ((((((g2.trans g3).trans g4).trans g5).trans g6).trans g7) _ _ (fun z => z) h1)
  have q2 := k8 _ _ f2 (((((g3.trans g4).trans g5).trans g6).trans g7) _ _ (fun z => z) h2)
  have q3 := k8 _ _ f3 ((((g4.trans g5).trans g6).trans g7) _ _ (fun z => z) h3)
  have q5 := k8 _ _ f5 ((g6.trans g7) _ _ (fun z => z) h5)
  have go : ∀ x : D, L[m]? = some x → Rd S8 x → rIxq (.ref a7) (.int (m : Int)) S8 R := fun x hx ho => ⟨_, _, _, seqOf_lst h8, rfl, atI_nat hx, k x S8 ho D8 kk⟩
  subst hL
  have ot : ∀ {v : D} {t : String}, t ∈ tys → (∀ S', SG S8 S' → tyD S' v = some t) → t ≠ "str" → Rd S8 v := fun a b c => .oth a b c
  have ti : ∀ {i : Int}, Rd S8 (.int i) := ot (t := "int") (by unfold tys; simp) (fun _ _ => rfl) (by decide)
  have tt : ∀ {ds : List D}, Rd S8 (.tup ds) := ot (t := "tuple") (by unfold tys; simp) (fun _ _ => rfl) (by decide)
  have tb : ∀ {b : Bool}, Rd S8 (.bl b) := ot (t := "bool") (by unfold tys; simp) (fun _ _ => rfl) (by decide)
  have tl' : ∀ {a : Addr} {ds : List D}, S8 a = some (.lst ds) → Rd S8 (.ref a) := fun {a ds} h => ot (t := "list") (by unfold tys; simp) (fun S' sg => by show (match S' a with | some (.lst _) => some "list" | some (.dK _) => some "dict" | _ => none) = _; rw [sg _ _ (fun z => z) h]) (by decide)
  have td : ∀ {a : Addr} {ds}, S8 a = some (.dK ds) → Rd S8 (.ref a) := fun {a ds} h => ot (t := "dict") (by unfold tys; simp) (fun S' sg => by show (match S' a with | some (.lst _) => some "list" | some (.dK _) => some "dict" | _ => none) = _; rw [sg _ _ (fun z => z) h]) (by decide)
  have hm : m = 0 ∨ m = 1 ∨ m = 2 ∨ m = 3 ∨ m = 4 ∨ m = 5 ∨ m = 6 ∨ m = 7 ∨ m = 8 ∨ m = 9 ∨ m = 10 ∨ m = 11 ∨ m = 12 ∨ m = 13 ∨ m = 14 ∨ m = 15 ∨ m = 16 ∨ m = 17 ∨ m = 18 ∨ m = 19 ∨ m = 20 ∨ m = 21 ∨ m = 22 ∨ m = 23 := by omega
  rcases hm with rfl | rfl | rfl | rfl | rfl | rfl | rfl | rfl | rfl | rfl | rfl | rfl | rfl | rfl | rfl | rfl | rfl | rfl | rfl | rfl | rfl | rfl | rfl | rfl
  · exact go _ rfl (ot (t := "NoneType") (by unfold tys; simp) (fun _ _ => rfl) (by decide))
  · exact go _ rfl tb
  · exact go _ rfl tb
  · exact go _ rfl ti
  · exact go _ rfl ti
  · exact go _ rfl ti
  · exact go _ rfl ti
  · exact go _ rfl ti
  · exact go _ rfl ti
  · exact go _ rfl ti
  · exact go _ rfl ti
  · exact go _ rfl ti
  · exact go _ rfl (.str (by unfold Asc; decide +kernel) (by decide))
  · exact go _ rfl (.str (by unfold Asc; decide +kernel) (by decide))
  · exact go _ rfl (.str (by unfold Asc; decide +kernel) (by decide))
  · exact go _ rfl tt
  · exact go _ rfl (tl' q1)
  · exact go _ rfl (td q2)
  · exact go _ rfl tt
  · exact go _ rfl (tl' q3)
  · exact go _ rfl tt
  · exact go _ rfl tt
  · exact go _ rfl tt
  · exact go _ rfl (td q5)
theorem Rd.keep {S S' : Sto} {v : D} (h : Rd S v) (k : SG S S') : Rd S' v := by
  cases h with
  | str a b => exact .str a b
  | oth a b c => exact .oth a (fun S2 sg => b S2 (SK.trans k sg)) c
theorem w_two82 {v : D} {S : Sto} {Q : DK} (h : Rd S v)
    (hQ : ∀ a S1, SG S S1 → (∀ Q2 : DK, (∀ b S2, SG S1 S2 → (∀ R : DK, (∀ S3, SG S2 S3 → R (.bl true) S3) → dFn 2 B_law_same_de9b [a, b] S2 R) → Q2 b S2) → dFn 9 B_law_due_dd10 [v] S1 Q2) → Q a S1) : dFn 3 B_law_told_75e9 [v] S Q := by
  cases h with
  | @str x hx hl =>
    obtain ⟨res, hr⟩ := go_total (Txt.split x spW) [] [] false 0 (fun _ => rfl)
    have hwl := (split_good hx hl).2
    obtain ⟨p, hp, ht⟩ := due_text (res := res) fun i z => by have := go_bad hr i z; omega
    refine w_toldX hx hl hr fun g1 S1 sg1 h1 => hQ _ S1 sg1 fun Q2 q2 => w_dueX hx hl hr fun g2 S2 sg2 h2 => q2 _ S2 sg2 fun R r => ?_
    exact w_sameP (hp _ _ (sg2 _ _ (fun z => z) h1)) (hp _ _ h2) ht (r _ (.refl _))
  | @oth v t ht hd hn =>
    refine w_toldN ht (hd S (.refl _)) hn fun g1 S1 sg1 h1 => hQ _ S1 sg1 fun Q2 q2 => w_dueN ht (hd S1 sg1) hn fun g2 S2 sg2 h2 => q2 _ S2 sg2 fun R r => ?_
    have pw : ∀ a, S2 a = some (.lst [.str "wrong", .non]) → Py S2 (.ref a) (.list [.str "wrong", .none]) := fun a h => .lst h (.cons (.str _) (.cons .non .nil))
    have tw : Text (.list [.str "wrong", .none]) := (fine_list (fine_cons (fine_str (by decide +kernel) (by decide +kernel) rfl) (fine_cons fine_none41 fine_nil))).text (by decide) (by decide) rfl
    exact w_sameP (pw _ (sg2 _ _ (fun z => z) h1)) (pw _ h2) tw (r _ (.refl _))
end Sv
set_option maxHeartbeats 2000000
set_option autoImplicit false
namespace Sv
open PySem PySem.Spec PyProof.Rows L2 TL
abbrev L82_state : DTS := dAsg (dCall 1 (dFn 3 B_law_state_64d4) (dCons (dVar 0) (dNil))) (dgName 1)
abbrev L82_f1 : DTS := dAsg (dLst (dCons (dC (.str "")) (dCons (dC (.str " ")) (dCons (dC (.str "_")) (dCons (dC (.str "_ _")) (dCons (dC (.str "_ |")) (dCons (dC (.str "| _")) (dCons (dC (.str "_ | _")) (dCons (dC (.str ". _")) (dCons (dC (.str "_ .")) (dCons (dC (.str "+1")) (dCons (dC (.str "-1")) (dCons (dC (.str "+0")) (dCons (dC (.str "+01")) (dCons (dC (.str "+25")) (dCons (dC (.str "++1")) (dNil))))))))))))))))) (dgName 2)
abbrev L82_f2 : DTS := dAsg (dBin rAdd (dVar 2) (dLst (dCons (dC (.str "+-1")) (dCons (dC (.str "1")) (dCons (dC (.str "+_")) (dCons (dC (.str "+1_0")) (dNil))))))) (dgName 2)
abbrev L82_f3 : DTS := dAsg (dBin rAdd (dVar 2) (dLst (dCons (dC (.str "+1 | -1")) (dCons (dC (.str "+1 -1")) (dCons (dC (.str "+1 | +1")) (dCons (dC (.str "-1 +2 | -2 +1")) (dCons (dC (.str ".|.")) (dCons (dC (.str ". | . ")) (dCons (dC (.str "+1_ | -1")) (dNil)))))))))) (dgName 2)
abbrev L82_f4 : DTS := dDrop (dMtq "list" mAppend (dVar 2) (dCons (dC (.str "_ | _ | _ | _ | _ | _")) (dNil)))
abbrev L82_f5 : DTS := dAsg (dBin rAdd (dVar 2) (dLst (dCons (dC (.str "_ | _ | _ | _ | _ | _ | _")) (dCons (dJoin (dC (.str " ")) (dBin rMul (dLst (dCons (dC (.str ".")) (dNil))) (dC (.int 60)))) (dCons (dJoin (dC (.str " ")) (dBin rMul (dLst (dCons (dC (.str ".")) (dNil))) (dC (.int 61)))) (dCons (dC (.str ". | +1 | -2 -1")) (dNil))))))) (dgName 2)
abbrev L82_vals : DTS := dFor (diVal (dBin rAdd (dVar 2) (dLst (dCons (dC .non) (dCons (dC (.int 0)) (dCons (dC (.bl true)) (dCons (dTup (dNil)) (dCons (dLst (dNil)) (dCons (dDNew) (dCons (dTup (dCons (dTup (dCons (dC (.int 0)) (dNil))) (dNil))) (dCons (dCall 1 (dFn 2 B_law_odd_0f51) (dCons (dVar 1) (dNil))) (dNil)))))))))))) (dgName 3) (dIfS (dNot (dB (dCall 2 (dFn 2 B_law_same_de9b) (dCons (dCall 1 (dFn 3 B_law_told_75e9) (dCons (dVar 3) (dNil))) (dCons (dCall 1 (dFn 9 B_law_due_dd10) (dCons (dVar 3) (dNil))) (dNil)))))) (dRet (dC (.bl false))) (dNext))
abbrev L82_turns : DTS := dFor (diRg1 (dCons (dC (.int 3)) (dNil))) (dgName 4) (dSeq (dAsg (dCall 1 (dFn 4 B_law_history_text_6ea4) (dCons (dCall 3 (dFn 15 B_law_history_6dd1) (dCons (dVar 1) (dCons (dC (.int 6)) (dCons (dC (.int 30)) (dNil))))) (dNil))) (dgName 5))   (dFor (diRg1 (dCons (dC (.int 12)) (dNil))) (dgName 6) (dSeq (dAsg (dCall 2 (dFn 7 B_law_spoilt_0b62) (dCons (dVar 1) (dCons (dVar 5) (dNil)))) (dgName 3))   (dSeq (dIfS (dB (dBin (rEqq false) (dCall 2 (dFn 5 B_law_draw_a332) (dCons (dVar 1) (dCons (dC (.int 2)) (dNil)))) (dC (.int 0)))) (dAsg (dCall 2 (dFn 7 B_law_spoilt_0b62) (dCons (dVar 1) (dCons (dVar 3) (dNil)))) (dgName 3)) (dNext))   (dIfS (dNot (dB (dCall 2 (dFn 2 B_law_same_de9b) (dCons (dCall 1 (dFn 3 B_law_told_75e9) (dCons (dVar 3) (dNil))) (dCons (dCall 1 (dFn 9 B_law_due_dd10) (dCons (dVar 3) (dNil))) (dNil)))))) (dRet (dC (.bl false))) (dNext))))))
abbrev L82_ret : DTS := dRet (dC (.bl true))
theorem law82_is : B_law_4b1d = dSeq L82_state (dSeq L82_f1 (dSeq L82_f2 (dSeq L82_f3 (dSeq L82_f4 (dSeq L82_f5 (dSeq L82_vals (dSeq L82_turns L82_ret))))))) := rfl
def F1 : List Str := ["", " ", "_", "_ _", "_ |", "| _", "_ | _", ". _", "_ .", "+1", "-1", "+0", "+01", "+25", "++1"]
def F2 : List Str := ["+-1", "1", "+_", "+1_0"]
def F3 : List Str := ["+1 | -1", "+1 -1", "+1 | +1", "-1 +2 | -2 +1", ".|.", ". | . ", "+1_ | -1"]
def F4 : List Str := ["_ | _ | _ | _ | _ | _"]
def gbB (ys : List Str) : Bool := ys.all fun y => decide (y.length ≤ 200) && y.cps.all (fun k => decide (k < 127))
theorem gb_all {ys : List Str} (h : gbB ys = true) : ∀ y ∈ ys, GB 200 y := fun y hy => by
  have := List.all_eq_true.mp h y hy
  rw [Bool.and_eq_true] at this
  obtain ⟨h1, h2⟩ := this
  rw [Array.all_eq_true_iff_forall_mem] at h2
  exact ⟨fun k hk => of_decide_eq_true (h2 k (Array.mem_toList_iff.mp hk)), of_decide_eq_true h1⟩
def dotsL (n : Nat) : List Str := List.replicate n (Str.ofString ".")
theorem mk_dots {n : Nat} {k : Int} (hk : k = (n : Int)) {env : Env} {S : Sto} (h0 : 0 < n) (hn : n ≤ 100) : Mk 200 (dJoin (dC (.str " ")) (dBin rMul (dLst (dCons (dC (.str ".")) dNil)) (dC (.int k)))) env S := fun Q q => by
  subst hk
  have hw : PW n n (dotsL n) := by
    refine ⟨fun w hw => ?_, ?_, by unfold dotsL; rw [List.length_replicate]; exact Nat.le_refl _⟩
    · rw [(List.mem_replicate.mp hw).2]; unfold Asc; decide +kernel
    · have h1 := sum_le_mul (f := fun w : Str => w.length) (k := 1) (l := dotsL n) fun w hw => by rw [(List.mem_replicate.mp hw).2]; decide
      unfold dotsL at h1 ⊢
      rw [List.length_replicate] at h1
      omega
  refine ⟨_, rfl, rfl, fun b nb => ⟨_, Sto.same, by omega, by omega, by show 1 ≤ 1000; decide, fun p np => ?_⟩⟩
  have e : (List.replicate (n : Int).toNat [D.str "."]).flatten = (dotsL n).map D.str := by
    rw [Int.toNat_natCast]
    unfold dotsL
    generalize n = n
    induction n with
    | zero => rfl
    | succ n ih => rw [List.replicate_succ, List.replicate_succ, List.flatten_cons, ih]; rfl
  exact join_go (s := n) (n := n) (by rw [Sto.same, e]) hw (by omega) fun g => q _ _ (SK.trans (SK.new nb) (SK.new np)) (g.mono (by omega))
theorem mk_const {y : Str} {B : Nat} {env : Env} {S : Sto} (h : GB B y) : Mk B (dC (.str y)) env S := fun Q q => q y S (.refl _) h
theorem mk_moreI {i B n m : Nat} {ta : DTA} {env : Env} {S : Sto} {R : DK} {g : Addr} {zs : List Str} (h6 : env[i]? = some (some (.ref g))) (hg : S g = some (.lst (zs.map D.str))) (hz : zs.length = m) (hb : ∀ y ∈ zs, GB B y) (h : MkL B n ta env S) (hn : m + n ≤ 1000)
    (q : ∀ (ys : List Str) (g : Addr) (S' : Sto), SG S S' → S g = none → ys.length = m + n → (∀ y ∈ ys, GB B y) → S' g = some (.lst (ys.map D.str)) → R (.ref g) S') : dBin rAdd (dVar i) (dLst ta) env S R :=
  ⟨_, h6, mk_lst h (by omega) fun ys g1 S1 sg1 hl hgy hg1 => ⟨_, _, sg1 _ _ (fun z => z) hg, hg1, by rw [List.length_map, List.length_map]; omega, fun p np => q (zs ++ ys) p _ (SK.trans sg1 (SK.new np)) (SG.none sg1 np) (by rw [List.length_append]; omega) (fun y hy => (List.mem_append.mp hy).elim (hb y) (hgy y)) (by rw [Sto.same, List.map_append])⟩⟩
theorem gb2 {y : Str} (h : gbB [y] = true := by decide +kernel) : GB 200 y := gb_all h y List.mem_cons_self
section
variable {C : DEnds} {S : Sto} {A st : D} {x2 x3 x4 x5 x6 : Option D}
abbrev EnvG (A st : D) (g : Addr) (x3 x4 x5 x6 : Option D) : Env := [some A, some st, some (.ref g), x3, x4, x5, x6]
theorem f1_go (q : ∀ (ys : List Str) g S', SG S S' → ys.length = 15 → (∀ y ∈ ys, GB 200 y) → S' g = some (.lst (ys.map D.str)) → C.nx (EnvG A st g x3 x4 x5 x6) S') : L82_f1 C [some A, some st, x2, x3, x4, x5, x6] S :=
  ⟨rfl, fun g ng => q F1 g _ (.new ng) rfl (gb_all (by decide +kernel)) Sto.same⟩
theorem f2_go {g : Addr} {zs : List Str} {m : Nat} (hg : S g = some (.lst (zs.map D.str))) (hz : zs.length = m) (hb : ∀ y ∈ zs, GB 200 y) (hm : m ≤ 100) (q : ∀ (ys : List Str) g S', SG S S' → ys.length = m + 4 → (∀ y ∈ ys, GB 200 y) → S' g = some (.lst (ys.map D.str)) → C.nx (EnvG A st g x3 x4 x5 x6) S') : L82_f2 C (EnvG A st g x3 x4 x5 x6) S := by
  have mk : ∀ S', MkL 200 4 (dCons (dC (.str "+-1")) (dCons (dC (.str "1")) (dCons (dC (.str "+_")) (dCons (dC (.str "+1_0")) (dNil))))) (EnvG A st g x3 x4 x5 x6) S' := fun S' => mk_cons (mk_const (gb_all (ys := F2) (by decide +kernel) _ (by decide))) fun _ _ => mk_cons (mk_const (gb_all (ys := F2) (by decide +kernel) _ (by decide))) fun _ _ => mk_cons (mk_const (gb_all (ys := F2) (by decide +kernel) _ (by decide))) fun _ _ => mk_cons (mk_const (gb_all (ys := F2) (by decide +kernel) _ (by decide))) fun _ _ => mk_nil
  exact mk_moreI (i := 2) (R := fun d S1 => dgName 2 d (EnvG A st g x3 x4 x5 x6) S1 C.nx) rfl hg hz hb (mk S) (by omega) fun ys g' S' sg _ hl hgy hg' => q ys g' S' sg hl hgy hg'
theorem f3_go {g : Addr} {zs : List Str} {m : Nat} (hg : S g = some (.lst (zs.map D.str))) (hz : zs.length = m) (hb : ∀ y ∈ zs, GB 200 y) (hm : m ≤ 100) (q : ∀ (ys : List Str) g S', SG S S' → S g = none → ys.length = m + 7 → (∀ y ∈ ys, GB 200 y) → S' g = some (.lst (ys.map D.str)) → C.nx (EnvG A st g x3 x4 x5 x6) S') : L82_f3 C (EnvG A st g x3 x4 x5 x6) S := by
  have mk : ∀ S', MkL 200 7 (dCons (dC (.str "+1 | -1")) (dCons (dC (.str "+1 -1")) (dCons (dC (.str "+1 | +1")) (dCons (dC (.str "-1 +2 | -2 +1")) (dCons (dC (.str ".|.")) (dCons (dC (.str ". | . ")) (dCons (dC (.str "+1_ | -1")) (dNil)))))))) (EnvG A st g x3 x4 x5 x6) S' := fun S' => mk_cons (mk_const gb2) fun _ _ => mk_cons (mk_const gb2) fun _ _ => mk_cons (mk_const gb2) fun _ _ => mk_cons (mk_const gb2) fun _ _ => mk_cons (mk_const gb2) fun _ _ => mk_cons (mk_const gb2) fun _ _ => mk_cons (mk_const gb2) fun _ _ => mk_nil
  exact mk_moreI (i := 2) (R := fun d S1 => dgName 2 d (EnvG A st g x3 x4 x5 x6) S1 C.nx) rfl hg hz hb (mk S) (by omega) fun ys g' S' sg ng hl hgy hg' => q ys g' S' sg ng hl hgy hg'
theorem f4_go {S0 : Sto} {g : Addr} {zs : List Str} {m : Nat} (hg : S g = some (.lst (zs.map D.str))) (hz : zs.length = m) (hb : ∀ y ∈ zs, GB 200 y) (hm : m ≤ 100) (sg : SG S0 S) (n0 : S0 g = none) (q : ∀ (ys : List Str) S', SG S0 S' → ys.length = m + 1 → (∀ y ∈ ys, GB 200 y) → S' g = some (.lst (ys.map D.str)) → C.nx (EnvG A st g x3 x4 x5 x6) S') : L82_f4 C (EnvG A st g x3 x4 x5 x6) S :=
  ⟨_, rfl, ⟨rfl, _, seqOf_lst hg, fun _ z => (nomatch z), fun _ z => (nomatch z)⟩, g, _, _, rfl, rfl, hg, by rw [List.length_map]; omega, q (zs ++ F4) _ (SG.keepP n0 sg (.refl _)) (by rw [List.length_append, hz]; rfl) (fun y hy => (List.mem_append.mp hy).elim (hb y) (gb_all (ys := F4) (by decide +kernel) y)) (by rw [Sto.same, List.map_append]; rfl)⟩
theorem f5_go {g : Addr} {zs : List Str} {m : Nat} (hg : S g = some (.lst (zs.map D.str))) (hz : zs.length = m) (hb : ∀ y ∈ zs, GB 200 y) (hm : m ≤ 100) (q : ∀ (ys : List Str) g S', SG S S' → ys.length = m + 4 → (∀ y ∈ ys, GB 200 y) → S' g = some (.lst (ys.map D.str)) → C.nx (EnvG A st g x3 x4 x5 x6) S') : L82_f5 C (EnvG A st g x3 x4 x5 x6) S := by
  have mk : ∀ S', MkL 200 4 (dCons (dC (.str "_ | _ | _ | _ | _ | _ | _")) (dCons (dJoin (dC (.str " ")) (dBin rMul (dLst (dCons (dC (.str ".")) (dNil))) (dC (.int 60)))) (dCons (dJoin (dC (.str " ")) (dBin rMul (dLst (dCons (dC (.str ".")) (dNil))) (dC (.int 61)))) (dCons (dC (.str ". | +1 | -2 -1")) (dNil))))) (EnvG A st g x3 x4 x5 x6) S' := fun S' => mk_cons (mk_const gb2) fun _ _ => mk_cons (mk_dots (n := 60) (k := 60) rfl (by decide) (by decide)) fun _ _ => mk_cons (mk_dots (n := 61) (k := 61) rfl (by decide) (by decide)) fun _ _ => mk_cons (mk_const gb2) fun _ _ => mk_nil
  exact mk_moreI (i := 2) (R := fun d S1 => dgName 2 d (EnvG A st g x3 x4 x5 x6) S1 C.nx) rfl hg hz hb (mk S) (by omega) fun ys g' S' sg _ hl hgy hg' => q ys g' S' sg hl hgy hg'
end
end Sv
set_option maxHeartbeats 2000000
set_option autoImplicit false
namespace Sv
open PySem PySem.Spec PyProof.Rows L2 TL
theorem rd_str {y : Str} {b : Nat} {S : Sto} (h : GB b y) (hb : b ≤ 90000) : Rd S (.str y) := .str h.asc (Nat.le_trans h.len hb)
theorem rd_oth {v : D} {t : String} {S : Sto} (ht : t ∈ tys) (hd : ∀ S', SG S S' → tyD S' v = some t) (hn : t ≠ "str") : Rd S v := .oth ht hd hn
theorem rd_lst {a : Addr} {ds : List D} {S : Sto} (h : S a = some (.lst ds)) : Rd S (.ref a) := .oth (t := "list") (by unfold tys; simp) (fun S' sg => by show (match S' a with | some (.lst _) => some "list" | some (.dK _) => some "dict" | _ => none) = _; rw [sg _ _ (fun z => z) h]) (by decide)
theorem rd_dk {a : Addr} {ds} {S : Sto} (h : S a = some (.dK ds)) : Rd S (.ref a) := .oth (t := "dict") (by unfold tys; simp) (fun S' sg => by show (match S' a with | some (.lst _) => some "list" | some (.dK _) => some "dict" | _ => none) = _; rw [sg _ _ (fun z => z) h]) (by decide)
abbrev T82 : DTT := dNot (dB (dCall 2 (dFn 2 B_law_same_de9b) (dCons (dCall 1 (dFn 3 B_law_told_75e9) (dCons (dVar 3) (dNil))) (dCons (dCall 1 (dFn 9 B_law_due_dd10) (dCons (dVar 3) (dNil))) (dNil)))))
theorem t82_go {env : Env} {v : D} {S : Sto} {Q : Bool → Sto → Prop} (h3 : env[3]? = some (some v)) (hv : Rd S v) (q : ∀ S', SG S S' → Q false S') : T82 env S Q :=
  ⟨_, h3, rfl, w_two82 hv fun a S3 sg3 hdue => ⟨_, h3, rfl, hdue _ fun b S4 sg4 hsame => ⟨rfl, hsame _ fun S5 sg5 => ⟨_, rfl, q S5 ((sg3.trans sg4).trans sg5)⟩⟩⟩⟩
variable {C : DEnds} {A : D} {x3 x4 x5 x6 : Option D} {st big al : Addr}
theorem vals_go {n : Nat} {S : Sto} {g : Addr} {zs : List Str} {m : Nat} (DD : Ds st big al n S) (hn : n ≤ 900000) (hg : S g = some (.lst (zs.map D.str))) (hz : zs.length = m) (hm1 : 1 ≤ m) (hb : ∀ y ∈ zs, GB 200 y) (hm : m ≤ 100)
    (q : ∀ x3 S', Ds st big al (n + 1) S' → C.nx (EnvG A (.ref st) g x3 x4 x5 x6) S') : L82_vals C (EnvG A (.ref st) g x3 x4 x5 x6) S := by
  refine ⟨_, rfl, rfl, rfl, fun a1 n1 => fun a2 n2 => ⟨rfl, rfl, _, rfl, rfl, ?_⟩⟩
  have u1 : SG S (S.put a1 (.lst [])) := .new n1
  have h1 : (S.put a1 (.lst [])) a1 = some (.lst []) := Sto.same
  generalize S.put a1 (.lst []) = S1 at u1 h1 n2 ⊢
  have u2 : SG S1 (S1.put a2 (.dK [])) := .new n2
  have h2 : (S1.put a2 (.dK [])) a2 = some (.dK []) := Sto.same
  have D2 := (DD.keep u1).keep u2
  have f1 := nDS (DD.fresh n1)
  have f2 := nDS ((DD.keep u1).fresh n2)
  have h12 := u2 _ _ (fun z => z) h1
  have hg2 := u2 _ _ (fun z => z) (u1 _ _ (fun z => z) hg)
  generalize S1.put a2 (.dK []) = S2 at u2 h2 D2 h12 hg2 ⊢
  have fg := nDS (D2.offT (ys := zs) hg2 (by omega))
  refine w_odd82 D2 (by omega) fun o S3 ho D3 k3 => ⟨rfl, fun b nb => ?_⟩
  have h1' := k3 _ _ f1 h12
  have h2' := k3 _ _ f2 h2
  have hg3 := k3 _ _ fg hg2
  have u4 : SG S3 (S3.put b (.lst [.non, .int 0, .bl true, .tup [], .ref a1, .ref a2, .tup [.tup [.int 0]], o])) := .new nb
  refine ⟨_, _, u4 _ _ (fun z => z) hg3, Sto.same, by rw [List.length_map]; show _ + 8 ≤ _; omega, fun p np => ?_⟩
  have hN : ∀ d ∈ zs.map D.str ++ [.non, .int 0, .bl true, .tup [], .ref a1, .ref a2, .tup [.tup [.int 0]], o], Rd S3 d := fun d hd => by
    rcases List.mem_append.mp hd with hd | hd
    · obtain ⟨y, hy, rfl⟩ := List.mem_map.mp hd
      exact rd_str (hb y hy) (by decide)
    · simp only [List.mem_cons, List.not_mem_nil, or_false] at hd
      rcases hd with rfl | rfl | rfl | rfl | rfl | rfl | rfl | rfl
      · exact rd_oth (t := "NoneType") (by unfold tys; simp) (fun _ _ => rfl) (by decide)
      · exact rd_oth (t := "int") (by unfold tys; simp) (fun _ _ => rfl) (by decide)
      · exact rd_oth (t := "bool") (by unfold tys; simp) (fun _ _ => rfl) (by decide)
      · exact rd_oth (t := "tuple") (by unfold tys; simp) (fun _ _ => rfl) (by decide)
      · exact rd_lst h1'
      · exact rd_dk h2'
      · exact rd_oth (t := "tuple") (by unfold tys; simp) (fun _ _ => rfl) (by decide)
      · exact ho
  have hp : ((S3.put b (.lst [.non, .int 0, .bl true, .tup [], .ref a1, .ref a2, .tup [.tup [.int 0]], o])).put p (.lst (zs.map D.str ++ [.non, .int 0, .bl true, .tup [], .ref a1, .ref a2, .tup [.tup [.int 0]], o]))) p = some (.lst (zs.map D.str ++ [.non, .int 0, .bl true, .tup [], .ref a1, .ref a2, .tup [.tup [.int 0]], o])) := Sto.same
  have u5 := SK.trans u4 (SK.new (o := .lst (zs.map D.str ++ [.non, .int 0, .bl true, .tup [], .ref a1, .ref a2, .tup [.tup [.int 0]], o])) np)
  generalize (S3.put b (.lst [.non, .int 0, .bl true, .tup [], .ref a1, .ref a2, .tup [.tup [.int 0]], o])).put p (.lst (zs.map D.str ++ [.non, .int 0, .bl true, .tup [], .ref a1, .ref a2, .tup [.tup [.int 0]], o])) = S5 at hp u5 ⊢
  generalize zs.map D.str ++ [.non, .int 0, .bl true, .tup [], .ref a1, .ref a2, .tup [.tup [.int 0]], o] = N at hN hp ⊢
  have D5 := D3.keep u5
  refine ⟨_, ⟨_, hp, rfl⟩, fun i env S' => ∃ x3, env = EnvG A (.ref st) g x3 x4 x5 x6 ∧ SG S5 S', ⟨_, rfl, .refl _⟩, fun i env S' _ ⟨_, _, sg⟩ => sg _ _ (fun z => z) hp, ?_, ?_⟩
  · rintro i d env S6 hd ⟨x3, rfl, sg6⟩
    have hd : N[i]? = some d := hd
    have hv := (hN d (List.mem_of_getElem? hd)).keep (SK.trans u5 sg6)
    have key := t82_go (env := EnvG A (.ref st) g (some d) x4 x5 x6) (v := d) (S := S6) (Q := fun b S1 => if b = true then dRet (dC (.bl false)) { nx := fun env S' => ∃ x3, env = EnvG A (.ref st) g x3 x4 x5 x6 ∧ SG S5 S', rt := C.rt } (EnvG A (.ref st) g (some d) x4 x5 x6) S1 else ∃ x3', EnvG A (.ref st) g (some d) x4 x5 x6 = EnvG A (.ref st) g x3' x4 x5 x6 ∧ SG S5 S1) rfl hv fun S7 sg7 => goF ⟨_, rfl, sg6.trans sg7⟩
    exact key
  · rintro env S6 ⟨x3, rfl, sg6⟩
    exact q x3 S6 (D5.keep sg6)
end Sv
set_option maxHeartbeats 400000
set_option autoImplicit false
namespace Sv
open PySem PySem.Spec PyProof.Rows L2 TL
variable {C : DEnds} {A : D} {x3 x4 x5 x6 : Option D} {st big al : Addr}
abbrev I1 : DTS := dAsg (dCall 2 (dFn 7 B_law_spoilt_0b62) (dCons (dVar 1) (dCons (dVar 5) (dNil)))) (dgName 3)
abbrev I2 : DTS := dIfS (dB (dBin (rEqq false) (dCall 2 (dFn 5 B_law_draw_a332) (dCons (dVar 1) (dCons (dC (.int 2)) (dNil)))) (dC (.int 0)))) (dAsg (dCall 2 (dFn 7 B_law_spoilt_0b62) (dCons (dVar 1) (dCons (dVar 3) (dNil)))) (dgName 3)) (dNext)
abbrev I3 : DTS := dIfS T82 (dRet (dC (.bl false))) (dNext)
theorem i1_go {n : Nat} {S : Sto} {g : Addr} {w : Str} (DD : Ds st big al n S) (hn : n ≤ 900000) (hw : GB 1464 w) (q : ∀ y S', GB 5866 y → Ds st big al (n + 4) S' → C.nx (EnvG A (.ref st) g (some (.str y)) x4 (some (.str w)) x6) S') : I1 C (EnvG A (.ref st) g x3 x4 (some (.str w)) x6) S :=
  ⟨_, rfl, _, rfl, rfl, w_spoilt DD (by omega) hw (by decide) fun y S5 hy D5 k5 => q y S5 hy D5⟩
theorem i2_go {n : Nat} {S : Sto} {g : Addr} {y : Str} (DD : Ds st big al n S) (hn : n ≤ 900000) (hy : GB 5866 y) (q : ∀ z S', GB 23474 z → Ds st big al (n + 5) S' → C.nx (EnvG A (.ref st) g (some (.str z)) x4 x5 x6) S') : I2 C (EnvG A (.ref st) g (some (.str y)) x4 x5 x6) S := by
  refine ⟨_, rfl, rfl, w_drawS DD (by omega) (by decide) (by decide) fun d2 S6 hd2 D6 k6 => ⟨_, rfl, iteB (fun _ => ?_) fun _ => ?_⟩⟩
  · exact ⟨_, rfl, _, rfl, rfl, w_spoilt D6 (by omega) hy (by decide) fun z S7 hz D7 k7 => q z S7 hz D7⟩
  · exact q y S6 (hy.mono (by decide)) (D6.mono (by omega))
theorem i3_go {n : Nat} {S : Sto} {g : Addr} {z : Str} (DD : Ds st big al n S) (hz : GB 23474 z) (q : ∀ S', Ds st big al n S' → C.nx (EnvG A (.ref st) g (some (.str z)) x4 x5 x6) S') : I3 C (EnvG A (.ref st) g (some (.str z)) x4 x5 x6) S := by
  have key := t82_go (env := EnvG A (.ref st) g (some (.str z)) x4 x5 x6) (v := .str z) (S := S) (Q := fun b S1 => if b = true then dRet (dC (.bl false)) C (EnvG A (.ref st) g (some (.str z)) x4 x5 x6) S1 else C.nx (EnvG A (.ref st) g (some (.str z)) x4 x5 x6) S1) rfl (rd_str hz (by decide)) fun S8 sg8 => goF (q S8 (DD.keep sg8))
  exact key
theorem in_go {n : Nat} {S : Sto} {g : Addr} {w : Str} (DD : Ds st big al n S) (hn : n ≤ 800000) (hw : GB 1464 w) (q : ∀ x3 S', Ds st big al (n + 9) S' → C.nx (EnvG A (.ref st) g x3 x4 (some (.str w)) x6) S') : dSeq I1 (dSeq I2 I3) C (EnvG A (.ref st) g x3 x4 (some (.str w)) x6) S := by
  refine i1_go (C := { C with nx := dSeq I2 I3 C }) DD (by omega) hw fun y S5 hy D5 => ?_
  refine i2_go (C := { C with nx := I3 C }) D5 (by omega) hy fun z S6 hz D6 => ?_
  exact i3_go D6 hz fun S7 D7 => q _ S7 (D7.mono (by omega))
theorem turns_go {n : Nat} {S : Sto} {g : Addr} (DD : Ds st big al n S) (hn : n ≤ 100000)
    (q : ∀ x3 x4 x5 x6 S', C.nx (EnvG A (.ref st) g x3 x4 x5 x6) S') : L82_turns C (EnvG A (.ref st) g x3 x4 x5 x6) S := by
  refine ⟨3, rfl, by decide, by decide, fun i env S' => ∃ x3 x4 x5 x6, env = EnvG A (.ref st) g x3 x4 x5 x6 ∧ Ds st big al (n + 500 * i) S', ⟨_, _, _, _, rfl, DD⟩, fun _ _ _ _ _ => True.intro, ?_, fun env S' ⟨_, _, _, _, he, _⟩ => by rw [he]; exact q _ _ _ _ _⟩
  rintro i d env S1 hd ⟨x3, x4, x5, x6, rfl, D1⟩
  obtain ⟨hi, rfl⟩ := rg_at hd
  have hi : i < 3 := hi
  refine ⟨_, rfl, rfl, w_historyS (pr := 6) (ev := 30) D1 (by omega) (by decide) (by decide) (by decide) fun rows S2 hG D2 k2 => ⟨rfl, ?_⟩⟩
  have rl := hG.len
  have r60 := hG.row60 (by decide : 30 ≤ 60)
  have hR : ∀ r ∈ rows, r.length ≤ 60 ∧ InR r := fun r hr => ⟨r60 r hr, fun x hx => by
    obtain ⟨q, hq⟩ := List.getElem?_of_mem hr
    exact (hG.row hq).2 x hx⟩
  refine w_lawHistText rl.2 hR fun S3 sg3 => ?_
  have D3 := D2.keep sg3
  have hw : GB 1464 (histT rows) := ⟨histT_sgn fun r hr => (hR r hr).2, histT_len rl.2 hR⟩
  generalize histT rows = w at hw
  refine ⟨12, rfl, by decide, by decide, fun j env S' => ∃ x3 x6, env = EnvG A (.ref st) g x3 (some (.int (0 + (i : Int)))) (some (.str w)) x6 ∧ Ds st big al (n + 500 * i + 300 + 9 * j) S', ⟨_, _, rfl, D3⟩, fun _ _ _ _ _ => True.intro, ?_, ?_⟩
  · rintro j dj env S4 hdj ⟨x3, x6, rfl, D4⟩
    obtain ⟨hj, rfl⟩ := rg_at hdj
    have hj : j < 12 := hj
    exact in_go (C := { nx := fun env S' => ∃ x3 x6, env = EnvG A (.ref st) g x3 (some (.int (0 + (i : Int)))) (some (.str w)) x6 ∧ Ds st big al (n + 500 * i + 300 + 9 * (j + 1)) S', rt := C.rt, bk := _, ct := _ }) D4 (by omega) hw fun x3 S7 D7 => ⟨_, _, rfl, D7.mono (by omega)⟩
  · rintro env S4 ⟨x3, x6, rfl, D4⟩
    exact ⟨_, _, _, _, rfl, D4.mono (by show n + 500 * i + 300 + 9 * 12 ≤ _; omega)⟩
end Sv
set_option maxHeartbeats 1000000
set_option autoImplicit false
namespace Sv
open PySem PySem.Spec PyProof.Rows L2 TL
theorem law_k82 (ns : List Int) (hl : ns.length ≤ 63) : dFn 7 B_law_4b1d [.rol (intsD ns)] (fun _ => none) (fun d _ => d = .bl true) := by
  have h0 : ∀ C : DEnds, C.rt = (fun d _ => d = .bl true) → (dSeq L82_state (dSeq L82_f1 (dSeq L82_f2 (dSeq L82_f3 (dSeq L82_f4 (dSeq L82_f5 (dSeq L82_vals (dSeq L82_turns L82_ret)))))))) C (dStart 7 [.rol (intsD ns)]) (fun _ => none) := by
    intro C hC
    refine ⟨_, rfl, rfl, w_stateS (by omega) fun st big al S1 D1 sg1 _ _ _ => ?_⟩
    refine f1_go (C := { C with nx := _ }) fun y1 g1 T1 t1 l1 b1 h1 => ?_
    refine f2_go (C := { C with nx := _ }) h1 l1 b1 (by omega) fun y2 g2 T2 t2 l2 b2 h2 => ?_
    refine f3_go (C := { C with nx := _ }) h2 l2 b2 (by omega) fun y3 g3 T3 t3 n3 l3 b3 h3 => ?_
    have t13 := SK.trans (SK.trans t1 t2) t3
    have n3' : S1 g3 = none := SG.none (SK.trans t1 t2) n3
    refine f4_go (C := { C with nx := _ }) h3 l3 b3 (by omega) t13 n3' fun y4 T4 t4 l4 b4 h4 => ?_
    refine f5_go (C := { C with nx := _ }) h4 l4 b4 (by omega) fun y5 g5 T5 t5 l5 b5 h5 => ?_
    have D5 := D1.keep (SK.trans t4 t5)
    refine vals_go (C := { C with nx := _ }) D5 (by decide) h5 l5 (by omega) b5 (by omega) fun x3 T6 D6 => ?_
    refine turns_go (C := { C with nx := _ }) D6 (by decide) fun x3 x4 x5 x6 T7 => ?_
    show C.rt (.bl true) T7
    rw [hC]
  have := h0 { nx := fun _ S' => (fun d _ => d = D.bl true) D.non S', rt := fun d _ => d = .bl true } rfl
  rw [← law82_is] at this
  exact this
end Sv
namespace Sv
open PySem PySem.Spec PyProof.Rows L2
set_option maxHeartbeats 4000000 in
theorem all_mk {l : PySem.W.OpenLaw} {w : World} {K : PySem.W.Frag} {h : Heap} {mg : Str → Option Value} {fa f0 f1 f2 f3 f4 f5 f6 f7 f8 f9 f10 f11 f12 f13 f14 f15 f16 f17 f18 f19 f20 f21 f22 f23 f24 f25 f26 f27 f28 f29 f30 f31 f32 f33 f34 : Addr} (X : K.In h) (G : h.Ns mainGlobals mg) (hfa : mg "law" = some (.ref fa))
    {od0 an0 od1 an1 od2 an2 od3 an3 od4 an4 od5 an5 od6 an6 od7 an7 od8 an8 od9 an9 od10 an10 od11 an11 od12 an12 od13 an13 od14 an14 od15 an15 od16 an16 od17 an17 od18 an18 od19 an19 od20 an20 od21 an21 od22 an22 od23 an23 od24 an24 od25 an25 od26 an26 od27 an27 od28 an28 od29 an29 od30 an30 od31 an31 od32 an32 od33 an33 od34 an34 : Option Addr} {sl0 sl1 sl2 sl3 sl4 sl5 sl6 sl7 sl8 sl9 sl10 sl11 sl12 sl13 sl14 sl15 sl16 sl17 sl18 sl19 sl20 sl21 sl22 sl23 sl24 sl25 sl26 sl27 sl28 sl29 sl30 sl31 sl32 sl33 sl34 : Array (Option Value)} {oc0 kV0 dc0 pm0 cd0 ct0 oc1 kV1 dc1 pm1 cd1 ct1 oc2 kV2 dc2 pm2 cd2 ct2 oc3 kV3 dc3 pm3 cd3 ct3 oc4 kV4 dc4 pm4 cd4 ct4 oc5 kV5 dc5 pm5 cd5 ct5 oc6 kV6 dc6 pm6 cd6 ct6 oc7 kV7 dc7 pm7 cd7 ct7 oc8 kV8 dc8 pm8 cd8 ct8 oc9 kV9 dc9 pm9 cd9 ct9 oc10 kV10 dc10 pm10 cd10 ct10 oc11 kV11 dc11 pm11 cd11 ct11 oc12 kV12 dc12 pm12 cd12 ct12 oc13 kV13 dc13 pm13 cd13 ct13 oc14 kV14 dc14 pm14 cd14 ct14 oc15 kV15 dc15 pm15 cd15 ct15 oc16 kV16 dc16 pm16 cd16 ct16 oc17 kV17 dc17 pm17 cd17 ct17 oc18 kV18 dc18 pm18 cd18 ct18 oc19 kV19 dc19 pm19 cd19 ct19 oc20 kV20 dc20 pm20 cd20 ct20 oc21 kV21 dc21 pm21 cd21 ct21 oc22 kV22 dc22 pm22 cd22 ct22 oc23 kV23 dc23 pm23 cd23 ct23 oc24 kV24 dc24 pm24 cd24 ct24 oc25 kV25 dc25 pm25 cd25 ct25 oc26 kV26 dc26 pm26 cd26 ct26 oc27 kV27 dc27 pm27 cd27 ct27 oc28 kV28 dc28 pm28 cd28 ct28 oc29 kV29 dc29 pm29 cd29 ct29 oc30 kV30 dc30 pm30 cd30 ct30 oc31 kV31 dc31 pm31 cd31 ct31 oc32 kV32 dc32 pm32 cd32 ct32 oc33 kV33 dc33 pm33 cd33 ct33 oc34 kV34 dc34 pm34 cd34 ct34 : Value}
    (a0 : PySem.W.nsIn K mainGlobals "_law_same" = some (some (.ref f0))) (l0 : K.lookup f0 = some ⟨oc0, od0, .func (PySem.W.fnOf "_law_same" "_law_same" (defArgs s__law_same) (defBody s__law_same) (defScope s__law_same) .none kV0 dc0 pm0 an0 cd0 ct0), sl0⟩) (c0 : PySem.W.codeIn K cd0 "_law_same" = true) (k0 : PySem.W.keepIn K (.ref f0) = true)
    (a1 : PySem.W.nsIn K mainGlobals "event_count" = some (some (.ref f1))) (l1 : K.lookup f1 = some ⟨oc1, od1, .func (PySem.W.fnOf "event_count" "event_count" (defArgs s_event_count) (defBody s_event_count) (defScope s_event_count) .none kV1 dc1 pm1 an1 cd1 ct1), sl1⟩) (c1 : PySem.W.codeIn K cd1 "event_count" = true) (k1 : PySem.W.keepIn K (.ref f1) = true)
    (a2 : PySem.W.nsIn K mainGlobals "shape_error" = some (some (.ref f2))) (l2 : K.lookup f2 = some ⟨oc2, od2, .func (PySem.W.fnOf "shape_error" "shape_error" (defArgs s_shape_error) (defBody s_shape_error) (defScope s_shape_error) .none kV2 dc2 pm2 an2 cd2 ct2), sl2⟩) (c2 : PySem.W.codeIn K cd2 "shape_error" = true) (k2 : PySem.W.keepIn K (.ref f2) = true)
    (a3 : PySem.W.nsIn K mainGlobals "placed_events" = some (some (.ref f3))) (l3 : K.lookup f3 = some ⟨oc3, od3, .func (PySem.W.fnOf "placed_events" "placed_events" (defArgs s_placed_events) (defBody s_placed_events) (defScope s_placed_events) .none kV3 dc3 pm3 an3 cd3 ct3), sl3⟩) (c3 : PySem.W.codeIn K cd3 "placed_events" = true) (k3 : PySem.W.keepIn K (.ref f3) = true)
    (a4 : PySem.W.nsIn K mainGlobals "is_number" = some (some (.ref f4))) (l4 : K.lookup f4 = some ⟨oc4, od4, .func (PySem.W.fnOf "is_number" "is_number" (defArgs s_is_number) (defBody s_is_number) (defScope s_is_number) .none kV4 dc4 pm4 an4 cd4 ct4), sl4⟩) (c4 : PySem.W.codeIn K cd4 "is_number" = true) (k4 : PySem.W.keepIn K (.ref f4) = true)
    (a5 : PySem.W.nsIn K mainGlobals "is_number_within" = some (some (.ref f5))) (l5 : K.lookup f5 = some ⟨oc5, od5, .func (PySem.W.fnOf "is_number_within" "is_number_within" (defArgs s_is_number_within) (defBody s_is_number_within) (defScope s_is_number_within) .none kV5 dc5 pm5 an5 cd5 ct5), sl5⟩) (c5 : PySem.W.codeIn K cd5 "is_number_within" = true) (k5 : PySem.W.keepIn K (.ref f5) = true)
    (a6 : PySem.W.nsIn K mainGlobals "event_error" = some (some (.ref f6))) (l6 : K.lookup f6 = some ⟨oc6, od6, .func (PySem.W.fnOf "event_error" "event_error" (defArgs s_event_error) (defBody s_event_error) (defScope s_event_error) .none kV6 dc6 pm6 an6 cd6 ct6), sl6⟩) (c6 : PySem.W.codeIn K cd6 "event_error" = true) (k6 : PySem.W.keepIn K (.ref f6) = true)
    (a7 : PySem.W.nsIn K mainGlobals "twice_error" = some (some (.ref f7))) (l7 : K.lookup f7 = some ⟨oc7, od7, .func (PySem.W.fnOf "twice_error" "twice_error" (defArgs s_twice_error) (defBody s_twice_error) (defScope s_twice_error) .none kV7 dc7 pm7 an7 cd7 ct7), sl7⟩) (c7 : PySem.W.codeIn K cd7 "twice_error" = true) (k7 : PySem.W.keepIn K (.ref f7) = true)
    (a8 : PySem.W.nsIn K mainGlobals "is_sent_by_another" = some (some (.ref f8))) (l8 : K.lookup f8 = some ⟨oc8, od8, .func (PySem.W.fnOf "is_sent_by_another" "is_sent_by_another" (defArgs s_is_sent_by_another) (defBody s_is_sent_by_another) (defScope s_is_sent_by_another) .none kV8 dc8 pm8 an8 cd8 ct8), sl8⟩) (c8 : PySem.W.codeIn K cd8 "is_sent_by_another" = true) (k8 : PySem.W.keepIn K (.ref f8) = true)
    (a9 : PySem.W.nsIn K mainGlobals "unsent_error" = some (some (.ref f9))) (l9 : K.lookup f9 = some ⟨oc9, od9, .func (PySem.W.fnOf "unsent_error" "unsent_error" (defArgs s_unsent_error) (defBody s_unsent_error) (defScope s_unsent_error) .none kV9 dc9 pm9 an9 cd9 ct9), sl9⟩) (c9 : PySem.W.codeIn K cd9 "unsent_error" = true) (k9 : PySem.W.keepIn K (.ref f9) = true)
    (a10 : PySem.W.nsIn K mainGlobals "ready_process" = some (some (.ref f10))) (l10 : K.lookup f10 = some ⟨oc10, od10, .func (PySem.W.fnOf "ready_process" "ready_process" (defArgs s_ready_process) (defBody s_ready_process) (defScope s_ready_process) .none kV10 dc10 pm10 an10 cd10 ct10), sl10⟩) (c10 : PySem.W.codeIn K cd10 "ready_process" = true) (k10 : PySem.W.keepIn K (.ref f10) = true)
    (a11 : PySem.W.nsIn K mainGlobals "some_order" = some (some (.ref f11))) (l11 : K.lookup f11 = some ⟨oc11, od11, .func (PySem.W.fnOf "some_order" "some_order" (defArgs s_some_order) (defBody s_some_order) (defScope s_some_order) .none kV11 dc11 pm11 an11 cd11 ct11), sl11⟩) (c11 : PySem.W.codeIn K cd11 "some_order" = true) (k11 : PySem.W.keepIn K (.ref f11) = true)
    (a12 : PySem.W.nsIn K mainGlobals "circle_error" = some (some (.ref f12))) (l12 : K.lookup f12 = some ⟨oc12, od12, .func (PySem.W.fnOf "circle_error" "circle_error" (defArgs s_circle_error) (defBody s_circle_error) (defScope s_circle_error) .none kV12 dc12 pm12 an12 cd12 ct12), sl12⟩) (c12 : PySem.W.codeIn K cd12 "circle_error" = true) (k12 : PySem.W.keepIn K (.ref f12) = true)
    (a13 : PySem.W.nsIn K mainGlobals "history_error" = some (some (.ref f13))) (l13 : K.lookup f13 = some ⟨oc13, od13, .func (PySem.W.fnOf "history_error" "history_error" (defArgs s_history_error) (defBody s_history_error) (defScope s_history_error) .none kV13 dc13 pm13 an13 cd13 ct13), sl13⟩) (c13 : PySem.W.codeIn K cd13 "history_error" = true) (k13 : PySem.W.keepIn K (.ref f13) = true)
    (a14 : PySem.W.nsIn K mainGlobals "_law_number_in" = some (some (.ref f14))) (l14 : K.lookup f14 = some ⟨oc14, od14, .func (PySem.W.fnOf "_law_number_in" "_law_number_in" (defArgs s__law_number_in) (defBody s__law_number_in) (defScope s__law_number_in) .none kV14 dc14 pm14 an14 cd14 ct14), sl14⟩) (c14 : PySem.W.codeIn K cd14 "_law_number_in" = true) (k14 : PySem.W.keepIn K (.ref f14) = true)
    (a15 : PySem.W.nsIn K mainGlobals "_law_event_in" = some (some (.ref f15))) (l15 : K.lookup f15 = some ⟨oc15, od15, .func (PySem.W.fnOf "_law_event_in" "_law_event_in" (defArgs s__law_event_in) (defBody s__law_event_in) (defScope s__law_event_in) .none kV15 dc15 pm15 an15 cd15 ct15), sl15⟩) (c15 : PySem.W.codeIn K cd15 "_law_event_in" = true) (k15 : PySem.W.keepIn K (.ref f15) = true)
    (a16 : PySem.W.nsIn K mainGlobals "_law_due" = some (some (.ref f16))) (l16 : K.lookup f16 = some ⟨oc16, od16, .func (PySem.W.fnOf "_law_due" "_law_due" (defArgs s__law_due) (defBody s__law_due) (defScope s__law_due) .none kV16 dc16 pm16 an16 cd16 ct16), sl16⟩) (c16 : PySem.W.codeIn K cd16 "_law_due" = true) (k16 : PySem.W.keepIn K (.ref f16) = true)
    (a17 : PySem.W.nsIn K mainGlobals "number_of" = some (some (.ref f17))) (l17 : K.lookup f17 = some ⟨oc17, od17, .func (PySem.W.fnOf "number_of" "number_of" (defArgs s_number_of) (defBody s_number_of) (defScope s_number_of) .none kV17 dc17 pm17 an17 cd17 ct17), sl17⟩) (c17 : PySem.W.codeIn K cd17 "number_of" = true) (k17 : PySem.W.keepIn K (.ref f17) = true)
    (a18 : PySem.W.nsIn K mainGlobals "event_of" = some (some (.ref f18))) (l18 : K.lookup f18 = some ⟨oc18, od18, .func (PySem.W.fnOf "event_of" "event_of" (defArgs s_event_of) (defBody s_event_of) (defScope s_event_of) .none kV18 dc18 pm18 an18 cd18 ct18), sl18⟩) (c18 : PySem.W.codeIn K cd18 "event_of" = true) (k18 : PySem.W.keepIn K (.ref f18) = true)
    (a19 : PySem.W.nsIn K mainGlobals "can_follow" = some (some (.ref f19))) (l19 : K.lookup f19 = some ⟨oc19, od19, .func (PySem.W.fnOf "can_follow" "can_follow" (defArgs s_can_follow) (defBody s_can_follow) (defScope s_can_follow) .none kV19 dc19 pm19 an19 cd19 ct19), sl19⟩) (c19 : PySem.W.codeIn K cd19 "can_follow" = true) (k19 : PySem.W.keepIn K (.ref f19) = true)
    (a20 : PySem.W.nsIn K mainGlobals "rows_of_words" = some (some (.ref f20))) (l20 : K.lookup f20 = some ⟨oc20, od20, .func (PySem.W.fnOf "rows_of_words" "rows_of_words" (defArgs s_rows_of_words) (defBody s_rows_of_words) (defScope s_rows_of_words) .none kV20 dc20 pm20 an20 cd20 ct20), sl20⟩) (c20 : PySem.W.codeIn K cd20 "rows_of_words" = true) (k20 : PySem.W.keepIn K (.ref f20) = true)
    (a21 : PySem.W.nsIn K mainGlobals "words_of" = some (some (.ref f21))) (l21 : K.lookup f21 = some ⟨oc21, od21, .func (PySem.W.fnOf "words_of" "words_of" (defArgs s_words_of) (defBody s_words_of) (defScope s_words_of) .none kV21 dc21 pm21 an21 cd21 ct21), sl21⟩) (c21 : PySem.W.codeIn K cd21 "words_of" = true) (k21 : PySem.W.keepIn K (.ref f21) = true)
    (a22 : PySem.W.nsIn K mainGlobals "row_of" = some (some (.ref f22))) (l22 : K.lookup f22 = some ⟨oc22, od22, .func (PySem.W.fnOf "row_of" "row_of" (defArgs s_row_of) (defBody s_row_of) (defScope s_row_of) .none kV22 dc22 pm22 an22 cd22 ct22), sl22⟩) (c22 : PySem.W.codeIn K cd22 "row_of" = true) (k22 : PySem.W.keepIn K (.ref f22) = true)
    (a23 : PySem.W.nsIn K mainGlobals "parse_history" = some (some (.ref f23))) (l23 : K.lookup f23 = some ⟨oc23, od23, .func (PySem.W.fnOf "parse_history" "parse_history" (defArgs s_parse_history) (defBody s_parse_history) (defScope s_parse_history) .none kV23 dc23 pm23 an23 cd23 ct23), sl23⟩) (c23 : PySem.W.codeIn K cd23 "parse_history" = true) (k23 : PySem.W.keepIn K (.ref f23) = true)
    (a24 : PySem.W.nsIn K mainGlobals "_law_told" = some (some (.ref f24))) (l24 : K.lookup f24 = some ⟨oc24, od24, .func (PySem.W.fnOf "_law_told" "_law_told" (defArgs s__law_told) (defBody s__law_told) (defScope s__law_told) .none kV24 dc24 pm24 an24 cd24 ct24), sl24⟩) (c24 : PySem.W.codeIn K cd24 "_law_told" = true) (k24 : PySem.W.keepIn K (.ref f24) = true)
    (a25 : PySem.W.nsIn K mainGlobals "_law_draw" = some (some (.ref f25))) (l25 : K.lookup f25 = some ⟨oc25, od25, .func (PySem.W.fnOf "_law_draw" "_law_draw" (defArgs s__law_draw) (defBody s__law_draw) (defScope s__law_draw) .none kV25 dc25 pm25 an25 cd25 ct25), sl25⟩) (c25 : PySem.W.codeIn K cd25 "_law_draw" = true) (k25 : PySem.W.keepIn K (.ref f25) = true)
    (a26 : PySem.W.nsIn K mainGlobals "_law_spoilt" = some (some (.ref f26))) (l26 : K.lookup f26 = some ⟨oc26, od26, .func (PySem.W.fnOf "_law_spoilt" "_law_spoilt" (defArgs s__law_spoilt) (defBody s__law_spoilt) (defScope s__law_spoilt) .none kV26 dc26 pm26 an26 cd26 ct26), sl26⟩) (c26 : PySem.W.codeIn K cd26 "_law_spoilt" = true) (k26 : PySem.W.keepIn K (.ref f26) = true)
    (a27 : PySem.W.nsIn K mainGlobals "_law_event_text" = some (some (.ref f27))) (l27 : K.lookup f27 = some ⟨oc27, od27, .func (PySem.W.fnOf "_law_event_text" "_law_event_text" (defArgs s__law_event_text) (defBody s__law_event_text) (defScope s__law_event_text) .none kV27 dc27 pm27 an27 cd27 ct27), sl27⟩) (c27 : PySem.W.codeIn K cd27 "_law_event_text" = true) (k27 : PySem.W.keepIn K (.ref f27) = true)
    (a28 : PySem.W.nsIn K mainGlobals "_law_history_text" = some (some (.ref f28))) (l28 : K.lookup f28 = some ⟨oc28, od28, .func (PySem.W.fnOf "_law_history_text" "_law_history_text" (defArgs s__law_history_text) (defBody s__law_history_text) (defScope s__law_history_text) .none kV28 dc28 pm28 an28 cd28 ct28), sl28⟩) (c28 : PySem.W.codeIn K cd28 "_law_history_text" = true) (k28 : PySem.W.keepIn K (.ref f28) = true)
    (a29 : PySem.W.nsIn K mainGlobals "_law_pick" = some (some (.ref f29))) (l29 : K.lookup f29 = some ⟨oc29, od29, .func (PySem.W.fnOf "_law_pick" "_law_pick" (defArgs s__law_pick) (defBody s__law_pick) (defScope s__law_pick) .none kV29 dc29 pm29 an29 cd29 ct29), sl29⟩) (c29 : PySem.W.codeIn K cd29 "_law_pick" = true) (k29 : PySem.W.keepIn K (.ref f29) = true)
    (a30 : PySem.W.nsIn K mainGlobals "_law_mixed" = some (some (.ref f30))) (l30 : K.lookup f30 = some ⟨oc30, od30, .func (PySem.W.fnOf "_law_mixed" "_law_mixed" (defArgs s__law_mixed) (defBody s__law_mixed) (defScope s__law_mixed) .none kV30 dc30 pm30 an30 cd30 ct30), sl30⟩) (c30 : PySem.W.codeIn K cd30 "_law_mixed" = true) (k30 : PySem.W.keepIn K (.ref f30) = true)
    (a31 : PySem.W.nsIn K mainGlobals "_law_history" = some (some (.ref f31))) (l31 : K.lookup f31 = some ⟨oc31, od31, .func (PySem.W.fnOf "_law_history" "_law_history" (defArgs s__law_history) (defBody s__law_history) (defScope s__law_history) .none kV31 dc31 pm31 an31 cd31 ct31), sl31⟩) (c31 : PySem.W.codeIn K cd31 "_law_history" = true) (k31 : PySem.W.keepIn K (.ref f31) = true)
    (a32 : PySem.W.nsIn K mainGlobals "_law_odd" = some (some (.ref f32))) (l32 : K.lookup f32 = some ⟨oc32, od32, .func (PySem.W.fnOf "_law_odd" "_law_odd" (defArgs s__law_odd) (defBody s__law_odd) (defScope s__law_odd) .none kV32 dc32 pm32 an32 cd32 ct32), sl32⟩) (c32 : PySem.W.codeIn K cd32 "_law_odd" = true) (k32 : PySem.W.keepIn K (.ref f32) = true)
    (a33 : PySem.W.nsIn K mainGlobals "_law_state" = some (some (.ref f33))) (l33 : K.lookup f33 = some ⟨oc33, od33, .func (PySem.W.fnOf "_law_state" "_law_state" (defArgs s__law_state) (defBody s__law_state) (defScope s__law_state) .none kV33 dc33 pm33 an33 cd33 ct33), sl33⟩) (c33 : PySem.W.codeIn K cd33 "_law_state" = true) (k33 : PySem.W.keepIn K (.ref f33) = true)
    (a34 : PySem.W.nsIn K mainGlobals "law" = some (some (.ref f34))) (l34 : K.lookup f34 = some ⟨oc34, od34, .func (PySem.W.fnOf "law" "law" (defArgs s_law) (defBody s_law) (defScope s_law) .none kV34 dc34 pm34 an34 cd34 ct34), sl34⟩) (c34 : PySem.W.codeIn K cd34 "law" = true) (k34 : PySem.W.keepIn K (.ref f34) = true)
    {C_BadText : Addr} (g_BadText : PySem.W.nsIn K mainGlobals "BadText" = some (some (.ref C_BadText)))
    {C_BadHistory : Addr} (g_BadHistory : PySem.W.nsIn K mainGlobals "BadHistory" = some (some (.ref C_BadHistory)))
    {C_LineError : Addr} (g_LineError : PySem.W.nsIn K mainGlobals "LineError" = some (some (.ref C_LineError)))
    {C_BadEvent : Addr} (g_BadEvent : PySem.W.nsIn K mainGlobals "BadEvent" = some (some (.ref C_BadEvent)))
    {I_BadText : Addr} {xnm_BadText xq_BadText xN_BadText xbs_BadText xbm_BadText xsn_BadText xsub_BadText xab_BadText xcol_BadText xdd_BadText xk0_BadText xk1_BadText xk2_BadText xk3_BadText xk5_BadText : _}
    (ol_BadText : K.lookup C_BadText = some (excClassObj xnm_BadText xq_BadText C_BadText xN_BadText xbs_BadText xbm_BadText true xsn_BadText xsub_BadText xab_BadText xcol_BadText xdd_BadText xk0_BadText xk1_BadText xk2_BadText xk3_BadText xk5_BadText "ValueError.__new__")) (ov_BadText : PySem.HandSPX.refsVE xbm_BadText = true)
    (os_BadText : PySem.W.findIn K (.ref C_BadText) "__setattr__" = some (some (.builtin "object.__setattr__"))) (oe_BadText : PySem.W.subIn K (.ref C_BadText) (.type "BaseException") = some true) (oy_BadText : PySem.W.typeIn K (.ref C_BadText) = some (.type "type")) (ok_BadText : PySem.W.keepIn K (.ref C_BadText) = true) (oi_BadText : PySem.W.findIn K (.ref C_BadText) "__init__" = some (some (.ref I_BadText))) (oj_BadText : PySem.W.typeIn K (.ref I_BadText) = some (.type "function"))
    (of_BadText_index : PySem.W.findIn K (.ref C_BadText) "index" = some none)
    {xoc_BadText xkV_BadText xdc_BadText xpm_BadText xcd_BadText xct_BadText : Value} {xod_BadText xan_BadText : Option Addr} {xsl_BadText : Array (Option Value)}
    (lx_BadText : K.lookup I_BadText = some ⟨xoc_BadText, xod_BadText, .func (PySem.W.fnOf "__init__" "BadText.__init__" (defArgs s_BadText____init__) (defBody s_BadText____init__) (defScope s_BadText____init__) .none xkV_BadText xdc_BadText xpm_BadText xan_BadText xcd_BadText xct_BadText), xsl_BadText⟩) (cx_BadText : PySem.W.codeIn K xcd_BadText "BadText.__init__" = true) (kx_BadText : PySem.W.keepIn K (.ref I_BadText) = true)
    {I_BadHistory : Addr} {xnm_BadHistory xq_BadHistory xN_BadHistory xbs_BadHistory xbm_BadHistory xsn_BadHistory xsub_BadHistory xab_BadHistory xcol_BadHistory xdd_BadHistory xk0_BadHistory xk1_BadHistory xk2_BadHistory xk3_BadHistory xk5_BadHistory : _}
    (ol_BadHistory : K.lookup C_BadHistory = some (excClassObj xnm_BadHistory xq_BadHistory C_BadHistory xN_BadHistory xbs_BadHistory xbm_BadHistory true xsn_BadHistory xsub_BadHistory xab_BadHistory xcol_BadHistory xdd_BadHistory xk0_BadHistory xk1_BadHistory xk2_BadHistory xk3_BadHistory xk5_BadHistory "ValueError.__new__")) (ov_BadHistory : PySem.HandSPX.refsVE xbm_BadHistory = true)
    (os_BadHistory : PySem.W.findIn K (.ref C_BadHistory) "__setattr__" = some (some (.builtin "object.__setattr__"))) (oe_BadHistory : PySem.W.subIn K (.ref C_BadHistory) (.type "BaseException") = some true) (oy_BadHistory : PySem.W.typeIn K (.ref C_BadHistory) = some (.type "type")) (ok_BadHistory : PySem.W.keepIn K (.ref C_BadHistory) = true) (oi_BadHistory : PySem.W.findIn K (.ref C_BadHistory) "__init__" = some (some (.ref I_BadHistory))) (oj_BadHistory : PySem.W.typeIn K (.ref I_BadHistory) = some (.type "function"))
    (of_BadHistory_error : PySem.W.findIn K (.ref C_BadHistory) "error" = some none)
    {xoc_BadHistory xkV_BadHistory xdc_BadHistory xpm_BadHistory xcd_BadHistory xct_BadHistory : Value} {xod_BadHistory xan_BadHistory : Option Addr} {xsl_BadHistory : Array (Option Value)}
    (lx_BadHistory : K.lookup I_BadHistory = some ⟨xoc_BadHistory, xod_BadHistory, .func (PySem.W.fnOf "__init__" "BadHistory.__init__" (defArgs s_BadHistory____init__) (defBody s_BadHistory____init__) (defScope s_BadHistory____init__) .none xkV_BadHistory xdc_BadHistory xpm_BadHistory xan_BadHistory xcd_BadHistory xct_BadHistory), xsl_BadHistory⟩) (cx_BadHistory : PySem.W.codeIn K xcd_BadHistory "BadHistory.__init__" = true) (kx_BadHistory : PySem.W.keepIn K (.ref I_BadHistory) = true)
    (tb_LineError : PySem.W.subIn K (.ref C_LineError) (.type "BaseException") = some true) (td_LineError : PySem.W.hasDictIn K C_LineError = true) (ty_LineError : PySem.W.typeIn K (.ref C_LineError) = some (.type "type"))
    (ts_LineError_BadHistory : PySem.W.subIn K (.ref C_BadHistory) (.ref C_LineError) = some true)
    (ts_LineError_BadText : PySem.W.subIn K (.ref C_BadText) (.ref C_LineError) = some true)
    (eg_BadHistory : PySem.W.findIn K (.ref C_BadHistory) "__getattribute__" = some (some (.builtin "BaseException.__getattribute__")))
    (ek_BadHistory : PySem.W.findIn K (.ref C_BadHistory) "__getattr__" = some none)
    (ed_BadHistory : PySem.W.hasDictIn K C_BadHistory = true)
    (ea_BadHistory : PySem.W.findIn K (.ref C_BadHistory) "__class__" = some (some (.builtin "object.__class__")))
    (em_BadHistory : PySem.W.mroIn K C_BadHistory (.type "object") = some true)
    (xon : PySem.W.specialIn K (.builtin "object.__class__") "__get__" = some (some (.builtin "getset_descriptor.__get__")))
    (xot : PySem.W.takesIn K (.builtin "object.__class__") = some true)
    (eg_BadText : PySem.W.findIn K (.ref C_BadText) "__getattribute__" = some (some (.builtin "BaseException.__getattribute__")))
    (ek_BadText : PySem.W.findIn K (.ref C_BadText) "__getattr__" = some none)
    (ed_BadText : PySem.W.hasDictIn K C_BadText = true)
    (ea_BadText : PySem.W.findIn K (.ref C_BadText) "__class__" = some (some (.builtin "object.__class__")))
    (em_BadText : PySem.W.mroIn K C_BadText (.type "object") = some true)
    (xe_BadText_BadHistory : (PySem.Value.ref C_BadHistory == PySem.Value.ref C_BadText) = false)
    (xh_BadText : PySem.W.hasDictIn K C_BadText = true)
    (xy_BadText : PySem.W.typeIn K (.ref C_BadText) = some (.type "type"))
    (xs_BadText_BadHistory : PySem.W.subIn K (.ref C_BadHistory) (.ref C_BadText) = some false)
    (xe_BadText_BadText : (PySem.Value.ref C_BadText == PySem.Value.ref C_BadText) = true)
    (xe_BadHistory_BadHistory : (PySem.Value.ref C_BadHistory == PySem.Value.ref C_BadHistory) = true)
    (xe_BadHistory_BadText : (PySem.Value.ref C_BadText == PySem.Value.ref C_BadHistory) = false)
    (xh_BadHistory : PySem.W.hasDictIn K C_BadHistory = true)
    (xy_BadHistory : PySem.W.typeIn K (.ref C_BadHistory) = some (.type "type"))
    (xs_BadHistory_BadText : PySem.W.subIn K (.ref C_BadText) (.ref C_BadHistory) = some false)
    (xe_BadEvent_BadHistory : (PySem.Value.ref C_BadHistory == PySem.Value.ref C_BadEvent) = false)
    (xh_BadEvent : PySem.W.hasDictIn K C_BadEvent = true)
    (xy_BadEvent : PySem.W.typeIn K (.ref C_BadEvent) = some (.type "type"))
    (xs_BadEvent_BadHistory : PySem.W.subIn K (.ref C_BadHistory) (.ref C_BadEvent) = some false)
    (xe_BadEvent_BadText : (PySem.Value.ref C_BadText == PySem.Value.ref C_BadEvent) = false)
    (xs_BadEvent_BadText : PySem.W.subIn K (.ref C_BadText) (.ref C_BadEvent) = some false)
    {tM0 : Tok} (m0 : PySem.W.nsIn K mainGlobals "MAX_EVENTS" = some (some (.int 60 tM0)))
    {tM1 : Tok} (m1 : PySem.W.nsIn K mainGlobals "MAX_PROCESSES" = some (some (.int 6 tM1)))
    {tM2 : Tok} (m2 : PySem.W.nsIn K mainGlobals "MAX_MESSAGES" = some (some (.int 24 tM2)))
    {tM3 : Tok} (m3 : PySem.W.nsIn K mainGlobals "MAX_DIGITS" = some (some (.int 6 tM3)))
    {tM4 : Tok} (m4 : PySem.W.nsIn K mainGlobals "SAVE" = some (some (.str "." tM4)))
    {tM5 : Tok} (m5 : PySem.W.nsIn K mainGlobals "NO_EVENTS" = some (some (.str "_" tM5)))
    {tM6 : Tok} (m6 : PySem.W.nsIn K mainGlobals "NEXT_ROW" = some (some (.str "|" tM6)))
    (z0 : PySem.W.nsIn K mainGlobals "repr" = some none) (z1 : PySem.W.nsIn K mainGlobals "len" = some none) (z2 : PySem.W.nsIn K mainGlobals "sum" = some none) (z3 : PySem.W.nsIn K mainGlobals "enumerate" = some none) (z4 : PySem.W.nsIn K mainGlobals "tuple" = some none) (z5 : PySem.W.nsIn K mainGlobals "isinstance" = some none) (z6 : PySem.W.nsIn K mainGlobals "int" = some none) (z7 : PySem.W.nsIn K mainGlobals "bool" = some none) (z8 : PySem.W.nsIn K mainGlobals "set" = some none) (z9 : PySem.W.nsIn K mainGlobals "any" = some none) (z10 : PySem.W.nsIn K mainGlobals "list" = some none) (z11 : PySem.W.nsIn K mainGlobals "str" = some none) (z12 : PySem.W.nsIn K mainGlobals "range" = some none) (z13 : PySem.W.nsIn K mainGlobals "abs" = some none) :
    ∃ fd : FuncData, (∀ (s : Shared) (v : Value), BindsTo s fd ⟨[v], []⟩ [("_law_script", v)]) ∧ ∀ base : Heap, K.In base → base.Ns mainGlobals mg → FnG l.prog w K mg base 8 fa fd ["_law_script"] (spLawD K) := by
  have e := hfa.symm.trans (PySem.W.mg_of X G a34)
  cases e
  have F0 := fun_mk (st := s__law_same) l0 c0 k0
  have F1 := fun_mk (st := s_event_count) l1 c1 k1
  have F2 := fun_mk (st := s_shape_error) l2 c2 k2
  have F3 := fun_mk (st := s_placed_events) l3 c3 k3
  have F4 := fun_mk (st := s_is_number) l4 c4 k4
  have F5 := fun_mk (st := s_is_number_within) l5 c5 k5
  have F6 := fun_mk (st := s_event_error) l6 c6 k6
  have F7 := fun_mk (st := s_twice_error) l7 c7 k7
  have F8 := fun_mk (st := s_is_sent_by_another) l8 c8 k8
  have F9 := fun_mk (st := s_unsent_error) l9 c9 k9
  have F10 := fun_mk (st := s_ready_process) l10 c10 k10
  have F11 := fun_mk (st := s_some_order) l11 c11 k11
  have F12 := fun_mk (st := s_circle_error) l12 c12 k12
  have F13 := fun_mk (st := s_history_error) l13 c13 k13
  have F14 := fun_mk (st := s__law_number_in) l14 c14 k14
  have F15 := fun_mk (st := s__law_event_in) l15 c15 k15
  have F16 := fun_mk (st := s__law_due) l16 c16 k16
  have F17 := fun_mk (st := s_number_of) l17 c17 k17
  have F18 := fun_mk (st := s_event_of) l18 c18 k18
  have F19 := fun_mk (st := s_can_follow) l19 c19 k19
  have F20 := fun_mk (st := s_rows_of_words) l20 c20 k20
  have F21 := fun_mk (st := s_words_of) l21 c21 k21
  have F22 := fun_mk (st := s_row_of) l22 c22 k22
  have F23 := fun_mk (st := s_parse_history) l23 c23 k23
  have F24 := fun_mk (st := s__law_told) l24 c24 k24
  have F25 := fun_mk (st := s__law_draw) l25 c25 k25
  have F26 := fun_mk (st := s__law_spoilt) l26 c26 k26
  have F27 := fun_mk (st := s__law_event_text) l27 c27 k27
  have F28 := fun_mk (st := s__law_history_text) l28 c28 k28
  have F29 := fun_mk (st := s__law_pick) l29 c29 k29
  have F30 := fun_mk (st := s__law_mixed) l30 c30 k30
  have F31 := fun_mk (st := s__law_history) l31 c31 k31
  have F32 := fun_mk (st := s__law_odd) l32 c32 k32
  have F33 := fun_mk (st := s__law_state) l33 c33 k33
  have F34 := fun_mk (st := s_law) l34 c34 k34
  refine ⟨(PySem.W.fnOf "law" "law" (defArgs s_law) (defBody s_law) (defScope s_law) .none kV34 dc34 pm34 an34 cd34 ct34), fun s v => .of_eq rfl, fun base _ _ => ?_⟩
  have FX_BadText := fun_mk (st := s_BadText____init__) lx_BadText cx_BadText kx_BadText
  have OX_BadText : OexC K C_BadText := ⟨⟨_, _, _, _, _, _, _, _, _, _, _, _, _, _, _, ol_BadText, ov_BadText⟩, os_BadText, oe_BadText, oy_BadText, ok_BadText⟩
  have X_BadText : XCls l.prog w K mg base 1 "BadText" ["index"] := .of1 OX_BadText g_BadText (PySem.W.mg_of X G g_BadText) oi_BadText oj_BadText (derX_BadText FX_BadText OX_BadText of_BadText_index) (FX_BadText.binds (ps := ["self", "index"]) fun _ _ _ _ _ _ us hl => match us, hl with | [_, _], _ => rfl)
  have FX_BadHistory := fun_mk (st := s_BadHistory____init__) lx_BadHistory cx_BadHistory kx_BadHistory
  have OX_BadHistory : OexC K C_BadHistory := ⟨⟨_, _, _, _, _, _, _, _, _, _, _, _, _, _, _, ol_BadHistory, ov_BadHistory⟩, os_BadHistory, oe_BadHistory, oy_BadHistory, ok_BadHistory⟩
  have X_BadHistory : XCls l.prog w K mg base 1 "BadHistory" ["error"] := .of1 OX_BadHistory g_BadHistory (PySem.W.mg_of X G g_BadHistory) oi_BadHistory oj_BadHistory (derX_BadHistory FX_BadHistory OX_BadHistory of_BadHistory_error) (FX_BadHistory.binds (ps := ["self", "error"]) fun _ _ _ _ _ _ us hl => match us, hl with | [_, _], _ => rfl)
  have T_LineError : DTab K mg "LineError" [("BadHistory", true), ("BadText", true)] := ⟨C_LineError, PySem.W.mg_of X G g_LineError, tab_cons g_BadHistory (PySem.W.exm_ref tb_LineError td_LineError ty_LineError ts_LineError_BadHistory) (tab_cons g_BadText (PySem.W.exm_ref tb_LineError td_LineError ty_LineError ts_LineError_BadText) (tab_nil))⟩
  have XS : XSus K [("BadHistory", ["error"]), ("BadText", ["index"])] := xsus_cons ⟨C_BadHistory, g_BadHistory, ⟨eg_BadHistory, ek_BadHistory, oe_BadHistory, ed_BadHistory, ea_BadHistory, xon, xot, em_BadHistory⟩, List.forall_mem_cons.mpr ⟨of_BadHistory_error, fun f hf => nomatch hf⟩⟩ (xsus_cons ⟨C_BadText, g_BadText, ⟨eg_BadText, ek_BadText, oe_BadText, ed_BadText, ea_BadText, xon, xot, em_BadText⟩, List.forall_mem_cons.mpr ⟨of_BadText_index, fun f hf => nomatch hf⟩⟩ (xsus_nil))
  have XT_BadText : XT K mg "BadText" [("BadHistory", false), ("BadText", true)] := .own (PySem.W.mg_of X G g_BadText) (kits_cons g_BadHistory (kitX_own xe_BadText_BadHistory xh_BadText xy_BadText xs_BadText_BadHistory) (kits_cons g_BadText (kitX_self xe_BadText_BadText) (kits_nil)))
  have XT_BadHistory : XT K mg "BadHistory" [("BadHistory", true), ("BadText", false)] := .own (PySem.W.mg_of X G g_BadHistory) (kits_cons g_BadHistory (kitX_self xe_BadHistory_BadHistory) (kits_cons g_BadText (kitX_own xe_BadHistory_BadText xh_BadHistory xy_BadHistory xs_BadHistory_BadText) (kits_nil)))
  have XT_BadEvent : XT K mg "BadEvent" [("BadHistory", false), ("BadText", false)] := .own (PySem.W.mg_of X G g_BadEvent) (kits_cons g_BadHistory (kitX_own xe_BadEvent_BadHistory xh_BadEvent xy_BadEvent xs_BadEvent_BadHistory) (kits_cons g_BadText (kitX_own xe_BadEvent_BadText xh_BadEvent xy_BadEvent xs_BadEvent_BadText) (kits_nil)))
  have D__law_same : DFn l.prog w K mg base 1 "_law_same" 2 (dFn 2 B_law_same_de9b) := .mk' (der__law_same F0 (PySem.W.mg_none_of X G z0)) (PySem.W.mg_of X G a0) F0.kp (F0.binds (ps := ["_law_found", "_law_due_here"]) fun _ _ _ _ _ _ us hl => match us, hl with | [_, _], _ => rfl)
  have D_event_count : DFo l.prog w K mg base 1 "event_count" 1 (dFn 2 B_event_count_1213) := .mk' (der_event_count F1 (PySem.W.mg_none_of X G z1) (PySem.W.mg_none_of X G z2)) (PySem.W.mg_of X G a1) F1.kp (F1.binds (ps := ["rows"]) fun _ _ _ _ _ _ us hl => match us, hl with | [_], _ => rfl)
  have D_shape_error : DFo l.prog w K mg base 2 "shape_error" 1 (dFn 3 B_shape_error_72a0) := .mk' (der_shape_error F2 D_event_count (PySem.W.mg_none_of X G z3) (PySem.W.mg_none_of X G z4) (PySem.W.mg_none_of X G z5) (PySem.W.mg_none_of X G z1) (PySem.W.mg_of X G m0) (PySem.W.mg_of X G m1)) (PySem.W.mg_of X G a2) F2.kp (F2.binds (ps := ["value"]) fun _ _ _ _ _ _ us hl => match us, hl with | [_], _ => rfl)
  have D_placed_events : DGf l.prog w K mg base 0 "placed_events" (dGfn 1 5 B_placed_events_e217) := ⟨_, der_placed_events F3 (PySem.W.mg_none_of X G z3) (F3.binds (ps := ["rows"]) fun _ _ _ _ _ _ us hl => match us, hl with | [_], _ => rfl), PySem.W.mg_of X G a3, F3.kp⟩
  have D_is_number : DFo l.prog w K mg base 1 "is_number" 1 (dFn 1 B_is_number_52f5) := .mk' (der_is_number F4 (PySem.W.mg_none_of X G z6) (PySem.W.mg_none_of X G z5) (PySem.W.mg_none_of X G z7)) (PySem.W.mg_of X G a4) F4.kp (F4.binds (ps := ["value"]) fun _ _ _ _ _ _ us hl => match us, hl with | [_], _ => rfl)
  have D_is_number_within : DFo l.prog w K mg base 2 "is_number_within" 3 (dFn 3 B_is_number_within_7f04) := .mk' (der_is_number_within F5 D_is_number) (PySem.W.mg_of X G a5) F5.kp (F5.binds (ps := ["value", "low", "high"]) fun _ _ _ _ _ _ us hl => match us, hl with | [_, _, _], _ => rfl)
  have D_event_error : DFo l.prog w K mg base 3 "event_error" 1 (dFn 4 B_event_error_3c54) := .mk' (der_event_error F6 D_placed_events D_is_number_within (PySem.W.mg_of X G m2)) (PySem.W.mg_of X G a6) F6.kp (F6.binds (ps := ["rows"]) fun _ _ _ _ _ _ us hl => match us, hl with | [_], _ => rfl)
  have D_twice_error : DFo l.prog w K mg base 3 "twice_error" 1 (dFn 5 B_twice_error_125f) := .mk' (der_twice_error F7 D_placed_events (PySem.W.mg_none_of X G z8)) (PySem.W.mg_of X G a7) F7.kp (F7.binds (ps := ["rows"]) fun _ _ _ _ _ _ us hl => match us, hl with | [_], _ => rfl)
  have D_is_sent_by_another : DFo l.prog w K mg base 1 "is_sent_by_another" 3 (dFn 5 B_is_sent_by_another_87f2) := .mk' (der_is_sent_by_another F8 (PySem.W.mg_none_of X G z3) (PySem.W.mg_none_of X G z9)) (PySem.W.mg_of X G a8) F8.kp (F8.binds (ps := ["rows", "process", "message"]) fun _ _ _ _ _ _ us hl => match us, hl with | [_, _, _], _ => rfl)
  have D_unsent_error : DFo l.prog w K mg base 3 "unsent_error" 1 (dFn 4 B_unsent_error_5d57) := .mk' (der_unsent_error F9 D_placed_events D_is_sent_by_another) (PySem.W.mg_of X G a9) F9.kp (F9.binds (ps := ["rows"]) fun _ _ _ _ _ _ us hl => match us, hl with | [_], _ => rfl)
  have D_ready_process : DFo l.prog w K mg base 1 "ready_process" 3 (dFn 6 B_ready_process_c75e) := .mk' (der_ready_process F10 (PySem.W.mg_none_of X G z3) (PySem.W.mg_none_of X G z1)) (PySem.W.mg_of X G a10) F10.kp (F10.binds (ps := ["history", "places", "happened"]) fun _ _ _ _ _ _ us hl => match us, hl with | [_, _, _], _ => rfl)
  have D_some_order : DGf l.prog w K mg base 1 "some_order" (dGfn 1 5 B_some_order_66e8) := ⟨_, der_some_order F11 D_ready_process (PySem.W.mg_none_of X G z1) (F11.binds (ps := ["history"]) fun _ _ _ _ _ _ us hl => match us, hl with | [_], _ => rfl), PySem.W.mg_of X G a11, F11.kp⟩
  have D_circle_error : DFo l.prog w K mg base 4 "circle_error" 1 (dFn 1 B_circle_error_0309) := .mk' (der_circle_error F12 D_some_order D_event_count (PySem.W.mg_none_of X G z10) (PySem.W.mg_none_of X G z1)) (PySem.W.mg_of X G a12) F12.kp (F12.binds (ps := ["rows"]) fun _ _ _ _ _ _ us hl => match us, hl with | [_], _ => rfl)
  have D_history_error : DFo l.prog w K mg base 5 "history_error" 1 (dFn 1 B_history_error_d6f4) := .mk' (der_history_error F13 D_shape_error D_event_error D_twice_error D_unsent_error D_circle_error) (PySem.W.mg_of X G a13) F13.kp (F13.binds (ps := ["value"]) fun _ _ _ _ _ _ us hl => match us, hl with | [_], _ => rfl)
  have D__law_number_in : DFo l.prog w K mg base 1 "_law_number_in" 2 (dFn 3 B_law_number_in_d447) := .mk' (der__law_number_in F14 (PySem.W.mg_none_of X G z6) (PySem.W.mg_none_of X G z1)) (PySem.W.mg_of X G a14) F14.kp (F14.binds (ps := ["_law_word", "_law_most"]) fun _ _ _ _ _ _ us hl => match us, hl with | [_, _], _ => rfl)
  have D__law_event_in : DFo l.prog w K mg base 2 "_law_event_in" 1 (dFn 2 B_law_event_in_1ebf) := .mk' (der__law_event_in F15 D__law_number_in) (PySem.W.mg_of X G a15) F15.kp (F15.binds (ps := ["_law_word"]) fun _ _ _ _ _ _ us hl => match us, hl with | [_], _ => rfl)
  have D__law_due : DFo l.prog w K mg base 6 "_law_due" 1 (dFn 9 B_law_due_dd10) := .mk' (der__law_due F16 D_history_error D__law_event_in (PySem.W.mg_none_of X G z4) (PySem.W.mg_none_of X G z1) (PySem.W.mg_none_of X G z3) (PySem.W.mg_none_of X G z11) (PySem.W.mg_none_of X G z5)) (PySem.W.mg_of X G a16) F16.kp (F16.binds (ps := ["_law_value"]) fun _ _ _ _ _ _ us hl => match us, hl with | [_], _ => rfl)
  have D_number_of : DFo l.prog w K mg base 1 "number_of" 1 (dFn 1 B_number_of_1a7b) := .mk' (der_number_of F17 (PySem.W.mg_none_of X G z6) (PySem.W.mg_none_of X G z1) (PySem.W.mg_of X G m3)) (PySem.W.mg_of X G a17) F17.kp (F17.binds (ps := ["word"]) fun _ _ _ _ _ _ us hl => match us, hl with | [_], _ => rfl)
  have D_event_of : DFo l.prog w K mg base 3 "event_of" 1 (dFn 2 B_event_of_16da) := .mk' (der_event_of F18 D_is_number_within D_number_of (PySem.W.mg_of X G m2) (PySem.W.mg_of X G m4)) (PySem.W.mg_of X G a18) F18.kp (F18.binds (ps := ["word"]) fun _ _ _ _ _ _ us hl => match us, hl with | [_], _ => rfl)
  have D_can_follow : DFo l.prog w K mg base 4 "can_follow" 2 (dFn 2 B_can_follow_f9d7) := .mk' (der_can_follow F19 D_event_of (PySem.W.mg_none_of X G z1) (PySem.W.mg_of X G m5) (PySem.W.mg_of X G m6)) (PySem.W.mg_of X G a19) F19.kp (F19.binds (ps := ["row", "word"]) fun _ _ _ _ _ _ us hl => match us, hl with | [_, _], _ => rfl)
  have DX_rows_of_words : DFx l.prog w K mg base 5 "rows_of_words" 1 (dFnX 4 B_rows_of_words_6edf) := ⟨_, _, _, der_rows_of_words F20 D_can_follow X_BadText (PySem.W.mg_none_of X G z1) (PySem.W.mg_none_of X G z3) (PySem.W.mg_of X G m6), PySem.W.mg_of X G a20, F20.kp, F20.binds (ps := ["words"]) fun _ _ _ _ _ _ us hl => match us, hl with | [_], _ => rfl⟩
  have D_words_of : DFo l.prog w K mg base 1 "words_of" 1 (dFn 1 B_words_of_9073) := .mk' (der_words_of F21 ) (PySem.W.mg_of X G a21) F21.kp (F21.binds (ps := ["text"]) fun _ _ _ _ _ _ us hl => match us, hl with | [_], _ => rfl)
  have D_row_of : DFo l.prog w K mg base 4 "row_of" 1 (dFn 2 B_row_of_e8a1) := .mk' (der_row_of F22 D_event_of (PySem.W.mg_none_of X G z4) (PySem.W.mg_of X G m5)) (PySem.W.mg_of X G a22) F22.kp (F22.binds (ps := ["words"]) fun _ _ _ _ _ _ us hl => match us, hl with | [_], _ => rfl)
  have DX_parse_history : DFx l.prog w K mg base 6 "parse_history" 1 (dFnX 4 B_parse_history_f38e) := ⟨_, _, _, der_parse_history F23 D_history_error DX_rows_of_words D_words_of D_row_of X_BadHistory X_BadText (PySem.W.mg_none_of X G z4) (PySem.W.mg_none_of X G z11) (PySem.W.mg_none_of X G z5), PySem.W.mg_of X G a23, F23.kp, F23.binds (ps := ["value"]) fun _ _ _ _ _ _ us hl => match us, hl with | [_], _ => rfl⟩
  have D__law_told : DFo l.prog w K mg base 7 "_law_told" 1 (dFn 3 B_law_told_75e9) := .mk' (der__law_told F24 DX_parse_history T_LineError XS XT_BadText XT_BadHistory XT_BadEvent (PySem.W.mg_none_of X G z5)) (PySem.W.mg_of X G a24) F24.kp (F24.binds (ps := ["_law_value"]) fun _ _ _ _ _ _ us hl => match us, hl with | [_], _ => rfl)
  have D__law_draw : DFo l.prog w K mg base 1 "_law_draw" 2 (dFn 5 B_law_draw_a332) := .mk' (der__law_draw F25 (PySem.W.mg_none_of X G z1)) (PySem.W.mg_of X G a25) F25.kp (F25.binds (ps := ["_law_state_here", "_law_below"]) fun _ _ _ _ _ _ us hl => match us, hl with | [_, _], _ => rfl)
  have D__law_spoilt : DFo l.prog w K mg base 2 "_law_spoilt" 2 (dFn 7 B_law_spoilt_0b62) := .mk' (der__law_spoilt F26 D__law_draw (PySem.W.mg_none_of X G z1)) (PySem.W.mg_of X G a26) F26.kp (F26.binds (ps := ["_law_state_here", "_law_word"]) fun _ _ _ _ _ _ us hl => match us, hl with | [_, _], _ => rfl)
  have D__law_event_text : DFo l.prog w K mg base 1 "_law_event_text" 1 (dFn 1 B_law_event_text_afb5) := .mk' (der__law_event_text F27 (PySem.W.mg_none_of X G z11)) (PySem.W.mg_of X G a27) F27.kp (F27.binds (ps := ["_law_event"]) fun _ _ _ _ _ _ us hl => match us, hl with | [_], _ => rfl)
  have D__law_history_text : DFo l.prog w K mg base 2 "_law_history_text" 1 (dFn 4 B_law_history_text_6ea4) := .mk' (der__law_history_text F28 D__law_event_text) (PySem.W.mg_of X G a28) F28.kp (F28.binds (ps := ["_law_rows"]) fun _ _ _ _ _ _ us hl => match us, hl with | [_], _ => rfl)
  have D__law_pick : DFo l.prog w K mg base 2 "_law_pick" 2 (dFn 2 B_law_pick_6e96) := .mk' (der__law_pick F29 D__law_draw (PySem.W.mg_none_of X G z1)) (PySem.W.mg_of X G a29) F29.kp (F29.binds (ps := ["_law_state_here", "_law_items"]) fun _ _ _ _ _ _ us hl => match us, hl with | [_, _], _ => rfl)
  have D__law_mixed : DFo l.prog w K mg base 2 "_law_mixed" 2 (dFn 4 B_law_mixed_b93a) := .mk' (der__law_mixed F30 D__law_draw (PySem.W.mg_none_of X G z4) (PySem.W.mg_none_of X G z1) (PySem.W.mg_none_of X G z10)) (PySem.W.mg_of X G a30) F30.kp (F30.binds (ps := ["_law_state_here", "_law_items"]) fun _ _ _ _ _ _ us hl => match us, hl with | [_, _], _ => rfl)
  have D__law_history : DFo l.prog w K mg base 3 "_law_history" 3 (dFn 15 B_law_history_6dd1) := .mk' (der__law_history F31 D__law_draw D__law_pick D__law_mixed (PySem.W.mg_none_of X G z4) (PySem.W.mg_none_of X G z12) (PySem.W.mg_none_of X G z10)) (PySem.W.mg_of X G a31) F31.kp (F31.binds (ps := ["_law_state_here", "_law_many", "_law_most"]) fun _ _ _ _ _ _ us hl => match us, hl with | [_, _, _], _ => rfl)
  have D__law_odd : DFo l.prog w K mg base 2 "_law_odd" 1 (dFn 2 B_law_odd_0f51) := .mk' (der__law_odd F32 D__law_draw) (PySem.W.mg_of X G a32) F32.kp (F32.binds (ps := ["_law_state_here"]) fun _ _ _ _ _ _ us hl => match us, hl with | [_], _ => rfl)
  have D__law_state : DFo l.prog w K mg base 1 "_law_state" 1 (dFn 3 B_law_state_64d4) := .mk' (der__law_state F33 (PySem.W.mg_none_of X G z1) (PySem.W.mg_none_of X G z13)) (PySem.W.mg_of X G a33) F33.kp (F33.binds (ps := ["_law_script"]) fun _ _ _ _ _ _ us hl => match us, hl with | [_], _ => rfl)
  exact (der_law F34 D__law_same D__law_due D__law_told D__law_draw D__law_spoilt D__law_history_text D__law_history D__law_odd D__law_state (PySem.W.mg_none_of X G z12)).lawD rfl law_k82
end Sv
open PySem PySem.W PyProof.Rows in
set_option maxRecDepth 100000 in
set_option maxHeartbeats 0 in
theorem PySem.Challenge.cw_savelines_k82_history_texts_that_are_wro_holds : PySem.Challenge.rw_savelines_k82_history_texts_that_are_wro.Holds := by
  w_on; o_law; k_head; (case hw => w_witness2)
  k_fill
  refine Sv.walkG (l := PySem.Challenge.rw_savelines_k82_history_texts_that_are_wro) (n := 63) (k := 8) (x := "_law_script") (sp := Sv.spLawD) rfl (by decide) rfl ⟨rfl, by decide, by decide⟩ (fun w h Y => PySem.W.kIn_of Y) ?F (fun K H a ns hl hO hS => ⟨a, ns, rfl, hO, hS, hl, fun _ => rfl⟩)
  case F =>
    intro w mg fa h KX G hmg
    refine' Sv.all_mk KX G hmg ?a0 ?l0 ?c0 ?k0 ?a1 ?l1 ?c1 ?k1 ?a2 ?l2 ?c2 ?k2 ?a3 ?l3 ?c3 ?k3 ?a4 ?l4 ?c4 ?k4 ?a5 ?l5 ?c5 ?k5 ?a6 ?l6 ?c6 ?k6 ?a7 ?l7 ?c7 ?k7 ?a8 ?l8 ?c8 ?k8 ?a9 ?l9 ?c9 ?k9 ?a10 ?l10 ?c10 ?k10 ?a11 ?l11 ?c11 ?k11 ?a12 ?l12 ?c12 ?k12 ?a13 ?l13 ?c13 ?k13 ?a14 ?l14 ?c14 ?k14 ?a15 ?l15 ?c15 ?k15 ?a16 ?l16 ?c16 ?k16 ?a17 ?l17 ?c17 ?k17 ?a18 ?l18 ?c18 ?k18 ?a19 ?l19 ?c19 ?k19 ?a20 ?l20 ?c20 ?k20 ?a21 ?l21 ?c21 ?k21 ?a22 ?l22 ?c22 ?k22 ?a23 ?l23 ?c23 ?k23 ?a24 ?l24 ?c24 ?k24 ?a25 ?l25 ?c25 ?k25 ?a26 ?l26 ?c26 ?k26 ?a27 ?l27 ?c27 ?k27 ?a28 ?l28 ?c28 ?k28 ?a29 ?l29 ?c29 ?k29 ?a30 ?l30 ?c30 ?k30 ?a31 ?l31 ?c31 ?k31 ?a32 ?l32 ?c32 ?k32 ?a33 ?l33 ?c33 ?k33 ?a34 ?l34 ?c34 ?k34 ?g_BadText ?g_BadHistory ?g_LineError ?g_BadEvent ?ol_BadText ?ov_BadText ?os_BadText ?oe_BadText ?oy_BadText ?ok_BadText ?oi_BadText ?oj_BadText ?of_BadText_index ?lx_BadText ?cx_BadText ?kx_BadText ?ol_BadHistory ?ov_BadHistory ?os_BadHistory ?oe_BadHistory ?oy_BadHistory ?ok_BadHistory ?oi_BadHistory ?oj_BadHistory ?of_BadHistory_error ?lx_BadHistory ?cx_BadHistory ?kx_BadHistory ?tb_LineError ?td_LineError ?ty_LineError ?ts_LineError_BadHistory ?ts_LineError_BadText ?eg_BadHistory ?ek_BadHistory ?ed_BadHistory ?ea_BadHistory ?em_BadHistory ?xon ?xot ?eg_BadText ?ek_BadText ?ed_BadText ?ea_BadText ?em_BadText ?xe_BadText_BadHistory ?xh_BadText ?xy_BadText ?xs_BadText_BadHistory ?xe_BadText_BadText ?xe_BadHistory_BadHistory ?xe_BadHistory_BadText ?xh_BadHistory ?xy_BadHistory ?xs_BadHistory_BadText ?xe_BadEvent_BadHistory ?xh_BadEvent ?xy_BadEvent ?xs_BadEvent_BadHistory ?xe_BadEvent_BadText ?xs_BadEvent_BadText ?m0 ?m1 ?m2 ?m3 ?m4 ?m5 ?m6 ?z0 ?z1 ?z2 ?z3 ?z4 ?z5 ?z6 ?z7 ?z8 ?z9 ?z10 ?z11 ?z12 ?z13
    (case a0 => k_is)
    (case l0 => k_is)
    (case c0 => k_is)
    (case k0 => k_is)
    (case a1 => k_is)
    (case l1 => k_is)
    (case c1 => k_is)
    (case k1 => k_is)
    (case a2 => k_is)
    (case l2 => k_is)
    (case c2 => k_is)
    (case k2 => k_is)
    (case a3 => k_is)
    (case l3 => k_is)
    (case c3 => k_is)
    (case k3 => k_is)
    (case a4 => k_is)
    (case l4 => k_is)
    (case c4 => k_is)
    (case k4 => k_is)
    (case a5 => k_is)
    (case l5 => k_is)
    (case c5 => k_is)
    (case k5 => k_is)
    (case a6 => k_is)
    (case l6 => k_is)
    (case c6 => k_is)
    (case k6 => k_is)
    (case a7 => k_is)
    (case l7 => k_is)
    (case c7 => k_is)
    (case k7 => k_is)
    (case a8 => k_is)
    (case l8 => k_is)
    (case c8 => k_is)
    (case k8 => k_is)
    (case a9 => k_is)
    (case l9 => k_is)
    (case c9 => k_is)
    (case k9 => k_is)
    (case a10 => k_is)
    (case l10 => k_is)
    (case c10 => k_is)
    (case k10 => k_is)
    (case a11 => k_is)
    (case l11 => k_is)
    (case c11 => k_is)
    (case k11 => k_is)
    (case a12 => k_is)
    (case l12 => k_is)
    (case c12 => k_is)
    (case k12 => k_is)
    (case a13 => k_is)
    (case l13 => k_is)
    (case c13 => k_is)
    (case k13 => k_is)
    (case a14 => k_is)
    (case l14 => k_is)
    (case c14 => k_is)
    (case k14 => k_is)
    (case a15 => k_is)
    (case l15 => k_is)
    (case c15 => k_is)
    (case k15 => k_is)
    (case a16 => k_is)
    (case l16 => k_is)
    (case c16 => k_is)
    (case k16 => k_is)
    (case a17 => k_is)
    (case l17 => k_is)
    (case c17 => k_is)
    (case k17 => k_is)
    (case a18 => k_is)
    (case l18 => k_is)
    (case c18 => k_is)
    (case k18 => k_is)
    (case a19 => k_is)
    (case l19 => k_is)
    (case c19 => k_is)
    (case k19 => k_is)
    (case a20 => k_is)
    (case l20 => k_is)
    (case c20 => k_is)
    (case k20 => k_is)
    (case a21 => k_is)
    (case l21 => k_is)
    (case c21 => k_is)
    (case k21 => k_is)
    (case a22 => k_is)
    (case l22 => k_is)
    (case c22 => k_is)
    (case k22 => k_is)
    (case a23 => k_is)
    (case l23 => k_is)
    (case c23 => k_is)
    (case k23 => k_is)
    (case a24 => k_is)
    (case l24 => k_is)
    (case c24 => k_is)
    (case k24 => k_is)
    (case a25 => k_is)
    (case l25 => k_is)
    (case c25 => k_is)
    (case k25 => k_is)
    (case a26 => k_is)
    (case l26 => k_is)
    (case c26 => k_is)
    (case k26 => k_is)
    (case a27 => k_is)
    (case l27 => k_is)
    (case c27 => k_is)
    (case k27 => k_is)
    (case a28 => k_is)
    (case l28 => k_is)
    (case c28 => k_is)
    (case k28 => k_is)
    (case a29 => k_is)
    (case l29 => k_is)
    (case c29 => k_is)
    (case k29 => k_is)
    (case a30 => k_is)
    (case l30 => k_is)
    (case c30 => k_is)
    (case k30 => k_is)
    (case a31 => k_is)
    (case l31 => k_is)
    (case c31 => k_is)
    (case k31 => k_is)
    (case a32 => k_is)
    (case l32 => k_is)
    (case c32 => k_is)
    (case k32 => k_is)
    (case a33 => k_is)
    (case l33 => k_is)
    (case c33 => k_is)
    (case k33 => k_is)
    (case a34 => k_is)
    (case l34 => k_is)
    (case c34 => k_is)
    (case k34 => k_is)
    (case g_BadText => k_is)
    (case g_BadHistory => k_is)
    (case g_LineError => k_is)
    (case g_BadEvent => k_is)
    (case ol_BadText => k_is)
    (case ov_BadText => rfl)
    (case os_BadText => k_is)
    (case oe_BadText => k_is)
    (case oy_BadText => k_is)
    (case ok_BadText => k_is)
    (case oi_BadText => k_is)
    (case oj_BadText => k_is)
    (case of_BadText_index => k_is)
    (case lx_BadText => k_is)
    (case cx_BadText => k_is)
    (case kx_BadText => k_is)
    (case ol_BadHistory => k_is)
    (case ov_BadHistory => rfl)
    (case os_BadHistory => k_is)
    (case oe_BadHistory => k_is)
    (case oy_BadHistory => k_is)
    (case ok_BadHistory => k_is)
    (case oi_BadHistory => k_is)
    (case oj_BadHistory => k_is)
    (case of_BadHistory_error => k_is)
    (case lx_BadHistory => k_is)
    (case cx_BadHistory => k_is)
    (case kx_BadHistory => k_is)
    (case tb_LineError => k_is)
    (case td_LineError => k_is)
    (case ty_LineError => k_is)
    (case ts_LineError_BadHistory => k_is)
    (case ts_LineError_BadText => k_is)
    (case eg_BadHistory => k_is)
    (case ek_BadHistory => k_is)
    (case ed_BadHistory => k_is)
    (case ea_BadHistory => k_is)
    (case em_BadHistory => k_is)
    (case xon => k_is)
    (case xot => k_is)
    (case eg_BadText => k_is)
    (case ek_BadText => k_is)
    (case ed_BadText => k_is)
    (case ea_BadText => k_is)
    (case em_BadText => k_is)
    (case xe_BadText_BadHistory => first | rfl | decide +kernel | kernel_rfl)
    (case xh_BadText => k_is)
    (case xy_BadText => k_is)
    (case xs_BadText_BadHistory => k_is)
    (case xe_BadText_BadText => first | rfl | decide +kernel | kernel_rfl)
    (case xe_BadHistory_BadHistory => first | rfl | decide +kernel | kernel_rfl)
    (case xe_BadHistory_BadText => first | rfl | decide +kernel | kernel_rfl)
    (case xh_BadHistory => k_is)
    (case xy_BadHistory => k_is)
    (case xs_BadHistory_BadText => k_is)
    (case xe_BadEvent_BadHistory => first | rfl | decide +kernel | kernel_rfl)
    (case xh_BadEvent => k_is)
    (case xy_BadEvent => k_is)
    (case xs_BadEvent_BadHistory => k_is)
    (case xe_BadEvent_BadText => first | rfl | decide +kernel | kernel_rfl)
    (case xs_BadEvent_BadText => k_is)
    (case m0 => k_is)
    (case m1 => k_is)
    (case m2 => k_is)
    (case m3 => k_is)
    (case m4 => k_is)
    (case m5 => k_is)
    (case m6 => k_is)
    (case z0 => k_is)
    (case z1 => k_is)
    (case z2 => k_is)
    (case z3 => k_is)
    (case z4 => k_is)
    (case z5 => k_is)
    (case z6 => k_is)
    (case z7 => k_is)
    (case z8 => k_is)
    (case z9 => k_is)
    (case z10 => k_is)
    (case z11 => k_is)
    (case z12 => k_is)
    (case z13 => k_is)
