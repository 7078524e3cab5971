import PyProof.Rows.All
import Wide.All
import OpenK.AllK
import Wide.FinOn
import PyProof.EqAt
import PyProof.EqKinds
import PyProof.TupleCall
import HandS.ForMost
import HandS.Conv
import HandS.Style
import HandS.Deep
import KE.DataFind
import PyProof.ReprRoads
import HandS.Zip
import HandS.Walk
import HandS.Comp
import HandS.DictComp
import HandS.RaiseMore
import PyProof.CallFns
import KE.GoesEnum
import HandS.Star
import HandS.Iter
import HandS.IsInst
import HandS.Strs
import HandS.TupMul
import HandS.TupAny
import PyProof.ZipIter
import HandS.Zip0
import HandS.List
import HandS.TupSets
import HandS.SetBool
import KE.GoesMore
import PyProof.P3In
import PyProof.Rows.InDataRows
import HandS.GenList
import HandS.SetKeys
import HandS.NoneIn
import HandS.SetFor
import HandS.SortRule
import KE.DataMinMax
import HandS.SortKw
import HandS.GenYield
import HandS.Flow
import HandS.RevRange
import KE.KTupSum
import KE.KSuper
import HandS.Nested
import HandS.ClsMeth
import HandS.Property
import HandS.Dict
import PySem.Challenge.RW_savelines_k65_plans_under_rules
set_option Elab.async false
set_option linter.all false
set_option maxRecDepth 100000
namespace Sv
open PySem PySem.Spec PyProof.Rows L2
/-- a def's promise for calls made where no repr runs -/
structure FnG (P : Program) (w : World) (K : PySem.W.Frag) (mg : Str → Option Value) (base : Heap)
    (k : Nat) (f : Addr) (fd : FuncData) (ps : List Str) (sp : Sp) : Prop where
  len : ∀ vs H Q E, sp vs H Q E → vs.length = ps.length
  run : ∀ (A : Around), A.guards = some [] →
    ∀ (outer : List Env) (s : Shared) (H : Hp) (args : Args) (us : List Value) (vs : List V) (Q : VK) (E : XK),
    Room k A → Env0 P w K mg base A outer s H → BindsTo s fd args (ps.zip us) → Vals vs us → sp vs H Q E →
    codeAny (model P w) A (.call (.ref f) args) (CR CX0 outer P w H s Q E) s
section
variable {P : Program} {w : World} {K : PySem.W.Frag} {mg : Str → Option Value} {base : Heap}
/-- the def's body, where no repr runs -/
theorem okG {x qual : Str} {st : Stmt} {f : Addr} {fd : FuncData} {N ps : List Str} {k : Nat} {sp : Sp}
    (F : Fun K x qual st f fd) (S : FnScope N ps (defScope st)) (len : ∀ vs H Q E, sp vs H Q E → vs.length = ps.length)
    (hbody : ∀ (cdv : Value) (A : Around) (outer : List Env) (s : Shared) (H : Hp) (vs : List V) (Q : VK) (E : XK),
      A.guards = some [] → Room k (A.deeper (envOfC qual (defScope st) s.heap.objs.size f cdv)) → sp vs H Q E →
      ∃ t, PSs (cxOf CX0 P w K mg base N qual (defScope st) f cdv A outer s H E).nox (defBody st) t ∧
        t { nx := fun _ H' => Q .non H', rt := Q } (start N vs) H) :
    FnG P w K mg base (k + 1) f fd ps sp := by
  obtain ⟨oc, od, kV, doc, pm, an, cdv, ct, osl, rfl, lk, hcd⟩ := F.ex
  refine ⟨len, fun A hg outer s H args us vs Q E hr e0 hb r hsp => ?_⟩
  have hl := len vs H Q E hsp
  have KX : K.In s.heap := e0.mod.kin.keeps fun b o e => And.left (e0.bs b o e)
  have lim := e0.mod.nolimit.keeps fun b o e => And.left (e0.bs b o e)
  have hkind : ∀ y ∈ ps.zip us, (defScope st).names.lookup y.1 = some .local ∨
      ((defScope st).names.lookup y.1 = some .cell ∧
        ((cellsFrom (s.heap.objs.size + 1) (defScope st).names []).lookup y.1).isSome = true) := by
    rintro ⟨n, v⟩ hy
    cases S.par n (List.of_mem_zip hy).1 with
    | inl q => exact Or.inl q
    | inr q => exact Or.inr ⟨q, PySem.W.cellsFrom_some _ _ _ (Or.inl q)⟩
  refine codeAny_call_function hr.depth (KX _ _ lk) rfl S.co S.gen rfl (PySem.W.codeRec_of KX hcd) (hb _ _ _ _ ?_)
  refine wpAny_newFunctionEnv_cells S.kind hkind fun env he s1 X1 => ?_
  subst he
  refine ⟨lim.keeps X1.toInCall.keep, codeAny_func ?_⟩
  obtain ⟨t, ht0, hq⟩ := hbody cdv A outer s H vs Q E hg (hr.deeper _) hsp
  have ht := ht0.nox
  have I0 := inv_start (CX := CX0) (E := E) S hr.hd e0 hl r X1
  refine wpAny_mono (ht.run [] s1 (start N vs) H _ I0 hq) (fun fl s' hs => ?_) (fun e s' hs => hs)
  cases fl with
  | ret u =>
    obtain ⟨v, σ', H', J, rv, q⟩ := hs
    exact ⟨v, H', J.os, J.bare, J.base, J.hok, rv, q⟩
  | next =>
    obtain ⟨σ', H', J, q⟩ := hs
    exact ⟨V.non, H', J.os, J.bare, J.base, J.hok, rfl, q⟩
  | brk =>
    obtain ⟨σ', H', J, q⟩ := hs
    exact q.elim
  | cont =>
    obtain ⟨σ', H', J, q⟩ := hs
    exact q.elim
end
section
variable {X : Cx}
def Shown (K : PySem.W.Frag) (H : Hp) (v : V) (d : PyData) : Prop :=
  Dp K H v d ∧ isDisplay d = true ∧ d.showable = true ∧ d.hasDict = false ∧ d.depth ≤ 60 ∧ d.shown.length ≤ sizeLine
/-- repr(x) of lists and tuples -/
theorem call_repr (hgd : X.A.guards = some []) (hu : X.A.units + 64 < cLine) : CallR X (.builtin "repr")
    (fun xs H Q => ∃ v d, xs = [v] ∧ Shown X.K H v d ∧ Q (.str d.shown) H) := by
  intro pins s σ H xs us Q I r h
  obtain ⟨v, d, rfl, ⟨hd, h1, h2, h3, h4, h5⟩, q⟩ := h
  obtain ⟨u, rfl, ru⟩ := vals1 r
  obtain ⟨as, R⟩ := Dp.reads I d v u hd ru
  obtain ⟨a, rfl⟩ := isRef_of_reads R h1
  refine repr_of_reads' R h2 (PyData.noDict_hsm h3) hgd (by omega) (fun _ _ e => e) (fun h' tk1 tk2 hk => ?_) h5
  exact ⟨.str _, H, I.kept (t' := tk2) hk, ⟨tk1, rfl⟩, q⟩
end
def TupN (H : Hp) (a : Addr) (xs : List V) : Prop := ∃ o : Obj, H a = some (.frz o (.tup xs)) ∧ o.dict = none
theorem TupN.sqT {K : PySem.W.Frag} {H : Hp} {a : Addr} {xs : List V} (h : TupN H a xs) : SqT K H a xs := by
  obtain ⟨o, h, _⟩ := h
  exact .inl (.inr ⟨o, h⟩)
theorem TupN.new {H : Hp} {p : Addr} {o : Obj} {xs : List V} (d : o.dict = none) : TupN (upd H p (.frz o (.tup xs))) p xs := ⟨o, upd_same, d⟩
section
variable {X : Cx} {es : List Expr} {t : TA} {pos : Pos}
def tTupF (t : TA) : TE := fun σ H Q => t σ H fun xs H1 => xs.length ≤ sizeLine ∧ ∀ (p : Addr) (o : Obj), H1 p = none → o.dict = none → Q (.ref p) (upd H1 p (.frz o (.tup xs)))
theorem pe_tupF {x1} (h : PA X es t) : PE X (.Tuple es x1 pos) (tTupF t) := by
  refine ⟨fun pins s σ H Q I hq => ?_⟩
  refine wpAny_Tuple_spliced (thn (h.run pos pins s σ H _ I hq) fun us s1 ⟨xs, H1, I1, r, z, q⟩ => ⟨r.length ▸ z, ?_⟩)
  have hf : H1 s1.heap.objs.size = none := I1.hok.fresh (Nat.le_refl _)
  have hg := Heap.get?_push_size s1.heap (o := { cls := .type "tuple", data := .seq us.toArray }) rfl
  refine ⟨.ref s1.heap.objs.size, _, I1.laid (t' := s1.toks) (o := .frz { cls := .type "tuple", data := .seq us.toArray } (.tup xs)) (fun b u e => Heap.get?_push_of_some _ e) (Nat.le_refl _) ?_, rfl, q _ _ hf rfl⟩
  exact ⟨hg, z, us, r, ⟨_, hg, rfl, _, rfl⟩⟩
end
section
variable {X : Cx}
def rRemD (K : PySem.W.Frag) : V → List V → Hp → VK → Prop := fun x args H Q => ∃ (l : Addr) (y : V) (d : PyData) (xs : List V) (ds : List PyData) (j : Nat),
  x = .ref l ∧ args = [y] ∧ H l = some (.lst xs) ∧ DpAll K H xs ds ∧ Dp K H y d ∧ PyData.plainAll ds = true ∧ d.plain = true ∧ d.depth ≤ 60 ∧
  SeqAt.dataPlace ds d = some j ∧ Q .non (upd H l (.lst (xs.eraseIdx j)))
theorem mt_removeD (hu : X.A.units + 64 < cLine) : MtR X "list.remove" (rRemD X.K) := by
  intro pins s σ H x args v us Q I rx ra h
  obtain ⟨l, y, d, xs, ds, j, rfl, rfl, hH, hds, hd, p1, p2, p3, hj, q⟩ := h
  cases rx
  obtain ⟨u, rfl, ru⟩ := vals1 ra
  obtain ⟨z, its, n, r, hl, e⟩ := I.lstM hH
  obtain ⟨as, R1⟩ := Dp.readsAll I ds xs its hds r
  obtain ⟨bs, R2⟩ := Dp.reads I d y u hd ru
  refine SeqAt.remove_list_data (vs := its.toArray) ⟨_, e, rfl, n, rfl⟩ R1 R2 p1 p2 (by omega) hj (by rw [List.size_toArray, ← hl]; exact z) ?_
  refine ⟨.non, _, I.lset (its' := its.eraseIdx j) (t' := s.toks) hH e ?_ (r.eraseIdx j) ?_, rfl, q⟩
  · show its.toArray.eraseIdxIfInBounds j = (its.eraseIdx j).toArray
    rw [List.eraseIdxIfInBounds_toArray]
  · have := List.length_eraseIdx_le xs j
    omega
end
def iD (ns : List Int) : List PyData := ns.map PyData.int
theorem iD_lay : ∀ ns : List Int, PyData.canLayAll0 (iD ns) = true
  | [] => by simp [iD, PyData.canLayAll0]
  | n :: r => by
    have h := iD_lay r
    simp only [iD, List.map_cons, PyData.canLayAll0, PyData.canLay0] at h ⊢
    rw [h]
    rfl
theorem iD_depth : ∀ ns : List Int, PyData.depthAll (iD ns) = 0
  | [] => by simp [iD, PyData.depthAll]
  | n :: r => by
    have h := iD_depth r
    simp only [iD, List.map_cons, PyData.depthAll, PyData.depth] at h ⊢
    rw [h]
    rfl
theorem shaped_lst (ns : List Int) : SeqAt.shaped (.list (iD ns)) = true := by
  have h1 := iD_lay ns
  have h2 := iD_depth ns
  show (PyData.canLay0 (.list (iD ns)) && decide (PyData.depth (.list (iD ns)) ≤ 64)) = true
  simp only [PyData.canLay0, PyData.depth, h1, h2, Bool.true_and]
  decide
theorem shaped_tup (ns : List Int) : SeqAt.shaped (.tuple (iD ns)) = true := by
  have h1 := iD_lay ns
  have h2 := iD_depth ns
  show (PyData.canLay0 (.tuple (iD ns)) && decide (PyData.depth (.tuple (iD ns)) ≤ 64)) = true
  simp only [PyData.canLay0, PyData.depth, h1, h2, Bool.true_and]
  decide
theorem eqv_nil (ds : List PyData) : PyData.eqv (.list ds) (.list []) = ds.isEmpty := by
  cases ds <;> simp [PyData.eqv, PyData.eqvAll]
def Kp (a b : Addr) (H H' : Hp) : Prop := ∀ c o, c ≠ a → c ≠ b → H c = some o → H' c = some o
theorem Kp.refl {a b : Addr} (H : Hp) : Kp a b H H := fun _ _ _ _ h => h
theorem Kp.trans {a b : Addr} {H H1 H2 : Hp} (x : Kp a b H H1) (y : Kp a b H1 H2) : Kp a b H H2 := fun c o h1 h2 h => y c o h1 h2 (x c o h1 h2 h)
theorem Kp.of {a b : Addr} {H H' : Hp} (h : Same H H') : Kp a b H H' := fun c o _ _ e => h c o e
theorem Kp.new {a b : Addr} {H : Hp} {p : Addr} {o : HO} (h : H p = none) : Kp a b H (upd H p o) := fun c u _ _ e => by
  rw [upd_ne (ne_of_none e h)]
  exact e
theorem Kp.put {a b : Addr} {H : Hp} {p : Addr} {o : HO} (h : p = a ∨ p = b) : Kp a b H (upd H p o) := fun c u h1 h2 e => by
  rw [upd_ne (by rcases h with rfl | rfl <;> assumption)]
  exact e
theorem Same.new {H : Hp} {p : Addr} {o : HO} (h : H p = none) : Same H (upd H p o) := fun c u e => by
  rw [upd_ne (ne_of_none e h)]
  exact e
end Sv
namespace Sv
open PySem PySem.Spec PyProof.Rows L2
section
variable {X : Cx}
def rTupF (K : PySem.W.Frag) : List V → Hp → VK → Prop := fun xs H Q => ∃ p ys, xs = [.ref p] ∧ SqL K H p ys ∧ ∀ (l : Addr) (o : Obj), H l = none → o.dict = none → Q (.ref l) (upd H l (.frz o (.tup ys)))
theorem call_tupleF : CallR X (.type "tuple") (rTupF X.K) := by
  intro pins s σ H xs us Q I r h
  obtain ⟨p, ys, rfl, hq, q⟩ := h
  obtain ⟨u, rfl, rx⟩ := vals1 r
  cases rx
  obtain ⟨its, r', pl, hz⟩ := I.list hq
  have hlen := r'.length
  refine call_tuple_list pl.isList (fun h' kp => ?_) (by simp only [List.size_toArray] <;> omega)
  have I1 : Inv X pins σ H { s with heap := h' } := I.kept (t' := s.toks) kp
  have hg := Heap.get?_push_size h' (o := { cls := .type "tuple", data := .seq its.toArray }) rfl
  refine ⟨.ref h'.objs.size, _, I1.laid (t' := s.toks) (o := .frz { cls := .type "tuple", data := .seq its.toArray } (.tup ys)) (fun b o e => Heap.get?_push_of_some _ e) (Nat.le_refl _) ?_, rfl, q _ _ (I1.hok.fresh (Nat.le_refl _)) rfl⟩
  exact ⟨hg, hz, its, r', ⟨_, hg, rfl, _, rfl⟩⟩
end
end Sv
namespace PySem
open Sem (wp)
set_option maxHeartbeats 1000000 in
theorem sv_enum_new {v : Value} {o : Obj} {H : Heap → Prop} (B : Begins v o H) :
    Meets (Builtin.«enumerate.__new__» ⟨[.type "enumerate", v], []⟩)
      (fun _ R s => H s.heap ∧ R (.ok (.ret (.ref (s.heap.push o).objs.size)))
        { s with heap := Heap.push (Heap.push s.heap o) { cls := .type "enumerate", data := .fields #[.none, .bool false, .ref s.heap.objs.size, rawInt 0, .none, .none] } }) := by
  refine .of_wp fun prog w A R s h => ?_
  obtain ⟨hp, g, d, tk, os⟩ := s
  obtain ⟨h1, h⟩ := h
  have hsub := sub_enumerate
  have q1 : ∀ {A' : Around} {E' : Value → Shared → Prop} {Q' : Value → Shared → Prop},
      Q' (.ref hp.objs.size) ⟨hp.push o, g, d, tk, os⟩ → wpAny (model prog w) A' (pyIter v) Q' E' ⟨hp, g, d, tk, os⟩ :=
    fun q => B.iter prog w _ _ ⟨hp, g, d, tk, os⟩ _ h1 q
  wp_walk using q1
  refine wpAny_stack_any fun st => wpAny_pure ?_
  split
  · rename_i c _ _ _ _ _
    cases hcc : (c == Value.type "enumerate") <;> (wp_walk using q1; exact ⟨_, rfl, h⟩)
  · wp_walk using q1
    exact ⟨_, rfl, h⟩
section
variable {prog : Program} {w : World} {A : Around} {E : Value → Shared → Prop} {s : Shared}
theorem sv_enum_call {v : Value} {o : Obj} {H : Heap → Prop} {Q : Value → Shared → Prop} (B : Begins v o H) (h1 : H s.heap)
    (h : ∀ h', IsEnum h' (s.heap.objs.size + 1) s.heap.objs.size 0 .none → h'.get? s.heap.objs.size = some o →
      (∀ b u, s.heap.get? b = some u → h'.get? b = some u) → Q (.ref (s.heap.objs.size + 1)) { s with heap := h' }) :
    wpAny (model prog w) A (call (.type "enumerate") [v]) Q E s := by
  refine callType_new F.called_enumerate (by decide) (F.typeCall_enumerate_1 _) (F.newCall_enumerate_1 _)
    (fun obj => F.args_object_init_2 obj _) F.entry_enumerate_new (sv_enum_new B) ⟨h1, ?_⟩
  have hz : (s.heap.push o).objs.size = s.heap.objs.size + 1 := Heap.size_push ..
  show _ ∧ _
  rw [hz]
  have he := Heap.get?_push_size (s.heap.push o)
    (o := { cls := .type "enumerate", data := .fields #[.none, .bool false, .ref s.heap.objs.size, rawInt 0, .none, .none] }) rfl
  rw [hz] at he
  exact ⟨⟨_, he, rfl⟩, h _ he (Heap.get?_push_of_some _ (Heap.get?_push_size _ B.free))
    fun b u x => Heap.get?_push_of_some _ (Heap.get?_push_of_some _ x)⟩
end
end PySem
namespace Sv
open PySem PySem.Spec PyProof.Rows L2
/-- a tuple's items, each in a new pair with its number -/
def Itte (K : PySem.W.Frag) (a : Addr) (xs : List V) : It where
  go := fun i H => SqT K H a xs ∧ i < xs.length
  yld := fun i H v H' => ∃ T x, v = .ref T ∧ H T = none ∧ H' = upd H T (.tup [.int (i : Nat), x]) ∧ xs[i]? = some x
  stop := fun i H => SqT K H a xs ∧ i = xs.length
theorem turn_etup {P : Program} {w : World} {K : PySem.W.Frag} {elts : List Expr} {kk : Nat} {tpos : Pos} (a e it : Addr) (xs : List V) :
    Turn P w K (.Tuple elts kk tpos) (Itte K a xs) [e, it] e
      (fun i h => (∃ old, IsEnum h e it ((i : Nat) : Int) old) ∧ h.IsTupleIter it a i ∧ e ≠ it ∧ a ≠ it ∧ a ≠ e) where
  mem := by simp
  obj := fun i h st b hb => by
    obtain ⟨⟨old, he⟩, ⟨o, ho, hc, hd⟩, _⟩ := st
    rcases (show b = e ∨ b = it by simpa using hb) with rfl | rfl
    · exact ⟨_, he, fun v q => nomatch q⟩
    · exact ⟨o, ho, fun v q => by rw [hd] at q; cases q⟩
  keep := fun i h h' st k => by
    obtain ⟨⟨old, he⟩, hi, hr⟩ := st
    exact ⟨⟨old, k e (by simp) _ he⟩, hi.at fun o q => k it (by simp) o q, hr⟩
  item := by
    intro X hP hw hK hc i pins s σ H E I hf st hg
    subst hP hw hK
    obtain ⟨⟨old, he⟩, hit, hne, hai, hae⟩ := st
    obtain ⟨hq, hi⟩ := hg
    obtain ⟨its, rv, p, hz⟩ := I.tuple hq
    have hlen := rv.length
    have hel : e < s.heap.objs.size := Heap.lt_size he
    have hil : it < s.heap.objs.size := by
      obtain ⟨_, q, _⟩ := hit
      exact Heap.lt_size q
    have D : Draws X.prog X.w X.A.in1 it [it, a] its.toArray.size (fun i v => its.toArray[i]? = some v)
        (fun i h => h.IsTupleIter it a i ∧ h.IsTuple a its.toArray) := Draws.tuple (A := X.A.in1) (show X.A.in1.handled = none from I.ok.hd hc) it a hai its.toArray
    refine wpAny_pyNext_enum_itemD D he ⟨hit, p⟩ (by rw [List.size_toArray]; omega) hne (by simp [hne, Ne.symm hae]) fun u h' tk hPu ho hst hT hsz hk => ?_
    refine ⟨_, rfl, wpAny_letOwnedTupleGo_enum (s := { s with heap := h', toks := tk + 1 }) ho fun h'' he' sb => ?_⟩
    obtain ⟨x, hx⟩ : ∃ x, xs[i]? = some x := ⟨_, List.getElem?_eq_getElem hi⟩
    obtain ⟨u', hu', ru⟩ := rv.get hx
    have hPu' : its[i]? = some u := by simpa using hPu
    obtain rfl : u' = u := Option.some.inj (hu'.symm.trans hPu')
    have hT2 : h''.get? s.heap.objs.size = some { cls := .type "tuple", data := .seq #[.int i tk, u'] } := (sb.2 _ (Nat.ne_of_gt hel)).trans hT
    have new : ObjOk X.prog X.w (upd H s.heap.objs.size (.tup [.int (i : Nat), x])) h'' s.heap.objs.size (.tup [.int (i : Nat), x]) := by
      refine ⟨?_, [.int i tk, u'], .cons ⟨_, rfl⟩ (.cons ru .nil), ⟨_, hT2, rfl, _, rfl⟩⟩
      show 2 ≤ sizeLine
      decide
    have I1 : Inv X pins σ (upd H s.heap.objs.size (.tup [.int (i : Nat), x])) { s with heap := h'', toks := tk + 1 } := by
      refine I.turnedNew (ch := [e, it]) (fun b ob hb q => ?_) hf (Nat.le_refl _) new
      have nb : b ≠ e ∧ b ≠ it := by simpa using hb
      exact (sb.2 b nb.1).trans (hk b ob nb.1 nb.2 q)
    refine ⟨.ref s.heap.objs.size, _, I1, rfl, ⟨_, x, rfl, I.hok.fresh (Nat.le_refl _), rfl, hx⟩,
      ⟨⟨u', ?_⟩, hst.1.at fun o q => (sb.2 it (Ne.symm hne)).trans q, hne, hai, hae⟩, fun b hb => ?_⟩
    · have e1 : ((i + 1 : Nat) : Int) = (i : Int) + 1 := by omega
      rw [e1]
      exact he'
    · have hb' : b < s.heap.objs.size := by
        rcases (show b = e ∨ b = it by simpa using hb) with rfl | rfl <;> assumption
      rw [upd_ne (Nat.ne_of_lt hb')]
      exact (hf b hb).1
  done := by
    intro X hP hw hK hc i pins s σ H E I hf st hg
    subst hP hw hK
    obtain ⟨⟨old, he⟩, hit, hne, hai, hae⟩ := st
    obtain ⟨hq, hi⟩ := hg
    obtain ⟨its, rv, p, hz⟩ := I.tuple hq
    have hlen := rv.length
    obtain ⟨f0, f1, f2, f3, f4, f5⟩ := hf it (by simp)
    have D : Draws X.prog X.w X.A.in1 it [it, a] its.toArray.size (fun i v => its.toArray[i]? = some v)
        (fun i h => h.IsTupleIter it a i ∧ h.IsTuple a its.toArray) := Draws.tuple (A := X.A.in1) (show X.A.in1.handled = none from I.ok.hd hc) it a hai its.toArray
    have hi2 : i = its.toArray.size := by
      rw [List.size_toArray]
      omega
    have hit2 : s.heap.IsTupleIter it a its.toArray.size := hi2 ▸ hit
    exact wpAny_pyNext_enum_endD D he ⟨hit2, p⟩ fun h' eb => ⟨rfl, I.turned (t' := s.toks) (fun b o hb q => eb b o hb q) f0 f1 f3 f4 f5⟩
  self := fun A i s Q E st h => by
    obtain ⟨⟨_, he⟩, _⟩ := st
    exact wpAny_pyIter_enum he h
end Sv
namespace Sv
open PySem PySem.Spec PyProof.Rows L2
section
variable {X : Cx}
/-- t[lo:hi], not the whole, known to bear no dict -/
def rSlTF (K : PySem.W.Frag) : V → Option Int → Option Int → Hp → VK → Prop := fun x lo hi H Q => ∃ a xs, x = .ref a ∧ SqT K H a xs ∧
  ¬ (HT.sIx xs.length 0 lo = 0 ∧ HT.sIx xs.length xs.length hi = xs.length) ∧ ∀ (p : Addr) (o : Obj), H p = none → o.dict = none → Q (.ref p) (upd H p (.frz o (.tup (cutV xs lo hi))))
theorem sl_tupF : SlR X (rSlTF X.K) := by
  intro pins s σ H x v vl vu lo hi sl Q I rx hs pl pu h
  obtain ⟨a, xs, rfl, hx, hw, q⟩ := h
  cases rx
  obtain ⟨its, r, ht, hz⟩ := I.tuple hx
  have hlen : its.toArray.size = xs.length := by
    rw [List.size_toArray]
    exact r.length.symm
  refine ⟨"tuple", _, PyProof.Rows.slot_tuple_getitem.lookup, ht.typeIs, ?_⟩
  have hnot : ¬ (HT.sIx its.toArray.size 0 lo = 0 ∧ HT.sIx its.toArray.size its.toArray.size hi = its.toArray.size) := by rwa [hlen]
  refine HT.getItem_tuple_cut ht hs pl pu hnot ?_ (hlen ▸ hz)
  rw [hlen]
  have hg := Heap.get?_push_size s.heap (o := { cls := .type "tuple", data := .seq ((its.toArray.toList.drop (HT.sIx xs.length 0 lo)).take (HT.sIx xs.length xs.length hi - HT.sIx xs.length 0 lo)).toArray }) rfl
  refine ⟨.ref s.heap.objs.size, _, I.laid (t' := s.toks) (o := .frz _ (.tup (cutV xs lo hi))) (fun b ob q => Heap.get?_push_of_some _ q) (Nat.le_refl _) ⟨hg, ?_⟩, rfl, q _ _ (I.hok.fresh (Nat.le_refl _)) rfl⟩
  exact ⟨Nat.le_trans (cutV_length xs lo hi) hz, _, (r.drop (HT.sIx xs.length 0 lo)).take (HT.sIx xs.length xs.length hi - HT.sIx xs.length 0 lo), ⟨_, hg, rfl, _, rfl⟩⟩
end
inductive Kn (K : PySem.W.Frag) (H : Hp) : V → Prop
  | non : Kn K H .non
  | bl (b : Bool) : Kn K H (.bl b)
  | int (i : Int) : Kn K H (.int i)
  | str (x : Str) : Kn K H (.str x)
  | lst {a : Addr} {xs : List V} (e : H a = some (.lst xs)) : Kn K H (.ref a)
  | tup {a : Addr} {xs : List V} (e : H a = some (.tup xs)) : Kn K H (.ref a)
  | ftup {a : Addr} {o : Obj} {xs : List V} (e : H a = some (.frz o (.tup xs))) : Kn K H (.ref a)
  | dK {a : Addr} {kvs : List (Key × V)} (e : H a = some (.dK kvs)) : Kn K H (.ref a)
end Sv
namespace Sv
open PySem PySem.Spec PyProof.Rows L2
mutual
inductive DX (N : Addr → Prop) (K : PySem.W.Frag) (H : Hp) : V → PyData → Prop
  | non : DX N K H .non .none
  | bl (b : Bool) : DX N K H (.bl b) (.bool b)
  | int (i : Int) : DX N K H (.int i) (.int i)
  | str (x : Str) : DX N K H (.str x) (.str x)
  | lst {a : Addr} {xs : List V} {ds : List PyData} : H a = some (.lst xs) → N a → DXs N K H xs ds → DX N K H (.ref a) (.list ds)
  | tup {a : Addr} {xs : List V} {ds : List PyData} : (H a = some (.tup xs) ∨ ∃ o, H a = some (.frz o (.tup xs))) → DXs N K H xs ds → DX N K H (.ref a) (.tuple ds)
  | d0 {a : Addr} : H a = some (.dK []) → DX N K H (.ref a) (.dict [])
  | d1 {a : Addr} {k : Str} {i : Int} : H a = some (.dK [(Sum.inr k, .int i)]) → DX N K H (.ref a) (.dict [(.str k, .int i)])
inductive DXs (N : Addr → Prop) (K : PySem.W.Frag) (H : Hp) : List V → List PyData → Prop
  | nil : DXs N K H [] []
  | cons {v : V} {vs : List V} {d : PyData} {ds : List PyData} : DX N K H v d → DXs N K H vs ds → DXs N K H (v :: vs) (d :: ds)
end
mutual
/-- wherever lists, tuples and dicts stay -/
theorem DX.keep {N : Addr → Prop} {K : PySem.W.Frag} {H H' : Hp} (e : ∀ (a : Addr) (xs : List V), N a → H a = some (.lst xs) → H' a = some (.lst xs)) (e2 : ∀ (a : Addr) (xs : List V), (H a = some (.tup xs) ∨ ∃ o, H a = some (.frz o (.tup xs))) → (H' a = some (.tup xs) ∨ ∃ o, H' a = some (.frz o (.tup xs))))
    (e3 : ∀ (a : Addr) (kvs : List (Key × V)), H a = some (.dK kvs) → H' a = some (.dK kvs)) : ∀ {v : V} {d : PyData}, DX N K H v d → DX N K H' v d
  | _, _, .non => .non
  | _, _, .bl b => .bl b
  | _, _, .int i => .int i
  | _, _, .str x => .str x
  | _, _, .lst h n hs => .lst (e _ _ n h) n (DXs.keep e e2 e3 hs)
  | _, _, .tup h hs => .tup (e2 _ _ h) (DXs.keep e e2 e3 hs)
  | _, _, .d0 h => .d0 (e3 _ _ h)
  | _, _, .d1 h => .d1 (e3 _ _ h)
theorem DXs.keep {N : Addr → Prop} {K : PySem.W.Frag} {H H' : Hp} (e : ∀ (a : Addr) (xs : List V), N a → H a = some (.lst xs) → H' a = some (.lst xs)) (e2 : ∀ (a : Addr) (xs : List V), (H a = some (.tup xs) ∨ ∃ o, H a = some (.frz o (.tup xs))) → (H' a = some (.tup xs) ∨ ∃ o, H' a = some (.frz o (.tup xs))))
    (e3 : ∀ (a : Addr) (kvs : List (Key × V)), H a = some (.dK kvs) → H' a = some (.dK kvs)) : ∀ {vs : List V} {ds : List PyData}, DXs N K H vs ds → DXs N K H' vs ds
  | _, _, .nil => .nil
  | _, _, .cons h hs => .cons (DX.keep e e2 e3 h) (DXs.keep e e2 e3 hs)
end
theorem DX.kp {K : PySem.W.Frag} {H H' : Hp} {a b : Addr} {N : Addr → Prop} {v : V} {d : PyData} (h : DX N K H v d) (e : Kp a b H H') (ha : ¬ N a) (hb : ¬ N b) (la : ∃ xs, H a = some (.lst xs)) (lb : ∃ xs, H b = some (.lst xs)) : DX N K H' v d := by
  obtain ⟨xa, la⟩ := la
  obtain ⟨xb, lb⟩ := lb
  refine h.keep (fun c xs hc q => e _ _ (fun z => ha (z ▸ hc)) (fun z => hb (z ▸ hc)) q) (fun c xs q => q.elim (fun q => .inl (e _ _ (ne_of q la (by intro z; cases z)) (ne_of q lb (by intro z; cases z)) q)) fun ⟨o, q⟩ => .inr ⟨o, e _ _ (ne_of q la (by intro z; cases z)) (ne_of q lb (by intro z; cases z)) q⟩)
    (fun c xs q => e _ _ (ne_of q la (by intro z; cases z)) (ne_of q lb (by intro z; cases z)) q)
theorem DXs.len {N : Addr → Prop} {K : PySem.W.Frag} {H : Hp} : ∀ {vs : List V} {ds : List PyData}, DXs N K H vs ds → vs.length = ds.length
  | _, _, .nil => rfl
  | _, _, .cons _ hs => by rw [List.length_cons, List.length_cons, DXs.len hs]
theorem DXs.at {N : Addr → Prop} {K : PySem.W.Frag} {H : Hp} : ∀ {vs : List V} {ds : List PyData}, DXs N K H vs ds → ∀ {i : Nat} {v : V}, vs[i]? = some v → ∃ d, ds[i]? = some d ∧ DX N K H v d
  | _, _, .nil, i, v, h => by simp at h
  | _, _, .cons (d := d) h1 h2, 0, v, h => by
    cases h
    exact ⟨d, rfl, h1⟩
  | _, _, .cons h1 h2, i + 1, v, h => DXs.at h2 (i := i) h
theorem DXs.append {N : Addr → Prop} {K : PySem.W.Frag} {H : Hp} : ∀ {vs : List V} {ds : List PyData} {ws : List V} {es : List PyData}, DXs N K H vs ds → DXs N K H ws es → DXs N K H (vs ++ ws) (ds ++ es)
  | _, _, _, _, .nil, h => h
  | _, _, _, _, .cons h1 h2, h => .cons h1 (DXs.append h2 h)
theorem DXs.ints {N : Addr → Prop} {K : PySem.W.Frag} {H : Hp} : ∀ ns : List Int, DXs N K H (ns.map V.int) (iD ns)
  | [] => .nil
  | n :: r => .cons (.int n) (DXs.ints r)
section
variable {X : Cx} {pins : List (Addr × Obj)} {σ : L2.St} {H : Hp} {s : Shared} {N : Addr → Prop}
mutual
theorem DX.reads (hN : ∀ a, N a → a ≠ sysModules) (I : Inv X pins σ H s) : ∀ (d : PyData) (v : V) (u : Value), DX N X.K H v d → RelV v u → ∃ as, Reads s.heap u d as ∧ sysModules ∉ as
  | .none, _, _, h, r => by
    cases h
    cases r
    exact ⟨_, Reads.none, List.not_mem_nil⟩
  | .bool b, _, _, h, r => by
    cases h
    cases r
    exact ⟨_, Reads.bool b, List.not_mem_nil⟩
  | .int i, _, _, h, r => by
    cases h
    obtain ⟨t, rfl⟩ := r
    exact ⟨_, Reads.int i t, List.not_mem_nil⟩
  | .str x, _, _, h, r => by
    cases h
    obtain ⟨t, rfl⟩ := r
    exact ⟨_, Reads.str x t, List.not_mem_nil⟩
  | .list ds, _, _, h, r => by
    cases h with
    | lst hs hn ha =>
      cases r
      obtain ⟨its, rv, ⟨o, n, ho, hc, _, hd⟩, _⟩ := I.list (.of hs)
      obtain ⟨as, hr, hm⟩ := DXs.reads hN I ds _ its ha rv
      exact ⟨_, Reads.list ho hc hd hr, fun z => (List.mem_cons.mp z).elim (fun z => hN _ hn z.symm) hm⟩
  | .tuple ds, _, _, h, r => by
    cases h with
    | tup hs ha =>
      cases r
      obtain ⟨its, rv, ⟨o, ho, hc, n, hd⟩, _⟩ := I.tuple (.inl hs)
      obtain ⟨as, hr, hm⟩ := DXs.reads hN I ds _ its ha rv
      exact ⟨_, Reads.tuple ho hc hd hr, hm⟩
  | .dict kvs, _, _, h, r => by
    cases h with
    | d0 hs =>
      cases r
      obtain ⟨_, hn, vs, kv, o, es, ep, ho, ⟨hc, _, _⟩, hd, _, hp, _⟩ := I.hok _ _ hs
      cases kv
      have he : es.toList = [] := by
        generalize es.toList = l at hp
        cases hp
        rfl
      refine ⟨_, Reads.dict (as := []) (bs := []) ho hc hd (by rw [he]; exact .nil) (by rw [he]; exact .nil), fun z => ?_⟩
      have hz := List.mem_singleton.mp (by simpa using z)
      rw [hz] at hn
      simp at hn
    | @d1 _ k i hs =>
      cases r
      obtain ⟨_, hn, vs, kv, o, es, ep, ho, ⟨hc, _, _⟩, hd, _, hp, _⟩ := I.hok _ _ hs
      obtain ⟨u, t, rfl, rfl⟩ : ∃ (u : Value) (t : Tok), vs = [(Sum.inr k, u)] ∧ u = .int i t := by
        match vs, kv with
        | [(k', u)], .cons ⟨e1, t, e2⟩ .nil => exact ⟨u, t, by rw [show (Sum.inr k : Key) = k' from e1], e2⟩
      generalize hl : es.toList = l at hp
      cases hp with
      | @cons e _ _ _ p1 p2 p3 =>
        cases p3
        obtain ⟨hh, key, val⟩ := e
        have p2' : val = Value.int i t := p2
        subst p2'
        have p1' : keyIs (Sum.inr k) key = true := p1
        obtain ⟨i', t', z, _⟩ | ⟨x, t', z, rfl⟩ := keyIs_shape p1'
        · cases z
        · cases z
          refine ⟨_, Reads.dict (as := [] ++ []) (bs := [] ++ []) ho hc hd (by rw [hl]; exact .cons (.str _ _) .nil) (by rw [hl]; exact .cons (.int _ _) .nil), fun z => ?_⟩
          have hz := List.mem_singleton.mp (by simpa using z)
          rw [hz] at hn
          simp at hn
theorem DXs.reads (hN : ∀ a, N a → a ≠ sysModules) (I : Inv X pins σ H s) : ∀ (ds : List PyData) (vs : List V) (us : List Value), DXs N X.K H vs ds → Vals vs us → ∃ as, ReadsAll s.heap us ds as ∧ sysModules ∉ as
  | [], _, _, h, r => by
    cases h
    cases r
    exact ⟨_, ReadsAll.nil, List.not_mem_nil⟩
  | d :: ds, _, _, h, r => by
    cases h with
    | cons h1 h2 =>
      cases r with
      | cons r1 r2 =>
        obtain ⟨as, q1, m1⟩ := DX.reads hN I d _ _ h1 r1
        obtain ⟨bs, q2, m2⟩ := DXs.reads hN I ds _ _ h2 r2
        exact ⟨_, ReadsAll.cons q1 q2, fun z => (List.mem_append.mp z).elim m1 m2⟩
end
end
/-- data whose text can be shown -/
structure FineX (n W : Nat) (d : PyData) : Prop where
  dep : d.depth ≤ n
  wei : d.weight ≤ W
  sho : d.showable = true
  lea : d.leavesShort 40 = true
structure FineXs (n W : Nat) (ds : List PyData) : Prop where
  dep : PyData.depthAll ds ≤ n
  wei : PyData.weightAll ds ≤ W
  sho : PyData.showableAll ds = true
  lea : PyData.leavesShortAll 40 ds = true
theorem FineX.mono {n W m U : Nat} {d : PyData} (h : FineX n W d) (e : n ≤ m) (e2 : W ≤ U) : FineX m U d := ⟨Nat.le_trans h.dep e, Nat.le_trans h.wei e2, h.sho, h.lea⟩
theorem FineXs.mono {n W m U : Nat} {d : List PyData} (h : FineXs n W d) (e : n ≤ m) (e2 : W ≤ U) : FineXs m U d := ⟨Nat.le_trans h.dep e, Nat.le_trans h.wei e2, h.sho, h.lea⟩
theorem FineX.len {n W : Nat} {d : PyData} (h : FineX n W d) (hW : W ≤ 300000) : d.shown.length ≤ sizeLine := by
  have q := PyData.shown_le 40 (by decide) d h.lea
  have := h.wei
  rw [sizeLine_eq]
  omega
section
variable {X : Cx}
def ShownX (N : Addr → Prop) (K : PySem.W.Frag) (H : Hp) (v : V) (d : PyData) : Prop := (∀ a, N a → a ≠ sysModules) ∧ DX N K H v d ∧ isDisplay d = true ∧ d.showable = true ∧ d.depth ≤ 60 ∧ d.shown.length ≤ sizeLine
theorem FineX.shown {N : Addr → Prop} {K : PySem.W.Frag} {H : Hp} {v : V} {n W : Nat} {d : PyData} (h : FineX n W d) (hn : n ≤ 60) (hW : W ≤ 300000) (hN : ∀ a, N a → a ≠ sysModules) (hd : DX N K H v d) (hi : isDisplay d = true) : ShownX N K H v d :=
  ⟨hN, hd, hi, h.sho, Nat.le_trans h.dep hn, h.len hW⟩
end
end Sv
set_option maxHeartbeats 4000000
namespace Sv
open PySem PySem.Spec PyProof.Rows L2
theorem tuple_mulW1 (l : Addr) (items : Array Value) (n : Nat) (dd : Option Addr) (sl : Array (Option Value)) (u : Tok) (c1 : (items.isEmpty || (1 : Int) == 1) = true) :
    Meets (Builtin.«tuple.__mul__» ⟨[.ref l, .int 1 u], []⟩) (fun _ R s => s.heap.get? l = some { cls := .type "tuple", dict := dd, data := .seq items n, slots := sl } ∧ R (.ok (.ret (Value.ref l))) s) :=
  .of_wp fun prog w A R s h => by
    obtain ⟨hp, g, d, tk, os⟩ := s
    obtain ⟨hl, h⟩ := h
    have f1 := AutoSeq1.idx_int
    wp_walk using wpAny_loadPart' hl
    repeat (first
      | (refine wpAny_ite_true (decide_eq_true c1) ?_; wp_walk using wpAny_loadPart' hl)
      | (refine wpAny_ite_false (decide_eq_false (by decide)) ?_; wp_walk using wpAny_loadPart' hl))
    exact ⟨_, rfl, h⟩
section
variable {X : Cx}
def rRep1 (K : PySem.W.Frag) : R2 := fun x y H Q => ∃ l xs, x = .ref l ∧ y = .int 1 ∧ SqT K H l xs ∧ Q (.ref l) H
theorem op_rep1 : OpR X (binaryOp .Mult) (rRep1 X.K) := by
  intro pins s σ H x y v u Q I rx ry h
  obtain ⟨l, xs, rfl, rfl, hT, q⟩ := h
  cases rx
  obtain ⟨t, rfl⟩ := ry
  obtain ⟨its, r, ⟨⟨cls, dd, data, sl⟩, ho, hc, n, hd⟩, hs⟩ := I.tuple hT
  simp only at hc hd
  subst hc hd
  refine wpAny_binaryOp_repeat_ref (T := "tuple") (U := "int") (by decide) ⟨_, ho, rfl⟩ (fun s' => typeIs_int s' 1 t) noFill_tuple_mul F.fills_int_mul F.slot_int_rmul repeat_tuple F.slot_int_index.lookup
    (call_meets F.slot_int_rmul (typeIs_int s 1 t) F.entry_int_rmul (F.args_int_rmul_2 _ _) (int_rmul_tuple 1 t l its.toArray n dd sl)
      ⟨ho, rfl, ⟨_, ho, rfl⟩, call_meets F.slot_tuple_mul ⟨_, ho, rfl⟩ F.entry_tuple_mul (F.args_tuple_mul_2 _ _) (tuple_mulW1 l its.toArray n dd sl t (by simp)) ⟨ho, ?_⟩⟩)
  exact ⟨.ref l, H, I, rfl, q⟩
end
end Sv
namespace Sv
open PySem PySem.Spec PyProof.Rows L2
def TupT (H : Hp) (a : Addr) (xs : List V) : Prop := H a = some (.tup xs) ∨ ∃ o, H a = some (.frz o (.tup xs))
theorem TupT.sqT {K : PySem.W.Frag} {H : Hp} {a : Addr} {xs : List V} (h : TupT H a xs) : SqT K H a xs := .inl h
end Sv
set_option maxHeartbeats 1000000
namespace Sv
open PySem
structure ZDist (z TI TO : Addr) (its ls : List Addr) : Prop where
  nd : (z :: TI :: TO :: its).Nodup
  away : ∀ l ∈ ls, l ∉ z :: TI :: TO :: its
  len : its.length = ls.length
  ne : its ≠ []
  sm : its.length ≤ 1000
end Sv
set_option maxHeartbeats 1000000
namespace Sv
open PySem
section
variable {prog : Program} {w : World} {A : Around} {E : Value → Shared → Prop} {s : Shared}
theorem ZDist.inj {z TI TO : Addr} {its ls : List Addr} (D : ZDist z TI TO its ls) {i j : Nat} {a : Addr} (h : its[i]? = some a) (g : its[j]? = some a) : i = j := by
  have n := D.nd
  simp only [List.nodup_cons] at n
  have n3 := n.2.2.2
  have hi := (List.getElem?_eq_some_iff.mp h).1
  exact (List.getElem?_inj hi n3).mp (h.trans g.symm)
end
end Sv
set_option maxHeartbeats 1000000
set_option maxHeartbeats 1000000
set_option maxHeartbeats 1000000
set_option maxHeartbeats 1000000
namespace Sv
open PySem PySem.Spec PyProof.Rows L2
section
variable {P : Program} {w : World} {K : PySem.W.Frag} {mg mb : Str → Option Value} {k : Nat} {fa a : Addr} {fd : FuncData} {x : Str} {sp : Sp}
  {s₁ : Shared} {vs : List Value} {ns : List Int}
/-- from one abstract heap that tracks nothing but the script -/
theorem headG_core (H : Hp) (KX : K.In s₁.heap) (hns : s₁.heap.Ns mainGlobals mg) (hb : s₁.heap.Ns builtinsNs mb)
    (hbb : ∀ y : Str, y ≠ "__name__" → mb y = bootBuiltins y) (hlim : s₁.heap.NoLimit) (hg : s₁.gens = #[])
    (ha : s₁.heap.get? a = some { cls := .type "list", data := .seq vs.toArray }) (hr : Room k callerA)
    (F : ∀ base : Heap, K.In base → base.Ns mainGlobals mg → FnG P w K mg base k fa fd [x] sp)
    (hbind : ∀ (s : Shared) (u : Value), BindsTo s fd ⟨[u], []⟩ [(x, u)])
    (hO : Only H) (hsp : sp [.ref a] H (fun v _ => v = .bl true) fun _ _ _ => False)
    (hok : HOk P w H s₁.heap) (hA : ∀ b, H b ≠ none → b = a) (hK : H a ≠ none → K.lookup a = none) :
    codeAny (model P w) callerA (.call (.ref fa) ⟨[.ref a], []⟩)
      (fun r s' => r = .ok (.ret (.bool true)) ∧ OldK s₁.heap s'.heap ∧ s'.os = s₁.os ∧ AllBare s'.gens) s₁ := by
  have tr : ∀ {b : Addr} {u : HO}, H b = some u → b = a := fun {b u} q => hA b (by rw [q]; exact Option.some_ne_none u)
  have under : ∀ {b : Addr} {o : Obj}, s₁.heap.get? b = some o → H b = none → (hidT s₁.heap H).get? b = some o := fun e n => hidT_get e n
  have dictN : ∀ {b : Addr} {o : Obj} {es : Array DictEntry} {ep : Nat}, s₁.heap.get? b = some o → o.data = .dict es ep → H b = none := by
    intro b o es ep e d
    rcases hH : H b with _ | u
    · rfl
    · have eb := tr hH
      rw [eb, ha] at e
      rw [← Option.some.inj e] at d
      exact absurd d (by intro z; cases z)
  have nsK : ∀ {b : Addr} {m : Str → Option Value}, s₁.heap.Ns b m → (hidT s₁.heap H).Ns b m := by
    rintro b m ⟨o, es, ep, e, d, r⟩
    exact ⟨o, es, ep, under e (dictN e d), d, r⟩
  have hKb : K.In (hidT s₁.heap H) := by
    intro b o e
    refine under (KX b o e) ?_
    rcases hH : H b with _ | u
    · rfl
    · have eb := tr hH
      rw [eb] at e hH
      rw [hK (by rw [hH]; exact Option.some_ne_none u)] at e
      cases e
  have hM : Mod K mg (hidT s₁.heap H) := by
    obtain ⟨mc, l1, l2⟩ := hlim
    exact ⟨hKb, nsK hns, ⟨mb, nsK hb, hbb⟩, ⟨mc, nsK l1, l2⟩⟩
  have e0 : Env0 P w K mg (hidT s₁.heap H) callerA [] s₁ H := by
    refine ⟨rfl, hM, fun b o e => of_hidT e, Nat.le_of_eq (hidT_size _ _), trivial, fun b hb => ?_, hok, .of_eq hg⟩
    exact absurd (show b ∈ ([] : List Addr) from hb) List.not_mem_nil
  have hrun := (F _ hKb (nsK hns)).run callerA rfl [] s₁ H ⟨[.ref a], []⟩ [.ref a] [.ref a] _ _ hr e0 (hbind s₁ (.ref a)) (.cons rfl .nil) hsp
  refine codeAny_mono hrun fun r s' h => ?_
  match r, h with
  | .error e, h => exact absurd h id
  | .ok .next, h => exact absurd h id
  | .ok .brk, h => exact absurd h id
  | .ok .cont, h => exact absurd h id
  | .ok (.ret u), h =>
    obtain ⟨v, H', os, bare, un, hok', r', q⟩ := h
    obtain rfl : v = .bl true := q
    obtain rfl : u = Value.bool true := r'
    refine ⟨rfl, OldK.of_keep fun b o e => ?_, os, bare⟩
    rcases hO b with z | ⟨ob, xs, z⟩
    · exact un.keep b o e z (fun m => absurd (show b ∈ ([] : List Addr) from m) List.not_mem_nil) List.not_mem_nil
    · obtain ⟨e1, _⟩ := hok b _ z
      obtain ⟨e2, _⟩ := hok' b _ (un.frzs b ob _ z)
      rw [← e, e1]
      exact e2
theorem headG (KX : K.In s₁.heap) (hns : s₁.heap.Ns mainGlobals mg) (hb : s₁.heap.Ns builtinsNs mb)
    (hbb : ∀ y : Str, y ≠ "__name__" → mb y = bootBuiltins y) (hlim : s₁.heap.NoLimit) (hg : s₁.gens = #[])
    (ha : s₁.heap.get? a = some { cls := .type "list", data := .seq vs.toArray }) (hi : IntsAre vs ns) (hl : ns.length ≤ sizeLine) (hr : Room k callerA)
    (F : ∀ base : Heap, K.In base → base.Ns mainGlobals mg → FnG P w K mg base k fa fd [x] sp)
    (hbind : ∀ (s : Shared) (u : Value), BindsTo s fd ⟨[u], []⟩ [(x, u)])
    (hsp : ∀ H : Hp, Only H → SqL K H a (ns.map V.int) → sp [.ref a] H (fun v _ => v = .bl true) fun _ _ _ => False) :
    codeAny (model P w) callerA (.call (.ref fa) ⟨[.ref a], []⟩)
      (fun r s' => r = .ok (.ret (.bool true)) ∧ OldK s₁.heap s'.heap ∧ s'.os = s₁.os ∧ AllBare s'.gens) s₁ := by
  have rv := vals_ints hi
  rcases hk : K.lookup a with _ | o
  · have hE : ∀ b, (if b = a then some (HO.frz { cls := .type "list", data := .seq vs.toArray } (.lst (ns.map V.int))) else none) ≠ none → b = a := by
      intro b z
      by_cases hb : b = a
      · exact hb
      · rw [if_neg hb] at z
        exact absurd rfl z
    have hO : Only fun b => if b = a then some (HO.frz { cls := .type "list", data := .seq vs.toArray } (.lst (ns.map V.int))) else none := by
      intro b
      by_cases hb : b = a
      · exact .inr ⟨_, _, if_pos hb⟩
      · exact .inl (if_neg hb)
    refine headG_core _ KX hns hb hbb hlim hg ha hr F hbind hO (hsp _ hO (.inl (.inr ⟨_, if_pos rfl⟩))) (fun b u z => ?_) hE fun _ => hk
    have hba : b = a := hE b (by rw [z]; exact Option.some_ne_none u)
    subst hba
    obtain rfl := Option.some.inj ((if_pos rfl).symm.trans z)
    exact ⟨ha, by rw [List.length_map]; exact hl, vs, _, rv, ha⟩
  · have e := KX a o hk
    obtain rfl := Option.some.inj (ha.symm.trans e)
    have hO : Only fun _ => none := fun _ => .inl rfl
    refine headG_core (fun _ => none) KX hns hb hbb hlim hg ha hr F hbind hO (hsp _ hO (.inr ⟨_, vs.toArray, _, hk, rfl, rfl, rfl, ?_, by simpa using rv⟩))
      (fun b u z => absurd (show (none : Option HO) = some u from z) (by intro q; cases q)) (fun b z => absurd rfl z) fun z => absurd rfl z
    rw [List.size_toArray, hi.length]
    exact hl
end
/-- the goal that the head leaves -/
theorem walkG {l : PySem.W.OpenLaw} {n k : Nat} {q : Program} {loose : List Str} {XP : (Str → Option Value) → Heap → Prop} {YP : World → Heap → Prop}
    {d : DefRec} {K : Params → PySem.W.Frag} {sp : PySem.W.Frag → Sp} {x : Str}
    (hn : l.most = some n) (hn2 : n ≤ sizeLine) (hdf : d.params.defaults = []) (hr : Room k callerA)
    (hY : ∀ (w : World) (h : Heap), YP w h → (K w.params).In h)
    (F : ∀ (w : World) (mg : Str → Option Value) (fa : Addr) (h : Heap), (K w.params).In h → h.Ns mainGlobals mg → mg d.name = some (.ref fa) →
      ∃ fd : FuncData, (∀ (s : Shared) (u : Value), BindsTo s fd ⟨[u], []⟩ [(x, u)]) ∧
        ∀ base : Heap, (K w.params).In base → base.Ns mainGlobals mg → FnG l.prog w (K w.params) mg base k fa fd [x] (sp (K w.params)))
    (hsp : ∀ (K : PySem.W.Frag) (H : Hp) (a : Addr) (ns : List Int), ns.length ≤ n → Only H → SqL K H a (ns.map V.int) → sp K [.ref a] H (fun v _ => v = .bl true) fun _ _ _ => False) :
    PySem.W.WalkO q loose XP YP l.row.toRowW d [] (fun f vs => PySem.call f vs) := by
  refine Att.attach_call hn hdf fun w s₀ s₁ mg mb fa o pm cd doc a vs ns G Y ho hd hcd hmg hobj hints hlen hg => ?_
  obtain ⟨fd, hbd, hF⟩ := F w mg fa _ (hY w _ Y) G.T.g hmg
  exact headG (hY w _ Y) G.T.g G.T.b G.T.builtins G.T.nolimit hg hobj hints (Nat.le_trans hlen hn2) hr hF hbd fun H h1 h2 => hsp _ H a ns hlen h1 h2
end Sv
set_option maxHeartbeats 1000000
set_option maxHeartbeats 1000000
namespace Sv
open PySem PySem.Spec PyProof.Rows L2
/-- lists that rise by a number are told by their members -/
theorem rise_eq {α : Type} (f : α → Int) : ∀ (l r : List α), l.Pairwise (fun a b => f a < f b) → r.Pairwise (fun a b => f a < f b) → (∀ x, x ∈ l ↔ x ∈ r) → l = r
  | [], [], _, _, _ => rfl
  | [], b :: r, _, _, h => absurd ((h b).mpr List.mem_cons_self) List.not_mem_nil
  | a :: l, [], _, _, h => absurd ((h a).mp List.mem_cons_self) List.not_mem_nil
  | a :: l, b :: r, h1, h2, h => by
    obtain ⟨p1, q1⟩ := List.pairwise_cons.mp h1
    obtain ⟨p2, q2⟩ := List.pairwise_cons.mp h2
    have e : a = b := by
      rcases List.mem_cons.mp ((h a).mp List.mem_cons_self) with z | z
      · exact z
      · rcases List.mem_cons.mp ((h b).mpr List.mem_cons_self) with y | y
        · exact y.symm
        · have := p2 a z
          have := p1 b y
          omega
    subst e
    congr 1
    refine rise_eq f l r q1 q2 fun x => ⟨fun z => ?_, fun z => ?_⟩
    · rcases List.mem_cons.mp ((h x).mp (List.mem_cons_of_mem _ z)) with y | y
      · subst y
        exact absurd (p1 _ z) (Int.lt_irrefl _)
      · exact y
    · rcases List.mem_cons.mp ((h x).mpr (List.mem_cons_of_mem _ z)) with y | y
      · subst y
        exact absurd (p2 _ z) (Int.lt_irrefl _)
      · exact y
/-- pairs by one number -/
def pc (x : Int × Int) : Int := x.1 * 64 + x.2
end Sv
namespace Sz
open PySem
/-- a frame of no generator's waking -/
def NoGen : Frame → Prop
  | .gen .. => False
  | _ => True
def GF (fs : List Frame) : Prop := ∀ f ∈ fs, NoGen f
theorem gf_nil : GF [] := fun _ h => (nomatch h)
theorem gf_split {fs : List Frame} {pre rest : List Frame} {x : Nat × (GenResult → Sem PySem.Fin) × Code × Pos} : GF fs → splitAtGen fs = some (pre, x, rest) → False := by
  induction fs generalizing pre rest x with
  | nil => intro _ h; cases h
  | cons f fs ih =>
    intro g h
    cases f with
    | gen _ _ _ _ _ => exact g _ (List.mem_cons_self ..)
    | ret _ _ _ _ _ _ _ =>
      unfold splitAtGen at h
      cases e : splitAtGen fs with
      | none => rw [e] at h; cases h
      | some y =>
        obtain ⟨a, b, c⟩ := y
        exact ih (fun f hf => g f (List.mem_cons_of_mem _ hf)) e
def GFEnd : End → Prop
  | .ret _ => True
  | .susp _ _ _ _ _ _ fs => GF fs
def GFGen : GenState → Prop
  | .suspended _ _ _ _ fs _ => GF fs
  | _ => True
theorem gf_state {e : End} (h : GFEnd e) : GFGen e.genState := by
  cases e with
  | ret _ => exact True.intro
  | susp _ _ _ _ _ _ _ => exact h
/-- it can't be woken -/
def Stuck : GenState → Prop
  | .suspended k _ _ _ _ _ => ∀ r, ∃ why, k r = .unsupported why
  | _ => False
abbrev Fz := Nat → Option GenState
def plug (F : Fz) (s : Shared) : Shared := { s with gens := s.gens.mapIdx fun i x => (F i).getD x }
structure Ok (F : Fz) (s : Shared) : Prop where
  fz : ∀ i st, F i = some st → ∃ x, s.gens[i]? = some x ∧ x.seen = st.seen ∧ Stuck x
  fr : ∀ i x, s.gens[i]? = some x → F i = none → GFGen x
variable {F : Fz} {M : Model}
theorem plug_at {s : Shared} {i : Nat} : (plug F s).gens[i]? = s.gens[i]?.map fun x => (F i).getD x := by
  unfold plug
  rw [Array.getElem?_mapIdx]
theorem plug_free {s : Shared} {i : Nat} {x : GenState} (h : s.gens[i]? = some x) (hf : F i = none) : (plug F s).gens[i]? = some x := by
  rw [plug_at, h, hf]
  rfl
theorem plug_set {s : Shared} {i : Nat} {x : GenState} (hf : F i = none) : plug F (s.setGen i x) = (plug F s).setGen i x := by
  unfold plug Shared.setGen
  congr 1
  apply Array.ext_getElem?
  intro j
  rw [Array.getElem?_mapIdx, Array.getElem?_setIfInBounds, Array.getElem?_setIfInBounds, Array.getElem?_mapIdx, Array.size_mapIdx]
  by_cases e : i = j
  · subst e
    rw [if_pos rfl, if_pos rfl, hf]
    split <;> rfl
  · rw [if_neg e, if_neg e]
theorem Ok.none_of {s : Shared} (h : Ok F s) {i : Nat} (hi : s.gens.size ≤ i) : F i = none := by
  cases e : F i with
  | none => rfl
  | some st =>
    obtain ⟨x, hx, _⟩ := h.fz i st e
    have := (Array.getElem?_eq_some_iff.mp hx).1
    omega
theorem plug_push {s : Shared} {x : GenState} (h : Ok F s) : plug F { s with gens := s.gens.push x } = { plug F s with gens := (plug F s).gens.push x } := by
  unfold plug
  congr 1
  apply Array.ext_getElem?
  intro j
  rw [Array.getElem?_mapIdx, Array.getElem?_push, Array.getElem?_push, Array.getElem?_mapIdx, Array.size_mapIdx]
  by_cases e : j = s.gens.size
  · subst e
    rw [if_pos rfl, if_pos rfl, h.none_of (Nat.le_refl _)]
    rfl
  · rw [if_neg e, if_neg e]
theorem plug_size {s : Shared} : (plug F s).gens.size = s.gens.size := by
  unfold plug
  exact Array.size_mapIdx
theorem Ok.set {s : Shared} (h : Ok F s) {i : Nat} {x : GenState} (hf : F i = none) (hx : GFGen x) : Ok F (s.setGen i x) := by
  refine ⟨fun j st e => ?_, fun j y hy e => ?_⟩
  · have hne : i ≠ j := fun z => by
      subst z
      rw [hf] at e
      cases e
    obtain ⟨y, h1, h2⟩ := h.fz j st e
    refine ⟨y, ?_, h2⟩
    show (s.gens.setIfInBounds i x)[j]? = _
    rw [Array.getElem?_setIfInBounds, if_neg hne]
    exact h1
  · have hy : (s.gens.setIfInBounds i x)[j]? = some y := hy
    rw [Array.getElem?_setIfInBounds] at hy
    by_cases z : i = j
    · rw [if_pos z] at hy
      split at hy
      · cases hy
        exact hx
      · cases hy
    · rw [if_neg z] at hy
      exact h.fr j y hy e
theorem Ok.push {s : Shared} (h : Ok F s) {x : GenState} (hx : GFGen x) : Ok F { s with gens := s.gens.push x } := by
  refine ⟨fun j st e => ?_, fun j y hy e => ?_⟩
  · obtain ⟨y, h1, h2⟩ := h.fz j st e
    refine ⟨y, ?_, h2⟩
    show (s.gens.push x)[j]? = _
    rw [Array.getElem?_push, if_neg (Nat.ne_of_lt (Array.getElem?_eq_some_iff.mp h1).1)]
    exact h1
  · have hy : (s.gens.push x)[j]? = some y := hy
    rw [Array.getElem?_push] at hy
    split at hy
    · cases hy
      exact hx
    · exact h.fr j y hy e
theorem no_unsup {Γ : Ctx} {p : Pos} {t : Sem PySem.Fin} {fs : List Frame} {s s' : Shared} {e : End} (h : Runs M Γ p t fs s e s') : ∀ why, t ≠ .unsupported why := by
  induction h <;> intro why z <;> first | (cases z; done) | (subst z; rename_i ih _; exact ih why rfl) | (subst z; rename_i ih; exact ih why rfl)
theorem stuck_not {x : GenState} (h : Stuck x) {k : Resume → Sem PySem.Fin} {l : List Value} {c : Code} {p : Pos} {fs : List Frame} {cl : Bool} (e : x = .suspended k l c p fs cl) {Γ : Ctx} {q : Pos} {r : Resume} {s s' : Shared} {en : End} (hr : Runs M Γ q (k r) fs s en s') : False := by
  subst e
  obtain ⟨why, hw⟩ := h r
  exact no_unsup hr why hw
theorem Ok.free_of {s : Shared} (h : Ok F s) {i : Nat} {x : GenState} (hx : s.gens[i]? = some x) (hn : Stuck x → False) : F i = none := by
  cases e : F i with
  | none => rfl
  | some st =>
    obtain ⟨y, hy, _, hs⟩ := h.fz i st e
    rw [hx] at hy
    cases hy
    exact (hn hs).elim
theorem Ok.seen {s : Shared} (o : Ok F s) {i : Nat} {st : GenState} (hs : s.gens[i]? = some st) : ∃ st', (plug F s).gens[i]? = some st' ∧ st'.seen = st.seen := by
  cases hf : F i with
  | none => exact ⟨st, plug_free hs hf, rfl⟩
  | some st' =>
    obtain ⟨x, hx, h2, _⟩ := o.fz i st' hf
    rw [hs] at hx
    cases hx
    refine ⟨st', ?_, h2.symm⟩
    rw [plug_at, hs, hf]
    rfl
/-- THE RULE: over the true generators too -/
theorem runs_plug {Γ : Ctx} {p : Pos} {t : Sem PySem.Fin} {fs : List Frame} {s s' : Shared} {e : End} (h : Runs M Γ p t fs s e s') : Ok F s → GF fs → Runs M Γ p t fs (plug F s) e (plug F s') ∧ Ok F s' ∧ GFEnd e := by
  induction h with
  | done => exact fun o _ => ⟨.done, o, True.intro⟩
  | raise => exact fun o _ => ⟨.raise, o, True.intro⟩
  | again hq _ ih => exact fun o g => ⟨.again hq (ih o g).1, (ih o g).2⟩
  | rule _ ih => exact fun o g => ⟨.rule (ih o g).1, (ih o g).2⟩
  | «at» _ ih => exact fun o g => ⟨.at (ih o g).1, (ih o g).2⟩
  | load ha _ ih => exact fun o g => ⟨.load ha (ih o g).1, (ih o g).2⟩
  | update ha _ ih => exact fun o g => ⟨.update ha (ih ⟨o.fz, o.fr⟩ g).1, (ih ⟨o.fz, o.fr⟩ g).2⟩
  | loadIfAlive _ ih => exact fun o g => ⟨.loadIfAlive (ih o g).1, (ih o g).2⟩
  | point _ ih => exact fun o g => ⟨.point (ih o g).1, (ih o g).2⟩
  | alloc _ ih => exact fun o g => ⟨.alloc (ih ⟨o.fz, o.fr⟩ g).1, (ih ⟨o.fz, o.fr⟩ g).2⟩
  | fresh _ ih => exact fun o g => ⟨.fresh (ih ⟨o.fz, o.fr⟩ g).1, (ih ⟨o.fz, o.fr⟩ g).2⟩
  | ask _ ih => exact fun o g => ⟨.ask (ih o g).1, (ih o g).2⟩
  | choose hn _ ih => exact fun o g => ⟨.choose hn (ih ⟨o.fz, o.fr⟩ g).1, (ih ⟨o.fz, o.fr⟩ g).2⟩
  | os _ ih => exact fun o g => ⟨.os (ih ⟨o.fz, o.fr⟩ g).1, (ih ⟨o.fz, o.fr⟩ g).2⟩
  | handled _ ih => exact fun o g => ⟨.handled (ih o g).1, (ih o g).2⟩
  | genState hs _ ih =>
    intro o g
    have r := (ih o g).1
    obtain ⟨st', h1, h2⟩ := o.seen hs
    rw [← h2] at r
    exact ⟨.genState h1 r, (ih o g).2⟩
  | stack _ ih => exact fun o g => ⟨.stack (ih o g).1, (ih o g).2⟩
  | thread _ ih => exact fun o g => ⟨.thread (ih o g).1, (ih o g).2⟩
  | newGen _ ih =>
    intro o g
    have r := ih (o.push True.intro) g
    refine ⟨.newGen ?_, r.2⟩
    have r1 := r.1
    rw [plug_push o] at r1
    rw [plug_size]
    exact r1
  | call _ _ ih1 ih2 =>
    intro o g
    obtain ⟨a1, a2, _⟩ := ih1 o gf_nil
    obtain ⟨b1, b2⟩ := ih2 a2 g
    exact ⟨.call a1 b1, b2⟩
  | callSusp _ ih =>
    intro o g
    obtain ⟨a1, a2, a3⟩ := ih o gf_nil
    refine ⟨.callSusp a1, a2, fun f hf => ?_⟩
    rcases List.mem_append.mp hf with z | z
    · exact a3 f z
    · rw [List.mem_singleton.mp z]
      exact True.intro
  | yield => exact fun o g => ⟨.yield, o, g⟩
  | resumeFresh hs _ hq _ ih1 ih2 =>
    intro o g
    have hf := o.free_of hs fun z => z
    obtain ⟨a1, a2, a3⟩ := ih1 (o.set hf True.intro) gf_nil
    obtain ⟨b1, b2⟩ := ih2 (a2.set hf (gf_state a3)) g
    rw [plug_set hf] at a1 b1
    exact ⟨.resumeFresh (plug_free hs hf) a1 hq b1, b2⟩
  | resumeSuspended hs h1 hq _ ih1 ih2 =>
    intro o g
    have hf := o.free_of hs fun z => stuck_not z rfl h1
    obtain ⟨a1, a2, a3⟩ := ih1 (o.set hf True.intro) (o.fr _ _ hs hf)
    obtain ⟨b1, b2⟩ := ih2 (a2.set hf (gf_state a3)) g
    rw [plug_set hf] at a1 b1
    exact ⟨.resumeSuspended (plug_free hs hf) a1 hq b1, b2⟩
  | resumeJustStarted hs hv _ ih =>
    intro o g
    have hf := o.free_of hs fun z => z
    exact ⟨.resumeJustStarted (plug_free hs hf) hv (ih o g).1, (ih o g).2⟩
  | resumeThrowFresh hs _ ih =>
    intro o g
    have hf := o.free_of hs fun z => z
    obtain ⟨b1, b2⟩ := ih (o.set hf True.intro) g
    rw [plug_set hf] at b1
    exact ⟨.resumeThrowFresh (plug_free hs hf) b1, b2⟩
  | resumeRunning hs _ ih =>
    intro o g
    have hf := o.free_of hs fun z => z
    exact ⟨.resumeRunning (plug_free hs hf) (ih o g).1, (ih o g).2⟩
  | resumeFinished hs _ ih =>
    intro o g
    have hf := o.free_of hs fun z => z
    exact ⟨.resumeFinished (plug_free hs hf) (ih o g).1, (ih o g).2⟩
  | segRet _ _ ih1 ih2 =>
    intro o g
    obtain ⟨a1, a2, _⟩ := ih1 o gf_nil
    obtain ⟨b1, b2⟩ := ih2 a2 fun f hf => g f (List.mem_cons_of_mem _ hf)
    exact ⟨.segRet a1 b1, b2⟩
  | segGen _ _ _ _ => exact fun _ g => (g _ (List.mem_cons_self ..)).elim
  | segSuspOut hsp _ ih =>
    intro o g
    obtain ⟨a1, a2, a3⟩ := ih o gf_nil
    refine ⟨.segSuspOut hsp a1, a2, fun f hf => ?_⟩
    rcases List.mem_append.mp hf with z | z
    · exact a3 f z
    · exact g f z
  | segSuspGen hsp _ _ _ _ _ => exact fun _ g => (gf_split g hsp).elim
/-- the same of what is shown of a term -/
theorem wakes_plug {Γ : Ctx} {p : Pos} {g : Nat} {r : Resume} {s s' : Shared} {res : GenResult} (h : Wakes M Γ p g r s res s') (o : Ok F s) : Wakes M Γ p g r (plug F s) res (plug F s') ∧ Ok F s' := by
  unfold Wakes at h ⊢
  cases hs : s.gens[g]? with
  | none => rw [hs] at h; exact h.elim
  | some x =>
    rw [hs] at h
    have hf : F g = none := by
      refine o.free_of hs fun z => ?_
      cases x with
      | suspended k l c p' fs cl =>
        obtain ⟨e₁, s₁, hr, _⟩ := h
        exact stuck_not z rfl hr
      | _ => exact z
    rw [plug_free hs hf]
    cases x with
    | fresh c =>
      cases r with
      | send v =>
        cases v with
        | none =>
          obtain ⟨e₁, s₁, hr, hq, h1, rfl⟩ := h
          obtain ⟨a1, a2, a3⟩ := runs_plug hr (o.set hf True.intro) gf_nil
          rw [plug_set hf] at a1
          exact ⟨⟨e₁, _, a1, hq, h1, plug_set hf⟩, a2.set hf (gf_state a3)⟩
        | _ =>
          obtain ⟨h1, rfl⟩ := h
          exact ⟨⟨h1, rfl⟩, o⟩
      | throw v =>
        obtain ⟨h1, rfl⟩ := h
        exact ⟨⟨h1, plug_set hf⟩, o.set hf True.intro⟩
    | suspended k l c p' fs cl =>
      obtain ⟨e₁, s₁, hr, hq, h1, rfl⟩ := h
      obtain ⟨a1, a2, a3⟩ := runs_plug hr (o.set hf True.intro) (o.fr _ _ hs hf)
      rw [plug_set hf] at a1
      exact ⟨⟨e₁, _, a1, hq, h1, plug_set hf⟩, a2.set hf (gf_state a3)⟩
    | running =>
      obtain ⟨h1, rfl⟩ := h
      exact ⟨⟨h1, rfl⟩, o⟩
    | finished =>
      obtain ⟨h1, rfl⟩ := h
      exact ⟨⟨h1, rfl⟩, o⟩
open Sem (wp)
theorem wp_plug {α : Type} (Γ : Ctx) (t : Sem α) : ∀ (Q : α → Pos → Shared → Prop) (E : Value → Pos → Shared → Prop) (p : Pos) (s : Shared), Ok F s → wp M Γ t Q E p s →
    wp M Γ t (fun a p' s' => ∃ z, s' = plug F z ∧ Ok F z ∧ Q a p' z) (fun e p' s' => ∃ z, s' = plug F z ∧ Ok F z ∧ E e p' z) p (plug F s) := by
  induction t with
  | pure a => intro Q E p s o h; exact ⟨s, rfl, o, h⟩
  | raise e => intro Q E p s o h; exact ⟨s, rfl, o, h⟩
  | unsupported _ => intro Q E p s _ h; exact h
  | finish _ => intro Q E p s _ h; exact h
  | rule _ k ih => intro Q E p s o h; exact ih () Q E p s o h
  | «at» p' k ih => intro Q E p s o h; exact ih () Q E p' s o h
  | load a _ k ih => intro Q E p s o h; obtain ⟨ob, ho, h⟩ := h; exact ⟨ob, ho, ih ob Q E p s o h⟩
  | update a _ f k ih => intro Q E p s o h; exact ⟨h.1, ih () Q E p { s with heap := s.heap.update a f } ⟨o.fz, o.fr⟩ h.2⟩
  | loadIfAlive a k ih => intro Q E p s o h; exact ih _ Q E p s o h
  | point _ k ih => intro Q E p s o h; exact ih () Q E p s o h
  | register _ _ => intro Q E p s _ h; exact h
  | alloc ob k ih => intro Q E p s o h; exact ih _ Q E p { s with heap := s.heap.push ob } ⟨o.fz, o.fr⟩ h
  | fresh k ih => intro Q E p s o h; exact ih _ Q E p { s with toks := s.toks + 1 } ⟨o.fz, o.fr⟩ h
  | ask k ih => intro Q E p s o h; exact ih _ Q E p s o h
  | choose src m k ih => intro Q E p s o h; exact ⟨h.1, ih _ Q E p { s with drawn := s.drawn.bump src } ⟨o.fz, o.fr⟩ h.2⟩
  | os q _ k ih => intro Q E p s o h; exact ih _ Q E p { s with os := (Os.step s.os q).1 } ⟨o.fz, o.fr⟩ h
  | call c hd _ _ k ih =>
    intro Q E p s o h
    obtain ⟨r, s', hr, h⟩ := h
    obtain ⟨a1, a2, _⟩ := runs_plug hr o gf_nil
    exact ⟨r, plug F s', a1, ih r Q E p s' a2 h⟩
  | handled own k ih => intro Q E p s o h; exact ih _ Q E p s o h
  | genState g k ih =>
    intro Q E p s o h
    obtain ⟨st, hs, h⟩ := h
    obtain ⟨st', h1, h2⟩ := o.seen hs
    refine ⟨st', h1, ?_⟩
    rw [h2]
    exact ih _ Q E p s o h
  | newGen c k ih =>
    intro Q E p s o h
    have r := ih _ Q E p _ (o.push (x := .fresh c) True.intro) h
    rw [plug_push o] at r
    show wp M Γ (k (plug F s).gens.size) _ _ p _
    rw [plug_size]
    exact r
  | resume g r _ k ih =>
    intro Q E p s o h
    obtain ⟨res, s', hw, h⟩ := h
    obtain ⟨a1, a2⟩ := wakes_plug hw o
    exact ⟨res, plug F s', a1, ih res Q E p s' a2 h⟩
  | yield _ _ _ _ => intro Q E p s _ h; exact h
  | stack k ih => intro Q E p s o h; exact ih _ Q E p s o h
  | fork _ _ => intro Q E p s _ h; exact h
  | thread k ih => intro Q E p s o h; exact ih _ Q E p s o h
  | await _ _ _ _ _ => intro Q E p s _ h; exact h
theorem wpAny_plug {α : Type} {A : Around} {t : Sem α} {Q : α → Shared → Prop} {E : Value → Shared → Prop} {s : Shared} (o : Ok F s) (h : wpAny M A t Q E s) :
    wpAny M A t (fun a s' => ∃ z, s' = plug F z ∧ Ok F z ∧ Q a z) (fun e s' => ∃ z, s' = plug F z ∧ Ok F z ∧ E e z) (plug F s) := fun Γ p hΓ => wp_plug Γ t _ _ p s o (h Γ p hΓ)
def held1 : GenState → GenState
  | .suspended _ l c p fs cl => .suspended (fun _ => .unsupported "") l c p fs cl
  | x => x
def IsSusp : GenState → Prop
  | .suspended .. => True
  | _ => False
def fzOf (G : Array GenState) : Fz := fun i => match G[i]? with
  | some (.suspended k l c p fs cl) => some (.suspended k l c p fs cl)
  | _ => none
def held (s : Shared) : Shared := { s with gens := s.gens.map held1 }
theorem fzOf_some {G : Array GenState} {i : Nat} {st : GenState} (h : fzOf G i = some st) : G[i]? = some st ∧ IsSusp st := by
  unfold fzOf at h
  split at h
  · cases h
    rename_i e
    exact ⟨e, True.intro⟩
  · cases h
theorem fzOf_susp {G : Array GenState} {i : Nat} {st : GenState} (h : G[i]? = some st) (hs : IsSusp st) : fzOf G i = some st := by
  cases st with
  | suspended k l c p fs cl => unfold fzOf; rw [h]
  | _ => exact hs.elim
theorem held_ok (s : Shared) : Ok (fzOf s.gens) (held s) := by
  refine ⟨fun i st e => ?_, fun i x hx e => ?_⟩
  · obtain ⟨h1, h2⟩ := fzOf_some e
    refine ⟨held1 st, ?_, ?_, ?_⟩
    · show (s.gens.map held1)[i]? = _
      rw [Array.getElem?_map, h1]
      rfl
    · cases st with
      | suspended k l c p fs cl => rfl
      | _ => exact h2.elim
    · cases st with
      | suspended k l c p fs cl => exact fun _ => ⟨_, rfl⟩
      | _ => exact h2.elim
  · have hx : (s.gens.map held1)[i]? = some x := hx
    rw [Array.getElem?_map] at hx
    cases h : s.gens[i]? with
    | none => rw [h] at hx; cases hx
    | some y =>
      rw [h] at hx
      cases hx
      cases y with
      | suspended k l c p fs cl =>
        rw [fzOf_susp h True.intro] at e
        cases e
      | _ => exact True.intro
theorem plug_held (s : Shared) : plug (fzOf s.gens) (held s) = s := by
  unfold plug held
  have e : ((s.gens.map held1).mapIdx fun i x => ((fzOf s.gens) i).getD x) = s.gens := by
    apply Array.ext_getElem?
    intro j
    rw [Array.getElem?_mapIdx, Array.getElem?_map]
    cases h : s.gens[j]? with
    | none => rfl
    | some y =>
      show some (((fzOf s.gens) j).getD (held1 y)) = some y
      congr 1
      cases y with
      | suspended k l c p fs cl => rw [fzOf_susp h True.intro]; rfl
      | _ =>
        have : fzOf s.gens j = none := by
          unfold fzOf
          rw [h]
        rw [this]
        rfl
  show ({ s with gens := _ } : Shared) = s
  rw [e]
theorem bare_held {G : Array GenState} (h : PyProof.Rows.AllBare G) : PyProof.Rows.AllBare (G.map held1) := fun y hy => by
  obtain ⟨x, hx, rfl⟩ := Array.mem_map.mp hy
  have := h x hx
  cases x <;> exact this
/-- what sleeps before it sleeps behind it, as it was: t is shown over held ones alone -/
theorem wpAny_held {α : Type} {A : Around} {t : Sem α} {Q : α → Shared → Prop} {E : Value → Shared → Prop} {s : Shared} (h : wpAny M A t Q E (held s)) :
    wpAny M A t (fun a s' => (∃ G, Q a { s' with gens := G } ∧ (PyProof.Rows.AllBare G → PyProof.Rows.AllBare s.gens → PyProof.Rows.AllBare s'.gens)) ∧ ∀ (g : Nat) (st : GenState), s.gens[g]? = some st → IsSusp st → s'.gens[g]? = some st)
      (fun e s' => (∃ G, E e { s' with gens := G } ∧ (PyProof.Rows.AllBare G → PyProof.Rows.AllBare s.gens → PyProof.Rows.AllBare s'.gens)) ∧ ∀ (g : Nat) (st : GenState), s.gens[g]? = some st → IsSusp st → s'.gens[g]? = some st) s := by
  have r := wpAny_plug (held_ok s) h
  rw [plug_held] at r
  have fin : ∀ {R : Shared → Prop} {s' z : Shared}, s' = plug (fzOf s.gens) z → Ok (fzOf s.gens) z → R z → (∃ G, R { s' with gens := G } ∧ (PyProof.Rows.AllBare G → PyProof.Rows.AllBare s.gens → PyProof.Rows.AllBare s'.gens)) ∧ ∀ (g : Nat) (st : GenState), s.gens[g]? = some st → IsSusp st → s'.gens[g]? = some st := fun {R s' z} e o q => by
    subst e
    refine ⟨⟨z.gens, q, fun b1 b2 y hy => ?_⟩, fun g st h1 h2 => ?_⟩
    · obtain ⟨i, hi⟩ := Array.getElem?_of_mem hy
      rw [plug_at] at hi
      cases hz : z.gens[i]? with
      | none => rw [hz] at hi; cases hi
      | some x =>
        rw [hz] at hi
        have hi : some (((fzOf s.gens) i).getD x) = some y := hi
        cases hf : fzOf s.gens i with
        | none =>
          rw [hf] at hi
          cases hi
          exact b1 _ (Array.mem_of_getElem? hz)
        | some st =>
          rw [hf] at hi
          cases hi
          exact b2 _ (Array.mem_of_getElem? (fzOf_some hf).1)
    · obtain ⟨x, hx, _⟩ := o.fz g st (fzOf_susp h1 h2)
      rw [plug_at, hx, fzOf_susp h1 h2]
      rfl
  exact wpAny_mono r (fun _ s' ⟨z, e, o, q⟩ => fin e o q) fun _ s' ⟨z, e, o, q⟩ => fin e o q
end Sz
namespace Sz
open PySem PySem.Spec PyProof.Rows L2
section
variable {X : Cx} {pins : List (Addr × Obj)} {σ : L2.St} {H : Hp} {s : Shared}
/-- the table of generators is no matter of it, but that they are bare -/
theorem inv_gens {G : Array GenState} (I : Inv X pins σ H { s with gens := G }) (b : AllBare s.gens) : Inv X pins σ H s :=
  ⟨I.ok, I.os, b, I.base, I.loc, I.cell, I.free, I.freeC, I.pin, I.hok, I.len⟩
theorem inv_held (I : Inv X pins σ H s) : Inv X pins σ H (held s) :=
  ⟨I.ok, I.os, bare_held I.bare, I.base, I.loc, I.cell, I.free, I.freeC, I.pin, I.hok, I.len⟩
/-- what sleeps in s sleeps in s' -/
def Stays (s s' : Shared) : Prop := ∀ (g : Nat) (st : GenState), s.gens[g]? = some st → IsSusp st → s'.gens[g]? = some st
theorem Stays.trans {a b c : Shared} (h : Stays a b) (k : Stays b c) : Stays a c := fun g st e z => k g st (h g st e z) z
/-- t run while they are held -/
theorem run_held {α : Type} {t : Sem α} {Q : α → Shared → Prop} (hxe : ∀ e s, ¬ X.xe e s) (h : wpAny (model X.prog X.w) X.A t Q X.xe (held s)) (hb : AllBare s.gens) :
    wpAny (model X.prog X.w) X.A t (fun a s' => (∃ G, Q a { s' with gens := G } ∧ (AllBare G → AllBare s'.gens)) ∧ Stays s s') X.xe s :=
  wpAny_mono (wpAny_held h) (fun a s' ⟨⟨G, q, b⟩, st⟩ => ⟨⟨G, q, fun z => b z hb⟩, st⟩) fun e s' ⟨⟨_, z, _⟩, _⟩ => (hxe _ _ z).elim
end
end Sz
namespace Sz
open PySem PySem.Spec PyProof.Rows L2 GenW
section
variable {M : Model} {A : Around} {R : GenEnd} {Y : Protocol} {n : Nat} {s₀ s : Shared} {c : Code} {fs : List Frame} {env : Env} {K : Flow → Sem PySem.Fin} {J : Value → Sem PySem.Fin} {gd : Bool → Bool} {lv : List Value → List Value}
abbrev NoE : Value → Shared → Prop := fun _ _ => False
/-- the frame that waits for the loop -/
def loopFrame (env : Env) (K : Flow → Sem PySem.Fin) (J : Value → Sem PySem.Fin) (gd : Bool → Bool) (lv : List Value → List Value) (c : Code) (p : Pos) : Frame :=
  .ret (fun r => ((match r with | .ok f => (.pure f : Sem Flow) | .error e => .raise e).onRaise (cameBack env)).wrap K J gd lv) none (gd false) (lv []) c p []
end
section
variable {P : Program} {w : World} {A : Around} {R : GenEnd} {Y : Protocol} {n : Nat} {s₀ s : Shared} {fs : List Frame} {env : Env}
/-- what is left of a turn of the loop -/
def turnK (tg : Expr) (it : Value) (body : List Stmt) (env : Env) : Flow → Sem PySem.Fin := fun f => match f with
  | .next | .cont => .pure (.again (.forLoop tg it body [] env))
  | .brk => .pure (.done .next)
  | .ret v => .pure (.done (.ret v))
def turnJ (env : Env) : Value → Sem PySem.Fin := fun e => (do noteFrame e env; theTreesLotGoes e : Sem Unit).wrap (fun _ => .raise e) .raise id id
end
end Sz
set_option autoImplicit false
namespace Sz
open PySem PySem.Spec PyProof.Rows L2 GenW
open Sem (wp)
/-- from here the run comes to an end of this kind -/
def Sg (M : Model) (A : Around) (Φ : End → Shared → Prop) (c : Code) (t : Sem PySem.Fin) (fs : List Frame) (s : Shared) : Prop :=
  ∀ Γ p, Γ.code = c → Γ.Woken A → ∃ e s', Runs M Γ p t fs s e s' ∧ Φ e s'
abbrev PostG := End → Shared → Prop
section
variable {M : Model} {A : Around} {Φ : PostG} {c : Code} {fs : List Frame} {s : Shared} {env : Env} {K : Flow → Sem PySem.Fin} {J : Value → Sem PySem.Fin} {gd : Bool → Bool} {lv : List Value → List Value}
theorem sg_wrap {α : Type} {m : Sem α} {K : α → Sem PySem.Fin} {H : Value → Sem PySem.Fin} {gd : Bool → Bool} {lv : List Value → List Value}
    (h : wpAny M (A.over c fs) m (fun a s' => Sg M A Φ c (K a) fs s') NoE s) : Sg M A Φ c (m.wrap K H gd lv) fs s := by
  rintro Γ p rfl hΓ
  exact runs_wrap_of_wp K H gd lv m (h (Γ.over fs) p (hΓ.over fs)) (fun a p' s' h' => h' Γ p' rfl hΓ) (fun x p' s' h' => h'.elim)
theorem sg_bind_wrap {α β : Type} {m : Sem α} {f : α → Sem β} {K : β → Sem PySem.Fin} {H : Value → Sem PySem.Fin} {gd : Bool → Bool} {lv : List Value → List Value}
    (h : wpAny M (A.over c fs) m (fun a s' => Sg M A Φ c ((f a).wrap K H gd lv) fs s') NoE s) : Sg M A Φ c ((m >>= f).wrap K H gd lv) fs s := by
  rw [Sem.bind_eq_wrap', Sem.wrap_wrap]
  exact sg_wrap h
theorem sg_at {p' : Pos} {k : Unit → Sem PySem.Fin} (h : Sg M A Φ c (k ()) fs s) : Sg M A Φ c (.at p' k) fs s :=
  sg_wrap (m := standAt p') (K := k) (H := .raise) (gd := id) (lv := id) (wpAny_standAt h)
theorem sg_point {l : List Value} {k : Unit → Sem PySem.Fin} (h : Sg M A Φ c (k ()) fs s) : Sg M A Φ c (.point l k) fs s :=
  sg_wrap (m := point) (K := k) (H := .raise) (gd := id) (lv := fun _ => l) (wpAny_point h)
theorem sg_call {c' : Code} {h : Option _} {g : Bool} {l : List Value} {k : Result → Sem PySem.Fin} (hc : ∀ p, Sg M A Φ c' (M.den c') (.ret k h g l c p [] :: fs) s) :
    Sg M A Φ c (.call c' h g l k) fs s := by
  rintro Γ p rfl hΓ
  obtain ⟨e, s', hr, he⟩ := hc p (Γ.goto c') p rfl (hΓ.goto c')
  exact ⟨e, s', runs_call_seg hr, he⟩
theorem sg_leaf {k : Result → Sem PySem.Fin} {h : Option _} {g : Bool} {l : List Value} {c₁ : Code} {p₁ : Pos} {kp : List Value} (r : Result) (hk : Sg M A Φ c₁ (k r) fs s) : Sg M A Φ c (leafOf r) (.ret k h g l c₁ p₁ kp :: fs) s := by
  rintro Γ p rfl hΓ
  obtain ⟨e, s', hr, he⟩ := hk (Γ.goto c₁) p₁ rfl (hΓ.goto c₁)
  exact ⟨e, s', Runs.pop r hr, he⟩
theorem sg_again {c' : Code} (hq : c'.quiet = true) (hc : Sg M A Φ c' (M.den c') fs s) : Sg M A Φ c (.pure (.again c')) fs s := by
  rintro Γ p rfl hΓ
  obtain ⟨e, s', hr, he⟩ := hc (Γ.goto c') p rfl (hΓ.goto c')
  exact ⟨e, s', Runs.head (c₁ := c') (fun _ _ x => .again hq x) hr, he⟩
theorem sg_end (r : Result) (h : Φ (.ret r) s) : Sg M A Φ c (leafOf r) [] s := by
  rintro Γ p rfl _
  exact ⟨.ret r, s, Runs.leaf r, h⟩
theorem sg_yield {v : Value} {g : Bool} {l : List Value} {k : Resume → Sem PySem.Fin} (hfs : splitAtGen fs = none) (h : ∀ p, Φ (.susp v g l k c p fs) s) : Sg M A Φ c (.yield v g l k) fs s := by
  rintro Γ p rfl _
  exact ⟨_, s, Runs.yield' fs hfs, h p⟩
theorem sg_execs_nil (h : Sg M A Φ c (K .next) fs s) : Sg M A Φ c ((execs [] env).wrap K J gd lv) fs s := h
theorem sg_execs_cons {st : Stmt} {rest : List Stmt}
    (h : Sg M A Φ c ((exec st env).wrap (fun f => match f with | .next => (execs rest env).wrap K J gd lv | f => K f) J gd lv) fs s) :
    Sg M A Φ c ((execs (st :: rest) env).wrap K J gd lv) fs s := by rw [execs_cons_wrap]; exact h
theorem sg_Expr_Yield {e : Expr} {ypos pos : Pos} (hfs : splitAtGen fs = none) (hgd : gd false = false) (hfg : fs.any Frame.guarded = false)
    (h : wpAny M (A.over c fs) (eval e env) (fun v s' => ∀ l k p, (∀ (A' : Around) (Φ' : PostG) (s'' : Shared), Sg M A' Φ' c (K .next) fs s'' → Sg M A' Φ' c (k (.send .none)) fs s'') → Φ (.susp v false l k c p fs) s') NoE s)
    (hco : env.scope.isCoroutine = false := by rfl) (hi : interactive env = false := by rfl) :
    Sg M A Φ c ((exec (.Expr (.Yield (some e) ypos) pos) env).wrap K J gd lv) fs s := by
  rw [exec_Expr env _ pos hi rfl]
  show Sg M A Φ c (.at pos fun _ => ((eval e env >>= fun v => (standAt ypos >>= fun _ => yieldOut env v)) >>= fun x =>
    dropValue (.Yield (some e) ypos) pos x).wrap K J gd lv) fs s
  have hy : ∀ v, yieldOut env v = yieldValue v := fun v => by simp only [yieldOut, hco, Bool.false_eq_true, if_false]
  simp only [hy]
  refine sg_at ?_
  rw [Sem.bind_eq_wrap', Sem.bind_eq_wrap', Sem.wrap_wrap, Sem.wrap_wrap]
  refine sg_wrap (wpAny_mono h (fun v s' h' => ?_) fun _ _ x => x)
  refine sg_at ?_
  show Sg M A Φ c (.yield v (gd false) _ _) fs s'
  rw [hgd]
  exact sg_yield hfs fun p => h' _ _ p fun A' Φ' s'' hx => hx
theorem sg_While {test : Expr} {body orelse : List Stmt} {pos : Pos}
    (h : ∀ p, Sg M A Φ (.whileLoop test body orelse env) (M.den (.whileLoop test body orelse env)) (loopFrame env K J gd lv c p :: fs) s) :
    Sg M A Φ c ((exec (.While test body orelse pos) env).wrap K J gd lv) fs s := sg_at (sg_call h)
theorem sg_For {tg iter : Expr} {body : List Stmt} {pos : Pos} (hs : ∀ x, foldedSetIterable iter env x = pure x)
    (h : wpAny M (A.over c fs) (eval iter env) (fun x s1 => wpAny M (A.over c fs) (pyIter x) (fun it s2 => ∀ p, Sg M A Φ (.forLoop tg it body [] env) (M.den (.forLoop tg it body [] env)) (loopFrame env K J gd lv c p :: fs) s2) NoE s1) NoE s) :
    Sg M A Φ c ((exec (.For tg iter body [] pos) env).wrap K J gd lv) fs s := by
  rw [exec_For]
  refine sg_bind_wrap (wpAny_standAt ?_)
  refine sg_bind_wrap (wpAny_mono h (fun x s1 h1 => ?_) fun _ _ z => False.elim z)
  refine sg_bind_wrap (wpAny_of_eq (hs x) ?_)
  refine sg_bind_wrap (wpAny_standAt ?_)
  refine sg_bind_wrap (wpAny_holding (wpAny_mono h1 (fun it s2 h2 => ?_) fun _ _ z => False.elim z))
  exact sg_call h2
end
section
variable {P : Program} {w : World} {A : Around} {Φ : PostG} {s : Shared} {fs : List Frame} {env : Env}
theorem sg_whileLoop {test : Expr} {body : List Stmt}
    (h : wpAny (model P w) (A.over (.whileLoop test body [] env) fs) (isTrue test env (eval test env)) (fun b s' =>
        if b = true then Sg (model P w) A Φ (.whileLoop test body [] env) ((execs body env).wrap (fun f => match f with
            | .next | .cont => .pure (.again (.whileLoop test body [] env))
            | .brk => .pure (.done .next)
            | .ret v => .pure (.done (.ret v))) (turnJ env) id id) fs s'
        else Sg (model P w) A Φ (.whileLoop test body [] env) (.pure (.done .next)) fs s') NoE s) :
    Sg (model P w) A Φ (.whileLoop test body [] env) ((model P w).den (.whileLoop test body [] env)) fs s := by
  show Sg _ A Φ _ ((whileTurn test body [] env).onRaise (fun x => do noteFrame x env; theTreesLotGoes x)) fs s
  unfold whileTurn
  rw [Sem.onRaise_eq_wrap, Sem.bind_eq_wrap', Sem.wrap_wrap]
  refine sg_wrap (wpAny_mono h (fun b s' hb => ?_) fun x s' hx => hx)
  cases b with
  | true =>
    rw [if_pos rfl] at hb
    show Sg _ A Φ _ (Sem.wrap _ _ _ _ (if true = true then _ else _)) fs s'
    rw [if_pos rfl, Sem.bind_eq_wrap', Sem.wrap_wrap]
    rw [Sem.wrap_congr (execs body env) _ _ (K' := fun f => match f with
          | .next | .cont => .pure (.again (.whileLoop test body [] env))
          | .brk => .pure (.done .next)
          | .ret v => .pure (.done (.ret v))) (H' := turnJ env)
      (fun f => by cases f <;> rfl)
      (fun e => by first | exact Sem.bind_eq_wrap _ _ | (show (do noteFrame e env; theTreesLotGoes e : Sem Unit).bind (fun _ => .raise e) = _; rw [Sem.bind_eq_wrap]; rfl))]
    exact hb
  | false =>
    rw [if_neg Bool.false_ne_true] at hb
    show Sg _ A Φ _ (Sem.wrap _ _ _ _ (if false = true then _ else _)) fs s'
    rw [if_neg Bool.false_ne_true, Sem.bind_eq_wrap', Sem.wrap_wrap]
    exact hb
theorem sg_forLoop {tg : Expr} {it : Value} {body : List Stmt}
    (h : wpAny (model P w) (A.over (.forLoop tg it body [] env) fs) (pyNext it) (fun r s' => match r with
      | none => Sg (model P w) A Φ (.block [] env) ((model P w).den (.block [] env)) fs s'
      | some v => wpAny (model P w) (A.over (.forLoop tg it body [] env) fs) (letOwnedTupleGo tg it v) (fun _ s1 => wpAny (model P w) (A.over (.forLoop tg it body [] env) fs) (assign tg env v)
          (fun _ s2 => Sg (model P w) A Φ (.forLoop tg it body [] env) ((execs body env).wrap (turnK tg it body env) (turnJ env) id id) fs s2) NoE s1) NoE s') NoE s) :
    Sg (model P w) A Φ (.forLoop tg it body [] env) ((model P w).den (.forLoop tg it body [] env)) fs s := by
  show Sg _ A Φ _ ((forTurn tg it body [] env).onRaise (fun x => do noteFrame x env; theTreesLotGoes x)) fs s
  unfold forTurn
  rw [Sem.onRaise_eq_wrap]
  refine sg_bind_wrap (wpAny_standAt ?_)
  refine sg_bind_wrap (wpAny_onRaise (wpAny_mono h (fun r s' hr => ?_) fun _ _ z => False.elim z))
  cases r with
  | none => exact sg_again rfl hr
  | some v =>
    refine sg_bind_wrap (wpAny_mono hr (fun _ s1 h1 => ?_) fun _ _ z => False.elim z)
    refine sg_bind_wrap (wpAny_mono h1 (fun _ s2 h2 => ?_) fun _ _ z => False.elim z)
    rw [Sem.bind_eq_wrap', Sem.wrap_wrap]
    rw [Sem.wrap_congr (execs body env) _ _ (K' := turnK tg it body env) (H' := turnJ env) (fun f => by cases f <;> rfl)
      (fun e => by first | exact Sem.bind_eq_wrap _ _ | (show (do noteFrame e env; theTreesLotGoes e : Sem Unit).bind (fun _ => .raise e) = _; rw [Sem.bind_eq_wrap]; rfl))]
    exact h2
theorem sg_block_nil (h : Sg (model P w) A Φ (.block [] env) (.pure (.done .next)) fs s) : Sg (model P w) A Φ (.block [] env) ((model P w).den (.block [] env)) fs s := h
theorem sg_func {body : List Stmt}
    (h : Sg (model P w) A Φ (.func body env) ((execs body env).wrap (fun f => .pure (.done (.ret (match f with | .ret v => v | _ => .none))))
      (fun e => (leaving env e).wrap (fun _ => .raise e) .raise id id) id id) fs s) :
    Sg (model P w) A Φ (.func body env) ((model P w).den (.func body env)) fs s := by
  show Sg _ A Φ _ (.point [] fun _ => ((execs body env).onRaise (leaving env)) >>= _) fs s
  refine sg_point ?_
  rw [Sem.onRaise_eq_wrap, Sem.bind_eq_wrap', Sem.wrap_wrap]
  rw [Sem.wrap_congr (execs body env) _ _ (K' := fun f => .pure (.done (.ret (match f with | .ret v => v | _ => .none))))
    (H' := fun e => (leaving env e).wrap (fun _ => .raise e) .raise id id) (fun f => by cases f <;> rfl)
    (fun e => by rw [Sem.bind_eq_wrap, Sem.wrap_wrap]; rfl)]
  exact h
end
def WkG (M : Model) (A : Around) (Φ : PostG) (gs : GenState) (r : Resume) (s : Shared) : Prop :=
  match gs with
  | .fresh c => r = .send .none ∧ Sg M A Φ c (M.den c) [] s
  | .suspended k _ c _ fs _ => Sg M A Φ c (k r) fs s
  | _ => False
theorem wpAny_resumeK {M : Model} {A : Around} {Φ : PostG} {E : Value → Shared → Prop} {s : Shared} {g : Nat} {gs : GenState}
    {r : Resume} {l : List Value} {α : Type} {k : GenResult → Sem α} {Q : α → Shared → Prop} (hg : s.gens[g]? = some gs)
    (hgo : WkG M A Φ gs r (s.setGen g .running)) (hq : ∀ e s₁, Φ e s₁ → e.quiet = true)
    (h : ∀ e s₁, Φ e s₁ → wpAny M A (k e.result) Q E (s₁.setGen g e.genState)) : wpAny M A (.resume g r l k) Q E s := by
  intro Γ p hΓ
  rw [Sem.wp_resume]
  have hB : ∀ c, (Γ.wake c p).Woken A := fun c => hΓ.wake c p
  cases gs with
  | fresh c =>
    obtain ⟨rfl, hs⟩ := hgo
    obtain ⟨e₁, s₁, hr, he⟩ := hs (Γ.wake c p) p rfl (hB c)
    exact ⟨_, _, by unfold Wakes; rw [hg]; exact ⟨e₁, s₁, hr, hq e₁ s₁ he, rfl, rfl⟩, h e₁ s₁ he Γ p hΓ⟩
  | suspended k₀ l₀ c₀ p₀ fs₀ cl =>
    obtain ⟨e₁, s₁, hr, he⟩ := hgo (Γ.wake c₀ p) p₀ rfl (hB c₀)
    exact ⟨_, _, by unfold Wakes; rw [hg]; exact ⟨e₁, s₁, hr, hq e₁ s₁ he, rfl, rfl⟩, h e₁ s₁ he Γ p hΓ⟩
  | running => exact hgo.elim
  | finished => exact hgo.elim
/-- next(g): it hands out a value, or it ends -/
theorem next_gk {P : Program} {w : World} {A : Around} {E : Value → Shared → Prop} {s : Shared} {a : Addr} {g : Nat} {gs : GenState} {Φ : PostG} {Q : Option Value → Shared → Prop} (hh : A.handled = none)
    (hl : s.heap.NoLimit) (hroom : A.depth < recursionLimit) (hg : s.heap.IsGen a g) (hgs : s.gens[g]? = some gs)
    (hgo : WkG (model P w) A.in1 Φ gs (.send .none) (s.setGen g .running)) (hq : ∀ e s₁, Φ e s₁ → e.quiet = true)
    (hY : ∀ v gd l k c p fs s₁, Φ (.susp v gd l k c p fs) s₁ → Q (some v) (s₁.setGen g (End.susp v gd l k c p fs).genState))
    (hP : ∀ r s₁, Φ (.ret r) s₁ → r = .ok (.ret .none) ∧ ∀ h', (∀ b o, s₁.heap.get? b = some o → h'.get? b = some o) → Q none { s₁.setGen g .finished with heap := h' }) :
    wpAny (model P w) A (pyNext (.ref a)) Q E s := by
  unfold pyNext
  refine wpAny_bind (wpAny_attempt (wpAny_callSpecial?_slot (name := Str.ofString "__next__") hg.typeIs slot_gen_next
    (wpAny_call_entry slot_gen_next hg.typeIs entry_gen_next ?_ (args_gen_next _))))
  show wpAny _ A.in1 (Builtin.Generator.genWake (.ref a) (.send .none)) _ _ s
  unfold Builtin.Generator.genWake
  refine wpAny_bind (wpAny_holding (wpAny_genNumber hg (wpAny_bind (wpAny_genState hgs ?_))))
  cases gs with
  | running => exact hgo.elim
  | finished => exact hgo.elim
  | _ =>
    refine wpAny_bind (wpAny_roomToWake hl hroom ?_)
    show wpAny _ A.in1 (.resume g (.send .none) [] _) _ _ s
    refine wpAny_resumeK hgs hgo hq fun e s₁ he => ?_
    cases e with
    | ret x =>
      obtain ⟨rfl, hp⟩ := hP x s₁ he
      have hres : End.result (.ret (.ok (.ret .none))) = .returned .none := rfl
      first | rw [hres] | simp only [hres]
      show wpAny _ A.in1 (newExc (.type "StopIteration") [] >>= _) _ _ _
      refine wpAny_bind ?_
      simp only [newExc, newTuple]
      refine wpAny_bind (wpAny_newObj_type ?_ (by size_fits))
      refine wpAny_bind (m := firstArgMember _ _) (wpAny_of_eq (a := Value.none) (by first | rfl | (simp only [firstArgMember]; rfl)) ?_)
      refine wpAny_newObj_type ?_ (by size_fits)
      simp only [raiseNew]
      refine wpAny_bind (wpAny_bind (wpAny_handled ?_))
      first | rw [show A.in1.handled = none from hh] | rw [hh]
      refine wpAny_throw ?_
      refine wpAny_bind (wpAny_isInstance (T := "StopIteration") (b := true) ⟨_, Heap.get?_push_size _ rfl, rfl⟩ isSubtype_stop ?_)
      exact wpAny_pure (hp _ fun b o hb => Heap.get?_push_of_some _ (Heap.get?_push_of_some _ hb))
    | susp v gd l k c p fs => exact wpAny_pure ⟨v, rfl, wpAny_pure (hY v gd l k c p fs s₁ he)⟩
end Sz
set_option autoImplicit false
namespace Sz
open PySem
open Sem (wp)
structure Dead (s s' : Shared) : Prop where
  sz : s.heap.objs.size ≤ s'.heap.objs.size
  no : ∀ b, b < s.heap.objs.size → s.heap.get? b = none → s'.heap.get? b = none
theorem Dead.refl (s : Shared) : Dead s s := ⟨Nat.le_refl _, fun _ _ h => h⟩
theorem Dead.trans {a b c : Shared} (h : Dead a b) (k : Dead b c) : Dead a c := ⟨Nat.le_trans h.sz k.sz, fun x l e => k.no x (Nat.lt_of_lt_of_le l h.sz) (h.no x l e)⟩
theorem Dead.same {s s' : Shared} (e : s'.heap = s.heap) : Dead s s' := ⟨by rw [e]; exact Nat.le_refl _, fun x _ h => by rw [e]; exact h⟩
theorem Dead.push {s : Shared} {o : Obj} {s' : Shared} (e : s'.heap = s.heap.push o) : Dead s s' := ⟨by rw [e, Heap.size_push]; exact Nat.le_succ _, fun x l h => by
  rw [e]
  have : (s.heap.push o).objs[x]? = s.heap.objs[x]? := by
    show (s.heap.objs.push o)[x]? = _
    rw [Array.getElem?_push, if_neg (Nat.ne_of_lt l)]
  unfold Heap.get? at h ⊢
  rw [this]
  exact h⟩
theorem Dead.upd {s : Shared} {a : Addr} {f : Obj → Obj} (ha : (s.heap.get? a).isSome = true) {s' : Shared} (e : s'.heap = s.heap.update a f) : Dead s s' := by
  have sz : (s.heap.update a f).objs.size = s.heap.objs.size := by
    first | exact Heap.size_update .. | (unfold Heap.update; simp)
  refine ⟨by rw [e, sz]; exact Nat.le_refl _, fun x l h => ?_⟩
  rw [e]
  have hne : x ≠ a := fun z => by subst z; rw [h] at ha; cases ha
  exact (Heap.get?_update_other _ _ (Ne.symm hne)).trans h
theorem Dead.set {s s' : Shared} {g : Nat} {x : GenState} (h : Dead (s.setGen g x) s') : Dead s s' := ⟨h.sz, h.no⟩
theorem Dead.set' {s s' : Shared} {g : Nat} {x : GenState} (h : Dead s s') : Dead s (s'.setGen g x) := ⟨h.sz, h.no⟩
theorem runs_dead {M : Model} {Γ : Ctx} {p : Pos} {t : Sem PySem.Fin} {fs : List Frame} {s s' : Shared} {e : End} (h : Runs M Γ p t fs s e s') : Dead s s' := by
  induction h
  all_goals first
    | exact .refl _
    | assumption
    | (rename_i ih; exact (Dead.upd (by assumption) rfl).trans ih)
    | (rename_i ih; exact (Dead.push rfl).trans ih)
    | (rename_i ih; exact ⟨ih.sz, ih.no⟩)
    | (rename_i ih; exact (Dead.same rfl).trans ih)
    | (rename_i ih1 ih2; exact ih1.trans ih2)
    | (rename_i ih1 ih2; exact ih1.set.trans ih2.set)
    | (rename_i ih1 ih2; exact Dead.trans ⟨ih1.sz, ih1.no⟩ ⟨ih2.sz, ih2.no⟩)
    | (rename_i ih1 ih2; exact Dead.trans ih1 ⟨ih2.sz, ih2.no⟩)
    | (rename_i _ ih1 ih2; exact ih1.set.trans ih2.set)
    | (rename_i ih; exact ih.set)
    | skip
theorem returns_dead {M : Model} {Γ : Ctx} {p : Pos} {s s' : Shared} {r : Result} (h : Returns M Γ p s r s') : Dead s s' := runs_dead h
theorem wakes_dead {M : Model} {Γ : Ctx} {p : Pos} {g : Nat} {r : Resume} {s s' : Shared} {res : GenResult} (h : Wakes M Γ p g r s res s') : Dead s s' := by
  unfold Wakes at h
  split at h
  · exact h.elim
  · split at h
    · obtain ⟨e₁, s₁, hr, _, _, rfl⟩ := h
      exact (runs_dead hr).set.set'
    · rw [h.2]; exact .refl _
    · rw [h.2]; exact (Dead.refl _).set'
  · obtain ⟨e₁, s₁, hr, _, _, rfl⟩ := h
    exact (runs_dead hr).set.set'
  · rw [h.2]; exact .refl _
  · rw [h.2]; exact .refl _
theorem wp_dead {α : Type} (M : Model) (Γ : Ctx) (s0 : Shared) (t : Sem α) : ∀ (Q : α → Pos → Shared → Prop) (E : Value → Pos → Shared → Prop) (p : Pos) (s : Shared), Dead s0 s → wp M Γ t Q E p s →
    wp M Γ t (fun a p' s' => Dead s0 s' ∧ Q a p' s') (fun e p' s' => Dead s0 s' ∧ E e p' s') p s := by
  induction t with
  | pure a => intro Q E p s hn h; exact ⟨hn, h⟩
  | raise e => intro Q E p s hn h; exact ⟨hn, h⟩
  | unsupported _ => intro Q E p s _ h; exact h
  | finish _ => intro Q E p s _ h; exact h
  | rule _ k ih => intro Q E p s hn h; exact ih () Q E p s hn h
  | «at» p' k ih => intro Q E p s hn h; exact ih () Q E p' s hn h
  | load a _ k ih => intro Q E p s hn h; obtain ⟨o, ho, h⟩ := h; exact ⟨o, ho, ih o Q E p s hn h⟩
  | update a _ f k ih => intro Q E p s hn h; exact ⟨h.1, ih () Q E p _ (hn.trans (Dead.upd h.1 rfl)) h.2⟩
  | loadIfAlive a k ih => intro Q E p s hn h; exact ih _ Q E p s hn h
  | point _ k ih => intro Q E p s hn h; exact ih () Q E p s hn h
  | register _ _ => intro Q E p s _ h; exact h
  | alloc o k ih => intro Q E p s hn h; exact ih _ Q E p _ (hn.trans (Dead.push rfl)) h
  | fresh k ih => intro Q E p s hn h; exact ih _ Q E p _ ⟨hn.sz, hn.no⟩ h
  | ask k ih => intro Q E p s hn h; exact ih _ Q E p s hn h
  | choose src m k ih => intro Q E p s hn h; exact ⟨h.1, ih _ Q E p _ ⟨hn.sz, hn.no⟩ h.2⟩
  | os q _ k ih => intro Q E p s hn h; exact ih _ Q E p _ ⟨hn.sz, hn.no⟩ h
  | call c hd _ _ k ih => intro Q E p s hn h; obtain ⟨r, s', hr, h⟩ := h; exact ⟨r, s', hr, ih r Q E p s' (hn.trans (returns_dead hr)) h⟩
  | handled own k ih => intro Q E p s hn h; exact ih _ Q E p s hn h
  | genState g k ih => intro Q E p s hn h; obtain ⟨st, hs, h⟩ := h; exact ⟨st, hs, ih _ Q E p s hn h⟩
  | newGen c k ih => intro Q E p s hn h; exact ih _ Q E p _ ⟨hn.sz, hn.no⟩ h
  | resume g r _ k ih => intro Q E p s hn h; obtain ⟨res, s', hw, h⟩ := h; exact ⟨res, s', hw, ih res Q E p s' (hn.trans (wakes_dead hw)) h⟩
  | yield _ _ _ _ => intro Q E p s _ h; exact h
  | stack k ih => intro Q E p s hn h; exact ih _ Q E p s hn h
  | fork _ _ => intro Q E p s _ h; exact h
  | thread k ih => intro Q E p s hn h; exact ih _ Q E p s hn h
  | await _ _ _ _ _ => intro Q E p s _ h; exact h
theorem wpAny_dead {α : Type} {M : Model} {A : Around} {s : Shared} {t : Sem α} {Q : α → Shared → Prop} {E : Value → Shared → Prop}
    (h : wpAny M A t (fun a s' => Dead s s' → Q a s') (fun e s' => Dead s s' → E e s') s) : wpAny M A t Q E s :=
  wpAny_mono (fun Γ p hΓ => wp_dead M Γ s t _ _ p s (.refl s) (h Γ p hΓ) : wpAny M A t (fun a s' => Dead s s' ∧ (Dead s s' → Q a s')) (fun e s' => Dead s s' ∧ (Dead s s' → E e s')) s)
    (fun _ _ x => x.2 x.1) fun _ _ x => x.2 x.1
end Sz
namespace Sv
open PySem PySem.Spec PyProof.Rows L2
/-- a value: tuples and lists that are only read by what they hold; what can change by its address -/
inductive D where
  | non | bl (b : Bool) | int (i : Int) | str (x : Str) | tup (ds : List D) | rol (ds : List D) | ref (a : Addr) | ty (n : String) | dct (kvs : List (Key × D))
  /-- a tuple whose methods are not called -/
  | wtup (ds : List D)
/-- what stands in the store -/
inductive Ob where
  | lst (ds : List D)
  | dK (kvs : List (Key × D))
  /-- an instance of an own class: the class's name, what it holds -/
  | ins (n : Str) (fs : List (Str × D))
  /-- a set of tuples of ints; a set of ints -/
  | tset (L : List (List Int)) | iset (ns : List Int)
abbrev Sto := Addr → Option Ob
def Sto.put (S : Sto) (a : Addr) (o : Ob) : Sto := fun b => if b = a then some o else S b
theorem Sto.same {S : Sto} {a : Addr} {o : Ob} : S.put a o a = some o := if_pos rfl
theorem Sto.ne {S : Sto} {a b : Addr} {o : Ob} (h : b ≠ a) : S.put a o b = S b := if_neg h
/-- the program, the world, the written part -/
structure KK where
  P : Program
  w : World
  k : PySem.W.Frag
abbrev _root_.L2.Cx.kk (X : Cx) : KK := ⟨X.prog, X.w, X.K⟩
/-- a list that is only read -/
def Rol (K : KK) (H : Hp) (a : Addr) (vs : List V) : Prop := (∃ o, H a = some (.frz o (.lst vs))) ∨
    ∃ (o : Obj) (its : Array Value) (n : Nat), K.k.lookup a = some o ∧ o.cls = .type "list" ∧ o.dict = none ∧ o.data = .seq its n ∧ its.size ≤ sizeLine ∧ Vals vs its.toList
theorem Rol.sqL {K : KK} {H : Hp} {a : Addr} {vs : List V} (h : Rol K H a vs) : SqL K.k H a vs := by
  rcases h with ⟨o, h⟩ | h
  · exact .inl (.inr ⟨o, h⟩)
  · exact .inr h
/-- what is locked stays -/
def Ext (H H' : Hp) : Prop := (∀ a o u, H a = some (.frz o u) → H' a = some (.frz o u)) ∧ ∀ a xs, H a = some (.tup xs) → H' a = some (.tup xs)
theorem Ext.refl (H : Hp) : Ext H H := ⟨fun _ _ _ h => h, fun _ _ h => h⟩
theorem Ext.trans {H H1 H2 : Hp} (x : Ext H H1) (y : Ext H1 H2) : Ext H H2 := ⟨fun a o u h => y.1 a o u (x.1 a o u h), fun a xs h => y.2 a xs (x.2 a xs h)⟩
theorem Ext.of {H H' : Hp} (h : Same H H') : Ext H H' := ⟨fun a o u e => h _ _ e, fun a xs e => h _ _ e⟩
theorem Ext.new {H : Hp} {p : Addr} {o : HO} (h : H p = none) : Ext H (upd H p o) := .of (Same.new h)
theorem Ext.put {H : Hp} {p : Addr} {o u : HO} (h : H p = some u) (m : Mut (some u)) : Ext H (upd H p o) := by
  refine ⟨fun a ob v e => ?_, fun a xs e => ?_⟩ <;>
  · rw [upd_ne]
    · exact e
    · rintro rfl
      rw [h] at e
      cases e
      exact m
theorem Rol.ext {K : KK} {H H' : Hp} {a : Addr} {vs : List V} (h : Rol K H a vs) (e : Ext H H') : Rol K H' a vs := by
  rcases h with ⟨o, h⟩ | h
  · exact .inl ⟨o, e.1 _ _ _ h⟩
  · exact .inr h
theorem TupN.ext {H H' : Hp} {a : Addr} {xs : List V} (h : TupN H a xs) (e : Ext H H') : TupN H' a xs := by
  obtain ⟨o, h, d⟩ := h
  exact ⟨o, e.1 _ _ _ h, d⟩
mutual
inductive RD (K : KK) (H : Hp) : D → V → Prop
  | non : RD K H .non .non
  | bl (b : Bool) : RD K H (.bl b) (.bl b)
  | int (i : Int) : RD K H (.int i) (.int i)
  | str (x : Str) : RD K H (.str x) (.str x)
  | ref (a : Addr) : RD K H (.ref a) (.ref a)
  | ty (n : String) : RD K H (.ty n) (.ty n)
  | tup {a : Addr} {ds : List D} {vs : List V} : TupN H a vs → RDs K H ds vs → RD K H (.tup ds) (.ref a)
  | rol {a : Addr} {ds : List D} {vs : List V} : Rol K H a vs → RDs K H ds vs → RD K H (.rol ds) (.ref a)
  | dct {a : Addr} {o : Obj} {kvs : List (Key × D)} {vs : List (Key × V)} : H a = some (.frz o (.dK vs)) → RDk K H kvs vs → RD K H (.dct kvs) (.ref a)
  | wtup {a : Addr} {ds : List D} {vs : List V} : H a = some (.tup vs) → RDs K H ds vs → RD K H (.wtup ds) (.ref a)
inductive RDs (K : KK) (H : Hp) : List D → List V → Prop
  | nil : RDs K H [] []
  | cons {d : D} {ds : List D} {v : V} {vs : List V} : RD K H d v → RDs K H ds vs → RDs K H (d :: ds) (v :: vs)
inductive RDk (K : KK) (H : Hp) : List (Key × D) → List (Key × V) → Prop
  | nil : RDk K H [] []
  | cons {k : Key} {d : D} {ds : List (Key × D)} {v : V} {vs : List (Key × V)} : RD K H d v → RDk K H ds vs → RDk K H ((k, d) :: ds) ((k, v) :: vs)
end
section
variable {K : KK} {H H' : Hp}
mutual
theorem RD.ext (e : Ext H H') : ∀ {d : D} {v : V}, RD K H d v → RD K H' d v
  | _, _, .non => .non
  | _, _, .bl b => .bl b
  | _, _, .int i => .int i
  | _, _, .str x => .str x
  | _, _, .ref a => .ref a
  | _, _, .ty n => .ty n
  | _, _, .tup h r => .tup (h.ext e) (RDs.ext e r)
  | _, _, .rol h r => .rol (h.ext e) (RDs.ext e r)
  | _, _, .dct h r => .dct (e.1 _ _ _ h) (RDk.ext e r)
  | _, _, .wtup h r => .wtup (e.2 _ _ h) (RDs.ext e r)
theorem RDs.ext (e : Ext H H') : ∀ {ds : List D} {vs : List V}, RDs K H ds vs → RDs K H' ds vs
  | _, _, .nil => .nil
  | _, _, .cons h r => .cons (RD.ext e h) (RDs.ext e r)
theorem RDk.ext (e : Ext H H') : ∀ {ds : List (Key × D)} {vs : List (Key × V)}, RDk K H ds vs → RDk K H' ds vs
  | _, _, .nil => .nil
  | _, _, .cons h r => .cons (RD.ext e h) (RDk.ext e r)
end
theorem RDk.length : ∀ {ds : List (Key × D)} {vs : List (Key × V)}, RDk K H ds vs → ds.length = vs.length
  | _, _, .nil => rfl
  | _, _, .cons _ r => by rw [List.length_cons, List.length_cons, RDk.length r]
theorem RDk.atv : ∀ {ds : List (Key × D)} {vs : List (Key × V)} {i : Nat} {k : Key} {v : V}, RDk K H ds vs → vs[i]? = some (k, v) → ∃ d, ds[i]? = some (k, d) ∧ RD K H d v
  | _, _, _, _, _, .nil, h => by simp at h
  | _, _, 0, _, _, .cons r _, h => by simp at h; obtain ⟨rfl, rfl⟩ := h; exact ⟨_, rfl, r⟩
  | _, _, i + 1, _, _, .cons _ t, h => RDk.atv (i := i) t (by simpa using h)
theorem RDs.length : ∀ {ds : List D} {vs : List V}, RDs K H ds vs → ds.length = vs.length
  | _, _, .nil => rfl
  | _, _, .cons _ r => by rw [List.length_cons, List.length_cons, RDs.length r]
theorem RDs.at : ∀ {ds : List D} {vs : List V} {i : Nat} {d : D}, RDs K H ds vs → ds[i]? = some d → ∃ v, vs[i]? = some v ∧ RD K H d v
  | _, _, _, _, .nil, h => by simp at h
  | _, _, 0, _, .cons r _, h => by simp at h; subst h; exact ⟨_, rfl, r⟩
  | _, _, i + 1, _, .cons _ t, h => RDs.at (i := i) t (by simpa using h)
theorem RDs.atv : ∀ {ds : List D} {vs : List V} {i : Nat} {v : V}, RDs K H ds vs → vs[i]? = some v → ∃ d, ds[i]? = some d ∧ RD K H d v
  | _, _, _, _, .nil, h => by simp at h
  | _, _, 0, _, .cons r _, h => by simp at h; subst h; exact ⟨_, rfl, r⟩
  | _, _, i + 1, _, .cons _ t, h => RDs.atv (i := i) t (by simpa using h)
theorem RDs.append : ∀ {ds : List D} {vs : List V} {es : List D} {ws : List V}, RDs K H ds vs → RDs K H es ws → RDs K H (ds ++ es) (vs ++ ws)
  | _, _, _, _, .nil, s => s
  | _, _, _, _, .cons r t, s => .cons r (RDs.append t s)
theorem RDs.take : ∀ {ds : List D} {vs : List V} (n : Nat), RDs K H ds vs → RDs K H (ds.take n) (vs.take n)
  | _, _, 0, _ => .nil
  | _, _, _ + 1, .nil => .nil
  | _, _, n + 1, .cons r t => .cons r (RDs.take n t)
theorem RDs.drop : ∀ {ds : List D} {vs : List V} (n : Nat), RDs K H ds vs → RDs K H (ds.drop n) (vs.drop n)
  | _, _, 0, r => r
  | _, _, _ + 1, .nil => .nil
  | _, _, n + 1, .cons _ t => RDs.drop n t
theorem RDs.set {d : D} {v : V} (h : RD K H d v) : ∀ {ds : List D} {vs : List V} (n : Nat), RDs K H ds vs → RDs K H (ds.set n d) (vs.set n v)
  | _, _, _, .nil => .nil
  | _, _, 0, .cons _ t => .cons h t
  | _, _, n + 1, .cons r t => .cons r (RDs.set h n t)
theorem RDs.eraseIdx : ∀ {ds : List D} {vs : List V} (n : Nat), RDs K H ds vs → RDs K H (ds.eraseIdx n) (vs.eraseIdx n)
  | _, _, _, .nil => .nil
  | _, _, 0, .cons _ t => t
  | _, _, n + 1, .cons r t => .cons r (RDs.eraseIdx n t)
theorem RDs.ints : ∀ ns : List Int, RDs K H (ns.map D.int) (ns.map V.int)
  | [] => .nil
  | n :: r => .cons (.int n) (RDs.ints r)
theorem RDs.ints_inv : ∀ {ns : List Int} {vs : List V}, RDs K H (ns.map D.int) vs → vs = ns.map V.int
  | [], _, .nil => rfl
  | n :: r, _, .cons (.int _) t => by rw [RDs.ints_inv t]; rfl
theorem RDs.inv1 {d : D} {vs : List V} (h : RDs K H [d] vs) : ∃ v, vs = [v] ∧ RD K H d v := by
  cases h with
  | cons r t => cases t; exact ⟨_, rfl, r⟩
theorem RDs.inv2 {d e : D} {vs : List V} (h : RDs K H [d, e] vs) : ∃ v u, vs = [v, u] ∧ RD K H d v ∧ RD K H e u := by
  cases h with
  | cons r t =>
    obtain ⟨u, rfl, q⟩ := t.inv1
    exact ⟨_, _, rfl, r, q⟩
end
/-- the class of that name -/
def ClsAt (K : PySem.W.Frag) (n : Str) (C : Addr) : Prop := PySem.W.nsIn K mainGlobals n = some (some (.ref C))
theorem ClsAt.eq {K : PySem.W.Frag} {n : Str} {C D : Addr} (h : ClsAt K n C) (g : ClsAt K n D) : C = D := by
  have e := (show PySem.W.nsIn K mainGlobals n = some (some (.ref C)) from h).symm.trans g
  cases e
  rfl
/-- what an instance holds -/
def RDf (K : KK) (H : Hp) : List (Str × D) → List (Str × V) → Prop
  | [], [] => True
  | (x, d) :: r, (y, v) :: q => x = y ∧ RD K H d v ∧ RDf K H r q
  | _, _ => False
theorem RDf.ext {K : KK} {H H' : Hp} (e : Ext H H') : ∀ {fs : List (Str × D)} {gs : List (Str × V)}, RDf K H fs gs → RDf K H' fs gs
  | [], [], _ => trivial
  | _ :: _, _ :: _, ⟨h, r, q⟩ => ⟨h, r.ext e, RDf.ext e q⟩
  | [], _ :: _, h => h.elim
  | _ :: _, [], h => h.elim
theorem RDf.length {K : KK} {H : Hp} : ∀ {fs : List (Str × D)} {gs : List (Str × V)}, RDf K H fs gs → fs.length = gs.length
  | [], [], _ => rfl
  | _ :: _, _ :: _, ⟨_, _, q⟩ => by rw [List.length_cons, List.length_cons, RDf.length q]
  | [], _ :: _, h => h.elim
  | _ :: _, [], h => h.elim
theorem RDf.look {K : KK} {H : Hp} {f : Str} : ∀ {fs : List (Str × D)} {gs : List (Str × V)} {d : D}, RDf K H fs gs → fs.lookup f = some d → ∃ v, gs.lookup f = some v ∧ RD K H d v
  | [], [], _, _, h => by cases h
  | (x, d) :: r, (y, v) :: q, e, ⟨h, r1, q1⟩, hl => by
    subst h
    rw [List.lookup_cons] at hl ⊢
    cases z : f == x with
    | true => rw [z] at hl; cases hl; exact ⟨_, rfl, r1⟩
    | false => rw [z] at hl; exact RDf.look q1 hl
  | [], _ :: _, _, h, _ => h.elim
  | _ :: _, [], _, h, _ => h.elim
theorem RDf.none {K : KK} {H : Hp} {f : Str} : ∀ {fs : List (Str × D)} {gs : List (Str × V)}, RDf K H fs gs → fs.lookup f = Option.none → gs.lookup f = Option.none
  | [], [], _, _ => rfl
  | (x, d) :: r, (y, v) :: q, ⟨h, r1, q1⟩, hl => by
    subst h
    rw [List.lookup_cons] at hl ⊢
    cases z : f == x with
    | true => rw [z] at hl; cases hl
    | false => rw [z] at hl; exact RDf.none q1 hl
  | [], _ :: _, h, _ => h.elim
  | _ :: _, [], h, _ => h.elim
def putFD (f : Str) (v : D) : List (Str × D) → List (Str × D)
  | [] => [(f, v)]
  | (g, x) :: r => if g = f then (g, v) :: r else (g, x) :: putFD f v r
theorem RDf.put {K : KK} {H : Hp} {f : Str} {d : D} {v : V} (h : RD K H d v) : ∀ {fs : List (Str × D)} {gs : List (Str × V)}, RDf K H fs gs → RDf K H (putFD f d fs) (putF f v gs)
  | [], [], _ => ⟨rfl, h, trivial⟩
  | (x, e) :: r, (y, w) :: q, ⟨z, r1, q1⟩ => by
    subst z
    unfold putFD putF
    by_cases z : x = f
    · rw [if_pos z, if_pos z]; exact ⟨rfl, h, q1⟩
    · rw [if_neg z, if_neg z]; exact ⟨rfl, r1, RDf.put h q1⟩
  | [], _ :: _, h => h.elim
  | _ :: _, [], h => h.elim
def RO (K : KK) (H : Hp) (a : Addr) : Ob → Prop
  | .lst ds => ∃ vs, H a = some (.lst vs) ∧ RDs K H ds vs
  | .dK kvs => ∃ vs, H a = some (.dK vs) ∧ RDk K H kvs vs
  | .ins n fs => ∃ C dx gs, ClsAt K.k n C ∧ H a = some (.ins C dx gs) ∧ RDf K H fs gs
  | .tset L => ∃ M : List (Addr × List Int), H a = some (SetTO K.P K.w a M) ∧ (∀ p ∈ M, TupN H p.1 (p.2.map V.int)) ∧ L = M.map (·.2)
  | .iset ns => ∃ S : Key → Bool, H a = some (SetK K.P K.w a S ns.length) ∧ ∀ i, S (Sum.inl i) = true ↔ i ∈ ns
def RelS (K : KK) (S : Sto) (H : Hp) : Prop := ∀ a o, S a = some o → RO K H a o
section
variable {K : KK} {H H' : Hp} {S : Sto} {a p : Addr} {o : Ob} {u w : HO}
theorem RO.ext {o : Ob} (h : RO K H a o) (e : Ext H H') (ha : H' a = H a) : RO K H' a o := by
  cases o with
  | lst ds => obtain ⟨vs, q, r⟩ := h; exact ⟨vs, ha.trans q, r.ext e⟩
  | dK kvs => obtain ⟨vs, q, r⟩ := h; exact ⟨vs, ha.trans q, r.ext e⟩
  | ins n fs => obtain ⟨C, dx, gs, c, q, r⟩ := h; exact ⟨C, dx, gs, c, ha.trans q, r.ext e⟩
  | tset L => obtain ⟨M, q, r, z⟩ := h; exact ⟨M, ha.trans q, fun p hp => (r p hp).ext e, z⟩
  | iset ns => obtain ⟨S, q, r⟩ := h; exact ⟨S, ha.trans q, r⟩
theorem RO.mut (h : RO K H a o) : ∃ u, H a = some u ∧ Mut (some u) := by
  cases o with
  | lst ds => obtain ⟨vs, q, r⟩ := h; exact ⟨_, q, trivial⟩
  | dK kvs => obtain ⟨vs, q, r⟩ := h; exact ⟨_, q, trivial⟩
  | ins n fs => obtain ⟨C, dx, gs, c, q, _⟩ := h; exact ⟨_, q, trivial⟩
  | tset L => obtain ⟨M, q, _⟩ := h; exact ⟨_, q, trivial⟩
  | iset ns => obtain ⟨S, q, _⟩ := h; exact ⟨_, q, trivial⟩
theorem RelS.fresh (h : RelS K S H) (n : H p = none) : S p = none := by
  cases e : S p with
  | none => rfl
  | some o =>
    obtain ⟨u, q, _⟩ := (h p o e).mut
    rw [n] at q
    cases q
/-- something new that is not of the store -/
theorem RelS.new (h : RelS K S H) (n : H p = none) : RelS K S (upd H p u) := fun a o e => (h a o e).ext (.new n) (upd_ne fun z => by
  subst z
  rw [h.fresh n] at e
  cases e)
/-- something new of the store -/
theorem RelS.lay (h : RelS K S H) (n : H p = none) (r : RO K (upd H p u) p o) : RelS K (S.put p o) (upd H p u) := fun a o' e => by
  by_cases z : a = p
  · subst z
    rw [Sto.same] at e
    cases e
    exact r
  · rw [Sto.ne z] at e
    exact h.new n a o' e
/-- something of the store written -/
theorem RelS.put (h : RelS K S H) (n : H p = some w) (m : Mut (some w)) (r : RO K (upd H p u) p o) : RelS K (S.put p o) (upd H p u) := fun a o' e => by
  by_cases z : a = p
  · subst z
    rw [Sto.same] at e
    cases e
    exact r
  · rw [Sto.ne z] at e
    exact (h a o' e).ext (.put n m) (upd_ne z)
theorem RelS.lst (h : RelS K S H) {ds : List D} (e : S a = some (.lst ds)) : ∃ vs, H a = some (.lst vs) ∧ RDs K H ds vs := h a _ e
end
abbrev Env := List (Option D)
abbrev DK := D → Sto → Prop
abbrev DTE := Env → Sto → DK → Prop
abbrev DTT := Env → Sto → (Bool → Sto → Prop) → Prop
abbrev DTA := Env → Sto → (List D → Sto → Prop) → Prop
structure DEnds where
  nx : Env → Sto → Prop
  rt : DK
  bk : Env → Sto → Prop := fun _ _ => False
  ct : Env → Sto → Prop := fun _ _ => False
abbrev DTS := DEnds → Env → Sto → Prop
structure RS (K : KK) (σ : L2.St) (H : Hp) (env : Env) (S : Sto) : Prop where
  len : env.length = σ.length
  slot : ∀ (i : Nat) (d : D), env[i]? = some (some d) → ∃ v, σ[i]? = some (some v) ∧ RD K H d v
  sto : RelS K S H
theorem RS.ext {K : KK} {σ : L2.St} {H H' : Hp} {env : Env} {S S' : Sto} (r : RS K σ H env S) (e : Ext H H') (s : RelS K S' H') : RS K σ H' env S' :=
  ⟨r.len, fun i d h => let ⟨v, q, x⟩ := r.slot i d h; ⟨v, q, x.ext e⟩, s⟩
theorem RS.set {K : KK} {σ : L2.St} {H : Hp} {env : Env} {S : Sto} {d : D} {v : V} (r : RS K σ H env S) (i : Nat) (h : RD K H d v) : RS K (σ.set i (some v)) H (env.set i (some d)) S := by
  refine ⟨by rw [List.length_set, List.length_set]; exact r.len, fun j d' e => ?_, r.sto⟩
  by_cases z : i = j
  · subst z
    by_cases hl : i < env.length
    · rw [List.getElem?_set_self hl] at e
      cases e
      exact ⟨v, List.getElem?_set_self (r.len ▸ hl), h⟩
    · rw [List.getElem?_eq_none (by rw [List.length_set]; omega)] at e
      cases e
  · rw [List.getElem?_set_ne z] at e ⊢
    exact r.slot j d' e
section
variable (K : KK)
def lE (t : DTE) : TE := fun σ H Q => ∃ env S R, RS K σ H env S ∧ t env S R ∧ ∀ d S' v H', R d S' → RelS K S' H' → RD K H' d v → Ext H H' → Q v H'
def lT (t : DTT) : TT := fun σ H Q => ∃ env S R, RS K σ H env S ∧ t env S R ∧ ∀ b S' H', R b S' → RelS K S' H' → Ext H H' → Q b H'
def lA (t : DTA) : TA := fun σ H Q => ∃ env S R, RS K σ H env S ∧ t env S R ∧ ∀ ds S' vs H', R ds S' → RelS K S' H' → RDs K H' ds vs → Ext H H' → Q vs H'
def lS (t : DTS) : TS := fun B σ H => ∃ env S C, RS K σ H env S ∧ t C env S ∧
  (∀ env' S' σ' H', C.nx env' S' → RS K σ' H' env' S' → Ext H H' → B.nx σ' H') ∧ (∀ d S' v H', C.rt d S' → RelS K S' H' → RD K H' d v → Ext H H' → B.rt v H') ∧
  (∀ env' S' σ' H', C.bk env' S' → RS K σ' H' env' S' → Ext H H' → B.bk σ' H') ∧ (∀ env' S' σ' H', C.ct env' S' → RS K σ' H' env' S' → Ext H H' → B.ct σ' H')
end
structure DE (X : Cx) (e : Expr) (t : DTE) : Prop where
  run : PE X e (lE X.kk t)
structure DT (X : Cx) (e : Expr) (t : DTT) : Prop where
  run : PT X e (lT X.kk t)
structure DW (X : Cx) (e : Expr) (t : DTT) : Prop where
  run : PW X e (lT X.kk t)
structure DA (X : Cx) (es : List Expr) (t : DTA) : Prop where
  run : PA X es (lA X.kk t)
structure DS (X : Cx) (st : Stmt) (t : DTS) : Prop where
  run : PS X st (lS X.kk t)
structure DSs (X : Cx) (sts : List Stmt) (t : DTS) : Prop where
  run : PSs X sts (lS X.kk t)
section
variable {X : Cx}
theorem _root_.L2.PE.of {e : Expr} {t t' : TE} (h : PE X e t) (q : ∀ σ H Q, t' σ H Q → t σ H Q) : PE X e t' := ⟨fun pins s σ H Q I w => h.run pins s σ H Q I (q σ H Q w)⟩
theorem _root_.L2.PT.of {e : Expr} {t t' : TT} (h : PT X e t) (q : ∀ σ H Q, t' σ H Q → t σ H Q) : PT X e t' := ⟨fun pins s σ H Q I w => h.run pins s σ H Q I (q σ H Q w)⟩
theorem _root_.L2.PW.of {e : Expr} {t t' : TT} (h : PW X e t) (q : ∀ σ H Q, t' σ H Q → t σ H Q) : PW X e t' := ⟨fun wh pins s σ H Q I w => h.run wh pins s σ H Q I (q σ H Q w)⟩
theorem _root_.L2.PA.of {e : List Expr} {t t' : TA} (h : PA X e t) (q : ∀ σ H Q, t' σ H Q → t σ H Q) : PA X e t' := ⟨fun pos pins s σ H Q I w => h.run pos pins s σ H Q I (q σ H Q w)⟩
theorem _root_.L2.PS.of {e : Stmt} {t t' : TS} (h : PS X e t) (q : ∀ σ H Q, t' Q σ H → t Q σ H) : PS X e t' := ⟨fun pins s σ H Q I w => h.run pins s σ H Q I (q σ H Q w)⟩
theorem _root_.L2.PSs.of {e : List Stmt} {t t' : TS} (h : PSs X e t) (q : ∀ σ H Q, t' Q σ H → t Q σ H) : PSs X e t' := ⟨fun pins s σ H Q I w => h.run pins s σ H Q I (q σ H Q w)⟩
def dVar (i : Nat) : DTE := fun env S R => ∃ d, env[i]? = some (some d) ∧ R d S
def dC (d : D) : DTE := fun _ S R => R d S
theorem de_var {i : Nat} {x : Str} {pos : Pos} (hN : X.N[i]? = some x) (hv : Vis X.env.scope x) (hd : (x == ("__debug__" : Str)) = false := by decide) (hcd : (x == ("__classdict__" : Str)) = false := by decide) : DE X (.Name x pos) (dVar i) :=
  ⟨(pe_var hN hv hd hcd).of fun σ H Q ⟨env, S, R, rs, ⟨d, h, q⟩, k⟩ => let ⟨v, e, r⟩ := rs.slot i d h; ⟨v, e, k _ _ _ _ q rs.sto r (.refl H)⟩⟩
theorem de_int {i j pos} : DE X (.Constant (.int i) j pos) (dC (.int i)) := ⟨pe_int.of fun σ H Q ⟨env, S, R, rs, q, k⟩ => k _ _ _ _ q rs.sto (.int i) (.refl H)⟩
theorem de_bl {b j pos} : DE X (.Constant (.bool b) j pos) (dC (.bl b)) := ⟨pe_bl.of fun σ H Q ⟨env, S, R, rs, q, k⟩ => k _ _ _ _ q rs.sto (.bl b) (.refl H)⟩
theorem de_non {j pos} : DE X (.Constant .none j pos) (dC .non) := ⟨pe_non.of fun σ H Q ⟨env, S, R, rs, q, k⟩ => k _ _ _ _ q rs.sto .non (.refl H)⟩
theorem de_str {x j pos} : DE X (.Constant (.str x) j pos) (dC (.str x)) := ⟨pe_str.of fun σ H Q ⟨env, S, R, rs, q, k⟩ => k _ _ _ _ q rs.sto (.str x) (.refl H)⟩
/-- a module's number -/
theorem de_num {x : Str} {i : Int} {t : Tok} {pos : Pos} (hg : Gl X x) (hm : X.mg x = some (.int i t)) (hd : (x == ("__debug__" : Str)) = false := by decide) : DE X (.Name x pos) (dC (.int i)) :=
  ⟨(pe_glob (v := .int i) hg hm ⟨t, rfl⟩ hd).of fun σ H Q ⟨env, S, R, rs, q, k⟩ => k _ _ _ _ q rs.sto (.int i) (.refl H)⟩
abbrev DR2 := D → D → Sto → DK → Prop
def l2 (K : KK) (r : DR2) : R2 := fun x y H Q => ∃ d e S R, RD K H d x ∧ RD K H e y ∧ RelS K S H ∧ r d e S R ∧ ∀ z S' v H', R z S' → RelS K S' H' → RD K H' z v → Ext H H' → Q v H'
def dBin (r : DR2) (ta tb : DTE) : DTE := fun env S R => ta env S fun x S1 => tb env S1 fun y S2 => r x y S2 R
theorem l2_bin {K : KK} {r : DR2} {ta tb : DTE} {σ : L2.St} {H : Hp} {Q : VK} (h : lE K (dBin r ta tb) σ H Q) : tOp (l2 K r) (lE K ta) (lE K tb) σ H Q := by
  obtain ⟨env, S, R, rs, h, k⟩ := h
  refine ⟨env, S, _, rs, h, fun d S1 v H1 q1 s1 r1 e1 => ⟨env, S1, _, rs.ext e1 s1, q1, fun e S2 u H2 q2 s2 r2 e2 => ⟨d, e, S2, R, r1.ext e2, r2, s2, q2, fun z S3 w H3 q3 s3 r3 e3 => k _ _ _ _ q3 s3 r3 (e1.trans (e2.trans e3))⟩⟩⟩
variable {a b : Expr} {ta tb tc : DTE} {pos : Pos}
theorem de_bin {op : Operator} {r : DR2} (ho : OpR X (binaryOp op) (l2 X.kk r)) (ha : DE X a ta) (hb : DE X b tb) : DE X (.BinOp a op b pos) (dBin r ta tb) := ⟨(pe_op ho ha.run hb.run).of fun _ _ _ => l2_bin⟩
theorem de_cmp {op : CmpOp} {r : DR2} (ho : OpR X (compareOp op) (l2 X.kk r)) (ha : DE X a ta) (hb : DE X b tb) (hm : behindInMarks op b = false := by first | rfl | exact nomark _) : DE X (.Compare a [op] [b] pos) (dBin r ta tb) := ⟨(pe_cmpR ho ha.run hb.run hm).of fun _ _ _ => l2_bin⟩
def dB (t : DTE) : DTT := fun env S R => t env S fun x S1 => ∃ c, x = .bl c ∧ R c S1
theorem lT_b {K : KK} {t : DTE} {σ : L2.St} {H : Hp} {Q : Bool → Hp → Prop} (h : lT K (dB t) σ H Q) : tB (lE K t) σ H Q := by
  obtain ⟨env, S, R, rs, h, k⟩ := h
  refine ⟨env, S, _, rs, h, fun d S1 v H1 ⟨c, q, q1⟩ s1 r1 e1 => ?_⟩
  subst q
  cases r1
  exact ⟨c, rfl, k _ _ _ q1 s1 e1⟩
theorem dt_cmp {op : CmpOp} {r : DR2} (ho : OpR X (compareOp op) (l2 X.kk r)) (ha : DE X a ta) (hb : DE X b tb) (hm : behindInMarks op b = false := by first | rfl | exact nomark _) : DT X (.Compare a [op] [b] pos) (dB (dBin r ta tb)) := by
  refine ⟨(pt_cmpR ho ha.run hb.run hm).of fun σ H Q h => ?_⟩
  obtain ⟨env, S, R, rs, h, k⟩ := lT_b h
  exact l2_bin ⟨env, S, R, rs, h, k⟩
/-- an expression whose value is a bool, as a test -/
theorem dt_val {e : Expr} {t : DTE} (h : DE X e t) (he : ∀ whole, isTrue e X.env whole = (do let v ← whole; standAt e.pos; holding [v] (truthy v)) := by intro _; rfl) : DT X e (dB t) := ⟨(pt_val h.run he).of fun _ _ _ => lT_b⟩
end
end Sv
namespace Sv
open PySem PySem.Spec PyProof.Rows L2
section
variable {X : Cx} {a b c e : Expr} {es rest : List Expr} {ta tb te : DTE} {t u : DTT} {tl : DTA} {pos : Pos}
def dAnd (t u : DTT) : DTT := fun env S R => t env S fun c S1 => if c = true then u env S1 R else R false S1
def dOr (t u : DTT) : DTT := fun env S R => t env S fun c S1 => if c = true then R true S1 else u env S1 R
def dNot (t : DTT) : DTT := fun env S R => t env S fun c S1 => R (!c) S1
theorem dw_and1 (h : DT X a t) : DW X (.BoolOp .And [a] pos) t := ⟨pw_and1 h.run⟩
theorem dw_or1 (h : DT X a t) : DW X (.BoolOp .Or [a] pos) t := ⟨pw_or1 h.run⟩
theorem dw_and (ha : DT X a t) (hb : DW X (.BoolOp .And (b :: rest) pos) u) : DW X (.BoolOp .And (a :: b :: rest) pos) (dAnd t u) := by
  refine ⟨(pw_and ha.run hb.run).of fun σ H Q ⟨env, S, R, rs, h, k⟩ => ⟨env, S, _, rs, h, fun c S1 H1 q s1 e1 => ?_⟩⟩
  cases c with
  | true => exact ⟨env, S1, R, rs.ext e1 s1, q, fun c S2 H2 q s2 e2 => k _ _ _ q s2 (e1.trans e2)⟩
  | false => exact k _ _ _ q s1 e1
theorem dw_or (ha : DT X a t) (hb : DW X (.BoolOp .Or (b :: rest) pos) u) : DW X (.BoolOp .Or (a :: b :: rest) pos) (dOr t u) := by
  refine ⟨(pw_or ha.run hb.run).of fun σ H Q ⟨env, S, R, rs, h, k⟩ => ⟨env, S, _, rs, h, fun c S1 H1 q s1 e1 => ?_⟩⟩
  cases c with
  | false => exact ⟨env, S1, R, rs.ext e1 s1, q, fun c S2 H2 q s2 e2 => k _ _ _ q s2 (e1.trans e2)⟩
  | true => exact k _ _ _ q s1 e1
theorem DW.dt (h : DW X e t) : DT X e t := ⟨h.run.pt⟩
theorem dt_not (h : DT X a t) : DT X (.UnaryOp .Not a pos) (dNot t) :=
  ⟨(pt_not h.run).of fun σ H Q ⟨env, S, R, rs, h, k⟩ => ⟨env, S, _, rs, h, fun c S1 H1 q s1 e1 => k _ _ _ q s1 e1⟩⟩
/-- bools as values -/
def dAndV (ta tb : DTE) : DTE := fun env S R => ta env S fun x S1 => ∃ c, x = .bl c ∧ if c = true then tb env S1 R else R (.bl false) S1
def dOrV (ta tb : DTE) : DTE := fun env S R => ta env S fun x S1 => ∃ c, x = .bl c ∧ if c = true then R (.bl true) S1 else tb env S1 R
def dNotV (ta : DTE) : DTE := fun env S R => ta env S fun x S1 => ∃ c, x = .bl c ∧ R (.bl (!c)) S1
theorem de_one {op} (h : DE X a ta) : DE X (.BoolOp op [a] pos) ta := ⟨pe_one h.run⟩
theorem de_and (ha : DE X a ta) (hb : DE X (.BoolOp .And (b :: rest) pos) tb) : DE X (.BoolOp .And (a :: b :: rest) pos) (dAndV ta tb) := by
  refine ⟨(pe_and ha.run hb.run).of fun σ H Q ⟨env, S, R, rs, h, k⟩ => ⟨env, S, _, rs, h, fun d S1 v H1 ⟨c, z, q⟩ s1 r1 e1 => ?_⟩⟩
  subst z
  cases r1
  refine ⟨c, rfl, ?_⟩
  cases c with
  | true => exact ⟨env, S1, R, rs.ext e1 s1, q, fun c S2 v H2 q s2 r2 e2 => k _ _ _ _ q s2 r2 (e1.trans e2)⟩
  | false => exact k _ _ _ _ q s1 (.bl _) e1
theorem de_or (ha : DE X a ta) (hb : DE X (.BoolOp .Or (b :: rest) pos) tb) : DE X (.BoolOp .Or (a :: b :: rest) pos) (dOrV ta tb) := by
  refine ⟨(pe_or ha.run hb.run).of fun σ H Q ⟨env, S, R, rs, h, k⟩ => ⟨env, S, _, rs, h, fun d S1 v H1 ⟨c, z, q⟩ s1 r1 e1 => ?_⟩⟩
  subst z
  cases r1
  refine ⟨c, rfl, ?_⟩
  cases c with
  | false => exact ⟨env, S1, R, rs.ext e1 s1, q, fun c S2 v H2 q s2 r2 e2 => k _ _ _ _ q s2 r2 (e1.trans e2)⟩
  | true => exact k _ _ _ _ q s1 (.bl _) e1
theorem de_not (ha : DE X a ta) : DE X (.UnaryOp .Not a pos) (dNotV ta) := by
  refine ⟨(pe_not ha.run).of fun σ H Q ⟨env, S, R, rs, h, k⟩ => ⟨env, S, _, rs, h, fun d S1 v H1 ⟨c, z, q⟩ s1 r1 e1 => ?_⟩⟩
  subst z
  cases r1
  exact ⟨c, rfl, k _ _ _ _ q s1 (.bl _) e1⟩
def dIf (t : DTT) (ta tb : DTE) : DTE := fun env S R => t env S fun c S1 => if c = true then ta env S1 R else tb env S1 R
theorem de_ifExp (hc : DT X c t) (ha : DE X a ta) (hb : DE X b tb) : DE X (.IfExp c a b pos) (dIf t ta tb) := by
  refine ⟨(pe_ifExp hc.run ha.run hb.run).of fun σ H Q ⟨env, S, R, rs, h, k⟩ => ⟨env, S, _, rs, h, fun c S1 H1 q s1 e1 => ?_⟩⟩
  cases c with
  | true => exact ⟨env, S1, R, rs.ext e1 s1, q, fun c S2 v H2 q s2 r2 e2 => k _ _ _ _ q s2 r2 (e1.trans e2)⟩
  | false => exact ⟨env, S1, R, rs.ext e1 s1, q, fun c S2 v H2 q s2 r2 e2 => k _ _ _ _ q s2 r2 (e1.trans e2)⟩
/-- an operator of one value -/
abbrev DR1 := D → Sto → DK → Prop
def l1 (K : KK) (r : DR1) : V → Hp → VK → Prop := fun x H Q => ∃ d S R, RD K H d x ∧ RelS K S H ∧ r d S R ∧ ∀ z S' v H', R z S' → RelS K S' H' → RD K H' z v → Ext H H' → Q v H'
def dUn (r : DR1) (ta : DTE) : DTE := fun env S R => ta env S fun x S1 => r x S1 R
theorem l1_un {K : KK} {r : DR1} {σ : L2.St} {H : Hp} {Q : VK} (h : lE K (dUn r ta) σ H Q) : lE K ta σ H (fun x H1 => l1 K r x H1 Q) := by
  obtain ⟨env, S, R, rs, h, k⟩ := h
  exact ⟨env, S, _, rs, h, fun d S1 v H1 q s1 r1 e1 => ⟨d, S1, R, r1, s1, q, fun z S2 w H2 q2 s2 r2 e2 => k _ _ _ _ q2 s2 r2 (e1.trans e2)⟩⟩
theorem de_un {op : UnaryOp} {r : DR1} (ho : UnR X (unaryOp op) (l1 X.kk r)) (ha : DE X a ta) : DE X (.UnaryOp op a pos) (dUn r ta) := ⟨(pe_un ho ha.run).of fun _ _ _ => l1_un⟩
def isNon : D → Bool
  | .non => true
  | _ => false
def dIsN (ta : DTE) : DTE := dUn (fun d S R => R (.bl (isNon d)) S) ta
def dNotN (ta : DTE) : DTE := dUn (fun d S R => R (.bl (!isNon d)) S) ta
theorem rd_non {K : KK} {H : Hp} {d : D} {v : V} (r : RD K H d v) : decide (v = .non) = isNon d := by cases r <;> rfl
theorem lE_isN {K : KK} {σ : L2.St} {H : Hp} {Q : VK} (h : lE K (dIsN ta) σ H Q) : tIsN (lE K ta) σ H Q := by
  obtain ⟨env, S, R, rs, h, k⟩ := h
  refine ⟨env, S, _, rs, h, fun d S1 v H1 q s1 r1 e1 => ?_⟩
  show Q (.bl (decide (v = .non))) H1
  rw [rd_non r1]
  exact k _ _ _ _ q s1 (.bl _) e1
theorem lE_notN {K : KK} {σ : L2.St} {H : Hp} {Q : VK} (h : lE K (dNotN ta) σ H Q) : tNotN (lE K ta) σ H Q := by
  obtain ⟨env, S, R, rs, h, k⟩ := h
  refine ⟨env, S, _, rs, h, fun d S1 v H1 q s1 r1 e1 => ?_⟩
  show Q (.bl (!decide (v = .non))) H1
  rw [rd_non r1]
  exact k _ _ _ _ q s1 (.bl _) e1
theorem de_isN {j pos'} (ha : DE X a ta) : DE X (.Compare a [.Is] [.Constant .none j pos'] pos) (dIsN ta) := ⟨(pe_cmp (pc_isN ha.run)).of fun _ _ _ => lE_isN⟩
theorem dt_isN {j pos'} (ha : DE X a ta) : DT X (.Compare a [.Is] [.Constant .none j pos'] pos) (dB (dIsN ta)) := ⟨(pt_cmp (pc_isN ha.run)).of fun _ _ _ h => by
  obtain ⟨env, S, R, rs, h, k⟩ := lT_b h
  exact lE_isN ⟨env, S, R, rs, h, k⟩⟩
theorem dt_notN {j pos'} (ha : DE X a ta) : DT X (.Compare a [.IsNot] [.Constant .none j pos'] pos) (dB (dNotN ta)) := ⟨(pt_cmp (pc_notN ha.run)).of fun _ _ _ h => by
  obtain ⟨env, S, R, rs, h, k⟩ := lT_b h
  exact lE_notN ⟨env, S, R, rs, h, k⟩⟩
def dNil : DTA := fun _ S R => R [] S
def dCons (ta : DTE) (tr : DTA) : DTA := fun env S R => ta env S fun x S1 => tr env S1 fun xs S2 => R (x :: xs) S2
theorem da_nil : DA X [] dNil := ⟨pa_nil.of fun σ H Q ⟨env, S, R, rs, q, k⟩ => k _ _ _ _ q rs.sto .nil (.refl H)⟩
theorem da_cons (ha : DE X e ta) (hr : DA X es tl) (hs : starEach (e :: es) X.env = (false, eval e X.env) :: starEach es X.env := by rfl) : DA X (e :: es) (dCons ta tl) :=
  ⟨(pa_cons ha.run hr.run hs).of fun σ H Q ⟨env, S, R, rs, h, k⟩ => ⟨env, S, _, rs, h, fun d S1 v H1 q s1 r1 e1 => ⟨env, S1, _, rs.ext e1 s1, q, fun ds S2 vs H2 q2 s2 r2 e2 => k _ _ _ _ q2 s2 (.cons (r1.ext e2) r2) (e1.trans e2)⟩⟩⟩
theorem sz1000 {α : Type} {xs : List α} (h : decide (xs.length ≤ 1000) = true) : xs.length ≤ sizeLine := Nat.le_trans (of_decide_eq_true h) (by decide)
def dTup (t : DTA) : DTE := fun env S R => t env S fun ds S1 => decide (ds.length ≤ 1000) = true ∧ R (.tup ds) S1
def dLst (t : DTA) : DTE := fun env S R => t env S fun ds S1 => decide (ds.length ≤ 1000) = true ∧ ∀ p, S1 p = none → R (.ref p) (S1.put p (.lst ds))
theorem de_tup {x1} (h : DA X es tl) : DE X (.Tuple es x1 pos) (dTup tl) := by
  refine ⟨(pe_tupF h.run).of fun σ H Q ⟨env, S, R, rs, h, k⟩ => ⟨env, S, _, rs, h, fun ds S1 vs H1 ⟨hz, q⟩ s1 r1 e1 => ⟨?_, fun p o np ho => ?_⟩⟩⟩
  · rw [← r1.length]
    exact sz1000 hz
  · exact k _ _ _ _ q (s1.new np) (.tup (.new ho) (r1.ext (.new np))) (e1.trans (.new np))
theorem de_lst (h : DA X es tl) : DE X (.List es pos) (dLst tl) := by
  refine ⟨(pe_lst h.run).of fun σ H Q ⟨env, S, R, rs, h, k⟩ => ⟨env, S, _, rs, h, fun ds S1 vs H1 ⟨hz, q⟩ s1 r1 e1 => ⟨?_, fun p np => ?_⟩⟩⟩
  · rw [← r1.length]
    exact sz1000 hz
  · exact k _ _ _ _ (q p (s1.fresh np)) (s1.lay np ⟨_, upd_same, r1.ext (.new np)⟩) (.ref p) (e1.trans (.new np))
abbrev DRC := List D → Sto → DK → Prop
def lC (K : KK) (r : DRC) : List V → Hp → VK → Prop := fun vs H Q => ∃ ds S R, RDs K H ds vs ∧ RelS K S H ∧ r ds S R ∧ ∀ z S' v H', R z S' → RelS K S' H' → RD K H' z v → Ext H H' → Q v H'
def dCB (r : DRC) (t : DTA) : DTE := fun env S R => t env S fun ds S1 => r ds S1 R
theorem lC_of {K : KK} {r : DRC} {σ : L2.St} {H : Hp} {Q : VK} (h : lE K (dCB r tl) σ H Q) : lA K tl σ H (fun vs H1 => lC K r vs H1 Q) := by
  obtain ⟨env, S, R, rs, h, k⟩ := h
  exact ⟨env, S, _, rs, h, fun ds S1 vs H1 q s1 r1 e1 => ⟨ds, S1, R, r1, s1, q, fun z S2 w H2 q2 s2 r2 e2 => k _ _ _ _ q2 s2 r2 (e1.trans e2)⟩⟩
theorem de_callB {r : DRC} {id : String} {x : Str} {p : Pos} (hc : CallR X (.builtin id) (lC X.kk r)) (hg : Gl X x) (hm : X.mg x = none) (hv : bootBuiltins x = some (.builtin id)) (ha : DA X (e :: es) tl) (hn : x ≠ "__name__" := by decide) (hdb : (x == ("__debug__" : Str)) = false := by decide)
    (he : starEach (e :: es) X.env = (false, eval e X.env) :: starEach es X.env := by rfl) (hpl : (backTo pos (starEach es X.env)).any (·.1) = false := by rfl) : DE X (.Call (.Name x p) (e :: es) [] pos) (dCB r tl) :=
  ⟨(pe_callB hc hg hm hv ha.run hn hdb he hpl).of fun _ _ _ => lC_of⟩
theorem de_callTy {r : DRC} {T : String} {x : Str} {p : Pos} (hc : CallR X (.type T) (lC X.kk r)) (hg : Gl X x) (hm : X.mg x = none) (hv : bootBuiltins x = some (.type T)) (ha : DA X (e :: es) tl) (hn : x ≠ "__name__" := by decide) (hdb : (x == ("__debug__" : Str)) = false := by decide)
    (he : starEach (e :: es) X.env = (false, eval e X.env) :: starEach es X.env := by rfl) (hpl : (backTo pos (starEach es X.env)).any (·.1) = false := by rfl) : DE X (.Call (.Name x p) (e :: es) [] pos) (dCB r tl) :=
  ⟨(pe_callTy hc hg hm hv ha.run hn hdb he hpl).of fun _ _ _ => lC_of⟩
/-- a def's promise over data: n arguments -/
def lP (K : KK) (n : Nat) (r : DRC) : Sp := fun vs H Q _ => vs.length = n ∧ lC K r vs H Q
structure DFn (P : Program) (w : World) (K : PySem.W.Frag) (mg : Str → Option Value) (base : Heap) (k : Nat) (x : Str) (n : Nat) (r : DRC) : Prop where
  ex : ∃ (f : Addr) (fd : FuncData) (ps : List Str), FnG P w K mg base k f fd ps (lP ⟨P, w, K⟩ n r) ∧ mg x = some (.ref f) ∧ PySem.W.keepIn K (.ref f) = true ∧ Binds K fd ps []
def dCall (n : Nat) (r : DRC) (t : DTA) : DTE := dCB (fun ds S R => decide (ds.length = n) = true ∧ r ds S R) t
/-- the same of a def that makes no text (whatever runs around) -/
structure DFo (P : Program) (w : World) (K : PySem.W.Frag) (mg : Str → Option Value) (base : Heap) (k : Nat) (x : Str) (n : Nat) (r : DRC) : Prop where
  ex : ∃ (f : Addr) (fd : FuncData) (ps : List Str), FnOk P w K mg base CX0 k f fd ps (lP ⟨P, w, K⟩ n r) ∧ mg x = some (.ref f) ∧ PySem.W.keepIn K (.ref f) = true ∧ Binds K fd ps []
theorem de_callo {k n : Nat} {r : DRC} {x : Str} {p : Pos} (F : DFo X.prog X.w X.K X.mg X.base k x n r) (hr : Room k X.A) (hg : Gl X x) (ha : DA X (e :: es) tl) (hdb : (x == ("__debug__" : Str)) = false := by decide)
    (he : starEach (e :: es) X.env = (false, eval e X.env) :: starEach es X.env := by rfl) (hpl : (backTo pos (starEach es X.env)).any (·.1) = false := by rfl) : DE X (.Call (.Name x p) (e :: es) [] pos) (dCall n r tl) := by
  obtain ⟨f, fd, ps, F, hm, hk, hb⟩ := F.ex
  refine ⟨(pe_call F hr hg hm hk hb .nil (E := fun _ _ _ => False) pass0 ha.run hdb he hpl).of fun σ H Q h => ?_⟩
  obtain ⟨env, S, R, rs, h, k⟩ := lC_of h
  refine ⟨env, S, R, rs, h, fun ds S1 vs H1 q s1 r1 e1 => ?_⟩
  obtain ⟨ds', S', R', r', s', ⟨hl, q'⟩, k'⟩ := k ds S1 vs H1 q s1 r1 e1
  rw [List.append_nil]
  exact ⟨by rw [← r'.length]; exact of_decide_eq_true hl, ds', S', R', r', s', q', k'⟩
/-- .. of a def with a star: its values behind one another -/
structure DFs (P : Program) (w : World) (K : PySem.W.Frag) (mg : Str → Option Value) (base : Heap) (k : Nat) (x : Str) (r : DRC) : Prop where
  ex : ∃ f : Addr, FnR P w K mg base CX0 k f (fun vs H Q _ => lC ⟨P, w, K⟩ r vs H Q) ∧ mg x = some (.ref f) ∧ PySem.W.keepIn K (.ref f) = true
abbrev DRM := D → List D → Sto → DK → Prop
def lM (K : KK) (r : DRM) : V → List V → Hp → VK → Prop := fun x vs H Q => ∃ d ds S R, RD K H d x ∧ RDs K H ds vs ∧ RelS K S H ∧ r d ds S R ∧ ∀ z S' v H', R z S' → RelS K S' H' → RD K H' z v → Ext H H' → Q v H'
end
section
variable {X : Cx} {st : Stmt} {rest : List Stmt} {t u : DTS} {e : Expr} {te : DTE} {pos : Pos}
def dNext : DTS := fun C env S => C.nx env S
def dSeq (t u : DTS) : DTS := fun C env S => t { C with nx := u C } env S
theorem dss_nil : DSs X [] dNext := ⟨pss_nil.of fun σ H B ⟨env, S, C, rs, q, k, _⟩ => k _ _ _ _ q rs (.refl H)⟩
theorem lS_seq {K : KK} {σ : L2.St} {H : Hp} {B : Ends} (h : lS K (dSeq t u) B σ H) : tSeq (lS K t) (lS K u) B σ H := by
  obtain ⟨env, S, C, rs, h, k1, k2, k3, k4⟩ := h
  refine ⟨env, S, _, rs, h, fun env1 S1 σ1 H1 q r1 e1 => ⟨env1, S1, C, r1, q, ?_, ?_, ?_, ?_⟩, k2, k3, k4⟩
  · exact fun env2 S2 σ2 H2 q2 r2 e2 => k1 _ _ _ _ q2 r2 (e1.trans e2)
  · exact fun d S2 v H2 q2 s2 r2 e2 => k2 _ _ _ _ q2 s2 r2 (e1.trans e2)
  · exact fun env2 S2 σ2 H2 q2 r2 e2 => k3 _ _ _ _ q2 r2 (e1.trans e2)
  · exact fun env2 S2 σ2 H2 q2 r2 e2 => k4 _ _ _ _ q2 r2 (e1.trans e2)
theorem dss_cons (h1 : DS X st t) (h2 : DSs X rest u) : DSs X (st :: rest) (dSeq t u) := ⟨(pss_cons h1.run h2.run).of fun _ _ _ => lS_seq⟩
theorem dss_one (h1 : DS X st t) : DSs X [st] t := ⟨pss_one h1.run⟩
theorem ds_pass : DS X (.Pass pos) dNext := ⟨ps_pass.of fun σ H B ⟨env, S, C, rs, q, k, _⟩ => k _ _ _ _ q rs (.refl H)⟩
def dDrop (te : DTE) : DTS := fun C env S => te env S fun _ S1 => C.nx env S1
theorem ds_expr (he : DE X e te) (hs : swapsWith e none pos.line X.env = pure false := by rfl) : DS X (.Expr e pos) (dDrop te) :=
  ⟨(ps_expr he.run hs).of fun σ H B ⟨env, S, C, rs, h, k, _⟩ => ⟨env, S, _, rs, h, fun d S1 v H1 q s1 r1 e1 => k _ _ _ _ q (rs.ext e1 s1) e1⟩⟩
def dRet (te : DTE) : DTS := fun C env S => te env S C.rt
theorem ds_ret (he : DE X e te) : DS X (.Return (some e) pos) (dRet te) :=
  ⟨(ps_ret he.run).of fun σ H B ⟨env, S, C, rs, h, _, k, _⟩ => ⟨env, S, _, rs, h, fun d S1 v H1 q s1 r1 e1 => k _ _ _ _ q s1 r1 e1⟩⟩
/-- ways behind a first step -/
theorem lS_go {K : KK} {σ : L2.St} {H H1 : Hp} {B : Ends} {C : DEnds} {env : Env} {S1 : Sto} (rs : RS K σ H1 env S1) (e1 : Ext H H1) (q : t C env S1)
    (k : (∀ env' S' σ' H', C.nx env' S' → RS K σ' H' env' S' → Ext H H' → B.nx σ' H') ∧ (∀ d S' v H', C.rt d S' → RelS K S' H' → RD K H' d v → Ext H H' → B.rt v H') ∧
      (∀ env' S' σ' H', C.bk env' S' → RS K σ' H' env' S' → Ext H H' → B.bk σ' H') ∧ (∀ env' S' σ' H', C.ct env' S' → RS K σ' H' env' S' → Ext H H' → B.ct σ' H')) : lS K t B σ H1 :=
  ⟨env, S1, C, rs, q, fun _ _ _ _ q r e => k.1 _ _ _ _ q r (e1.trans e), fun _ _ _ _ q s r e => k.2.1 _ _ _ _ q s r (e1.trans e), fun _ _ _ _ q r e => k.2.2.1 _ _ _ _ q r (e1.trans e), fun _ _ _ _ q r e => k.2.2.2 _ _ _ _ q r (e1.trans e)⟩
def dIfS (c : DTT) (t u : DTS) : DTS := fun C env S => c env S fun b S1 => if b = true then t C env S1 else u C env S1
theorem ds_if {c : Expr} {a b : List Stmt} {tc : DTT} (hc : DT X c tc) (ha : DSs X a t) (hb : DSs X b u) : DS X (.If c a b pos) (dIfS tc t u) := by
  refine ⟨(ps_if hc.run ha.run hb.run).of fun σ H B ⟨env, S, C, rs, h, k⟩ => ⟨env, S, _, rs, h, fun c S1 H1 q s1 e1 => ?_⟩⟩
  cases c with
  | true => exact lS_go (rs.ext e1 s1) e1 q k
  | false => exact lS_go (rs.ext e1 s1) e1 q k
def RDw (K : KK) (b : Bool) (H : Hp) (d : D) (v : V) : Prop := RD K H d v ∨ (b = false ∧ ∃ a ds vs, d = .tup ds ∧ v = .ref a ∧ SqT K.k H a vs ∧ RDs K H ds vs)
abbrev DTG := D → Env → Sto → (Env → Sto → Prop) → Prop
abbrev DTGs := List D → Env → Sto → (Env → Sto → Prop) → Prop
def Off (vs : List Nat) (σ σ' : L2.St) : Prop := σ'.length = σ.length ∧ ∀ i, i ∉ vs → σ'[i]? = σ[i]?
theorem Off.refl (vs : List Nat) (σ : L2.St) : Off vs σ σ := ⟨rfl, fun _ _ => rfl⟩
theorem Off.trans {vs : List Nat} {σ σ1 σ2 : L2.St} (x : Off vs σ σ1) (y : Off vs σ1 σ2) : Off vs σ σ2 := ⟨y.1.trans x.1, fun i h => (y.2 i h).trans (x.2 i h)⟩
theorem Off.mono {vs us : List Nat} {σ σ' : L2.St} (x : Off vs σ σ') (h : ∀ i ∈ vs, i ∈ us) : Off us σ σ' := ⟨x.1, fun i hi => x.2 i fun z => hi (h i z)⟩
def lG (K : KK) (b : Bool) (vs : List Nat) (g : DTG) : TG := fun v σ H Q => ∃ d env S R, RDw K b H d v ∧ RS K σ H env S ∧ g d env S R ∧ ∀ env' S' σ' H', R env' S' → RS K σ' H' env' S' → Ext H H' → Off vs σ σ' → Q σ' H'
def lGs (K : KK) (vs : List Nat) (g : DTGs) : TGs := fun us σ H Q => ∃ ds env S R, RDs K H ds us ∧ RS K σ H env S ∧ g ds env S R ∧ ∀ env' S' σ' H', R env' S' → RS K σ' H' env' S' → Ext H H' → Off vs σ σ' → Q σ' H'
structure DG (X : Cx) (b : Bool) (vs : List Nat) (tg : Expr) (g : DTG) : Prop where
  run : PG X tg (lG X.kk b vs g)
structure DGs (X : Cx) (vs : List Nat) (ts : List Expr) (g : DTGs) : Prop where
  run : PGs X ts (lGs X.kk vs g)
theorem _root_.L2.PG.of {tg : Expr} {t t' : TG} (h : PG X tg t) (q : ∀ v σ H Q, t' v σ H Q → t v σ H Q) : PG X tg t' := ⟨fun pins s σ H v u Q I r w => h.run pins s σ H v u Q I r (q v σ H Q w)⟩
theorem _root_.L2.PG.or {tg : Expr} {t t' : TG} (h : PG X tg t) (h' : PG X tg t') : PG X tg (fun v σ H Q => t v σ H Q ∨ t' v σ H Q) := ⟨fun pins s σ H v u Q I r w => w.elim (h.run pins s σ H v u Q I r) (h'.run pins s σ H v u Q I r)⟩
theorem _root_.L2.PGs.of {ts : List Expr} {t t' : TGs} (h : PGs X ts t) (q : ∀ v σ H Q, t' v σ H Q → t v σ H Q) : PGs X ts t' := ⟨fun pins s σ H v u Q I r w => h.run pins s σ H v u Q I r (q v σ H Q w)⟩
def dgName (i : Nat) : DTG := fun d env S R => R (env.set i (some d)) S
theorem dg_name {i : Nat} {x : Str} (hN : X.N.Nodup) (hi : X.N[i]? = some x) (hx : Loc X.env.scope x) (hf : X.fn x = true ∨ X.env.scope.names.lookup x = some .local := by first | exact .inl rfl | exact .inr rfl | assumption) : DG X true [i] (.Name x pos) (dgName i) := by
  refine ⟨(pg_name hN hi hx hf).of fun v σ H Q ⟨d, env, S, R, rw', rs, q, k⟩ => ?_⟩
  rcases rw' with r | ⟨z, _⟩
  · exact k _ _ _ _ q (rs.set i r) (.refl H) ⟨List.length_set, fun j hj => List.getElem?_set_ne fun z => hj (by rw [z]; exact List.mem_singleton_self _)⟩
  · cases z
def dgNil : DTGs := fun ds env S R => ds = [] ∧ R env S
def dgCons (g : DTG) (gs : DTGs) : DTGs := fun ds env S R => ∃ d r, ds = d :: r ∧ g d env S fun env' S' => gs r env' S' R
theorem dgs_nil : DGs X [] [] dgNil := ⟨pgs_nil.of fun us σ H Q ⟨ds, env, S, R, r, rs, ⟨e, q⟩, k⟩ => by
  subst e
  cases r
  exact ⟨rfl, k _ _ _ _ q rs (.refl H) (.refl _ _)⟩⟩
theorem dgs_cons {e : Expr} {es : List Expr} {vs us : List Nat} {g : DTG} {gs : DTGs} (h1 : DG X true vs e g) (h2 : DGs X us es gs)
    (hs : (assignEach (e :: es) X.env).map (·.2) = assign e X.env :: (assignEach es X.env).map (·.2) := by rfl) : DGs X (vs ++ us) (e :: es) (dgCons g gs) := by
  refine ⟨(pgs_cons h1.run h2.run hs).of fun ws σ H Q ⟨ds, env, S, R, r, rs, ⟨d, r', e, q⟩, k⟩ => ?_⟩
  subst e
  cases r with
  | cons r1 rr =>
    refine ⟨_, _, rfl, d, env, S, _, .inl r1, rs, q, fun env1 S1 σ1 H1 q1 rs1 e1 o1 => ⟨r', env1, S1, R, rr.ext e1, rs1, q1, fun env2 S2 σ2 H2 q2 rs2 e2 o2 => ?_⟩⟩
    exact k _ _ _ _ q2 rs2 (e1.trans e2) ((o1.mono fun i h => List.mem_append_left _ h).trans (o2.mono fun i h => List.mem_append_right _ h))
/-- the items of a tuple or of a list -/
def dUnp (n : Nat) (gs : DTGs) : DTG := fun d env S R => ∃ ds, ds.length = n ∧ ((d = .tup ds ∨ d = .wtup ds) ∨ ∃ a, d = .ref a ∧ S a = some (.lst ds)) ∧ gs ds env S R
theorem dg_tup {es : List Expr} {k n : Nat} {b : Bool} {vs : List Nat} {gs : DTGs} (hc : X.calm = true) (h : DGs X vs es gs)
    (hn : (assignEach es X.env).length = n := by rfl) (hst : (assignEach es X.env).findIdx? (·.1) = none := by rfl) : DG X b vs (.Tuple es k pos) (dUnp n gs) := by
  refine ⟨((pg_tup hc h.run hn hst).or (pg_unl hc h.run hn hst)).of fun v σ H Q ⟨d, env, S, R, r, rs, ⟨ds, hl, e, q⟩, k⟩ => ?_⟩
  rcases e with (rfl | rfl) | ⟨a, rfl, e⟩
  · rcases r with r | ⟨_, a, ds', vs', z, rfl, ht, r⟩
    · cases r with
      | tup ht r => exact .inl ⟨_, _, rfl, ht.sqT, r.length.symm.trans hl, ds, env, S, R, r, rs, q, k⟩
    · cases z
      exact .inl ⟨a, vs', rfl, ht, r.length.symm.trans hl, ds, env, S, R, r, rs, q, k⟩
  · rcases r with r | ⟨_, a, ds', vs', z, rfl, ht, r⟩
    · cases r with
      | wtup ht r => exact .inl ⟨_, _, rfl, .of ht, r.length.symm.trans hl, ds, env, S, R, r, rs, q, k⟩
    · cases z
  · rcases r with r | ⟨_, a, ds', vs', z, rfl, ht, r⟩
    · cases r
      obtain ⟨vs', h1, r⟩ := rs.sto.lst e
      exact .inr ⟨_, _, rfl, .of h1, r.length.symm.trans hl, ds, env, S, R, r, rs, q, k⟩
    · cases z
/-- target = e -/
def dAsg (te : DTE) (g : DTG) : DTS := fun C env S => te env S fun d S1 => g d env S1 C.nx
theorem lS_asg {K : KK} {b : Bool} {vs : List Nat} {g : DTG} {σ : L2.St} {H : Hp} {B : Ends} (h : lS K (dAsg te g) B σ H) : tAsg (lE K te) (lG K b vs g) B σ H := by
  obtain ⟨env, S, C, rs, h, k, _⟩ := h
  exact ⟨env, S, _, rs, h, fun d S1 v H1 q s1 r1 e1 => ⟨d, env, S1, C.nx, .inl r1, rs.ext e1 s1, q, fun _ _ _ _ q r e _ => k _ _ _ _ q r (e1.trans e)⟩⟩
theorem ds_asg {tg : Expr} {b : Bool} {vs : List Nat} {g : DTG} (he : DE X e te) (hg : DG X b vs tg g) (hs : swapsWithSole [tg] e pos.line X.env = pure false := by rfl) (hw : swappedStores [tg] e X.env = pure none := by rfl)
    (h1 : (assignEach [tg] X.env).map (·.2) = [assign tg X.env] := by rfl) : DS X (.Assign [tg] e pos) (dAsg te g) := ⟨(ps_asg he.run hg.run hs hw h1).of fun _ _ _ => lS_asg⟩
theorem ds_set {i : Nat} {x : Str} {pos' : Pos} (hN : X.N.Nodup) (hi : X.N[i]? = some x) (hx : Loc X.env.scope x) (he : DE X e te) (hs : swapsWith e (some (.Name x pos')) pos.line X.env = pure false := by rfl) (hf : X.fn x = true ∨ X.env.scope.names.lookup x = some .local := by first | exact .inl rfl | exact .inr rfl | assumption) :
    DS X (.Assign [.Name x pos'] e pos) (dAsg te (dgName i)) :=
  ⟨(ps_set hN hi hx he.run hs hf).of fun σ H B ⟨env, S, C, rs, h, k, _⟩ => ⟨env, S, _, rs, h, fun d S1 v H1 q s1 r1 e1 => k _ _ _ _ q ((rs.ext e1 s1).set i r1) e1⟩⟩
/-- two local names at once -/
theorem ds_par {i j : Nat} {x y : Str} {a b : Expr} {ta : DTA} {px py pt : Pos} {kt k2 pt2} (hc : X.calm = true) (hN : X.N.Nodup) (hi : X.N[i]? = some x) (hj : X.N[j]? = some y) (hij : i ≠ j)
    (hx : X.env.scope.names.lookup x = some .local) (hy : X.env.scope.names.lookup y = some .local) (ha : DA X [a, b] ta)
    (hw : swappedStores [.Tuple [.Name x px, .Name y py] kt pt] (.Tuple [a, b] k2 pt2) X.env = pure (some [x, y]))
    (hs : swapsWithSole [.Tuple [.Name x px, .Name y py] kt pt] (.Tuple [a, b] k2 pt2) pos.line X.env = pure false := by rfl) :
    DS X (.Assign [.Tuple [.Name x px, .Name y py] kt pt] (.Tuple [a, b] k2 pt2) pos) (dAsg (dTup ta) (dUnp 2 (dgCons (dgName i) (dgCons (dgName j) dgNil)))) := by
  refine ⟨(ps_par hc hN hi hj hij hx hy ha.run hw hs).of fun σ H B ⟨env, S, C, rs, h, k, _⟩ => ⟨env, S, _, rs, h, fun ds S1 vs H1 ⟨_, ds', hl, hd, q⟩ s1 r1 e1 => ?_⟩⟩
  have hdd : ds = ds' := by
    rcases hd with (z | z) | ⟨a, z, _⟩
    · cases z; rfl
    · cases z
    · cases z
  subst hdd
  obtain ⟨d1, r', rfl, d2, r'', rfl, rfl, q⟩ := q
  obtain ⟨v, u, rfl, rv, ru⟩ := r1.inv2
  exact ⟨v, u, rfl, k _ _ _ _ q (((rs.ext e1 s1).set i rv).set j ru) e1⟩
end
section
variable {X : Cx} {pos : Pos}
/-- what is walked: its items, and what must hold of the store at each turn -/
structure Src where
  items : List D
  live : Sto → Prop := fun _ => True
abbrev DTI := Env → Sto → (Src → Sto → Prop) → Prop
structure Steps (K : KK) (b : Bool) (H0 : Hp) (J : It) (w : Src) : Prop where
  ex : ∃ (G : Hp → Prop) (Y : Nat → Hp → V → Hp → Prop), Walk J w.items.length G Y ∧ (∀ H S, Ext H0 H → RelS K S H → w.live S → G H) ∧
    ∀ i H x H', Ext H0 H → Y i H x H' → Ext H H' ∧ (∀ S, RelS K S H → RelS K S H') ∧ ∃ d, w.items[i]? = some d ∧ RDw K b H' d x
def lI (K : KK) (b : Bool) (t : DTI) : TI := fun σ H R => ∃ env S R0, RS K σ H env S ∧ t env S R0 ∧ ∀ w S' J H', R0 w S' → RelS K S' H' → Ext H H' → Steps K b H' J w → R J H'
structure DI (X : Cx) (b : Bool) (tg e : Expr) (t : DTI) : Prop where
  run : PI X tg e (lI X.kk b t)
theorem _root_.L2.PI.of {tg e : Expr} {t t' : TI} (h : PI X tg e t) (q : ∀ σ H R, t' σ H R → t σ H R) : PI X tg e t' := ⟨fun pins s σ H R I w => h.run pins s σ H R I (q σ H R w)⟩
theorem _root_.L2.PI.or {tg e : Expr} {t t' : TI} (h : PI X tg e t) (h' : PI X tg e t') : PI X tg e (fun σ H R => t σ H R ∨ t' σ H R) := ⟨fun pins s σ H R I w => w.elim (h.run pins s σ H R I) (h'.run pins s σ H R I)⟩
def dFor (ti : DTI) (g : DTG) (tb : DTS) : DTS := fun C env S => ti env S fun w S1 => ∃ Pv : Nat → Env → Sto → Prop, Pv 0 env S1 ∧ (∀ i env S, i ≤ w.items.length → Pv i env S → w.live S) ∧
  (∀ i d env S, w.items[i]? = some d → Pv i env S → g d env S fun env' S' => tb { C with nx := Pv (i + 1), ct := Pv (i + 1), bk := C.nx } env' S') ∧ ∀ env S, Pv w.items.length env S → C.nx env S
theorem ds_for {tg iter : Expr} {b : Bool} {vs : List Nat} {body : List Stmt} {ti : DTI} {g : DTG} {tb : DTS} (hp : PassesOwn (model X.prog X.w) X.A X.env X.xe) (hc : X.calm = true) (hi : DI X b tg iter ti) (hg : DG X b vs tg g) (hb : DSs X body tb)
    (hs : ∀ x, foldedSetIterable iter X.env x = pure x := by intro _; rfl) : DS X (.For tg iter body [] pos) (dFor ti g tb) := by
  refine ⟨(ps_for hp hc hi.run hg.run hb.run hs).of fun σ H B ⟨env, S, C, rs, h, k1, k2, _⟩ => ⟨env, S, _, rs, h, fun w S1 J H1 ⟨Pv, p0, lv, step, done⟩ s1 e1 st => ?_⟩⟩
  obtain ⟨G, Y, wk, hG, hY⟩ := st.ex
  refine for_it wk (fun i σ' H' => ∃ env' S', RS X.kk σ' H' env' S' ∧ Ext H1 H' ∧ Pv i env' S') ⟨env, S1, rs.ext e1 s1, .refl H1, p0⟩ (fun i σ' H' hi ⟨env', S', rs', e', p'⟩ => hG H' S' e' rs'.sto (lv i env' S' hi p')) ?_ ?_
  · rintro i x σ2 H2 H3 hi ⟨env2, S2, rs2, e2, p2⟩ y
    obtain ⟨e3, hS, d, hd, rd⟩ := hY i H2 x H3 e2 y
    refine ⟨d, env2, S2, _, rd, rs2.ext e3 (hS S2 rs2.sto), step i d env2 S2 hd p2, fun env4 S4 σ4 H4 q4 rs4 e4 _ => ⟨env4, S4, _, rs4, q4, ?_, ?_, ?_, ?_⟩⟩
    · exact fun env' S' σ' H' q' rs' e' => ⟨env', S', rs', e2.trans (e3.trans (e4.trans e')), q'⟩
    · exact fun d S' v H' q' s' r' e' => k2 _ _ _ _ q' s' r' (e1.trans (e2.trans (e3.trans (e4.trans e'))))
    · exact fun env' S' σ' H' q' rs' e' => k1 _ _ _ _ q' rs' (e1.trans (e2.trans (e3.trans (e4.trans e'))))
    · exact fun env' S' σ' H' q' rs' e' => ⟨env', S', rs', e2.trans (e3.trans (e4.trans e')), q'⟩
  · rintro σ2 H2 ⟨env2, S2, rs2, e2, p2⟩
    exact k1 _ _ _ _ (done env2 S2 p2) rs2 (e1.trans e2)
end
end Sv
namespace Sv
open PySem PySem.Spec PyProof.Rows L2
section
variable {X : Cx} {tg e : Expr} {te : DTE} {pos p : Pos}
/-- a tuple or a list, as it comes -/
def iVal (K : PySem.W.Frag) (tl : TE) : TI := fun σ H R => tl σ H fun x H1 => ∃ a, x = .ref a ∧ (((∃ xs, SqL K H1 a xs) ∧ R (Itl K a) H1) ∨ ((∃ xs, SqT K H1 a xs) ∧ R (Itt K a) H1))
theorem pi_val {l : Expr} {tl : TE} (hl : PE X l tl) : PI X tg l (iVal X.K tl) := by
  refine ⟨fun pins s σ H R I h => ?_⟩
  refine thn (hl.run pins s σ H _ I h) fun v s1 ⟨x, H1, I1, r1, q1⟩ => ?_
  obtain ⟨a, e, q⟩ := q1
  subst e
  cases r1
  rcases q with ⟨⟨xs, hq⟩, q⟩ | ⟨⟨xs, hq⟩, q⟩
  · obtain ⟨its, rv, p, hz⟩ := I1.list hq
    refine wpAny_pyIter_list p.isList ?_
    refine ⟨s1.heap.objs.size, [s1.heap.objs.size], _, _, H1, rfl, I1.kept (t' := s1.toks) fun b o e => Heap.get?_push_of_some _ e, turn_list a _, ⟨_, Heap.get?_push_size _ rfl, rfl, rfl⟩, fun b hb => ?_, q⟩
    have e : b = s1.heap.objs.size := by simpa using hb
    subst e
    exact I1.fpOk (Nat.le_refl _) (I1.hok.fresh (Nat.le_refl _))
  · obtain ⟨its, rv, p, hz⟩ := I1.tuple hq
    refine wpAny_pyIter_tuple (show s1.heap.IsTuple a its.toArray from p) ?_
    refine ⟨s1.heap.objs.size, [s1.heap.objs.size], _, _, H1, rfl, I1.kept (t' := s1.toks) fun b o e => Heap.get?_push_of_some _ e, turn_tuple a _, ⟨_, Heap.get?_push_size _ rfl, rfl, rfl⟩, fun b hb => ?_, q⟩
    have e : b = s1.heap.objs.size := by simpa using hb
    subst e
    exact I1.fpOk (Nat.le_refl _) (I1.hok.fresh (Nat.le_refl _))
/-- the items of a value, with what must stay -/
def Items (S : Sto) (d : D) (w : Src) : Prop := match d with
  | .tup ds => w = ⟨ds, fun _ => True⟩
  | .rol ds => w = ⟨ds, fun _ => True⟩
  | .wtup ds => w = ⟨ds, fun _ => True⟩
  | .ref a => ∃ ds, S a = some (.lst ds) ∧ w = ⟨ds, fun S' => S' a = some (.lst ds)⟩
  | _ => False
def diVal (te : DTE) : DTI := fun env S R => te env S fun d S1 => ∃ w, Items S1 d w ∧ R w S1
theorem steps_list {K : KK} {H0 : Hp} {a : Addr} {ds : List D} {lv : Sto → Prop} (h : ∀ H S, Ext H0 H → RelS K S H → lv S → ∃ vs, SqL K.k H a vs ∧ RDs K H ds vs) : Steps K true H0 (Itl K.k a) ⟨ds, lv⟩ := by
  refine ⟨fun H => ∃ vs, SqL K.k H a vs ∧ RDs K H ds vs, fun i H x H' => H' = H ∧ ∃ vs, RDs K H ds vs ∧ vs[i]? = some x, ⟨fun i H hi ⟨vs, h1, r⟩ => ?_, fun H ⟨vs, h1, r⟩ => ⟨vs, h1, by rw [← r.length]; exact Nat.le_refl _⟩, fun i H x H' hi ⟨vs, h1, r⟩ y => ⟨y.1, vs, r, y.2 vs h1⟩⟩, h, ?_⟩
  · have : i < vs.length := by rw [← r.length]; exact hi
    exact ⟨vs, vs[i], h1, by simp [this]⟩
  · rintro i H x H' e ⟨rfl, vs, r, hx⟩
    obtain ⟨d, h1, h2⟩ := r.atv hx
    exact ⟨.refl _, fun S s => s, d, h1, .inl h2⟩
theorem steps_tup {K : KK} {H0 : Hp} {a : Addr} {ds : List D} {vs : List V} (h : ∀ H, Ext H0 H → SqT K.k H a vs) (r : RDs K H0 ds vs) : Steps K true H0 (Itt K.k a) ⟨ds, fun _ => True⟩ := by
  refine ⟨fun H => SqT K.k H a vs, fun i H x H' => H' = H ∧ vs[i]? = some x, ?_, fun H S e _ _ => h H e, ?_⟩
  · have w := walk_tup (K := K.k) (a := a) (xs := vs)
    rw [← r.length] at w
    exact w
  · rintro i H x H' e ⟨rfl, hx⟩
    obtain ⟨d, h1, h2⟩ := (r.ext e).atv hx
    exact ⟨.refl _, fun S s => s, d, h1, .inl h2⟩
theorem di_val (he : DE X e te) : DI X true tg e (diVal te) := by
  refine ⟨(pi_val he.run).of fun σ H R ⟨env, S, R0, rs, h, k⟩ => ⟨env, S, _, rs, h, fun d S1 v H1 ⟨w, hw, q⟩ s1 r1 e1 => ?_⟩⟩
  cases r1 with
  | tup ht r =>
    cases (show w = ⟨_, _⟩ from hw)
    exact ⟨_, rfl, .inr ⟨⟨_, ht.sqT⟩, k _ _ _ _ q s1 e1 (steps_tup (fun H e => (ht.ext e).sqT) r)⟩⟩
  | wtup ht r =>
    cases (show w = ⟨_, _⟩ from hw)
    exact ⟨_, rfl, .inr ⟨⟨_, .of ht⟩, k _ _ _ _ q s1 e1 (steps_tup (fun H e => .of (e.2 _ _ ht)) r)⟩⟩
  | rol ht r =>
    cases (show w = ⟨_, _⟩ from hw)
    exact ⟨_, rfl, .inl ⟨⟨_, ht.sqL⟩, k _ _ _ _ q s1 e1 (steps_list fun H S e _ _ => ⟨_, (ht.ext e).sqL, r.ext e⟩)⟩⟩
  | ref a =>
    obtain ⟨ds, hs, rfl⟩ := hw
    obtain ⟨vs, h1, r⟩ := s1.lst hs
    refine ⟨_, rfl, .inl ⟨⟨_, .of h1⟩, k _ _ _ _ q s1 e1 (steps_list fun H S e s l => ?_)⟩⟩
    obtain ⟨vs', h2, r'⟩ := s.lst l
    exact ⟨vs', .of h2, r'⟩
  | _ => exact hw.elim
/-- range -/
def rgD (lo : Int) (n : Nat) : List D := (List.range n).map fun i => .int (lo + (i : Nat))
theorem steps_range {K : KK} {H0 : Hp} {lo : Int} {n : Nat} : Steps K true H0 (Itr lo n) ⟨rgD lo n, fun _ => True⟩ := by
  refine ⟨fun _ => True, fun i H x H' => i < n ∧ H' = H ∧ x = .int (lo + i), ?_, fun _ _ _ _ _ => trivial, ?_⟩
  · have w := walk_range (lo := lo) (n := n)
    have : (rgD lo n).length = n := by simp [rgD]
    rw [this]
    exact ⟨w.goes, w.stops, fun i H x H' hi g y => ⟨hi, w.yields i H x H' hi g y⟩⟩
  · rintro i H x H' e ⟨hi, rfl, rfl⟩
    refine ⟨.refl _, fun S s => s, .int (lo + i), ?_, .inl (.int _)⟩
    show (rgD lo n)[i]? = _
    rw [rgD, List.getElem?_map, List.getElem?_range hi]
    rfl
def diRg1 (ta : DTA) : DTI := fun env S R => ta env S fun ds S1 => ∃ n : Int, ds = [.int n] ∧ -(2 ^ 62) ≤ n ∧ n < 2 ^ 62 ∧ R ⟨rgD 0 n.toNat, fun _ => True⟩ S1
theorem di_rg1 {ta : DTA} (hg : Gl X "range") (hm : X.mg "range" = none) (ha : DA X [e] ta) (hs : starEach [e] X.env = [(false, eval e X.env)] := by rfl) : DI X true tg (.Call (.Name "range" p) [e] [] pos) (diRg1 ta) := by
  refine ⟨(pi_range1 hg hm ha.run hs).of fun σ H R ⟨env, S, R0, rs, h, k⟩ => ⟨env, S, _, rs, h, fun ds S1 vs H1 q s1 r1 e1 => ?_⟩⟩
  obtain ⟨n, rfl, h1, h2, q⟩ := q
  obtain ⟨v, rfl, r⟩ := r1.inv1
  cases r
  exact ⟨n, rfl, h1, h2, k _ _ _ _ q s1 e1 steps_range⟩
theorem rdw_pair {K : KK} {H : Hp} {T : Addr} {d e : D} {x y : V} (n : H T = none) (r1 : RD K H d x) (r2 : RD K H e y) : RDw K false (upd H T (.tup [x, y])) (.tup [d, e]) (.ref T) :=
  .inr ⟨rfl, T, [d, e], [x, y], rfl, rfl, .of upd_same, .cons (r1.ext (.new n)) (.cons (r2.ext (.new n)) .nil)⟩
theorem steps_pair {K : KK} {H0 : Hp} {J : It} {n : Nat} {G : Hp → Prop} {xs ys : Nat → Option V} {ps : List D} {lv : Sto → Prop} (w : Walk J n G (YPair xs ys)) (hn : ps.length = n) (hG : ∀ H S, Ext H0 H → RelS K S H → lv S → G H)
    (hp : ∀ i H x y, i < n → Ext H0 H → G H → xs i = some x → ys i = some y → ∃ d e, ps[i]? = some (.tup [d, e]) ∧ RD K H d x ∧ RD K H e y) : Steps K false H0 J ⟨ps, lv⟩ := by
  subst hn
  refine ⟨G, fun i H x H' => i < ps.length ∧ G H ∧ YPair xs ys i H x H', ⟨w.goes, w.stops, fun i H x H' hi g y => ⟨hi, g, w.yields i H x H' hi g y⟩⟩, hG, ?_⟩
  rintro i H v H' e ⟨hi, g, T, x, y, rfl, nT, rfl, hx, hy⟩
  obtain ⟨d, d', h1, h2, h3⟩ := hp i H x y hi e g hx hy
  exact ⟨.new nT, fun S s => s.new nT, _, h1, rdw_pair nT h2 h3⟩
def enD (ds : List D) : List D := ds.mapIdx fun i d => .tup [.int (i : Nat), d]
theorem enD_at {ds : List D} {i : Nat} {d : D} (h : ds[i]? = some d) : (enD ds)[i]? = some (.tup [.int (i : Nat), d]) := by
  rw [enD, List.getElem?_mapIdx, h]
  rfl
theorem enD_len (ds : List D) : (enD ds).length = ds.length := by simp [enD]
/-- enumerate of a tuple or a list -/
def iEnumA (K : PySem.W.Frag) (ta : TA) : TI := fun σ H R => ta σ H fun vs H1 => ∃ a xs, vs = [.ref a] ∧ ((SqL K H1 a xs ∧ R (Ite K a) H1) ∨ (SqT K H1 a xs ∧ R (Itte K a xs) H1))
theorem pi_enumA {ta : TA} {elts : List Expr} {kk : Nat} {tpos : Pos} (hg : Gl X "enumerate") (hm : X.mg "enumerate" = none) (ha : PA X [e] ta)
    (hs : starEach [e] X.env = [(false, eval e X.env)] := by rfl) : PI X (.Tuple elts kk tpos) (.Call (.Name "enumerate" p) [e] [] pos) (iEnumA X.K ta) := by
  refine ⟨fun pins s σ H R I h => ?_⟩
  refine Call_ (ld_blt I hg hm boot_enumerate (PyProof.Rows.callWith_type1 (thn (ha.run pos pins s σ H _ I h) fun us s1 ⟨vs, H1, I1, r1, q1⟩ => ?_) hs rfl))
  obtain ⟨a, xs, rfl, q⟩ := q1
  obtain ⟨u, rfl, ru⟩ := vals1 r1
  cases ru
  rcases q with ⟨hq, q⟩ | ⟨hq, q⟩
  · obtain ⟨its, rv, p', hz⟩ := I1.list hq
    refine call_enumerate_list p'.isList fun h' he hit hsz hk => wpAny_pyIter_enum he ?_
    have I2 : Inv X pins σ H1 { s1 with heap := h' } := I1.kept (t' := s1.toks) hk
    refine ⟨s1.heap.objs.size + 1, [s1.heap.objs.size + 1, s1.heap.objs.size], _, _, H1, rfl, I2, turn_enum a (s1.heap.objs.size + 1) s1.heap.objs.size, ⟨⟨.none, he⟩, hit, Nat.succ_ne_self _⟩, fun b hb => ?_, q⟩
    have hle : s1.heap.objs.size ≤ b := by
      rcases (show b = s1.heap.objs.size + 1 ∨ b = s1.heap.objs.size by simpa using hb) with rfl | rfl
      · exact Nat.le_succ _
      · exact Nat.le_refl _
    exact I1.fpOk hle (I1.hok.fresh hle)
  · obtain ⟨its, rv, p', hz⟩ := I1.tuple hq
    have hal : a < s1.heap.objs.size := by
      obtain ⟨o, ho, _⟩ := id p'
      exact Heap.lt_size ho
    refine sv_enum_call (begins_tuple a its.toArray) p' fun h' he hit hk => wpAny_pyIter_enum he ?_
    have I2 : Inv X pins σ H1 { s1 with heap := h' } := I1.kept (t' := s1.toks) hk
    refine ⟨s1.heap.objs.size + 1, [s1.heap.objs.size + 1, s1.heap.objs.size], _, _, H1, rfl, I2, turn_etup a (s1.heap.objs.size + 1) s1.heap.objs.size xs,
      ⟨⟨.none, he⟩, ⟨_, hit, rfl, rfl⟩, Nat.succ_ne_self _, Nat.ne_of_lt hal, Nat.ne_of_lt (Nat.lt_succ_of_lt hal)⟩, fun b hb => ?_, q⟩
    have hle : s1.heap.objs.size ≤ b := by
      rcases (show b = s1.heap.objs.size + 1 ∨ b = s1.heap.objs.size by simpa using hb) with rfl | rfl
      · exact Nat.le_succ _
      · exact Nat.le_refl _
    exact I1.fpOk hle (I1.hok.fresh hle)
theorem walk_etup' {K : PySem.W.Frag} {a : Addr} {xs : List V} : Walk (Itte K a xs) xs.length (fun H => SqT K H a xs) (YPair (fun i => some (.int (i : Nat))) (fun i => xs[i]?)) :=
  ⟨fun _ _ hi q => ⟨q, hi⟩, fun _ q => ⟨q, rfl⟩, fun i H v H' _ q y => by
    obtain ⟨T, x, h1, h2, h3, h4⟩ := y
    exact ⟨T, .int (i : Nat), x, h1, h2, h3, rfl, h4⟩⟩
theorem steps_enumL {K : KK} {H0 : Hp} {a : Addr} {ds : List D} {lv : Sto → Prop} (h : ∀ H S, Ext H0 H → RelS K S H → lv S → ∃ vs, SqL K.k H a vs ∧ RDs K H ds vs) : Steps K false H0 (Ite K.k a) ⟨enD ds, lv⟩ := by
  refine ⟨fun H => ∃ vs, SqL K.k H a vs ∧ RDs K H ds vs, fun i H v H' => ∃ T x vs, v = .ref T ∧ H T = none ∧ H' = upd H T (.tup [.int (i : Nat), x]) ∧ RDs K H ds vs ∧ vs[i]? = some x, ⟨fun i H hi ⟨vs, h1, r⟩ => ?_, fun H ⟨vs, h1, r⟩ => ⟨vs, h1, ?_⟩, fun i H v H' hi ⟨vs, h1, r⟩ y => ?_⟩, h, ?_⟩
  · have : i < vs.length := by rw [← r.length, ← enD_len]; exact hi
    exact ⟨vs, vs[i], h1, by simp [this]⟩
  · show vs.length ≤ (enD ds).length
    rw [← r.length, enD_len]
    exact Nat.le_refl _
  · obtain ⟨T, x, h2, h3, h4, h5⟩ := y
    exact ⟨T, x, vs, h2, h3, h4, r, h5 vs h1⟩
  · rintro i H v H' e ⟨T, x, vs, rfl, nT, rfl, r, hx⟩
    obtain ⟨d, h1, h2⟩ := r.atv hx
    exact ⟨.new nT, fun S s => s.new nT, _, enD_at h1, rdw_pair nT (.int _) h2⟩
def diEnum (ta : DTA) : DTI := fun env S R => ta env S fun ds S1 => ∃ d w, ds = [d] ∧ Items S1 d w ∧ R ⟨enD w.items, w.live⟩ S1
theorem di_enum {ta : DTA} {elts : List Expr} {kk : Nat} {tpos : Pos} (hg : Gl X "enumerate") (hm : X.mg "enumerate" = none) (ha : DA X [e] ta) (hs : starEach [e] X.env = [(false, eval e X.env)] := by rfl) :
    DI X false (.Tuple elts kk tpos) (.Call (.Name "enumerate" p) [e] [] pos) (diEnum ta) := by
  refine ⟨(pi_enumA hg hm ha.run hs).of fun σ H R ⟨env, S, R0, rs, h, k⟩ => ⟨env, S, _, rs, h, fun ds S1 vs H1 ⟨d, w, hd, hw, q⟩ s1 r1 e1 => ?_⟩⟩
  subst hd
  obtain ⟨v, rfl, r⟩ := r1.inv1
  cases r with
  | tup ht r =>
    cases (show w = ⟨_, _⟩ from hw)
    refine ⟨_, _, rfl, .inr ⟨ht.sqT, k _ _ _ _ q s1 e1 (steps_pair walk_etup' (by rw [enD_len, r.length]) (fun H S e _ _ => (ht.ext e).sqT) fun i H x y hi e g hx hy => ?_)⟩⟩
    cases hx
    obtain ⟨d, h1, h2⟩ := (r.ext e).atv hy
    exact ⟨_, _, enD_at h1, .int _, h2⟩
  | wtup ht r =>
    cases (show w = ⟨_, _⟩ from hw)
    refine ⟨_, _, rfl, .inr ⟨.of ht, k _ _ _ _ q s1 e1 (steps_pair walk_etup' (by rw [enD_len, r.length]) (fun H S e _ _ => .of (e.2 _ _ ht)) fun i H x y hi e g hx hy => ?_)⟩⟩
    cases hx
    obtain ⟨d, h1, h2⟩ := (r.ext e).atv hy
    exact ⟨_, _, enD_at h1, .int _, h2⟩
  | rol ht r =>
    cases (show w = ⟨_, _⟩ from hw)
    refine ⟨_, _, rfl, .inl ⟨ht.sqL, k _ _ _ _ q s1 e1 (steps_pair walk_enum (by rw [enD_len, r.length]) (fun H S e _ _ => (ht.ext e).sqL) fun i H x y hi e g hx hy => ?_)⟩⟩
    cases hx
    obtain ⟨d, h1, h2⟩ := (r.ext e).atv hy
    exact ⟨_, _, enD_at h1, .int _, h2⟩
  | ref a =>
    obtain ⟨ds, hs', rfl⟩ := hw
    obtain ⟨vs, h1, r⟩ := s1.lst hs'
    refine ⟨_, _, rfl, .inl ⟨.of h1, k _ _ _ _ q s1 e1 (steps_enumL fun H S e s l => ?_)⟩⟩
    obtain ⟨vs', h2, r'⟩ := s.lst l
    exact ⟨vs', .of h2, r'⟩
  | _ => exact hw.elim
end
end Sv
namespace Sv
open PySem PySem.Spec PyProof.Rows L2
theorem wipe_in {σ : L2.St} {i : Nat} : ∀ {vs : List Nat}, i ∈ vs → i < σ.length → (wipe σ vs)[i]? = some none
  | v :: vs, h, hl => by
    unfold wipe
    by_cases z : v = i
    · subst z
      rw [List.getElem?_set_self (by rw [wipe_length]; exact hl)]
    · rw [List.getElem?_set_ne z]
      exact wipe_in ((List.mem_cons.mp h).resolve_left fun e => z e.symm) hl
theorem wipe_at {σ τ : L2.St} {vs : List Nat} (hl : τ.length = σ.length) (h : ∀ i, i ∉ vs → τ[i]? = σ[i]?) : wipe τ vs = wipe σ vs := by
  refine List.ext_getElem? fun i => ?_
  by_cases hi : i ∈ vs
  · by_cases z : i < σ.length
    · rw [wipe_in hi z, wipe_in hi (hl ▸ z)]
    · rw [List.getElem?_eq_none (by rw [wipe_length]; omega), List.getElem?_eq_none (by rw [wipe_length]; omega)]
  · rw [wipe_out hi, wipe_out hi, h i hi]
theorem wipe_off {σ τ : L2.St} {vs us : List Nat} (o : Off vs (wipe σ us) τ) (h : ∀ i ∈ vs, i ∈ us) : wipe τ us = wipe σ us :=
  wipe_at (by rw [o.1, wipe_length]) fun i hi => by rw [o.2 i fun z => hi (h i z), wipe_out hi]
def dwipe (env : Env) : List Nat → Env
  | [] => env
  | v :: vs => (dwipe env vs).set v none
theorem RS.wipe {K : KK} {σ : L2.St} {H : Hp} {env : Env} {S : Sto} (r : RS K σ H env S) : ∀ vs : List Nat, RS K (L2.wipe σ vs) H (dwipe env vs) S
  | [] => r
  | v :: vs => by
    have q := RS.wipe r vs
    refine ⟨by unfold dwipe L2.wipe; rw [List.length_set, List.length_set]; exact q.len, fun i d h => ?_, q.sto⟩
    unfold dwipe at h
    by_cases z : v = i
    · subst z
      by_cases hl : v < (dwipe env vs).length
      · rw [List.getElem?_set_self hl] at h
        cases h
      · rw [List.getElem?_eq_none (by rw [List.length_set]; omega)] at h
        cases h
    · rw [List.getElem?_set_ne z] at h
      obtain ⟨x, h1, h2⟩ := q.slot i d h
      exact ⟨x, by unfold L2.wipe; rw [List.getElem?_set_ne z]; exact h1, h2⟩
structure DTs (X : Cx) (ifs : List Expr) (t : DTT) : Prop where
  run : PTs X ifs (lT X.kk t)
theorem PTs.of {X : Cx} {ifs : List Expr} {t t' : TT} (h : PTs X ifs t) (q : ∀ σ H Q, t' σ H Q → t σ H Q) : PTs X ifs t' := ⟨fun pins s σ H Q I w => h.run pins s σ H Q I (q σ H Q w)⟩
def dYes : DTT := fun _ S R => R true S
theorem dts_nil {X : Cx} : DTs X [] dYes := ⟨PTs.of pts_nil fun σ H Q ⟨env, S, R, rs, q, k⟩ => k _ _ _ q rs.sto (.refl H)⟩
theorem dts_one {X : Cx} {c : Expr} {t : DTT} (h : DT X c t) : DTs X [c] t := ⟨pts_one h.run⟩
section
variable {X : Cx}
/-- [elt for target in iter if ..]: p the new list -/
def dLc (ti : DTI) (g : DTG) (tt : DTT) (te : DTE) (us : List Nat) : DTE := fun env S R => ti env S fun w S1 => ∀ p, S1 p = none → ∃ Pv : Nat → Sto → Prop, Pv 0 (S1.put p (.lst [])) ∧ (∀ i S, i ≤ w.items.length → Pv i S → w.live S) ∧
  (∀ i d S, w.items[i]? = some d → Pv i S → g d (dwipe env us) S fun env' S' => tt env' S' fun b S2 => if b = true then te env' S2 fun y S3 => ∃ acc, S3 p = some (.lst acc) ∧ acc.length < 1000000 ∧ Pv (i + 1) (S3.put p (.lst (acc ++ [y]))) else Pv (i + 1) S2) ∧
  ∀ S, Pv w.items.length S → R (.ref p) S
theorem app_rel {K : KK} {S : Sto} {H : Hp} {p : Addr} {acc : List D} {y : D} {v : V} (s : RelS K S H) (h : S p = some (.lst acc)) (hl : acc.length < 1000000) (r : RD K H y v) :
    ∃ vs, H p = some (.lst vs) ∧ vs.length < sizeLine ∧ RelS K (S.put p (.lst (acc ++ [y]))) (upd H p (.lst (vs ++ [v]))) ∧ Ext H (upd H p (.lst (vs ++ [v]))) := by
  obtain ⟨vs, h1, h2⟩ := s.lst h
  have e : Ext H (upd H p (.lst (vs ++ [v]))) := .put h1 trivial
  exact ⟨vs, h1, Nat.lt_of_lt_of_le (h2.length ▸ hl) (by decide), s.put h1 trivial ⟨_, upd_same, (h2.append (.cons r .nil)).ext e⟩, e⟩
theorem lE_lc {K : KK} {b : Bool} {ti : DTI} {g : DTG} {tt : DTT} {te : DTE} {us vs : List Nat} {σ : L2.St} {H : Hp} {Q : VK} (hv : ∀ i ∈ vs, i ∈ us) (h : lE K (dLc ti g tt te us) σ H Q) : tLc (lI K b ti) (lG K b vs g) (lT K tt) (lE K te) us σ H Q := by
  obtain ⟨env, S, R, rs, h, k⟩ := h
  refine ⟨env, S, _, rs, h, fun w S1 J H1 q s1 e1 st p np => ?_⟩
  obtain ⟨Pv, p0, lv, step, done⟩ := q p (s1.fresh np)
  obtain ⟨G, Y, wk, hG, hY⟩ := st.ex
  have s1' : RelS K (S1.put p (.lst [])) (upd H1 p (.lst [])) := s1.lay np ⟨_, upd_same, .nil⟩
  have e1' : Ext H1 (upd H1 p (.lst [])) := .new np
  refine lc_it wk (fun i H' => ∃ S', RelS K S' H' ∧ Ext H1 H' ∧ Pv i S') ⟨_, s1', e1', p0⟩ (fun i H' hi ⟨S', s', e', p'⟩ => hG H' S' e' s' (lv i S' hi p')) ?_ ?_
  · rintro i x H2 H3 hi ⟨S2, s2, e2, p2⟩ y
    obtain ⟨e3, hS, d, hd, rd⟩ := hY i H2 x H3 e2 y
    have e13 := e1.trans (e2.trans e3)
    refine ⟨d, dwipe env us, S2, _, rd, (rs.ext e13 (hS S2 s2)).wipe us, step i d S2 hd p2, fun env4 S4 σ4 H4 q4 rs4 e4 o4 => ⟨wipe_off o4 hv, env4, S4, _, rs4, q4, fun c S5 H5 q5 s5 e5 => ?_⟩⟩
    cases c with
    | false => exact ⟨S5, s5, e2.trans (e3.trans (e4.trans e5)), q5⟩
    | true =>
      refine ⟨env4, S5, _, rs4.ext e5 s5, q5, fun y S6 v H6 ⟨acc, h1, h2, q6⟩ s6 r6 e6 => ?_⟩
      obtain ⟨vs', h3, h4, s7, e7⟩ := app_rel s6 h1 h2 r6
      exact ⟨vs', h3, h4, _, s7, e2.trans (e3.trans (e4.trans (e5.trans (e6.trans e7)))), q6⟩
  · rintro H2 ⟨S2, s2, e2, p2⟩
    exact k _ _ _ _ (done S2 p2) s2 (.ref p) (e1.trans e2)
variable {elt tg iter : Expr} {ifs : List Expr} {scope : Scope} {own : List (Str × Nat)} {vs : List Nat} {pos spos : Pos} {b : Bool} {ti : DTI} {g : DTG} {tt : DTT} {te : DTE}
theorem de_lc (hc : X.calm = true) (hN : X.N.Nodup) (hi : DI X b tg iter ti) (ok : BlkOk X.N X.env.scope scope own) (hv : ∀ i ∈ vs, i ∈ own.map (·.2))
    (hg : ∀ (s : Shared) (H : Hp) (C : Addr) (cl : List (Str × Addr)) (fp : List Addr), DG (X.blk s H scope (compEnvC scope cl C X.env) fp) b vs tg g) (ht : ∀ (s : Shared) (H : Hp) (C : Addr) (cl : List (Str × Addr)) (fp : List Addr), DTs (X.blk s H scope (compEnvC scope cl C X.env) fp) ifs tt)
    (he : ∀ (s : Shared) (H : Hp) (C : Addr) (cl : List (Str × Addr)) (fp : List Addr), DE (X.blk s H scope (compEnvC scope cl C X.env) fp) elt te) (hs : ∀ x, foldedSetIterable iter X.env x = pure x := by intro _; rfl) :
    DE X (.ListComp elt [⟨tg, iter, ifs, 0⟩] scope pos) (dLc ti g tt te (own.map (·.2))) :=
  ⟨(pe_lc (te := lE X.kk te) hc hN hi.run ok (fun s H C cl fp => (hg s H C cl fp).run) (fun s H C cl fp => (ht s H C cl fp).run) (fun s H C cl fp => (he s H C cl fp).run) hs).of fun _ _ _ => lE_lc hv⟩
theorem ds_setLc {i : Nat} {y : Str} {py : Pos} (hc : X.calm = true) (hN : X.N.Nodup) (hy : X.N[i]? = some y) (hyl : X.env.scope.names.lookup y = some .local)
    (hsw : swapsWith (.ListComp elt [⟨tg, iter, ifs, 0⟩] scope pos) (some (.Name y py)) spos.line X.env = pure true) (hi : DI X b tg iter ti) (ok : BlkOk X.N X.env.scope scope own) (hv : ∀ i ∈ vs, i ∈ own.map (·.2))
    (hg : ∀ (s : Shared) (H : Hp) (C : Addr) (cl : List (Str × Addr)) (fp : List Addr), DG (X.blk s H scope (compEnvC scope cl C X.env) fp) b vs tg g) (ht : ∀ (s : Shared) (H : Hp) (C : Addr) (cl : List (Str × Addr)) (fp : List Addr), DTs (X.blk s H scope (compEnvC scope cl C X.env) fp) ifs tt)
    (he : ∀ (s : Shared) (H : Hp) (C : Addr) (cl : List (Str × Addr)) (fp : List Addr), DE (X.blk s H scope (compEnvC scope cl C X.env) fp) elt te) (hs : ∀ x, foldedSetIterable iter X.env x = pure x := by intro _; rfl) :
    DS X (.Assign [.Name y py] (.ListComp elt [⟨tg, iter, ifs, 0⟩] scope pos) spos) (dAsg (dLc ti g tt te (own.map (·.2))) (dgName i)) := by
  refine ⟨(ps_setLc (g := lG X.kk b vs g) (tt := lT X.kk tt) (te := lE X.kk te) hc hN hy hyl hsw hi.run ok (fun s H C cl fp => (hg s H C cl fp).run) (fun s H C cl fp => (ht s H C cl fp).run) (fun s H C cl fp => (he s H C cl fp).run) hs).of fun σ H B h => ?_⟩
  obtain ⟨env, S, C, rs, h, k, _⟩ := h
  exact lE_lc hv ⟨env, S, _, rs, h, fun d S1 v H1 q s1 r1 e1 => k _ _ _ _ q ((rs.ext e1 s1).set i r1) e1⟩
end
end Sv
namespace Sv
open PySem PySem.Spec PyProof.Rows L2
mutual
inductive Py (S : Sto) : D → PyData → Prop
  | non : Py S .non .none
  | bl (b : Bool) : Py S (.bl b) (.bool b)
  | int (i : Int) : Py S (.int i) (.int i)
  | str (x : Str) : Py S (.str x) (.str x)
  | tup {ds : List D} {ps : List PyData} : Pys S ds ps → Py S (.tup ds) (.tuple ps)
  | rol {ds : List D} {ps : List PyData} : Pys S ds ps → Py S (.rol ds) (.list ps)
  | wtup {ds : List D} {ps : List PyData} : Pys S ds ps → Py S (.wtup ds) (.tuple ps)
  | lst {a : Addr} {ds : List D} {ps : List PyData} : S a = some (.lst ds) → Pys S ds ps → Py S (.ref a) (.list ps)
inductive Pys (S : Sto) : List D → List PyData → Prop
  | nil : Pys S [] []
  | cons {d : D} {ds : List D} {p : PyData} {ps : List PyData} : Py S d p → Pys S ds ps → Pys S (d :: ds) (p :: ps)
end
section
variable {K : KK} {S : Sto} {H : Hp}
mutual
theorem Py.dp (s : RelS K S H) : ∀ {d : D} {p : PyData} {v : V}, Py S d p → RD K H d v → Dp K.k H v p
  | _, _, _, .non, .non => .non
  | _, _, _, .bl b, .bl _ => .bl b
  | _, _, _, .int i, .int _ => .int i
  | _, _, _, .str x, .str _ => .str x
  | _, _, _, .tup h, .tup t r => .tup t.sqT (Pys.dp s h r)
  | _, _, _, .rol h, .rol t r => .lst t.sqL (Pys.dp s h r)
  | _, _, _, .wtup h, .wtup t r => .tup (.of t) (Pys.dp s h r)
  | _, _, _, .lst e h, .ref _ => let ⟨vs, q, r⟩ := s.lst e; .lst (.of q) (Pys.dp s h r)
theorem Pys.dp (s : RelS K S H) : ∀ {ds : List D} {ps : List PyData} {vs : List V}, Pys S ds ps → RDs K H ds vs → DpAll K.k H vs ps
  | _, _, _, .nil, .nil => .nil
  | _, _, _, .cons h t, .cons r q => .cons (Py.dp s h r) (Pys.dp s t q)
end
end
def rAdd : DR2 := fun x y S R => match x, y with
  | .int i, .int j => R (.int (i + j)) S
  | .tup xs, .tup ys => xs.length + ys.length ≤ 100000 ∧ R (.tup (xs ++ ys)) S
  | .str a, .str b => a.length + b.length ≤ 100000 ∧ R (.str (a ++ b)) S
  | .ref a, .ref b => ∃ xs ys, S a = some (.lst xs) ∧ S b = some (.lst ys) ∧ xs.length + ys.length ≤ 100000 ∧ ∀ p, S p = none → R (.ref p) (S.put p (.lst (xs ++ ys)))
  | _, _ => False
def rSub : DR2 := fun x y S R => match x, y with
  | .int i, .int j => R (.int (i - j)) S
  | _, _ => False
def rMul : DR2 := fun x y S R => match x, y with
  | .int i, .int j => CMul i j ∧ R (.int (i * j)) S
  | .tup xs, .int k => xs ≠ [] ∧ 1 ≤ k ∧ k ≤ 1000 ∧ xs.length ≤ 1000 ∧ R (.tup (List.replicate k.toNat xs).flatten) S
  | .ref a, .int k => ∃ xs, S a = some (.lst xs) ∧ 0 ≤ k ∧ k ≤ 1000 ∧ xs.length ≤ 1000 ∧ ∀ p, S p = none → R (.ref p) (S.put p (.lst (List.replicate k.toNat xs).flatten))
  | _, _ => False
def rDiv : DR2 := fun x y S R => match x, y with
  | .int i, .int j => CDiv i j ∧ R (.int (i / j)) S
  | _, _ => False
def rMod : DR2 := fun x y S R => match x, y with
  | .int i, .int j => 0 < j ∧ R (.int (i % j)) S
  | _, _ => False
def rPow : DR2 := fun x y S R => match x, y with
  | .int i, .int j => CPow i j ∧ R (.int (i ^ j.toNat)) S
  | _, _ => False
section
variable {X : Cx}
theorem cat_frz {pins : List (Addr × Obj)} {σ : L2.St} {H : Hp} {s : Shared} {a b : Addr} {xs ys : List V} {Q : VK} (I : Inv X pins σ H s) (ha : TupN H a xs) (hb : TupN H b ys) (hz : xs.length + ys.length ≤ sizeLine)
    (q : ∀ (H' : Hp) (p : Addr), Same H H' → (∀ b, H b ≠ none → H' b = H b) → TupN H' p (xs ++ ys) → Q (.ref p) H') (q2 : ∀ (p : Addr) (o : Obj), H p = none → o.dict = none → Q (.ref p) (upd H p (.frz o (.tup (xs ++ ys))))) : wpAny (model X.prog X.w) X.A (binaryOp .Add (.ref a) (.ref b)) (EP X pins σ Q) X.xe s := by
  obtain ⟨its, r1, p1, _⟩ := I.tuple (ha.sqT (K := X.K))
  obtain ⟨its2, r2, p2, _⟩ := I.tuple (hb.sqT (K := X.K))
  by_cases hx : its = []
  · subst hx
    have e1 : xs = [] := r1.nil_iff.mp rfl
    subst e1
    exact cat_tup0 p1 p2 ⟨.ref b, H, I, rfl, q H b (fun _ _ h => h) (fun _ _ => rfl) hb⟩
  · have hl : its.length + its2.length ≤ sizeLine := by rw [← r1.length, ← r2.length]; exact hz
    refine HT.cat_tup p1 p2 hx (fun z => ?_) (fun _ => ?_) hl
    · subst z
      have e2 : ys = [] := r2.nil_iff.mp rfl
      subst e2
      exact ⟨.ref a, H, I, rfl, q H a (fun _ _ h => h) (fun _ _ => rfl) (by rw [List.append_nil]; exact ha)⟩
    · have hg := Heap.get?_push_size s.heap (o := { cls := .type "tuple", data := .seq (its ++ its2).toArray }) rfl
      refine ⟨.ref s.heap.objs.size, _, I.laid (t' := s.toks) (o := .frz { cls := .type "tuple", data := .seq (its ++ its2).toArray } (.tup (xs ++ ys))) (fun b ob q => Heap.get?_push_of_some _ q) (Nat.le_refl _) ?_, rfl, q2 _ _ (I.hok.fresh (Nat.le_refl _)) rfl⟩
      exact ⟨hg, by rw [List.length_append]; exact hz, _, r1.append r2, ⟨_, hg, rfl, _, rfl⟩⟩
theorem big5 {n : Nat} (h : n ≤ 100000) : n ≤ sizeLine := Nat.le_trans h (by decide)
theorem o_add : OpR X (binaryOp .Add) (l2 X.kk rAdd) := by
  intro pins s σ H x y v u Q I rx ry ⟨d, e, S, R, r1, r2, s1, h, k⟩
  cases r1 with
  | int i =>
    cases r2 with
    | int j => exact op_add pins s σ H _ _ v u Q I rx ry ⟨i, j, rfl, rfl, k _ _ _ _ h s1 (.int _) (.refl H)⟩
    | _ => exact h.elim
  | str i =>
    cases r2 with
    | str j => exact op_add_str pins s σ H _ _ v u Q I rx ry ⟨i, j, rfl, rfl, big5 h.1, k _ _ _ _ h.2 s1 (.str _) (.refl H)⟩
    | _ => exact h.elim
  | tup t1 q1 =>
    cases r2 with
    | tup t2 q2 =>
      cases rx
      cases ry
      refine cat_frz I t1 t2 (by rw [← q1.length, ← q2.length]; exact big5 h.1) (fun H' p sm same t => ?_) fun p o np ho => ?_
      · exact k _ _ _ _ h.2 (fun a o e => (s1 a o e).ext (.of sm) (same a fun z => by obtain ⟨u, q, _⟩ := (s1 a o e).mut; rw [z] at q; cases q)) (.tup t ((q1.append q2).ext (.of sm))) (.of sm)
      · exact k _ _ _ _ h.2 (s1.new np) (.tup (.new ho) ((q1.append q2).ext (.new np))) (.new np)
    | _ => exact h.elim
  | ref a =>
    cases r2 with
    | ref b =>
      obtain ⟨xs, ys, h1, h2, hz, q⟩ := h
      obtain ⟨vs, e1, q1⟩ := s1.lst h1
      obtain ⟨ws, e2, q2⟩ := s1.lst h2
      exact op_cat pins s σ H _ _ v u Q I rx ry ⟨a, b, vs, ws, rfl, rfl, e1, e2, by rw [← q1.length, ← q2.length]; exact big5 hz, fun p np =>
        k _ _ _ _ (q p (s1.fresh np)) (s1.lay np ⟨_, upd_same, (q1.append q2).ext (.new np)⟩) (.ref p) (.new np)⟩
    | _ => exact h.elim
  | _ => exact h.elim
theorem o_sub : OpR X (binaryOp .Sub) (l2 X.kk rSub) := by
  intro pins s σ H x y v u Q I rx ry ⟨d, e, S, R, r1, r2, s1, h, k⟩
  cases r1 with
  | int i =>
    cases r2 with
    | int j => exact op_sub pins s σ H _ _ v u Q I rx ry ⟨i, j, rfl, rfl, k _ _ _ _ h s1 (.int _) (.refl H)⟩
    | _ => exact h.elim
  | _ => exact h.elim
theorem o_div : OpR X (binaryOp .FloorDiv) (l2 X.kk rDiv) := by
  intro pins s σ H x y v u Q I rx ry ⟨d, e, S, R, r1, r2, s1, h, k⟩
  cases r1 with
  | int i =>
    cases r2 with
    | int j => exact op_fdiv pins s σ H _ _ v u Q I rx ry ⟨i, j, rfl, rfl, h.1, k _ _ _ _ h.2 s1 (.int _) (.refl H)⟩
    | _ => exact h.elim
  | _ => exact h.elim
theorem o_mod : OpR X (binaryOp .Mod) (l2 X.kk rMod) := by
  intro pins s σ H x y v u Q I rx ry ⟨d, e, S, R, r1, r2, s1, h, k⟩
  cases r1 with
  | int i =>
    cases r2 with
    | int j => exact op_mod pins s σ H _ _ v u Q I rx ry ⟨i, j, rfl, rfl, h.1, k _ _ _ _ h.2 s1 (.int _) (.refl H)⟩
    | _ => exact h.elim
  | _ => exact h.elim
theorem o_pow : OpR X (binaryOp .Pow) (l2 X.kk rPow) := by
  intro pins s σ H x y v u Q I rx ry ⟨d, e, S, R, r1, r2, s1, h, k⟩
  cases r1 with
  | int i =>
    cases r2 with
    | int j => exact op_pow pins s σ H _ _ v u Q I rx ry ⟨i, j, rfl, rfl, h.1, k _ _ _ _ h.2 s1 (.int _) (.refl H)⟩
    | _ => exact h.elim
  | _ => exact h.elim
def rCmp (f : Int → Int → Bool) : DR2 := fun x y S R => match x, y with
  | .int i, .int j => R (.bl (f i j)) S
  | _, _ => False
theorem o_cmp {op : CmpOp} {f : Int → Int → Bool} (ho : OpR X (compareOp op) (rI0 fun i j => .bl (f i j))) : OpR X (compareOp op) (l2 X.kk (rCmp f)) := by
  intro pins s σ H x y v u Q I rx ry ⟨d, e, S, R, r1, r2, s1, h, k⟩
  cases r1 with
  | int i =>
    cases r2 with
    | int j => exact ho pins s σ H _ _ v u Q I rx ry ⟨i, j, rfl, rfl, k _ _ _ _ h s1 (.bl _) (.refl H)⟩
    | _ => exact h.elim
  | _ => exact h.elim
theorem o_lt : OpR X (compareOp .Lt) (l2 X.kk (rCmp fun i j => decide (i < j))) := o_cmp op_lt
theorem o_le : OpR X (compareOp .LtE) (l2 X.kk (rCmp fun i j => decide (i ≤ j))) := o_cmp op_le
theorem o_gt : OpR X (compareOp .Gt) (l2 X.kk (rCmp fun i j => decide (j < i))) := o_cmp op_gt
theorem o_ge : OpR X (compareOp .GtE) (l2 X.kk (rCmp fun i j => decide (j ≤ i))) := o_cmp op_ge
/-- == : ints, texts and bools at once, the rest as data -/
def rEqq (n : Bool) : DR2 := fun x y S R => match x, y with
  | .int i, .int j => R (.bl (decide (i = j) ^^ n)) S
  | .str i, .str j => R (.bl (decide (i = j) ^^ n)) S
  | .bl i, .bl j => R (.bl (decide (i = j) ^^ n)) S
  | _, _ => ∃ p q, Py S x p ∧ Py S y q ∧ SeqAt.shaped p = true ∧ SeqAt.shaped q = true ∧ R (.bl (PyData.eqv p q ^^ n)) S
theorem xor_ff (b : Bool) : (b ^^ false) = b := by cases b <;> rfl
theorem xor_tt (b : Bool) : (b ^^ true) = !b := by cases b <;> rfl
theorem o_eq (hu : X.A.units + 64 < cLine) : OpR X (compareOp .Eq) (l2 X.kk (rEqq false)) := by
  intro pins s σ H x y v u Q I rx ry ⟨d, e, S, R, r1, r2, s1, h, k⟩
  have dat : (∃ p q, Py S d p ∧ Py S e q ∧ SeqAt.shaped p = true ∧ SeqAt.shaped q = true ∧ R (.bl (PyData.eqv p q ^^ false)) S) → wpAny (model X.prog X.w) X.A (compareOp .Eq v u) (EP X pins σ Q) X.xe s := by
    rintro ⟨p, q, h1, h2, h3, h4, h5⟩
    rw [xor_ff] at h5
    exact op_eqD hu pins s σ H _ _ v u Q I rx ry ⟨p, q, h1.dp s1 r1, h2.dp s1 r2, h3, h4, k _ _ _ _ h5 s1 (.bl _) (.refl H)⟩
  have fl : ∀ {b : Bool}, decide (x = y) = b → scal x y = true → R (.bl (b ^^ false)) S → wpAny (model X.prog X.w) X.A (compareOp .Eq v u) (EP X pins σ Q) X.xe s := fun {b} hb hs q => by
    rw [xor_ff] at q
    exact op_eq pins s σ H _ _ v u Q I rx ry ⟨hs, by rw [hb]; exact k _ _ _ _ q s1 (.bl _) (.refl H)⟩
  cases r1 with
  | int i =>
    cases r2 with
    | int j => exact fl (by simp) rfl h
    | _ => exact dat h
  | str i =>
    cases r2 with
    | str j => exact fl (by simp) rfl h
    | _ => exact dat h
  | bl i =>
    cases r2 with
    | bl j => exact fl (by simp) rfl h
    | _ => exact dat h
  | _ => exact dat h
theorem o_ne (hu : X.A.units + 64 < cLine) : OpR X (compareOp .NotEq) (l2 X.kk (rEqq true)) := by
  intro pins s σ H x y v u Q I rx ry ⟨d, e, S, R, r1, r2, s1, h, k⟩
  have dat : (∃ p q, Py S d p ∧ Py S e q ∧ SeqAt.shaped p = true ∧ SeqAt.shaped q = true ∧ R (.bl (PyData.eqv p q ^^ true)) S) → wpAny (model X.prog X.w) X.A (compareOp .NotEq v u) (EP X pins σ Q) X.xe s := by
    rintro ⟨p, q, h1, h2, h3, h4, h5⟩
    rw [xor_tt] at h5
    exact op_neD hu pins s σ H _ _ v u Q I rx ry ⟨p, q, h1.dp s1 r1, h2.dp s1 r2, h3, h4, k _ _ _ _ h5 s1 (.bl _) (.refl H)⟩
  have fl : ∀ {b : Bool}, decide (x = y) = b → scal x y = true → R (.bl (b ^^ true)) S → wpAny (model X.prog X.w) X.A (compareOp .NotEq v u) (EP X pins σ Q) X.xe s := fun {b} hb hs q => by
    rw [xor_tt] at q
    exact op_ne pins s σ H _ _ v u Q I rx ry ⟨hs, by rw [hb]; exact k _ _ _ _ q s1 (.bl _) (.refl H)⟩
  cases r1 with
  | int i =>
    cases r2 with
    | int j => exact fl (by simp) rfl h
    | _ => exact dat h
  | str i =>
    cases r2 with
    | str j => exact fl (by simp) rfl h
    | _ => exact dat h
  | bl i =>
    cases r2 with
    | bl j => exact fl (by simp) rfl h
    | _ => exact dat h
  | _ => exact dat h
end
end Sv
namespace Sv
open PySem PySem.Spec PyProof.Rows L2
section
variable {X : Cx} {a b e : Expr} {es : List Expr} {ta tb te : DTE} {tl : DTA} {pos : Pos}
/-- the items of a sequence -/
def seqOf (S : Sto) : D → Option (List D)
  | .tup ds => some ds
  | .rol ds => some ds
  | .wtup ds => some ds
  | .ref a => match S a with
    | some (.lst ds) => some ds
    | _ => none
  | _ => none
theorem seqOf_ref {S : Sto} {a : Addr} {ds : List D} (h : seqOf S (.ref a) = some ds) : S a = some (.lst ds) := by
  have h : (match S a with
    | some (.lst ds) => some ds
    | _ => none) = some ds := h
  split at h
  · rename_i e
    rw [e]
    cases h
    rfl
  · cases h
theorem seqOf_lst {S : Sto} {a : Addr} {ds : List D} (h : S a = some (.lst ds)) : seqOf S (.ref a) = some ds := by
  show (match S a with
    | some (.lst ds) => some ds
    | _ => none) = some ds
  rw [h]
theorem seq_rel {K : KK} {S : Sto} {H : Hp} {d : D} {v : V} {ds : List D} (s : RelS K S H) (r : RD K H d v) (h : seqOf S d = some ds) : ∃ p vs, v = .ref p ∧ (SqL K.k H p vs ∨ SqT K.k H p vs) ∧ RDs K H ds vs := by
  cases r with
  | tup t q => cases h; exact ⟨_, _, rfl, .inr t.sqT, q⟩
  | rol t q => cases h; exact ⟨_, _, rfl, .inl t.sqL, q⟩
  | wtup t q => cases h; exact ⟨_, _, rfl, .inr (.of t), q⟩
  | ref a =>
    obtain ⟨vs, e, q⟩ := s.lst (seqOf_ref h)
    exact ⟨a, vs, rfl, .inl (.of e), q⟩
  | _ => cases h
theorem atI_rel {K : KK} {H : Hp} {ds : List D} {vs : List V} {i : Int} {d : D} (r : RDs K H ds vs) (h : atI ds i = some d) : ∃ v, atI vs i = some v ∧ RD K H d v := by
  unfold atI at h ⊢
  rw [← r.length]
  obtain ⟨j, h1, h2⟩ := Option.bind_eq_some_iff.mp h
  obtain ⟨v, h3, h4⟩ := r.at h2
  exact ⟨v, by rw [h1]; exact h3, h4⟩
/-- x[i] -/
def rIxq : DR2 := fun x y S R => ∃ ds i d, seqOf S x = some ds ∧ y = .int i ∧ atI ds i = some d ∧ R d S
theorem o_ix : IxR X (l2 X.kk rIxq) := by
  intro value slice pins s σ H x y v u Q I rx ry h hs
  obtain ⟨d, e, S, R, r1, r2, s1, ⟨ds, i, z, hd, rfl, hi, q⟩, k⟩ := h
  cases r2
  obtain ⟨p, vs, rfl, hq, r⟩ := seq_rel s1 r1 hd
  obtain ⟨w, hw, rw'⟩ := atI_rel r hi
  refine ix_seq value slice pins s σ H _ _ v u Q I rx ry ?_ hs
  have fin := k _ _ _ _ q s1 rw' (.refl H)
  rcases hq with hq | hq
  · exact .inl ⟨p, vs, i, w, rfl, rfl, hq, hw, fin⟩
  · exact .inr (.inl ⟨p, vs, i, w, rfl, rfl, hq, hw, fin⟩)
theorem de_ix {r : DR2} (hr : IxR X (l2 X.kk r)) (ha : DE X a ta) (hb : DE X b tb) (hs : PlainIx b := by intro _ _; rfl) : DE X (.Subscript a b pos) (dBin r ta tb) := ⟨(pe_ix hr ha.run hb.run hs).of fun _ _ _ => l2_bin⟩
abbrev DTO := Env → Sto → (Option Int → Sto → Prop) → Prop
def lO (K : KK) (t : DTO) : TO := fun σ H Q => ∃ env S R, RS K σ H env S ∧ t env S R ∧ ∀ o S' H', R o S' → RelS K S' H' → Ext H H' → Q o H'
structure DO (X : Cx) (e : Option Expr) (t : DTO) : Prop where
  run : PO X e (lO X.kk t)
theorem _root_.L2.PO.of {e : Option Expr} {t t' : TO} (h : PO X e t) (q : ∀ σ H Q, t' σ H Q → t σ H Q) : PO X e t' := ⟨fun pins s σ H Q I w => h.run pins s σ H Q I (q σ H Q w)⟩
def dNoP : DTO := fun _ S R => R none S
def dPart (t : DTE) : DTO := fun env S R => t env S fun d S1 => ∃ i, d = .int i ∧ R (some i) S1
theorem do_none : DO X none dNoP := ⟨po_none.of fun σ H Q ⟨env, S, R, rs, q, k⟩ => k _ _ _ q rs.sto (.refl H)⟩
theorem do_some (h : DE X e te) : DO X (some e) (dPart te) := ⟨(po_some h.run).of fun σ H Q ⟨env, S, R, rs, h, k⟩ => ⟨env, S, _, rs, h, fun d S1 v H1 ⟨i, z, q⟩ s1 r1 e1 => by
  subst z
  cases r1
  exact ⟨i, rfl, k _ _ _ q s1 e1⟩⟩⟩
def cutD (xs : List D) (lo hi : Option Int) : List D := (xs.drop (HT.sIx xs.length 0 lo)).take (HT.sIx xs.length xs.length hi - HT.sIx xs.length 0 lo)
theorem RDs.cut {K : KK} {H : Hp} {ds : List D} {vs : List V} (r : RDs K H ds vs) (lo hi : Option Int) : RDs K H (cutD ds lo hi) (cutV vs lo hi) := by
  unfold cutD cutV
  rw [r.length]
  exact (r.drop _).take _
/-- x[lo:hi] -/
def rSlq : D → Option Int → Option Int → Sto → DK → Prop := fun x lo hi S R => match x with
  | .tup ds => R (.tup (cutD ds lo hi)) S
  | .rol ds => ∀ p, S p = none → R (.ref p) (S.put p (.lst (cutD ds lo hi)))
  | .ref a => ∃ ds, S a = some (.lst ds) ∧ ∀ p, S p = none → R (.ref p) (S.put p (.lst (cutD ds lo hi)))
  | _ => False
def lSl (K : KK) (r : D → Option Int → Option Int → Sto → DK → Prop) : V → Option Int → Option Int → Hp → VK → Prop := fun x lo hi H Q => ∃ d S R, RD K H d x ∧ RelS K S H ∧ r d lo hi S R ∧ ∀ z S' v H', R z S' → RelS K S' H' → RD K H' z v → Ext H H' → Q v H'
theorem o_sl : SlR X (lSl X.kk rSlq) := by
  intro pins s σ H x v vl vu lo hi sl Q I rx hs pl pu ⟨d, S, R, r1, s1, h, k⟩
  cases r1 with
  | tup t q =>
    refine (sl_tupA.or sl_tupF) pins s σ H _ v vl vu lo hi sl Q I rx hs pl pu ?_
    rename_i a ds vs
    by_cases hw : HT.sIx vs.length 0 lo = 0 ∧ HT.sIx vs.length vs.length hi = vs.length
    · refine .inl ⟨a, vs, rfl, t.sqT, fun _ => k _ _ _ _ h s1 ?_ (.refl H), fun z => absurd hw z⟩
      have e : cutD ds lo hi = ds := by
        unfold cutD
        rw [q.length, hw.1, hw.2, List.drop_zero, Nat.sub_zero, ← q.length, List.take_length]
      rw [e]
      exact .tup t q
    · exact .inr ⟨a, vs, rfl, t.sqT, hw, fun p o np ho => k _ _ _ _ h (s1.new np) (.tup (.new ho) ((q.cut lo hi).ext (.new np))) (.new np)⟩
  | rol t q => exact sl_list pins s σ H _ v vl vu lo hi sl Q I rx hs pl pu ⟨_, _, rfl, t.sqL, fun p np => k _ _ _ _ (h p (s1.fresh np)) (s1.lay np ⟨_, upd_same, (q.cut lo hi).ext (.new np)⟩) (.ref p) (.new np)⟩
  | ref a =>
    obtain ⟨ds, h1, h⟩ := h
    obtain ⟨vs, e, q⟩ := s1.lst h1
    exact sl_list pins s σ H _ v vl vu lo hi sl Q I rx hs pl pu ⟨_, _, rfl, .of e, fun p np => k _ _ _ _ (h p (s1.fresh np)) (s1.lay np ⟨_, upd_same, (q.cut lo hi).ext (.new np)⟩) (.ref p) (.new np)⟩
  | _ => exact h.elim
def dSl (te : DTE) (tlo thi : DTO) : DTE := fun env S R => te env S fun d S1 => tlo env S1 fun lo S2 => thi env S2 fun hi S3 => rSlq d lo hi S3 R
theorem de_sl {lo hi : Option Expr} {tlo thi : DTO} {p2 : Pos} (he : DE X e te) (hl : DO X lo tlo) (hu : DO X hi thi) : DE X (.Subscript e (.Slice lo hi none p2) pos) (dSl te tlo thi) := by
  refine ⟨(pe_slice o_sl he.run hl.run hu.run).of fun σ H Q ⟨env, S, R, rs, h, k⟩ => ⟨env, S, _, rs, h, fun d S1 v H1 q s1 r1 e1 => ⟨env, S1, _, rs.ext e1 s1, q, fun lo S2 H2 q2 s2 e2 => ⟨env, S2, _, rs.ext (e1.trans e2) s2, q2, fun hi S3 H3 q3 s3 e3 => ?_⟩⟩⟩⟩
  exact ⟨d, S3, R, r1.ext (e2.trans e3), s3, q3, fun z S4 w H4 q4 s4 r4 e4 => k _ _ _ _ q4 s4 r4 (e1.trans (e2.trans (e3.trans e4)))⟩
def dSub (to ti : DTE) : DTG := fun d env S R => to env S fun o S1 => ti env S1 fun i S2 => ∃ a ds k j, o = .ref a ∧ i = .int k ∧ S2 a = some (.lst ds) ∧ ixN ds.length k = some j ∧ R env (S2.put a (.lst (ds.set j d)))
theorem dg_sub {o i : Expr} {to ti : DTE} (ho : DE X o to) (hi : DE X i ti)
    (ha : ∀ v, assign (.Subscript o i pos) X.env v = (do
      let ov ← holding [v] (eval o X.env)
      let iv ← holding [v, ov] (eval i X.env)
      standAt pos
      holding [v, ov, iv] (setItem ov iv v)
      release [v, ov, iv] []) := by intro _; rfl) : DG X true [] (.Subscript o i pos) (dSub to ti) := by
  refine ⟨(pg_sub ho.run hi.run set_list ha).of fun v σ H Q ⟨d, env, S, R, r, rs, h, k⟩ => ⟨env, S, _, rs, h, fun o S1 ov H1 q1 s1 r1 e1 => ⟨env, S1, _, rs.ext e1 s1, q1, fun i S2 iv H2 q2 s2 r2 e2 => ?_⟩⟩⟩
  obtain ⟨a, ds, kk, j, rfl, rfl, hs, hj, q⟩ := q2
  cases r1
  cases r2
  obtain ⟨vs, h1, q1⟩ := s2.lst hs
  have rd : RD X.kk H d v := by
    rcases r with r | ⟨z, _⟩
    · exact r
    · cases z
  refine ⟨a, vs, kk, j, rfl, rfl, h1, by rw [← q1.length]; exact hj, ?_⟩
  have e3 : Ext H2 (upd H2 a (.lst (vs.set j v))) := .put h1 trivial
  have e := e1.trans (e2.trans e3)
  exact k _ _ _ _ q (rs.ext e (s2.put h1 trivial ⟨_, upd_same, (q1.set (rd.ext (e1.trans e2)) j).ext e3⟩)) e (.refl _ _)
/-- x in seq, as data -/
def rInq (n : Bool) : DR2 := fun x y S R => ∃ p ps, Py S x p ∧ (Py S y (.list ps) ∨ Py S y (.tuple ps)) ∧ SeqAt.shaped p = true ∧ SeqAt.shaped (.tuple ps) = true ∧ SeqAt.shaped (.list ps) = true ∧ R (.bl ((ps.any fun z => PyData.eqv z p) ^^ n)) S
end
end Sv
namespace Sv
open PySem PySem.Spec PyProof.Rows L2
section
variable {X : Cx} {a b e : Expr} {es : List Expr} {ta tb te : DTE} {tl : DTA} {pos : Pos}
theorem o_in (hu : X.A.units + 65 < cLine) : OpR X (compareOp .In) (l2 X.kk (rInq false)) := by
  intro pins s σ H x y v u Q I rx ry ⟨d, e, S, R, r1, r2, s1, ⟨p, ps, h1, h2, h3, h4, h5, q⟩, k⟩
  rw [xor_ff] at q
  have fin := k _ _ _ _ q s1 (.bl _) (.refl H)
  obtain ⟨as, ra⟩ := Dp.reads I p x v (h1.dp s1 r1) rx
  rcases h2 with h2 | h2
  · exact op_inD hu pins s σ H _ _ v u Q I rx ry ⟨p, ps, h1.dp s1 r1, h2.dp s1 r2, h3, h5, fin⟩
  · obtain ⟨bs, rb⟩ := Dp.reads I (.tuple ps) y u (h2.dp s1 r2) ry
    exact SeqAt.in_tuple_reads rb ra (SeqAt.canLay_of_shaped h4) (SeqAt.canLay_of_shaped h3) (room_in_shaped h3 hu) ⟨.bl _, H, I, rfl, fin⟩
def rLen : DRC := fun ds S R => ∃ d xs, ds = [d] ∧ seqOf S d = some xs ∧ R (.int xs.length) S
theorem b_len : CallR X (.builtin "len") (lC X.kk rLen) := by
  intro pins s σ H vs us Q I r ⟨ds, S, R, r1, s1, ⟨d, xs, hd, hx, q⟩, k⟩
  subst hd
  obtain ⟨v, rfl, rv⟩ := r1.inv1
  obtain ⟨p, ws, rfl, hq, rw'⟩ := seq_rel s1 rv hx
  refine call_len pins s σ H _ us Q I r ⟨.ref p, ws.length, rfl, ?_, ?_⟩
  · rcases hq with hq | hq
    · exact .inl ⟨ws, hq, rfl⟩
    · exact .inr ⟨ws, hq, rfl⟩
  · rw [← rw'.length]
    exact k _ _ _ _ q s1 (.int _) (.refl H)
def rAbs : DRC := fun ds S R => ∃ i, ds = [.int i] ∧ R (.int (if i < 0 then -i else i)) S
theorem b_abs : CallR X (.builtin "abs") (lC X.kk rAbs) := by
  intro pins s σ H vs us Q I r ⟨ds, S, R, r1, s1, ⟨i, hd, q⟩, k⟩
  subst hd
  obtain ⟨v, rfl, rv⟩ := r1.inv1
  cases rv
  exact call_abs pins s σ H _ us Q I r ⟨i, rfl, k _ _ _ _ q s1 (.int _) (.refl H)⟩
def rInt : DRC := fun ds S R => ∃ d, ds = [d] ∧ match d with
  | .int i => R (.int i) S
  | .bl b => R (.int (if b then 1 else 0)) S
  | _ => False
theorem b_int : CallR X (.type "int") (lC X.kk rInt) := by
  intro pins s σ H vs us Q I r ⟨ds, S, R, r1, s1, ⟨d, hd, q⟩, k⟩
  subst hd
  obtain ⟨v, rfl, rv⟩ := r1.inv1
  cases rv with
  | int i => exact call_int1 pins s σ H _ us Q I r (.inl ⟨i, rfl, k _ _ _ _ q s1 (.int _) (.refl H)⟩)
  | bl b => exact call_int1 pins s σ H _ us Q I r (.inr ⟨b, rfl, k _ _ _ _ q s1 (.int _) (.refl H)⟩)
  | _ => exact q.elim
def rMax2 : DRC := fun ds S R => ∃ i j, ds = [.int i, .int j] ∧ R (.int (if j > i then j else i)) S
theorem b_max2 (hc : X.calm = true) : CallR X (.builtin "max") (lC X.kk rMax2) := by
  intro pins s σ H vs us Q I r ⟨ds, S, R, r1, s1, ⟨i, j, hd, q⟩, k⟩
  subst hd
  obtain ⟨v, u, rfl, rv, ru⟩ := r1.inv2
  cases rv
  cases ru
  exact call_max2 hc pins s σ H _ us Q I r ⟨i, j, rfl, k _ _ _ _ q s1 (.int _) (.refl H)⟩
def rTupq : DRC := fun ds S R => ∃ d xs, ds = [d] ∧ seqOf S d = some xs ∧ (∀ ys, d ≠ .wtup ys) ∧ R (.tup xs) S
theorem b_tuple : CallR X (.type "tuple") (lC X.kk rTupq) := by
  intro pins s σ H vs us Q I r ⟨ds, S, R, r1, s1, ⟨d, xs, hd, hx, hw, q⟩, k⟩
  subst hd
  obtain ⟨v, rfl, rv⟩ := r1.inv1
  cases rv with
  | wtup t qq => exact absurd rfl (hw _)
  | tup t qq =>
    cases hx
    exact call_tuple_of pins s σ H _ us Q I r ⟨_, _, rfl, .inr ⟨t.sqT, k _ _ _ _ q s1 (.tup t qq) (.refl H)⟩⟩
  | rol t qq =>
    cases hx
    exact call_tupleF pins s σ H _ us Q I r ⟨_, _, rfl, t.sqL, fun l o nl ho => k _ _ _ _ q (s1.new nl) (.tup (.new ho) (qq.ext (.new nl))) (.new nl)⟩
  | ref a =>
    obtain ⟨ws, h1, qq⟩ := s1.lst (seqOf_ref hx)
    exact call_tupleF pins s σ H _ us Q I r ⟨_, _, rfl, .of h1, fun l o nl ho => k _ _ _ _ q (s1.new nl) (.tup (.new ho) (qq.ext (.new nl))) (.new nl)⟩
  | _ => cases hx
def intsD (ns : List Int) : List D := ns.map D.int
def rSum1 : DRC := fun ds S R => ∃ a ns, ds = [.ref a] ∧ S a = some (.lst (intsD ns)) ∧ R (.int ns.sum) S
theorem b_sum (hc : X.calm = true) : CallR X (.builtin "sum") (lC X.kk rSum1) := by
  intro pins s σ H vs us Q I r ⟨ds, S, R, r1, s1, ⟨a, ns, hd, hx, q⟩, k⟩
  subst hd
  obtain ⟨v, rfl, rv⟩ := r1.inv1
  cases rv
  obtain ⟨ws, h1, qq⟩ := s1.lst hx
  cases (RDs.ints_inv qq)
  exact cr_sum hc pins s σ H _ us Q I r ⟨a, ns, rfl, .of h1, k _ _ _ _ q s1 (.int _) (.refl H)⟩
theorem RDs.bls_inv {K : KK} {H : Hp} : ∀ {bs : List Bool} {vs : List V}, RDs K H (bs.map D.bl) vs → vs = bs.map V.bl
  | [], _, .nil => rfl
  | n :: r, _, .cons (.bl _) t => by rw [RDs.bls_inv t]; rfl
def rAnyq (f : List Bool → Bool) : DRC := fun ds S R => ∃ a bs, ds = [.ref a] ∧ S a = some (.lst (bs.map D.bl)) ∧ R (.bl (f bs)) S
theorem b_any (hc : X.calm = true) : CallR X (.builtin "any") (lC X.kk (rAnyq fun bs => bs.any id)) := by
  intro pins s σ H vs us Q I r ⟨ds, S, R, r1, s1, ⟨a, bs, hd, hx, q⟩, k⟩
  subst hd
  obtain ⟨v, rfl, rv⟩ := r1.inv1
  cases rv
  obtain ⟨ws, h1, qq⟩ := s1.lst hx
  cases (RDs.bls_inv qq)
  exact cr_any hc pins s σ H _ us Q I r ⟨a, bs, rfl, .of h1, k _ _ _ _ q s1 (.bl _) (.refl H)⟩
/-- data whose text may be made -/
structure Text (p : PyData) : Prop where
  dis : isDisplay p = true
  sho : p.showable = true
  nod : p.hasDict = false
  dep : p.depth ≤ 60
  len : p.shown.length ≤ sizeLine
def rRepr : DRC := fun ds S R => ∃ d p, ds = [d] ∧ Py S d p ∧ Text p ∧ R (.str p.shown) S
theorem b_repr (hgd : X.A.guards = some []) (hu : X.A.units + 64 < cLine) : CallR X (.builtin "repr") (lC X.kk rRepr) := by
  intro pins s σ H vs us Q I r ⟨ds, S, R, r1, s1, ⟨d, p, hd, hp, ht, q⟩, k⟩
  subst hd
  obtain ⟨v, rfl, rv⟩ := r1.inv1
  exact call_repr hgd hu pins s σ H _ us Q I r ⟨v, p, rfl, ⟨hp.dp s1 rv, ht.dis, ht.sho, ht.nod, ht.dep, ht.len⟩, k _ _ _ _ q s1 (.str _) (.refl H)⟩
def dMtq (T : String) (r : DRM) (to : DTE) (t : DTA) : DTE := fun env S R => to env S fun x S1 => (T = "list" ∧ ∃ xs, seqOf S1 x = some xs ∧ (∀ ds, x ≠ .tup ds) ∧ ∀ ds, x ≠ .wtup ds) ∧ t env S1 fun ds S2 => r x ds S2 R
theorem de_mL {r : DRM} {name : Str} {id : String} {o : Expr} {to : DTE} {apos cpos : Pos} (slot : Slot "list" name id) (hty : typeOf (.builtin id) = pure (.type "method_descriptor")) (hm : MtR X id (lM X.kk r)) (ho : DE X o to) (ha : DA X (e :: es) tl)
    (hbase : attributeBase o name X.env (eval o X.env) = eval o X.env := by rfl)
    (hfew : ((backTo cpos (starEach (e :: es) X.env)).all (fun x => !x.1) && (backToKw cpos (keywordEach [] X.env)).all (fun x => x.1.isSome)
      && decide ((e :: es).length + ([] : List Keyword).length + (if ([] : List Keyword).isEmpty then 0 else 1) < 30)) = true := by rfl)
    (hline : (apos.endLine == cpos.line) = true := by rfl) (hs : starEach (e :: es) X.env = (false, eval e X.env) :: starEach es X.env := by rfl) (hplain : (backTo cpos (starEach es X.env)).any (·.1) = false := by rfl) :
    DE X (.Call (.Attribute o name apos) (e :: es) [] cpos) (dMtq "list" r to tl) := by
  refine ⟨(pe_bm PySem.F.plainAttrs_list slot hty hm ho.run ha.run hbase hfew hline hs hplain).of fun σ H Q ⟨env, S, R, rs, h, k⟩ => ⟨env, S, _, rs, h, fun x S1 v H1 ⟨⟨_, xs, hx, hn⟩, q⟩ s1 r1 e1 => ⟨?_, env, S1, _, rs.ext e1 s1, q, fun ds S2 vs H2 q2 s2 r2 e2 => ?_⟩⟩⟩
  · cases r1 with
    | tup t qq => exact absurd rfl (hn.1 _)
    | wtup t qq => exact absurd rfl (hn.2 _)
    | rol t qq => exact .inl ⟨rfl, _, t.sqL⟩
    | ref a =>
      obtain ⟨ws, h1, _⟩ := s1.lst (seqOf_ref hx)
      exact .inl ⟨rfl, _, .of h1⟩
    | _ => cases hx
  · exact ⟨x, ds, S2, R, r1.ext e2, r2, s2, q2, fun z S3 w H3 q3 s3 r3 e3 => k _ _ _ _ q3 s3 r3 (e1.trans (e2.trans e3))⟩
def mAppend : DRM := fun x ds S R => ∃ l xs y, x = .ref l ∧ ds = [y] ∧ S l = some (.lst xs) ∧ xs.length < 1000000 ∧ R .non (S.put l (.lst (xs ++ [y])))
theorem m_append : MtR X "list.append" (lM X.kk mAppend) := by
  intro pins s σ H x vs v us Q I rx rv ⟨d, ds, S, R, r1, r2, s1, ⟨l, xs, y, hd, hds, hx, hl, q⟩, k⟩
  subst hd hds
  cases r1
  obtain ⟨w, rfl, rw'⟩ := r2.inv1
  obtain ⟨ws, h3, h4, s7, e7⟩ := app_rel s1 hx hl rw'
  exact mt_append pins s σ H _ _ v us Q I rx rv ⟨l, ws, w, rfl, rfl, h3, h4, k _ _ _ _ q s7 .non e7⟩
end
end Sv
namespace Sv
open PySem PySem.Spec PyProof.Rows L2
theorem dv {X : Cx} (i : Nat) {x : Str} {pos : Pos} (hN : X.N[i]? = some x := by rfl) (hv : Vis X.env.scope x := by first | exact Or.inl rfl | exact Or.inr (Or.inl rfl) | exact Or.inr (Or.inr rfl)) (hd : (x == ("__debug__" : Str)) = false := by decide)
    (hcd : (x == ("__classdict__" : Str)) = false := by decide) : DE X (.Name x pos) (dVar i) := de_var hN hv hd hcd
section
variable {X : Cx} {a b c e : Expr} {ta tb tc te : DTE} {pos : Pos}
def rNeg : DR1 := fun d S R => match d with
  | .int i => R (.int (-i)) S
  | _ => False
theorem o_neg : UnR X (unaryOp .USub) (l1 X.kk rNeg) := by
  intro pins s σ H x v Q I rx ⟨d, S, R, r1, s1, h, k⟩
  cases r1 with
  | int i => exact un_neg pins s σ H _ v Q I rx ⟨i, rfl, k _ _ _ _ h s1 (.int _) (.refl H)⟩
  | _ => exact h.elim
/-- a op b op c -/
def dChain (r r' : DR2) (ta tb tc : DTE) : DTE := fun env S R => ta env S fun x S1 => tb env S1 fun y S2 => r x y S2 fun z S3 => ∃ k, z = .bl k ∧ if k = true then tc env S3 fun w S4 => r' y w S4 R else R (.bl false) S3
theorem de_chain {op op' : CmpOp} {r r' : DR2} (ho : OpR X (compareOp op) (l2 X.kk r)) (ho' : OpR X (compareOp op') (l2 X.kk r')) (ha : DE X a ta) (hb : DE X b tb) (hc : DE X c tc)
    (hm : lastMarks [op, op'] [b, c] = false := by with_unfolding_all rfl) : DE X (.Compare a [op, op'] [b, c] pos) (dChain r r' ta tb tc) := by
  refine ⟨(pe_chain ho ho' ha.run hb.run hc.run hm).of fun σ H Q ⟨env, S, R, rs, h, k⟩ => ⟨env, S, _, rs, h, fun x S1 v H1 q1 s1 r1 e1 => ⟨env, S1, _, rs.ext e1 s1, q1, fun y S2 u H2 q2 s2 r2 e2 => ⟨x, y, S2, _, r1.ext e2, r2, s2, q2, fun z S3 w H3 ⟨kk, hz, q3⟩ s3 r3 e3 => ?_⟩⟩⟩⟩
  subst hz
  cases r3
  refine ⟨kk, rfl, ?_⟩
  cases kk with
  | false => exact k _ _ _ _ q3 s3 (.bl _) (e1.trans (e2.trans e3))
  | true => exact ⟨env, S3, _, rs.ext (e1.trans (e2.trans e3)) s3, q3, fun w S4 t H4 q4 s4 r4 e4 => ⟨y, w, S4, R, r2.ext (e3.trans e4), r4, s4, q4, fun z S5 t H5 q5 s5 r5 e5 => k _ _ _ _ q5 s5 r5 (e1.trans (e2.trans (e3.trans (e4.trans e5))))⟩⟩
end
def dStart (n : Nat) (ds : List D) : Env := ds.map some ++ List.replicate (n - ds.length) none
def dFn (n : Nat) (B : DTS) : DRC := fun ds S R => B { nx := fun _ S' => R .non S', rt := R } (dStart n ds) S
section
variable {P : Program} {w : World} {K : PySem.W.Frag} {mg : Str → Option Value} {base : Heap}
theorem rs_start {K : KK} {H : Hp} {S : Sto} {N : List Str} {ds : List D} {vs : List V} (r : RDs K H ds vs) (s : RelS K S H) : RS K (L2.start N vs) H (dStart N.length ds) S := by
  have hl := r.length
  refine ⟨by unfold dStart L2.start; rw [List.length_append, List.length_append, List.length_map, List.length_map, List.length_replicate, List.length_replicate, hl], fun i d h => ?_, s⟩
  unfold dStart at h
  unfold L2.start
  by_cases hi : i < ds.length
  · rw [List.getElem?_append_left (by simpa using hi), List.getElem?_map] at h
    have hd : ds[i]? = some d := by
      cases e : ds[i]? with
      | none => rw [e] at h; cases h
      | some a => rw [e] at h; cases h; rfl
    obtain ⟨v, hv, rv⟩ := r.at hd
    exact ⟨v, by rw [List.getElem?_append_left (by rw [List.length_map]; omega), List.getElem?_map, hv]; rfl, rv⟩
  · rw [List.getElem?_append_right (by simpa using hi), List.getElem?_replicate] at h
    split at h <;> cases h
theorem fn_d {x : Str} {st : Stmt} {f : Addr} {fd : FuncData} {N ps : List Str} {k n : Nat} {B : DTS} (F : Fun K x x st f fd) (Sc : FnScope N ps (defScope st)) (hn : ps.length = n)
    (hbody : ∀ (cdv : Value) (A : Around) (outer : List PySem.Env) (s : Shared) (H : Hp) (E : XK), A.guards = some [] → Room k (A.deeper (envOfC x (defScope st) s.heap.objs.size f cdv)) →
      DSs (cxOf CX0 P w K mg base N x (defScope st) f cdv A outer s H E).nox (defBody st) B) : FnG P w K mg base (k + 1) f fd ps (lP ⟨P, w, K⟩ n (dFn N.length B)) := by
  refine okG F Sc (fun vs H Q E h => by rw [hn]; exact h.1) fun cdv A outer s H vs Q E hg hr h => ⟨_, (hbody cdv A outer s H E hg hr).run, ?_⟩
  obtain ⟨_, ds, S, R, r, s1, q, k⟩ := h
  exact ⟨_, S, _, rs_start r s1, q, fun env' S' σ' H' q' r' e' => k _ _ _ _ q' r'.sto .non e', fun d S' v H' q' s' r' e' => k _ _ _ _ q' s' r' e', fun _ _ _ _ q' => q'.elim, fun _ _ _ _ q' => q'.elim⟩
theorem DFn.mk' {k n : Nat} {x : Str} {r : DRC} {f : Addr} {fd : FuncData} {ps : List Str} (F : FnG P w K mg base k f fd ps (lP ⟨P, w, K⟩ n r)) (hm : mg x = some (.ref f)) (hk : PySem.W.keepIn K (.ref f) = true) (hb : Binds K fd ps []) : DFn P w K mg base k x n r :=
  ⟨f, fd, ps, F, hm, hk, hb⟩
theorem lP_law {K : KK} {H : Hp} {a : Addr} {ns : List Int} {r : DRC} (hO : Only H) (h : SqL K.k H a (ns.map V.int)) (q : r [.rol (intsD ns)] (fun _ => none) (fun d _ => d = .bl true)) : lP K 1 r [.ref a] H (fun v _ => v = .bl true) (fun _ _ _ => False) := by
  refine ⟨rfl, [.rol (intsD ns)], fun _ => none, _, .cons (.rol ?_ (.ints ns)) .nil, fun a o e => (nomatch e), q, fun z S' v H' e _ rz _ => ?_⟩
  · rcases h with h | h
    · rcases h with h | ⟨o, h⟩
      · rcases hO a with z | ⟨o, u, z⟩
        · rw [h] at z; cases z
        · rw [h] at z; cases z
      · exact .inl ⟨o, h⟩
    · exact .inr h
  · subst e
    cases rz
    rfl
end
end Sv
namespace Sv
open PySem PySem.Spec PyProof.Rows L2
section
variable {X : Cx} {pos : Pos}
theorem RDs.inv3 {K : KK} {H : Hp} {d e f : D} {vs : List V} (h : RDs K H [d, e, f] vs) : ∃ v u w, vs = [v, u, w] ∧ RD K H d v ∧ RD K H e u ∧ RD K H f w := by
  cases h with
  | cons r t =>
    obtain ⟨u, w, rfl, q, s⟩ := t.inv2
    exact ⟨_, _, _, rfl, r, q, s⟩
theorem ds_par3 {i j l : Nat} {x y z : Str} {a b c : Expr} {ta : DTA} {px py pz pt : Pos} {kt k2 pt2} (hc : X.calm = true) (hN : X.N.Nodup) (hi : X.N[i]? = some x) (hj : X.N[j]? = some y) (hl : X.N[l]? = some z) (hij : i ≠ j) (hil : i ≠ l) (hjl : j ≠ l)
    (hx : X.env.scope.names.lookup x = some .local) (hy : X.env.scope.names.lookup y = some .local) (hz : X.env.scope.names.lookup z = some .local) (ha : DA X [a, b, c] ta)
    (hw : swappedStores [.Tuple [.Name x px, .Name y py, .Name z pz] kt pt] (.Tuple [a, b, c] k2 pt2) X.env = pure (some [x, y, z]))
    (hs : swapsWithSole [.Tuple [.Name x px, .Name y py, .Name z pz] kt pt] (.Tuple [a, b, c] k2 pt2) pos.line X.env = pure false := by rfl) :
    DS X (.Assign [.Tuple [.Name x px, .Name y py, .Name z pz] kt pt] (.Tuple [a, b, c] k2 pt2) pos) (dAsg (dTup ta) (dUnp 3 (dgCons (dgName i) (dgCons (dgName j) (dgCons (dgName l) dgNil))))) := by
  refine ⟨(ps_par3 hc hN hi hj hl hij hil hjl hx hy hz ha.run hw hs).of fun σ H B ⟨env, S, C, rs, h, k, _⟩ => ⟨env, S, _, rs, h, fun ds S1 vs H1 ⟨_, ds', hl, hd, q⟩ s1 r1 e1 => ?_⟩⟩
  have hdd : ds = ds' := by
    rcases hd with (z | z) | ⟨a, z, _⟩
    · cases z; rfl
    · cases z
    · cases z
  subst hdd
  obtain ⟨d1, r', rfl, d2, r'', rfl, d3, r3, rfl, rfl, q⟩ := q
  obtain ⟨v, u, w, rfl, rv, ru, rw'⟩ := r1.inv3
  exact ⟨v, u, w, rfl, k _ _ _ _ q ((((rs.ext e1 s1).set i rv).set j ru).set l rw') e1⟩
/-- tuple * int, known to bear no dict -/
def rRepF (K : PySem.W.Frag) : R2 := fun x y H Q => ∃ l k xs, x = .ref l ∧ y = .int k ∧ SqT K H l xs ∧ xs ≠ [] ∧ 2 ≤ k ∧ k ≤ 1000 ∧ xs.length ≤ 1000 ∧ ∀ (p : Addr) (o : Obj), H p = none → o.dict = none → Q (.ref p) (upd H p (.frz o (.tup (List.replicate k.toNat xs).flatten)))
theorem op_repF : OpR X (binaryOp .Mult) (rRepF X.K) := by
  intro pins s σ H x y v u Q I rx ry h
  obtain ⟨l, k, xs, rfl, rfl, hT, hne, h1, h2, hz, q⟩ := h
  cases rx
  obtain ⟨t, rfl⟩ := ry
  obtain ⟨its, r, ⟨⟨cls, dd, data, sl⟩, ho, hc, n, hd⟩, hs⟩ := I.tuple hT
  simp only at hc hd
  subst hc hd
  have e1 : its.length = xs.length := r.length.symm
  have ne : its.toArray.isEmpty = false := by
    cases its with
    | nil => exact absurd (List.eq_nil_of_length_eq_zero e1.symm) hne
    | cons a b => rfl
  have e2 : its.toArray.size = xs.length := by rw [List.size_toArray, e1]
  have a1 : k.toNat * xs.length ≤ 1000 * 1000 := Nat.mul_le_mul (by omega) hz
  have a2 : ((xs.length : Nat) : Int) * k ≤ 1000000 := by
    have b1 : ((xs.length : Nat) : Int) * k ≤ 1000 * k := Int.mul_le_mul_of_nonneg_right (by omega) (by omega)
    omega
  have fl : (List.replicate k.toNat its).flatten.length ≤ sizeLine := by
    rw [PyProof.Rows.lm_len_rep_flat, e1, sizeLine_eq]
    omega
  have c4 : Builtin.Tuple.tupleTooMany (((its.toArray.size : Nat) : Int) * k) = false := by
    unfold Builtin.Tuple.tupleTooMany
    rw [sizeLine_eq, e2]
    exact decide_eq_false (by omega)
  refine wpAny_binaryOp_repeat_ref (T := "tuple") (U := "int") (by decide) ⟨_, ho, rfl⟩ (fun s' => typeIs_int s' k t) noFill_tuple_mul F.fills_int_mul F.slot_int_rmul repeat_tuple F.slot_int_index.lookup
    (call_meets F.slot_int_rmul (typeIs_int s k t) F.entry_int_rmul (F.args_int_rmul_2 _ _) (int_rmul_tuple k t l its.toArray n dd sl)
      ⟨ho, rfl, ⟨_, ho, rfl⟩, call_meets F.slot_tuple_mul ⟨_, ho, rfl⟩ F.entry_tuple_mul (F.args_tuple_mul_2 _ _)
        (tuple_mulW l its.toArray n dd sl k t (by rw [decide_eq_false (by omega), decide_eq_false (by omega)] <;> rfl) (by rw [ne, Bool.false_or]; exact beq_eq_false_iff_ne.mpr (by omega)) (by rw [ne, Bool.or_false]; exact decide_eq_false (by omega)) (by rw [e2]; omega) c4 (by rw [size_rep, List.size_toArray]; exact fl)) ⟨ho, ?_⟩⟩)
  rw [size_rep]
  have hg := Heap.get?_push_size s.heap (o := { cls := .type "tuple", data := .seq (List.replicate k.toNat its).flatten.toArray }) rfl
  refine ⟨.ref s.heap.objs.size, _, I.laid (t' := s.toks) (o := .frz { cls := .type "tuple", data := .seq (List.replicate k.toNat its).flatten.toArray } (.tup (List.replicate k.toNat xs).flatten)) (fun b ob q => Heap.get?_push_of_some _ q) (Nat.le_refl _) ?_, rfl, q _ _ (I.hok.fresh (Nat.le_refl _)) rfl⟩
  exact ⟨hg, by rw [PyProof.Rows.lm_len_rep_flat, sizeLine_eq]; omega, _, r.rep k.toNat, ⟨_, hg, rfl, _, rfl⟩⟩
theorem RDs.rep {K : KK} {H : Hp} {ds : List D} {vs : List V} (r : RDs K H ds vs) : ∀ n : Nat, RDs K H (List.replicate n ds).flatten (List.replicate n vs).flatten
  | 0 => .nil
  | n + 1 => by
    rw [List.replicate_succ, List.replicate_succ, List.flatten_cons, List.flatten_cons]
    exact r.append (RDs.rep r n)
theorem rep_one {α : Type} (xs : List α) : (List.replicate (1 : Int).toNat xs).flatten = xs := by
  show (List.replicate 1 xs).flatten = xs
  simp
theorem o_mul : OpR X (binaryOp .Mult) (l2 X.kk rMul) := by
  intro pins s σ H x y v u Q I rx ry ⟨d, e, S, R, r1, r2, s1, h, k⟩
  cases r1 with
  | int i =>
    cases r2 with
    | int j => exact op_mul pins s σ H _ _ v u Q I rx ry ⟨i, j, rfl, rfl, h.1, k _ _ _ _ h.2 s1 (.int _) (.refl H)⟩
    | _ => exact h.elim
  | tup t q =>
    cases r2 with
    | int j =>
      obtain ⟨hne, h1, h2, hz, qq⟩ := h
      by_cases hj : j = 1
      · subst hj
        rw [rep_one] at qq
        exact op_rep1 pins s σ H _ _ v u Q I rx ry ⟨_, _, rfl, rfl, t.sqT, k _ _ _ _ qq s1 (.tup t q) (.refl H)⟩
      · have hl := q.length
        refine op_repF pins s σ H _ _ v u Q I rx ry ⟨_, j, _, rfl, rfl, t.sqT, fun z => hne (List.eq_nil_of_length_eq_zero (by rw [hl, z]; rfl)), by omega, h2, hl ▸ hz, fun p o np ho => k _ _ _ _ qq (s1.new np) (.tup (.new ho) ((q.rep _).ext (.new np))) (.new np)⟩
    | _ => exact h.elim
  | ref a =>
    cases r2 with
    | int j =>
      obtain ⟨xs, h1, h0, hk, hz, qq⟩ := h
      obtain ⟨vs, e, q⟩ := s1.lst h1
      refine op_rep pins s σ H _ _ v u Q I rx ry ⟨a, j, vs, rfl, rfl, e, by omega, by omega, ?_, fun p np => k _ _ _ _ (qq p (s1.fresh np)) (s1.lay np ⟨_, upd_same, (q.rep _).ext (.new np)⟩) (.ref p) (.new np)⟩
      rw [← q.length]
      have : xs.length * j.toNat ≤ 1000 * 1000 := Nat.mul_le_mul hz (by omega)
      exact Nat.le_trans this (by decide)
    | _ => exact h.elim
  | _ => exact h.elim
end
end Sv
namespace Sv
open PySem PySem.Spec PyProof.Rows L2
section
variable {P : Program} {w : World} {K : PySem.W.Frag} {mg : Str → Option Value} {base : Heap}
theorem fn_o {x : Str} {st : Stmt} {f : Addr} {fd : FuncData} {N ps : List Str} {k n : Nat} {B : DTS} (F : Fun K x x st f fd) (Sc : FnScope N ps (defScope st)) (hn : ps.length = n)
    (hbody : ∀ (cdv : Value) (A : Around) (outer : List PySem.Env) (s : Shared) (H : Hp) (E : XK), Room k (A.deeper (envOfC x (defScope st) s.heap.objs.size f cdv)) →
      DSs (cxOf CX0 P w K mg base N x (defScope st) f cdv A outer s H E).nox (defBody st) B) : FnOk P w K mg base CX0 (k + 1) f fd ps (lP ⟨P, w, K⟩ n (dFn N.length B)) := by
  refine F.ok Sc (fun vs H Q E h => by rw [hn]; exact h.1) fun cdv A outer s H vs Q E hr h => ⟨_, (hbody cdv A outer s H E hr).run, ?_⟩
  obtain ⟨_, ds, S, R, r, s1, q, k⟩ := h
  exact ⟨_, S, _, rs_start r s1, q, fun env' S' σ' H' q' r' e' => k _ _ _ _ q' r'.sto .non e', fun d S' v H' q' s' r' e' => k _ _ _ _ q' s' r' e', fun _ _ _ _ q' => q'.elim, fun _ _ _ _ q' => q'.elim⟩
theorem DFo.mk' {k n : Nat} {x : Str} {r : DRC} {f : Addr} {fd : FuncData} {ps : List Str} (F : FnOk P w K mg base CX0 k f fd ps (lP ⟨P, w, K⟩ n r)) (hm : mg x = some (.ref f)) (hk : PySem.W.keepIn K (.ref f) = true) (hb : Binds K fd ps []) : DFo P w K mg base k x n r :=
  ⟨f, fd, ps, F, hm, hk, hb⟩
theorem DFs.mk' {k : Nat} {x : Str} {r : DRC} {f : Addr} (F : FnR P w K mg base CX0 k f (fun vs H Q _ => lC ⟨P, w, K⟩ r vs H Q)) (hm : mg x = some (.ref f)) (hk : PySem.W.keepIn K (.ref f) = true) : DFs P w K mg base k x r := ⟨f, F, hm, hk⟩
end
section
variable {X : Cx} {a b e : Expr} {es : List Expr} {ta tb te : DTE} {tl : DTA} {pos p : Pos}
def kD : Key → D
  | .inl i => .int i
  | .inr x => .str x
theorem kD_inv {K : KK} {H : Hp} {k : Key} {v : V} (r : RD K H (kD k) v) : v = kV k := by
  cases k with
  | inl i => cases r; rfl
  | inr x => cases r; rfl
def putD (kvs : List (Key × D)) (k : Key) (v : D) : List (Key × D) :=
  if (kvs.any fun kv => decide (kv.1 = k)) = true then kvs.map (fun kv => if kv.1 = k then (kv.1, v) else kv) else kvs ++ [(k, v)]
def getD' (kvs : List (Key × D)) (k : Key) : Option D := (kvs.find? fun kv => decide (kv.1 = k)).map (·.2)
theorem RDk.any {K : KK} {H : Hp} {k : Key} : ∀ {ds : List (Key × D)} {vs : List (Key × V)}, RDk K H ds vs → (ds.any fun kv => decide (kv.1 = k)) = (vs.any fun kv => decide (kv.1 = k))
  | _, _, .nil => rfl
  | _, _, .cons r t => by rw [List.any_cons, List.any_cons, RDk.any t]
theorem RDk.app {K : KK} {H : Hp} : ∀ {ds es : List (Key × D)} {vs ws : List (Key × V)}, RDk K H ds vs → RDk K H es ws → RDk K H (ds ++ es) (vs ++ ws)
  | _, _, _, _, .nil, s => s
  | _, _, _, _, .cons r t, s => .cons r (RDk.app t s)
theorem RDk.mapK {K : KK} {H : Hp} {k : Key} {d : D} {v : V} (h : RD K H d v) : ∀ {ds : List (Key × D)} {vs : List (Key × V)}, RDk K H ds vs → RDk K H (ds.map fun kv => if kv.1 = k then (kv.1, d) else kv) (vs.map fun kv => if kv.1 = k then (kv.1, v) else kv)
  | _, _, .nil => .nil
  | _, _, @RDk.cons _ _ k' d' ds v' vs r t => by
    rw [List.map_cons, List.map_cons]
    by_cases z : k' = k
    · subst z
      simp only [if_true]
      exact .cons h (RDk.mapK h t)
    · simp only [z, if_false]
      exact .cons r (RDk.mapK h t)
theorem RDk.put {K : KK} {H : Hp} {k : Key} {d : D} {v : V} (h : RD K H d v) {ds : List (Key × D)} {vs : List (Key × V)} (r : RDk K H ds vs) : RDk K H (putD ds k d) (putK vs k v) := by
  unfold putD putK
  rw [r.any]
  by_cases z : (vs.any fun kv => decide (kv.1 = k)) = true
  · rw [if_pos z, if_pos z]
    exact r.mapK h
  · rw [if_neg z, if_neg z]
    exact r.app (.cons h .nil)
theorem RDk.get {K : KK} {H : Hp} {k : Key} : ∀ {ds : List (Key × D)} {vs : List (Key × V)}, RDk K H ds vs → (∀ d, getD' ds k = some d → ∃ v, valV vs k = some v ∧ RD K H d v) ∧ (getD' ds k = none → valV vs k = none)
  | _, _, .nil => ⟨fun d h => (nomatch h), fun _ => rfl⟩
  | _, _, @RDk.cons _ _ k' d' ds v' vs r t => by
    have ih := RDk.get (k := k) t
    unfold getD' valV at ih ⊢
    rw [List.find?_cons, List.find?_cons]
    by_cases z : k' = k
    · subst z
      simp only [decide_true]
      exact ⟨fun d h => ⟨v', rfl, by cases h; exact r⟩, fun h => (nomatch h)⟩
    · simp only [z, decide_false]
      exact ih
/-- what a dict holds -/
def dictOf (S : Sto) : D → Option (List (Key × D))
  | .dct kvs => some kvs
  | .ref a => match S a with
    | some (.dK kvs) => some kvs
    | _ => none
  | _ => none
theorem dict_rel {K : KK} {S : Sto} {H : Hp} {d : D} {v : V} {kvs : List (Key × D)} (s : RelS K S H) (r : RD K H d v) (h : dictOf S d = some kvs) : ∃ a vs, v = .ref a ∧ Rd H a (.dK vs) ∧ RDk K H kvs vs := by
  cases r with
  | dct t q => cases h; exact ⟨_, _, rfl, .inr ⟨_, t⟩, q⟩
  | ref a =>
    have h : (match S a with
      | some (.dK kvs) => some kvs
      | _ => none) = some kvs := h
    split at h
    · rename_i e
      cases h
      obtain ⟨vs, h1, h2⟩ := s a _ e
      exact ⟨a, vs, rfl, .inl h1, h2⟩
    · cases h
  | _ => cases h
/-- d[k] -/
def dDix (ta tb : DTE) : DTE := fun env S R => ta env S fun x S1 => tb env S1 fun y S2 => ∃ kvs k d, dictOf S2 x = some kvs ∧ y = kD k ∧ getD' kvs k = some d ∧ R d S2
theorem de_dix (hu : X.A.units + 1 < cLine) (ha : DE X a ta) (hb : DE X b tb) (hs : NoSl b := by intro _ _; rfl) : DE X (.Subscript a b pos) (dDix ta tb) := by
  refine ⟨(pe_dget hu ha.run hb.run hs).of fun σ H Q ⟨env, S, R, rs, h, k⟩ => ⟨env, S, _, rs, h, fun x S1 v H1 q1 s1 r1 e1 => ⟨env, S1, _, rs.ext e1 s1, q1, fun y S2 u H2 ⟨kvs, kk, d, hx, hy, hd, q⟩ s2 r2 e2 => ?_⟩⟩⟩
  subst hy
  obtain ⟨aa, vs, rfl, h1, h2⟩ := dict_rel s2 (r1.ext e2) hx
  obtain ⟨w, h3, h4⟩ := h2.get.1 d hd
  cases kD_inv r2
  exact ⟨aa, w, rfl, .inl ⟨vs, kk, h1, rfl, h3.symm⟩, k _ _ _ _ q s2 h4 (e1.trans e2)⟩
/-- k in d -/
def dDin (n : Bool) (ta tb : DTE) : DTE := fun env S R => ta env S fun y S1 => tb env S1 fun x S2 => ∃ kvs k, dictOf S2 x = some kvs ∧ y = kD k ∧ R (.bl ((getD' kvs k).isSome ^^ n)) S2
theorem getD_some {K : KK} {H : Hp} {kvs : List (Key × D)} {vs : List (Key × V)} {k : Key} (r : RDk K H kvs vs) : (getD' kvs k).isSome = (valV vs k).isSome := by
  cases h : getD' kvs k with
  | none => rw [r.get.2 h]; rfl
  | some d => obtain ⟨v, h1, _⟩ := r.get.1 d h; rw [h1]; rfl
theorem lE_din {K : KK} {σ : L2.St} {H : Hp} {Q : VK} (h : lE K (dDin false ta tb) σ H Q) : tDIn (lE K ta) (lE K tb) σ H Q := by
  obtain ⟨env, S, R, rs, h, k⟩ := h
  refine ⟨env, S, _, rs, h, fun y S1 v H1 q1 s1 r1 e1 => ⟨env, S1, _, rs.ext e1 s1, q1, fun x S2 u H2 ⟨kvs, kk, hx, hy, q⟩ s2 r2 e2 => ?_⟩⟩
  subst hy
  obtain ⟨aa, vs, rfl, h1, h2⟩ := dict_rel s2 r2 hx
  cases kD_inv r1
  rw [xor_ff, getD_some h2] at q
  exact ⟨aa, _, rfl, .inl ⟨vs, kk, h1, rfl, rfl⟩, k _ _ _ _ q s2 (.bl _) (e1.trans e2)⟩
theorem dt_din (hu : X.A.units + 1 < cLine) (ha : DE X a ta) (hb : DE X b tb) (hm : behindInMarks .In b = false := by rfl) : DT X (.Compare a [.In] [b] pos) (dB (dDin false ta tb)) := ⟨(pt_cmp (pc_din hu ha.run hb.run) hm).of fun _ _ _ h => by
  obtain ⟨env, S, R, rs, h, k⟩ := lT_b h
  exact lE_din ⟨env, S, R, rs, h, k⟩⟩
end
end Sv
namespace Sv
open PySem PySem.Spec PyProof.Rows L2
def spLawD (K : PySem.W.Frag) : Sp := fun vs H Q _ => ∃ (a : Addr) (ns : List Int), vs = [.ref a] ∧ Only H ∧ SqL K H a (ns.map V.int) ∧ ns.length ≤ 63 ∧ ∀ H', Q (.bl true) H'
theorem FnG.lawD {P : Program} {w : World} {K : PySem.W.Frag} {mg : Str → Option Value} {base : Heap} {k : Nat} {f : Addr} {fd : FuncData} {ps : List Str} {r : DRC} (F : FnG P w K mg base k f fd ps (lP ⟨P, w, K⟩ 1 r)) (hp : ps.length = 1)
    (h : ∀ ns : List Int, ns.length ≤ 63 → r [.rol (intsD ns)] (fun _ => none) (fun d _ => d = .bl true)) : FnG P w K mg base k f fd ps (spLawD K) := by
  have go : ∀ vs H Q E, spLawD K vs H Q E → lP ⟨P, w, K⟩ 1 r vs H Q E := by
    rintro vs H Q E ⟨a, ns, rfl, hO, hS, hl, q⟩
    obtain ⟨h1, ds, S, R, h2, h3, h4, h5⟩ := lP_law (K := ⟨P, w, K⟩) hO hS (h ns hl)
    exact ⟨h1, ds, S, R, h2, h3, h4, fun z S' v H' a1 a2 a3 a4 => by
      obtain rfl := h5 z S' v H' a1 a2 a3 a4
      exact q H'⟩
  refine ⟨fun vs H Q E h => ?_, fun A hg outer s H args us vs Q E hr e0 hb rv hsp => F.run A hg outer s H args us vs Q E hr e0 hb rv (go _ _ _ _ hsp)⟩
  obtain ⟨a, ns, rfl, _⟩ := h
  rw [hp]
  rfl
end Sv
namespace Sv
open PySem PySem.Spec PyProof.Rows L2
section
variable {X : Cx}
def prD (p : Int × Int) : D := .tup [.int p.1, .int p.2]
end
end Sv
namespace Sv
open PySem PySem.Spec PyProof.Rows L2
section
variable {X : Cx} {a b c e o : Expr} {es : List Expr} {ta tb tc te : DTE} {tl : DTA} {pos p : Pos}
theorem de_ty {x : Str} {n : String} (hg : Gl X x) (hm : X.mg x = none) (hv : bootBuiltins x = some (.type n)) (hn : x ≠ "__name__" := by decide) (hdb : (x == ("__debug__" : Str)) = false := by decide) : DE X (.Name x pos) (dC (.ty n)) :=
  ⟨(pe_bltn (v := .ty n) hg hm hv rfl hn hdb).of fun σ H Q ⟨env, S, R, rs, q, k⟩ => k _ _ _ _ q rs.sto (.ty n) (.refl H)⟩
def tyD (S : Sto) : D → Option String
  | .non => some "NoneType"
  | .bl _ => some "bool"
  | .int _ => some "int"
  | .str _ => some "str"
  | .tup _ => some "tuple"
  | .wtup _ => some "tuple"
  | .rol _ => some "list"
  | .dct _ => some "dict"
  | .ref a => match S a with
    | some (.lst _) => some "list"
    | some (.dK _) => some "dict"
    | _ => none
  | _ => none
theorem ty_rel {K : KK} {S : Sto} {H : Hp} {d : D} {v : V} {t : String} (s : RelS K S H) (r : RD K H d v) (h : tyD S d = some t) : TyX K.k H v (.type t) := by
  cases r with
  | non => cases h; exact .base .non
  | bl b => cases h; exact .base (.bl b)
  | int i => cases h; exact .base (.int i)
  | str x => cases h; exact .base (.str x)
  | ty n => cases h
  | tup t _ =>
    cases h
    obtain ⟨o, t, _⟩ := t
    exact .fTuple t
  | wtup t _ => cases h; exact .base (.tup t)
  | rol t _ =>
    cases h
    rcases t with ⟨o, t⟩ | ⟨o, its, n, h1, h2, _⟩
    · exact .base (.frz t)
    · exact .kList h1 h2
  | dct t _ => cases h; exact .fDict t
  | ref a =>
    have h : (match S a with
      | some (.lst _) => some "list"
      | some (.dK _) => some "dict"
      | _ => none) = some t := h
    split at h
    · rename_i e
      cases h
      obtain ⟨vs, h1, _⟩ := s a _ e
      exact .base (.lst h1)
    · rename_i e
      cases h
      obtain ⟨vs, h1, _⟩ := s a _ e
      exact .base (.dK h1)
    · cases h
def rIsi : DRC := fun ds S R => ∃ d T t b, ds = [d, .ty T] ∧ tyD S d = some t ∧ kitB t T = some b ∧ R (.bl b) S
theorem b_isi : CallR X (.builtin "isinstance") (lC X.kk Sv.rIsi) := by
  intro pins s σ H vs us Q I r ⟨ds, S, R, r1, s1, ⟨d, T, t, b, hd, ht, hk, q⟩, k⟩
  subst hd
  obtain ⟨v, u, rfl, rv, ru⟩ := r1.inv2
  cases ru
  exact call_isi pins s σ H _ us Q I r ⟨v, .ty T, .type t, .type T, b, rfl, .ty T, ty_rel s1 rv ht, kit_ty hk, k _ _ _ _ q s1 (.bl _) (.refl H)⟩
theorem isi_ii : kitB "int" "int" = some true := by decide +kernel
theorem isi_ib : kitB "int" "bool" = some false := by decide +kernel
def mRemove : DRM := fun x ds S R => ∃ l xs y ps p j, x = .ref l ∧ ds = [y] ∧ S l = some (.lst xs) ∧ Pys S xs ps ∧ Py S y p ∧ PyData.plainAll ps = true ∧ p.plain = true ∧ p.depth ≤ 60 ∧ SeqAt.dataPlace ps p = some j ∧ R .non (S.put l (.lst (xs.eraseIdx j)))
theorem m_remove (hu : X.A.units + 64 < cLine) : MtR X "list.remove" (lM X.kk mRemove) := by
  intro pins s σ H x vs v us Q I rx rv ⟨d, ds, S, R, r1, r2, s1, ⟨l, xs, y, ps, p, j, hd, hds, hx, h1, h2, h3, h4, h5, h6, q⟩, k⟩
  subst hd hds
  cases r1
  obtain ⟨w, rfl, rw'⟩ := r2.inv1
  obtain ⟨ws, g3, q3⟩ := s1.lst hx
  have e : Ext H (upd H l (.lst (ws.eraseIdx j))) := .put g3 trivial
  exact mt_removeD hu pins s σ H _ _ v us Q I rx rv ⟨l, w, p, ws, ps, j, rfl, rfl, g3, Pys.dp s1 h1 q3, Py.dp s1 h2 rw', h3, h4, h5, h6, k _ _ _ _ q (s1.put g3 trivial ⟨_, upd_same, (q3.eraseIdx j).ext e⟩) .non e⟩
def dDNew : DTE := fun _ S R => ∀ p, S p = none → R (.ref p) (S.put p (.dK []))
theorem de_dnew : DE X (.Dict [] [] pos) dDNew := ⟨pe_dnewK.of fun σ H Q ⟨env, S, R, rs, q, k⟩ p np =>
  k _ _ _ _ (q p (rs.sto.fresh np)) (rs.sto.lay np ⟨_, upd_same, .nil⟩) (.ref p) (.new np)⟩
def dDPut (td ty tv : DTE) : DTS := fun C env S => tv env S fun v S1 => td env S1 fun x S2 => ty env S2 fun y S3 => ∃ a kvs k, x = .ref a ∧ y = kD k ∧ S3 a = some (.dK kvs) ∧ kvs.length < 1000000 ∧ C.nx env (S3.put a (.dK (putD kvs k v)))
theorem ds_dput {i : Expr} {pos' : Pos} {td ty tv : DTE} (hu : X.A.units + 1 < cLine) (ho : DE X o td) (hi : DE X i ty) (hv : DE X e tv) (hs : swapsWith e (some (.Subscript o i pos')) pos.line X.env = pure false := by rfl) : DS X (.Assign [.Subscript o i pos'] e pos) (dDPut td ty tv) := by
  refine ⟨(ps_dput hu ho.run hi.run hv.run hs).of fun σ H B ⟨env, S, C, rs, h, k, _⟩ => ⟨env, S, _, rs, h, fun v S1 u H1 q1 s1 r1 e1 => ⟨env, S1, _, rs.ext e1 s1, q1, fun x S2 w H2 q2 s2 r2 e2 => ⟨env, S2, _, rs.ext (e1.trans e2) s2, q2, fun y S3 t H3 ⟨aa, kvs, kk, hx, hy, ha, hl, q3⟩ s3 r3 e3 => ?_⟩⟩⟩⟩
  subst hx hy
  cases r2
  cases kD_inv r3
  obtain ⟨vs, h3, h4⟩ := s3 aa _ ha
  have e4 : Ext H3 (upd H3 aa (.dK (putK vs kk u))) := .put h3 trivial
  have ea : Ext H (upd H3 aa (.dK (putK vs kk u))) := e1.trans (e2.trans (e3.trans e4))
  exact ⟨aa, _, rfl, .k h3 (Nat.lt_of_lt_of_le (h4.length ▸ hl) (by decide)), k _ _ _ _ q3 (rs.ext ea (s3.put (o := .dK (putD kvs kk v)) h3 trivial ⟨_, upd_same, (h4.put (r1.ext (e2.trans e3))).ext e4⟩)) ea⟩
def rReprX : DRC := fun ds S R => (∃ b, ds = [.bl b] ∧ R (.str (if b = true then "True" else "False")) S) ∨ (ds = [.non] ∧ R (.str "None") S) ∨ rRepr ds S R
theorem b_reprX (hgd : X.A.guards = some []) (hu : X.A.units + 64 < cLine) : CallR X (.builtin "repr") (lC X.kk rReprX) := by
  intro pins s σ H vs us Q I r ⟨ds, S, R, r1, s1, h, k⟩
  rcases h with ⟨b, hd, q⟩ | ⟨hd, q⟩ | h
  · subst hd
    obtain ⟨v, rfl, rv⟩ := r1.inv1
    cases rv
    obtain ⟨u, rfl, ru⟩ := vals1 r
    cases ru
    exact PySem.P.repr_of_bool ⟨.str _, H, I.kept (t' := s.toks + 1) (fun b o e => e), ⟨_, rfl⟩, k _ _ _ _ q s1 (.str _) (.refl H)⟩
  · subst hd
    obtain ⟨v, rfl, rv⟩ := r1.inv1
    cases rv
    obtain ⟨u, rfl, ru⟩ := vals1 r
    cases ru
    exact PySem.P.repr_of_none ⟨.str _, H, I.kept (t' := s.toks + 1) (fun b o e => e), ⟨_, rfl⟩, k _ _ _ _ q s1 (.str _) (.refl H)⟩
  · exact b_repr hgd hu pins s σ H vs us Q I r ⟨ds, S, R, r1, s1, h, k⟩
end
end Sv
namespace Sv
open PySem PySem.Spec PyProof.Rows L2
section
variable {X : Cx} {a b c e o : Expr} {es : List Expr} {ta tb tc te : DTE} {tl : DTA} {pos p : Pos}
theorem Pys.len {S : Sto} : ∀ {ds : List D} {ps : List PyData}, Pys S ds ps → ds.length = ps.length
  | _, _, .nil => rfl
  | _, _, .cons _ t => by rw [List.length_cons, List.length_cons, Pys.len t]
def rIsBd (n : Bool) : DR2 := fun x y S R => ∃ c b, x = .bl c ∧ y = .bl b ∧ R (.bl (decide (c = b) ^^ n)) S
theorem o_notB : OpR X (compareOp .IsNot) (l2 X.kk (rIsBd true)) := by
  intro pins s σ H x y v u Q I rx ry ⟨d, e, S, R, r1, r2, s1, ⟨c, b, hx, hy, q⟩, k⟩
  subst hx hy
  cases r1
  cases r2
  rw [xor_tt] at q
  exact op_notBl pins s σ H _ _ v u Q I rx ry ⟨c, b, rfl, rfl, k _ _ _ _ q s1 (.bl _) (.refl H)⟩
end
end Sv
namespace Sv
open PySem L2
/-- is_number: 0 value -/
def B_is_number_52f5 : DTS := dRet (dAndV (dCB rIsi (dCons (dVar 0) (dCons (dC (.ty "int")) (dNil)))) (dNotV (dCB rIsi (dCons (dVar 0) (dCons (dC (.ty "bool")) (dNil))))))
end Sv
namespace Sv
open PySem PySem.Spec PyProof.Rows L2
section
variable {X : Cx}
theorem RDs.tups {K : KK} {H : Hp} : ∀ {L0 : List (List Int)} {vs : List V}, RDs K H (L0.map fun q => .tup (intsD q)) vs → ∃ ks : List (Addr × List Int), vs = ks.map (fun p => V.ref p.1) ∧ L0 = ks.map (·.2) ∧ ∀ p ∈ ks, TupN H p.1 (p.2.map V.int)
  | [], _, .nil => ⟨[], rfl, rfl, fun p hp => (nomatch hp)⟩
  | q :: L0, _, .cons r rs => by
    obtain ⟨ks, h1, h2, h3⟩ := RDs.tups (L0 := L0) rs
    cases r with
    | @tup a _ vs ht qq =>
      cases (RDs.ints_inv qq)
      refine ⟨(a, q) :: ks, by rw [h1]; rfl, by rw [h2]; rfl, fun p hp => ?_⟩
      rcases List.mem_cons.mp hp with rfl | hp
      · exact ht
      · exact h3 p hp
end
end Sv
set_option maxHeartbeats 2000000
namespace Sv
open PySem PySem.Spec PyProof.Rows L2
section
variable {P : Program} {w : World} {K : PySem.W.Frag} {mg : Str → Option Value} {base : Heap}
/-- called with the keyword -/
def FnRW (P : Program) (w : World) (K : PySem.W.Frag) (mg : Str → Option Value) (base : Heap) (CX : CXT) (k : Nat) (f : Addr) (kn : Str) (sp : List V → V → Hp → VK → XK → Prop) : Prop :=
  ∀ (A : Around) (outer : List PySem.Env) (s : Shared) (H : Hp) (us : List Value) (u : Value) (vs : List V) (z : V) (Q : VK) (E : XK), Room k A → Env0 P w K mg base A outer s H → Vals vs us → RelV z u → sp vs z H Q E →
    codeAny (model P w) A (.call (.ref f) ⟨us, [(kn, u)]⟩) (CR CX outer P w H s Q E) s
abbrev DRK := List D → D → Sto → DK → Prop
def lK (K : KK) (r : DRK) : List V → V → Hp → VK → Prop := fun vs z H Q => ∃ ds e S R, RDs K H ds vs ∧ RD K H e z ∧ RelS K S H ∧ r ds e S R ∧ ∀ y S' v H', R y S' → RelS K S' H' → RD K H' y v → Ext H H' → Q v H'
/-- a def of the module with the keyword, by promise -/
structure DFw (P : Program) (w : World) (K : PySem.W.Frag) (mg : Str → Option Value) (base : Heap) (k : Nat) (x kn : Str) (r : DRK) : Prop where
  ex : ∃ f : Addr, FnRW P w K mg base CX0 k f kn (fun vs z H Q _ => lK ⟨P, w, K⟩ r vs z H Q) ∧ mg x = some (.ref f) ∧ PySem.W.keepIn K (.ref f) = true
theorem DFw.mk' {k : Nat} {x kn : Str} {r : DRK} {f : Addr} (F : FnRW P w K mg base CX0 k f kn (fun vs z H Q _ => lK ⟨P, w, K⟩ r vs z H Q)) (hm : mg x = some (.ref f)) (hk : PySem.W.keepIn K (.ref f) = true) : DFw P w K mg base k x kn r := ⟨f, F, hm, hk⟩
end
end Sv
set_option maxHeartbeats 1000000
namespace Sv
open PySem PySem.Spec PyProof.Rows L2
section
variable {X : Cx} {a b c : Expr} {ta tb tc : DTE} {pos : Pos}
/-- a op b op c as a test -/
theorem lE_chain {K : KK} {r r' : DR2} {σ : L2.St} {H : Hp} {Q : VK} (h : lE K (dChain r r' ta tb tc) σ H Q) : tChain (l2 K r) (l2 K r') (lE K ta) (lE K tb) (lE K tc) σ H Q := by
  obtain ⟨env, S, R, rs, h, k⟩ := h
  refine ⟨env, S, _, rs, h, fun x S1 v H1 q1 s1 r1 e1 => ⟨env, S1, _, rs.ext e1 s1, q1, fun y S2 u H2 q2 s2 r2 e2 => ⟨x, y, S2, _, r1.ext e2, r2, s2, q2, fun z S3 w H3 ⟨kk, hz, q3⟩ s3 r3 e3 => ?_⟩⟩⟩
  subst hz
  cases r3
  refine ⟨kk, rfl, ?_⟩
  cases kk with
  | false => exact k _ _ _ _ q3 s3 (.bl _) (e1.trans (e2.trans e3))
  | true => exact ⟨env, S3, _, rs.ext (e1.trans (e2.trans e3)) s3, q3, fun w S4 t H4 q4 s4 r4 e4 => ⟨y, w, S4, R, r2.ext (e3.trans e4), r4, s4, q4, fun z S5 t H5 q5 s5 r5 e5 => k _ _ _ _ q5 s5 r5 (e1.trans (e2.trans (e3.trans (e4.trans e5))))⟩⟩
theorem dt_chain {op op' : CmpOp} {r r' : DR2} (ho : OpR X (compareOp op) (l2 X.kk r)) (ho' : OpR X (compareOp op') (l2 X.kk r')) (ha : DE X a ta) (hb : DE X b tb) (hc : DE X c tc)
    (hm : lastMarks [op, op'] [b, c] = false := by with_unfolding_all rfl) : DT X (.Compare a [op, op'] [b, c] pos) (dB (dChain r r' ta tb tc)) :=
  ⟨(pt_chain ho ho' ha.run hb.run hc.run hm).of fun _ _ _ h => lE_chain (lT_b h)⟩
end
end Sv
set_option maxHeartbeats 800000
set_option autoImplicit false
set_option maxHeartbeats 1000000
set_option autoImplicit false
namespace PySem
open Sem (wp)
end PySem
set_option maxHeartbeats 1000000
set_option autoImplicit false
set_option maxHeartbeats 1000000
set_option autoImplicit false
set_option maxHeartbeats 1000000
set_option autoImplicit false
set_option maxHeartbeats 1000000
namespace Sv
open PySem
/-- an iterator of a list or of a tuple, as ka says -/
def ItM (ka : Addr → Bool) (h : Heap) (a l : Addr) (i : Nat) : Prop := (ka l = true ∧ h.IsListIter a l i) ∨ (ka l = false ∧ h.IsTupleIter a l i)
def SqM (ka : Addr → Bool) (h : Heap) (l : Addr) (xs : Array Value) : Prop := (ka l = true ∧ h.IsList l xs) ∨ (ka l = false ∧ h.IsTuple l xs)
theorem ItM.at {ka : Addr → Bool} {h h' : Heap} {a l : Addr} {i : Nat} (H : ItM ka h a l i) (e : ∀ o, h.get? a = some o → h'.get? a = some o) : ItM ka h' a l i := H.elim (fun x => .inl ⟨x.1, x.2.at e⟩) fun x => .inr ⟨x.1, x.2.at e⟩
theorem SqM.keep {ka : Addr → Bool} {h h' : Heap} {l : Addr} {xs : Array Value} (H : SqM ka h l xs) (e : ∀ o, h.get? l = some o → h'.get? l = some o) : SqM ka h' l xs := by
  rcases H with ⟨k, o, ho, r⟩ | ⟨k, o, ho, r⟩
  · exact .inl ⟨k, o, e o ho, r⟩
  · exact .inr ⟨k, o, e o ho, r⟩
end Sv
set_option maxHeartbeats 1000000
set_option autoImplicit false
set_option maxHeartbeats 1000000
set_option autoImplicit false
set_option maxHeartbeats 1000000
set_option autoImplicit false
namespace Sv
open PySem L2
/-- is_number_within: 0 value 1 low 2 high -/
def B_is_number_within_7f04 : DTS := dRet (dAndV (dCall 1 (dFn 1 B_is_number_52f5) (dCons (dVar 0) (dNil))) (dChain (rCmp fun i j => decide (i ≤ j)) (rCmp fun i j => decide (i ≤ j)) (dVar 1) (dVar 0) (dVar 2)))
end Sv
set_option maxHeartbeats 800000
set_option autoImplicit false
namespace Sv
open PySem L2
/-- what is wanted where something is handed out; here: nothing, and it goes on -/
def ylL : List D → D → Sto → (Sto → Prop) → Prop := fun _ _ S k => k S
structure DGEnds where
  nx : List D → Env → Sto → Prop
  rt : List D → DK
  yl : List D → D → Sto → (Sto → Prop) → Prop := ylL
  bk : List D → Env → Sto → Prop := fun _ _ _ => False
  ct : List D → Env → Sto → Prop := fun _ _ _ => False
abbrev DTGn := DGEnds → List D → Env → Sto → Prop
/-- a statement that hands out nothing -/
def dgPlain (t : DTS) : DTGn := fun C ds env S => t { nx := C.nx ds, rt := C.rt ds, bk := C.bk ds, ct := C.ct ds } env S
def dgNext : DTGn := fun C ds env S => C.nx ds env S
def dgSeq (t u : DTGn) : DTGn := fun C ds env S => t { C with nx := u C } ds env S
def dgYield (te : DTE) : DTGn := fun C ds env S => ds.length < 1000000 ∧ te env S fun d S1 => C.yl ds d S1 fun S2 => C.nx (ds ++ [d]) env S2
def dgWhile (c : DTT) (tb : DTGn) : DTGn := fun C ds env S => ∃ W : Nat → List D → Env → Sto → Prop, (∃ m, W m ds env S) ∧ ∀ m ds env S, W m ds env S →
  c env S fun b S1 => if b = true then tb { C with nx := fun ds' env' S' => ∃ m', m' < m ∧ W m' ds' env' S', ct := fun ds' env' S' => ∃ m', m' < m ∧ W m' ds' env' S', bk := C.nx } ds env S1 else C.nx ds env S1
end Sv
set_option maxHeartbeats 800000
set_option autoImplicit false
namespace Sv
open PySem PySem.Spec PyProof.Rows L2
/-- what a generator def hands out -/
abbrev DRG := List D → Sto → (List D → Sto → Prop) → Prop
def lGf (K : KK) (n : Nat) (r : DRG) : SpG := fun vs H Q _ => vs.length = n ∧ ∃ ds S R, RDs K H ds vs ∧ RelS K S H ∧ r ds S R ∧ ∀ out S' ys H', R out S' → RDs K H' out ys → RelS K S' H' → Ext H H' → Q ys H'
section
variable {P : Program} {w : World} {K : PySem.W.Frag} {mg : Str → Option Value} {base : Heap}
structure DGo (P : Program) (w : World) (K : PySem.W.Frag) (mg : Str → Option Value) (base : Heap) (k : Nat) (x : Str) (n : Nat) (r : DRG) : Prop where
  ex : ∃ (f : Addr) (fd : FuncData) (ps : List Str), GFn P w K mg base k f fd ps (lGf ⟨P, w, K⟩ n r) ∧ mg x = some (.ref f) ∧ PySem.W.keepIn K (.ref f) = true ∧ Binds K fd ps []
theorem DGo.mk' {k n : Nat} {x : Str} {r : DRG} {f : Addr} {fd : FuncData} {ps : List Str} (F : GFn P w K mg base k f fd ps (lGf ⟨P, w, K⟩ n r)) (hm : mg x = some (.ref f)) (hk : PySem.W.keepIn K (.ref f) = true) (hb : Binds K fd ps []) : DGo P w K mg base k x n r :=
  ⟨f, fd, ps, F, hm, hk, hb⟩
end
end Sv
set_option autoImplicit false
namespace Sv
open PySem PySem.Spec PyProof.Rows L2 Sz
/-- it rests on its own object alone -/
def immO : HO → Bool
  | .tup _ => true
  | .tbl _ => true
  | .frz _ (.lst _) => true
  | .frz _ (.tup _) => true
  | .frz _ (.dK _) => true
  | _ => false
def keepO (u : HO) : Bool := immO u && (match u with | .tbl _ => false | _ => true)
def immH (H : Hp) : Hp := fun b => (H b).filter immO
theorem immH_some {H : Hp} {b : Addr} {u : HO} : immH H b = some u ↔ H b = some u ∧ immO u = true := by
  unfold immH
  rw [Option.filter_eq_some_iff]
theorem immH_none {H : Hp} {b : Addr} (h : H b = none) : immH H b = none := by unfold immH; rw [h]; rfl
/-- what is known and stays stays -/
def Ext3 (H H' : Hp) : Prop := ∀ b u, keepO u = true → H b = some u → H' b = some u
theorem Ext3.refl (H : Hp) : Ext3 H H := fun _ _ _ h => h
theorem Ext3.trans {H H1 H2 : Hp} (x : Ext3 H H1) (y : Ext3 H1 H2) : Ext3 H H2 := fun b u k h => y b u k (x b u k h)
theorem Ext3.of {H H' : Hp} (e : Ext H H') : Ext3 H H' := fun b u k h => by
  cases u with
  | tup xs => exact e.2 _ _ h
  | frz o u => exact e.1 _ _ _ h
  | _ => exact (nomatch (show false = true from k))
theorem keep_imm {u : HO} (h : keepO u = true) : immO u = true := by unfold keepO at h; exact (Bool.and_eq_true_iff.mp h).1
section
variable {K : KK} {H H' : Hp}
theorem TupN.ext3 {a : Addr} {xs : List V} (h : TupN H a xs) (e : Ext3 H H') : TupN H' a xs := by
  obtain ⟨o, h, d⟩ := h
  exact ⟨o, e _ _ rfl h, d⟩
theorem Rol.ext3 {a : Addr} {vs : List V} (h : Rol K H a vs) (e : Ext3 H H') : Rol K H' a vs := by
  rcases h with ⟨o, h⟩ | h
  · exact .inl ⟨o, e _ _ rfl h⟩
  · exact .inr h
mutual
theorem RD.ext3 (e : Ext3 H H') : ∀ {d : D} {v : V}, RD K H d v → RD K H' d v
  | _, _, .non => .non
  | _, _, .bl b => .bl b
  | _, _, .int i => .int i
  | _, _, .str x => .str x
  | _, _, .ref a => .ref a
  | _, _, .ty n => .ty n
  | _, _, .tup h r => .tup (h.ext3 e) (RDs.ext3 e r)
  | _, _, .rol h r => .rol (h.ext3 e) (RDs.ext3 e r)
  | _, _, .dct h r => .dct (e _ _ rfl h) (RDk.ext3 e r)
  | _, _, .wtup h r => .wtup (e _ _ rfl h) (RDs.ext3 e r)
theorem RDs.ext3 (e : Ext3 H H') : ∀ {ds : List D} {vs : List V}, RDs K H ds vs → RDs K H' ds vs
  | _, _, .nil => .nil
  | _, _, .cons h r => .cons (RD.ext3 e h) (RDs.ext3 e r)
theorem RDk.ext3 (e : Ext3 H H') : ∀ {ds : List (Key × D)} {vs : List (Key × V)}, RDk K H ds vs → RDk K H' ds vs
  | _, _, .nil => .nil
  | _, _, .cons h r => .cons (RD.ext3 e h) (RDk.ext3 e r)
end
end
theorem immOk {P : Program} {w : World} {H H' : Hp} {h h' : Heap} {a : Addr} {u : HO} (i : immO u = true) (x : ObjOk P w H h a u) (k : ∀ o, h.get? a = some o → h'.get? a = some o) : ObjOk P w H' h' a u := by
  have lstc : ∀ xs, ObjOk P w H h a (.lst xs) → ObjOk P w H' h' a (.lst xs) := fun xs x => by
    obtain ⟨z, its, n, r, e⟩ := x
    exact ⟨z, its, n, r, k _ e⟩
  have tupc : ∀ xs, ObjOk P w H h a (.tup xs) → ObjOk P w H' h' a (.tup xs) := fun xs x => by
    obtain ⟨z, its, r, ob, e, c⟩ := x
    exact ⟨z, its, r, ob, k _ e, c⟩
  have dc : ∀ xs, ObjOk P w H h a (.dK xs) → ObjOk P w H' h' a (.dK xs) := fun xs x => by
    obtain ⟨z, y, vs, r, ob, es, ep, e, c⟩ := x
    exact ⟨z, y, vs, r, ob, es, ep, k _ e, c⟩
  cases u with
  | tup xs => exact tupc xs x
  | tbl ps => exact k _ x
  | frz o u =>
    obtain ⟨e, q⟩ := x
    cases u with
    | lst xs => exact ⟨k _ e, lstc xs q⟩
    | tup xs => exact ⟨k _ e, tupc xs q⟩
    | dK xs => exact ⟨k _ e, dc xs q⟩
    | _ => exact (nomatch (show false = true from i))
  | _ => exact (nomatch (show false = true from i))
theorem mut_hidden {u : HO} (m : Mut (some u)) : immO u = false := by
  cases u with
  | tup _ => exact m.elim
  | tbl _ => exact m.elim
  | frz _ _ => exact m.elim
  | _ => rfl
/-- one thing as it stands -/
abbrev asIs (b : Addr) (o : Obj) : HO := .frz o (.ext fun h => h.get? b = some o)
/-- a generator's call: what it runs, where its frame's dict stands -/
structure GP where
  P : Program
  w : World
  K : PySem.W.Frag
  mg : Str → Option Value
  base : Heap
  N : List Str
  qual : Str
  scope : Scope
  f : Addr
  cdv : Value
  L : Addr
  k : Nat
abbrev GP.kk (g : GP) : KK := ⟨g.P, g.w, g.K⟩
abbrev GP.env (g : GP) : PySem.Env := envOfC g.qual g.scope g.L g.f g.cdv
structure GP.Ok (g : GP) : Prop where
  kind : g.scope.kind = .function
  noc : ∀ y ∈ g.scope.names, y.2 = .cell → False
  nofree : ∀ y ∈ g.scope.names, y.2 ≠ .free
  co : g.scope.isCoroutine = false
  inter : interactive g.env = false
  bsz : g.base.objs.size ≤ g.L
/-- a waking: around what, the frames that run, the state, the heap as it is known there, the generator's own things -/
structure Wk where
  A : Around
  outer : List PySem.Env
  s : Shared
  H : Hp
  fp : List Addr
def cutS (L : Nat) (s : Shared) : Shared := { s with heap := ⟨s.heap.objs.extract 0 L, s.heap.life⟩ }
theorem cutS_size {L : Nat} {s : Shared} (h : L ≤ s.heap.objs.size) : (cutS L s).heap.objs.size = L := by
  show (s.heap.objs.extract 0 L).size = L
  rw [Array.size_extract]
  omega
theorem cutS_get {L : Nat} {s : Shared} {b : Nat} (h : b < L) : (cutS L s).heap.get? b = s.heap.get? b := by
  have : (s.heap.objs.extract 0 L)[b]? = s.heap.objs[b]? := by
    rw [Array.getElem?_extract]
    by_cases hb : b < s.heap.objs.size
    · rw [if_pos (by omega), Nat.zero_add]
    · rw [if_neg (by omega), Array.getElem?_eq_none (by omega)]
  unfold Heap.get? cutS
  dsimp only
  rw [this]
theorem cutS_lt {L : Nat} {s : Shared} {b : Nat} {o : Obj} (h : (cutS L s).heap.get? b = some o) : b < L := by
  have h1 : b < (cutS L s).heap.objs.size := Heap.lt_size h
  have q : (cutS L s).heap.objs.size = min L s.heap.objs.size := by
    show (s.heap.objs.extract 0 L).size = _
    rw [Array.size_extract]
    omega
  omega
/-- what the generator is given: what is known and stays; of all else above L only that it stands as it stands -/
def guardH (L : Addr) (w : Wk) : Hp := fun b => match immH w.H b with
  | some u => some u
  | none => if L ≤ b ∧ b ∉ w.fp then (w.s.heap.get? b).map (asIs b) else none
def GP.cx (g : GP) (w : Wk) : Cx := (cxOf CX0 g.P g.w g.K g.mg g.base g.N g.qual g.scope g.f g.cdv w.A w.outer (cutS g.L w.s) (guardH g.L w) (fun _ _ _ => False)).nox
structure En (g : GP) (w : Wk) : Prop where
  e0 : Env0 g.P g.w g.K g.mg g.base w.A w.outer w.s w.H
  room : Room g.k (w.A.deeper g.env)
  fr : ∀ b ∈ frs w.outer, b < g.L
  lt : g.L < w.s.heap.objs.size
  fpL : g.L ∈ w.fp
  fpH : ∀ b ∈ w.fp, w.H b = none ∧ g.L ≤ b
section
variable {g : GP} {w w' : Wk} {b : Addr} {u : HO} {o : Obj}
theorem guard_imm (h : immH w.H b = some u) : guardH g.L w b = some u := by unfold guardH; rw [h]
theorem guard_low (h : immH w.H b = none) (hb : b < g.L) : guardH g.L w b = none := by
  unfold guardH
  rw [h]
  exact if_neg fun z => absurd z.1 (Nat.not_le_of_lt hb)
theorem guard_fp (E : En g w) (hb : b ∈ w.fp) : guardH g.L w b = none := by
  unfold guardH
  rw [immH_none (E.fpH b hb).1]
  exact if_neg fun z => z.2 hb
theorem guard_high (h : immH w.H b = none) (hb : g.L ≤ b) (hf : b ∉ w.fp) (e : w.s.heap.get? b = some o) : guardH g.L w b = some (asIs b o) := by
  unfold guardH
  rw [h]
  show (if _ then _ else _) = _
  rw [if_pos ⟨hb, hf⟩, e]
  rfl
theorem guard_cases (h : guardH g.L w b = some u) : (immH w.H b = some u) ∨ (immH w.H b = none ∧ g.L ≤ b ∧ b ∉ w.fp ∧ ∃ o, w.s.heap.get? b = some o ∧ u = asIs b o) := by
  unfold guardH at h
  cases e : immH w.H b with
  | some v => rw [e] at h; exact .inl h
  | none =>
    rw [e] at h
    have h : (if g.L ≤ b ∧ b ∉ w.fp then (w.s.heap.get? b).map (asIs b) else none) = some u := h
    by_cases z : g.L ≤ b ∧ b ∉ w.fp
    · rw [if_pos z] at h
      cases e2 : w.s.heap.get? b with
      | none => rw [e2] at h; cases h
      | some o =>
        rw [e2] at h
        exact .inr ⟨rfl, z.1, z.2, o, rfl, (Option.some.inj h).symm⟩
    · rw [if_neg z] at h
      cases h
theorem guard_keep (k : keepO u = true) (h : guardH g.L w b = some u) : w.H b = some u := by
  rcases guard_cases h with z | ⟨_, _, _, o, _, rfl⟩
  · exact (immH_some.mp z).1
  · exact (nomatch (show false = true from k))
theorem ext3_guard : Ext3 w.H (guardH g.L w) := fun b u k h => guard_imm (immH_some.mpr ⟨h, keep_imm k⟩)
theorem cx_env (E : En g w) : (g.cx w).env = g.env := by
  show envOfC g.qual g.scope (cutS g.L w.s).heap.objs.size g.f g.cdv = _
  rw [cutS_size (Nat.le_of_lt E.lt)]
theorem cx_A (E : En g w) : (g.cx w).A = w.A.deeper g.env := by
  show w.A.deeper (envOfC g.qual g.scope (cutS g.L w.s).heap.objs.size g.f g.cdv) = _
  rw [cutS_size (Nat.le_of_lt E.lt)]
theorem no_cells (G : g.Ok) (x : Str) (c : Addr) : g.env.cells.lookup x = some c → False := by
  have : ∀ (n : Nat) (l : List (Str × NameKind)), (∀ y ∈ l, y.2 = .cell → False) → cellsFrom n l [] = [] := by
    intro n l
    induction l generalizing n with
    | nil => intro _; first | rfl | (unfold cellsFrom; rfl)
    | cons a t ih =>
      intro h
      obtain ⟨x, k⟩ := a
      have h1 := h (x, k) List.mem_cons_self
      unfold cellsFrom
      have hk : (k == NameKind.cell) = false := by cases k <;> first | rfl | exact (h1 rfl).elim
      rw [hk, if_neg Bool.false_ne_true]
      exact ih _ fun y hy => h y (List.mem_cons_of_mem _ hy)
  intro h
  have e : g.env.cells = [] := this _ _ G.noc
  rw [e] at h
  cases h
end
end Sv
set_option autoImplicit false
namespace Sv
open PySem PySem.Spec PyProof.Rows L2 Sz
variable {g : GP} {w w' : Wk} {ip : List (Addr × Obj)} {σ : L2.St} {H : Hp} {s : Shared}
/-- the heap as the others know it behind the generator's turn -/
def outH (w : Wk) (H : Hp) : Hp := fun b => match w.H b with
  | some u => if immO u = true then immH H b else some u
  | none => immH H b
theorem outH_hid {b : Addr} {u : HO} (h : w.H b = some u) (n : immO u = false) : outH w H b = some u := by
  unfold outH
  rw [h]
  show (if _ then _ else _) = _
  rw [if_neg (by rw [n]; exact Bool.false_ne_true)]
theorem outH_imm {b : Addr} (h : ∀ u, w.H b = some u → immO u = true) : outH w H b = immH H b := by
  unfold outH
  cases e : w.H b with
  | none => rfl
  | some u =>
    show (if _ then _ else _) = _
    rw [if_pos (h u e)]
theorem immH_hid {b : Addr} {u : HO} (h : w.H b = some u) (n : immO u = false) : immH w.H b = none := by
  cases e : immH w.H b with
  | none => rfl
  | some v =>
    obtain ⟨h1, h2⟩ := immH_some.mp e
    rw [h] at h1
    cases h1
    rw [n] at h2
    cases h2
theorem nofr (E : En g w) {b : Addr} {u : HO} (h : w.H b = some u) : b ∉ frs w.outer := fun z => by
  rw [E.e0.frf b z] at h
  cases h
theorem in_keep (I : Inv (g.cx w) ip σ H s) {b : Addr} {u : HO} (k : keepO u = true) (h : w.H b = some u) : H b = some u := by
  have hg : guardH g.L w b = some u := guard_imm (immH_some.mpr ⟨h, keep_imm k⟩)
  cases u with
  | tup xs => exact I.base.tups _ _ hg
  | frz o v => exact I.base.frzs _ _ _ hg
  | _ => exact (nomatch (show false = true from k))
theorem in_imm (I : Inv (g.cx w) ip σ H s) {b : Addr} {u : HO} (k : immO u = true) (h : w.H b = some u) : ∃ v, H b = some v ∧ immO v = true := by
  by_cases z : keepO u = true
  · exact ⟨u, in_keep I z h, k⟩
  · cases u with
    | tbl ps =>
      obtain ⟨more, q⟩ := I.base.tbls _ _ (guard_imm (immH_some.mpr ⟨h, k⟩))
      exact ⟨_, q, rfl⟩
    | tup xs => exact absurd rfl z
    | frz o v =>
      unfold keepO at z
      rw [k] at z
      exact absurd rfl z
    | _ => exact (nomatch (show false = true from k))
theorem in_low (E : En g w) (I : Inv (g.cx w) ip σ H s) {b : Addr} {o : Obj} (n : immH w.H b = none) (hb : b < g.L) (e : w.s.heap.get? b = some o) : H b = none ∧ (b ∉ frs w.outer → s.heap.get? b = some o) ∧ (b ∈ frs w.outer → ∃ sl, s.heap.get? b = some { o with slots := sl }) := by
  have e' : (cutS g.L w.s).heap.get? b = some o := (cutS_get hb).trans e
  have gn : guardH g.L w b = none := guard_low n hb
  exact ⟨I.base.free b o e' gn (by show b ∉ []; simp), fun hf => I.base.keep b o e' gn hf (by show b ∉ []; simp), fun hf => I.base.slot b o e' gn hf (by show b ∉ []; simp)⟩
theorem in_high (E : En g w) (I : Inv (g.cx w) ip σ H s) {b : Addr} {o : Obj} (n : immH w.H b = none) (hb : g.L ≤ b) (hf : b ∉ w.fp) (e : w.s.heap.get? b = some o) : H b = some (asIs b o) ∧ s.heap.get? b = some o := by
  have q := I.base.frzs b o _ (guard_high n hb hf e)
  exact ⟨q, (I.hok b _ q).1⟩
/-- what is not the generator's own is kept -/
theorem in_kept (E : En g w) (I : Inv (g.cx w) ip σ H s) {b : Addr} {o : Obj} (n : immH w.H b = none) (hf : b ∉ w.fp) (hr : b ∉ frs w.outer) (e : w.s.heap.get? b = some o) : s.heap.get? b = some o ∧ immH H b = none := by
  by_cases hb : b < g.L
  · obtain ⟨q1, q2, _⟩ := in_low E I n hb e
    exact ⟨q2 hr, immH_none q1⟩
  · obtain ⟨q1, q2⟩ := in_high E I n (Nat.le_of_not_lt hb) hf e
    refine ⟨q2, ?_⟩
    unfold immH
    rw [q1]
    rfl
theorem out_same (E : En g w) (I : Inv (g.cx w) ip σ H s) {b : Addr} {u : HO} (h : w.H b = some u) (n : immO u = false) {o : Obj} (e : w.s.heap.get? b = some o) : s.heap.get? b = some o :=
  (in_kept E I (immH_hid h n) (fun z => by rw [(E.fpH b z).1] at h; cases h) (nofr E h) e).1
theorem out_ext (I : Inv (g.cx w) ip σ H s) : Ext w.H (outH w H) := by
  have key : ∀ b u, w.H b = some u → (keepO u = true ∨ immO u = false) → outH w H b = some u := fun b u h k => by
    rcases k with k | k
    · rw [outH_imm fun v q => by rw [h] at q; cases q; exact keep_imm k]
      exact immH_some.mpr ⟨in_keep I k h, keep_imm k⟩
    · exact outH_hid h k
  refine ⟨fun a o u h => key _ _ h ?_, fun a xs h => key _ _ h (.inl rfl)⟩
  cases u <;> first | exact .inl rfl | exact .inr rfl
theorem out_ok (E : En g w) (I : Inv (g.cx w) ip σ H s) : HOk g.P g.w (outH w H) s.heap := fun b u q => by
  have I3 : HOk g.P g.w H s.heap := I.hok
  by_cases hid : ∃ v, w.H b = some v ∧ immO v = false
  · obtain ⟨v, h, n⟩ := hid
    rw [outH_hid h n] at q
    cases q
    refine (E.e0.hok b _ h).stay (fun c o hc e => ?_) (fun c hc => outH_hid hc rfl) fun c xs hc => (out_ext I).2 c xs hc
    rcases hc with rfl | hc
    · exact out_same E I h n e
    · exact out_same E I hc rfl e
  · rw [outH_imm fun v hv => by
      cases e : immO v with
      | true => rfl
      | false => exact (hid ⟨v, hv, e⟩).elim] at q
    obtain ⟨q1, q2⟩ := immH_some.mp q
    exact immOk q2 (I3 b u q1) fun o e => e
theorem out_un (E : En g w) (I : Inv (g.cx w) ip σ H s) : Un (frs w.outer) w.fp w.H (outH w H) w.s.heap s.heap where
  keep := fun b o e n hf hx => (in_kept E I (immH_none n) hx hf e).1
  slot := fun b o e n hf hx => (in_low E I (immH_none n) (E.fr b hf) e).2.2 hf
  free := fun b o e n hx => by
    rw [outH_imm fun v hv => by rw [n] at hv; cases hv]
    by_cases hf : b ∈ frs w.outer
    · exact immH_none (in_low E I (immH_none n) (E.fr b hf) e).1
    · exact (in_kept E I (immH_none n) hx hf e).2
  there := fun b o e hx => by
    cases h : w.H b with
    | none =>
      by_cases hf : b ∈ frs w.outer
      · obtain ⟨sl, q⟩ := (in_low E I (immH_none h) (E.fr b hf) e).2.2 hf
        exact ⟨_, q⟩
      · exact ⟨o, (in_kept E I (immH_none h) hx hf e).1⟩
    | some u =>
      cases hi : immO u with
      | false => exact ⟨o, out_same E I h hi e⟩
      | true =>
        obtain ⟨v, q, _⟩ := in_imm I hi h
        have z := (I.hok b v q)
        have lt := z.lt
        cases v with
        | lst xs => obtain ⟨_, _, _, _, e⟩ := z; exact ⟨_, e⟩
        | tup xs => obtain ⟨_, _, _, ob, e, _⟩ := z; exact ⟨_, e⟩
        | tbl ps => exact ⟨_, z⟩
        | frz ob v => exact ⟨_, z.1⟩
        | _ => rename_i hv; exact (nomatch (show false = true from hv))
  tups := (out_ext I).2
  frzs := (out_ext I).1
  tbls := fun b ps h => by
    obtain ⟨more, q⟩ := I.base.tbls b ps (guard_imm (immH_some.mpr ⟨h, rfl⟩))
    refine ⟨more, ?_⟩
    rw [outH_imm fun v hv => by rw [h] at hv; cases hv; rfl]
    exact immH_some.mpr ⟨q, rfl⟩
theorem out_rel (I : Inv (g.cx w) ip σ H s) {K : KK} {S : Sto} (r : RelS K S w.H) : RelS K S (outH w H) := fun a o e => by
  obtain ⟨u, q, m⟩ := (r a o e).mut
  exact (r a o e).ext (out_ext I) ((outH_hid q (mut_hidden m)).trans q.symm)
theorem out_ext3 (E : En g w) (I : Inv (g.cx w) ip σ H s) : Ext3 H (outH w H) := fun b u k h => by
  have hn : ∀ v, w.H b = some v → immO v = true := fun v hv => by
    cases e : immO v with
    | true => rfl
    | false =>
      have ni := immH_hid hv e
      have hl := E.e0.hok.lt hv
      have nf : b ∉ w.fp := fun z => by rw [(E.fpH b z).1] at hv; cases hv
      have hx : ∃ o, w.s.heap.get? b = some o := by
        have x := E.e0.hok b v hv
        cases v with
        | lst xs => obtain ⟨_, _, _, _, e⟩ := x; exact ⟨_, e⟩
        | tup xs => obtain ⟨_, _, _, ob, e, _⟩ := x; exact ⟨_, e⟩
        | dK kvs => obtain ⟨_, _, _, _, o, _, _, e, _⟩ := x; exact ⟨_, e⟩
        | dT kvs => obtain ⟨_, _, _, _, o, _, _, e, _⟩ := x; exact ⟨_, e⟩
        | set S n => obtain ⟨o, _, _, _, e, _⟩ := x; exact ⟨_, e⟩
        | ins C dx fs => obtain ⟨_, _, _, e, _⟩ := x; exact ⟨_, e⟩
        | own y => obtain ⟨_, e⟩ := x; exact ⟨_, e⟩
        | xd fs => obtain ⟨_, ⟨_, _, _, e, _⟩, _⟩ := x; exact ⟨_, e⟩
        | rng lo hi => obtain ⟨_, _, _, e⟩ := x; exact ⟨_, e⟩
        | frz ob u => obtain ⟨e, _⟩ := x; exact ⟨_, e⟩
        | tbl ps => exact ⟨_, x⟩
        | met f y => exact ⟨_, x⟩
        | ext φ => obtain ⟨_, ⟨_, e⟩, _⟩ := x; exact ⟨_, e⟩
      obtain ⟨o, eo⟩ := hx
      have hm := (in_kept E I ni nf (nofr E hv) eo).2
      rw [immH_some.mpr ⟨h, keep_imm k⟩] at hm
      cases hm
  rw [outH_imm hn]
  exact immH_some.mpr ⟨h, keep_imm k⟩
end Sv
set_option autoImplicit false
namespace Sv
open PySem PySem.Spec PyProof.Rows L2 Sz
variable {g : GP} {w w' : Wk} {ip : List (Addr × Obj)} {σ : L2.St} {H : Hp} {s : Shared} {env : Env} {S : Sto}
theorem funs_cut {L : Nat} {base : Heap} {s : Shared} : ∀ {l : List PySem.Env}, (∀ b ∈ frs l, b < L) → s.heap.FunFrames base l → (cutS L s).heap.FunFrames base l := by
  intro l
  induction l with
  | nil => intro _ _; trivial
  | cons env r ih =>
    intro hs hl
    obtain ⟨hk, ⟨L1, o, hf, hn, ho, hd⟩, hr⟩ := hl
    have hL : L1 < L := hs L1 (by unfold frs; rw [List.filterMap_cons, hf]; exact List.mem_cons_self)
    exact ⟨hk, ⟨L1, _, hf, hn, (cutS_get hL).trans ho, hd⟩, ih (fun b hb => hs b (by unfold frs; rw [List.filterMap_cons, hf]; exact List.mem_cons_of_mem _ hb)) hr⟩
theorem cx_ok (G : g.Ok) (E : En g w) : (g.cx w).Ok := by
  have nc : ∀ x c, (g.cx w).env.cells.lookup x = some c → False := fun x c h => by rw [cx_env E] at h; exact no_cells G x c h
  have hlt : ∀ b o, g.base.get? b = some o → b < g.L := fun b o e => Nat.lt_of_lt_of_le (Heap.lt_size e) G.bsz
  refine ⟨E.e0.mod, G.kind, rfl, rfl, Nat.le_refl _, fun x y c h _ => (nc x c h).elim, fun x h => ?_, fun x c _ h => (nc x c h).elim, fun _ => ?_, Around.frames_deeper E.e0.frames, .inr ⟨rfl, rfl⟩, fun b z => ?_, fun b o e => ?_, ?_, fun b o e z => ?_, fun b z => ?_, funs_cut E.fr E.e0.funs, fun b hb => ?_⟩
  · have h : g.scope.names.lookup x = some .cell ∨ g.scope.names.lookup x = some .free := h
    rcases h with h | h
    · exact (G.noc _ (PySem.mem_of_lookup h) rfl).elim
    · exact absurd rfl (G.nofree _ (PySem.mem_of_lookup h))
  · rw [cx_A E]; exact E.room.hd
  · exact absurd (show b ∈ ([] : List Addr) from z) (by simp)
  · obtain ⟨q1, q2⟩ := E.e0.bs b o e
    exact ⟨(cutS_get (hlt b o e)).trans q1, guard_low (immH_none q2) (hlt b o e)⟩
  · show g.base.objs.size ≤ (cutS g.L w.s).heap.objs.size
    rw [cutS_size (Nat.le_of_lt E.lt)]
    exact G.bsz
  · exact absurd (show b ∈ ([] : List Addr) from z) (by simp)
  · exact absurd (show b ∈ ([] : List Addr) from z) (by simp)
  · exact guard_low (immH_none (E.e0.frf b hb)) (E.fr b hb)
/-- what is kept of a generator's store over its sleep -/
def keepLD (S : Sto) : Sto := fun b => match S b with
  | some (.lst ds) => some (.lst ds)
  | some (.dK kvs) => some (.dK kvs)
  | _ => none
theorem keepLD_some {b : Addr} {o : Ob} (h : keepLD S b = some o) : S b = some o ∧ ((∃ ds, o = .lst ds) ∨ ∃ kvs, o = .dK kvs) := by
  unfold keepLD at h
  cases e : S b with
  | none => rw [e] at h; cases h
  | some u =>
    rw [e] at h
    cases u with
    | lst ds => cases h; exact ⟨rfl, .inl ⟨_, rfl⟩⟩
    | dK ds => cases h; exact ⟨rfl, .inr ⟨_, rfl⟩⟩
    | _ => cases h
theorem keepLD_lst {b : Addr} {ds : List D} (h : S b = some (.lst ds)) : keepLD S b = some (.lst ds) := by unfold keepLD; rw [h]
theorem keepLD_dK {b : Addr} {ds : List (Key × D)} (h : S b = some (.dK ds)) : keepLD S b = some (.dK ds) := by unfold keepLD; rw [h]
structure AtG (g : GP) (w : Wk) (ip : List (Addr × Obj)) (σ : L2.St) (H : Hp) (s : Shared) (env : Env) (S : Sto) : Prop where
  en : En g w
  inv : Inv (g.cx w) ip σ H s
  dead : Dead w.s s
  rs : RS g.kk σ H env S
  ipok : ∀ p ∈ ip, g.L ≤ p.1
/-- it was the generator's own, or it was not -/
theorem new_or_own (E : En g w) (I : Inv (g.cx w) ip σ H s) {b : Addr} (hb : g.L ≤ b) (n : ∀ u, H b = some u → immO u = false ∧ ∀ o v, u ≠ .frz o v) : b ∈ w.fp ∨ w.s.heap.get? b = none := by
  by_cases hf : b ∈ w.fp
  · exact .inl hf
  · cases e : w.s.heap.get? b with
    | none => exact .inr rfl
    | some o =>
      cases hi : immH w.H b with
      | none => exact ((n _ (in_high E I hi hb hf e).1).2 _ _ rfl).elim
      | some u =>
        obtain ⟨h1, h2⟩ := immH_some.mp hi
        obtain ⟨v, q, k⟩ := in_imm I h2 h1
        have := (n v q).1
        rw [k] at this
        cases this
theorem ob_at {K : KK} {b : Addr} {o : Ob} (r : RelS K S H) (h : keepLD S b = some o) : (∃ vs, H b = some (.lst vs)) ∨ ∃ vs, H b = some (.dK vs) := by
  obtain ⟨h1, ⟨ds, rfl⟩ | ⟨kvs, rfl⟩⟩ := keepLD_some h
  · obtain ⟨vs, q, _⟩ := r b _ h1
    exact .inl ⟨vs, q⟩
  · obtain ⟨vs, q, _⟩ := r b _ h1
    exact .inr ⟨vs, q⟩
theorem ob_mut {K : KK} {b : Addr} {o : Ob} (r : RelS K S H) (h : keepLD S b = some o) : ∀ u, H b = some u → immO u = false ∧ ∀ o v, u ≠ .frz o v := fun u hu => by
  rcases ob_at r h with ⟨vs, q⟩ | ⟨vs, q⟩ <;>
  · rw [q] at hu
    cases hu
    exact ⟨rfl, fun _ _ z => nomatch z⟩
theorem ob_heap {P : Program} {w : World} {K : KK} {h : Heap} {b : Addr} {o : Ob} (r : RelS K S H) (hk : HOk P w H h) (e : keepLD S b = some o) : ∃ ob, h.get? b = some ob ∧ ∀ v, ob.data ≠ .cell v := by
  rcases ob_at r e with ⟨vs, q⟩ | ⟨vs, q⟩
  · obtain ⟨_, its, n, _, e⟩ := hk b _ q
    exact ⟨_, e, fun v z => nomatch z⟩
  · obtain ⟨_, _, ys, _, ob, es, ep, e, _, d, _⟩ := hk b _ q
    refine ⟨_, e, fun v z => ?_⟩
    first
      | (rw [d] at z; cases z)
      | (rw [d.1] at z; cases z)
theorem AtG.own (A : AtG g w ip σ H s env S) {b : Addr} {o : Ob} (h : keepLD S b = some o) : g.L ≤ b := by
  refine Nat.le_of_not_lt fun hb => ?_
  obtain ⟨ob, e, _⟩ := ob_heap A.rs.sto A.inv.hok h
  cases e1 : w.s.heap.get? b with
  | none =>
    rw [A.dead.no b (Nat.lt_trans hb A.en.lt) e1] at e
    cases e
  | some o1 =>
    cases hi : immH w.H b with
    | none =>
      have q := (in_low A.en A.inv hi hb e1).1
      rcases ob_at A.rs.sto h with ⟨vs, z⟩ | ⟨vs, z⟩ <;>
      · rw [q] at z
        cases z
    | some u =>
      obtain ⟨h1, h2⟩ := immH_some.mp hi
      obtain ⟨v, q, k⟩ := in_imm A.inv h2 h1
      have := (ob_mut A.rs.sto h v q).1
      rw [k] at this
      cases this
/-- the generator's own things over its sleep -/
def ownFp (L : Addr) (ip : List (Addr × Obj)) (S : Sto) (s : Shared) : List Addr := L :: (ip.map (·.1) ++ (List.range s.heap.objs.size).filter fun b => (keepLD S b).isSome)
theorem mem_ownFp {L : Addr} {b : Addr} (h : b ∈ ownFp L ip S s) : b = L ∨ (∃ p ∈ ip, p.1 = b) ∨ ∃ o, keepLD S b = some o := by
  rcases List.mem_cons.mp h with h | h
  · exact .inl h
  · rcases List.mem_append.mp h with h | h
    · obtain ⟨p, hp, e⟩ := List.mem_map.mp h
      exact .inr (.inl ⟨p, hp, e⟩)
    · exact .inr (.inr (Option.isSome_iff_exists.mp (List.mem_filter.mp h).2))
theorem own_mem (A : AtG g w ip σ H s env S) {b : Addr} {o : Ob} (h : keepLD S b = some o) : b ∈ ownFp g.L ip S s := by
  obtain ⟨ob, e, _⟩ := ob_heap A.rs.sto A.inv.hok h
  exact List.mem_cons_of_mem _ (List.mem_append_right _ (List.mem_filter.mpr ⟨List.mem_range.mpr (Heap.lt_size e), by rw [h]; rfl⟩))
theorem ip_mem {L : Addr} {p : Addr × Obj} (h : p ∈ ip) : p.1 ∈ ownFp L ip S s := List.mem_cons_of_mem _ (List.mem_append_left _ (List.mem_map.mpr ⟨p, h, rfl⟩))
/-- what the others get of the generator's turn -/
structure ExitR (g : GP) (w : Wk) (s : Shared) (Hm : Hp) (fp : List Addr) : Prop where
  os : s.os = w.s.os
  bare : AllBare s.gens
  dead : Dead w.s s
  un : Un (frs w.outer) w.fp w.H Hm w.s.heap s.heap
  ok : HOk g.P g.w Hm s.heap
  ext : Ext w.H Hm
  rel : ∀ (K : KK) (S : Sto), RelS K S w.H → RelS K S Hm
  fp : ∀ b ∈ fp, g.L ≤ b ∧ Hm b = none ∧ (b ∈ w.fp ∨ w.s.heap.get? b = none) ∧ ∃ o, s.heap.get? b = some o ∧ ∀ v, o.data ≠ .cell v
theorem loc_at (A : AtG g w ip σ H s env S) : ∃ m, s.heap.Ns g.L m ∧ H g.L = none := by
  obtain ⟨m, q, _⟩ := A.inv.loc
  have e : (g.cx w).env.locals = g.L := by rw [cx_env A.en]; rfl
  rw [e] at q
  exact ⟨m, q, by rw [← e]; exact A.inv.free⟩
theorem exit_of (A : AtG g w ip σ H s env S) : ExitR g w s (outH w H) (ownFp g.L ip S s) := by
  refine ⟨A.inv.os, A.inv.bare, A.dead, out_un A.en A.inv, out_ok A.en A.inv, out_ext A.inv, fun K S r => out_rel A.inv r, fun b hb => ?_⟩
  have gone : (b ∈ w.fp ∨ w.s.heap.get? b = none) → immH H b = none → outH w H b = none := fun h1 h2 => by
    have : w.H b = none := by
      rcases h1 with h1 | h1
      · exact (A.en.fpH b h1).1
      · cases e : w.H b with
        | none => rfl
        | some u =>
          have un := (out_un A.en A.inv)
          have x := A.en.e0.hok b u e
          have lt := x.lt
          exfalso
          have hx : ∃ o, w.s.heap.get? b = some o := by
            cases u with
            | lst xs => obtain ⟨_, _, _, _, e⟩ := x; exact ⟨_, e⟩
            | tup xs => obtain ⟨_, _, _, ob, e, _⟩ := x; exact ⟨_, e⟩
            | dK kvs => obtain ⟨_, _, _, _, o, _, _, e, _⟩ := x; exact ⟨_, e⟩
            | dT kvs => obtain ⟨_, _, _, _, o, _, _, e, _⟩ := x; exact ⟨_, e⟩
            | set S n => obtain ⟨o, _, _, _, e, _⟩ := x; exact ⟨_, e⟩
            | ins C dx fs => obtain ⟨_, _, _, e, _⟩ := x; exact ⟨_, e⟩
            | own y => obtain ⟨_, e⟩ := x; exact ⟨_, e⟩
            | xd fs => obtain ⟨_, ⟨_, _, _, e, _⟩, _⟩ := x; exact ⟨_, e⟩
            | rng lo hi => obtain ⟨_, _, _, e⟩ := x; exact ⟨_, e⟩
            | frz ob u => obtain ⟨e, _⟩ := x; exact ⟨_, e⟩
            | tbl ps => exact ⟨_, x⟩
            | met f y => exact ⟨_, x⟩
            | ext φ => obtain ⟨_, ⟨_, e⟩, _⟩ := x; exact ⟨_, e⟩
          obtain ⟨o, eo⟩ := hx
          rw [h1] at eo
          cases eo
    rw [outH_imm fun v hv => by rw [this] at hv; cases hv]
    exact h2
  rcases mem_ownFp hb with rfl | ⟨p, hp, rfl⟩ | ⟨o, ho⟩
  · obtain ⟨m, ⟨ob, es, ep, e, d, _⟩, hn⟩ := loc_at A
    exact ⟨Nat.le_refl _, gone (.inl A.en.fpL) (immH_none hn), .inl A.en.fpL, ob, e, fun v z => by rw [d] at z; cases z⟩
  · obtain ⟨q1, q2, q3, q4, q5⟩ := A.inv.pin p (List.mem_append_right _ hp)
    have hn := new_or_own A.en A.inv (A.ipok p hp) fun u hu => by rw [q2] at hu; cases hu
    exact ⟨A.ipok p hp, gone hn (immH_none q2), hn, p.2, q1, q5⟩
  · have hn := new_or_own A.en A.inv (A.own ho) (ob_mut A.rs.sto ho)
    refine ⟨A.own ho, gone hn ?_, hn, ob_heap A.rs.sto A.inv.hok ho⟩
    cases e : immH H b with
    | none => rfl
    | some u =>
      obtain ⟨h1, h2⟩ := immH_some.mp e
      have := (ob_mut A.rs.sto ho u h1).1
      rw [h2] at this
      cases this
end Sv
namespace Sv
open PySem PySem.Spec PyProof.Rows L2 Sz
variable {g : GP} {w w' : Wk} {ip : List (Addr × Obj)} {σ : L2.St} {H : Hp} {s : Shared} {env : Env} {S : Sto}
/-- the heap as the generator knows it, woken again -/
def inH (L : Addr) (w' : Wk) (S : Sto) (H : Hp) : Hp := fun b => if (keepLD S b).isSome then H b else guardH L w' b
theorem inH_own {b : Addr} {o : Ob} (h : keepLD S b = some o) : inH g.L w' S H b = H b := by unfold inH; rw [h]; rfl
theorem inH_not {b : Addr} (h : keepLD S b = none) : inH g.L w' S H b = guardH g.L w' b := by unfold inH; rw [h]; rfl
theorem reenter (G : g.Ok) (A : AtG g w ip σ H s env S) (E : En g w') (hf : w'.fp = ownFp g.L ip S s) (hk : ∀ b ∈ w'.fp, ∀ o, s.heap.get? b = some o → w'.s.heap.get? b = some o) (x : Ext3 (outH w H) w'.H) :
    AtG g w' ip σ (inH g.L w' S H) w'.s env (keepLD S) ∧ Ext3 H (inH g.L w' S H) := by
  have nc : ∀ x c, (g.cx w').env.cells.lookup x = some c → False := fun x c h => by rw [cx_env E] at h; exact no_cells G x c h
  have hown : ∀ {b o}, keepLD S b = some o → b ∈ w'.fp := fun h => by rw [hf]; exact own_mem A h
  have e3 : Ext3 H (inH g.L w' S H) := fun b u k h => by
    have hn : keepLD S b = none := by
      cases e : keepLD S b with
      | none => rfl
      | some o =>
        have := (ob_mut A.rs.sto e u h).1
        rw [keep_imm k] at this
        cases this
    rw [inH_not hn]
    exact guard_imm (immH_some.mpr ⟨x b u k (out_ext3 A.en A.inv b u k h), keep_imm k⟩)
  have notown : ∀ {b u}, guardH g.L w' b = some u → keepLD S b = none := fun {b u} h => by
    cases e : keepLD S b with
    | none => rfl
    | some o =>
      rw [guard_fp E (hown e)] at h
      cases h
  have eL : (g.cx w').env.locals = g.L := by rw [cx_env E]; rfl
  obtain ⟨mL, nsL, hL⟩ := loc_at A
  have LS : keepLD S g.L = none := by
    cases e : keepLD S g.L with
    | none => rfl
    | some o =>
      rcases ob_at A.rs.sto e with ⟨vs, z⟩ | ⟨vs, z⟩ <;>
      · rw [hL] at z
        cases z
  refine ⟨⟨E, ⟨cx_ok G E, rfl, E.e0.bare, ⟨fun b o e n hf hx => ?_, fun b o e n hf hx => ?_, fun b o e n hx => ?_, fun b o e hx => ?_, fun b xs h => ?_, fun b o u h => ?_, fun b ps h => ?_⟩, ?_, fun x c h => (nc x c h).elim, ?_, fun x c h => (nc x c h).elim, fun p hp => ?_, fun b u q => ?_, A.inv.len⟩, .refl _, ⟨A.rs.len, fun i d h => ?_, fun a o h => ?_⟩, A.ipok⟩, e3⟩
  · exact (cutS_get (cutS_lt e)).symm.trans e
  · exact ⟨o.slots, (cutS_get (cutS_lt e)).symm.trans e⟩
  · have hb := cutS_lt e
    cases e2 : keepLD S b with
    | none => exact (inH_not e2).trans n
    | some o => exact absurd (A.own e2) (Nat.not_le_of_lt hb)
  · exact ⟨o, (cutS_get (cutS_lt e)).symm.trans e⟩
  · exact (inH_not (notown h)).trans h
  · exact (inH_not (notown h)).trans h
  · exact ⟨#[], ((inH_not (notown h)).trans h).trans (by simp)⟩
  · obtain ⟨m, q, r⟩ := A.inv.loc
    have e0 : (g.cx w).env = (g.cx w').env := by rw [cx_env E, cx_env A.en]
    rw [e0] at q r
    refine ⟨m, ?_, fun i x v h1 h2 h3 => ?_⟩
    · obtain ⟨ob, es, ep, e, d⟩ := q
      exact ⟨ob, es, ep, hk _ (by rw [eL]; exact E.fpL) _ e, d⟩
    · obtain ⟨u, rv, l⟩ := r i x v h1 h2 h3
      refine ⟨u, rv, ?_⟩
      rcases l with l | ⟨_, c, e, _⟩
      · exact .inl l
      · exact (nc x c e).elim
  · rw [eL, inH_not LS]
    exact guard_fp E E.fpL
  · have hp' : p ∈ ip := by
      rcases List.mem_append.mp hp with z | z
      · exact absurd (show p ∈ ([] : List (Addr × Obj)) from z) (by simp)
      · exact z
    obtain ⟨q1, q2, q3, q4, q5⟩ := A.inv.pin p (List.mem_append_right _ hp')
    have hpf : p.1 ∈ w'.fp := by rw [hf]; exact ip_mem hp'
    refine ⟨hk _ hpf _ q1, ?_, ?_, fun z => absurd (E.fr _ z) (Nat.not_lt_of_le (A.ipok p hp')), q5⟩
    · cases e : keepLD S p.1 with
      | none => exact (inH_not e).trans (guard_fp E hpf)
      | some o => exact (inH_own e).trans q2
    · rw [eL]
      have e1 : (g.cx w).env.locals = g.L := by rw [cx_env A.en]; rfl
      rw [← e1]
      exact q3
  · cases e : keepLD S b with
    | some o =>
      rw [inH_own e] at q
      have x := A.inv.hok b u q
      have kp : ∀ ob, s.heap.get? b = some ob → w'.s.heap.get? b = some ob := fun ob eo => hk b (hown e) ob eo
      rcases ob_at A.rs.sto e with ⟨vs, z⟩ | ⟨vs, z⟩
      · rw [q] at z
        cases z
        obtain ⟨z, its, n, r, e⟩ := x
        exact ⟨z, its, n, r, kp _ e⟩
      · rw [q] at z
        cases z
        obtain ⟨z, y, vs, r, ob, es, ep, e, c⟩ := x
        exact ⟨z, y, vs, r, ob, es, ep, kp _ e, c⟩
    | none =>
      rw [inH_not e] at q
      rcases guard_cases q with z | ⟨_, _, _, o, eo, rfl⟩
      · obtain ⟨z1, z2⟩ := immH_some.mp z
        exact immOk z2 (E.e0.hok b u z1) fun o e => e
      · exact ⟨eo, eo, ⟨o, eo⟩, fun h1 h2 p st => st _ p⟩
  · obtain ⟨v, q1, q2⟩ := A.rs.slot i d h
    exact ⟨v, q1, q2.ext3 e3⟩
  · obtain ⟨h1, h2⟩ := keepLD_some h
    have hq : inH g.L w' S H a = H a := inH_own h
    rcases h2 with ⟨ds, rfl⟩ | ⟨kvs, rfl⟩
    · obtain ⟨vs, q, r⟩ := A.rs.sto a _ h1
      exact ⟨vs, hq.trans q, r.ext3 e3⟩
    · obtain ⟨vs, q, r⟩ := A.rs.sto a _ h1
      exact ⟨vs, hq.trans q, r.ext3 e3⟩
end Sv
set_option maxHeartbeats 1000000
set_option autoImplicit false
namespace Sv
open PySem PySem.Spec PyProof.Rows L2 Sz GenW
/-- what one waking comes to: with n items to come -/
def PostN (g : GP) (out : List D) : Nat → Wk → PostG
  | 0, w => fun e s => e = .ret (.ok (.ret .none)) ∧ ∃ Hm, ExitR g w s Hm []
  | n + 1, w => fun e s => ∃ v gd l k c p fs, e = .susp v gd l k c p fs ∧ e.quiet = true ∧ ∃ d x Hm fp, out[out.length - (n + 1)]? = some d ∧ RelV x v ∧ RD g.kk Hm d x ∧ g.L ∈ fp ∧ ExitR g w s Hm fp ∧
      ∀ w' : Wk, w'.fp = fp → En g w' → (∀ b ∈ fp, ∀ o, s.heap.get? b = some o → w'.s.heap.get? b = some o) → Ext3 Hm w'.H → Sg (model g.P g.w) w'.A (PostN g out n w') c (k (.send .none)) fs w'.s
/-- among others: the next of out, and what is kept -/
def ylF (out : List D) : List D → D → Sto → (Sto → Prop) → Prop := fun ds d S k => (∃ more, out = ds ++ d :: more) ∧ k (keepLD S)
structure GCo (g : GP) (c : Code) (fs : List Frame) (gd : Bool → Bool) : Prop where
  over : ∀ A : Around, A.over c fs = A.deeper g.env
  split : splitAtGen fs = none
  guard : fs.any Frame.guarded = false
  gd : gd false = false
def FlG (g : GP) (C : DGEnds) (f : Flow) (ds : List D) (env : Env) (S : Sto) (H : Hp) : Prop := match f with
  | .next => C.nx ds env S
  | .brk => C.bk ds env S
  | .cont => C.ct ds env S
  | .ret u => ∃ d v, C.rt ds d S ∧ RD g.kk H d v ∧ RelV v u
structure GKo (g : GP) (out : List D) (ip : List (Addr × Obj)) (H0 : Hp) (c : Code) (fs : List Frame) (K : Flow → Sem PySem.Fin) (C : DGEnds) : Prop where
  ok : ∀ (f : Flow) (w : Wk) (σ : L2.St) (H : Hp) (s : Shared) (env : Env) (S : Sto) (ds : List D), AtG g w ip σ H s env S → Ext3 H0 H → (∃ more, out = ds ++ more) → FlG g C f ds env S H → Sg (model g.P g.w) w.A (PostN g out (out.length - ds.length) w) c (K f) fs s
structure DJ (g : GP) (out : List D) (st : Stmt) (t : DTGn) : Prop where
  run : ∀ (w : Wk) (ip : List (Addr × Obj)) (σ : L2.St) (H : Hp) (s : Shared) (env : Env) (S : Sto) (ds : List D) (c : Code) (fs : List Frame) (K : Flow → Sem PySem.Fin) (J : Value → Sem PySem.Fin) (gd : Bool → Bool) (lv : List Value → List Value) (C : DGEnds),
    GCo g c fs gd → AtG g w ip σ H s env S → (∃ more, out = ds ++ more) → C.yl = ylF out → GKo g out ip H c fs K C → t C ds env S →
    Sg (model g.P g.w) w.A (PostN g out (out.length - ds.length) w) c ((exec st g.env).wrap K J gd lv) fs s
structure DJs (g : GP) (out : List D) (st : List Stmt) (t : DTGn) : Prop where
  run : ∀ (w : Wk) (ip : List (Addr × Obj)) (σ : L2.St) (H : Hp) (s : Shared) (env : Env) (S : Sto) (ds : List D) (c : Code) (fs : List Frame) (K : Flow → Sem PySem.Fin) (J : Value → Sem PySem.Fin) (gd : Bool → Bool) (lv : List Value → List Value) (C : DGEnds),
    GCo g c fs gd → AtG g w ip σ H s env S → (∃ more, out = ds ++ more) → C.yl = ylF out → GKo g out ip H c fs K C → t C ds env S →
    Sg (model g.P g.w) w.A (PostN g out (out.length - ds.length) w) c ((execs st g.env).wrap K J gd lv) fs s
variable {g : GP} {out : List D} {st : Stmt} {rest : List Stmt} {pos : Pos}
theorem AtG.go {w : Wk} {ip : List (Addr × Obj)} {σ σ' : L2.St} {H H' : Hp} {s s' : Shared} {env env' : Env} {S S' : Sto} (A : AtG g w ip σ H s env S) (I : Inv (g.cx w) ip σ' H' s') (d : Dead s s') (r : RS g.kk σ' H' env' S') : AtG g w ip σ' H' s' env' S' :=
  ⟨A.en, I, A.dead.trans d, r, A.ipok⟩
theorem rs_blank {K : KK} {σ : L2.St} {H : Hp} {S : Sto} (r : RelS K S H) : RS K σ H (List.replicate σ.length none) S :=
  ⟨List.length_replicate, fun i d h => (by rw [List.getElem?_replicate] at h; split at h <;> cases h), r⟩
theorem dj_nil : DJs g out [] dgNext := ⟨fun w ip σ H s env S ds c fs K J gd lv C gc A pf hy k h => sg_execs_nil (k.ok .next w σ H s env S ds A (.refl H) pf h)⟩
theorem dj_cons {t u : DTGn} (a : DJ g out st t) (b : DJs g out rest u) : DJs g out (st :: rest) (dgSeq t u) := by
  refine ⟨fun w ip σ H s env S ds c fs K J gd lv C gc A pf hy k h => sg_execs_cons (a.run w ip σ H s env S ds c fs _ J gd lv { C with nx := u C } gc A pf hy ⟨fun f w' σ' H' s' env' S' ds' A' e' pf' q => ?_⟩ h)⟩
  cases f with
  | next => exact b.run w' ip σ' H' s' env' S' ds' c fs K J gd lv C gc A' pf' hy ⟨fun f w2 σ2 H2 s2 env2 S2 ds2 A2 e2 pf2 q2 => k.ok f w2 σ2 H2 s2 env2 S2 ds2 A2 (e'.trans e2) pf2 q2⟩ q
  | brk => exact k.ok .brk w' σ' H' s' env' S' ds' A' e' pf' q
  | cont => exact k.ok .cont w' σ' H' s' env' S' ds' A' e' pf' q
  | ret v => exact k.ok (.ret v) w' σ' H' s' env' S' ds' A' e' pf' q
theorem sp_cases {X : Cx} {pins : List (Addr × Obj)} {D : Ends} {f : Flow} {s : Shared} (h : SP X pins D f s) : (f = .next ∧ ∃ σ H, Inv X pins σ H s ∧ D.nx σ H) ∨ (f = .brk ∧ ∃ σ H, Inv X pins σ H s ∧ D.bk σ H) ∨ (f = .cont ∧ ∃ σ H, Inv X pins σ H s ∧ D.ct σ H) ∨ ∃ u v σ H, f = .ret u ∧ Inv X pins σ H s ∧ RelV v u ∧ D.rt v H := by
  cases f with
  | next => exact .inl ⟨rfl, h⟩
  | brk => exact .inr (.inl ⟨rfl, h⟩)
  | cont => exact .inr (.inr (.inl ⟨rfl, h⟩))
  | ret u => obtain ⟨v, σ, H, I, r, q⟩ := h; exact .inr (.inr (.inr ⟨u, v, σ, H, rfl, I, r, q⟩))
/-- a statement that hands out nothing -/
theorem dj_ps {t : DTS} (h : ∀ w, En g w → DS (g.cx w) st t) : DJ g out st (dgPlain t) := by
  refine ⟨fun w ip σ H s env S ds c fs K J gd lv C gc A pf hy k ht => sg_wrap ?_⟩
  rw [gc.over]
  have E := A.en
  have r := (h w E).run.run ip s σ H (Ends.mk (fun σ' H' => ∃ env' S', C.nx ds env' S' ∧ RS g.kk σ' H' env' S' ∧ Ext H H') (fun v H' => ∃ d S', C.rt ds d S' ∧ RelS g.kk S' H' ∧ RD g.kk H' d v ∧ Ext H H')
      (fun σ' H' => ∃ env' S', C.bk ds env' S' ∧ RS g.kk σ' H' env' S' ∧ Ext H H') (fun σ' H' => ∃ env' S', C.ct ds env' S' ∧ RS g.kk σ' H' env' S' ∧ Ext H H')) A.inv
    ⟨env, S, _, A.rs, ht, fun env' S' σ' H' q r e => ⟨env', S', q, r, e⟩, fun d S' v H' q s r e => ⟨d, S', q, s, r, e⟩, fun env' S' σ' H' q r e => ⟨env', S', q, r, e⟩, fun env' S' σ' H' q r e => ⟨env', S', q, r, e⟩⟩
  rw [cx_A E, cx_env E] at r
  refine wpAny_dead (wpAny_mono r (fun f s' hs dd => ?_) fun _ _ z => False.elim z)
  rcases sp_cases hs with ⟨rfl, σ', H', I, env', S', q, rs, e⟩ | ⟨rfl, σ', H', I, env', S', q, rs, e⟩ | ⟨rfl, σ', H', I, env', S', q, rs, e⟩ | ⟨u, v, σ', H', rfl, I, rv, d, S', q, s1, rd, e⟩
  · exact k.ok .next w σ' H' s' env' S' ds (A.go I dd rs) (.of e) pf q
  · exact k.ok .brk w σ' H' s' env' S' ds (A.go I dd rs) (.of e) pf q
  · exact k.ok .cont w σ' H' s' env' S' ds (A.go I dd rs) (.of e) pf q
  · exact k.ok (.ret u) w σ' H' s' _ S' ds (A.go I dd (rs_blank s1)) (.of e) pf ⟨d, v, q, rd, rv⟩
/-- yield -/
theorem dj_yield {e : Expr} {yp : Pos} {te : DTE} (G : g.Ok) (h : ∀ w, En g w → DE (g.cx w) e te) : DJ g out (.Expr (.Yield (some e) yp) pos) (dgYield te) := by
  refine ⟨fun w ip σ H s env S ds c fs K J gd lv C gc A pf hy k ⟨hl, ht⟩ => sg_Expr_Yield gc.split gc.gd gc.guard ?_ G.co G.inter⟩
  rw [gc.over]
  have E := A.en
  have r := (h w E).run.run ip s σ H (fun v H' => ∃ d S', C.yl ds d S' (fun S2 => C.nx (ds ++ [d]) env S2) ∧ RelS g.kk S' H' ∧ RD g.kk H' d v ∧ Ext H H') A.inv ⟨env, S, _, A.rs, ht, fun d S' v H' q s r e => ⟨d, S', q, s, r, e⟩⟩
  rw [cx_A E, cx_env E] at r
  refine wpAny_dead (wpAny_mono r (fun u s' hs dd => ?_) fun _ _ z => False.elim z)
  obtain ⟨v, H', I, rv, d, S', q, s1, rd, e⟩ := hs
  intro l kk p hk
  rw [hy] at q
  obtain ⟨⟨more, hm⟩, q⟩ := q
  have A' : AtG g w ip σ H' s' env S' := A.go I dd (A.rs.ext e s1)
  have hlen : out.length - ds.length = more.length + 1 := by rw [hm, List.length_append, List.length_cons]; omega
  rw [hlen]
  refine ⟨u, false, l, kk, c, p, fs, rfl, ?_, d, v, outH w H', ownFp g.L ip S' s', ?_, rv, rd.ext3 (out_ext3 A'.en A'.inv), List.mem_cons_self, exit_of A', fun w' hf E' hkp x => ?_⟩
  · simp [End.quiet, gc.guard]
  · have : out.length - (more.length + 1) = ds.length := by rw [hm, List.length_append, List.length_cons]; omega
    rw [this, hm, List.getElem?_append_right (Nat.le_refl _), Nat.sub_self]
    rfl
  · obtain ⟨B, e3⟩ := reenter G A' E' hf (fun b hb => hkp b (hf ▸ hb)) x
    refine hk w'.A (PostN g out more.length w') w'.s ?_
    have hl2 : more.length = out.length - (ds ++ [d]).length := by rw [hm]; simp; omega
    rw [hl2]
    exact k.ok .next w' σ _ w'.s env (keepLD S') (ds ++ [d]) B (fun b u kk h => e3 b u kk (Ext3.of e b u kk h)) ⟨more, by rw [hm, List.append_assoc]; rfl⟩ q
theorem gc_in {c c' : Code} {fs : List Frame} {gd : Bool → Bool} {k : Result → Sem PySem.Fin} {l kp : List Value} {p : Pos} (h : GCo g c fs gd) (hw : c'.weight = 0) (hu : c'.cUnits = 0) : GCo g c' (.ret k none (gd false) l c p kp :: fs) id where
  over := fun A => (over_loop hw hu).trans (h.over A)
  split := by
    show (splitAtGen fs).map _ = none
    rw [h.split]; rfl
  guard := by
    show (gd false || fs.any Frame.guarded) = false
    rw [h.gd, h.guard]; rfl
  gd := rfl
/-- while -/
theorem dj_while {c : Expr} {body : List Stmt} {tc : DTT} {tb : DTGn} (hc : ∀ w, En g w → DT (g.cx w) c tc) (hb : DJs g out body tb) : DJ g out (.While c body [] pos) (dgWhile tc tb) := by
  refine ⟨fun w ip σ H s env S ds cc fs K J gd lv C gc A pf hy k ⟨W, ⟨m0, w0⟩, turn⟩ => sg_While fun p => ?_⟩
  have gl : GCo g (.whileLoop c body [] g.env) (loopFrame g.env K J gd lv cc p :: fs) id := gc_in gc rfl rfl
  have loop : ∀ (m : Nat) (w : Wk) (σ : L2.St) (H1 : Hp) (s : Shared) (env : Env) (S : Sto) (ds : List D), AtG g w ip σ H1 s env S → Ext3 H H1 → (∃ more, out = ds ++ more) → W m ds env S →
      Sg (model g.P g.w) w.A (PostN g out (out.length - ds.length) w) (.whileLoop c body [] g.env) ((model g.P g.w).den (.whileLoop c body [] g.env)) (loopFrame g.env K J gd lv cc p :: fs) s := by
    intro m
    induction m using Nat.strongRecOn with
    | ind m ih =>
      intro w σ H1 s env S ds A e1 pf wm
      refine sg_whileLoop ?_
      rw [gl.over]
      have E := A.en
      have r := (hc w E).run.run ip s σ H1 (fun b H' => ∃ S', RelS g.kk S' H' ∧ Ext H1 H' ∧ (if b = true then tb { C with nx := fun ds' env' S' => ∃ m', m' < m ∧ W m' ds' env' S', ct := fun ds' env' S' => ∃ m', m' < m ∧ W m' ds' env' S', bk := C.nx } ds env S' else C.nx ds env S')) A.inv
        ⟨env, S, _, A.rs, turn m ds env S wm, fun b S' H' q s1 e => ⟨S', s1, e, q⟩⟩
      rw [cx_A E, cx_env E] at r
      refine wpAny_dead (wpAny_mono r (fun b s' hs dd => ?_) fun _ _ z => False.elim z)
      obtain ⟨H2, I2, S2, s2, e2, q⟩ := hs
      have A2 : AtG g w ip σ H2 s' env S2 := A.go I2 dd (A.rs.ext e2 s2)
      have e12 : Ext3 H H2 := e1.trans (.of e2)
      cases b with
      | true =>
        rw [if_pos rfl] at q ⊢
        refine hb.run w ip σ H2 s' env S2 ds _ _ _ _ id id { C with nx := fun ds' env' S' => ∃ m', m' < m ∧ W m' ds' env' S', ct := fun ds' env' S' => ∃ m', m' < m ∧ W m' ds' env' S', bk := C.nx } gl A2 pf hy ⟨fun f w3 σ3 H3 s3 env3 S3 ds3 A3 e3 pf3 q3 => ?_⟩ q
        cases f with
        | next =>
          obtain ⟨m', hm, w'⟩ := q3
          exact sg_again rfl (ih m' hm w3 σ3 H3 s3 env3 S3 ds3 A3 (e12.trans e3) pf3 w')
        | cont =>
          obtain ⟨m', hm, w'⟩ := q3
          exact sg_again rfl (ih m' hm w3 σ3 H3 s3 env3 S3 ds3 A3 (e12.trans e3) pf3 w')
        | brk => exact sg_leaf (.ok .next) (k.ok .next w3 σ3 H3 s3 env3 S3 ds3 A3 (e12.trans e3) pf3 q3)
        | ret v => exact sg_leaf (.ok (.ret v)) (k.ok (.ret v) w3 σ3 H3 s3 env3 S3 ds3 A3 (e12.trans e3) pf3 q3)
      | false =>
        rw [if_neg Bool.false_ne_true] at q ⊢
        exact sg_leaf (.ok .next) (k.ok .next w σ H2 s' env S2 ds A2 e12 pf q)
  exact loop m0 w σ H s env S ds A (.refl H) pf w0
end Sv
set_option maxHeartbeats 1000000
set_option autoImplicit false
namespace Sv
open PySem PySem.Spec PyProof.Rows L2 Sz GenW
structure Steps3 (K : KK) (b : Bool) (H0 : Hp) (J : It) (w : Src) : Prop where
  ex : ∃ (G : Hp → Prop) (Y : Nat → Hp → V → Hp → Prop), Walk J w.items.length G Y ∧ (∀ H S, Ext3 H0 H → RelS K S H → w.live S → G H) ∧
    ∀ i H x H', Ext3 H0 H → Y i H x H' → Ext H H' ∧ (∀ S, RelS K S H → RelS K S H') ∧ ∃ d, w.items[i]? = some d ∧ RDw K b H' d x
def lI3 (K : KK) (b : Bool) (t : DTI) : TI := fun σ H R => ∃ env S R0, RS K σ H env S ∧ t env S R0 ∧ ∀ w S' J H', R0 w S' → RelS K S' H' → Ext H H' → Steps3 K b H' J w → R J H'
structure DI3 (X : Cx) (b : Bool) (tg e : Expr) (t : DTI) : Prop where
  run : PI X tg e (lI3 X.kk b t)
theorem steps3_pair {K : KK} {H0 : Hp} {J : It} {n : Nat} {G : Hp → Prop} {xs ys : Nat → Option V} {ps : List D} {lv : Sto → Prop} (w : Walk J n G (YPair xs ys)) (hn : ps.length = n) (hG : ∀ H S, Ext3 H0 H → RelS K S H → lv S → G H)
    (hp : ∀ i H x y, i < n → Ext3 H0 H → G H → xs i = some x → ys i = some y → ∃ d e, ps[i]? = some (.tup [d, e]) ∧ RD K H d x ∧ RD K H e y) : Steps3 K false H0 J ⟨ps, lv⟩ := by
  subst hn
  refine ⟨G, fun i H x H' => i < ps.length ∧ G H ∧ YPair xs ys i H x H', ⟨w.goes, w.stops, fun i H x H' hi g y => ⟨hi, g, w.yields i H x H' hi g y⟩⟩, hG, ?_⟩
  rintro i H v H' e ⟨hi, g, T, x, y, rfl, nT, rfl, hx, hy⟩
  obtain ⟨d, d', h1, h2, h3⟩ := hp i H x y hi e g hx hy
  exact ⟨.new nT, fun S s => s.new nT, _, h1, rdw_pair nT h2 h3⟩
/-- enumerate of a tuple, as data only -/
def diEnT (ta : DTA) : DTI := fun env S R => ta env S fun ds S1 => ∃ xs, (ds = [.tup xs] ∨ ds = [.wtup xs]) ∧ R ⟨enD xs, fun _ => True⟩ S1
theorem di_enT {X : Cx} {e : Expr} {p pos : Pos} {ta : DTA} {elts : List Expr} {kk : Nat} {tpos : Pos} (hg : Gl X "enumerate") (hm : X.mg "enumerate" = none) (ha : DA X [e] ta) (hs : starEach [e] X.env = [(false, eval e X.env)] := by rfl) :
    DI3 X false (.Tuple elts kk tpos) (.Call (.Name "enumerate" p) [e] [] pos) (diEnT ta) := by
  refine ⟨(pi_enumA hg hm ha.run hs).of fun σ H R ⟨env, S, R0, rs, h, k⟩ => ⟨env, S, _, rs, h, fun ds S1 vs H1 ⟨xs, hd, q⟩ s1 r1 e1 => ?_⟩⟩
  rcases hd with hd | hd
  · subst hd
    obtain ⟨v, rfl, r⟩ := r1.inv1
    cases r with
    | tup ht r =>
      refine ⟨_, _, rfl, .inr ⟨ht.sqT, k _ _ _ _ q s1 e1 (steps3_pair walk_etup' (by rw [enD_len, r.length]) (fun H S e _ _ => (ht.ext3 e).sqT) fun i H x y hi e g hx hy => ?_)⟩⟩
      cases hx
      obtain ⟨d, h1, h2⟩ := (r.ext3 e).atv hy
      exact ⟨_, _, enD_at h1, .int _, h2⟩
  · subst hd
    obtain ⟨v, rfl, r⟩ := r1.inv1
    cases r with
    | wtup ht r =>
      refine ⟨_, _, rfl, .inr ⟨.of ht, k _ _ _ _ q s1 e1 (steps3_pair walk_etup' (by rw [enD_len, r.length]) (fun H S e _ _ => .of (e _ _ rfl ht)) fun i H x y hi e g hx hy => ?_)⟩⟩
      cases hx
      obtain ⟨d, h1, h2⟩ := (r.ext3 e).atv hy
      exact ⟨_, _, enD_at h1, .int _, h2⟩
/-- a for whose turns hand something out -/
def dgFor (ti : DTI) (gg : DTG) (tb : DTGn) : DTGn := fun C ds env S => ti env S fun w S1 => ∃ Pv : Nat → List D → Env → Sto → Prop, Pv 0 ds env S1 ∧ (∀ i ds env S, i ≤ w.items.length → Pv i ds env S → w.live S) ∧
  (∀ i d ds env S, w.items[i]? = some d → Pv i ds env S → gg d env S fun env' S' => tb { C with nx := Pv (i + 1), ct := Pv (i + 1), bk := C.nx } ds env' S') ∧ ∀ ds env S, Pv w.items.length ds env S → C.nx ds env S
variable {g : GP} {out : List D} {pos : Pos}
theorem fp_ok {w : Wk} {ip : List (Addr × Obj)} {H : Hp} {b : Addr} (E : En g w) (h1 : g.L ≤ b) (h2 : b ≠ g.L) (h3 : ∀ p ∈ ip, p.1 ≠ b) (G : g.Ok) (n : H b = none) : FpOk (g.cx w) ip H b := by
  refine ⟨n, ?_, fun z => absurd (E.fr _ z) (Nat.not_lt_of_le h1), .inr ?_, fun x c h => ?_, fun p hp => ?_⟩
  · rw [cx_env E]; exact h2
  · show (cutS g.L w.s).heap.objs.size ≤ b
    rw [cutS_size (Nat.le_of_lt E.lt)]
    exact h1
  · rw [cx_env E] at h
    exact (no_cells G x c h).elim
  · rcases List.mem_append.mp hp with z | z
    · exact absurd (show p ∈ ([] : List (Addr × Obj)) from z) (by simp)
    · exact h3 p z
theorem of_fp_ok {w : Wk} {ip : List (Addr × Obj)} {H : Hp} {b : Addr} (E : En g w) (h : FpOk (g.cx w) ip H b) : g.L ≤ b ∧ b ≠ g.L ∧ (∀ p ∈ ip, p.1 ≠ b) ∧ H b = none := by
  obtain ⟨n, h1, _, h3, _, h5⟩ := h
  rw [cx_env E] at h1
  refine ⟨?_, h1, fun p hp => h5 p (List.mem_append_right _ hp), n⟩
  rcases h3 with z | z
  · exact absurd (show b ∈ ([] : List Addr) from z) (by simp)
  · have z : (cutS g.L w.s).heap.objs.size ≤ b := z
    rw [cutS_size (Nat.le_of_lt E.lt)] at z
    exact z
theorem dj_for {tg iter : Expr} {b : Bool} {vs : List Nat} {body : List Stmt} {ti : DTI} {gg : DTG} {tb : DTGn} (G : g.Ok) (hi : ∀ w, En g w → DI3 (g.cx w) b tg iter ti) (hg : ∀ w, En g w → DG (g.cx w) b vs tg gg) (hb : DJs g out body tb)
    (hs : ∀ x, foldedSetIterable iter g.env x = pure x := by intro _; rfl) : DJ g out (.For tg iter body [] pos) (dgFor ti gg tb) := by
  refine ⟨fun w0 ip σ0 H0 s0 env0 S0 ds0 cc fs K J gd lv C gc A0 pf0 hy k ht => sg_For hs ?_⟩
  rw [gc.over]
  have E0 := A0.en
  have r0 := (hi w0 E0).run.run ip s0 σ0 H0 (fun J H' => ∃ w S', RelS g.kk S' H' ∧ Ext H0 H' ∧ Steps3 g.kk b H' J w ∧ ∃ Pv : Nat → List D → Env → Sto → Prop, Pv 0 ds0 env0 S' ∧ (∀ i ds env S, i ≤ w.items.length → Pv i ds env S → w.live S) ∧
    (∀ i d ds env S, w.items[i]? = some d → Pv i ds env S → gg d env S fun env' S' => tb { C with nx := Pv (i + 1), ct := Pv (i + 1), bk := C.nx } ds env' S') ∧ ∀ ds env S, Pv w.items.length ds env S → C.nx ds env S) A0.inv
    ⟨env0, S0, _, A0.rs, ht, fun w S' J H' q s1 e st => ⟨w, S', s1, e, st, q⟩⟩
  rw [cx_A E0, cx_env E0] at r0
  refine wpAny_dead (wpAny_mono r0 (fun v s1 h1 d1 => wpAny_dead (wpAny_mono h1 (fun itv s2 h2 d2 p => ?_) fun _ _ z => False.elim z)) fun _ _ z => False.elim z)
  obtain ⟨it, fp, tn, JJ, H2, rfl, I2, T, t2, f2, src, S2, s2', e2, st, Pv, pv0, lv', step, done⟩ := h2
  have fst : ∀ b ∈ fp, g.L ≤ b ∧ b ≠ g.L ∧ ∀ p ∈ ip, p.1 ≠ b := fun b hb => let z := of_fp_ok E0 (f2 b hb); ⟨z.1, z.2.1, z.2.2.1⟩
  obtain ⟨Gw, Y, wk, hG, hY⟩ := st.ex
  have gl : GCo g (.forLoop tg (.ref it) body [] g.env) (loopFrame g.env K J gd lv cc p :: fs) id := gc_in gc rfl rfl
  have A2 : AtG g w0 ip σ0 H2 s2 env0 S2 := A0.go I2 (d1.trans d2) (A0.rs.ext e2 s2')
  have loop : ∀ (n i : Nat) (w : Wk) (σ : L2.St) (H : Hp) (s : Shared) (env : Env) (S : Sto) (ds : List D), src.items.length - i = n → i ≤ src.items.length → AtG g w ip σ H s env S → Ext3 H2 H → (∃ more, out = ds ++ more) → Pv i ds env S → tn i s.heap → (∀ b ∈ fp, H b = none) →
      Sg (model g.P g.w) w.A (PostN g out (out.length - ds.length) w) (.forLoop tg (.ref it) body [] g.env) ((model g.P g.w).den (.forLoop tg (.ref it) body [] g.env)) (loopFrame g.env K J gd lv cc p :: fs) s := by
    intro n
    induction n with
    | zero =>
      intro i w σ H s env S ds hn hi A e1 pf pv ti' fr
      have hi : i = src.items.length := by omega
      subst hi
      have E := A.en
      refine sg_forLoop ?_
      rw [gl.over]
      have stop := wk.stops H (hG H S e1 A.rs.sto (lv' _ ds env S (Nat.le_refl _) pv))
      have r := T.done (g.cx w) rfl rfl rfl rfl _ ip s σ H NoE A.inv (fun b hb => fp_ok E (fst b hb).1 (fst b hb).2.1 (fst b hb).2.2 G (fr b hb)) ti' stop
      rw [cx_A E] at r
      refine wpAny_dead (wpAny_mono r (fun rr s3 h3 d3 => ?_) fun _ _ z => False.elim z)
      obtain ⟨rfl, I3⟩ := h3
      refine sg_block_nil (sg_leaf (.ok .next) ?_)
      exact k.ok .next w σ H s3 env S ds (A.go I3 d3 A.rs) ((Ext3.of e2).trans e1) pf (done ds env S pv)
    | succ n ih =>
      intro i w σ H s env S ds hn hi A e1 pf pv ti' fr
      have hlt : i < src.items.length := by omega
      have E := A.en
      refine sg_forLoop ?_
      rw [gl.over]
      have gh := hG H S e1 A.rs.sto (lv' _ ds env S hi pv)
      have r := T.item (g.cx w) rfl rfl rfl rfl i ip s σ H NoE A.inv (fun b hb => fp_ok E (fst b hb).1 (fst b hb).2.1 (fst b hb).2.2 G (fr b hb)) ti' (wk.goes i H hlt gh)
      rw [cx_A E] at r
      refine wpAny_dead (wpAny_mono r (fun rr s3 h3 d3 => ?_) fun _ _ z => False.elim z)
      obtain ⟨u, rfl, h3⟩ := h3
      refine wpAny_dead (wpAny_mono h3 (fun _ s4 h4 d4 => ?_) fun _ _ z => False.elim z)
      obtain ⟨x, H4, I4, rx, yx, t4, f4⟩ := h4
      obtain ⟨e4, hS4, d, hd, rd⟩ := hY i H x H4 e1 (wk.yields i H x H4 hlt gh yx)
      have I4' := I4.pinned (fun b hb => fp_ok E (fst b hb).1 (fst b hb).2.1 (fst b hb).2.2 G (f4 b hb)) (T.obj _ _ t4)
      have A4 : AtG g w (ip ++ pinsAt fp s4.heap) σ H4 s4 env S := ⟨E, I4', A.dead.trans (d3.trans d4), A.rs.ext e4 (hS4 S A.rs.sto), fun p hp => (List.mem_append.mp hp).elim (A.ipok p) fun z => (fst p.1 (of_pinsAt z).1).1⟩
      have r4 := (hg w E).run.run _ s4 σ H4 x u (fun σ' H' => ∃ env' S', tb { C with nx := Pv (i + 1), ct := Pv (i + 1), bk := C.nx } ds env' S' ∧ RS g.kk σ' H' env' S' ∧ Ext H4 H') I4' rx
        ⟨d, env, S, _, rd, A4.rs, step i d ds env S hd pv, fun env' S' σ' H' q r e _ => ⟨env', S', q, r, e⟩⟩
      rw [cx_A E, cx_env E] at r4
      refine wpAny_dead (wpAny_mono r4 (fun _ s5 h5 d5 => ?_) fun _ _ z => False.elim z)
      obtain ⟨σ5, H5, I5, env5, S5, q5, rs5, e5⟩ := h5
      have A5 : AtG g w (ip ++ pinsAt fp s4.heap) σ5 H5 s5 env5 S5 := A4.go I5 d5 rs5
      have e15 : Ext3 H2 H5 := e1.trans (.of (e4.trans e5))
      have back : ∀ {w6 : Wk} {σ6 : L2.St} {H6 : Hp} {s6 : Shared} {env6 : Env} {S6 : Sto}, AtG g w6 (ip ++ pinsAt fp s4.heap) σ6 H6 s6 env6 S6 → AtG g w6 ip σ6 H6 s6 env6 S6 ∧ tn (i + 1) s6.heap ∧ ∀ b ∈ fp, H6 b = none := fun {w6 σ6 H6 s6 env6 S6} A6 => by
        have at' : ∀ b ∈ fp, ∀ o, s4.heap.get? b = some o → s6.heap.get? b = some o ∧ H6 b = none := fun b hb o e =>
          let z := A6.inv.pin (b, o) (List.mem_append_right _ (List.mem_append_right _ (mem_pinsAt hb e)))
          ⟨z.1, z.2.1⟩
        refine ⟨⟨A6.en, A6.inv.unpinned, A6.dead, A6.rs, fun p hp => A6.ipok p (List.mem_append_left _ hp)⟩, T.keep _ _ _ t4 fun b hb o e => (at' b hb o e).1, fun b hb => ?_⟩
        obtain ⟨o, e, _⟩ := T.obj _ _ t4 b hb
        exact (at' b hb o e).2
      refine hb.run w _ σ5 H5 s5 env5 S5 ds _ _ _ _ id id { C with nx := Pv (i + 1), ct := Pv (i + 1), bk := C.nx } gl A5 pf hy ⟨fun f w6 σ6 H6 s6 env6 S6 ds6 A6 e6 pf6 q6 => ?_⟩ q5
      obtain ⟨B6, t6, f6⟩ := back A6
      cases f with
      | next => exact sg_again rfl (ih (i + 1) w6 σ6 H6 s6 env6 S6 ds6 (by omega) hlt B6 (e15.trans e6) pf6 q6 t6 f6)
      | cont => exact sg_again rfl (ih (i + 1) w6 σ6 H6 s6 env6 S6 ds6 (by omega) hlt B6 (e15.trans e6) pf6 q6 t6 f6)
      | brk => exact sg_leaf (.ok .next) (k.ok .next w6 σ6 H6 s6 env6 S6 ds6 B6 ((Ext3.of e2).trans (e15.trans e6)) pf6 q6)
      | ret v => exact sg_leaf (.ok (.ret v)) (k.ok (.ret v) w6 σ6 H6 s6 env6 S6 ds6 B6 ((Ext3.of e2).trans (e15.trans e6)) pf6 q6)
  exact loop _ 0 w0 σ0 H2 s2 env0 S2 ds0 rfl (Nat.zero_le _) A2 (.refl H2) pf0 pv0 t2 fun b hb => (f2 b hb).1
end Sv
set_option maxHeartbeats 1000000
set_option autoImplicit false
namespace Sv
open PySem PySem.Spec PyProof.Rows L2 Sz GenW
/-- it sleeps: n items are to come -/
structure Slp (g : GP) (out : List D) (n : Nat) (a : Addr) (gn : Nat) (fp : List Addr) (Hm : Hp) (s : Shared) : Prop where
  isg : s.heap.IsGen a gn
  anot : a ∉ fp
  fpL : g.L ∈ fp
  ex : ∀ b ∈ fp, g.L ≤ b ∧ ∃ o, s.heap.get? b = some o ∧ ∀ v, o.data ≠ .cell v
  rdy : ∃ gs, s.gens[gn]? = some gs ∧ (n < out.length → IsSusp gs) ∧ ∀ w' : Wk, w'.fp = fp → En g w' → (∀ b ∈ fp, ∀ o, s.heap.get? b = some o → w'.s.heap.get? b = some o) → Ext3 Hm w'.H → WkG (model g.P g.w) w'.A (PostN g out n w') gs (.send .none) w'.s
variable {g : GP} {out : List D} {n gn : Nat} {a : Addr} {fp : List Addr} {Hm : Hp} {X : Cx} {pins : List (Addr × Obj)} {σ : L2.St} {H : Hp} {s s' : Shared}
theorem Slp.keep (h : Slp g out n a gn fp Hm s) (hn : n < out.length) (k : ∀ b ∈ a :: fp, ∀ o, s.heap.get? b = some o → s'.heap.get? b = some o) (st : Stays s s') : Slp g out n a gn fp Hm s' := by
  obtain ⟨gs, h1, h2, h3⟩ := h.rdy
  refine ⟨?_, h.anot, h.fpL, fun b hb => ?_, gs, st gn gs h1 (h2 hn), h2, fun w' e E kk x => h3 w' e E (fun b hb o eo => kk b hb o (k b (List.mem_cons_of_mem _ hb) o eo)) x⟩
  · obtain ⟨o, nm, qn, ho, r⟩ := h.isg
    exact ⟨o, nm, qn, k a List.mem_cons_self o ho, r⟩
  · obtain ⟨h1, o, e, d⟩ := h.ex b hb
    exact ⟨h1, o, k b (List.mem_cons_of_mem _ hb) o e, d⟩
/-- the one who wakes it -/
structure Host (g : GP) (X : Cx) : Prop where
  P : g.P = X.prog
  w : g.w = X.w
  K : g.K = X.K
  mg : g.mg = X.mg
  base : g.base = X.base
  s0 : X.s_0.heap.objs.size ≤ g.L
  fr : ∀ b ∈ frs X.stack, b < g.L
  calm : X.calm = true
  room : Room (g.k + 2) X.A
/-- an around near by -/
structure Near (X : Cx) (A : Around) : Prop where
  hd : A.handled = none
  fr : A.frames = some X.stack
  dp : A.depth ≤ X.A.depth + 2
  un : A.units ≤ X.A.units + 16
theorem Near.self (hx : Host g X) (I : Inv X pins σ H s) : Near X X.A := ⟨I.ok.hd hx.calm, I.ok.frames, by omega, by omega⟩
theorem Slp.lt (h : Slp g out n a gn fp Hm s) : g.L < s.heap.objs.size := let ⟨_, o, e, _⟩ := h.ex g.L h.fpL; Heap.lt_size e
theorem Host.en {A : Around} (hx : Host g X) (nr : Near X A) (I : Inv X pins σ H s) (h : Slp g out n a gn fp Hm s) (hf : ∀ b ∈ a :: fp, FpOk X pins H b) : En g ⟨A.in1, X.stack, s.setGen gn .running, H, fp⟩ := by
  have e := I.env0
  have r := hx.room
  refine ⟨?_, ⟨nr.hd, ?_, ?_⟩, hx.fr, h.lt, h.fpL, fun b hb => ⟨(hf b (List.mem_cons_of_mem _ hb)).1, (h.ex b hb).1⟩⟩
  · rw [hx.P, hx.w, hx.K, hx.mg, hx.base]
    exact ⟨nr.fr, e.mod, e.bs, e.bsz, e.funs, e.frf, e.hok, allBare_setGen e.bare rfl⟩
  · have := r.dp
    have := nr.dp
    show A.depth + 1 + 3 * g.k + 5 < _
    omega
  · have := r.un
    have := nr.un
    show A.units + 1 + 3 + 16 * g.k + 200 < _
    omega
/-- what stands is no new thing's place -/
theorem fp_next (hx : Host g X) (I : Inv X pins σ H s) {b : Addr} {H' : Hp} (hL : g.L ≤ b) (n : H' b = none) (h : s.heap.get? b = none) : FpOk X pins H' b := by
  have ne : ∀ c o, s.heap.get? c = some o → c ≠ b := fun c o e z => by rw [z, h] at e; cases e
  refine ⟨n, ?_, fun z => ?_, .inr (Nat.le_trans hx.s0 hL), fun x c e => ?_, fun p hp => ?_⟩
  · obtain ⟨m, ⟨o, _, _, e, _⟩, _⟩ := I.loc
    exact (ne _ o e).symm
  · obtain ⟨_, o, e, _⟩ := I.funs.mem z
    exact ne _ o e rfl
  · obtain ⟨v, o, e, _⟩ := I.cell x c e
    exact ne _ o e
  · exact ne _ _ (I.pin p hp).1
theorem inv_out {A : Around} {fp' : List Addr} {s1 : Shared} {H1 : Hp} (hx : Host g X) (I : Inv X pins σ H s) (hf : ∀ b ∈ a :: fp, FpOk X pins H b) (x : ExitR g ⟨A.in1, X.stack, s.setGen gn .running, H, fp⟩ s1 H1 fp') : Inv X pins σ H1 s1 :=
  I.call' (ch := fp) x.os x.un (by have := x.ok; rw [hx.P, hx.w] at this; exact this) x.bare fun b hb =>
    let z := hf b (List.mem_cons_of_mem _ hb)
    ⟨z.2.2.2.1, z.2.1, z.2.2.2.2.1, z.2.2.2.2.2⟩
theorem post_quiet {m : Nat} {w : Wk} {e : End} {s1 : Shared} (h : PostN g out m w e s1) : e.quiet = true := by
  cases m with
  | zero => obtain ⟨rfl, _⟩ := h; rfl
  | succ m => obtain ⟨_, _, _, _, _, _, _, rfl, q, _⟩ := h; exact q
/-- it hands out the next item -/
theorem wake_item {A : Around} {E : Value → Shared → Prop} (hx : Host g X) (nr : Near X A) (I : Inv X pins σ H s) (h : Slp g out (n + 1) a gn fp Hm s) (e3 : Ext3 Hm H) (hf : ∀ b ∈ a :: fp, FpOk X pins H b) (hn : n < out.length) :
    wpAny (model X.prog X.w) A (pyNext (.ref a)) (fun r s1 => ∃ u, r = some u ∧ ∃ d x H1 fp', out[out.length - (n + 1)]? = some d ∧ RelV x u ∧ RD X.kk H1 d x ∧ Inv X pins σ H1 s1 ∧ Ext H H1 ∧ (∀ S, RelS X.kk S H → RelS X.kk S H1) ∧ Slp g out n a gn fp' H1 s1 ∧ ∀ b ∈ a :: fp', FpOk X pins H1 b) E s := by
  obtain ⟨gs, h1, _, h3⟩ := h.rdy
  have hgl : gn < s.gens.size := (Array.getElem?_eq_some_iff.mp h1).1
  have En := hx.en nr I h hf
  have kk : X.kk = g.kk := by show (⟨X.prog, X.w, X.K⟩ : KK) = ⟨g.P, g.w, g.K⟩; rw [hx.P, hx.w, hx.K]
  have go := h3 ⟨A.in1, X.stack, s.setGen gn .running, H, fp⟩ rfl En (fun b hb o eo => eo) e3
  rw [hx.P, hx.w] at go
  refine wpAny_gsz (n := gn + 1) hgl (next_gk nr.hd I.nolimit (by have := hx.room.dp; have := nr.dp; show A.depth < _; omega) h.isg h1 go (fun e s1 q => post_quiet q) (fun v gd l k c p fs s1 hp hsz => ?_) fun r s1 hp => ?_)
  · obtain ⟨v', gd', l', k', c', p', fs', ee, q, d, x, H1, fp', hd, rx, rd, hL, ex, rest⟩ := hp
    cases ee
    have I1 := inv_out hx I hf ex
    have hs1 : gn < s1.gens.size := by
      have q : (s1.setGen gn (End.susp v gd l k c p fs).genState).gens.size = s1.gens.size := setGen_size _ _ _
      have hsz' : gn + 1 ≤ (s1.setGen gn (End.susp v gd l k c p fs).genState).gens.size := hsz
      omega
    have hb2 : AllBare (s1.setGen gn (End.susp v gd l k c p fs).genState).gens := allBare_setGen ex.bare (End.bare_of_quiet q)
    have I2 : Inv X pins σ H1 (s1.setGen gn (End.susp v gd l k c p fs).genState) := ⟨I1.ok, I1.os, hb2, I1.base, I1.loc, I1.cell, I1.free, I1.freeC, I1.pin, I1.hok, I1.len⟩
    have gone : ∀ b ∈ fp', FpOk X pins H1 b := fun b hb => by
      obtain ⟨f1, f2, f3, _⟩ := ex.fp b hb
      rcases f3 with z | z
      · exact ⟨f2, (hf b (List.mem_cons_of_mem _ z)).2⟩
      · exact fp_next hx I f1 f2 z
    have ga : s1.heap.IsGen a gn ∧ H1 a = none ∧ a ∉ fp' := by
      obtain ⟨o, nm, qn, ho, r⟩ := h.isg
      have fa := hf a List.mem_cons_self
      have nst : a ∉ frs X.stack := fun z => by
        rcases List.mem_cons.mp (I.stkSub a z) with z | z
        · exact fa.2.1 z
        · exact fa.2.2.1 z
      refine ⟨⟨o, nm, qn, ex.un.keep a o ho fa.1 nst h.anot, r⟩, ex.un.free a o ho fa.1 h.anot, fun z => ?_⟩
      obtain ⟨_, _, f3, _⟩ := ex.fp a z
      rcases f3 with z | z
      · exact h.anot z
      · have z : s.heap.get? a = none := z
        rw [ho] at z
        cases z
    refine ⟨v, rfl, d, x, H1, fp', hd, rx, by rw [kk]; exact rd, I2, ex.ext, fun S => ex.rel _ S, ⟨ga.1, ga.2.2, hL, fun b hb => ⟨(ex.fp b hb).1, (ex.fp b hb).2.2.2⟩, _, setGen_at hs1, fun _ => True.intro, fun w' ef E' kp x' => ?_⟩, fun b hb => ?_⟩
    · exact rest w' ef E' kp x'
    · rcases List.mem_cons.mp hb with rfl | hb
      · exact ⟨ga.2.1, (hf _ List.mem_cons_self).2⟩
      · exact gone b hb
  · obtain ⟨_, _, _, _, _, _, _, ee, _⟩ := hp
    cases ee
/-- it ends -/
theorem wake_done {A : Around} {E : Value → Shared → Prop} (hx : Host g X) (nr : Near X A) (I : Inv X pins σ H s) (h : Slp g out 0 a gn fp Hm s) (e3 : Ext3 Hm H) (hf : ∀ b ∈ a :: fp, FpOk X pins H b) :
    wpAny (model X.prog X.w) A (pyNext (.ref a)) (fun r s1 => r = none ∧ ∃ H1, Inv X pins σ H1 s1 ∧ Ext H H1 ∧ ∀ S, RelS X.kk S H → RelS X.kk S H1) E s := by
  obtain ⟨gs, h1, _, h3⟩ := h.rdy
  have En := hx.en nr I h hf
  have go := h3 ⟨A.in1, X.stack, s.setGen gn .running, H, fp⟩ rfl En (fun b hb o eo => eo) e3
  rw [hx.P, hx.w] at go
  refine next_gk nr.hd I.nolimit (by have := hx.room.dp; have := nr.dp; show A.depth < _; omega) h.isg h1 go (fun e s1 q => post_quiet q) (fun v gd l k c p fs s1 hp => ?_) fun r s1 hp => ?_
  · obtain ⟨ee, _⟩ := hp
    cases ee
  · obtain ⟨ee, H1, ex⟩ := hp
    cases ee
    refine ⟨rfl, fun h' hk => ⟨rfl, H1, ?_, ex.ext, fun S => ex.rel _ S⟩⟩
    have I1 := inv_out hx I hf ex
    have I2 : Inv X pins σ H1 (s1.setGen gn .finished) := ⟨I1.ok, I1.os, allBare_setGen ex.bare rfl, I1.base, I1.loc, I1.cell, I1.free, I1.freeC, I1.pin, I1.hok, I1.len⟩
    exact I2.kept (t' := s1.toks) hk
end Sv
set_option maxHeartbeats 1000000
set_option autoImplicit false
namespace Sv
open PySem PySem.Spec PyProof.Rows L2 Sz GenW
/-- a generator's call: all that it will hand out -/
abbrev DTGi := Env → Sto → (List D → Sto → Prop) → Prop
structure PGi (X : Cx) (e : Expr) (t : DTGi) : Prop where
  run : ∀ (pins : List (Addr × Obj)) (s : Shared) (σ : L2.St) (H : Hp) (env : Env) (S : Sto) (R : List D → Sto → Prop), Inv X pins σ H s → RS X.kk σ H env S → t env S R →
    wpAny (model X.prog X.w) X.A (eval e X.env) (fun u s' => ∃ g out a gn S' H', u = .ref a ∧ Host g X ∧ Inv X pins σ H' s' ∧ RelS X.kk S' H' ∧ Ext H H' ∧ Slp g out out.length a gn [g.L] H' s' ∧ (∀ b ∈ [a, g.L], FpOk X pins H' b) ∧ R out S') X.xe s
def diGen (t : DTGi) : DTI := fun env S R => t env S fun out S1 => R ⟨out, fun _ => True⟩ S1
variable {X : Cx} {pos : Pos}
theorem ds_forG {tg iter : Expr} {vs : List Nat} {body : List Stmt} {t : DTGi} {gg : DTG} {tb : DTS} (hxe : ∀ e s, ¬ X.xe e s) (hp : PassesOwn (model X.prog X.w) X.A X.env X.xe) (hi : PGi X iter t) (hg : DG X true vs tg gg) (hb : DSs X body tb)
    (hs : ∀ x, foldedSetIterable iter X.env x = pure x := by intro _; rfl) : DS X (.For tg iter body [] pos) (dFor (diGen t) gg tb) := by
  refine ⟨⟨fun pn s0 σ0 H0 D0 I0 ⟨env0, S0, C, rs0, h, k1, k2, _⟩ => ?_⟩⟩
  refine wpAny_For (thn (hi.run pn s0 σ0 H0 env0 S0 _ I0 rs0 h) fun v s1 h1 => ?_) hs
  obtain ⟨g, out, a, gn, S1, H1, rfl, hx, I1, s1', e1, sl, f1, Pv, pv0, lv, step, done⟩ := h1
  refine wpAny_pyIter_gen sl.isg ?_
  refine codeAny_forLoop_any (fun m s' => ∃ i σ' H' env S fp Hm, m = out.length - i ∧ i ≤ out.length ∧ Inv X pn σ' H' s' ∧ RS X.kk σ' H' env S ∧ Ext H1 H' ∧ Ext3 Hm H' ∧ Pv i env S ∧ Slp g out (out.length - i) a gn fp Hm s' ∧ ∀ b ∈ a :: fp, FpOk X pn H' b) ?_ out.length
    ⟨0, σ0, H1, env0, S1, [g.L], H1, rfl, Nat.zero_le _, I1, rs0.ext e1 s1', .refl H1, .refl H1, pv0, sl, f1⟩
  rintro m sa ⟨i, σa, Ha, env, S, fp, Hm, rfl, hi', Ia, rsa, ea, e3, pv, sla, fa⟩
  by_cases hlt : i < out.length
  · obtain ⟨n, hn⟩ : ∃ n, out.length - i = n + 1 := ⟨out.length - i - 1, by omega⟩
    rw [hn] at sla
    refine wpAny_passesOwn hp (thn (wake_item hx (.self hx Ia) Ia sla e3 fa (by omega)) fun r sb ⟨u, hr, d, x, Hb, fp', hd, rx, rd, Ib, eb, hS, slb, fb⟩ => ?_)
    subst hr
    have hi2 : out.length - (n + 1) = i := by omega
    rw [hi2] at hd
    obtain ⟨go, gnm, gqn, gho, ghc, ghd, _⟩ := id slb.isg
    refine wpAny_passesOwn hp (go_of gho ghc ghd (by decide) ?_)
    have obj : ∀ b ∈ a :: fp', ∃ o, sb.heap.get? b = some o ∧ ∀ v, o.data ≠ .cell v := fun b hb => by
      rcases List.mem_cons.mp hb with rfl | hb
      · obtain ⟨o, nm, qn, ho, _, hd, _⟩ := slb.isg
        exact ⟨o, ho, fun v z => by rw [hd] at z; cases z⟩
      · exact (slb.ex b hb).2
    have Ip := Ib.pinned fb obj
    have rsb : RS X.kk σa Hb env S := rsa.ext eb (hS S rsa.sto)
    refine wpAny_passesOwn hp (thn (run_held hxe (hg.run.run _ (held sb) σa Hb x u (fun σ' H' => ∃ env' S', tb { C with nx := Pv (i + 1), ct := Pv (i + 1), bk := C.nx } env' S' ∧ RS X.kk σ' H' env' S' ∧ Ext Hb H') (inv_held Ip) rx
      ⟨d, env, S, _, .inl rd, rsb, step i d env S hd pv, fun env' S' σ' H' q r e _ => ⟨env', S', q, r, e⟩⟩) Ip.bare) fun _ sd ⟨⟨G, ⟨σd, Hd, Id', envd, Sd, qd, rsd, ed⟩, bd⟩, std⟩ => ?_)
    have Id := inv_gens Id' (bd Id'.bare)
    refine wpAny_passesOwn hp (thn (run_held hxe (hb.run.run _ (held sd) σd Hd (Ends.mk (fun σ' H' => ∃ env' S', Pv (i + 1) env' S' ∧ RS X.kk σ' H' env' S' ∧ Ext Hd H') (fun v H' => D0.rt v H')
      (fun σ' H' => D0.nx σ' H') (fun σ' H' => ∃ env' S', Pv (i + 1) env' S' ∧ RS X.kk σ' H' env' S' ∧ Ext Hd H')) (inv_held Id)
      ⟨envd, Sd, _, rsd, qd, fun env' S' σ' H' q r e => ⟨env', S', q, r, e⟩, fun d S' v H' q s r e => k2 _ _ _ _ q s r (e1.trans (ea.trans (eb.trans (ed.trans e)))), fun env' S' σ' H' q r e => k1 _ _ _ _ q r (e1.trans (ea.trans (eb.trans (ed.trans e)))), fun env' S' σ' H' q r e => ⟨env', S', q, r, e⟩⟩) Id.bare) fun f se ⟨⟨G2, qe, be⟩, ste⟩ => ?_)
    have again : ∀ {σe : L2.St} {He : Hp}, Inv X (pn ++ pinsAt (a :: fp') sb.heap) σe He { se with gens := G2 } → (∃ env' S', Pv (i + 1) env' S' ∧ RS X.kk σe He env' S' ∧ Ext Hd He) →
        ∃ m, m < out.length - i ∧ ∃ i σ' H' env S fp Hm, m = out.length - i ∧ i ≤ out.length ∧ Inv X pn σ' H' se ∧ RS X.kk σ' H' env S ∧ Ext H1 H' ∧ Ext3 Hm H' ∧ Pv i env S ∧ Slp g out (out.length - i) a gn fp Hm se ∧ ∀ b ∈ a :: fp, FpOk X pn H' b := fun {σe He} Ie' ⟨env', S', pv', rs', ee⟩ => by
      have Ie := inv_gens Ie' (be Ie'.bare)
      have at' : ∀ b ∈ a :: fp', ∀ o, sb.heap.get? b = some o → se.heap.get? b = some o ∧ He b = none := fun b hb o e =>
        let z := Ie.pin (b, o) (List.mem_append_right _ (List.mem_append_right _ (mem_pinsAt hb e)))
        ⟨z.1, z.2.1⟩
      refine ⟨out.length - (i + 1), by omega, i + 1, σe, He, env', S', fp', Hb, rfl, hlt, Ie.unpinned, rs', ea.trans (eb.trans (ed.trans ee)), .of (ed.trans ee), pv', ?_, fun b hb => ?_⟩
      · have : out.length - (i + 1) = n := by omega
        rw [this]
        exact slb.keep (by omega) (fun b hb o e => (at' b hb o e).1) (std.trans ste)
      · obtain ⟨o, e, _⟩ := obj b hb
        exact ⟨(at' b hb o e).2, (fb b hb).2⟩
    cases f with
    | next => obtain ⟨σe, He, Ie, ne⟩ := qe; exact again Ie ne
    | cont => obtain ⟨σe, He, Ie, ne⟩ := qe; exact again Ie ne
    | brk => obtain ⟨σe, He, Ie, q⟩ := qe; exact ⟨σe, He, (inv_gens Ie (be Ie.bare)).unpinned, q⟩
    | ret v => obtain ⟨xe, σe, He, Ie, re, q⟩ := qe; exact ⟨xe, σe, He, (inv_gens Ie (be Ie.bare)).unpinned, re, q⟩
  · have hi2 : i = out.length := by omega
    subst hi2
    rw [Nat.sub_self] at sla
    refine wpAny_passesOwn hp (thn (wake_done hx (.self hx Ia) Ia sla e3 fa) fun r sb ⟨hr, Hb, Ib, eb, hS⟩ => ?_)
    subst hr
    exact wpAny_execs_nil ⟨σa, Hb, Ib, k1 _ _ _ _ (done env S pv) (rsa.ext eb (hS S rsa.sto)) (e1.trans (ea.trans eb))⟩
end Sv
set_option maxHeartbeats 1000000
set_option autoImplicit false
namespace Sv
open PySem PySem.Spec PyProof.Rows L2 Sz GenW
def dGf (n : Nat) (B : DTGn) (ds out : List D) : Prop := B { nx := fun o _ _ => o = out, rt := fun o d _ => d = .non ∧ o = out, yl := ylF out } [] (dStart n ds) (fun _ => none)
/-- what a generator's code was made of -/
structure GP.Is (g : GP) (P : Program) (w : World) (K : PySem.W.Frag) (mg : Str → Option Value) (base : Heap) (N : List Str) (x : Str) (sc : Scope) (f : Addr) (k : Nat) : Prop where
  P : g.P = P
  w : g.w = w
  K : g.K = K
  mg : g.mg = mg
  base : g.base = base
  N : g.N = N
  qual : g.qual = x
  scope : g.scope = sc
  f : g.f = f
  k : g.k = k
def dGfn (n N : Nat) (B : DTGn) (ds out : List D) : Prop := ds.length = n ∧ dGf N B ds out
structure GMk (P : Program) (w : World) (K : PySem.W.Frag) (mg : Str → Option Value) (base : Heap) (k : Nat) (f : Addr) (r : List D → List D → Prop) : Prop where
  run : ∀ (X : Cx) (pins : List (Addr × Obj)) (s : Shared) (σ : L2.St) (H : Hp) (us : List Value) (vs : List V) (ds out : List D) (E : Value → Shared → Prop), X.prog = P → X.w = w → X.K = K → X.mg = mg → X.base = base → X.calm = true → Room (k + 2) X.A → Inv X pins σ H s → Vals vs us → RDs X.kk H ds vs → r ds out →
    wpAny (model X.prog X.w) X.A (call (.ref f) us) (fun u s' => ∃ g a gn H', u = .ref a ∧ Host g X ∧ Inv X pins σ H' s' ∧ Ext H H' ∧ (∀ S, RelS X.kk S H → RelS X.kk S H') ∧ Slp g out out.length a gn [g.L] H' s' ∧ ∀ b ∈ [a, g.L], FpOk X pins H' b) E s
theorem rs_dstart {K : KK} {H : Hp} {S : Sto} {ds : List D} {vs : List V} {N : List Str} (r : RDs K H ds vs) (s : RelS K S H) : RS K (start N vs) H (dStart N.length ds) S := rs_start r s
theorem inv_guard {g : GP} {w : Wk} {σ : L2.St} (G : g.Ok) (E : En g w) (loc : ∃ m, w.s.heap.Ns g.L m ∧ ∀ (i : Nat) (x : Str) (v : V), g.N[i]? = some x → σ[i]? = some (some v) → Vis g.env.scope x → ∃ u, RelV v u ∧ Look g.env w.s.heap m x u) (hl : σ.length = g.N.length) :
    Inv (g.cx w) [] σ (guardH g.L w) w.s := by
  have nc : ∀ x c, (g.cx w).env.cells.lookup x = some c → False := fun x c h => by rw [cx_env E] at h; exact no_cells G x c h
  refine ⟨cx_ok G E, rfl, E.e0.bare, ⟨fun b o e n hf hx => ?_, fun b o e n hf hx => ?_, fun b o e n hx => n, fun b o e hx => ?_, fun b xs h => h, fun b o u h => h, fun b ps h => ⟨#[], by rw [show guardH g.L w b = _ from h]; simp⟩⟩, ?_, fun x c h => (nc x c h).elim, ?_, fun x c h => (nc x c h).elim, fun p hp => ?_, fun b u q => ?_, hl⟩
  · exact (cutS_get (cutS_lt e)).symm.trans e
  · exact ⟨o.slots, (cutS_get (cutS_lt e)).symm.trans e⟩
  · exact ⟨o, (cutS_get (cutS_lt e)).symm.trans e⟩
  · obtain ⟨m, q, r⟩ := loc
    refine ⟨m, by rw [cx_env E]; exact q, fun i x v h1 h2 h3 => ?_⟩
    rw [cx_env E] at h3 ⊢
    exact r i x v h1 h2 h3
  · have eL : (g.cx w).env.locals = g.L := by rw [cx_env E]; rfl
    rw [eL]
    exact guard_fp E E.fpL
  · exact absurd (show p ∈ ([] : List (Addr × Obj)) from hp) (by simp)
  · rcases guard_cases q with z | ⟨_, _, _, o, eo, rfl⟩
    · obtain ⟨z1, z2⟩ := immH_some.mp z
      exact immOk z2 (E.e0.hok b u z1) fun o e => e
    · exact ⟨eo, eo, ⟨o, eo⟩, fun h1 h2 p st => st _ p⟩
theorem out_guard {g : GP} {w : Wk} {b : Addr} {u : HO} (k : keepO u = true) (h : outH w (guardH g.L w) b = some u) : w.H b = some u := by
  cases e : w.H b with
  | none =>
    rw [outH_imm fun v hv => by rw [e] at hv; cases hv] at h
    have := guard_keep k (immH_some.mp h).1
    rw [e] at this
    cases this
  | some v =>
    cases hi : immO v with
    | true =>
      rw [outH_imm fun v' hv => by rw [e] at hv; cases hv; exact hi] at h
      rw [← e]
      exact guard_keep k (immH_some.mp h).1
    | false =>
      rw [outH_hid e hi] at h
      exact h
section
variable {P : Program} {w : World} {K : PySem.W.Frag} {mg : Str → Option Value} {base : Heap}
theorem gmk_core {x : Str} {st : Stmt} {f : Addr} {fd : FuncData} {N ps : List Str} {k : Nat} {B : DTGn} {X : Cx} {pins : List (Addr × Obj)} {σ : L2.St} {H0 : Hp} {s0 : Shared} {us0 : List Value} {out : List D} {E : Value → Shared → Prop} (F : Fun K x x st f fd) (S : GScope N ps (defScope st)) (noc : ∀ y ∈ (defScope st).names, y.2 = .cell → False)
    (hin : ∀ L cdv, interactive (envOfC x (defScope st) L f cdv) = false) (hbody : ∀ g : GP, g.Is P w K mg base N x (defScope st) f k → g.Ok → ∀ out, DJs g out (defBody st) B)
    (hP : X.prog = P) (hw : X.w = w) (hK : X.K = K) (hmg : X.mg = mg) (hbase : X.base = base) (hcalm : X.calm = true) (hr : Room (k + 2) X.A) (I0 : Inv X pins σ H0 s0)
    (hbind : ∀ (Q : List (Str × Value) → Shared → Prop) (E : Value → Shared → Prop), (∀ us vs ds H s, Inv X pins σ H s → Ext H0 H → (∀ S, RelS X.kk S H0 → RelS X.kk S H) → Vals vs us → RDs X.kk H ds vs → ds.length = ps.length → dGf N.length B ds out → Q (ps.zip us) s) → wpAny (model P w) X.A.in1 (bindArgs fd ⟨us0, []⟩) Q E s0) :
    wpAny (model X.prog X.w) X.A (call (.ref f) us0) (fun u s' => ∃ g a gn H', u = .ref a ∧ Host g X ∧ Inv X pins σ H' s' ∧ Ext H0 H' ∧ (∀ S, RelS X.kk S H0 → RelS X.kk S H') ∧ Slp g out out.length a gn [g.L] H' s' ∧ ∀ b ∈ [a, g.L], FpOk X pins H' b) E s0 := by
  obtain ⟨oc, od, kV, doc, pm, an, cdv, ct, osl, rfl, lk, hcd⟩ := F.ex
  have KX0 : K.In s0.heap := by have := I0.kIn; rw [hK] at this; exact this
  refine wpAny_call ?_
  rw [hP, hw]
  refine codeAny_call_generator (by have := hr.dp; show X.A.depth < _; omega) (KX0 _ _ lk) rfl S.co S.gen rfl (PySem.W.codeRec_of KX0 hcd) (hbind _ _ fun us vs ds H s I ext0 rel0 r rd hlen hq => ?_)
  have e0 := I.env0
  rw [hP, hw, hK, hmg, hbase] at e0
  have hl : vs.length = ps.length := by rw [← rd.length, hlen]
  have KX : K.In s.heap := e0.mod.kin.keeps fun b o e => (e0.bs b o e).1
  have lim : s.heap.NoLimit := e0.mod.nolimit.keeps fun b o e => (e0.bs b o e).1
  have hkind : ∀ y ∈ ps.zip us, (defScope st).names.lookup y.1 = some .local ∨ ((defScope st).names.lookup y.1 = some .cell ∧ ((cellsFrom (s.heap.objs.size + 1) (defScope st).names []).lookup y.1).isSome = true) := fun ⟨n, v⟩ hy => by
    rcases S.par n (List.of_mem_zip hy).1 with q | q
    · exact .inl q
    · exact .inr ⟨q, PySem.W.cellsFrom_some _ _ _ (.inl q)⟩
  refine wpAny_newFunctionEnv_cells S.kind hkind fun env he s1 x1 => ?_
  subst he
  have lim1 : s1.heap.NoLimit := lim.keeps x1.toInCall.keep
  refine ⟨lim1, ?_⟩
  obtain ⟨h1, tk, es1, hk1⟩ := x1.done
  have os1 : s1.os = s.os := by rw [es1]
  have gen1 : s1.gens = s.gens := by rw [es1]
  have lt1 : s.heap.objs.size < s1.heap.objs.size := x1.toInCall.ns.lt
  have kp1 : ∀ b o, s.heap.get? b = some o → s1.heap.get? b = some o := x1.toInCall.keep
  have main : ∀ (go : Obj) (nm qn : Value) (tk2 : Nat), go.cls = .type "generator" → go.data = .fields #[.int s1.gens.size 0, nm, qn] → go.slots = #[] → (∀ h : Heap, (h.push go).get? h.objs.size = some go) →
      ∃ g a gn H', (Value.ref s1.heap.objs.size) = .ref a ∧ Host g X ∧ Inv X pins σ H' { s1 with gens := s1.gens.push (.fresh (.func (defBody st) (envOfC x (defScope st) s.heap.objs.size f cdv))), toks := tk2, heap := s1.heap.push go } ∧ Ext H0 H' ∧ (∀ S, RelS X.kk S H0 → RelS X.kk S H') ∧
        Slp g out out.length a gn [g.L] H' { s1 with gens := s1.gens.push (.fresh (.func (defBody st) (envOfC x (defScope st) s.heap.objs.size f cdv))), toks := tk2, heap := s1.heap.push go } ∧ ∀ b ∈ [a, g.L], FpOk X pins H' b := by
    intro go nm qn tk2 hgc hgd0 hgs hgp
    let s2 : Shared := { s1 with gens := s1.gens.push (.fresh (.func (defBody st) (envOfC x (defScope st) s.heap.objs.size f cdv))), toks := tk2, heap := s1.heap.push go }
    have kp : ∀ b o, s.heap.get? b = some o → (s1.heap.push go).get? b = some o := fun b o e => Heap.get?_push_of_some _ (kp1 b o e)
    have hb' : AllBare (s1.gens.push (.fresh (.func (defBody st) (envOfC x (defScope st) s.heap.objs.size f cdv)))) := AllBare.push (by rw [gen1]; exact e0.bare) rfl
    have I1 : Inv X pins σ H s2 :=
      I.call' (ch := []) os1 (Un.kept kp) (I.hok.kept kp) hb' fun b z => by simp at z
    let g : GP := ⟨P, w, K, mg, base, N, x, defScope st, f, cdv, s.heap.objs.size, k⟩
    have hG : g.Ok := ⟨S.kind, noc, S.nofree, S.co, hin _ _, e0.bsz⟩
    have frL : ∀ b ∈ frs X.stack, b < s.heap.objs.size := fun b hb => by
      obtain ⟨_, o, ho, _⟩ := I.stack.mem hb
      exact Heap.lt_size ho
    have hx : Host g X := ⟨hP.symm, hw.symm, hK.symm, hmg.symm, hbase.symm, I.sz, frL, hcalm, hr⟩
    have e1 := I1.env0
    rw [hP, hw, hK, hmg, hbase] at e1
    have E0 : En g ⟨X.A, X.stack, s2, H, [g.L]⟩ := by
      refine ⟨e1, ⟨hr.hd, ?_, ?_⟩, frL, ?_, List.mem_singleton_self _, fun b hb => ?_⟩
      · have := hr.dp
        show X.A.depth + 1 + 3 * k + 5 < _
        omega
      · have := hr.un
        show X.A.units + 3 + 16 * k + 200 < _
        omega
      · show s.heap.objs.size < (s1.heap.push go).objs.size
        rw [Heap.size_push]; exact Nat.lt_succ_of_lt lt1
      · rw [List.mem_singleton.mp hb]
        exact ⟨I.hok.fresh (Nat.le_refl _), Nat.le_refl _⟩
    have IG := inv_startG (P := P) (w := w) (K := K) (mg := mg) (base := base) (f := f) (cd := cdv) (E := fun _ _ _ => False) S (by exact hr.hd) e0 hl r x1
    have IW : Inv (g.cx ⟨X.A, X.stack, s2, H, [g.L]⟩) [] (start N vs) (guardH g.L ⟨X.A, X.stack, s2, H, [g.L]⟩) s2 := by
      refine inv_guard (w := ⟨X.A, X.stack, s2, H, [g.L]⟩) hG E0 ?_ IG.len
      obtain ⟨m, q, rr⟩ := IG.loc
      refine ⟨m, q.push go, fun i y v h1 h2 h3 => ?_⟩
      obtain ⟨u, ru, l⟩ := rr i y v h1 h2 h3
      refine ⟨u, ru, ?_⟩
      rcases l with l | ⟨_, c, e, _⟩
      · exact .inl l
      · exact (no_cells hG y c e).elim
    have kk : X.kk = g.kk := by show (⟨X.prog, X.w, X.K⟩ : KK) = ⟨P, w, K⟩; rw [hP, hw, hK]
    have AW : AtG g ⟨X.A, X.stack, s2, H, [g.L]⟩ [] (start N vs) _ _ (dStart N.length ds) (fun _ => none) := ⟨E0, IW, .refl _, rs_dstart (by rw [← kk]; exact rd.ext3 ext3_guard) (fun a o h => nomatch h), fun p hp => by simp at hp⟩
    have hgen : (s1.heap.push go).IsGen s1.heap.objs.size s1.gens.size := ⟨go, nm, qn, hgp _, hgc, hgd0, hgs⟩
    have hne : s1.heap.objs.size ≠ s.heap.objs.size := Nat.ne_of_gt lt1
    refine ⟨g, s1.heap.objs.size, s1.gens.size, H, rfl, hx, I1, ext0, rel0, ⟨hgen, fun z => hne (List.mem_singleton.mp z), List.mem_singleton_self _, fun b hb => ?_, _, Array.getElem?_push_size .., fun z => absurd z (Nat.lt_irrefl _), fun w' hf En' hkp x' => ?_⟩, fun b hb => ?_⟩
    · rw [List.mem_singleton.mp hb]
      obtain ⟨m, ⟨ob, es, ep, e, d, _⟩, _⟩ := loc_at AW
      exact ⟨Nat.le_refl _, ob, e, fun v z => by rw [d] at z; cases z⟩
    · have own0 : ownFp g.L [] (fun _ => none) s2 = [g.L] := by
        unfold ownFp
        have : (List.range (s1.heap.push go).objs.size).filter (fun b => (keepLD (fun _ => none) b).isSome) = [] := List.filter_eq_nil_iff.mpr fun b _ z => nomatch z
        show g.L :: ([] ++ (List.range (s1.heap.push go).objs.size).filter (fun b => (keepLD (fun _ => none) b).isSome)) = _
        rw [this]
        rfl
      obtain ⟨B1, _⟩ := reenter hG AW En' (hf.trans own0.symm) (fun b hb => hkp b (hf ▸ hb)) fun b u kq h => x' b u kq (out_guard kq h)
      refine ⟨rfl, sg_func ?_⟩
      have hj := hbody g ⟨rfl, rfl, rfl, rfl, rfl, rfl, rfl, rfl, rfl, rfl⟩ hG out
      refine hj.run w' [] (start N vs) _ w'.s (dStart N.length ds) _ [] _ [] _ _ id id _ ⟨fun A => over_func, rfl, rfl, rfl⟩ B1 ⟨out, rfl⟩ rfl ⟨fun fl w2 σ2 H2 s3 env2 S2 ds2 A2 _ _ q => ?_⟩ hq
      have fin : ds2 = out → ∀ u, u = Value.none → Sg (model P w) w2.A (PostN g out (out.length - ds2.length) w2) (.func (defBody st) g.env) (.pure (.done (.ret u))) [] s3 := fun hd u hu => by
        subst hd
        subst hu
        rw [Nat.sub_self]
        have ex := exit_of A2
        exact sg_end (.ok (.ret .none)) ⟨rfl, _, ex.os, ex.bare, ex.dead, ex.un, ex.ok, ex.ext, ex.rel, fun b hb => by simp at hb⟩
      cases fl with
      | next => exact fin q _ rfl
      | brk => exact q.elim
      | cont => exact q.elim
      | ret u =>
        obtain ⟨d, v, ⟨rfl, q⟩, rd, rv⟩ := q
        cases rd
        exact fin q _ rv
    · rcases List.mem_cons.mp hb with rfl | hb
      · exact I.fpOk (Nat.le_of_lt lt1) (I.hok.fresh (Nat.le_of_lt lt1))
      · rw [List.mem_singleton.mp hb]
        exact I.fpOk (Nat.le_refl _) (I.hok.fresh (Nat.le_refl _))
  exact main _ _ _ _ rfl rfl rfl fun h => Heap.get?_push_size _ rfl
theorem gmk_of {x : Str} {st : Stmt} {f : Addr} {fd : FuncData} {N ps : List Str} {k n : Nat} {B : DTGn} (F : Fun K x x st f fd) (S : GScope N ps (defScope st)) (hn : ps.length = n) (noc : ∀ y ∈ (defScope st).names, y.2 = .cell → False) (hbd : Binds K fd ps [])
    (hin : ∀ L cdv, interactive (envOfC x (defScope st) L f cdv) = false) (hbody : ∀ g : GP, g.Is P w K mg base N x (defScope st) f k → g.Ok → ∀ out, DJs g out (defBody st) B) :
    GMk P w K mg base k f (dGfn n N.length B) := by
  refine ⟨fun X pins s σ H us vs ds out E hP hw hK hmg hbase hcalm hr I r rd hq => gmk_core F S noc hin hbody hP hw hK hmg hbase hcalm hr I fun Q E h => ?_⟩
  have hul : us.length = ps.length := by rw [← r.length, ← rd.length, hq.1, hn]
  have KX : K.In s.heap := by have := I.kIn; rw [hK] at this; exact this
  have hbs : BindsTo s fd ⟨us, []⟩ (ps.zip us) := by
    have := hbd s us KX (by rw [List.append_nil]; exact hul)
    rw [List.append_nil] at this
    exact this
  exact hbs _ _ _ _ (h us vs ds H s I (.refl H) (fun _ h => h) r rd (hq.1.trans hn.symm) hq.2)
/-- a generator def by its name -/
structure DGf (P : Program) (w : World) (K : PySem.W.Frag) (mg : Str → Option Value) (base : Heap) (k : Nat) (x : Str) (r : List D → List D → Prop) : Prop where
  ex : ∃ f : Addr, GMk P w K mg base k f r ∧ mg x = some (.ref f) ∧ PySem.W.keepIn K (.ref f) = true
end
/-- the call of a generator def -/
def dGenC (r : List D → List D → Prop) (ta : DTA) : DTGi := fun env S R => ta env S fun ds S1 => ∃ out, r ds out ∧ R out S1
theorem pgi_call {X : Cx} {e : Expr} {es : List Expr} {tl : DTA} {k : Nat} {r : List D → List D → Prop} {x : Str} {p pos' : Pos} (F : DGf X.prog X.w X.K X.mg X.base k x r) (hc : X.calm = true) (hr : Room (k + 2) X.A) (hg : Gl X x) (ha : DA X (e :: es) tl)
    (hdb : (x == ("__debug__" : Str)) = false := by decide) (he : starEach (e :: es) X.env = (false, eval e X.env) :: starEach es X.env := by rfl) (hpl : (backTo pos' (starEach es X.env)).any (·.1) = false := by rfl) :
    PGi X (.Call (.Name x p) (e :: es) [] pos') (dGenC r tl) := by
  obtain ⟨f, M, hm, hk⟩ := F.ex
  refine ⟨fun pins s σ H env S R I rs h => ?_⟩
  refine wpAny_Call_Name_kw (ld_glob I hg hm ?_ hdb)
  refine PySem.W.callWith_K (h₀ := X.base) I.ok.mod.kin hk (thn (ha.run.run pos' pins s σ H (fun vs H' => ∃ ds S', RelS X.kk S' H' ∧ RDs X.kk H' ds vs ∧ Ext H H' ∧ ∃ out, r ds out ∧ R out S') I
    ⟨env, S, _, rs, h, fun ds S' vs H' q s1 r1 e1 => ⟨ds, S', s1, r1, e1, q⟩⟩) fun us s1 ⟨vs, H1, I1, r1, ds, S1, s1', rd, e1, out, hq, hR⟩ => ⟨I1.kIn, ?_⟩) he hpl
  exact thn (M.run X pins s1 σ H1 us vs ds out X.xe rfl rfl rfl rfl rfl hc hr I1 r1 rd hq) fun u s2 ⟨g, a, gn, H2, hu, hx, I2, e2, hS, sl, fa⟩ => ⟨g, out, a, gn, S1, H2, hu, hx, I2, hS _ s1', e1.trans e2, sl, fa, hR⟩
end Sv
set_option maxHeartbeats 1000000
set_option autoImplicit false
namespace Sv
open PySem PySem.Spec PyProof.Rows L2 Sz GenW
variable {g : GP} {out : List D} {n gn : Nat} {a S : Addr} {fp : List Addr} {Hm : Hp} {X : Cx} {pins : List (Addr × Obj)} {σ : L2.St} {H : Hp} {s s' : Shared}
theorem pin_fp {acc : Array Value} {c : Nat} (I : Inv X ((S, lstObj acc c) :: pins) σ H s) (h0 : X.s_0.heap.objs.size ≤ S) (hp : ∀ p ∈ X.pn ++ pins, p.1 ≠ S) : FpOk X pins H S := by
  obtain ⟨q1, q2, q3, q4, _⟩ := I.pin (S, lstObj acc c) (List.mem_append_right _ List.mem_cons_self)
  refine ⟨q2, q3, q4, .inr h0, fun x c' e z => ?_, hp⟩
  obtain ⟨v, o, ho, hd⟩ := I.cell x c' e
  rw [z, q1] at ho
  cases ho
  cases hd
theorem repin {acc : Array Value} {c : Nat} {v : Value} (I : Inv X ((S, lstObj acc c) :: pins) σ H s) (h0 : X.s_0.heap.objs.size ≤ S) (hp : ∀ p ∈ X.pn ++ pins, p.1 ≠ S) :
    ∃ c', Inv X ((S, lstObj (acc.push v) c') :: pins) σ H { s with heap := s.heap.update S (Obj.mapSeq (·.push v)) } ∧ (s.heap.update S (Obj.mapSeq (·.push v))).get? S = some (lstObj (acc.push v) c') := by
  obtain ⟨q1, q2, q3, q4, _⟩ := I.pin (S, lstObj acc c) (List.mem_append_right _ List.mem_cons_self)
  have f := pin_fp I h0 hp
  have I0 : Inv X pins σ H s := I.pins_of fun p hp => I.pin p (List.mem_append_right _ (List.mem_cons_of_mem _ hp))
  have e := Heap.get?_update_self (Obj.mapSeq (·.push v)) q1 rfl
  have I1 := I0.turned (t' := s.toks) (it := S) (h' := s.heap.update S (Obj.mapSeq (·.push v))) (fun b o hb e => (Heap.get?_update_other _ _ (Ne.symm hb)).trans e) q2 q3 (.inr h0) f.2.2.2.2.1 hp
  refine ⟨_, I1.pins_of fun p hp' => ?_, e⟩
  rcases List.mem_cons.mp hp' with z | z
  · rw [z]
    exact ⟨e, q2, q3, q4, fun v z => by cases z⟩
  · exact I1.pin p (List.mem_append_right _ z)
theorem drainK {A : Around} {res : Value} {R : Result → Shared → Prop} (hx : Host g X) (nr : Near X A.in1) (h0 : X.s_0.heap.objs.size ≤ S) (hp : ∀ p ∈ X.pn ++ pins, p.1 ≠ S) (hle : out.length ≤ 1000000) {H0 : Hp}
    (hend : ∀ s' H' acc c vs, Inv X ((S, lstObj acc c) :: pins) σ H' s' → RDs X.kk H' out vs → Vals vs acc.toList → Ext H0 H' → (∀ S, RelS X.kk S H0 → RelS X.kk S H') → R (.ok (.ret res)) s') :
    ∀ (n : Nat) (s : Shared) (H Hm : Hp) (fp : List Addr) (acc : Array Value) (c : Nat) (vs : List V), n ≤ out.length → Inv X ((S, lstObj acc c) :: pins) σ H s → Slp g out n a gn fp Hm s → Ext3 Hm H → (∀ b ∈ a :: fp, FpOk X ((S, lstObj acc c) :: pins) H b) →
      RDs X.kk H (out.take (out.length - n)) vs → Vals vs acc.toList → Ext H0 H → (∀ S, RelS X.kk S H0 → RelS X.kk S H) →
      codeAny (model X.prog X.w) A (.builtin "list.extend.loop" ⟨[.ref S, .ref a, res], []⟩) R s := by
  intro n
  induction n with
  | zero =>
    intro s H Hm fp acc c vs hn I sl e3 hf rd rv e0 hS
    refine codeAny_builtin F.entry_extend_loop ?_
    rw [Around.under_plainId F.plain_extend_loop _]
    show wpAny _ A.in1 (pyNext (.ref a) >>= _) _ _ s
    refine wpAny_bind (thn (wake_done hx nr I sl e3 hf) fun r s1 ⟨hr, H1, I1, e1, hS1⟩ => ?_)
    subst hr
    rw [Nat.sub_zero, List.take_length] at rd
    exact wpAny_pure (hend s1 H1 acc c vs I1 (rd.ext e1) rv (e0.trans e1) fun S h => hS1 S (hS S h))
  | succ n ih =>
    intro s H Hm fp acc c vs hn I sl e3 hf rd rv e0 hS
    refine codeAny_builtin F.entry_extend_loop ?_
    rw [Around.under_plainId F.plain_extend_loop _]
    show wpAny _ A.in1 (pyNext (.ref a) >>= _) _ _ s
    refine wpAny_bind (thn (wake_item hx nr I sl e3 hf (by omega)) fun r s1 ⟨u, hr, d, x, H1, fp', hd, rx, rdx, I1, e1, hS1, sl1, f1⟩ => ?_)
    subst hr
    show wpAny _ A.in1 (updateSeq S (·.push u) >>= _) _ _ _
    have q1 := (I1.pin (S, lstObj acc c) (List.mem_append_right _ List.mem_cons_self)).1
    have hsz : acc.size = out.length - (n + 1) := by
      have h1 := rv.length
      have h2 := rd.length
      rw [List.length_take] at h2
      have h3 : acc.toList.length = acc.size := by simp
      omega
    refine wpAny_bind ?_
    have mil : (1000000 : Nat) ≤ sizeLine := by decide
    refine wpAny_updateSeq q1 rfl (wpAny_pure ⟨plainId_quiet F.plain_extend_loop _, ?_⟩) (by rw [hsz]; omega) (by show (acc.push u).size ≤ sizeLine + 1; rw [Array.size_push, hsz]; omega)
    obtain ⟨c', I2, q2⟩ := repin (v := u) I1 h0 hp
    have hSa : ∀ b ∈ a :: fp', S ≠ b := fun b hb => (f1 b hb).2.2.2.2.2 (S, lstObj acc c) (List.mem_append_right _ List.mem_cons_self)
    refine ih _ H1 H1 fp' (acc.push u) c' (vs ++ [x]) (by omega) I2 (sl1.keep (by omega) (fun b hb o e => (Heap.get?_update_other _ _ (hSa b hb)).trans e) fun _ _ e _ => e) (.refl _) (fun b hb => ?_) ?_ ?_ (e0.trans e1) fun S h => hS1 S (hS S h)
    · obtain ⟨z1, z2, z3, z4, z5, z6⟩ := f1 b hb
      refine ⟨z1, z2, z3, z4, z5, fun p hp' => ?_⟩
      rcases List.mem_append.mp hp' with z | z
      · exact z6 p (List.mem_append_left _ z)
      · rcases List.mem_cons.mp z with z | z
        · rw [z]; exact hSa b hb
        · exact z6 p (List.mem_append_right _ (List.mem_cons_of_mem _ z))
    · have : out.length - n = out.length - (n + 1) + 1 := by omega
      rw [this, List.take_add_one, hd]
      exact (rd.ext e1).append (.cons rdx .nil)
    · rw [Array.toList_push]
      exact rv.append (.cons rx .nil)
/-- list(g) -/
theorem call_listK {E : Value → Shared → Prop} {Q' : Value → Shared → Prop} (hx : Host g X) (I : Inv X pins σ H s) (sl : Slp g out out.length a gn fp H s) (hf : ∀ b ∈ a :: fp, FpOk X pins H b) (hle : out.length ≤ 1000000)
    (hQ : ∀ S s' H' vs, H' S = none → Inv X pins σ (upd H' S (.lst vs)) s' → RDs X.kk H' out vs → Ext H H' → (∀ S, RelS X.kk S H → RelS X.kk S H') → Q' (.ref S) s') :
    wpAny (model X.prog X.w) X.A (call (.type "list") [.ref a]) Q' E s := by
  have hl := I.nolimit
  have hr := hx.room
  obtain ⟨go, gnm, gqn, gho, ghc, ghd, ghs⟩ := id sl.isg
  have ha2 : a < s.heap.objs.size := Heap.lt_size gho
  have hSa : s.heap.objs.size ≠ a := Nat.ne_of_gt ha2
  refine callType_codes (Q₁ := fun obj s₁ => obj = .ref s.heap.objs.size ∧ s₁ = { s with heap := s.heap.push { cls := .type "list", data := .seq #[] } }) F.called_list (F.typeCall_list_1 _) F.entry_list_init
    (code_list_new _ ⟨rfl, rfl⟩) fun obj s₁ h₁ => ?_
  obtain ⟨rfl, rfl⟩ := h₁
  have hS : (s.heap.push { cls := .type "list", data := .seq #[] }).get? s.heap.objs.size = some { cls := .type "list", data := .seq #[] } := Heap.get?_push_size _ rfl
  refine ⟨⟨_, hS, rfl⟩, F.args_list_init_2 _ _, ?_⟩
  show wpAny _ X.A.in1.in1 (do let old ← Builtin.List.listItems (.ref s.heap.objs.size); Builtin.List.listUpdate (.ref s.heap.objs.size) (fun _ => #[]); letGo old.toList.reverse; Builtin.List.listExtendWith (.ref s.heap.objs.size) (.ref a) .none) _ _ _
  refine wpAny_bind ?_
  unfold Builtin.List.listItems
  refine wpAny_bind (wpAny_seqItems hS rfl (wpAny_pure ?_))
  show wpAny _ X.A.in1.in1 (updateSeq s.heap.objs.size (fun _ => #[]) >>= fun _ => letGo (#[] : Array Value).toList.reverse >>= fun _ => Builtin.List.listExtendWith (.ref s.heap.objs.size) (.ref a) .none) _ _ _
  refine wpAny_bind (wpAny_updateSeq hS rfl ?_)
  have hS2 := Heap.get?_update_self (Obj.mapSeq (fun _ => (#[] : Array Value))) hS rfl
  refine wpAny_bind (wpAny_letGo ?_)
  unfold Builtin.List.listExtendWith
  have up : ∀ (h : Heap) (f : Obj → Obj), (∀ b o, s.heap.get? b = some o → h.get? b = some o) → ∀ b o, s.heap.get? b = some o → (h.update s.heap.objs.size f).get? b = some o := fun h f q b o e =>
    (Heap.get?_update_other _ _ (Ne.symm (Nat.ne_of_lt (Heap.lt_size e)))).trans (q b o e)
  have k1 : ∀ b o, s.heap.get? b = some o → (s.heap.push { cls := .type "list", data := .seq #[] }).get? b = some o := fun b o e => Heap.get?_push_of_some _ e
  have k2 := up _ (Obj.mapSeq (fun _ => (#[] : Array Value))) k1
  have gty : ∀ {h : Heap}, (∀ b o, s.heap.get? b = some o → h.get? b = some o) → h.IsGen a gn := fun {h} q => sl.isg.keeps q
  refine wpAny_bind (wpAny_typeOf (Heap.IsGen.typeIs (s := { s with heap := _ }) (gty k2)) ?_)
  have h1 : Builtin.List.listSameRef (.ref s.heap.objs.size) (.ref a) = false := by simp [Builtin.List.listSameRef, hSa]
  have h2 : (Value.type "generator" == Value.type "list") = false := by decide
  have h3 : (Value.type "generator" == Value.type "tuple") = false := by decide
  simp only [h1, h2, h3, Bool.or_false, Bool.false_eq_true, if_false]
  refine wpAny_bind (wpAny_pyIter_gen (s := { s with heap := _ }) (gty k2) ?_)
  refine wpAny_bind (wpAny_holding ?_)
  unfold Builtin.List.listLengthHint
  refine wpAny_bind (wpAny_specialOf (Heap.IsGen.typeIs (s := { s with heap := _ }) (gty k2)) F.gen_no_len ?_)
  show wpAny _ X.A.in1.in1 (specialOf (Value.ref a) (Str.ofString "__length_hint__") >>= _) _ _ _
  refine wpAny_bind (wpAny_specialOf (Heap.IsGen.typeIs (s := { s with heap := _ }) (gty k2)) F.gen_no_hint ?_)
  refine wpAny_pure ?_
  show wpAny _ X.A.in1.in1 (rule "list.extend.makes-room" >>= fun _ => Builtin.List.listTouch (.ref s.heap.objs.size) >>= fun _ =>
    again (.builtin "list.extend.loop" ⟨[.ref s.heap.objs.size, .ref a, .none], []⟩)) _ _ _
  refine wpAny_bind (wpAny_rule ?_)
  refine wpAny_bind ?_
  show wpAny _ X.A.in1.in1 (updateSeq s.heap.objs.size (·.push .none) >>= fun _ => updateSeq s.heap.objs.size (·.pop)) _ _ _
  refine wpAny_bind (wpAny_updateSeq hS2 rfl ?_)
  have hS3 := Heap.get?_update_self (Obj.mapSeq (·.push Value.none)) hS2 rfl
  refine wpAny_updateSeq (hz := by seq_fits) hS3 rfl ?_
  have hS4 := Heap.get?_update_self (Obj.mapSeq (·.pop)) hS3 rfl
  have k4 := up _ (Obj.mapSeq (·.pop)) (up _ (Obj.mapSeq (·.push Value.none)) k2)
  refine wpAny_pure ⟨plainId_quiet F.plain_extend_loop _, ?_⟩
  have hpn : ∀ p ∈ X.pn ++ pins, p.1 ≠ s.heap.objs.size := fun p hp => Nat.ne_of_lt (Heap.lt_size (I.pin p hp).1)
  have I4 := I.kept (t' := s.toks) k4
  have hHS : H s.heap.objs.size = none := I.hok.fresh (Nat.le_refl _)
  obtain ⟨c4, hS4'⟩ : ∃ c, (((s.heap.push { cls := .type "list", data := .seq #[] }).update s.heap.objs.size (Obj.mapSeq (fun _ => (#[] : Array Value)))).update s.heap.objs.size (Obj.mapSeq (·.push Value.none)) |>.update s.heap.objs.size (Obj.mapSeq (·.pop))).get? s.heap.objs.size = some (lstObj #[] c) := ⟨_, hS4⟩
  have I5 : Inv X ((s.heap.objs.size, lstObj #[] c4) :: pins) σ H _ := I4.pins_of fun p hp => by
    rcases List.mem_cons.mp hp with z | z
    · rw [z]
      have fS := I.fpOk (H' := H) (Nat.le_refl _) hHS
      exact ⟨hS4', hHS, fS.2.1, fS.2.2.1, fun v z => by cases z⟩
    · exact I4.pin p (List.mem_append_right _ z)
  refine drainK (g := g) (A := X.A.in1) (out := out) (a := a) (gn := gn) (H0 := H) hx ⟨hr.hd, I.ok.frames, by show X.A.depth ≤ _; omega, by show X.A.units + 1 + 1 ≤ _; omega⟩ I.sz hpn hle
    (fun s' H' acc c vs I' rd rv e hS' => ⟨rfl, ?_⟩) out.length _ H H fp #[] c4 [] (Nat.le_refl _) I5 ?slp (.refl _) (fun b hb => ?fpk) (by rw [Nat.sub_self]; exact .nil) .nil (.refl _) fun _ h => h
  case slp =>
    obtain ⟨gs, r1, r2, r3⟩ := sl.rdy
    exact ⟨gty k4, sl.anot, sl.fpL, fun b hb => ⟨(sl.ex b hb).1, let ⟨o, e, d⟩ := (sl.ex b hb).2; ⟨o, k4 b o e, d⟩⟩, gs, r1, r2, fun w' hw En hk x => r3 w' hw En (fun b hb o e => hk b hb o (k4 b o e)) x⟩
  case fpk =>
    obtain ⟨z1, z2, z3, z4, z5, z6⟩ := hf b hb
    refine ⟨z1, z2, z3, z4, z5, fun p hp' => ?_⟩
    rcases List.mem_append.mp hp' with z | z
    · exact z6 p (List.mem_append_left _ z)
    · rcases List.mem_cons.mp z with z | z
      · rw [z]
        rcases List.mem_cons.mp hb with rfl | hb
        · exact hSa
        · obtain ⟨_, o, e, _⟩ := sl.ex b hb
          exact Nat.ne_of_gt (Heap.lt_size e)
      · exact z6 p (List.mem_append_right _ z)
  · obtain ⟨q1, q2, q3, q4, _⟩ := I'.pin (s.heap.objs.size, lstObj acc c) (List.mem_append_right _ List.mem_cons_self)
    have fS := pin_fp I' I.sz hpn
    have I0 : Inv X pins σ H' s' := I'.pins_of fun p hp => I'.pin p (List.mem_append_right _ (List.mem_cons_of_mem _ hp))
    have hlen : vs.length ≤ sizeLine := by rw [← rd.length]; exact Nat.le_trans hle (by decide)
    refine hQ _ s' H' vs q2 (I0.call' (ch := [s.heap.objs.size]) rfl ⟨fun b o e n _ _ => e, fun b o e n _ _ => ⟨o.slots, e⟩, fun b o e n hx => by rw [upd_ne (fun z => hx (List.mem_singleton.mpr z))]; exact n, fun b o e _ => ⟨o, e⟩, fun b xs e => by rw [upd_ne (ne_of_none e q2)]; exact e,
      fun b o u e => by rw [upd_ne (ne_of_none e q2)]; exact e, fun b ps e => ⟨#[], by rw [upd_ne (ne_of_none e q2), e]; simp⟩⟩ (fun b u e => ?_) I0.bare fun b hb => ?_) rd e hS'
    · by_cases hb : b = s.heap.objs.size
      · subst hb
        rw [upd_same] at e
        cases e
        exact ⟨hlen, acc.toList, c, rv, by rw [q1]⟩
      · rw [upd_ne hb] at e
        exact (I0.hok b u e).stay (fun _ _ _ z => z) (fun d z => by rw [upd_ne (ne_of_none z q2)]; exact z) fun d xs z => by rw [upd_ne (ne_of_none z q2)]; exact z
    · rw [List.mem_singleton.mp hb]
      exact ⟨fS.2.2.2.1, fS.2.1, fS.2.2.2.2.1, fS.2.2.2.2.2⟩
def dListK (t : DTGi) : DTE := fun env S R => t env S fun out S1 => out.length ≤ 1000000 ∧ ∀ p, S1 p = none → R (.ref p) (S1.put p (.lst out))
theorem de_listK {X : Cx} {e : Expr} {t : DTGi} {nm : Str} {p2 pos : Pos} (h : PGi X e t) (hgl : Gl X nm) (hmg : X.mg nm = none) (hv : bootBuiltins nm = some (.type "list")) (hnm : nm ≠ "__name__" := by decide) (hdn : (nm == ("__debug__" : Str)) = false := by decide)
    (he : starEach [e] X.env = (false, eval e X.env) :: starEach [] X.env := by rfl) : DE X (.Call (.Name nm p2) [e] [] pos) (dListK t) := by
  refine ⟨⟨fun pins s σ H Q I ⟨env, S, R, rs, hq, k⟩ => ?_⟩⟩
  refine wpAny_Call_Name_kw (ld_blt I hgl hmg hv ?_ hnm hdn)
  refine PyProof.Rows.callWith_type1 ?_ he rfl
  rw [he]
  show wpAny _ _ (spliced ((false, eval e X.env) :: backTo pos (starEach [] X.env))) _ _ s
  refine Calls.spliced_cons (thn (h.run pins s σ H env S _ I rs hq) fun u s1 ⟨g, out, a, gn, S1, H1, hu, hx, I1, s1', e1, sl, fa, hle, hR⟩ => ?_)
  subst hu
  refine Calls.spliced_nil ?_
  refine call_listK hx I1 sl fa hle fun p s2 H2 vs hn I2 rd e2 hS => ?_
  have s2' := hS _ s1'
  exact ⟨.ref p, _, I2, rfl, k _ _ _ _ (hR p (s2'.fresh hn)) (s2'.lay hn ⟨vs, upd_same, rd.ext (.new hn)⟩) (.ref p) (e1.trans (e2.trans (.new hn)))⟩
end Sv
set_option maxHeartbeats 1000000
set_option autoImplicit false
namespace Sv
open PySem PySem.Spec PyProof.Rows L2
theorem En.cv {g : GP} {w : Wk} (E : En g w) : Room g.k (w.A.deeper (envOfC g.qual g.scope (cutS g.L w.s).heap.objs.size g.f g.cdv)) := by rw [cutS_size (Nat.le_of_lt E.lt)]; exact E.room
def rGetL (K : PySem.W.Frag) : V → V → Hp → VK → Prop := fun o i H Q => ∃ (p : Addr) (xs : List V) (k : Nat) (v : V), o = .ref p ∧ i = .int k ∧ SqL K H p xs ∧ xs[k]? = some v ∧ Q v H
section
variable {X : Cx}
theorem pget_list : PGet X (rGetL X.K) := by
  intro pins s σ H o i ov iv Q I ro ri h
  obtain ⟨p, xs, k, v, rfl, rfl, hq, hx, q⟩ := h
  cases ro
  obtain ⟨t, rfl⟩ := ri
  obtain ⟨its, r, pl, hz⟩ := I.list hq
  obtain ⟨w, ew, rw'⟩ := r.get hx
  have hk : k < xs.length := (List.getElem?_eq_some_iff.mp hx).1
  have hn := line63
  exact wpAny_getItem_list pl.isList (Int.natCast_nonneg k) (by omega) (by rw [Int.toNat_natCast]; simpa using ew) ⟨v, H, I, rw', q⟩
/-- o[i] op= e, a list of ints -/
def dAugL (to ti te : DTE) (f : Int → Int → Int) : DTS := fun C env S => to env S fun o S1 => ti env S1 fun i S2 => ∃ (a : Addr) (ds : List D) (k : Nat) (x : Int), o = .ref a ∧ i = .int k ∧ S2 a = some (.lst ds) ∧ ds[k]? = some (.int x) ∧
  te env S2 fun y S3 => ∃ (j : Int) (ds3 : List D), y = .int j ∧ S3 a = some (.lst ds3) ∧ k < ds3.length ∧ C.nx env (S3.put a (.lst (ds3.set k (.int (f x j)))))
theorem ds_augL {o i e : Expr} {to ti te : DTE} {op : Operator} {tpos pos : Pos} {f : Int → Int → Int} (hop : PIp X op (ipI f)) (ho : DE X o to) (hi : DE X i ti) (he : DE X e te)
    (ha : ∀ ov iv new, augStore i ov iv new = (do holding [new, ov, iv] (setItem ov iv new); release [new, ov, iv] []; pure .next) := by intros; rfl) : DS X (.AugAssign (.Subscript o i tpos) op e pos) (dAugL to ti te f) := by
  refine ⟨(ps_augS ho.run hi.run pget_list he.run hop set_list ha).of fun σ H B ⟨env, S, C, rs, h, kk, _⟩ => ⟨env, S, _, rs, h, fun o S1 ov H1 q1 s1 r1 e1 => ⟨env, S1, _, rs.ext e1 s1, q1, fun i S2 iv H2 q2 s2 r2 e2 => ?_⟩⟩⟩
  obtain ⟨a, ds, k, x, rfl, rfl, hs, hx, q⟩ := q2
  cases r1
  cases r2
  obtain ⟨vs, h1, q1⟩ := s2.lst hs
  obtain ⟨v, hv, rv⟩ := q1.at hx
  cases rv
  refine ⟨a, vs, k, .int x, rfl, rfl, .of h1, hv, env, S2, _, rs.ext (e1.trans e2) s2, q, fun y S3 u H3 ⟨j, ds3, hy, hs3, hk, q3⟩ s3 r3 e3 => ?_⟩
  subst hy
  cases r3
  obtain ⟨vs3, h3, q3'⟩ := s3.lst hs3
  have hk' : k < vs3.length := by rw [← q3'.length]; exact hk
  refine ⟨x, j, rfl, rfl, a, vs3, k, k, rfl, rfl, h3, ?_, ?_⟩
  · unfold ixN
    first
      | (rw [if_neg (by omega)]; simp; omega)
      | simp [hk']
      | omega
  · have e4 : Ext H3 (upd H3 a (.lst (vs3.set k (.int (f x j))))) := .put h3 trivial
    exact kk _ _ _ _ q3 (rs.ext (e1.trans (e2.trans (e3.trans e4))) (s3.put h3 trivial ⟨_, upd_same, (q3'.set (.int _) k).ext e4⟩)) (e1.trans (e2.trans (e3.trans e4)))
/-- x or y, where x is None or a tuple that holds something -/
def dOrN (ta tb : DTE) : DTE := fun env S R => ta env S fun x S1 => (x = .non ∧ tb env S1 R) ∨ (∃ d ds, x = .tup (d :: ds) ∧ R x S1)
theorem de_orN {a b : Expr} {rest : List Expr} {pos : Pos} {ta tb : DTE} (ha : DE X a ta) (hb : DE X (.BoolOp .Or (b :: rest) pos) tb) : DE X (.BoolOp .Or (a :: b :: rest) pos) (dOrN ta tb) := by
  refine ⟨(pe_orT ha.run hb.run).of fun σ H Q ⟨env, S, R, rs, h, k⟩ => ⟨env, S, _, rs, h, fun x S1 v H1 q s1 r1 e1 => ?_⟩⟩
  rcases q with ⟨rfl, q⟩ | ⟨d, ds, rfl, q⟩
  · cases r1
    exact ⟨false, by first | trivial | rfl | simp [TruV], env, S1, R, rs.ext e1 s1, q, fun d S2 v H2 q s2 r2 e2 => k _ _ _ _ q s2 r2 (e1.trans e2)⟩
  · have r2 := r1
    cases r1 with
    | tup ht r =>
      cases r with
      | cons r0 rr => exact ⟨true, .inr (.inl ⟨_, ht.sqT, rfl⟩), k _ _ _ _ q s1 r2 e1⟩
def dSet0 : DTE := fun _ S R => ∀ p, S p = none → R (.ref p) (S.put p (.iset []))
theorem de_set0 {x : Str} {p pos : Pos} (hg : Gl X x) (hm : X.mg x = none) (hv : bootBuiltins x = some (.type "set")) (hn : x ≠ "__name__" := by decide) (hdb : (x == ("__debug__" : Str)) = false := by decide) : DE X (.Call (.Name x p) [] [] pos) dSet0 := by
  refine ⟨(pe_callTy0 cr_set0K hg hm hv hn hdb).of fun σ H Q ⟨env, S, R, rs, h, k⟩ => ?_⟩
  refine ⟨rfl, fun p np => ?_⟩
  exact k _ _ _ _ (h p (rs.sto.fresh np)) (rs.sto.lay (o := .iset []) np ⟨fun _ => false, upd_same, fun i => by simp⟩) (.ref p) (.new np)
/-- s.add(i) -/
def dSAdd (to : DTE) (tl : DTA) : DTE := fun env S R => to env S fun x S1 => ∃ (a : Addr) (ns0 : List Int), x = .ref a ∧ S1 a = some (.iset ns0) ∧ tl env S1 fun ds S2 => ∃ (i : Int) (ns : List Int), ds = [.int i] ∧ S2 a = some (.iset ns) ∧ ns.length ≤ 4000 ∧
  R .non (S2.put a (.iset (if i ∈ ns then ns else ns ++ [i])))
theorem de_sadd {o e : Expr} {to : DTE} {tl : DTA} {apos cpos : Pos} (ho : DE X o to) (da : DA X [e] tl)
    (hbase : attributeBase o "add" X.env (eval o X.env) = eval o X.env := by rfl)
    (hfew : ((backTo cpos (starEach [e] X.env)).all (fun x => !x.1) && (backToKw cpos (keywordEach [] X.env)).all (fun x => x.1.isSome)
      && decide (([e] : List Expr).length + ([] : List Keyword).length + (if ([] : List Keyword).isEmpty then 0 else 1) < 30)) = true := by rfl)
    (hline : (apos.endLine == cpos.line) = true := by rfl) (hs : starEach [e] X.env = (false, eval e X.env) :: starEach [] X.env := by rfl) (hplain : (backTo cpos (starEach [] X.env)).any (·.1) = false := by rfl) :
    DE X (.Call (.Attribute o "add" apos) [e] [] cpos) (dSAdd to tl) := by
  refine ⟨(pe_saddK ho.run da.run hbase hfew hline hs hplain).of fun σ H Q ⟨env, S, R, rs, h, k⟩ => ⟨env, S, _, rs, h, fun x S1 v H1 q1 s1 r1 e1 => ?_⟩⟩
  obtain ⟨a, ns0, rfl, h0, q⟩ := q1
  cases r1
  obtain ⟨S0, hS0, _⟩ := s1 a _ h0
  refine ⟨⟨a, S0, _, rfl, hS0⟩, env, S1, _, rs.ext e1 s1, q, fun ds S2 vs H2 q2 s2 r2 e2 => ?_⟩
  · obtain ⟨i, ns, rfl, h2, hl, q⟩ := q2
    obtain ⟨v, rfl, rv⟩ := r2.inv1
    cases rv
    obtain ⟨S2', hS2, hin⟩ := s2 a _ h2
    have e3 : Ext H2 (upd H2 a (SetK X.prog X.w a (fun j => S2' j || decide (j = .inl i)) (if S2' (.inl i) = true then ns.length else ns.length + 1))) := .put hS2 trivial
    refine ⟨a, .inl i, S2', ns.length, rfl, rfl, hS2, Nat.lt_of_le_of_lt (Nat.succ_le_succ hl) (by decide), ?_⟩
    refine k _ _ _ _ q (s2.put hS2 trivial ⟨fun j => S2' j || decide (j = .inl i), ?_, fun j => ?_⟩) .non (e1.trans (e2.trans e3))
    · rw [upd_same]
      congr 2
      by_cases z : i ∈ ns
      · rw [if_pos ((hin i).mpr z), if_pos z]
      · rw [if_neg (fun y => z ((hin i).mp y)), if_neg z, List.length_append]
        rfl
    · have : (S2' (.inl j) || decide ((Sum.inl j : Key) = .inl i)) = true ↔ j ∈ ns ∨ j = i := by
        rw [Bool.or_eq_true, hin j, decide_eq_true_iff]
        constructor
        · rintro (h | h)
          · exact .inl h
          · exact .inr (Sum.inl.inj h)
        · rintro (h | h)
          · exact .inl h
          · exact .inr (by rw [h])
      rw [this]
      by_cases z : i ∈ ns
      · rw [if_pos z]
        constructor
        · rintro (h | h)
          · exact h
          · rw [h]; exact z
        · exact .inl
      · rw [if_neg z, List.mem_append, List.mem_singleton]
/-- i in s -/
def rInS (n : Bool) : DR2 := fun x y S R => ∃ (i : Int) (a : Addr) (ns : List Int), x = .int i ∧ y = .ref a ∧ S a = some (.iset ns) ∧ R (.bl (decide (i ∈ ns) ^^ n)) S
theorem o_inS : OpR X (compareOp .In) (l2 X.kk (rInS false)) := by
  intro pins s σ H x y v u Q I rx ry ⟨d, e, S, R, r1, r2, s1, ⟨i, a, ns, hd, he, hs, q⟩, k⟩
  subst hd he
  cases r1
  cases r2
  obtain ⟨S2, hS, hin⟩ := s1 a _ hs
  refine or_sinK pins s σ H _ _ v u Q I rx ry ⟨.inl i, a, S2, _, rfl, rfl, hS, ?_⟩
  have : S2 (.inl i) = decide (i ∈ ns) := by
    cases e : S2 (.inl i) with
    | true => exact (decide_eq_true ((hin i).mp e)).symm
    | false => exact (decide_eq_false fun z => by rw [(hin i).mpr z] at e; cases e).symm
  rw [this]
  rw [xor_ff] at q
  exact k _ _ _ _ q s1 (.bl _) (.refl H)
end
end Sv
namespace Sv
open PySem L2
/-- event_count: 0 rows 1 row -/
def B_event_count_1213 : DTS := dRet (dCB (rSum1) (dCons (dLc (diVal (dVar 0)) (dgName 1) (dYes) (dCB (rLen) (dCons (dVar 1) (dNil))) [1]) (dNil)))
/-- shape_error: 0 value 1 process 2 row -/
def B_shape_error_72a0 : DTS := dSeq (dIfS (dOr (dNot (dB (dCB rIsi (dCons (dVar 0) (dCons (dC (.ty "tuple")) (dNil)))))) (dNot (dB (dChain (rCmp fun i j => decide (i ≤ j)) (rCmp fun i j => decide (i ≤ j)) (dC (.int 1)) (dCB (rLen) (dCons (dVar 0) (dNil))) (dC (.int 6)))))) (dRet (dTup (dCons (dC (.str "history")) (dNil)))) (dNext))
  (dSeq (dFor (diEnum (dCons (dVar 0) (dNil))) (dUnp 2 (dgCons (dgName 1) (dgCons (dgName 2) (dgNil)))) (dIfS (dNot (dB (dCB rIsi (dCons (dVar 2) (dCons (dC (.ty "tuple")) (dNil)))))) (dRet (dTup (dCons (dC (.str "row")) (dCons (dVar 1) (dNil))))) (dNext)))
  (dSeq (dIfS (dB (dBin (rCmp fun i j => decide (j < i)) (dCall 1 (dFn 2 B_event_count_1213) (dCons (dVar 0) (dNil))) (dC (.int 60)))) (dRet (dTup (dCons (dC (.str "events")) (dNil)))) (dNext))
  (dRet (dC .non))))
/-- placed_events: 0 rows 1 process 2 row 3 place 4 event -/
def B_placed_events_e217 : DTGn := dgSeq (dgFor (diEnT (dCons (dVar 0) (dNil))) (dUnp 2 (dgCons (dgName 1) (dgCons (dgName 2) (dgNil)))) (dgSeq (dgFor (diEnT (dCons (dVar 2) (dNil))) (dUnp 2 (dgCons (dgName 3) (dgCons (dgName 4) (dgNil)))) (dgSeq (dgYield (dTup (dCons (dVar 1) (dCons (dVar 3) (dCons (dVar 4) (dNil))))))
  (dgNext)))
  (dgNext)))
  (dgNext)
/-- event_error: 0 rows 1 process 2 place 3 event -/
def B_event_error_3c54 : DTS := dSeq (dFor (diGen (dGenC (dGfn 1 5 B_placed_events_e217) (dCons (dVar 0) (dNil)))) (dUnp 3 (dgCons (dgName 1) (dgCons (dgName 2) (dgCons (dgName 3) (dgNil))))) (dIfS (dNot (dB (dCall 3 (dFn 3 B_is_number_within_7f04) (dCons (dVar 3) (dCons (dUn rNeg (dC (.int 24))) (dCons (dC (.int 24)) (dNil))))))) (dRet (dTup (dCons (dC (.str "event")) (dCons (dVar 1) (dCons (dVar 2) (dNil)))))) (dNext)))
  (dRet (dC .non))
/-- twice_error: 0 rows 1 seen 2 process 3 place 4 event -/
def B_twice_error_125f : DTS := dSeq (dAsg (dSet0) (dgName 1))
  (dSeq (dFor (diGen (dGenC (dGfn 1 5 B_placed_events_e217) (dCons (dVar 0) (dNil)))) (dUnp 3 (dgCons (dgName 2) (dgCons (dgName 3) (dgCons (dgName 4) (dgNil))))) (dSeq (dIfS (dB (dBin (rInS false) (dVar 4) (dVar 1))) (dRet (dTup (dCons (dC (.str "twice")) (dCons (dVar 2) (dCons (dVar 3) (dNil)))))) (dNext))
  (dIfS (dB (dBin (rEqq true) (dVar 4) (dC (.int 0)))) (dDrop (dSAdd (dVar 1) (dCons (dVar 4) (dNil)))) (dNext))))
  (dRet (dC .non)))
/-- is_sent_by_another: 0 rows 1 process 2 message 3 sender 4 row -/
def B_is_sent_by_another_87f2 : DTS := dRet (dCB (rAnyq fun bs => bs.any id) (dCons (dLc (diEnum (dCons (dVar 0) (dNil))) (dUnp 2 (dgCons (dgName 3) (dgCons (dgName 4) (dgNil)))) (dB (dBin (rEqq true) (dVar 3) (dVar 1))) (dBin (rInq false) (dVar 2) (dVar 4)) [3, 4]) (dNil)))
/-- unsent_error: 0 rows 1 process 2 place 3 event -/
def B_unsent_error_5d57 : DTS := dSeq (dFor (diGen (dGenC (dGfn 1 5 B_placed_events_e217) (dCons (dVar 0) (dNil)))) (dUnp 3 (dgCons (dgName 1) (dgCons (dgName 2) (dgCons (dgName 3) (dgNil))))) (dIfS (dAnd (dB (dBin (rCmp fun i j => decide (i < j)) (dVar 3) (dC (.int 0)))) (dNot (dB (dCall 3 (dFn 5 B_is_sent_by_another_87f2) (dCons (dVar 0) (dCons (dVar 1) (dCons (dUn rNeg (dVar 3)) (dNil)))))))) (dRet (dTup (dCons (dC (.str "unsent")) (dCons (dVar 1) (dCons (dVar 2) (dNil)))))) (dNext)))
  (dRet (dC .non))
/-- ready_process: 0 history 1 places 2 happened 3 process 4 row 5 event -/
def B_ready_process_c75e : DTS := dSeq (dFor (diEnum (dCons (dVar 0) (dNil))) (dUnp 2 (dgCons (dgName 3) (dgCons (dgName 4) (dgNil)))) (dIfS (dB (dBin (rCmp fun i j => decide (i < j)) (dBin rIxq (dVar 1) (dVar 3)) (dCB (rLen) (dCons (dVar 4) (dNil))))) (dSeq (dAsg (dBin rIxq (dVar 4) (dBin rIxq (dVar 1) (dVar 3))) (dgName 5))
  (dIfS (dOr (dB (dBin (rCmp fun i j => decide (j ≤ i)) (dVar 5) (dC (.int 0)))) (dB (dDin false (dUn rNeg (dVar 5)) (dVar 2)))) (dRet (dVar 3)) (dNext))) (dNext)))
  (dRet (dC .non))
/-- some_order: 0 history 1 places 2 happened 3 process 4 event -/
def B_some_order_66e8 : DTGn := dgSeq (dgPlain (dAsg (dBin rMul (dLst (dCons (dC (.int 0)) (dNil))) (dCB (rLen) (dCons (dVar 0) (dNil)))) (dgName 1)))
  (dgSeq (dgPlain (dAsg (dDNew) (dgName 2)))
  (dgSeq (dgPlain (dAsg (dCall 3 (dFn 6 B_ready_process_c75e) (dCons (dVar 0) (dCons (dVar 1) (dCons (dVar 2) (dNil))))) (dgName 3)))
  (dgSeq (dgWhile (dB (dNotN (dVar 3))) (dgSeq (dgPlain (dAsg (dBin rIxq (dBin rIxq (dVar 0) (dVar 3)) (dBin rIxq (dVar 1) (dVar 3))) (dgName 4)))
  (dgSeq (dgPlain (dAugL (dVar 1) (dVar 3) (dC (.int 1)) (fun i j => i + j)))
  (dgSeq (dgPlain (dDPut (dVar 2) (dVar 4) (dC (.bl true))))
  (dgSeq (dgYield (dTup (dCons (dVar 3) (dCons (dVar 4) (dNil)))))
  (dgSeq (dgPlain (dAsg (dCall 3 (dFn 6 B_ready_process_c75e) (dCons (dVar 0) (dCons (dVar 1) (dCons (dVar 2) (dNil))))) (dgName 3)))
  (dgNext)))))))
  (dgNext))))
/-- circle_error: 0 rows -/
def B_circle_error_0309 : DTS := dSeq (dIfS (dB (dBin (rCmp fun i j => decide (i < j)) (dCB (rLen) (dCons (dListK (dGenC (dGfn 1 5 B_some_order_66e8) (dCons (dVar 0) (dNil)))) (dNil))) (dCall 1 (dFn 2 B_event_count_1213) (dCons (dVar 0) (dNil))))) (dRet (dTup (dCons (dC (.str "circle")) (dNil)))) (dNext))
  (dRet (dC .non))
/-- history_error: 0 value -/
def B_history_error_d6f4 : DTS := dRet (dOrN (dCall 1 (dFn 3 B_shape_error_72a0) (dCons (dVar 0) (dNil))) (dOrN (dCall 1 (dFn 4 B_event_error_3c54) (dCons (dVar 0) (dNil))) (dOrN (dCall 1 (dFn 5 B_twice_error_125f) (dCons (dVar 0) (dNil))) (dOrN (dCall 1 (dFn 4 B_unsent_error_5d57) (dCons (dVar 0) (dNil))) (dCall 1 (dFn 1 B_circle_error_0309) (dCons (dVar 0) (dNil)))))))
/-- is_history: 0 value -/
def B_is_history_be67 : DTS := dRet (dIsN (dCall 1 (dFn 1 B_history_error_d6f4) (dCons (dVar 0) (dNil))))
end Sv
set_option maxHeartbeats 800000
set_option autoImplicit false
set_option autoImplicit false
set_option autoImplicit false
set_option maxHeartbeats 4000000
namespace Sv
open PySem PySem.Spec PyProof.Rows L2
theorem tuple_mulW0 (l : Addr) (items : Array Value) (n : Nat) (dd : Option Addr) (sl : Array (Option Value)) (u : Tok) (c1 : (items.isEmpty || (0 : Int) == 1) = false) :
    Meets (Builtin.«tuple.__mul__» ⟨[.ref l, .int 0 u], []⟩) (fun _ R s => s.heap.get? l = some { cls := .type "tuple", dict := dd, data := .seq items n, slots := sl } ∧ R (.ok (.ret (Value.ref s.heap.objs.size))) { s with heap := s.heap.push { cls := Value.type "tuple", data := Data.seq #[] }, toks := s.toks }) :=
  .of_wp fun prog w A R s h => by
    obtain ⟨hp, g, d, tk, os⟩ := s
    obtain ⟨hl, h⟩ := h
    have f1 := AutoSeq1.idx_int
    wp_walk using wpAny_loadPart' hl
    repeat (first
      | (refine wpAny_ite_false (decide_eq_false (by rw [c1]; exact Bool.false_ne_true)) ?_; wp_walk using wpAny_loadPart' hl)
      | (refine wpAny_ite_false (decide_eq_false (by decide)) ?_; wp_walk using wpAny_loadPart' hl)
      | (refine wpAny_ite_true (decide_eq_true (by rfl)) ?_; wp_walk using wpAny_loadPart' hl))
    exact ⟨_, rfl, h⟩
section
variable {X : Cx}
def rRep0 (K : PySem.W.Frag) : R2 := fun x y H Q => ∃ l xs, x = .ref l ∧ y = .int 0 ∧ SqT K H l xs ∧ xs ≠ [] ∧ ∀ (p : Addr) (o : Obj), H p = none → o.dict = none → Q (.ref p) (upd H p (.frz o (.tup [])))
theorem op_rep0 : OpR X (binaryOp .Mult) (rRep0 X.K) := by
  intro pins s σ H x y v u Q I rx ry h
  obtain ⟨l, xs, rfl, rfl, hT, hne, q⟩ := h
  cases rx
  obtain ⟨t, rfl⟩ := ry
  obtain ⟨its, r, ⟨⟨cls, dd, data, sl⟩, ho, hc, n, hd⟩, hs⟩ := I.tuple hT
  simp only at hc hd
  subst hc hd
  have e1 : its.length = xs.length := r.length.symm
  have ne : its.toArray.isEmpty = false := by
    cases its with
    | nil => exact absurd (List.eq_nil_of_length_eq_zero e1.symm) hne
    | cons a b => rfl
  refine wpAny_binaryOp_repeat_ref (T := "tuple") (U := "int") (by decide) ⟨_, ho, rfl⟩ (fun s' => typeIs_int s' 0 t) noFill_tuple_mul F.fills_int_mul F.slot_int_rmul repeat_tuple F.slot_int_index.lookup
    (call_meets F.slot_int_rmul (typeIs_int s 0 t) F.entry_int_rmul (F.args_int_rmul_2 _ _) (int_rmul_tuple 0 t l its.toArray n dd sl)
      ⟨ho, rfl, ⟨_, ho, rfl⟩, call_meets F.slot_tuple_mul ⟨_, ho, rfl⟩ F.entry_tuple_mul (F.args_tuple_mul_2 _ _)
        (tuple_mulW0 l its.toArray n dd sl t (by rw [ne, Bool.false_or]; rfl)) ⟨ho, ?_⟩⟩)
  have hg := Heap.get?_push_size s.heap (o := { cls := .type "tuple", data := .seq #[] }) rfl
  refine ⟨.ref s.heap.objs.size, _, I.laid (t' := s.toks) (o := .frz { cls := .type "tuple", data := .seq #[] } (.tup [])) (fun b ob q => Heap.get?_push_of_some _ q) (Nat.le_refl _) ?_, rfl, q _ _ (I.hok.fresh (Nat.le_refl _)) rfl⟩
  exact ⟨hg, Nat.zero_le _, [], .nil, ⟨_, hg, rfl, _, rfl⟩⟩
/-- a tuple times n -/
def rMulZ : DR2 := fun x y S R => match x, y with
  | .tup xs, .int k => xs ≠ [] ∧ 0 ≤ k ∧ k ≤ 1000 ∧ xs.length ≤ 1000 ∧ R (.tup (List.replicate k.toNat xs).flatten) S
  | _, _ => False
theorem o_mulZ : OpR X (binaryOp .Mult) (l2 X.kk rMulZ) := by
  intro pins s σ H x y v u Q I rx ry ⟨d, e, S, R, r1, r2, s1, h, k⟩
  cases r1 with
  | tup t q =>
    cases r2 with
    | int j =>
      obtain ⟨hne, h1, h2, hz, qq⟩ := h
      by_cases hj : j = 0
      · subst hj
        have hl := q.length
        exact op_rep0 pins s σ H _ _ v u Q I rx ry ⟨_, _, rfl, rfl, t.sqT, fun z => hne (List.eq_nil_of_length_eq_zero (by rw [hl, z]; rfl)), fun p o np ho => k _ _ _ _ qq (s1.new np) (.tup (.new ho) .nil) (.new np)⟩
      · exact o_mul pins s σ H _ _ v u Q I rx ry ⟨.tup _, .int j, S, R, .tup t q, .int j, s1, ⟨hne, by omega, h2, hz, qq⟩, k⟩
    | _ => exact h.elim
  | _ => exact h.elim
end
end Sv
set_option maxHeartbeats 1000000
set_option autoImplicit false
set_option maxHeartbeats 800000
set_option autoImplicit false
set_option maxHeartbeats 1000000
set_option autoImplicit false
set_option maxHeartbeats 1000000
set_option autoImplicit false
set_option maxHeartbeats 1000000
set_option autoImplicit false
set_option maxHeartbeats 1000000
set_option autoImplicit false
namespace Sv
open PySem PySem.Spec PyProof.Rows L2 HT
section
variable {P : Program} {w : World} {K : PySem.W.Frag} {mg : Str → Option Value} {base : Heap}
/-- a def that is not called: where the calls of a def by itself end -/
def dStop : DTS := fun _ _ _ => False
theorem fn_stop {x : Str} {st : Stmt} {f : Addr} {fd : FuncData} {N ps : List Str} {k n : Nat} (F : Fun K x x st f fd) (Sc : FnScope N ps (defScope st)) (hn : ps.length = n) : FnOk P w K mg base CX0 (k + 1) f fd ps (lP ⟨P, w, K⟩ n (dFn N.length dStop)) :=
by
  refine F.ok Sc (fun vs H Q E h => by rw [hn]; exact h.1) fun cdv A outer s H vs Q E hr h => ?_
  obtain ⟨_, ds, S, R, r, s1, q, k⟩ := h
  exact q.elim
end
end Sv
set_option autoImplicit false
namespace Sv
open PySem PySem.Spec PyProof.Rows L2
def PEA (X : Cx) (b0 : List Stmt) (e : Expr) (t : TE) : Prop := ∀ (pins : List (Addr × Obj)) (s : Shared) (σ : L2.St) (H : Hp) (Q : VK), Inv X pins σ H s → t σ H Q → _root_.PySem.wpAt (model X.prog X.w) X.A (.func b0 X.env) (eval e X.env) (EP X pins σ Q) X.xe s
def PSA (X : Cx) (b0 : List Stmt) (st : Stmt) (t : TS) : Prop := ∀ (pins : List (Addr × Obj)) (s : Shared) (σ : L2.St) (H : Hp) (D : Ends), Inv X pins σ H s → t D σ H → _root_.PySem.wpAt (model X.prog X.w) X.A (.func b0 X.env) (exec st X.env) (SP X pins D) X.xe s
def PSsA (X : Cx) (b0 : List Stmt) (st : List Stmt) (t : TS) : Prop := ∀ (pins : List (Addr × Obj)) (s : Shared) (σ : L2.St) (H : Hp) (D : Ends), Inv X pins σ H s → t D σ H → _root_.PySem.wpAt (model X.prog X.w) X.A (.func b0 X.env) (execs st X.env) (SP X pins D) X.xe s
section
variable {X : Cx} {b0 : List Stmt} {st : Stmt} {rest : List Stmt} {t u : TS} {e : Expr} {te : TE} {pos : Pos}
theorem psa_of (h : PS X st t) : PSA X b0 st t := fun pins s σ H D I q => wpAt_of_wpAny (h.run pins s σ H D I q)
theorem pssa_of (h : PSs X rest t) : PSsA X b0 rest t := fun pins s σ H D I q => wpAt_of_wpAny (h.run pins s σ H D I q)
theorem pssa_cons (h1 : PSA X b0 st t) (h2 : PSsA X b0 rest u) : PSsA X b0 (st :: rest) (tSeq t u) := by
  intro pins s σ H D I h
  refine ks_wpAt_execs_cons (ks_wpAt_mono (h1 pins s σ H { D with nx := u D } I h) (fun f s1 q => ?_) fun _ _ x => x)
  cases f with
  | next =>
    obtain ⟨σ', H', I', q⟩ := q
    exact h2 pins s1 σ' H' D I' q
  | ret v => exact q
  | brk => exact q
  | cont => exact q
theorem psa_expr (he : PEA X b0 e te) (hs : swapsWith e none pos.line X.env = pure false := by rfl) : PSA X b0 (.Expr e pos) (tDrop te) := by
  intro pins s σ H D I h
  exact ks_wpAt_Expr_any (ks_wpAt_mono (he pins s σ H _ I h) (fun v s1 ⟨x, H1, I1, r1, q1⟩ => ⟨σ, H1, I1, q1⟩) fun _ _ x => x) I.quiet hs
theorem psa_ret (he : PEA X b0 e te) : PSA X b0 (.Return (some e) pos) (tRet te) := by
  intro pins s σ H D I h
  exact ks_wpAt_Return_some (ks_wpAt_mono (he pins s σ H _ I h) (fun v s1 ⟨x, H1, I1, r1, q1⟩ => ⟨x, σ, H1, I1, r1, q1⟩) fun _ _ x => x)
theorem psa_set {i : Nat} {x : Str} {pos' : Pos} (hN : X.N.Nodup) (hi : X.N[i]? = some x) (hx : Loc X.env.scope x) (he : PEA X b0 e te) (hs : swapsWith e (some (.Name x pos')) pos.line X.env = pure false := by rfl) (hf : X.fn x = true ∨ X.env.scope.names.lookup x = some .local := by first | exact .inl rfl | exact .inr rfl | assumption) :
    PSA X b0 (.Assign [.Name x pos'] e pos) (tAsg te (gName i)) := by
  intro pins s σ H D I h
  refine ks_wpAt_Assign_Name (ks_wpAt_mono (he pins s σ H _ I h) (fun v s1 ⟨y, H1, I1, r1, q1⟩ => ?_) fun _ _ x => x) hs
  exact store_ok I1 hN hi hx r1 (fun s2 I2 => ⟨_, H1, I2, q1⟩) hf
end
/-- what the text says of the def that runs: its class D, its cell, its code -/
structure SupT (X : Cx) (D : Addr) (sf : Str) : Prop where
  gl : Gl X "super"
  no : X.mg "super" = none
  kc : X.env.kindOf "__class__" = some .free
  cell : ∃ (cc : Addr) (cl : Value) (cld : Option Addr) (csl : Array (Option Value)), X.env.cells.lookup ("__class__" : Str) = some cc ∧ X.K.lookup cc = some ⟨cl, cld, .cell (some (.ref D)), csl⟩
  fn : ∃ (f : Addr) (oc : Value) (od : Option Addr) (fd : FuncData) (osl : Array (Option Value)) (ar : Arg), X.env.func = some f ∧ X.K.lookup f = some ⟨oc, od, .func fd, osl⟩ ∧ (fd.params.posonlyargs ++ fd.params.args).head? = some ar ∧ ar.arg = sf
  code : ∃ (cda : Addr) (ccl : Value) (cdd : Option Addr) (vs : Array Value) (ccs : Array (Option Value)) (file : Str) (tf : Tok), X.env.code = .ref cda ∧ X.K.lookup cda = some ⟨ccl, cdd, .fields vs, ccs⟩ ∧ vs[2]? = some (.str file tf) ∧ ((X.prog.main.file : Str) == file) = true
  top : (X.prog.main.scope.names.lookup ("super" : Str)).isSome = false
  cls : (PySem.W.clsIn X.K D).isSome = true
  at0 : X.N[0]? = some sf
  vis : X.env.scope.names.lookup sf = some .local
/-- what it says of an object's class C, for the name m: the def at f2 -/
structure SupM (K : PySem.W.Frag) (D C : Addr) (m : Str) (f2 : Addr) : Prop where
  sub : PySem.W.mroIn K C (.ref D) = some true
  sup : PySem.W.ks_superIn K C D m = some (some (.ref f2))
  ty : PySem.W.typeIn K (.ref f2) = some (.type "function")
  op : PySem.W.nsIn K cStatics "thirdparty.any" = some none
  fi : PySem.W.fnIn K f2 = true
  nm : (m == ("__class__" : Str)) = false
def tSup (C : Addr) (sp : Sp) (E : XK) (t : TA) : TE := fun σ H Q => ∃ a dx fs, σ[0]? = some (some (.ref a)) ∧ H a = some (.ins C dx fs) ∧ t σ H fun vs H2 => sp (.ref a :: vs) H2 Q E
section
variable {X : Cx} {b0 : List Stmt} {D C f2 : Addr} {sf m : Str} {k : Nat} {sp : Sp} {E : XK} {e : Expr} {es : List Expr} {p0 p1 apos pos : Pos} {t : TA}
theorem ne_cls {h : Heap} {K : PySem.W.Frag} {x C : Addr} {ox : Obj} {odx : Option Obj} (X : K.In h) (I : PySem.W.InstAt h x ox C odx) (hc : (PySem.W.clsIn K C).isSome = true) : x ≠ C := by
  obtain ⟨cd, hcd⟩ := Option.isSome_iff_exists.mp hc
  exact PySem.W.ks_ne X I hcd
theorem pea_super (T : SupT X D sf) (M : SupM X.K D C m f2) (F : FnR X.prog X.w X.K X.mg X.base CX0 k f2 sp) (hr : Room k X.A) (ha : PA X (e :: es) t)
    (hst : starEach (e :: es) X.env = (false, eval e X.env) :: starEach es X.env := by rfl) (hpl : (backTo pos (starEach es X.env)).any (·.1) = false := by rfl)
    (hkw : (backToKw pos (keywordEach [] X.env)) = [] := by rfl)
    {pl : Sem Bool} (he : eval (.Call (.Attribute (.Call (.Name "super" p0) [] [] p1) m apos) (e :: es) [] pos) X.env = (do
      let ov ← attributeBase (.Call (.Name "super" p0) [] [] p1) m X.env (eval (.Call (.Name "super" p0) [] [] p1) X.env)
      standAt apos.atName
      let (f, first) ← holding [ov] (getMethod ov m pl)
      callWith pos f first (backTo pos (starEach (e :: es) X.env)) []) := by rfl) :
    PEA X b0 (.Call (.Attribute (.Call (.Name "super" p0) [] [] p1) m apos) (e :: es) [] pos) (tSup C sp (fun _ _ _ => False) t) := by
  intro pins s σ H Q I ⟨a, dx, fs, h0, ea, h⟩
  obtain ⟨mA, O, _⟩ := ins_get I.hok ea
  obtain ⟨od, J, _⟩ := O.look
  obtain ⟨cc, cl, cld, csl, hcl, hcell⟩ := T.cell
  obtain ⟨f, oc, od', fd, osl, ar, hfu, hf, hp, har⟩ := T.fn
  obtain ⟨cda, ccl, cdd, vs, ccs, file, tf, hco, hcode, hvs, hfile⟩ := T.code
  obtain ⟨cdD, hcD⟩ := Option.isSome_iff_exists.mp T.cls
  have hC : (PySem.W.clsIn X.K C).isSome = true := by
    have z := M.sub
    unfold PySem.W.mroIn at z
    cases e : PySem.W.clsIn X.K C with
    | none => rw [e] at z; cases z
    | some c => rfl
  have ne : a ≠ C := ne_cls I.kIn J hC
  obtain ⟨oD, hD1, hD2⟩ : ∃ oD, s.heap.get? D = some oD ∧ oD.data = .cls cdD := by
    unfold PySem.W.clsIn at hcD
    split at hcD
    · rename_i c d cd' sl ho
      cases hcD
      exact ⟨_, I.kIn _ _ ho, rfl⟩
    · cases hcD
  refine ks_wpAt_MethodCall (pl := pl) (ks_wpAt_super_base T.gl T.kc M.nm hfu (I.kIn _ _ hf) rfl hp hco (I.kIn _ _ hcode) rfl hvs hfile T.top ?_) he
  obtain ⟨mb, h1, h2⟩ := I.mod.blt
  refine PySem.W.ks_loadName_global I.ok.kind T.gl (Calls.loadGlobal_builtin (by rw [I.ok.glob]; exact I.mod.glob.keeps I.bk) T.no (by rw [I.ok.blt]; exact h1.keeps I.bk) ((h2 "super" (by decide)).trans (by first | boot_by_name | rfl | kernel_rfl)) ⟨rfl, ?_⟩)
  refine wpAny_loadName_free I.ok.kind T.kc hcl ⟨_, I.kIn _ _ hcell, rfl⟩ ?_
  rw [har]
  obtain ⟨ml, hn, hl⟩ := I.loc
  obtain ⟨u, ru, lu⟩ := hl 0 sf (.ref a) T.at0 h0 (.inl T.vis)
  obtain rfl : u = Value.ref a := ru
  have hm : ml sf = some (.ref a) := by
    rcases lu with ⟨_, z⟩ | ⟨z, _⟩
    · exact z
    · have v : X.env.kindOf sf = some .local := T.vis
      rw [v] at z
      rcases z with z | z <;> cases z
  refine wpAny_loadName_local I.ok.kind T.vis hn hm ?_
  refine ks_wpAny_isType_cls hD1 hD2 ⟨rfl, ?_⟩
  refine ks_wpAny_call_super hD1 hD2 J.at_ J.cls (fun c e => ?_) (PySem.W.looks_mroIn I.kIn M.sub) (fun h' e k => ?_)
  · have := J.no
    unfold PySem.W.notCls at this
    rw [e] at this
    exact Bool.noConfusion this
  have I1 : Inv X pins σ H { s with heap := h', toks := s.toks } := I.kept k
  obtain ⟨cd, hcC⟩ := Option.isSome_iff_exists.mp hC
  have hsup := M.sup
  unfold PySem.W.ks_superIn at hsup
  rw [hcC] at hsup
  obtain ⟨of, hof, hofc⟩ : ∃ of, h'.get? f2 = some of ∧ of.cls = .type "function" := by
    have ht' : (X.K.lookup f2).map (·.cls) = some (.type "function") := M.ty
    cases z : X.K.lookup f2 with
    | none => rw [z] at ht'; cases ht'
    | some of => rw [z] at ht'; exact ⟨of, I1.kIn _ _ z, Option.some.inj ht'⟩
  obtain ⟨hh, g, d, tk, os⟩ := s
  refine ks_wpAny_getMethod_super e (PySem.W.looks_opaque I1.kIn M.op) (l₀ := cd.mro) ?_ rfl I1.kIn hsup hof hofc ne M.nm ?_
  · exact fun A Q E s k q => wpAny_bind ((PySem.W.looks_clsIn I1.kIn hcC) A _ E s k (wpAny_pure q))
  have I2 : Inv X ((h'.objs.size, PySem.W.methodObj (.ref f2) (.ref a)) :: pins) σ H ⟨h'.push (PySem.W.methodObj (.ref f2) (.ref a)), g, d, tk + 1, os⟩ :=
    ClX.pin_new I1 (fun _ _ z => Heap.get?_push_of_some _ z) (Nat.le_refl _) (Heap.get?_push_size h' rfl) (fun v z => nomatch z)
  refine ClX.callwith_cm I2 (ClX.base_none I1 (Nat.le_refl _)) M.fi (thn (ha.run pos _ _ σ H _ I2 h) fun us s3 ⟨vs, H2, I3, rv, q2⟩ => ⟨⟨ClX.pin_at I3, I3.kIn⟩, ?_⟩) hst hpl
  exact ClX.run_cm F hr (fun _ _ _ _ _ _ _ z => nomatch z) I3 rv q2
end
structure FunS (P : Program) (K : PySem.W.Frag) (mg : Str → Option Value) (x qual : Str) (st : Stmt) (f : Addr) (fd : FuncData) (D cda cc : Addr) : Prop where
  ex : ∃ (oc : Value) (od : Option Addr) (kV doc pm : Value) (an : Option Addr) (ct : Value) (osl : Array (Option Value)),
    fd = PySem.W.ksFn x qual (defArgs st) (defBody st) (defScope st) .none kV doc pm an (.ref cda) ct cc ∧ K.lookup f = some ⟨oc, od, .func fd, osl⟩ ∧ PySem.W.codeIn K (.ref cda) qual = true
  cell : ∃ (cl : Value) (cld : Option Addr) (csl : Array (Option Value)), K.lookup cc = some ⟨cl, cld, .cell (some (.ref D)), csl⟩
  code : ∃ (ccl : Value) (cdd : Option Addr) (vs : Array Value) (ccs : Array (Option Value)) (file : Str) (tf : Tok), K.lookup cda = some ⟨ccl, cdd, .fields vs, ccs⟩ ∧ vs[2]? = some (.str file tf) ∧ ((P.main.file : Str) == file) = true
  top : (P.main.scope.names.lookup ("super" : Str)).isSome = false
  no : mg "super" = none
  cls : (PySem.W.clsIn K D).isSome = true
abbrev nfS (x qual : Str) (st : Stmt) (cda cc : Addr) : NdefX.NF := ⟨x, qual, defArgs st, defBody st, defScope st, [("__class__", cc)], cda⟩
theorem cells_cls {K : PySem.W.Frag} {P : Program} {w : World} {mg : Str → Option Value} {base : Heap} {A : Around} {outer : List PySem.Env} {s : Shared} {H : Hp} {cc : Addr} {cl : Value} {cld : Option Addr} {csl : Array (Option Value)} {v : Value}
    (e0 : Env0 P w K mg base A outer s H) (h : K.lookup cc = some ⟨cl, cld, .cell (some v), csl⟩) : NdefX.CellsAt [(("__class__" : Str), cc)] ["__class__"] [none] s.heap H := by
  obtain ⟨b1, b2⟩ := e0.bs cc _ (e0.mod.kin _ _ h)
  have one : ∀ (y : Str) (c : Addr), List.lookup y [(("__class__" : Str), cc)] = some c → y = "__class__" ∧ c = cc := fun y c e => by
    rw [List.lookup_cons] at e
    cases z : y == ("__class__" : Str) with
    | true => rw [z] at e; cases e; exact ⟨beq_iff_eq.mp z, rfl⟩
    | false => rw [z] at e; cases e
  refine ⟨rfl, fun y c e => ?_, fun x y c e1 e2 => (one x c e1).1.trans (one y c e2).1.symm, fun i y e => ?_⟩
  · obtain ⟨_, rfl⟩ := one y c e
    exact ⟨b2, _, _, b1, rfl⟩
  · cases i with
    | zero =>
      cases e
      exact ⟨cc, rfl, fun v e => by cases e⟩
    | succ i => simp at e
theorem start_eq {N ps : List Str} {sc : Scope} {vs : List V} (S : NdefX.NScope N ps ["__class__"] sc) (hl : vs.length = ps.length) : NdefX.startF N vs [none] = L2.start N vs := by
  have hpl : ps.length + 1 ≤ N.length := by
    have q := congrArg List.length S.pre
    rw [List.length_take, List.length_append] at q
    simp at q
    omega
  unfold NdefX.startF L2.start
  congr 1
  obtain ⟨n, e⟩ : ∃ n, N.length - vs.length = n + 1 := ⟨N.length - vs.length - 1, by omega⟩
  rw [e]
  rfl
def DSsA (X : Cx) (b0 : List Stmt) (sts : List Stmt) (t : DTS) : Prop := PSsA X b0 sts (lS X.kk t)
def DSA (X : Cx) (b0 : List Stmt) (st : Stmt) (t : DTS) : Prop := PSA X b0 st (lS X.kk t)
def DEA (X : Cx) (b0 : List Stmt) (e : Expr) (t : DTE) : Prop := PEA X b0 e (lE X.kk t)
theorem _root_.Sv.PSsA.nox {X : Cx} {b0 sts : List Stmt} {t : TS} (h : PSsA X.nox b0 sts t) : PSsA X b0 sts t := fun pins s σ H D I hw =>
  ks_wpAt_mono (h pins s σ H D (I.wish _) hw) (fun f s' hq => by
    cases f with
    | next => obtain ⟨σ', H', I', q⟩ := hq; exact ⟨σ', H', I'.wish _, q⟩
    | brk => obtain ⟨σ', H', I', q⟩ := hq; exact ⟨σ', H', I'.wish _, q⟩
    | cont => obtain ⟨σ', H', I', q⟩ := hq; exact ⟨σ', H', I'.wish _, q⟩
    | ret u => obtain ⟨v, σ', H', I', r, q⟩ := hq; exact ⟨v, σ', H', I'.wish _, r, q⟩) fun _ _ z => z.elim
section
variable {P : Program} {w : World} {K : PySem.W.Frag} {mg : Str → Option Value} {base : Heap}
theorem fn_oS {x qual : Str} {st : Stmt} {f : Addr} {fd : FuncData} {N ps : List Str} {k n : Nat} {B : DTS} {D cda cc : Addr} (F : FunS P K mg x qual st f fd D cda cc) (S : NdefX.NScope N ps ["__class__"] (defScope st)) (hn : ps.length = n)
    (hbody : ∀ (A : Around) (outer : List PySem.Env) (s : Shared) (H : Hp) (E : XK), Room k (A.deeper (NdefX.envF (nfS x qual st cda cc) f s.heap.objs.size)) →
      DSsA (NdefX.ncx CX0 P w K mg base N (nfS x qual st cda cc) f A outer s H E).nox (defBody st) (defBody st) B) : FnOk P w K mg base CX0 (k + 1) f fd ps (lP ⟨P, w, K⟩ n (dFn N.length B)) := by
  obtain ⟨oc, od, kV, doc, pm, an, ct, osl, rfl, lk, hcd⟩ := F.ex
  obtain ⟨cl, cld, csl, hcell⟩ := F.cell
  refine ⟨fun vs H Q E h => by rw [hn]; exact h.1, fun A outer s H args us vs Q E hr e0 hb r hsp => ?_⟩
  have hl : vs.length = ps.length := by rw [hn]; exact hsp.1
  have KX : K.In s.heap := e0.mod.kin.keeps fun b o e => (e0.bs b o e).1
  have lim : s.heap.NoLimit := e0.mod.nolimit.keeps fun b o e => (e0.bs b o e).1
  refine ks_codeAny_call_defAt hr.depth (KX _ _ lk) rfl lim (PySem.W.codeRec_of KX hcd) rfl hb S.nocell (fun ⟨m, _⟩ hy => S.par m (List.of_mem_zip hy).1) (fun h₀ hns kp => ?_) S.co S.gen S.kind
  have I : Inv (NdefX.ncx CX0 P w K mg base N (nfS x qual st cda cc) f A outer s H E) [] (NdefX.startF N vs [none]) H { s with heap := h₀, toks := s.toks + (ps.zip us).length } := NdefX.inv_startN S hr.hd e0 hl r (cells_cls e0 hcell) hns kp
  rw [start_eq S hl] at I
  obtain ⟨_, ds, S0, R, rd, s1, q, kk⟩ := hsp
  have hq := (hbody A outer s H E (hr.deeper _)).nox [] _ (L2.start N vs) H { nx := fun _ H' => Q .non H', rt := Q } I
    ⟨_, S0, _, rs_start rd s1, q, fun env' S' σ' H' q' r' e' => kk _ _ _ _ q' r'.sto .non e', fun d S' v H' q' s' r' e' => kk _ _ _ _ q' s' r' e', fun _ _ _ _ q' => q'.elim, fun _ _ _ _ q' => q'.elim⟩
  refine ks_wpAt_mono hq (fun fl s' hs => ?_) fun e s' hs => hs
  have fin : ∀ {σ' : L2.St} {H' : Hp} {v : V} {u : Value}, Inv (NdefX.ncx CX0 P w K mg base N (nfS x qual st cda cc) f A outer s H E) [] σ' H' s' → L2.RelV v u → Q v H' → CE outer P w H s Q u s' :=
    fun {σ' H' v u} J rv q => ⟨v, H', J.os, J.bare, J.base, J.hok, rv, q⟩
  cases fl with
  | ret u =>
    obtain ⟨v, σ', H', J, rv, q⟩ := hs
    exact fin J rv q
  | next =>
    obtain ⟨σ', H', J, q⟩ := hs
    exact fin (v := V.non) (u := Value.none) J rfl q
  | brk =>
    obtain ⟨_, _, _, q⟩ := hs
    exact False.elim q
  | cont =>
    obtain ⟨_, _, _, q⟩ := hs
    exact False.elim q
end
section
variable {X : Cx} {b0 : List Stmt} {st : Stmt} {rest : List Stmt} {t u : DTS} {e : Expr} {te : DTE} {pos : Pos}
theorem _root_.Sv.PEA.of {e : Expr} {t t' : TE} (h : PEA X b0 e t) (q : ∀ σ H Q, t' σ H Q → t σ H Q) : PEA X b0 e t' := fun pins s σ H Q I w => h pins s σ H Q I (q σ H Q w)
theorem _root_.Sv.PSA.of {e : Stmt} {t t' : TS} (h : PSA X b0 e t) (q : ∀ σ H Q, t' Q σ H → t Q σ H) : PSA X b0 e t' := fun pins s σ H Q I w => h pins s σ H Q I (q σ H Q w)
theorem _root_.Sv.PSsA.of {e : List Stmt} {t t' : TS} (h : PSsA X b0 e t) (q : ∀ σ H Q, t' Q σ H → t Q σ H) : PSsA X b0 e t' := fun pins s σ H Q I w => h pins s σ H Q I (q σ H Q w)
theorem dssA_of (h : DSs X rest t) : DSsA X b0 rest t := pssa_of h.run
theorem dsA_of (h : DS X st t) : DSA X b0 st t := psa_of h.run
theorem dssA_cons (h1 : DSA X b0 st t) (h2 : DSsA X b0 rest u) : DSsA X b0 (st :: rest) (dSeq t u) := PSsA.of (pssa_cons h1 h2) fun _ _ _ => lS_seq
theorem dssA_nil : DSsA X b0 [] dNext := dssA_of dss_nil
theorem dsA_expr (he : DEA X b0 e te) (hs : swapsWith e none pos.line X.env = pure false := by rfl) : DSA X b0 (.Expr e pos) (dDrop te) :=
  PSA.of (psa_expr he hs) fun σ H B ⟨env, S, C, rs, h, k, _⟩ => ⟨env, S, _, rs, h, fun d S1 v H1 q s1 r1 e1 => k _ _ _ _ q (rs.ext e1 s1) e1⟩
theorem dsA_ret (he : DEA X b0 e te) : DSA X b0 (.Return (some e) pos) (dRet te) :=
  PSA.of (psa_ret he) fun σ H B ⟨env, S, C, rs, h, _, k, _⟩ => ⟨env, S, _, rs, h, fun d S1 v H1 q s1 r1 e1 => k _ _ _ _ q s1 r1 e1⟩
theorem dsA_set {i : Nat} {x : Str} {pos' : Pos} (hN : X.N.Nodup) (hi : X.N[i]? = some x) (hx : Loc X.env.scope x) (he : DEA X b0 e te) (hs : swapsWith e (some (.Name x pos')) pos.line X.env = pure false := by rfl) (hf : X.fn x = true ∨ X.env.scope.names.lookup x = some .local := by first | exact .inl rfl | exact .inr rfl | assumption) :
    DSA X b0 (.Assign [.Name x pos'] e pos) (dAsg te (dgName i)) :=
  PSA.of (psa_set hN hi hx he hs hf) fun σ H B ⟨env, S, C, rs, h, k, _⟩ => ⟨env, S, _, rs, h, fun d S1 v H1 q s1 r1 e1 => k _ _ _ _ q ((rs.ext e1 s1).set i r1) e1⟩
/-- super().m(e, ..): the object's class is one of ns -/
def dSup (n : Nat) (ns : List Str) (r : DRC) (t : DTA) : DTE := fun env S R => ∃ a cn fs, env[0]? = some (some (.ref a)) ∧ S a = some (.ins cn fs) ∧ cn ∈ ns ∧ t env S fun ds S1 => decide (ds.length + 1 = n) = true ∧ r (.ref a :: ds) S1 R
structure DSup (P : Program) (w : World) (K : PySem.W.Frag) (mg : Str → Option Value) (base : Heap) (k : Nat) (D : Addr) (cn m : Str) (n : Nat) (r : DRC) : Prop where
  ex : ∃ C f2, ClsAt K cn C ∧ SupM K D C m f2 ∧ FnR P w K mg base CX0 k f2 (lP ⟨P, w, K⟩ n r)
/-- tables by classes -/
inductive AllP {α : Type} (p : α → Prop) : List α → Prop
  | nil : AllP p []
  | cons {x : α} {l : List α} : p x → AllP p l → AllP p (x :: l)
theorem AllP.mem {α : Type} {p : α → Prop} : ∀ {l : List α} {x : α}, AllP p l → x ∈ l → p x
  | _, _, .nil, h => by cases h
  | _, _, .cons h t, m => by
    cases m with
    | head => exact h
    | tail _ m => exact AllP.mem t m
theorem DSup.mono {P : Program} {w : World} {K : PySem.W.Frag} {mg : Str → Option Value} {base : Heap} {j k n : Nat} {D : Addr} {cn m : Str} {r : DRC} (d : DSup P w K mg base j D cn m n r) (h : j ≤ k) : DSup P w K mg base k D cn m n r := by
  obtain ⟨C, f, h1, h2, h4⟩ := d.ex
  exact ⟨C, f, h1, h2, h4.mono h⟩
theorem supT_of {P : Program} {w : World} {K : PySem.W.Frag} {mg : Str → Option Value} {base : Heap} {N : List Str} {x qual : Str} {st : Stmt} {f : Addr} {fd : FuncData} {D cda cc : Addr} {A : Around} {outer : List PySem.Env} {s : Shared} {H : Hp} {E : XK} (F : FunS P K mg x qual st f fd D cda cc)
    (gl : (defScope st).names.lookup ("super" : Str) = some .globalImplicit) (kc : (defScope st).names.lookup ("__class__" : Str) = some .free) (hp : ((defArgs st).posonlyargs ++ (defArgs st).args).head?.map (·.arg) = some ("self" : Str)) (at0 : N[0]? = some ("self" : Str)) (vis : (defScope st).names.lookup ("self" : Str) = some .local) :
    SupT (NdefX.ncx CX0 P w K mg base N (nfS x qual st cda cc) f A outer s H E).nox D "self" := by
  obtain ⟨oc, od, kV, doc, pm, an, ct, osl, rfl, lk, hcd⟩ := F.ex
  obtain ⟨cl, cld, csl, hcell⟩ := F.cell
  obtain ⟨ccl, cdd, vs, ccs, file, tf, h1, h2, h3⟩ := F.code
  obtain ⟨ar, ha, hb⟩ := Option.map_eq_some_iff.mp hp
  exact ⟨gl, F.no, kc, ⟨cc, cl, cld, csl, rfl, hcell⟩, ⟨f, oc, od, _, osl, ar, rfl, lk, ha, hb⟩, ⟨cda, ccl, cdd, vs, ccs, file, tf, rfl, h1, h2, h3⟩, F.top, F.cls, at0, vis⟩
theorem deA_super {D : Addr} {sf m : Str} {k n : Nat} {ns : List Str} {r : DRC} {es : List Expr} {p0 p1 apos : Pos} {tl : DTA} (T : SupT X D sf) (M : AllP (fun cn => DSup X.prog X.w X.K X.mg X.base k D cn m n r) ns) (hr : Room k X.A) (ha : DA X (e :: es) tl)
    (hst : starEach (e :: es) X.env = (false, eval e X.env) :: starEach es X.env := by rfl) (hpl : (backTo pos (starEach es X.env)).any (·.1) = false := by rfl)
    (hkw : (backToKw pos (keywordEach [] X.env)) = [] := by rfl)
    {pl : Sem Bool} (he : eval (.Call (.Attribute (.Call (.Name "super" p0) [] [] p1) m apos) (e :: es) [] pos) X.env = (do
      let ov ← attributeBase (.Call (.Name "super" p0) [] [] p1) m X.env (eval (.Call (.Name "super" p0) [] [] p1) X.env)
      standAt apos.atName
      let (f, first) ← holding [ov] (getMethod ov m pl)
      callWith pos f first (backTo pos (starEach (e :: es) X.env)) []) := by rfl) :
    DEA X b0 (.Call (.Attribute (.Call (.Name "super" p0) [] [] p1) m apos) (e :: es) [] pos) (dSup n ns r tl) := by
  intro pins s σ H Q I h
  obtain ⟨env, S, R, rs, ⟨a, cn, fs, h0, hs, hm, h⟩, k'⟩ := h
  obtain ⟨C, f2, hC, hM, F⟩ := (M.mem hm).ex
  obtain ⟨v, hv, rv⟩ := rs.slot 0 _ h0
  cases rv
  obtain ⟨C', dx, gs, hC', ea, rf⟩ := rs.sto a _ hs
  obtain rfl := hC.eq hC'
  refine pea_super T hM F hr ha.run hst hpl hkw he pins s σ H Q I ⟨a, dx, gs, hv, ea, env, S, _, rs, h, fun ds S1 vs H1 ⟨hl, q⟩ s1 r1 e1 => ?_⟩
  refine ⟨by rw [List.length_cons, ← r1.length]; exact of_decide_eq_true hl, .ref a :: ds, S1, R, .cons (.ref a) r1, s1, q, fun z S2 w H2 q2 s2 r2 e2 => k' _ _ _ _ q2 s2 r2 (e1.trans e2)⟩
end
end Sv
set_option autoImplicit false
namespace Sv
open PySem PySem.Spec PyProof.Rows L2
section facts
variable (P : Program) (w : World) (K : PySem.W.Frag) (mg : Str → Option Value) (base : Heap)
/-- the field f of the class cn -/
structure ClsF (cn f : Str) : Prop where
  ex : ∃ C, ClsAt K cn C ∧ Cls K C ∧ NoAttr K C f
/-- the method m of the class cn, n values with the object -/
structure DMet (k : Nat) (cn m : Str) (n : Nat) (r : DRC) : Prop where
  ex : ∃ C f, ClsAt K cn C ∧ Cls K C ∧ Meth K C m f ∧ FnR P w K mg base CX0 k f (lP ⟨P, w, K⟩ n r)
/-- the class cn can be made -/
structure DMk (k : Nat) (cn : Str) (n : Nat) (r : DRC) : Prop where
  ex : ∃ C f, ClsAt K cn C ∧ Mk K C f ∧ mg cn = some (.ref C) ∧ FnR P w K mg base CX0 k f (lP ⟨P, w, K⟩ n r)
/-- a property -/
structure DPr (k : Nat) (cn f : Str) (r : DRC) : Prop where
  ex : ∃ C p g fd ps, ClsAt K cn C ∧ Cls K C ∧ PropOf K C f p g ∧ FnOk P w K mg base CX0 k g fd ps (lP ⟨P, w, K⟩ 1 r) ∧ Binds K fd ps []
/-- a class's constant, a text -/
structure DCv (cn f x : Str) : Prop where
  ex : ∃ C mc u, mg cn = some (.ref C) ∧ ClX.CRead K C mc ∧ ClX.CVal K C mc f (.str x) u
/-- .. read through an instance -/
structure DCi (cn f x : Str) : Prop where
  ex : ∃ C u, ClsAt K cn C ∧ Cls K C ∧ Con K C f (.str x) u
structure IsOk (C : Addr) : Prop where
  ha : PySem.W.findIn K (.ref C) "__class__" = some (some (.builtin "object.__class__"))
  hn : PySem.W.specialIn K (.builtin "object.__class__") "__get__" = some (some (.builtin "getset_descriptor.__get__"))
  htk : PySem.W.takesIn K (.builtin "object.__class__") = some true
  hm : PySem.W.mroIn K C (.type "object") = some true
/-- whether an instance of cn is one of dn -/
structure DIs (cn dn : Str) (b : Bool) : Prop where
  ex : ∃ C Dd, ClsAt K cn C ∧ Cls K C ∧ IsOk K C ∧ mg dn = some (.ref Dd) ∧ PySem.W.kitOne K (.ref C) (.ref Dd) = some b
end facts
theorem DMet.mono {P : Program} {w : World} {K : PySem.W.Frag} {mg : Str → Option Value} {base : Heap} {j k n : Nat} {cn m : Str} {r : DRC} (d : DMet P w K mg base j cn m n r) (h : j ≤ k) : DMet P w K mg base k cn m n r := by
  obtain ⟨C, f, h1, h2, h3, h4⟩ := d.ex
  exact ⟨C, f, h1, h2, h3, h4.mono h⟩
theorem DPr.mono {P : Program} {w : World} {K : PySem.W.Frag} {mg : Str → Option Value} {base : Heap} {j k : Nat} {cn m : Str} {r : DRC} (d : DPr P w K mg base j cn m r) (h : j ≤ k) : DPr P w K mg base k cn m r := by
  obtain ⟨C, p, g, fd, ps, h1, h2, h3, h4, h5⟩ := d.ex
  exact ⟨C, p, g, fd, ps, h1, h2, h3, h4.mono h, h5⟩
theorem fnr_of {P : Program} {w : World} {K : PySem.W.Frag} {mg : Str → Option Value} {base : Heap} {k n : Nat} {f : Addr} {fd : FuncData} {ps : List Str} {r : DRC} (F : FnOk P w K mg base CX0 k f fd ps (lP ⟨P, w, K⟩ n r)) (hb : Binds K fd ps []) : FnR P w K mg base CX0 k f (lP ⟨P, w, K⟩ n r) :=
  (F.raw hb .nil).imp fun vs H Q E h => by rw [List.append_nil]; exact h
section
variable {X : Cx} {o e value : Expr} {es : List Expr} {to te tv : DTE} {tl : DTA} {f m : Str} {pos pos' apos tpos : Pos} {k n : Nat}
theorem st_ins {K : KK} {H : Hp} {S : Sto} (s : RelS K S H) {a : Addr} {cn : Str} {fs : List (Str × D)} (h : S a = some (.ins cn fs)) {C : Addr} (hC : ClsAt K.k cn C) :
    ∃ dx gs, H a = some (.ins C dx gs) ∧ RDf K H fs gs := by
  obtain ⟨C', dx, gs, hC', ea, rf⟩ := s a _ h
  obtain rfl := hC.eq hC'
  exact ⟨dx, gs, ea, rf⟩
/-- e.f, a field -/
def dFld (ns : List Str) (f : Str) (to : DTE) : DTE := fun env S R => to env S fun d S1 => ∃ a cn fs v, d = .ref a ∧ S1 a = some (.ins cn fs) ∧ cn ∈ ns ∧ fs.lookup f = some v ∧ R v S1
theorem de_fld {ns : List Str} (hF : AllP (fun cn => ClsF X.K cn f) ns) (ho : DE X o to) (hb : attributeBase o f X.env (eval o X.env) = eval o X.env := by rfl) : DE X (.Attribute o f pos) (dFld ns f to) := by
  refine ⟨(pe_fld ho.run hb).of fun σ H Q ⟨env, S, R, rs, h, k⟩ => ⟨env, S, _, rs, h, fun d S1 v H1 ⟨a, cn, fs, u, ed, hs, hm, hl, q⟩ s1 r1 e1 => ?_⟩⟩
  subst ed
  cases r1
  obtain ⟨C, hC, c, na⟩ := (hF.mem hm).ex
  obtain ⟨dx, gs, ea, rf⟩ := st_ins s1 hs hC
  obtain ⟨v, hv, rv⟩ := rf.look hl
  exact ⟨a, C, dx, gs, v, rfl, ea, c, na, hv, k _ _ _ _ q s1 rv e1⟩
/-- o.f = value -/
def dFSet (ns : List Str) (f : Str) (to tv : DTE) : DTS := fun C env S => tv env S fun v S1 => to env S1 fun d S2 => ∃ a cn fs, d = .ref a ∧ S2 a = some (.ins cn fs) ∧ cn ∈ ns ∧ decide (fs.length < 900) = true ∧ C.nx env (S2.put a (.ins cn (putFD f v fs)))
theorem ro_ins {K : KK} {H : Hp} {a C dx : Addr} {cn : Str} {fs : List (Str × D)} {gs : List (Str × V)} (hC : ClsAt K.k cn C) (ea : H a = some (.ins C dx gs)) (rf : RDf K H fs gs) : RO K H a (.ins cn fs) := ⟨C, dx, gs, hC, ea, rf⟩
theorem ds_fset {ns : List Str} (hF : AllP (fun cn => ClsF X.K cn f) ns) (ho : DE X o to) (hv : DE X value tv) (hs : swapsWith value (some (.Attribute o f pos')) pos.line X.env = pure false := by rfl) : DS X (.Assign [.Attribute o f pos'] value pos) (dFSet ns f to tv) := by
  refine ⟨(ps_fld ho.run hv.run hs).of fun σ H B ⟨env, S, C, rs, h, k, _⟩ => ⟨env, S, _, rs, h, fun v S1 y H1 q1 s1 r1 e1 => ⟨env, S1, _, rs.ext e1 s1, q1, fun d S2 x H2 ⟨a, cn, fs, ed, hs, hm, hl, q⟩ s2 r2 e2 => ?_⟩⟩⟩
  subst ed
  cases r2
  obtain ⟨C0, hC, c, na⟩ := (hF.mem hm).ex
  obtain ⟨dx, gs, ea, rf⟩ := st_ins s2 hs hC
  refine ⟨a, C0, dx, gs, rfl, ea, c, na, by rw [← rf.length]; have := of_decide_eq_true hl; omega, ?_⟩
  have ex : Ext H2 (upd H2 a (.ins C0 dx (putF f y gs))) := .put ea trivial
  have s3 : RelS X.kk (S2.put a (.ins cn (putFD f v fs))) (upd H2 a (.ins C0 dx (putF f y gs))) := s2.put ea trivial (ro_ins hC upd_same (((RDf.put (r1.ext e2) rf)).ext ex))
  exact k _ _ _ _ q ((rs.ext (e1.trans e2) s2).ext ex s3) (e1.trans (e2.trans ex))
/-- o.f += value, o.f -= value -/
def dFAug (ns : List Str) (f : Str) (to tv : DTE) (g : Int → Int → Int) : DTS := fun C env S => to env S fun d S1 => ∃ a cn fs i, d = .ref a ∧ S1 a = some (.ins cn fs) ∧ cn ∈ ns ∧ fs.lookup f = some (.int i) ∧
  tv env S1 fun y S2 => ∃ j fs', y = .int j ∧ S2 a = some (.ins cn fs') ∧ decide (fs'.length < 900) = true ∧ C.nx env (S2.put a (.ins cn (putFD f (.int (g i j)) fs')))
theorem ds_faug {ns : List Str} {op : Operator} {g : Int → Int → Int} {rd : V → V → Hp → VK → Prop} (hop : InOp X op rd) (hg : ∀ i j H Q, Q (.int (g i j)) H → rd (.int i) (.int j) H Q) (hF : AllP (fun cn => ClsF X.K cn f) ns) (ho : DE X o to) (hv : DE X value tv) :
    DS X (.AugAssign (.Attribute o f tpos) op value pos) (dFAug ns f to tv g) := by
  refine ⟨(ps_fldaug ho.run hv.run hop).of fun σ H B ⟨env, S, C, rs, h, k, _⟩ => ⟨env, S, _, rs, h, fun d S1 x H1 ⟨a, cn, fs, i, ed, hs, hm, hl, q⟩ s1 r1 e1 => ?_⟩⟩
  subst ed
  cases r1
  obtain ⟨C0, hC, c, na⟩ := (hF.mem hm).ex
  obtain ⟨dx, gs, ea, rf⟩ := st_ins s1 hs hC
  obtain ⟨v, hv, rv⟩ := rf.look hl
  cases rv
  refine ⟨a, C0, dx, gs, _, rfl, ea, c, na, hv, env, S1, _, rs.ext e1 s1, q, fun y S2 z H2 ⟨j, fs', ey, hs2, hl2, q2⟩ s2 r2 e2 => ?_⟩
  subst ey
  cases r2
  obtain ⟨dx', gs', ea', rf'⟩ := st_ins s2 hs2 hC
  refine hg i j _ _ ⟨dx', gs', ea', by rw [← rf'.length]; have := of_decide_eq_true hl2; omega, ?_⟩
  have ex : Ext H2 (upd H2 a (.ins C0 dx' (putF f (.int (g i j)) gs'))) := .put ea' trivial
  have s3 : RelS X.kk (S2.put a (.ins cn (putFD f (.int (g i j)) fs'))) (upd H2 a (.ins C0 dx' (putF f (.int (g i j)) gs'))) := s2.put ea' trivial (ro_ins hC upd_same (((RDf.put (.int _) rf')).ext ex))
  exact k _ _ _ _ q2 ((rs.ext (e1.trans e2) s2).ext ex s3) (e1.trans (e2.trans ex))
theorem ds_fadd {ns : List Str} (hF : AllP (fun cn => ClsF X.K cn f) ns) (ho : DE X o to) (hv : DE X value tv) : DS X (.AugAssign (.Attribute o f tpos) .Add value pos) (dFAug ns f to tv fun i j => i + j) :=
  ds_faug in_add (fun i j H Q q => ⟨i, j, rfl, rfl, q⟩) hF ho hv
/-- o.m(e, ..): by the object's class -/
def dMeth (ms : List (Str × DRC)) (m : Str) (n : Nat) (to : DTE) (t : DTA) : DTE := fun env S R => ∃ cn r, (cn, r) ∈ ms ∧ to env S fun d S1 => ∃ a fs, d = .ref a ∧ S1 a = some (.ins cn fs) ∧ fs.lookup m = none ∧ t env S1 fun ds S2 => decide (ds.length + 1 = n) = true ∧ r (.ref a :: ds) S2 R
theorem de_meth {ms : List (Str × DRC)} (hF : AllP (fun p => DMet X.prog X.w X.K X.mg X.base k p.1 m n p.2) ms) (hr : Room k X.A) (ho : DE X o to) (ha : DA X (e :: es) tl)
    (hst : starEach (e :: es) X.env = (false, eval e X.env) :: starEach es X.env := by rfl) (hpl : (backTo pos (starEach es X.env)).any (·.1) = false := by rfl)
    {pl : Sem Bool} (ht : eval (.Call (.Attribute o m apos) (e :: es) [] pos) X.env = (do
      let ov ← eval o X.env
      standAt apos.atName
      let (f, first) ← holding [ov] (getMethod ov m pl)
      callWith pos f first (backTo pos (starEach (e :: es) X.env)) (backToKw pos (keywordEach [] X.env))) := by rfl) :
    DE X (.Call (.Attribute o m apos) (e :: es) [] pos) (dMeth ms m n to tl) := by
  refine ⟨⟨fun pins s σ H Q I ⟨env, S, R, rs, ⟨cn, r, hm, h⟩, kk⟩ => ?_⟩⟩
  obtain ⟨C, f, hC, c, hme, F⟩ := (hF.mem hm).ex
  refine (pe_methR (pl := pl) (E := fun _ _ _ => False) ho.run c hme F hr (fun _ _ _ _ _ _ _ z => nomatch z) ha.run hst hpl ht).run pins s σ H Q I ⟨env, S, _, rs, h, fun d S1 v H1 ⟨a, fs, ed, hs, hl, q⟩ s1 r1 e1 => ?_⟩
  subst ed
  cases r1
  obtain ⟨dx, gs, ea, rf⟩ := st_ins s1 hs hC
  refine ⟨a, dx, gs, rfl, ea, rf.none hl, env, S1, _, rs.ext e1 s1, q, fun ds S2 vs H2 ⟨hz, q2⟩ s2 r2 e2 => ?_⟩
  exact ⟨by rw [List.length_cons, ← r2.length]; exact of_decide_eq_true hz, .ref a :: ds, S2, R, .cons (.ref a) r2, s2, q2, fun z S3 u H3 q3 s3 r3 e3 => kk _ _ _ _ q3 s3 r3 (e1.trans (e2.trans e3))⟩
/-- C(e, ..) -/
def dMake (cn : Str) (n : Nat) (r : DRC) (t : DTA) : DTE := fun env S R => t env S fun ds S1 => decide (ds.length + 1 = n) = true ∧ ∀ p, S1 p = none → r (.ref p :: ds) (S1.put p (.ins cn [])) fun d S2 => d = .non ∧ R (.ref p) S2
theorem de_make {r : DRC} {cn : Str} {p : Pos} (F : DMk X.prog X.w X.K X.mg X.base k cn n r) (hr : Room (k + 1) X.A) (hg : Gl X cn) (ha : DA X (e :: es) tl) (hdb : (cn == ("__debug__" : Str)) = false := by decide)
    (he : starEach (e :: es) X.env = (false, eval e X.env) :: starEach es X.env := by rfl) (hpl : (backTo pos (starEach es X.env)).any (·.1) = false := by rfl) : DE X (.Call (.Name cn p) (e :: es) [] pos) (dMake cn n r tl) := by
  obtain ⟨C, f, hC, M, hm, Fn⟩ := F.ex
  refine ⟨(StX.pe_makeR (E := fun _ _ _ => False) M Fn hr hg hm (fun _ _ _ _ _ _ _ z => nomatch z) ha.run hdb he hpl).of fun σ H Q ⟨env, S, R, rs, h, kk⟩ => ⟨env, S, _, rs, h, fun ds S1 vs H1 ⟨hz, q⟩ s1 r1 e1 => ?_⟩⟩
  intro x dx nx ndx hne
  have ex1 : Ext H1 (upd H1 dx (.own x)) := .new ndx
  have nx' : upd H1 dx (.own x) x = none := by rw [upd_ne (Ne.symm hne)]; exact nx
  have ex2 : Ext (upd H1 dx (.own x)) (upd (upd H1 dx (.own x)) x (.ins C dx [])) := .new nx'
  have s2 : RelS X.kk (S1.put x (.ins cn [])) (upd (upd H1 dx (.own x)) x (.ins C dx [])) := (s1.new ndx).lay nx' (ro_ins hC upd_same trivial)
  refine ⟨by rw [List.length_cons, ← r1.length]; exact of_decide_eq_true hz, .ref x :: ds, _, _, .cons (.ref x) (r1.ext (ex1.trans ex2)), s2, q x (s1.fresh nx), fun z S3 u H3 ⟨ez, q3⟩ s3 r3 e3 => ?_⟩
  subst ez
  cases r3
  exact ⟨rfl, kk _ _ _ _ q3 s3 (.ref x) (e1.trans (ex1.trans (ex2.trans e3)))⟩
/-- o.f, a property -/
def dProp (ms : List (Str × DRC)) (to : DTE) : DTE := fun env S R => ∃ cn r, (cn, r) ∈ ms ∧ to env S fun d S1 => ∃ a fs, d = .ref a ∧ S1 a = some (.ins cn fs) ∧ r [.ref a] S1 R
theorem de_prop {ms : List (Str × DRC)} (hF : AllP (fun p => DPr X.prog X.w X.K X.mg X.base k p.1 f p.2) ms) (hr : Room (k + 1) X.A) (ho : DE X o to) (hab : attributeBase o f X.env (eval o X.env) = eval o X.env := by rfl) : DE X (.Attribute o f pos) (dProp ms to) := by
  refine ⟨⟨fun pins s σ H Q I ⟨env, S, R, rs, ⟨cn, r, hm, h⟩, kk⟩ => ?_⟩⟩
  obtain ⟨C, p, g, fd, ps, hC, c, hp, F, hb⟩ := (hF.mem hm).ex
  refine (pe_prop (E := fun _ _ _ => False) ho.run c hp F hr hb .nil (fun _ _ _ _ _ _ _ z => nomatch z) hab).run pins s σ H Q I ⟨env, S, _, rs, h, fun d S1 v H1 ⟨a, fs, ed, hs, q⟩ s1 r1 e1 => ?_⟩
  subst ed
  cases r1
  obtain ⟨dx, gs, ea, rf⟩ := st_ins s1 hs hC
  exact ⟨a, dx, gs, rfl, ea, rfl, [.ref a], S1, R, .cons (.ref a) .nil, s1, q, fun z S3 u H3 q3 s3 r3 e3 => kk _ _ _ _ q3 s3 r3 (e1.trans e3)⟩
end
def clsB (s : Stmt) : List Stmt := match s with
  | .ClassDef _ _ _ b _ _ _ _ _ _ _ => b
  | _ => []
section
variable {P : Program} {w : World} {K : PySem.W.Frag} {mg : Str → Option Value} {base : Heap} {k n : Nat} {cn dn m f x : Str} {C Dd fa p : Addr} {fd : FuncData} {ps : List Str} {r : DRC}
theorem DMet.of (hC : PySem.W.nsIn K mainGlobals cn = some (some (.ref C))) (c : Cls K C) (ha : PySem.W.findIn K (.ref C) m = some (some (.ref fa))) (hf : PySem.W.isFn K (.ref fa) = true) (hk : PySem.W.keepIn K (.ref fa) = true)
    (F : FnOk P w K mg base CX0 k fa fd ps (lP ⟨P, w, K⟩ n r)) (hb : Binds K fd ps []) : DMet P w K mg base k cn m n r := ⟨C, fa, hC, c, ⟨ha, hf, hk⟩, fnr_of F hb⟩
theorem DMk.of (hC : PySem.W.nsIn K mainGlobals cn = some (some (.ref C))) (hm : mg cn = some (.ref C)) (ha : PySem.W.makesIn K C = true) (hi : PySem.W.findIn K (.ref C) "__init__" = some (some (.ref fa))) (hf : PySem.W.isFn K (.ref fa) = true) (hk : PySem.W.keepIn K (.ref C) = true)
    (F : FnOk P w K mg base CX0 k fa fd ps (lP ⟨P, w, K⟩ n r)) (hb : Binds K fd ps []) : DMk P w K mg base k cn n r := ⟨C, fa, hC, ⟨ha, hi, hf, hk⟩, hm, fnr_of F hb⟩
theorem DPr.of {rest : List Value} (hC : PySem.W.nsIn K mainGlobals cn = some (some (.ref C))) (c : Cls K C) (ha : PySem.W.findIn K (.ref C) f = some (some (.ref p))) (hg : PySem.W.specialIn K (.ref p) "__get__" = some (some (.builtin "property.__get__"))) (ht : PySem.W.takesIn K (.ref p) = some true)
    (hr : PySem.W.recIn K p "property" = some (.ref fa :: rest)) (F : FnOk P w K mg base CX0 k fa fd ps (lP ⟨P, w, K⟩ 1 r)) (hb : Binds K fd ps []) : DPr P w K mg base k cn f r := ⟨C, p, fa, fd, ps, hC, c, ⟨ha, hg, ht, rest, hr⟩, F, hb⟩
theorem ClsF.of (hC : PySem.W.nsIn K mainGlobals cn = some (some (.ref C))) (c : Cls K C) (h : PySem.W.findIn K (.ref C) f = some none) : ClsF K cn f := ⟨C, hC, c, h⟩
theorem DCv.of {mc : Value} {t : Tok} (hm : mg cn = some (.ref C)) (h1 : PySem.W.readsIn K C mc = true) (h2 : PySem.W.specialIn K (.ref C) "__getattribute__" = some (some (.builtin "type.__getattribute__"))) (h3 : PySem.W.findCls K (.ref C) mc f = some (.val (.str x t))) : DCv K mg cn f x :=
  ⟨C, mc, _, hm, ⟨h1, h2⟩, ⟨h3, t, rfl⟩⟩
theorem DCi.of {t : Tok} (hC : PySem.W.nsIn K mainGlobals cn = some (some (.ref C))) (c : Cls K C) (h1 : PySem.W.findIn K (.ref C) f = some (some (.str x t))) (h2 : PySem.W.specialIn K (.str x t) "__get__" = some none) (h3 : PySem.W.copiedNames.contains f = false) : DCi K cn f x :=
  ⟨C, _, hC, c, ⟨h1, ⟨t, rfl⟩, h2, h3⟩⟩
theorem DIs.of {b : Bool} (hC : PySem.W.nsIn K mainGlobals cn = some (some (.ref C))) (c : Cls K C) (h : IsOk K C) (hm : mg dn = some (.ref Dd)) (hk : PySem.W.kitOne K (.ref C) (.ref Dd) = some b) : DIs K mg cn dn b := ⟨C, Dd, hC, c, h, hm, hk⟩
theorem DSup.of {D : Addr} (hC : PySem.W.nsIn K mainGlobals cn = some (some (.ref C))) (h1 : PySem.W.mroIn K C (.ref D) = some true) (h2 : PySem.W.ks_superIn K C D m = some (some (.ref fa))) (h3 : PySem.W.typeIn K (.ref fa) = some (.type "function")) (h4 : PySem.W.nsIn K cStatics "thirdparty.any" = some none) (h5 : PySem.W.fnIn K fa = true) (h6 : (m == ("__class__" : Str)) = false)
    (F : FnOk P w K mg base CX0 k fa fd ps (lP ⟨P, w, K⟩ n r)) (hb : Binds K fd ps []) : DSup P w K mg base k D cn m n r := ⟨C, fa, hC, ⟨h1, h2, h3, h4, h5, h6⟩, fnr_of F hb⟩
theorem clsSome {D : Addr} (c : Cls K D) : (PySem.W.clsIn K D).isSome = true := by
  obtain ⟨cd, hc, _⟩ := PySem.W.any_some c.hd
  rw [hc]
  rfl
theorem funS_mk {x qual : Str} {st : Stmt} {f D cda cc : Addr} {oc kV doc pm ct cl ccl : Value} {od an cld cdd : Option Addr} {osl csl ccs : Array (Option Value)} {vs : Array Value} {file : Str} {tf : Tok}
    (l : K.lookup f = some ⟨oc, od, .func (PySem.W.ksFn x qual (defArgs st) (defBody st) (defScope st) .none kV doc pm an (.ref cda) ct cc), osl⟩) (c : PySem.W.codeIn K (.ref cda) qual = true) (h1 : K.lookup cc = some ⟨cl, cld, .cell (some (.ref D)), csl⟩)
    (h2 : K.lookup cda = some ⟨ccl, cdd, .fields vs, ccs⟩) (h3 : vs[2]? = some (.str file tf)) (h4 : ((P.main.file : Str) == file) = true) (h5 : (P.main.scope.names.lookup ("super" : Str)).isSome = false) (h6 : mg "super" = none) (h7 : Cls K D) :
    FunS P K mg x qual st f (PySem.W.ksFn x qual (defArgs st) (defBody st) (defScope st) .none kV doc pm an (.ref cda) ct cc) D cda cc :=
  ⟨⟨oc, od, kV, doc, pm, an, ct, osl, rfl, l, c⟩, ⟨cl, cld, csl, h1⟩, ⟨ccl, cdd, vs, ccs, file, tf, h2, h3, h4⟩, h5, h6, clsSome h7⟩
/-- a method without super -/
theorem fn_oq {x q : Str} {st : Stmt} {f : Addr} {fd : FuncData} {N ps : List Str} {k n : Nat} {B : DTS} (F : Fun K x q st f fd) (Sc : FnScope N ps (defScope st)) (hn : ps.length = n)
    (hbody : ∀ (cdv : Value) (A : Around) (outer : List PySem.Env) (s : Shared) (H : Hp) (E : XK), Room k (A.deeper (envOfC q (defScope st) s.heap.objs.size f cdv)) →
      DSs (cxOf CX0 P w K mg base N q (defScope st) f cdv A outer s H E).nox (defBody st) B) : FnOk P w K mg base CX0 (k + 1) f fd ps (lP ⟨P, w, K⟩ n (dFn N.length B)) := by
  refine F.ok Sc (fun vs H Q E h => by rw [hn]; exact h.1) fun cdv A outer s H vs Q E hr h => ⟨_, (hbody cdv A outer s H E hr).run, ?_⟩
  obtain ⟨_, ds, S, R, r, s1, q, k⟩ := h
  exact ⟨_, S, _, rs_start r s1, q, fun env' S' σ' H' q' r' e' => k _ _ _ _ q' r'.sto .non e', fun d S' v H' q' s' r' e' => k _ _ _ _ q' s' r' e', fun _ _ _ _ q' => q'.elim, fun _ _ _ _ q' => q'.elim⟩
end
end Sv
namespace Sv
open PySem L2
/-- _law_draw: 0 _law_deck_here 1 _law_many 2 _law_cell 3 _law_place 4 _law_mixed -/
def B_law_draw_ebff : DTS := dSeq (dAsg (dBin rAdd (dBin rIxq (dVar 0) (dC (.int 1))) (dC (.int 1))) (dSub (dVar 0) (dC (.int 1))))
  (dSeq (dAsg (dC (.int 0)) (dgName 2))
  (dSeq (dIfS (dB (dBin (rCmp fun i j => decide (j < i)) (dCB (rLen) (dCons (dBin rIxq (dVar 0) (dC (.int 0))) (dNil))) (dC (.int 0)))) (dSeq (dAsg (dBin rMod (dBin rIxq (dVar 0) (dC (.int 1))) (dCB (rLen) (dCons (dBin rIxq (dVar 0) (dC (.int 0))) (dNil)))) (dgName 3))
  (dSeq (dAsg (dBin rIxq (dBin rIxq (dVar 0) (dC (.int 0))) (dVar 3)) (dgName 2))
  (dIfS (dB (dBin (rCmp fun i j => decide (j ≤ i)) (dVar 2) (dBin rPow (dC (.int 10)) (dC (.int 18))))) (dSeq (dAsg (dBin rDiv (dVar 2) (dVar 1)) (dSub (dBin rIxq (dVar 0) (dC (.int 0))) (dVar 3)))
  (dRet (dBin rMod (dVar 2) (dVar 1)))) (dNext)))) (dNext))
  (dSeq (dAsg (dBin rMod (dBin rPow (dBin rAdd (dBin rAdd (dBin rMod (dVar 2) (dC (.int 2147483563))) (dBin rMul (dC (.int 15485863)) (dBin rIxq (dVar 0) (dC (.int 1))))) (dC (.int 5))) (dC (.int 5))) (dC (.int 2147483647))) (dgName 4))
  (dRet (dBin rMod (dBin rDiv (dVar 4) (dC (.int 32))) (dVar 1))))))
/-- Rule__save: 0 self 1 process -/
def B_Rule__save_1a8c : DTS := dNext
/-- SaveAfterSend__save: 0 self 1 process -/
def B_SaveAfterSend__save_1876 : DTS := dAsg (dC (.bl false)) (dSub (dFld ["SaveAfterSend", "SaveAlways"] "busy" (dVar 0)) (dVar 1))
/-- SaveAlways__save: 0 self 1 process 2 __class__ -/
def B_SaveAlways__save_ec49 : DTS := dSeq (dDrop (dSup 2 ["SaveAlways"] (dFn 2 B_SaveAfterSend__save_1876) (dCons (dVar 1) (dNil))))
  (dNext)
/-- Rounds__save: 0 self 1 process -/
def B_Rounds__save_512a : DTS := dAugL (dFld ["Rounds"] "numbers" (dVar 0)) (dVar 1) (dC (.int 1)) (fun i j => i + j)
/-- Rule__send: 0 self 1 process -/
def B_Rule__send_4f02 : DTS := dRet (dC .non)
/-- SaveAfterSend__send: 0 self 1 process -/
def B_SaveAfterSend__send_b8d5 : DTS := dSeq (dAsg (dC (.bl true)) (dSub (dFld ["SaveAfterSend", "SaveAlways"] "busy" (dVar 0)) (dVar 1)))
  (dRet (dC .non))
/-- SaveAlways__send: 0 self 1 process 2 __class__ -/
def B_SaveAlways__send_496d : DTS := dSeq (dRet (dSup 2 ["SaveAlways"] (dFn 2 B_SaveAfterSend__send_b8d5) (dCons (dVar 1) (dNil))))
  (dNext)
/-- Rounds__send: 0 self 1 process -/
def B_Rounds__send_2628 : DTS := dRet (dBin rIxq (dFld ["Rounds"] "numbers" (dVar 0)) (dVar 1))
/-- Rule__receive: 0 self 1 process 2 note -/
def B_Rule__receive_a200 : DTS := dRet (dC (.bl false))
/-- SaveAfterSend__receive: 0 self 1 process 2 note 3 must_save -/
def B_SaveAfterSend__receive_3625 : DTS := dSeq (dAsg (dBin rIxq (dFld ["SaveAfterSend", "SaveAlways"] "busy" (dVar 0)) (dVar 1)) (dgName 3))
  (dSeq (dIfS (dB (dVar 3)) (dSeq (dFAug ["SaveAfterSend", "SaveAlways"] "wanted" (dVar 0) (dC (.int 1)) fun i j => i + j)
  (dAsg (dC (.bl false)) (dSub (dFld ["SaveAfterSend", "SaveAlways"] "busy" (dVar 0)) (dVar 1)))) (dNext))
  (dRet (dVar 3)))
/-- SaveAlways__receive: 0 self 1 process 2 note 3 __class__ 4 must_save -/
def B_SaveAlways__receive_2317 : DTS := dSeq (dAsg (dSup 3 ["SaveAlways"] (dFn 4 B_SaveAfterSend__receive_3625) (dCons (dVar 1) (dCons (dVar 2) (dNil)))) (dgName 4))
  (dSeq (dAsg (dC (.bl true)) (dSub (dFld ["SaveAlways"] "busy" (dVar 0)) (dVar 1)))
  (dSeq (dRet (dVar 4))
  (dNext)))
/-- Rounds__receive: 0 self 1 process 2 note 3 must_save -/
def B_Rounds__receive_9908 : DTS := dSeq (dAsg (dBin (rCmp fun i j => decide (j < i)) (dVar 2) (dBin rIxq (dFld ["Rounds"] "numbers" (dVar 0)) (dVar 1))) (dgName 3))
  (dSeq (dIfS (dB (dVar 3)) (dSeq (dFAug ["Rounds"] "wanted" (dVar 0) (dC (.int 1)) fun i j => i + j)
  (dAsg (dVar 2) (dSub (dFld ["Rounds"] "numbers" (dVar 0)) (dVar 1)))) (dNext))
  (dRet (dVar 3)))
/-- run_plan: 0 rule 1 plan 2 rows 3 notes 4 step 5 word 6 process 7 message 8 row -/
def B_run_plan_ed6f : DTS := dSeq (dAsg (dLc (diRg1 (dCons (dFld ["Rule", "SaveAfterSend", "SaveAlways", "Rounds"] "processes" (dVar 0)) (dNil))) (dgName 8) (dYes) (dLst (dNil)) [8]) (dgName 2))
  (dSeq (dAsg (dLst (dNil)) (dgName 3))
  (dSeq (dFor (diVal (dVar 1)) (dgName 4) (dSeq (dAsg (dSl (dVar 4) (dNoP) (dPart (dC (.int 2)))) (dUnp 2 (dgCons (dgName 5) (dgCons (dgName 6) (dgNil)))))
  (dIfS (dB (dBin (rEqq false) (dVar 5) (dC (.str "save")))) (dSeq (dDrop (dMeth [("Rule", dFn 2 B_Rule__save_1a8c), ("SaveAfterSend", dFn 2 B_SaveAfterSend__save_1876), ("SaveAlways", dFn 3 B_SaveAlways__save_ec49), ("Rounds", dFn 2 B_Rounds__save_512a)] "save" 2 (dVar 0) (dCons (dVar 6) (dNil))))
  (dDrop (dMtq "list" mAppend (dBin rIxq (dVar 2) (dVar 6)) (dCons (dC (.int 0)) (dNil))))) (dIfS (dB (dBin (rEqq false) (dVar 5) (dC (.str "send")))) (dSeq (dDrop (dMtq "list" mAppend (dVar 3) (dCons (dMeth [("Rule", dFn 2 B_Rule__send_4f02), ("SaveAfterSend", dFn 2 B_SaveAfterSend__send_b8d5), ("SaveAlways", dFn 3 B_SaveAlways__send_496d), ("Rounds", dFn 2 B_Rounds__send_2628)] "send" 2 (dVar 0) (dCons (dVar 6) (dNil))) (dNil))))
  (dDrop (dMtq "list" mAppend (dBin rIxq (dVar 2) (dVar 6)) (dCons (dCB (rLen) (dCons (dVar 3) (dNil))) (dNil))))) (dSeq (dAsg (dBin rIxq (dVar 4) (dC (.int 2))) (dgName 7))
  (dSeq (dIfS (dB (dMeth [("Rule", dFn 3 B_Rule__receive_a200), ("SaveAfterSend", dFn 4 B_SaveAfterSend__receive_3625), ("SaveAlways", dFn 5 B_SaveAlways__receive_2317), ("Rounds", dFn 4 B_Rounds__receive_9908)] "receive" 3 (dVar 0) (dCons (dVar 6) (dCons (dBin rIxq (dVar 3) (dBin rSub (dVar 7) (dC (.int 1)))) (dNil))))) (dDrop (dMtq "list" mAppend (dBin rIxq (dVar 2) (dVar 6)) (dCons (dC (.int 0)) (dNil)))) (dNext))
  (dDrop (dMtq "list" mAppend (dBin rIxq (dVar 2) (dVar 6)) (dCons (dUn rNeg (dVar 7)) (dNil))))))))))
  (dRet (dCB (rTupq) (dCons (dLc (diVal (dVar 2)) (dgName 8) (dYes) (dCB (rTupq) (dCons (dVar 8) (dNil))) [8]) (dNil))))))
/-- Rule____init__: 0 self 1 processes -/
def B_Rule____init___2563 : DTS := dSeq (dFSet ["Rule", "SaveAfterSend", "SaveAlways", "Rounds"] "processes" (dVar 0) (dVar 1))
  (dFSet ["Rule", "SaveAfterSend", "SaveAlways", "Rounds"] "wanted" (dVar 0) (dC (.int 0)))
/-- SaveAfterSend____init__: 0 self 1 processes 2 __class__ -/
def B_SaveAfterSend____init___fcad : DTS := dSeq (dDrop (dSup 2 ["SaveAfterSend", "SaveAlways"] (dFn 2 B_Rule____init___2563) (dCons (dVar 1) (dNil))))
  (dSeq (dFSet ["SaveAfterSend", "SaveAlways"] "busy" (dVar 0) (dBin rMul (dLst (dCons (dC (.bl false)) (dNil))) (dVar 1)))
  (dNext))
/-- Rounds____init__: 0 self 1 processes 2 __class__ -/
def B_Rounds____init___8e81 : DTS := dSeq (dDrop (dSup 2 ["Rounds"] (dFn 2 B_Rule____init___2563) (dCons (dVar 1) (dNil))))
  (dSeq (dFSet ["Rounds"] "numbers" (dVar 0) (dBin rMul (dLst (dCons (dC (.int 0)) (dNil))) (dVar 1)))
  (dNext))
/-- _law_rule: 0 _law_name 1 _law_count -/
def B_law_rule_b694 : DTS := dSeq (dIfS (dB (dBin (rEqq false) (dVar 0) (dC (.str "none")))) (dRet (dMake "Rule" 2 (dFn 2 B_Rule____init___2563) (dCons (dVar 1) (dNil)))) (dNext))
  (dSeq (dIfS (dB (dBin (rEqq false) (dVar 0) (dC (.str "sent")))) (dRet (dMake "SaveAfterSend" 2 (dFn 3 B_SaveAfterSend____init___fcad) (dCons (dVar 1) (dNil)))) (dNext))
  (dRet (dIf (dB (dBin (rEqq false) (dVar 0) (dC (.str "always")))) (dMake "SaveAlways" 2 (dFn 3 B_SaveAfterSend____init___fcad) (dCons (dVar 1) (dNil))) (dMake "Rounds" 2 (dFn 3 B_Rounds____init___8e81) (dCons (dVar 1) (dNil))))))
/-- _law_one: 0 _law_deck_here 1 _law_items -/
def B_law_one_b6e1 : DTS := dRet (dBin rIxq (dVar 1) (dCall 2 (dFn 5 B_law_draw_ebff) (dCons (dVar 0) (dCons (dCB (rLen) (dCons (dVar 1) (dNil))) (dNil)))))
/-- _law_plan: 0 _law_deck_here 1 _law_count 2 _law_many 3 _law_acts 4 _law_waiting 5 _law_number 6 _law_turn 7 _law_way 8 _law_process 9 _law_can 10 _law_pair -/
def B_law_plan_4754 : DTS := dSeq (dAsg (dTup (dCons (dLst (dNil)) (dCons (dLst (dNil)) (dCons (dC (.int 0)) (dNil))))) (dUnp 3 (dgCons (dgName 3) (dgCons (dgName 4) (dgCons (dgName 5) (dgNil))))))
  (dSeq (dFor (diRg1 (dCons (dVar 2) (dNil))) (dgName 6) (dSeq (dAsg (dTup (dCons (dCall 2 (dFn 5 B_law_draw_ebff) (dCons (dVar 0) (dCons (dC (.int 5)) (dNil)))) (dCons (dCall 2 (dFn 5 B_law_draw_ebff) (dCons (dVar 0) (dCons (dVar 1) (dNil)))) (dNil)))) (dUnp 2 (dgCons (dgName 7) (dgCons (dgName 8) (dgNil)))))
  (dSeq (dAsg (dLc (diVal (dVar 4)) (dgName 10) (dB (dBin (rEqq true) (dBin rIxq (dVar 10) (dC (.int 1))) (dVar 8))) (dVar 10) [10]) (dgName 9))
  (dIfS (dAnd (dB (dBin (rCmp fun i j => decide (i < j)) (dVar 7) (dC (.int 2)))) (dB (dBin (rEqq true) (dVar 9) (dLst (dNil))))) (dSeq (dAsg (dCall 2 (dFn 2 B_law_one_b6e1) (dCons (dVar 0) (dCons (dVar 9) (dNil)))) (dgName 10))
  (dSeq (dDrop (dMtq "list" mRemove (dVar 4) (dCons (dVar 10) (dNil))))
  (dDrop (dMtq "list" mAppend (dVar 3) (dCons (dTup (dCons (dC (.str "receive")) (dCons (dVar 8) (dCons (dBin rIxq (dVar 10) (dC (.int 0))) (dNil))))) (dNil)))))) (dIfS (dAnd (dB (dBin (rCmp fun i j => decide (i < j)) (dVar 7) (dC (.int 4)))) (dB (dBin (rCmp fun i j => decide (i < j)) (dVar 5) (dC (.int 24))))) (dSeq (dAsg (dBin rAdd (dVar 5) (dC (.int 1))) (dgName 5))
  (dSeq (dDrop (dMtq "list" mAppend (dVar 4) (dCons (dLst (dCons (dVar 5) (dCons (dVar 8) (dNil)))) (dNil))))
  (dDrop (dMtq "list" mAppend (dVar 3) (dCons (dTup (dCons (dC (.str "send")) (dCons (dVar 8) (dNil)))) (dNil)))))) (dDrop (dMtq "list" mAppend (dVar 3) (dCons (dTup (dCons (dC (.str "save")) (dCons (dVar 8) (dNil)))) (dNil)))))))))
  (dRet (dCB (rTupq) (dCons (dVar 3) (dNil)))))
/-- _law_deck: 0 _law_script 1 _law_cell -/
def B_law_deck_e528 : DTS := dRet (dLst (dCons (dLc (diVal (dSl (dVar 0) (dNoP) (dPart (dC (.int 62))))) (dgName 1) (dYes) (dCB (rAbs) (dCons (dVar 1) (dNil))) [1]) (dCons (dC (.int 0)) (dNil))))
/-- Rule__forced: 0 self -/
def B_Rule__forced_5d3c : DTS := dRet (dFld ["Rule", "SaveAfterSend", "SaveAlways", "Rounds"] "wanted" (dVar 0))
/-- SaveAfterSend__forced: 0 self -/
def B_SaveAfterSend__forced_8095 : DTS := dRet (dFld ["SaveAfterSend", "SaveAlways"] "wanted" (dVar 0))
/-- SaveAlways__forced: 0 self -/
def B_SaveAlways__forced_1710 : DTS := dRet (dFld ["SaveAlways"] "wanted" (dVar 0))
/-- Rounds__forced: 0 self -/
def B_Rounds__forced_8628 : DTS := dRet (dFld ["Rounds"] "wanted" (dVar 0))
end Sv
set_option autoImplicit false
namespace Sv
open PySem PySem.Spec PyProof.Rows L2
/-- whether a value is a tuple or a list, by its type -/
def isSeq (t : String) : Bool := t == "tuple" || t == "list"
def dIsTL (te : DTE) : DTE := fun env S R => te env S fun d S1 => ∃ t, tyD S1 d = some t ∧ t ∈ ["NoneType", "bool", "int", "str", "tuple", "list", "dict"] ∧ R (.bl (isSeq t)) S1
theorem kit_seq {K : PySem.W.Frag} {t : String} (h : t ∈ ["NoneType", "bool", "int", "str", "tuple", "list", "dict"]) : PySem.W.kitAny K (.type t) [.type "tuple", .type "list"] = some (isSeq t) := by
  have two : ∀ {a b : Bool}, kitB t "tuple" = some a → kitB t "list" = some b → PySem.W.kitAny K (.type t) [.type "tuple", .type "list"] = some (a || b) := fun {a b} h1 h2 => by
    refine kitAny_cons (kit_ty h1) (fun e => ?_) (fun e => by rw [e]; rfl)
    subst e
    exact kitAny_cons (kit_ty h2) (fun e => by subst e; rfl) (fun e => by rw [e]; rfl)
  simp only [List.mem_cons, List.not_mem_nil, or_false] at h
  rcases h with rfl | rfl | rfl | rfl | rfl | rfl | rfl
  · exact two (a := false) (b := false) (by decide +kernel) (by decide +kernel)
  · exact two (a := false) (b := false) (by decide +kernel) (by decide +kernel)
  · exact two (a := false) (b := false) (by decide +kernel) (by decide +kernel)
  · exact two (a := false) (b := false) (by decide +kernel) (by decide +kernel)
  · exact two (a := true) (b := false) (by decide +kernel) (by decide +kernel)
  · exact two (a := false) (b := true) (by decide +kernel) (by decide +kernel)
  · exact two (a := false) (b := false) (by decide +kernel) (by decide +kernel)
section
variable {X : Cx} {e : Expr} {te : DTE} {pos p : Pos}
theorem TyX.new {K : PySem.W.Frag} {H : Hp} {x : V} {t : String} {T : Addr} {o : HO} (n : H T = none) (h : TyX K H x (.type t)) : TyX K (upd H T o) x (.type t) := by
  have k : ∀ {a : Addr} {u : HO}, H a = some u → upd H T o a = some u := fun {a u} e => by
    rw [upd_ne fun z => by rw [z, n] at e; cases e]
    exact e
  cases h with
  | base h =>
    cases h with
    | non => exact .base .non
    | bl x => exact .base (.bl x)
    | int x => exact .base (.int x)
    | str x => exact .base (.str x)
    | flt x => exact .base (.flt x)
    | lst e => exact .base (.lst (k e))
    | frz e => exact .base (.frz (k e))
    | tup e => exact .base (.tup (k e))
    | dK e => exact .base (.dK (k e))
    | dT e => exact .base (.dT (k e))
  | byt b => exact .byt b
  | set e => exact .set (k e)
  | kList e c => exact .kList e c
  | kTuple e c => exact .kTuple e c
  | kDict e c => exact .kDict e c
  | fTuple e => exact .fTuple (k e)
  | fDict e => exact .fDict (k e)
theorem de_isTL {kk : Nat} {p1 p2 tpos : Pos} (he : DE X e te) (hg : Gl X "isinstance") (hm : X.mg "isinstance" = none) (hg1 : Gl X "tuple") (hm1 : X.mg "tuple" = none) (hg2 : Gl X "list") (hm2 : X.mg "list" = none)
    (hs1 : starEach [e, .Tuple [.Name "tuple" p1, .Name "list" p2] kk tpos] X.env = (false, eval e X.env) :: starEach [.Tuple [.Name "tuple" p1, .Name "list" p2] kk tpos] X.env := by rfl)
    (hs2 : starEach [Expr.Tuple [.Name "tuple" p1, .Name "list" p2] kk tpos] X.env = (false, eval (.Tuple [.Name "tuple" p1, .Name "list" p2] kk tpos) X.env) :: starEach [] X.env := by rfl)
    (hs3 : starEach [Expr.Name "tuple" p1, .Name "list" p2] X.env = (false, eval (.Name "tuple" p1) X.env) :: starEach [.Name "list" p2] X.env := by rfl)
    (hs4 : starEach [Expr.Name "list" p2] X.env = (false, eval (.Name "list" p2) X.env) :: starEach [] X.env := by rfl)
    (hpl : (backTo pos (starEach [Expr.Tuple [.Name "tuple" p1, .Name "list" p2] kk tpos] X.env)).any (·.1) = false := by rfl) :
    DE X (.Call (.Name "isinstance" p) [e, .Tuple [.Name "tuple" p1, .Name "list" p2] kk tpos] [] pos) (dIsTL te) := by
  refine ⟨(pe_callB call_isiT hg hm (by decide +kernel) (pa_cons he.run (pa_cons (pe_tup (pa_cons (pe_bltn (v := .ty "tuple") hg1 hm1 (by decide +kernel) rfl) (pa_cons (pe_bltn (v := .ty "list") hg2 hm2 (by decide +kernel) rfl) pa_nil hs4) hs3)) pa_nil hs2) hs1) (by decide) (by decide) hs1 hpl).of fun σ H Q ⟨env, S, R, rs, h, k⟩ => ⟨env, S, _, rs, h, fun d S1 v H1 ⟨t, ht, hm, q⟩ s1 r1 e1 => ?_⟩⟩
  refine ⟨by decide, fun T nT => ?_⟩
  have ty := TyX.new (o := .tup [.ty "tuple", .ty "list"]) nT (ty_rel s1 r1 ht)
  exact ⟨v, T, _, .type t, [.type "tuple", .type "list"], _, rfl, upd_same, .cons (.ty _) (.cons (.ty _) .nil), ty, kit_seq hm, k _ _ _ _ q (s1.new nT) (.bl _) (e1.trans (.new nT))⟩
def rLenD : DRC := fun ds S R => ∃ a kvs, ds = [.ref a] ∧ S a = some (.dK kvs) ∧ R (.int (kvs.length : Nat)) S
theorem b_lenD : CallR X (.builtin "len") (lC X.kk rLenD) := by
  intro pins s σ H vs us Q I r ⟨ds, S, R, r1, s1, ⟨a, kvs, hd, hS, q⟩, k⟩
  subst hd
  obtain ⟨v, rfl, rv⟩ := r1.inv1
  cases rv
  obtain ⟨u, rfl, ru⟩ := vals1 r
  cases ru
  obtain ⟨gs, hH, rk⟩ := s1 a _ hS
  refine d_len I (.inl hH) fun t s' I' => ⟨.int (gs.length : Nat), H, I', ⟨t, rfl⟩, ?_⟩
  rw [← rk.length]
  exact k _ _ _ _ q s1 (.int _) (.refl H)
end
end Sv
namespace Sv
open PySem L2
/-- _law_same: 0 _law_found 1 _law_due 2 _law_kinds 3 _law_k -/
def Bs_law_same_6ecd (self : DTS) : DTS := dSeq (dIfS (dB (dIsTL (dVar 1))) (dSeq (dAsg (dLst (dCons (dCB rIsi (dCons (dVar 1) (dCons (dC (.ty "tuple")) (dNil)))) (dCons (dCB rIsi (dCons (dVar 1) (dCons (dC (.ty "list")) (dNil)))) (dNil)))) (dgName 2))
  (dSeq (dIfS (dOr (dB (dBin (rEqq true) (dLst (dCons (dCB rIsi (dCons (dVar 0) (dCons (dC (.ty "tuple")) (dNil)))) (dCons (dCB rIsi (dCons (dVar 0) (dCons (dC (.ty "list")) (dNil)))) (dNil)))) (dVar 2))) (dB (dBin (rEqq true) (dCB (rLen) (dCons (dVar 0) (dNil))) (dCB (rLen) (dCons (dVar 1) (dNil)))))) (dRet (dC (.bl false))) (dNext))
  (dRet (dBin (rEqq false) (dLc (diRg1 (dCons (dCB (rLen) (dCons (dVar 1) (dNil))) (dNil))) (dgName 3) (dNot (dB (dCall 2 (dFn 4 self) (dCons (dBin rIxq (dVar 0) (dVar 3)) (dCons (dBin rIxq (dVar 1) (dVar 3)) (dNil)))))) (dVar 3) [3]) (dLst (dNil)))))) (dNext))
  (dSeq (dIfS (dB (dCB rIsi (dCons (dVar 1) (dCons (dC (.ty "dict")) (dNil))))) (dRet (dAndV (dCB rIsi (dCons (dVar 0) (dCons (dC (.ty "dict")) (dNil)))) (dBin (rEqq false) (dVar 0) (dVar 1)))) (dNext))
  (dSeq (dIfS (dB (dIsN (dVar 1))) (dRet (dIsN (dVar 0))) (dNext))
  (dSeq (dIfS (dB (dCB rIsi (dCons (dVar 1) (dCons (dC (.ty "str")) (dNil))))) (dRet (dAndV (dCB rIsi (dCons (dVar 0) (dCons (dC (.ty "str")) (dNil)))) (dBin (rEqq false) (dVar 0) (dVar 1)))) (dNext))
  (dRet (dAndV (dCB rIsi (dCons (dVar 0) (dCons (dC (.ty "int")) (dNil)))) (dAndV (dBin (rEqq false) (dCB rIsi (dCons (dVar 0) (dCons (dC (.ty "bool")) (dNil)))) (dCB rIsi (dCons (dVar 1) (dCons (dC (.ty "bool")) (dNil))))) (dBin (rEqq false) (dVar 0) (dVar 1))))))))
/-- _law_saved: 0 _law_model 1 _law_process 2 _law_name 3 _law_spoke 4 _law_heard 5 _law_numbers 6 _law_total -/
def B_law_saved_f511 : DTS := dSeq (dAsg (dVar 0) (dUnp 5 (dgCons (dgName 2) (dgCons (dgName 3) (dgCons (dgName 4) (dgCons (dgName 5) (dgCons (dgName 6) (dgNil))))))))
  (dSeq (dAsg (dTup (dCons (dC (.bl false)) (dCons (dC (.bl false)) (dNil)))) (dUnp 2 (dgCons (dSub (dVar 3) (dVar 1)) (dgCons (dSub (dVar 4) (dVar 1)) (dgNil)))))
  (dIfS (dB (dBin (rEqq false) (dVar 2) (dC (.str "rounds")))) (dAsg (dBin rAdd (dBin rIxq (dVar 5) (dVar 1)) (dC (.int 1))) (dSub (dVar 5) (dVar 1))) (dNext)))
/-- _law_sent: 0 _law_model 1 _law_process 2 _law_name 3 _law_spoke 4 _law_heard 5 _law_numbers 6 _law_total -/
def B_law_sent_854b : DTS := dSeq (dAsg (dVar 0) (dUnp 5 (dgCons (dgName 2) (dgCons (dgName 3) (dgCons (dgName 4) (dgCons (dgName 5) (dgCons (dgName 6) (dgNil))))))))
  (dSeq (dAsg (dC (.bl true)) (dSub (dVar 3) (dVar 1)))
  (dRet (dIf (dB (dBin (rEqq false) (dVar 2) (dC (.str "rounds")))) (dBin rIxq (dVar 5) (dVar 1)) (dC .non))))
/-- _law_wants: 0 _law_model 1 _law_process 2 _law_note 3 _law_name 4 _law_spoke 5 _law_heard 6 _law_numbers 7 _law_total 8 _law_must -/
def B_law_wants_1866 : DTS := dSeq (dAsg (dVar 0) (dUnp 5 (dgCons (dgName 3) (dgCons (dgName 4) (dgCons (dgName 5) (dgCons (dgName 6) (dgCons (dgName 7) (dgNil))))))))
  (dSeq (dAsg (dOrV (dAndV (dBin (rInq false) (dVar 3) (dLst (dCons (dC (.str "sent")) (dCons (dC (.str "always")) (dNil))))) (dBin rIxq (dVar 4) (dVar 1))) (dAndV (dBin (rEqq false) (dVar 3) (dC (.str "always"))) (dBin rIxq (dVar 5) (dVar 1)))) (dgName 8))
  (dSeq (dIfS (dB (dBin (rEqq false) (dVar 3) (dC (.str "rounds")))) (dSeq (dAsg (dBin (rCmp fun i j => decide (j < i)) (dVar 2) (dBin rIxq (dVar 6) (dVar 1))) (dgName 8))
  (dAsg (dCB (rMax2) (dCons (dVar 2) (dCons (dBin rIxq (dVar 6) (dVar 1)) (dNil)))) (dSub (dVar 6) (dVar 1)))) (dNext))
  (dSeq (dIfS (dB (dVar 8)) (dSeq (dAsg (dC (.bl false)) (dSub (dVar 4) (dVar 1)))
  (dAsg (dBin rAdd (dVar 7) (dC (.int 1))) (dSub (dVar 0) (dC (.int 4))))) (dNext))
  (dSeq (dAsg (dC (.bl true)) (dSub (dVar 5) (dVar 1)))
  (dRet (dVar 8))))))
/-- _law_fresh: 0 _law_name 1 _law_count -/
def B_law_fresh_213b : DTS := dRet (dLst (dCons (dVar 0) (dCons (dBin rMul (dLst (dCons (dC (.bl false)) (dNil))) (dVar 1)) (dCons (dBin rMul (dLst (dCons (dC (.bl false)) (dNil))) (dVar 1)) (dCons (dBin rMul (dLst (dCons (dC (.int 0)) (dNil))) (dVar 1)) (dCons (dC (.int 0)) (dNil)))))))
/-- _law_same: 0 _law_found 1 _law_due 2 _law_kinds 3 _law_k -/
def Bs_law_same_9d8a (self : DTS) : DTS := dSeq (dIfS (dB (dIsTL (dVar 1))) (dSeq (dAsg (dLst (dCons (dCB rIsi (dCons (dVar 1) (dCons (dC (.ty "tuple")) (dNil)))) (dCons (dCB rIsi (dCons (dVar 1) (dCons (dC (.ty "list")) (dNil)))) (dNil)))) (dgName 2))
  (dSeq (dIfS (dOr (dB (dBin (rEqq true) (dLst (dCons (dCB rIsi (dCons (dVar 0) (dCons (dC (.ty "tuple")) (dNil)))) (dCons (dCB rIsi (dCons (dVar 0) (dCons (dC (.ty "list")) (dNil)))) (dNil)))) (dVar 2))) (dB (dBin (rEqq true) (dCB (rLen) (dCons (dVar 0) (dNil))) (dCB (rLen) (dCons (dVar 1) (dNil)))))) (dRet (dC (.bl false))) (dNext))
  (dRet (dBin (rEqq false) (dLc (diRg1 (dCons (dCB (rLen) (dCons (dVar 1) (dNil))) (dNil))) (dgName 3) (dNot (dB (dCall 2 (dFn 4 self) (dCons (dBin rIxq (dVar 0) (dVar 3)) (dCons (dBin rIxq (dVar 1) (dVar 3)) (dNil)))))) (dVar 3) [3]) (dLst (dNil)))))) (dNext))
  (dSeq (dIfS (dB (dCB rIsi (dCons (dVar 1) (dCons (dC (.ty "dict")) (dNil))))) (dRet (dAndV (dCB rIsi (dCons (dVar 0) (dCons (dC (.ty "dict")) (dNil)))) (dBin (rEqq false) (dVar 0) (dVar 1)))) (dNext))
  (dSeq (dIfS (dB (dIsN (dVar 1))) (dRet (dIsN (dVar 0))) (dNext))
  (dSeq (dIfS (dB (dCB rIsi (dCons (dVar 1) (dCons (dC (.ty "str")) (dNil))))) (dRet (dAndV (dCB rIsi (dCons (dVar 0) (dCons (dC (.ty "str")) (dNil)))) (dBin (rEqq false) (dVar 0) (dVar 1)))) (dNext))
  (dRet (dAndV (dCB rIsi (dCons (dVar 0) (dCons (dC (.ty "int")) (dNil)))) (dAndV (dBin (rEqq false) (dCB rIsi (dCons (dVar 0) (dCons (dC (.ty "bool")) (dNil)))) (dCB rIsi (dCons (dVar 1) (dCons (dC (.ty "bool")) (dNil))))) (dBin (rEqq false) (dVar 0) (dVar 1))))))))
def B_law_same_9d8a : DTS := Bs_law_same_9d8a (Bs_law_same_9d8a (Bs_law_same_9d8a (Bs_law_same_9d8a dStop)))
/-- _law_built: 0 _law_name 1 _law_count 2 _law_acts 3 _law_model 4 _law_rows 5 _law_notes 6 _law_act 7 _law_process 8 _law_more -/
def B_law_built_25f7 : DTS := dSeq (dAsg (dTup (dCons (dCall 2 (dFn 2 B_law_fresh_213b) (dCons (dVar 0) (dCons (dVar 1) (dNil)))) (dCons (dBin rMul (dLst (dCons (dTup (dNil)) (dNil))) (dVar 1)) (dCons (dDNew) (dNil))))) (dUnp 3 (dgCons (dgName 3) (dgCons (dgName 4) (dgCons (dgName 5) (dgNil))))))
  (dSeq (dFor (diVal (dVar 2)) (dgName 6) (dSeq (dAsg (dTup (dCons (dBin rIxq (dVar 6) (dC (.int 1))) (dCons (dTup (dCons (dC (.int 0)) (dNil))) (dNil)))) (dUnp 2 (dgCons (dgName 7) (dgCons (dgName 8) (dgNil)))))
  (dSeq (dIfS (dB (dBin (rEqq false) (dBin rIxq (dVar 6) (dC (.int 0))) (dC (.str "save")))) (dDrop (dCall 2 (dFn 7 B_law_saved_f511) (dCons (dVar 3) (dCons (dVar 7) (dNil))))) (dNext))
  (dSeq (dIfS (dB (dBin (rEqq false) (dBin rIxq (dVar 6) (dC (.int 0))) (dC (.str "send")))) (dSeq (dAsg (dTup (dCons (dBin rAdd (dCB rLenD (dCons (dVar 5) (dNil))) (dC (.int 1))) (dNil))) (dgName 8))
  (dDPut (dVar 5) (dBin rIxq (dVar 8) (dC (.int 0))) (dCall 2 (dFn 7 B_law_sent_854b) (dCons (dVar 3) (dCons (dVar 7) (dNil)))))) (dNext))
  (dSeq (dIfS (dB (dBin (rEqq false) (dBin rIxq (dVar 6) (dC (.int 0))) (dC (.str "receive")))) (dAsg (dBin rAdd (dBin rMulZ (dTup (dCons (dC (.int 0)) (dNil))) (dCB (rInt) (dCons (dCall 3 (dFn 9 B_law_wants_1866) (dCons (dVar 3) (dCons (dVar 7) (dCons (dDix (dVar 5) (dBin rIxq (dVar 6) (dC (.int 2)))) (dNil))))) (dNil)))) (dTup (dCons (dBin rSub (dC (.int 0)) (dBin rIxq (dVar 6) (dC (.int 2)))) (dNil)))) (dgName 8)) (dNext))
  (dAsg (dBin rAdd (dBin rIxq (dVar 4) (dVar 7)) (dVar 8)) (dSub (dVar 4) (dVar 7))))))))
  (dRet (dTup (dCons (dCB (rTupq) (dCons (dVar 4) (dNil))) (dCons (dBin rIxq (dVar 3) (dC (.int 4))) (dNil))))))
/-- law: 0 _law_script 1 _law_deck_here 2 _law_turn 3 _law_count 4 _law_acts 5 _law_kept 6 _law_name 7 _law_rule_here 8 _law_rows 9 _law_total 10 _law_told -/
def B_law_b23a : DTS := dSeq (dAsg (dCall 1 (dFn 2 B_law_deck_e528) (dCons (dVar 0) (dNil))) (dgName 1))
  (dSeq (dFor (diRg1 (dCons (dC (.int 4)) (dNil))) (dgName 2) (dSeq (dAsg (dBin rAdd (dC (.int 1)) (dCall 2 (dFn 5 B_law_draw_ebff) (dCons (dVar 1) (dCons (dC (.int 6)) (dNil))))) (dgName 3))
  (dFor (diVal (dLst (dCons (dCall 3 (dFn 11 B_law_plan_4754) (dCons (dVar 1) (dCons (dVar 3) (dCons (dCall 2 (dFn 5 B_law_draw_ebff) (dCons (dVar 1) (dCons (dC (.int 31)) (dNil)))) (dNil))))) (dCons (dTup (dNil)) (dNil))))) (dgName 4) (dSeq (dAsg (dCB (rReprX) (dCons (dVar 4) (dNil))) (dgName 5))
  (dFor (diVal (dLst (dCons (dC (.str "none")) (dCons (dC (.str "sent")) (dCons (dC (.str "always")) (dCons (dC (.str "rounds")) (dNil))))))) (dgName 6) (dSeq (dAsg (dTup (dCons (dCall 2 (dFn 2 B_law_rule_b694) (dCons (dVar 6) (dCons (dVar 3) (dNil)))) (dCons (dCall 3 (dFn 9 B_law_built_25f7) (dCons (dVar 6) (dCons (dVar 3) (dCons (dVar 4) (dNil))))) (dNil)))) (dUnp 2 (dgCons (dgName 7) (dgCons (dUnp 2 (dgCons (dgName 8) (dgCons (dgName 9) (dgNil)))) (dgNil)))))
  (dSeq (dAsg (dCall 2 (dFn 9 B_run_plan_ed6f) (dCons (dVar 7) (dCons (dVar 4) (dNil)))) (dgName 10))
  (dSeq (dIfS (dOr (dNot (dB (dCall 2 (dFn 4 B_law_same_9d8a) (dCons (dLst (dCons (dVar 10) (dCons (dProp [("Rule", dFn 1 B_Rule__forced_5d3c), ("SaveAfterSend", dFn 1 B_SaveAfterSend__forced_8095), ("SaveAlways", dFn 1 B_SaveAlways__forced_1710), ("Rounds", dFn 1 B_Rounds__forced_8628)] (dVar 7)) (dNil)))) (dCons (dLst (dCons (dVar 8) (dCons (dVar 9) (dNil)))) (dNil)))))) (dB (dBin (rEqq true) (dCB (rReprX) (dCons (dVar 4) (dNil))) (dVar 5)))) (dRet (dC (.bl false))) (dNext))
  (dIfS (dOr (dB (dBin (rIsBd true) (dCall 1 (dFn 1 B_is_history_be67) (dCons (dVar 8) (dNil))) (dC (.bl true)))) (dNot (dB (dCall 2 (dFn 4 B_law_same_9d8a) (dCons (dCall 2 (dFn 9 B_run_plan_ed6f) (dCons (dCall 2 (dFn 2 B_law_rule_b694) (dCons (dVar 6) (dCons (dVar 3) (dNil)))) (dCons (dVar 4) (dNil)))) (dCons (dVar 8) (dNil))))))) (dRet (dC (.bl false))) (dNext))))))))))
  (dRet (dC (.bl true))))
end Sv
namespace Sv
open PySem PySem.Spec PyProof.Rows L2
def topS (i : Nat) : Stmt := PySem.Challenge.pw_savelines_k65_plans_under_rules.main.body.getD i (.Pass ⟨0, 0, 0, 0⟩)
abbrev s__law_draw : Stmt := topS 27
theorem sc__law_draw : FnScope ["_law_deck_here", "_law_many", "_law_cell", "_law_place", "_law_mixed"] ["_law_deck_here", "_law_many"] (defScope s__law_draw) := ⟨rfl, rfl, rfl, by decide +kernel, rfl, by decide +kernel, by decide +kernel⟩
set_option maxHeartbeats 4000000 in
theorem der__law_draw {P : Program} {w : World} {K : PySem.W.Frag} {mg : Str → Option Value} {base : Heap} {f : Addr} {fd : FuncData} (F : Fun K "_law_draw" "_law_draw" s__law_draw f fd)  (m_len : mg "len" = none): FnOk P w K mg base CX0 1 f fd ["_law_deck_here", "_law_many"] (lP ⟨P, w, K⟩ 2 (dFn 5 B_law_draw_ebff)) := by
  refine fn_o F sc__law_draw rfl fun cdv A outer s H E hr => ?_
  have nd := sc__law_draw.nd
  have u64 := hr.units
  have u65 : (A.deeper (envOfC "_law_draw" (defScope s__law_draw) s.heap.objs.size f cdv)).units + 65 < cLine := by have := hr.un; omega
  have u1 : (A.deeper (envOfC "_law_draw" (defScope s__law_draw) s.heap.objs.size f cdv)).units + 1 < cLine := by have := hr.un; omega
  unfold B_law_draw_ebff
  exact dss_cons (ds_asg (b := true) (de_bin o_add (de_ix o_ix (dv 0) (de_int)) (de_int)) (dg_sub (dv 0) (de_int)))
    (dss_cons (ds_set (i := 2) nd rfl (by first | exact .inl rfl | exact .inr rfl) (de_int))
    (dss_cons (ds_if (dt_cmp o_gt (de_callB b_len (by rfl) m_len PySem.boot_len (da_cons (de_ix o_ix (dv 0) (de_int)) (da_nil))) (de_int)) (dss_cons (ds_set (i := 3) nd rfl (by first | exact .inl rfl | exact .inr rfl) (de_bin o_mod (de_ix o_ix (dv 0) (de_int)) (de_callB b_len (by rfl) m_len PySem.boot_len (da_cons (de_ix o_ix (dv 0) (de_int)) (da_nil)))))
    (dss_cons (ds_set (i := 2) nd rfl (by first | exact .inl rfl | exact .inr rfl) (de_ix o_ix (de_ix o_ix (dv 0) (de_int)) (dv 3)))
    (dss_one (ds_if (dt_cmp o_ge (dv 2) (de_bin o_pow (de_int) (de_int))) (dss_cons (ds_asg (b := true) (de_bin o_div (dv 2) (dv 1)) (dg_sub (de_ix o_ix (dv 0) (de_int)) (dv 3)))
    (dss_one (ds_ret (de_bin o_mod (dv 2) (dv 1))))) (dss_nil))))) (dss_nil))
    (dss_cons (ds_set (i := 4) nd rfl (by first | exact .inl rfl | exact .inr rfl) (de_bin o_mod (de_bin o_pow (de_bin o_add (de_bin o_add (de_bin o_mod (dv 2) (de_int)) (de_bin o_mul (de_int) (de_ix o_ix (dv 0) (de_int)))) (de_int)) (de_int)) (de_int)))
    (dss_one (ds_ret (de_bin o_mod (de_bin o_div (dv 4) (de_int)) (dv 1)))))))
abbrev s__law_one : Stmt := topS 28
theorem sc__law_one : FnScope ["_law_deck_here", "_law_items"] ["_law_deck_here", "_law_items"] (defScope s__law_one) := ⟨rfl, rfl, rfl, by decide +kernel, rfl, by decide +kernel, by decide +kernel⟩
set_option maxHeartbeats 4000000 in
theorem der__law_one {P : Program} {w : World} {K : PySem.W.Frag} {mg : Str → Option Value} {base : Heap} {f : Addr} {fd : FuncData} (F : Fun K "_law_one" "_law_one" s__law_one f fd) (D__law_draw : DFo P w K mg base 1 "_law_draw" 2 (dFn 5 B_law_draw_ebff)) (m_len : mg "len" = none): FnOk P w K mg base CX0 2 f fd ["_law_deck_here", "_law_items"] (lP ⟨P, w, K⟩ 2 (dFn 2 B_law_one_b6e1)) := by
  refine fn_o F sc__law_one rfl fun cdv A outer s H E hr => ?_
  have nd := sc__law_one.nd
  have u64 := hr.units
  have u65 : (A.deeper (envOfC "_law_one" (defScope s__law_one) s.heap.objs.size f cdv)).units + 65 < cLine := by have := hr.un; omega
  have u1 : (A.deeper (envOfC "_law_one" (defScope s__law_one) s.heap.objs.size f cdv)).units + 1 < cLine := by have := hr.un; omega
  unfold B_law_one_b6e1
  exact dss_one (ds_ret (de_ix o_ix (dv 1) (de_callo D__law_draw (hr.mono (by decide)) (by rfl) (da_cons (dv 0) (da_cons (de_callB b_len (by rfl) m_len PySem.boot_len (da_cons (dv 1) (da_nil))) (da_nil))))))
abbrev s__law_plan : Stmt := topS 35
theorem sc__law_plan : FnScope ["_law_deck_here", "_law_count", "_law_many", "_law_acts", "_law_waiting", "_law_number", "_law_turn", "_law_way", "_law_process", "_law_can", "_law_pair"] ["_law_deck_here", "_law_count", "_law_many"] (defScope s__law_plan) := ⟨rfl, rfl, rfl, by decide +kernel, rfl, by decide +kernel, by decide +kernel⟩
set_option maxHeartbeats 4000000 in
theorem der__law_plan {P : Program} {w : World} {K : PySem.W.Frag} {mg : Str → Option Value} {base : Heap} {f : Addr} {fd : FuncData} (F : Fun K "_law_plan" "_law_plan" s__law_plan f fd) (D__law_one : DFo P w K mg base 2 "_law_one" 2 (dFn 2 B_law_one_b6e1)) (D__law_draw : DFo P w K mg base 1 "_law_draw" 2 (dFn 5 B_law_draw_ebff)) (m_tuple : mg "tuple" = none) (m_range : mg "range" = none): FnOk P w K mg base CX0 3 f fd ["_law_deck_here", "_law_count", "_law_many"] (lP ⟨P, w, K⟩ 3 (dFn 11 B_law_plan_4754)) := by
  refine fn_o F sc__law_plan rfl fun cdv A outer s H E hr => ?_
  have nd := sc__law_plan.nd
  have u64 := hr.units
  have u65 : (A.deeper (envOfC "_law_plan" (defScope s__law_plan) s.heap.objs.size f cdv)).units + 65 < cLine := by have := hr.un; omega
  have u1 : (A.deeper (envOfC "_law_plan" (defScope s__law_plan) s.heap.objs.size f cdv)).units + 1 < cLine := by have := hr.un; omega
  unfold B_law_plan_4754
  exact dss_cons (ds_par3 (i := 3) (j := 4) (l := 5) (by rfl) nd rfl rfl rfl (by decide) (by decide) (by decide) rfl rfl rfl (da_cons (de_lst (da_nil)) (da_cons (de_lst (da_nil)) (da_cons (de_int) (da_nil)))) (by rfl))
    (dss_cons (ds_for PassesOwn.never rfl (di_rg1 (by rfl) m_range (da_cons (dv 2) (da_nil))) (dg_name (i := 6) nd rfl (by first | exact .inl rfl | exact .inr rfl)) (dss_cons (ds_asg (b := true) (de_tup (da_cons (de_callo D__law_draw (hr.mono (by decide)) (by rfl) (da_cons (dv 0) (da_cons (de_int) (da_nil)))) (da_cons (de_callo D__law_draw (hr.mono (by decide)) (by rfl) (da_cons (dv 0) (da_cons (dv 1) (da_nil)))) (da_nil)))) (dg_tup rfl (dgs_cons (dg_name (i := 7) nd rfl (by first | exact .inl rfl | exact .inr rfl)) (dgs_cons (dg_name (i := 8) nd rfl (by first | exact .inl rfl | exact .inr rfl)) (dgs_nil)))))
    (dss_cons (ds_setLc (i := 9) (own := [("_law_pair", 10)]) rfl nd rfl rfl (sw_true rfl rfl rfl (by decide +kernel)) (di_val (dv 4)) (blkOk_by (by first | decide +kernel | rfl)) (by decide) (fun _ _ _ _ _ => dg_name (i := 10) nd rfl (by first | exact .inl rfl | exact .inr rfl)) (fun _ _ _ _ _ => dts_one (dt_cmp (o_ne u64) (de_ix o_ix (dv 10) (de_int)) (dv 8))) (fun _ _ _ _ _ => dv 10))
    (dss_one (ds_if (DW.dt (dw_and (dt_cmp o_lt (dv 7) (de_int)) (dw_and1 (dt_cmp (o_ne u64) (dv 9) (de_lst (da_nil)))))) (dss_cons (ds_set (i := 10) nd rfl (by first | exact .inl rfl | exact .inr rfl) (de_callo D__law_one (hr.mono (by decide)) (by rfl) (da_cons (dv 0) (da_cons (dv 9) (da_nil)))))
    (dss_cons (ds_expr (de_mL PySem.F.slot_list_remove PySem.F.type_list_remove (m_remove u64) (dv 4) (da_cons (dv 10) (da_nil))))
    (dss_one (ds_expr (de_mL PySem.F.slot_list_append PySem.F.type_list_append m_append (dv 3) (da_cons (de_tup (da_cons (de_str) (da_cons (dv 8) (da_cons (de_ix o_ix (dv 10) (de_int)) (da_nil))))) (da_nil))))))) (dss_one (ds_if (DW.dt (dw_and (dt_cmp o_lt (dv 7) (de_int)) (dw_and1 (dt_cmp o_lt (dv 5) (de_int))))) (dss_cons (ds_set (i := 5) nd rfl (by first | exact .inl rfl | exact .inr rfl) (de_bin o_add (dv 5) (de_int)))
    (dss_cons (ds_expr (de_mL PySem.F.slot_list_append PySem.F.type_list_append m_append (dv 4) (da_cons (de_lst (da_cons (dv 5) (da_cons (dv 8) (da_nil)))) (da_nil))))
    (dss_one (ds_expr (de_mL PySem.F.slot_list_append PySem.F.type_list_append m_append (dv 3) (da_cons (de_tup (da_cons (de_str) (da_cons (dv 8) (da_nil)))) (da_nil))))))) (dss_one (ds_expr (de_mL PySem.F.slot_list_append PySem.F.type_list_append m_append (dv 3) (da_cons (de_tup (da_cons (de_str) (da_cons (dv 8) (da_nil)))) (da_nil))))))))))))
    (dss_one (ds_ret (de_callTy b_tuple (by rfl) m_tuple (by decide +kernel) (da_cons (dv 3) (da_nil))))))
abbrev s_event_count : Stmt := topS 20
theorem sc_event_count : FnScope ["rows", "row"] ["rows"] (defScope s_event_count) := ⟨rfl, rfl, rfl, by decide +kernel, rfl, by decide +kernel, by decide +kernel⟩
set_option maxHeartbeats 4000000 in
theorem der_event_count {P : Program} {w : World} {K : PySem.W.Frag} {mg : Str → Option Value} {base : Heap} {f : Addr} {fd : FuncData} (F : Fun K "event_count" "event_count" s_event_count f fd)  (m_len : mg "len" = none) (m_sum : mg "sum" = none): FnOk P w K mg base CX0 1 f fd ["rows"] (lP ⟨P, w, K⟩ 1 (dFn 2 B_event_count_1213)) := by
  refine fn_o F sc_event_count rfl fun cdv A outer s H E hr => ?_
  have nd := sc_event_count.nd
  have u64 := hr.units
  have u65 : (A.deeper (envOfC "event_count" (defScope s_event_count) s.heap.objs.size f cdv)).units + 65 < cLine := by have := hr.un; omega
  have u1 : (A.deeper (envOfC "event_count" (defScope s_event_count) s.heap.objs.size f cdv)).units + 1 < cLine := by have := hr.un; omega
  unfold B_event_count_1213
  exact dss_one (ds_ret (de_callB (b_sum rfl) (by rfl) m_sum (by decide +kernel) (da_cons (de_lc (own := [("row", 1)]) rfl nd (di_val (dv 0)) (blkOk_by (by first | decide +kernel | rfl)) (by decide) (fun _ _ _ _ _ => dg_name (i := 1) nd rfl (by first | exact .inl rfl | exact .inr rfl)) (fun _ _ _ _ _ => dts_nil) (fun _ _ _ _ _ => de_callB b_len (by rfl) m_len PySem.boot_len (da_cons (dv 1) (da_nil)))) (da_nil))))
abbrev s_shape_error : Stmt := topS 15
theorem sc_shape_error : FnScope ["value", "process", "row"] ["value"] (defScope s_shape_error) := ⟨rfl, rfl, rfl, by decide +kernel, rfl, by decide +kernel, by decide +kernel⟩
set_option maxHeartbeats 4000000 in
theorem der_shape_error {P : Program} {w : World} {K : PySem.W.Frag} {mg : Str → Option Value} {base : Heap} {f : Addr} {fd : FuncData} (F : Fun K "shape_error" "shape_error" s_shape_error f fd) (D_event_count : DFo P w K mg base 1 "event_count" 1 (dFn 2 B_event_count_1213)) (m_enumerate : mg "enumerate" = none) (m_tuple : mg "tuple" = none) (m_isinstance : mg "isinstance" = none) (m_len : mg "len" = none) {t_MAX_EVENTS : Tok} (hc_MAX_EVENTS : mg "MAX_EVENTS" = some (.int 60 t_MAX_EVENTS)) {t_MAX_PROCESSES : Tok} (hc_MAX_PROCESSES : mg "MAX_PROCESSES" = some (.int 6 t_MAX_PROCESSES)): FnOk P w K mg base CX0 2 f fd ["value"] (lP ⟨P, w, K⟩ 1 (dFn 3 B_shape_error_72a0)) := by
  refine fn_o F sc_shape_error rfl fun cdv A outer s H E hr => ?_
  have nd := sc_shape_error.nd
  have u64 := hr.units
  have u65 : (A.deeper (envOfC "shape_error" (defScope s_shape_error) s.heap.objs.size f cdv)).units + 65 < cLine := by have := hr.un; omega
  have u1 : (A.deeper (envOfC "shape_error" (defScope s_shape_error) s.heap.objs.size f cdv)).units + 1 < cLine := by have := hr.un; omega
  unfold B_shape_error_72a0
  exact dss_cons (ds_if (DW.dt (dw_or (dt_not (dt_val (de_callB b_isi (by rfl) m_isinstance (by decide +kernel) (da_cons (dv 0) (da_cons (de_ty (by rfl) m_tuple (by decide +kernel)) (da_nil)))))) (dw_or1 (dt_not (dt_chain o_le o_le (de_int) (de_callB b_len (by rfl) m_len PySem.boot_len (da_cons (dv 0) (da_nil))) (de_num (by rfl) hc_MAX_PROCESSES)))))) (dss_one (ds_ret (de_tup (da_cons (de_str) (da_nil))))) (dss_nil))
    (dss_cons (ds_for PassesOwn.never rfl (di_enum (by rfl) m_enumerate (da_cons (dv 0) (da_nil))) (dg_tup rfl (dgs_cons (dg_name (i := 1) nd rfl (by first | exact .inl rfl | exact .inr rfl)) (dgs_cons (dg_name (i := 2) nd rfl (by first | exact .inl rfl | exact .inr rfl)) (dgs_nil)))) (dss_one (ds_if (dt_not (dt_val (de_callB b_isi (by rfl) m_isinstance (by decide +kernel) (da_cons (dv 2) (da_cons (de_ty (by rfl) m_tuple (by decide +kernel)) (da_nil)))))) (dss_one (ds_ret (de_tup (da_cons (de_str) (da_cons (dv 1) (da_nil)))))) (dss_nil))))
    (dss_cons (ds_if (dt_cmp o_gt (de_callo D_event_count (hr.mono (by decide)) (by rfl) (da_cons (dv 0) (da_nil))) (de_num (by rfl) hc_MAX_EVENTS)) (dss_one (ds_ret (de_tup (da_cons (de_str) (da_nil))))) (dss_nil))
    (dss_one (ds_ret (de_non)))))
abbrev s_placed_events : Stmt := topS 21
theorem sc_placed_events : GScope ["rows", "process", "row", "place", "event"] ["rows"] (defScope s_placed_events) := ⟨rfl, rfl, rfl, by decide +kernel, rfl, by decide +kernel, by decide +kernel⟩
set_option maxHeartbeats 4000000 in
theorem der_placed_events {P : Program} {w : World} {K : PySem.W.Frag} {mg : Str → Option Value} {base : Heap} {f : Addr} {fd : FuncData} (F : Fun K "placed_events" "placed_events" s_placed_events f fd)  (m_enumerate : mg "enumerate" = none) (hb : Binds K fd ["rows"] []) : GMk P w K mg base 0 f (dGfn 1 5 B_placed_events_e217) := by
  have nd := sc_placed_events.nd
  refine gmk_of F sc_placed_events rfl (by decide +kernel) hb (fun _ _ => rfl) fun g hg G out => ?_
  obtain ⟨P', w', K', mg', base', N', q', sc', f', cdv, L, k'⟩ := g
  obtain ⟨h1, h2, h3, h4, h5, h6, h7, h8, h9, h10⟩ := hg
  dsimp only at h1 h2 h3 h4 h5 h6 h7 h8 h9 h10
  subst h1 h2 h3 h4 h5 h6 h7 h8 h9 h10
  have ux : ∀ {A : Around} (j : Nat), j < 200 → Room 0 A → A.units + j < cLine := fun j hj hr => by have := hr.un; omega
  unfold B_placed_events_e217
  exact dj_cons (dj_for G (fun w E => by have hr : Room 0 _ := E.cv; have u64 := hr.units; have u65 := ux 65 (by omega) hr; have u1 := ux 1 (by omega) hr; exact (di_enT (by rfl) m_enumerate (da_cons (dv 0) (da_nil)))) (fun w E => by have hr : Room 0 _ := E.cv; have u64 := hr.units; have u65 := ux 65 (by omega) hr; have u1 := ux 1 (by omega) hr; exact (dg_tup rfl (dgs_cons (dg_name (i := 1) nd rfl (by first | exact .inl rfl | exact .inr rfl)) (dgs_cons (dg_name (i := 2) nd rfl (by first | exact .inl rfl | exact .inr rfl)) (dgs_nil))))) (dj_cons (dj_for G (fun w E => by have hr : Room 0 _ := E.cv; have u64 := hr.units; have u65 := ux 65 (by omega) hr; have u1 := ux 1 (by omega) hr; exact (di_enT (by rfl) m_enumerate (da_cons (dv 2) (da_nil)))) (fun w E => by have hr : Room 0 _ := E.cv; have u64 := hr.units; have u65 := ux 65 (by omega) hr; have u1 := ux 1 (by omega) hr; exact (dg_tup rfl (dgs_cons (dg_name (i := 3) nd rfl (by first | exact .inl rfl | exact .inr rfl)) (dgs_cons (dg_name (i := 4) nd rfl (by first | exact .inl rfl | exact .inr rfl)) (dgs_nil))))) (dj_cons (dj_yield G (fun w E => by have hr : Room 0 _ := E.cv; have u64 := hr.units; have u65 := ux 65 (by omega) hr; have u1 := ux 1 (by omega) hr; exact (de_tup (da_cons (dv 1) (da_cons (dv 3) (da_cons (dv 4) (da_nil)))))))
    (dj_nil)))
    (dj_nil)))
    (dj_nil)
abbrev s_is_number : Stmt := topS 10
theorem sc_is_number : FnScope ["value"] ["value"] (defScope s_is_number) := ⟨rfl, rfl, rfl, by decide +kernel, rfl, by decide +kernel, by decide +kernel⟩
set_option maxHeartbeats 4000000 in
theorem der_is_number {P : Program} {w : World} {K : PySem.W.Frag} {mg : Str → Option Value} {base : Heap} {f : Addr} {fd : FuncData} (F : Fun K "is_number" "is_number" s_is_number f fd)  (m_int : mg "int" = none) (m_isinstance : mg "isinstance" = none) (m_bool : mg "bool" = none): FnOk P w K mg base CX0 1 f fd ["value"] (lP ⟨P, w, K⟩ 1 (dFn 1 B_is_number_52f5)) := by
  refine fn_o F sc_is_number rfl fun cdv A outer s H E hr => ?_
  have nd := sc_is_number.nd
  have u64 := hr.units
  have u65 : (A.deeper (envOfC "is_number" (defScope s_is_number) s.heap.objs.size f cdv)).units + 65 < cLine := by have := hr.un; omega
  have u1 : (A.deeper (envOfC "is_number" (defScope s_is_number) s.heap.objs.size f cdv)).units + 1 < cLine := by have := hr.un; omega
  unfold B_is_number_52f5
  exact dss_one (ds_ret (de_and (de_callB b_isi (by rfl) m_isinstance (by decide +kernel) (da_cons (dv 0) (da_cons (de_ty (by rfl) m_int (by decide +kernel)) (da_nil)))) (de_one (de_not (de_callB b_isi (by rfl) m_isinstance (by decide +kernel) (da_cons (dv 0) (da_cons (de_ty (by rfl) m_bool (by decide +kernel)) (da_nil))))))))
abbrev s_is_number_within : Stmt := topS 11
theorem sc_is_number_within : FnScope ["value", "low", "high"] ["value", "low", "high"] (defScope s_is_number_within) := ⟨rfl, rfl, rfl, by decide +kernel, rfl, by decide +kernel, by decide +kernel⟩
set_option maxHeartbeats 4000000 in
theorem der_is_number_within {P : Program} {w : World} {K : PySem.W.Frag} {mg : Str → Option Value} {base : Heap} {f : Addr} {fd : FuncData} (F : Fun K "is_number_within" "is_number_within" s_is_number_within f fd) (D_is_number : DFo P w K mg base 1 "is_number" 1 (dFn 1 B_is_number_52f5)): FnOk P w K mg base CX0 2 f fd ["value", "low", "high"] (lP ⟨P, w, K⟩ 3 (dFn 3 B_is_number_within_7f04)) := by
  refine fn_o F sc_is_number_within rfl fun cdv A outer s H E hr => ?_
  have nd := sc_is_number_within.nd
  have u64 := hr.units
  have u65 : (A.deeper (envOfC "is_number_within" (defScope s_is_number_within) s.heap.objs.size f cdv)).units + 65 < cLine := by have := hr.un; omega
  have u1 : (A.deeper (envOfC "is_number_within" (defScope s_is_number_within) s.heap.objs.size f cdv)).units + 1 < cLine := by have := hr.un; omega
  unfold B_is_number_within_7f04
  exact dss_one (ds_ret (de_and (de_callo D_is_number (hr.mono (by decide)) (by rfl) (da_cons (dv 0) (da_nil))) (de_one (de_chain o_le o_le (dv 1) (dv 0) (dv 2)))))
abbrev s_event_error : Stmt := topS 16
theorem sc_event_error : FnScope ["rows", "process", "place", "event"] ["rows"] (defScope s_event_error) := ⟨rfl, rfl, rfl, by decide +kernel, rfl, by decide +kernel, by decide +kernel⟩
set_option maxHeartbeats 4000000 in
theorem der_event_error {P : Program} {w : World} {K : PySem.W.Frag} {mg : Str → Option Value} {base : Heap} {f : Addr} {fd : FuncData} (F : Fun K "event_error" "event_error" s_event_error f fd) (D_placed_events : DGf P w K mg base 0 "placed_events" (dGfn 1 5 B_placed_events_e217)) (D_is_number_within : DFo P w K mg base 2 "is_number_within" 3 (dFn 3 B_is_number_within_7f04)) {t_MAX_MESSAGES : Tok} (hc_MAX_MESSAGES : mg "MAX_MESSAGES" = some (.int 24 t_MAX_MESSAGES)): FnOk P w K mg base CX0 3 f fd ["rows"] (lP ⟨P, w, K⟩ 1 (dFn 4 B_event_error_3c54)) := by
  refine fn_o F sc_event_error rfl fun cdv A outer s H E hr => ?_
  have nd := sc_event_error.nd
  have u64 := hr.units
  have u65 : (A.deeper (envOfC "event_error" (defScope s_event_error) s.heap.objs.size f cdv)).units + 65 < cLine := by have := hr.un; omega
  have u1 : (A.deeper (envOfC "event_error" (defScope s_event_error) s.heap.objs.size f cdv)).units + 1 < cLine := by have := hr.un; omega
  unfold B_event_error_3c54
  exact dss_cons (ds_forG (fun _ _ z => z) PassesOwn.never (pgi_call D_placed_events rfl (hr.mono (by decide)) (by rfl) (da_cons (dv 0) (da_nil))) (dg_tup rfl (dgs_cons (dg_name (i := 1) nd rfl (by first | exact .inl rfl | exact .inr rfl)) (dgs_cons (dg_name (i := 2) nd rfl (by first | exact .inl rfl | exact .inr rfl)) (dgs_cons (dg_name (i := 3) nd rfl (by first | exact .inl rfl | exact .inr rfl)) (dgs_nil))))) (dss_one (ds_if (dt_not (dt_val (de_callo D_is_number_within (hr.mono (by decide)) (by rfl) (da_cons (dv 3) (da_cons (de_un o_neg (de_num (by rfl) hc_MAX_MESSAGES)) (da_cons (de_num (by rfl) hc_MAX_MESSAGES) (da_nil))))))) (dss_one (ds_ret (de_tup (da_cons (de_str) (da_cons (dv 1) (da_cons (dv 2) (da_nil))))))) (dss_nil))))
    (dss_one (ds_ret (de_non)))
abbrev s_twice_error : Stmt := topS 17
theorem sc_twice_error : FnScope ["rows", "seen", "process", "place", "event"] ["rows"] (defScope s_twice_error) := ⟨rfl, rfl, rfl, by decide +kernel, rfl, by decide +kernel, by decide +kernel⟩
set_option maxHeartbeats 4000000 in
theorem der_twice_error {P : Program} {w : World} {K : PySem.W.Frag} {mg : Str → Option Value} {base : Heap} {f : Addr} {fd : FuncData} (F : Fun K "twice_error" "twice_error" s_twice_error f fd) (D_placed_events : DGf P w K mg base 0 "placed_events" (dGfn 1 5 B_placed_events_e217)) (m_set : mg "set" = none): FnOk P w K mg base CX0 3 f fd ["rows"] (lP ⟨P, w, K⟩ 1 (dFn 5 B_twice_error_125f)) := by
  refine fn_o F sc_twice_error rfl fun cdv A outer s H E hr => ?_
  have nd := sc_twice_error.nd
  have u64 := hr.units
  have u65 : (A.deeper (envOfC "twice_error" (defScope s_twice_error) s.heap.objs.size f cdv)).units + 65 < cLine := by have := hr.un; omega
  have u1 : (A.deeper (envOfC "twice_error" (defScope s_twice_error) s.heap.objs.size f cdv)).units + 1 < cLine := by have := hr.un; omega
  unfold B_twice_error_125f
  exact dss_cons (ds_set (i := 1) nd rfl (by first | exact .inl rfl | exact .inr rfl) (de_set0 (by rfl) m_set (by decide +kernel)))
    (dss_cons (ds_forG (fun _ _ z => z) PassesOwn.never (pgi_call D_placed_events rfl (hr.mono (by decide)) (by rfl) (da_cons (dv 0) (da_nil))) (dg_tup rfl (dgs_cons (dg_name (i := 2) nd rfl (by first | exact .inl rfl | exact .inr rfl)) (dgs_cons (dg_name (i := 3) nd rfl (by first | exact .inl rfl | exact .inr rfl)) (dgs_cons (dg_name (i := 4) nd rfl (by first | exact .inl rfl | exact .inr rfl)) (dgs_nil))))) (dss_cons (ds_if (dt_cmp o_inS (dv 4) (dv 1)) (dss_one (ds_ret (de_tup (da_cons (de_str) (da_cons (dv 2) (da_cons (dv 3) (da_nil))))))) (dss_nil))
    (dss_one (ds_if (dt_cmp (o_ne u64) (dv 4) (de_int)) (dss_one (ds_expr (de_sadd (dv 1) (da_cons (dv 4) (da_nil))))) (dss_nil)))))
    (dss_one (ds_ret (de_non))))
abbrev s_is_sent_by_another : Stmt := topS 22
theorem sc_is_sent_by_another : FnScope ["rows", "process", "message", "sender", "row"] ["rows", "process", "message"] (defScope s_is_sent_by_another) := ⟨rfl, rfl, rfl, by decide +kernel, rfl, by decide +kernel, by decide +kernel⟩
set_option maxHeartbeats 4000000 in
theorem der_is_sent_by_another {P : Program} {w : World} {K : PySem.W.Frag} {mg : Str → Option Value} {base : Heap} {f : Addr} {fd : FuncData} (F : Fun K "is_sent_by_another" "is_sent_by_another" s_is_sent_by_another f fd)  (m_enumerate : mg "enumerate" = none) (m_any : mg "any" = none): FnOk P w K mg base CX0 1 f fd ["rows", "process", "message"] (lP ⟨P, w, K⟩ 3 (dFn 5 B_is_sent_by_another_87f2)) := by
  refine fn_o F sc_is_sent_by_another rfl fun cdv A outer s H E hr => ?_
  have nd := sc_is_sent_by_another.nd
  have u64 := hr.units
  have u65 : (A.deeper (envOfC "is_sent_by_another" (defScope s_is_sent_by_another) s.heap.objs.size f cdv)).units + 65 < cLine := by have := hr.un; omega
  have u1 : (A.deeper (envOfC "is_sent_by_another" (defScope s_is_sent_by_another) s.heap.objs.size f cdv)).units + 1 < cLine := by have := hr.un; omega
  unfold B_is_sent_by_another_87f2
  exact dss_one (ds_ret (de_callB (b_any rfl) (by rfl) m_any (by decide +kernel) (da_cons (de_lc (own := [("sender", 3), ("row", 4)]) rfl nd (di_enum (by rfl) m_enumerate (da_cons (dv 0) (da_nil))) (blkOk_by (by first | decide +kernel | rfl)) (by decide) (fun _ _ _ _ _ => dg_tup rfl (dgs_cons (dg_name (i := 3) nd rfl (by first | exact .inl rfl | exact .inr rfl)) (dgs_cons (dg_name (i := 4) nd rfl (by first | exact .inl rfl | exact .inr rfl)) (dgs_nil)))) (fun _ _ _ _ _ => dts_one (dt_cmp (o_ne u64) (dv 3) (dv 1))) (fun _ _ _ _ _ => de_cmp (o_in u65) (dv 2) (dv 4))) (da_nil))))
abbrev s_unsent_error : Stmt := topS 18
theorem sc_unsent_error : FnScope ["rows", "process", "place", "event"] ["rows"] (defScope s_unsent_error) := ⟨rfl, rfl, rfl, by decide +kernel, rfl, by decide +kernel, by decide +kernel⟩
set_option maxHeartbeats 4000000 in
theorem der_unsent_error {P : Program} {w : World} {K : PySem.W.Frag} {mg : Str → Option Value} {base : Heap} {f : Addr} {fd : FuncData} (F : Fun K "unsent_error" "unsent_error" s_unsent_error f fd) (D_placed_events : DGf P w K mg base 0 "placed_events" (dGfn 1 5 B_placed_events_e217)) (D_is_sent_by_another : DFo P w K mg base 1 "is_sent_by_another" 3 (dFn 5 B_is_sent_by_another_87f2)): FnOk P w K mg base CX0 3 f fd ["rows"] (lP ⟨P, w, K⟩ 1 (dFn 4 B_unsent_error_5d57)) := by
  refine fn_o F sc_unsent_error rfl fun cdv A outer s H E hr => ?_
  have nd := sc_unsent_error.nd
  have u64 := hr.units
  have u65 : (A.deeper (envOfC "unsent_error" (defScope s_unsent_error) s.heap.objs.size f cdv)).units + 65 < cLine := by have := hr.un; omega
  have u1 : (A.deeper (envOfC "unsent_error" (defScope s_unsent_error) s.heap.objs.size f cdv)).units + 1 < cLine := by have := hr.un; omega
  unfold B_unsent_error_5d57
  exact dss_cons (ds_forG (fun _ _ z => z) PassesOwn.never (pgi_call D_placed_events rfl (hr.mono (by decide)) (by rfl) (da_cons (dv 0) (da_nil))) (dg_tup rfl (dgs_cons (dg_name (i := 1) nd rfl (by first | exact .inl rfl | exact .inr rfl)) (dgs_cons (dg_name (i := 2) nd rfl (by first | exact .inl rfl | exact .inr rfl)) (dgs_cons (dg_name (i := 3) nd rfl (by first | exact .inl rfl | exact .inr rfl)) (dgs_nil))))) (dss_one (ds_if (DW.dt (dw_and (dt_cmp o_lt (dv 3) (de_int)) (dw_and1 (dt_not (dt_val (de_callo D_is_sent_by_another (hr.mono (by decide)) (by rfl) (da_cons (dv 0) (da_cons (dv 1) (da_cons (de_un o_neg (dv 3)) (da_nil)))))))))) (dss_one (ds_ret (de_tup (da_cons (de_str) (da_cons (dv 1) (da_cons (dv 2) (da_nil))))))) (dss_nil))))
    (dss_one (ds_ret (de_non)))
abbrev s_ready_process : Stmt := topS 24
theorem sc_ready_process : FnScope ["history", "places", "happened", "process", "row", "event"] ["history", "places", "happened"] (defScope s_ready_process) := ⟨rfl, rfl, rfl, by decide +kernel, rfl, by decide +kernel, by decide +kernel⟩
set_option maxHeartbeats 4000000 in
theorem der_ready_process {P : Program} {w : World} {K : PySem.W.Frag} {mg : Str → Option Value} {base : Heap} {f : Addr} {fd : FuncData} (F : Fun K "ready_process" "ready_process" s_ready_process f fd)  (m_enumerate : mg "enumerate" = none) (m_len : mg "len" = none): FnOk P w K mg base CX0 1 f fd ["history", "places", "happened"] (lP ⟨P, w, K⟩ 3 (dFn 6 B_ready_process_c75e)) := by
  refine fn_o F sc_ready_process rfl fun cdv A outer s H E hr => ?_
  have nd := sc_ready_process.nd
  have u64 := hr.units
  have u65 : (A.deeper (envOfC "ready_process" (defScope s_ready_process) s.heap.objs.size f cdv)).units + 65 < cLine := by have := hr.un; omega
  have u1 : (A.deeper (envOfC "ready_process" (defScope s_ready_process) s.heap.objs.size f cdv)).units + 1 < cLine := by have := hr.un; omega
  unfold B_ready_process_c75e
  exact dss_cons (ds_for PassesOwn.never rfl (di_enum (by rfl) m_enumerate (da_cons (dv 0) (da_nil))) (dg_tup rfl (dgs_cons (dg_name (i := 3) nd rfl (by first | exact .inl rfl | exact .inr rfl)) (dgs_cons (dg_name (i := 4) nd rfl (by first | exact .inl rfl | exact .inr rfl)) (dgs_nil)))) (dss_one (ds_if (dt_cmp o_lt (de_ix o_ix (dv 1) (dv 3)) (de_callB b_len (by rfl) m_len PySem.boot_len (da_cons (dv 4) (da_nil)))) (dss_cons (ds_set (i := 5) nd rfl (by first | exact .inl rfl | exact .inr rfl) (de_ix o_ix (dv 4) (de_ix o_ix (dv 1) (dv 3))))
    (dss_one (ds_if (DW.dt (dw_or (dt_cmp o_ge (dv 5) (de_int)) (dw_or1 (dt_din u1 (de_un o_neg (dv 5)) (dv 2))))) (dss_one (ds_ret (dv 3))) (dss_nil)))) (dss_nil))))
    (dss_one (ds_ret (de_non)))
abbrev s_some_order : Stmt := topS 23
theorem sc_some_order : GScope ["history", "places", "happened", "process", "event"] ["history"] (defScope s_some_order) := ⟨rfl, rfl, rfl, by decide +kernel, rfl, by decide +kernel, by decide +kernel⟩
set_option maxHeartbeats 4000000 in
theorem der_some_order {P : Program} {w : World} {K : PySem.W.Frag} {mg : Str → Option Value} {base : Heap} {f : Addr} {fd : FuncData} (F : Fun K "some_order" "some_order" s_some_order f fd) (D_ready_process : DFo P w K mg base 1 "ready_process" 3 (dFn 6 B_ready_process_c75e)) (m_len : mg "len" = none) (hb : Binds K fd ["history"] []) : GMk P w K mg base 1 f (dGfn 1 5 B_some_order_66e8) := by
  have nd := sc_some_order.nd
  refine gmk_of F sc_some_order rfl (by decide +kernel) hb (fun _ _ => rfl) fun g hg G out => ?_
  obtain ⟨P', w', K', mg', base', N', q', sc', f', cdv, L, k'⟩ := g
  obtain ⟨h1, h2, h3, h4, h5, h6, h7, h8, h9, h10⟩ := hg
  dsimp only at h1 h2 h3 h4 h5 h6 h7 h8 h9 h10
  subst h1 h2 h3 h4 h5 h6 h7 h8 h9 h10
  have ux : ∀ {A : Around} (j : Nat), j < 200 → Room 1 A → A.units + j < cLine := fun j hj hr => by have := hr.un; omega
  unfold B_some_order_66e8
  exact dj_cons (dj_ps (fun w E => by have hr : Room 1 _ := E.cv; have u64 := hr.units; have u65 := ux 65 (by omega) hr; have u1 := ux 1 (by omega) hr; exact (ds_set (i := 1) nd rfl (by first | exact .inl rfl | exact .inr rfl) (de_bin o_mul (de_lst (da_cons (de_int) (da_nil))) (de_callB b_len (by rfl) m_len PySem.boot_len (da_cons (dv 0) (da_nil)))))))
    (dj_cons (dj_ps (fun w E => by have hr : Room 1 _ := E.cv; have u64 := hr.units; have u65 := ux 65 (by omega) hr; have u1 := ux 1 (by omega) hr; exact (ds_set (i := 2) nd rfl (by first | exact .inl rfl | exact .inr rfl) (de_dnew))))
    (dj_cons (dj_ps (fun w E => by have hr : Room 1 _ := E.cv; have u64 := hr.units; have u65 := ux 65 (by omega) hr; have u1 := ux 1 (by omega) hr; exact (ds_set (i := 3) nd rfl (by first | exact .inl rfl | exact .inr rfl) (de_callo D_ready_process (hr.mono (by decide)) (by rfl) (da_cons (dv 0) (da_cons (dv 1) (da_cons (dv 2) (da_nil))))))))
    (dj_cons (dj_while (fun w E => by have hr : Room 1 _ := E.cv; have u64 := hr.units; have u65 := ux 65 (by omega) hr; have u1 := ux 1 (by omega) hr; exact (dt_notN (dv 3))) (dj_cons (dj_ps (fun w E => by have hr : Room 1 _ := E.cv; have u64 := hr.units; have u65 := ux 65 (by omega) hr; have u1 := ux 1 (by omega) hr; exact (ds_set (i := 4) nd rfl (by first | exact .inl rfl | exact .inr rfl) (de_ix o_ix (de_ix o_ix (dv 0) (dv 3)) (de_ix o_ix (dv 1) (dv 3))))))
    (dj_cons (dj_ps (fun w E => by have hr : Room 1 _ := E.cv; have u64 := hr.units; have u65 := ux 65 (by omega) hr; have u1 := ux 1 (by omega) hr; exact (ds_augL ip_add (dv 1) (dv 3) (de_int))))
    (dj_cons (dj_ps (fun w E => by have hr : Room 1 _ := E.cv; have u64 := hr.units; have u65 := ux 65 (by omega) hr; have u1 := ux 1 (by omega) hr; exact (ds_dput u1 (dv 2) (dv 4) (de_bl))))
    (dj_cons (dj_yield G (fun w E => by have hr : Room 1 _ := E.cv; have u64 := hr.units; have u65 := ux 65 (by omega) hr; have u1 := ux 1 (by omega) hr; exact (de_tup (da_cons (dv 3) (da_cons (dv 4) (da_nil))))))
    (dj_cons (dj_ps (fun w E => by have hr : Room 1 _ := E.cv; have u64 := hr.units; have u65 := ux 65 (by omega) hr; have u1 := ux 1 (by omega) hr; exact (ds_set (i := 3) nd rfl (by first | exact .inl rfl | exact .inr rfl) (de_callo D_ready_process (hr.mono (by decide)) (by rfl) (da_cons (dv 0) (da_cons (dv 1) (da_cons (dv 2) (da_nil))))))))
    (dj_nil)))))))
    (dj_nil))))
abbrev s_circle_error : Stmt := topS 19
theorem sc_circle_error : FnScope ["rows"] ["rows"] (defScope s_circle_error) := ⟨rfl, rfl, rfl, by decide +kernel, rfl, by decide +kernel, by decide +kernel⟩
set_option maxHeartbeats 4000000 in
theorem der_circle_error {P : Program} {w : World} {K : PySem.W.Frag} {mg : Str → Option Value} {base : Heap} {f : Addr} {fd : FuncData} (F : Fun K "circle_error" "circle_error" s_circle_error f fd) (D_some_order : DGf P w K mg base 1 "some_order" (dGfn 1 5 B_some_order_66e8)) (D_event_count : DFo P w K mg base 1 "event_count" 1 (dFn 2 B_event_count_1213)) (m_list : mg "list" = none) (m_len : mg "len" = none): FnOk P w K mg base CX0 4 f fd ["rows"] (lP ⟨P, w, K⟩ 1 (dFn 1 B_circle_error_0309)) := by
  refine fn_o F sc_circle_error rfl fun cdv A outer s H E hr => ?_
  have nd := sc_circle_error.nd
  have u64 := hr.units
  have u65 : (A.deeper (envOfC "circle_error" (defScope s_circle_error) s.heap.objs.size f cdv)).units + 65 < cLine := by have := hr.un; omega
  have u1 : (A.deeper (envOfC "circle_error" (defScope s_circle_error) s.heap.objs.size f cdv)).units + 1 < cLine := by have := hr.un; omega
  unfold B_circle_error_0309
  exact dss_cons (ds_if (dt_cmp o_lt (de_callB b_len (by rfl) m_len PySem.boot_len (da_cons (de_listK (pgi_call D_some_order rfl (hr.mono (by decide)) (by rfl) (da_cons (dv 0) (da_nil))) (by rfl) m_list (by decide +kernel)) (da_nil))) (de_callo D_event_count (hr.mono (by decide)) (by rfl) (da_cons (dv 0) (da_nil)))) (dss_one (ds_ret (de_tup (da_cons (de_str) (da_nil))))) (dss_nil))
    (dss_one (ds_ret (de_non)))
abbrev s_history_error : Stmt := topS 14
theorem sc_history_error : FnScope ["value"] ["value"] (defScope s_history_error) := ⟨rfl, rfl, rfl, by decide +kernel, rfl, by decide +kernel, by decide +kernel⟩
set_option maxHeartbeats 4000000 in
theorem der_history_error {P : Program} {w : World} {K : PySem.W.Frag} {mg : Str → Option Value} {base : Heap} {f : Addr} {fd : FuncData} (F : Fun K "history_error" "history_error" s_history_error f fd) (D_shape_error : DFo P w K mg base 2 "shape_error" 1 (dFn 3 B_shape_error_72a0)) (D_event_error : DFo P w K mg base 3 "event_error" 1 (dFn 4 B_event_error_3c54)) (D_twice_error : DFo P w K mg base 3 "twice_error" 1 (dFn 5 B_twice_error_125f)) (D_unsent_error : DFo P w K mg base 3 "unsent_error" 1 (dFn 4 B_unsent_error_5d57)) (D_circle_error : DFo P w K mg base 4 "circle_error" 1 (dFn 1 B_circle_error_0309)): FnOk P w K mg base CX0 5 f fd ["value"] (lP ⟨P, w, K⟩ 1 (dFn 1 B_history_error_d6f4)) := by
  refine fn_o F sc_history_error rfl fun cdv A outer s H E hr => ?_
  have nd := sc_history_error.nd
  have u64 := hr.units
  have u65 : (A.deeper (envOfC "history_error" (defScope s_history_error) s.heap.objs.size f cdv)).units + 65 < cLine := by have := hr.un; omega
  have u1 : (A.deeper (envOfC "history_error" (defScope s_history_error) s.heap.objs.size f cdv)).units + 1 < cLine := by have := hr.un; omega
  unfold B_history_error_d6f4
  exact dss_one (ds_ret (de_orN (de_callo D_shape_error (hr.mono (by decide)) (by rfl) (da_cons (dv 0) (da_nil))) (de_orN (de_callo D_event_error (hr.mono (by decide)) (by rfl) (da_cons (dv 0) (da_nil))) (de_orN (de_callo D_twice_error (hr.mono (by decide)) (by rfl) (da_cons (dv 0) (da_nil))) (de_orN (de_callo D_unsent_error (hr.mono (by decide)) (by rfl) (da_cons (dv 0) (da_nil))) (de_one (de_callo D_circle_error (hr.mono (by decide)) (by rfl) (da_cons (dv 0) (da_nil)))))))))
abbrev s_is_history : Stmt := topS 13
theorem sc_is_history : FnScope ["value"] ["value"] (defScope s_is_history) := ⟨rfl, rfl, rfl, by decide +kernel, rfl, by decide +kernel, by decide +kernel⟩
set_option maxHeartbeats 4000000 in
theorem der_is_history {P : Program} {w : World} {K : PySem.W.Frag} {mg : Str → Option Value} {base : Heap} {f : Addr} {fd : FuncData} (F : Fun K "is_history" "is_history" s_is_history f fd) (D_history_error : DFo P w K mg base 5 "history_error" 1 (dFn 1 B_history_error_d6f4)): FnOk P w K mg base CX0 6 f fd ["value"] (lP ⟨P, w, K⟩ 1 (dFn 1 B_is_history_be67)) := by
  refine fn_o F sc_is_history rfl fun cdv A outer s H E hr => ?_
  have nd := sc_is_history.nd
  have u64 := hr.units
  have u65 : (A.deeper (envOfC "is_history" (defScope s_is_history) s.heap.objs.size f cdv)).units + 65 < cLine := by have := hr.un; omega
  have u1 : (A.deeper (envOfC "is_history" (defScope s_is_history) s.heap.objs.size f cdv)).units + 1 < cLine := by have := hr.un; omega
  unfold B_is_history_be67
  exact dss_one (ds_ret (de_isN (de_callo D_history_error (hr.mono (by decide)) (by rfl) (da_cons (dv 0) (da_nil)))))
abbrev s__law_same : Stmt := topS 29
theorem sc__law_same : FnScope ["_law_found", "_law_due", "_law_kinds", "_law_k"] ["_law_found", "_law_due"] (defScope s__law_same) := ⟨rfl, rfl, rfl, by decide +kernel, rfl, by decide +kernel, by decide +kernel⟩
set_option maxHeartbeats 4000000 in
theorem der__law_same_1 {P : Program} {w : World} {K : PySem.W.Frag} {mg : Str → Option Value} {base : Heap} {f : Addr} {fd : FuncData} (F : Fun K "_law_same" "_law_same" s__law_same f fd) {b : DTS} (D__law_same : DFo P w K mg base 1 "_law_same" 2 (dFn 4 b)) (m_int : mg "int" = none) (m_isinstance : mg "isinstance" = none) (m_bool : mg "bool" = none) (m_str : mg "str" = none) (m_dict : mg "dict" = none) (m_tuple : mg "tuple" = none) (m_list : mg "list" = none) (m_len : mg "len" = none) (m_range : mg "range" = none): FnOk P w K mg base CX0 2 f fd ["_law_found", "_law_due"] (lP ⟨P, w, K⟩ 2 (dFn 4 (Bs_law_same_9d8a b))) := by
  refine fn_o F sc__law_same rfl fun cdv A outer s H E hr => ?_
  have nd := sc__law_same.nd
  have u64 := hr.units
  have u65 : (A.deeper (envOfC "_law_same" (defScope s__law_same) s.heap.objs.size f cdv)).units + 65 < cLine := by have := hr.un; omega
  have u1 : (A.deeper (envOfC "_law_same" (defScope s__law_same) s.heap.objs.size f cdv)).units + 1 < cLine := by have := hr.un; omega
  unfold Bs_law_same_9d8a
  exact dss_cons (ds_if (dt_val (de_isTL (dv 1) (by rfl) m_isinstance (by rfl) m_tuple (by rfl) m_list)) (dss_cons (ds_set (i := 2) nd rfl (by first | exact .inl rfl | exact .inr rfl) (de_lst (da_cons (de_callB b_isi (by rfl) m_isinstance (by decide +kernel) (da_cons (dv 1) (da_cons (de_ty (by rfl) m_tuple (by decide +kernel)) (da_nil)))) (da_cons (de_callB b_isi (by rfl) m_isinstance (by decide +kernel) (da_cons (dv 1) (da_cons (de_ty (by rfl) m_list (by decide +kernel)) (da_nil)))) (da_nil)))))
    (dss_cons (ds_if (DW.dt (dw_or (dt_cmp (o_ne u64) (de_lst (da_cons (de_callB b_isi (by rfl) m_isinstance (by decide +kernel) (da_cons (dv 0) (da_cons (de_ty (by rfl) m_tuple (by decide +kernel)) (da_nil)))) (da_cons (de_callB b_isi (by rfl) m_isinstance (by decide +kernel) (da_cons (dv 0) (da_cons (de_ty (by rfl) m_list (by decide +kernel)) (da_nil)))) (da_nil)))) (dv 2)) (dw_or1 (dt_cmp (o_ne u64) (de_callB b_len (by rfl) m_len PySem.boot_len (da_cons (dv 0) (da_nil))) (de_callB b_len (by rfl) m_len PySem.boot_len (da_cons (dv 1) (da_nil))))))) (dss_one (ds_ret (de_bl))) (dss_nil))
    (dss_one (ds_ret (de_cmp (o_eq u64) (de_lc (own := [("_law_k", 3)]) rfl nd (di_rg1 (by rfl) m_range (da_cons (de_callB b_len (by rfl) m_len PySem.boot_len (da_cons (dv 1) (da_nil))) (da_nil))) (blkOk_by (by first | decide +kernel | rfl)) (by decide) (fun _ _ _ _ _ => dg_name (i := 3) nd rfl (by first | exact .inl rfl | exact .inr rfl)) (fun _ _ _ _ _ => dts_one (dt_not (dt_val (de_callo D__law_same (hr.mono (by decide)) (by rfl) (da_cons (de_ix o_ix (dv 0) (dv 3)) (da_cons (de_ix o_ix (dv 1) (dv 3)) (da_nil))))))) (fun _ _ _ _ _ => dv 3)) (de_lst (da_nil))))))) (dss_nil))
    (dss_cons (ds_if (dt_val (de_callB b_isi (by rfl) m_isinstance (by decide +kernel) (da_cons (dv 1) (da_cons (de_ty (by rfl) m_dict (by decide +kernel)) (da_nil))))) (dss_one (ds_ret (de_and (de_callB b_isi (by rfl) m_isinstance (by decide +kernel) (da_cons (dv 0) (da_cons (de_ty (by rfl) m_dict (by decide +kernel)) (da_nil)))) (de_one (de_cmp (o_eq u64) (dv 0) (dv 1)))))) (dss_nil))
    (dss_cons (ds_if (dt_isN (dv 1)) (dss_one (ds_ret (de_isN (dv 0)))) (dss_nil))
    (dss_cons (ds_if (dt_val (de_callB b_isi (by rfl) m_isinstance (by decide +kernel) (da_cons (dv 1) (da_cons (de_ty (by rfl) m_str (by decide +kernel)) (da_nil))))) (dss_one (ds_ret (de_and (de_callB b_isi (by rfl) m_isinstance (by decide +kernel) (da_cons (dv 0) (da_cons (de_ty (by rfl) m_str (by decide +kernel)) (da_nil)))) (de_one (de_cmp (o_eq u64) (dv 0) (dv 1)))))) (dss_nil))
    (dss_one (ds_ret (de_and (de_callB b_isi (by rfl) m_isinstance (by decide +kernel) (da_cons (dv 0) (da_cons (de_ty (by rfl) m_int (by decide +kernel)) (da_nil)))) (de_and (de_cmp (o_eq u64) (de_callB b_isi (by rfl) m_isinstance (by decide +kernel) (da_cons (dv 0) (da_cons (de_ty (by rfl) m_bool (by decide +kernel)) (da_nil)))) (de_callB b_isi (by rfl) m_isinstance (by decide +kernel) (da_cons (dv 1) (da_cons (de_ty (by rfl) m_bool (by decide +kernel)) (da_nil))))) (de_one (de_cmp (o_eq u64) (dv 0) (dv 1))))))))))
set_option maxHeartbeats 4000000 in
theorem der__law_same_2 {P : Program} {w : World} {K : PySem.W.Frag} {mg : Str → Option Value} {base : Heap} {f : Addr} {fd : FuncData} (F : Fun K "_law_same" "_law_same" s__law_same f fd) {b : DTS} (D__law_same : DFo P w K mg base 2 "_law_same" 2 (dFn 4 b)) (m_int : mg "int" = none) (m_isinstance : mg "isinstance" = none) (m_bool : mg "bool" = none) (m_str : mg "str" = none) (m_dict : mg "dict" = none) (m_tuple : mg "tuple" = none) (m_list : mg "list" = none) (m_len : mg "len" = none) (m_range : mg "range" = none): FnOk P w K mg base CX0 3 f fd ["_law_found", "_law_due"] (lP ⟨P, w, K⟩ 2 (dFn 4 (Bs_law_same_9d8a b))) := by
  refine fn_o F sc__law_same rfl fun cdv A outer s H E hr => ?_
  have nd := sc__law_same.nd
  have u64 := hr.units
  have u65 : (A.deeper (envOfC "_law_same" (defScope s__law_same) s.heap.objs.size f cdv)).units + 65 < cLine := by have := hr.un; omega
  have u1 : (A.deeper (envOfC "_law_same" (defScope s__law_same) s.heap.objs.size f cdv)).units + 1 < cLine := by have := hr.un; omega
  unfold Bs_law_same_9d8a
  exact dss_cons (ds_if (dt_val (de_isTL (dv 1) (by rfl) m_isinstance (by rfl) m_tuple (by rfl) m_list)) (dss_cons (ds_set (i := 2) nd rfl (by first | exact .inl rfl | exact .inr rfl) (de_lst (da_cons (de_callB b_isi (by rfl) m_isinstance (by decide +kernel) (da_cons (dv 1) (da_cons (de_ty (by rfl) m_tuple (by decide +kernel)) (da_nil)))) (da_cons (de_callB b_isi (by rfl) m_isinstance (by decide +kernel) (da_cons (dv 1) (da_cons (de_ty (by rfl) m_list (by decide +kernel)) (da_nil)))) (da_nil)))))
    (dss_cons (ds_if (DW.dt (dw_or (dt_cmp (o_ne u64) (de_lst (da_cons (de_callB b_isi (by rfl) m_isinstance (by decide +kernel) (da_cons (dv 0) (da_cons (de_ty (by rfl) m_tuple (by decide +kernel)) (da_nil)))) (da_cons (de_callB b_isi (by rfl) m_isinstance (by decide +kernel) (da_cons (dv 0) (da_cons (de_ty (by rfl) m_list (by decide +kernel)) (da_nil)))) (da_nil)))) (dv 2)) (dw_or1 (dt_cmp (o_ne u64) (de_callB b_len (by rfl) m_len PySem.boot_len (da_cons (dv 0) (da_nil))) (de_callB b_len (by rfl) m_len PySem.boot_len (da_cons (dv 1) (da_nil))))))) (dss_one (ds_ret (de_bl))) (dss_nil))
    (dss_one (ds_ret (de_cmp (o_eq u64) (de_lc (own := [("_law_k", 3)]) rfl nd (di_rg1 (by rfl) m_range (da_cons (de_callB b_len (by rfl) m_len PySem.boot_len (da_cons (dv 1) (da_nil))) (da_nil))) (blkOk_by (by first | decide +kernel | rfl)) (by decide) (fun _ _ _ _ _ => dg_name (i := 3) nd rfl (by first | exact .inl rfl | exact .inr rfl)) (fun _ _ _ _ _ => dts_one (dt_not (dt_val (de_callo D__law_same (hr.mono (by decide)) (by rfl) (da_cons (de_ix o_ix (dv 0) (dv 3)) (da_cons (de_ix o_ix (dv 1) (dv 3)) (da_nil))))))) (fun _ _ _ _ _ => dv 3)) (de_lst (da_nil))))))) (dss_nil))
    (dss_cons (ds_if (dt_val (de_callB b_isi (by rfl) m_isinstance (by decide +kernel) (da_cons (dv 1) (da_cons (de_ty (by rfl) m_dict (by decide +kernel)) (da_nil))))) (dss_one (ds_ret (de_and (de_callB b_isi (by rfl) m_isinstance (by decide +kernel) (da_cons (dv 0) (da_cons (de_ty (by rfl) m_dict (by decide +kernel)) (da_nil)))) (de_one (de_cmp (o_eq u64) (dv 0) (dv 1)))))) (dss_nil))
    (dss_cons (ds_if (dt_isN (dv 1)) (dss_one (ds_ret (de_isN (dv 0)))) (dss_nil))
    (dss_cons (ds_if (dt_val (de_callB b_isi (by rfl) m_isinstance (by decide +kernel) (da_cons (dv 1) (da_cons (de_ty (by rfl) m_str (by decide +kernel)) (da_nil))))) (dss_one (ds_ret (de_and (de_callB b_isi (by rfl) m_isinstance (by decide +kernel) (da_cons (dv 0) (da_cons (de_ty (by rfl) m_str (by decide +kernel)) (da_nil)))) (de_one (de_cmp (o_eq u64) (dv 0) (dv 1)))))) (dss_nil))
    (dss_one (ds_ret (de_and (de_callB b_isi (by rfl) m_isinstance (by decide +kernel) (da_cons (dv 0) (da_cons (de_ty (by rfl) m_int (by decide +kernel)) (da_nil)))) (de_and (de_cmp (o_eq u64) (de_callB b_isi (by rfl) m_isinstance (by decide +kernel) (da_cons (dv 0) (da_cons (de_ty (by rfl) m_bool (by decide +kernel)) (da_nil)))) (de_callB b_isi (by rfl) m_isinstance (by decide +kernel) (da_cons (dv 1) (da_cons (de_ty (by rfl) m_bool (by decide +kernel)) (da_nil))))) (de_one (de_cmp (o_eq u64) (dv 0) (dv 1))))))))))
set_option maxHeartbeats 4000000 in
theorem der__law_same_3 {P : Program} {w : World} {K : PySem.W.Frag} {mg : Str → Option Value} {base : Heap} {f : Addr} {fd : FuncData} (F : Fun K "_law_same" "_law_same" s__law_same f fd) {b : DTS} (D__law_same : DFo P w K mg base 3 "_law_same" 2 (dFn 4 b)) (m_int : mg "int" = none) (m_isinstance : mg "isinstance" = none) (m_bool : mg "bool" = none) (m_str : mg "str" = none) (m_dict : mg "dict" = none) (m_tuple : mg "tuple" = none) (m_list : mg "list" = none) (m_len : mg "len" = none) (m_range : mg "range" = none): FnOk P w K mg base CX0 4 f fd ["_law_found", "_law_due"] (lP ⟨P, w, K⟩ 2 (dFn 4 (Bs_law_same_9d8a b))) := by
  refine fn_o F sc__law_same rfl fun cdv A outer s H E hr => ?_
  have nd := sc__law_same.nd
  have u64 := hr.units
  have u65 : (A.deeper (envOfC "_law_same" (defScope s__law_same) s.heap.objs.size f cdv)).units + 65 < cLine := by have := hr.un; omega
  have u1 : (A.deeper (envOfC "_law_same" (defScope s__law_same) s.heap.objs.size f cdv)).units + 1 < cLine := by have := hr.un; omega
  unfold Bs_law_same_9d8a
  exact dss_cons (ds_if (dt_val (de_isTL (dv 1) (by rfl) m_isinstance (by rfl) m_tuple (by rfl) m_list)) (dss_cons (ds_set (i := 2) nd rfl (by first | exact .inl rfl | exact .inr rfl) (de_lst (da_cons (de_callB b_isi (by rfl) m_isinstance (by decide +kernel) (da_cons (dv 1) (da_cons (de_ty (by rfl) m_tuple (by decide +kernel)) (da_nil)))) (da_cons (de_callB b_isi (by rfl) m_isinstance (by decide +kernel) (da_cons (dv 1) (da_cons (de_ty (by rfl) m_list (by decide +kernel)) (da_nil)))) (da_nil)))))
    (dss_cons (ds_if (DW.dt (dw_or (dt_cmp (o_ne u64) (de_lst (da_cons (de_callB b_isi (by rfl) m_isinstance (by decide +kernel) (da_cons (dv 0) (da_cons (de_ty (by rfl) m_tuple (by decide +kernel)) (da_nil)))) (da_cons (de_callB b_isi (by rfl) m_isinstance (by decide +kernel) (da_cons (dv 0) (da_cons (de_ty (by rfl) m_list (by decide +kernel)) (da_nil)))) (da_nil)))) (dv 2)) (dw_or1 (dt_cmp (o_ne u64) (de_callB b_len (by rfl) m_len PySem.boot_len (da_cons (dv 0) (da_nil))) (de_callB b_len (by rfl) m_len PySem.boot_len (da_cons (dv 1) (da_nil))))))) (dss_one (ds_ret (de_bl))) (dss_nil))
    (dss_one (ds_ret (de_cmp (o_eq u64) (de_lc (own := [("_law_k", 3)]) rfl nd (di_rg1 (by rfl) m_range (da_cons (de_callB b_len (by rfl) m_len PySem.boot_len (da_cons (dv 1) (da_nil))) (da_nil))) (blkOk_by (by first | decide +kernel | rfl)) (by decide) (fun _ _ _ _ _ => dg_name (i := 3) nd rfl (by first | exact .inl rfl | exact .inr rfl)) (fun _ _ _ _ _ => dts_one (dt_not (dt_val (de_callo D__law_same (hr.mono (by decide)) (by rfl) (da_cons (de_ix o_ix (dv 0) (dv 3)) (da_cons (de_ix o_ix (dv 1) (dv 3)) (da_nil))))))) (fun _ _ _ _ _ => dv 3)) (de_lst (da_nil))))))) (dss_nil))
    (dss_cons (ds_if (dt_val (de_callB b_isi (by rfl) m_isinstance (by decide +kernel) (da_cons (dv 1) (da_cons (de_ty (by rfl) m_dict (by decide +kernel)) (da_nil))))) (dss_one (ds_ret (de_and (de_callB b_isi (by rfl) m_isinstance (by decide +kernel) (da_cons (dv 0) (da_cons (de_ty (by rfl) m_dict (by decide +kernel)) (da_nil)))) (de_one (de_cmp (o_eq u64) (dv 0) (dv 1)))))) (dss_nil))
    (dss_cons (ds_if (dt_isN (dv 1)) (dss_one (ds_ret (de_isN (dv 0)))) (dss_nil))
    (dss_cons (ds_if (dt_val (de_callB b_isi (by rfl) m_isinstance (by decide +kernel) (da_cons (dv 1) (da_cons (de_ty (by rfl) m_str (by decide +kernel)) (da_nil))))) (dss_one (ds_ret (de_and (de_callB b_isi (by rfl) m_isinstance (by decide +kernel) (da_cons (dv 0) (da_cons (de_ty (by rfl) m_str (by decide +kernel)) (da_nil)))) (de_one (de_cmp (o_eq u64) (dv 0) (dv 1)))))) (dss_nil))
    (dss_one (ds_ret (de_and (de_callB b_isi (by rfl) m_isinstance (by decide +kernel) (da_cons (dv 0) (da_cons (de_ty (by rfl) m_int (by decide +kernel)) (da_nil)))) (de_and (de_cmp (o_eq u64) (de_callB b_isi (by rfl) m_isinstance (by decide +kernel) (da_cons (dv 0) (da_cons (de_ty (by rfl) m_bool (by decide +kernel)) (da_nil)))) (de_callB b_isi (by rfl) m_isinstance (by decide +kernel) (da_cons (dv 1) (da_cons (de_ty (by rfl) m_bool (by decide +kernel)) (da_nil))))) (de_one (de_cmp (o_eq u64) (dv 0) (dv 1))))))))))
set_option maxHeartbeats 4000000 in
theorem der__law_same_4 {P : Program} {w : World} {K : PySem.W.Frag} {mg : Str → Option Value} {base : Heap} {f : Addr} {fd : FuncData} (F : Fun K "_law_same" "_law_same" s__law_same f fd) {b : DTS} (D__law_same : DFo P w K mg base 4 "_law_same" 2 (dFn 4 b)) (m_int : mg "int" = none) (m_isinstance : mg "isinstance" = none) (m_bool : mg "bool" = none) (m_str : mg "str" = none) (m_dict : mg "dict" = none) (m_tuple : mg "tuple" = none) (m_list : mg "list" = none) (m_len : mg "len" = none) (m_range : mg "range" = none): FnOk P w K mg base CX0 5 f fd ["_law_found", "_law_due"] (lP ⟨P, w, K⟩ 2 (dFn 4 (Bs_law_same_9d8a b))) := by
  refine fn_o F sc__law_same rfl fun cdv A outer s H E hr => ?_
  have nd := sc__law_same.nd
  have u64 := hr.units
  have u65 : (A.deeper (envOfC "_law_same" (defScope s__law_same) s.heap.objs.size f cdv)).units + 65 < cLine := by have := hr.un; omega
  have u1 : (A.deeper (envOfC "_law_same" (defScope s__law_same) s.heap.objs.size f cdv)).units + 1 < cLine := by have := hr.un; omega
  unfold Bs_law_same_9d8a
  exact dss_cons (ds_if (dt_val (de_isTL (dv 1) (by rfl) m_isinstance (by rfl) m_tuple (by rfl) m_list)) (dss_cons (ds_set (i := 2) nd rfl (by first | exact .inl rfl | exact .inr rfl) (de_lst (da_cons (de_callB b_isi (by rfl) m_isinstance (by decide +kernel) (da_cons (dv 1) (da_cons (de_ty (by rfl) m_tuple (by decide +kernel)) (da_nil)))) (da_cons (de_callB b_isi (by rfl) m_isinstance (by decide +kernel) (da_cons (dv 1) (da_cons (de_ty (by rfl) m_list (by decide +kernel)) (da_nil)))) (da_nil)))))
    (dss_cons (ds_if (DW.dt (dw_or (dt_cmp (o_ne u64) (de_lst (da_cons (de_callB b_isi (by rfl) m_isinstance (by decide +kernel) (da_cons (dv 0) (da_cons (de_ty (by rfl) m_tuple (by decide +kernel)) (da_nil)))) (da_cons (de_callB b_isi (by rfl) m_isinstance (by decide +kernel) (da_cons (dv 0) (da_cons (de_ty (by rfl) m_list (by decide +kernel)) (da_nil)))) (da_nil)))) (dv 2)) (dw_or1 (dt_cmp (o_ne u64) (de_callB b_len (by rfl) m_len PySem.boot_len (da_cons (dv 0) (da_nil))) (de_callB b_len (by rfl) m_len PySem.boot_len (da_cons (dv 1) (da_nil))))))) (dss_one (ds_ret (de_bl))) (dss_nil))
    (dss_one (ds_ret (de_cmp (o_eq u64) (de_lc (own := [("_law_k", 3)]) rfl nd (di_rg1 (by rfl) m_range (da_cons (de_callB b_len (by rfl) m_len PySem.boot_len (da_cons (dv 1) (da_nil))) (da_nil))) (blkOk_by (by first | decide +kernel | rfl)) (by decide) (fun _ _ _ _ _ => dg_name (i := 3) nd rfl (by first | exact .inl rfl | exact .inr rfl)) (fun _ _ _ _ _ => dts_one (dt_not (dt_val (de_callo D__law_same (hr.mono (by decide)) (by rfl) (da_cons (de_ix o_ix (dv 0) (dv 3)) (da_cons (de_ix o_ix (dv 1) (dv 3)) (da_nil))))))) (fun _ _ _ _ _ => dv 3)) (de_lst (da_nil))))))) (dss_nil))
    (dss_cons (ds_if (dt_val (de_callB b_isi (by rfl) m_isinstance (by decide +kernel) (da_cons (dv 1) (da_cons (de_ty (by rfl) m_dict (by decide +kernel)) (da_nil))))) (dss_one (ds_ret (de_and (de_callB b_isi (by rfl) m_isinstance (by decide +kernel) (da_cons (dv 0) (da_cons (de_ty (by rfl) m_dict (by decide +kernel)) (da_nil)))) (de_one (de_cmp (o_eq u64) (dv 0) (dv 1)))))) (dss_nil))
    (dss_cons (ds_if (dt_isN (dv 1)) (dss_one (ds_ret (de_isN (dv 0)))) (dss_nil))
    (dss_cons (ds_if (dt_val (de_callB b_isi (by rfl) m_isinstance (by decide +kernel) (da_cons (dv 1) (da_cons (de_ty (by rfl) m_str (by decide +kernel)) (da_nil))))) (dss_one (ds_ret (de_and (de_callB b_isi (by rfl) m_isinstance (by decide +kernel) (da_cons (dv 0) (da_cons (de_ty (by rfl) m_str (by decide +kernel)) (da_nil)))) (de_one (de_cmp (o_eq u64) (dv 0) (dv 1)))))) (dss_nil))
    (dss_one (ds_ret (de_and (de_callB b_isi (by rfl) m_isinstance (by decide +kernel) (da_cons (dv 0) (da_cons (de_ty (by rfl) m_int (by decide +kernel)) (da_nil)))) (de_and (de_cmp (o_eq u64) (de_callB b_isi (by rfl) m_isinstance (by decide +kernel) (da_cons (dv 0) (da_cons (de_ty (by rfl) m_bool (by decide +kernel)) (da_nil)))) (de_callB b_isi (by rfl) m_isinstance (by decide +kernel) (da_cons (dv 1) (da_cons (de_ty (by rfl) m_bool (by decide +kernel)) (da_nil))))) (de_one (de_cmp (o_eq u64) (dv 0) (dv 1))))))))))
abbrev s_Rule__save : Stmt := (clsB (topS 1)).getD 2 (.Pass ⟨0, 0, 0, 0⟩)
theorem sc_Rule__save : FnScope ["self", "process"] ["self", "process"] (defScope s_Rule__save) := ⟨rfl, rfl, rfl, by decide +kernel, rfl, by decide +kernel, by decide +kernel⟩
set_option maxHeartbeats 4000000 in
theorem der_Rule__save {P : Program} {w : World} {K : PySem.W.Frag} {mg : Str → Option Value} {base : Heap} {f : Addr} {fd : FuncData} (F : Fun K "save" "Rule.save" s_Rule__save f fd)  : FnOk P w K mg base CX0 1 f fd ["self", "process"] (lP ⟨P, w, K⟩ 2 (dFn 2 B_Rule__save_1a8c)) := by
  refine fn_oq F sc_Rule__save rfl fun cdv A outer s H E hr => ?_
  have nd := sc_Rule__save.nd
  have u64 := hr.units
  have u65 : (A.deeper (envOfC "Rule.save" (defScope s_Rule__save) s.heap.objs.size f cdv)).units + 65 < cLine := by have := hr.un; omega
  have u1 : (A.deeper (envOfC "Rule.save" (defScope s_Rule__save) s.heap.objs.size f cdv)).units + 1 < cLine := by have := hr.un; omega
  unfold B_Rule__save_1a8c
  exact dss_one (ds_pass)
abbrev s_SaveAfterSend__save : Stmt := (clsB (topS 2)).getD 2 (.Pass ⟨0, 0, 0, 0⟩)
theorem sc_SaveAfterSend__save : FnScope ["self", "process"] ["self", "process"] (defScope s_SaveAfterSend__save) := ⟨rfl, rfl, rfl, by decide +kernel, rfl, by decide +kernel, by decide +kernel⟩
set_option maxHeartbeats 4000000 in
theorem der_SaveAfterSend__save {P : Program} {w : World} {K : PySem.W.Frag} {mg : Str → Option Value} {base : Heap} {f : Addr} {fd : FuncData} (F : Fun K "save" "SaveAfterSend.save" s_SaveAfterSend__save f fd)  (A_SaveAfterSend__busy : ClsF K "SaveAfterSend" "busy") (A_SaveAlways__busy : ClsF K "SaveAlways" "busy") : FnOk P w K mg base CX0 1 f fd ["self", "process"] (lP ⟨P, w, K⟩ 2 (dFn 2 B_SaveAfterSend__save_1876)) := by
  refine fn_oq F sc_SaveAfterSend__save rfl fun cdv A outer s H E hr => ?_
  have nd := sc_SaveAfterSend__save.nd
  have u64 := hr.units
  have u65 : (A.deeper (envOfC "SaveAfterSend.save" (defScope s_SaveAfterSend__save) s.heap.objs.size f cdv)).units + 65 < cLine := by have := hr.un; omega
  have u1 : (A.deeper (envOfC "SaveAfterSend.save" (defScope s_SaveAfterSend__save) s.heap.objs.size f cdv)).units + 1 < cLine := by have := hr.un; omega
  unfold B_SaveAfterSend__save_1876
  exact dss_one (ds_asg (b := true) (de_bl) (dg_sub (de_fld (.cons (A_SaveAfterSend__busy) (.cons (A_SaveAlways__busy) (.nil))) (dv 0)) (dv 1)))
abbrev s_SaveAlways__save : Stmt := (clsB (topS 3)).getD 1 (.Pass ⟨0, 0, 0, 0⟩)
theorem sc_SaveAlways__save : NdefX.NScope ["self", "process", "__class__"] ["self", "process"] ["__class__"] (defScope s_SaveAlways__save) := NdefX.nscope_by (by decide +kernel)
set_option maxHeartbeats 4000000 in
theorem der_SaveAlways__save {P : Program} {w : World} {K : PySem.W.Frag} {mg : Str → Option Value} {base : Heap} {f Dc cda cc : Addr} {fd : FuncData} (F : FunS P K mg "save" "SaveAlways.save" s_SaveAlways__save f fd Dc cda cc)  (S_SaveAlways__save__SaveAlways__save : DSup P w K mg base 1 Dc "SaveAlways" "save" 2 (dFn 2 B_SaveAfterSend__save_1876)) : FnOk P w K mg base CX0 2 f fd ["self", "process"] (lP ⟨P, w, K⟩ 2 (dFn 3 B_SaveAlways__save_ec49)) := by
  refine fn_oS F sc_SaveAlways__save rfl fun A outer s H E hr => ?_
  have nd := sc_SaveAlways__save.nd
  have u64 := hr.units
  unfold B_SaveAlways__save_ec49
  exact dssA_cons (dsA_expr (deA_super (k := 1) (supT_of F rfl rfl rfl rfl rfl) (.cons (S_SaveAlways__save__SaveAlways__save.mono (by decide)) (.nil)) (hr.mono (by decide)) (da_cons (dv 1) (da_nil))))
    (dssA_nil)
abbrev s_Rounds__save : Stmt := (clsB (topS 4)).getD 2 (.Pass ⟨0, 0, 0, 0⟩)
theorem sc_Rounds__save : FnScope ["self", "process"] ["self", "process"] (defScope s_Rounds__save) := ⟨rfl, rfl, rfl, by decide +kernel, rfl, by decide +kernel, by decide +kernel⟩
set_option maxHeartbeats 4000000 in
theorem der_Rounds__save {P : Program} {w : World} {K : PySem.W.Frag} {mg : Str → Option Value} {base : Heap} {f : Addr} {fd : FuncData} (F : Fun K "save" "Rounds.save" s_Rounds__save f fd)  (A_Rounds__numbers : ClsF K "Rounds" "numbers") : FnOk P w K mg base CX0 1 f fd ["self", "process"] (lP ⟨P, w, K⟩ 2 (dFn 2 B_Rounds__save_512a)) := by
  refine fn_oq F sc_Rounds__save rfl fun cdv A outer s H E hr => ?_
  have nd := sc_Rounds__save.nd
  have u64 := hr.units
  have u65 : (A.deeper (envOfC "Rounds.save" (defScope s_Rounds__save) s.heap.objs.size f cdv)).units + 65 < cLine := by have := hr.un; omega
  have u1 : (A.deeper (envOfC "Rounds.save" (defScope s_Rounds__save) s.heap.objs.size f cdv)).units + 1 < cLine := by have := hr.un; omega
  unfold B_Rounds__save_512a
  exact dss_one (ds_augL ip_add (de_fld (.cons (A_Rounds__numbers) (.nil)) (dv 0)) (dv 1) (de_int))
abbrev s_Rule__send : Stmt := (clsB (topS 1)).getD 3 (.Pass ⟨0, 0, 0, 0⟩)
theorem sc_Rule__send : FnScope ["self", "process"] ["self", "process"] (defScope s_Rule__send) := ⟨rfl, rfl, rfl, by decide +kernel, rfl, by decide +kernel, by decide +kernel⟩
set_option maxHeartbeats 4000000 in
theorem der_Rule__send {P : Program} {w : World} {K : PySem.W.Frag} {mg : Str → Option Value} {base : Heap} {f : Addr} {fd : FuncData} (F : Fun K "send" "Rule.send" s_Rule__send f fd)  : FnOk P w K mg base CX0 1 f fd ["self", "process"] (lP ⟨P, w, K⟩ 2 (dFn 2 B_Rule__send_4f02)) := by
  refine fn_oq F sc_Rule__send rfl fun cdv A outer s H E hr => ?_
  have nd := sc_Rule__send.nd
  have u64 := hr.units
  have u65 : (A.deeper (envOfC "Rule.send" (defScope s_Rule__send) s.heap.objs.size f cdv)).units + 65 < cLine := by have := hr.un; omega
  have u1 : (A.deeper (envOfC "Rule.send" (defScope s_Rule__send) s.heap.objs.size f cdv)).units + 1 < cLine := by have := hr.un; omega
  unfold B_Rule__send_4f02
  exact dss_one (ds_ret (de_non))
abbrev s_SaveAfterSend__send : Stmt := (clsB (topS 2)).getD 3 (.Pass ⟨0, 0, 0, 0⟩)
theorem sc_SaveAfterSend__send : FnScope ["self", "process"] ["self", "process"] (defScope s_SaveAfterSend__send) := ⟨rfl, rfl, rfl, by decide +kernel, rfl, by decide +kernel, by decide +kernel⟩
set_option maxHeartbeats 4000000 in
theorem der_SaveAfterSend__send {P : Program} {w : World} {K : PySem.W.Frag} {mg : Str → Option Value} {base : Heap} {f : Addr} {fd : FuncData} (F : Fun K "send" "SaveAfterSend.send" s_SaveAfterSend__send f fd)  (A_SaveAfterSend__busy : ClsF K "SaveAfterSend" "busy") (A_SaveAlways__busy : ClsF K "SaveAlways" "busy") : FnOk P w K mg base CX0 1 f fd ["self", "process"] (lP ⟨P, w, K⟩ 2 (dFn 2 B_SaveAfterSend__send_b8d5)) := by
  refine fn_oq F sc_SaveAfterSend__send rfl fun cdv A outer s H E hr => ?_
  have nd := sc_SaveAfterSend__send.nd
  have u64 := hr.units
  have u65 : (A.deeper (envOfC "SaveAfterSend.send" (defScope s_SaveAfterSend__send) s.heap.objs.size f cdv)).units + 65 < cLine := by have := hr.un; omega
  have u1 : (A.deeper (envOfC "SaveAfterSend.send" (defScope s_SaveAfterSend__send) s.heap.objs.size f cdv)).units + 1 < cLine := by have := hr.un; omega
  unfold B_SaveAfterSend__send_b8d5
  exact dss_cons (ds_asg (b := true) (de_bl) (dg_sub (de_fld (.cons (A_SaveAfterSend__busy) (.cons (A_SaveAlways__busy) (.nil))) (dv 0)) (dv 1)))
    (dss_one (ds_ret (de_non)))
abbrev s_SaveAlways__send : Stmt := (clsB (topS 3)).getD 2 (.Pass ⟨0, 0, 0, 0⟩)
theorem sc_SaveAlways__send : NdefX.NScope ["self", "process", "__class__"] ["self", "process"] ["__class__"] (defScope s_SaveAlways__send) := NdefX.nscope_by (by decide +kernel)
set_option maxHeartbeats 4000000 in
theorem der_SaveAlways__send {P : Program} {w : World} {K : PySem.W.Frag} {mg : Str → Option Value} {base : Heap} {f Dc cda cc : Addr} {fd : FuncData} (F : FunS P K mg "send" "SaveAlways.send" s_SaveAlways__send f fd Dc cda cc)  (S_SaveAlways__send__SaveAlways__send : DSup P w K mg base 1 Dc "SaveAlways" "send" 2 (dFn 2 B_SaveAfterSend__send_b8d5)) : FnOk P w K mg base CX0 2 f fd ["self", "process"] (lP ⟨P, w, K⟩ 2 (dFn 3 B_SaveAlways__send_496d)) := by
  refine fn_oS F sc_SaveAlways__send rfl fun A outer s H E hr => ?_
  have nd := sc_SaveAlways__send.nd
  have u64 := hr.units
  unfold B_SaveAlways__send_496d
  exact dssA_cons (dsA_ret (deA_super (k := 1) (supT_of F rfl rfl rfl rfl rfl) (.cons (S_SaveAlways__send__SaveAlways__send.mono (by decide)) (.nil)) (hr.mono (by decide)) (da_cons (dv 1) (da_nil))))
    (dssA_nil)
abbrev s_Rounds__send : Stmt := (clsB (topS 4)).getD 3 (.Pass ⟨0, 0, 0, 0⟩)
theorem sc_Rounds__send : FnScope ["self", "process"] ["self", "process"] (defScope s_Rounds__send) := ⟨rfl, rfl, rfl, by decide +kernel, rfl, by decide +kernel, by decide +kernel⟩
set_option maxHeartbeats 4000000 in
theorem der_Rounds__send {P : Program} {w : World} {K : PySem.W.Frag} {mg : Str → Option Value} {base : Heap} {f : Addr} {fd : FuncData} (F : Fun K "send" "Rounds.send" s_Rounds__send f fd)  (A_Rounds__numbers : ClsF K "Rounds" "numbers") : FnOk P w K mg base CX0 1 f fd ["self", "process"] (lP ⟨P, w, K⟩ 2 (dFn 2 B_Rounds__send_2628)) := by
  refine fn_oq F sc_Rounds__send rfl fun cdv A outer s H E hr => ?_
  have nd := sc_Rounds__send.nd
  have u64 := hr.units
  have u65 : (A.deeper (envOfC "Rounds.send" (defScope s_Rounds__send) s.heap.objs.size f cdv)).units + 65 < cLine := by have := hr.un; omega
  have u1 : (A.deeper (envOfC "Rounds.send" (defScope s_Rounds__send) s.heap.objs.size f cdv)).units + 1 < cLine := by have := hr.un; omega
  unfold B_Rounds__send_2628
  exact dss_one (ds_ret (de_ix o_ix (de_fld (.cons (A_Rounds__numbers) (.nil)) (dv 0)) (dv 1)))
abbrev s_Rule__receive : Stmt := (clsB (topS 1)).getD 4 (.Pass ⟨0, 0, 0, 0⟩)
theorem sc_Rule__receive : FnScope ["self", "process", "note"] ["self", "process", "note"] (defScope s_Rule__receive) := ⟨rfl, rfl, rfl, by decide +kernel, rfl, by decide +kernel, by decide +kernel⟩
set_option maxHeartbeats 4000000 in
theorem der_Rule__receive {P : Program} {w : World} {K : PySem.W.Frag} {mg : Str → Option Value} {base : Heap} {f : Addr} {fd : FuncData} (F : Fun K "receive" "Rule.receive" s_Rule__receive f fd)  : FnOk P w K mg base CX0 1 f fd ["self", "process", "note"] (lP ⟨P, w, K⟩ 3 (dFn 3 B_Rule__receive_a200)) := by
  refine fn_oq F sc_Rule__receive rfl fun cdv A outer s H E hr => ?_
  have nd := sc_Rule__receive.nd
  have u64 := hr.units
  have u65 : (A.deeper (envOfC "Rule.receive" (defScope s_Rule__receive) s.heap.objs.size f cdv)).units + 65 < cLine := by have := hr.un; omega
  have u1 : (A.deeper (envOfC "Rule.receive" (defScope s_Rule__receive) s.heap.objs.size f cdv)).units + 1 < cLine := by have := hr.un; omega
  unfold B_Rule__receive_a200
  exact dss_one (ds_ret (de_bl))
abbrev s_SaveAfterSend__receive : Stmt := (clsB (topS 2)).getD 4 (.Pass ⟨0, 0, 0, 0⟩)
theorem sc_SaveAfterSend__receive : FnScope ["self", "process", "note", "must_save"] ["self", "process", "note"] (defScope s_SaveAfterSend__receive) := ⟨rfl, rfl, rfl, by decide +kernel, rfl, by decide +kernel, by decide +kernel⟩
set_option maxHeartbeats 4000000 in
theorem der_SaveAfterSend__receive {P : Program} {w : World} {K : PySem.W.Frag} {mg : Str → Option Value} {base : Heap} {f : Addr} {fd : FuncData} (F : Fun K "receive" "SaveAfterSend.receive" s_SaveAfterSend__receive f fd)  (A_SaveAfterSend__busy : ClsF K "SaveAfterSend" "busy") (A_SaveAlways__busy : ClsF K "SaveAlways" "busy") (A_SaveAfterSend__wanted : ClsF K "SaveAfterSend" "wanted") (A_SaveAlways__wanted : ClsF K "SaveAlways" "wanted") : FnOk P w K mg base CX0 1 f fd ["self", "process", "note"] (lP ⟨P, w, K⟩ 3 (dFn 4 B_SaveAfterSend__receive_3625)) := by
  refine fn_oq F sc_SaveAfterSend__receive rfl fun cdv A outer s H E hr => ?_
  have nd := sc_SaveAfterSend__receive.nd
  have u64 := hr.units
  have u65 : (A.deeper (envOfC "SaveAfterSend.receive" (defScope s_SaveAfterSend__receive) s.heap.objs.size f cdv)).units + 65 < cLine := by have := hr.un; omega
  have u1 : (A.deeper (envOfC "SaveAfterSend.receive" (defScope s_SaveAfterSend__receive) s.heap.objs.size f cdv)).units + 1 < cLine := by have := hr.un; omega
  unfold B_SaveAfterSend__receive_3625
  exact dss_cons (ds_set (i := 3) nd rfl (by first | exact .inl rfl | exact .inr rfl) (de_ix o_ix (de_fld (.cons (A_SaveAfterSend__busy) (.cons (A_SaveAlways__busy) (.nil))) (dv 0)) (dv 1)))
    (dss_cons (ds_if (dt_val (dv 3)) (dss_cons (ds_fadd (.cons (A_SaveAfterSend__wanted) (.cons (A_SaveAlways__wanted) (.nil))) (dv 0) (de_int))
    (dss_one (ds_asg (b := true) (de_bl) (dg_sub (de_fld (.cons (A_SaveAfterSend__busy) (.cons (A_SaveAlways__busy) (.nil))) (dv 0)) (dv 1))))) (dss_nil))
    (dss_one (ds_ret (dv 3))))
abbrev s_SaveAlways__receive : Stmt := (clsB (topS 3)).getD 3 (.Pass ⟨0, 0, 0, 0⟩)
theorem sc_SaveAlways__receive : NdefX.NScope ["self", "process", "note", "__class__", "must_save"] ["self", "process", "note"] ["__class__"] (defScope s_SaveAlways__receive) := NdefX.nscope_by (by decide +kernel)
set_option maxHeartbeats 4000000 in
theorem der_SaveAlways__receive {P : Program} {w : World} {K : PySem.W.Frag} {mg : Str → Option Value} {base : Heap} {f Dc cda cc : Addr} {fd : FuncData} (F : FunS P K mg "receive" "SaveAlways.receive" s_SaveAlways__receive f fd Dc cda cc)  (A_SaveAlways__busy : ClsF K "SaveAlways" "busy") (S_SaveAlways__receive__SaveAlways__receive : DSup P w K mg base 1 Dc "SaveAlways" "receive" 3 (dFn 4 B_SaveAfterSend__receive_3625)) : FnOk P w K mg base CX0 2 f fd ["self", "process", "note"] (lP ⟨P, w, K⟩ 3 (dFn 5 B_SaveAlways__receive_2317)) := by
  refine fn_oS F sc_SaveAlways__receive rfl fun A outer s H E hr => ?_
  have nd := sc_SaveAlways__receive.nd
  have u64 := hr.units
  unfold B_SaveAlways__receive_2317
  exact dssA_cons (dsA_set (i := 4) nd rfl (by first | exact .inl rfl | exact .inr rfl) (deA_super (k := 1) (supT_of F rfl rfl rfl rfl rfl) (.cons (S_SaveAlways__receive__SaveAlways__receive.mono (by decide)) (.nil)) (hr.mono (by decide)) (da_cons (dv 1) (da_cons (dv 2) (da_nil)))))
    (dssA_cons (dsA_of (ds_asg (b := true) (de_bl) (dg_sub (de_fld (.cons (A_SaveAlways__busy) (.nil)) (dv 0)) (dv 1))))
    (dssA_cons (dsA_of (ds_ret (dv 4)))
    (dssA_nil)))
abbrev s_Rounds__receive : Stmt := (clsB (topS 4)).getD 4 (.Pass ⟨0, 0, 0, 0⟩)
theorem sc_Rounds__receive : FnScope ["self", "process", "note", "must_save"] ["self", "process", "note"] (defScope s_Rounds__receive) := ⟨rfl, rfl, rfl, by decide +kernel, rfl, by decide +kernel, by decide +kernel⟩
set_option maxHeartbeats 4000000 in
theorem der_Rounds__receive {P : Program} {w : World} {K : PySem.W.Frag} {mg : Str → Option Value} {base : Heap} {f : Addr} {fd : FuncData} (F : Fun K "receive" "Rounds.receive" s_Rounds__receive f fd)  (A_Rounds__numbers : ClsF K "Rounds" "numbers") (A_Rounds__wanted : ClsF K "Rounds" "wanted") : FnOk P w K mg base CX0 1 f fd ["self", "process", "note"] (lP ⟨P, w, K⟩ 3 (dFn 4 B_Rounds__receive_9908)) := by
  refine fn_oq F sc_Rounds__receive rfl fun cdv A outer s H E hr => ?_
  have nd := sc_Rounds__receive.nd
  have u64 := hr.units
  have u65 : (A.deeper (envOfC "Rounds.receive" (defScope s_Rounds__receive) s.heap.objs.size f cdv)).units + 65 < cLine := by have := hr.un; omega
  have u1 : (A.deeper (envOfC "Rounds.receive" (defScope s_Rounds__receive) s.heap.objs.size f cdv)).units + 1 < cLine := by have := hr.un; omega
  unfold B_Rounds__receive_9908
  exact dss_cons (ds_set (i := 3) nd rfl (by first | exact .inl rfl | exact .inr rfl) (de_cmp o_gt (dv 2) (de_ix o_ix (de_fld (.cons (A_Rounds__numbers) (.nil)) (dv 0)) (dv 1))))
    (dss_cons (ds_if (dt_val (dv 3)) (dss_cons (ds_fadd (.cons (A_Rounds__wanted) (.nil)) (dv 0) (de_int))
    (dss_one (ds_asg (b := true) (dv 2) (dg_sub (de_fld (.cons (A_Rounds__numbers) (.nil)) (dv 0)) (dv 1))))) (dss_nil))
    (dss_one (ds_ret (dv 3))))
abbrev s_run_plan : Stmt := topS 5
theorem sc_run_plan : FnScope ["rule", "plan", "rows", "notes", "step", "word", "process", "message", "row"] ["rule", "plan"] (defScope s_run_plan) := ⟨rfl, rfl, rfl, by decide +kernel, rfl, by decide +kernel, by decide +kernel⟩
set_option maxHeartbeats 4000000 in
theorem der_run_plan {P : Program} {w : World} {K : PySem.W.Frag} {mg : Str → Option Value} {base : Heap} {f : Addr} {fd : FuncData} (F : Fun K "run_plan" "run_plan" s_run_plan f fd)  (M_Rule__save : DMet P w K mg base 1 "Rule" "save" 2 (dFn 2 B_Rule__save_1a8c)) (M_SaveAfterSend__save : DMet P w K mg base 1 "SaveAfterSend" "save" 2 (dFn 2 B_SaveAfterSend__save_1876)) (M_SaveAlways__save : DMet P w K mg base 2 "SaveAlways" "save" 2 (dFn 3 B_SaveAlways__save_ec49)) (M_Rounds__save : DMet P w K mg base 1 "Rounds" "save" 2 (dFn 2 B_Rounds__save_512a)) (M_Rule__send : DMet P w K mg base 1 "Rule" "send" 2 (dFn 2 B_Rule__send_4f02)) (M_SaveAfterSend__send : DMet P w K mg base 1 "SaveAfterSend" "send" 2 (dFn 2 B_SaveAfterSend__send_b8d5)) (M_SaveAlways__send : DMet P w K mg base 2 "SaveAlways" "send" 2 (dFn 3 B_SaveAlways__send_496d)) (M_Rounds__send : DMet P w K mg base 1 "Rounds" "send" 2 (dFn 2 B_Rounds__send_2628)) (M_Rule__receive : DMet P w K mg base 1 "Rule" "receive" 3 (dFn 3 B_Rule__receive_a200)) (M_SaveAfterSend__receive : DMet P w K mg base 1 "SaveAfterSend" "receive" 3 (dFn 4 B_SaveAfterSend__receive_3625)) (M_SaveAlways__receive : DMet P w K mg base 2 "SaveAlways" "receive" 3 (dFn 5 B_SaveAlways__receive_2317)) (M_Rounds__receive : DMet P w K mg base 1 "Rounds" "receive" 3 (dFn 4 B_Rounds__receive_9908)) (A_Rule__processes : ClsF K "Rule" "processes") (A_SaveAfterSend__processes : ClsF K "SaveAfterSend" "processes") (A_SaveAlways__processes : ClsF K "SaveAlways" "processes") (A_Rounds__processes : ClsF K "Rounds" "processes") (m_tuple : mg "tuple" = none) (m_len : mg "len" = none) (m_range : mg "range" = none): FnOk P w K mg base CX0 3 f fd ["rule", "plan"] (lP ⟨P, w, K⟩ 2 (dFn 9 B_run_plan_ed6f)) := by
  refine fn_o F sc_run_plan rfl fun cdv A outer s H E hr => ?_
  have nd := sc_run_plan.nd
  have u64 := hr.units
  have u65 : (A.deeper (envOfC "run_plan" (defScope s_run_plan) s.heap.objs.size f cdv)).units + 65 < cLine := by have := hr.un; omega
  have u1 : (A.deeper (envOfC "run_plan" (defScope s_run_plan) s.heap.objs.size f cdv)).units + 1 < cLine := by have := hr.un; omega
  unfold B_run_plan_ed6f
  exact dss_cons (ds_setLc (i := 2) (own := [("row", 8)]) rfl nd rfl rfl (sw_true rfl rfl rfl (by decide +kernel)) (di_rg1 (by rfl) m_range (da_cons (de_fld (.cons (A_Rule__processes) (.cons (A_SaveAfterSend__processes) (.cons (A_SaveAlways__processes) (.cons (A_Rounds__processes) (.nil))))) (dv 0)) (da_nil))) (blkOk_by (by first | decide +kernel | rfl)) (by decide) (fun _ _ _ _ _ => dg_name (i := 8) nd rfl (by first | exact .inl rfl | exact .inr rfl)) (fun _ _ _ _ _ => dts_nil) (fun _ _ _ _ _ => de_lst (da_nil)))
    (dss_cons (ds_set (i := 3) nd rfl (by first | exact .inl rfl | exact .inr rfl) (de_lst (da_nil)))
    (dss_cons (ds_for PassesOwn.never rfl (di_val (dv 1)) (dg_name (i := 4) nd rfl (by first | exact .inl rfl | exact .inr rfl)) (dss_cons (ds_asg (b := true) (de_sl (dv 4) (do_none) (do_some (de_int))) (dg_tup rfl (dgs_cons (dg_name (i := 5) nd rfl (by first | exact .inl rfl | exact .inr rfl)) (dgs_cons (dg_name (i := 6) nd rfl (by first | exact .inl rfl | exact .inr rfl)) (dgs_nil)))))
    (dss_one (ds_if (dt_cmp (o_eq u64) (dv 5) (de_str)) (dss_cons (ds_expr (de_meth (k := 2) (.cons (M_Rule__save.mono (by decide)) (.cons (M_SaveAfterSend__save.mono (by decide)) (.cons (M_SaveAlways__save.mono (by decide)) (.cons (M_Rounds__save.mono (by decide)) (.nil))))) (hr.mono (by decide)) (dv 0) (da_cons (dv 6) (da_nil))))
    (dss_one (ds_expr (de_mL PySem.F.slot_list_append PySem.F.type_list_append m_append (de_ix o_ix (dv 2) (dv 6)) (da_cons (de_int) (da_nil)))))) (dss_one (ds_if (dt_cmp (o_eq u64) (dv 5) (de_str)) (dss_cons (ds_expr (de_mL PySem.F.slot_list_append PySem.F.type_list_append m_append (dv 3) (da_cons (de_meth (k := 2) (.cons (M_Rule__send.mono (by decide)) (.cons (M_SaveAfterSend__send.mono (by decide)) (.cons (M_SaveAlways__send.mono (by decide)) (.cons (M_Rounds__send.mono (by decide)) (.nil))))) (hr.mono (by decide)) (dv 0) (da_cons (dv 6) (da_nil))) (da_nil))))
    (dss_one (ds_expr (de_mL PySem.F.slot_list_append PySem.F.type_list_append m_append (de_ix o_ix (dv 2) (dv 6)) (da_cons (de_callB b_len (by rfl) m_len PySem.boot_len (da_cons (dv 3) (da_nil))) (da_nil)))))) (dss_cons (ds_set (i := 7) nd rfl (by first | exact .inl rfl | exact .inr rfl) (de_ix o_ix (dv 4) (de_int)))
    (dss_cons (ds_if (dt_val (de_meth (k := 2) (.cons (M_Rule__receive.mono (by decide)) (.cons (M_SaveAfterSend__receive.mono (by decide)) (.cons (M_SaveAlways__receive.mono (by decide)) (.cons (M_Rounds__receive.mono (by decide)) (.nil))))) (hr.mono (by decide)) (dv 0) (da_cons (dv 6) (da_cons (de_ix o_ix (dv 3) (de_bin o_sub (dv 7) (de_int))) (da_nil))))) (dss_one (ds_expr (de_mL PySem.F.slot_list_append PySem.F.type_list_append m_append (de_ix o_ix (dv 2) (dv 6)) (da_cons (de_int) (da_nil))))) (dss_nil))
    (dss_one (ds_expr (de_mL PySem.F.slot_list_append PySem.F.type_list_append m_append (de_ix o_ix (dv 2) (dv 6)) (da_cons (de_un o_neg (dv 7)) (da_nil)))))))))))))
    (dss_one (ds_ret (de_callTy b_tuple (by rfl) m_tuple (by decide +kernel) (da_cons (de_lc (own := [("row", 8)]) rfl nd (di_val (dv 2)) (blkOk_by (by first | decide +kernel | rfl)) (by decide) (fun _ _ _ _ _ => dg_name (i := 8) nd rfl (by first | exact .inl rfl | exact .inr rfl)) (fun _ _ _ _ _ => dts_nil) (fun _ _ _ _ _ => de_callTy b_tuple (by rfl) m_tuple (by decide +kernel) (da_cons (dv 8) (da_nil)))) (da_nil)))))))
abbrev s_Rule____init__ : Stmt := (clsB (topS 1)).getD 1 (.Pass ⟨0, 0, 0, 0⟩)
theorem sc_Rule____init__ : FnScope ["self", "processes"] ["self", "processes"] (defScope s_Rule____init__) := ⟨rfl, rfl, rfl, by decide +kernel, rfl, by decide +kernel, by decide +kernel⟩
set_option maxHeartbeats 4000000 in
theorem der_Rule____init__ {P : Program} {w : World} {K : PySem.W.Frag} {mg : Str → Option Value} {base : Heap} {f : Addr} {fd : FuncData} (F : Fun K "__init__" "Rule.__init__" s_Rule____init__ f fd)  (A_Rule__wanted : ClsF K "Rule" "wanted") (A_SaveAfterSend__wanted : ClsF K "SaveAfterSend" "wanted") (A_SaveAlways__wanted : ClsF K "SaveAlways" "wanted") (A_Rounds__wanted : ClsF K "Rounds" "wanted") (A_Rule__processes : ClsF K "Rule" "processes") (A_SaveAfterSend__processes : ClsF K "SaveAfterSend" "processes") (A_SaveAlways__processes : ClsF K "SaveAlways" "processes") (A_Rounds__processes : ClsF K "Rounds" "processes") : FnOk P w K mg base CX0 1 f fd ["self", "processes"] (lP ⟨P, w, K⟩ 2 (dFn 2 B_Rule____init___2563)) := by
  refine fn_oq F sc_Rule____init__ rfl fun cdv A outer s H E hr => ?_
  have nd := sc_Rule____init__.nd
  have u64 := hr.units
  have u65 : (A.deeper (envOfC "Rule.__init__" (defScope s_Rule____init__) s.heap.objs.size f cdv)).units + 65 < cLine := by have := hr.un; omega
  have u1 : (A.deeper (envOfC "Rule.__init__" (defScope s_Rule____init__) s.heap.objs.size f cdv)).units + 1 < cLine := by have := hr.un; omega
  unfold B_Rule____init___2563
  exact dss_cons (ds_fset (.cons (A_Rule__processes) (.cons (A_SaveAfterSend__processes) (.cons (A_SaveAlways__processes) (.cons (A_Rounds__processes) (.nil))))) (dv 0) (dv 1))
    (dss_one (ds_fset (.cons (A_Rule__wanted) (.cons (A_SaveAfterSend__wanted) (.cons (A_SaveAlways__wanted) (.cons (A_Rounds__wanted) (.nil))))) (dv 0) (de_int)))
abbrev s_SaveAfterSend____init__ : Stmt := (clsB (topS 2)).getD 1 (.Pass ⟨0, 0, 0, 0⟩)
theorem sc_SaveAfterSend____init__ : NdefX.NScope ["self", "processes", "__class__"] ["self", "processes"] ["__class__"] (defScope s_SaveAfterSend____init__) := NdefX.nscope_by (by decide +kernel)
set_option maxHeartbeats 4000000 in
theorem der_SaveAfterSend____init__ {P : Program} {w : World} {K : PySem.W.Frag} {mg : Str → Option Value} {base : Heap} {f Dc cda cc : Addr} {fd : FuncData} (F : FunS P K mg "__init__" "SaveAfterSend.__init__" s_SaveAfterSend____init__ f fd Dc cda cc)  (A_SaveAfterSend__busy : ClsF K "SaveAfterSend" "busy") (A_SaveAlways__busy : ClsF K "SaveAlways" "busy") (S_SaveAfterSend____init____SaveAfterSend____init__ : DSup P w K mg base 1 Dc "SaveAfterSend" "__init__" 2 (dFn 2 B_Rule____init___2563)) (S_SaveAfterSend____init____SaveAlways____init__ : DSup P w K mg base 1 Dc "SaveAlways" "__init__" 2 (dFn 2 B_Rule____init___2563)) : FnOk P w K mg base CX0 2 f fd ["self", "processes"] (lP ⟨P, w, K⟩ 2 (dFn 3 B_SaveAfterSend____init___fcad)) := by
  refine fn_oS F sc_SaveAfterSend____init__ rfl fun A outer s H E hr => ?_
  have nd := sc_SaveAfterSend____init__.nd
  have u64 := hr.units
  unfold B_SaveAfterSend____init___fcad
  exact dssA_cons (dsA_expr (deA_super (k := 1) (supT_of F rfl rfl rfl rfl rfl) (.cons (S_SaveAfterSend____init____SaveAfterSend____init__.mono (by decide)) (.cons (S_SaveAfterSend____init____SaveAlways____init__.mono (by decide)) (.nil))) (hr.mono (by decide)) (da_cons (dv 1) (da_nil))))
    (dssA_cons (dsA_of (ds_fset (.cons (A_SaveAfterSend__busy) (.cons (A_SaveAlways__busy) (.nil))) (dv 0) (de_bin o_mul (de_lst (da_cons (de_bl) (da_nil))) (dv 1))))
    (dssA_nil))
abbrev s_Rounds____init__ : Stmt := (clsB (topS 4)).getD 1 (.Pass ⟨0, 0, 0, 0⟩)
theorem sc_Rounds____init__ : NdefX.NScope ["self", "processes", "__class__"] ["self", "processes"] ["__class__"] (defScope s_Rounds____init__) := NdefX.nscope_by (by decide +kernel)
set_option maxHeartbeats 4000000 in
theorem der_Rounds____init__ {P : Program} {w : World} {K : PySem.W.Frag} {mg : Str → Option Value} {base : Heap} {f Dc cda cc : Addr} {fd : FuncData} (F : FunS P K mg "__init__" "Rounds.__init__" s_Rounds____init__ f fd Dc cda cc)  (A_Rounds__numbers : ClsF K "Rounds" "numbers") (S_Rounds____init____Rounds____init__ : DSup P w K mg base 1 Dc "Rounds" "__init__" 2 (dFn 2 B_Rule____init___2563)) : FnOk P w K mg base CX0 2 f fd ["self", "processes"] (lP ⟨P, w, K⟩ 2 (dFn 3 B_Rounds____init___8e81)) := by
  refine fn_oS F sc_Rounds____init__ rfl fun A outer s H E hr => ?_
  have nd := sc_Rounds____init__.nd
  have u64 := hr.units
  unfold B_Rounds____init___8e81
  exact dssA_cons (dsA_expr (deA_super (k := 1) (supT_of F rfl rfl rfl rfl rfl) (.cons (S_Rounds____init____Rounds____init__.mono (by decide)) (.nil)) (hr.mono (by decide)) (da_cons (dv 1) (da_nil))))
    (dssA_cons (dsA_of (ds_fset (.cons (A_Rounds__numbers) (.nil)) (dv 0) (de_bin o_mul (de_lst (da_cons (de_int) (da_nil))) (dv 1))))
    (dssA_nil))
abbrev s__law_rule : Stmt := topS 36
theorem sc__law_rule : FnScope ["_law_name", "_law_count"] ["_law_name", "_law_count"] (defScope s__law_rule) := ⟨rfl, rfl, rfl, by decide +kernel, rfl, by decide +kernel, by decide +kernel⟩
set_option maxHeartbeats 4000000 in
theorem der__law_rule {P : Program} {w : World} {K : PySem.W.Frag} {mg : Str → Option Value} {base : Heap} {f : Addr} {fd : FuncData} (F : Fun K "_law_rule" "_law_rule" s__law_rule f fd)  (K_SaveAlways : DMk P w K mg base 2 "SaveAlways" 2 (dFn 3 B_SaveAfterSend____init___fcad)) (K_Rounds : DMk P w K mg base 2 "Rounds" 2 (dFn 3 B_Rounds____init___8e81)) (K_SaveAfterSend : DMk P w K mg base 2 "SaveAfterSend" 2 (dFn 3 B_SaveAfterSend____init___fcad)) (K_Rule : DMk P w K mg base 1 "Rule" 2 (dFn 2 B_Rule____init___2563)): FnOk P w K mg base CX0 4 f fd ["_law_name", "_law_count"] (lP ⟨P, w, K⟩ 2 (dFn 2 B_law_rule_b694)) := by
  refine fn_o F sc__law_rule rfl fun cdv A outer s H E hr => ?_
  have nd := sc__law_rule.nd
  have u64 := hr.units
  have u65 : (A.deeper (envOfC "_law_rule" (defScope s__law_rule) s.heap.objs.size f cdv)).units + 65 < cLine := by have := hr.un; omega
  have u1 : (A.deeper (envOfC "_law_rule" (defScope s__law_rule) s.heap.objs.size f cdv)).units + 1 < cLine := by have := hr.un; omega
  unfold B_law_rule_b694
  exact dss_cons (ds_if (dt_cmp (o_eq u64) (dv 0) (de_str)) (dss_one (ds_ret (de_make K_Rule (hr.mono (by decide)) (by rfl) (da_cons (dv 1) (da_nil))))) (dss_nil))
    (dss_cons (ds_if (dt_cmp (o_eq u64) (dv 0) (de_str)) (dss_one (ds_ret (de_make K_SaveAfterSend (hr.mono (by decide)) (by rfl) (da_cons (dv 1) (da_nil))))) (dss_nil))
    (dss_one (ds_ret (de_ifExp (dt_cmp (o_eq u64) (dv 0) (de_str)) (de_make K_SaveAlways (hr.mono (by decide)) (by rfl) (da_cons (dv 1) (da_nil))) (de_make K_Rounds (hr.mono (by decide)) (by rfl) (da_cons (dv 1) (da_nil)))))))
abbrev s__law_wants : Stmt := topS 33
theorem sc__law_wants : FnScope ["_law_model", "_law_process", "_law_note", "_law_name", "_law_spoke", "_law_heard", "_law_numbers", "_law_total", "_law_must"] ["_law_model", "_law_process", "_law_note"] (defScope s__law_wants) := ⟨rfl, rfl, rfl, by decide +kernel, rfl, by decide +kernel, by decide +kernel⟩
set_option maxHeartbeats 4000000 in
theorem der__law_wants {P : Program} {w : World} {K : PySem.W.Frag} {mg : Str → Option Value} {base : Heap} {f : Addr} {fd : FuncData} (F : Fun K "_law_wants" "_law_wants" s__law_wants f fd)  (m_max : mg "max" = none): FnOk P w K mg base CX0 1 f fd ["_law_model", "_law_process", "_law_note"] (lP ⟨P, w, K⟩ 3 (dFn 9 B_law_wants_1866)) := by
  refine fn_o F sc__law_wants rfl fun cdv A outer s H E hr => ?_
  have nd := sc__law_wants.nd
  have u64 := hr.units
  have u65 : (A.deeper (envOfC "_law_wants" (defScope s__law_wants) s.heap.objs.size f cdv)).units + 65 < cLine := by have := hr.un; omega
  have u1 : (A.deeper (envOfC "_law_wants" (defScope s__law_wants) s.heap.objs.size f cdv)).units + 1 < cLine := by have := hr.un; omega
  unfold B_law_wants_1866
  exact dss_cons (ds_asg (b := true) (dv 0) (dg_tup rfl (dgs_cons (dg_name (i := 3) nd rfl (by first | exact .inl rfl | exact .inr rfl)) (dgs_cons (dg_name (i := 4) nd rfl (by first | exact .inl rfl | exact .inr rfl)) (dgs_cons (dg_name (i := 5) nd rfl (by first | exact .inl rfl | exact .inr rfl)) (dgs_cons (dg_name (i := 6) nd rfl (by first | exact .inl rfl | exact .inr rfl)) (dgs_cons (dg_name (i := 7) nd rfl (by first | exact .inl rfl | exact .inr rfl)) (dgs_nil))))))))
    (dss_cons (ds_set (i := 8) nd rfl (by first | exact .inl rfl | exact .inr rfl) (de_or (de_and (de_cmp (o_in u65) (dv 3) (de_lst (da_cons (de_str) (da_cons (de_str) (da_nil))))) (de_one (de_ix o_ix (dv 4) (dv 1)))) (de_one (de_and (de_cmp (o_eq u64) (dv 3) (de_str)) (de_one (de_ix o_ix (dv 5) (dv 1)))))))
    (dss_cons (ds_if (dt_cmp (o_eq u64) (dv 3) (de_str)) (dss_cons (ds_set (i := 8) nd rfl (by first | exact .inl rfl | exact .inr rfl) (de_cmp o_gt (dv 2) (de_ix o_ix (dv 6) (dv 1))))
    (dss_one (ds_asg (b := true) (de_callB (b_max2 rfl) (by rfl) m_max (by decide +kernel) (da_cons (dv 2) (da_cons (de_ix o_ix (dv 6) (dv 1)) (da_nil)))) (dg_sub (dv 6) (dv 1))))) (dss_nil))
    (dss_cons (ds_if (dt_val (dv 8)) (dss_cons (ds_asg (b := true) (de_bl) (dg_sub (dv 4) (dv 1)))
    (dss_one (ds_asg (b := true) (de_bin o_add (dv 7) (de_int)) (dg_sub (dv 0) (de_int))))) (dss_nil))
    (dss_cons (ds_asg (b := true) (de_bl) (dg_sub (dv 5) (dv 1)))
    (dss_one (ds_ret (dv 8)))))))
abbrev s__law_sent : Stmt := topS 32
theorem sc__law_sent : FnScope ["_law_model", "_law_process", "_law_name", "_law_spoke", "_law_heard", "_law_numbers", "_law_total"] ["_law_model", "_law_process"] (defScope s__law_sent) := ⟨rfl, rfl, rfl, by decide +kernel, rfl, by decide +kernel, by decide +kernel⟩
set_option maxHeartbeats 4000000 in
theorem der__law_sent {P : Program} {w : World} {K : PySem.W.Frag} {mg : Str → Option Value} {base : Heap} {f : Addr} {fd : FuncData} (F : Fun K "_law_sent" "_law_sent" s__law_sent f fd) : FnOk P w K mg base CX0 1 f fd ["_law_model", "_law_process"] (lP ⟨P, w, K⟩ 2 (dFn 7 B_law_sent_854b)) := by
  refine fn_o F sc__law_sent rfl fun cdv A outer s H E hr => ?_
  have nd := sc__law_sent.nd
  have u64 := hr.units
  have u65 : (A.deeper (envOfC "_law_sent" (defScope s__law_sent) s.heap.objs.size f cdv)).units + 65 < cLine := by have := hr.un; omega
  have u1 : (A.deeper (envOfC "_law_sent" (defScope s__law_sent) s.heap.objs.size f cdv)).units + 1 < cLine := by have := hr.un; omega
  unfold B_law_sent_854b
  exact dss_cons (ds_asg (b := true) (dv 0) (dg_tup rfl (dgs_cons (dg_name (i := 2) nd rfl (by first | exact .inl rfl | exact .inr rfl)) (dgs_cons (dg_name (i := 3) nd rfl (by first | exact .inl rfl | exact .inr rfl)) (dgs_cons (dg_name (i := 4) nd rfl (by first | exact .inl rfl | exact .inr rfl)) (dgs_cons (dg_name (i := 5) nd rfl (by first | exact .inl rfl | exact .inr rfl)) (dgs_cons (dg_name (i := 6) nd rfl (by first | exact .inl rfl | exact .inr rfl)) (dgs_nil))))))))
    (dss_cons (ds_asg (b := true) (de_bl) (dg_sub (dv 3) (dv 1)))
    (dss_one (ds_ret (de_ifExp (dt_cmp (o_eq u64) (dv 2) (de_str)) (de_ix o_ix (dv 5) (dv 1)) (de_non)))))
abbrev s__law_saved : Stmt := topS 31
theorem sc__law_saved : FnScope ["_law_model", "_law_process", "_law_name", "_law_spoke", "_law_heard", "_law_numbers", "_law_total"] ["_law_model", "_law_process"] (defScope s__law_saved) := ⟨rfl, rfl, rfl, by decide +kernel, rfl, by decide +kernel, by decide +kernel⟩
set_option maxHeartbeats 4000000 in
theorem der__law_saved {P : Program} {w : World} {K : PySem.W.Frag} {mg : Str → Option Value} {base : Heap} {f : Addr} {fd : FuncData} (F : Fun K "_law_saved" "_law_saved" s__law_saved f fd) : FnOk P w K mg base CX0 1 f fd ["_law_model", "_law_process"] (lP ⟨P, w, K⟩ 2 (dFn 7 B_law_saved_f511)) := by
  refine fn_o F sc__law_saved rfl fun cdv A outer s H E hr => ?_
  have nd := sc__law_saved.nd
  have u64 := hr.units
  have u65 : (A.deeper (envOfC "_law_saved" (defScope s__law_saved) s.heap.objs.size f cdv)).units + 65 < cLine := by have := hr.un; omega
  have u1 : (A.deeper (envOfC "_law_saved" (defScope s__law_saved) s.heap.objs.size f cdv)).units + 1 < cLine := by have := hr.un; omega
  unfold B_law_saved_f511
  exact dss_cons (ds_asg (b := true) (dv 0) (dg_tup rfl (dgs_cons (dg_name (i := 2) nd rfl (by first | exact .inl rfl | exact .inr rfl)) (dgs_cons (dg_name (i := 3) nd rfl (by first | exact .inl rfl | exact .inr rfl)) (dgs_cons (dg_name (i := 4) nd rfl (by first | exact .inl rfl | exact .inr rfl)) (dgs_cons (dg_name (i := 5) nd rfl (by first | exact .inl rfl | exact .inr rfl)) (dgs_cons (dg_name (i := 6) nd rfl (by first | exact .inl rfl | exact .inr rfl)) (dgs_nil))))))))
    (dss_cons (ds_asg (b := true) (de_tup (da_cons (de_bl) (da_cons (de_bl) (da_nil)))) (dg_tup rfl (dgs_cons (dg_sub (dv 3) (dv 1)) (dgs_cons (dg_sub (dv 4) (dv 1)) (dgs_nil)))))
    (dss_one (ds_if (dt_cmp (o_eq u64) (dv 2) (de_str)) (dss_one (ds_asg (b := true) (de_bin o_add (de_ix o_ix (dv 5) (dv 1)) (de_int)) (dg_sub (dv 5) (dv 1)))) (dss_nil))))
abbrev s__law_fresh : Stmt := topS 30
theorem sc__law_fresh : FnScope ["_law_name", "_law_count"] ["_law_name", "_law_count"] (defScope s__law_fresh) := ⟨rfl, rfl, rfl, by decide +kernel, rfl, by decide +kernel, by decide +kernel⟩
set_option maxHeartbeats 4000000 in
theorem der__law_fresh {P : Program} {w : World} {K : PySem.W.Frag} {mg : Str → Option Value} {base : Heap} {f : Addr} {fd : FuncData} (F : Fun K "_law_fresh" "_law_fresh" s__law_fresh f fd) : FnOk P w K mg base CX0 1 f fd ["_law_name", "_law_count"] (lP ⟨P, w, K⟩ 2 (dFn 2 B_law_fresh_213b)) := by
  refine fn_o F sc__law_fresh rfl fun cdv A outer s H E hr => ?_
  have nd := sc__law_fresh.nd
  have u64 := hr.units
  have u65 : (A.deeper (envOfC "_law_fresh" (defScope s__law_fresh) s.heap.objs.size f cdv)).units + 65 < cLine := by have := hr.un; omega
  have u1 : (A.deeper (envOfC "_law_fresh" (defScope s__law_fresh) s.heap.objs.size f cdv)).units + 1 < cLine := by have := hr.un; omega
  unfold B_law_fresh_213b
  exact dss_one (ds_ret (de_lst (da_cons (dv 0) (da_cons (de_bin o_mul (de_lst (da_cons (de_bl) (da_nil))) (dv 1)) (da_cons (de_bin o_mul (de_lst (da_cons (de_bl) (da_nil))) (dv 1)) (da_cons (de_bin o_mul (de_lst (da_cons (de_int) (da_nil))) (dv 1)) (da_cons (de_int) (da_nil))))))))
abbrev s__law_built : Stmt := topS 34
theorem sc__law_built : FnScope ["_law_name", "_law_count", "_law_acts", "_law_model", "_law_rows", "_law_notes", "_law_act", "_law_process", "_law_more"] ["_law_name", "_law_count", "_law_acts"] (defScope s__law_built) := ⟨rfl, rfl, rfl, by decide +kernel, rfl, by decide +kernel, by decide +kernel⟩
set_option maxHeartbeats 4000000 in
theorem der__law_built {P : Program} {w : World} {K : PySem.W.Frag} {mg : Str → Option Value} {base : Heap} {f : Addr} {fd : FuncData} (F : Fun K "_law_built" "_law_built" s__law_built f fd) (D__law_wants : DFo P w K mg base 1 "_law_wants" 3 (dFn 9 B_law_wants_1866)) (D__law_sent : DFo P w K mg base 1 "_law_sent" 2 (dFn 7 B_law_sent_854b)) (D__law_saved : DFo P w K mg base 1 "_law_saved" 2 (dFn 7 B_law_saved_f511)) (D__law_fresh : DFo P w K mg base 1 "_law_fresh" 2 (dFn 2 B_law_fresh_213b)) (m_tuple : mg "tuple" = none) (m_int : mg "int" = none) (m_len : mg "len" = none): FnOk P w K mg base CX0 2 f fd ["_law_name", "_law_count", "_law_acts"] (lP ⟨P, w, K⟩ 3 (dFn 9 B_law_built_25f7)) := by
  refine fn_o F sc__law_built rfl fun cdv A outer s H E hr => ?_
  have nd := sc__law_built.nd
  have u64 := hr.units
  have u65 : (A.deeper (envOfC "_law_built" (defScope s__law_built) s.heap.objs.size f cdv)).units + 65 < cLine := by have := hr.un; omega
  have u1 : (A.deeper (envOfC "_law_built" (defScope s__law_built) s.heap.objs.size f cdv)).units + 1 < cLine := by have := hr.un; omega
  unfold B_law_built_25f7
  exact dss_cons (ds_par3 (i := 3) (j := 4) (l := 5) (by rfl) nd rfl rfl rfl (by decide) (by decide) (by decide) rfl rfl rfl (da_cons (de_callo D__law_fresh (hr.mono (by decide)) (by rfl) (da_cons (dv 0) (da_cons (dv 1) (da_nil)))) (da_cons (de_bin o_mul (de_lst (da_cons (de_tup (da_nil)) (da_nil))) (dv 1)) (da_cons (de_dnew) (da_nil)))) (by rfl))
    (dss_cons (ds_for PassesOwn.never rfl (di_val (dv 2)) (dg_name (i := 6) nd rfl (by first | exact .inl rfl | exact .inr rfl)) (dss_cons (ds_par (i := 7) (j := 8) (by rfl) nd rfl rfl (by decide) rfl rfl (da_cons (de_ix o_ix (dv 6) (de_int)) (da_cons (de_tup (da_cons (de_int) (da_nil))) (da_nil))) (by rfl))
    (dss_cons (ds_if (dt_cmp (o_eq u64) (de_ix o_ix (dv 6) (de_int)) (de_str)) (dss_one (ds_expr (de_callo D__law_saved (hr.mono (by decide)) (by rfl) (da_cons (dv 3) (da_cons (dv 7) (da_nil)))))) (dss_nil))
    (dss_cons (ds_if (dt_cmp (o_eq u64) (de_ix o_ix (dv 6) (de_int)) (de_str)) (dss_cons (ds_set (i := 8) nd rfl (by first | exact .inl rfl | exact .inr rfl) (de_tup (da_cons (de_bin o_add (de_callB b_lenD (by rfl) m_len PySem.boot_len (da_cons (dv 5) (da_nil))) (de_int)) (da_nil))))
    (dss_one (ds_dput u1 (dv 5) (de_ix o_ix (dv 8) (de_int)) (de_callo D__law_sent (hr.mono (by decide)) (by rfl) (da_cons (dv 3) (da_cons (dv 7) (da_nil))))))) (dss_nil))
    (dss_cons (ds_if (dt_cmp (o_eq u64) (de_ix o_ix (dv 6) (de_int)) (de_str)) (dss_one (ds_set (i := 8) nd rfl (by first | exact .inl rfl | exact .inr rfl) (de_bin o_add (de_bin o_mulZ (de_tup (da_cons (de_int) (da_nil))) (de_callTy b_int (by rfl) m_int (by decide +kernel) (da_cons (de_callo D__law_wants (hr.mono (by decide)) (by rfl) (da_cons (dv 3) (da_cons (dv 7) (da_cons (de_dix u1 (dv 5) (de_ix o_ix (dv 6) (de_int))) (da_nil))))) (da_nil)))) (de_tup (da_cons (de_bin o_sub (de_int) (de_ix o_ix (dv 6) (de_int))) (da_nil)))))) (dss_nil))
    (dss_one (ds_asg (b := true) (de_bin o_add (de_ix o_ix (dv 4) (dv 7)) (dv 8)) (dg_sub (dv 4) (dv 7)))))))))
    (dss_one (ds_ret (de_tup (da_cons (de_callTy b_tuple (by rfl) m_tuple (by decide +kernel) (da_cons (dv 4) (da_nil))) (da_cons (de_ix o_ix (dv 3) (de_int)) (da_nil)))))))
abbrev s__law_deck : Stmt := topS 26
theorem sc__law_deck : FnScope ["_law_script", "_law_cell"] ["_law_script"] (defScope s__law_deck) := ⟨rfl, rfl, rfl, by decide +kernel, rfl, by decide +kernel, by decide +kernel⟩
set_option maxHeartbeats 4000000 in
theorem der__law_deck {P : Program} {w : World} {K : PySem.W.Frag} {mg : Str → Option Value} {base : Heap} {f : Addr} {fd : FuncData} (F : Fun K "_law_deck" "_law_deck" s__law_deck f fd)  (m_abs : mg "abs" = none): FnOk P w K mg base CX0 1 f fd ["_law_script"] (lP ⟨P, w, K⟩ 1 (dFn 2 B_law_deck_e528)) := by
  refine fn_o F sc__law_deck rfl fun cdv A outer s H E hr => ?_
  have nd := sc__law_deck.nd
  have u64 := hr.units
  have u65 : (A.deeper (envOfC "_law_deck" (defScope s__law_deck) s.heap.objs.size f cdv)).units + 65 < cLine := by have := hr.un; omega
  have u1 : (A.deeper (envOfC "_law_deck" (defScope s__law_deck) s.heap.objs.size f cdv)).units + 1 < cLine := by have := hr.un; omega
  unfold B_law_deck_e528
  exact dss_one (ds_ret (de_lst (da_cons (de_lc (own := [("_law_cell", 1)]) rfl nd (di_val (de_sl (dv 0) (do_none) (do_some (de_int)))) (blkOk_by (by first | decide +kernel | rfl)) (by decide) (fun _ _ _ _ _ => dg_name (i := 1) nd rfl (by first | exact .inl rfl | exact .inr rfl)) (fun _ _ _ _ _ => dts_nil) (fun _ _ _ _ _ => de_callB b_abs (by rfl) m_abs (by decide +kernel) (da_cons (dv 1) (da_nil)))) (da_cons (de_int) (da_nil)))))
abbrev s_Rule__forced : Stmt := (clsB (topS 1)).getD 5 (.Pass ⟨0, 0, 0, 0⟩)
theorem sc_Rule__forced : FnScope ["self"] ["self"] (defScope s_Rule__forced) := ⟨rfl, rfl, rfl, by decide +kernel, rfl, by decide +kernel, by decide +kernel⟩
set_option maxHeartbeats 4000000 in
theorem der_Rule__forced {P : Program} {w : World} {K : PySem.W.Frag} {mg : Str → Option Value} {base : Heap} {f : Addr} {fd : FuncData} (F : Fun K "forced" "Rule.forced" s_Rule__forced f fd)  (A_Rule__wanted : ClsF K "Rule" "wanted") (A_SaveAfterSend__wanted : ClsF K "SaveAfterSend" "wanted") (A_SaveAlways__wanted : ClsF K "SaveAlways" "wanted") (A_Rounds__wanted : ClsF K "Rounds" "wanted") : FnOk P w K mg base CX0 1 f fd ["self"] (lP ⟨P, w, K⟩ 1 (dFn 1 B_Rule__forced_5d3c)) := by
  refine fn_oq F sc_Rule__forced rfl fun cdv A outer s H E hr => ?_
  have nd := sc_Rule__forced.nd
  have u64 := hr.units
  have u65 : (A.deeper (envOfC "Rule.forced" (defScope s_Rule__forced) s.heap.objs.size f cdv)).units + 65 < cLine := by have := hr.un; omega
  have u1 : (A.deeper (envOfC "Rule.forced" (defScope s_Rule__forced) s.heap.objs.size f cdv)).units + 1 < cLine := by have := hr.un; omega
  unfold B_Rule__forced_5d3c
  exact dss_one (ds_ret (de_fld (.cons (A_Rule__wanted) (.cons (A_SaveAfterSend__wanted) (.cons (A_SaveAlways__wanted) (.cons (A_Rounds__wanted) (.nil))))) (dv 0)))
abbrev s_SaveAfterSend__forced : Stmt := (clsB (topS 2)).getD 5 (.Pass ⟨0, 0, 0, 0⟩)
theorem sc_SaveAfterSend__forced : FnScope ["self"] ["self"] (defScope s_SaveAfterSend__forced) := ⟨rfl, rfl, rfl, by decide +kernel, rfl, by decide +kernel, by decide +kernel⟩
set_option maxHeartbeats 4000000 in
theorem der_SaveAfterSend__forced {P : Program} {w : World} {K : PySem.W.Frag} {mg : Str → Option Value} {base : Heap} {f : Addr} {fd : FuncData} (F : Fun K "forced" "SaveAfterSend.forced" s_SaveAfterSend__forced f fd)  (A_SaveAfterSend__wanted : ClsF K "SaveAfterSend" "wanted") (A_SaveAlways__wanted : ClsF K "SaveAlways" "wanted") : FnOk P w K mg base CX0 1 f fd ["self"] (lP ⟨P, w, K⟩ 1 (dFn 1 B_SaveAfterSend__forced_8095)) := by
  refine fn_oq F sc_SaveAfterSend__forced rfl fun cdv A outer s H E hr => ?_
  have nd := sc_SaveAfterSend__forced.nd
  have u64 := hr.units
  have u65 : (A.deeper (envOfC "SaveAfterSend.forced" (defScope s_SaveAfterSend__forced) s.heap.objs.size f cdv)).units + 65 < cLine := by have := hr.un; omega
  have u1 : (A.deeper (envOfC "SaveAfterSend.forced" (defScope s_SaveAfterSend__forced) s.heap.objs.size f cdv)).units + 1 < cLine := by have := hr.un; omega
  unfold B_SaveAfterSend__forced_8095
  exact dss_one (ds_ret (de_fld (.cons (A_SaveAfterSend__wanted) (.cons (A_SaveAlways__wanted) (.nil))) (dv 0)))
abbrev s_SaveAlways__forced : Stmt := (clsB (topS 3)).getD 4 (.Pass ⟨0, 0, 0, 0⟩)
theorem sc_SaveAlways__forced : FnScope ["self"] ["self"] (defScope s_SaveAlways__forced) := ⟨rfl, rfl, rfl, by decide +kernel, rfl, by decide +kernel, by decide +kernel⟩
set_option maxHeartbeats 4000000 in
theorem der_SaveAlways__forced {P : Program} {w : World} {K : PySem.W.Frag} {mg : Str → Option Value} {base : Heap} {f : Addr} {fd : FuncData} (F : Fun K "forced" "SaveAlways.forced" s_SaveAlways__forced f fd)  (A_SaveAlways__wanted : ClsF K "SaveAlways" "wanted") : FnOk P w K mg base CX0 1 f fd ["self"] (lP ⟨P, w, K⟩ 1 (dFn 1 B_SaveAlways__forced_1710)) := by
  refine fn_oq F sc_SaveAlways__forced rfl fun cdv A outer s H E hr => ?_
  have nd := sc_SaveAlways__forced.nd
  have u64 := hr.units
  have u65 : (A.deeper (envOfC "SaveAlways.forced" (defScope s_SaveAlways__forced) s.heap.objs.size f cdv)).units + 65 < cLine := by have := hr.un; omega
  have u1 : (A.deeper (envOfC "SaveAlways.forced" (defScope s_SaveAlways__forced) s.heap.objs.size f cdv)).units + 1 < cLine := by have := hr.un; omega
  unfold B_SaveAlways__forced_1710
  exact dss_one (ds_ret (de_fld (.cons (A_SaveAlways__wanted) (.nil)) (dv 0)))
abbrev s_Rounds__forced : Stmt := (clsB (topS 4)).getD 5 (.Pass ⟨0, 0, 0, 0⟩)
theorem sc_Rounds__forced : FnScope ["self"] ["self"] (defScope s_Rounds__forced) := ⟨rfl, rfl, rfl, by decide +kernel, rfl, by decide +kernel, by decide +kernel⟩
set_option maxHeartbeats 4000000 in
theorem der_Rounds__forced {P : Program} {w : World} {K : PySem.W.Frag} {mg : Str → Option Value} {base : Heap} {f : Addr} {fd : FuncData} (F : Fun K "forced" "Rounds.forced" s_Rounds__forced f fd)  (A_Rounds__wanted : ClsF K "Rounds" "wanted") : FnOk P w K mg base CX0 1 f fd ["self"] (lP ⟨P, w, K⟩ 1 (dFn 1 B_Rounds__forced_8628)) := by
  refine fn_oq F sc_Rounds__forced rfl fun cdv A outer s H E hr => ?_
  have nd := sc_Rounds__forced.nd
  have u64 := hr.units
  have u65 : (A.deeper (envOfC "Rounds.forced" (defScope s_Rounds__forced) s.heap.objs.size f cdv)).units + 65 < cLine := by have := hr.un; omega
  have u1 : (A.deeper (envOfC "Rounds.forced" (defScope s_Rounds__forced) s.heap.objs.size f cdv)).units + 1 < cLine := by have := hr.un; omega
  unfold B_Rounds__forced_8628
  exact dss_one (ds_ret (de_fld (.cons (A_Rounds__wanted) (.nil)) (dv 0)))
abbrev s_law : Stmt := topS 37
theorem sc_law : FnScope ["_law_script", "_law_deck_here", "_law_turn", "_law_count", "_law_acts", "_law_kept", "_law_name", "_law_rule_here", "_law_rows", "_law_total", "_law_told"] ["_law_script"] (defScope s_law) := ⟨rfl, rfl, rfl, by decide +kernel, rfl, by decide +kernel, by decide +kernel⟩
set_option maxHeartbeats 4000000 in
theorem der_law {P : Program} {w : World} {K : PySem.W.Frag} {mg : Str → Option Value} {base : Heap} {f : Addr} {fd : FuncData} (F : Fun K "law" "law" s_law f fd) (D__law_plan : DFo P w K mg base 3 "_law_plan" 3 (dFn 11 B_law_plan_4754)) (D__law_draw : DFo P w K mg base 1 "_law_draw" 2 (dFn 5 B_law_draw_ebff)) (D_is_history : DFo P w K mg base 6 "is_history" 1 (dFn 1 B_is_history_be67)) (D__law_same : DFo P w K mg base 5 "_law_same" 2 (dFn 4 B_law_same_9d8a)) (D_run_plan : DFo P w K mg base 3 "run_plan" 2 (dFn 9 B_run_plan_ed6f)) (D__law_rule : DFo P w K mg base 4 "_law_rule" 2 (dFn 2 B_law_rule_b694)) (D__law_built : DFo P w K mg base 2 "_law_built" 3 (dFn 9 B_law_built_25f7)) (D__law_deck : DFo P w K mg base 1 "_law_deck" 1 (dFn 2 B_law_deck_e528)) (P_Rule__forced : DPr P w K mg base 1 "Rule" "forced" (dFn 1 B_Rule__forced_5d3c)) (P_SaveAfterSend__forced : DPr P w K mg base 1 "SaveAfterSend" "forced" (dFn 1 B_SaveAfterSend__forced_8095)) (P_SaveAlways__forced : DPr P w K mg base 1 "SaveAlways" "forced" (dFn 1 B_SaveAlways__forced_1710)) (P_Rounds__forced : DPr P w K mg base 1 "Rounds" "forced" (dFn 1 B_Rounds__forced_8628)) (m_range : mg "range" = none) (m_repr : mg "repr" = none): FnG P w K mg base 7 f fd ["_law_script"] (lP ⟨P, w, K⟩ 1 (dFn 11 B_law_b23a)) := by
  refine fn_d F sc_law rfl fun cdv A outer s H E hg hr => ?_
  have nd := sc_law.nd
  have u64 := hr.units
  have u65 : (A.deeper (envOfC "law" (defScope s_law) s.heap.objs.size f cdv)).units + 65 < cLine := by have := hr.un; omega
  have u1 : (A.deeper (envOfC "law" (defScope s_law) s.heap.objs.size f cdv)).units + 1 < cLine := by have := hr.un; omega
  unfold B_law_b23a
  exact dss_cons (ds_set (i := 1) nd rfl (by first | exact .inl rfl | exact .inr rfl) (de_callo D__law_deck (hr.mono (by decide)) (by rfl) (da_cons (dv 0) (da_nil))))
    (dss_cons (ds_for PassesOwn.never rfl (di_rg1 (by rfl) m_range (da_cons (de_int) (da_nil))) (dg_name (i := 2) nd rfl (by first | exact .inl rfl | exact .inr rfl)) (dss_cons (ds_set (i := 3) nd rfl (by first | exact .inl rfl | exact .inr rfl) (de_bin o_add (de_int) (de_callo D__law_draw (hr.mono (by decide)) (by rfl) (da_cons (dv 1) (da_cons (de_int) (da_nil))))))
    (dss_one (ds_for PassesOwn.never rfl (di_val (de_lst (da_cons (de_callo D__law_plan (hr.mono (by decide)) (by rfl) (da_cons (dv 1) (da_cons (dv 3) (da_cons (de_callo D__law_draw (hr.mono (by decide)) (by rfl) (da_cons (dv 1) (da_cons (de_int) (da_nil)))) (da_nil))))) (da_cons (de_tup (da_nil)) (da_nil))))) (dg_name (i := 4) nd rfl (by first | exact .inl rfl | exact .inr rfl)) (dss_cons (ds_set (i := 5) nd rfl (by first | exact .inl rfl | exact .inr rfl) (de_callB (b_reprX hg u64) (by rfl) m_repr (by decide +kernel) (da_cons (dv 4) (da_nil))))
    (dss_one (ds_for PassesOwn.never rfl (di_val (de_lst (da_cons (de_str) (da_cons (de_str) (da_cons (de_str) (da_cons (de_str) (da_nil))))))) (dg_name (i := 6) nd rfl (by first | exact .inl rfl | exact .inr rfl)) (dss_cons (ds_asg (b := true) (de_tup (da_cons (de_callo D__law_rule (hr.mono (by decide)) (by rfl) (da_cons (dv 6) (da_cons (dv 3) (da_nil)))) (da_cons (de_callo D__law_built (hr.mono (by decide)) (by rfl) (da_cons (dv 6) (da_cons (dv 3) (da_cons (dv 4) (da_nil))))) (da_nil)))) (dg_tup rfl (dgs_cons (dg_name (i := 7) nd rfl (by first | exact .inl rfl | exact .inr rfl)) (dgs_cons (dg_tup rfl (dgs_cons (dg_name (i := 8) nd rfl (by first | exact .inl rfl | exact .inr rfl)) (dgs_cons (dg_name (i := 9) nd rfl (by first | exact .inl rfl | exact .inr rfl)) (dgs_nil)))) (dgs_nil)))))
    (dss_cons (ds_set (i := 10) nd rfl (by first | exact .inl rfl | exact .inr rfl) (de_callo D_run_plan (hr.mono (by decide)) (by rfl) (da_cons (dv 7) (da_cons (dv 4) (da_nil)))))
    (dss_cons (ds_if (DW.dt (dw_or (dt_not (dt_val (de_callo D__law_same (hr.mono (by decide)) (by rfl) (da_cons (de_lst (da_cons (dv 10) (da_cons (de_prop (k := 1) (.cons (P_Rule__forced.mono (by decide)) (.cons (P_SaveAfterSend__forced.mono (by decide)) (.cons (P_SaveAlways__forced.mono (by decide)) (.cons (P_Rounds__forced.mono (by decide)) (.nil))))) (hr.mono (by decide)) (dv 7)) (da_nil)))) (da_cons (de_lst (da_cons (dv 8) (da_cons (dv 9) (da_nil)))) (da_nil)))))) (dw_or1 (dt_cmp (o_ne u64) (de_callB (b_reprX hg u64) (by rfl) m_repr (by decide +kernel) (da_cons (dv 4) (da_nil))) (dv 5))))) (dss_one (ds_ret (de_bl))) (dss_nil))
    (dss_one (ds_if (DW.dt (dw_or (dt_cmp o_notB (de_callo D_is_history (hr.mono (by decide)) (by rfl) (da_cons (dv 8) (da_nil))) (de_bl)) (dw_or1 (dt_not (dt_val (de_callo D__law_same (hr.mono (by decide)) (by rfl) (da_cons (de_callo D_run_plan (hr.mono (by decide)) (by rfl) (da_cons (de_callo D__law_rule (hr.mono (by decide)) (by rfl) (da_cons (dv 6) (da_cons (dv 3) (da_nil)))) (da_cons (dv 4) (da_nil)))) (da_cons (dv 8) (da_nil))))))))) (dss_one (ds_ret (de_bl))) (dss_nil)))))))))))))
    (dss_one (ds_ret (de_bl))))
end Sv
namespace Sv
open PySem L2
theorem seqP {t u : DTS} {C : DEnds} {env : Env} {S : Sto} (P : Env → Sto → Prop) (h1 : ∀ C' : DEnds, C'.rt = C.rt → C'.bk = C.bk → C'.ct = C.ct → (∀ e s, P e s → C'.nx e s) → t C' env S) (h2 : ∀ e s, P e s → u C e s) : dSeq t u C env S :=
  h1 { C with nx := u C } rfl rfl rfl h2
theorem iteB {c : Bool} {A B : Prop} (h1 : c = true → A) (h2 : c = false → B) : if c = true then A else B := by
  cases c with
  | true => exact (if_pos rfl).mpr (h1 rfl)
  | false => exact (if_neg Bool.false_ne_true).mpr (h2 rfl)
theorem goT {A B : Prop} (h : A) : if true = true then A else B := (if_pos rfl).mpr h
theorem goF {A B : Prop} (h : B) : if false = true then A else B := (if_neg Bool.false_ne_true).mpr h
/-- all that stands stays, but at some places -/
def SK (P : Addr → Prop) (S S' : Sto) : Prop := ∀ a o, ¬ P a → S a = some o → S' a = some o
theorem SK.refl {P : Addr → Prop} (S : Sto) : SK P S S := fun _ _ _ h => h
theorem SK.trans {P : Addr → Prop} {S S1 S2 : Sto} (x : SK P S S1) (y : SK P S1 S2) : SK P S S2 := fun a o n h => y a o n (x a o n h)
theorem SK.put {P : Addr → Prop} {S : Sto} {p : Addr} {o : Ob} (h : P p) : SK P S (S.put p o) := fun a u n e => by
  rw [Sto.ne fun z => n (by rw [z]; exact h)]
  exact e
theorem SK.new {P : Addr → Prop} {S : Sto} {p : Addr} {o : Ob} (h : S p = none) : SK P S (S.put p o) := fun a u _ e => by
  rw [Sto.ne fun z => by rw [z, h] at e; cases e]
  exact e
theorem SK.mono {P Q : Addr → Prop} {S S' : Sto} (x : SK P S S') (h : ∀ a, P a → Q a) : SK Q S S' := fun a o n e => x a o (fun z => n (h a z)) e
/-- only new things -/
abbrev SG : Sto → Sto → Prop := SK fun _ => False
theorem SG.sk {P : Addr → Prop} {S S' : Sto} (x : SG S S') : SK P S S' := x.mono fun _ h => h.elim
theorem noTup (a : Addr) : (∀ ds, D.ref a ≠ D.tup ds) ∧ ∀ ds, D.ref a ≠ D.wtup ds := ⟨fun _ z => (nomatch z), fun _ z => (nomatch z)⟩
/-- the draws' state -/
def Deck (st big : Addr) (S : Sto) : Prop := st ≠ big ∧ ∃ (bs : List Int) (a b c : Int), S st = some (.lst [.ref big, .int a, .int b, .int c]) ∧ S big = some (.lst (intsD bs))
abbrev DP (st big : Addr) : Addr → Prop := fun a => a = st ∨ a = big
theorem Deck.keep {st big : Addr} {S S' : Sto} (h : Deck st big S) (k : SG S S') : Deck st big S' := by
  obtain ⟨h1, bs, a, b, c, h2, h3⟩ := h
  exact ⟨h1, bs, a, b, c, k _ _ (fun z => z) h2, k _ _ (fun z => z) h3⟩
theorem Deck.keepP {st big : Addr} {S S' : Sto} {P : Addr → Prop} (h : Deck st big S) (k : SK P S S') (n1 : ¬ P st) (n2 : ¬ P big) : Deck st big S' := by
  obtain ⟨h1, bs, a, b, c, h2, h3⟩ := h
  exact ⟨h1, bs, a, b, c, k _ _ n1 h2, k _ _ n2 h3⟩
theorem pys_ints {S : Sto} : ∀ bs : List Int, Pys S (intsD bs) (bs.map PyData.int)
  | [] => .nil
  | b :: r => .cons (.int b) (pys_ints r)
end Sv
namespace Sv
open PySem PySem.Spec PyProof.Rows L2
inductive Grown (c : Nat) (nm : List Int) : List (List Int) → List (Int × Int) → Nat → Nat → Prop
  | start : Grown c nm (List.replicate c []) [] 0 0
  | skip {r o u k} : Grown c nm r o u k → Grown c nm r o u (k + 1)
  | save {r o u k p row} : Grown c nm r o u k → r[p]? = some row → Grown c nm (r.set p (row ++ [0])) o u (k + 1)
  | send {r o u k p row m} : Grown c nm r o u k → r[p]? = some row → nm[u]? = some m → Grown c nm (r.set p (row ++ [m])) (o ++ [(m, (p : Int))]) (u + 1) (k + 1)
  | recv {r o u k row j m q} {p : Nat} : Grown c nm r o u k → r[p]? = some row → o[j]? = some (m, q) → q ≠ (p : Int) → Grown c nm (r.set p (row ++ [0 - m])) (o.eraseIdx j) u (k + 1)
def names24 : List Int := (List.range 24).map fun (i : Nat) => (1 : Int) + (i : Nat)
/-- the rows of a history that the law may draw: at most `many` rows, `most` events -/
def Good (many most : Nat) (rows : List (List Int)) : Prop := ∃ (c : Nat) (nm : List Int) (o : List (Int × Int)) (u k : Nat), 1 ≤ c ∧ c ≤ many ∧ nm.Perm names24 ∧ Grown c nm rows o u k ∧ k ≤ most
theorem Grown.len {c : Nat} {nm : List Int} {r : List (List Int)} {o : List (Int × Int)} {u k : Nat} (h : Grown c nm r o u k) : r.length = c := by
  induction h with
  | start => exact List.length_replicate ..
  | skip _ ih => exact ih
  | save _ _ ih => rw [List.length_set]; exact ih
  | send _ _ _ ih => rw [List.length_set]; exact ih
  | recv _ _ _ _ ih => rw [List.length_set]; exact ih
theorem sum_len_set {r : List (List Int)} {p : Nat} {row : List Int} {v : Int} (h : r[p]? = some row) : ((r.set p (row ++ [v])).map List.length).sum = (r.map List.length).sum + 1 := by
  induction r generalizing p with
  | nil => simp at h
  | cons a r ih =>
    cases p with
    | zero =>
      have e : a = row := Option.some.inj h
      subst e
      simp only [List.set_cons_zero, List.map_cons, List.sum_cons, List.length_append, List.length_singleton]
      omega
    | succ p =>
      have := ih (p := p) h
      simp only [List.set_cons_succ, List.map_cons, List.sum_cons, this]
      omega
theorem Grown.events {c : Nat} {nm : List Int} {r : List (List Int)} {o : List (Int × Int)} {u k : Nat} (h : Grown c nm r o u k) : (r.map List.length).sum ≤ k := by
  induction h with
  | start => simp
  | skip _ ih => omega
  | save _ h ih => rw [sum_len_set h]; omega
  | send _ h _ ih => rw [sum_len_set h]; omega
  | recv _ h _ _ ih => rw [sum_len_set h]; omega
theorem len_le_sum {r : List (List Int)} {p : Nat} {row : List Int} (h : r[p]? = some row) : row.length ≤ (r.map List.length).sum := by
  induction r generalizing p with
  | nil => simp at h
  | cons a r ih =>
    cases p with
    | zero =>
      have e : a = row := Option.some.inj h
      subst e
      simp only [List.map_cons, List.sum_cons]
      omega
    | succ p =>
      have := ih (p := p) h
      simp only [List.map_cons, List.sum_cons]
      omega
def pD (p : Int × Int) : PyData := .tuple [.int p.1, .int p.2]
theorem flat_rep {α : Type} (x : α) : ∀ n : Nat, (List.replicate n [x]).flatten = List.replicate n x
  | 0 => rfl
  | n + 1 => by rw [List.replicate_succ, List.flatten_cons, flat_rep x n]; rfl
theorem names24_at {u : Nat} (h : u < 24) : names24[u]? = some ((u : Int) + 1) := by
  unfold names24
  rw [List.getElem?_map, List.getElem?_range h]
  show some (1 + (u : Int)) = some ((u : Int) + 1)
  rw [Int.add_comm]
theorem Grown.nodup {c : Nat} {nm : List Int} {r : List (List Int)} {o : List (Int × Int)} {u k : Nat} (h : Grown c nm r o u k) (hn : nm.Nodup) : (o.map (·.1)).Nodup ∧ ∀ x ∈ o, x.1 ∈ nm.take u := by
  induction h with
  | start => exact ⟨List.nodup_nil, fun x z => nomatch z⟩
  | skip _ ih => exact ih
  | save _ _ ih => exact ih
  | @send r o u k p row m g h hu ih =>
    have tk : nm.take (u + 1) = nm.take u ++ [m] := by
      rw [List.take_add_one, hu]
      rfl
    have hnot : m ∉ nm.take u := fun z => by
      have h2 : (nm.take (u + 1)).Nodup := hn.sublist (List.take_sublist _ _)
      rw [tk] at h2
      exact (List.nodup_append.mp h2).2.2 m z m (List.mem_singleton.mpr rfl) rfl
    refine ⟨?_, fun x hx => ?_⟩
    · rw [List.map_append]
      refine List.nodup_append.mpr ⟨ih.1, (by simp), fun a ha b hb => ?_⟩
      rw [List.mem_singleton.mp hb]
      obtain ⟨y, hy, rfl⟩ := List.mem_map.mp ha
      intro z
      have h3 := ih.2 y hy
      rw [show y.1 = m from z] at h3
      exact hnot h3
    · rw [tk]
      rcases List.mem_append.mp hx with z | z
      · exact List.mem_append_left _ (ih.2 x z)
      · rw [List.mem_singleton.mp z]
        exact List.mem_append_right _ (List.mem_singleton.mpr rfl)
  | @recv r o u k row j m q p g h hj _ ih =>
    refine ⟨ih.1.sublist ((List.eraseIdx_sublist _ _).map _), fun x hx => ih.2 x ((List.eraseIdx_sublist _ _).subset hx)⟩
end Sv
namespace Sv
open PySem L2
/-- one turn -/
def Turn1 (g : DTG) (tt : DTT) (te : DTE) (env : Env) (d : D) (S : Sto) (K : DK) (Kn : Sto → Prop) : Prop := g d env S fun env' S' => tt env' S' fun b S2 => if b = true then te env' S2 K else Kn S2
theorem turn_y {i : Nat} {te : DTE} {env : Env} {d : D} {S : Sto} {K : DK} {Kn : Sto → Prop} (h : te (env.set i (some d)) S K) : Turn1 (dgName i) dYes te env d S K Kn := by
  show (if true = true then te (env.set i (some d)) S K else Kn S)
  exact goT h
theorem turn_n {i : Nat} {t : DTT} {te : DTE} {env : Env} {d : D} {S : Sto} {K : DK} {Kn : Sto → Prop} (h : t (env.set i (some d)) S fun b S2 => if b = true then te (env.set i (some d)) S2 K else Kn S2) : Turn1 (dgName i) t te env d S K Kn := h
theorem lc_fun {g : DTG} {tt : DTT} {te : DTE} {us : List Nat} {env : Env} {S1 : Sto} {Rp : Addr → Sto → Prop} (w : Src) (f : D → Option D) (hlen : w.items.length ≤ 100000) (live : ∀ S, SG S1 S → w.live S)
    (step : ∀ d ∈ w.items, ∀ S, SG S1 S → ∀ (K : DK) (Kn : Sto → Prop), (∀ y, f d = some y → ∀ S', SG S S' → K y S') → (f d = none → ∀ S', SG S S' → Kn S') → Turn1 g tt te (dwipe env us) d S K Kn)
    (fin : ∀ p S', S1 p = none → SG S1 S' → S' p = some (.lst (w.items.filterMap f)) → Rp p S') :
    ∀ p, S1 p = none → ∃ Pv : Nat → Sto → Prop, Pv 0 (S1.put p (.lst [])) ∧ (∀ i S, i ≤ w.items.length → Pv i S → w.live S) ∧
      (∀ i d S, w.items[i]? = some d → Pv i S → g d (dwipe env us) S fun env' S' => tt env' S' fun b S2 => if b = true then te env' S2 fun y S3 => ∃ acc, S3 p = some (.lst acc) ∧ acc.length < 1000000 ∧ Pv (i + 1) (S3.put p (.lst (acc ++ [y]))) else Pv (i + 1) S2) ∧
      ∀ S, Pv w.items.length S → Rp p S := by
  intro p np
  refine ⟨fun i S => SG S1 S ∧ S p = some (.lst ((w.items.take i).filterMap f)) ∧ i ≤ w.items.length, ⟨.new np, Sto.same, Nat.zero_le _⟩, fun i S _ h => live S h.1, fun i d S hd h => ?_, fun S h => ?_⟩
  · have hi : i < w.items.length := (List.getElem?_eq_some_iff.mp hd).1
    have ht : w.items.take (i + 1) = w.items.take i ++ [d] := by rw [List.take_add_one, hd]; rfl
    refine step d (List.mem_of_getElem? hd) S h.1 _ _ (fun y hy S' sg => ?_) (fun hn S' sg => ?_)
    · have hp : S' p = _ := sg _ _ (fun z => z) h.2.1
      have hl : ((w.items.take i).filterMap f).length ≤ 100000 := Nat.le_trans (List.length_filterMap_le ..) (by rw [List.length_take]; omega)
      refine ⟨_, hp, by omega, fun a o n e => ?_, ?_, hi⟩
      · have hap : a ≠ p := fun z => by rw [z, np] at e; cases e
        rw [Sto.ne hap]
        exact sg _ _ n (h.1 _ _ n e)
      · rw [Sto.same, ht, List.filterMap_append]
        simp [hy]
    · refine ⟨h.1.trans sg, ?_, hi⟩
      rw [sg _ _ (fun z => z) h.2.1, ht, List.filterMap_append]
      simp [hn]
  · have := h.2.1
    rw [List.take_length] at this
    exact fin p S np h.1 this
theorem fm_map {α β : Type} (f : α → β) (l : List α) : l.filterMap (fun x => some (f x)) = l.map f := by
  induction l with
  | nil => rfl
  | cons a l ih => rw [List.filterMap_cons, List.map_cons, ih]
/-- data of rows -/
def rowD (r : List Int) : D := .tup (intsD r)
def rowsD (rows : List (List Int)) : List D := rows.map rowD
end Sv
namespace Sv
open PySem L2
theorem Deck.st' {st big : Addr} {S : Sto} (h : Deck st big S) : ∃ o, S st = some o := by
  obtain ⟨_, _, _, _, _, h, _⟩ := h
  exact ⟨_, h⟩
theorem Deck.big' {st big : Addr} {S : Sto} (h : Deck st big S) : ∃ o, S big = some o := by
  obtain ⟨_, _, _, _, _, _, h⟩ := h
  exact ⟨_, h⟩
theorem Deck.fresh {st big : Addr} {S : Sto} (h : Deck st big S) {p : Addr} (n : S p = none) : p ≠ st ∧ p ≠ big := by
  obtain ⟨o, e⟩ := h.st'
  obtain ⟨u, f⟩ := h.big'
  exact ⟨fun z => (by rw [z, e] at n; cases n), fun z => (by rw [z, f] at n; cases n)⟩
theorem SK.free {P : Addr → Prop} {S S' : Sto} (k : SK P S S') {p : Addr} (n : S' p = none) (hp : ¬ P p) : S p = none := by
  cases e : S p with
  | none => rfl
  | some o => rw [k _ _ hp e] at n; cases n
theorem rg_at {lo : Int} {n i : Nat} {d : D} (h : (rgD lo n)[i]? = some d) : i < n ∧ d = .int (lo + (i : Nat)) := by
  have hi : i < n := by
    have := (List.getElem?_eq_some_iff.mp h).1
    rwa [rgD, List.length_map, List.length_range] at this
  refine ⟨hi, ?_⟩
  rw [rgD, List.getElem?_map, List.getElem?_range hi] at h
  cases h
  rfl
theorem rg_len (lo : Int) (n : Nat) : (rgD lo n).length = n := by rw [rgD, List.length_map, List.length_range]
theorem eraseIdx_map' {α β : Type} (f : α → β) : ∀ (l : List α) (j : Nat), (l.map f).eraseIdx j = (l.eraseIdx j).map f
  | [], _ => rfl
  | _ :: _, 0 => rfl
  | a :: l, j + 1 => by
    show f a :: (l.map f).eraseIdx j = f a :: (l.eraseIdx j).map f
    rw [eraseIdx_map' f l j]
theorem intsD_len (xs : List Int) : (intsD xs).length = xs.length := List.length_map ..
end Sv
namespace Sv
open PySem L2
def pairD (p : Int × Int) : D := .tup [.int p.1, .int p.2]
def GS (S : Sto) (st big t : Addr) (nm : List Int) (rows : List (List Int)) (o : List (Int × Int)) (u : Nat) (sh : Int) : Prop :=
  ∃ N O : Addr, S t = some (.lst [.tup (rowsD rows), .ref N, .ref O, .int sh]) ∧ S N = some (.lst (intsD (nm.drop u))) ∧ S O = some (.lst (o.map pairD)) ∧ (N ≠ st ∧ N ≠ big) ∧ (O ≠ st ∧ O ≠ big) ∧ t ≠ st ∧ t ≠ big
theorem nDP {st big a : Addr} (h : a ≠ st ∧ a ≠ big) : ¬ DP st big a := fun z => z.elim h.1 h.2
theorem GS.keep {S S' : Sto} {st big t : Addr} {nm : List Int} {rows : List (List Int)} {o : List (Int × Int)} {u : Nat} {sh : Int} (h : GS S st big t nm rows o u sh) (k : SK (DP st big) S S') : GS S' st big t nm rows o u sh := by
  obtain ⟨N, O, h1, h2, h3, h4, h5, h6⟩ := h
  exact ⟨N, O, k _ _ (nDP h6) h1, k _ _ (nDP h4) h2, k _ _ (nDP h5) h3, h4, h5, h6⟩
end Sv
set_option maxHeartbeats 400000
namespace Sv
open PySem L2
theorem py_pair {S : Sto} (p : Int × Int) : Py S (pairD p) (pD p) := .tup (.cons (.int _) (.cons (.int _) .nil))
theorem dIfS_by {c : DTT} {t u : DTS} {C : DEnds} {env : Env} {S : Sto} (P : Bool → Sto → Prop) (hc : ∀ K : Bool → Sto → Prop, (∀ b S', P b S' → K b S') → c env S K) (ht : ∀ S', P true S' → t C env S') (hu : ∀ S', P false S' → u C env S') : dIfS c t u C env S := by
  refine hc _ fun b S' h => ?_
  cases b with
  | true => exact goT (ht S' h)
  | false => exact goF (hu S' h)
theorem atI_nat {xs : List D} {i : Nat} {d : D} (h : xs[i]? = some d) : atI xs (i : Int) = some d := by
  have hi := (List.getElem?_eq_some_iff.mp h).1
  unfold atI ixN
  rw [if_pos (Int.natCast_nonneg i), if_pos (Int.ofNat_lt.mpr hi), Int.toNat_natCast]
  exact h
end Sv
set_option maxHeartbeats 400000
set_option maxHeartbeats 400000
namespace Sv
open PySem L2
/-- no part of the drawn state -/
def GF (S : Sto) (t f : Addr) : Prop := t ≠ f ∧ ∀ (N O : Addr) (r s : D), S t = some (.lst [r, .ref N, .ref O, s]) → f ≠ N ∧ f ≠ O
end Sv
set_option maxHeartbeats 400000
namespace Sv
open PySem L2
/-- the draws' state: cells at cl (never written), at most n draws so far, what is left of large cells at rs -/
def Dk (st cl rs : Addr) (n : Nat) (S : Sto) : Prop := st ≠ cl ∧ st ≠ rs ∧ cl ≠ rs ∧ ∃ (cs ws : List Int) (t : Nat), t ≤ n ∧ 0 < cs.length ∧ cs.length = ws.length ∧ S st = some (.lst [.ref cl, .int (t : Int), .ref rs]) ∧ S cl = some (.lst (intsD cs)) ∧ S rs = some (.lst (intsD ws))
abbrev DQ (st rs : Addr) : Addr → Prop := fun a => a = st ∨ a = rs
theorem Dk.keepP {st cl rs : Addr} {n : Nat} {S S' : Sto} {P : Addr → Prop} (h : Dk st cl rs n S) (k : SK P S S') (n1 : ¬ P st) (n2 : ¬ P cl) (n3 : ¬ P rs) : Dk st cl rs n S' := by
  obtain ⟨a1, a2, a3, cs, ws, t, tn, c0, cw, hs, hc, hw⟩ := h
  exact ⟨a1, a2, a3, cs, ws, t, tn, c0, cw, k _ _ n1 hs, k _ _ n2 hc, k _ _ n3 hw⟩
theorem Dk.keep {st cl rs : Addr} {n : Nat} {S S' : Sto} (h : Dk st cl rs n S) (k : SG S S') : Dk st cl rs n S' := h.keepP k (fun z => z) (fun z => z) (fun z => z)
theorem Dk.mono {st cl rs : Addr} {n m : Nat} {S : Sto} (h : Dk st cl rs n S) (e : n ≤ m) : Dk st cl rs m S := by
  obtain ⟨a1, a2, a3, cs, ws, t, tn, c0, cw, hs, hc, hw⟩ := h
  exact ⟨a1, a2, a3, cs, ws, t, by omega, c0, cw, hs, hc, hw⟩
theorem Dk.fresh {st cl rs : Addr} {n : Nat} {S : Sto} (h : Dk st cl rs n S) {p : Addr} (z : S p = none) : p ≠ st ∧ p ≠ cl ∧ p ≠ rs := by
  obtain ⟨a1, a2, a3, cs, ws, t, tn, c0, cw, hs, hc, hw⟩ := h
  exact ⟨fun e => (by rw [e, hs] at z; cases z), fun e => (by rw [e, hc] at z; cases z), fun e => (by rw [e, hw] at z; cases z)⟩
theorem Dk.put {st cl rs : Addr} {n : Nat} {S : Sto} (h : Dk st cl rs n S) {p : Addr} {o : Ob} (z : p ≠ st ∧ p ≠ cl ∧ p ≠ rs) : Dk st cl rs n (S.put p o) := by
  obtain ⟨a1, a2, a3, cs, ws, t, tn, c0, cw, hs, hc, hw⟩ := h
  exact ⟨a1, a2, a3, cs, ws, t, tn, c0, cw, (Sto.ne (Ne.symm z.1)).trans hs, (Sto.ne (Ne.symm z.2.1)).trans hc, (Sto.ne (Ne.symm z.2.2)).trans hw⟩
theorem SK.own {P : Addr → Prop} {S0 S : Sto} {a : Addr} {o : Ob} (h : SK P S0 S) (n : S0 a = none) : SK P S0 (S.put a o) := fun b u nb e => by
  rw [Sto.ne fun z => by rw [z, n] at e; cases e]
  exact h b u nb e
theorem intsD_at {cs : List Int} {i : Nat} {c : Int} (h : cs[i]? = some c) : (intsD cs)[i]? = some (D.int c) := by
  unfold intsD
  rw [List.getElem?_map, h]
  rfl
theorem intsD_set (cs : List Int) (i : Nat) (c : Int) : (intsD cs).set i (.int c) = intsD (cs.set i c) := by
  unfold intsD
  rw [List.map_set]
theorem ixnN' {n j : Nat} (hj : j < n) : ixN n (j : Int) = some j := by
  unfold ixN
  rw [if_pos (Int.natCast_nonneg j), if_pos (Int.ofNat_lt.mpr hj), Int.toNat_natCast]
end Sv
set_option maxHeartbeats 800000
set_option autoImplicit false
namespace Sv
open PySem PySem.Spec PyProof.Rows L2
/-- the draws' state, at most n mixed draws so far -/
def Ds (st big al : Addr) (n : Nat) (S : Sto) : Prop := st ≠ big ∧ st ≠ al ∧ big ≠ al ∧ ∃ (bs cs : List Int) (t : Nat), t ≤ n ∧ 0 < cs.length ∧ cs.length ≤ 100000 ∧ S st = some (.lst [.ref big, .ref al, .int (t : Int)]) ∧ S big = some (.lst (intsD bs)) ∧ S al = some (.lst (intsD cs))
/-- what a draw may change -/
abbrev DS' (st big : Addr) : Addr → Prop := fun a => a = st ∨ a = big
theorem Ds.keepP {st big al : Addr} {n : Nat} {S S' : Sto} {P : Addr → Prop} (h : Ds st big al n S) (k : SK P S S') (n1 : ¬ P st) (n2 : ¬ P big) (n3 : ¬ P al) : Ds st big al n S' := by
  obtain ⟨a1, a2, a3, bs, cs, t, ht, c0, c9, h1, h2, h3⟩ := h
  exact ⟨a1, a2, a3, bs, cs, t, ht, c0, c9, k _ _ n1 h1, k _ _ n2 h2, k _ _ n3 h3⟩
theorem Ds.keep {st big al : Addr} {n : Nat} {S S' : Sto} (h : Ds st big al n S) (k : SG S S') : Ds st big al n S' := h.keepP k (fun z => z) (fun z => z) (fun z => z)
theorem Ds.mono {st big al : Addr} {n m : Nat} {S : Sto} (h : Ds st big al n S) (e : n ≤ m) : Ds st big al m S := by
  obtain ⟨a1, a2, a3, bs, cs, t, ht, h⟩ := h
  exact ⟨a1, a2, a3, bs, cs, t, by omega, h⟩
theorem Ds.fresh {st big al : Addr} {n : Nat} {S : Sto} (h : Ds st big al n S) {p : Addr} (z : S p = none) : p ≠ st ∧ p ≠ big ∧ p ≠ al := by
  obtain ⟨a1, a2, a3, bs, cs, t, ht, c0, c9, h1, h2, h3⟩ := h
  exact ⟨fun e => (by rw [e, h1] at z; cases z), fun e => (by rw [e, h2] at z; cases z), fun e => (by rw [e, h3] at z; cases z)⟩
theorem Ds.put {st big al : Addr} {n : Nat} {S : Sto} (h : Ds st big al n S) {p : Addr} {o : Ob} (z : p ≠ st ∧ p ≠ big ∧ p ≠ al) : Ds st big al n (S.put p o) := by
  obtain ⟨a1, a2, a3, bs, cs, t, ht, c0, c9, h1, h2, h3⟩ := h
  exact ⟨a1, a2, a3, bs, cs, t, ht, c0, c9, (Sto.ne (Ne.symm z.1)).trans h1, (Sto.ne (Ne.symm z.2.1)).trans h2, (Sto.ne (Ne.symm z.2.2)).trans h3⟩
theorem nDS {st big al p : Addr} (z : p ≠ st ∧ p ≠ big ∧ p ≠ al) : ¬ DS' st big p := fun e => e.elim z.1 z.2.1
theorem Ds.free {st big al : Addr} {n : Nat} {S0 S : Sto} (D : Ds st big al n S) (k : SK (DS' st big) S0 S) {a : Addr} (z : S a = none) : S0 a = none := by
  cases e : S0 a with
  | none => rfl
  | some o =>
    have f := D.fresh z
    rw [k _ _ (nDS f) e] at z
    cases z
/-- a list whose items are tuples is none of the draws' own -/
theorem Ds.off {st big al : Addr} {n : Nat} {S : Sto} (h : Ds st big al n S) {p : Addr} {ds : List D} (e : S p = some (.lst ds)) (ht : ∀ d ∈ ds, ∃ xs, d = D.tup xs) (ne : ds ≠ []) : p ≠ st ∧ p ≠ big ∧ p ≠ al := by
  obtain ⟨a1, a2, a3, bs, cs, t, _, _, _, h1, h2, h3⟩ := h
  have pin : ∀ l : List Int, S p = some (.lst (intsD l)) → False := fun l hl => by
    rw [hl] at e
    have e := (Ob.lst.inj (Option.some.inj e)).symm
    subst e
    cases l with
    | nil => exact ne rfl
    | cons b r =>
      obtain ⟨xs, hx⟩ := ht _ List.mem_cons_self
      cases hx
  refine ⟨fun z => ?_, fun z => pin bs (z ▸ h2), fun z => pin cs (z ▸ h3)⟩
  subst z
  rw [h1] at e
  have e := (Ob.lst.inj (Option.some.inj e)).symm
  subst e
  obtain ⟨xs, hx⟩ := ht _ List.mem_cons_self
  cases hx
end Sv
set_option maxHeartbeats 800000
set_option autoImplicit false
namespace Sv
open PySem PySem.Spec PyProof.Rows L2
/-- the draws' state: the cells, at most n draws so far -/
def Dr (st cl : Addr) (n : Nat) (S : Sto) : Prop := st ≠ cl ∧ ∃ (cs : List Int) (t : Nat), t ≤ n ∧ S st = some (.lst [.ref cl, .int (t : Int)]) ∧ S cl = some (.lst (intsD cs))
theorem Dr.keepP {st cl : Addr} {n : Nat} {S S' : Sto} {P : Addr → Prop} (h : Dr st cl n S) (k : SK P S S') (n1 : ¬ P st) (n2 : ¬ P cl) : Dr st cl n S' := by
  obtain ⟨a1, cs, t, ht, h1, h2⟩ := h
  exact ⟨a1, cs, t, ht, k _ _ n1 h1, k _ _ n2 h2⟩
theorem Dr.keep {st cl : Addr} {n : Nat} {S S' : Sto} (h : Dr st cl n S) (k : SG S S') : Dr st cl n S' := h.keepP k (fun z => z) (fun z => z)
theorem Dr.mono {st cl : Addr} {n m : Nat} {S : Sto} (h : Dr st cl n S) (e : n ≤ m) : Dr st cl m S := by
  obtain ⟨a1, cs, t, ht, h⟩ := h
  exact ⟨a1, cs, t, by omega, h⟩
theorem Dr.fresh {st cl : Addr} {n : Nat} {S : Sto} (h : Dr st cl n S) {p : Addr} (z : S p = none) : p ≠ st ∧ p ≠ cl := by
  obtain ⟨a1, cs, t, ht, h1, h2⟩ := h
  exact ⟨fun e => (by rw [e, h1] at z; cases z), fun e => (by rw [e, h2] at z; cases z)⟩
theorem Dr.put {st cl : Addr} {n : Nat} {S : Sto} (h : Dr st cl n S) {p : Addr} {o : Ob} (z : p ≠ st ∧ p ≠ cl) : Dr st cl n (S.put p o) := by
  obtain ⟨a1, cs, t, ht, h1, h2⟩ := h
  exact ⟨a1, cs, t, ht, (Sto.ne (Ne.symm z.1)).trans h1, (Sto.ne (Ne.symm z.2)).trans h2⟩
theorem nDR {st cl p : Addr} (z : p ≠ st ∧ p ≠ cl) : ¬ DS' st cl p := fun e => e.elim z.1 z.2
theorem Dr.free {st cl : Addr} {n : Nat} {S0 S : Sto} (D : Dr st cl n S) (k : SK (DS' st cl) S0 S) {a : Addr} (z : S a = none) : S0 a = none := by
  cases e : S0 a with
  | none => rfl
  | some o =>
    have f := D.fresh z
    rw [k _ _ (nDR f) e] at z
    cases z
theorem asgC {d : D} {i : Nat} {u : DTS} {C : DEnds} {env : Env} {S : Sto} (h : u C (env.set i (some d)) S) : dSeq (dAsg (dC d) (dgName i)) u C env S := h
theorem w_drawK {st cl : Addr} {n : Nat} {S : Sto} {m : Int} {R : DK} (h : Dr st cl n S) (hn : n ≤ 1000000) (h0 : 0 < m) (h1 : m < 1000000) (k : ∀ (d : Nat) S', (d : Int) < m → Dr st cl (n + 1) S' → SK (DS' st cl) S S' → R (.int (d : Int)) S') : dFn 5 B_law_draw_ebff [.ref st, .int m] S R := by
  obtain ⟨a1, cs, t, ht, hs, hc⟩ := h
  have k : ∀ (d : Int) S', 0 ≤ d → d < m → Dr st cl (n + 1) S' → SK (DS' st cl) S S' → R (.int d) S' := fun d S' d0 d1 D sk => by
    obtain ⟨e, rfl⟩ : ∃ e : Nat, d = (e : Int) := ⟨d.toNat, by omega⟩
    exact k e S' d1 D sk
  refine ⟨_, rfl, _, 1, _, seqOf_lst hs, rfl, rfl, _, rfl, st, _, 1, 1, rfl, rfl, hs, rfl, ?_⟩
  have hs1 : (S.put st (.lst ([D.ref cl, .int (t : Int)].set 1 (.int ((t : Int) + 1))))) st = some (.lst [.ref cl, .int ((t + 1 : Nat) : Int)]) := Sto.same
  have hc1 : (S.put st (.lst ([D.ref cl, .int (t : Int)].set 1 (.int ((t : Int) + 1))))) cl = _ := (Sto.ne (Ne.symm a1)).trans hc
  have sk1 : SK (DS' st cl) S (S.put st (.lst ([D.ref cl, .int (t : Int)].set 1 (.int ((t : Int) + 1))))) := .put (.inl rfl)
  generalize S.put st (.lst ([D.ref cl, .int (t : Int)].set 1 (.int ((t : Int) + 1)))) = S1 at hs1 hc1 sk1 ⊢
  show dSeq (dAsg (dC (.int 0)) (dgName 2)) _ _ _ _
  refine asgC ?_
  dsimp only
  refine seqP (fun env S' => ∃ (c : Int) (x : Option D), env = [some (.ref st), some (.int m), some (.int c), x, none] ∧ S' = S1) (fun C' hrt _ _ hnx => ?_) ?_
  · refine ⟨_, rfl, _, 0, _, seqOf_lst hs1, rfl, rfl, _, _, rfl, seqOf_lst hc1, _, rfl, iteB (fun hb => ?_) (fun _ => hnx _ _ ⟨0, none, rfl, rfl⟩)⟩
    have hb : decide ((0 : Int) < (((intsD cs).length : Nat) : Int)) = true := hb
    have hb := of_decide_eq_true hb
    rw [intsD_len] at hb
    refine ⟨_, rfl, _, 1, _, seqOf_lst hs1, rfl, rfl, _, rfl, _, 0, _, seqOf_lst hs1, rfl, rfl, _, _, rfl, seqOf_lst hc1, by rw [intsD_len]; omega, ?_⟩
    obtain ⟨pl, hpl, hlt⟩ : ∃ pl : Nat, ((t + 1 : Nat) : Int) % ((intsD cs).length : Int) = (pl : Int) ∧ pl < cs.length := ⟨(t + 1) % cs.length, by rw [intsD_len]; omega, Nat.mod_lt _ (by omega)⟩
    rw [hpl]
    obtain ⟨c, hcp⟩ : ∃ c, cs[pl]? = some c := ⟨_, List.getElem?_eq_getElem hlt⟩
    have hcp := intsD_at hcp
    refine ⟨_, rfl, _, 0, _, seqOf_lst hs1, rfl, rfl, _, rfl, _, (pl : Int), _, seqOf_lst hc1, rfl, atI_nat hcp, _, rfl, ?_⟩
    have pow : ((10 : Int) ^ (18 : Int).toNat) = 1000000000000000000 := by decide
    refine ⟨⟨by decide, by decide, by decide⟩, _, rfl, iteB (fun _ => ?_) (fun _ => hnx _ _ ⟨c, _, rfl, rfl⟩)⟩
    refine ⟨_, rfl, _, rfl, ⟨h0, by omega⟩, _, rfl, _, 0, _, seqOf_lst hs1, rfl, rfl, _, rfl, cl, _, (pl : Int), pl, rfl, rfl, hc1, ixnN' (by rw [intsD_len]; exact hlt), ?_⟩
    refine ⟨_, rfl, _, rfl, h0, ?_⟩
    rw [hrt]
    rw [intsD_set]
    exact k _ _ (Int.emod_nonneg _ (by omega)) (Int.emod_lt_of_pos _ h0) ⟨a1, _, t + 1, by omega, (Sto.ne a1).trans hs1, Sto.same⟩ (sk1.trans (.put (.inr rfl)))
  · rintro env S2 ⟨c, x, rfl, e⟩
    have e := e.symm
    subst e
    have m0 := Int.emod_nonneg c (show (2147483563 : Int) ≠ 0 by decide)
    have m1 := Int.emod_lt_of_pos c (show (0 : Int) < 2147483563 by decide)
    refine ⟨_, rfl, by decide, _, rfl, _, 1, _, seqOf_lst hs1, rfl, rfl, .inl ⟨by decide, by decide⟩, ⟨by decide, by decide, by omega⟩, by decide, ?_⟩
    generalize hv : (c % 2147483563 + 15485863 * ((t + 1 : Nat) : Int) + 5) ^ (5 : Int).toNat % 2147483647 = v
    refine ⟨_, rfl, ⟨by decide, by decide⟩, _, rfl, h0, ?_⟩
    exact k _ _ (Int.emod_nonneg _ (by omega)) (Int.emod_lt_of_pos _ h0) ⟨a1, cs, t + 1, by omega, hs1, hc1⟩ sk1
theorem w_deckK {ns : List Int} {S : Sto} {R : DK} (hn : ns.length ≤ 63) (k : ∀ st cl S', Dr st cl 0 S' → SG S S' → S st = none → S cl = none → R (.ref st) S') : dFn 2 B_law_deck_e528 [.rol (intsD ns)] S R := by
  refine ⟨_, rfl, 62, rfl, fun p np => ⟨⟨(cutD (intsD ns) none (some 62)), fun S' => S' p = _⟩, ⟨_, Sto.same, rfl⟩, ?_⟩⟩
  have sg1 : SG S (S.put p (.lst (cutD (intsD ns) none (some 62)))) := .new np
  have hc : ∃ bs : List Int, cutD (intsD ns) none (some 62) = intsD bs := ⟨(ns.drop (HT.sIx (intsD ns).length 0 none)).take (HT.sIx (intsD ns).length (intsD ns).length (some 62) - HT.sIx (intsD ns).length 0 none), by
    unfold cutD intsD
    rw [List.map_take, List.map_drop]⟩
  have hl : (cutD (intsD ns) none (some 62)).length ≤ 63 := by
    unfold cutD
    rw [List.length_take, List.length_drop]
    have : (intsD ns).length = ns.length := List.length_map ..
    omega
  obtain ⟨bs, hbs⟩ := hc
  generalize hcc : cutD (intsD ns) none (some 62) = cc at *
  subst hbs
  have hp : (S.put p (.lst (intsD bs))) p = some (.lst (intsD bs)) := Sto.same
  generalize S.put p (.lst (intsD bs)) = S1 at *
  have bl : bs.length ≤ 63 := by rw [← intsD_len]; exact hl
  have hfm : (intsD bs).filterMap (fun d => match d with | .int i => some (D.int (if i < 0 then -i else i)) | _ => none) = intsD (bs.map fun i => if i < 0 then -i else i) := by
    unfold intsD
    rw [List.filterMap_map, List.map_map]
    exact fm_map _ bs
  refine lc_fun ⟨intsD bs, fun S' => S' p = _⟩ (fun d => match d with | .int i => some (D.int (if i < 0 then -i else i)) | _ => none) (by show (intsD bs).length ≤ 100000; omega) (fun S' sg => sg _ _ (fun z => z) hp) (fun d hd S2 sg K Kn hk _ => ?_) fun q S2 nq sg2 hq => ?_
  · obtain ⟨i, _, rfl⟩ := List.mem_map.mp hd
    exact turn_y ⟨_, rfl, i, rfl, hk _ rfl _ (.refl _)⟩
  · rw [hfm] at hq
    refine ⟨rfl, fun st nst => ?_⟩
    have n1 : st ≠ q := fun z => by rw [z, hq] at nst; cases nst
    have sg12 := sg1.trans sg2
    have nn : S st = none := by
      cases z : S st with
      | none => rfl
      | some o => rw [sg12 _ _ (fun z => z) z] at nst; cases nst
    have nq0 : S q = none := by
      cases z : S q with
      | none => rfl
      | some o => rw [sg1 _ _ (fun z => z) z] at nq; cases nq
    exact k st q _ ⟨n1, _, 0, Nat.le_refl _, Sto.same, (Sto.ne (Ne.symm n1)).trans hq⟩ (sg12.trans (.new nst)) nn nq0
theorem w_oneK {st cl : Addr} {n : Nat} {S : Sto} {d : D} {ds : List D} {R : DK} (h : Dr st cl n S) (h9 : n ≤ 1000000) (hd : ∀ S', SK (DS' st cl) S S' → seqOf S' d = some ds) (h0 : ds ≠ []) (hn : ds.length ≤ 100000)
    (k : ∀ (j : Nat) (x : D) S', ds[j]? = some x → Dr st cl (n + 1) S' → SK (DS' st cl) S S' → R x S') : dFn 2 B_law_one_b6e1 [.ref st, d] S R := by
  refine ⟨_, rfl, _, rfl, _, rfl, d, _, rfl, hd S (.refl S), rfl, ?_⟩
  have hp : 0 < ds.length := List.length_pos_iff.mpr h0
  refine w_drawK h h9 (by omega) (by omega) fun j S3 i1 D3 k3 => ?_
  have hj : j < ds.length := by omega
  have hx := List.getElem?_eq_getElem hj
  exact ⟨ds, j, ds[j], hd S3 k3, rfl, atI_nat hx, k j _ S3 hx D3 k3⟩
end Sv
namespace Sv
open PySem PySem.Spec PyProof.Rows L2
def hapFrom (e : Int) : Nat → List (List Int) → Option (Nat × Nat)
  | _, [] => none
  | p, r :: rs => if e ∈ r then some (p, (r.take (r.idxOf e)).count 0) else hapFrom e (p + 1) rs
def hap (rows : List (List Int)) (e : Int) : Option (Nat × Nat) := hapFrom e 0 rows
def poss (l : List Int) : List Int := l.filter fun e => decide (0 < e)
def negs (l : List Int) : List Int := (l.filter fun e => decide (e < 0)).map fun e => -e
def LeL (a b : List Nat) : Prop := ∀ (i x y : Nat), a[i]? = some x → b[i]? = some y → x ≤ y
theorem LeL.set {a b : List Nat} (h : LeL a b) {p d k : Nat} (hd : a[p]? = some d) (hk : k ≤ d) : LeL (a.set p k) b := fun i x y g1 g2 => by
  rw [List.getElem?_set] at g1
  split at g1
  · rename_i e
    subst e
    split at g1
    · obtain rfl := Option.some.inj g1
      have := h _ _ _ hd g2
      omega
    · cases g1
  · exact h _ _ _ g1 g2
theorem flat_set {r : List (List Int)} {p : Nat} {row : List Int} {v : Int} (h : r[p]? = some row) : (r.set p (row ++ [v])).flatten.Perm (v :: r.flatten) := by
  induction r generalizing p with
  | nil => simp at h
  | cons a r ih =>
    cases p with
    | zero =>
      obtain rfl : a = row := Option.some.inj h
      simp only [List.set_cons_zero, List.flatten_cons, List.append_assoc, List.singleton_append]
      exact List.perm_middle
    | succ p =>
      simp only [List.set_cons_succ, List.flatten_cons]
      exact ((ih (p := p) h).append_left a).trans List.perm_middle
theorem names_pos {nm : List Int} (hn : nm.Perm names24) : ∀ m ∈ nm, 1 ≤ m ∧ m ≤ 24 := by
  intro m h1
  have h2 := hn.mem_iff.mp h1
  obtain ⟨i, hi, rfl⟩ := List.mem_map.mp h2
  have := List.mem_range.mp hi
  omega
theorem Grown.small {c : Nat} {nm : List Int} {r : List (List Int)} {o : List (Int × Int)} {u k : Nat} (h : Grown c nm r o u k) (hn : nm.Perm names24) :
    (∀ row ∈ r, ∀ e ∈ row, -24 ≤ e ∧ e ≤ 24) ∧ ∀ p ∈ o, 1 ≤ p.1 ∧ p.1 ≤ 24 := by
  have setl : ∀ {r : List (List Int)} {p : Nat} {row : List Int} {v : Int}, (∀ row ∈ r, ∀ e ∈ row, -24 ≤ e ∧ e ≤ 24) → r[p]? = some row → -24 ≤ v → v ≤ 24 → ∀ row' ∈ r.set p (row ++ [v]), ∀ e ∈ row', -24 ≤ e ∧ e ≤ 24 := by
    intro r p row v h1 h2 h3 h4 row' hr e he
    rcases List.mem_or_eq_of_mem_set hr with z | rfl
    · exact h1 _ z e he
    · rcases List.mem_append.mp he with z | z
      · exact h1 _ (List.mem_of_getElem? h2) e z
      · rw [List.mem_singleton.mp z]
        exact ⟨h3, h4⟩
  have hm : ∀ m ∈ nm, 1 ≤ m ∧ m ≤ 24 := by
    intro m h1
    have h2 := hn.mem_iff.mp h1
    obtain ⟨i, hi, rfl⟩ := List.mem_map.mp h2
    have := List.mem_range.mp hi
    omega
  induction h with
  | start =>
    refine ⟨fun row hr e he => ?_, fun p hp => (nomatch hp)⟩
    rw [(List.mem_replicate.mp hr).2] at he
    exact (nomatch he)
  | skip _ ih => exact ih
  | save _ h ih => exact ⟨setl ih.1 h (by decide) (by decide), ih.2⟩
  | send _ h hu ih =>
    have := hm _ (List.mem_of_getElem? hu)
    refine ⟨setl ih.1 h (by omega) (by omega), fun p hp => ?_⟩
    rcases List.mem_append.mp hp with z | z
    · exact ih.2 p z
    · rw [List.mem_singleton.mp z]
      exact this
  | recv _ h hj _ ih =>
    have := ih.2 _ (List.mem_of_getElem? hj)
    exact ⟨setl ih.1 h (by omega) (by omega), fun p hp => ih.2 p (List.mem_of_mem_eraseIdx hp)⟩
theorem unerase_perm {α : Type} : ∀ {o : List α} {j : Nat} {x : α}, o[j]? = some x → (x :: o.eraseIdx j).Perm o
  | [], j, _, h => by simp at h
  | a :: o, 0, x, h => by
    obtain rfl : a = x := Option.some.inj h
    exact .refl _
  | a :: o, j + 1, x, h => by
    rw [List.eraseIdx_cons_succ]
    exact (List.Perm.swap a x _).trans ((unerase_perm (o := o) (j := j) h).cons a)
theorem Grown.once {c : Nat} {nm : List Int} {r : List (List Int)} {o : List (Int × Int)} {u k : Nat} (h : Grown c nm r o u k) (hn : nm.Perm names24) :
    (poss r.flatten).Perm (nm.take u) ∧ (negs r.flatten ++ o.map (·.1)).Perm (nm.take u) := by
  induction h with
  | start =>
    have e : (List.replicate c ([] : List Int)).flatten = [] := by simp
    rw [e]
    exact ⟨.refl _, .refl _⟩
  | skip _ ih => exact ih
  | save _ h ih =>
    have p := flat_set (v := 0) h
    exact ⟨(p.filter _).trans ih.1, (((p.filter _).map _).append_right _).trans ih.2⟩
  | @send r o u k p row m g h hu ih =>
    have q := flat_set (v := m) h
    have hm := names_pos hn _ (List.mem_of_getElem? hu)
    have tk : nm.take (u + 1) = nm.take u ++ [m] := by
      rw [List.take_add_one, hu]
      rfl
    rw [tk]
    have h1 : poss (m :: r.flatten) = m :: poss r.flatten := List.filter_cons_of_pos (decide_eq_true (by omega))
    have h2 : negs (m :: r.flatten) = negs r.flatten := by
      unfold negs
      rw [List.filter_cons_of_neg (by rw [decide_eq_false (show ¬ m < 0 by omega)]; exact Bool.false_ne_true)]
    refine ⟨(q.filter _).trans ?_, (((q.filter _).map _).append_right _).trans ?_⟩
    · show (poss (m :: r.flatten)).Perm _
      rw [h1]
      exact (ih.1.cons m).trans (List.perm_append_singleton m _).symm
    · show (negs (m :: r.flatten) ++ _).Perm _
      rw [h2, List.map_append, ← List.append_assoc]
      exact ih.2.append_right _
  | @recv r o u k row j m q p g h hj _ ih =>
    have w := flat_set (v := 0 - m) h
    have hm := (g.small hn).2 _ (List.mem_of_getElem? hj)
    have h1 : poss ((0 - m) :: r.flatten) = poss r.flatten := List.filter_cons_of_neg (by rw [decide_eq_false (show ¬ 0 < 0 - m by simp only at hm; omega)]; exact Bool.false_ne_true)
    have h2 : negs ((0 - m) :: r.flatten) = m :: negs r.flatten := by
      have d : decide (0 - m < 0) = true := decide_eq_true (by simp only at hm; omega)
      have e1 : -(0 - m) = m := by omega
      unfold negs
      simp only [List.filter_cons, d, if_true, List.map_cons, e1]
    refine ⟨(w.filter _).trans ?_, (((w.filter _).map _).append_right _).trans ?_⟩
    · show (poss ((0 - m) :: r.flatten)).Perm _
      rw [h1]
      exact ih.1
    · show (negs ((0 - m) :: r.flatten) ++ _).Perm _
      rw [h2]
      have e := (unerase_perm hj).map Prod.fst
      refine List.Perm.trans ?_ ((e.append_left _).trans ih.2)
      exact List.perm_middle.symm
theorem names_nodup : names24.Nodup := by decide
theorem Grown.count {c : Nat} {nm : List Int} {r : List (List Int)} {o : List (Int × Int)} {u k : Nat} (h : Grown c nm r o u k) (hn : nm.Perm names24) {e : Int} (he : e ≠ 0) : r.flatten.count e ≤ 1 := by
  obtain ⟨h1, h2⟩ := h.once hn
  have nt : (nm.take u).Nodup := ((hn.nodup_iff).mpr names_nodup).sublist (List.take_sublist _ _)
  by_cases hp : 0 < e
  · have n1 : (poss r.flatten).Nodup := h1.nodup_iff.mpr nt
    have := List.nodup_iff_count.mp n1 e
    unfold poss at this
    rw [List.count_filter (p := fun e : Int => decide (0 < e)) (decide_eq_true hp)] at this
    exact this
  · have n2 : (negs r.flatten).Nodup := (h2.nodup_iff.mpr nt).sublist (List.sublist_append_left _ _)
    have hlt : e < 0 := by omega
    have n3 : (r.flatten.filter fun e => decide (e < 0)).Nodup := by
      unfold negs at n2
      exact (List.pairwise_map.mp n2).imp fun h z => h (by rw [z])
    have := List.nodup_iff_count.mp n3 e
    rw [List.count_filter (p := fun e : Int => decide (e < 0)) (decide_eq_true hlt)] at this
    exact this
theorem hapFrom_some {e : Int} : ∀ {rs : List (List Int)} {p i : Nat} {row : List Int}, (∀ (j : Nat) (r : List Int), j < i → rs[j]? = some r → e ∉ r) → rs[i]? = some row → e ∈ row → hapFrom e p rs = some (p + i, (row.take (row.idxOf e)).count 0)
  | [], _, i, _, _, h, _ => by simp at h
  | r :: rs, p, 0, row, _, h, he => by
    obtain rfl : r = row := Option.some.inj h
    unfold hapFrom
    rw [if_pos he]
    rfl
  | r :: rs, p, i + 1, row, hn, h, he => by
    unfold hapFrom
    rw [if_neg (hn 0 r (Nat.succ_pos _) rfl), hapFrom_some (i := i) (fun j r' hj hr => hn (j + 1) r' (Nat.succ_lt_succ hj) hr) h he]
    have : p + 1 + i = p + (i + 1) := by omega
    rw [this]
theorem idx_once : ∀ {row : List Int} {i : Nat} {e : Int}, row[i]? = some e → row.count e ≤ 1 → row.idxOf e = i
  | [], i, _, h, _ => by simp at h
  | a :: r, 0, e, h, _ => by
    obtain rfl : a = e := Option.some.inj h
    exact List.idxOf_cons_self
  | a :: r, i + 1, e, h, hc => by
    have h1 : e ∈ r := List.mem_of_getElem? (i := i) h
    have h2 := List.count_pos_iff.mpr h1
    have hne : a ≠ e := fun z => by
      subst z
      rw [List.count_cons_self] at hc
      omega
    rw [List.count_cons_of_ne hne] at hc
    rw [List.idxOf_cons, idx_once (row := r) (i := i) h hc, beq_false_of_ne hne]
    rfl
theorem count_at : ∀ {r : List (List Int)} {i : Nat} {row : List Int} {e : Int}, r[i]? = some row → row.count e ≤ r.flatten.count e
  | [], i, _, _, h => by simp at h
  | a :: r, 0, row, e, h => by
    obtain rfl : a = row := Option.some.inj h
    rw [List.flatten_cons, List.count_append]
    omega
  | a :: r, i + 1, row, e, h => by
    have := count_at (r := r) (i := i) (e := e) h
    rw [List.flatten_cons, List.count_append]
    omega
theorem count_two : ∀ {r : List (List Int)} {i j : Nat} {a b : List Int} {e : Int}, i < j → r[i]? = some a → r[j]? = some b → e ∈ a → e ∈ b → 2 ≤ r.flatten.count e
  | [], i, _, _, _, _, _, h, _, _, _ => by simp at h
  | x :: r, 0, j + 1, a, b, e, _, h1, h2, h3, h4 => by
    obtain rfl : x = a := Option.some.inj h1
    have h5 := count_at (r := r) (i := j) (e := e) h2
    have h6 := List.count_pos_iff.mpr h3
    have h7 := List.count_pos_iff.mpr h4
    rw [List.flatten_cons, List.count_append]
    omega
  | x :: r, i + 1, j + 1, a, b, e, hij, h1, h2, h3, h4 => by
    have := count_two (r := r) (i := i) (j := j) (Nat.lt_of_succ_lt_succ hij) h1 h2 h3 h4
    rw [List.flatten_cons, List.count_append]
    omega
/-- where an event of a message happened -/
theorem Good.hap_at {many most : Nat} {rows : List (List Int)} (h : Good many most rows) {p i : Nat} {row : List Int} {e : Int} (h1 : rows[p]? = some row) (h2 : row[i]? = some e) (he : e ≠ 0) : hap rows e = some (p, (row.take i).count 0) := by
  obtain ⟨c, nm, o, u, k, _, _, hp, g, _⟩ := h
  have hc := g.count hp he
  have hm := List.mem_of_getElem? h2
  have h3 := hapFrom_some (e := e) (p := 0) (rs := rows) (i := p) (row := row) (fun j r hj hr hr2 => ?_) h1 hm
  · unfold hap
    rw [h3, Nat.zero_add, idx_once h2 (Nat.le_trans (count_at h1) hc)]
  · have := count_two hj hr h1 hr2 hm
    omega
theorem Good.len {many most : Nat} {rows : List (List Int)} (h : Good many most rows) : 1 ≤ rows.length ∧ rows.length ≤ many := by
  obtain ⟨c, nm, o, u, k, h1, h2, h3, h4, h5⟩ := h
  rw [h4.len]
  exact ⟨h1, h2⟩
theorem Good.events {many most : Nat} {rows : List (List Int)} (h : Good many most rows) : (rows.map List.length).sum ≤ most := by
  obtain ⟨c, nm, o, u, k, h1, h2, h3, h4, h5⟩ := h
  exact Nat.le_trans h4.events h5
theorem Good.row {many most : Nat} {rows : List (List Int)} (h : Good many most rows) {i : Nat} {row : List Int} (e : rows[i]? = some row) : row.length ≤ most ∧ ∀ x ∈ row, -24 ≤ x ∧ x ≤ 24 := by
  obtain ⟨c, nm, o, u, k, h1, h2, h3, h4, h5⟩ := id h
  exact ⟨Nat.le_trans (len_le_sum e) h.events, (h4.small h3).1 row (List.mem_of_getElem? e)⟩
def recvM (rows : List (List Int)) (m : Int) : Bool := (hap rows (0 - m)).isSome
def recvL (rows : List (List Int)) : List Int := names24.filter (recvM rows)
theorem recvL_nodup (rows : List (List Int)) : (recvL rows).Nodup := names_nodup.sublist List.filter_sublist
theorem names_mem {m : Int} : m ∈ names24 ↔ 1 ≤ m ∧ m ≤ 24 := by
  unfold names24
  rw [List.mem_map]
  constructor
  · rintro ⟨i, hi, rfl⟩
    have := List.mem_range.mp hi
    omega
  · intro h
    exact ⟨(m - 1).toNat, List.mem_range.mpr (by omega), by omega⟩
/-- where an event stands first -/
def spotFrom (e : Int) : Nat → List (List Int) → Option (Nat × Nat)
  | _, [] => none
  | p, r :: rs => if e ∈ r then some (p, r.idxOf e) else spotFrom e (p + 1) rs
theorem spot_hap {e : Int} : ∀ {rs : List (List Int)} {p : Nat}, (spotFrom e p rs = none ∧ hapFrom e p rs = none) ∨ ∃ j row, rs[j]? = some row ∧ e ∈ row ∧ spotFrom e p rs = some (p + j, row.idxOf e) ∧ hapFrom e p rs = some (p + j, (row.take (row.idxOf e)).count 0)
  | [], _ => .inl ⟨rfl, rfl⟩
  | r :: rs, p => by
    unfold spotFrom hapFrom
    by_cases h : e ∈ r
    · rw [if_pos h, if_pos h]
      exact .inr ⟨0, r, rfl, h, rfl, rfl⟩
    · rw [if_neg h, if_neg h]
      rcases spot_hap (e := e) (rs := rs) (p := p + 1) with q | ⟨j, row, h1, h2, h3, h4⟩
      · exact .inl q
      · refine .inr ⟨j + 1, row, h1, h2, ?_, ?_⟩
        · rw [h3]; congr 2; omega
        · rw [h4]; congr 2; omega
theorem Good.recv {many most : Nat} {rows : List (List Int)} (h : Good many most rows) : (negs rows.flatten).Perm (recvL rows) := by
  obtain ⟨c, nm, o, u, k, h1, h2, hp, g, h5⟩ := id h
  have nt : (nm.take u).Nodup := ((hp.nodup_iff).mpr names_nodup).sublist (List.take_sublist _ _)
  have n1 : (negs rows.flatten).Nodup := ((g.once hp).2.nodup_iff.mpr nt).sublist (List.sublist_append_left _ _)
  refine (List.perm_ext_iff_of_nodup n1 (recvL_nodup rows)).mpr fun m => ?_
  unfold negs recvL
  rw [List.mem_map, List.mem_filter, names_mem]
  constructor
  · rintro ⟨e, he, rfl⟩
    obtain ⟨hm, hneg⟩ := List.mem_filter.mp he
    obtain ⟨row, hr, hmr⟩ := List.mem_flatten.mp hm
    obtain ⟨p, hp1⟩ := List.getElem?_of_mem hr
    obtain ⟨i, hi⟩ := List.getElem?_of_mem hmr
    have hb := (h.row hp1).2 e hmr
    have h0 : e < 0 := of_decide_eq_true hneg
    refine ⟨by omega, ?_⟩
    unfold recvM
    rw [show (0 : Int) - -e = e by omega, h.hap_at hp1 hi (by omega)]
    rfl
  · rintro ⟨hm, hs⟩
    refine ⟨0 - m, List.mem_filter.mpr ⟨?_, decide_eq_true (by omega)⟩, by omega⟩
    rcases spot_hap (e := 0 - m) (rs := rows) (p := 0) with ⟨_, z⟩ | ⟨p, row, z1, z2, _⟩
    · unfold recvM hap at hs
      rw [z] at hs
      cases hs
    · exact List.mem_flatten.mpr ⟨row, List.mem_of_getElem? z1, z2⟩
def sentM (rows : List (List Int)) (m : Int) : Bool := (hap rows m).isSome
def sentL (rows : List (List Int)) : List Int := names24.filter (sentM rows)
theorem Good.sent {many most : Nat} {rows : List (List Int)} (h : Good many most rows) : (poss rows.flatten).Perm (sentL rows) := by
  obtain ⟨c, nm, o, u, k, h1, h2, hp, g, h5⟩ := id h
  have nt : (nm.take u).Nodup := ((hp.nodup_iff).mpr names_nodup).sublist (List.take_sublist _ _)
  have n1 : (poss rows.flatten).Nodup := (g.once hp).1.nodup_iff.mpr nt
  have n2 : (sentL rows).Nodup := names_nodup.sublist List.filter_sublist
  refine (List.perm_ext_iff_of_nodup n1 n2).mpr fun m => ?_
  unfold poss sentL
  rw [List.mem_filter, List.mem_filter, names_mem]
  constructor
  · rintro ⟨hm, hpos⟩
    obtain ⟨row, hr, hmr⟩ := List.mem_flatten.mp hm
    obtain ⟨p, hp1⟩ := List.getElem?_of_mem hr
    obtain ⟨i, hi⟩ := List.getElem?_of_mem hmr
    have hb := (h.row hp1).2 m hmr
    have h0 : 0 < m := of_decide_eq_true hpos
    refine ⟨by omega, ?_⟩
    unfold sentM
    rw [h.hap_at hp1 hi (by omega)]
    rfl
  · rintro ⟨hm, hs⟩
    refine ⟨?_, decide_eq_true (by omega)⟩
    rcases spot_hap (e := m) (rs := rows) (p := 0) with ⟨_, z⟩ | ⟨p, row, z1, z2, _⟩
    · unfold sentM hap at hs
      rw [z] at hs
      cases hs
    · exact List.mem_flatten.mpr ⟨row, List.mem_of_getElem? z1, z2⟩
theorem recvL_len (rows : List (List Int)) : (recvL rows).length ≤ 24 := by
  have := List.length_filter_le (recvM rows) names24
  have h24 : names24.length = 24 := by decide +kernel
  unfold recvL
  omega
theorem Good.recv_mem {many most : Nat} {rows : List (List Int)} (h : Good many most rows) {m : Int} {x : Nat × Nat} (hm : 0 < m) (hx : hap rows (0 - m) = some x) : m ∈ recvL rows := by
  refine List.mem_filter.mpr ⟨names_mem.mpr ?_, by unfold recvM; rw [hx]; rfl⟩
  rcases spot_hap (e := 0 - m) (rs := rows) (p := 0) with ⟨_, z⟩ | ⟨p, row, z1, z2, _⟩
  · unfold hap at hx
    rw [z] at hx
    cases hx
  · have := (h.row z1).2 _ z2
    omega
theorem Good.hap_lt {rows : List (List Int)} {e : Int} {p k : Nat} (h : hap rows e = some (p, k)) : p < rows.length := by
  rcases spot_hap (e := e) (rs := rows) (p := 0) with ⟨_, z⟩ | ⟨p', row, z1, z2, _, z4⟩
  · unfold hap at h
    rw [z] at h
    cases h
  · unfold hap at h
    rw [z4, Nat.zero_add] at h
    cases h
    exact (List.getElem?_eq_some_iff.mp z1).1
theorem LeL.refl (a : List Nat) : LeL a a := fun i x y h1 h2 => by rw [h1] at h2; rw [Option.some.inj h2]; exact Nat.le_refl _
/-- no message is received before the line and sent behind it -/
def ConsL (rows : List (List Int)) (cs : List Nat) : Prop := ∀ (m : Int) (p k p' k' c c' : Nat), 0 < m → hap rows m = some (p, k) → hap rows (0 - m) = some (p', k') → cs[p]? = some c → cs[p']? = some c' → k' < c' → k < c
structure Dn (rows : List (List Int)) (high cs : List Nat) : Prop where
  len : cs.length = high.length
  le : LeL cs high
  top : ∀ L : List Nat, L.length = high.length → LeL L high → ConsL rows L → LeL L cs
structure IsLow (rows : List (List Int)) (high cs : List Nat) : Prop extends Dn rows high cs where
  cons : ConsL rows cs
/-- the greatest numbers that are left if these fail -/
def tops (rows : List (List Int)) (fs : List Int) : List Nat := rows.mapIdx fun i r => r.count 0 + (if decide ((i : Int) ∈ fs) = true then 0 else 1)
def prs (rows : List (List Int)) : List Nat := rows.map fun r => r.count 0 + 1
/-- a state that is needed when f fails -/
def NeedAt (rows : List (List Int)) (f p n : Nat) : Prop := ∃ cs : List Nat, IsLow rows (tops rows [(f : Int)]) cs ∧ cs[p]? = some n ∧ n < ((prs rows)[p]?).getD 0
def NeedL (rows : List (List Int)) (us : List (Int × Int)) : Prop := us.length < 64 ∧ us.Pairwise (fun a b => pc a < pc b) ∧ ∀ x, x ∈ us ↔ ∃ f p n : Nat, f < rows.length ∧ NeedAt rows f p n ∧ x = ((p : Int), (n : Int))
theorem NeedL.unique {rows : List (List Int)} {us vs : List (Int × Int)} (h : NeedL rows us) (g : NeedL rows vs) : us = vs := rise_eq pc us vs h.2.1 g.2.1 fun x => (h.2.2 x).trans (g.2.2 x).symm
theorem IsLow.unique {rows : List (List Int)} {high a b : List Nat} (ha : IsLow rows high a) (hb : IsLow rows high b) : a = b := by
  apply List.ext_getElem (ha.len.trans hb.len.symm)
  intro i h1 h2
  have e1 := List.getElem?_eq_getElem h1
  have e2 := List.getElem?_eq_getElem h2
  exact Nat.le_antisymm (hb.top a ha.len ha.le ha.cons i _ _ e1 e2) (ha.top b hb.len hb.le hb.cons i _ _ e2 e1)
theorem Dn.step {rows : List (List Int)} {high cs : List Nat} (h : Dn rows high cs) {m : Int} {p k p' k' c c' : Nat} (hm : 0 < m) (h1 : hap rows m = some (p, k)) (h2 : hap rows (0 - m) = some (p', k')) (h3 : cs[p]? = some c) (h4 : cs[p']? = some c') (h5 : k' < c') (h6 : c ≤ k) : Dn rows high (cs.set p' k') := by
  refine ⟨by rw [List.length_set]; exact h.len, fun i x y g1 g2 => ?_, fun L l1 l2 l3 i x y g1 g2 => ?_⟩
  · rw [List.getElem?_set] at g1
    split at g1
    · rename_i e
      subst e
      split at g1
      · obtain rfl := Option.some.inj g1
        have := h.le _ _ _ h4 g2
        omega
      · cases g1
    · exact h.le _ _ _ g1 g2
  · have hl := h.top L l1 l2 l3
    rw [List.getElem?_set] at g2
    split at g2
    · rename_i e
      subst e
      split at g2
      · obtain rfl := Option.some.inj g2
        have hpl : p < L.length := by
          rw [l1, ← h.len]
          exact (List.getElem?_eq_some_iff.mp h3).1
        have hp := List.getElem?_eq_getElem hpl
        have h7 := hl _ _ _ hp h3
        rcases Nat.lt_or_ge k' x with z | z
        · have := l3 m p k p' k' _ x hm h1 h2 hp g1 z
          omega
        · exact z
      · cases g2
    · exact hl _ _ _ g1 g2
theorem Dn.start (rows : List (List Int)) (high : List Nat) : Dn rows high high := ⟨rfl, .refl _, fun _ _ h _ => h⟩
theorem sum_set {cs : List Nat} {p c k : Nat} (h : cs[p]? = some c) : (cs.set p k).sum + c = cs.sum + k := by
  induction cs generalizing p with
  | nil => simp at h
  | cons a r ih =>
    cases p with
    | zero =>
      obtain rfl : a = c := Option.some.inj h
      simp only [List.set_cons_zero, List.sum_cons]
      omega
    | succ p =>
      have := ih (p := p) h
      simp only [List.set_cons_succ, List.sum_cons]
      omega
theorem tops_at {rows : List (List Int)} {fs : List Int} {i : Nat} {r : List Int} (h : rows[i]? = some r) : (tops rows fs)[i]? = some (r.count 0 + (if decide ((i : Int) ∈ fs) = true then 0 else 1)) := by
  unfold tops
  rw [List.getElem?_mapIdx, h]
  rfl
theorem tops_len (rows : List (List Int)) (fs : List Int) : (tops rows fs).length = rows.length := by
  unfold tops
  rw [List.length_mapIdx]
def rowU (p j : Nat) : List (Int × Int) := (List.range j).map fun (n : Nat) => ((p : Int), (n : Int))
def allU (rows : List (List Int)) (i : Nat) : List (Int × Int) := (List.range i).flatMap fun p => rowU p (((prs rows)[p]?).getD 0 + 1)
theorem prsA {rows : List (List Int)} {p : Nat} {row : List Int} (h : rows[p]? = some row) : (prs rows)[p]? = some (row.count 0 + 1) := by
  unfold prs
  rw [List.getElem?_map, h]
  rfl
theorem NeedAt.lt {rows : List (List Int)} {f p n : Nat} (h : NeedAt rows f p n) : p < rows.length := by
  obtain ⟨cs, h1, h2, _⟩ := h
  have := (List.getElem?_eq_some_iff.mp h2).1
  rw [h1.len, tops_len] at this
  exact this
def minL (a b : List Nat) : List Nat := List.zipWith min a b
theorem minL_len {a b : List Nat} (h : a.length = b.length) : (minL a b).length = a.length := by
  unfold minL
  rw [List.length_zipWith, h, Nat.min_self]
theorem minL_inv {a b : List Nat} {i z : Nat} (h : (minL a b)[i]? = some z) : ∃ x y, a[i]? = some x ∧ b[i]? = some y ∧ z = min x y := by
  unfold minL at h
  rw [List.getElem?_zipWith] at h
  cases h1 : a[i]? with
  | none => rw [h1] at h; cases h
  | some x =>
    cases h2 : b[i]? with
    | none => rw [h1, h2] at h; cases h
    | some y =>
      rw [h1, h2] at h
      exact ⟨x, y, rfl, rfl, (Option.some.inj h).symm⟩
theorem minL_at {a b : List Nat} {i x y : Nat} (h1 : a[i]? = some x) (h2 : b[i]? = some y) : (minL a b)[i]? = some (min x y) := by
  unfold minL
  rw [List.getElem?_zipWith, h1, h2]
theorem IsLow.min {rows : List (List Int)} {h1 h2 a b : List Nat} (ha : IsLow rows h1 a) (hb : IsLow rows h2 b) (hl : h1.length = h2.length) : IsLow rows (minL h1 h2) (minL a b) := by
  have la := ha.len
  have lb := hb.len
  refine ⟨⟨by rw [minL_len (by omega), minL_len hl]; exact la, fun i x y g1 g2 => ?_, fun L l1 l2 l3 i x y g1 g2 => ?_⟩, fun m p k p' k' c c' hm e1 e2 g1 g2 hlt => ?_⟩
  · obtain ⟨u, v, u1, u2, rfl⟩ := minL_inv g1
    obtain ⟨u', v', v1, v2, rfl⟩ := minL_inv g2
    have q1 := ha.le _ _ _ u1 v1
    have q2 := hb.le _ _ _ u2 v2
    omega
  · rw [minL_len hl] at l1
    obtain ⟨u, v, u1, u2, rfl⟩ := minL_inv g2
    have q1 := ha.top L l1 (fun i x y z1 z2 => by
      obtain ⟨y', hy'⟩ : ∃ y', h2[i]? = some y' := ⟨_, List.getElem?_eq_getElem (by have := (List.getElem?_eq_some_iff.mp z2).1; omega)⟩
      have := l2 i x _ z1 (minL_at z2 hy')
      omega) l3 _ _ _ g1 u1
    have q2 := hb.top L (by omega) (fun i x y z1 z2 => by
      obtain ⟨y', hy'⟩ : ∃ y', h1[i]? = some y' := ⟨_, List.getElem?_eq_getElem (by have := (List.getElem?_eq_some_iff.mp z2).1; omega)⟩
      have := l2 i x _ z1 (minL_at hy' z2)
      omega) l3 _ _ _ g1 u2
    omega
  · obtain ⟨u, v, u1, u2, rfl⟩ := minL_inv g1
    obtain ⟨u', v', v1, v2, rfl⟩ := minL_inv g2
    have q1 := ha.cons m p k p' k' u u' hm e1 e2 u1 v1 (by omega)
    have q2 := hb.cons m p k p' k' v v' hm e1 e2 u2 v2 (by omega)
    omega
theorem tops_app (rows : List (List Int)) (fs gs : List Int) : tops rows (fs ++ gs) = minL (tops rows fs) (tops rows gs) := by
  apply List.ext_getElem?
  intro i
  by_cases hi : i < rows.length
  · have hr := List.getElem?_eq_getElem hi
    rw [tops_at (fs := fs ++ gs) hr, minL_at (tops_at (fs := fs) hr) (tops_at (fs := gs) hr)]
    by_cases h1 : (i : Int) ∈ fs
    · rw [decide_eq_true h1, decide_eq_true (List.mem_append_left gs h1), if_pos rfl]
      split <;> rw [Nat.min_eq_left (by omega)]
    · by_cases h2 : (i : Int) ∈ gs
      · rw [decide_eq_false h1, decide_eq_true h2, decide_eq_true (List.mem_append_right fs h2), if_pos rfl, if_neg Bool.false_ne_true, Nat.min_eq_right (by omega)]
      · have h3 : ¬ ((i : Int) ∈ fs ++ gs) := fun z => by
          rcases List.mem_append.mp z with z | z
          · exact h1 z
          · exact h2 z
        rw [decide_eq_false h1, decide_eq_false h2, decide_eq_false h3, Nat.min_self]
  · rw [List.getElem?_eq_none (by rw [tops_len]; omega), List.getElem?_eq_none (by rw [minL_len (by rw [tops_len, tops_len]), tops_len]; omega)]
theorem tops_congr {rows : List (List Int)} {fs gs : List Int} (h : ∀ x, x ∈ fs ↔ x ∈ gs) : tops rows fs = tops rows gs := by
  apply List.ext_getElem?
  intro i
  by_cases hi : i < rows.length
  · have hr := List.getElem?_eq_getElem hi
    rw [tops_at (fs := fs) hr, tops_at (fs := gs) hr, decide_eq_decide.mpr (h i)]
  · rw [List.getElem?_eq_none (by rw [tops_len]; omega), List.getElem?_eq_none (by rw [tops_len]; omega)]
theorem IsLow.app {rows : List (List Int)} {fs gs : List Int} {a b : List Nat} (ha : IsLow rows (tops rows fs) a) (hb : IsLow rows (tops rows gs) b) : IsLow rows (tops rows (fs ++ gs)) (minL a b) := by
  rw [tops_app]
  exact ha.min hb (by rw [tops_len, tops_len])
theorem IsLow.mono {rows : List (List Int)} {fs gs : List Int} {a b : List Nat} (ha : IsLow rows (tops rows fs) a) (hb : IsLow rows (tops rows gs) b) (h : ∀ x ∈ gs, x ∈ fs) : LeL a b := by
  have e : tops rows fs = tops rows (fs ++ gs) := tops_congr fun x => ⟨fun z => List.mem_append_left _ z, fun z => (List.mem_append.mp z).elim id (h x)⟩
  have q := ha
  rw [e] at q
  have := q.unique (ha.app hb)
  intro i x y g1 g2
  rw [this] at g1
  obtain ⟨u, v, u1, u2, rfl⟩ := minL_inv g1
  obtain rfl := Option.some.inj (u2.symm.trans g2)
  exact Nat.min_le_right _ _
theorem allU_mem {rows : List (List Int)} {i : Nat} {x : Int × Int} (h : x ∈ allU rows i) : ∃ p n : Nat, p < i ∧ x = ((p : Int), (n : Int)) := by
  unfold allU at h
  obtain ⟨p, hp, hx⟩ := List.mem_flatMap.mp h
  unfold rowU at hx
  obtain ⟨n, _, rfl⟩ := List.mem_map.mp hx
  exact ⟨p, n, List.mem_range.mp hp, rfl⟩
/-- what a tuple holds is little -/
def small (d : PyData) : Prop := ∀ ds, d = .tuple ds → ds.length ≤ 10
/-- a process and an interval that are small -/
def HapS (o : Option (Nat × Nat)) : Prop := ∀ p k, o = some (p, k) → p ≤ 1000 ∧ k ≤ 1000
theorem hapFrom_small {e : Int} : ∀ {rs : List (List Int)} {p : Nat}, (∀ r ∈ rs, r.length ≤ 1000) → p + rs.length ≤ 1000 → HapS (hapFrom e p rs)
  | [], _, _, _ => fun p k h => (nomatch h)
  | r :: rs, p, h, hl => by
    unfold hapFrom
    rw [List.length_cons] at hl
    split
    · intro p' k' h'
      cases h'
      refine ⟨by omega, Nat.le_trans (List.count_le_length ..) ?_⟩
      rw [List.length_take]
      exact Nat.le_trans (Nat.min_le_right _ _) (h r List.mem_cons_self)
    · exact hapFrom_small (fun r' hr => h r' (List.mem_cons_of_mem _ hr)) (by omega)
theorem Good.hapS {many most : Nat} {rows : List (List Int)} (h : Good many most rows) (h1 : many ≤ 6) (h2 : most ≤ 60) (e : Int) : HapS (hap rows e) := by
  refine hapFrom_small (fun r hr => ?_) (by have := h.len; omega)
  obtain ⟨i, hi⟩ := List.getElem?_of_mem hr
  have := (h.row hi).1
  omega
end Sv
namespace Sv
open PySem L2
theorem lc_map {α : Type} {g : DTG} {tt : DTT} {te : DTE} {us : List Nat} {env : Env} {S1 : Sto} {Rp : Addr → Sto → Prop} (xs : List α) (gx : α → D) (lv : Sto → Prop) (f : α → Option D) (hlen : xs.length ≤ 100000) (live : ∀ S, SG S1 S → lv S)
    (step : ∀ a ∈ xs, ∀ S, SG S1 S → ∀ (K : DK) (Kn : Sto → Prop), (∀ y, f a = some y → ∀ S', SG S S' → K y S') → (f a = none → ∀ S', SG S S' → Kn S') → Turn1 g tt te (dwipe env us) (gx a) S K Kn)
    (fin : ∀ p S', S1 p = none → SG S1 S' → S' p = some (.lst (xs.filterMap f)) → Rp p S') :
    ∀ p, S1 p = none → ∃ Pv : Nat → Sto → Prop, Pv 0 (S1.put p (.lst [])) ∧ (∀ i S, i ≤ (Src.mk (xs.map gx) lv).items.length → Pv i S → (Src.mk (xs.map gx) lv).live S) ∧
      (∀ i d S, (Src.mk (xs.map gx) lv).items[i]? = some d → Pv i S → g d (dwipe env us) S fun env' S' => tt env' S' fun b S2 => if b = true then te env' S2 fun y S3 => ∃ acc, S3 p = some (.lst acc) ∧ acc.length < 1000000 ∧ Pv (i + 1) (S3.put p (.lst (acc ++ [y]))) else Pv (i + 1) S2) ∧
      ∀ S, Pv (Src.mk (xs.map gx) lv).items.length S → Rp p S := by
  intro p np
  refine ⟨fun i S => SG S1 S ∧ S p = some (.lst ((xs.take i).filterMap f)) ∧ i ≤ xs.length, ⟨.new np, Sto.same, Nat.zero_le _⟩, fun i S _ h => live S h.1, fun i d S hd h => ?_, fun S h => ?_⟩
  · have hd : (xs.map gx)[i]? = some d := hd
    rw [List.getElem?_map] at hd
    obtain ⟨a, ha, rfl⟩ := Option.map_eq_some_iff.mp hd
    have hi : i < xs.length := (List.getElem?_eq_some_iff.mp ha).1
    have ht : xs.take (i + 1) = xs.take i ++ [a] := by rw [List.take_add_one, ha]; rfl
    refine step a (List.mem_of_getElem? ha) S h.1 _ _ (fun y hy S' sg => ?_) (fun hn S' sg => ?_)
    · have hp : S' p = _ := sg _ _ (fun z => z) h.2.1
      have hl : ((xs.take i).filterMap f).length ≤ 100000 := Nat.le_trans (List.length_filterMap_le ..) (by rw [List.length_take]; omega)
      refine ⟨_, hp, by omega, fun a o n e => ?_, ?_, hi⟩
      · have hap : a ≠ p := fun z => by rw [z, np] at e; cases e
        rw [Sto.ne hap]
        exact sg _ _ n (h.1 _ _ n e)
      · rw [Sto.same, ht, List.filterMap_append]
        simp [hy]
    · refine ⟨h.1.trans sg, ?_, hi⟩
      rw [sg _ _ (fun z => z) h.2.1, ht, List.filterMap_append]
      simp [hn]
  · have h : SG S1 S ∧ S p = some (.lst ((xs.take (xs.map gx).length).filterMap f)) ∧ _ := h
    have h2 := h.2.1
    rw [List.length_map, List.take_length] at h2
    exact fin p S np h.1 h2
theorem flat_le {α β : Type} (F : α → List β) (n : Nat) : ∀ xs : List α, (∀ a ∈ xs, (F a).length ≤ n) → (xs.flatMap F).length ≤ xs.length * n
  | [], _ => Nat.zero_le _
  | a :: r, h => by
    rw [List.flatMap_cons, List.length_append, List.length_cons, Nat.succ_mul]
    have := h a List.mem_cons_self
    have := flat_le F n r fun b hb => h b (List.mem_cons_of_mem _ hb)
    omega
theorem take_map {α : Type} {xs : List α} {i : Nat} {a : α} (ha : xs[i]? = some a) : xs.take (i + 1) = xs.take i ++ [a] := by rw [List.take_add_one, ha]; rfl
theorem SG.keepP {S1 S S' : Sto} {p : Addr} {o : Ob} (np : S1 p = none) (h : SG S1 S) (sg : SG S S') : SG S1 (S'.put p o) := fun a o n e => by
  have hap : a ≠ p := fun z => by rw [z, np] at e; cases e
  rw [Sto.ne hap]
  exact sg _ _ n (h _ _ n e)
end Sv
set_option maxHeartbeats 400000
namespace Sv
open PySem L2
def natD (cs : List Nat) : List D := cs.map fun (c : Nat) => D.int (c : Int)
theorem natD_ints (cs : List Nat) : natD cs = intsD (cs.map fun (c : Nat) => (c : Int)) := by
  unfold natD intsD
  rw [List.map_map]
  rfl
theorem natD_len (cs : List Nat) : (natD cs).length = cs.length := List.length_map ..
theorem natD_at {cs : List Nat} {i c : Nat} (h : cs[i]? = some c) : (natD cs)[i]? = some (D.int (c : Int)) := by
  unfold natD
  rw [List.getElem?_map, h]
  rfl
theorem Good.row60 {many most : Nat} {rows : List (List Int)} (h : Good many most rows) (h60 : most ≤ 60) : ∀ r ∈ rows, r.length ≤ 60 := fun r hr => by
  obtain ⟨i, hi⟩ := List.getElem?_of_mem hr
  have := (h.row hi).1
  omega
end Sv
set_option maxHeartbeats 400000
namespace Sv
open PySem L2
theorem lc_mapE {α : Type} {g : DTG} {tt : DTT} {te : DTE} {us : List Nat} {env : Env} {S1 : Sto} {Rp : Addr → Sto → Prop} {w : Src} (xs : List α) (gx : α → D) (hw : w.items = xs.map gx) (f : α → Option D) (hlen : xs.length ≤ 100000) (live : ∀ S, SG S1 S → w.live S)
    (step : ∀ a ∈ xs, ∀ S, SG S1 S → ∀ (K : DK) (Kn : Sto → Prop), (∀ y, f a = some y → ∀ S', SG S S' → K y S') → (f a = none → ∀ S', SG S S' → Kn S') → Turn1 g tt te (dwipe env us) (gx a) S K Kn)
    (fin : ∀ p S', S1 p = none → SG S1 S' → S' p = some (.lst (xs.filterMap f)) → Rp p S') :
    ∀ p, S1 p = none → ∃ Pv : Nat → Sto → Prop, Pv 0 (S1.put p (.lst [])) ∧ (∀ i S, i ≤ w.items.length → Pv i S → w.live S) ∧
      (∀ i d S, w.items[i]? = some d → Pv i S → g d (dwipe env us) S fun env' S' => tt env' S' fun b S2 => if b = true then te env' S2 fun y S3 => ∃ acc, S3 p = some (.lst acc) ∧ acc.length < 1000000 ∧ Pv (i + 1) (S3.put p (.lst (acc ++ [y]))) else Pv (i + 1) S2) ∧
      ∀ S, Pv w.items.length S → Rp p S := by
  obtain ⟨it, lv⟩ := w
  cases hw
  exact lc_map xs gx lv f hlen live step fin
theorem any_int (fs : List Int) (i : Int) : ((fs.map PyData.int).any fun z => PyData.eqv z (.int i)) = decide (i ∈ fs) := by
  induction fs with
  | nil => rfl
  | cons a r ih =>
    rw [List.map_cons, List.any_cons, ih, show PyData.eqv (.int a) (.int i) = decide (a = i) from rfl]
    by_cases h : a = i
    · subst h; simp
    · have h' : i ≠ a := fun z => h z.symm
      simp [h, h']
end Sv
set_option maxHeartbeats 400000
namespace Sv
open PySem L2
structure RAt (S : Sto) (r : Addr) (as : List Addr) (rows : List (List Int)) : Prop where
  len : as.length = rows.length
  lst : S r = some (.lst (as.map D.ref))
  row : ∀ (i : Nat) (a : Addr) (row : List Int), as[i]? = some a → rows[i]? = some row → S a = some (.lst (intsD row))
  nd : as.Nodup
  nr : r ∉ as
theorem RAt.keep {S S' : Sto} {P : Addr → Prop} {r : Addr} {as : List Addr} {rows : List (List Int)} (h : RAt S r as rows) (k : SK P S S') (n : ∀ a, P a → a ≠ r ∧ a ∉ as) : RAt S' r as rows :=
  ⟨h.len, k _ _ (fun z => (n _ z).1 rfl) h.lst, fun i a row h1 h2 => k _ _ (fun z => (n _ z).2 (List.mem_of_getElem? h1)) (h.row i a row h1 h2), h.nd, h.nr⟩
theorem RAt.keepG {S S' : Sto} {r : Addr} {as : List Addr} {rows : List (List Int)} (h : RAt S r as rows) (k : SG S S') : RAt S' r as rows := h.keep k fun _ z => z.elim
theorem RAt.putNe {S : Sto} {r a : Addr} {o : Ob} {as : List Addr} {rows : List (List Int)} (h : RAt S r as rows) (n1 : a ≠ r) (n2 : a ∉ as) : RAt (S.put a o) r as rows :=
  ⟨h.len, (Sto.ne (Ne.symm n1)).trans h.lst, fun i b row h1 h2 => (Sto.ne fun z => n2 (by rw [← z]; exact List.mem_of_getElem? h1)).trans (h.row i b row h1 h2), h.nd, h.nr⟩
theorem RAt.put {S : Sto} {r a : Addr} {as : List Addr} {rows : List (List Int)} {p : Nat} {row : List Int} (h : RAt S r as rows) (ha : as[p]? = some a) (hr : rows[p]? = some row) (vs : List Int) : RAt (S.put a (.lst (intsD row ++ intsD vs))) r as (rows.set p (row ++ vs)) := by
  have hp : p < rows.length := (List.getElem?_eq_some_iff.mp hr).1
  refine ⟨by rw [List.length_set]; exact h.len, (Sto.ne fun z => h.nr (by rw [z]; exact List.mem_of_getElem? ha)).trans h.lst, fun i b row' h1 h2 => ?_, h.nd, h.nr⟩
  by_cases z : p = i
  · subst z
    obtain rfl := Option.some.inj (ha.symm.trans h1)
    rw [List.getElem?_set_self hp] at h2
    obtain rfl := Option.some.inj h2
    rw [Sto.same]
    unfold intsD
    rw [List.map_append]
  · rw [List.getElem?_set_ne z] at h2
    have nb : b ≠ a := fun e => by
      subst e
      obtain ⟨i1, e1⟩ := List.getElem?_eq_some_iff.mp ha
      obtain ⟨i2, e2⟩ := List.getElem?_eq_some_iff.mp h1
      exact z ((List.getElem_inj (h₀ := i1) (h₁ := i2) h.nd).mp (e1.trans e2.symm))
    rw [Sto.ne nb]
    exact h.row i b row' h1 h2
theorem RAt.at {S : Sto} {r : Addr} {as : List Addr} {rows : List (List Int)} (h : RAt S r as rows) {p : Nat} (hp : p < rows.length) : ∃ a row, as[p]? = some a ∧ rows[p]? = some row ∧ (as.map D.ref)[p]? = some (.ref a) ∧ S a = some (.lst (intsD row)) ∧ a ∈ as := by
  have ha : as[p]? = some (as[p]'(by rw [h.len]; exact hp)) := List.getElem?_eq_getElem (by rw [h.len]; exact hp)
  have hr := List.getElem?_eq_getElem hp
  exact ⟨_, _, ha, hr, by rw [List.getElem?_map, ha]; rfl, h.row p _ _ ha hr, List.mem_of_getElem? ha⟩
theorem lc_rows {n kk : Nat} {env : Env} {S1 : Sto} {Rp : Addr → Sto → Prop} {w : Src} (hw : w.items.length = n) (hl : ∀ S, w.live S) (n9 : n ≤ 1000)
    (fin : ∀ r as S', SG S1 S' → RAt S' r as (List.replicate n []) → (∀ a, a = r ∨ a ∈ as → S1 a = none) → Rp r S') :
    ∀ p, S1 p = none → ∃ Pv : Nat → Sto → Prop, Pv 0 (S1.put p (.lst [])) ∧ (∀ i S, i ≤ w.items.length → Pv i S → w.live S) ∧
      (∀ i d S, w.items[i]? = some d → Pv i S → dgName kk d (dwipe env [kk]) S fun env' S' => dYes env' S' fun b S2 => if b = true then (dLst dNil) env' S2 fun y S3 => ∃ acc, S3 p = some (.lst acc) ∧ acc.length < 1000000 ∧ Pv (i + 1) (S3.put p (.lst (acc ++ [y]))) else Pv (i + 1) S2) ∧
      ∀ S, Pv w.items.length S → Rp p S := by
  subst hw
  intro p np
  refine ⟨fun i S => ∃ as : List Addr, as.length = i ∧ i ≤ w.items.length ∧ SG S1 S ∧ S p = some (.lst (as.map D.ref)) ∧ (∀ a ∈ as, S a = some (.lst [])) ∧ as.Nodup ∧ p ∉ as ∧ ∀ a ∈ as, S1 a = none, ⟨[], rfl, Nat.zero_le _, .new np, Sto.same, (fun a z => nomatch z), .nil, (fun z => nomatch z), (fun a z => nomatch z)⟩, fun i S _ _ => hl S, fun i d S hd h => ?_, fun S h => ?_⟩
  · obtain ⟨as, la, hi, sg, hp, hr, nd, npa, nf⟩ := h
    have hi : i < w.items.length := (List.getElem?_eq_some_iff.mp hd).1
    dsimp only [dgName, dYes]
    refine goT ?_
    refine ⟨rfl, fun q nq => ?_⟩
    have nqS : S1 q = none := by
      cases z : S1 q with
      | none => rfl
      | some o => rw [sg _ _ (fun z => z) z] at nq; cases nq
    have qp : p ≠ q := fun z => by rw [← z, hp] at nq; cases nq
    have qa : q ∉ as := fun z => by rw [hr q z] at nq; cases nq
    refine ⟨as.map D.ref, (Sto.ne qp).trans hp, by rw [List.length_map]; omega, as ++ [q], by rw [List.length_append, la]; rfl, hi, SG.keepP np sg (.new nq), by rw [Sto.same, List.map_append]; rfl, fun a ha => ?_, ?_, ?_, fun a ha => ?_⟩
    · rcases List.mem_append.mp ha with z | z
      · rw [Sto.ne (fun e : a = p => npa (e ▸ z)), Sto.ne (fun e : a = q => qa (e ▸ z))]
        exact hr a z
      · rw [List.mem_singleton.mp z, Sto.ne (Ne.symm qp), Sto.same]
    · refine List.nodup_append.mpr ⟨nd, (List.nodup_cons.mpr ⟨(fun z => nomatch z), .nil⟩), fun a ha b hb => ?_⟩
      rw [List.mem_singleton.mp hb]
      exact fun z => qa (z ▸ ha)
    · intro z
      rcases List.mem_append.mp z with z | z
      · exact npa z
      · exact qp (List.mem_singleton.mp z)
    · rcases List.mem_append.mp ha with z | z
      · exact nf a z
      · rw [List.mem_singleton.mp z]
        exact nqS
  · obtain ⟨as, la, hi, sg, hp, hr, nd, npa, nf⟩ := h
    refine fin p as S sg ⟨by rw [la, List.length_replicate], hp, fun i a row h1 h2 => ?_, nd, npa⟩ fun a ha => ?_
    · obtain ⟨_, e⟩ := List.getElem?_eq_some_iff.mp h2
      rw [List.getElem_replicate] at e
      subst e
      exact hr a (List.mem_of_getElem? h1)
    · rcases ha with rfl | ha
      · exact np
      · exact nf a ha
theorem Good.mono {a b a' b' : Nat} {rows : List (List Int)} (h : Good a b rows) (h1 : a ≤ a') (h2 : b ≤ b') : Good a' b' rows := by
  obtain ⟨c, nm, o, u, k, g1, g2, g3, g4, g5⟩ := h
  exact ⟨c, nm, o, u, k, g1, by omega, g3, g4, by omega⟩
theorem set_set {α : Type} (l : List α) (p : Nat) (a b : α) : (l.set p a).set p b = l.set p b := List.set_set ..
end Sv
set_option maxHeartbeats 400000
set_option maxHeartbeats 1000000
namespace Sv
open PySem L2
def swp (o : List (Int × Int)) : List (Int × Int) := o.map fun x => (x.2, x.1)
structure RWv (S0 S : Sto) (st rs r N W : Addr) (as : List Addr) (c : Nat) (nm : List Int) (rows : List (List Int)) (o : List (Int × Int)) (u i : Nat) : Prop where
  sk : SK (DQ st rs) S0 S
  ra : RAt S r as rows
  hN : S N = some (.lst (intsD (nm.drop u).reverse))
  hW : S W = some (.lst ((swp o).map pairD))
  g : Grown c nm rows o u i
theorem RWv.keep {S0 S S' : Sto} {st cl rs r N W : Addr} {as : List Addr} {c : Nat} {nm : List Int} {rows : List (List Int)} {o : List (Int × Int)} {u i : Nat} (h : RWv S0 S st rs r N W as c nm rows o u i) (k : SK (DQ st rs) S S')
    (nd : ∀ a, a = r ∨ a = N ∨ a = W ∨ a ∈ as → a ≠ st ∧ a ≠ cl ∧ a ≠ rs) : RWv S0 S' st rs r N W as c nm rows o u i := by
  have nq : ∀ a, a = r ∨ a = N ∨ a = W ∨ a ∈ as → ¬ DQ st rs a := fun a ha z => z.elim (nd a ha).1 (nd a ha).2.2
  exact ⟨h.sk.trans k, h.ra.keep k fun a z => ⟨fun e => nq a (.inl e) z, fun e => nq a (.inr (.inr (.inr e))) z⟩, k _ _ (nq _ (.inr (.inl rfl))) h.hN, k _ _ (nq _ (.inr (.inr (.inl rfl)))) h.hW, h.g⟩
theorem RWv.keepG {S0 S S' : Sto} {st rs r N W : Addr} {as : List Addr} {c : Nat} {nm : List Int} {rows : List (List Int)} {o : List (Int × Int)} {u i : Nat} (h : RWv S0 S st rs r N W as c nm rows o u i) (k : SG S S') : RWv S0 S' st rs r N W as c nm rows o u i :=
  ⟨h.sk.trans k.sk, h.ra.keepG k, k _ _ (fun z => z) h.hN, k _ _ (fun z => z) h.hW, h.g⟩
theorem Dk.free {st cl rs : Addr} {n : Nat} {S0 S : Sto} (D : Dk st cl rs n S) (k : SK (DQ st rs) S0 S) {a : Addr} (z : S a = none) : S0 a = none := SK.free k z fun q => q.elim (D.fresh z).1 (D.fresh z).2.2
theorem fm_not {α β : Type} (g : α → β) (q : α → Bool) : ∀ l : List α, (l.filterMap fun x => if q x = true then none else some (g x)) = (l.filter fun x => !q x).map g
  | [] => rfl
  | a :: l => by
    rw [List.filterMap_cons, List.filter_cons]
    cases h : q a with
    | true => simp only [if_true, Bool.not_true, Bool.false_eq_true, if_false]; exact fm_not g q l
    | false => simp only [Bool.false_eq_true, if_false, Bool.not_false, if_true, List.map_cons]; rw [fm_not g q l]
end Sv
set_option maxHeartbeats 800000
set_option autoImplicit false
set_option maxHeartbeats 400000
set_option maxHeartbeats 400000
set_option maxHeartbeats 400000
set_option maxHeartbeats 400000
namespace Sv
open PySem L2
structure Up (rows : List (List Int)) (low cs : List Nat) : Prop where
  len : cs.length = low.length
  ge : LeL low cs
  bot : ∀ L : List Nat, L.length = low.length → LeL low L → ConsL rows L → LeL cs L
structure IsUp (rows : List (List Int)) (low cs : List Nat) : Prop extends Up rows low cs where
  cons : ConsL rows cs
theorem IsUp.unique {rows : List (List Int)} {low a b : List Nat} (ha : IsUp rows low a) (hb : IsUp rows low b) : a = b := by
  apply List.ext_getElem (ha.len.trans hb.len.symm)
  intro i h1 h2
  have e1 := List.getElem?_eq_getElem h1
  have e2 := List.getElem?_eq_getElem h2
  exact Nat.le_antisymm (ha.bot b hb.len hb.ge hb.cons i _ _ e1 e2) (hb.bot a ha.len ha.ge ha.cons i _ _ e2 e1)
theorem Up.start (rows : List (List Int)) (low : List Nat) : Up rows low low := ⟨rfl, .refl _, fun _ _ h _ => h⟩
theorem Up.step {rows : List (List Int)} {low cs : List Nat} (h : Up rows low cs) {m : Int} {p k p' k' c c' : Nat} (hm : 0 < m) (h1 : hap rows m = some (p, k)) (h2 : hap rows (0 - m) = some (p', k')) (h3 : cs[p]? = some c) (h4 : cs[p']? = some c') (h5 : k' < c') (h6 : c ≤ k) : Up rows low (cs.set p (k + 1)) := by
  refine ⟨by rw [List.length_set]; exact h.len, fun i x y g1 g2 => ?_, fun L l1 l2 l3 i x y g1 g2 => ?_⟩
  · rw [List.getElem?_set] at g2
    split at g2
    · rename_i e
      subst e
      split at g2
      · obtain rfl := Option.some.inj g2
        have := h.ge _ _ _ g1 h3
        omega
      · cases g2
    · exact h.ge _ _ _ g1 g2
  · have hl := h.bot L l1 l2 l3
    rw [List.getElem?_set] at g1
    split at g1
    · rename_i e
      subst e
      split at g1
      · obtain rfl := Option.some.inj g1
        have hpl : p' < L.length := by
          rw [l1, ← h.len]
          exact (List.getElem?_eq_some_iff.mp h4).1
        have hp := List.getElem?_eq_getElem hpl
        have h7 := hl _ _ _ h4 hp
        have := l3 m p k p' k' y _ hm h1 h2 g2 hp (by omega)
        omega
      · cases g1
    · exact hl _ _ _ g1 g2
def capS (cs : List Nat) : Nat := (cs.map fun c => 1002 - c).sum
theorem capS_set {cs : List Nat} {p c k : Nat} (h : cs[p]? = some c) : capS (cs.set p k) + (1002 - c) = capS cs + (1002 - k) := by
  unfold capS
  rw [List.map_set]
  exact sum_set (by rw [List.getElem?_map, h]; rfl)
theorem up_exists {rows : List (List Int)} (hs : ∀ e, HapS (hap rows e)) (low : List Nat) : ∃ cs, IsUp rows low cs := by
  have go : ∀ (n : Nat) (cs : List Nat), capS cs ≤ n → Up rows low cs → ∃ cs, IsUp rows low cs := by
    intro n
    induction n with
    | zero =>
      intro cs hs' hd
      refine ⟨cs, hd, fun m p k p' k' c c' hm h1 h2 h3 h4 h5 => ?_⟩
      have := capS_set (k := k + 1) h3
      have := (hs _ _ _ h1).2
      omega
    | succ n ih =>
      intro cs hs' hd
      refine Classical.byContradiction fun no => no ⟨cs, hd, fun m p k p' k' c c' hm h1 h2 h3 h4 h5 => Classical.byContradiction fun h6 => no (ih (cs.set p (k + 1)) ?_ (hd.step hm h1 h2 h3 h4 h5 (by omega)))⟩
      have := capS_set (k := k + 1) h3
      have := (hs _ _ _ h1).2
      omega
  exact go _ low (Nat.le_refl _) (.start rows low)
open Classical in
noncomputable def upL (rows : List (List Int)) (low : List Nat) : List Nat := if h : ∃ cs, IsUp rows low cs then Classical.choose h else low
theorem up_is {rows : List (List Int)} {many most : Nat} (hG : Good many most rows) (h6 : many ≤ 6) (h60 : most ≤ 60) (low : List Nat) : IsUp rows low (upL rows low) := by
  have h := up_exists (fun e => hG.hapS h6 h60 e) low
  unfold upL
  rw [dif_pos h]
  exact Classical.choose_spec h
def stD (s : Nat × Nat) : D := prD ((s.1 : Int), (s.2 : Int))
def lowS (l : List Nat) (s : Nat × Nat) : List Nat := l.set s.1 (max (l.getD s.1 0) s.2)
def highS (l : List Nat) (s : Nat × Nat) : List Nat := l.set s.1 (min (l.getD s.1 0) s.2)
def lowL (rows : List (List Int)) (ss : List (Nat × Nat)) : List Nat := ss.foldl lowS (List.replicate rows.length 0)
def highL (rows : List (List Int)) (ss : List (Nat × Nat)) : List Nat := ss.foldl highS (prs rows)
theorem lowS_len (l : List Nat) (s : Nat × Nat) : (lowS l s).length = l.length := List.length_set ..
theorem highS_len (l : List Nat) (s : Nat × Nat) : (highS l s).length = l.length := List.length_set ..
theorem foldl_low_len : ∀ (ss : List (Nat × Nat)) (l : List Nat), (ss.foldl lowS l).length = l.length
  | [], _ => rfl
  | s :: ss, l => by rw [List.foldl_cons, foldl_low_len ss, lowS_len]
theorem foldl_high_len : ∀ (ss : List (Nat × Nat)) (l : List Nat), (ss.foldl highS l).length = l.length
  | [], _ => rfl
  | s :: ss, l => by rw [List.foldl_cons, foldl_high_len ss, highS_len]
theorem prs_len (rows : List (List Int)) : (prs rows).length = rows.length := List.length_map ..
theorem lowL_len (rows : List (List Int)) (ss : List (Nat × Nat)) : (lowL rows ss).length = rows.length := by
  unfold lowL
  rw [foldl_low_len, List.length_replicate]
theorem highL_len (rows : List (List Int)) (ss : List (Nat × Nat)) : (highL rows ss).length = rows.length := by
  unfold highL
  rw [foldl_high_len, prs_len]
theorem getD_of {l : List Nat} {i x : Nat} (h : l[i]? = some x) : l.getD i 0 = x := by rw [List.getD_eq_getElem?_getD, h]; rfl
theorem lowS_le {l L : List Nat} {s : Nat × Nat} (hl : L.length = l.length) (hs : s.1 < l.length) : LeL (lowS l s) L ↔ LeL l L ∧ ∀ x, L[s.1]? = some x → s.2 ≤ x := by
  have hx := List.getElem?_eq_getElem hs
  generalize l[s.1] = x at hx
  unfold lowS
  rw [getD_of hx]
  constructor
  · intro h
    refine ⟨fun i a b h1 h2 => ?_, fun y hy => ?_⟩
    · by_cases z : s.1 = i
      · subst z
        obtain rfl := Option.some.inj (hx.symm.trans h1)
        have := h _ _ _ (List.getElem?_set_self hs) h2
        omega
      · exact h i a b (by rw [List.getElem?_set_ne z]; exact h1) h2
    · have := h _ _ _ (List.getElem?_set_self hs) hy
      omega
  · rintro ⟨h, g⟩ i a b h1 h2
    by_cases z : s.1 = i
    · subst z
      rw [List.getElem?_set_self hs] at h1
      obtain rfl := Option.some.inj h1
      have := h _ _ _ hx h2
      have := g _ h2
      omega
    · rw [List.getElem?_set_ne z] at h1
      exact h i a b h1 h2
theorem highS_le {l L : List Nat} {s : Nat × Nat} (hl : L.length = l.length) (hs : s.1 < l.length) : LeL L (highS l s) ↔ LeL L l ∧ ∀ x, L[s.1]? = some x → x ≤ s.2 := by
  have hx := List.getElem?_eq_getElem hs
  generalize l[s.1] = x at hx
  unfold highS
  rw [getD_of hx]
  constructor
  · intro h
    refine ⟨fun i a b h1 h2 => ?_, fun y hy => ?_⟩
    · by_cases z : s.1 = i
      · subst z
        obtain rfl := Option.some.inj (hx.symm.trans h2)
        have := h _ _ _ h1 (List.getElem?_set_self hs)
        omega
      · exact h i a b h1 (by rw [List.getElem?_set_ne z]; exact h2)
    · have := h _ _ _ hy (List.getElem?_set_self hs)
      omega
  · rintro ⟨h, g⟩ i a b h1 h2
    by_cases z : s.1 = i
    · subst z
      rw [List.getElem?_set_self hs] at h2
      obtain rfl := Option.some.inj h2
      have := h _ _ _ h1 hx
      have := g _ h1
      omega
    · rw [List.getElem?_set_ne z] at h2
      exact h i a b h1 h2
theorem foldl_low_le : ∀ {ss : List (Nat × Nat)} {l L : List Nat}, L.length = l.length → (∀ s ∈ ss, s.1 < l.length) → (LeL (ss.foldl lowS l) L ↔ LeL l L ∧ ∀ s ∈ ss, ∀ x, L[s.1]? = some x → s.2 ≤ x)
  | [], l, L, _, _ => ⟨fun h => ⟨h, fun s hs => nomatch hs⟩, fun h => h.1⟩
  | s :: ss, l, L, hl, hs => by
    rw [List.foldl_cons, foldl_low_le (by rw [lowS_len]; exact hl) (fun t ht => by rw [lowS_len]; exact hs t (List.mem_cons_of_mem _ ht)), lowS_le hl (hs s List.mem_cons_self)]
    exact ⟨fun ⟨⟨a, b⟩, c⟩ => ⟨a, fun t ht => (List.mem_cons.mp ht).elim (fun z => z ▸ b) (c t)⟩, fun ⟨a, b⟩ => ⟨⟨a, b s List.mem_cons_self⟩, fun t ht => b t (List.mem_cons_of_mem _ ht)⟩⟩
theorem foldl_high_le : ∀ {ss : List (Nat × Nat)} {l L : List Nat}, L.length = l.length → (∀ s ∈ ss, s.1 < l.length) → (LeL L (ss.foldl highS l) ↔ LeL L l ∧ ∀ s ∈ ss, ∀ x, L[s.1]? = some x → x ≤ s.2)
  | [], l, L, _, _ => ⟨fun h => ⟨h, fun s hs => nomatch hs⟩, fun h => h.1⟩
  | s :: ss, l, L, hl, hs => by
    rw [List.foldl_cons, foldl_high_le (by rw [highS_len]; exact hl) (fun t ht => by rw [highS_len]; exact hs t (List.mem_cons_of_mem _ ht)), highS_le hl (hs s List.mem_cons_self)]
    exact ⟨fun ⟨⟨a, b⟩, c⟩ => ⟨a, fun t ht => (List.mem_cons.mp ht).elim (fun z => z ▸ b) (c t)⟩, fun ⟨a, b⟩ => ⟨⟨a, b s List.mem_cons_self⟩, fun t ht => b t (List.mem_cons_of_mem _ ht)⟩⟩
theorem lowL_le {rows : List (List Int)} {ss : List (Nat × Nat)} {L : List Nat} (hl : L.length = rows.length) (hs : ∀ s ∈ ss, s.1 < rows.length) : LeL (lowL rows ss) L ↔ ∀ s ∈ ss, ∀ x, L[s.1]? = some x → s.2 ≤ x := by
  unfold lowL
  rw [foldl_low_le (by rw [List.length_replicate]; exact hl) (fun s h => by rw [List.length_replicate]; exact hs s h)]
  refine ⟨fun h => h.2, fun h => ⟨fun i a b h1 _ => ?_, h⟩⟩
  obtain ⟨_, e⟩ := List.getElem?_eq_some_iff.mp h1
  rw [List.getElem_replicate] at e
  omega
theorem highL_le {rows : List (List Int)} {ss : List (Nat × Nat)} {L : List Nat} (hl : L.length = rows.length) (hs : ∀ s ∈ ss, s.1 < rows.length) : LeL L (highL rows ss) ↔ LeL L (prs rows) ∧ ∀ s ∈ ss, ∀ x, L[s.1]? = some x → x ≤ s.2 := by
  unfold highL
  exact foldl_high_le (by rw [prs_len]; exact hl) (fun s h => by rw [prs_len]; exact hs s h)
/-- a consistent line with the states -/
structure Thru (rows : List (List Int)) (ss : List (Nat × Nat)) (L : List Nat) : Prop where
  len : L.length = rows.length
  le : LeL L (prs rows)
  cons : ConsL rows L
  on : ∀ s ∈ ss, L[s.1]? = some s.2
theorem thru_iff {rows : List (List Int)} {ss : List (Nat × Nat)} {L : List Nat} (hs : ∀ s ∈ ss, s.1 < rows.length) : Thru rows ss L ↔ L.length = rows.length ∧ ConsL rows L ∧ LeL (lowL rows ss) L ∧ LeL L (highL rows ss) := by
  constructor
  · intro h
    refine ⟨h.len, h.cons, (lowL_le h.len hs).mpr fun s hs' x hx => ?_, (highL_le h.len hs).mpr ⟨h.le, fun s hs' x hx => ?_⟩⟩
    · have := h.on s hs'
      rw [this] at hx
      obtain rfl := Option.some.inj hx
      exact Nat.le_refl _
    · have := h.on s hs'
      rw [this] at hx
      obtain rfl := Option.some.inj hx
      exact Nat.le_refl _
  · rintro ⟨h1, h2, h3, h4⟩
    have h3 := (lowL_le h1 hs).mp h3
    have h4 := (highL_le h1 hs).mp h4
    refine ⟨h1, h4.1, h2, fun s hs' => ?_⟩
    have hl : s.1 < L.length := by rw [h1]; exact hs s hs'
    have hx := List.getElem?_eq_getElem hl
    rw [hx, Nat.le_antisymm (h4.2 s hs' _ hx) (h3 s hs' _ hx)]
/-- the least one, if there is one -/
theorem thru_up {rows : List (List Int)} {many most : Nat} (hG : Good many most rows) (h6 : many ≤ 6) (h60 : most ≤ 60) {ss : List (Nat × Nat)} (hs : ∀ s ∈ ss, s.1 < rows.length) : (∃ L, Thru rows ss L) ↔ LeL (upL rows (lowL rows ss)) (highL rows ss) := by
  have u := up_is hG h6 h60 (lowL rows ss)
  constructor
  · rintro ⟨L, h⟩
    obtain ⟨h1, h2, h3, h4⟩ := (thru_iff hs).mp h
    have := u.bot L (by rw [h1, lowL_len]) h3 h2
    intro i x y g1 g2
    have hl : i < L.length := by rw [h1, ← highL_len rows ss]; exact (List.getElem?_eq_some_iff.mp g2).1
    have e := List.getElem?_eq_getElem hl
    have a1 := this _ _ _ g1 e
    have a2 := h4 _ _ _ e g2
    omega
  · intro h
    exact ⟨_, (thru_iff hs).mpr ⟨u.len.trans (lowL_len rows ss), u.cons, u.ge, h⟩⟩
open Classical in
/-- whether no consistent line contains a state -/
noncomputable def lostB (rows : List (List Int)) (s : Nat × Nat) : Bool := decide (¬ ∃ L, Thru rows [s] L)
theorem lostB_t {rows : List (List Int)} {s : Nat × Nat} (h : ¬ ∃ L, Thru rows [s] L) : lostB rows s = true := by
  classical
  unfold lostB
  exact decide_eq_true h
theorem lostB_f {rows : List (List Int)} {s : Nat × Nat} (h : ∃ L, Thru rows [s] L) : lostB rows s = false := by
  classical
  unfold lostB
  exact decide_eq_false (not_not_intro h)
def stN (x : Int × Int) : Nat × Nat := (x.1.toNat, x.2.toNat)
noncomputable def lostU (rows : List (List Int)) : List (Int × Int) := (allU rows rows.length).filter fun x => lostB rows (stN x)
end Sv
set_option maxHeartbeats 400000
namespace Sv
open PySem L2
def cutsU (rows : List (List Int)) : Nat → List (List Nat)
  | 0 => [[]]
  | i + 1 => (cutsU rows i).flatMap fun c => (List.range ((rows.getD i []).count 0 + 2)).map fun n => c ++ [n]
def cutD' (c : List Nat) : D := .tup (natD c)
theorem getD_count {rows : List (List Int)} {B : Nat} (h : ∀ r ∈ rows, r.count 0 + 2 ≤ B) (h2 : 2 ≤ B) (i : Nat) : (rows.getD i []).count 0 + 2 ≤ B := by
  rw [List.getD_eq_getElem?_getD]
  cases e : rows[i]? with
  | none => exact h2
  | some r => exact h r (List.mem_of_getElem? e)
theorem cutsU_lenB {rows : List (List Int)} {B : Nat} (h : ∀ r ∈ rows, r.count 0 + 2 ≤ B) (h2 : 2 ≤ B) : ∀ i, (cutsU rows i).length ≤ B ^ i
  | 0 => Nat.le_refl _
  | i + 1 => by
    have ih := cutsU_lenB h h2 i
    have hc : ∀ c ∈ cutsU rows i, ((List.range ((rows.getD i []).count 0 + 2)).map fun n => c ++ [n]).length ≤ B := fun c _ => by
      rw [List.length_map, List.length_range]
      exact getD_count h h2 i
    have := flat_le _ B (cutsU rows i) hc
    show ((cutsU rows i).flatMap _).length ≤ _
    rw [Nat.pow_succ]
    exact Nat.le_trans this (Nat.mul_le_mul_right B ih)
end Sv
set_option maxHeartbeats 400000
namespace Sv
open PySem L2
abbrev Mv := Int × Nat × Nat × Nat × Nat
end Sv
namespace Sv
open PySem PySem.Spec PyProof.Rows L2
structure Fine (n W : Nat) (d : PyData) : Prop where
  dep : d.depth ≤ n
  wei : d.weight ≤ W
  lay : d.canLay0 = true
  sho : d.showable = true
  ish : d.intsShort 40 = true
structure FineAll (n W : Nat) (ds : List PyData) : Prop where
  dep : PyData.depthAll ds ≤ n
  wei : PyData.weightAll ds ≤ W
  lay : PyData.canLayAll0 ds = true
  sho : PyData.showableAll ds = true
  ish : PyData.intsShortAll 40 ds = true
theorem FineAll.mono {n W m U : Nat} {d : List PyData} (h : FineAll n W d) (e : n ≤ m) (e2 : W ≤ U) : FineAll m U d := ⟨Nat.le_trans h.dep e, Nat.le_trans h.wei e2, h.lay, h.sho, h.ish⟩
theorem fine_nil : FineAll 0 0 [] := ⟨Nat.le_refl _, Nat.le_refl _, rfl, rfl, rfl⟩
theorem fine_cons {n W U : Nat} {d : PyData} {ds : List PyData} (h : Fine n W d) (hs : FineAll n U ds) : FineAll n (W + 1 + U) (d :: ds) := by
  refine ⟨?_, ?_, ?_, ?_, ?_⟩
  · simp only [PyData.depthAll]
    exact Nat.max_le.mpr ⟨h.dep, hs.dep⟩
  · have h1 := h.wei
    have h2 := hs.wei
    simp only [PyData.weightAll]
    omega
  · simp only [PyData.canLayAll0, h.lay, hs.lay, Bool.and_self]
  · simp only [PyData.showableAll, h.sho, hs.sho, Bool.and_self]
  · simp only [PyData.intsShortAll, h.ish, hs.ish, Bool.and_self]
theorem fine_all {n W : Nat} : ∀ {ds : List PyData}, (∀ d ∈ ds, Fine n W d) → FineAll n ((W + 1) * ds.length) ds
  | [], _ => fine_nil.mono (Nat.zero_le _) (Nat.zero_le _)
  | d :: ds, h => by
    have q := fine_cons (h d List.mem_cons_self) (fine_all fun x hx => h x (List.mem_cons_of_mem _ hx))
    refine q.mono (Nat.le_refl _) ?_
    rw [List.length_cons, Nat.mul_add, Nat.mul_one]
    omega
theorem fine_int {i : Int} (h : i.natAbs < 10 ^ 30) : Fine 0 101 (.int i) := by
  have hl : i.natAbs ≠ 0 → i.natAbs.log2 < 100 := fun h0 => (Nat.log2_lt h0).mpr (Nat.lt_trans h (by decide +kernel))
  have hl2 : i.natAbs.log2 < 1920 := by
    by_cases h0 : i.natAbs = 0
    · rw [h0]; decide
    · exact Nat.lt_trans (hl h0) (by decide)
  refine ⟨Nat.le_refl _, ?_, rfl, decide_eq_true hl2, decide_eq_true ?_⟩
  · simp only [PyData.weight]
    split
    · exact Nat.zero_le _
    · rename_i h0
      have : i.natAbs ≠ 0 := fun z => h0 (by rw [beq_iff_eq]; omega)
      have := hl this
      omega
  · have e := int_text_length_le10 (a := i) (k := 30) (by decide) h
    show (Str.ofString (toString i)).length ≤ 40
    rw [PySem.ofString_length]
    omega
theorem fine_ints {ns : List Int} (h : ∀ n ∈ ns, n.natAbs < 10 ^ 30) : FineAll 0 (102 * ns.length) (iD ns) := by
  have q := fine_all (n := 0) (W := 101) (ds := iD ns) fun d hd => by
    obtain ⟨n, hn, rfl⟩ := List.mem_map.mp hd
    exact fine_int (h n hn)
  unfold iD at q ⊢
  rw [List.length_map] at q
  exact q
theorem fine_tuple {n W : Nat} {ds : List PyData} (h : FineAll n W ds) : Fine (n + 1) W (.tuple ds) := by
  have h1 := h.dep
  refine ⟨by simp only [PyData.depth]; omega, h.wei, ?_, ?_, ?_⟩
  · simp only [PyData.canLay0, h.lay]
  · simp only [PyData.showable, h.sho]
  · simp only [PyData.intsShort, h.ish]
theorem Fine.len {n W : Nat} {d : PyData} (h : Fine n W d) (hW : W ≤ 300000) : d.shown.length ≤ sizeLine := by
  have q := PyData.shown_le 40 (by decide) d (PyData.leavesShort_of_canLay0 40 d h.lay h.ish)
  have := h.wei
  rw [sizeLine_eq]
  omega
theorem Fine.mono {n W m U : Nat} {d : PyData} (h : Fine n W d) (e : n ≤ m) (e2 : W ≤ U) : Fine m U d := ⟨Nat.le_trans h.dep e, Nat.le_trans h.wei e2, h.lay, h.sho, h.ish⟩
end Sv
set_option maxHeartbeats 400000
namespace Sv
open PySem PySem.Spec PyProof.Rows L2
theorem eqv_shaped {p : PyData} (h : SeqAt.shaped p = true) : (PyData.eqv p p ^^ true) = false := by
  rw [SeqAt.eqv_refl _ (SeqAt.canLay_of_shaped h)]
  rfl
theorem py_nat {S : Sto} (cs : List Nat) : Py S (.tup (natD cs)) (.tuple ((cs.map fun (c : Nat) => (c : Int)).map PyData.int)) := by
  rw [natD_ints]
  exact .tup (pys_ints _)
theorem Fine.text {n W : Nat} {d : PyData} (h : Fine n W d) (hn : n ≤ 60) (hW : W ≤ 300000) (hi : isDisplay d = true) : Text d := ⟨hi, h.sho, PyData.hasDict_of_canLay d h.lay, Nat.le_trans h.dep hn, h.len hW⟩
end Sv
set_option maxHeartbeats 400000
namespace Sv
open PySem PySem.Spec PyProof.Rows L2
/-- not too many lines -/
def Wl (rows : List (List Int)) : Prop := ∃ B, 2 ≤ B ∧ B ≤ 1000 ∧ (∀ r ∈ rows, r.count 0 + 2 ≤ B) ∧ B ^ rows.length ≤ 70000
theorem Wl.of {a b : Nat} {rows : List (List Int)} (hG : Good a b rows) (hb : b ≤ 60) (h : (b + 2) ^ a ≤ 70000) : Wl rows := by
  refine ⟨b + 2, by omega, by omega, fun r hr => ?_, ?_⟩
  · obtain ⟨i, hi⟩ := List.getElem?_of_mem hr
    have h1 := (hG.row hi).1
    have h2 : r.count 0 ≤ r.length := List.count_le_length ..
    omega
  · exact Nat.le_trans (Nat.pow_le_pow_right (by omega) hG.len.2) h
theorem Wl.len {rows : List (List Int)} (h : Wl rows) (i : Nat) (hi : i ≤ rows.length) : (cutsU rows i).length ≤ 70000 := by
  obtain ⟨B, h2, _, hc, hB⟩ := h
  exact Nat.le_trans (cutsU_lenB hc h2 i) (Nat.le_trans (Nat.pow_le_pow_right (by omega) hi) hB)
end Sv
set_option maxHeartbeats 400000
namespace Sv
open PySem PySem.Spec PyProof.Rows L2
theorem hap_leC {rows : List (List Int)} {e : Int} {p k : Nat} (h : hap rows e = some (p, k)) : ∃ row, rows[p]? = some row ∧ k ≤ row.count 0 := by
  rcases spot_hap (e := e) (rs := rows) (p := 0) with ⟨_, z⟩ | ⟨p', row, z1, z2, _, z4⟩
  · unfold hap at h
    rw [z] at h
    cases h
  · unfold hap at h
    rw [z4, Nat.zero_add] at h
    cases h
    exact ⟨row, z1, List.Sublist.count_le _ (List.take_sublist _ _)⟩
theorem fine_pair {x : Int × Int} (h1 : x.1.natAbs < 10 ^ 30) (h2 : x.2.natAbs < 10 ^ 30) : Fine 1 204 (pD x) := by
  have q : FineAll 0 (102 * [x.1, x.2].length) (iD [x.1, x.2]) := fine_ints fun y hy => by
    rcases List.mem_cons.mp hy with rfl | hy
    · exact h1
    · rw [List.mem_singleton.mp hy]; exact h2
  exact fine_tuple q
end Sv
set_option maxHeartbeats 400000
namespace Sv
open PySem PySem.Spec PyProof.Rows L2
def nxG (rows : List (List Int)) (nx : Int → Int → Bool) (m : Int) : List Int := (recvL rows).filter (nx m)
inductive Dz (rows : List (List Int)) (nx : Int → Int → Bool) (base : Int → Bool) : Nat → Int → Prop
  | base {m : Int} : m ∈ recvL rows → base m = true → Dz rows nx base 1 m
  | step {n : Nat} {m t : Int} : m ∈ recvL rows → nx m t = true → Dz rows nx base n t → Dz rows nx base (n + 1) m
section
variable {rows : List (List Int)} {nx : Int → Int → Bool} {base : Int → Bool}
theorem Dz.mem {n : Nat} {m : Int} (h : Dz rows nx base n m) : m ∈ recvL rows := by
  cases h with
  | base h _ => exact h
  | step h _ _ => exact h
theorem Dz.pos {n : Nat} {m : Int} (h : Dz rows nx base n m) : 1 ≤ n := by
  cases h with
  | base _ _ => exact Nat.le_refl _
  | step _ _ _ => omega
theorem Dz.inv {n : Nat} {m : Int} (h : Dz rows nx base (n + 1) m) (hn : 1 ≤ n) : ∃ t, nx m t = true ∧ Dz rows nx base n t := by
  generalize e : n + 1 = k at h
  cases h with
  | base _ _ => omega
  | step _ h1 h2 =>
    obtain rfl := Nat.succ.inj e
    exact ⟨_, h1, h2⟩
theorem Dz.one {m : Int} (h : Dz rows nx base 1 m) : base m = true := by
  generalize e : 1 = k at h
  cases h with
  | base _ h => exact h
  | step _ _ h =>
    have := h.pos
    omega
/-- the least length -/
def Le (rows : List (List Int)) (nx : Int → Int → Bool) (base : Int → Bool) (n : Nat) (m : Int) : Prop := Dz rows nx base n m ∧ ∀ k, k < n → ¬ Dz rows nx base k m
theorem Dz.least : ∀ {n : Nat} {m : Int}, Dz rows nx base n m → ∃ k, k ≤ n ∧ Le rows nx base k m := by
  intro n
  induction n using Nat.strongRecOn with
  | ind n ih =>
    intro m h
    by_cases z : ∃ k, k < n ∧ Dz rows nx base k m
    · obtain ⟨k, hk, hd⟩ := z
      obtain ⟨j, hj, hl⟩ := ih k hk hd
      exact ⟨j, by omega, hl⟩
    · exact ⟨n, Nat.le_refl _, h, fun k hk hd => z ⟨k, hk, hd⟩⟩
theorem Le.unique {n k : Nat} {m : Int} (h : Le rows nx base n m) (g : Le rows nx base k m) : n = k := by
  rcases Nat.lt_trichotomy n k with z | z | z
  · exact absurd h.1 (g.2 n z)
  · exact z
  · exact absurd g.1 (h.2 k z)
theorem Le.prev {n : Nat} {m : Int} (h : Le rows nx base (n + 1) m) (hn : 1 ≤ n) : ∃ t, nx m t = true ∧ Le rows nx base n t := by
  obtain ⟨t, h1, h2⟩ := h.1.inv hn
  exact ⟨t, h1, h2, fun k hk hd => h.2 (k + 1) (by omega) (.step h.1.mem h1 hd)⟩
theorem Le.down {c : Nat} (hc : 1 ≤ c) : ∀ {n : Nat} {m : Int}, c ≤ n → Le rows nx base n m → ∃ t, Le rows nx base c t
  | 0, _, h, _ => absurd h (by omega)
  | n + 1, m, h, hl => by
    by_cases e : c = n + 1
    · exact ⟨m, e ▸ hl⟩
    · obtain ⟨t, _, ht⟩ := hl.prev (by omega)
      exact Le.down hc (by omega) ht
def lvF (rows : List (List Int)) (nx : Int → Int → Bool) (base : Int → Bool) (D : List (Int × Nat)) (c : Nat) : List Int :=
  if c = 0 then (recvL rows).filter base else (recvL rows).filter fun m => !decide (m ∈ D.map (·.1)) && ((nxG rows nx m).map fun t => decide (t ∈ D.map (·.1))).any id
def lvD (rows : List (List Int)) (nx : Int → Int → Bool) (base : Int → Bool) : Nat → List (Int × Nat)
  | 0 => []
  | c + 1 => lvD rows nx base c ++ (lvF rows nx base (lvD rows nx base c) c).map fun m => (m, c + 1)
theorem any_map_dec (l : List Int) (P : Int → Bool) : (l.map P).any id = true ↔ ∃ t ∈ l, P t = true := by
  rw [List.any_map, List.any_eq_true]
  exact Iff.rfl
theorem lv_mem (hst : ∀ m t, nx m t = true → t ∈ recvL rows → True) : ∀ c, (∀ m n, (m, n) ∈ lvD rows nx base c ↔ n ≤ c ∧ Le rows nx base n m) ∧ ∀ m, m ∈ lvF rows nx base (lvD rows nx base c) c ↔ Le rows nx base (c + 1) m := by
  have keys : ∀ c, (∀ m n, (m, n) ∈ lvD rows nx base c ↔ n ≤ c ∧ Le rows nx base n m) → ∀ m, m ∈ (lvD rows nx base c).map (·.1) ↔ ∃ n, n ≤ c ∧ Le rows nx base n m := fun c h m => by
    rw [List.mem_map]
    constructor
    · rintro ⟨⟨m', n⟩, h1, rfl⟩
      exact ⟨n, (h _ _).mp h1⟩
    · rintro ⟨n, h1⟩
      exact ⟨(m, n), (h _ _).mpr h1, rfl⟩
  have front : ∀ c, (∀ m n, (m, n) ∈ lvD rows nx base c ↔ n ≤ c ∧ Le rows nx base n m) → ∀ m, m ∈ lvF rows nx base (lvD rows nx base c) c ↔ Le rows nx base (c + 1) m := fun c h m => by
    unfold lvF
    by_cases hc : c = 0
    · subst hc
      rw [if_pos rfl, List.mem_filter]
      constructor
      · rintro ⟨h1, h2⟩
        exact ⟨.base h1 h2, fun k hk hd => by have := hd.pos; omega⟩
      · intro hl
        exact ⟨hl.1.mem, hl.1.one⟩
    · rw [if_neg hc, List.mem_filter, Bool.and_eq_true, any_map_dec]
      constructor
      · rintro ⟨h1, h2, t, h3, h4⟩
        have h2 : m ∉ (lvD rows nx base c).map (·.1) := by simpa using h2
        obtain ⟨h5, h6⟩ := List.mem_filter.mp h3
        obtain ⟨n, hn, hl⟩ := (keys c h t).mp (of_decide_eq_true h4)
        have hd : Dz rows nx base (n + 1) m := .step h1 h6 hl.1
        have no : ∀ k, k ≤ c → ¬ Dz rows nx base k m := fun k hk hd => by
          obtain ⟨j, hj, hl⟩ := hd.least
          exact h2 ((keys c h m).mpr ⟨j, by omega, hl⟩)
        have : n = c := by
          rcases Nat.lt_or_ge n c with z | z
          · exact absurd hd (no (n + 1) (by omega))
          · omega
        subst this
        exact ⟨hd, fun k hk => no k (by omega)⟩
      · intro hl
        obtain ⟨t, h1, h2⟩ := hl.prev (by omega)
        refine ⟨hl.1.mem, ?_, t, List.mem_filter.mpr ⟨h2.1.mem, h1⟩, decide_eq_true ((keys c h t).mpr ⟨c, Nat.le_refl _, h2⟩)⟩
        have : m ∉ (lvD rows nx base c).map (·.1) := fun z => by
          obtain ⟨n, hn, hl2⟩ := (keys c h m).mp z
          have := hl.unique hl2
          omega
        simpa using this
  intro c
  induction c with
  | zero =>
    have h0 : ∀ m n, (m, n) ∈ lvD rows nx base 0 ↔ n ≤ 0 ∧ Le rows nx base n m := fun m n => by
      constructor
      · intro z
        exact nomatch z
      · rintro ⟨h1, h2⟩
        have := h2.1.pos
        omega
    exact ⟨h0, front 0 h0⟩
  | succ c ih =>
    have h1 : ∀ m n, (m, n) ∈ lvD rows nx base (c + 1) ↔ n ≤ c + 1 ∧ Le rows nx base n m := fun m n => by
      show (m, n) ∈ lvD rows nx base c ++ _ ↔ _
      rw [List.mem_append, ih.1]
      constructor
      · rintro (⟨a, b⟩ | z)
        · exact ⟨by omega, b⟩
        · obtain ⟨m', h2, e⟩ := List.mem_map.mp z
          cases e
          exact ⟨Nat.le_refl _, (ih.2 m).mp h2⟩
      · rintro ⟨a, b⟩
        by_cases z : n ≤ c
        · exact .inl ⟨z, b⟩
        · obtain rfl : n = c + 1 := by omega
          exact .inr (List.mem_map.mpr ⟨m, (ih.2 m).mpr b, rfl⟩)
    exact ⟨h1, front (c + 1) h1⟩
theorem lvF_nd (c : Nat) : (lvF rows nx base (lvD rows nx base c) c).Nodup := by
  unfold lvF
  split
  · exact (recvL_nodup rows).sublist List.filter_sublist
  · exact (recvL_nodup rows).sublist List.filter_sublist
theorem lv_nd : ∀ c, ((lvD rows nx base c).map (·.1)).Nodup
  | 0 => List.nodup_nil
  | c + 1 => by
    show ((lvD rows nx base c ++ _).map (·.1)).Nodup
    rw [List.map_append, List.map_map]
    have e : (lvF rows nx base (lvD rows nx base c) c).map ((fun x : Int × Nat => x.1) ∘ fun m => (m, c + 1)) = lvF rows nx base (lvD rows nx base c) c := List.map_id' _
    rw [e]
    refine List.nodup_append.mpr ⟨lv_nd c, lvF_nd c, fun a ha b hb z => ?_⟩
    subst z
    obtain ⟨⟨a', n⟩, h1, rfl⟩ := List.mem_map.mp ha
    have h2 := ((lv_mem (fun _ _ _ _ => True.intro) c).1 _ _).mp h1
    have h3 := ((lv_mem (fun _ _ _ _ => True.intro) c).2 _).mp hb
    have := h2.2.unique h3
    omega
theorem nd_leL : ∀ {a b : List Int}, a.Nodup → (∀ x ∈ a, x ∈ b) → a.length ≤ b.length
  | [], b, _, _ => Nat.zero_le _
  | x :: a, b, h, hs => by
    obtain ⟨h1, h2⟩ := List.nodup_cons.mp h
    have hx := hs x List.mem_cons_self
    have := nd_leL (b := b.erase x) h2 fun y hy => (List.mem_erase_of_ne (fun (e : y = x) => h1 (by rw [← e]; exact hy))).mpr (hs y (List.mem_cons_of_mem _ hy))
    rw [List.length_erase_of_mem hx] at this
    have := List.length_pos_of_mem hx
    rw [List.length_cons]
    omega
theorem lv_len (c : Nat) : (lvD rows nx base c).length ≤ 24 := by
  have h := nd_leL (b := recvL rows) (lv_nd (rows := rows) (nx := nx) (base := base) c) fun x hx => by
    obtain ⟨⟨a', n⟩, h1, rfl⟩ := List.mem_map.mp hx
    exact (((lv_mem (fun _ _ _ _ => True.intro) c).1 _ _).mp h1).2.1.mem
  rw [List.length_map] at h
  have := recvL_len rows
  omega
/-- all least lengths -/
structure Dist (rows : List (List Int)) (nx : Int → Int → Bool) (base : Int → Bool) (D : List (Int × Nat)) : Prop where
  nd : (D.map (·.1)).Nodup
  mem : ∀ m n, (m, n) ∈ D ↔ Le rows nx base n m
  len : D.length ≤ 24
theorem dist_of {c : Nat} (h : lvF rows nx base (lvD rows nx base c) c = []) : Dist rows nx base (lvD rows nx base c) := by
  obtain ⟨h1, h2⟩ := lv_mem (rows := rows) (nx := nx) (base := base) (fun _ _ _ _ => True.intro) c
  refine ⟨lv_nd c, fun m n => ?_, lv_len c⟩
  rw [h1]
  refine ⟨fun z => z.2, fun z => ⟨?_, z⟩⟩
  rcases Nat.lt_or_ge c n with y | y
  · obtain ⟨t, ht⟩ := Le.down (c := c + 1) (by omega) y z
    have := (h2 t).mpr ht
    rw [h] at this
    exact nomatch this
  · exact y
end
def sbB (rows : List (List Int)) (m : Int) (s : Nat × Nat) : Bool := match hap rows m with
  | some (p, k) => decide (p = s.1) && decide (s.2 ≤ k)
  | none => false
def rbB (rows : List (List Int)) (s : Nat × Nat) (m : Int) : Bool := match hap rows (0 - m) with
  | some (p, k) => decide (p = s.1) && decide (k < s.2)
  | none => false
def stepB (rows : List (List Int)) (m t : Int) : Bool := match hap rows (0 - m) with
  | some s => sbB rows t s
  | none => false
/-- messages that lead from a state (an interval) to a state -/
def Zk (rows : List (List Int)) (s t : Nat × Nat) : List Int → Prop
  | [] => s.1 = t.1 ∧ s.2 < t.2
  | m :: ms => m ∈ recvL rows ∧ sbB rows m s = true ∧ ∃ u, hap rows (0 - m) = some u ∧ Zk rows u t ms
def Zz (rows : List (List Int)) (s t : Nat × Nat) (ms : List Int) : Prop := ms ≠ [] ∧ Zk rows s t ms
theorem recv_hap {rows : List (List Int)} {m : Int} (h : m ∈ recvL rows) : ∃ u, hap rows (0 - m) = some u := Option.isSome_iff_exists.mp (List.mem_filter.mp h).2
theorem rb_iff {rows : List (List Int)} {s u : Nat × Nat} {m : Int} (h : hap rows (0 - m) = some u) : rbB rows s m = true ↔ u.1 = s.1 ∧ u.2 < s.2 := by
  unfold rbB
  rw [h]
  obtain ⟨p, k⟩ := u
  show (decide (p = s.1) && decide (k < s.2)) = true ↔ _
  rw [Bool.and_eq_true, decide_eq_true_iff, decide_eq_true_iff]
theorem step_at {rows : List (List Int)} {u : Nat × Nat} {m t : Int} (h : hap rows (0 - m) = some u) : stepB rows m t = sbB rows t u := by
  unfold stepB
  rw [h]
/-- zigzags by what leads on -/
theorem zz_dz {rows : List (List Int)} {t : Nat × Nat} : ∀ {ms : List Int} {m : Int} {s : Nat × Nat}, Zk rows s t (m :: ms) → Dz rows (stepB rows) (rbB rows t) (ms.length + 1) m
  | [], m, s, ⟨h1, h2, u, h3, h4⟩ => .base h1 ((rb_iff h3).mpr h4)
  | m' :: ms, m, s, ⟨h1, h2, u, h3, h4⟩ => by
    have ih := zz_dz h4
    exact .step h1 (by rw [step_at h3]; exact h4.2.1) ih
/-- chosen step by step: each time the least message of those that are next to the end -/
inductive Best (rows : List (List Int)) (nx : Int → Int → Bool) (base : Int → Bool) : Nat → Int → List Int → Prop
  | one {m : Int} : Le rows nx base 1 m → Best rows nx base 1 m [m]
  | step {n : Nat} {m t : Int} {l : List Int} : Le rows nx base (n + 1) m → nx m t = true → (∀ t', nx m t' = true → Le rows nx base n t' → t ≤ t') → Best rows nx base n t l → Best rows nx base (n + 1) m (m :: l)
def lexle : List Int → List Int → Prop
  | [], _ => True
  | _ :: _, [] => False
  | a :: l, b :: r => a < b ∨ (a = b ∧ lexle l r)
theorem Best.le {rows : List (List Int)} {nx : Int → Int → Bool} {base : Int → Bool} {n : Nat} {m : Int} {l : List Int} (h : Best rows nx base n m l) : Le rows nx base n m := by
  cases h with
  | one h => exact h
  | step h _ _ _ => exact h
theorem Best.len {rows : List (List Int)} {nx : Int → Int → Bool} {base : Int → Bool} {n : Nat} {m : Int} {l : List Int} (h : Best rows nx base n m l) : l.length = n ∧ ∃ r, l = m :: r := by
  induction h with
  | one _ => exact ⟨rfl, [], rfl⟩
  | step _ _ _ _ ih => exact ⟨by rw [List.length_cons, ih.1], _, rfl⟩
/-- what find_zigzag promises -/
def FindZ (rows : List (List Int)) (s t : Nat × Nat) : Option (List Int) → Prop
  | none => ∀ ms, ¬ Zz rows s t ms
  | some ms => Zz rows s t ms ∧ ms.length ≤ 24 ∧ ∀ ms', Zz rows s t ms' → ms.length < ms'.length ∨ (ms.length = ms'.length ∧ lexle ms ms')
theorem lexle_anti : ∀ {a b : List Int}, lexle a b → lexle b a → a = b
  | [], [], _, _ => rfl
  | [], _ :: _, _, h => h.elim
  | _ :: _, [], h, _ => h.elim
  | x :: a, y :: b, h, g => by
    rcases h with h | ⟨rfl, h⟩
    · rcases g with g | ⟨rfl, g⟩
      · omega
      · omega
    · rcases g with g | ⟨_, g⟩
      · omega
      · rw [lexle_anti h g]
theorem FindZ.unique {rows : List (List Int)} {s t : Nat × Nat} : ∀ {a b : Option (List Int)}, FindZ rows s t a → FindZ rows s t b → a = b
  | none, none, _, _ => rfl
  | none, some ms, h, g => absurd g.1 (h ms)
  | some ms, none, h, g => absurd h.1 (g ms)
  | some a, some b, h, g => by
    rcases h.2.2 b g.1 with z | ⟨z, l1⟩
    · rcases g.2.2 a h.1 with y | ⟨y, _⟩ <;> omega
    · rcases g.2.2 a h.1 with y | ⟨y, l2⟩
      · omega
      · rw [lexle_anti l1 l2]
end Sv
set_option maxHeartbeats 400000
set_option autoImplicit false
namespace Sv
open PySem PySem.Spec PyProof.Rows L2
theorem dictOf_ref {S : Sto} {a : Addr} {kvs : List (Key × D)} (h : S a = some (.dK kvs)) : dictOf S (.ref a) = some kvs := by
  show (match S a with
    | some (.dK kvs) => some kvs
    | _ => none) = some kvs
  rw [h]
/-- the dict of what may stand behind each message -/
def StepsAt (S : Sto) (kvs : List (Key × D)) (rows : List (List Int)) (nx : Int → Int → Bool) : Prop := ∀ m ∈ recvL rows, ∃ l, getD' kvs (Sum.inl m) = some (.ref l) ∧ S l = some (.lst (intsD (nxG rows nx m)))
theorem StepsAt.keep {S S' : Sto} {kvs : List (Key × D)} {rows : List (List Int)} {nx : Int → Int → Bool} (h : StepsAt S kvs rows nx) (k : SG S S') : StepsAt S' kvs rows nx := fun m hm => by
  obtain ⟨l, h1, h2⟩ := h m hm
  exact ⟨l, h1, k _ _ (fun z => z) h2⟩
end Sv
set_option maxHeartbeats 400000
set_option autoImplicit false
set_option maxHeartbeats 400000
set_option autoImplicit false
namespace Sv
open PySem PySem.Spec PyProof.Rows L2
theorem up_inv {rows : List (List Int)} {many most : Nat} (hG : Good many most rows) (h6 : many ≤ 6) (h60 : most ≤ 60) (low : List Nat) (P : List Nat → Prop) (h0 : P low)
    (step : ∀ (cs : List Nat), P cs → ∀ {m : Int} {p k p' k' c c' : Nat}, 0 < m → hap rows m = some (p, k) → hap rows (0 - m) = some (p', k') → cs[p]? = some c → cs[p']? = some c' → k' < c' → c ≤ k → P (cs.set p (k + 1))) : P (upL rows low) := by
  have hs := fun e => hG.hapS h6 h60 e
  have go : ∀ (n : Nat) (cs : List Nat), capS cs ≤ n → Up rows low cs → P cs → ∃ cs, IsUp rows low cs ∧ P cs := by
    intro n
    induction n with
    | zero =>
      intro cs hs' hd hP
      refine ⟨cs, ⟨hd, fun m p k p' k' c c' hm h1 h2 h3 h4 h5 => ?_⟩, hP⟩
      have := capS_set (k := k + 1) h3
      have := (hs _ _ _ h1).2
      omega
    | succ n ih =>
      intro cs hs' hd hP
      refine Classical.byContradiction fun no => no ⟨cs, ⟨hd, fun m p k p' k' c c' hm h1 h2 h3 h4 h5 => Classical.byContradiction fun h6 => no (ih (cs.set p (k + 1)) ?_ (hd.step hm h1 h2 h3 h4 h5 (by omega)) (step cs hP hm h1 h2 h3 h4 h5 (by omega)))⟩, hP⟩
      have := capS_set (k := k + 1) h3
      have := (hs _ _ _ h1).2
      omega
  obtain ⟨cs, h1, h2⟩ := go _ low (Nat.le_refl _) (.start rows low) h0
  rw [(up_is hG h6 h60 low).unique h1]
  exact h2
theorem low_val : ∀ {ss : List (Nat × Nat)} {l : List Nat} {p x : Nat}, (ss.foldl lowS l)[p]? = some x → l[p]? = some x ∨ ∃ t ∈ ss, t.1 = p ∧ t.2 = x
  | [], l, p, x, h => .inl h
  | s :: ss, l, p, x, h => by
    rw [List.foldl_cons] at h
    rcases low_val h with h' | ⟨t, h1, h2⟩
    · unfold lowS at h'
      rw [List.getElem?_set] at h'
      split at h'
      · rename_i e
        subst e
        split at h'
        · rename_i hl
          have e := Option.some.inj h'
          have hx := List.getElem?_eq_getElem hl
          rw [getD_of hx] at e
          rcases Nat.le_total l[s.1] s.2 with z | z
          · exact .inr ⟨s, List.mem_cons_self, rfl, by omega⟩
          · exact .inl (by rw [hx]; congr 1; omega)
        · cases h'
      · exact .inl h'
    · exact .inr ⟨t, List.mem_cons_of_mem _ h1, h2⟩
theorem sb_iff {rows : List (List Int)} {s : Nat × Nat} {m : Int} : sbB rows m s = true ↔ ∃ k, hap rows m = some (s.1, k) ∧ s.2 ≤ k := by
  unfold sbB
  constructor
  · intro h
    split at h
    · rename_i p k e
      rw [Bool.and_eq_true, decide_eq_true_iff, decide_eq_true_iff] at h
      exact ⟨k, by rw [e, h.1], h.2⟩
    · cases h
  · rintro ⟨k, h1, h2⟩
    rw [h1]
    show (decide (s.1 = s.1) && decide (s.2 ≤ k)) = true
    rw [decide_eq_true rfl, decide_eq_true h2]
    rfl
theorem Zk.earlier {rows : List (List Int)} {t : Nat × Nat} {p j k : Nat} : ∀ {ms : List Int}, Zk rows (p, k) t ms → j ≤ k → Zk rows (p, j) t ms
  | [], ⟨h1, h2⟩, hj => ⟨h1, Nat.lt_of_le_of_lt hj h2⟩
  | m :: ms, ⟨h1, h2, h3⟩, hj => by
    obtain ⟨k2, h4, h5⟩ := sb_iff.mp h2
    exact ⟨h1, sb_iff.mpr ⟨k2, h4, Nat.le_trans hj h5⟩, h3⟩
theorem recv_pos {rows : List (List Int)} {m : Int} (h : m ∈ recvL rows) : 0 < m := by
  have := names_mem.mp (List.mem_filter.mp h).1
  omega
/-- no zigzag crosses a consistent line -/
theorem thru_no {rows : List (List Int)} {L : List Nat} {t : Nat × Nat} (hl : L.length = rows.length) (hL : ConsL rows L) (ht : L[t.1]? = some t.2) : ∀ {ms : List Int} {u : Nat × Nat}, Zk rows u t ms → ∀ x, L[u.1]? = some x → x ≤ u.2 → False
  | [], u, ⟨h1, h2⟩, x, hx, hle => by
    rw [h1, ht] at hx
    have := Option.some.inj hx
    omega
  | m :: ms, u, ⟨h1, h2, v, h3, h4⟩, x, hx, hle => by
    obtain ⟨k, h5, h6⟩ := sb_iff.mp h2
    have hv : v.1 < L.length := by rw [hl]; exact Good.hap_lt h3
    have hy := List.getElem?_eq_getElem hv
    refine thru_no hl hL ht h4 _ hy ?_
    rcases Nat.lt_or_ge v.2 L[v.1] with z | z
    · have := hL m u.1 k v.1 v.2 x _ (recv_pos h1) h5 h3 hx hy z
      omega
    · exact z
theorem cons_prsC (rows : List (List Int)) : ConsL rows (prs rows) := fun m q k q' k' c c' hm h1 h2 h3 h4 h5 => by
  obtain ⟨row', hr', hk⟩ := hap_leC h1
  rw [prsA hr'] at h3
  cases h3
  omega
/-- states of different processes -/
structure Ch (rows : List (List Int)) (ss : List (Nat × Nat)) : Prop where
  lt : ∀ s ∈ ss, s.1 < rows.length
  le : ∀ s ∈ ss, ∀ x, (prs rows)[s.1]? = some x → s.2 ≤ x
  one : ∀ s ∈ ss, ∀ t ∈ ss, s.1 = t.1 → s = t
theorem dual {rows : List (List Int)} {many most : Nat} (hG : Good many most rows) (h6 : many ≤ 6) (h60 : most ≤ 60) {ss : List (Nat × Nat)} (hc : Ch rows ss) : (∃ L, Thru rows ss L) ↔ ∀ s ∈ ss, ∀ t ∈ ss, ∀ ms, ¬ Zz rows s t ms := by
  constructor
  · rintro ⟨L, hL⟩ s hs t ht ms ⟨_, hz⟩
    exact thru_no hL.len hL.cons (hL.on t ht) hz _ (hL.on s hs) (Nat.le_refl _)
  · intro h
    rw [thru_up hG h6 h60 hc.lt]
    have u := up_is hG h6 h60 (lowL rows ss)
    have ul : (upL rows (lowL rows ss)).length = rows.length := u.len.trans (lowL_len rows ss)
    have lowv : ∀ p x, (lowL rows ss)[p]? = some x → x = 0 ∨ ∃ t ∈ ss, t.1 = p ∧ t.2 = x := fun p x hx => by
      rcases low_val hx with z | z
      · obtain ⟨_, e⟩ := List.getElem?_eq_some_iff.mp z
        rw [List.getElem_replicate] at e
        exact .inl e.symm
      · exact .inr z
    have inv : ∀ p c lw, (upL rows (lowL rows ss))[p]? = some c → (lowL rows ss)[p]? = some lw → lw < c → ∃ t ∈ ss, ∃ ms, Zz rows (p, c - 1) t ms := by
      have := up_inv hG h6 h60 (lowL rows ss) (fun cs => cs.length = rows.length ∧ ∀ p c lw, cs[p]? = some c → (lowL rows ss)[p]? = some lw → lw < c → ∃ t ∈ ss, ∃ ms, Zz rows (p, c - 1) t ms) ⟨lowL_len rows ss, fun p c lw h1 h2 h3 => by
        rw [h1] at h2
        have := Option.some.inj h2
        omega⟩ ?_
      · exact this.2
      · rintro cs ⟨hl, hI⟩ m p k p' k' c c' hm h1 h2 h3 h4 h5 h6
        refine ⟨by rw [List.length_set]; exact hl, fun q d lw g1 g2 g3 => ?_⟩
        rw [List.getElem?_set] at g1
        split at g1
        · rename_i e
          subst e
          split at g1
          · have e := Option.some.inj g1
            subst e
            have hp' : p' < (lowL rows ss).length := by rw [lowL_len]; exact Good.hap_lt h2
            have hlw := List.getElem?_eq_getElem hp'
            have hmr := hG.recv_mem hm h2
            have hsb : sbB rows m (p, k + 1 - 1) = true := sb_iff.mpr ⟨k, h1, by show k + 1 - 1 ≤ k; omega⟩
            by_cases z : (lowL rows ss)[p'] < c'
            · obtain ⟨t, ht, ms, hne, hz⟩ := hI p' c' _ h4 hlw z
              exact ⟨t, ht, m :: ms, by simp, hmr, hsb, _, h2, hz.earlier (by omega)⟩
            · rcases lowv _ _ hlw with y | ⟨t, ht, y1, y2⟩
              · omega
              · exact ⟨t, ht, [m], by simp, hmr, hsb, _, h2, y1.symm, by show k' < t.2; omega⟩
          · cases g1
        · exact hI q d lw g1 g2 g3
    have hp : LeL (upL rows (lowL rows ss)) (prs rows) := u.bot (prs rows) (by rw [prs_len, lowL_len]) ((lowL_le (prs_len rows) hc.lt).mpr hc.le) (cons_prsC rows)
    refine (highL_le ul hc.lt).mpr ⟨hp, fun s hs x hx => ?_⟩
    have hsl : s.1 < (lowL rows ss).length := by rw [lowL_len]; exact hc.lt s hs
    have hlw := List.getElem?_eq_getElem hsl
    have el : (lowL rows ss)[s.1] ≤ s.2 := by
      rcases lowv _ _ hlw with z | ⟨t, ht, z1, z2⟩
      · omega
      · have e := hc.one s hs t ht z1.symm
        rw [← z2, ← e]
        exact Nat.le_refl _
    refine Classical.byContradiction fun z => ?_
    obtain ⟨t, ht, ms, hne, hz⟩ := inv s.1 x _ hx hlw (by omega)
    exact h s hs t ht ms ⟨hne, hz.earlier (j := s.2) (by omega)⟩
theorem lost_zz {rows : List (List Int)} {many most : Nat} (hG : Good many most rows) (h6 : many ≤ 6) (h60 : most ≤ 60) {s : Nat × Nat} (h1 : s.1 < rows.length) (h2 : ∀ x, (prs rows)[s.1]? = some x → s.2 ≤ x) : lostB rows s = true ↔ ∃ ms, Zz rows s s ms := by
  have hc : Ch rows [s] := ⟨fun t ht => by rw [List.mem_singleton.mp ht]; exact h1, fun t ht => by rw [List.mem_singleton.mp ht]; exact h2, fun a ha b hb _ => by rw [List.mem_singleton.mp ha, List.mem_singleton.mp hb]⟩
  have d := dual hG h6 h60 hc
  constructor
  · intro h
    refine Classical.byContradiction fun no => ?_
    rw [lostB_f (d.mpr fun a ha b hb ms hz => no ⟨ms, by rw [List.mem_singleton.mp ha, List.mem_singleton.mp hb] at hz; exact hz⟩)] at h
    cases h
  · rintro ⟨ms, hz⟩
    exact lostB_t fun z => d.mp z s List.mem_cons_self s List.mem_cons_self ms hz
end Sv
set_option maxHeartbeats 400000
set_option autoImplicit false
namespace Sv
open PySem PySem.Spec PyProof.Rows L2
def chX (i n : Nat) (cs : List (List (Nat × Nat))) : List (List (Nat × Nat)) := cs.flatMap fun c => (List.range n).map fun k => c ++ [(i, k)]
def chU (rows : List (List Int)) : Nat → List (List (Nat × Nat))
  | 0 => [[]]
  | i + 1 => chU rows i ++ chX i ((rows.getD i []).count 0 + 2) (chU rows i)
theorem chX_len {i n B : Nat} (h : n ≤ B) (cs : List (List (Nat × Nat))) : (chX i n cs).length ≤ cs.length * B := flat_le _ B cs fun c _ => by rw [List.length_map, List.length_range]; exact h
theorem chU_len {rows : List (List Int)} {B : Nat} (h : ∀ r ∈ rows, r.count 0 + 3 ≤ B) (h2 : 3 ≤ B) : ∀ i, (chU rows i).length ≤ B ^ i
  | 0 => Nat.le_refl _
  | i + 1 => by
    have ih := chU_len h h2 i
    have hc : (rows.getD i []).count 0 + 2 ≤ B - 1 := by
      have := getD_count (B := B - 1) (fun r hr => by have := h r hr; omega) (by omega) i
      exact this
    have h3 := chX_len (i := i) hc (chU rows i)
    show (chU rows i ++ _).length ≤ _
    rw [List.length_append, Nat.pow_succ]
    have h4 : (chU rows i).length * (B - 1) + (chU rows i).length = (chU rows i).length * B := by
      rw [← Nat.mul_succ]
      congr 1
      omega
    have h5 := Nat.mul_le_mul_right B ih
    omega
/-- not too many choices -/
def Wc (rows : List (List Int)) : Prop := ∃ B, 3 ≤ B ∧ B ≤ 1000 ∧ (∀ r ∈ rows, r.count 0 + 3 ≤ B) ∧ B ^ rows.length ≤ 70000
theorem Wc.of {a b : Nat} {rows : List (List Int)} (hG : Good a b rows) (hb : b ≤ 60) (h : (b + 3) ^ a ≤ 70000) : Wc rows := by
  refine ⟨b + 3, by omega, by omega, fun r hr => ?_, ?_⟩
  · obtain ⟨i, hi⟩ := List.getElem?_of_mem hr
    have h1 := (hG.row hi).1
    have h2 : r.count 0 ≤ r.length := List.count_le_length ..
    omega
  · exact Nat.le_trans (Nat.pow_le_pow_right (by omega) hG.len.2) h
theorem Wc.len {rows : List (List Int)} (h : Wc rows) (i : Nat) (hi : i ≤ rows.length) : (chU rows i).length ≤ 70000 := by
  obtain ⟨B, h2, _, hc, hB⟩ := h
  exact Nat.le_trans (chU_len hc h2 i) (Nat.le_trans (Nat.pow_le_pow_right (by omega) hi) hB)
end Sv
set_option maxHeartbeats 400000
set_option autoImplicit false
namespace Sv
open PySem PySem.Spec PyProof.Rows L2
theorem Dk.off {st cl rs : Addr} {n : Nat} {S : Sto} (h : Dk st cl rs n S) {f : Addr} {l : List D} (hf : S f = some (.lst l)) (ht : ∀ d ∈ l, ∃ xs, d = .tup xs) : f ≠ st ∧ f ≠ cl ∧ f ≠ rs := by
  obtain ⟨a1, a2, a3, cs, ws, t, tn, c0, cw, hs, hc, hw⟩ := h
  have go : ∀ (a : Addr) (d : D) (r : List D), S a = some (.lst (d :: r)) → (∀ xs, d ≠ .tup xs) → f ≠ a := fun a d r ha hd z => by
    subst z
    rw [ha] at hf
    cases hf
    obtain ⟨xs, e⟩ := ht d List.mem_cons_self
    exact hd xs e
  refine ⟨go _ _ _ hs (fun xs z => (nomatch z)), ?_, ?_⟩
  · obtain ⟨c, r, rfl⟩ := List.exists_cons_of_ne_nil (List.length_pos_iff.mp c0)
    exact go cl (.int c) (intsD r) hc (fun xs z => (nomatch z))
  · obtain ⟨c, r, rfl⟩ := List.exists_cons_of_ne_nil (List.length_pos_iff.mp (cw ▸ c0))
    exact go rs (.int c) (intsD r) hw (fun xs z => (nomatch z))
end Sv
set_option maxHeartbeats 1000000
set_option autoImplicit false
namespace Sv
open PySem PySem.Spec PyProof.Rows L2
structure RWs (S0 S : Sto) (st big r W : Addr) (rows : List (List Int)) (o : List (Int × Int)) : Prop where
  sk : SK (DS' st big) S0 S
  hr : S r = some (.lst (rowsD rows))
  hW : S W = some (.lst (o.map pairD))
theorem RWs.keep {S0 S S' : Sto} {st big al r W : Addr} {rows : List (List Int)} {o : List (Int × Int)} (h : RWs S0 S st big r W rows o) (k : SK (DS' st big) S S') (n1 : r ≠ st ∧ r ≠ big ∧ r ≠ al) (n2 : W ≠ st ∧ W ≠ big ∧ W ≠ al) : RWs S0 S' st big r W rows o :=
  ⟨h.sk.trans k, k _ _ (nDS n1) h.hr, k _ _ (nDS n2) h.hW⟩
theorem RWs.keepG {S0 S S' : Sto} {st big r W : Addr} {rows : List (List Int)} {o : List (Int × Int)} (h : RWs S0 S st big r W rows o) (k : SG S S') : RWs S0 S' st big r W rows o :=
  ⟨h.sk.trans k.sk, k _ _ (fun z => z) h.hr, k _ _ (fun z => z) h.hW⟩
end Sv
set_option maxHeartbeats 400000
set_option autoImplicit false
namespace Sv
open PySem PySem.Spec PyProof.Rows L2
theorem zk_mem {rows : List (List Int)} {t : Nat × Nat} : ∀ {ms : List Int} {s : Nat × Nat}, Zk rows s t ms → ∀ x ∈ ms, x ∈ recvL rows
  | [], _, _, x, hx => nomatch hx
  | m :: ms, s, ⟨h1, _, u, _, h4⟩, x, hx => by
    rcases List.mem_cons.mp hx with rfl | hx
    · exact h1
    · exact zk_mem h4 x hx
theorem w_isnum {i : Int} {S : Sto} {R : DK} (h : R (.bl true) S) : dFn 1 B_is_number_52f5 [.int i] S R := by
  refine ⟨_, rfl, _, "int", "int", true, rfl, rfl, isi_ii, _, rfl, ?_⟩
  exact ⟨_, rfl, _, "bool", "int", false, rfl, rfl, isi_ib, _, rfl, h⟩
end Sv
set_option maxHeartbeats 400000
set_option autoImplicit false
namespace Sv
open PySem PySem.Spec PyProof.Rows L2
theorem Zk.pos {rows : List (List Int)} {t : Nat × Nat} : ∀ {ms : List Int} {s : Nat × Nat}, Zk rows s t ms → 0 < t.2
  | [], s, ⟨h1, h2⟩ => Nat.lt_of_le_of_lt (Nat.zero_le _) h2
  | m :: ms, s, ⟨h1, h2, u, h3, h4⟩ => h4.pos
end Sv
set_option maxHeartbeats 400000
set_option autoImplicit false
set_option maxHeartbeats 400000
set_option autoImplicit false
namespace Sv
open PySem PySem.Spec PyProof.Rows L2
def keyS (s : Nat × Nat) : Nat := s.1 * 64 + s.2
theorem keyS_inj {s t : Nat × Nat} (hs : s.2 < 64) (ht : t.2 < 64) (h : keyS s = keyS t) : s = t := by
  obtain ⟨a, b⟩ := s
  obtain ⟨c, d⟩ := t
  unfold keyS at h
  have h : a * 64 + b = c * 64 + d := h
  have hs : b < 64 := hs
  have ht : d < 64 := ht
  have : a = c := by omega
  subst this
  have : b = d := by omega
  rw [this]
def ZzE (rows : List (List Int)) (a b : Nat × Nat) : Prop := ∃ ms, Zz rows a b ms
structure PairZ (rows : List (List Int)) (ss : List (Nat × Nat)) (a b : Nat × Nat) : Prop where
  one : a ∈ ss
  two : b ∈ ss
  zz : ZzE rows a b
  least : ∀ a' ∈ ss, ∀ b' ∈ ss, ZzE rows a' b' → keyS a < keyS a' ∨ (a = a' ∧ keyS b ≤ keyS b')
theorem PairZ.unique {rows : List (List Int)} {ss : List (Nat × Nat)} {a b a' b' : Nat × Nat} (hb : ∀ s ∈ ss, s.1 < 64 ∧ s.2 < 64) (h : PairZ rows ss a b) (g : PairZ rows ss a' b') : a = a' ∧ b = b' := by
  rcases h.least a' g.one b' g.two g.zz with z | ⟨z, z1⟩
  · rcases g.least a h.one b h.two h.zz with y | ⟨y, _⟩
    · omega
    · rw [y] at z; omega
  · rcases g.least a h.one b h.two h.zz with y | ⟨_, y1⟩
    · rw [z] at y; omega
    · exact ⟨z, keyS_inj (hb _ h.two).2 (hb _ g.two).2 (by omega)⟩
def lineD (c : List Nat) : D := .tup [.str "line", cutD' c]
def zigD (a b : Nat × Nat) (ms : List Int) : D := .tup [.str "zigzag", stD a, stD b, .tup (intsD ms)]
end Sv
set_option maxHeartbeats 400000
set_option autoImplicit false
set_option maxHeartbeats 400000
set_option autoImplicit false
namespace Sv
open PySem PySem.Spec PyProof.Rows L2
def inS (s : Nat × Nat) : Int × Int := ((s.1 : Int), (s.2 : Int))
inductive VD (rows : List (List Int)) (ss : List (Nat × Nat)) : D → Prop
  | line : (∃ L, Thru rows ss L) → VD rows ss (lineD (upL rows (lowL rows ss)))
  | zig {a b : Nat × Nat} {ms : List Int} : (¬ ∃ L, Thru rows ss L) → PairZ rows ss a b → FindZ rows a b (some ms) → VD rows ss (zigD a b ms)
theorem VD.unique {rows : List (List Int)} {ss : List (Nat × Nat)} (hb : ∀ s ∈ ss, s.1 < 64 ∧ s.2 < 64) {v w : D} (h : VD rows ss v) (g : VD rows ss w) : v = w := by
  cases h with
  | line h =>
    cases g with
    | line _ => rfl
    | zig n _ _ => exact absurd h n
  | zig n h1 h2 =>
    cases g with
    | line g => exact absurd g n
    | zig _ g1 g2 =>
      obtain ⟨rfl, rfl⟩ := h1.unique hb g1
      have := h2.unique g2
      cases this
      rfl
theorem fine_str {x : Str} (h1 : PyData.weight (.str x) ≤ 101) (h2 : PyData.canLay0 (.str x) = true) (h3 : PyData.intsShort 40 (.str x) = true) : Fine 0 101 (.str x) := ⟨by simp [PyData.depth], h1, h2, rfl, h3⟩
theorem fine_natT {cs : List Nat} (h : ∀ c ∈ cs, c ≤ 1000) (hl : cs.length ≤ 60) : Fine 1 6120 (.tuple ((cs.map fun (c : Nat) => (c : Int)).map PyData.int)) := by
  have q : FineAll 0 (102 * (cs.map fun (c : Nat) => (c : Int)).length) (iD (cs.map fun (c : Nat) => (c : Int))) := fine_ints fun x hx => by
    obtain ⟨c, hc, rfl⟩ := List.mem_map.mp hx
    have := h c hc
    have e : (10 : Nat) ^ 30 = 1000000000000000000000000000000 := by decide
    omega
  refine (fine_tuple q).mono (Nat.le_refl _) ?_
  rw [List.length_map]
  omega
theorem fine_intT {ms : List Int} (h : ∀ c ∈ ms, -1000 ≤ c ∧ c ≤ 1000) (hl : ms.length ≤ 60) : Fine 1 6120 (.tuple (ms.map PyData.int)) := by
  have q : FineAll 0 (102 * ms.length) (iD ms) := fine_ints fun x hx => by
    have := h x hx
    have e : (10 : Nat) ^ 30 = 1000000000000000000000000000000 := by decide
    omega
  refine (fine_tuple q).mono (Nat.le_refl _) ?_
  omega
theorem thru_small {rows : List (List Int)} {many most : Nat} (hG : Good many most rows) (h60 : most ≤ 60) {ss : List (Nat × Nat)} {c : List Nat} (h : Thru rows ss c) : (∀ x ∈ c, x ≤ 1000) := fun x hx => by
  obtain ⟨i, hi⟩ := List.getElem?_of_mem hx
  have hl := (List.getElem?_eq_some_iff.mp hi).1
  rw [h.len] at hl
  have hr := List.getElem?_eq_getElem hl
  have := h.le i x _ hi (prsA hr)
  have h1 := hG.row60 h60 _ (List.mem_of_getElem? hr)
  have h2 : rows[i].count 0 ≤ rows[i].length := List.count_le_length ..
  omega
theorem upL_thru {rows : List (List Int)} {many most : Nat} (hG : Good many most rows) (h6 : many ≤ 6) (h60 : most ≤ 60) {ss : List (Nat × Nat)} (hs : ∀ s ∈ ss, s.1 < rows.length) (h : ∃ L, Thru rows ss L) : Thru rows ss (upL rows (lowL rows ss)) := by
  have u := up_is hG h6 h60 (lowL rows ss)
  exact (thru_iff hs).mpr ⟨u.len.trans (lowL_len rows ss), u.cons, u.ge, (thru_up hG h6 h60 hs).mp h⟩
theorem fine_st {s : Nat × Nat} (h : s.1 < 64 ∧ s.2 < 64) : Fine 1 204 (pD (inS s)) := by
  have e : (10 : Nat) ^ 30 = 1000000000000000000000000000000 := by decide
  exact fine_pair (by show (s.1 : Int).natAbs < _; omega) (by show (s.2 : Int).natAbs < _; omega)
theorem VD.text {rows : List (List Int)} {many most : Nat} (hG : Good many most rows) (h6 : many ≤ 6) (h60 : most ≤ 60) {ss : List (Nat × Nat)} (hc : Ch rows ss) (hb : ∀ s ∈ ss, s.1 < 64 ∧ s.2 < 64) {v : D} (h : VD rows ss v) : ∃ p, (∀ S, Py S v p) ∧ Text p := by
  cases h with
  | line h =>
    have t := upL_thru hG h6 h60 hc.lt h
    have rl := hG.len
    refine ⟨.tuple [.str "line", .tuple (((upL rows (lowL rows ss)).map fun (c : Nat) => (c : Int)).map PyData.int)], fun S => .tup (.cons (.str _) (.cons (py_nat _) .nil)), ?_⟩
    have f1 : Fine 0 101 (.str "line") := fine_str (by decide +kernel) (by decide +kernel) (by decide +kernel)
    have f2 := fine_natT (thru_small hG h60 t) (by rw [t.len]; omega)
    exact ((fine_tuple (fine_cons (f1.mono (Nat.zero_le 1) (Nat.le_refl _)) (fine_cons f2 (fine_nil.mono (Nat.zero_le _) (Nat.le_refl _))))).mono (Nat.le_refl _) (Nat.le_refl _)).text (by omega) (by omega) rfl
  | @zig a b ms n h1 h2 =>
    have hm : ∀ m ∈ ms, -1000 ≤ m ∧ m ≤ 1000 := fun m hm => by
      have := names_mem.mp (List.mem_filter.mp (zk_mem h2.1.2 m hm)).1
      omega
    have hml := h2.2.1
    refine ⟨.tuple [.str "zigzag", pD (inS a), pD (inS b), .tuple (ms.map PyData.int)], fun S => .tup (.cons (.str _) (.cons (py_pair (inS a)) (.cons (py_pair (inS b)) (.cons (.tup (pys_ints ms)) .nil)))), ?_⟩
    have f1 : Fine 0 101 (.str "zigzag") := fine_str (by decide +kernel) (by decide +kernel) (by decide +kernel)
    have f2 := fine_st (hb _ h1.one)
    have f3 := fine_st (hb _ h1.two)
    have f4 := fine_intT hm (by omega)
    exact ((fine_tuple (fine_cons (f1.mono (Nat.zero_le 1) (Nat.le_refl _)) (fine_cons f2 (fine_cons f3 (fine_cons f4 (fine_nil.mono (Nat.zero_le _) (Nat.le_refl _))))))).mono (Nat.le_refl _) (Nat.le_refl _)).text (by omega) (by omega) rfl
end Sv
set_option maxHeartbeats 800000
set_option autoImplicit false
set_option maxHeartbeats 800000
set_option autoImplicit false
set_option maxHeartbeats 400000
namespace Sv
open PySem L2
/-- the states that can be deleted -/
def delU (rows : List (List Int)) (us : List (Int × Int)) : List (Int × Int) := (allU rows rows.length).filter fun x => decide (x.2 < ((((prs rows)[x.1.toNat]?).getD 0 : Nat) : Int)) && decide (x ∉ us)
end Sv
set_option maxHeartbeats 400000
namespace Sv
open PySem L2
theorem SG.none {S S' : Sto} {d : Addr} (h : SG S S') (n : S' d = none) : S d = none := by
  cases e : S d with
  | none => rfl
  | some o => rw [h _ _ (fun z => z) e] at n; cases n
end Sv
set_option maxHeartbeats 400000
namespace Sv
open PySem L2
/-- the history goes on -/
def Ext' (rows rows' : List (List Int)) : Prop := rows.length = rows'.length ∧ ∀ (i : Nat) (r r' : List Int), rows[i]? = some r → rows'[i]? = some r' → r <+: r'
theorem Ext'.refl (rows : List (List Int)) : Ext' rows rows := ⟨rfl, fun i r r' h1 h2 => by rw [h1] at h2; cases h2; exact List.prefix_rfl⟩
theorem Ext'.trans {a b c : List (List Int)} (x : Ext' a b) (y : Ext' b c) : Ext' a c := ⟨x.1.trans y.1, fun i r r' h1 h2 => by
  have hi : i < b.length := by rw [← x.1]; exact (List.getElem?_eq_some_iff.mp h1).1
  exact (x.2 i r _ h1 (List.getElem?_eq_getElem hi)).trans (y.2 i _ r' (List.getElem?_eq_getElem hi) h2)⟩
theorem Ext'.row {rows rows' : List (List Int)} (x : Ext' rows rows') {i : Nat} {r : List Int} (h : rows[i]? = some r) : ∃ r', rows'[i]? = some r' ∧ r <+: r' := by
  have hi : i < rows'.length := by rw [← x.1]; exact (List.getElem?_eq_some_iff.mp h).1
  exact ⟨_, List.getElem?_eq_getElem hi, x.2 i r _ h (List.getElem?_eq_getElem hi)⟩
theorem hap_inv {rows : List (List Int)} {e : Int} {p k : Nat} (h : hap rows e = some (p, k)) : ∃ row i, rows[p]? = some row ∧ row[i]? = some e ∧ k = (row.take i).count 0 := by
  rcases spot_hap (e := e) (rs := rows) (p := 0) with ⟨_, z⟩ | ⟨p', row, z1, z2, _, z4⟩
  · unfold hap at h
    rw [z] at h
    cases h
  · unfold hap at h
    rw [z4, Nat.zero_add] at h
    cases h
    have hk := List.idxOf_lt_length_iff.mpr z2
    exact ⟨row, row.idxOf e, z1, by rw [List.getElem?_eq_getElem hk]; exact congrArg some (List.getElem_idxOf hk), rfl⟩
theorem hap_le {rows : List (List Int)} {e : Int} {p k : Nat} {row : List Int} (h : hap rows e = some (p, k)) (hr : rows[p]? = some row) : k ≤ row.count 0 := by
  obtain ⟨row', i, h1, h2, rfl⟩ := hap_inv h
  rw [hr] at h1
  cases h1
  exact List.Sublist.count_le _ (List.take_sublist ..)
end Sv
set_option maxHeartbeats 400000
set_option maxHeartbeats 400000
set_option maxHeartbeats 400000
set_option maxHeartbeats 400000
namespace Sv
open PySem L2
theorem GF.of {S : Sto} {st big t f : Addr} {nm : List Int} {rows : List (List Int)} {o : List (Int × Int)} {u : Nat} {sh : Int} (h : GS S st big t nm rows o u sh) (n : S f = none) : GF S t f := by
  obtain ⟨N, O, h1, h2, h3, h4, h5, h6⟩ := h
  refine ⟨fun z => (by rw [z, n] at h1; cases h1), fun N2 O2 r s e => ?_⟩
  rw [h1] at e
  cases e
  exact ⟨fun z => (by rw [← z, n] at h2; cases h2), fun z => (by rw [← z, n] at h3; cases h3)⟩
theorem GF.keep {S S' : Sto} {P : Addr → Prop} {st big t f : Addr} {nm : List Int} {rows : List (List Int)} {o : List (Int × Int)} {u : Nat} {sh : Int} (h : GS S st big t nm rows o u sh) (g : GF S t f) (k : SK (DP st big) S S') : GF S' t f := by
  obtain ⟨N, O, h1, h2, h3, h4, h5, h6⟩ := h
  refine ⟨g.1, fun N2 O2 r s e => ?_⟩
  rw [k _ _ (nDP h6) h1] at e
  cases e
  exact g.2 _ _ _ _ h1
end Sv
set_option maxHeartbeats 400000
set_option maxHeartbeats 400000
namespace Sv
open PySem L2
/-- the row without the saves that d names; n saves stood before it -/
def thin (d : Nat → Bool) : Nat → List Int → List Int
  | _, [] => []
  | n, e :: r => if e = 0 then (if d (n + 1) = true then thin d (n + 1) r else 0 :: thin d (n + 1) r) else e :: thin d n r
/-- the kept ones among the saves n + 1 .. n + m -/
def keptN (d : Nat → Bool) (n m : Nat) : List Nat := ((List.range m).map fun i => n + 1 + i).filter fun i => !d i
theorem keptN_succ (d : Nat → Bool) (n m : Nat) : keptN d n (m + 1) = (if d (n + 1) = true then [] else [n + 1]) ++ keptN d (n + 1) m := by
  unfold keptN
  rw [List.range_succ_eq_map, List.map_cons, List.filter_cons, List.map_map]
  have e : ((fun i => n + 1 + i) ∘ Nat.succ) = fun i => n + 1 + 1 + i := by
    funext i
    show n + 1 + (i + 1) = _
    omega
  rw [e]
  cases h : d (n + 1) with
  | true => simp [h]
  | false => simp [h]
theorem thin_mem {d : Nat → Bool} {e : Int} (he : e ≠ 0) : ∀ (n : Nat) (r : List Int), e ∈ thin d n r ↔ e ∈ r
  | _, [] => Iff.rfl
  | n, x :: r => by
    unfold thin
    by_cases z : x = 0
    · subst z
      rw [if_pos rfl]
      have : e ∈ (0 : Int) :: r ↔ e ∈ r := by
        rw [List.mem_cons]
        exact ⟨fun h => h.elim (fun h => absurd h he) id, .inr⟩
      rw [this]
      split
      · exact thin_mem he (n + 1) r
      · rw [List.mem_cons, thin_mem he (n + 1) r]
        exact ⟨fun h => h.elim (fun h => absurd h he) id, .inr⟩
    · rw [if_neg z, List.mem_cons, List.mem_cons, thin_mem he n r]
theorem idx_ne {x e : Int} {r : List Int} (h : ¬ x = e) : (x :: r).idxOf e = r.idxOf e + 1 := by
  rw [List.idxOf_cons, beq_false_of_ne h]
  rfl
/-- the saves before an event -/
theorem thin_idx {d : Nat → Bool} {e : Int} (he : e ≠ 0) : ∀ (n : Nat) (r : List Int), e ∈ r → ((thin d n r).take ((thin d n r).idxOf e)).count 0 = (keptN d n ((r.take (r.idxOf e)).count 0)).length
  | _, [], h => by cases h
  | n, x :: r, h => by
    unfold thin
    by_cases z : x = 0
    · subst z
      have hr : e ∈ r := (List.mem_cons.mp h).elim (fun h => absurd h he) id
      have ih := thin_idx (d := d) he (n + 1) r hr
      have i1 : ((0 : Int) :: r).idxOf e = r.idxOf e + 1 := idx_ne (fun z => he z.symm)
      rw [if_pos rfl, i1, List.take_succ_cons, List.count_cons_self, keptN_succ, List.length_append]
      cases hd : d (n + 1) with
      | true => rw [if_pos rfl, if_pos rfl, ih]; simp
      | false =>
        have i2 : ((0 : Int) :: thin d (n + 1) r).idxOf e = (thin d (n + 1) r).idxOf e + 1 := idx_ne (fun z => he z.symm)
        rw [if_neg Bool.false_ne_true, if_neg Bool.false_ne_true, i2, List.take_succ_cons, List.count_cons_self, ih]
        simp
        omega
    · rw [if_neg z]
      by_cases y : x = e
      · subst y
        rw [List.idxOf_cons_self, List.idxOf_cons_self]
        rfl
      · have hr : e ∈ r := (List.mem_cons.mp h).elim (fun h => absurd h.symm y) id
        have ih := thin_idx (d := d) he n r hr
        rw [idx_ne y, idx_ne y, List.take_succ_cons, List.take_succ_cons, List.count_cons_of_ne (by simpa using z), List.count_cons_of_ne (by simpa using z), ih]
/-- all rows without the saves that d names -/
def thinR (d : Nat → Nat → Bool) (rows : List (List Int)) : List (List Int) := rows.mapIdx fun p r => thin (d p) 0 r
theorem hap_thin {d : Nat → Nat → Bool} {rows : List (List Int)} {e : Int} (he : e ≠ 0) : hap (thinR d rows) e = (hap rows e).map fun x => (x.1, (keptN (d x.1) 0 x.2).length) := by
  have go : ∀ (rs : List (List Int)) (p : Nat), hapFrom e p (rs.mapIdx fun i r => thin (d (p + i)) 0 r) = (hapFrom e p rs).map fun x => (x.1, (keptN (d x.1) 0 x.2).length) := by
    intro rs
    induction rs with
    | nil => intro p; rfl
    | cons r rs ih =>
      intro p
      rw [List.mapIdx_cons]
      unfold hapFrom
      rw [Nat.add_zero]
      by_cases z : e ∈ r
      · rw [if_pos ((thin_mem he 0 r).mpr z), if_pos z, thin_idx he 0 r z]
        rfl
      · rw [if_neg (fun h => z ((thin_mem he 0 r).mp h)), if_neg z]
        have e2 : (fun (i : Nat) (r : List Int) => thin (d (p + (i + 1))) 0 r) = fun i r => thin (d (p + 1 + i)) 0 r := by
          funext i r
          rw [show p + (i + 1) = p + 1 + i by omega]
        rw [e2]
        exact ih (p + 1)
  have := go rows 0
  unfold thinR hap
  rw [← this]
  congr 2
  funext i r
  rw [Nat.zero_add]
end Sv
set_option maxHeartbeats 400000
namespace Sv
open PySem L2
theorem name_pos {nm : List Int} (hp : nm.Perm names24) {m : Int} (h : m ∈ nm) : 1 ≤ m := (names_mem.mp (hp.mem_iff.mp h)).1
/-- the numbers of the states that are kept, by their new numbers -/
def namesN (d : Nat → Bool) (m : Nat) : List Nat := 0 :: (keptN d 0 m ++ [m + 1])
theorem keptN_mem {d : Nat → Bool} {n m i : Nat} : i ∈ keptN d n m ↔ n + 1 ≤ i ∧ i ≤ n + m ∧ d i = false := by
  unfold keptN
  rw [List.mem_filter, List.mem_map]
  constructor
  · rintro ⟨⟨j, h1, rfl⟩, h2⟩
    have := List.mem_range.mp h1
    exact ⟨by omega, by omega, by simpa using h2⟩
  · rintro ⟨h1, h2, h3⟩
    exact ⟨⟨i - (n + 1), List.mem_range.mpr (by omega), by omega⟩, by rw [h3]; rfl⟩
theorem keptN_rise (d : Nat → Bool) (n m : Nat) : (keptN d n m).Pairwise (· < ·) := by
  unfold keptN
  refine List.Pairwise.filter _ (List.pairwise_map.mpr ((List.pairwise_lt_range (n := m)).imp fun h => ?_))
  omega
theorem namesN_rise (d : Nat → Bool) (m : Nat) : (namesN d m).Pairwise (· < ·) := by
  unfold namesN
  refine List.pairwise_cons.mpr ⟨fun x hx => ?_, List.pairwise_append.mpr ⟨keptN_rise d 0 m, List.pairwise_singleton _ _, fun x hx y hy => ?_⟩⟩
  · rcases List.mem_append.mp hx with z | z
    · have := keptN_mem.mp z; omega
    · rw [List.mem_singleton.mp z]; omega
  · have := keptN_mem.mp hx
    rw [List.mem_singleton.mp hy]
    omega
theorem keptN_take {d : Nat → Bool} {m k : Nat} (h : k ≤ m) : keptN d 0 k <+: keptN d 0 m := by
  refine ⟨((List.range (m - k)).map fun i => 0 + 1 + (k + i)).filter fun i => !d i, ?_⟩
  unfold keptN
  rw [← List.filter_append]
  congr 1
  have e : List.range m = List.range k ++ (List.range (m - k)).map (k + ·) := by
    conv => lhs; rw [show m = k + (m - k) by omega, List.range_add]
  rw [e, List.map_append, List.map_map]
  rfl
/-- an event stands before a kept state in both histories or in none -/
theorem kept_lt {d : Nat → Bool} {m k c n : Nat} (hk : k ≤ m) (h : (namesN d m)[c]? = some n) : k < n ↔ (keptN d 0 k).length < c := by
  have hpre := keptN_take (d := d) hk
  unfold namesN at h
  cases c with
  | zero =>
    cases h
    exact ⟨fun z => absurd z (Nat.not_lt_zero _), fun z => absurd z (Nat.not_lt_zero _)⟩
  | succ i =>
    rw [List.getElem?_cons_succ] at h
    rcases Nat.lt_or_ge i (keptN d 0 m).length with z | z
    · rw [List.getElem?_append_left z] at h
      rcases Nat.lt_or_ge i (keptN d 0 k).length with y | y
      · have e : (keptN d 0 k)[i]? = some n := by
          obtain ⟨t, ht⟩ := hpre
          rw [← ht, List.getElem?_append_left y] at h
          exact h
        have := keptN_mem.mp (List.mem_of_getElem? e)
        omega
      · obtain ⟨t, ht⟩ := hpre
        rw [← ht, List.getElem?_append_right y] at h
        have h1 : n ∈ t := List.mem_of_getElem? h
        have h2 := keptN_mem.mp (show n ∈ keptN d 0 m by rw [← ht]; exact List.mem_append.mpr (.inr h1))
        have h3 : n ∉ keptN d 0 k := fun w => by
          have pr := keptN_rise d 0 m
          rw [← ht] at pr
          exact Nat.lt_irrefl _ ((List.pairwise_append.mp pr).2.2 n w n h1)
        have h4 : ¬ n ≤ k := fun w => h3 (keptN_mem.mpr ⟨h2.1, by omega, h2.2.2⟩)
        omega
    · rw [List.getElem?_append_right z] at h
      have h2 : i - (keptN d 0 m).length = 0 := by
        have := (List.getElem?_eq_some_iff.mp h).1
        simp at this
        omega
      rw [h2] at h
      cases h
      have := hpre.length_le
      omega
end Sv
set_option maxHeartbeats 400000
namespace Sv
open PySem L2
theorem names_lt {d : Nat → Bool} {m c c' n n' : Nat} (h : (namesN d m)[c]? = some n) (h' : (namesN d m)[c']? = some n') (z : c < c') : n < n' := by
  obtain ⟨h1, h2⟩ := List.getElem?_eq_some_iff.mp h
  obtain ⟨h3, h4⟩ := List.getElem?_eq_some_iff.mp h'
  have := List.pairwise_iff_getElem.mp (namesN_rise d m) c c' h1 h3 z
  omega
theorem names_le {d : Nat → Bool} {m c c' n n' : Nat} (h : (namesN d m)[c]? = some n) (h' : (namesN d m)[c']? = some n') : c ≤ c' ↔ n ≤ n' := by
  constructor
  · intro z
    rcases Nat.lt_or_eq_of_le z with y | y
    · exact Nat.le_of_lt (names_lt h h' y)
    · subst y
      rw [h] at h'
      cases h'
      exact Nat.le_refl _
  · intro z
    rcases Nat.lt_or_ge c' c with y | y
    · have := names_lt h' h y; omega
    · exact y
/-- a line of the smaller history and the line that it names -/
structure Led (d : Nat → Nat → Bool) (rows : List (List Int)) (a b : List Nat) : Prop where
  la : a.length = rows.length
  lb : b.length = rows.length
  at' : ∀ (p : Nat) (row : List Int), rows[p]? = some row → ∃ c n, a[p]? = some c ∧ b[p]? = some n ∧ (namesN (d p) (row.count 0))[c]? = some n
theorem row_of {rows : List (List Int)} {p : Nat} (h : p < rows.length) : ∃ row, rows[p]? = some row := ⟨_, List.getElem?_eq_getElem h⟩
theorem Led.cons {d : Nat → Nat → Bool} {rows : List (List Int)} {a b : List Nat} (h : Led d rows a b) : ConsL (thinR d rows) a ↔ ConsL rows b := by
  have key : ∀ {e : Int} {p k : Nat}, e ≠ 0 → hap rows e = some (p, k) → hap (thinR d rows) e = some (p, (keptN (d p) 0 k).length) := fun {e p k} he h => by
    rw [hap_thin he, h]
    rfl
  have lt : ∀ {e : Int} {p k c n : Nat}, hap rows e = some (p, k) → a[p]? = some c → b[p]? = some n → (k < n ↔ (keptN (d p) 0 k).length < c) := fun {e p k c n} h1 h2 h3 => by
    obtain ⟨row, _, hr, _, _⟩ := hap_inv h1
    obtain ⟨c', n', h4, h5, h6⟩ := h.at' p row hr
    rw [h2] at h4
    rw [h3] at h5
    cases h4
    cases h5
    exact kept_lt (hap_le h1 hr) h6
  constructor
  · intro hc m p k p' k' c c' hm h1 h2 h3 h4 h5
    have ap : ∀ {q : Nat} {x : Nat}, b[q]? = some x → ∃ y, a[q]? = some y := fun {q x} z => ⟨_, List.getElem?_eq_getElem (by rw [h.la, ← h.lb]; exact (List.getElem?_eq_some_iff.mp z).1)⟩
    obtain ⟨y, hy⟩ := ap h3
    obtain ⟨y', hy'⟩ := ap h4
    exact (lt h1 hy h3).mpr (hc m p _ p' _ y y' hm (key (by omega) h1) (key (by omega) h2) hy hy' ((lt h2 hy' h4).mp h5))
  · intro hc m p k p' k' c c' hm h1 h2 h3 h4 h5
    have bp : ∀ {q : Nat} {x : Nat}, a[q]? = some x → ∃ y, b[q]? = some y := fun {q x} z => ⟨_, List.getElem?_eq_getElem (by rw [h.lb, ← h.la]; exact (List.getElem?_eq_some_iff.mp z).1)⟩
    obtain ⟨y, hy⟩ := bp h3
    obtain ⟨y', hy'⟩ := bp h4
    rw [hap_thin (by omega)] at h1 h2
    obtain ⟨⟨q, j⟩, g1, g2⟩ := Option.map_eq_some_iff.mp h1
    obtain ⟨⟨q', j'⟩, g3, g4⟩ := Option.map_eq_some_iff.mp h2
    cases g2
    cases g4
    exact (lt g1 h3 hy).mp (hc m _ j _ j' y y' hm g1 g3 hy hy' ((lt g3 h4 hy').mpr h5))
theorem Led.le {d : Nat → Nat → Bool} {rows : List (List Int)} {a b a' b' : List Nat} (h : Led d rows a b) (g : Led d rows a' b') (hl : LeL b b') : LeL a a' := fun i x y h1 h2 => by
  have hi : i < rows.length := by rw [← h.la]; exact (List.getElem?_eq_some_iff.mp h1).1
  obtain ⟨row, hr⟩ := row_of hi
  obtain ⟨c, n, e1, e2, e3⟩ := h.at' i row hr
  obtain ⟨c', n', e4, e5, e6⟩ := g.at' i row hr
  rw [h1] at e1
  rw [h2] at e4
  cases e1
  cases e4
  exact (names_le e3 e6).mpr (hl i n n' e2 e5)
end Sv
set_option maxHeartbeats 400000
set_option maxHeartbeats 800000
set_option autoImplicit false
namespace Sv
open PySem PySem.Spec PyProof.Rows L2
theorem w_within {x lo hi : Int} {S : Sto} {R : DK} (q : R (.bl (decide (lo ≤ x) && decide (x ≤ hi))) S) : dFn 3 B_is_number_within_7f04 [.int x, .int lo, .int hi] S R := by
  refine ⟨_, rfl, rfl, w_isnum ⟨_, rfl, goT ?_⟩⟩
  refine ⟨_, rfl, _, rfl, _, rfl, iteB (fun h => ?_) (fun h => ?_)⟩
  · have h : decide (lo ≤ x) = true := h
    rw [h, Bool.true_and] at q
    exact ⟨_, rfl, q⟩
  · have h : decide (lo ≤ x) = false := h
    rw [h, Bool.false_and] at q
    exact q
end Sv
set_option maxHeartbeats 400000
namespace Sv
open PySem L2
/-- which saves the smaller history lacks -/
def dOf (rows : List (List Int)) (us : List (Int × Int)) (p n : Nat) : Bool := decide (((p : Int), (n : Int)) ∈ delU rows us)
end Sv
set_option maxHeartbeats 400000
set_option maxHeartbeats 400000
namespace Sv
open PySem L2
def NamesAt (S : Sto) (rows : List (List Int)) (us : List (Int × Int)) (rs : List Addr) : Prop := ∀ (p : Nat) (r : Addr) (row : List Int), rs[p]? = some r → rows[p]? = some row → S r = some (.lst (natD (namesN (dOf rows us p) (row.count 0))))
theorem NamesAt.keep {S S' : Sto} {rows : List (List Int)} {us : List (Int × Int)} {rs : List Addr} (h : NamesAt S rows us rs) (k : SG S S') : NamesAt S' rows us rs := fun p r row h1 h2 => k _ _ (fun z => z) (h p r row h1 h2)
end Sv
set_option maxHeartbeats 400000
set_option maxHeartbeats 400000
set_option maxHeartbeats 400000
namespace Sv
open PySem L2
def freshR (rows : List (List Int)) : List (List Int) := rows.map fun r => r ++ [0]
theorem Grown.fresh {c : Nat} {nm : List Int} {rows : List (List Int)} {o : List (Int × Int)} {u k : Nat} (h : Grown c nm rows o u k) : Grown c nm (freshR rows) o u (k + rows.length) := by
  have go : ∀ i, i ≤ rows.length → Grown c nm ((rows.take i).map (fun r => r ++ [0]) ++ rows.drop i) o u (k + i) := by
    intro i
    induction i with
    | zero => intro _; exact h
    | succ i ih =>
      intro hi
      have hr : rows[i]? = some rows[i] := List.getElem?_eq_getElem hi
      have g := ih (by omega)
      have hl : ((rows.take i).map (fun r => r ++ [0])).length = i := by rw [List.length_map, List.length_take]; omega
      have hd : rows.drop i = rows[i] :: rows.drop (i + 1) := List.drop_eq_getElem_cons hi
      have hat : ((rows.take i).map (fun r => r ++ [0]) ++ rows.drop i)[i]? = some rows[i] := by
        rw [List.getElem?_append_right (by omega), hl, Nat.sub_self, hd]
        rfl
      have g2 := g.save hat
      have e : ((rows.take i).map (fun r => r ++ [0]) ++ rows.drop i).set i (rows[i] ++ [0]) = (rows.take (i + 1)).map (fun r => r ++ [0]) ++ rows.drop (i + 1) := by
        rw [take_map hr, List.map_append, List.set_append_right _ _ (by omega), hl, Nat.sub_self, hd, List.append_assoc]
        rfl
      rw [e] at g2
      exact g2
  have := go rows.length (Nat.le_refl _)
  rw [List.take_length, List.drop_length, List.append_nil] at this
  exact this
theorem Good.fresh {many most : Nat} {rows : List (List Int)} (h : Good many most rows) : Good many (most + many) (freshR rows) := by
  have hl := h.len
  obtain ⟨c, nm, o, u, k, h1, h2, h3, h4, h5⟩ := h
  exact ⟨c, nm, o, u, k + rows.length, h1, h2, h3, h4.fresh, by omega⟩
end Sv
set_option maxHeartbeats 400000
namespace Sv
open PySem L2
def nu (na : List Int) (e : Int) : Int := if e = 0 then 0 else if e < 0 then 0 - na.getD (e.natAbs - 1) 0 else na.getD (e.natAbs - 1) 0
end Sv
set_option maxHeartbeats 400000
namespace Sv
open PySem L2
section
variable {rows : List (List Int)} {ord : List Nat} {na : List Int}
/-- the new numbers of processes -/
def sgN (ord : List Nat) (fs : List Int) : List Int := fs.map fun f => ((ord.idxOf f.toNat : Nat) : Int)
end
end Sv
set_option maxHeartbeats 400000
set_option maxHeartbeats 400000
set_option maxHeartbeats 400000
set_option maxHeartbeats 400000
set_option maxHeartbeats 400000
set_option maxHeartbeats 400000
set_option maxHeartbeats 400000
set_option maxHeartbeats 800000
set_option autoImplicit false
namespace Sv
open PySem PySem.Spec PyProof.Rows L2
abbrev LetR := Nat × Nat × Nat × Nat × Int
def ltD (x : LetR) : List D := [.int (x.1 : Int), .int (x.2.1 : Int), .int (x.2.2.1 : Int), .int (x.2.2.2.1 : Int), .int x.2.2.2.2]
structure LetS (S : Sto) (f : Addr) (as : List Addr) (Ls : List LetR) : Prop where
  len : as.length = Ls.length
  fx : S f = some (.lst (as.map D.ref))
  at' : ∀ (k : Nat) (a : Addr) (x : LetR), as[k]? = some a → Ls[k]? = some x → S a = some (.lst (ltD x))
  off : ∀ a ∈ as, a ≠ f
theorem LetS.keep {S S' : Sto} {f : Addr} {as : List Addr} {Ls : List LetR} (h : LetS S f as Ls) (sg : SG S S') : LetS S' f as Ls := ⟨h.len, sg _ _ (fun z => z) h.fx, fun k a x h1 h2 => sg _ _ (fun z => z) (h.at' k a x h1 h2), h.off⟩
end Sv
set_option maxHeartbeats 800000
set_option autoImplicit false
set_option maxHeartbeats 800000
set_option autoImplicit false
set_option maxHeartbeats 800000
set_option autoImplicit false
set_option maxHeartbeats 800000
set_option autoImplicit false
set_option maxHeartbeats 800000
set_option autoImplicit false
set_option maxHeartbeats 1000000
set_option autoImplicit false
set_option maxHeartbeats 1000000
set_option autoImplicit false
namespace Sv
open PySem PySem.Spec PyProof.Rows L2
/-- a step of a plan -/
inductive Act where
  | save (p : Nat) | send (p : Nat) | recv (p : Nat) (m : Int)
def actD : Act → D
  | .save p => .tup [.str "save", .int (p : Nat)]
  | .send p => .tup [.str "send", .int (p : Nat)]
  | .recv p m => .tup [.str "receive", .int (p : Nat), .int m]
/-- steps that can be done: what is on its way, how many are sent -/
inductive Plan (c : Nat) : List Act → List (Int × Int) → Nat → Prop
  | nil : Plan c [] [] 0
  | save {as : List Act} {o : List (Int × Int)} {u p : Nat} : Plan c as o u → p < c → Plan c (as ++ [.save p]) o u
  | send {as : List Act} {o : List (Int × Int)} {u p : Nat} : Plan c as o u → p < c → u < 24 → Plan c (as ++ [.send p]) (o ++ [((u : Int) + 1, (p : Int))]) (u + 1)
  | recv {as : List Act} {o : List (Int × Int)} {u p j : Nat} {m q : Int} : Plan c as o u → p < c → o[j]? = some (m, q) → q ≠ (p : Int) → Plan c (as ++ [.recv p m]) (o.eraseIdx j) u
theorem Plan.mem {c : Nat} {as : List Act} {o : List (Int × Int)} {u : Nat} (h : Plan c as o u) : ∀ x ∈ o, 1 ≤ x.1 ∧ x.1 ≤ (u : Int) := by
  induction h with
  | nil => exact fun x hx => (nomatch hx)
  | save _ _ ih => exact ih
  | send _ _ _ ih =>
    intro x hx
    rcases List.mem_append.mp hx with z | z
    · have := ih x z
      omega
    · rw [List.mem_singleton.mp z]
      dsimp only
      omega
  | recv _ _ _ _ ih => exact fun x hx => ih x (List.mem_of_mem_eraseIdx hx)
theorem Plan.u24 {c : Nat} {as : List Act} {o : List (Int × Int)} {u : Nat} (h : Plan c as o u) : u ≤ 24 := by
  induction h with
  | nil => exact Nat.zero_le _
  | save _ _ ih => exact ih
  | send _ _ z _ => omega
  | recv _ _ _ _ ih => exact ih
theorem Plan.olen {c : Nat} {as : List Act} {o : List (Int × Int)} {u : Nat} (h : Plan c as o u) : o.length ≤ u := by
  induction h with
  | nil => exact Nat.le_refl _
  | save _ _ ih => exact ih
  | send _ _ z ih => rw [List.length_append]; simp; omega
  | recv _ _ _ _ ih => exact Nat.le_trans (List.length_eraseIdx_le ..) ih
/-- a beginning of a plan is one -/
theorem Plan.take {c : Nat} {as : List Act} {o : List (Int × Int)} {u : Nat} (h : Plan c as o u) (n : Nat) : ∃ o' u', Plan c (as.take n) o' u' := by
  induction h with
  | nil => exact ⟨_, _, by rw [List.take_nil]; exact .nil⟩
  | @save as o u p g hp ih =>
    by_cases z : n ≤ as.length
    · rw [List.take_append_of_le_length z]; exact ih
    · rw [List.take_of_length_le (by rw [List.length_append]; simp; omega)]; exact ⟨_, _, .save g hp⟩
  | @send as o u p g hp hu ih =>
    by_cases z : n ≤ as.length
    · rw [List.take_append_of_le_length z]; exact ih
    · rw [List.take_of_length_le (by rw [List.length_append]; simp; omega)]; exact ⟨_, _, .send g hp hu⟩
  | @recv as o u p j m q g hp hj hq ih =>
    by_cases z : n ≤ as.length
    · rw [List.take_append_of_le_length z]; exact ih
    · rw [List.take_of_length_le (by rw [List.length_append]; simp; omega)]; exact ⟨_, _, .recv g hp hj hq⟩
def pL (p : Int × Int) : PyData := .list [.int p.1, .int p.2]
theorem pL_eqv (a b : Int × Int) : PyData.eqv (pL a) (pL b) = decide (a = b) := by
  obtain ⟨x, y⟩ := a
  obtain ⟨z, w⟩ := b
  have e : PyData.eqv (pL (x, y)) (pL (z, w)) = ((x == z) && ((y == w) && true)) := by simp only [pL, PyData.eqv, PyData.eqvAll]
  rw [e, Bool.and_true]
  by_cases h1 : x = z
  · by_cases h2 : y = w
    · subst h1 h2
      simp
    · have : (y == w) = false := beq_eq_false_iff_ne.mpr h2
      rw [this, Bool.and_false]
      exact (decide_eq_false fun q => h2 (Prod.mk.inj q).2).symm
  · have : (x == z) = false := beq_eq_false_iff_ne.mpr h1
    rw [this, Bool.false_and]
    exact (decide_eq_false fun q => h1 (Prod.mk.inj q).1).symm
theorem place_ofL {o : List (Int × Int)} {p : Int × Int} (h : p ∈ o) : ∃ j, SeqAt.dataPlace (o.map pL) (pL p) = some j ∧ o[j]? = some p := by
  induction o with
  | nil => cases h
  | cons a r ih =>
    unfold SeqAt.dataPlace at ih ⊢
    rw [List.map_cons, List.findIdx?_cons, pL_eqv]
    by_cases e : a = p
    · subst e
      exact ⟨0, by rw [decide_eq_true rfl]; rfl, rfl⟩
    · rw [decide_eq_false e]
      rcases List.mem_cons.mp h with z | z
      · exact absurd z.symm e
      · obtain ⟨j, h1, h2⟩ := ih z
        exact ⟨j + 1, by rw [h1]; rfl, h2⟩
theorem pL_plain : ∀ o : List (Int × Int), PyData.plainAll (o.map pL) = true
  | [] => rfl
  | p :: r => by
    have h := pL_plain r
    show (PyData.plain (pL p) && PyData.plainAll (r.map pL)) = true
    rw [h]
    rfl
theorem pL_lay : ∀ o : List (Int × Int), PyData.canLayAll0 (o.map pL) = true
  | [] => by simp [PyData.canLayAll0]
  | p :: r => by
    have h := pL_lay r
    simp only [List.map_cons, PyData.canLayAll0, h, pL, PyData.canLay0, Bool.and_self]
theorem pL_depth : ∀ o : List (Int × Int), PyData.depthAll (o.map pL) ≤ 1
  | [] => by simp [PyData.depthAll]
  | p :: r => by
    have h := pL_depth r
    have h2 : (pL p).depth = 1 := by simp [pL, PyData.depth, PyData.depthAll]
    simp only [List.map_cons, PyData.depthAll]
    omega
theorem shaped_lists (o : List (Int × Int)) : SeqAt.shaped (.list (o.map pL)) = true := by
  have h1 := pL_lay o
  have h2 := pL_depth o
  show (PyData.canLay0 (.list (o.map pL)) && decide (PyData.depth (.list (o.map pL)) ≤ 64)) = true
  simp only [PyData.canLay0, PyData.depth, h1, Bool.true_and]
  exact decide_eq_true (by omega)
/-- pairs that wait: where they stand -/
abbrev WS := List (Addr × Int × Int)
def wsD (ws : WS) : List D := ws.map fun w => .ref w.1
theorem pys_ws {S : Sto} : ∀ ws : WS, (∀ w ∈ ws, S w.1 = some (.lst [.int w.2.1, .int w.2.2])) → Pys S (wsD ws) ((ws.map (·.2)).map pL)
  | [], _ => .nil
  | w :: r, h => .cons (.lst (h w List.mem_cons_self) (.cons (.int _) (.cons (.int _) .nil))) (pys_ws r fun x hx => h x (List.mem_cons_of_mem _ hx))
structure PLs (S0 S : Sto) (st cl A W : Addr) (c : Nat) (as : List Act) (ws : WS) (u : Nat) : Prop where
  sk : SK (DS' st cl) S0 S
  hA : S A = some (.lst (as.map actD))
  hW : S W = some (.lst (wsD ws))
  pl : Plan c as (ws.map (·.2)) u
  it : ∀ w ∈ ws, S w.1 = some (.lst [.int w.2.1, .int w.2.2]) ∧ (w.1 ≠ st ∧ w.1 ≠ cl) ∧ w.1 ≠ A ∧ w.1 ≠ W
theorem PLs.keep {S0 S S' : Sto} {st cl A W : Addr} {c : Nat} {as : List Act} {ws : WS} {u : Nat} (h : PLs S0 S st cl A W c as ws u) (k : SK (DS' st cl) S S') (n1 : A ≠ st ∧ A ≠ cl) (n2 : W ≠ st ∧ W ≠ cl) : PLs S0 S' st cl A W c as ws u :=
  ⟨h.sk.trans k, k _ _ (nDR n1) h.hA, k _ _ (nDR n2) h.hW, h.pl, fun w hw => ⟨k _ _ (nDR (h.it w hw).2.1) (h.it w hw).1, (h.it w hw).2⟩⟩
theorem PLs.keepG {S0 S S' : Sto} {st cl A W : Addr} {c : Nat} {as : List Act} {ws : WS} {u : Nat} (h : PLs S0 S st cl A W c as ws u) (k : SG S S') : PLs S0 S' st cl A W c as ws u :=
  ⟨h.sk.trans k.sk, k _ _ (fun z => z) h.hA, k _ _ (fun z => z) h.hW, h.pl, fun w hw => ⟨k _ _ (fun z => z) (h.it w hw).1, (h.it w hw).2⟩⟩
theorem w_planK {st cl : Addr} {n c many : Nat} {S0 : Sto} {R : DK} (h : Dr st cl n S0) (h9 : n + 200 ≤ 1000000) (c1 : 1 ≤ c) (c6 : c ≤ 6) (m6 : many ≤ 40)
    (k : ∀ (as : List Act) (o : List (Int × Int)) (u : Nat) S', Plan c as o u → as.length = many → Dr st cl (n + 3 * many) S' → SK (DS' st cl) S0 S' → R (.tup (as.map actD)) S') : dFn 11 B_law_plan_4754 [.ref st, .int (c : Int), .int (many : Int)] S0 R := by
  refine ⟨rfl, fun A nA => ⟨rfl, fun W nW => ⟨rfl, _, rfl, .inl (.inl rfl), _, _, rfl, _, _, rfl, _, _, rfl, rfl, ?_⟩⟩⟩
  have AW : A ≠ W := fun z => by rw [← z, Sto.same] at nW; cases nW
  have nW0 : S0 W = none := by rw [Sto.ne (Ne.symm AW)] at nW; exact nW
  have Ad := h.fresh nA
  have Wd := h.fresh nW0
  have sg0 : SG S0 ((S0.put A (.lst [])).put W (.lst [])) := (SK.new nA).trans (.new nW)
  have v0 : PLs S0 ((S0.put A (.lst [])).put W (.lst [])) st cl A W c [] [] 0 := ⟨sg0.sk, (Sto.ne AW).trans Sto.same, Sto.same, .nil, fun w hw => (nomatch hw)⟩
  have D0 := h.keep sg0
  generalize (S0.put A (.lst [])).put W (.lst []) = S1 at v0 D0 ⊢
  refine ⟨_, rfl, _, rfl, by omega, by omega, ?_⟩
  refine ⟨fun i env S => i ≤ many ∧ ∃ (as : List Act) (ws : WS) (u : Nat) (x6 x7 x8 x9 x10 : Option D), env = [some (.ref st), some (.int (c : Int)), some (.int (many : Int)), some (.ref A), some (.ref W), some (.int (u : Int)), x6, x7, x8, x9, x10] ∧ Dr st cl (n + 3 * i) S ∧ PLs S0 S st cl A W c as ws u ∧ as.length = i,
    ⟨Nat.zero_le _, _, _, 0, _, _, _, _, _, rfl, D0, v0, rfl⟩, fun _ _ _ _ _ => True.intro, ?_, ?_⟩
  · rintro i d env S2 hd ⟨hi0, as, ws, u, x6, x7, x8, x9, x10, rfl, D2, v2, al⟩
    obtain ⟨hi', hd'⟩ := rg_at hd
    have hi : i < many := by omega
    rw [Int.zero_add] at hd'
    subst hd'
    have wl : ws.length ≤ 24 := by have := v2.pl.olen; have := v2.pl.u24; rw [List.length_map] at *; omega
    refine ⟨_, rfl, rfl, w_drawK D2 (by omega) (by decide) (by decide) fun way S3 hway D3 k3 => ?_⟩
    refine ⟨_, rfl, _, rfl, rfl, w_drawK D3 (by omega) (by omega) (by omega) fun p S4 hp D4 k4 => ?_⟩
    have v4 := (v2.keep k3 Ad Wd).keep k4 Ad Wd
    have hpc : p < c := by omega
    refine ⟨rfl, _, rfl, .inl (.inl rfl), _, _, rfl, _, _, rfl, rfl, ?_⟩
    refine ⟨_, rfl, _, ⟨_, v4.hW, rfl⟩, lc_mapE ws (fun w => D.ref w.1) rfl (fun x => if decide (x.2.2 = (p : Int)) = true then none else some (D.ref x.1)) (by omega) (fun S' sg => sg _ _ (fun z => z) v4.hW) (fun x hx S11 sg K Kn hk hn => turn_n ⟨_, rfl, _, 1, _, seqOf_lst (sg _ _ (fun z => z) (v4.it x hx).1), rfl, rfl, _, rfl, _, rfl, iteB (fun e => ⟨_, rfl, hk _ ?_ _ (.refl _)⟩) (fun e => hn ?_ _ (.refl _))⟩) fun y S5 ny sg5 hy => ?_⟩
    · rw [xor_tt, Bool.not_eq_true'] at e
      show (if decide (x.2.2 = (p : Int)) = true then none else some (D.ref x.1)) = _
      rw [e, if_neg Bool.false_ne_true]
    · rw [xor_tt, Bool.not_eq_false'] at e
      show (if decide (x.2.2 = (p : Int)) = true then none else some (D.ref x.1)) = _
      rw [e, if_pos rfl]
    rw [fm_not (fun w : Addr × Int × Int => D.ref w.1) (fun x : Addr × Int × Int => decide (x.2.2 = (p : Int)))] at hy
    generalize hcn : ws.filter (fun x => !decide (x.2.2 = (p : Int))) = can at hy
    have v5 := v4.keepG sg5
    have D5 := D4.keep sg5
    have y5 := D4.fresh ny
    have canm : ∀ x ∈ can, x ∈ ws ∧ x.2.2 ≠ (p : Int) := fun x hx => by
      rw [← hcn, List.mem_filter] at hx
      exact ⟨hx.1, fun z => by rw [decide_eq_true z] at hx; exact Bool.noConfusion hx.2⟩
    dsimp only [dgName]
    have hy : S5 y = some (.lst (wsD can)) := hy
    refine dIfS_by (fun b S' => Dr st cl (n + 3 * i + 2) S' ∧ PLs S0 S' st cl A W c as ws u ∧ S' y = some (.lst (wsD can)) ∧ (b = true → can ≠ [])) (fun K hK => ?_) (fun S' ⟨D6, v6, hy6, hne⟩ => ?_) (fun S' ⟨D6, v6, hy6, _⟩ => ?_)
    · refine ⟨_, rfl, _, rfl, iteB (fun _ => ⟨_, rfl, rfl, fun q nq => ?_⟩) (fun _ => hK _ _ ⟨D5.mono (by omega), v5, hy, (fun z => nomatch z)⟩)⟩
      have sgq : SG S5 (S5.put q (.lst [])) := .new nq
      refine ⟨_, _, .lst (sgq _ _ (fun z => z) hy) (pys_ws can fun w hw => sgq _ _ (fun z => z) (v5.it w (canm w hw).1).1), .lst Sto.same .nil, shaped_lists _, by decide +kernel, _, rfl, ?_⟩
      refine hK _ _ ⟨(D5.keep sgq).mono (by omega), v5.keepG sgq, sgq _ _ (fun z => z) hy, fun e z => ?_⟩
      rw [eqv_nil, xor_tt, z] at e
      cases e
    · -- a receipt
      have hne := hne rfl
      refine ⟨_, rfl, _, rfl, rfl, w_oneK D6 (by omega) (fun S' sk => seqOf_lst (sk _ _ (nDR y5) hy6)) (by unfold wsD; exact fun z => hne (List.map_eq_nil_iff.mp z)) (by
        unfold wsD
        rw [List.length_map, ← hcn]
        have := List.length_filter_le (fun x : Addr × Int × Int => !decide (x.2.2 = (p : Int))) ws
        omega) fun j x S7 hx D7 k7 => ?_⟩
      have v7 := v6.keep k7 Ad Wd
      unfold wsD at hx
      rw [List.getElem?_map] at hx
      obtain ⟨w, hw, rfl⟩ := Option.map_eq_some_iff.mp hx
      obtain ⟨hwm, hwq⟩ := canm w (List.mem_of_getElem? hw)
      obtain ⟨hwS, _⟩ := v7.it w hwm
      obtain ⟨j', hj1, hj2⟩ := place_ofL (o := ws.map (·.2)) (p := w.2) (List.mem_map_of_mem hwm)
      refine ⟨_, rfl, ⟨rfl, _, seqOf_lst v7.hW, noTup _⟩, _, rfl, W, _, _, _, _, j', rfl, rfl, v7.hW, pys_ws ws (fun w hw => (v7.it w hw).1), .lst hwS (.cons (.int _) (.cons (.int _) .nil)), pL_plain _, rfl, by simp [PyData.depth, PyData.depthAll], hj1, ?_⟩
      have hA8 : (S7.put W (.lst ((wsD ws).eraseIdx j'))) A = _ := (Sto.ne AW).trans v7.hA
      have hw8 : (S7.put W (.lst ((wsD ws).eraseIdx j'))) w.1 = _ := (Sto.ne (v7.it w hwm).2.2.2).trans hwS
      refine ⟨_, rfl, ⟨rfl, _, seqOf_lst hA8, noTup _⟩, _, rfl, _, rfl, _, 0, _, seqOf_lst hw8, rfl, rfl, rfl, A, _, _, rfl, rfl, hA8, by rw [List.length_map]; omega, ?_⟩
      refine ⟨hi, as ++ [.recv p w.2.1], ws.eraseIdx j', u, _, _, _, _, _, rfl, ((D7.put Wd).put Ad).mono (by omega), ⟨?_, ?_, ?_, ?_, ?_⟩, by rw [List.length_append, al]; rfl⟩
      · exact (v7.sk.own nW0).own nA
      · rw [Sto.same, List.map_append]; rfl
      · rw [Sto.ne (Ne.symm AW), Sto.same]; unfold wsD; rw [eraseIdx_map']
      · have e : (ws.eraseIdx j').map (·.2) = (ws.map (·.2)).eraseIdx j' := (eraseIdx_map' _ ws j').symm
        rw [e]
        exact .recv v7.pl hpc hj2 hwq
      · intro z hz
        have hz := List.mem_of_mem_eraseIdx hz
        obtain ⟨z1, z2, z3, z4⟩ := v7.it z hz
        exact ⟨(Sto.ne z3).trans ((Sto.ne z4).trans z1), z2, z3, z4⟩
    · refine dIfS_by (fun b S' => S' = S' ∧ Dr st cl (n + 3 * i + 2) S' ∧ PLs S0 S' st cl A W c as ws u ∧ (b = true → u < 24)) (fun K hK => ?_) (fun S' ⟨_, D7, v7, hu⟩ => ?_) (fun S' ⟨_, D7, v7, _⟩ => ?_)
      · refine ⟨_, rfl, _, rfl, iteB (fun _ => ⟨_, rfl, _, rfl, hK _ _ ⟨rfl, D6, v6, fun e => ?_⟩⟩) (fun _ => hK _ _ ⟨rfl, D6, v6, (fun z => nomatch z)⟩)⟩
        have e := of_decide_eq_true (show decide ((u : Int) < 24) = true from e)
        omega
      · -- a sending
        have hu := hu rfl
        refine ⟨_, rfl, _, rfl, ⟨rfl, _, seqOf_lst v7.hW, noTup _⟩, _, rfl, _, rfl, rfl, fun q nq => ?_⟩
        have sgq : SG S' (S'.put q (.lst [D.int ((u : Int) + 1), .int (p : Int)])) := .new nq
        have v8 := v7.keepG sgq
        have D8 := D7.keep sgq
        have q7 := D7.fresh nq
        have hq8 : (S'.put q (.lst [D.int ((u : Int) + 1), .int (p : Int)])) q = _ := Sto.same
        have qA : q ≠ A := fun z => by rw [z, v7.hA] at nq; cases nq
        have qW : q ≠ W := fun z => by rw [z, v7.hW] at nq; cases nq
        generalize S'.put q (.lst [D.int ((u : Int) + 1), .int (p : Int)]) = S8 at v8 D8 hq8 ⊢
        refine ⟨W, _, _, rfl, rfl, v8.hW, by unfold wsD; rw [List.length_map]; omega, ?_⟩
        have hA9 : (S8.put W (.lst (wsD ws ++ [D.ref q]))) A = _ := (Sto.ne AW).trans v8.hA
        refine ⟨_, rfl, ⟨rfl, _, seqOf_lst hA9, noTup _⟩, _, rfl, rfl, A, _, _, rfl, rfl, hA9, by rw [List.length_map]; omega, ?_⟩
        refine ⟨hi, as ++ [.send p], ws ++ [(q, (u : Int) + 1, (p : Int))], u + 1, _, _, _, _, _, rfl, ((D8.put Wd).put Ad).mono (by omega), ⟨?_, ?_, ?_, ?_, ?_⟩, by rw [List.length_append, al]; rfl⟩
        · exact (v8.sk.own nW0).own nA
        · rw [Sto.same, List.map_append]; rfl
        · rw [Sto.ne (Ne.symm AW), Sto.same]; unfold wsD; rw [List.map_append]; rfl
        · rw [List.map_append]
          exact .send v8.pl hpc hu
        · intro z hz
          rcases List.mem_append.mp hz with hz | hz
          · obtain ⟨z1, z2, z3, z4⟩ := v8.it z hz
            exact ⟨(Sto.ne z3).trans ((Sto.ne z4).trans z1), z2, z3, z4⟩
          · rw [List.mem_singleton.mp hz]
            exact ⟨(Sto.ne qA).trans ((Sto.ne qW).trans hq8), q7, qA, qW⟩
      · -- a save
        refine ⟨_, rfl, ⟨rfl, _, seqOf_lst v7.hA, noTup _⟩, _, rfl, rfl, A, _, _, rfl, rfl, v7.hA, by rw [List.length_map]; omega, ?_⟩
        refine ⟨hi, as ++ [.save p], ws, u, _, _, _, _, _, rfl, (D7.put Ad).mono (by omega), ⟨?_, ?_, ?_, ?_, ?_⟩, by rw [List.length_append, al]; rfl⟩
        · exact v7.sk.own nA
        · rw [Sto.same, List.map_append]; rfl
        · exact (Sto.ne (Ne.symm AW)).trans v7.hW
        · exact .save v7.pl hpc
        · intro z hz
          obtain ⟨z1, z2, z3, z4⟩ := v7.it z hz
          exact ⟨(Sto.ne z3).trans z1, z2, z3, z4⟩
  · rintro env S2 ⟨_, as, ws, u, x6, x7, x8, x9, x10, rfl, D2, v2, al⟩
    have hlen : (rgD 0 (many : Int).toNat).length = many := by rw [rg_len]; omega
    rw [show (⟨rgD 0 (many : Int).toNat, fun _ => True⟩ : Src).items.length = many from hlen] at D2 al
    refine ⟨_, rfl, _, _, rfl, seqOf_lst v2.hA, (noTup _).2, k as _ u S2 v2.pl al D2 v2.sk⟩
end Sv
set_option maxHeartbeats 1000000
set_option autoImplicit false
namespace Sv
open PySem PySem.Spec PyProof.Rows L2
inductive RK where
  | none | sent | always | rounds
/-- what a rule knows: how often it wanted a save, who is busy, the numbers -/
structure RSt where
  w : Nat
  bs : List Bool
  ns : List Int
def RSt.ok (st : RSt) (c : Nat) : Prop := st.bs.length = c ∧ st.ns.length = c
def rst0 (c : Nat) : RSt := ⟨0, List.replicate c false, List.replicate c 0⟩
theorem rst0_ok (c : Nat) : (rst0 c).ok c := ⟨List.length_replicate .., List.length_replicate ..⟩
def saveK : RK → Nat → RSt → RSt
  | .none, _, st => st
  | .sent, q, st => { st with bs := st.bs.set q false }
  | .always, q, st => { st with bs := st.bs.set q false }
  | .rounds, q, st => { st with ns := st.ns.set q (st.ns.getD q 0 + 1) }
def sendK : RK → Nat → RSt → RSt
  | .none, _, st => st
  | .sent, q, st => { st with bs := st.bs.set q true }
  | .always, q, st => { st with bs := st.bs.set q true }
  | .rounds, _, st => st
def noteK : RK → Nat → RSt → Option Int
  | .rounds, q, st => some (st.ns.getD q 0)
  | _, _, _ => none
def mustK : RK → Nat → Option Int → RSt → Bool
  | .none, _, _, _ => false
  | .sent, q, _, st => st.bs.getD q false
  | .always, q, _, st => st.bs.getD q false
  | .rounds, q, n, st => decide (st.ns.getD q 0 < n.getD 0)
def recvK : RK → Nat → Option Int → RSt → RSt
  | .none, _, _, st => st
  | .sent, q, _, st => if st.bs.getD q false = true then { st with w := st.w + 1, bs := st.bs.set q false } else st
  | .always, q, _, st => if st.bs.getD q false = true then { st with w := st.w + 1, bs := (st.bs.set q false).set q true } else { st with bs := st.bs.set q true }
  | .rounds, q, n, st => if st.ns.getD q 0 < n.getD 0 then { st with w := st.w + 1, ns := st.ns.set q (n.getD 0) } else st
def noteD : Option Int → D
  | none => .non
  | some i => .int i
theorem saveK_ok {k : RK} {q c : Nat} {st : RSt} (h : st.ok c) : (saveK k q st).ok c := by
  cases k <;> first | exact h | exact ⟨(List.length_set ..).trans h.1, h.2⟩ | exact ⟨h.1, (List.length_set ..).trans h.2⟩
theorem sendK_ok {k : RK} {q c : Nat} {st : RSt} (h : st.ok c) : (sendK k q st).ok c := by
  cases k <;> first | exact h | exact ⟨(List.length_set ..).trans h.1, h.2⟩
theorem ite_ok {P : Prop} [Decidable P] {a b : RSt} {c : Nat} (ha : a.ok c) (hb : b.ok c) : (if P then a else b).ok c := by split <;> assumption
theorem recvK_ok {k : RK} {q c : Nat} {n : Option Int} {st : RSt} (h : st.ok c) : (recvK k q n st).ok c := by
  cases k with
  | none => exact h
  | sent => exact ite_ok ⟨(List.length_set ..).trans h.1, h.2⟩ h
  | always => exact ite_ok ⟨(List.length_set ..).trans ((List.length_set ..).trans h.1), h.2⟩ ⟨(List.length_set ..).trans h.1, h.2⟩
  | rounds => exact ite_ok ⟨h.1, (List.length_set ..).trans h.2⟩ h
def BusyAt (S : Sto) (p b : Addr) (cn : Str) (c w : Nat) (bs : List Bool) : Prop := p ≠ b ∧ S p = some (.ins cn [("processes", .int (c : Nat)), ("wanted", .int (w : Nat)), ("busy", .ref b)]) ∧ S b = some (.lst (bs.map D.bl))
def NumAt (S : Sto) (p b : Addr) (c w : Nat) (ns : List Int) : Prop := p ≠ b ∧ S p = some (.ins "Rounds" [("processes", .int (c : Nat)), ("wanted", .int (w : Nat)), ("numbers", .ref b)]) ∧ S b = some (.lst (intsD ns))
def RuleAt (S : Sto) (p b : Addr) (c : Nat) : RK → RSt → Prop
  | .none, st => p = b ∧ S p = some (.ins "Rule" [("processes", .int (c : Nat)), ("wanted", .int (st.w : Nat))])
  | .sent, st => BusyAt S p b "SaveAfterSend" c st.w st.bs
  | .always, st => BusyAt S p b "SaveAlways" c st.w st.bs
  | .rounds, st => NumAt S p b c st.w st.ns
abbrev RP (p b : Addr) : Addr → Prop := fun a => a = p ∨ a = b
theorem BusyAt.keep {S S' : Sto} {P : Addr → Prop} {p b : Addr} {cn : Str} {c w : Nat} {bs : List Bool} (h : BusyAt S p b cn c w bs) (k : SK P S S') (n1 : ¬ P p) (n2 : ¬ P b) : BusyAt S' p b cn c w bs := ⟨h.1, k _ _ n1 h.2.1, k _ _ n2 h.2.2⟩
theorem NumAt.keep {S S' : Sto} {P : Addr → Prop} {p b : Addr} {c w : Nat} {bs : List Int} (h : NumAt S p b c w bs) (k : SK P S S') (n1 : ¬ P p) (n2 : ¬ P b) : NumAt S' p b c w bs := ⟨h.1, k _ _ n1 h.2.1, k _ _ n2 h.2.2⟩
theorem RuleAt.keep {S S' : Sto} {P : Addr → Prop} {p b : Addr} {c : Nat} {kk : RK} {st : RSt} (h : RuleAt S p b c kk st) (k : SK P S S') (n1 : ¬ P p) (n2 : ¬ P b) : RuleAt S' p b c kk st := by
  cases kk with
  | none => exact ⟨h.1, k _ _ n1 h.2⟩
  | sent => exact BusyAt.keep h k n1 n2
  | always => exact BusyAt.keep h k n1 n2
  | rounds => exact NumAt.keep h k n1 n2
theorem RuleAt.ex {S : Sto} {p b : Addr} {c : Nat} {kk : RK} {st : RSt} (h : RuleAt S p b c kk st) : ∃ cn fs, S p = some (.ins cn fs) := by
  cases kk with
  | none => exact ⟨_, _, h.2⟩
  | sent => exact ⟨_, _, h.2.1⟩
  | always => exact ⟨_, _, h.2.1⟩
  | rounds => exact ⟨_, _, h.2.1⟩
theorem RuleAt.b {S : Sto} {p b : Addr} {c : Nat} {kk : RK} {st : RSt} (h : RuleAt S p b c kk st) : ∃ o, S b = some o := by
  cases kk with
  | none => exact ⟨_, h.1 ▸ h.2⟩
  | sent => exact ⟨_, h.2.2⟩
  | always => exact ⟨_, h.2.2⟩
  | rounds => exact ⟨_, h.2.2⟩
theorem RuleAt.proc {S : Sto} {p b : Addr} {c : Nat} {kk : RK} {st : RSt} (h : RuleAt S p b c kk st) : ∃ cn fs, S p = some (.ins cn fs) ∧ cn ∈ (["Rule", "SaveAfterSend", "SaveAlways", "Rounds"] : List Str) ∧ fs.lookup ("processes" : Str) = some (.int (c : Nat)) := by
  cases kk with
  | none => exact ⟨_, _, h.2, .head _, rfl⟩
  | sent => exact ⟨_, _, h.2.1, .tail _ (.head _), rfl⟩
  | always => exact ⟨_, _, h.2.1, .tail _ (.tail _ (.head _)), rfl⟩
  | rounds => exact ⟨_, _, h.2.1, .tail _ (.tail _ (.tail _ (.head _))), rfl⟩
theorem bls_at {bs : List Bool} {q : Nat} (h : q < bs.length) : (bs.map D.bl)[q]? = some (.bl (bs.getD q false)) := by
  rw [List.getElem?_map, List.getElem?_eq_getElem h]
  show some (D.bl bs[q]) = _
  rw [List.getD_eq_getElem?_getD, List.getElem?_eq_getElem h]
  rfl
theorem ns_at {ns : List Int} {q : Nat} (h : q < ns.length) : (intsD ns)[q]? = some (.int (ns.getD q 0)) := by
  rw [List.getD_eq_getElem?_getD, List.getElem?_eq_getElem h]
  exact intsD_at (List.getElem?_eq_getElem h)
theorem bls_set (bs : List Bool) (q : Nat) (c : Bool) : (bs.map D.bl).set q (.bl c) = (bs.set q c).map D.bl := by rw [List.map_set]
theorem putW (a x v : D) (r : List (Str × D)) : putFD "wanted" v ((("processes" : Str), a) :: (("wanted" : Str), x) :: r) = (("processes" : Str), a) :: (("wanted" : Str), v) :: r := by
  unfold putFD
  rw [if_neg (by decide)]
  unfold putFD
  rw [if_pos rfl]
section
variable {S : Sto} {p b : Addr} {cn : Str} {c w q : Nat} {bs : List Bool} {R : DK}
theorem BusyAt.put (h : BusyAt S p b cn c w bs) (bs' : List Bool) : BusyAt (S.put b (.lst (bs'.map D.bl))) p b cn c w bs' := ⟨h.1, (Sto.ne h.1).trans h.2.1, Sto.same⟩
theorem w_sasSave (h : BusyAt S p b cn c w bs) (hm : cn ∈ (["SaveAfterSend", "SaveAlways"] : List Str)) (hq : q < bs.length) (k : ∀ S', BusyAt S' p b cn c w (bs.set q false) → SK (RP p b) S S' → R .non S') : dFn 2 B_SaveAfterSend__save_1876 [.ref p, .int (q : Nat)] S R := by
  refine ⟨_, rfl, p, cn, _, .ref b, rfl, h.2.1, hm, rfl, _, rfl, b, _, (q : Int), q, rfl, rfl, h.2.2, ixnN' (by rw [List.length_map]; exact hq), ?_⟩
  rw [bls_set]
  exact k _ (h.put _) (.put (.inr rfl))
theorem w_sasSend (h : BusyAt S p b cn c w bs) (hm : cn ∈ (["SaveAfterSend", "SaveAlways"] : List Str)) (hq : q < bs.length) (k : ∀ S', BusyAt S' p b cn c w (bs.set q true) → SK (RP p b) S S' → R .non S') : dFn 2 B_SaveAfterSend__send_b8d5 [.ref p, .int (q : Nat)] S R := by
  refine ⟨_, rfl, p, cn, _, .ref b, rfl, h.2.1, hm, rfl, _, rfl, b, _, (q : Int), q, rfl, rfl, h.2.2, ixnN' (by rw [List.length_map]; exact hq), ?_⟩
  rw [bls_set]
  exact k _ (h.put _) (.put (.inr rfl))
theorem w_sasRecv {nt : D} (h : BusyAt S p b cn c w bs) (hm : cn ∈ (["SaveAfterSend", "SaveAlways"] : List Str)) (hq : q < bs.length) (kt : bs.getD q false = true → ∀ S', BusyAt S' p b cn c (w + 1) (bs.set q false) → SK (RP p b) S S' → R (.bl true) S') (kf : bs.getD q false = false → R (.bl false) S) :
    dFn 4 B_SaveAfterSend__receive_3625 [.ref p, .int (q : Nat), nt] S R := by
  have hm4 : cn ∈ (["SaveAfterSend", "SaveAlways"] : List Str) := hm
  refine ⟨_, rfl, p, cn, _, .ref b, rfl, h.2.1, hm, rfl, _, rfl, _, (q : Int), _, seqOf_lst h.2.2, rfl, atI_nat (bls_at hq), ?_⟩
  refine ⟨_, rfl, _, rfl, iteB (fun e => ?_) (fun e => ?_)⟩
  · refine ⟨_, rfl, p, cn, _, (w : Int), rfl, h.2.1, hm, rfl, (1 : Int), _, rfl, h.2.1, rfl, ?_⟩
    have h2 : BusyAt (S.put p (.ins cn [("processes", .int (c : Nat)), ("wanted", .int ((w + 1 : Nat) : Int)), ("busy", .ref b)])) p b cn c (w + 1) bs := ⟨h.1, Sto.same, (Sto.ne (Ne.symm h.1)).trans h.2.2⟩
    have sk2 : SK (RP p b) S (S.put p (.ins cn [("processes", .int (c : Nat)), ("wanted", .int ((w + 1 : Nat) : Int)), ("busy", .ref b)])) := .put (.inl rfl)
    rw [putW]
    have e1 : (w : Int) + 1 = ((w + 1 : Nat) : Int) := by omega
    dsimp only
    rw [e1]
    generalize S.put p (.ins cn [("processes", .int (c : Nat)), ("wanted", .int ((w + 1 : Nat) : Int)), ("busy", .ref b)]) = S2 at h2 sk2 ⊢
    refine ⟨_, rfl, p, cn, _, .ref b, rfl, h2.2.1, hm, rfl, _, rfl, b, _, (q : Int), q, rfl, rfl, h2.2.2, ixnN' (by rw [List.length_map]; exact hq), ?_⟩
    rw [bls_set]
    refine ⟨_, rfl, ?_⟩
    rw [e]
    exact kt e _ (h2.put _) (sk2.trans (.put (.inr rfl)))
  · refine ⟨_, rfl, ?_⟩
    rw [e]
    exact kf e
end
end Sv
set_option maxHeartbeats 1000000
set_option autoImplicit false
namespace Sv
open PySem PySem.Spec PyProof.Rows L2
section
variable {S : Sto} {p b : Addr} {c w q : Nat} {bs : List Bool} {ns : List Int} {R : DK} {st : RSt}
theorem mS1 : ("SaveAfterSend" : Str) ∈ (["SaveAfterSend", "SaveAlways"] : List Str) := .head _
theorem mS2 : ("SaveAlways" : Str) ∈ (["SaveAfterSend", "SaveAlways"] : List Str) := .tail _ (.head _)
theorem w_alSave (h : BusyAt S p b "SaveAlways" c w bs) (hq : q < bs.length) (k : ∀ S', BusyAt S' p b "SaveAlways" c w (bs.set q false) → SK (RP p b) S S' → R .non S') : dFn 3 B_SaveAlways__save_ec49 [.ref p, .int (q : Nat)] S R := by
  refine ⟨p, _, _, rfl, h.2.1, .head _, _, rfl, rfl, w_sasSave h mS2 hq fun S' h' k' => ?_⟩
  exact k S' h' k'
theorem w_alSend (h : BusyAt S p b "SaveAlways" c w bs) (hq : q < bs.length) (k : ∀ S', BusyAt S' p b "SaveAlways" c w (bs.set q true) → SK (RP p b) S S' → R .non S') : dFn 3 B_SaveAlways__send_496d [.ref p, .int (q : Nat)] S R := by
  refine ⟨p, _, _, rfl, h.2.1, .head _, _, rfl, rfl, w_sasSend h mS2 hq fun S' h' k' => ?_⟩
  exact k S' h' k'
theorem w_alRecv {nt : D} (h : BusyAt S p b "SaveAlways" c w bs) (hq : q < bs.length) (kt : bs.getD q false = true → ∀ S', BusyAt S' p b "SaveAlways" c (w + 1) ((bs.set q false).set q true) → SK (RP p b) S S' → R (.bl true) S') (kf : bs.getD q false = false → ∀ S', BusyAt S' p b "SaveAlways" c w (bs.set q true) → SK (RP p b) S S' → R (.bl false) S') :
    dFn 5 B_SaveAlways__receive_2317 [.ref p, .int (q : Nat), nt] S R := by
  refine ⟨p, _, _, rfl, h.2.1, .head _, _, rfl, _, rfl, rfl, w_sasRecv h mS2 hq (fun e S' h' k' => ?_) fun e => ?_⟩
  · refine ⟨_, rfl, p, _, _, .ref b, rfl, h'.2.1, .head _, rfl, _, rfl, b, _, (q : Int), q, rfl, rfl, h'.2.2, ixnN' (by rw [List.length_map, List.length_set]; exact hq), ?_⟩
    rw [bls_set]
    exact ⟨_, rfl, kt e _ (h'.put _) (k'.trans (.put (.inr rfl)))⟩
  · refine ⟨_, rfl, p, _, _, .ref b, rfl, h.2.1, .head _, rfl, _, rfl, b, _, (q : Int), q, rfl, rfl, h.2.2, ixnN' (by rw [List.length_map]; exact hq), ?_⟩
    rw [bls_set]
    exact ⟨_, rfl, kf e _ (h.put _) (.put (.inr rfl))⟩
theorem NumAt.put (h : NumAt S p b c w ns) (ns' : List Int) : NumAt (S.put b (.lst (intsD ns'))) p b c w ns' := ⟨h.1, (Sto.ne h.1).trans h.2.1, Sto.same⟩
theorem w_roSave (h : NumAt S p b c w ns) (hq : q < ns.length) (k : ∀ S', NumAt S' p b c w (ns.set q (ns.getD q 0 + 1)) → SK (RP p b) S S' → R .non S') : dFn 2 B_Rounds__save_512a [.ref p, .int (q : Nat)] S R := by
  refine ⟨_, rfl, p, _, _, .ref b, rfl, h.2.1, .head _, rfl, _, rfl, b, _, q, _, rfl, rfl, h.2.2, ns_at hq, _, _, rfl, h.2.2, by rw [intsD_len]; exact hq, ?_⟩
  rw [intsD_set]
  exact k _ (h.put _) (.put (.inr rfl))
theorem w_roSend (h : NumAt S p b c w ns) (hq : q < ns.length) (k : R (.int (ns.getD q 0)) S) : dFn 2 B_Rounds__send_2628 [.ref p, .int (q : Nat)] S R := by
  exact ⟨_, rfl, p, _, _, .ref b, rfl, h.2.1, .head _, rfl, _, rfl, _, (q : Int), _, seqOf_lst h.2.2, rfl, atI_nat (ns_at hq), k⟩
theorem w_roRecv {n : Int} (h : NumAt S p b c w ns) (hq : q < ns.length) (kt : ns.getD q 0 < n → ∀ S', NumAt S' p b c (w + 1) (ns.set q n) → SK (RP p b) S S' → R (.bl true) S') (kf : ¬ ns.getD q 0 < n → R (.bl false) S) :
    dFn 4 B_Rounds__receive_9908 [.ref p, .int (q : Nat), .int n] S R := by
  refine ⟨_, rfl, _, rfl, p, _, _, .ref b, rfl, h.2.1, .head _, rfl, _, rfl, _, (q : Int), _, seqOf_lst h.2.2, rfl, atI_nat (ns_at hq), ?_⟩
  refine ⟨_, rfl, _, rfl, iteB (fun e => ?_) (fun e => ?_)⟩
  · have e' := of_decide_eq_true (show decide (ns.getD q 0 < n) = true from e)
    refine ⟨_, rfl, p, _, _, (w : Int), rfl, h.2.1, .head _, rfl, (1 : Int), _, rfl, h.2.1, rfl, ?_⟩
    have h2 : NumAt (S.put p (.ins "Rounds" [("processes", .int (c : Nat)), ("wanted", .int ((w + 1 : Nat) : Int)), ("numbers", .ref b)])) p b c (w + 1) ns := ⟨h.1, Sto.same, (Sto.ne (Ne.symm h.1)).trans h.2.2⟩
    have sk2 : SK (RP p b) S (S.put p (.ins "Rounds" [("processes", .int (c : Nat)), ("wanted", .int ((w + 1 : Nat) : Int)), ("numbers", .ref b)])) := .put (.inl rfl)
    rw [putW]
    have e1 : (w : Int) + 1 = ((w + 1 : Nat) : Int) := by omega
    dsimp only
    rw [e1]
    generalize S.put p (.ins "Rounds" [("processes", .int (c : Nat)), ("wanted", .int ((w + 1 : Nat) : Int)), ("numbers", .ref b)]) = S2 at h2 sk2 ⊢
    refine ⟨_, rfl, _, rfl, p, _, _, .ref b, rfl, h2.2.1, .head _, rfl, _, rfl, b, _, (q : Int), q, rfl, rfl, h2.2.2, ixnN' (by rw [intsD_len]; exact hq), ?_⟩
    rw [intsD_set]
    have ee : (decide (ns.getD q 0 < n)) = true := e
    refine ⟨_, rfl, ?_⟩
    show R (.bl (decide (ns.getD q 0 < n))) _
    rw [ee]
    exact kt e' _ (h2.put _) (sk2.trans (.put (.inr rfl)))
  · have ee : (decide (ns.getD q 0 < n)) = false := e
    refine ⟨_, rfl, ?_⟩
    show R (.bl (decide (ns.getD q 0 < n))) _
    rw [ee]
    exact kf (of_decide_eq_false ee)
abbrev Msave : List (Str × DRC) := [("Rule", dFn 2 B_Rule__save_1a8c), ("SaveAfterSend", dFn 2 B_SaveAfterSend__save_1876), ("SaveAlways", dFn 3 B_SaveAlways__save_ec49), ("Rounds", dFn 2 B_Rounds__save_512a)]
abbrev Msend : List (Str × DRC) := [("Rule", dFn 2 B_Rule__send_4f02), ("SaveAfterSend", dFn 2 B_SaveAfterSend__send_b8d5), ("SaveAlways", dFn 3 B_SaveAlways__send_496d), ("Rounds", dFn 2 B_Rounds__send_2628)]
abbrev Mrecv : List (Str × DRC) := [("Rule", dFn 3 B_Rule__receive_a200), ("SaveAfterSend", dFn 4 B_SaveAfterSend__receive_3625), ("SaveAlways", dFn 5 B_SaveAlways__receive_2317), ("Rounds", dFn 4 B_Rounds__receive_9908)]
theorem w_saveM {kk : RK} (h : RuleAt S p b c kk st) (ok : st.ok c) (hq : q < c) (k : ∀ S', RuleAt S' p b c kk (saveK kk q st) → SK (RP p b) S S' → R .non S') :
    ∃ cn r, (cn, r) ∈ Msave ∧ ∃ fs, S p = some (.ins cn fs) ∧ fs.lookup ("save" : Str) = none ∧ r [.ref p, .int (q : Nat)] S R := by
  cases kk with
  | none => exact ⟨_, _, .head _, _, h.2, rfl, k S h (.refl S)⟩
  | sent => exact ⟨_, _, .tail _ (.head _), _, h.2.1, rfl, w_sasSave h mS1 (by rw [ok.1]; exact hq) k⟩
  | always => exact ⟨_, _, .tail _ (.tail _ (.head _)), _, h.2.1, rfl, w_alSave h (by rw [ok.1]; exact hq) k⟩
  | rounds => exact ⟨_, _, .tail _ (.tail _ (.tail _ (.head _))), _, h.2.1, rfl, w_roSave h (by rw [ok.2]; exact hq) k⟩
theorem w_sendM {kk : RK} (h : RuleAt S p b c kk st) (ok : st.ok c) (hq : q < c) (k : ∀ S', RuleAt S' p b c kk (sendK kk q st) → SK (RP p b) S S' → R (noteD (noteK kk q st)) S') :
    ∃ cn r, (cn, r) ∈ Msend ∧ ∃ fs, S p = some (.ins cn fs) ∧ fs.lookup ("send" : Str) = none ∧ r [.ref p, .int (q : Nat)] S R := by
  cases kk with
  | none => exact ⟨_, _, .head _, _, h.2, rfl, k S h (.refl S)⟩
  | sent => exact ⟨_, _, .tail _ (.head _), _, h.2.1, rfl, w_sasSend h mS1 (by rw [ok.1]; exact hq) k⟩
  | always => exact ⟨_, _, .tail _ (.tail _ (.head _)), _, h.2.1, rfl, w_alSend h (by rw [ok.1]; exact hq) k⟩
  | rounds => exact ⟨_, _, .tail _ (.tail _ (.tail _ (.head _))), _, h.2.1, rfl, w_roSend h (by rw [ok.2]; exact hq) (k S h (.refl S))⟩
/-- what the note must be for the rule: a number for Rounds -/
def NoteOk : RK → Option Int → Prop
  | .rounds, n => n.isSome = true
  | _, _ => True
theorem w_recvM {kk : RK} {n : Option Int} (h : RuleAt S p b c kk st) (ok : st.ok c) (hq : q < c) (hn : NoteOk kk n) (k : ∀ S', RuleAt S' p b c kk (recvK kk q n st) → SK (RP p b) S S' → R (.bl (mustK kk q n st)) S') :
    ∃ cn r, (cn, r) ∈ Mrecv ∧ ∃ fs, S p = some (.ins cn fs) ∧ fs.lookup ("receive" : Str) = none ∧ r [.ref p, .int (q : Nat), noteD n] S R := by
  cases kk with
  | none => exact ⟨_, _, .head _, _, h.2, rfl, k S h (.refl S)⟩
  | sent =>
    refine ⟨_, _, .tail _ (.head _), _, h.2.1, rfl, w_sasRecv h mS1 (by rw [ok.1]; exact hq) (fun e S' h' k' => ?_) fun e => ?_⟩
    · have z := k S'
      unfold recvK mustK at z
      dsimp only at z
      rw [e, if_pos rfl] at z
      exact z h' k'
    · have z := k S
      unfold recvK mustK at z
      dsimp only at z
      rw [e, if_neg Bool.false_ne_true] at z
      exact z h (.refl S)
  | always =>
    refine ⟨_, _, .tail _ (.tail _ (.head _)), _, h.2.1, rfl, w_alRecv h (by rw [ok.1]; exact hq) (fun e S' h' k' => ?_) fun e S' h' k' => ?_⟩
    · have z := k S'
      unfold recvK mustK at z
      dsimp only at z
      rw [e, if_pos rfl] at z
      exact z h' k'
    · have z := k S'
      unfold recvK mustK at z
      dsimp only at z
      rw [e, if_neg Bool.false_ne_true] at z
      exact z h' k'
  | rounds =>
    obtain ⟨i, rfl⟩ := Option.isSome_iff_exists.mp hn
    refine ⟨_, _, .tail _ (.tail _ (.tail _ (.head _))), _, h.2.1, rfl, w_roRecv h (by rw [ok.2]; exact hq) (fun e S' h' k' => ?_) fun e => ?_⟩
    · have z := k S'
      unfold recvK mustK at z
      dsimp only at z
      rw [if_pos (show st.ns.getD q 0 < (some i).getD 0 from e), decide_eq_true (show st.ns.getD q 0 < (some i).getD 0 from e)] at z
      exact z h' k'
    · have z := k S
      unfold recvK mustK at z
      dsimp only at z
      rw [if_neg (show ¬ st.ns.getD q 0 < (some i).getD 0 from e), decide_eq_false (show ¬ st.ns.getD q 0 < (some i).getD 0 from e)] at z
      exact z h (.refl S)
theorem w_ruleInit {cn : Str} (hm : cn ∈ (["Rule", "SaveAfterSend", "SaveAlways", "Rounds"] : List Str)) (h : S p = some (.ins cn [])) (k : ∀ S', S' p = some (.ins cn [("processes", .int (c : Nat)), ("wanted", .int ((0 : Nat) : Int))]) → SK (fun a => a = p) S S' → R .non S') :
    dFn 2 B_Rule____init___2563 [.ref p, .int (c : Nat)] S R := by
  refine ⟨_, rfl, _, rfl, p, cn, _, rfl, h, hm, rfl, ?_⟩
  refine ⟨_, rfl, p, cn, _, rfl, Sto.same, hm, rfl, k _ ?_ ((SK.put (P := fun a => a = p) rfl).trans (SK.put (P := fun a => a = p) rfl))⟩
  rw [Sto.same]
  rfl
theorem putB (a x v : D) : putFD "busy" v [(("processes" : Str), a), (("wanted" : Str), x)] = [(("processes" : Str), a), (("wanted" : Str), x), (("busy" : Str), v)] := by
  unfold putFD
  rw [if_neg (by decide)]
  unfold putFD
  rw [if_neg (by decide)]
  rfl
theorem putN (a x v : D) : putFD "numbers" v [(("processes" : Str), a), (("wanted" : Str), x)] = [(("processes" : Str), a), (("wanted" : Str), x), (("numbers" : Str), v)] := by
  unfold putFD
  rw [if_neg (by decide)]
  unfold putFD
  rw [if_neg (by decide)]
  rfl
theorem w_sasInit {cn : Str} (hm : cn ∈ (["SaveAfterSend", "SaveAlways"] : List Str)) (c9 : c ≤ 1000) (h : S p = some (.ins cn [])) (k : ∀ b S', BusyAt S' p b cn c 0 (List.replicate c false) → SK (fun a => a = p) S S' → S b = none → R .non S') :
    dFn 3 B_SaveAfterSend____init___fcad [.ref p, .int (c : Nat)] S R := by
  have hm4 : cn ∈ (["Rule", "SaveAfterSend", "SaveAlways", "Rounds"] : List Str) := by
    cases hm with
    | head => exact .tail _ (.head _)
    | tail _ z => cases z with
      | head => exact .tail _ (.tail _ (.head _))
      | tail _ z => cases z
  refine ⟨p, cn, _, rfl, h, hm, _, rfl, rfl, w_ruleInit hm4 h fun S1 h1 k1 => ?_⟩
  refine ⟨rfl, fun q nq => ⟨_, rfl, _, Sto.same, by omega, by omega, by decide, fun b nb => ?_⟩⟩
  have pq : p ≠ q := fun z => by rw [← z, h1] at nq; cases nq
  have pb : p ≠ b := fun z => by rw [← z, Sto.ne pq, h1] at nb; cases nb
  have er : (List.replicate ((c : Nat) : Int).toNat [D.bl false]).flatten = (List.replicate c false).map D.bl := by
    rw [Int.toNat_natCast, flat_rep, List.map_replicate]
  rw [er]
  have h3 : ((S1.put q (.lst [D.bl false])).put b (.lst ((List.replicate c false).map D.bl))) p = _ := (Sto.ne pb).trans ((Sto.ne pq).trans h1)
  refine ⟨_, rfl, p, cn, _, rfl, h3, hm, rfl, ?_⟩
  rw [putB]
  have nbS : S1 b = none := by
    by_cases z : b = q
    · rw [z]; exact nq
    · rw [Sto.ne z] at nb; exact nb
  have nbS0 : S b = none := by
    cases z : S b with
    | none => rfl
    | some o => rw [k1 _ _ (Ne.symm pb) z] at nbS; cases nbS
  refine k b _ ⟨pb, Sto.same, (Sto.ne (Ne.symm pb)).trans Sto.same⟩ (k1.trans ((SK.new nq).trans ((SK.new nb).trans (.put rfl)))) nbS0
theorem w_roInit (c9 : c ≤ 1000) (h : S p = some (.ins "Rounds" [])) (k : ∀ b S', NumAt S' p b c 0 (List.replicate c 0) → SK (fun a => a = p) S S' → S b = none → R .non S') :
    dFn 3 B_Rounds____init___8e81 [.ref p, .int (c : Nat)] S R := by
  refine ⟨p, _, _, rfl, h, .head _, _, rfl, rfl, w_ruleInit (.tail _ (.tail _ (.tail _ (.head _)))) h fun S1 h1 k1 => ?_⟩
  refine ⟨rfl, fun q nq => ⟨_, rfl, _, Sto.same, by omega, by omega, by decide, fun b nb => ?_⟩⟩
  have pq : p ≠ q := fun z => by rw [← z, h1] at nq; cases nq
  have pb : p ≠ b := fun z => by rw [← z, Sto.ne pq, h1] at nb; cases nb
  have er : (List.replicate ((c : Nat) : Int).toNat [D.int 0]).flatten = intsD (List.replicate c 0) := by
    rw [Int.toNat_natCast, flat_rep]
    unfold intsD
    rw [List.map_replicate]
  rw [er]
  have h3 : ((S1.put q (.lst [D.int 0])).put b (.lst (intsD (List.replicate c 0)))) p = _ := (Sto.ne pb).trans ((Sto.ne pq).trans h1)
  refine ⟨_, rfl, p, _, _, rfl, h3, .head _, rfl, ?_⟩
  rw [putN]
  have nbS : S1 b = none := by
    by_cases z : b = q
    · rw [z]; exact nq
    · rw [Sto.ne z] at nb; exact nb
  have nbS0 : S b = none := by
    cases z : S b with
    | none => rfl
    | some o => rw [k1 _ _ (Ne.symm pb) z] at nbS; cases nbS
  refine k b _ ⟨pb, Sto.same, (Sto.ne (Ne.symm pb)).trans Sto.same⟩ (k1.trans ((SK.new nq).trans ((SK.new nb).trans (.put rfl)))) nbS0
def RK.name : RK → Str
  | .none => "none"
  | .sent => "sent"
  | .always => "always"
  | .rounds => "rounds"
/-- SK at a place that is new -/
theorem SK.newP {S S' : Sto} {p : Addr} {o : Ob} (np : S p = none) (k : SK (fun a => a = p) (S.put p o) S') : SG S S' := fun a u _ e => by
  have ap : a ≠ p := fun z => by rw [z, np] at e; cases e
  exact k a u ap ((Sto.ne ap).trans e)
theorem w_lawRule {kk : RK} (c9 : c ≤ 1000) (k : ∀ p b S', RuleAt S' p b c kk (rst0 c) → SG S S' → S p = none → S b = none → R (.ref p) S') : dFn 2 B_law_rule_b694 [.str kk.name, .int (c : Nat)] S R := by
  have nb : ∀ {p b : Addr} {o : Ob}, (S.put p o) b = none → S b = none := fun {p b o} h => by
    by_cases z : b = p
    · rw [z, Sto.same] at h; cases h
    · rw [Sto.ne z] at h; exact h
  cases kk with
  | none =>
    refine ⟨_, rfl, _, rfl, goT ⟨_, rfl, rfl, fun p np => w_ruleInit (.head _) Sto.same fun S' h' k' => ⟨rfl, k p p S' ⟨rfl, h'⟩ (SK.newP np k') np np⟩⟩⟩
  | sent =>
    refine ⟨_, rfl, _, rfl, goF ⟨_, rfl, _, rfl, goT ⟨_, rfl, rfl, fun p np => w_sasInit mS1 c9 Sto.same fun b S' h' k' nb' => ⟨rfl, k p b S' h' (SK.newP np k') np (nb nb')⟩⟩⟩⟩
  | always =>
    refine ⟨_, rfl, _, rfl, goF ⟨_, rfl, _, rfl, goF ⟨_, rfl, _, rfl, goT ⟨_, rfl, rfl, fun p np => w_sasInit mS2 c9 Sto.same fun b S' h' k' nb' => ⟨rfl, k p b S' h' (SK.newP np k') np (nb nb')⟩⟩⟩⟩⟩
  | rounds =>
    refine ⟨_, rfl, _, rfl, goF ⟨_, rfl, _, rfl, goF ⟨_, rfl, _, rfl, goF ⟨_, rfl, rfl, fun p np => w_roInit c9 Sto.same fun b S' h' k' nb' => ⟨rfl, k p b S' h' (SK.newP np k') np (nb nb')⟩⟩⟩⟩⟩
end
end Sv
set_option maxHeartbeats 1000000
set_option autoImplicit false
namespace Sv
open PySem PySem.Spec PyProof.Rows L2
/-- what stands after some steps -/
structure Run where
  st : RSt
  rows : List (List Int)
  notes : List (Option Int)
def app (rows : List (List Int)) (p : Nat) (vs : List Int) : List (List Int) := rows.set p (rows.getD p [] ++ vs)
def noteAt (r : Run) (m : Int) : Option Int := r.notes.getD (m - 1).toNat none
def stepK (k : RK) (r : Run) : Act → Run
  | .save p => ⟨saveK k p r.st, app r.rows p [0], r.notes⟩
  | .send p => ⟨sendK k p r.st, app r.rows p [((r.notes.length + 1 : Nat) : Int)], r.notes ++ [noteK k p r.st]⟩
  | .recv p m => ⟨recvK k p (noteAt r m) r.st, app r.rows p ((if mustK k p (noteAt r m) r.st = true then [0] else []) ++ [0 - m]), r.notes⟩
def run0 (c : Nat) : Run := ⟨rst0 c, List.replicate c [], []⟩
def runK (k : RK) (c : Nat) (as : List Act) : Run := as.foldl (stepK k) (run0 c)
theorem runK_snoc (k : RK) (c : Nat) (as : List Act) (a : Act) : runK k c (as ++ [a]) = stepK k (runK k c as) a := by
  unfold runK
  rw [List.foldl_append]
  rfl
theorem app_len (rows : List (List Int)) (p : Nat) (vs : List Int) : (app rows p vs).length = rows.length := List.length_set ..
theorem app_row {rows : List (List Int)} {p : Nat} {row : List Int} (h : rows[p]? = some row) (vs : List Int) : app rows p vs = rows.set p (row ++ vs) := by
  unfold app
  rw [List.getD_eq_getElem?_getD, h]
  rfl
theorem app_app {rows : List (List Int)} {p : Nat} (hp : p < rows.length) (vs ws : List Int) : app (app rows p vs) p ws = app rows p (vs ++ ws) := by
  unfold app
  have e : (rows.set p (rows.getD p [] ++ vs)).getD p [] = rows.getD p [] ++ vs := by
    rw [List.getD_eq_getElem?_getD, List.getElem?_set_self hp]
    rfl
  rw [e, List.set_set, List.append_assoc]
theorem notesOk_mem {kk : RK} {q : Nat} {st : RSt} : NoteOk kk (noteK kk q st) := by cases kk <;> first | rfl | trivial
/-- what a plan leads to -/
structure RunOk (k : RK) (c : Nat) (r : Run) (o : List (Int × Int)) (u n : Nat) : Prop where
  st : r.st.ok c
  nl : r.notes.length = u
  nok : ∀ x ∈ r.notes, NoteOk k x
  gr : ∃ j, j ≤ 2 * n ∧ Grown c names24 r.rows o u j
theorem RunOk.len {k : RK} {c : Nat} {r : Run} {o : List (Int × Int)} {u n : Nat} (h : RunOk k c r o u n) : r.rows.length = c := by
  obtain ⟨j, _, g⟩ := h.gr
  exact g.len
theorem noteAt_ok {k : RK} {c : Nat} {r : Run} {o : List (Int × Int)} {u n : Nat} {m : Int} (h : RunOk k c r o u n) (m1 : 1 ≤ m) (m2 : m ≤ (u : Int)) : r.notes[(m - 1).toNat]? = some (noteAt r m) ∧ NoteOk k (noteAt r m) := by
  have hl : (m - 1).toNat < r.notes.length := by rw [h.nl]; omega
  have e : r.notes[(m - 1).toNat]? = some (noteAt r m) := by
    unfold noteAt
    rw [List.getD_eq_getElem?_getD, List.getElem?_eq_getElem hl]
    rfl
  exact ⟨e, h.nok _ (List.mem_of_getElem? e)⟩
theorem Plan.run {k : RK} {c : Nat} {as : List Act} {o : List (Int × Int)} {u : Nat} (h : Plan c as o u) : RunOk k c (runK k c as) o u as.length := by
  induction h with
  | nil => exact ⟨rst0_ok c, rfl, fun x hx => (nomatch hx), 0, Nat.zero_le _, .start⟩
  | @save as o u p g hp ih =>
    obtain ⟨j, hj, gr⟩ := ih.gr
    have hl := gr.len
    have hr : (runK k c as).rows[p]? = some (runK k c as).rows[p] := List.getElem?_eq_getElem (by omega)
    rw [runK_snoc]
    refine ⟨saveK_ok ih.st, ih.nl, ih.nok, j + 1, by rw [List.length_append]; simp; omega, ?_⟩
    show Grown c names24 (app _ p [0]) o u (j + 1)
    rw [app_row hr]
    exact .save gr hr
  | @send as o u p g hp hu ih =>
    obtain ⟨j, hj, gr⟩ := ih.gr
    have hl := gr.len
    have hr : (runK k c as).rows[p]? = some (runK k c as).rows[p] := List.getElem?_eq_getElem (by omega)
    rw [runK_snoc]
    refine ⟨sendK_ok ih.st, by show ((runK k c as).notes ++ [_]).length = _; rw [List.length_append, ih.nl]; rfl, fun x hx => ?_, j + 1, by rw [List.length_append]; simp; omega, ?_⟩
    · rcases List.mem_append.mp hx with z | z
      · exact ih.nok x z
      · rw [List.mem_singleton.mp z]; exact notesOk_mem
    · show Grown c names24 (app _ p [(((runK k c as).notes.length + 1 : Nat) : Int)]) _ (u + 1) (j + 1)
      rw [app_row hr, ih.nl]
      exact .send gr hr (names24_at hu)
  | @recv as o u p j' m q g hp hj' hq ih =>
    obtain ⟨j, hj, gr⟩ := ih.gr
    have hl := gr.len
    have hpl : p < (runK k c as).rows.length := by omega
    have hr : (runK k c as).rows[p]? = some (runK k c as).rows[p] := List.getElem?_eq_getElem hpl
    rw [runK_snoc]
    refine ⟨recvK_ok ih.st, ih.nl, ih.nok, ?_⟩
    show ∃ j, _ ∧ Grown c names24 (app _ p ((if mustK k p (noteAt (runK k c as) m) (runK k c as).st = true then [0] else []) ++ [0 - m])) _ u j
    by_cases e : mustK k p (noteAt (runK k c as) m) (runK k c as).st = true
    · rw [if_pos e, ← app_app hpl]
      have g2 : Grown c names24 (app (runK k c as).rows p [0]) o u (j + 1) := by rw [app_row hr]; exact .save gr hr
      have hpl2 : p < (app (runK k c as).rows p [0]).length := by rw [app_len]; exact hpl
      have hr2 : (app (runK k c as).rows p [0])[p]? = some (app (runK k c as).rows p [0])[p] := List.getElem?_eq_getElem hpl2
      refine ⟨j + 2, by rw [List.length_append]; simp; omega, ?_⟩
      rw [app_row hr2]
      exact .recv g2 hr2 hj' hq
    · rw [if_neg e, List.nil_append]
      refine ⟨j + 1, by rw [List.length_append]; simp; omega, ?_⟩
      rw [app_row hr]
      exact .recv gr hr hj' hq
theorem Plan.good {k : RK} {c : Nat} {as : List Act} {o : List (Int × Int)} {u many : Nat} (h : Plan c as o u) (c1 : 1 ≤ c) (cm : c ≤ many) : Good many (2 * as.length) (runK k c as).rows := by
  obtain ⟨j, hj, gr⟩ := (h.run (k := k)).gr
  exact ⟨c, names24, o, u, j, c1, cm, .refl _, gr, hj⟩
theorem meth1 {ms : List (Str × DRC)} {m : Str} {i j : Nat} {env : Env} {S : Sto} {R : DK} {p : Addr} {x : D} (h0 : env[i]? = some (some (.ref p))) (h1 : env[j]? = some (some x))
    (h : ∃ cn r, (cn, r) ∈ ms ∧ ∃ fs, S p = some (.ins cn fs) ∧ fs.lookup m = none ∧ r [.ref p, x] S R) : dMeth ms m 2 (dVar i) (dCons (dVar j) dNil) env S R := by
  obtain ⟨cn, r, hm, fs, hS, hl, hr⟩ := h
  exact ⟨cn, r, hm, _, h0, p, fs, rfl, hS, hl, _, h1, rfl, hr⟩
theorem meth2 {ms : List (Str × DRC)} {m : Str} {i : Nat} {env : Env} {S : Sto} {R : DK} {p : Addr} {x y : D} {t : DTA} (h0 : env[i]? = some (some (.ref p))) (ht : ∀ K : List D → Sto → Prop, K [x, y] S → t env S K)
    (h : ∃ cn r, (cn, r) ∈ ms ∧ ∃ fs, S p = some (.ins cn fs) ∧ fs.lookup m = none ∧ r [.ref p, x, y] S R) : dMeth ms m 3 (dVar i) t env S R := by
  obtain ⟨cn, r, hm, fs, hS, hl, hr⟩ := h
  exact ⟨cn, r, hm, _, h0, p, fs, rfl, hS, hl, ht _ ⟨rfl, hr⟩⟩
structure RunAt (S0 S : Sto) (p b r N : Addr) (as : List Addr) (k : RK) (c : Nat) (run : Run) : Prop where
  sk : SK (RP p b) S0 S
  ru : RuleAt S p b c k run.st
  ra : RAt S r as run.rows
  hN : S N = some (.lst (run.notes.map noteD))
/-- an append to a row -/
theorem app_go {S : Sto} {r : Addr} {as : List Addr} {rows : List (List Int)} {q : Nat} {e : DTE} {v : Int} {env : Env} {R : DK} (ra : RAt S r as rows) (hq : q < rows.length) (h2 : env[2]? = some (some (.ref r))) (h6 : env[6]? = some (some (.int (q : Nat)))) (he : ∀ K : DK, K (.int v) S → e env S K)
    (hl : ∀ row ∈ rows, row.length ≤ 1000)
    (k : ∀ a, a ∈ as → RAt (S.put a (.lst (intsD (rows.getD q []) ++ [.int v]))) r as (app rows q [v]) → R .non (S.put a (.lst (intsD (rows.getD q []) ++ [.int v])))) :
    dMtq "list" mAppend (dBin rIxq (dVar 2) (dVar 6)) (dCons e dNil) env S R := by
  obtain ⟨a, row, ha, hr, hd, hS, hm⟩ := ra.at hq
  have er : rows.getD q [] = row := by rw [List.getD_eq_getElem?_getD, hr]; rfl
  have hlr := hl row (List.mem_of_getElem? hr)
  refine ⟨_, h2, _, h6, _, (q : Int), _, seqOf_lst ra.lst, rfl, atI_nat hd, ⟨rfl, _, seqOf_lst hS, noTup _⟩, he _ ⟨a, _, _, rfl, rfl, hS, by rw [intsD_len]; omega, ?_⟩⟩
  rw [er] at k
  have h := ra.put ha hr [v]
  have e2 : intsD [v] = [D.int v] := rfl
  rw [e2, ← app_row hr] at h
  exact k a hm h
theorem w_runK {p b : Addr} {kk : RK} {c : Nat} {as : List Act} {o : List (Int × Int)} {u : Nat} {S0 : Sto} {R : DK} (h : RuleAt S0 p b c kk (rst0 c)) (c1 : 1 ≤ c) (c6 : c ≤ 6) (pl : Plan c as o u) (al : as.length ≤ 100)
    (k : ∀ S', RuleAt S' p b c kk (runK kk c as).st → SK (RP p b) S0 S' → R (.tup (rowsD (runK kk c as).rows)) S') : dFn 9 B_run_plan_ed6f [.ref p, .tup (as.map actD)] S0 R := by
  obtain ⟨cn, fs, hp, hcn, hfs⟩ := h.proc
  obtain ⟨ob, hb⟩ := h.b
  refine ⟨_, rfl, p, cn, fs, _, rfl, hp, hcn, hfs, (c : Int), rfl, by omega, by omega, lc_rows (n := c) (by rw [rg_len]; omega) (fun _ => True.intro) (by omega) fun r rs S1 sg1 ra1 nf1 => ?_⟩
  refine ⟨rfl, fun N nN => ?_⟩
  have Nr : N ≠ r := fun z => by rw [z, ra1.lst] at nN; cases nN
  have Ns : N ∉ rs := fun z => by
    obtain ⟨i, hi⟩ := List.mem_iff_getElem?.mp z
    have hl : i < (List.replicate c ([] : List Int)).length := by rw [← ra1.len]; exact (List.getElem?_eq_some_iff.mp hi).1
    have := ra1.row i N _ hi (List.getElem?_eq_getElem hl)
    rw [this] at nN; cases nN
  have nN0 : S0 N = none := by
    cases z : S0 N with
    | none => rfl
    | some o => rw [sg1 _ _ (fun z => z) z] at nN; cases nN
  have nf : ∀ a, a = r ∨ a = N ∨ a ∈ rs → S0 a = none := fun a ha => by
    rcases ha with z | z | z
    · exact nf1 a (.inl z)
    · rw [z]; exact nN0
    · exact nf1 a (.inr z)
  have off : ∀ a, RP p b a → a ≠ r ∧ a ≠ N ∧ a ∉ rs := fun a ha => by
    have hs : ∃ o, S0 a = some o := by rcases ha with rfl | rfl <;> exact ⟨_, by assumption⟩
    obtain ⟨o, hs⟩ := hs
    exact ⟨fun z => (by rw [nf a (.inl z)] at hs; cases hs), fun z => (by rw [nf a (.inr (.inl z))] at hs; cases hs), fun z => (by rw [nf a (.inr (.inr z))] at hs; cases hs)⟩
  have sgN : SG S1 (S1.put N (.lst [])) := .new nN
  have v0 : RunAt S0 (S1.put N (.lst [])) p b r N rs kk c (run0 c) := ⟨SG.sk (sg1.trans sgN), h.keep (sg1.trans sgN) (fun z => z) (fun z => z), ra1.keepG sgN, Sto.same⟩
  generalize S1.put N (.lst []) = S2 at v0 ⊢
  refine ⟨_, rfl, _, rfl, fun i env S => i ≤ as.length ∧ ∃ (x4 x5 x6 x7 : Option D), env = [some (.ref p), some (.tup (as.map actD)), some (.ref r), some (.ref N), x4, x5, x6, x7, none] ∧ RunAt S0 S p b r N rs kk c (runK kk c (as.take i)), ⟨Nat.zero_le _, none, none, none, none, rfl, v0⟩, fun _ _ _ _ _ => True.intro, ?_, ?_⟩
  · rintro i d env S3 hd ⟨hi0, x4, x5, x6, x7, rfl, v3⟩
    have hd : (as.map actD)[i]? = some d := hd
    rw [List.getElem?_map] at hd
    obtain ⟨a, ha, rfl⟩ := Option.map_eq_some_iff.mp hd
    have hi : i < as.length := (List.getElem?_eq_some_iff.mp ha).1
    have ht : as.take (i + 1) = as.take i ++ [a] := by rw [List.take_add_one, ha]; rfl
    obtain ⟨o1, u1, pl1⟩ := pl.take i
    obtain ⟨o2, u2, pl2⟩ := pl.take (i + 1)
    have g1 := pl1.run (k := kk)
    rw [ht] at pl2
    have e3 : runK kk c (as.take (i + 1)) = stepK kk (runK kk c (as.take i)) a := by rw [ht, runK_snoc]
    generalize runK kk c (as.take i) = run at v3 g1 e3
    have rl := g1.len
    have big : ∀ row ∈ run.rows, row.length ≤ 800 := fun row hrow => by
      obtain ⟨j, hj, gr⟩ := g1.gr
      have h1 := gr.events
      obtain ⟨ix, hix⟩ := List.mem_iff_getElem?.mp hrow
      have h2 := len_le_sum hix
      have : (as.take i).length ≤ 100 := by rw [List.length_take]; omega
      omega
    have sto : ∀ {S' : Sto} {run' : Run} {a' : Addr} {ob : Ob}, a' ∈ rs → RunAt S0 S' p b r N rs kk c run' → ∀ rows', RAt (S'.put a' ob) r rs rows' → RunAt S0 (S'.put a' ob) p b r N rs kk c ⟨run'.st, rows', run'.notes⟩ := fun {S' run' a' ob} hm v rows' hra => by
      have na : S0 a' = none := nf a' (.inr (.inr hm))
      refine ⟨v.sk.own na, v.ru.keep (SK.put (P := fun x => x = a') rfl) (fun z => (off p (.inl rfl)).2.2 (z ▸ hm)) (fun z => (off b (.inr rfl)).2.2 (z ▸ hm)), hra, (Sto.ne fun z : N = a' => Ns (by rw [z]; exact hm)).trans v.hN⟩
    have rul : ∀ {S' S'' : Sto} {run' : Run} {st' : RSt}, RunAt S0 S' p b r N rs kk c run' → RuleAt S'' p b c kk st' → SK (RP p b) S' S'' → RunAt S0 S'' p b r N rs kk c ⟨st', run'.rows, run'.notes⟩ := fun {S' S'' run' st'} v hr sk =>
      ⟨v.sk.trans sk, hr, v.ra.keep sk fun a ha => ⟨(off a ha).1, (off a ha).2.2⟩, sk _ _ (fun z => (off N z).2.1 rfl) v.hN⟩
    have key := v3.ru.keep (S' := S3) (P := RP p b) (SK.refl S3)
    cases a with
    | save q =>
      have hq : q < c := by
        generalize hx : as.take i ++ [Act.save q] = xs at pl2
        cases pl2 with
        | nil => simp at hx
        | save g hp => obtain ⟨_, e⟩ := List.append_inj' hx rfl; cases e; exact hp
        | send g hp hu => obtain ⟨_, e⟩ := List.append_inj' hx rfl; cases e
        | recv g hp hj hq => obtain ⟨_, e⟩ := List.append_inj' hx rfl; cases e
      refine ⟨_, rfl, 2, rfl, ?_⟩
      show dUnp 2 _ (.tup (cutD [.str "save", .int (q : Nat)] none (some 2))) _ _ _
      rw [show cutD [D.str "save", .int (q : Nat)] none (some 2) = [.str "save", .int (q : Nat)] from rfl]
      refine ⟨_, rfl, .inl (.inl rfl), _, _, rfl, _, _, rfl, rfl, _, rfl, _, rfl, goT ?_⟩
      refine meth1 (p := p) rfl rfl (w_saveM v3.ru g1.st hq fun S4 h4 k4 => ?_)
      have v4 := rul v3 h4 k4
      refine app_go (v := 0) v4.ra (by rw [rl]; exact hq) rfl rfl (fun K hK => hK) (fun row hr => by have := big row hr; omega) fun a' hm hra => ?_
      refine ⟨hi, _, _, _, _, rfl, ?_⟩
      rw [e3]
      exact sto hm v4 _ hra
    | send q =>
      have hq : q < c := by
        generalize hx : as.take i ++ [Act.send q] = xs at pl2
        cases pl2 with
        | nil => simp at hx
        | save g hp => obtain ⟨_, e⟩ := List.append_inj' hx rfl; cases e
        | send g hp hu => obtain ⟨_, e⟩ := List.append_inj' hx rfl; cases e; exact hp
        | recv g hp hj hq => obtain ⟨_, e⟩ := List.append_inj' hx rfl; cases e
      refine ⟨_, rfl, 2, rfl, ?_⟩
      show dUnp 2 _ (.tup (cutD [.str "send", .int (q : Nat)] none (some 2))) _ _ _
      rw [show cutD [D.str "send", .int (q : Nat)] none (some 2) = [.str "send", .int (q : Nat)] from rfl]
      refine ⟨_, rfl, .inl (.inl rfl), _, _, rfl, _, _, rfl, rfl, _, rfl, _, rfl, goF ⟨_, rfl, _, rfl, goT ?_⟩⟩
      refine ⟨_, rfl, ⟨rfl, _, seqOf_lst v3.hN, noTup _⟩, ?_⟩
      refine meth1 (p := p) rfl rfl (w_sendM v3.ru g1.st hq fun S4 h4 k4 => ?_)
      have v4 := rul v3 h4 k4
      have hu := g1.nl
      have u24 := pl1.u24
      refine ⟨N, _, _, rfl, rfl, v4.hN, by rw [List.length_map]; show run.notes.length < _; omega, ?_⟩
      have v5 : RunAt S0 (S4.put N (.lst (run.notes.map noteD ++ [noteD (noteK kk q run.st)]))) p b r N rs kk c ⟨sendK kk q run.st, run.rows, run.notes ++ [noteK kk q run.st]⟩ := by
        refine ⟨v4.sk.own nN0, v4.ru.keep (SK.put (P := fun x => x = N) rfl) (off p (.inl rfl)).2.1 (off b (.inr rfl)).2.1, v4.ra.putNe Nr Ns, ?_⟩
        rw [Sto.same, List.map_append]
        rfl
      generalize S4.put N (.lst (run.notes.map noteD ++ [noteD (noteK kk q run.st)])) = S5 at v5 ⊢
      refine app_go (v := ((run.notes.length + 1 : Nat) : Int)) v5.ra (by rw [rl]; exact hq) rfl rfl (fun K hK => ⟨_, rfl, _, _, rfl, seqOf_lst v5.hN, ?_⟩) (fun row hr => by have := big row hr; omega) fun a' hm hra => ?_
      · rw [List.length_map, List.length_append]
        exact hK
      refine ⟨hi, _, _, _, _, rfl, ?_⟩
      rw [e3]
      exact sto hm v5 _ hra
    | recv q m =>
      obtain ⟨hq, m1, m2⟩ : q < c ∧ 1 ≤ m ∧ m ≤ (u1 : Int) := by
        have pm : ∀ {o' : List (Int × Int)} {u' : Nat}, Plan c (as.take i) o' u' → u' = u1 := fun {o' u'} g => ((g.run (k := kk)).nl.symm.trans ((pl1.run (k := kk)).nl))
        generalize hx : as.take i ++ [Act.recv q m] = xs at pl2
        cases pl2 with
        | nil => simp at hx
        | save g hp => obtain ⟨_, e⟩ := List.append_inj' hx rfl; cases e
        | send g hp hu => obtain ⟨_, e⟩ := List.append_inj' hx rfl; cases e
        | recv g hp hj hq =>
          obtain ⟨e1, e⟩ := List.append_inj' hx rfl
          cases e
          subst e1
          have := g.mem _ (List.mem_of_getElem? hj)
          rw [pm g] at this
          exact ⟨hp, this⟩
      obtain ⟨hna, hnk⟩ := noteAt_ok g1 m1 m2
      refine ⟨_, rfl, 2, rfl, ?_⟩
      show dUnp 2 _ (.tup (cutD [.str "receive", .int (q : Nat), .int m] none (some 2))) _ _ _
      rw [show cutD [D.str "receive", .int (q : Nat), .int m] none (some 2) = [.str "receive", .int (q : Nat)] from rfl]
      refine ⟨_, rfl, .inl (.inl rfl), _, _, rfl, _, _, rfl, rfl, _, rfl, _, rfl, goF ⟨_, rfl, _, rfl, goF ⟨_, rfl, _, 2, _, rfl, rfl, rfl, ?_⟩⟩⟩
      have hna' : (run.notes.map noteD)[(m - 1).toNat]? = some (noteD (noteAt run m)) := by rw [List.getElem?_map, hna]; rfl
      refine meth2 (p := p) (x := .int (q : Nat)) (y := noteD (noteAt run m)) rfl (fun K hK => ⟨_, rfl, _, rfl, _, rfl, _, m - 1, _, seqOf_lst v3.hN, rfl, ?_, hK⟩) (w_recvM v3.ru g1.st hq hnk fun S4 h4 k4 => ?_)
      · have e : (m - 1 : Int) = (((m - 1).toNat : Nat) : Int) := by omega
        rw [e]
        have e' : ((((m - 1).toNat : Nat) : Int)).toNat = (m - 1).toNat := by omega
        exact atI_nat hna'
      have v4 := rul v3 h4 k4
      refine ⟨_, rfl, iteB (fun e => ?_) (fun e => ?_)⟩
      · refine app_go (v := 0) v4.ra (by rw [rl]; exact hq) rfl rfl (fun K hK => hK) (fun row hr => by have := big row hr; omega) fun a' hm hra => ?_
        have v5 := sto hm v4 _ hra
        generalize S4.put a' (.lst (intsD (run.rows.getD q []) ++ [D.int 0])) = S5 at v5 hra ⊢
        refine app_go (v := 0 - m) v5.ra (by show q < (app run.rows q [0]).length; rw [app_len, rl]; exact hq) rfl rfl (fun K hK => ⟨_, rfl, ?_⟩) (fun row hr => ?_) fun a'' hm' hra' => ?_
        · have e : (0 - m : Int) = -m := by omega
          rw [e] at hK
          exact hK
        · have hr : row ∈ app run.rows q [0] := hr
          unfold app at hr
          rcases List.mem_or_eq_of_mem_set hr with z | z
          · have := big row z; omega
          · rw [z, List.length_append]
            have hql : q < run.rows.length := by omega
            have : (run.rows.getD q []).length ≤ 800 := big _ (by rw [List.getD_eq_getElem?_getD, List.getElem?_eq_getElem hql]; exact List.getElem_mem hql)
            show _ + 1 ≤ 1000
            omega
        refine ⟨hi, _, _, _, _, rfl, ?_⟩
        rw [e3]
        have v6 := sto hm' v5 _ hra'
        have e7 : stepK kk run (.recv q m) = ⟨recvK kk q (noteAt run m) run.st, app (app run.rows q [0]) q [0 - m], run.notes⟩ := by
          unfold stepK
          dsimp only
          rw [if_pos e, app_app (by rw [rl]; exact hq)]
        rw [e7]
        exact v6
      · refine app_go (v := 0 - m) v4.ra (by rw [rl]; exact hq) rfl rfl (fun K hK => ⟨_, rfl, ?_⟩) (fun row hr => by have := big row hr; omega) fun a'' hm' hra' => ?_
        · have e : (0 - m : Int) = -m := by omega
          rw [e] at hK
          exact hK
        refine ⟨hi, _, _, _, _, rfl, ?_⟩
        rw [e3]
        have v6 := sto hm' v4 _ hra'
        have e7 : stepK kk run (.recv q m) = ⟨recvK kk q (noteAt run m) run.st, app run.rows q [0 - m], run.notes⟩ := by
          unfold stepK
          dsimp only
          rw [if_neg (by rw [e]; exact Bool.false_ne_true), List.nil_append]
        rw [e7]
        exact v6
  · rintro env S3 ⟨_, x4, x5, x6, x7, rfl, v3⟩
    have hlen : (⟨as.map actD, fun _ => True⟩ : Src).items.length = as.length := List.length_map ..
    rw [hlen, List.take_length] at v3
    have ra := v3.ra
    have rl := (pl.run (k := kk)).len
    refine ⟨_, rfl, _, ⟨_, ra.lst, rfl⟩, lc_mapE (List.zip rs (runK kk c as).rows) (fun x => D.ref x.1) ?_ (fun x => some (rowD x.2)) (by rw [List.length_zip]; omega) (fun S' sg => sg _ _ (fun z => z) ra.lst) (fun x hx S4 sg K Kn hk hn => ?_) fun y S4 ny sg4 hy => ?_⟩
    · show rs.map D.ref = _
      have e : (List.zip rs (runK kk c as).rows).map (fun x => D.ref x.1) = ((List.zip rs (runK kk c as).rows).map Prod.fst).map D.ref := by rw [List.map_map]; rfl
      rw [e, List.map_fst_zip (by rw [ra.len]; exact Nat.le_refl _)]
    · obtain ⟨ix, hix⟩ := List.mem_iff_getElem?.mp hx
      rw [List.getElem?_zip_eq_some] at hix
      have hrow := ra.row ix x.1 x.2 hix.1 hix.2
      exact turn_y ⟨_, rfl, _, _, rfl, seqOf_lst (sg _ _ (fun z => z) hrow), (noTup _).2, hk _ rfl _ (.refl _)⟩
    · have e : (List.zip rs (runK kk c as).rows).filterMap (fun x => some (rowD x.2)) = rowsD (runK kk c as).rows := by
        rw [fm_map]
        unfold rowsD
        have e : (List.zip rs (runK kk c as).rows).map (fun x => rowD x.2) = ((List.zip rs (runK kk c as).rows).map Prod.snd).map rowD := by rw [List.map_map]; rfl
        rw [e, List.map_snd_zip (by rw [ra.len]; exact Nat.le_refl _)]
      rw [e] at hy
      exact ⟨_, _, rfl, seqOf_lst hy, (noTup _).2, k S4 (v3.ru.keep sg4 (fun z => z) (fun z => z)) (v3.sk.trans sg4.sk)⟩
end Sv
set_option maxHeartbeats 400000
namespace Sv
open PySem L2
/-- the draws' state, at most n mixed draws so far -/
def Df (st big : Addr) (n : Nat) (S : Sto) : Prop := st ≠ big ∧ ∃ (bs : List Int) (a : Int) (t : Nat) (c : Int), t ≤ n ∧ S st = some (.lst [.ref big, .int a, .int (t : Int), .int c]) ∧ S big = some (.lst (intsD bs))
theorem Df.keepP {st big : Addr} {n : Nat} {S S' : Sto} {P : Addr → Prop} (h : Df st big n S) (k : SK P S S') (n1 : ¬ P st) (n2 : ¬ P big) : Df st big n S' := by
  obtain ⟨h1, bs, a, t, c, ht, h2, h3⟩ := h
  exact ⟨h1, bs, a, t, c, ht, k _ _ n1 h2, k _ _ n2 h3⟩
theorem Df.keep {st big : Addr} {n : Nat} {S S' : Sto} (h : Df st big n S) (k : SG S S') : Df st big n S' := h.keepP k (fun z => z) (fun z => z)
theorem Df.mono {st big : Addr} {n m : Nat} {S : Sto} (h : Df st big n S) (e : n ≤ m) : Df st big m S := by
  obtain ⟨h1, bs, a, t, c, ht, h2, h3⟩ := h
  exact ⟨h1, bs, a, t, c, by omega, h2, h3⟩
theorem Df.fresh {st big : Addr} {n : Nat} {S : Sto} (h : Df st big n S) {p : Addr} (z : S p = none) : p ≠ st ∧ p ≠ big := by
  obtain ⟨h1, bs, a, t, c, ht, h2, h3⟩ := h
  exact ⟨fun e => (by rw [e, h2] at z; cases z), fun e => (by rw [e, h3] at z; cases z)⟩
theorem Df.put {st big : Addr} {n : Nat} {S : Sto} (h : Df st big n S) {p : Addr} {o : Ob} (z : p ≠ st ∧ p ≠ big) : Df st big n (S.put p o) := by
  obtain ⟨h1, bs, a, t, c, ht, h2, h3⟩ := h
  exact ⟨h1, bs, a, t, c, ht, (Sto.ne (Ne.symm z.1)).trans h2, (Sto.ne (Ne.symm z.2)).trans h3⟩
theorem Df.free {st big : Addr} {n : Nat} {S0 S : Sto} (D : Df st big n S) (k : SK (DP st big) S0 S) {a : Addr} (z : S a = none) : S0 a = none := SK.free k z fun q => q.elim (D.fresh z).1 (D.fresh z).2
/-- a list whose items are tuples is none of the draws' own -/
theorem Df.off {st big : Addr} {n : Nat} {S : Sto} (h : Df st big n S) {p : Addr} {ds : List D} (e : S p = some (.lst ds)) (ht : ∀ d ∈ ds, ∃ xs, d = D.tup xs) (ne : ds ≠ []) : p ≠ st ∧ p ≠ big := by
  obtain ⟨h1, bs, a, t, c, _, h2, h3⟩ := h
  refine ⟨fun z => ?_, fun z => ?_⟩
  · subst z
    rw [h2] at e
    have e := (Ob.lst.inj (Option.some.inj e)).symm
    subst e
    obtain ⟨xs, hx⟩ := ht _ List.mem_cons_self
    cases hx
  · subst z
    rw [h3] at e
    have e := (Ob.lst.inj (Option.some.inj e)).symm
    subst e
    cases bs with
    | nil => exact ne rfl
    | cons b r =>
      obtain ⟨xs, hx⟩ := ht _ List.mem_cons_self
      cases hx
end Sv
set_option maxHeartbeats 1000000
namespace Sv
open PySem L2
structure RWf (S0 S : Sto) (st big r N W : Addr) (nm : List Int) (rows : List (List Int)) (o : List (Int × Int)) (u : Nat) : Prop where
  sk : SK (DP st big) S0 S
  hr : S r = some (.lst (rowsD rows))
  hN : S N = some (.lst (intsD (nm.drop u).reverse))
  hW : S W = some (.lst (o.map pairD))
theorem RWf.keep {S0 S S' : Sto} {st big r N W : Addr} {nm : List Int} {rows : List (List Int)} {o : List (Int × Int)} {u : Nat} (h : RWf S0 S st big r N W nm rows o u) (k : SK (DP st big) S S') (nd : ∀ a, a = r ∨ a = N ∨ a = W → a ≠ st ∧ a ≠ big) : RWf S0 S' st big r N W nm rows o u := by
  have nq : ∀ a, a = r ∨ a = N ∨ a = W → ¬ DP st big a := fun a ha => nDP (nd a ha)
  exact ⟨h.sk.trans k, k _ _ (nq _ (.inl rfl)) h.hr, k _ _ (nq _ (.inr (.inl rfl))) h.hN, k _ _ (nq _ (.inr (.inr rfl))) h.hW⟩
theorem RWf.keepG {S0 S S' : Sto} {st big r N W : Addr} {nm : List Int} {rows : List (List Int)} {o : List (Int × Int)} {u : Nat} (h : RWf S0 S st big r N W nm rows o u) (k : SG S S') : RWf S0 S' st big r N W nm rows o u :=
  ⟨h.sk.trans k.sk, k _ _ (fun z => z) h.hr, k _ _ (fun z => z) h.hN, k _ _ (fun z => z) h.hW⟩
end Sv
set_option maxHeartbeats 800000
set_option autoImplicit false
set_option maxHeartbeats 1000000
namespace Sv
open PySem L2
/-- before each receipt that stands where g tells so a save; b: a sending stands before without a save behind it -/
def insF (g : Bool → Bool) : Bool → List Int → List Int
  | _, [] => []
  | b, e :: r => (if decide (e < 0) && g b then [0] else []) ++ e :: insF g (decide (0 < e)) r
def lastF : Bool → List Int → Bool
  | b, [] => b
  | _, e :: r => lastF (decide (0 < e)) r
theorem insF_snoc (g : Bool → Bool) (e : Int) : ∀ (b : Bool) (r : List Int), insF g b (r ++ [e]) = insF g b r ++ (if decide (e < 0) && g (lastF b r) then [0] else []) ++ [e]
  | b, [] => by
    show (if decide (e < 0) && g b then [0] else []) ++ e :: [] = [] ++ (if decide (e < 0) && g b then [0] else []) ++ [e]
    rw [List.nil_append]
  | b, x :: r => by
    show (if decide (x < 0) && g b then [0] else []) ++ x :: insF g (decide (0 < x)) (r ++ [e]) = ((if decide (x < 0) && g b then [0] else []) ++ x :: insF g (decide (0 < x)) r) ++ (if decide (e < 0) && g (lastF (decide (0 < x)) r) then [0] else []) ++ [e]
    rw [insF_snoc g e (decide (0 < x)) r]
    simp only [List.append_assoc, List.cons_append]
def insR (g : Bool → Bool) (rows : List (List Int)) : List (List Int) := rows.map (insF g false)
theorem insR_at {g : Bool → Bool} {rows : List (List Int)} {p : Nat} {row : List Int} (h : rows[p]? = some row) : (insR g rows)[p]? = some (insF g false row) := by
  unfold insR
  rw [List.getElem?_map, h]
  rfl
theorem insR_set {g : Bool → Bool} {rows : List (List Int)} {p : Nat} {row : List Int} : insR g (rows.set p row) = (insR g rows).set p (insF g false row) := by
  unfold insR
  rw [List.map_set]
theorem Grown.opens_u {c : Nat} {nm : List Int} {r : List (List Int)} {o : List (Int × Int)} {u k : Nat} (h : Grown c nm r o u k) : o.length ≤ u ∧ 2 * u ≤ k + o.length := by
  induction h with
  | start => exact ⟨Nat.le_refl _, Nat.le_refl _⟩
  | skip _ ih => exact ⟨ih.1, by omega⟩
  | save _ _ ih => exact ⟨ih.1, by omega⟩
  | send _ _ _ ih =>
    rw [List.length_append]
    show _ + 1 ≤ _ ∧ 2 * (_ + 1) ≤ _ + (_ + 1)
    exact ⟨by omega, by omega⟩
  | recv _ _ hj _ ih =>
    have := (List.getElem?_eq_some_iff.mp hj).1
    rw [List.length_eraseIdx, if_pos this]
    exact ⟨by omega, by omega⟩
theorem Grown.ins (g : Bool → Bool) {c : Nat} {nm : List Int} {r : List (List Int)} {o : List (Int × Int)} {u k : Nat} (hp : nm.Perm names24) (h : Grown c nm r o u k) : ∃ k', k' + o.length ≤ k + u ∧ Grown c nm (insR g r) o u k' := by
  induction h with
  | start =>
    refine ⟨0, Nat.le_refl _, ?_⟩
    have : insR g (List.replicate c []) = List.replicate c [] := by
      unfold insR
      rw [List.map_replicate]
      rfl
    rw [this]
    exact .start
  | skip h ih =>
    obtain ⟨k', h1, h2⟩ := ih
    exact ⟨k', by omega, h2⟩
  | @save r o u k p row h hr ih =>
    obtain ⟨k', h1, h2⟩ := ih
    refine ⟨k' + 1, by omega, ?_⟩
    rw [insR_set, insF_snoc, decide_eq_false (by decide : ¬ (0 : Int) < 0), Bool.false_and, if_neg Bool.false_ne_true, List.append_nil]
    exact .save h2 (insR_at hr)
  | @send r o u k p row m h hr hm ih =>
    obtain ⟨k', h1, h2⟩ := ih
    have m1 := name_pos hp (List.mem_of_getElem? hm)
    refine ⟨k' + 1, by rw [List.length_append]; show k' + 1 + (o.length + 1) ≤ _; omega, ?_⟩
    rw [insR_set, insF_snoc, decide_eq_false (by omega : ¬ m < 0), Bool.false_and, if_neg Bool.false_ne_true, List.append_nil]
    exact .send h2 (insR_at hr) hm
  | @recv r o u k row j m q p h hr hj hq ih =>
    obtain ⟨k', h1, h2⟩ := ih
    have hjl := (List.getElem?_eq_some_iff.mp hj).1
    have hpl := (List.getElem?_eq_some_iff.mp hr).1
    rw [insR_set, insF_snoc]
    cases hb : (decide (0 - m < 0) && g (lastF false row)) with
    | false =>
      rw [if_neg Bool.false_ne_true, List.append_nil]
      exact ⟨k' + 1, by rw [List.length_eraseIdx, if_pos hjl]; omega, .recv h2 (insR_at hr) hj hq⟩
    | true =>
      rw [if_pos rfl]
      refine ⟨k' + 1 + 1, by rw [List.length_eraseIdx, if_pos hjl]; omega, ?_⟩
      have g1 := Grown.save h2 (insR_at hr)
      have hr2 : ((insR g r).set p (insF g false row ++ [0]))[p]? = some (insF g false row ++ [0]) := List.getElem?_set_self (by unfold insR; rw [List.length_map]; exact hpl)
      have g2 := Grown.recv g1 hr2 hj hq
      rw [List.set_set] at g2
      exact g2
theorem Good.ins {many most : Nat} {rows : List (List Int)} (h : Good many most rows) (g : Bool → Bool) : Good many (most + most / 2) (insR g rows) := by
  obtain ⟨c, nm, o, u, k, h1, h2, h3, h4, h5⟩ := h
  obtain ⟨k', g1, g2⟩ := h4.ins g h3
  have := h4.opens_u
  exact ⟨c, nm, o, u, k', h1, h2, h3, g2, by omega⟩
end Sv
set_option maxHeartbeats 400000
set_option autoImplicit false
namespace Sv
open PySem PySem.Spec PyProof.Rows L2
/-- in this row m is received and t stands behind the receipt -/
def cau1 (m t : Int) (row : List Int) : Bool := decide (-m ∈ row) && decide (t ∈ row.drop (row.idxOf (-m)))
def cauB (rows : List (List Int)) (m t : Int) : Bool := (rows.map (cau1 m t)).any id
end Sv
set_option maxHeartbeats 400000
set_option autoImplicit false
namespace Sv
open PySem PySem.Spec PyProof.Rows L2
/-- for each process the number of its first state from which no way leads -/
def IsAp (rows : List (List Int)) (nx : Int → Int → Bool) (s : Nat × Nat) (ap : List Nat) : Prop :=
  ap.length = rows.length ∧ ∀ (p n x : Nat), ap[p]? = some x → (n < x ↔ ∃ (m : Int) (k c : Nat), Dz rows nx (rbB rows s) c m ∧ hap rows m = some (p, k) ∧ n ≤ k)
theorem IsAp.unique {rows : List (List Int)} {nx : Int → Int → Bool} {s : Nat × Nat} {a b : List Nat} (h : IsAp rows nx s a) (g : IsAp rows nx s b) : a = b := by
  refine List.ext_getElem (h.1.trans g.1.symm) fun i h1 h2 => ?_
  have e1 := List.getElem?_eq_getElem h1
  have e2 := List.getElem?_eq_getElem h2
  generalize a[i] = x at e1
  generalize b[i] = y at e2
  have key : ∀ n, n < x ↔ n < y := fun n => (h.2 i n x e1).trans (g.2 i n y e2).symm
  have k1 := key x
  have k2 := key y
  omega
open Classical in
noncomputable def apL (rows : List (List Int)) (nx : Int → Int → Bool) (s : Nat × Nat) : List Nat := if h : ∃ a, IsAp rows nx s a then Classical.choose h else []
theorem apL_eq {rows : List (List Int)} {nx : Int → Int → Bool} {s : Nat × Nat} {a : List Nat} (h : IsAp rows nx s a) : apL rows nx s = a := by
  have e : ∃ a, IsAp rows nx s a := ⟨a, h⟩
  unfold apL
  rw [dif_pos e]
  exact (Classical.choose_spec e).unique h
def apS (rows : List (List Int)) (a : List Nat) (m : Int) : List Nat := match hap rows m with
  | some (p, k) => a.set p (max (a.getD p 0) (k + 1))
  | none => a
theorem apS_len (rows : List (List Int)) : ∀ (ms : List Int) (a : List Nat), (ms.foldl (apS rows) a).length = a.length
  | [], _ => rfl
  | m :: ms, a => by
    rw [List.foldl_cons, apS_len rows ms]
    unfold apS
    cases hap rows m with
    | none => rfl
    | some x => exact List.length_set ..
theorem ap_fold (rows : List (List Int)) : ∀ (ms : List Int) (a : List Nat) (p n x y : Nat), (ms.foldl (apS rows) a)[p]? = some x → a[p]? = some y → (n < x ↔ n < y ∨ ∃ m ∈ ms, ∃ k, hap rows m = some (p, k) ∧ n ≤ k)
  | [], a, p, n, x, y, h1, h2 => by
    rw [List.foldl_nil, h2] at h1
    cases h1
    exact ⟨.inl, fun h => h.elim id fun ⟨m, hm, _⟩ => nomatch hm⟩
  | m :: ms, a, p, n, x, y, h1, h2 => by
    rw [List.foldl_cons] at h1
    have hp := (List.getElem?_eq_some_iff.mp h2).1
    cases hh : hap rows m with
    | none =>
      have ea : apS rows a m = a := by unfold apS; rw [hh]
      rw [ea] at h1
      rw [ap_fold rows ms a p n x y h1 h2]
      constructor
      · rintro (h | ⟨m', hm', r⟩)
        · exact .inl h
        · exact .inr ⟨m', List.mem_cons_of_mem _ hm', r⟩
      · rintro (h | ⟨m', hm', k, r, rk⟩)
        · exact .inl h
        · rcases List.mem_cons.mp hm' with rfl | hm'
          · rw [hh] at r; cases r
          · exact .inr ⟨m', hm', k, r, rk⟩
    | some u =>
      obtain ⟨q, j⟩ := u
      have ea : apS rows a m = a.set q (max (a.getD q 0) (j + 1)) := by unfold apS; rw [hh]
      rw [ea] at h1
      by_cases e : q = p
      · subst e
        have h3 : (a.set q (max (a.getD q 0) (j + 1)))[q]? = some (max y (j + 1)) := by rw [List.getElem?_set_self hp, getD_of h2]
        rw [ap_fold rows ms _ q n x _ h1 h3]
        constructor
        · rintro (h | ⟨m', hm', r⟩)
          · by_cases hy : n < y
            · exact .inl hy
            · exact .inr ⟨m, List.mem_cons_self, j, hh, by omega⟩
          · exact .inr ⟨m', List.mem_cons_of_mem _ hm', r⟩
        · rintro (h | ⟨m', hm', k, r, rk⟩)
          · exact .inl (by omega)
          · rcases List.mem_cons.mp hm' with rfl | hm'
            · rw [hh] at r
              cases r
              exact .inl (by omega)
            · exact .inr ⟨m', hm', k, r, rk⟩
      · have h3 : (a.set q (max (a.getD q 0) (j + 1)))[p]? = some y := by rw [List.getElem?_set_ne e, h2]
        rw [ap_fold rows ms _ p n x _ h1 h3]
        constructor
        · rintro (h | ⟨m', hm', r⟩)
          · exact .inl h
          · exact .inr ⟨m', List.mem_cons_of_mem _ hm', r⟩
        · rintro (h | ⟨m', hm', k, r, rk⟩)
          · exact .inl h
          · rcases List.mem_cons.mp hm' with rfl | hm'
            · rw [hh] at r
              cases r
              exact absurd rfl e
            · exact .inr ⟨m', hm', k, r, rk⟩
theorem ap_of {rows : List (List Int)} {nx : Int → Int → Bool} {s : Nat × Nat} {L : List (Int × Nat)} (hD : Dist rows nx (rbB rows s) L) : IsAp rows nx s ((L.map (·.1)).foldl (apS rows) (List.replicate rows.length 0)) := by
  refine ⟨by rw [apS_len, List.length_replicate], fun p n x h => ?_⟩
  have hp := (List.getElem?_eq_some_iff.mp h).1
  rw [apS_len, List.length_replicate] at hp
  rw [ap_fold rows _ _ p n x 0 h (List.getElem?_replicate_of_lt hp)]
  constructor
  · rintro (h | ⟨m, hm, k, hk, hn⟩)
    · exact absurd h (Nat.not_lt_zero _)
    · obtain ⟨⟨m', c⟩, h1, rfl⟩ := List.mem_map.mp hm
      exact ⟨m', k, c, ((hD.mem _ _).mp h1).1, hk, hn⟩
  · rintro ⟨m, k, c, hd, hk, hn⟩
    obtain ⟨c', _, hl⟩ := hd.least
    exact .inr ⟨m, List.mem_map.mpr ⟨(m, c'), (hD.mem _ _).mpr hl, rfl⟩, k, hk, hn⟩
noncomputable def vecL (rows : List (List Int)) (nx : Int → Int → Bool) (s : Nat × Nat) : List Nat := (apL rows nx s).set s.1 s.2
end Sv
set_option maxHeartbeats 400000
set_option autoImplicit false
namespace Sv
open PySem PySem.Spec PyProof.Rows L2
/-- a pair that find_untracked looks at: the first state of a process that does not come before b, but from which a zigzag leads to b -/
def Untr (rows : List (List Int)) (a b : Nat × Nat) : Prop :=
  b.1 < rows.length ∧ (∀ x, (prs rows)[b.1]? = some x → b.2 ≤ x) ∧ (vecL rows (cauB rows) b)[a.1]? = some a.2 ∧ ∃ x, (apL rows (stepB rows) b)[a.1]? = some x ∧ a.2 < x
theorem vec_len {rows : List (List Int)} {nx : Int → Int → Bool} {s : Nat × Nat} (h : IsAp rows nx s (apL rows nx s)) : (vecL rows nx s).length = rows.length := by
  unfold vecL
  rw [List.length_set]
  exact h.1
end Sv
set_option maxHeartbeats 400000
set_option autoImplicit false
namespace Sv
open PySem PySem.Spec PyProof.Rows L2
theorem cnt_mono (row : List Int) {i j : Nat} (h : i ≤ j) : (row.take i).count 0 ≤ (row.take j).count 0 := by
  have : row.take i = (row.take j).take i := by rw [List.take_take, Nat.min_eq_left h]
  rw [this]
  exact List.Sublist.count_le _ (List.take_sublist _ _)
theorem cau_at {rows : List (List Int)} {m t : Int} (h : cauB rows m t = true) : ∃ (q i j : Nat) (row : List Int), rows[q]? = some row ∧ row[i]? = some (-m) ∧ row[j]? = some t ∧ i ≤ j ∧ i = row.idxOf (-m) := by
  unfold cauB at h
  rw [List.any_map, List.any_eq_true] at h
  obtain ⟨row, hr, h⟩ := h
  have h : cau1 m t row = true := h
  unfold cau1 at h
  rw [Bool.and_eq_true, decide_eq_true_iff, decide_eq_true_iff] at h
  obtain ⟨q, hq⟩ := List.getElem?_of_mem hr
  have hi := List.idxOf_lt_length_iff.mpr h.1
  obtain ⟨j, hj⟩ := List.getElem?_of_mem h.2
  rw [List.getElem?_drop] at hj
  exact ⟨q, _, _, row, hq, by rw [List.getElem?_eq_getElem hi, List.getElem_idxOf hi], hj, Nat.le_add_right _ _, rfl⟩
/-- a causal step is a step -/
theorem cau_step {rows : List (List Int)} {many most : Nat} (hG : Good many most rows) {m t : Int} (hm : m ∈ recvL rows) (ht : t ∈ recvL rows) (h : cauB rows m t = true) : stepB rows m t = true := by
  obtain ⟨q, i, j, row, hq, hi, hj, hij, _⟩ := cau_at h
  have m1 := names_mem.mp (List.mem_filter.mp hm).1
  have t1 := names_mem.mp (List.mem_filter.mp ht).1
  have e1 := hG.hap_at hq hi (by omega)
  have e2 := hG.hap_at hq hj (by omega)
  have e1 : hap rows (0 - m) = some (q, (row.take i).count 0) := by rw [Int.zero_sub]; exact e1
  rw [step_at e1]
  unfold sbB
  rw [e2]
  show (decide (q = q) && decide ((row.take i).count 0 ≤ (row.take j).count 0)) = true
  rw [decide_eq_true rfl, decide_eq_true (cnt_mono row hij)]
  rfl
theorem cau_dz {rows : List (List Int)} {many most : Nat} (hG : Good many most rows) {base : Int → Bool} {n : Nat} {m : Int} (h : Dz rows (cauB rows) base n m) : Dz rows (stepB rows) base n m := by
  induction h with
  | base h1 h2 => exact .base h1 h2
  | step h1 h2 h3 ih => exact .step h1 (cau_step hG h1 h3.mem h2) ih
theorem dz_zk {rows : List (List Int)} {t : Nat × Nat} {n : Nat} {m : Int} (h : Dz rows (stepB rows) (rbB rows t) n m) : ∃ ms, ∀ s : Nat × Nat, sbB rows m s = true → Zk rows s t (m :: ms) := by
  induction h with
  | base h1 h2 =>
    obtain ⟨u, hu⟩ := recv_hap h1
    exact ⟨[], fun s hs => ⟨h1, hs, u, hu, (rb_iff hu).mp h2⟩⟩
  | step h1 h2 h3 ih =>
    obtain ⟨ms, hms⟩ := ih
    obtain ⟨u, hu⟩ := recv_hap h1
    exact ⟨_ :: ms, fun s hs => ⟨h1, hs, u, hu, hms u (by rw [← step_at hu]; exact h2)⟩⟩
theorem sbQ_at {rows : List (List Int)} {m : Int} {p k : Nat} {s : Nat × Nat} (h : hap rows m = some (p, k)) : sbB rows m s = true ↔ p = s.1 ∧ s.2 ≤ k := by
  unfold sbB
  rw [h]
  show (decide (p = s.1) && decide (s.2 ≤ k)) = true ↔ _
  rw [Bool.and_eq_true, decide_eq_true_iff, decide_eq_true_iff]
/-- a zigzag to t starts behind exactly the states below the first one from which none does -/
theorem zz_ap {rows : List (List Int)} {t : Nat × Nat} {ap : List Nat} (hA : IsAp rows (stepB rows) t ap) {p n x : Nat} (hx : ap[p]? = some x) : n < x ↔ ∃ ms, Zz rows (p, n) t ms := by
  rw [hA.2 p n x hx]
  constructor
  · rintro ⟨m, k, c, hd, hk, hn⟩
    obtain ⟨ms, hms⟩ := dz_zk hd
    exact ⟨m :: ms, by simp, hms (p, n) ((sbQ_at hk).mpr ⟨rfl, hn⟩)⟩
  · rintro ⟨ms, hne, hz⟩
    cases ms with
    | nil => exact absurd rfl hne
    | cons m ms =>
      have hd := zz_dz hz
      have hs := hz.2.1
      unfold sbB at hs
      cases hh : hap rows m with
      | none => rw [hh] at hs; exact nomatch hs
      | some u =>
        obtain ⟨q, k⟩ := u
        rw [hh] at hs
        have hs : (decide (q = p) && decide (n ≤ k)) = true := hs
        rw [Bool.and_eq_true, decide_eq_true_iff, decide_eq_true_iff] at hs
        obtain ⟨rfl, hk⟩ := hs
        exact ⟨m, k, _, hd, hh, hk⟩
theorem vec_own {rows : List (List Int)} {nx : Int → Int → Bool} {s : Nat × Nat} (hA : IsAp rows nx s (apL rows nx s)) (hs : s.1 < rows.length) : (vecL rows nx s)[s.1]? = some s.2 := by
  unfold vecL
  exact List.getElem?_set_self (by rw [hA.1]; exact hs)
theorem vec_ne {rows : List (List Int)} {nx : Int → Int → Bool} {s : Nat × Nat} {p : Nat} (h : p ≠ s.1) : (vecL rows nx s)[p]? = (apL rows nx s)[p]? := by
  unfold vecL
  exact List.getElem?_set_ne (Ne.symm h)
/-- what tracked means -/
theorem trk_zz {rows : List (List Int)} (ht : ∀ a b, ¬ Untr rows a b) {b : Nat × Nat} (hb : b.1 < rows.length) (hn : ∀ x, (prs rows)[b.1]? = some x → b.2 ≤ x) (hAc : IsAp rows (cauB rows) b (apL rows (cauB rows) b)) (hAz : IsAp rows (stepB rows) b (apL rows (stepB rows) b)) {p n v : Nat} {ms : List Int} (hz : Zz rows (p, n) b ms) (hv : (vecL rows (cauB rows) b)[p]? = some v) : n < v := by
  have hp : p < rows.length := by rw [← vec_len hAc]; exact (List.getElem?_eq_some_iff.mp hv).1
  obtain ⟨x, hx⟩ : ∃ x, (apL rows (stepB rows) b)[p]? = some x := ⟨_, List.getElem?_eq_getElem (by rw [hAz.1]; exact hp)⟩
  have h1 := (zz_ap hAz hx).mpr ⟨ms, hz⟩
  have h2 : ¬ v < x := fun z => ht (p, v) b ⟨hb, hn, hv, x, hx, z⟩
  omega
theorem ap_ex {rows : List (List Int)} {many most : Nat} (hG : Good many most rows) (nx : Int → Int → Bool) (s : Nat × Nat) : IsAp rows nx s (apL rows nx s) := by
  have key : ∃ L, Dist rows nx (rbB rows s) L := by
    have l24 := fun c => lv_len (rows := rows) (nx := nx) (base := rbB rows s) c
    -- levels end at last
    have fin : ∃ c, lvF rows nx (rbB rows s) (lvD rows nx (rbB rows s) c) c = [] := by
      refine Classical.byContradiction fun no => ?_
      have pos : ∀ c, lvF rows nx (rbB rows s) (lvD rows nx (rbB rows s) c) c ≠ [] := fun c z => no ⟨c, z⟩
      have grow : ∀ c, c ≤ (lvD rows nx (rbB rows s) c).length := by
        intro c
        induction c with
        | zero => exact Nat.zero_le _
        | succ c ih =>
          show c + 1 ≤ (lvD rows nx (rbB rows s) c ++ (lvF rows nx (rbB rows s) (lvD rows nx (rbB rows s) c) c).map fun m => (m, c + 1)).length
          rw [List.length_append, List.length_map]
          have := List.length_pos_iff.mpr (pos c)
          omega
      have := grow 25
      have := l24 25
      omega
    obtain ⟨c, hc⟩ := fin
    exact ⟨_, dist_of hc⟩
  obtain ⟨L, hL⟩ := key
  have h := ap_of hL
  rw [apL_eq h]
  exact h
/-- in a tracked history the vector of a state is a line through it -/
theorem vec_thru {rows : List (List Int)} {many most : Nat} (hG : Good many most rows) (ht : ∀ a b, ¬ Untr rows a b) {s : Nat × Nat} (hs : s.1 < rows.length) (hn : ∀ x, (prs rows)[s.1]? = some x → s.2 ≤ x) : Thru rows [s] (vecL rows (cauB rows) s) := by
  have hAc := ap_ex hG (cauB rows) s
  have hAz := ap_ex hG (stepB rows) s
  refine ⟨vec_len hAc, fun p v y hv hy => ?_, fun m p k p' k' c c' hm h1 h2 h3 h4 h5 => ?_, fun z hz => ?_⟩
  · by_cases e : p = s.1
    · subst e
      rw [vec_own hAc hs] at hv
      cases hv
      exact hn y hy
    · rw [vec_ne e] at hv
      cases v with
      | zero => exact Nat.zero_le _
      | succ v =>
        obtain ⟨m, k, c, hd, hk, hle⟩ := (hAc.2 p v (v + 1) hv).mp (Nat.lt_succ_self v)
        obtain ⟨row, _, hr, _, _⟩ := hap_inv hk
        have := hap_le hk hr
        rw [prsA hr] at hy
        cases hy
        omega
  · have hm' : m ∈ recvL rows := hG.recv_mem hm h2
    have hsb : sbB rows m (p, k) = true := (sbQ_at h1).mpr ⟨rfl, Nat.le_refl _⟩
    have zz : ∃ ms, Zz rows (p, k) s ms := by
      by_cases e : p' = s.1
      · subst e
        rw [vec_own hAc hs] at h4
        cases h4
        exact ⟨[m], by simp, hm', hsb, (s.1, k'), h2, rfl, h5⟩
      · rw [vec_ne e] at h4
        obtain ⟨m2, k2, c2, hd, hk2, hle⟩ := (hAc.2 p' k' c' h4).mp h5
        obtain ⟨ms, hms⟩ := dz_zk (cau_dz hG hd)
        exact ⟨m :: m2 :: ms, by simp, hm', hsb, (p', k'), h2, hms (p', k') ((sbQ_at hk2).mpr ⟨rfl, hle⟩)⟩
    obtain ⟨ms, hz⟩ := zz
    exact trk_zz ht hs hn hAc hAz hz h3
  · rw [List.mem_singleton.mp hz]
    exact vec_own hAc hs
theorem trk_lost {rows : List (List Int)} {many most : Nat} (hG : Good many most rows) (ht : ∀ a b, ¬ Untr rows a b) : lostU rows = [] := by
  unfold lostU
  rw [List.filter_eq_nil_iff]
  intro x hx
  obtain ⟨p, n, hp, rfl⟩ := allU_mem hx
  have hn : ∀ y, (prs rows)[p]? = some y → n ≤ y := by
    intro y hy
    unfold allU at hx
    obtain ⟨q, hq, hm⟩ := List.mem_flatMap.mp hx
    unfold rowU at hm
    obtain ⟨k, hk, e⟩ := List.mem_map.mp hm
    have hk := List.mem_range.mp hk
    obtain ⟨e1, e2⟩ := Prod.mk.inj e
    have e1 : q = p := Int.ofNat.inj e1
    have e2 : k = n := Int.ofNat.inj e2
    subst e1
    subst e2
    rw [hy] at hk
    have hk : k < y + 1 := hk
    omega
  have : lostB rows (p, n) = false := lostB_f ⟨_, vec_thru hG ht (s := (p, n)) hp hn⟩
  show ¬ lostB rows (p, n) = true
  rw [this]
  exact Bool.false_ne_true
end Sv
set_option autoImplicit false
namespace Sv
open PySem PySem.Spec PyProof.Rows L2
def tick (T : Nat → Nat → Nat) (p n N : Nat) : Nat → Nat → Nat := fun q i => if q = p ∧ i = n then N else T q i
def At (rows : List (List Int)) (p i : Nat) (e : Int) : Prop := ∃ row, rows[p]? = some row ∧ row[i]? = some e
structure Clock (rows : List (List Int)) (T : Nat → Nat → Nat) : Prop where
  incr : ∀ (p i i' : Nat) (row : List Int), rows[p]? = some row → i < i' → i' < row.length → T p i < T p i'
  msg : ∀ (m : Int) (p i q j : Nat), 0 < m → At rows p i m → At rows q j (0 - m) → T p i < T q j
theorem at_push {r : List (List Int)} {p : Nat} {row : List Int} {v : Int} (h : r[p]? = some row) {q i : Nat} {e : Int} (ha : At (r.set p (row ++ [v])) q i e) : At r q i e ∨ (q = p ∧ i = row.length ∧ e = v) := by
  obtain ⟨row', h1, h2⟩ := ha
  rw [List.getElem?_set] at h1
  split at h1
  · rename_i e1
    subst e1
    split at h1
    · rw [← Option.some.inj h1] at h2
      by_cases hi : i < row.length
      · rw [List.getElem?_append_left hi] at h2
        exact .inl ⟨row, h, h2⟩
      · rw [List.getElem?_append_right (by omega)] at h2
        have hz : i - row.length = 0 := by
          have := (List.getElem?_eq_some_iff.mp h2).1
          simp at this
          omega
        rw [hz] at h2
        exact .inr ⟨rfl, by omega, (Option.some.inj h2).symm⟩
    · cases h1
  · exact .inl ⟨row', h1, h2⟩
theorem push_at {r : List (List Int)} {p : Nat} {row : List Int} {v : Int} (h : r[p]? = some row) {q i : Nat} {e : Int} (ha : At r q i e) : At (r.set p (row ++ [v])) q i e := by
  obtain ⟨row', h1, h2⟩ := ha
  by_cases e1 : p = q
  · subst e1
    rw [h] at h1
    obtain rfl := Option.some.inj h1
    refine ⟨row ++ [v], List.getElem?_set_self (List.getElem?_eq_some_iff.mp h).1, ?_⟩
    rw [List.getElem?_append_left (List.getElem?_eq_some_iff.mp h2).1]
    exact h2
  · exact ⟨row', by rw [List.getElem?_set_ne e1]; exact h1, h2⟩
/-- a new event at the end of a row; no pair of events of a message has the new one first -/
theorem Clock.push {r : List (List Int)} {T : Nat → Nat → Nat} {N p : Nat} {row : List Int} {v : Int} (c : Clock r T) (hN : ∀ (q i : Nat) (row' : List Int), r[q]? = some row' → i < row'.length → T q i < N) (h : r[p]? = some row)
    (hv : ∀ (q j : Nat), At (r.set p (row ++ [v])) q j (0 - v) → 0 < v → False) : Clock (r.set p (row ++ [v])) (tick T p row.length N) ∧ ∀ (q i : Nat) (row' : List Int), (r.set p (row ++ [v]))[q]? = some row' → i < row'.length → tick T p row.length N q i < N + 1 := by
  have old : ∀ {q i : Nat} {e : Int}, At r q i e → tick T p row.length N q i = T q i := fun {q i e} ha => by
    obtain ⟨row', h1, h2⟩ := ha
    unfold tick
    rw [if_neg]
    rintro ⟨rfl, rfl⟩
    rw [h] at h1
    obtain rfl := Option.some.inj h1
    have := (List.getElem?_eq_some_iff.mp h2).1
    omega
  have new : tick T p row.length N p row.length = N := if_pos ⟨rfl, rfl⟩
  have lt : ∀ {q i : Nat} {e : Int}, At r q i e → T q i < N := fun {q i e} ⟨row', h1, h2⟩ => hN q i row' h1 (List.getElem?_eq_some_iff.mp h2).1
  refine ⟨⟨fun q i i' row' h1 hlt hl => ?_, fun m q i q' j hm h1 h2 => ?_⟩, fun q i row' h1 hl => ?_⟩
  · have a1 : At (r.set p (row ++ [v])) q i row'[i] := ⟨row', h1, List.getElem?_eq_getElem (by omega)⟩
    have a2 : At (r.set p (row ++ [v])) q i' row'[i'] := ⟨row', h1, List.getElem?_eq_getElem hl⟩
    rcases at_push h a1 with b1 | ⟨b1, b2, _⟩
    · rcases at_push h a2 with b3 | ⟨b3, b4, _⟩
      · rw [old b1, old b3]
        obtain ⟨row2, c1, c2⟩ := b3
        exact c.incr q i i' row2 c1 hlt (List.getElem?_eq_some_iff.mp c2).1
      · rw [old b1, b3, b4, new]
        exact b3 ▸ lt b1
    · rcases at_push h a2 with ⟨row2, c1, c2⟩ | ⟨b3, b4, _⟩
      · rw [b1, h] at c1
        obtain rfl := Option.some.inj c1
        have := (List.getElem?_eq_some_iff.mp c2).1
        omega
      · omega
  · rcases at_push h h2 with b3 | ⟨b3, b4, b5⟩
    · rcases at_push h h1 with b1 | ⟨b1, b2, b6⟩
      · rw [old b1, old b3]
        exact c.msg m q i q' j hm b1 b3
      · subst b6
        exact (hv q' j (push_at h b3) hm).elim
    · rcases at_push h h1 with b1 | ⟨b1, b2, b6⟩
      · rw [old b1, b3, b4, new]
        exact lt b1
      · omega
  · have a1 : At (r.set p (row ++ [v])) q i row'[i] := ⟨row', h1, List.getElem?_eq_getElem hl⟩
    rcases at_push h a1 with b1 | ⟨b1, b2, _⟩
    · rw [old b1]
      exact Nat.lt_succ_of_lt (lt b1)
    · rw [b1, b2, new]
      exact Nat.lt_succ_self _
theorem Good.sent_of {many most : Nat} {rows : List (List Int)} (h : Good many most rows) {q j : Nat} {m : Int} (hm : 0 < m) (h1 : At rows q j (0 - m)) : ∃ p i, At rows p i m := by
  obtain ⟨c, nm, o, u, k, _, _, hp, g, _⟩ := h
  obtain ⟨row, h2, h3⟩ := h1
  have h4 : (0 - m) ∈ rows.flatten := List.mem_flatten.mpr ⟨row, List.mem_of_getElem? h2, List.mem_of_getElem? h3⟩
  have h5 : m ∈ negs rows.flatten := List.mem_map.mpr ⟨0 - m, List.mem_filter.mpr ⟨h4, decide_eq_true (by omega)⟩, by omega⟩
  have h6 := (g.once hp).2.mem_iff.mp (List.mem_append_left _ h5)
  have h7 := (g.once hp).1.mem_iff.mpr h6
  obtain ⟨r, hr, hmr⟩ := List.mem_flatten.mp (List.mem_filter.mp h7).1
  obtain ⟨p, hp1⟩ := List.getElem?_of_mem hr
  obtain ⟨i, hi⟩ := List.getElem?_of_mem hmr
  exact ⟨p, i, r, hp1, hi⟩
theorem Good.at_once {many most : Nat} {rows : List (List Int)} (h : Good many most rows) {p i p' i' : Nat} {e : Int} (he : e ≠ 0) (h1 : At rows p i e) (h2 : At rows p' i' e) : p = p' ∧ i = i' := by
  obtain ⟨c, nm, o, u, k, _, _, hp, g, _⟩ := h
  have hc := g.count hp he
  obtain ⟨r, a1, a2⟩ := h1
  obtain ⟨r', b1, b2⟩ := h2
  have m1 := List.mem_of_getElem? a2
  have m2 := List.mem_of_getElem? b2
  have e1 : p = p' := by
    rcases Nat.lt_trichotomy p p' with z | z | z
    · have := count_two z a1 b1 m1 m2; omega
    · exact z
    · have := count_two z b1 a1 m2 m1; omega
  subst e1
  obtain rfl : r = r' := Option.some.inj (a1.symm.trans b1)
  have hle := Nat.le_trans (count_at a1) hc
  exact ⟨rfl, (idx_once a2 hle).symm.trans (idx_once b2 hle)⟩
theorem Grown.clock {c : Nat} {nm : List Int} {r : List (List Int)} {o : List (Int × Int)} {u k : Nat} (hp : nm.Perm names24) (h : Grown c nm r o u k) : ∃ T N, Clock r T ∧ ∀ (q i : Nat) (row : List Int), r[q]? = some row → i < row.length → T q i < N := by
  induction h with
  | start =>
    have no : ∀ {q i : Nat} {e : Int}, ¬ At (List.replicate c []) q i e := fun {q i e} ⟨row, h1, h2⟩ => by
      rw [(List.mem_replicate.mp (List.mem_of_getElem? h1)).2] at h2
      cases h2
    refine ⟨fun _ _ => 0, 0, ⟨fun p i i' row h1 hlt hl => ?_, fun m p i q j _ h1 _ => (no h1).elim⟩, fun q i row h1 hl => ?_⟩
    · exact (no ⟨row, h1, List.getElem?_eq_getElem hl⟩).elim
    · exact (no ⟨row, h1, List.getElem?_eq_getElem hl⟩).elim
  | skip _ ih => exact ih
  | save g hr ih =>
    obtain ⟨T, N, c1, c2⟩ := ih
    obtain ⟨d1, d2⟩ := c1.push c2 hr (v := 0) fun q j _ z => by omega
    exact ⟨_, _, d1, d2⟩
  | @send r o u k p row m g hr hm ih =>
    obtain ⟨T, N, c1, c2⟩ := ih
    obtain ⟨d1, d2⟩ := c1.push c2 hr (v := m) fun q j ha hm0 => by
      have hc : 1 ≤ c := by
        have := g.len
        have := (List.getElem?_eq_some_iff.mp hr).1
        omega
      have G1 : Good c k r := ⟨c, nm, o, u, k, hc, Nat.le_refl _, hp, g, Nat.le_refl _⟩
      have G2 : Good c (k + 1) (r.set p (row ++ [m])) := ⟨c, nm, _, _, _, hc, Nat.le_refl _, hp, .send g hr hm, Nat.le_refl _⟩
      rcases at_push hr ha with b | ⟨_, _, b⟩
      · obtain ⟨p0, i0, s0⟩ := G1.sent_of hm0 b
        have n1 : At (r.set p (row ++ [m])) p row.length m := ⟨row ++ [m], List.getElem?_set_self (List.getElem?_eq_some_iff.mp hr).1, by rw [List.getElem?_append_right (Nat.le_refl _), Nat.sub_self]; rfl⟩
        obtain ⟨e1, e2⟩ := G2.at_once (by omega) (push_at hr s0) n1
        obtain ⟨row0, f1, f2⟩ := s0
        rw [e1, hr] at f1
        obtain rfl := Option.some.inj f1
        have := (List.getElem?_eq_some_iff.mp f2).1
        omega
      · omega
    exact ⟨_, _, d1, d2⟩
  | @recv r o u k row j m q p g hr ho hq ih =>
    obtain ⟨T, N, c1, c2⟩ := ih
    have h0 := (g.small hp).2 (m, q) (List.mem_of_getElem? ho)
    obtain ⟨d1, d2⟩ := c1.push c2 hr (v := 0 - m) fun q' j' ha hm0 => by
      have h1 : 1 ≤ m := h0.1
      omega
    exact ⟨_, _, d1, d2⟩
theorem Good.clock {many most : Nat} {rows : List (List Int)} (h : Good many most rows) : ∃ T, Clock rows T := by
  obtain ⟨c, nm, o, u, k, _, _, hp, g, _⟩ := h
  obtain ⟨T, N, c1, _⟩ := g.clock hp
  exact ⟨T, c1⟩
end Sv
set_option maxHeartbeats 400000
set_option autoImplicit false
namespace Sv
open PySem PySem.Spec PyProof.Rows L2
theorem hap_AtQ {rows : List (List Int)} {e : Int} {p k : Nat} (h : hap rows e = some (p, k)) : ∃ row i, rows[p]? = some row ∧ row[i]? = some e ∧ k = (row.take i).count 0 ∧ At rows p i e := by
  obtain ⟨row, i, h1, h2, h3⟩ := hap_inv h
  exact ⟨row, i, h1, h2, h3, row, h1, h2⟩
theorem dz_clock {rows : List (List Int)} {many most : Nat} (hG : Good many most rows) {T : Nat → Nat → Nat} (c : Clock rows T) {t : Nat × Nat} {n : Nat} {m : Int} (h : Dz rows (cauB rows) (rbB rows t) n m) :
    ∀ (p i : Nat), At rows p i m → ∃ (j : Nat) (row : List Int), rows[t.1]? = some row ∧ j < row.length ∧ (row.take j).count 0 < t.2 ∧ T p i < T t.1 j := by
  induction h with
  | @base m h1 h2 =>
    intro p i ha
    have m1 := names_mem.mp (List.mem_filter.mp h1).1
    obtain ⟨u, hu⟩ := recv_hap h1
    obtain ⟨e1, e2⟩ := (rb_iff hu).mp h2
    obtain ⟨row, j, g1, g2, g3, g4⟩ := hap_AtQ (p := u.1) (k := u.2) hu
    rw [e1] at g1 g4
    exact ⟨j, row, g1, (List.getElem?_eq_some_iff.mp g2).1, by omega, c.msg m p i t.1 j (by omega) ha g4⟩
  | @step n m t' h1 h2 h3 ih =>
    intro p i ha
    have m1 := names_mem.mp (List.mem_filter.mp h1).1
    have t1 := names_mem.mp (List.mem_filter.mp h3.mem).1
    obtain ⟨q, a, b, row, hq, hqa, hqb, hab, _⟩ := cau_at h2
    obtain ⟨j, row', g1, g2, g3, g4⟩ := ih q b ⟨row, hq, hqb⟩
    have s1 : T p i < T q a := c.msg m p i q a (by omega) ha ⟨row, hq, by rw [Int.zero_sub]; exact hqa⟩
    have s2 : T q a ≤ T q b := by
      rcases Nat.lt_or_ge a b with z | z
      · exact Nat.le_of_lt (c.incr q a b row hq z (List.getElem?_eq_some_iff.mp hqb).1)
      · have : a = b := by omega
        rw [this]
        exact Nat.le_refl _
    exact ⟨j, row', g1, g2, g3, by omega⟩
/-- no state comes before itself by messages -/
theorem ap_irr {rows : List (List Int)} {many most : Nat} (hG : Good many most rows) {s : Nat × Nat} {ap : List Nat} (hA : IsAp rows (cauB rows) s ap) {x : Nat} (hx : ap[s.1]? = some x) : x ≤ s.2 := by
  refine Nat.le_of_not_lt fun hlt => ?_
  obtain ⟨m, k, c, hd, hk, hn⟩ := (hA.2 s.1 s.2 x hx).mp hlt
  obtain ⟨T, hc⟩ := hG.clock
  obtain ⟨row, i, h1, h2, h3, h4⟩ := hap_AtQ hk
  obtain ⟨j, row', g1, g2, g3, g4⟩ := dz_clock hG hc hd s.1 i h4
  rw [h1] at g1
  cases g1
  have hji : j < i := by
    refine Nat.lt_of_not_le fun z => ?_
    have := cnt_mono row z
    omega
  have := hc.incr s.1 j i row h1 hji (List.getElem?_eq_some_iff.mp h2).1
  omega
theorem ap_vec {rows : List (List Int)} {many most : Nat} (hG : Good many most rows) {s : Nat × Nat} (hs : s.1 < rows.length) {p x v : Nat} (hx : (apL rows (cauB rows) s)[p]? = some x) (hv : (vecL rows (cauB rows) s)[p]? = some v) : x ≤ v := by
  have hA := ap_ex hG (cauB rows) s
  by_cases e : p = s.1
  · subst e
    rw [vec_own hA hs] at hv
    cases hv
    exact ap_irr hG hA hx
  · rw [vec_ne e, hx] at hv
    cases hv
    exact Nat.le_refl _
end Sv
set_option maxHeartbeats 1000000
set_option autoImplicit false
namespace Sv
open PySem PySem.Spec PyProof.Rows L2
def OrdRow (row : List Int) : Prop := ∀ (i j : Nat) (d e : Int), row[i]? = some d → row[j]? = some e → i < j → 0 < d → e < 0 → (row.take i).count 0 < (row.take j).count 0
def OrdR (rows : List (List Int)) : Prop := ∀ row ∈ rows, OrdRow row
theorem ord_cau {rows : List (List Int)} {many most : Nat} (hO : OrdR rows) (hG : Good many most rows) {m t : Int} (hm : m ∈ recvL rows) (ht : t ∈ recvL rows) (h : stepB rows m t = true) : cauB rows m t = true := by
  have m1 := names_mem.mp (List.mem_filter.mp hm).1
  have t1 := names_mem.mp (List.mem_filter.mp ht).1
  obtain ⟨⟨q, j⟩, hu⟩ := recv_hap hm
  rw [step_at hu] at h
  obtain ⟨k, ht2, hjk⟩ := sb_iff.mp h
  obtain ⟨row, a, h1, h2, h3, h4⟩ := hap_AtQ hu
  obtain ⟨row', b, g1, g2, g3, g4⟩ := hap_AtQ ht2
  rw [h1] at g1
  cases g1
  rw [Int.zero_sub] at h2
  have hmem : -m ∈ row := List.mem_of_getElem? h2
  have hix := List.idxOf_lt_length_iff.mpr hmem
  have hia : row.idxOf (-m) = a := by
    have e1 : row[row.idxOf (-m)]? = some (-m) := by rw [List.getElem?_eq_getElem hix, List.getElem_idxOf hix]
    exact (hG.at_once (by omega : -m ≠ 0) ⟨row, h1, e1⟩ ⟨row, h1, h2⟩).2
  have hab : a ≤ b := by
    refine Nat.le_of_not_lt fun z => ?_
    have := hO row (List.mem_of_getElem? h1) b a t (-m) g2 h2 z (by omega) (by omega)
    omega
  unfold cauB
  rw [List.any_map, List.any_eq_true]
  refine ⟨row, List.mem_of_getElem? h1, ?_⟩
  show cau1 m t row = true
  unfold cau1
  rw [decide_eq_true hmem, Bool.true_and, decide_eq_true_iff, hia]
  refine List.mem_of_getElem? (i := b - a) ?_
  rw [List.getElem?_drop, show a + (b - a) = b by omega]
  exact g2
theorem ord_dz {rows : List (List Int)} {many most : Nat} (hO : OrdR rows) (hG : Good many most rows) {base : Int → Bool} {n : Nat} {m : Int} (h : Dz rows (stepB rows) base n m) : Dz rows (cauB rows) base n m := by
  induction h with
  | base h1 h2 => exact .base h1 h2
  | step h1 h2 h3 ih => exact .step h1 (ord_cau hO hG h1 h3.mem h2) ih
/-- such a history is tracked -/
theorem ord_trk {rows : List (List Int)} {many most : Nat} (hO : OrdR rows) (hG : Good many most rows) : ∀ a b, ¬ Untr rows a b := by
  rintro a b ⟨h1, h2, hv, x, hx, hlt⟩
  have hAz := ap_ex hG (stepB rows) b
  have hA : IsAp rows (cauB rows) b (apL rows (stepB rows) b) := ⟨hAz.1, fun p n x hx => (hAz.2 p n x hx).trans ⟨fun ⟨m, k, c, hd, r⟩ => ⟨m, k, c, ord_dz hO hG hd, r⟩, fun ⟨m, k, c, hd, r⟩ => ⟨m, k, c, cau_dz hG hd, r⟩⟩⟩
  have e := apL_eq hA
  rw [← e] at hx
  have := ap_vec hG h1 hx hv
  omega
/-- nothing is sent in the last interval -/
def Quiet (row : List Int) : Prop := ∀ (i : Nat) (d : Int), row[i]? = some d → 0 < d → (row.take i).count 0 < row.count 0
def OrdB (row : List Int) (b : Bool) : Prop := OrdRow row ∧ (b = false → Quiet row)
theorem snoc_at {row : List Int} {v d : Int} {i : Nat} (h : (row ++ [v])[i]? = some d) : (i < row.length ∧ row[i]? = some d) ∨ (i = row.length ∧ d = v) := by
  by_cases z : i < row.length
  · rw [List.getElem?_append_left z] at h
    exact .inl ⟨z, h⟩
  · rw [List.getElem?_append_right (by omega)] at h
    have hi : i - row.length = 0 := by
      rcases Nat.eq_zero_or_pos (i - row.length) with z | z
      · exact z
      · rw [List.getElem?_eq_none (by simp; omega)] at h; cases h
    rw [hi] at h
    exact .inr ⟨by omega, (Option.some.inj h).symm⟩
theorem take_snoc {row : List Int} {v : Int} {i : Nat} (h : i ≤ row.length) : (row ++ [v]).take i = row.take i := List.take_append_of_le_length h
theorem cnt_le (row : List Int) (i : Nat) : (row.take i).count 0 ≤ row.count 0 := (List.take_sublist i row).count_le 0
theorem cnt_snoc (row : List Int) (v : Int) : (row ++ [v]).count 0 = row.count 0 + (if v = 0 then 1 else 0) := by
  rw [List.count_append]
  by_cases z : v = 0
  · subst z; rfl
  · rw [if_neg z]
    have : List.count 0 [v] = 0 := List.count_eq_zero.mpr fun h => z (List.mem_singleton.mp h).symm
    rw [this]
theorem ord_snoc {row : List Int} {v : Int} (h : OrdRow row) (hv : v < 0 → Quiet row) : OrdRow (row ++ [v]) := by
  intro i j d e hi hj hij hd he
  rcases snoc_at hj with ⟨zj, hj⟩ | ⟨zj, rfl⟩
  · rcases snoc_at hi with ⟨zi, hi⟩ | ⟨zi, rfl⟩
    · rw [take_snoc (by omega), take_snoc (by omega)]
      exact h i j d e hi hj hij hd he
    · omega
  · rcases snoc_at hi with ⟨zi, hi⟩ | ⟨zi, rfl⟩
    · rw [take_snoc (by omega), take_snoc (by omega), zj, List.take_length]
      exact hv he i d hi hd
    · omega
theorem quiet_save (row : List Int) : Quiet (row ++ [0]) := by
  intro i d hi hd
  rw [cnt_snoc, if_pos rfl]
  rcases snoc_at hi with ⟨zi, hi⟩ | ⟨zi, rfl⟩
  · rw [take_snoc (by omega)]
    have := cnt_le row i
    omega
  · omega
theorem quiet_recv {row : List Int} (h : Quiet row) {v : Int} (hv : v < 0) : Quiet (row ++ [v]) := by
  intro i d hi hd
  rw [cnt_snoc, if_neg (by omega)]
  rcases snoc_at hi with ⟨zi, hi⟩ | ⟨zi, rfl⟩
  · rw [take_snoc (by omega)]
    exact h i d hi hd
  · omega
theorem ordB_save {row : List Int} {b : Bool} (h : OrdB row b) (b' : Bool) : OrdB (row ++ [0]) b' := ⟨ord_snoc h.1 fun z => by omega, fun _ => quiet_save row⟩
theorem ordB_send {row : List Int} {b : Bool} (h : OrdB row b) {v : Int} (hv : 0 < v) : OrdB (row ++ [v]) true := ⟨ord_snoc h.1 fun z => by omega, fun z => nomatch z⟩
theorem ordB_recv {row : List Int} (h : OrdB row false) {v : Int} (hv : v < 0) (b' : Bool) : OrdB (row ++ [v]) b' := ⟨ord_snoc h.1 fun _ => h.2 rfl, fun _ => quiet_recv (h.2 rfl) hv⟩
/-- rows with who is busy -/
def OrdS (rows : List (List Int)) (bs : List Bool) : Prop := bs.length = rows.length ∧ ∀ (p : Nat) (row : List Int) (b : Bool), rows[p]? = some row → bs[p]? = some b → OrdB row b
theorem OrdS.set {rows : List (List Int)} {bs : List Bool} (h : OrdS rows bs) (p : Nat) {row : List Int} {b : Bool} (hb : OrdB row b) : OrdS (rows.set p row) (bs.set p b) := by
  refine ⟨by rw [List.length_set, List.length_set]; exact h.1, fun q r c h1 h2 => ?_⟩
  by_cases z : p = q
  · subst z
    obtain ⟨i1, e1⟩ := List.getElem?_eq_some_iff.mp h1
    rw [List.getElem?_set_self (by rw [List.length_set] at i1; exact i1)] at h1
    obtain ⟨i2, e2⟩ := List.getElem?_eq_some_iff.mp h2
    rw [List.getElem?_set_self (by rw [List.length_set] at i2; exact i2)] at h2
    cases h1
    cases h2
    exact hb
  · rw [List.getElem?_set_ne z] at h1 h2
    exact h.2 q r c h1 h2
theorem OrdS.at {rows : List (List Int)} {bs : List Bool} (h : OrdS rows bs) {p : Nat} (hp : p < rows.length) : OrdB (rows.getD p []) (bs.getD p false) := by
  have hb : p < bs.length := by rw [h.1]; exact hp
  refine h.2 p _ _ ?_ ?_
  · rw [List.getD_eq_getElem?_getD, List.getElem?_eq_getElem hp]; rfl
  · rw [List.getD_eq_getElem?_getD, List.getElem?_eq_getElem hb]; rfl
theorem set_getD {α : Type} {l : List α} {p : Nat} {d : α} : l.set p (l.getD p d) = l := by
  by_cases h : p < l.length
  · rw [List.getD_eq_getElem?_getD, List.getElem?_eq_getElem h]
    exact List.set_getElem_self h
  · exact List.set_eq_of_length_le (by omega)
def isBusy : RK → Prop
  | .sent => True
  | .always => True
  | _ => False
theorem Plan.ord {k : RK} (hk : isBusy k) {c : Nat} {as : List Act} {o : List (Int × Int)} {u : Nat} (h : Plan c as o u) : OrdS (runK k c as).rows (runK k c as).st.bs := by
  induction h with
  | nil =>
    refine ⟨by show (List.replicate c false).length = (List.replicate c ([] : List Int)).length; rw [List.length_replicate, List.length_replicate], fun p row b h1 h2 => ?_⟩
    have e := List.eq_of_mem_replicate (List.mem_of_getElem? h1)
    subst e
    exact ⟨fun i j d e hi => by simp at hi, fun _ i d hi => by simp at hi⟩
  | @save as o u p g hp ih =>
    have rl := (g.run (k := k)).len
    have h1 := ih.at (by rw [rl]; exact hp)
    rw [runK_snoc]
    cases k with
    | sent => exact ih.set p (ordB_save h1 false)
    | always => exact ih.set p (ordB_save h1 false)
    | _ => exact hk.elim
  | @send as o u p g hp hu ih =>
    have rl := (g.run (k := k)).len
    have h1 := ih.at (by rw [rl]; exact hp)
    rw [runK_snoc]
    cases k with
    | sent => exact ih.set p (ordB_send h1 (by omega))
    | always => exact ih.set p (ordB_send h1 (by omega))
    | _ => exact hk.elim
  | @recv as o u p j m q g hp hj hq ih =>
    have rl := (g.run (k := k)).len
    have hpl : p < (runK k c as).rows.length := by rw [rl]; exact hp
    have h1 := ih.at hpl
    have hm := (g.mem _ (List.mem_of_getElem? hj)).1
    have hm : 0 - m < 0 := by dsimp only at hm; omega
    rw [runK_snoc]
    generalize runK k c as = r at ih rl hpl h1
    cases k with
    | sent =>
      show OrdS (app r.rows p ((if r.st.bs.getD p false = true then [0] else []) ++ [0 - m])) (if r.st.bs.getD p false = true then ({ r.st with w := r.st.w + 1, bs := r.st.bs.set p false } : RSt) else r.st).bs
      by_cases e : r.st.bs.getD p false = true
      · rw [if_pos e, if_pos e]
        unfold app
        rw [← List.append_assoc]
        exact ih.set p (ordB_recv (ordB_save h1 false) hm false)
      · rw [if_neg e, if_neg e, List.nil_append]
        have e' : r.st.bs.getD p false = false := by cases z : r.st.bs.getD p false <;> simp_all
        rw [e'] at h1
        have z := ih.set p (ordB_recv h1 hm (r.st.bs.getD p false))
        rw [set_getD] at z
        exact z
    | always =>
      show OrdS (app r.rows p ((if r.st.bs.getD p false = true then [0] else []) ++ [0 - m])) (if r.st.bs.getD p false = true then ({ r.st with w := r.st.w + 1, bs := (r.st.bs.set p false).set p true } : RSt) else { r.st with bs := r.st.bs.set p true }).bs
      by_cases e : r.st.bs.getD p false = true
      · rw [if_pos e, if_pos e]
        unfold app
        rw [← List.append_assoc, List.set_set]
        exact ih.set p (ordB_recv (ordB_save h1 false) hm true)
      · rw [if_neg e, if_neg e, List.nil_append]
        have e' : r.st.bs.getD p false = false := by cases z : r.st.bs.getD p false <;> simp_all
        rw [e'] at h1
        exact ih.set p (ordB_recv h1 hm true)
    | _ => exact hk.elim
theorem OrdS.ord {rows : List (List Int)} {bs : List Bool} (h : OrdS rows bs) : OrdR rows := fun row hr => by
  obtain ⟨p, hp⟩ := List.mem_iff_getElem?.mp hr
  have hl := (List.getElem?_eq_some_iff.mp hp).1
  exact (h.2 p row _ hp (List.getElem?_eq_getElem (by rw [h.1]; exact hl))).1
end Sv
set_option maxHeartbeats 1000000
set_option autoImplicit false
namespace Sv
open PySem PySem.Spec PyProof.Rows L2
def noteN (notes : List (Option Int)) (m : Int) : Option Int := notes.getD (m - 1).toNat none
/-- nv: the numbers now; nu: the number of each interval -/
structure RInv (rows : List (List Int)) (nv : List Int) (notes : List (Option Int)) (nu : List (List Int)) : Prop where
  l1 : nv.length = rows.length
  l2 : nu.length = rows.length
  row : ∀ (p : Nat) (row ns : List Int), rows[p]? = some row → nu[p]? = some ns → ns.length = row.count 0 + 1 ∧ ns.Pairwise (· < ·) ∧ ∃ n, nv[p]? = some n ∧ ns[row.count 0]? = some n
  snd : ∀ (p i : Nat) (row ns : List Int) (m : Int), rows[p]? = some row → nu[p]? = some ns → row[i]? = some m → 0 < m → ∃ v, noteN notes m = some v ∧ ns[(row.take i).count 0]? = some v
  rcv : ∀ (p i : Nat) (row ns : List Int) (m : Int), rows[p]? = some row → nu[p]? = some ns → row[i]? = some (0 - m) → 0 < m → ∃ v x, noteN notes m = some v ∧ ns[(row.take i).count 0]? = some x ∧ v ≤ x
theorem pw_last {ns : List Int} (h : ns.Pairwise (· < ·)) {k : Nat} {n : Int} (hk : ns.length = k + 1) (hn : ns[k]? = some n) : ∀ x ∈ ns, x ≤ n := by
  intro x hx
  obtain ⟨i, hi⟩ := List.mem_iff_getElem?.mp hx
  obtain ⟨h1, e1⟩ := List.getElem?_eq_some_iff.mp hi
  obtain ⟨h2, e2⟩ := List.getElem?_eq_some_iff.mp hn
  by_cases z : i = k
  · subst z
    rw [← e1, ← e2]
    exact Int.le_refl _
  · have := List.pairwise_iff_getElem.mp h i k h1 h2 (by omega)
    rw [e1, e2] at this
    omega
theorem pw_lt {ns : List Int} (h : ns.Pairwise (· < ·)) {i j : Nat} {x y : Int} (hij : i < j) (hx : ns[i]? = some x) (hy : ns[j]? = some y) : x < y := by
  obtain ⟨h1, e1⟩ := List.getElem?_eq_some_iff.mp hx
  obtain ⟨h2, e2⟩ := List.getElem?_eq_some_iff.mp hy
  have := List.pairwise_iff_getElem.mp h i j h1 h2 hij
  rw [e1, e2] at this
  exact this
theorem pw_le {ns : List Int} (h : ns.Pairwise (· < ·)) {i j : Nat} {x y : Int} (hij : i ≤ j) (hx : ns[i]? = some x) (hy : ns[j]? = some y) : x ≤ y := by
  rcases Nat.lt_or_eq_of_le hij with z | z
  · exact Int.le_of_lt (pw_lt h z hx hy)
  · subst z
    rw [hx] at hy
    cases hy
    exact Int.le_refl _
theorem set_cases {α : Type} {l : List α} {p q : Nat} {x y : α} (h : (l.set p x)[q]? = some y) : (q = p ∧ y = x) ∨ (q ≠ p ∧ l[q]? = some y) := by
  by_cases z : p = q
  · subst z
    obtain ⟨i1, e1⟩ := List.getElem?_eq_some_iff.mp h
    rw [List.getElem?_set_self (by rw [List.length_set] at i1; exact i1)] at h
    exact .inl ⟨rfl, (Option.some.inj h).symm⟩
  · rw [List.getElem?_set_ne z] at h
    exact .inr ⟨Ne.symm z, h⟩
theorem getDx {α : Type} {l : List α} {p : Nat} {d x : α} (h : l[p]? = some x) : l.getD p d = x := by
  rw [List.getD_eq_getElem?_getD, h]
  rfl
section
variable {rows : List (List Int)} {nv : List Int} {notes : List (Option Int)} {nu : List (List Int)} {p : Nat} {row ns : List Int} {n : Int}
/-- a save with a greater number -/
theorem RInv.save (h : RInv rows nv notes nu) (hr : rows[p]? = some row) (hs : nu[p]? = some ns) (hn : nv[p]? = some n) {v : Int} (hv : n < v) : RInv (rows.set p (row ++ [0])) (nv.set p v) notes (nu.set p (ns ++ [v])) := by
  obtain ⟨r1, r2, n', hn', r3⟩ := h.row p row ns hr hs
  rw [hn] at hn'
  cases hn'
  have hpl : p < nv.length := (List.getElem?_eq_some_iff.mp hn).1
  have ext : ∀ {c : Nat} {x : Int}, ns[c]? = some x → (ns ++ [v])[c]? = some x := fun {c x} hx => by rw [List.getElem?_append_left (List.getElem?_eq_some_iff.mp hx).1]; exact hx
  refine ⟨by rw [List.length_set, List.length_set]; exact h.l1, by rw [List.length_set, List.length_set]; exact h.l2, ?_, ?_, ?_⟩
  · intro q row' ns' h1 h2
    rcases set_cases h1 with ⟨rfl, rfl⟩ | ⟨zq, h1⟩
    · rcases set_cases h2 with ⟨_, rfl⟩ | ⟨zq, _⟩
      · refine ⟨by rw [List.length_append, r1, cnt_snoc, if_pos rfl]; rfl, List.pairwise_append.mpr ⟨r2, List.pairwise_singleton _ _, fun x hx y hy => ?_⟩, v, List.getElem?_set_self hpl, ?_⟩
        · rw [List.mem_singleton.mp hy]
          have := pw_last r2 r1 r3 x hx
          omega
        · rw [cnt_snoc, if_pos rfl, ← r1, List.getElem?_append_right (Nat.le_refl _), Nat.sub_self]
          rfl
      · exact absurd rfl zq
    · rcases set_cases h2 with ⟨z, _⟩ | ⟨_, h2⟩
      · exact absurd z zq
      · obtain ⟨a, b, c, d, e⟩ := h.row q row' ns' h1 h2
        exact ⟨a, b, c, by rw [List.getElem?_set_ne (Ne.symm zq)]; exact d, e⟩
  · intro q i row' ns' m h1 h2 h3 h4
    rcases set_cases h1 with ⟨rfl, rfl⟩ | ⟨zq, h1⟩
    · rcases set_cases h2 with ⟨_, rfl⟩ | ⟨zq, _⟩
      · rcases snoc_at h3 with ⟨zi, h3⟩ | ⟨_, rfl⟩
        · obtain ⟨v', a, b⟩ := h.snd q i row ns m hr hs h3 h4
          exact ⟨v', a, by rw [take_snoc (by omega)]; exact ext b⟩
        · omega
      · exact absurd rfl zq
    · rcases set_cases h2 with ⟨z, _⟩ | ⟨_, h2⟩
      · exact absurd z zq
      · exact h.snd q i row' ns' m h1 h2 h3 h4
  · intro q i row' ns' m h1 h2 h3 h4
    rcases set_cases h1 with ⟨rfl, rfl⟩ | ⟨zq, h1⟩
    · rcases set_cases h2 with ⟨_, rfl⟩ | ⟨zq, _⟩
      · rcases snoc_at h3 with ⟨zi, h3⟩ | ⟨_, e⟩
        · obtain ⟨v', x, a, b, c⟩ := h.rcv q i row ns m hr hs h3 h4
          exact ⟨v', x, a, by rw [take_snoc (by omega)]; exact ext b, c⟩
        · omega
      · exact absurd rfl zq
    · rcases set_cases h2 with ⟨z, _⟩ | ⟨_, h2⟩
      · exact absurd z zq
      · exact h.rcv q i row' ns' m h1 h2 h3 h4
/-- an event that is no save -/
theorem RInv.event (h : RInv rows nv notes nu) (hr : rows[p]? = some row) (hs : nu[p]? = some ns) (hn : nv[p]? = some n) {e : Int} (e0 : e ≠ 0) {notes' : List (Option Int)} (hext : ∀ m v, noteN notes m = some v → noteN notes' m = some v)
    (hsend : 0 < e → noteN notes' e = some n) (hrecv : e < 0 → ∃ v, noteN notes' (0 - e) = some v ∧ v ≤ n) : RInv (rows.set p (row ++ [e])) nv notes' nu := by
  obtain ⟨r1, r2, n', hn', r3⟩ := h.row p row ns hr hs
  rw [hn] at hn'
  cases hn'
  refine ⟨by rw [List.length_set]; exact h.l1, by rw [List.length_set]; exact h.l2, ?_, ?_, ?_⟩
  · intro q row' ns' h1 h2
    rcases set_cases h1 with ⟨rfl, rfl⟩ | ⟨zq, h1⟩
    · rw [hs] at h2
      cases h2
      rw [cnt_snoc, if_neg e0]
      exact ⟨r1, r2, n, hn, r3⟩
    · exact h.row q row' ns' h1 h2
  · intro q i row' ns' m h1 h2 h3 h4
    rcases set_cases h1 with ⟨rfl, rfl⟩ | ⟨zq, h1⟩
    · rw [hs] at h2
      cases h2
      rcases snoc_at h3 with ⟨zi, h3⟩ | ⟨zi, rfl⟩
      · obtain ⟨v', a, b⟩ := h.snd q i row ns m hr hs h3 h4
        exact ⟨v', hext _ _ a, by rw [take_snoc (by omega)]; exact b⟩
      · exact ⟨n, hsend h4, by rw [zi, take_snoc (Nat.le_refl _), List.take_length]; exact r3⟩
    · obtain ⟨v', a, b⟩ := h.snd q i row' ns' m h1 h2 h3 h4
      exact ⟨v', hext _ _ a, b⟩
  · intro q i row' ns' m h1 h2 h3 h4
    rcases set_cases h1 with ⟨rfl, rfl⟩ | ⟨zq, h1⟩
    · rw [hs] at h2
      cases h2
      rcases snoc_at h3 with ⟨zi, h3⟩ | ⟨zi, ze⟩
      · obtain ⟨v', x, a, b, c⟩ := h.rcv q i row ns m hr hs h3 h4
        exact ⟨v', x, hext _ _ a, by rw [take_snoc (by omega)]; exact b, c⟩
      · obtain ⟨v, a, b⟩ := hrecv (by omega)
        have em : 0 - e = m := by omega
        rw [em] at a
        exact ⟨v, n, a, by rw [zi, take_snoc (Nat.le_refl _), List.take_length]; exact r3, b⟩
    · obtain ⟨v', x, a, b, c⟩ := h.rcv q i row' ns' m h1 h2 h3 h4
      exact ⟨v', x, hext _ _ a, b, c⟩
end
/-- the numbers of the intervals as the plan goes on -/
def nuStep (r : Run) (nu : List (List Int)) : Act → List (List Int)
  | .save p => nu.set p (nu.getD p [] ++ [r.st.ns.getD p 0 + 1])
  | .send _ => nu
  | .recv p m => if mustK .rounds p (noteAt r m) r.st = true then nu.set p (nu.getD p [] ++ [(noteAt r m).getD 0]) else nu
def nuF (c : Nat) : List Act → Run × List (List Int) := fun as => as.foldl (fun x a => (stepK .rounds x.1 a, nuStep x.1 x.2 a)) (run0 c, List.replicate c [0])
theorem nuF_fst (c : Nat) (as : List Act) : (nuF c as).1 = runK .rounds c as := by
  unfold nuF runK
  generalize run0 c = r
  generalize List.replicate c [(0 : Int)] = nu
  induction as generalizing r nu with
  | nil => rfl
  | cons a as ih => exact ih _ _
def nuK (c : Nat) (as : List Act) : List (List Int) := (nuF c as).2
theorem nuK_snoc (c : Nat) (as : List Act) (a : Act) : nuK c (as ++ [a]) = nuStep (runK .rounds c as) (nuK c as) a := by
  unfold nuK
  rw [← nuF_fst]
  unfold nuF
  rw [List.foldl_append]
  rfl
theorem noteN_ext {notes : List (Option Int)} {x : Option Int} {m v : Int} (h : noteN notes m = some v) : noteN (notes ++ [x]) m = some v := by
  unfold noteN at h ⊢
  rw [List.getD_eq_getElem?_getD] at h ⊢
  by_cases z : (m - 1).toNat < notes.length
  · rw [List.getElem?_append_left z]; exact h
  · rw [List.getElem?_eq_none (by omega)] at h; cases h
theorem Plan.nums {c : Nat} {as : List Act} {o : List (Int × Int)} {u : Nat} (h : Plan c as o u) : RInv (runK .rounds c as).rows (runK .rounds c as).st.ns (runK .rounds c as).notes (nuK c as) := by
  induction h with
  | nil =>
    refine ⟨?_, ?_, ?_, ?_, ?_⟩
    · show (List.replicate c (0 : Int)).length = (List.replicate c ([] : List Int)).length; rw [List.length_replicate, List.length_replicate]
    · show (List.replicate c [(0 : Int)]).length = (List.replicate c ([] : List Int)).length; rw [List.length_replicate, List.length_replicate]
    · intro p row ns h1 h2
      have e1 := List.eq_of_mem_replicate (List.mem_of_getElem? (show (List.replicate c ([] : List Int))[p]? = some row from h1))
      have e2 := List.eq_of_mem_replicate (List.mem_of_getElem? (show (List.replicate c [(0 : Int)])[p]? = some ns from h2))
      subst e1 e2
      have hp : p < c := by have := (List.getElem?_eq_some_iff.mp h1).1; rw [show (runK .rounds c []).rows = List.replicate c [] from rfl, List.length_replicate] at this; exact this
      exact ⟨rfl, List.pairwise_singleton _ _, 0, by show (List.replicate c (0 : Int))[p]? = _; rw [List.getElem?_replicate, if_pos hp], rfl⟩
    · intro p i row ns m h1 h2 h3
      have e1 := List.eq_of_mem_replicate (List.mem_of_getElem? (show (List.replicate c ([] : List Int))[p]? = some row from h1))
      subst e1
      simp at h3
    · intro p i row ns m h1 h2 h3
      have e1 := List.eq_of_mem_replicate (List.mem_of_getElem? (show (List.replicate c ([] : List Int))[p]? = some row from h1))
      subst e1
      simp at h3
  | @save as o u p g hp ih =>
    have gr := g.run (k := .rounds)
    have rl := gr.len
    rw [runK_snoc, nuK_snoc]
    generalize runK .rounds c as = r at ih rl gr
    generalize nuK c as = nu at ih
    obtain ⟨rp, hr⟩ : ∃ x, r.rows[p]? = some x := ⟨_, List.getElem?_eq_getElem (by omega)⟩
    obtain ⟨nsp, hs⟩ : ∃ x, nu[p]? = some x := ⟨_, List.getElem?_eq_getElem (by rw [ih.l2]; omega)⟩
    obtain ⟨np, hn⟩ : ∃ x, r.st.ns[p]? = some x := ⟨_, List.getElem?_eq_getElem (by rw [ih.l1]; omega)⟩
    have z := ih.save hr hs hn (v := r.st.ns.getD p 0 + 1) (by rw [getDx hn]; omega)
    show RInv (app r.rows p [0]) (r.st.ns.set p (r.st.ns.getD p 0 + 1)) r.notes (nu.set p (nu.getD p [] ++ [r.st.ns.getD p 0 + 1]))
    rw [app_row hr, getDx hs]
    exact z
  | @send as o u p g hp hu ih =>
    have gr := g.run (k := .rounds)
    have rl := gr.len
    rw [runK_snoc, nuK_snoc]
    generalize runK .rounds c as = r at ih rl gr
    generalize nuK c as = nu at ih
    obtain ⟨rp, hr⟩ : ∃ x, r.rows[p]? = some x := ⟨_, List.getElem?_eq_getElem (by omega)⟩
    obtain ⟨nsp, hs⟩ : ∃ x, nu[p]? = some x := ⟨_, List.getElem?_eq_getElem (by rw [ih.l2]; omega)⟩
    obtain ⟨np, hn⟩ : ∃ x, r.st.ns[p]? = some x := ⟨_, List.getElem?_eq_getElem (by rw [ih.l1]; omega)⟩
    show RInv (app r.rows p [((r.notes.length + 1 : Nat) : Int)]) r.st.ns (r.notes ++ [some (r.st.ns.getD p 0)]) nu
    rw [app_row hr, getDx hn]
    refine ih.event hr hs hn (by omega) (fun m v hv => noteN_ext hv) (fun _ => ?_) fun z => by omega
    unfold noteN
    have e : (((r.notes.length + 1 : Nat) : Int) - 1).toNat = r.notes.length := by omega
    rw [e, List.getD_eq_getElem?_getD, List.getElem?_append_right (Nat.le_refl _), Nat.sub_self]
    rfl
  | @recv as o u p j m q g hp hj hq ih =>
    have gr := g.run (k := .rounds)
    have rl := gr.len
    obtain ⟨m1, m2⟩ := g.mem _ (List.mem_of_getElem? hj)
    obtain ⟨hna, hok⟩ := noteAt_ok gr m1 m2
    rw [runK_snoc, nuK_snoc]
    generalize runK .rounds c as = r at ih rl gr hna hok
    generalize nuK c as = nu at ih
    obtain ⟨v, hv⟩ := Option.isSome_iff_exists.mp hok
    obtain ⟨rp, hr⟩ : ∃ x, r.rows[p]? = some x := ⟨_, List.getElem?_eq_getElem (by omega)⟩
    obtain ⟨nsp, hs⟩ : ∃ x, nu[p]? = some x := ⟨_, List.getElem?_eq_getElem (by rw [ih.l2]; omega)⟩
    obtain ⟨np, hn⟩ : ∃ x, r.st.ns[p]? = some x := ⟨_, List.getElem?_eq_getElem (by rw [ih.l1]; omega)⟩
    have hpl : p < r.rows.length := by omega
    have hvN : noteN r.notes (0 - (0 - m)) = some v := by rw [show (0 - (0 - m) : Int) = m by omega]; exact hv
    show RInv (app r.rows p ((if mustK .rounds p (noteAt r m) r.st = true then [0] else []) ++ [0 - m])) (recvK .rounds p (noteAt r m) r.st).ns r.notes (if mustK .rounds p (noteAt r m) r.st = true then nu.set p (nu.getD p [] ++ [(noteAt r m).getD 0]) else nu)
    rw [hv]
    by_cases e : r.st.ns.getD p 0 < v
    · have em : mustK .rounds p (some v) r.st = true := decide_eq_true e
      have er : (recvK .rounds p (some v) r.st).ns = r.st.ns.set p v := by
        show (if r.st.ns.getD p 0 < v then ({ r.st with w := r.st.w + 1, ns := r.st.ns.set p v } : RSt) else r.st).ns = _
        rw [if_pos e]
      rw [if_pos em, if_pos em, er, ← app_app hpl, app_row hr, getDx hs]
      have z := ih.save hr hs hn (v := v) (by rw [getDx hn] at e; exact e)
      have h2 : (r.rows.set p (rp ++ [0]))[p]? = some (rp ++ [0]) := List.getElem?_set_self hpl
      rw [app_row h2]
      exact z.event h2 (List.getElem?_set_self (by rw [ih.l2]; exact hpl)) (List.getElem?_set_self (by rw [ih.l1]; exact hpl)) (by omega) (fun m v hv => hv) (fun z => by omega) fun _ => ⟨v, hvN, Int.le_refl _⟩
    · have em : ¬ mustK .rounds p (some v) r.st = true := fun z => e (of_decide_eq_true z)
      have er : (recvK .rounds p (some v) r.st).ns = r.st.ns := by
        show (if r.st.ns.getD p 0 < v then ({ r.st with w := r.st.w + 1, ns := r.st.ns.set p v } : RSt) else r.st).ns = _
        rw [if_neg e]
      rw [if_neg em, if_neg em, er, List.nil_append, app_row hr]
      exact ih.event hr hs hn (by omega) (fun m v hv => hv) (fun z => by omega) fun _ => ⟨v, hvN, by rw [getDx hn] at e; omega⟩
section
variable {rows : List (List Int)} {nv : List Int} {notes : List (Option Int)} {nu : List (List Int)}
theorem RInv.sent (h : RInv rows nv notes nu) {m : Int} {p k : Nat} (hm : 0 < m) (hh : hap rows m = some (p, k)) : ∃ ns v, nu[p]? = some ns ∧ noteN notes m = some v ∧ ns[k]? = some v := by
  obtain ⟨row, i, h1, h2, h3, _⟩ := hap_AtQ hh
  have hp := (List.getElem?_eq_some_iff.mp h1).1
  obtain ⟨ns, hs⟩ : ∃ x, nu[p]? = some x := ⟨_, List.getElem?_eq_getElem (by rw [h.l2]; exact hp)⟩
  obtain ⟨v, a, b⟩ := h.snd p i row _ m h1 hs h2 hm
  exact ⟨_, v, hs, a, by rw [h3]; exact b⟩
theorem RInv.recv (h : RInv rows nv notes nu) {m : Int} {p k : Nat} (hm : 0 < m) (hh : hap rows (0 - m) = some (p, k)) : ∃ ns v x, nu[p]? = some ns ∧ noteN notes m = some v ∧ ns[k]? = some x ∧ v ≤ x := by
  obtain ⟨row, i, h1, h2, h3, _⟩ := hap_AtQ hh
  have hp := (List.getElem?_eq_some_iff.mp h1).1
  obtain ⟨ns, hs⟩ : ∃ x, nu[p]? = some x := ⟨_, List.getElem?_eq_getElem (by rw [h.l2]; exact hp)⟩
  obtain ⟨v, x, a, b, c⟩ := h.rcv p i row _ m h1 hs h2 hm
  exact ⟨_, v, x, hs, a, by rw [h3]; exact b, c⟩
theorem RInv.pw (h : RInv rows nv notes nu) {p : Nat} {ns : List Int} (hs : nu[p]? = some ns) : ns.Pairwise (· < ·) := by
  have hp : p < rows.length := by rw [← h.l2]; exact (List.getElem?_eq_some_iff.mp hs).1
  exact (h.row p _ ns (List.getElem?_eq_getElem hp) hs).2.1
theorem RInv.dz (h : RInv rows nv notes nu) {t : Nat × Nat} {n : Nat} {m : Int} (hd : Dz rows (stepB rows) (rbB rows t) n m) : ∃ ns v c x, nu[t.1]? = some ns ∧ noteN notes m = some v ∧ c < t.2 ∧ ns[c]? = some x ∧ v ≤ x := by
  induction hd with
  | @base m h1 h2 =>
    have m1 := recv_pos h1
    obtain ⟨⟨q, j⟩, hu⟩ := recv_hap h1
    obtain ⟨e1, e2⟩ := (rb_iff hu).mp h2
    dsimp only at e1 e2
    subst e1
    obtain ⟨ns, v, x, a, b, c, d⟩ := h.recv m1 hu
    exact ⟨ns, v, j, x, a, b, e2, c, d⟩
  | @step n m t' h1 h2 h3 ih =>
    have m1 := recv_pos h1
    obtain ⟨⟨q, j⟩, hu⟩ := recv_hap h1
    rw [step_at hu] at h2
    obtain ⟨k, ht2, hjk⟩ := sb_iff.mp h2
    dsimp only at ht2 hjk
    obtain ⟨ns, v, x, a, b, c, d⟩ := h.recv m1 hu
    obtain ⟨ns', v', a', b', c'⟩ := h.sent (recv_pos h3.mem) ht2
    rw [a] at a'
    cases a'
    obtain ⟨ns2, v2, c2, x2, g1, g2, g3, g4, g5⟩ := ih
    rw [b'] at g2
    cases g2
    have := pw_le (h.pw a) hjk c c'
    exact ⟨ns2, v, c2, x2, g1, b, g3, g4, by omega⟩
theorem RInv.nozz (h : RInv rows nv notes nu) {s : Nat × Nat} {ms : List Int} : ¬ Zz rows s s ms := by
  rintro ⟨hne, hz⟩
  cases ms with
  | nil => exact hne rfl
  | cons m ms =>
    obtain ⟨ns, v, c, x, g1, g2, g3, g4, g5⟩ := h.dz (zz_dz hz)
    have hsb : sbB rows m s = true := hz.2.1
    obtain ⟨k, hk, hsk⟩ := sb_iff.mp hsb
    have m0 : m ∈ recvL rows := (zz_dz hz).mem
    obtain ⟨ns', v', a', b', c'⟩ := h.sent (recv_pos m0) hk
    rw [g1] at a'
    cases a'
    rw [g2] at b'
    cases b'
    have := pw_lt (h.pw g1) (by omega : c < k) g4 c'
    omega
theorem RInv.lost {many most : Nat} (h : RInv rows nv notes nu) (hG : Good many most rows) (h6 : many ≤ 6) (h60 : most ≤ 60) : lostU rows = [] := by
  unfold lostU
  rw [List.filter_eq_nil_iff]
  intro x hx
  obtain ⟨p, n, hp, rfl⟩ := allU_mem hx
  have hn : ∀ y, (prs rows)[p]? = some y → n ≤ y := by
    intro y hy
    unfold allU at hx
    obtain ⟨q, hq, hm⟩ := List.mem_flatMap.mp hx
    unfold rowU at hm
    obtain ⟨k, hk, e⟩ := List.mem_map.mp hm
    have hk := List.mem_range.mp hk
    obtain ⟨e1, e2⟩ := Prod.mk.inj e
    have e1 : q = p := Int.ofNat.inj e1
    have e2 : k = n := Int.ofNat.inj e2
    subst e1
    subst e2
    rw [hy] at hk
    have hk : k < y + 1 := hk
    omega
  intro z
  have z : lostB rows (p, n) = true := z
  obtain ⟨ms, hz⟩ := (lost_zz hG h6 h60 (s := (p, n)) hp hn).mp z
  exact h.nozz hz
end
end Sv
set_option maxHeartbeats 1000000
set_option autoImplicit false
namespace Sv
open PySem PySem.Spec PyProof.Rows L2
structure Free (rows : List (List Int)) : Prop where
  lost : lostU rows = []
  thru : ∀ s : Nat × Nat, s.1 < rows.length → (∀ x, (prs rows)[s.1]? = some x → s.2 ≤ x) → ∃ L, Thru rows [s] L
def Saves : RK → Prop
  | .none => False
  | _ => True
theorem Plan.free {k : RK} (hk : Saves k) {c : Nat} {as : List Act} {o : List (Int × Int)} {u : Nat} (h : Plan c as o u) (c1 : 1 ≤ c) (c6 : c ≤ 6) (a30 : as.length ≤ 30) : Free (runK k c as).rows := by
  have hG := h.good (k := k) c1 c6
  have e60 : 2 * as.length ≤ 60 := by omega
  have trk : isBusy k → Free (runK k c as).rows := fun hb => by
    have ht := ord_trk (h.ord hb).ord hG
    exact ⟨trk_lost hG ht, fun s h1 h2 => ⟨_, vec_thru hG ht h1 h2⟩⟩
  cases k with
  | none => exact hk.elim
  | sent => exact trk trivial
  | always => exact trk trivial
  | rounds =>
    have hn := h.nums
    refine ⟨hn.lost hG (by decide) e60, fun s h1 h2 => ?_⟩
    have hc : Ch (runK .rounds c as).rows [s] := ⟨fun t ht => by rw [List.mem_singleton.mp ht]; exact h1, fun t ht => by rw [List.mem_singleton.mp ht]; exact h2, fun a ha b hb _ => by rw [List.mem_singleton.mp ha, List.mem_singleton.mp hb]⟩
    refine (dual hG (by decide) e60 hc).mpr fun a ha b hb ms => ?_
    rw [List.mem_singleton.mp ha, List.mem_singleton.mp hb]
    exact hn.nozz
theorem SK.newRP {S S1 S2 : Sto} {p b : Addr} (sg : SG S S1) (np : S p = none) (nb : S b = none) (k : SK (RP p b) S1 S2) : SG S S2 := fun a o _ e => by
  refine k a o (fun z => ?_) (sg a o (fun z => z) e)
  rcases z with rfl | rfl
  · rw [np] at e; cases e
  · rw [nb] at e; cases e
end Sv
set_option maxHeartbeats 1000000
set_option autoImplicit false
namespace Sv
open PySem PySem.Spec PyProof.Rows L2
inductive Sm (S : Sto) : Nat → D → D → Prop
  | non (n : Nat) : Sm S (n + 1) .non .non
  | bl (n : Nat) (b : Bool) : Sm S (n + 1) (.bl b) (.bl b)
  | int (n : Nat) (i : Int) : Sm S (n + 1) (.int i) (.int i)
  | str (n : Nat) (x : Str) : Sm S (n + 1) (.str x) (.str x)
  | tup {n : Nat} {xs ys : List D} : xs.length = ys.length → xs.length ≤ 1000 → (∀ (i : Nat) (x y : D), xs[i]? = some x → ys[i]? = some y → Sm S n x y) → Sm S (n + 1) (.tup xs) (.tup ys)
  | lst {n : Nat} {a b : Addr} {xs ys : List D} : S a = some (.lst xs) → S b = some (.lst ys) → xs.length = ys.length → xs.length ≤ 1000 → (∀ (i : Nat) (x y : D), xs[i]? = some x → ys[i]? = some y → Sm S n x y) → Sm S (n + 1) (.ref a) (.ref b)
theorem Sm.keep {S S' : Sto} (k : SG S S') : ∀ {n : Nat} {x y : D}, Sm S n x y → Sm S' n x y := by
  intro n x y h
  induction h with
  | non n => exact .non n
  | bl n b => exact .bl n b
  | int n i => exact .int n i
  | str n x => exact .str n x
  | tup h1 h2 _ ih => exact .tup h1 h2 ih
  | lst h1 h2 h3 h4 _ ih => exact .lst (k _ _ (fun z => z) h1) (k _ _ (fun z => z) h2) h3 h4 ih
def smB : Nat → DTS
  | 0 => dStop
  | n + 1 => Bs_law_same_6ecd (smB n)
/-- what the body asks of two sequences of one kind -/
theorem sm_seq {n : Nat} {x y : D} {xs ys : List D} {t : String} {S : Sto} {R : DK} (hx : seqOf S x = some xs) (hy : seqOf S y = some ys) (tx : ∀ S', SG S S' → tyD S' x = some t) (ty : ∀ S', SG S S' → tyD S' y = some t) (ht : t = "tuple" ∨ t = "list")
    (kx : ∀ S', SG S S' → seqOf S' x = some xs) (ky : ∀ S', SG S S' → seqOf S' y = some ys) (hl : xs.length = ys.length) (h9 : xs.length ≤ 1000)
    (hi : ∀ (i : Nat) (u v : D) (S' : Sto) (R' : DK), xs[i]? = some u → ys[i]? = some v → SG S S' → (∀ S'', SG S' S'' → R' (.bl true) S'') → dFn 4 (smB n) [u, v] S' R')
    (k : ∀ S', SG S S' → R (.bl true) S') : dFn 4 (smB (n + 1)) [x, y] S R := by
  have kt : ∃ b1 b2, kitB t "tuple" = some b1 ∧ kitB t "list" = some b2 ∧ t ∈ ["NoneType", "bool", "int", "str", "tuple", "list", "dict"] ∧ isSeq t = true := by
    rcases ht with rfl | rfl
    · exact ⟨true, false, by decide +kernel, by decide +kernel, by simp, by decide +kernel⟩
    · exact ⟨false, true, by decide +kernel, by decide +kernel, by simp, by decide +kernel⟩
  obtain ⟨b1, b2, k1, k2, hm, hs⟩ := kt
  refine ⟨_, rfl, t, ty S (.refl S), hm, _, rfl, ?_⟩
  rw [hs]
  refine goT ⟨_, rfl, _, _, t, b1, rfl, ty S (.refl S), k1, _, rfl, _, _, t, b2, rfl, ty S (.refl S), k2, rfl, fun q nq => ?_⟩
  have sgq : SG S (S.put q (.lst [.bl b1, .bl b2])) := .new nq
  have hq : (S.put q (.lst [.bl b1, .bl b2])) q = some (.lst ([b1, b2].map D.bl)) := Sto.same
  generalize S.put q (.lst [.bl b1, .bl b2]) = S1 at sgq hq ⊢
  refine ⟨_, rfl, _, _, t, b1, rfl, tx S1 sgq, k1, _, rfl, _, _, t, b2, rfl, tx S1 sgq, k2, rfl, fun r nr => ?_⟩
  have sgr : SG S1 (S1.put r (.lst [.bl b1, .bl b2])) := .new nr
  have hr : (S1.put r (.lst [.bl b1, .bl b2])) r = some (.lst ([b1, b2].map D.bl)) := Sto.same
  have hq2 := sgr _ _ (fun z => z) hq
  have sg2 := sgq.trans sgr
  generalize S1.put r (.lst [.bl b1, .bl b2]) = S2 at sgr hr hq2 sg2 ⊢
  have pb : Pys S2 ([b1, b2].map D.bl) ([b1, b2].map PyData.bool) := .cons (.bl _) (.cons (.bl _) .nil)
  have sb : SeqAt.shaped (.list ([b1, b2].map PyData.bool)) = true := by cases b1 <;> cases b2 <;> decide +kernel
  refine ⟨_, rfl, .list ([b1, b2].map PyData.bool), .list ([b1, b2].map PyData.bool), .lst hr pb, .lst hq2 pb, sb, sb, _, rfl, ?_⟩
  rw [eqv_shaped sb]
  refine goF ⟨_, rfl, _, _, rfl, kx S2 sg2, _, rfl, _, _, rfl, ky S2 sg2, _, rfl, ?_⟩
  have e1 : (decide (((xs.length : Nat) : Int) = ((ys.length : Nat) : Int)) ^^ true) = false := by rw [hl]; simp
  rw [e1]
  refine goF ⟨_, rfl, _, _, rfl, ky S2 sg2, (ys.length : Nat), rfl, by omega, by omega, ?_⟩
  refine lc_fun ⟨rgD 0 ((ys.length : Nat) : Int).toNat, fun _ => True⟩ (fun _ => none) (by show (rgD 0 ((ys.length : Nat) : Int).toNat).length ≤ _; rw [rg_len]; omega) (fun _ _ => True.intro) (fun d hd S3 sg3 K Kn hk hn => turn_n ?_) fun z S3 nz sg3 hz => ?_
  · obtain ⟨i, hi'⟩ := List.mem_iff_getElem?.mp hd
    obtain ⟨hil, hd'⟩ := rg_at hi'
    rw [Int.zero_add] at hd'
    subst hd'
    have hil : i < ys.length := by omega
    have sg03 := sg2.trans sg3
    obtain ⟨u, hu⟩ : ∃ u, xs[i]? = some u := ⟨_, List.getElem?_eq_getElem (by omega)⟩
    obtain ⟨v, hv⟩ : ∃ v, ys[i]? = some v := ⟨_, List.getElem?_eq_getElem hil⟩
    refine ⟨_, rfl, _, rfl, _, (i : Int), _, kx S3 sg03, rfl, atI_nat hu, _, rfl, _, rfl, _, (i : Int), _, ky S3 sg03, rfl, atI_nat hv, rfl, hi i u v S3 _ hu hv sg03 fun S4 sg4 => ⟨_, rfl, goF (hn rfl _ sg4)⟩⟩
  · have e : (⟨rgD 0 ((ys.length : Nat) : Int).toNat, fun _ => True⟩ : Src).items.filterMap (fun _ => (Option.none : Option D)) = [] := by
      rw [List.filterMap_eq_nil_iff]
      exact fun _ _ => rfl
    rw [e] at hz
    refine ⟨rfl, fun w nw => ⟨.list [], .list [], .lst ((SK.new (P := fun _ => False) nw) _ _ (fun z => z) hz) .nil, .lst Sto.same .nil, by decide +kernel, by decide +kernel, ?_⟩⟩
    have e2 : (PyData.eqv (.list []) (.list []) ^^ false) = true := by decide +kernel
    rw [e2]
    exact k _ ((sg2.trans sg3).trans (.new nw))
theorem w_sameK : ∀ {n : Nat} {x y : D} {S : Sto} {R : DK}, Sm S n x y → (∀ S', SG S S' → R (.bl true) S') → dFn 4 (smB n) [x, y] S R := by
  intro n
  induction n with
  | zero => intro x y S R h; cases h
  | succ n ih =>
    intro x y S R h k
    cases h with
    | non _ =>
      exact ⟨_, rfl, "NoneType", rfl, by simp, _, rfl, goF ⟨_, rfl, _, _, _, false, rfl, rfl, by decide +kernel, _, rfl, goF ⟨_, rfl, _, rfl, goT ⟨_, rfl, k S (.refl S)⟩⟩⟩⟩
    | bl _ b =>
      refine ⟨_, rfl, "bool", rfl, by simp, _, rfl, goF ⟨_, rfl, _, _, _, false, rfl, rfl, by decide +kernel, _, rfl, goF ⟨_, rfl, _, rfl, goF ⟨_, rfl, _, _, _, false, rfl, rfl, by decide +kernel, _, rfl, goF ?_⟩⟩⟩⟩
      refine ⟨_, rfl, _, _, _, true, rfl, rfl, by decide +kernel, _, rfl, goT ⟨_, rfl, _, _, _, true, rfl, rfl, by decide +kernel, _, rfl, _, _, _, true, rfl, rfl, by decide +kernel, _, rfl, goT ⟨_, rfl, _, rfl, ?_⟩⟩⟩
      have e : (decide (b = b) ^^ false) = true := by simp
      show R (.bl (decide (b = b) ^^ false)) S
      rw [e]
      exact k S (.refl S)
    | int _ i =>
      refine ⟨_, rfl, "int", rfl, by simp, _, rfl, goF ⟨_, rfl, _, _, _, false, rfl, rfl, by decide +kernel, _, rfl, goF ⟨_, rfl, _, rfl, goF ⟨_, rfl, _, _, _, false, rfl, rfl, by decide +kernel, _, rfl, goF ?_⟩⟩⟩⟩
      refine ⟨_, rfl, _, _, _, true, rfl, rfl, by decide +kernel, _, rfl, goT ⟨_, rfl, _, _, _, false, rfl, rfl, by decide +kernel, _, rfl, _, _, _, false, rfl, rfl, by decide +kernel, _, rfl, goT ⟨_, rfl, _, rfl, ?_⟩⟩⟩
      have e : (decide (i = i) ^^ false) = true := by simp
      show R (.bl (decide (i = i) ^^ false)) S
      rw [e]
      exact k S (.refl S)
    | str _ z =>
      refine ⟨_, rfl, "str", rfl, by simp, _, rfl, goF ⟨_, rfl, _, _, _, false, rfl, rfl, by decide +kernel, _, rfl, goF ⟨_, rfl, _, rfl, goF ⟨_, rfl, _, _, _, true, rfl, rfl, by decide +kernel, _, rfl, goT ?_⟩⟩⟩⟩
      refine ⟨_, rfl, _, _, _, true, rfl, rfl, by decide +kernel, _, rfl, goT ⟨_, rfl, _, rfl, ?_⟩⟩
      have e : (decide (z = z) ^^ false) = true := by simp
      show R (.bl (decide (z = z) ^^ false)) S
      rw [e]
      exact k S (.refl S)
    | @tup _ xs ys h1 h2 h3 =>
      exact sm_seq (t := "tuple") rfl rfl (fun _ _ => rfl) (fun _ _ => rfl) (.inl rfl) (fun _ _ => rfl) (fun _ _ => rfl) h1 h2 (fun i u v S' R' hu hv sg hk => ih ((h3 i u v hu hv).keep sg) hk) k
    | @lst _ a b xs ys ha hb h1 h2 h3 =>
      have tl : ∀ {c : Addr} {zs : List D}, S c = some (.lst zs) → ∀ S', SG S S' → tyD S' (.ref c) = some "list" := fun {c zs} h S' sg => by
        show (match S' c with
          | some (.lst _) => some "list"
          | some (.dK _) => some "dict"
          | _ => none) = _
        rw [sg _ _ (fun z => z) h]
      exact sm_seq (t := "list") (seqOf_lst ha) (seqOf_lst hb) (tl ha) (tl hb) (.inr rfl) (fun S' sg => seqOf_lst (sg _ _ (fun z => z) ha)) (fun S' sg => seqOf_lst (sg _ _ (fun z => z) hb)) h1 h2 (fun i u v S' R' hu hv sg hk => ih ((h3 i u v hu hv).keep sg) hk) k
end Sv
set_option maxHeartbeats 1000000
set_option autoImplicit false
namespace Sv
open PySem PySem.Spec PyProof.Rows L2
structure LM where
  sp : List Bool
  hd : List Bool
  nu : List Int
  t : Nat
def LM.ok (m : LM) (c : Nat) : Prop := m.sp.length = c ∧ m.hd.length = c ∧ m.nu.length = c
def lm0 (c : Nat) : LM := ⟨List.replicate c false, List.replicate c false, List.replicate c 0, 0⟩
theorem lm0_ok (c : Nat) : (lm0 c).ok c := ⟨List.length_replicate .., List.length_replicate .., List.length_replicate ..⟩
def isR : RK → Bool
  | .rounds => true
  | _ => false
def savedM (k : RK) (q : Nat) (m : LM) : LM := { m with sp := m.sp.set q false, hd := m.hd.set q false, nu := if isR k = true then m.nu.set q (m.nu.getD q 0 + 1) else m.nu }
def sentLm (q : Nat) (m : LM) : LM := { m with sp := m.sp.set q true }
def noteM (k : RK) (q : Nat) (m : LM) : Option Int := if isR k = true then some (m.nu.getD q 0) else none
def mustM (k : RK) (q : Nat) (n : Option Int) (m : LM) : Bool := match k with
  | .none => false
  | .sent => m.sp.getD q false
  | .always => m.sp.getD q false || m.hd.getD q false
  | .rounds => decide (m.nu.getD q 0 < n.getD 0)
def wantsM (k : RK) (q : Nat) (n : Option Int) (m : LM) : LM :=
  { sp := if mustM k q n m = true then m.sp.set q false else m.sp, hd := m.hd.set q true, nu := if isR k = true then m.nu.set q (max (n.getD 0) (m.nu.getD q 0)) else m.nu, t := m.t + (if mustM k q n m = true then 1 else 0) }
theorem savedM_ok {k : RK} {q c : Nat} {m : LM} (h : m.ok c) : (savedM k q m).ok c := by
  refine ⟨(List.length_set ..).trans h.1, (List.length_set ..).trans h.2.1, ?_⟩
  show (if isR k = true then m.nu.set q (m.nu.getD q 0 + 1) else m.nu).length = c
  split
  · exact (List.length_set ..).trans h.2.2
  · exact h.2.2
theorem sentLm_ok {q c : Nat} {m : LM} (h : m.ok c) : (sentLm q m).ok c := ⟨(List.length_set ..).trans h.1, h.2⟩
theorem wantsM_ok {k : RK} {q c : Nat} {n : Option Int} {m : LM} (h : m.ok c) : (wantsM k q n m).ok c := by
  refine ⟨?_, (List.length_set ..).trans h.2.1, ?_⟩
  · show (if mustM k q n m = true then m.sp.set q false else m.sp).length = c
    split
    · exact (List.length_set ..).trans h.1
    · exact h.1
  · show (if isR k = true then m.nu.set q (max (n.getD 0) (m.nu.getD q 0)) else m.nu).length = c
    split
    · exact (List.length_set ..).trans h.2.2
    · exact h.2.2
/-- the law's own rule knows what the rule knows -/
structure Agree (k : RK) (c : Nat) (st : RSt) (m : LM) : Prop where
  t : m.t = st.w
  sent : k = .sent → m.sp = st.bs
  always : k = .always → ∀ p, p < c → st.bs.getD p false = (m.sp.getD p false || m.hd.getD p false)
  rounds : k = .rounds → m.nu = st.ns
theorem agree0 (k : RK) (c : Nat) : Agree k c (rst0 c) (lm0 c) := by
  refine ⟨rfl, fun _ => rfl, fun _ p hp => ?_, fun _ => rfl⟩
  show (List.replicate c false).getD p false = ((List.replicate c false).getD p false || (List.replicate c false).getD p false)
  cases (List.replicate c false).getD p false <;> rfl
theorem set_atB {l : List Bool} {q p : Nat} {b : Bool} : (l.set q b).getD p false = if q = p ∧ q < l.length then b else l.getD p false := by
  rw [List.getD_eq_getElem?_getD, List.getD_eq_getElem?_getD, List.getElem?_set]
  by_cases z : q = p
  · subst z
    by_cases h : q < l.length
    · rw [if_pos rfl, if_pos h, if_pos ⟨rfl, h⟩]; rfl
    · rw [if_pos rfl, if_neg h, if_neg fun x => h x.2, List.getElem?_eq_none (by omega)]
  · rw [if_neg z, if_neg fun x => z x.1]
section
variable {k : RK} {c q : Nat} {st : RSt} {m : LM} {n : Option Int}
theorem Agree.save (h : Agree k c st m) (ho : st.ok c) (hm : m.ok c) (hq : q < c) : Agree k c (saveK k q st) (savedM k q m) := by
  refine ⟨?_, fun e => ?_, fun e p hp => ?_, fun e => ?_⟩
  · cases k <;> exact h.t
  · subst e
    show m.sp.set q false = st.bs.set q false
    rw [h.sent rfl]
  · subst e
    show (st.bs.set q false).getD p false = ((m.sp.set q false).getD p false || (m.hd.set q false).getD p false)
    rw [set_atB, set_atB, set_atB, h.always rfl p hp, ho.1, hm.1, hm.2.1]
    split <;> rfl
  · subst e
    show m.nu.set q (m.nu.getD q 0 + 1) = st.ns.set q (st.ns.getD q 0 + 1)
    rw [h.rounds rfl]
theorem Agree.send (h : Agree k c st m) (ho : st.ok c) (hm : m.ok c) (hq : q < c) : Agree k c (sendK k q st) (sentLm q m) ∧ noteM k q m = noteK k q st := by
  refine ⟨⟨?_, fun e => ?_, fun e p hp => ?_, fun e => ?_⟩, ?_⟩
  · cases k <;> exact h.t
  · subst e
    show m.sp.set q true = st.bs.set q true
    rw [h.sent rfl]
  · subst e
    show (st.bs.set q true).getD p false = ((m.sp.set q true).getD p false || m.hd.getD p false)
    rw [set_atB, set_atB, h.always rfl p hp, ho.1, hm.1]
    split <;> rfl
  · subst e
    exact h.rounds rfl
  · cases k with
    | rounds =>
      show some (m.nu.getD q 0) = some (st.ns.getD q 0)
      rw [h.rounds rfl]
    | _ => rfl
theorem Agree.must (h : Agree k c st m) (hq : q < c) : mustM k q n m = mustK k q n st := by
  cases k with
  | none => rfl
  | sent =>
    show m.sp.getD q false = st.bs.getD q false
    rw [h.sent rfl]
  | always => exact (h.always rfl q hq).symm
  | rounds =>
    show decide (m.nu.getD q 0 < n.getD 0) = decide (st.ns.getD q 0 < n.getD 0)
    rw [h.rounds rfl]
theorem Agree.recv (h : Agree k c st m) (ho : st.ok c) (hm : m.ok c) (hq : q < c) : Agree k c (recvK k q n st) (wantsM k q n m) := by
  have hmu := h.must (n := n) hq
  refine ⟨?_, fun e => ?_, fun e p hp => ?_, fun e => ?_⟩
  · show m.t + (if mustM k q n m = true then 1 else 0) = (recvK k q n st).w
    rw [hmu, h.t]
    cases k with
    | none => rfl
    | sent =>
      show st.w + (if st.bs.getD q false = true then 1 else 0) = (if st.bs.getD q false = true then ({ st with w := st.w + 1, bs := st.bs.set q false } : RSt) else st).w
      split <;> rfl
    | always =>
      show st.w + (if st.bs.getD q false = true then 1 else 0) = (if st.bs.getD q false = true then ({ st with w := st.w + 1, bs := (st.bs.set q false).set q true } : RSt) else { st with bs := st.bs.set q true }).w
      split <;> rfl
    | rounds =>
      show st.w + (if decide (st.ns.getD q 0 < n.getD 0) = true then 1 else 0) = (if st.ns.getD q 0 < n.getD 0 then ({ st with w := st.w + 1, ns := st.ns.set q (n.getD 0) } : RSt) else st).w
      by_cases z : st.ns.getD q 0 < n.getD 0
      · rw [if_pos (decide_eq_true z), if_pos z]
      · rw [if_neg (by rw [decide_eq_true_iff]; exact z), if_neg z]; rfl
  · subst e
    show (if mustM .sent q n m = true then m.sp.set q false else m.sp) = (if st.bs.getD q false = true then ({ st with w := st.w + 1, bs := st.bs.set q false } : RSt) else st).bs
    rw [hmu, h.sent rfl]
    show (if st.bs.getD q false = true then _ else _) = _
    split <;> rfl
  · subst e
    have e1 : (recvK .always q n st).bs = st.bs.set q true := by
      show (if st.bs.getD q false = true then ({ st with w := st.w + 1, bs := (st.bs.set q false).set q true } : RSt) else { st with bs := st.bs.set q true }).bs = _
      split
      · exact List.set_set ..
      · rfl
    have hl : (wantsM .always q n m).hd.getD p false = if q = p ∧ q < c then true else m.hd.getD p false := by
      show (m.hd.set q true).getD p false = _
      rw [set_atB, hm.2.1]
    rw [e1, hl, set_atB, ho.1]
    by_cases z : q = p ∧ q < c
    · rw [if_pos z, if_pos z, Bool.or_true]
    · rw [if_neg z, if_neg z, h.always rfl p hp]
      have hs : (wantsM .always q n m).sp.getD p false = m.sp.getD p false := by
        show (if mustM .always q n m = true then m.sp.set q false else m.sp).getD p false = _
        split
        · rw [set_atB, hm.1, if_neg z]
        · rfl
      rw [hs]
  · subst e
    show m.nu.set q (max (n.getD 0) (m.nu.getD q 0)) = (if st.ns.getD q 0 < n.getD 0 then ({ st with w := st.w + 1, ns := st.ns.set q (n.getD 0) } : RSt) else st).ns
    rw [h.rounds rfl]
    by_cases z : st.ns.getD q 0 < n.getD 0
    · rw [if_pos z, show max (n.getD 0) (st.ns.getD q 0) = n.getD 0 by omega]
    · rw [if_neg z, show max (n.getD 0) (st.ns.getD q 0) = st.ns.getD q 0 by omega]
      exact set_getD
end
structure ModAt (S : Sto) (M a b v : Addr) (k : RK) (m : LM) : Prop where
  hM : S M = some (.lst [.str k.name, .ref a, .ref b, .ref v, .int (m.t : Nat)])
  ha : S a = some (.lst (m.sp.map D.bl))
  hb : S b = some (.lst (m.hd.map D.bl))
  hv : S v = some (.lst (intsD m.nu))
  n1 : M ≠ a ∧ M ≠ b ∧ M ≠ v
  n2 : a ≠ b ∧ a ≠ v ∧ b ≠ v
abbrev MP (M a b v : Addr) : Addr → Prop := fun x => x = M ∨ x = a ∨ x = b ∨ x = v
theorem ModAt.keep {S S' : Sto} {P : Addr → Prop} {M a b v : Addr} {k : RK} {m : LM} (h : ModAt S M a b v k m) (sk : SK P S S') (n : ∀ x, MP M a b v x → ¬ P x) : ModAt S' M a b v k m :=
  ⟨sk _ _ (n _ (.inl rfl)) h.hM, sk _ _ (n _ (.inr (.inl rfl))) h.ha, sk _ _ (n _ (.inr (.inr (.inl rfl)))) h.hb, sk _ _ (n _ (.inr (.inr (.inr rfl)))) h.hv, h.n1, h.n2⟩
theorem ModAt.some {S : Sto} {M a b v : Addr} {k : RK} {m : LM} (h : ModAt S M a b v k m) : ∀ x, MP M a b v x → ∃ o, S x = Option.some o := fun x hx => by
  rcases hx with rfl | rfl | rfl | rfl
  · exact ⟨_, h.hM⟩
  · exact ⟨_, h.ha⟩
  · exact ⟨_, h.hb⟩
  · exact ⟨_, h.hv⟩
theorem flat_b (c : Nat) : (List.replicate ((c : Nat) : Int).toNat [D.bl false]).flatten = (List.replicate c false).map D.bl := by
  rw [Int.toNat_natCast, flat_rep, List.map_replicate]
theorem flat_i (c : Nat) : (List.replicate ((c : Nat) : Int).toNat [D.int 0]).flatten = intsD (List.replicate c 0) := by
  rw [Int.toNat_natCast, flat_rep]
  unfold intsD
  rw [List.map_replicate]
theorem w_fresh {k : RK} {c : Nat} {S : Sto} {R : DK} (c9 : c ≤ 1000) (q : ∀ M a b v S', ModAt S' M a b v k (lm0 c) → SG S S' → (∀ x, MP M a b v x → S x = Option.none) → R (.ref M) S') : dFn 2 B_law_fresh_213b [.str k.name, .int (c : Nat)] S R := by
  refine ⟨_, rfl, rfl, fun p np => ⟨_, rfl, _, Sto.same, by omega, by omega, by decide, fun a na => ⟨rfl, fun p2 np2 => ⟨_, rfl, _, Sto.same, by omega, by omega, by decide, fun b nb => ⟨rfl, fun p3 np3 => ⟨_, rfl, _, Sto.same, by omega, by omega, by decide, fun v nv => ⟨rfl, fun M nM => ?_⟩⟩⟩⟩⟩⟩⟩
  have nx : ∀ {S : Sto} {p x : Addr} {o : Ob}, (S.put p o) x = Option.none → x ≠ p ∧ S x = Option.none := fun {S p x o} h => by
    have z : x ≠ p := fun z => by rw [z, Sto.same] at h; cases h
    exact ⟨z, by rw [Sto.ne z] at h; exact h⟩
  obtain ⟨ap, a0⟩ := nx na
  obtain ⟨p2a, h⟩ := nx np2
  obtain ⟨p2p, p20⟩ := nx h
  obtain ⟨bp2, h⟩ := nx nb
  obtain ⟨ba, h⟩ := nx h
  obtain ⟨bp, b0⟩ := nx h
  obtain ⟨p3b, h⟩ := nx np3
  obtain ⟨p3p2, h⟩ := nx h
  obtain ⟨p3a, h⟩ := nx h
  obtain ⟨p3p, p30⟩ := nx h
  obtain ⟨vp3, h⟩ := nx nv
  obtain ⟨vb, h⟩ := nx h
  obtain ⟨vp2, h⟩ := nx h
  obtain ⟨va, h⟩ := nx h
  obtain ⟨vp, v0⟩ := nx h
  obtain ⟨Mv, h⟩ := nx nM
  obtain ⟨Mp3, h⟩ := nx h
  obtain ⟨Mb, h⟩ := nx h
  obtain ⟨Mp2, h⟩ := nx h
  obtain ⟨Ma, h⟩ := nx h
  obtain ⟨Mp, M0⟩ := nx h
  refine q M a b v _ ⟨Sto.same, ?_, ?_, ?_, ⟨Ma, Mb, Mv⟩, ⟨Ne.symm ba, Ne.symm va, Ne.symm vb⟩⟩ ((SK.new np).trans ((SK.new na).trans ((SK.new np2).trans ((SK.new nb).trans ((SK.new np3).trans ((SK.new nv).trans (.new nM))))))) (fun x hx => ?_)
  · rw [Sto.ne (Ne.symm Ma), Sto.ne (Ne.symm va), Sto.ne (Ne.symm p3a), Sto.ne (Ne.symm ba), Sto.ne (Ne.symm p2a), Sto.same, flat_b]; rfl
  · rw [Sto.ne (Ne.symm Mb), Sto.ne (Ne.symm vb), Sto.ne (Ne.symm p3b), Sto.same, flat_b]; rfl
  · rw [Sto.ne (Ne.symm Mv), Sto.same, flat_i]; rfl
  · rcases hx with rfl | rfl | rfl | rfl
    · exact M0
    · exact a0
    · exact b0
    · exact v0
section
variable {S : Sto} {M a b v : Addr} {k : RK} {m : LM} {c q : Nat} {R : DK}
theorem name_r : (decide (k.name = "rounds") ^^ false) = isR k := by cases k <;> decide +kernel
theorem w_savedM (h : ModAt S M a b v k m) (ok : m.ok c) (hq : q < c) (kk : ∀ S', ModAt S' M a b v k (savedM k q m) → SK (MP M a b v) S S' → R .non S') : dFn 7 B_law_saved_f511 [.ref M, .int (q : Nat)] S R := by
  obtain ⟨hM, ha, hb, hv, ⟨n1, n2, n3⟩, n4, n5, n6⟩ := h
  refine ⟨_, rfl, _, rfl, .inr ⟨M, rfl, hM⟩, _, _, rfl, _, _, rfl, _, _, rfl, _, _, rfl, _, _, rfl, rfl, ?_⟩
  refine ⟨rfl, _, rfl, .inl (.inl rfl), _, _, rfl, _, rfl, _, rfl, a, _, (q : Int), q, rfl, rfl, ha, ixnN' (by rw [List.length_map, ok.1]; exact hq), ?_⟩
  refine ⟨_, _, rfl, _, rfl, _, rfl, b, _, (q : Int), q, rfl, rfl, (Sto.ne (Ne.symm n4)).trans hb, ixnN' (by rw [List.length_map, ok.2.1]; exact hq), rfl, ?_⟩
  rw [bls_set, bls_set]
  have hM2 : ((S.put a (.lst ((m.sp.set q false).map D.bl))).put b (.lst ((m.hd.set q false).map D.bl))) M = _ := (Sto.ne n2).trans ((Sto.ne n1).trans hM)
  have ha2 : ((S.put a (.lst ((m.sp.set q false).map D.bl))).put b (.lst ((m.hd.set q false).map D.bl))) a = _ := (Sto.ne n4).trans Sto.same
  have hb2 : ((S.put a (.lst ((m.sp.set q false).map D.bl))).put b (.lst ((m.hd.set q false).map D.bl))) b = _ := Sto.same
  have hv2 : ((S.put a (.lst ((m.sp.set q false).map D.bl))).put b (.lst ((m.hd.set q false).map D.bl))) v = _ := (Sto.ne (Ne.symm n6)).trans ((Sto.ne (Ne.symm n5)).trans hv)
  have k2 : SK (MP M a b v) S ((S.put a (.lst ((m.sp.set q false).map D.bl))).put b (.lst ((m.hd.set q false).map D.bl))) := (SK.put (.inr (.inl rfl))).trans (.put (.inr (.inr (.inl rfl))))
  generalize (S.put a (.lst ((m.sp.set q false).map D.bl))).put b (.lst ((m.hd.set q false).map D.bl)) = S2 at hM2 ha2 hb2 hv2 k2 ⊢
  refine ⟨_, rfl, _, rfl, ?_⟩
  rw [name_r]
  have fin : ∀ S3, S3 M = S2 M → S3 a = S2 a → S3 b = S2 b → S3 v = some (.lst (intsD (savedM k q m).nu)) → ModAt S3 M a b v k (savedM k q m) := fun S3 e1 e2 e3 e4 => ⟨e1.trans hM2, e2.trans ha2, e3.trans hb2, e4, ⟨n1, n2, n3⟩, n4, n5, n6⟩
  refine iteB (fun e => ?_) (fun e => ?_)
  · have es : (savedM k q m).nu = m.nu.set q (m.nu.getD q 0 + 1) := if_pos e
    refine ⟨_, rfl, _, rfl, _, (q : Int), _, seqOf_lst hv2, rfl, atI_nat (ns_at (by rw [ok.2.2]; exact hq)), _, rfl, _, rfl, v, _, (q : Int), q, rfl, rfl, hv2, ixnN' (by rw [intsD_len, ok.2.2]; exact hq), ?_⟩
    rw [intsD_set]
    refine kk _ (fin _ (Sto.ne n3) (Sto.ne n5) (Sto.ne n6) ?_) (k2.trans (.put (.inr (.inr (.inr rfl)))))
    rw [Sto.same, es]
  · have es : (savedM k q m).nu = m.nu := if_neg (by rw [e]; exact Bool.false_ne_true)
    exact kk S2 (fin S2 rfl rfl rfl (by rw [es]; exact hv2)) k2
theorem w_sentM (h : ModAt S M a b v k m) (ok : m.ok c) (hq : q < c) (kk : ∀ S', ModAt S' M a b v k (sentLm q m) → SK (MP M a b v) S S' → R (noteD (noteM k q m)) S') : dFn 7 B_law_sent_854b [.ref M, .int (q : Nat)] S R := by
  obtain ⟨hM, ha, hb, hv, ⟨n1, n2, n3⟩, n4, n5, n6⟩ := h
  refine ⟨_, rfl, _, rfl, .inr ⟨M, rfl, hM⟩, _, _, rfl, _, _, rfl, _, _, rfl, _, _, rfl, _, _, rfl, rfl, ?_⟩
  refine ⟨_, rfl, _, rfl, a, _, (q : Int), q, rfl, rfl, ha, ixnN' (by rw [List.length_map, ok.1]; exact hq), ?_⟩
  rw [bls_set]
  have h2 : ModAt (S.put a (.lst ((m.sp.set q true).map D.bl))) M a b v k (sentLm q m) := ⟨(Sto.ne n1).trans hM, Sto.same, (Sto.ne (Ne.symm n4)).trans hb, (Sto.ne (Ne.symm n5)).trans hv, ⟨n1, n2, n3⟩, n4, n5, n6⟩
  have k2 : SK (MP M a b v) S (S.put a (.lst ((m.sp.set q true).map D.bl))) := .put (.inr (.inl rfl))
  generalize S.put a (.lst ((m.sp.set q true).map D.bl)) = S2 at h2 k2 ⊢
  refine ⟨_, rfl, _, rfl, ?_⟩
  rw [name_r]
  have fin := kk S2 h2 k2
  refine iteB (fun e => ?_) (fun e => ?_)
  · have en : noteM k q m = some (m.nu.getD q 0) := if_pos e
    rw [en] at fin
    exact ⟨_, rfl, _, rfl, _, (q : Int), _, seqOf_lst h2.hv, rfl, atI_nat (ns_at (by show q < m.nu.length; rw [ok.2.2]; exact hq)), fin⟩
  · have en : noteM k q m = none := if_neg (by rw [e]; exact Bool.false_ne_true)
    rw [en] at fin
    exact fin
end
end Sv
set_option maxHeartbeats 1000000
set_option autoImplicit false
namespace Sv
open PySem PySem.Spec PyProof.Rows L2
def orM : RK → Nat → LM → Bool
  | .sent, q, m => m.sp.getD q false
  | .always, q, m => m.sp.getD q false || m.hd.getD q false
  | _, _, _ => false
theorem w_orM {env : Env} {S : Sto} {R : DK} {k : RK} {m : LM} {q : Nat} {a b : Addr} (h1 : env[1]? = some (some (.int (q : Nat)))) (h3 : env[3]? = some (some (.str k.name))) (h4 : env[4]? = some (some (.ref a))) (h5 : env[5]? = some (some (.ref b)))
    (ha : S a = some (.lst (m.sp.map D.bl))) (hb : S b = some (.lst (m.hd.map D.bl))) (hq : q < m.sp.length) (hq2 : q < m.hd.length) (kk : ∀ S', SG S S' → R (.bl (orM k q m)) S') :
    dOrV (dAndV (dBin (rInq false) (dVar 3) (dLst (dCons (dC (.str "sent")) (dCons (dC (.str "always")) dNil)))) (dBin rIxq (dVar 4) (dVar 1))) (dAndV (dBin (rEqq false) (dVar 3) (dC (.str "always"))) (dBin rIxq (dVar 5) (dVar 1))) env S R := by
  refine ⟨_, h3, rfl, fun p np => ?_⟩
  have sg : SG S (S.put p (.lst [.str "sent", .str "always"])) := .new np
  have hp : (S.put p (.lst [.str "sent", .str "always"])) p = some (.lst [.str "sent", .str "always"]) := Sto.same
  generalize S.put p (.lst [.str "sent", .str "always"]) = S1 at sg hp ⊢
  have py : Py S1 (.ref p) (.list [.str "sent", .str "always"]) := .lst hp (.cons (.str _) (.cons (.str _) .nil))
  have hb1 := sg _ _ (fun z => z) hb
  have ha1 := sg _ _ (fun z => z) ha
  refine ⟨.str k.name, _, .str _, .inl py, by cases k <;> decide +kernel, by decide +kernel, by decide +kernel, _, rfl, ?_⟩
  have no : ∀ (_ : (decide (k.name = "always") ^^ false) = false) (_ : orM k q m = false), dAndV (dBin (rEqq false) (dVar 3) (dC (.str "always"))) (dBin rIxq (dVar 5) (dVar 1)) env S1 R := fun e eo => by
    refine ⟨_, h3, _, rfl, iteB (fun z => absurd (z.symm.trans e) (by decide)) (fun _ => ?_)⟩
    have := kk S1 sg
    rw [eo] at this
    exact this
  cases k with
  | none => exact iteB (fun e => absurd e (by decide +kernel)) fun _ => ⟨_, rfl, goF (no (by decide +kernel) rfl)⟩
  | rounds => exact iteB (fun e => absurd e (by decide +kernel)) fun _ => ⟨_, rfl, goF (no (by decide +kernel) rfl)⟩
  | sent =>
    refine iteB (fun _ => ⟨_, h4, _, h1, _, (q : Int), _, seqOf_lst ha1, rfl, atI_nat (bls_at hq), _, rfl, iteB (fun e => ?_) (fun e => no (by decide +kernel) e)⟩) fun e => absurd e (by decide +kernel)
    have := kk S1 sg
    rw [show orM .sent q m = true from e] at this
    exact this
  | always =>
    refine iteB (fun _ => ⟨_, h4, _, h1, _, (q : Int), _, seqOf_lst ha1, rfl, atI_nat (bls_at hq), _, rfl, iteB (fun e => ?_) (fun e => ?_)⟩) fun e => absurd e (by decide +kernel)
    · have := kk S1 sg
      rw [show orM .always q m = true from (Bool.or_eq_true_iff.mpr (.inl e))] at this
      exact this
    · refine ⟨_, h3, _, rfl, iteB (fun _ => ⟨_, h5, _, h1, _, (q : Int), _, seqOf_lst hb1, rfl, atI_nat (bls_at hq2), ?_⟩) fun z => absurd z (by decide +kernel)⟩
      have := kk S1 sg
      rw [show orM .always q m = m.hd.getD q false from (by show (m.sp.getD q false || m.hd.getD q false) = _; rw [e, Bool.false_or])] at this
      exact this
section
variable {S : Sto} {M a b v : Addr} {k : RK} {m : LM} {c q : Nat} {n : Option Int} {nd : D} {R : DK}
theorem maxI (i j : Int) : (if j > i then j else i) = max i j := by
  by_cases h : j > i
  · rw [if_pos h]; omega
  · rw [if_neg h]; omega
theorem w_wantsM (h : ModAt S M a b v k m) (ok : m.ok c) (hq : q < c) (hn : isR k = true → ∃ i, nd = .int i ∧ n = some i) (kk : ∀ S', ModAt S' M a b v k (wantsM k q n m) → SK (MP M a b v) S S' → R (.bl (mustM k q n m)) S') :
    dFn 9 B_law_wants_1866 [.ref M, .int (q : Nat), nd] S R := by
  obtain ⟨hM, ha, hb, hv, ⟨n1, n2, n3⟩, n4, n5, n6⟩ := h
  refine ⟨_, rfl, _, rfl, .inr ⟨M, rfl, hM⟩, _, _, rfl, _, _, rfl, _, _, rfl, _, _, rfl, _, _, rfl, rfl, ?_⟩
  refine w_orM (k := k) (m := m) (q := q) (a := a) (b := b) rfl rfl rfl rfl ha hb (by rw [ok.1]; exact hq) (by rw [ok.2.1]; exact hq) fun S1 sg1 => ?_
  have hM1 := sg1 _ _ (fun z => z) hM
  have ha1 := sg1 _ _ (fun z => z) ha
  have hb1 := sg1 _ _ (fun z => z) hb
  have hv1 := sg1 _ _ (fun z => z) hv
  have k1 : SK (MP M a b v) S S1 := fun x o _ e => sg1 x o (fun z => z) e
  -- the end: forced or not, and heard
  have fin : ∀ (S2 : Sto), S2 M = some (.lst [.str k.name, .ref a, .ref b, .ref v, .int (m.t : Nat)]) → S2 a = some (.lst (m.sp.map D.bl)) → S2 b = some (.lst (m.hd.map D.bl)) → S2 v = some (.lst (intsD (wantsM k q n m).nu)) → SK (MP M a b v) S S2 →
      dSeq (dIfS (dB (dVar 8)) (dSeq (dAsg (dC (.bl false)) (dSub (dVar 4) (dVar 1))) (dAsg (dBin rAdd (dVar 7) (dC (.int 1))) (dSub (dVar 0) (dC (.int 4))))) dNext) (dSeq (dAsg (dC (.bl true)) (dSub (dVar 5) (dVar 1))) (dRet (dVar 8))) { nx := fun _ S => R .non S, rt := R } [some (.ref M), some (.int (q : Nat)), some nd, some (.str k.name), some (.ref a), some (.ref b), some (.ref v), some (.int (m.t : Nat)), some (.bl (mustM k q n m))] S2 := by
    intro S2 hM2 ha2 hb2 hv2 k2
    have last : ∀ S3, S3 M = some (.lst [.str k.name, .ref a, .ref b, .ref v, .int ((wantsM k q n m).t : Nat)]) → S3 a = some (.lst ((wantsM k q n m).sp.map D.bl)) → S3 b = some (.lst (m.hd.map D.bl)) → S3 v = some (.lst (intsD (wantsM k q n m).nu)) → SK (MP M a b v) S S3 →
        dSeq (dAsg (dC (.bl true)) (dSub (dVar 5) (dVar 1))) (dRet (dVar 8)) { nx := fun _ S => R .non S, rt := R } [some (.ref M), some (.int (q : Nat)), some nd, some (.str k.name), some (.ref a), some (.ref b), some (.ref v), some (.int (m.t : Nat)), some (.bl (mustM k q n m))] S3 := by
      intro S3 hM3 ha3 hb3 hv3 k3
      refine ⟨_, rfl, _, rfl, b, _, (q : Int), q, rfl, rfl, hb3, ixnN' (by rw [List.length_map, ok.2.1]; exact hq), ?_⟩
      rw [bls_set]
      exact ⟨_, rfl, kk _ ⟨(Sto.ne n2).trans hM3, (Sto.ne n4).trans ha3, Sto.same, (Sto.ne (Ne.symm n6)).trans hv3, ⟨n1, n2, n3⟩, n4, n5, n6⟩ (k3.trans (.put (.inr (.inr (.inl rfl)))))⟩
    refine ⟨_, rfl, _, rfl, iteB (fun e => ?_) (fun e => ?_)⟩
    · refine ⟨_, rfl, _, rfl, a, _, (q : Int), q, rfl, rfl, ha2, ixnN' (by rw [List.length_map, ok.1]; exact hq), ?_⟩
      rw [bls_set]
      refine ⟨_, rfl, _, rfl, M, _, 4, 4, rfl, rfl, (Sto.ne n1).trans hM2, rfl, ?_⟩
      refine last _ ?_ ?_ ?_ ?_ ((k2.trans (.put (.inr (.inl rfl)))).trans (.put (.inl rfl)))
      · rw [Sto.same, show (wantsM k q n m).t = m.t + 1 from (by show m.t + (if mustM k q n m = true then 1 else 0) = _; rw [if_pos e])]
        rfl
      · rw [Sto.ne (Ne.symm n1), Sto.same, show (wantsM k q n m).sp = m.sp.set q false from if_pos e]
      · rw [Sto.ne (Ne.symm n2), Sto.ne (Ne.symm n4)]; exact hb2
      · rw [Sto.ne (Ne.symm n3), Sto.ne (Ne.symm n5)]; exact hv2
    · refine last S2 ?_ ?_ hb2 hv2 k2
      · rw [hM2, show (wantsM k q n m).t = m.t from (by show m.t + (if mustM k q n m = true then 1 else 0) = _; rw [if_neg (by rw [e]; exact Bool.false_ne_true)]; rfl)]
      · rw [ha2, show (wantsM k q n m).sp = m.sp from if_neg (by rw [e]; exact Bool.false_ne_true)]
  refine ⟨_, rfl, _, rfl, ?_⟩
  rw [name_r]
  refine iteB (fun e => ?_) (fun e => ?_)
  · obtain ⟨i, rfl, rfl⟩ := hn e
    have es : (wantsM k q (some i) m).nu = m.nu.set q (max i (m.nu.getD q 0)) := if_pos e
    have ek : k = .rounds := by cases k <;> first | rfl | cases e
    refine ⟨_, rfl, _, rfl, _, rfl, _, (q : Int), _, seqOf_lst hv1, rfl, atI_nat (ns_at (by rw [ok.2.2]; exact hq)), ?_⟩
    refine ⟨_, rfl, _, rfl, _, rfl, _, (q : Int), _, seqOf_lst hv1, rfl, atI_nat (ns_at (by rw [ok.2.2]; exact hq)), i, _, rfl, _, rfl, _, rfl, v, _, (q : Int), q, rfl, rfl, hv1, ixnN' (by rw [intsD_len, ok.2.2]; exact hq), ?_⟩
    rw [intsD_set, maxI]
    have em : mustM k q (some i) m = decide (m.nu.getD q 0 < i) := by subst ek; rfl
    have := fin _ ((Sto.ne n3).trans hM1) ((Sto.ne n5).trans ha1) ((Sto.ne n6).trans hb1) (by rw [Sto.same, es]) (k1.trans (.put (.inr (.inr (.inr rfl)))))
    rw [em] at this
    exact this
  · have es : (wantsM k q n m).nu = m.nu := if_neg (by rw [e]; exact Bool.false_ne_true)
    have em : mustM k q n m = orM k q m := by cases k <;> first | rfl | cases e
    have := fin S1 hM1 ha1 hb1 (by rw [es]; exact hv1) k1
    rw [em] at this
    exact this
end
end Sv
set_option maxHeartbeats 1000000
set_option autoImplicit false
namespace Sv
open PySem PySem.Spec PyProof.Rows L2
theorem disj {S : Sto} {P Q : Addr → Prop} (h1 : ∀ x, P x → ∃ o, S x = some o) (h2 : ∀ x, Q x → S x = none) : ∀ x, P x → ¬ Q x := fun x hp hq => by
  obtain ⟨o, e⟩ := h1 x hp
  rw [h2 x hq] at e
  cases e
theorem Dr.some {st cl : Addr} {n : Nat} {S : Sto} (h : Dr st cl n S) : ∀ x, DS' st cl x → ∃ o, S x = some o := by
  obtain ⟨_, cs, t, _, h1, h2⟩ := h
  rintro x (rfl | rfl)
  · exact ⟨_, h1⟩
  · exact ⟨_, h2⟩
theorem NumAt.some {S : Sto} {p b : Addr} {c w : Nat} {ns : List Int} (h : NumAt S p b c w ns) : ∀ x, RP p b x → ∃ o, S x = some o := by
  rintro x (rfl | rfl)
  · exact ⟨_, h.2.1⟩
  · exact ⟨_, h.2.2⟩
theorem RuleAt.some {S : Sto} {p b : Addr} {c : Nat} {k : RK} {st : RSt} (h : RuleAt S p b c k st) : ∀ x, RP p b x → ∃ o, S x = some o := by
  rintro x (rfl | rfl)
  · obtain ⟨_, _, e⟩ := h.ex; exact ⟨_, e⟩
  · exact h.b
theorem none_back {S S' : Sto} (sg : SG S S') {x : Addr} (h : S' x = none) : S x = none := by
  cases e : S x with
  | none => rfl
  | some o => rw [sg x o (fun z => z) e] at h; cases h
end Sv
set_option maxHeartbeats 1000000
set_option autoImplicit false
namespace Sv
open PySem PySem.Spec PyProof.Rows L2
def Has (r : List (List Int)) (e : Int) : Prop := ∃ (j : Nat) (row : List Int) (k : Nat), r[j]? = some row ∧ row[k]? = some e
theorem at_set {r : List (List Int)} {p : Nat} {row : List Int} (h : r[p]? = some row) (x : List Int) : (r.set p x)[p]? = some x := by
  rw [List.getElem?_set, if_pos rfl, if_pos (List.getElem?_eq_some_iff.mp h).1]
/-- a row grows: what was there stays there -/
theorem grow_at {r : List (List Int)} {p : Nat} {row : List Int} {v : Int} (h : r[p]? = some row) {i n : Nat} {a : List Int} {e : Int} (h1 : r[i]? = some a) (h2 : a[n]? = some e) : ∃ b, (r.set p (row ++ [v]))[i]? = some b ∧ b[n]? = some e := by
  by_cases z : p = i
  · subst z
    obtain rfl := Option.some.inj (h.symm.trans h1)
    exact ⟨_, at_set h _, by rw [List.getElem?_append_left (List.getElem?_eq_some_iff.mp h2).1]; exact h2⟩
  · exact ⟨a, by rw [List.getElem?_set_ne z]; exact h1, h2⟩
theorem Has.grow {r : List (List Int)} {p : Nat} {row : List Int} {v e : Int} (h : r[p]? = some row) (q : Has r e) : Has (r.set p (row ++ [v])) e := by
  obtain ⟨j, a, k, h1, h2⟩ := q
  obtain ⟨b, h3, h4⟩ := grow_at (v := v) h h1 h2
  exact ⟨j, b, k, h3, h4⟩
/-- the process that goes on: the lowest whose next event need not wait; S: what happened -/
def goesFrom (S : List Int) : Nat → List (List Int) → List Nat → Option (Nat × Int)
  | p, r :: rs, n :: ns => match r[n]? with
    | some e => if 0 ≤ e ∨ -e ∈ S then some (p, e) else goesFrom S (p + 1) rs ns
    | none => goesFrom S (p + 1) rs ns
  | _, _, _ => none
/-- the events that the places have passed -/
def seen : List (List Int) → List Nat → List Int
  | r :: rs, n :: ns => r.take n ++ seen rs ns
  | _, _ => []
def goes (rows : List (List Int)) (pl : List Nat) : Option (Nat × Int) := goesFrom (seen rows pl) 0 rows pl
def steps (rows : List (List Int)) : Nat → List Nat → List (Int × Int)
  | 0, _ => []
  | k + 1, pl => match goes rows pl with
    | some (p, e) => ((p : Int), e) :: steps rows k (pl.set p (pl.getD p 0 + 1))
    | none => []
def total (rows : List (List Int)) : Nat := (rows.map List.length).sum
def order (rows : List (List Int)) : List (Int × Int) := steps rows (total rows + 1) (List.replicate rows.length 0)
theorem goesFrom_none {S : List Int} : ∀ {rs : List (List Int)} {pl : List Nat} {q : Nat}, (∀ (j : Nat) (r : List Int) (n : Nat), rs[j]? = some r → pl[j]? = some n → ∀ e, r[n]? = some e → ¬ (0 ≤ e ∨ -e ∈ S)) → goesFrom S q rs pl = none
  | [], _, _, _ => by simp [goesFrom]
  | _ :: _, [], _, _ => by simp [goesFrom]
  | a :: rs, m :: ns, q, hn => by
    have ih := goesFrom_none (S := S) (rs := rs) (pl := ns) (q := q + 1) (fun j r n hr hp => hn (j + 1) r n hr hp)
    unfold goesFrom
    cases hr : a[m]? with
    | none => exact ih
    | some x =>
      simp only
      rw [if_neg (hn 0 a m rfl rfl x hr)]
      exact ih
/-- it skips those that must wait -/
theorem goesFrom_skip {S : List Int} : ∀ {rs : List (List Int)} {pl : List Nat} {q i : Nat} {r : List Int} {n : Nat} {e : Int}, (∀ (j : Nat) (r : List Int) (n : Nat), j < i → rs[j]? = some r → pl[j]? = some n → ∀ e, r[n]? = some e → ¬ (0 ≤ e ∨ -e ∈ S)) →
    rs[i]? = some r → pl[i]? = some n → r[n]? = some e → (0 ≤ e ∨ -e ∈ S) → goesFrom S q rs pl = some (q + i, e)
  | [], _, q, i, r, n, e, _, h, _, _, _ => by simp at h
  | _ :: _, [], q, i, r, n, e, _, _, h, _, _ => by simp at h
  | a :: rs, m :: ns, q, 0, r, n, e, hn, h1, h2, h3, h4 => by
    obtain rfl : a = r := Option.some.inj h1
    obtain rfl : m = n := Option.some.inj h2
    unfold goesFrom
    rw [h3]
    simp only
    rw [if_pos h4]
    rfl
  | a :: rs, m :: ns, q, i + 1, r, n, e, hn, h1, h2, h3, h4 => by
    have ih := goesFrom_skip (S := S) (rs := rs) (pl := ns) (q := q + 1) (i := i) (r := r) (n := n) (e := e) (fun j r n hj hr hp => hn (j + 1) r n (Nat.succ_lt_succ hj) hr hp) h1 h2 h3 h4
    have hq : q + 1 + i = q + (i + 1) := by omega
    rw [hq] at ih
    unfold goesFrom
    cases hr : a[m]? with
    | none => exact ih
    | some x =>
      simp only
      rw [if_neg (hn 0 a m (Nat.succ_pos _) rfl rfl x hr)]
      exact ih
theorem goesFrom_some {S : List Int} : ∀ {rs : List (List Int)} {pl : List Nat} {q p : Nat} {e : Int}, goesFrom S q rs pl = some (p, e) → ∃ i r n, p = q + i ∧ rs[i]? = some r ∧ pl[i]? = some n ∧ r[n]? = some e ∧ (0 ≤ e ∨ -e ∈ S)
  | [], _, q, p, e, h => by simp [goesFrom] at h
  | _ :: _, [], q, p, e, h => by simp [goesFrom] at h
  | r :: rs, n :: ns, q, p, e, h => by
    unfold goesFrom at h
    have more : goesFrom S (q + 1) rs ns = some (p, e) → ∃ i r' n', p = q + i ∧ (r :: rs)[i]? = some r' ∧ (n :: ns)[i]? = some n' ∧ r'[n']? = some e ∧ (0 ≤ e ∨ -e ∈ S) := fun h => by
      obtain ⟨i, r', n', h1, h2, h3, h4, h5⟩ := goesFrom_some h
      exact ⟨i + 1, r', n', by omega, h2, h3, h4, h5⟩
    cases hr : r[n]? with
    | none =>
      rw [hr] at h
      exact more h
    | some x =>
      rw [hr] at h
      simp only at h
      split at h
      · rename_i hx
        cases h
        exact ⟨0, r, n, rfl, rfl, rfl, hr, hx⟩
      · exact more h
theorem goes_some {rows : List (List Int)} {pl : List Nat} {p : Nat} {e : Int} (h : goes rows pl = some (p, e)) : ∃ r n, rows[p]? = some r ∧ pl[p]? = some n ∧ r[n]? = some e ∧ (0 ≤ e ∨ -e ∈ seen rows pl) := by
  obtain ⟨i, r, n, rfl, h2, h3, h4, h5⟩ := goesFrom_some h
  rw [Nat.zero_add]
  exact ⟨r, n, h2, h3, h4, h5⟩
theorem seen_step : ∀ {rows : List (List Int)} {pl : List Nat} {p n : Nat} {r : List Int} {e : Int}, rows[p]? = some r → pl[p]? = some n → r[n]? = some e → ∀ x, x ∈ seen rows (pl.set p (n + 1)) ↔ x = e ∨ x ∈ seen rows pl
  | [], _, p, _, _, _, h, _, _ => by simp at h
  | _ :: _, [], p, _, _, _, _, h, _ => by simp at h
  | a :: rs, m :: ns, 0, n, r, e, h1, h2, h3 => fun x => by
    obtain rfl : a = r := Option.some.inj h1
    obtain rfl : m = n := Option.some.inj h2
    simp only [List.set_cons_zero, seen, List.take_add_one, h3, Option.toList, List.mem_append, List.mem_singleton]
    constructor
    · rintro ((h | h) | h)
      · exact .inr (.inl h)
      · exact .inl h
      · exact .inr (.inr h)
    · rintro (h | h | h)
      · exact .inl (.inr h)
      · exact .inl (.inl h)
      · exact .inr h
  | a :: rs, m :: ns, p + 1, n, r, e, h1, h2, h3 => fun x => by
    have ih := seen_step (rows := rs) (pl := ns) (p := p) (n := n) (r := r) (e := e) h1 h2 h3 x
    simp only [List.set_cons_succ, seen, List.mem_append, ih]
    constructor
    · rintro (h | h | h)
      · exact .inr (.inl h)
      · exact .inl h
      · exact .inr (.inr h)
    · rintro (h | h | h)
      · exact .inr (.inl h)
      · exact .inl h
      · exact .inr (.inr h)
theorem steps_succ {rows : List (List Int)} {pl : List Nat} {p n k : Nat} {e : Int} (h : goes rows pl = some (p, e)) (h2 : pl[p]? = some n) : steps rows (k + 1) pl = ((p : Int), e) :: steps rows k (pl.set p (n + 1)) := by
  have e1 : pl.getD p 0 = n := by rw [List.getD_eq_getElem?_getD, h2]; rfl
  rw [← e1]
  conv => lhs; unfold steps
  rw [h]
/-- the places are within the rows -/
def Fit (rows : List (List Int)) (pl : List Nat) : Prop := ∀ (i : Nat) (r : List Int) (n : Nat), rows[i]? = some r → pl[i]? = some n → n ≤ r.length
theorem fit_set {rows : List (List Int)} {pl : List Nat} {p n : Nat} {r : List Int} {e : Int} (f : Fit rows pl) (h : rows[p]? = some r) (h1 : pl[p]? = some n) (h2 : r[n]? = some e) : Fit rows (pl.set p (n + 1)) := fun i r' n' a b => by
  by_cases z : p = i
  · subst z
    rw [h] at a
    cases a
    rw [List.getElem?_set] at b
    rw [if_pos rfl] at b
    split at b
    · cases b
      exact (List.getElem?_eq_some_iff.mp h2).1
    · cases b
  · rw [List.getElem?_set_ne z] at b
    exact f i r' n' a b
theorem fit_zero {rows : List (List Int)} {n : Nat} : Fit rows (List.replicate n 0) := fun i r m _ b => by
  rw [(List.mem_replicate.mp (List.mem_of_getElem? b)).2]
  exact Nat.zero_le _
theorem fit_sum : ∀ {rows : List (List Int)} {pl : List Nat}, pl.length = rows.length → Fit rows pl → pl.sum ≤ total rows
  | [], [], _, _ => Nat.le_refl _
  | [], _ :: _, h, _ => by simp at h
  | _ :: _, [], _, _ => Nat.zero_le _
  | r :: rs, n :: ns, h, f => by
    have h1 := fit_sum (rows := rs) (pl := ns) (by simpa using h) fun i r n a b => f (i + 1) r n a b
    have h2 := f 0 r n rfl rfl
    unfold total at h1 ⊢
    simp only [List.map_cons, List.sum_cons]
    omega
/-- the events of one process in such an order -/
def own (p : Nat) (l : List (Int × Int)) : List Int := (l.filter fun q => decide (q.1 = (p : Int))).map (·.2)
def Ready (r : List (List Int)) (n : Nat → Nat) : Prop := ∃ (i : Nat) (row : List Int) (e : Int), r[i]? = some row ∧ row[n i]? = some e ∧ (0 ≤ e ∨ ∃ (j : Nat) (row2 : List Int) (k : Nat), r[j]? = some row2 ∧ k < n j ∧ row2[k]? = some (-e))
theorem set_at {r : List (List Int)} {p i : Nat} {x row : List Int} (h : (r.set p x)[i]? = some row) : (p = i ∧ row = x) ∨ (p ≠ i ∧ r[i]? = some row) := by
  by_cases e : p = i
  · subst e
    rw [List.getElem?_set, if_pos rfl] at h
    split at h
    · exact .inl ⟨rfl, (Option.some.inj h).symm⟩
    · cases h
  · rw [List.getElem?_set_ne e] at h
    exact .inr ⟨e, h⟩
/-- one event more: someone can go on -/
theorem ready_grow {r : List (List Int)} {p : Nat} {row : List Int} {v : Int} (h : r[p]? = some row) (hv : 0 ≤ v ∨ Has r (-v)) {n : Nat → Nat} (ih : (∃ (i : Nat) (a : List Int), r[i]? = some a ∧ n i < a.length) → Ready r n)
    (hi : ∃ (i : Nat) (a : List Int), (r.set p (row ++ [v]))[i]? = some a ∧ n i < a.length) : Ready (r.set p (row ++ [v])) n := by
  by_cases z : ∃ (i : Nat) (a : List Int), r[i]? = some a ∧ n i < a.length
  · obtain ⟨i, a, e, h1, h2, h3⟩ := ih z
    obtain ⟨b, h4, h5⟩ := grow_at (v := v) h h1 h2
    refine ⟨i, b, e, h4, h5, h3.imp_right ?_⟩
    rintro ⟨j, a2, k, h6, h7, h8⟩
    obtain ⟨b2, h9, h10⟩ := grow_at (v := v) h h6 h8
    exact ⟨j, b2, k, h9, h7, h10⟩
  · have all : ∀ (i : Nat) (a : List Int), r[i]? = some a → a.length ≤ n i := fun i a h1 => Nat.le_of_not_lt fun h2 => z ⟨i, a, h1, h2⟩
    obtain ⟨i, a, h1, h2⟩ := hi
    rcases set_at h1 with ⟨rfl, rfl⟩ | ⟨_, h3⟩
    · have h4 := all _ _ h
      rw [List.length_append, List.length_singleton] at h2
      have h5 : n p = row.length := by omega
      refine ⟨p, _, v, h1, by rw [h5]; exact List.getElem?_concat_length, hv.imp_right ?_⟩
      rintro ⟨j, a2, k, h6, h7⟩
      obtain ⟨b2, h9, h10⟩ := grow_at (v := v) h h6 h7
      exact ⟨j, b2, k, h9, Nat.lt_of_lt_of_le (List.getElem?_eq_some_iff.mp h7).1 (all _ _ h6), h10⟩
    · exact absurd (all _ _ h3) (by omega)
theorem Grown.open_has {c : Nat} {nm : List Int} {r : List (List Int)} {o : List (Int × Int)} {u k : Nat} (h : Grown c nm r o u k) : ∀ p ∈ o, Has r p.1 := by
  induction h with
  | start => exact fun _ z => (nomatch z)
  | skip _ ih => exact ih
  | save _ h ih => exact fun p hp => (ih p hp).grow h
  | send _ h hu ih =>
    intro p hp
    rcases List.mem_append.mp hp with z | z
    · exact (ih p z).grow h
    · rw [List.mem_singleton.mp z]
      exact ⟨_, _, _, at_set h _, List.getElem?_concat_length⟩
  | recv _ h hj _ ih => exact fun p hp => (ih p (List.mem_of_mem_eraseIdx hp)).grow h
theorem Grown.ready {c : Nat} {nm : List Int} {r : List (List Int)} {o : List (Int × Int)} {u k : Nat} (h : Grown c nm r o u k) (hn : nm.Perm names24) (n : Nat → Nat) : (∃ (i : Nat) (a : List Int), r[i]? = some a ∧ n i < a.length) → Ready r n := by
  induction h with
  | start =>
    rintro ⟨i, a, h1, h2⟩
    rw [(List.mem_replicate.mp (List.mem_of_getElem? h1)).2] at h2
    exact absurd h2 (Nat.not_lt_zero _)
  | skip _ ih => exact ih
  | save _ h ih => exact ready_grow h (.inl (by decide)) ih
  | send _ h hu ih => exact ready_grow h (.inl (by have := names_pos hn _ (List.mem_of_getElem? hu); omega)) ih
  | recv g h hj _ ih =>
    refine ready_grow h (.inr ?_) ih
    have e : ∀ m : Int, -(0 - m) = m := fun m => by omega
    rw [e]
    exact g.open_has _ (List.mem_of_getElem? hj)
theorem goesFrom_any {S : List Int} : ∀ {rs : List (List Int)} {pl : List Nat} {q i n : Nat} {r : List Int} {e : Int}, rs[i]? = some r → pl[i]? = some n → r[n]? = some e → (0 ≤ e ∨ -e ∈ S) → goesFrom S q rs pl ≠ none
  | [], _, q, i, n, r, e, h, _, _, _ => by simp at h
  | _ :: _, [], q, i, n, r, e, _, h, _, _ => by simp at h
  | a :: rs, m :: ns, q, 0, n, r, e, h1, h2, h3, h4 => by
    obtain rfl : a = r := Option.some.inj h1
    obtain rfl : m = n := Option.some.inj h2
    unfold goesFrom
    rw [h3]
    simp only
    rw [if_pos h4]
    exact fun z => (nomatch z)
  | a :: rs, m :: ns, q, i + 1, n, r, e, h1, h2, h3, h4 => by
    have ih := goesFrom_any (S := S) (rs := rs) (pl := ns) (q := q + 1) (i := i) h1 h2 h3 h4
    unfold goesFrom
    cases a[m]? with
    | none => exact ih
    | some x =>
      simp only
      split
      · exact fun z => (nomatch z)
      · exact ih
theorem seen_mem : ∀ {rows : List (List Int)} {pl : List Nat} {j k n : Nat} {row : List Int} {e : Int}, rows[j]? = some row → pl[j]? = some n → k < n → row[k]? = some e → e ∈ seen rows pl
  | [], _, j, _, _, _, _, h, _, _, _ => by simp at h
  | _ :: _, [], j, _, _, _, _, _, h, _, _ => by simp at h
  | r :: rs, m :: ns, 0, k, n, row, e, h1, h2, h3, h4 => by
    obtain rfl : r = row := Option.some.inj h1
    obtain rfl : m = n := Option.some.inj h2
    unfold seen
    refine List.mem_append_left _ (List.mem_of_getElem? (i := k) ?_)
    rw [List.getElem?_take_of_lt h3]
    exact h4
  | r :: rs, m :: ns, j + 1, k, n, row, e, h1, h2, h3, h4 => by
    unfold seen
    exact List.mem_append_right _ (seen_mem (rows := rs) (pl := ns) (j := j) h1 h2 h3 h4)
/-- never stuck -/
theorem Good.done {many most : Nat} {rows : List (List Int)} (h : Good many most rows) {pl : List Nat} (hl : pl.length = rows.length) (hg : goes rows pl = none) : ∀ (i : Nat) (r : List Int) (n : Nat), rows[i]? = some r → pl[i]? = some n → r.length ≤ n := by
  obtain ⟨c, nm, o, u, k, _, _, hp, g, _⟩ := h
  intro i r n h1 h2
  refine Nat.le_of_not_lt fun h3 => ?_
  have e2 : pl.getD i 0 = n := by rw [List.getD_eq_getElem?_getD, h2]; rfl
  obtain ⟨i', a, e, h4, h5, h6⟩ := g.ready hp (fun i => pl.getD i 0) ⟨i, r, h1, by rw [e2]; exact h3⟩
  have at' : ∀ {j : Nat} {b : List Int}, rows[j]? = some b → pl[j]? = some (pl.getD j 0) := fun {j b} hj => by
    have hj' : j < pl.length := by
      rw [hl]
      exact (List.getElem?_eq_some_iff.mp hj).1
    rw [List.getD_eq_getElem?_getD, List.getElem?_eq_getElem hj']
    rfl
  refine goesFrom_any (S := seen rows pl) (q := 0) h4 (at' h4) h5 (h6.imp_right ?_) hg
  rintro ⟨j, b, k', h7, h8, h9⟩
  exact seen_mem h7 (at' h7) h8 h9
theorem total_le : ∀ {rows : List (List Int)} {pl : List Nat}, pl.length = rows.length → (∀ (i : Nat) (r : List Int) (n : Nat), rows[i]? = some r → pl[i]? = some n → r.length ≤ n) → total rows ≤ pl.sum
  | [], _, _, _ => Nat.zero_le _
  | _ :: _, [], h, _ => by simp at h
  | r :: rs, n :: ns, h, f => by
    have h1 := total_le (rows := rs) (pl := ns) (by simpa using h) fun i r n a b => f (i + 1) r n a b
    have h2 := f 0 r n rfl rfl
    unfold total at h1 ⊢
    simp only [List.map_cons, List.sum_cons]
    omega
theorem own_cons {p : Nat} {x : Int} {e : Int} {l : List (Int × Int)} : own p ((x, e) :: l) = if x = (p : Int) then e :: own p l else own p l := by
  unfold own
  by_cases h : x = (p : Int)
  · simp [List.filter_cons, h]
  · simp [List.filter_cons, h]
theorem seen_zero : ∀ {rows : List (List Int)} {n : Nat}, seen rows (List.replicate n 0) = []
  | [], n => by simp [seen]
  | r :: rs, 0 => by simp [seen]
  | r :: rs, n + 1 => by
    show r.take 0 ++ seen rs (List.replicate n 0) = []
    rw [seen_zero]
    rfl
end Sv
set_option maxHeartbeats 1000000
set_option autoImplicit false
namespace Sv
open PySem PySem.Spec PyProof.Rows L2
def blockP (p : Nat) (row : List Int) : List (Nat × Nat × Int) := row.mapIdx fun i e => (p, i, e)
def placedFrom : Nat → List (List Int) → List (Nat × Nat × Int)
  | _, [] => []
  | p, r :: rs => blockP p r ++ placedFrom (p + 1) rs
abbrev placed (rows : List (List Int)) : List (Nat × Nat × Int) := placedFrom 0 rows
def plD (x : Nat × Nat × Int) : D := .tup [.int (x.1 : Int), .int (x.2.1 : Int), .int x.2.2]
theorem placed_app : ∀ (p : Nat) (a b : List (List Int)), placedFrom p (a ++ b) = placedFrom p a ++ placedFrom (p + a.length) b
  | p, [], b => by simp [placedFrom]
  | p, r :: a, b => by
    show blockP p r ++ placedFrom (p + 1) (a ++ b) = (blockP p r ++ placedFrom (p + 1) a) ++ _
    rw [placed_app (p + 1) a b, List.append_assoc, List.length_cons]
    have : p + 1 + a.length = p + (a.length + 1) := by omega
    rw [this]
theorem block_len (p : Nat) (row : List Int) : (blockP p row).length = row.length := by simp [blockP]
theorem placed_len : ∀ (p : Nat) (rows : List (List Int)), (placedFrom p rows).length = total rows
  | _, [] => rfl
  | p, r :: rs => by
    show (blockP p r ++ placedFrom (p + 1) rs).length = _
    rw [List.length_append, block_len, placed_len (p + 1) rs]
    rfl
theorem placed_take {rows : List (List Int)} {i : Nat} {row : List Int} (h : rows[i]? = some row) : placed (rows.take (i + 1)) = placed (rows.take i) ++ blockP i row := by
  have hi : i < rows.length := (List.getElem?_eq_some_iff.mp h).1
  rw [List.take_add_one, h]
  show placedFrom 0 (rows.take i ++ [row]) = _
  rw [placed_app, List.length_take, Nat.min_eq_left (Nat.le_of_lt hi), Nat.zero_add]
  show _ ++ (blockP i row ++ []) = _
  rw [List.append_nil]
theorem placed_split (rows : List (List Int)) (i : Nat) : ∃ more, placed rows = placed (rows.take i) ++ more := by
  refine ⟨placedFrom (0 + (rows.take i).length) (rows.drop i), ?_⟩
  rw [← placed_app, List.take_append_drop]
theorem block_at {p i : Nat} {row : List Int} {e : Int} (h : row[i]? = some e) : (blockP p row)[i]? = some (p, i, e) := by
  unfold blockP
  rw [List.getElem?_mapIdx, h]
  rfl
theorem enD_rows {rows : List (List Int)} {i : Nat} {d : D} (h : (enD (rowsD rows))[i]? = some d) : ∃ row, rows[i]? = some row ∧ d = .tup [.int (i : Nat), rowD row] := by
  have hl := (List.getElem?_eq_some_iff.mp h).1
  rw [enD_len, rowsD, List.length_map] at hl
  refine ⟨rows[i], List.getElem?_eq_getElem hl, ?_⟩
  have := enD_at (ds := rowsD rows) (i := i) (d := rowD rows[i]) (by rw [rowsD, List.getElem?_map, List.getElem?_eq_getElem hl]; rfl)
  rw [this] at h
  exact (Option.some.inj h).symm
theorem enD_ints {row : List Int} {i : Nat} {d : D} (h : (enD (intsD row))[i]? = some d) : ∃ e, row[i]? = some e ∧ d = .tup [.int (i : Nat), .int e] := by
  have hl := (List.getElem?_eq_some_iff.mp h).1
  rw [enD_len, intsD_len] at hl
  refine ⟨row[i], List.getElem?_eq_getElem hl, ?_⟩
  have := enD_at (ds := intsD row) (i := i) (d := .int row[i]) (by rw [intsD, List.getElem?_map, List.getElem?_eq_getElem hl]; rfl)
  rw [this] at h
  exact (Option.some.inj h).symm
theorem gen_placed {rows : List (List Int)} (ht : total rows ≤ 1000) : dGfn 1 5 B_placed_events_e217 [.tup (rowsD rows)] ((placed rows).map plD) := by
  refine ⟨rfl, ?_⟩
  refine ⟨_, rfl, rowsD rows, .inl rfl, fun i ds env S => ds = (placed (rows.take i)).map plD ∧ ∃ x1 x2 x3 x4 : Option D, env = [some (.tup (rowsD rows)), x1, x2, x3, x4], ⟨rfl, _, _, _, _, rfl⟩, fun _ _ _ _ _ _ => True.intro, ?_, ?_⟩
  · rintro i d ds env S hd ⟨rfl, x1, x2, x3, x4, rfl⟩
    obtain ⟨row, hrow, rfl⟩ := enD_rows hd
    refine ⟨_, rfl, .inl (.inl rfl), _, _, rfl, _, _, rfl, rfl, ?_⟩
    refine ⟨_, rfl, intsD row, .inl rfl, fun j ds env S => ds = (placed (rows.take i) ++ (blockP i row).take j).map plD ∧ ∃ x3 x4 : Option D, env = [some (.tup (rowsD rows)), some (.int (i : Nat)), some (rowD row), x3, x4], ⟨by rw [List.take_zero, List.append_nil], _, _, rfl⟩, fun _ _ _ _ _ _ => True.intro, ?_, ?_⟩
    · rintro j e ds env S he ⟨rfl, x3, x4, rfl⟩
      obtain ⟨v, hv, rfl⟩ := enD_ints he
      refine ⟨_, rfl, .inl (.inl rfl), _, _, rfl, _, _, rfl, rfl, ?_⟩
      have hb := block_at (p := i) hv
      have htk : placed (rows.take i) ++ (blockP i row).take (j + 1) = placed (rows.take i) ++ (blockP i row).take j ++ [(i, j, v)] := by
        rw [List.take_add_one, hb, List.append_assoc]
        rfl
      obtain ⟨more, hm⟩ := placed_split rows (i + 1)
      rw [placed_take hrow] at hm
      have hm2 : placed rows = placed (rows.take i) ++ (blockP i row).take j ++ (i, j, v) :: ((blockP i row).drop (j + 1) ++ more) := by
        obtain ⟨hj, hj'⟩ := List.getElem?_eq_some_iff.mp hb
        rw [hm]
        conv => lhs; rw [← List.take_append_drop j (blockP i row), List.drop_eq_getElem_cons hj, hj']
        simp
      refine ⟨?_, _, rfl, _, rfl, _, rfl, rfl, ⟨((blockP i row).drop (j + 1) ++ more).map plD, ?_⟩, ?_, _, _, rfl⟩
      · rw [List.length_map]
        have h1 := congrArg List.length hm2
        rw [placed_len, List.length_append] at h1
        omega
      · show (placed rows).map plD = (placed (rows.take i) ++ (blockP i row).take j).map plD ++ plD (i, j, v) :: ((blockP i row).drop (j + 1) ++ more).map plD
        rw [hm2, List.map_append, List.map_cons]
      · show (placed (rows.take i) ++ (blockP i row).take j).map plD ++ [plD (i, j, v)] = _
        simp only [htk, List.map_append, List.map_cons, List.map_nil]
    · rintro ds env S ⟨rfl, x3, x4, rfl⟩
      refine ⟨?_, _, _, _, _, rfl⟩
      rw [placed_take hrow]
      have : (enD (intsD row)).length = (blockP i row).length := by rw [enD_len, intsD_len, block_len]
      show List.map plD (placed (rows.take i) ++ (blockP i row).take (enD (intsD row)).length) = _
      rw [this, List.take_length]
  · rintro ds env S ⟨rfl, x1, x2, x3, x4, rfl⟩
    show List.map plD (placed (rows.take (enD (rowsD rows)).length)) = _
    rw [enD_len, rowsD, List.length_map, List.take_length]
def errD (tag : Str) : Option (Nat × Nat × Int) → D
  | none => .non
  | some x => .tup [.str tag, .int (x.1 : Int), .int (x.2.1 : Int)]
theorem find_at {α : Type} {p : α → Bool} {L : List α} {n : Nat} {x : α} (h : L[n]? = some x) (hx : p x = true) (hb : ∀ y ∈ L.take n, p y = false) : L.find? p = some x := by
  induction L generalizing n with
  | nil => simp at h
  | cons a r ih =>
    cases n with
    | zero =>
      obtain rfl : a = x := Option.some.inj h
      rw [List.find?_cons, hx]
    | succ n =>
      rw [List.find?_cons, hb a (by simp)]
      exact ih (by simpa using h) fun y hy => hb y (by rw [List.take_succ_cons]; exact List.mem_cons_of_mem _ hy)
theorem find_no {α : Type} {p : α → Bool} {L : List α} (hb : ∀ y ∈ L, p y = false) : L.find? p = none := by
  rw [List.find?_eq_none]
  intro y hy
  rw [hb y hy]
  exact Bool.false_ne_true
theorem plD_at {rows : List (List Int)} {n : Nat} {d : D} (h : ((placed rows).map plD)[n]? = some d) : ∃ x, (placed rows)[n]? = some x ∧ d = plD x := by
  rw [List.getElem?_map] at h
  cases e : (placed rows)[n]? with
  | none => rw [e] at h; cases h
  | some x => rw [e] at h; exact ⟨x, rfl, (Option.some.inj h).symm⟩
def badE (x : Nat × Nat × Int) : Bool := !(decide (-24 ≤ x.2.2) && decide (x.2.2 ≤ 24))
def evErr (rows : List (List Int)) : Option (Nat × Nat × Int) := (placed rows).find? badE
theorem w_evErr {rows : List (List Int)} {S : Sto} {R : DK} (ht : total rows ≤ 1000) (q : R (errD "event" (evErr rows)) S) : dFn 4 B_event_error_3c54 [.tup (rowsD rows)] S R := by
  refine ⟨_, rfl, _, gen_placed ht, fun n env S' => S' = S ∧ (∀ y ∈ (placed rows).take n, badE y = false) ∧ ∃ x1 x2 x3 : Option D, env = [some (.tup (rowsD rows)), x1, x2, x3], ⟨rfl, fun y hy => by simp at hy, _, _, _, rfl⟩, fun _ _ _ _ _ => True.intro, ?_, ?_⟩
  · rintro n d env S' hd ⟨rfl, hb, x1, x2, x3, rfl⟩
    obtain ⟨x, hx, rfl⟩ := plD_at hd
    refine ⟨_, rfl, .inl (.inl rfl), _, _, rfl, _, _, rfl, _, _, rfl, rfl, ?_⟩
    refine ⟨_, rfl, rfl, w_within ⟨_, rfl, ?_⟩⟩
    refine iteB (fun h => ?_) fun h => ?_
    · refine ⟨_, rfl, _, rfl, rfl, ?_⟩
      have : evErr rows = some x := find_at hx h hb
      rw [this] at q
      exact q
    · refine ⟨rfl, fun y hy => ?_, _, _, _, rfl⟩
      rw [List.take_add_one, hx] at hy
      rcases List.mem_append.mp hy with z | z
      · exact hb y z
      · rw [show y = x by simpa using z]
        exact h
  · rintro env S' ⟨rfl, hb, x1, x2, x3, rfl⟩
    have : evErr rows = none := find_no fun y hy => hb y (by
      show y ∈ (placed rows).take ((placed rows).map plD).length
      rw [List.length_map, List.take_length]
      exact hy)
    rw [this] at q
    exact q
end Sv
set_option maxHeartbeats 1000000
set_option autoImplicit false
namespace Sv
open PySem PySem.Spec PyProof.Rows L2
theorem lens_sum (rows : List (List Int)) : (rows.map fun r => (r.length : Int)).sum = (total rows : Int) := by
  induction rows with
  | nil => rfl
  | cons r rs ih =>
    rw [List.map_cons, List.sum_cons, ih]
    unfold total
    rw [List.map_cons, List.sum_cons]
    omega
theorem w_count {rows : List (List Int)} {S : Sto} {R : DK} (hl : rows.length ≤ 1000) (k : ∀ S', SG S S' → R (.int (total rows : Int)) S') : dFn 2 B_event_count_1213 [.tup (rowsD rows)] S R := by
  refine ⟨_, rfl, _, rfl, lc_map rows rowD (fun _ => True) (fun r => some (D.int (r.length : Int))) (by omega) (fun _ _ => True.intro) (fun r _ S' sg K Kn hk _ => turn_y ⟨_, rfl, _, _, rfl, rfl, ?_⟩) fun t S' nt sg ht => ⟨_, rows.map fun r => (r.length : Int), rfl, ?_, ?_⟩⟩
  · rw [intsD_len]
    exact hk _ rfl _ (.refl _)
  · rw [ht, fm_map]
    unfold intsD
    rw [List.map_map]
    rfl
  · rw [lens_sum]
    exact k _ sg
def shD (rows : List (List Int)) : D := if (decide (1 ≤ rows.length) && decide (rows.length ≤ 6)) = true then (if decide (60 < total rows) = true then .tup [.str "events"] else .non) else .tup [.str "history"]
theorem w_shape {rows : List (List Int)} {S : Sto} {R : DK} (k : ∀ S', SG S S' → R (shD rows) S') : dFn 3 B_shape_error_72a0 [.tup (rowsD rows)] S R := by
  have erl : (rowsD rows).length = rows.length := List.length_map ..
  refine ⟨_, rfl, _, _, _, _, rfl, rfl, (by decide +kernel : kitB "tuple" "tuple" = some true), _, rfl, goF ?_⟩
  refine ⟨_, rfl, _, _, rfl, rfl, _, rfl, iteB (fun h1 => ?_) fun h1 => ?_⟩
  · have h1 : decide ((1 : Int) ≤ ((rowsD rows).length : Int)) = true := h1
    have h1 : 1 ≤ rows.length := by have := of_decide_eq_true h1; rw [erl] at this; omega
    refine ⟨_, rfl, iteB (fun h2 => ?_) fun h2 => ?_⟩
    · have h2 : (!decide (((rowsD rows).length : Int) ≤ 6)) = true := h2
      have h2 : ¬ rows.length ≤ 6 := by
        intro z
        rw [decide_eq_true (show ((rowsD rows).length : Int) ≤ 6 by rw [erl]; omega)] at h2
        cases h2
      have e : shD rows = .tup [.str "history"] := by
        unfold shD
        rw [decide_eq_true h1, decide_eq_false h2]
        rfl
      have q := k _ (.refl S)
      rw [e] at q
      exact ⟨rfl, q⟩
    · have h2 : (!decide (((rowsD rows).length : Int) ≤ 6)) = false := h2
      have h2 : rows.length ≤ 6 := by
        rw [Bool.not_eq_false'] at h2
        have := of_decide_eq_true h2
        rw [erl] at this
        omega
      refine ⟨_, rfl, _, _, rfl, rfl, fun i env S' => S' = S ∧ ∃ x1 x2 : Option D, env = [some (.tup (rowsD rows)), x1, x2], ⟨rfl, _, _, rfl⟩, fun _ _ _ _ _ => True.intro, ?_, ?_⟩
      · rintro i d env S' hd ⟨rfl, x1, x2, rfl⟩
        obtain ⟨row, hrow, rfl⟩ := enD_rows hd
        refine ⟨_, rfl, .inl (.inl rfl), _, _, rfl, _, _, rfl, rfl, ?_⟩
        exact ⟨_, rfl, _, _, _, _, rfl, rfl, (by decide +kernel : kitB "tuple" "tuple" = some true), _, rfl, goF ⟨rfl, _, _, rfl⟩⟩
      · rintro env S' ⟨rfl, x1, x2, rfl⟩
        refine ⟨_, rfl, rfl, w_count (by omega) fun S2 sg => ⟨_, rfl, iteB (fun h3 => ?_) fun h3 => ?_⟩⟩
        · have h3 : decide ((60 : Int) < (total rows : Int)) = true := h3
          have e : shD rows = .tup [.str "events"] := by
            unfold shD
            rw [decide_eq_true h1, decide_eq_true h2, decide_eq_true (show 60 < total rows by have := of_decide_eq_true h3; omega)]
            rfl
          refine ⟨rfl, ?_⟩
          have q := k _ sg
          rw [e] at q
          exact q
        · have h3 : decide ((60 : Int) < (total rows : Int)) = false := h3
          have e : shD rows = .non := by
            unfold shD
            rw [decide_eq_true h1, decide_eq_true h2, decide_eq_false (show ¬ 60 < total rows by have := of_decide_eq_false h3; omega)]
            rfl
          have q := k _ sg
          rw [e] at q
          exact q
  · have h1 : decide ((1 : Int) ≤ ((rowsD rows).length : Int)) = false := h1
    have h1 : ¬ 1 ≤ rows.length := by have := of_decide_eq_false h1; rw [erl] at this; omega
    have e : shD rows = .tup [.str "history"] := by
      unfold shD
      rw [decide_eq_false h1]
      rfl
    have q := k _ (.refl S)
    rw [e] at q
    refine ⟨_, rfl, goT ⟨rfl, q⟩⟩
def twF : List Int → List (Nat × Nat × Int) → Option (Nat × Nat × Int)
  | _, [] => none
  | ns, x :: r => if x.2.2 ∈ ns then some x else twF (if x.2.2 = 0 then ns else ns ++ [x.2.2]) r
def twErr (rows : List (List Int)) : Option (Nat × Nat × Int) := twF [] (placed rows)
theorem w_twErr {rows : List (List Int)} {S : Sto} {R : DK} (ht : total rows ≤ 1000) (k : ∀ S', SG S S' → R (errD "twice" (twErr rows)) S') : dFn 5 B_twice_error_125f [.tup (rowsD rows)] S R := by
  refine fun p np => ?_
  refine ⟨_, rfl, _, gen_placed ht, fun n env S' => ∃ ns : List Int, SG S S' ∧ S' p = some (.iset ns) ∧ ns.length ≤ n ∧ twErr rows = twF ns ((placed rows).drop n) ∧ ∃ x2 x3 x4 : Option D, env = [some (.tup (rowsD rows)), some (.ref p), x2, x3, x4], ⟨[], .new np, Sto.same, Nat.le_refl _, rfl, _, _, _, rfl⟩, fun _ _ _ _ _ => True.intro, ?_, ?_⟩
  · rintro n d env S' hd ⟨ns, sg, hp, hn, htw, x2, x3, x4, rfl⟩
    obtain ⟨x, hx, rfl⟩ := plD_at hd
    obtain ⟨hl, hx'⟩ := List.getElem?_eq_some_iff.mp hx
    rw [List.drop_eq_getElem_cons hl, hx'] at htw
    have hl2 : n < total rows := by rw [placed_len] at hl; exact hl
    refine ⟨_, rfl, .inl (.inl rfl), _, _, rfl, _, _, rfl, _, _, rfl, rfl, ?_⟩
    refine ⟨_, rfl, _, rfl, _, _, _, rfl, rfl, hp, _, rfl, ?_⟩
    rw [xor_ff]
    refine iteB (fun h => ?_) fun h => ?_
    · have h := of_decide_eq_true h
      refine ⟨_, rfl, _, rfl, rfl, ?_⟩
      have q := k _ sg
      rw [htw] at q
      unfold twF at q
      rw [if_pos h] at q
      exact q
    · have h := of_decide_eq_false h
      unfold twF at htw
      rw [if_neg h] at htw
      refine ⟨_, rfl, _, rfl, ?_⟩
      rw [xor_tt]
      refine iteB (fun h0 => ?_) fun h0 => ?_
      · rw [Bool.not_eq_true'] at h0
        have h0 := of_decide_eq_false h0
        rw [if_neg h0] at htw
        refine ⟨_, rfl, _, _, rfl, hp, _, rfl, _, ns, rfl, hp, by omega, ?_⟩
        rw [if_neg h]
        refine ⟨_, SG.keepP np sg (.refl _), Sto.same, ?_, htw, _, _, _, rfl⟩
        rw [List.length_append]
        show ns.length + 1 ≤ _
        omega
      · rw [Bool.not_eq_false'] at h0
        have h0 := of_decide_eq_true h0
        rw [if_pos h0] at htw
        exact ⟨ns, sg, hp, by omega, htw, _, _, _, rfl⟩
  · rintro env S' ⟨ns, sg, hp, hn, htw, x2, x3, x4, rfl⟩
    have q := k _ sg
    have e : ((placed rows).drop ((placed rows).map plD).length) = [] := by
      rw [List.length_map, List.drop_length]
    have htw : twErr rows = twF ns ((placed rows).drop ((placed rows).map plD).length) := htw
    rw [e] at htw
    rw [htw] at q
    exact q
end Sv
set_option maxHeartbeats 1000000
set_option autoImplicit false
namespace Sv
open PySem PySem.Spec PyProof.Rows L2
def sentBy (rows : List (List Int)) (p : Nat) (m : Int) : Bool := (List.range rows.length).any fun q => decide (q ≠ p) && decide (m ∈ rows.getD q [])
theorem en_rows (rows : List (List Int)) : enD (rowsD rows) = (List.range rows.length).map fun (q : Nat) => D.tup [.int (q : Int), rowD (rows.getD q [])] := by
  apply List.ext_getElem?
  intro i
  rw [List.getElem?_map]
  rcases Nat.lt_or_ge i rows.length with z | z
  · rw [List.getElem?_range z]
    have : (rowsD rows)[i]? = some (rowD (rows.getD i [])) := by rw [rowsD, List.getElem?_map, List.getD_eq_getElem?_getD, List.getElem?_eq_getElem z]; rfl
    rw [enD_at this]
    rfl
  · rw [List.getElem?_eq_none (by rw [enD_len, rowsD, List.length_map]; exact z), List.getElem?_eq_none (l := List.range rows.length) (by rw [List.length_range]; exact z)]
    rfl
theorem any_range (f : Nat → Option Bool) (P : Nat → Bool) (h : ∀ q, (f q = some true ↔ P q = true)) (l : List Nat) : (l.filterMap f).any id = l.any P := by
  induction l with
  | nil => rfl
  | cons a r ih =>
    rw [List.filterMap_cons, List.any_cons, ← ih]
    cases e : f a with
    | none =>
      have : P a = false := by
        cases z : P a with
        | false => rfl
        | true => rw [(h a).mpr z] at e; cases e
      rw [this]
      rfl
    | some b =>
      show (b :: r.filterMap f).any id = _
      rw [List.any_cons]
      congr 1
      cases b with
      | true => exact ((h a).mp e).symm
      | false =>
        cases z : P a with
        | false => rfl
        | true => rw [(h a).mpr z] at e; cases e
theorem w_sentBy {rows : List (List Int)} {p : Nat} {m : Int} {S : Sto} {R : DK} (hl : rows.length ≤ 1000) (k : ∀ S', SG S S' → R (.bl (sentBy rows p m)) S') : dFn 5 B_is_sent_by_another_87f2 [.tup (rowsD rows), .int (p : Int), .int m] S R := by
  refine ⟨_, rfl, _, _, rfl, rfl, lc_mapE (List.range rows.length) (fun (q : Nat) => D.tup [.int (q : Int), rowD (rows.getD q [])]) (en_rows rows) (fun (q : Nat) => if decide ((q : Int) ≠ (p : Int)) = true then some (D.bl (decide (m ∈ rows.getD q []))) else none) (by rw [List.length_range]; omega) (fun _ _ => True.intro) (fun q hq S2 sg2 K Kn hk hn => ?_) fun t S2 nt sg2 ht => ?_⟩
  · refine ⟨_, rfl, .inl (.inl rfl), _, _, rfl, _, _, rfl, rfl, ⟨_, rfl, _, rfl, _, rfl, iteB (fun e => ?_) fun e => ?_⟩⟩
    · have e' : decide ((q : Int) ≠ (p : Int)) = true := by
        rw [xor_tt, Bool.not_eq_true'] at e
        exact decide_eq_true (of_decide_eq_false e)
      refine ⟨_, rfl, _, rfl, .int m, (rows.getD q []).map PyData.int, .int m, .inr (.tup (pys_ints _)), rfl, shaped_tup _, shaped_lst _, ?_⟩
      rw [any_int, xor_ff]
      exact hk _ (if_pos e') _ (.refl _)
    · have e' : decide ((q : Int) ≠ (p : Int)) = false := by
        rw [xor_tt, Bool.not_eq_false'] at e
        exact decide_eq_false fun z => z (of_decide_eq_true e)
      exact hn (if_neg (by rw [e']; exact Bool.false_ne_true)) _ (.refl _)
  · have et : (List.range rows.length).filterMap (fun (q : Nat) => if decide ((q : Int) ≠ (p : Int)) = true then some (D.bl (decide (m ∈ rows.getD q []))) else none) = ((List.range rows.length).filterMap fun (q : Nat) => if decide ((q : Int) ≠ (p : Int)) = true then some (decide (m ∈ rows.getD q [])) else none).map D.bl := by
      rw [List.map_filterMap]
      congr 1
      funext q
      split <;> rfl
    rw [et] at ht
    refine ⟨_, _, rfl, ht, ?_⟩
    show R (.bl ((List.filterMap (fun (q : Nat) => if decide ((q : Int) ≠ (p : Int)) = true then some (decide (m ∈ rows.getD q [])) else none) (List.range rows.length)).any id)) S2
    rw [any_range _ (fun (q : Nat) => decide (q ≠ p) && decide (m ∈ rows.getD q []))]
    · exact k _ sg2
    · intro q
      by_cases z : q = p
      · subst z
        simp
      · have z' : (q : Int) ≠ (p : Int) := fun y => z (by omega)
        simp [z, z']
def unBad (rows : List (List Int)) (x : Nat × Nat × Int) : Bool := decide (x.2.2 < 0) && !sentBy rows x.1 (-x.2.2)
def unErr (rows : List (List Int)) : Option (Nat × Nat × Int) := (placed rows).find? (unBad rows)
theorem w_unErr {rows : List (List Int)} {S : Sto} {R : DK} (hl : rows.length ≤ 1000) (ht : total rows ≤ 1000) (k : ∀ S', SG S S' → R (errD "unsent" (unErr rows)) S') : dFn 4 B_unsent_error_5d57 [.tup (rowsD rows)] S R := by
  refine ⟨_, rfl, _, gen_placed ht, fun n env S' => SG S S' ∧ (∀ y ∈ (placed rows).take n, unBad rows y = false) ∧ ∃ x1 x2 x3 : Option D, env = [some (.tup (rowsD rows)), x1, x2, x3], ⟨.refl _, fun y hy => by simp at hy, _, _, _, rfl⟩, fun _ _ _ _ _ => True.intro, ?_, ?_⟩
  · rintro n d env S' hd ⟨sg, hb, x1, x2, x3, rfl⟩
    obtain ⟨x, hx, rfl⟩ := plD_at hd
    have nxt : unBad rows x = false → ∀ y ∈ (placed rows).take (n + 1), unBad rows y = false := fun h y hy => by
      rw [List.take_add_one, hx] at hy
      rcases List.mem_append.mp hy with z | z
      · exact hb y z
      · rw [show y = x by simpa using z]
        exact h
    refine ⟨_, rfl, .inl (.inl rfl), _, _, rfl, _, _, rfl, _, _, rfl, rfl, ?_⟩
    refine ⟨_, rfl, _, rfl, iteB (fun h1 => ?_) fun h1 => ?_⟩
    · have h1 : decide (x.2.2 < 0) = true := h1
      refine ⟨_, rfl, _, rfl, _, rfl, rfl, w_sentBy hl fun S2 sg2 => ⟨_, rfl, iteB (fun h2 => ?_) fun h2 => ?_⟩⟩
      · refine ⟨_, rfl, _, rfl, rfl, ?_⟩
        have q := k _ (sg.trans sg2)
        have : unErr rows = some x := find_at hx (by unfold unBad; rw [h1, h2]; rfl) hb
        rw [this] at q
        exact q
      · exact ⟨sg.trans sg2, nxt (by unfold unBad; rw [h2, Bool.and_false]), _, _, _, rfl⟩
    · have h1 : decide (x.2.2 < 0) = false := h1
      exact goF ⟨sg, nxt (by unfold unBad; rw [h1, Bool.false_and]), _, _, _, rfl⟩
  · rintro env S' ⟨sg, hb, x1, x2, x3, rfl⟩
    have : unErr rows = none := find_no fun y hy => hb y (by
      show y ∈ (placed rows).take ((placed rows).map plD).length
      rw [List.length_map, List.take_length]
      exact hy)
    have q := k _ sg
    rw [this] at q
    exact q
def HapD (kvs : List (Key × D)) (S : List Int) : Prop := ∀ x : Int, (getD' kvs (Sum.inl x)).isSome = decide (x ∈ S)
theorem getD_any (kvs : List (Key × D)) (k : Key) : (getD' kvs k).isSome = kvs.any fun kv => decide (kv.1 = k) := by
  unfold getD'
  rw [Option.isSome_map]
  induction kvs with
  | nil => rfl
  | cons a r ih =>
    rw [List.find?_cons, List.any_cons, ← ih]
    cases decide (a.1 = k) <;> rfl
theorem putD_some {kvs : List (Key × D)} {k k' : Key} {v : D} : (getD' (putD kvs k v) k').isSome = (decide (k' = k) || (getD' kvs k').isSome) := by
  rw [getD_any, getD_any]
  unfold putD
  by_cases h : (kvs.any fun kv => decide (kv.1 = k)) = true
  · rw [if_pos h]
    have e1 : (kvs.map fun kv => if kv.1 = k then (kv.1, v) else kv).any (fun kv => decide (kv.1 = k')) = kvs.any (fun kv => decide (kv.1 = k')) := by
      rw [List.any_map]
      congr 1
      funext kv
      show decide ((if kv.1 = k then (kv.1, v) else kv).1 = k') = decide (kv.1 = k')
      split <;> rfl
    rw [e1]
    by_cases e : k' = k
    · subst e
      rw [h]
      simp
    · rw [decide_eq_false e, Bool.false_or]
  · rw [if_neg h, List.any_append]
    show ((kvs.any fun kv => decide (kv.1 = k')) || (decide (k = k') || false)) = _
    rw [Bool.or_false, Bool.or_comm]
    congr 1
    by_cases e : k = k'
    · subst e; rfl
    · rw [decide_eq_false e, decide_eq_false (Ne.symm e)]
theorem putD_len {kvs : List (Key × D)} {k : Key} {v : D} : (putD kvs k v).length ≤ kvs.length + 1 := by
  unfold putD
  split
  · rw [List.length_map]
    omega
  · rw [List.length_append]
    exact Nat.le_refl _
def goD : Option (Nat × Int) → D
  | none => .non
  | some (p, _) => .int (p : Int)
theorem w_ready {rows : List (List Int)} {pl : List Nat} {kvs : List (Key × D)} {b d : Addr} {S : Sto} {R : DK} (hp : pl.length = rows.length) (hb : S b = some (.lst (natD pl))) (hd : S d = some (.dK kvs)) (hk : HapD kvs (seen rows pl)) (q : R (goD (goes rows pl)) S) :
    dFn 6 B_ready_process_c75e [.tup (rowsD rows), .ref b, .ref d] S R := by
  refine ⟨_, rfl, _, _, rfl, rfl, fun i env S' => S' = S ∧ (∀ (j : Nat) (r : List Int) (n : Nat), j < i → rows[j]? = some r → pl[j]? = some n → ∀ e, r[n]? = some e → ¬ (0 ≤ e ∨ -e ∈ seen rows pl)) ∧ ∃ x3 x4 x5 : Option D, env = [some (.tup (rowsD rows)), some (.ref b), some (.ref d), x3, x4, x5], ⟨rfl, fun j _ _ z => absurd z (Nat.not_lt_zero _), _, _, _, rfl⟩, fun _ _ _ _ _ => True.intro, ?_, ?_⟩
  · rintro i e env S' he ⟨rfl, hno, x3, x4, x5, rfl⟩
    obtain ⟨row, hrow, rfl⟩ := enD_rows he
    clear he
    have hi := (List.getElem?_eq_some_iff.mp hrow).1
    have hpi := List.getElem?_eq_getElem (show i < pl.length by omega)
    generalize pl[i] = n at hpi
    refine ⟨_, rfl, .inl (.inl rfl), _, _, rfl, _, _, rfl, rfl, ?_⟩
    refine ⟨_, rfl, _, rfl, _, (i : Int), _, seqOf_lst hb, rfl, atI_nat (natD_at hpi), _, rfl, _, _, rfl, rfl, _, rfl, iteB (fun h1 => ?_) fun h1 => ?_⟩
    · have h1 : decide ((n : Int) < ((intsD row).length : Int)) = true := h1
      have h1 := of_decide_eq_true h1
      rw [intsD_len] at h1
      have hn : n < row.length := by omega
      have he : row[n]? = some row[n] := List.getElem?_eq_getElem hn
      generalize row[n] = ev at he
      have hev : (intsD row)[n]? = some (D.int ev) := by rw [intsD, List.getElem?_map, he]; rfl
      refine ⟨_, rfl, _, rfl, _, rfl, _, (i : Int), _, seqOf_lst hb, rfl, atI_nat (natD_at hpi), _, (n : Int), _, rfl, rfl, atI_nat hev, ?_⟩
      have hit : (0 ≤ ev ∨ -ev ∈ seen rows pl) → R (.int (i : Int)) S' := fun h => by
        have : goes rows pl = some (i, ev) := by
          have := goesFrom_skip (S := seen rows pl) (q := 0) (fun j r n hj hr hn => hno j r n hj hr hn) hrow hpi he h
          rw [Nat.zero_add] at this
          exact this
        rw [this] at q
        exact q
      have miss : ¬ (0 ≤ ev ∨ -ev ∈ seen rows pl) → ∀ (j : Nat) (r : List Int) (n : Nat), j < i + 1 → rows[j]? = some r → pl[j]? = some n → ∀ e, r[n]? = some e → ¬ (0 ≤ e ∨ -e ∈ seen rows pl) := fun h j r n' hj hr hn' e' he' => by
        rcases Nat.lt_succ_iff_lt_or_eq.mp hj with z | z
        · exact hno j r n' z hr hn' e' he'
        · subst z
          rw [hrow] at hr
          cases hr
          rw [hpi] at hn'
          cases hn'
          have hq := he.symm.trans he'
          cases hq
          exact h
      refine ⟨_, rfl, _, rfl, iteB (fun h2 => ?_) fun h2 => ?_⟩
      · have h2 := of_decide_eq_true h2
        exact goT ⟨_, rfl, hit (.inl h2)⟩
      · have h2 := of_decide_eq_false h2
        refine ⟨_, rfl, _, rfl, kvs, .inl (-ev), dictOf_ref hd, rfl, _, rfl, ?_⟩
        rw [xor_ff, hk]
        refine iteB (fun h3 => ?_) fun h3 => ?_
        · exact ⟨_, rfl, hit (.inr (of_decide_eq_true h3))⟩
        · exact ⟨rfl, miss (fun z => z.elim h2 (of_decide_eq_false h3)), _, _, _, rfl⟩
    · have h1 : decide ((n : Int) < ((intsD row).length : Int)) = false := h1
      have h1 := of_decide_eq_false h1
      rw [intsD_len] at h1
      refine ⟨rfl, fun j r n' hj hr hn' e' he' => ?_, _, _, _, rfl⟩
      rcases Nat.lt_succ_iff_lt_or_eq.mp hj with z | z
      · exact hno j r n' z hr hn' e' he'
      · subst z
        rw [hrow] at hr
        cases hr
        rw [hpi] at hn'
        cases hn'
        have := (List.getElem?_eq_some_iff.mp he').1
        omega
  · rintro env S' ⟨rfl, hno, x3, x4, x5, rfl⟩
    have : goes rows pl = none := goesFrom_none fun j r n hr hn => hno j r n (by
      show j < (enD (rowsD rows)).length
      rw [enD_len, rowsD, List.length_map]
      exact (List.getElem?_eq_some_iff.mp hr).1) hr hn
    rw [this] at q
    exact q
end Sv
set_option maxHeartbeats 1000000
set_option autoImplicit false
namespace Sv
open PySem PySem.Spec PyProof.Rows L2
theorem rep_nat (n : Nat) : (List.replicate ((n : Nat) : Int).toNat [D.int 0]).flatten = natD (List.replicate n 0) := by
  rw [Int.toNat_natCast]
  unfold natD
  rw [List.map_replicate]
  induction n with
  | zero => rfl
  | succ n ih => rw [List.replicate_succ, List.replicate_succ, List.flatten_cons, ih]; rfl
theorem natD_set (pl : List Nat) (p n : Nat) : (natD pl).set p (.int (n : Int)) = natD (pl.set p n) := by
  unfold natD
  rw [List.map_set]
theorem steps_none {rows : List (List Int)} {pl : List Nat} (h : goes rows pl = none) : ∀ k, steps rows k pl = []
  | 0 => rfl
  | k + 1 => by unfold steps; rw [h]
theorem order_len {rows : List (List Int)} : (order rows).length ≤ total rows + 1 := by
  have : ∀ k pl, (steps rows k pl).length ≤ k := by
    intro k
    induction k with
    | zero => intro pl; exact Nat.le_refl _
    | succ k ih =>
      intro pl
      unfold steps
      split
      · rw [List.length_cons]
        exact Nat.succ_le_succ (ih _)
      · exact Nat.zero_le _
  exact this _ _
theorem gen_order {rows : List (List Int)} (hl : rows.length ≤ 900) (ht : total rows ≤ 1000) : dGfn 1 5 B_some_order_66e8 [.tup (rowsD rows)] ((order rows).map pairD) := by
  have erl : (rowsD rows).length = rows.length := List.length_map ..
  have hol := @order_len rows
  refine ⟨rfl, ?_⟩
  refine ⟨rfl, fun q nq => ⟨_, rfl, _, _, rfl, rfl, _, Sto.same, by omega, by rw [erl]; omega, by decide, fun p1 np1 => ?_⟩⟩
  rw [erl, rep_nat]
  have hp1 : (Sto.put (Sto.put (fun _ => none) q (.lst [D.int 0])) p1 (.lst (natD (List.replicate rows.length 0)))) p1 = some (.lst (natD (List.replicate rows.length 0))) := Sto.same
  generalize (Sto.put (Sto.put (fun _ => none) q (.lst [D.int 0])) p1 (.lst (natD (List.replicate rows.length 0)))) = S0 at hp1 ⊢
  intro p2 np2
  have n12 : p1 ≠ p2 := fun z => by rw [z, np2] at hp1; cases hp1
  have hp1' : (S0.put p2 (.dK [])) p1 = some (.lst (natD (List.replicate rows.length 0))) := (Sto.ne n12).trans hp1
  have hp2 : (S0.put p2 (.dK [])) p2 = some (.dK []) := Sto.same
  generalize S0.put p2 (.dK []) = S1 at hp1' hp2 ⊢
  have hap0 : HapD [] (seen rows (List.replicate rows.length 0)) := fun x => by rw [seen_zero]; rfl
  refine ⟨_, rfl, _, rfl, _, rfl, rfl, w_ready (List.length_replicate ..) hp1' hp2 hap0 ?_⟩
  refine ⟨fun m ds env S => ∃ (pl : List Nat) (kvs : List (Key × D)) (x4 : Option D), pl.length = rows.length ∧ Fit rows pl ∧ m = total rows - pl.sum ∧ HapD kvs (seen rows pl) ∧ kvs.length ≤ pl.sum ∧ S p1 = some (.lst (natD pl)) ∧ S p2 = some (.dK kvs) ∧
    env = [some (.tup (rowsD rows)), some (.ref p1), some (.ref p2), some (goD (goes rows pl)), x4] ∧ (order rows).map pairD = ds ++ (steps rows (total rows + 1 - pl.sum) pl).map pairD, ⟨_, List.replicate rows.length 0, [], _, List.length_replicate .., fit_zero, rfl, hap0, by simp, hp1', hp2, rfl, ?_⟩, ?_⟩
  · have : total rows + 1 - (List.replicate rows.length 0).sum = total rows + 1 := by simp
    rw [this]
    rfl
  · rintro m ds env S ⟨pl, kvs, x4, hpl, hfit, rfl, hap, hkl, hS1, hS2, rfl, hout⟩
    refine ⟨_, rfl, _, rfl, ?_⟩
    cases hg : goes rows pl with
    | none =>
      rw [steps_none hg] at hout
      refine goF ?_
      show ds = (order rows).map pairD
      rw [hout]
      simp
    | some pe =>
      obtain ⟨p, e⟩ := pe
      obtain ⟨r, n, h1, h2, h3, h4⟩ := goes_some hg
      have hsum : (pl.set p (n + 1)).sum = pl.sum + 1 := by have := sum_set (k := n + 1) h2; omega
      have hfit' := fit_set hfit h1 h2 h3
      have hfs := fit_sum (rows := rows) (pl := pl.set p (n + 1)) (by rw [List.length_set]; exact hpl) hfit'
      obtain ⟨k, hk⟩ : ∃ k, total rows + 1 - pl.sum = k + 1 := ⟨total rows - pl.sum, by omega⟩
      rw [hk, steps_succ hg h2] at hout
      have hrd : (rowsD rows)[p]? = some (rowD r) := by rw [rowsD, List.getElem?_map, h1]; rfl
      have hev : (intsD r)[n]? = some (D.int e) := by rw [intsD, List.getElem?_map, h3]; rfl
      refine goT ?_
      refine ⟨_, rfl, _, rfl, _, (p : Int), _, rfl, rfl, atI_nat hrd, _, rfl, _, rfl, _, (p : Int), _, seqOf_lst hS1, rfl, atI_nat (natD_at h2), _, (n : Int), _, rfl, rfl, atI_nat hev, ?_⟩
      refine ⟨_, rfl, _, rfl, p1, natD pl, p, (n : Int), rfl, rfl, hS1, natD_at h2, 1, natD pl, rfl, hS1, ?_, ?_⟩
      · rw [natD_len]
        exact (List.getElem?_eq_some_iff.mp h2).1
      have eset : (natD pl).set p (.int ((n : Int) + 1)) = natD (pl.set p (n + 1)) := by
        rw [← natD_set]
        rfl
      rw [eset]
      have hT1 : (S.put p1 (.lst (natD (pl.set p (n + 1))))) p1 = some (.lst (natD (pl.set p (n + 1)))) := Sto.same
      have hT2 : (S.put p1 (.lst (natD (pl.set p (n + 1))))) p2 = some (.dK kvs) := (Sto.ne (Ne.symm n12)).trans hS2
      generalize S.put p1 (.lst (natD (pl.set p (n + 1)))) = T at hT1 hT2 ⊢
      refine ⟨_, rfl, _, rfl, p2, kvs, .inl e, rfl, rfl, hT2, by omega, ?_⟩
      have hU1 : (T.put p2 (.dK (putD kvs (.inl e) (.bl true)))) p1 = some (.lst (natD (pl.set p (n + 1)))) := (Sto.ne n12).trans hT1
      have hU2 : (T.put p2 (.dK (putD kvs (.inl e) (.bl true)))) p2 = some (.dK (putD kvs (.inl e) (.bl true))) := Sto.same
      generalize T.put p2 (.dK (putD kvs (.inl e) (.bl true))) = U at hU1 hU2 ⊢
      have hl2 : ds.length < 1000000 := by
        have := congrArg List.length hout
        rw [List.length_map, List.length_append, List.length_map, List.length_cons] at this
        omega
      refine ⟨hl2, _, rfl, _, rfl, rfl, ⟨(steps rows k (pl.set p (n + 1))).map pairD, ?_⟩, ?_⟩
      · rw [hout]
        rfl
      have hap' : HapD (putD kvs (.inl e) (.bl true)) (seen rows (pl.set p (n + 1))) := fun x => by
        rw [putD_some, hap x]
        have := seen_step h1 h2 h3 x
        by_cases z : x = e
        · subst z
          simp [this]
        · have z' : ((Sum.inl x : Key) = .inl e) = False := by simp [z]
          simp [this, z, z']
      refine ⟨_, rfl, _, rfl, _, rfl, rfl, w_ready (pl := pl.set p (n + 1)) (by rw [List.length_set]; exact hpl) (keepLD_lst hU1) (keepLD_dK hU2) hap' ?_⟩
      refine ⟨total rows - (pl.set p (n + 1)).sum, by omega, pl.set p (n + 1), _, _, by rw [List.length_set]; exact hpl, hfit', rfl, hap', Nat.le_trans putD_len (by omega), keepLD_lst hU1, keepLD_dK hU2, rfl, ?_⟩
      have ek : total rows + 1 - (pl.set p (n + 1)).sum = k := by omega
      rw [ek, hout, List.map_cons, List.append_assoc]
      rfl
def cirD (rows : List (List Int)) : D := if decide ((order rows).length < total rows) = true then .tup [.str "circle"] else .non
theorem w_cirErr {rows : List (List Int)} {S : Sto} {R : DK} (hl : rows.length ≤ 900) (ht : total rows ≤ 1000) (k : ∀ S', SG S S' → R (cirD rows) S') : dFn 1 B_circle_error_0309 [.tup (rowsD rows)] S R := by
  have hol := @order_len rows
  refine ⟨_, rfl, _, gen_order hl ht, by rw [List.length_map]; omega, fun p np => ⟨_, _, rfl, seqOf_lst Sto.same, _, rfl, rfl, w_count (by omega) fun S2 sg2 => ⟨_, rfl, iteB (fun h => ?_) fun h => ?_⟩⟩⟩
  · have h : decide ((((order rows).map pairD).length : Int) < (total rows : Int)) = true := h
    have q := k _ ((show SG S _ from .new np).trans sg2)
    have e : decide ((order rows).length < total rows) = true := by
      have := of_decide_eq_true h
      rw [List.length_map] at this
      exact decide_eq_true (by omega)
    unfold cirD at q
    rw [if_pos e] at q
    exact ⟨rfl, q⟩
  · have h : decide ((((order rows).map pairD).length : Int) < (total rows : Int)) = false := h
    have q := k _ ((show SG S _ from .new np).trans sg2)
    have e : ¬ decide ((order rows).length < total rows) = true := by
      have := of_decide_eq_false h
      rw [List.length_map] at this
      intro z
      have := of_decide_eq_true z
      omega
    unfold cirD at q
    rw [if_neg e] at q
    exact q
/-- the first error of rows of ints -/
def heD (rows : List (List Int)) : D := match shD rows with
  | .non => (match evErr rows with
    | some x => errD "event" (some x)
    | none => match twErr rows with
      | some x => errD "twice" (some x)
      | none => match unErr rows with
        | some x => errD "unsent" (some x)
        | none => cirD rows)
  | d => d
theorem sh_cases (rows : List (List Int)) : (shD rows = .non ∧ 1 ≤ rows.length ∧ rows.length ≤ 6 ∧ total rows ≤ 60) ∨ (shD rows ≠ .non ∧ ∃ t, shD rows = .tup [.str t]) := by
  unfold shD
  by_cases h1 : 1 ≤ rows.length
  · by_cases h2 : rows.length ≤ 6
    · by_cases h3 : 60 < total rows
      · rw [decide_eq_true h1, decide_eq_true h2, decide_eq_true h3]
        exact .inr ⟨fun z => (nomatch z), _, rfl⟩
      · rw [decide_eq_true h1, decide_eq_true h2, decide_eq_false h3]
        exact .inl ⟨rfl, h1, h2, by omega⟩
    · rw [decide_eq_false h2, Bool.and_false]
      exact .inr ⟨fun z => (nomatch z), _, rfl⟩
  · rw [decide_eq_false h1, Bool.false_and]
    exact .inr ⟨fun z => (nomatch z), _, rfl⟩
theorem w_herr {rows : List (List Int)} {S : Sto} {R : DK} (k : ∀ S', SG S S' → R (heD rows) S') : dFn 1 B_history_error_d6f4 [.tup (rowsD rows)] S R := by
  refine ⟨_, rfl, rfl, w_shape fun S1 sg1 => ?_⟩
  rcases sh_cases rows with ⟨h, h1, h6, h60⟩ | ⟨hn, t, h⟩
  · refine .inl ⟨h, _, rfl, rfl, w_evErr (by omega) ?_⟩
    have he : heD rows = (match evErr rows with
      | some x => errD "event" (some x)
      | none => match twErr rows with
        | some x => errD "twice" (some x)
        | none => match unErr rows with
          | some x => errD "unsent" (some x)
          | none => cirD rows) := by unfold heD; rw [h]
    cases h2 : evErr rows with
    | some x =>
      rw [h2] at he
      exact .inr ⟨_, _, rfl, by have q := k _ sg1; rw [he] at q; exact q⟩
    | none =>
      rw [h2] at he
      refine .inl ⟨rfl, _, rfl, rfl, w_twErr (by omega) fun S2 sg2 => ?_⟩
      cases h3 : twErr rows with
      | some x =>
        rw [h3] at he
        exact .inr ⟨_, _, rfl, by have q := k _ (sg1.trans sg2); rw [he] at q; exact q⟩
      | none =>
        rw [h3] at he
        refine .inl ⟨rfl, _, rfl, rfl, w_unErr (by omega) (by omega) fun S3 sg3 => ?_⟩
        cases h4 : unErr rows with
        | some x =>
          rw [h4] at he
          exact .inr ⟨_, _, rfl, by have q := k _ ((sg1.trans sg2).trans sg3); rw [he] at q; exact q⟩
        | none =>
          rw [h4] at he
          refine .inl ⟨rfl, _, rfl, rfl, w_cirErr (by omega) (by omega) fun S4 sg4 => ?_⟩
          have q := k _ (((sg1.trans sg2).trans sg3).trans sg4)
          rw [he] at q
          exact q
  · have he : heD rows = .tup [.str t] := by unfold heD; rw [h]
    refine .inr ⟨_, _, h, ?_⟩
    have q := k _ sg1
    rw [he] at q
    rw [h]
    exact q
theorem w_ishist {rows : List (List Int)} {S : Sto} {R : DK} (k : ∀ S', SG S S' → R (.bl (isNon (heD rows))) S') : dFn 1 B_is_history_be67 [.tup (rowsD rows)] S R :=
  ⟨_, rfl, rfl, w_herr k⟩
end Sv
set_option maxHeartbeats 1000000
set_option autoImplicit false
namespace Sv
open PySem PySem.Spec PyProof.Rows L2
def nz (row : List Int) : List Int := row.filter fun e => decide (e ≠ 0)
/-- times of the events: a row goes forward, a receipt is behind its sending -/
structure Rank (rows : List (List Int)) (t : Int → Nat) : Prop where
  row : ∀ row ∈ rows, (nz row).Pairwise fun a b => t a < t b
  rcv : ∀ row ∈ rows, ∀ e ∈ row, e < 0 → t (-e) < t e
structure Hist (rows : List (List Int)) : Prop where
  l1 : 1 ≤ rows.length
  l6 : rows.length ≤ 6
  tot : total rows ≤ 60
  rng : ∀ row ∈ rows, ∀ e ∈ row, -24 ≤ e ∧ e ≤ 24
  once : ∀ e, e ≠ 0 → rows.flatten.count e ≤ 1
  sent : ∀ (p : Nat) (row : List Int) (e : Int), rows[p]? = some row → e ∈ row → e < 0 → ∃ (q : Nat) (row2 : List Int), q ≠ p ∧ rows[q]? = some row2 ∧ -e ∈ row2
  rank : ∃ t, Rank rows t
theorem placed_evs : ∀ (p : Nat) (rows : List (List Int)), (placedFrom p rows).map (·.2.2) = rows.flatten
  | _, [] => rfl
  | p, r :: rs => by
    show (blockP p r ++ placedFrom (p + 1) rs).map (·.2.2) = _
    rw [List.map_append, placed_evs (p + 1) rs, List.flatten_cons]
    congr 1
    unfold blockP
    apply List.ext_getElem?
    intro i
    rw [List.getElem?_map, List.getElem?_mapIdx]
    cases r[i]? <;> rfl
theorem placed_mem {rows : List (List Int)} {x : Nat × Nat × Int} (h : x ∈ placed rows) : ∃ row, rows[x.1]? = some row ∧ row[x.2.1]? = some x.2.2 := by
  have : ∀ (p : Nat) (rows : List (List Int)) (x : Nat × Nat × Int), x ∈ placedFrom p rows → p ≤ x.1 ∧ ∃ row, rows[x.1 - p]? = some row ∧ row[x.2.1]? = some x.2.2 := by
    intro p rows
    induction rows generalizing p with
    | nil => intro x h; simp [placedFrom] at h
    | cons r rs ih =>
      intro x h
      have h : x ∈ blockP p r ++ placedFrom (p + 1) rs := h
      rcases List.mem_append.mp h with z | z
      · unfold blockP at z
        obtain ⟨i, hi, rfl⟩ := List.mem_mapIdx.mp z
        exact ⟨Nat.le_refl _, r, by simp, List.getElem?_eq_getElem hi⟩
      · obtain ⟨h1, row, h2, h3⟩ := ih (p + 1) x z
        refine ⟨by omega, row, ?_, h3⟩
        have : x.1 - p = (x.1 - (p + 1)) + 1 := by omega
        rw [this, List.getElem?_cons_succ]
        exact h2
  obtain ⟨_, row, h2, h3⟩ := this 0 rows x h
  exact ⟨row, by simpa using h2, h3⟩
theorem mem_placed {rows : List (List Int)} {p i : Nat} {row : List Int} {e : Int} (h : rows[p]? = some row) (h2 : row[i]? = some e) : (p, i, e) ∈ placed rows := by
  obtain ⟨more, hm⟩ := placed_split rows (p + 1)
  rw [hm, placed_take h]
  exact List.mem_append_left _ (List.mem_append_right _ (List.mem_of_getElem? (block_at h2)))
theorem ev_none {rows : List (List Int)} : evErr rows = none ↔ ∀ row ∈ rows, ∀ e ∈ row, -24 ≤ e ∧ e ≤ 24 := by
  unfold evErr
  rw [List.find?_eq_none]
  constructor
  · intro h row hr e he
    obtain ⟨p, hp⟩ := List.getElem?_of_mem hr
    obtain ⟨i, hi⟩ := List.getElem?_of_mem he
    have := h _ (mem_placed hp hi)
    unfold badE at this
    simpa using this
  · intro h x hx
    obtain ⟨row, h1, h2⟩ := placed_mem hx
    have := h row (List.mem_of_getElem? h1) x.2.2 (List.mem_of_getElem? h2)
    unfold badE
    simp [this.1, this.2]
theorem tw_none : ∀ (L : List (Nat × Nat × Int)) (ns : List Int), (0 : Int) ∉ ns → (twF ns L = none ↔ (∀ e ∈ ns, e ∉ L.map (·.2.2)) ∧ ∀ e, e ≠ 0 → (L.map (·.2.2)).count e ≤ 1)
  | [], ns, _ => by simp [twF]
  | x :: r, ns, h0 => by
    unfold twF
    by_cases hx : x.2.2 ∈ ns
    · rw [if_pos hx]
      refine ⟨fun z => (nomatch z), fun ⟨h1, _⟩ => absurd (List.mem_cons_self : x.2.2 ∈ (x :: r).map (·.2.2)) (h1 _ hx)⟩
    · rw [if_neg hx]
      by_cases hz : x.2.2 = 0
      · rw [if_pos hz, tw_none r ns h0]
        constructor
        · rintro ⟨h1, h2⟩
          refine ⟨fun e he hm => ?_, fun e he => ?_⟩
          · rcases List.mem_cons.mp hm with z | z
            · exact hx (Eq.mp (congrArg (fun y => y ∈ ns) (show e = x.2.2 from z)) he)
            · exact h1 e he z
          · rw [List.map_cons, List.count_cons, if_neg (by simp [hz]; exact Ne.symm he)]
            exact h2 e he
        · rintro ⟨h1, h2⟩
          refine ⟨fun e he hm => h1 e he (List.mem_cons_of_mem _ hm), fun e he => ?_⟩
          have := h2 e he
          rw [List.map_cons, List.count_cons] at this
          omega
      · rw [if_neg hz, tw_none r (ns ++ [x.2.2]) (by rw [List.mem_append, List.mem_singleton]; exact fun z => z.elim h0 fun z => hz z.symm)]
        constructor
        · rintro ⟨h1, h2⟩
          refine ⟨fun e he hm => ?_, fun e he => ?_⟩
          · rcases List.mem_cons.mp hm with z | z
            · exact hx (Eq.mp (congrArg (fun y => y ∈ ns) (show e = x.2.2 from z)) he)
            · exact h1 e (List.mem_append_left _ he) z
          · rw [List.map_cons, List.count_cons]
            by_cases z : x.2.2 = e
            · have : (r.map (·.2.2)).count e = 0 := List.count_eq_zero.mpr (h1 e (List.mem_append_right _ (by rw [z]; exact List.mem_singleton_self _)))
              rw [this]
              split <;> omega
            · rw [if_neg (by simp [z])]
              exact h2 e he
        · rintro ⟨h1, h2⟩
          refine ⟨fun e he hm => ?_, fun e he => ?_⟩
          · rcases List.mem_append.mp he with z | z
            · exact h1 e z (List.mem_cons_of_mem _ hm)
            · rw [List.mem_singleton] at z
              subst z
              have := h2 x.2.2 hz
              rw [List.map_cons, List.count_cons_self] at this
              have h3 := List.count_pos_iff.mpr hm
              omega
          · have := h2 e he
            rw [List.map_cons, List.count_cons] at this
            omega
theorem twErr_none {rows : List (List Int)} : twErr rows = none ↔ ∀ e, e ≠ 0 → rows.flatten.count e ≤ 1 := by
  unfold twErr
  rw [tw_none _ _ (by simp), placed_evs]
  simp
theorem sentBy_iff {rows : List (List Int)} {p : Nat} {m : Int} : sentBy rows p m = true ↔ ∃ (q : Nat) (row2 : List Int), q ≠ p ∧ rows[q]? = some row2 ∧ m ∈ row2 := by
  unfold sentBy
  rw [List.any_eq_true]
  constructor
  · rintro ⟨q, hq, h⟩
    rw [Bool.and_eq_true, decide_eq_true_iff, decide_eq_true_iff] at h
    have hq := List.mem_range.mp hq
    refine ⟨q, rows[q], h.1, List.getElem?_eq_getElem hq, ?_⟩
    have := h.2
    rw [List.getD_eq_getElem?_getD, List.getElem?_eq_getElem hq] at this
    exact this
  · rintro ⟨q, row2, h1, h2, h3⟩
    refine ⟨q, List.mem_range.mpr (List.getElem?_eq_some_iff.mp h2).1, ?_⟩
    rw [Bool.and_eq_true, decide_eq_true_iff, decide_eq_true_iff, List.getD_eq_getElem?_getD, h2]
    exact ⟨h1, h3⟩
theorem un_none {rows : List (List Int)} : unErr rows = none ↔ ∀ (p : Nat) (row : List Int) (e : Int), rows[p]? = some row → e ∈ row → e < 0 → ∃ (q : Nat) (row2 : List Int), q ≠ p ∧ rows[q]? = some row2 ∧ -e ∈ row2 := by
  unfold unErr
  rw [List.find?_eq_none]
  constructor
  · intro h p row e hp he h0
    obtain ⟨i, hi⟩ := List.getElem?_of_mem he
    have := h _ (mem_placed hp hi)
    unfold unBad at this
    rw [decide_eq_true h0, Bool.true_and] at this
    exact sentBy_iff.mp (by simpa using this)
  · intro h x hx
    obtain ⟨row, h1, h2⟩ := placed_mem hx
    unfold unBad
    by_cases h0 : x.2.2 < 0
    · have := sentBy_iff.mpr (h x.1 row x.2.2 h1 (List.mem_of_getElem? h2) h0)
      rw [this, Bool.not_true, Bool.and_false]
      exact Bool.false_ne_true
    · rw [decide_eq_false h0, Bool.false_and]
      exact Bool.false_ne_true
/-- the events that are not read yet -/
def Unread (rows : List (List Int)) (n : Nat → Nat) (e : Int) : Prop := ∃ (i k : Nat) (row : List Int), rows[i]? = some row ∧ n i ≤ k ∧ row[k]? = some e
theorem nz_pair {row : List Int} {t : Int → Nat} (h : (nz row).Pairwise fun a b => t a < t b) : ∀ {i j : Nat} {a b : Int}, i < j → row[i]? = some a → row[j]? = some b → a ≠ 0 → b ≠ 0 → t a < t b := by
  induction row with
  | nil => intro i j a b _ h1; simp at h1
  | cons x r ih =>
    intro i j a b hij h1 h2 ha hb
    have hr : (nz r).Pairwise fun a b => t a < t b := h.sublist (by unfold nz; rw [List.filter_cons]; split; exact List.sublist_cons_self _ _; exact List.Sublist.refl _)
    obtain ⟨j, rfl⟩ : ∃ k, j = k + 1 := ⟨j - 1, by omega⟩
    rw [List.getElem?_cons_succ] at h2
    cases i with
    | zero =>
      obtain rfl : x = a := Option.some.inj h1
      have : nz (x :: r) = x :: nz r := by unfold nz; rw [List.filter_cons, if_pos (by simpa using ha)]
      rw [this, List.pairwise_cons] at h
      exact h.1 b (List.mem_filter.mpr ⟨List.mem_of_getElem? h2, by simpa using hb⟩)
    | succ i =>
      rw [List.getElem?_cons_succ] at h1
      exact ih hr (by omega) h1 h2 ha hb
theorem rank_ready {rows : List (List Int)} {t : Int → Nat} (h : Rank rows t) (sent : ∀ (p : Nat) (row : List Int) (e : Int), rows[p]? = some row → e ∈ row → e < 0 → ∃ (q : Nat) (row2 : List Int), q ≠ p ∧ rows[q]? = some row2 ∧ -e ∈ row2) (n : Nat → Nat)
    (hu : ∃ (i : Nat) (a : List Int), rows[i]? = some a ∧ n i < a.length) : Ready rows n := by
  by_cases hz : ∃ (i : Nat) (row : List Int), rows[i]? = some row ∧ row[n i]? = some 0
  · obtain ⟨i, row, h1, h2⟩ := hz
    exact ⟨i, row, 0, h1, h2, .inl (Int.le_refl _)⟩
  · have nzn : ∀ (i : Nat) (row : List Int) (e : Int), rows[i]? = some row → row[n i]? = some e → e ≠ 0 := fun i row e h1 h2 z => hz ⟨i, row, h1, by rw [h2, z]⟩
    -- the least time of an unread event other than a save
    have least : ∀ m : Nat, ∀ e, Unread rows n e → e ≠ 0 → t e ≤ m → ∃ e', Unread rows n e' ∧ e' ≠ 0 ∧ ∀ e2, Unread rows n e2 → e2 ≠ 0 → t e' ≤ t e2 := by
      intro m
      induction m with
      | zero => exact fun e hu h0 hm => ⟨e, hu, h0, fun e2 _ _ => by omega⟩
      | succ m ih =>
        intro e hu h0 hm
        by_cases q : ∃ e2, Unread rows n e2 ∧ e2 ≠ 0 ∧ t e2 < t e
        · obtain ⟨e2, a, b, c⟩ := q
          exact ih e2 a b (by omega)
        · exact ⟨e, hu, h0, fun e2 a b => Nat.le_of_not_lt fun c => q ⟨e2, a, b, c⟩⟩
    obtain ⟨i, a, h1, h2⟩ := hu
    have h3 := List.getElem?_eq_getElem h2
    obtain ⟨e, ⟨i, k, row, hr, hk, he⟩, h0, hmin⟩ := least _ _ ⟨i, n i, a, h1, Nat.le_refl _, h3⟩ (nzn i a _ h1 h3) (Nat.le_refl _)
    have hkn : k = n i := by
      rcases Nat.lt_or_ge (n i) k with z | z
      · have hl : n i < row.length := Nat.lt_trans z (List.getElem?_eq_some_iff.mp he).1
        have h4 := List.getElem?_eq_getElem hl
        have h5 := nzn i row _ hr h4
        have h6 := nz_pair (h.row row (List.mem_of_getElem? hr)) z h4 he h5 h0
        have h7 := hmin _ ⟨i, n i, row, hr, Nat.le_refl _, h4⟩ h5
        omega
      · omega
    subst hkn
    refine ⟨i, row, e, hr, he, ?_⟩
    by_cases hp : 0 ≤ e
    · exact .inl hp
    · obtain ⟨q, row2, _, h5, h6⟩ := sent i row e hr (List.mem_of_getElem? he) (by omega)
      obtain ⟨k2, h7⟩ := List.getElem?_of_mem h6
      have h8 := h.rcv row (List.mem_of_getElem? hr) e (List.mem_of_getElem? he) (by omega)
      refine .inr ⟨q, row2, k2, h5, Nat.lt_of_not_le fun z => ?_, h7⟩
      have := hmin (-e) ⟨q, k2, row2, h5, z, h7⟩ (by omega)
      omega
end Sv
set_option maxHeartbeats 1000000
set_option autoImplicit false
namespace Sv
open PySem PySem.Spec PyProof.Rows L2
theorem doneR {rows : List (List Int)} (h : ∀ n : Nat → Nat, (∃ (i : Nat) (a : List Int), rows[i]? = some a ∧ n i < a.length) → Ready rows n) {pl : List Nat} (hl : pl.length = rows.length) (hg : goes rows pl = none) : ∀ (i : Nat) (r : List Int) (n : Nat), rows[i]? = some r → pl[i]? = some n → r.length ≤ n := by
  intro i r n h1 h2
  refine Nat.le_of_not_lt fun h3 => ?_
  have e2 : pl.getD i 0 = n := by rw [List.getD_eq_getElem?_getD, h2]; rfl
  obtain ⟨i', a, e, h4, h5, h6⟩ := h (fun i => pl.getD i 0) ⟨i, r, h1, by rw [e2]; exact h3⟩
  have at' : ∀ {j : Nat} {b : List Int}, rows[j]? = some b → pl[j]? = some (pl.getD j 0) := fun {j b} hj => by
    have hj' : j < pl.length := by
      rw [hl]
      exact (List.getElem?_eq_some_iff.mp hj).1
    rw [List.getD_eq_getElem?_getD, List.getElem?_eq_getElem hj']
    rfl
  refine goesFrom_any (S := seen rows pl) (q := 0) h4 (at' h4) h5 (h6.imp_right ?_) hg
  rintro ⟨j, b, k', h7, h8, h9⟩
  exact seen_mem h7 (at' h7) h8 h9
theorem steps_allR {rows : List (List Int)} (h : ∀ n : Nat → Nat, (∃ (i : Nat) (a : List Int), rows[i]? = some a ∧ n i < a.length) → Ready rows n) : ∀ (k : Nat) {pl : List Nat}, pl.length = rows.length → Fit rows pl → k + pl.sum = total rows + 1 →
    (steps rows k pl).length + pl.sum = total rows ∧ ∀ (p : Nat) (row : List Int) (n : Nat), rows[p]? = some row → pl[p]? = some n → own p (steps rows k pl) = row.drop n
  | 0, pl, hl, hf, hk => by
    have := fit_sum hl hf
    omega
  | k + 1, pl, hl, hf, hk => by
    cases hg : goes rows pl with
    | none =>
      have all := doneR h hl hg
      have e0 : steps rows (k + 1) pl = [] := by
        unfold steps
        rw [hg]
      rw [e0]
      have h1 := total_le hl all
      have h2 := fit_sum hl hf
      refine ⟨by rw [List.length_nil]; omega, fun p row n a b => ?_⟩
      have := all p row n a b
      rw [List.drop_of_length_le this]
      rfl
    | some pe =>
      obtain ⟨q, e⟩ := pe
      obtain ⟨r, m, h1, h2, h3, h4⟩ := goes_some hg
      have hs : (pl.set q (m + 1)).sum = pl.sum + 1 := by have := sum_set (k := m + 1) h2; omega
      obtain ⟨i1, i2⟩ := steps_allR h k (pl := pl.set q (m + 1)) (by rw [List.length_set]; exact hl) (fit_set hf h1 h2 h3) (by rw [hs]; omega)
      rw [steps_succ hg h2]
      refine ⟨by rw [List.length_cons]; omega, fun p row n a b => ?_⟩
      by_cases z : q = p
      · subst z
        obtain rfl := Option.some.inj (h1.symm.trans a)
        obtain rfl := Option.some.inj (h2.symm.trans b)
        have i3 := i2 q r (m + 1) h1 (by rw [List.getElem?_set, if_pos rfl, if_pos (List.getElem?_eq_some_iff.mp h2).1])
        rw [own_cons, if_pos rfl, i3]
        obtain ⟨hm, he⟩ := List.getElem?_eq_some_iff.mp h3
        rw [List.drop_eq_getElem_cons hm, he]
      · have i3 := i2 p row n a (by rw [List.getElem?_set_ne z]; exact b)
        rw [own_cons, if_neg (show ¬ (q : Int) = (p : Int) from fun w => z (by omega)), i3]
theorem order_full {rows : List (List Int)} (h : ∀ n : Nat → Nat, (∃ (i : Nat) (a : List Int), rows[i]? = some a ∧ n i < a.length) → Ready rows n) : (order rows).length = total rows := by
  obtain ⟨h1, h2⟩ := steps_allR h (total rows + 1) (pl := List.replicate rows.length 0) (List.length_replicate ..) fit_zero (by simp)
  show (steps rows (total rows + 1) (List.replicate rows.length 0)).length = _
  simpa using h1
theorem he_hist {rows : List (List Int)} (h : Hist rows) : heD rows = .non := by
  have hs : shD rows = .non := by
    unfold shD
    rw [decide_eq_true h.l1, decide_eq_true h.l6, decide_eq_false (show ¬ 60 < total rows by have := h.tot; omega)]
    rfl
  obtain ⟨t, ht⟩ := h.rank
  have hc : cirD rows = .non := by
    unfold cirD
    rw [order_full (rank_ready ht h.sent), if_neg (by simp)]
  unfold heD
  rw [hs, ev_none.mpr h.rng, twErr_none.mpr h.once, un_none.mpr h.sent, hc]
theorem w_histT {rows : List (List Int)} {S : Sto} {R : DK} (h : Hist rows) (k : ∀ S', SG S S' → R (.bl true) S') : dFn 1 B_is_history_be67 [.tup (rowsD rows)] S R :=
  w_ishist fun S' sg => by rw [he_hist h]; exact k S' sg
theorem Grown.open_at {c : Nat} {nm : List Int} {r : List (List Int)} {o : List (Int × Int)} {u k : Nat} (h : Grown c nm r o u k) : ∀ x ∈ o, ∃ (q : Nat) (row : List Int), x.2 = (q : Int) ∧ r[q]? = some row ∧ x.1 ∈ row := by
  have set' : ∀ {r : List (List Int)} {p : Nat} {row : List Int} {v : Int} {x : Int × Int}, r[p]? = some row → (∃ (q : Nat) (row : List Int), x.2 = (q : Int) ∧ r[q]? = some row ∧ x.1 ∈ row) → ∃ (q : Nat) (row' : List Int), x.2 = (q : Int) ∧ (r.set p (row ++ [v]))[q]? = some row' ∧ x.1 ∈ row' := by
    rintro r p row v x h ⟨q, row2, h1, h2, h3⟩
    by_cases z : p = q
    · subst z
      rw [h] at h2
      cases h2
      exact ⟨p, row ++ [v], h1, at_set h _, List.mem_append_left _ h3⟩
    · exact ⟨q, row2, h1, by rw [List.getElem?_set_ne z]; exact h2, h3⟩
  induction h with
  | start => exact fun x z => (nomatch z)
  | skip _ ih => exact ih
  | save _ h ih => exact fun x hx => set' h (ih x hx)
  | @send r o u k p row m _ h hu ih =>
    intro x hx
    rcases List.mem_append.mp hx with z | z
    · exact set' h (ih x z)
    · rw [List.mem_singleton.mp z]
      exact ⟨p, _, rfl, at_set h _, List.mem_append_right _ (List.mem_singleton_self _)⟩
  | recv _ h hj _ ih => exact fun x hx => set' h (ih x (List.mem_of_mem_eraseIdx hx))
theorem Grown.sentA {c : Nat} {nm : List Int} {r : List (List Int)} {o : List (Int × Int)} {u k : Nat} (h : Grown c nm r o u k) (hn : nm.Perm names24) : ∀ (p : Nat) (row : List Int) (e : Int), r[p]? = some row → e ∈ row → e < 0 → ∃ (q : Nat) (row2 : List Int), q ≠ p ∧ r[q]? = some row2 ∧ -e ∈ row2 := by
  have set' : ∀ {r : List (List Int)} {p : Nat} {row : List Int} {v : Int}, r[p]? = some row → (∀ (p : Nat) (row : List Int) (e : Int), r[p]? = some row → e ∈ row → e < 0 → ∃ (q : Nat) (row2 : List Int), q ≠ p ∧ r[q]? = some row2 ∧ -e ∈ row2) →
      (v < 0 → ∃ (q : Nat) (row2 : List Int), q ≠ p ∧ r[q]? = some row2 ∧ -v ∈ row2) → ∀ (p' : Nat) (row' : List Int) (e : Int), (r.set p (row ++ [v]))[p']? = some row' → e ∈ row' → e < 0 → ∃ (q : Nat) (row2 : List Int), q ≠ p' ∧ (r.set p (row ++ [v]))[q]? = some row2 ∧ -e ∈ row2 := by
    intro r p row v h ih hv p' row' e h1 h2 h3
    have up : (∃ (q : Nat) (row2 : List Int), q ≠ p' ∧ r[q]? = some row2 ∧ -e ∈ row2) → ∃ (q : Nat) (row2 : List Int), q ≠ p' ∧ (r.set p (row ++ [v]))[q]? = some row2 ∧ -e ∈ row2 := by
      rintro ⟨q, row2, a, b, c⟩
      by_cases z : p = q
      · subst z
        rw [h] at b
        cases b
        exact ⟨p, _, a, at_set h _, List.mem_append_left _ c⟩
      · exact ⟨q, row2, a, by rw [List.getElem?_set_ne z]; exact b, c⟩
    rcases set_at h1 with ⟨rfl, rfl⟩ | ⟨_, h4⟩
    · rcases List.mem_append.mp h2 with z | z
      · exact up (ih p row e h z h3)
      · rw [List.mem_singleton] at z
        subst z
        exact up (hv h3)
    · exact up (ih p' row' e h4 h2 h3)
  induction h with
  | start => intro p row e h1 h2; rw [(List.mem_replicate.mp (List.mem_of_getElem? h1)).2] at h2; cases h2
  | skip _ ih => exact ih
  | save _ h ih => exact set' h ih fun z => absurd z (by decide)
  | send _ h hu ih => exact set' h ih fun z => absurd z (by have := names_pos hn _ (List.mem_of_getElem? hu); omega)
  | @recv r o u k row j m q p g h hj hq ih =>
    refine set' h ih fun _ => ?_
    obtain ⟨q', row2, h1, h2, h3⟩ := g.open_at _ (List.mem_of_getElem? hj)
    have h1 : q = (q' : Int) := h1
    refine ⟨q', row2, fun z => hq (by rw [h1, z]), h2, ?_⟩
    have : -(0 - m) = m := by omega
    rw [this]
    exact h3
theorem nz_app (a b : List Int) : nz (a ++ b) = nz a ++ nz b := List.filter_append ..
theorem flat_mem {r : List (List Int)} {p : Nat} {row : List Int} {e : Int} (h : r[p]? = some row) (he : e ∈ row) : e ∈ r.flatten := List.mem_flatten.mpr ⟨row, List.mem_of_getElem? h, he⟩
theorem flat_setC {r : List (List Int)} {p : Nat} {row : List Int} (v e : Int) (h : r[p]? = some row) : (r.set p (row ++ [v])).flatten.count e = r.flatten.count e + (if v = e then 1 else 0) := by
  induction r generalizing p with
  | nil => simp at h
  | cons a r ih =>
    cases p with
    | zero =>
      obtain rfl : a = row := Option.some.inj h
      rw [List.set_cons_zero, List.flatten_cons, List.flatten_cons, List.count_append, List.count_append, List.count_append, List.count_singleton]
      simp only [beq_iff_eq]
      omega
    | succ p =>
      rw [List.set_cons_succ, List.flatten_cons, List.flatten_cons, List.count_append, List.count_append, ih (by simpa using h)]
      omega
theorem Grown.rankG {c : Nat} {nm : List Int} {r : List (List Int)} {o : List (Int × Int)} {u k : Nat} (h : Grown c nm r o u k) (hn : nm.Perm names24) : ∃ t : Int → Nat, Rank r t ∧ ∀ e ∈ r.flatten, e ≠ 0 → t e < k + 1 := by
  have new : ∀ {r : List (List Int)} {p : Nat} {row : List Int} {v : Int} {k : Nat}, r[p]? = some row → v ∉ r.flatten → v ≠ 0 → (v < 0 → -v ∈ r.flatten) → (0 < v → -v ∉ r.flatten) → (∃ t : Int → Nat, Rank r t ∧ ∀ e ∈ r.flatten, e ≠ 0 → t e < k + 1) → ∃ t : Int → Nat, Rank (r.set p (row ++ [v])) t ∧ ∀ e ∈ (r.set p (row ++ [v])).flatten, e ≠ 0 → t e < k + 1 + 1 := by
    rintro r p row v k h hv h0 hneg hpos ⟨t, rk, hb⟩
    refine ⟨fun x => if x = v then k + 1 else t x, ⟨fun row' hr => ?_, fun row' hr e he h3 => ?_⟩, fun e he he0 => ?_⟩
    · obtain ⟨i, hi⟩ := List.getElem?_of_mem hr
      have old : ∀ row ∈ r, (nz row).Pairwise fun a b => (if a = v then k + 1 else t a) < (if b = v then k + 1 else t b) := fun row hrow => by
        refine (rk.row row hrow).imp_of_mem fun {a b} ha hb' hab => ?_
        have na : a ≠ v := fun z => hv (List.mem_flatten.mpr ⟨row, hrow, z ▸ (List.mem_filter.mp ha).1⟩)
        have nb : b ≠ v := fun z => hv (List.mem_flatten.mpr ⟨row, hrow, z ▸ (List.mem_filter.mp hb').1⟩)
        rw [if_neg na, if_neg nb]
        exact hab
      rcases set_at hi with ⟨rfl, rfl⟩ | ⟨_, h4⟩
      · rw [nz_app]
        refine List.pairwise_append.mpr ⟨old row (List.mem_of_getElem? h), ?_, fun a ha b hb' => ?_⟩
        · have : nz [v] = [v] := by unfold nz; simp [h0]
          rw [this]
          exact List.pairwise_singleton _ _
        · have hb2 : b = v := by have := (List.mem_filter.mp hb').1; simpa using this
          have ha2 := flat_mem h (List.mem_filter.mp ha).1
          have na : a ≠ v := fun z => hv (z ▸ ha2)
          rw [if_neg na, if_pos hb2]
          exact hb a ha2 (by have := (List.mem_filter.mp ha).2; simpa using this)
      · exact old row' (List.mem_of_getElem? h4)
    · obtain ⟨i, hi⟩ := List.getElem?_of_mem hr
      have inOld : e ∈ r.flatten → e ≠ v → (if -e = v then k + 1 else t (-e)) < (if e = v then k + 1 else t e) := fun hm hne => by
        obtain ⟨row2, h5, h6⟩ := List.mem_flatten.mp hm
        have h7 := rk.rcv row2 h5 e h6 h3
        have : -e ≠ v := fun z => hpos (by omega) (by rw [← z, Int.neg_neg]; exact hm)
        rw [if_neg this, if_neg hne]
        exact h7
      rcases set_at hi with ⟨rfl, rfl⟩ | ⟨_, h4⟩
      · rcases List.mem_append.mp he with z | z
        · exact inOld (flat_mem h z) fun y => hv (y ▸ flat_mem h z)
        · rw [List.mem_singleton] at z
          subst z
          have h8 := hneg h3
          show (if -e = e then k + 1 else t (-e)) < (if e = e then k + 1 else t e)
          rw [if_pos rfl, if_neg (by omega)]
          exact hb _ h8 (by omega)
      · exact inOld (flat_mem h4 he) fun y => hv (y ▸ flat_mem h4 he)
    · show (if e = v then k + 1 else t e) < _
      by_cases z : e = v
      · rw [if_pos z]; omega
      · rw [if_neg z]
        have h1 := List.count_pos_iff.mpr he
        rw [flat_setC v e h, if_neg (Ne.symm z)] at h1
        have := hb e (List.count_pos_iff.mp h1) he0
        omega
  induction h with
  | start => exact ⟨fun _ => 0, ⟨fun row hr => by rw [(List.mem_replicate.mp hr).2]; exact List.Pairwise.nil, fun row hr e he => by rw [(List.mem_replicate.mp hr).2] at he; cases he⟩, fun e he _ => by obtain ⟨row, h1, h2⟩ := List.mem_flatten.mp he; rw [(List.mem_replicate.mp h1).2] at h2; cases h2⟩
  | skip _ ih =>
    obtain ⟨t, rk, hb⟩ := ih
    exact ⟨t, rk, fun e he h0 => Nat.lt_succ_of_lt (hb e he h0)⟩
  | @save r o u k p row g h ih =>
    obtain ⟨t, rk, hb⟩ := ih
    refine ⟨t, ⟨fun row' hr => ?_, fun row' hr e he h3 => ?_⟩, fun e he he0 => ?_⟩
    · obtain ⟨i, hi⟩ := List.getElem?_of_mem hr
      rcases set_at hi with ⟨rfl, rfl⟩ | ⟨_, h4⟩
      · have : nz (row ++ [0]) = nz row := by rw [nz_app]; unfold nz; simp
        rw [this]
        exact rk.row row (List.mem_of_getElem? h)
      · exact rk.row row' (List.mem_of_getElem? h4)
    · obtain ⟨i, hi⟩ := List.getElem?_of_mem hr
      rcases set_at hi with ⟨rfl, rfl⟩ | ⟨_, h4⟩
      · rcases List.mem_append.mp he with z | z
        · exact rk.rcv row (List.mem_of_getElem? h) e z h3
        · rw [List.mem_singleton] at z
          omega
      · exact rk.rcv row' (List.mem_of_getElem? h4) e he h3
    · have h1 := List.count_pos_iff.mpr he
      rw [flat_setC 0 e h, if_neg (Ne.symm he0)] at h1
      exact Nat.lt_succ_of_lt (hb e (List.count_pos_iff.mp h1) he0)
  | @send r o u k p row m g h hu ih =>
    have hm := names_pos hn _ (List.mem_of_getElem? hu)
    have hc := (Grown.send g h hu).count hn (e := m) (by omega)
    rw [flat_setC m m h, if_pos rfl] at hc
    have hnm : m ∉ r.flatten := fun z => by have := List.count_pos_iff.mpr z; omega
    refine new h hnm (by omega) (fun z => by omega) (fun _ z => ?_) ih
    obtain ⟨row2, h1, h2⟩ := List.mem_flatten.mp z
    obtain ⟨i, hi⟩ := List.getElem?_of_mem h1
    obtain ⟨q, row3, _, h4, h5⟩ := g.sentA hn i row2 (-m) hi h2 (by omega)
    rw [Int.neg_neg] at h5
    exact hnm (flat_mem h4 h5)
  | @recv r o u k row j m q p g h hj hq ih =>
    have hm : 1 ≤ m := by
      have := (g.nodup ((hn.nodup_iff).mpr names_nodup)).2 _ (List.mem_of_getElem? hj)
      exact (names_pos hn _ (List.mem_of_mem_take this)).1
    have hc := (Grown.recv g h hj hq).count hn (e := 0 - m) (by omega)
    rw [flat_setC (0 - m) (0 - m) h, if_pos rfl] at hc
    obtain ⟨q', row2, h1, h2, h3⟩ := g.open_at _ (List.mem_of_getElem? hj)
    refine new h (fun z => by have := List.count_pos_iff.mpr z; omega) (by omega) (fun _ => ?_) (fun z => by omega) ih
    have : -(0 - m) = m := by omega
    rw [this]
    exact flat_mem h2 h3
theorem Good.hist {many most : Nat} {rows : List (List Int)} (h : Good many most rows) (h6 : many ≤ 6) (h60 : most ≤ 60) : Hist rows := by
  obtain ⟨c, nm, o, u, k, hc1, hcm, hp, g, hk⟩ := id h
  obtain ⟨t, rk, _⟩ := g.rankG hp
  have := h.len
  exact ⟨this.1, by omega, Nat.le_trans h.events h60, (g.small hp).1, fun e he => g.count hp he, g.sentA hp, t, rk⟩
end Sv
set_option maxHeartbeats 1000000
set_option autoImplicit false
namespace Sv
open PySem PySem.Spec PyProof.Rows L2
theorem same65 : B_law_same_9d8a = smB 4 := rfl
def nkv (ns : List (Option Int)) : List (Key × D) := (List.range ns.length).map fun i => (.inl ((i + 1 : Nat) : Int), noteD (ns.getD i none))
theorem nkv_len (ns : List (Option Int)) : (nkv ns).length = ns.length := by unfold nkv; rw [List.length_map, List.length_range]
theorem nkv_snoc (ns : List (Option Int)) (x : Option Int) : nkv (ns ++ [x]) = nkv ns ++ [(.inl ((ns.length + 1 : Nat) : Int), noteD x)] := by
  unfold nkv
  rw [List.length_append, List.length_singleton, List.range_succ, List.map_append]
  congr 1
  · refine List.map_congr_left fun i hi => ?_
    have := List.mem_range.mp hi
    rw [List.getD_eq_getElem?_getD, List.getD_eq_getElem?_getD, List.getElem?_append_left this]
  · show [(_, noteD ((ns ++ [x]).getD ns.length none))] = _
    rw [List.getD_eq_getElem?_getD, List.getElem?_append_right (Nat.le_refl _), Nat.sub_self]
    rfl
theorem nkv_put (ns : List (Option Int)) (x : Option Int) : putD (nkv ns) (.inl ((ns.length + 1 : Nat) : Int)) (noteD x) = nkv (ns ++ [x]) := by
  have h : ((nkv ns).any fun kv => decide (kv.1 = (.inl ((ns.length + 1 : Nat) : Int) : Key))) = false := by
    rw [List.any_eq_false]
    intro kv hkv
    obtain ⟨i, hi, rfl⟩ := List.mem_map.mp hkv
    have := List.mem_range.mp hi
    rw [decide_eq_true_iff]
    intro z
    have z : ((i + 1 : Nat) : Int) = ((ns.length + 1 : Nat) : Int) := Sum.inl.inj z
    omega
  unfold putD
  rw [h, if_neg Bool.false_ne_true, nkv_snoc]
theorem nkv_get {ns : List (Option Int)} {m : Int} (h1 : 1 ≤ m) (h2 : m ≤ (ns.length : Nat)) : getD' (nkv ns) (.inl m) = some (noteD (ns.getD (m - 1).toNat none)) := by
  obtain ⟨j, rfl⟩ : ∃ j : Nat, m = ((j + 1 : Nat) : Int) := ⟨(m - 1).toNat, by omega⟩
  have hj : j < ns.length := by omega
  have e : (((j + 1 : Nat) : Int) - 1).toNat = j := by omega
  rw [e]
  unfold getD' nkv
  have key : ∀ n, j < n → ((List.range n).map fun i => ((.inl ((i + 1 : Nat) : Int) : Key), noteD (ns.getD i none))).find? (fun kv => decide (kv.1 = (.inl ((j + 1 : Nat) : Int) : Key))) = some ((.inl ((j + 1 : Nat) : Int) : Key), noteD (ns.getD j none)) := by
    intro n
    induction n with
    | zero => intro h; exact absurd h (Nat.not_lt_zero _)
    | succ n ih =>
      intro h
      rw [List.range_succ, List.map_append, List.find?_append]
      by_cases z : j < n
      · rw [ih z]; rfl
      · have : j = n := by omega
        subst this
        have hn : ((List.range j).map fun i => ((.inl ((i + 1 : Nat) : Int) : Key), noteD (ns.getD i none))).find? (fun kv => decide (kv.1 = (.inl ((j + 1 : Nat) : Int) : Key))) = none := by
          rw [List.find?_eq_none]
          intro kv hkv
          obtain ⟨i, hi, rfl⟩ := List.mem_map.mp hkv
          have := List.mem_range.mp hi
          rw [decide_eq_true_iff]
          intro z
          have z : ((i + 1 : Nat) : Int) = ((j + 1 : Nat) : Int) := Sum.inl.inj z
          omega
        rw [hn]
        rw [Option.none_or, List.map_cons, List.map_nil, List.find?_singleton, if_pos (decide_eq_true rfl)]
  rw [key _ hj]
  rfl
theorem rowsD_set (rows : List (List Int)) (q : Nat) (vs : List Int) : (rowsD rows).set q (.tup (intsD (rows.getD q []) ++ intsD vs)) = rowsD (app rows q vs) := by
  unfold rowsD app
  rw [List.map_set]
  congr 1
  show _ = D.tup (intsD _)
  unfold intsD
  rw [List.map_append]
theorem rows_at5 {rows : List (List Int)} {p : Nat} (h : p < rows.length) : (rowsD rows)[p]? = some (rowD (rows.getD p [])) := by
  unfold rowsD
  rw [List.getElem?_map, List.getElem?_eq_getElem h, List.getD_eq_getElem?_getD, List.getElem?_eq_getElem h]
  rfl
structure In65 (S : Sto) (M a b v Rw N : Addr) (k : RK) (c : Nat) (r : Run) (m : LM) : Prop where
  hm : ModAt S M a b v k m
  ok : m.ok c
  ag : Agree k c r.st m
  hR : S Rw = some (.lst (rowsD r.rows))
  hN : S N = some (.dK (nkv r.notes))
/-- what a plan's acts are -/
def ActOk (c u : Nat) : Act → Prop
  | .save q => q < c
  | .send q => q < c
  | .recv q m => q < c ∧ 1 ≤ m ∧ m ≤ (u : Int)
theorem ActOk.mono {c u w : Nat} {a : Act} (h : ActOk c u a) (e : u ≤ w) : ActOk c w a := by
  cases a with
  | save q => exact h
  | send q => exact h
  | recv q m => exact ⟨h.1, h.2.1, by have := h.2.2; omega⟩
theorem Plan.acts {c : Nat} {as : List Act} {o : List (Int × Int)} {u : Nat} (h : Plan c as o u) : ∀ a ∈ as, ActOk c u a := by
  induction h with
  | nil => exact fun a ha => (nomatch ha)
  | save _ hp ih =>
    intro a ha
    rcases List.mem_append.mp ha with z | z
    · exact ih a z
    · rw [List.mem_singleton.mp z]; exact hp
  | send _ hp _ ih =>
    intro a ha
    rcases List.mem_append.mp ha with z | z
    · exact (ih a z).mono (by omega)
    · rw [List.mem_singleton.mp z]; exact hp
  | recv g hp hj _ ih =>
    intro a ha
    rcases List.mem_append.mp ha with z | z
    · exact ih a z
    · rw [List.mem_singleton.mp z]
      have := g.mem _ (List.mem_of_getElem? hj)
      exact ⟨hp, this.1, this.2⟩
theorem Plan.at {c : Nat} {as : List Act} {o : List (Int × Int)} {u i : Nat} {a : Act} (h : Plan c as o u) (ha : as[i]? = some a) : ∃ o1 u1, Plan c (as.take i) o1 u1 ∧ ActOk c u1 a ∧ as.take (i + 1) = as.take i ++ [a] := by
  have ht : as.take (i + 1) = as.take i ++ [a] := by rw [List.take_add_one, ha]; rfl
  obtain ⟨o2, u2, pl2⟩ := h.take (i + 1)
  rw [ht] at pl2
  generalize hx : as.take i ++ [a] = xs at pl2
  cases pl2 with
  | nil => simp at hx
  | save g hp => obtain ⟨e1, e⟩ := List.append_inj' hx rfl; cases e; rw [e1]; exact ⟨_, _, g, hp, by rw [← e1]; exact ht⟩
  | send g hp hu => obtain ⟨e1, e⟩ := List.append_inj' hx rfl; cases e; rw [e1]; exact ⟨_, _, g, hp, by rw [← e1]; exact ht⟩
  | recv g hp hj hq =>
    obtain ⟨e1, e⟩ := List.append_inj' hx rfl; cases e
    have := g.mem _ (List.mem_of_getElem? hj)
    rw [e1]; exact ⟨_, _, g, ⟨hp, this.1, this.2⟩, by rw [← e1]; exact ht⟩
theorem w_built {k : RK} {c : Nat} {as : List Act} {o : List (Int × Int)} {u : Nat} {S : Sto} {R : DK} (c1 : 1 ≤ c) (c6 : c ≤ 6) (pl : Plan c as o u) (al : as.length ≤ 100)
    (kk : ∀ S', SG S S' → R (.tup [.tup (rowsD (runK k c as).rows), .int ((runK k c as).st.w : Nat)]) S') : dFn 9 B_law_built_25f7 [.str k.name, .int (c : Nat), .tup (as.map actD)] S R := by
  have c9 : c ≤ 1000 := by omega
  refine ⟨_, rfl, _, rfl, rfl, w_fresh c9 fun M a b v S1 hm1 sg1 f1 => ⟨rfl, rfl, fun p np => ⟨_, rfl, _, Sto.same, by omega, by omega, by decide, fun Rw nR N nN => ?_⟩⟩⟩
  have er : (List.replicate ((c : Nat) : Int).toNat [D.tup []]).flatten = rowsD (List.replicate c []) := by
    rw [Int.toNat_natCast, flat_rep]
    unfold rowsD
    rw [List.map_replicate]
    rfl
  rw [er] at nN ⊢
  have sgp := SK.new (P := fun _ => False) (o := .lst [D.tup []]) np
  have sgR := SK.new (P := fun _ => False) (o := .lst (rowsD (List.replicate c []))) nR
  have sgN := SK.new (P := fun _ => False) (o := .dK []) nN
  have hN2 : (((S1.put p (.lst [.tup []])).put Rw (.lst (rowsD (List.replicate c [])))).put N (.dK [])) N = some (.dK []) := Sto.same
  have hR2 : (((S1.put p (.lst [.tup []])).put Rw (.lst (rowsD (List.replicate c [])))).put N (.dK [])) Rw = _ := sgN _ _ (fun z => z) Sto.same
  have sg12 : SG S1 (((S1.put p (.lst [.tup []])).put Rw (.lst (rowsD (List.replicate c [])))).put N (.dK [])) := sgp.trans (sgR.trans sgN)
  have nRN : Rw ≠ N := fun z => by rw [← z, Sto.same] at nN; cases nN
  have nR1 : S1 Rw = none := none_back sgp nR
  have nN1 : S1 N = none := none_back (sgp.trans sgR) nN
  have dM := disj (P := MP M a b v) (Q := fun x => x = Rw ∨ x = N) hm1.some (by rintro x (rfl | rfl) <;> assumption)
  generalize (((S1.put p (.lst [.tup []])).put Rw (.lst (rowsD (List.replicate c [])))).put N (.dK [])) = S2 at hN2 hR2 sg12 ⊢
  refine ⟨rfl, _, rfl, .inl (.inl rfl), _, _, rfl, _, _, rfl, _, _, rfl, rfl, ?_⟩
  let U : Addr → Prop := fun x => MP M a b v x ∨ x = Rw ∨ x = N
  have nU : ∀ x, U x → S x = none := fun x hx => by
    rcases hx with z | rfl | rfl
    · exact f1 x z
    · exact none_back sg1 nR1
    · exact none_back sg1 nN1
  have I2 : In65 S2 M a b v Rw N k c (run0 c) (lm0 c) := ⟨hm1.keep sg12 (fun _ _ z => z), lm0_ok c, agree0 k c, hR2, hN2⟩
  refine ⟨_, rfl, _, rfl, fun i env S' => i ≤ as.length ∧ ∃ (m : LM) (x6 x7 x8 : Option D), env = [some (.str k.name), some (.int (c : Nat)), some (.tup (as.map actD)), some (.ref M), some (.ref Rw), some (.ref N), x6, x7, x8] ∧ In65 S' M a b v Rw N k c (runK k c (as.take i)) m ∧ SK U S2 S', ⟨Nat.zero_le _, lm0 c, _, _, _, rfl, I2, .refl _⟩, fun _ _ _ _ _ => True.intro, ?_, ?_⟩
  · rintro i d env S3 hd ⟨hi0, m, x6, x7, x8, rfl, I3, u3⟩
    have hd : (as.map actD)[i]? = some d := hd
    rw [List.getElem?_map] at hd
    obtain ⟨act, ha, rfl⟩ := Option.map_eq_some_iff.mp hd
    have hi : i < as.length := (List.getElem?_eq_some_iff.mp ha).1
    obtain ⟨o1, u1, pl1, aok, ht⟩ := pl.at ha
    have g1 := pl1.run (k := k)
    have e3 : runK k c (as.take (i + 1)) = stepK k (runK k c (as.take i)) act := by rw [ht, runK_snoc]
    generalize runK k c (as.take i) = run at I3 g1 e3
    have rl := g1.len
    have big : ∀ row ∈ run.rows, row.length ≤ 800 := fun row hrow => by
      obtain ⟨j, hj, gr⟩ := g1.gr
      have h1 := gr.events
      obtain ⟨ix, hix⟩ := List.mem_iff_getElem?.mp hrow
      have h2 := len_le_sum hix
      have : (as.take i).length ≤ 100 := by rw [List.length_take]; omega
      omega
    -- the row grows
    have grow : ∀ (S5 : Sto) (q : Nat) (st' : RSt) (notes' : List (Option Int)) (m' : LM) (vs : List Int), q < c → vs.length ≤ 10 → stepK k run act = ⟨st', app run.rows q vs, notes'⟩ → In65 S5 M a b v Rw N k c ⟨st', run.rows, notes'⟩ m' → SK U S2 S5 →
        ∀ (x6 x7' : Option D) (C : DEnds), (∀ e S', (i + 1 ≤ as.length ∧ ∃ (m : LM) (x6 x7 x8 : Option D), e = [some (.str k.name), some (.int (c : Nat)), some (.tup (as.map actD)), some (.ref M), some (.ref Rw), some (.ref N), x6, x7, x8] ∧ In65 S' M a b v Rw N k c (runK k c (as.take (i + 1))) m ∧ SK U S2 S') → C.nx e S') →
        dAsg (dBin rAdd (dBin rIxq (dVar 4) (dVar 7)) (dVar 8)) (dSub (dVar 4) (dVar 7)) C [some (.str k.name), some (.int (c : Nat)), some (.tup (as.map actD)), some (.ref M), some (.ref Rw), some (.ref N), x6, some (.int (q : Nat)), some (.tup (intsD vs))] S5 := by
      intro S5 q st' notes' m' vs hq hv es I5 u5 x6 x7' C hC
      have hl := big (run.rows.getD q []) (by rw [List.getD_eq_getElem?_getD, List.getElem?_eq_getElem (by omega)]; exact List.getElem_mem _)
      refine ⟨_, rfl, _, rfl, _, (q : Int), _, seqOf_lst I5.hR, rfl, atI_nat (rows_at5 (by rw [rl]; exact hq)), _, rfl, ?_⟩
      refine ⟨by rw [intsD_len, intsD_len]; show (run.rows.getD q []).length + vs.length ≤ 100000; omega, _, rfl, _, rfl, Rw, _, (q : Int), q, rfl, rfl, I5.hR, ixnN' (by unfold rowsD; rw [List.length_map, rl]; exact hq), ?_⟩
      rw [rowsD_set]
      refine hC _ _ ⟨hi, m', _, _, _, rfl, ?_, u5.trans (.put (.inr (.inl rfl)))⟩
      rw [e3, es]
      exact ⟨I5.hm.keep (SK.put (P := fun x => x = Rw) rfl) (fun x hx z => dM x hx (.inl z)), I5.ok, I5.ag, Sto.same, (Sto.ne (Ne.symm nRN)).trans I5.hN⟩
    have um : ∀ {S S' : Sto}, SK (MP M a b v) S S' → SK U S S' := fun h => h.mono fun _ z => .inl z
    cases act with
    | save q =>
      refine ⟨_, rfl, _, 1, _, rfl, rfl, rfl, rfl, rfl, _, rfl, .inl (.inl rfl), _, _, rfl, _, _, rfl, rfl, ?_⟩
      refine ⟨_, rfl, _, 0, _, rfl, rfl, rfl, _, rfl, goT ⟨_, rfl, _, rfl, rfl, w_savedM I3.hm I3.ok aok fun S4 hm4 k4 => ?_⟩⟩
      refine ⟨_, rfl, _, 0, _, rfl, rfl, rfl, _, rfl, goF ?_⟩
      refine ⟨_, rfl, _, 0, _, rfl, rfl, rfl, _, rfl, goF ?_⟩
      exact grow S4 q (saveK k q run.st) run.notes (savedM k q m) [0] aok (by decide) rfl ⟨hm4, savedM_ok I3.ok, I3.ag.save g1.st I3.ok aok, k4 _ _ (fun z => dM _ z (.inl rfl)) I3.hR, k4 _ _ (fun z => dM _ z (.inr rfl)) I3.hN⟩ (u3.trans (um k4)) _ none _ fun _ _ h => h
    | send q =>
      refine ⟨_, rfl, _, 1, _, rfl, rfl, rfl, rfl, rfl, _, rfl, .inl (.inl rfl), _, _, rfl, _, _, rfl, rfl, ?_⟩
      refine ⟨_, rfl, _, 0, _, rfl, rfl, rfl, _, rfl, goF ?_⟩
      refine ⟨_, rfl, _, 0, _, rfl, rfl, rfl, _, rfl, goT ?_⟩
      refine ⟨_, rfl, N, _, rfl, I3.hN, ?_⟩
      rw [nkv_len]
      refine ⟨rfl, ?_⟩
      refine ⟨_, rfl, _, rfl, rfl, w_sentM I3.hm I3.ok aok fun S4 hm4 k4 => ?_⟩
      have hN4 := k4 _ _ (fun z => dM _ z (.inr rfl)) I3.hN
      have ag := I3.ag.send g1.st I3.ok aok
      refine ⟨_, rfl, _, rfl, _, 0, _, rfl, rfl, rfl, N, _, .inl ((run.notes.length + 1 : Nat) : Int), rfl, ?_, hN4, ?_, ?_⟩
      · show D.int _ = D.int _
        congr 1
      · rw [nkv_len, g1.nl]; have := pl1.u24; omega
      rw [ag.2, nkv_put]
      refine ⟨_, rfl, _, 0, _, rfl, rfl, rfl, _, rfl, goF ?_⟩
      refine grow _ q (sendK k q run.st) (run.notes ++ [noteK k q run.st]) (sentLm q m) [((run.notes.length + 1 : Nat) : Int)] aok (by show 1 ≤ 10; decide) rfl ⟨hm4.keep (SK.put (P := fun x => x = N) rfl) (fun x hx z => dM x hx (.inr z)), sentLm_ok I3.ok, ag.1, (Sto.ne nRN).trans (k4 _ _ (fun z => dM _ z (.inl rfl)) I3.hR), Sto.same⟩ ((u3.trans (um k4)).trans (.put (.inr (.inr rfl)))) _ none _ fun _ _ h => h
    | recv q mm =>
      obtain ⟨hq, m1, m2⟩ := aok
      have nk := noteAt_ok g1 m1 m2
      refine ⟨_, rfl, _, 1, _, rfl, rfl, rfl, rfl, rfl, _, rfl, .inl (.inl rfl), _, _, rfl, _, _, rfl, rfl, ?_⟩
      refine ⟨_, rfl, _, 0, _, rfl, rfl, rfl, _, rfl, goF ?_⟩
      refine ⟨_, rfl, _, 0, _, rfl, rfl, rfl, _, rfl, goF ?_⟩
      refine ⟨_, rfl, _, 0, _, rfl, rfl, rfl, _, rfl, goT ?_⟩
      have hg := nkv_get (ns := run.notes) m1 (by rw [g1.nl]; exact m2)
      refine ⟨rfl, _, rfl, _, rfl, _, rfl, _, rfl, _, 2, _, rfl, rfl, rfl, nkv run.notes, .inl mm, _, ?_, rfl, hg, rfl, ?_⟩
      · show (match S3 N with | some (.dK kvs) => some kvs | _ => none) = _
        rw [I3.hN]
      refine w_wantsM (n := noteAt run mm) I3.hm I3.ok hq (fun z => ?_) fun S4 hm4 k4 => ?_
      · have hk : k = .rounds := by cases k <;> first | rfl | cases z
        subst hk
        obtain ⟨i, hi⟩ := Option.isSome_iff_exists.mp nk.2
        refine ⟨i, ?_, hi⟩
        show noteD (noteAt run mm) = _
        rw [hi]
        rfl
      rw [I3.ag.must hq]
      have I4 : In65 S4 M a b v Rw N k c ⟨recvK k q (noteAt run mm) run.st, run.rows, run.notes⟩ (wantsM k q (noteAt run mm) m) := ⟨hm4, wantsM_ok I3.ok, I3.ag.recv g1.st I3.ok hq, k4 _ _ (fun z => dM _ z (.inl rfl)) I3.hR, k4 _ _ (fun z => dM _ z (.inr rfl)) I3.hN⟩
      generalize hb : mustK k q (noteAt run mm) run.st = bb
      have es : stepK k run (.recv q mm) = ⟨recvK k q (noteAt run mm) run.st, app run.rows q ((if bb = true then [0] else []) ++ [0 - mm]), run.notes⟩ := by rw [← hb]; rfl
      refine ⟨_, rfl, ?_⟩
      cases bb with
      | true =>
        refine ⟨by simp, by decide, by decide, by decide, _, rfl, _, 2, _, rfl, rfl, rfl, rfl, (by show 1 + 1 ≤ 100000; decide), ?_⟩
        exact grow S4 q _ _ _ [0, 0 - mm] hq (by show 2 ≤ 10; decide) es I4 (u3.trans (um k4)) _ none _ fun _ _ h => h
      | false =>
        refine ⟨by simp, by decide, by decide, by decide, _, rfl, _, 2, _, rfl, rfl, rfl, rfl, (by show 0 + 1 ≤ 100000; decide), ?_⟩
        exact grow S4 q _ _ _ [0 - mm] hq (by show 1 ≤ 10; decide) es I4 (u3.trans (um k4)) _ none _ fun _ _ h => h
  · rintro env S3 ⟨_, m, x6, x7, x8, rfl, I3, u3⟩
    have hl : (⟨as.map actD, fun _ => True⟩ : Src).items.length = as.length := by show (as.map actD).length = _; rw [List.length_map]
    rw [hl, List.take_length] at I3
    refine ⟨_, rfl, _, _, rfl, seqOf_lst I3.hR, (noTup _).2, _, rfl, _, 4, _, seqOf_lst I3.hm.hM, rfl, rfl, rfl, ?_⟩
    rw [I3.ag.t]
    refine kk S3 fun x o _ ex => ?_
    refine u3 x o (fun hx => ?_) (sg12 x o (fun z => z) (sg1 x o (fun z => z) ex))
    rw [nU x hx] at ex
    cases ex
def actP : Act → PyData
  | .save p => .tuple [.str "save", .int (p : Nat)]
  | .send p => .tuple [.str "send", .int (p : Nat)]
  | .recv p m => .tuple [.str "receive", .int (p : Nat), .int m]
theorem py_act {S : Sto} (a : Act) : Py S (actD a) (actP a) := by
  cases a with
  | save p => exact .tup (.cons (.str _) (.cons (.int _) .nil))
  | send p => exact .tup (.cons (.str _) (.cons (.int _) .nil))
  | recv p m => exact .tup (.cons (.str _) (.cons (.int _) (.cons (.int _) .nil)))
theorem pys_acts {S : Sto} : ∀ as : List Act, Pys S (as.map actD) (as.map actP)
  | [] => .nil
  | a :: r => .cons (py_act a) (pys_acts r)
theorem fine_word {x : Str} (h : x = "save" ∨ x = "send" ∨ x = "receive") : Fine 0 1000 (.str x) := by
  rcases h with rfl | rfl | rfl <;> exact ⟨by decide +kernel, by decide +kernel, by decide +kernel, by decide +kernel, by decide +kernel⟩
theorem fine_small {i : Int} (h : i.natAbs ≤ 1000) : Fine 0 1000 (.int i) := (fine_int (by have e : (10 : Nat) ^ 30 = 1000000000000000000000000000000 := by decide
                                                                                           omega)).mono (Nat.le_refl _) (by decide)
theorem fine_act {c u : Nat} {a : Act} (c6 : c ≤ 6) (u24 : u ≤ 24) (h : ActOk c u a) : Fine 1 4000 (actP a) := by
  cases a with
  | save q => exact (fine_tuple (fine_cons (fine_word (.inl rfl)) (fine_cons (fine_small (by have : q < c := h; omega)) (fine_nil.mono (Nat.le_refl 0) (Nat.le_refl 0))))).mono (Nat.le_refl _) (by decide)
  | send q => exact (fine_tuple (fine_cons (fine_word (.inr (.inl rfl))) (fine_cons (fine_small (by have : q < c := h; omega)) (fine_nil.mono (Nat.le_refl 0) (Nat.le_refl 0))))).mono (Nat.le_refl _) (by decide)
  | recv q m =>
    obtain ⟨h1, h2, h3⟩ := h
    exact (fine_tuple (fine_cons (fine_word (.inr (.inr rfl))) (fine_cons (fine_small (by omega)) (fine_cons (fine_small (by omega)) (fine_nil.mono (Nat.le_refl 0) (Nat.le_refl 0)))))).mono (Nat.le_refl _) (by decide)
theorem plan_text {c : Nat} {as : List Act} {o : List (Int × Int)} {u : Nat} (h : Plan c as o u) (c6 : c ≤ 6) (al : as.length ≤ 40) : Text (.tuple (as.map actP)) := by
  have u24 := h.u24
  have h1 : ∀ d ∈ as.map actP, Fine 1 4000 d := fun d hd => by
    obtain ⟨a, ha, rfl⟩ := List.mem_map.mp hd
    exact fine_act c6 u24 (h.acts a ha)
  have q := fine_tuple (fine_all h1)
  rw [List.length_map] at q
  exact (q.mono (Nat.le_refl _) (Nat.le_trans (Nat.mul_le_mul_left _ al) (by decide : 4001 * 40 ≤ 200000))).text (by decide) (by decide) rfl
theorem smRow {S : Sto} {n : Nat} {r : List Int} (h : r.length ≤ 1000) : Sm S (n + 2) (rowD r) (rowD r) := by
  refine .tup rfl (by rw [intsD_len]; exact h) fun i x y hx hy => ?_
  rw [hx] at hy
  cases hy
  unfold intsD at hx
  rw [List.getElem?_map] at hx
  obtain ⟨k, _, rfl⟩ := Option.map_eq_some_iff.mp hx
  exact .int n k
theorem smRows {S : Sto} {n : Nat} {rows : List (List Int)} (h : rows.length ≤ 1000) (h2 : ∀ r ∈ rows, r.length ≤ 1000) : Sm S (n + 3) (.tup (rowsD rows)) (.tup (rowsD rows)) := by
  refine .tup rfl (by unfold rowsD; rw [List.length_map]; exact h) fun i x y hx hy => ?_
  rw [hx] at hy
  cases hy
  unfold rowsD at hx
  rw [List.getElem?_map] at hx
  obtain ⟨r, hr, rfl⟩ := Option.map_eq_some_iff.mp hx
  exact smRow (h2 r (List.mem_of_getElem? hr))
theorem sm65 {S : Sto} {n : Nat} {a1 a2 b1 b2 : D} (h1 : Sm S n a1 b1) (h2 : Sm S n a2 b2) : ∀ (i : Nat) (x y : D), [a1, a2][i]? = some x → [b1, b2][i]? = some y → Sm S n x y := by
  intro i x y hx hy
  match i, hx, hy with
  | 0, hx, hy => cases hx; cases hy; exact h1
  | 1, hx, hy => cases hx; cases hy; exact h2
def names65 : List RK := [.none, .sent, .always, .rounds]
theorem names65_ok {j : Nat} {e : D} (h : (names65.map fun k => D.str k.name)[j]? = some e) : ∃ k : RK, e = .str k.name := by
  rw [List.getElem?_map] at h
  obtain ⟨k, hk, rfl⟩ := Option.map_eq_some_iff.mp h
  exact ⟨k, rfl⟩
abbrev Mforced65 : List (Str × DRC) := [("Rule", dFn 1 B_Rule__forced_5d3c), ("SaveAfterSend", dFn 1 B_SaveAfterSend__forced_8095), ("SaveAlways", dFn 1 B_SaveAlways__forced_1710), ("Rounds", dFn 1 B_Rounds__forced_8628)]
theorem w_forced65 {S : Sto} {p b : Addr} {c i : Nat} {kk : RK} {st : RSt} {env : Env} {R : DK} (h : RuleAt S p b c kk st) (hi : env[i]? = some (some (.ref p))) (k : R (.int (st.w : Nat)) S) : dProp Mforced65 (dVar i) env S R := by
  cases kk with
  | none => exact ⟨_, _, .head _, _, hi, p, _, rfl, h.2, _, rfl, p, _, _, _, rfl, h.2, .head _, rfl, k⟩
  | sent => exact ⟨_, _, .tail _ (.head _), _, hi, p, _, rfl, h.2.1, _, rfl, p, _, _, _, rfl, h.2.1, mS1, rfl, k⟩
  | always => exact ⟨_, _, .tail _ (.tail _ (.head _)), _, hi, p, _, rfl, h.2.1, _, rfl, p, _, _, _, rfl, h.2.1, .head _, rfl, k⟩
  | rounds => exact ⟨_, _, .tail _ (.tail _ (.tail _ (.head _))), _, hi, p, _, rfl, h.2.1, _, rfl, p, _, _, _, rfl, h.2.1, .head _, rfl, k⟩
theorem run_bounds {k : RK} {c : Nat} {as : List Act} {o : List (Int × Int)} {u : Nat} (pl : Plan c as o u) (c6 : c ≤ 6) (hl : as.length ≤ 40) : (runK k c as).rows.length ≤ 1000 ∧ ∀ r ∈ (runK k c as).rows, r.length ≤ 1000 := by
  refine ⟨by rw [(pl.run (k := k)).len]; omega, fun row hrow => ?_⟩
  obtain ⟨j, hj, gr⟩ := (pl.run (k := k)).gr
  have h1 := gr.events
  obtain ⟨ix, hix⟩ := List.mem_iff_getElem?.mp hrow
  have h2 := len_le_sum hix
  omega
theorem law_k65 (ns : List Int) (hl : ns.length ≤ 63) : dFn 11 B_law_b23a [.rol (intsD ns)] (fun _ => none) (fun d _ => d = .bl true) := by
  refine ⟨_, rfl, rfl, w_deckK hl fun st cl S1 D1 _ _ _ => ?_⟩
  refine ⟨4, rfl, by decide, by decide, fun i env S => ∃ x2 x3 x4 x5 x6 x7 x8 x9 x10 : Option D, env = [some (.rol (intsD ns)), some (.ref st), x2, x3, x4, x5, x6, x7, x8, x9, x10] ∧ Dr st cl (200 * i) S, ⟨_, _, _, _, _, _, _, _, _, rfl, D1⟩, fun _ _ _ _ _ => True.intro, ?_, fun env S _ => rfl⟩
  rintro i d env S2 hd ⟨x2, x3, x4, x5, x6, x7, x8, x9, x10, rfl, D2⟩
  obtain ⟨hi, _⟩ := rg_at hd
  have hi : i < 4 := hi
  refine ⟨_, rfl, rfl, w_drawK D2 (by omega) (by decide) (by decide) fun c0 S3 hc0 D3 k3 => ?_⟩
  have ec : (1 : Int) + (c0 : Int) = ((1 + c0 : Nat) : Int) := by omega
  dsimp only [dC, rAdd]
  rw [ec]
  generalize hc : 1 + c0 = c at *
  have c1 : 1 ≤ c := by omega
  have c6 : c ≤ 6 := by omega
  have c9 : c ≤ 1000 := by omega
  refine ⟨_, rfl, _, rfl, _, rfl, rfl, w_drawK D3 (by omega) (by decide) (by decide) fun many S4 hm D4 k4 => ⟨rfl, w_planK D4 (by omega) (by omega) (by omega) (by omega) fun as o u S5 pl al D5 k5 => ?_⟩⟩
  have al40 : as.length ≤ 30 := by omega
  refine ⟨rfl, rfl, fun N nN => ?_⟩
  have hN : (S5.put N (.lst [.tup (as.map actD), .tup []])) N = some (.lst [.tup (as.map actD), .tup []]) := Sto.same
  have D6 := D5.keep (SK.new (o := .lst [.tup (as.map actD), .tup []]) nN)
  generalize S5.put N (.lst [.tup (as.map actD), .tup []]) = S6 at hN D6
  refine ⟨_, ⟨_, hN, rfl⟩, fun j env S => ∃ x4 x5 x6 x7 x8 x9 x10 : Option D, env = [some (.rol (intsD ns)), some (.ref st), some d, some (.int (c : Nat)), x4, x5, x6, x7, x8, x9, x10] ∧ SG S6 S, ⟨_, _, _, _, _, _, _, rfl, .refl _⟩, fun j env S _ h => ?_, ?_, ?_⟩
  · obtain ⟨_, _, _, _, _, _, _, _, h⟩ := h
    exact h _ _ (fun z => z) hN
  · rintro j e env S7 he ⟨x4, x5, x6, x7, x8, x9, x10, rfl, sg7⟩
    obtain ⟨as, o, u, pl, al40, rfl⟩ : ∃ (as' : List Act) (o' : List (Int × Int)) (u' : Nat), Plan c as' o' u' ∧ as'.length ≤ 30 ∧ e = .tup (as'.map actD) := by
      have he : [D.tup (as.map actD), .tup []][j]? = some e := he
      match j, he with
      | 0, he => cases he; exact ⟨as, o, u, pl, al40, rfl⟩
      | 1, he => cases he; exact ⟨[], [], 0, .nil, Nat.zero_le _, rfl⟩
    have tx := plan_text pl c6 (by omega)
    refine ⟨_, rfl, .inr (.inr ⟨_, _, rfl, .tup (pys_acts as), tx, ?_⟩)⟩
    refine ⟨rfl, fun N2 nN2 => ?_⟩
    have sgN2 := SK.new (P := fun _ => False) (o := .lst [.str "none", .str "sent", .str "always", .str "rounds"]) nN2
    have hN2 : (S7.put N2 (.lst [.str "none", .str "sent", .str "always", .str "rounds"])) N2 = some (.lst (names65.map fun k => D.str k.name)) := Sto.same
    generalize S7.put N2 (.lst [.str "none", .str "sent", .str "always", .str "rounds"]) = S8 at sgN2 hN2
    refine ⟨_, ⟨_, hN2, rfl⟩, fun l env S => ∃ x6 x7 x8 x9 x10 : Option D, env = [some (.rol (intsD ns)), some (.ref st), some d, some (.int (c : Nat)), some (.tup (as.map actD)), some (.str (PyData.tuple (as.map actP)).shown), x6, x7, x8, x9, x10] ∧ SG S8 S, ⟨_, _, _, _, _, rfl, .refl _⟩, fun l env S _ h => ?_, ?_, ?_⟩
    · obtain ⟨_, _, _, _, _, _, h⟩ := h
      exact h _ _ (fun z => z) hN2
    · rintro l e env S9 he ⟨x6, x7, x8, x9, x10, rfl, sg9⟩
      obtain ⟨k, rfl⟩ := names65_ok he
      have gl := run_bounds (k := k) pl c6 (by omega)
      refine ⟨_, rfl, _, rfl, rfl, w_lawRule c9 fun p b S10 h10 sg10 np nb => ⟨_, rfl, _, rfl, _, rfl, rfl, w_built (k := k) c1 c6 pl (by omega) fun S11 sg11 => ?_⟩⟩
      refine ⟨rfl, _, rfl, .inl (.inl rfl), _, _, rfl, _, _, rfl, _, rfl, .inl (.inl rfl), _, _, rfl, _, _, rfl, rfl, rfl, ?_⟩
      have h11 := h10.keep sg11 (fun z => z) (fun z => z)
      have f10 : ∀ x, RP p b x → S9 x = none := by
        rintro x (rfl | rfl)
        · exact np
        · exact nb
      refine ⟨_, rfl, _, rfl, rfl, w_runK h11 c1 c6 pl (by omega) fun S12 h12 k12 => ?_⟩
      have sg12 : SG S9 S12 := SK.newRP (sg10.trans sg11) np nb k12
      dsimp only [dgName]
      refine ⟨_, rfl, w_forced65 (kk := k) h12 rfl ⟨rfl, fun f nf => ?_⟩⟩
      have sf := SK.new (P := fun _ => False) (o := .lst [.tup (rowsD (runK k c as).rows), .int ((runK k c as).st.w : Nat)]) nf
      have hf : (S12.put f (.lst [.tup (rowsD (runK k c as).rows), .int ((runK k c as).st.w : Nat)])) f = some (.lst [.tup (rowsD (runK k c as).rows), .int ((runK k c as).st.w : Nat)]) := Sto.same
      generalize S12.put f (.lst [.tup (rowsD (runK k c as).rows), .int ((runK k c as).st.w : Nat)]) = S13 at sf hf ⊢
      refine ⟨_, rfl, _, rfl, rfl, fun g ng => ?_⟩
      have sg := SK.new (P := fun _ => False) (o := .lst [.tup (rowsD (runK k c as).rows), .int ((runK k c as).st.w : Nat)]) ng
      have hg : (S13.put g (.lst [.tup (rowsD (runK k c as).rows), .int ((runK k c as).st.w : Nat)])) g = some (.lst [.tup (rowsD (runK k c as).rows), .int ((runK k c as).st.w : Nat)]) := Sto.same
      have hf2 := sg _ _ (fun z => z) hf
      generalize S13.put g (.lst [.tup (rowsD (runK k c as).rows), .int ((runK k c as).st.w : Nat)]) = S14 at sg hg hf2 ⊢
      have sg14 : SG S9 S14 := sg12.trans (sf.trans sg)
      rw [same65]
      refine ⟨rfl, w_sameK (n := 4) (.lst hf2 hg rfl (by show 2 ≤ 1000; decide) (sm65 (smRows gl.1 gl.2) (.int _ _))) fun S15 sg15 => ⟨_, rfl, goF ?_⟩⟩
      refine ⟨_, rfl, .inr (.inr ⟨_, _, rfl, .tup (pys_acts as), tx, _, rfl, _, rfl, ?_⟩)⟩
      have eq1 : (decide ((PyData.tuple (as.map actP)).shown = (PyData.tuple (as.map actP)).shown) ^^ true) = false := by rw [decide_eq_true rfl]; rfl
      rw [eq1]
      refine goF ?_
      have hist := Good.hist (pl.good (k := k) c1 c6) (by decide) (by omega)
      refine ⟨_, rfl, rfl, w_histT hist fun S16 sg16 => ⟨true, true, rfl, rfl, _, rfl, goF ?_⟩⟩
      refine ⟨_, rfl, _, rfl, rfl, w_lawRule c9 fun p2 b2 S17 h17 sg17 np2 nb2 => ⟨_, rfl, rfl, w_runK h17 c1 c6 pl (by omega) fun S18 h18 k18 => ?_⟩⟩
      have sg18 : SG S16 S18 := SK.newRP sg17 np2 nb2 k18
      refine ⟨_, rfl, rfl, w_sameK (n := 4) (smRows gl.1 gl.2) fun S19 sg19 => ⟨_, rfl, goF ?_⟩⟩
      exact ⟨_, _, _, _, _, rfl, sg9.trans (sg14.trans (sg15.trans (sg16.trans (sg18.trans sg19))))⟩
    · rintro env S9 ⟨x6, x7, x8, x9, x10, rfl, sg9⟩
      exact ⟨_, _, _, _, _, _, _, rfl, sg7.trans (sgN2.trans sg9)⟩
  · rintro env S7 ⟨x4, x5, x6, x7, x8, x9, x10, rfl, sg7⟩
    exact ⟨_, _, _, _, _, _, _, _, _, rfl, (D6.keep sg7).mono (by omega)⟩
end Sv
namespace Sv
open PySem PySem.Spec PyProof.Rows L2
set_option maxHeartbeats 4000000 in
theorem all_mk {l : PySem.W.OpenLaw} {w : World} {K : PySem.W.Frag} {h : Heap} {mg : Str → Option Value} {fa f0 f1 f2 f3 f4 f5 f6 f7 f8 f9 f10 f11 f12 f13 f14 f15 f16 f17 f18 f19 f20 f21 f22 f23 f24 f25 f26 f27 f28 f29 f30 f31 f32 f33 f34 f35 f36 f37 f38 f39 f40 f41 f42 f43 f44 f45 : Addr} (X : K.In h) (G : h.Ns mainGlobals mg) (hfa : mg "law" = some (.ref fa))
    {od0 an0 od1 an1 od2 an2 od3 an3 od4 an4 od5 an5 od6 an6 od7 an7 od8 an8 od9 an9 od10 an10 od11 an11 od12 an12 od13 an13 od14 an14 od15 an15 od16 an16 od17 an17 od18 an18 od19 an19 od20 an20 od21 an21 od22 an22 od23 an23 od24 an24 od25 an25 od26 an26 od27 an27 od28 an28 od29 an29 od30 an30 od31 an31 od32 an32 od33 an33 od34 an34 od35 an35 od36 an36 od37 an37 od38 an38 od39 an39 od40 an40 od41 an41 od42 an42 od43 an43 od44 an44 od45 an45 : Option Addr} {sl0 sl1 sl2 sl3 sl4 sl5 sl6 sl7 sl8 sl9 sl10 sl11 sl12 sl13 sl14 sl15 sl16 sl17 sl18 sl19 sl20 sl21 sl22 sl23 sl24 sl25 sl26 sl27 sl28 sl29 sl30 sl31 sl32 sl33 sl34 sl35 sl36 sl37 sl38 sl39 sl40 sl41 sl42 sl43 sl44 sl45 : Array (Option Value)} {oc0 kV0 dc0 pm0 cd0 ct0 oc1 kV1 dc1 pm1 cd1 ct1 oc2 kV2 dc2 pm2 cd2 ct2 oc3 kV3 dc3 pm3 cd3 ct3 oc4 kV4 dc4 pm4 cd4 ct4 oc5 kV5 dc5 pm5 cd5 ct5 oc6 kV6 dc6 pm6 cd6 ct6 oc7 kV7 dc7 pm7 cd7 ct7 oc8 kV8 dc8 pm8 cd8 ct8 oc9 kV9 dc9 pm9 cd9 ct9 oc10 kV10 dc10 pm10 cd10 ct10 oc11 kV11 dc11 pm11 cd11 ct11 oc12 kV12 dc12 pm12 cd12 ct12 oc13 kV13 dc13 pm13 cd13 ct13 oc14 kV14 dc14 pm14 cd14 ct14 oc15 kV15 dc15 pm15 cd15 ct15 oc16 kV16 dc16 pm16 cd16 ct16 oc17 kV17 dc17 pm17 cd17 ct17 oc18 kV18 dc18 pm18 cd18 ct18 oc19 kV19 dc19 pm19 cd19 ct19 oc20 kV20 dc20 pm20 ct20 oc21 kV21 dc21 pm21 cd21 ct21 oc22 kV22 dc22 pm22 cd22 ct22 oc23 kV23 dc23 pm23 cd23 ct23 oc24 kV24 dc24 pm24 ct24 oc25 kV25 dc25 pm25 cd25 ct25 oc26 kV26 dc26 pm26 cd26 ct26 oc27 kV27 dc27 pm27 cd27 ct27 oc28 kV28 dc28 pm28 ct28 oc29 kV29 dc29 pm29 cd29 ct29 oc30 kV30 dc30 pm30 cd30 ct30 oc31 kV31 dc31 pm31 cd31 ct31 oc32 kV32 dc32 pm32 ct32 oc33 kV33 dc33 pm33 ct33 oc34 kV34 dc34 pm34 cd34 ct34 oc35 kV35 dc35 pm35 cd35 ct35 oc36 kV36 dc36 pm36 cd36 ct36 oc37 kV37 dc37 pm37 cd37 ct37 oc38 kV38 dc38 pm38 cd38 ct38 oc39 kV39 dc39 pm39 cd39 ct39 oc40 kV40 dc40 pm40 cd40 ct40 oc41 kV41 dc41 pm41 cd41 ct41 oc42 kV42 dc42 pm42 cd42 ct42 oc43 kV43 dc43 pm43 cd43 ct43 oc44 kV44 dc44 pm44 cd44 ct44 oc45 kV45 dc45 pm45 cd45 ct45 : Value}
    {C_Rule : Addr} (g_Rule : PySem.W.nsIn K mainGlobals "Rule" = some (some (.ref C_Rule))) (gp_Rule : PySem.W.plainGet K C_Rule Str.empty = true) (gh_Rule : PySem.W.hasDictIn K C_Rule = true) (go_Rule : PySem.W.plainOver K C_Rule = true) (gs_Rule : PySem.W.findIn K (.ref C_Rule) "__setattr__" = some (some (.builtin "object.__setattr__")))
    {C_SaveAfterSend : Addr} (g_SaveAfterSend : PySem.W.nsIn K mainGlobals "SaveAfterSend" = some (some (.ref C_SaveAfterSend))) (gp_SaveAfterSend : PySem.W.plainGet K C_SaveAfterSend Str.empty = true) (gh_SaveAfterSend : PySem.W.hasDictIn K C_SaveAfterSend = true) (go_SaveAfterSend : PySem.W.plainOver K C_SaveAfterSend = true) (gs_SaveAfterSend : PySem.W.findIn K (.ref C_SaveAfterSend) "__setattr__" = some (some (.builtin "object.__setattr__")))
    {C_SaveAlways : Addr} (g_SaveAlways : PySem.W.nsIn K mainGlobals "SaveAlways" = some (some (.ref C_SaveAlways))) (gp_SaveAlways : PySem.W.plainGet K C_SaveAlways Str.empty = true) (gh_SaveAlways : PySem.W.hasDictIn K C_SaveAlways = true) (go_SaveAlways : PySem.W.plainOver K C_SaveAlways = true) (gs_SaveAlways : PySem.W.findIn K (.ref C_SaveAlways) "__setattr__" = some (some (.builtin "object.__setattr__")))
    {C_Rounds : Addr} (g_Rounds : PySem.W.nsIn K mainGlobals "Rounds" = some (some (.ref C_Rounds))) (gp_Rounds : PySem.W.plainGet K C_Rounds Str.empty = true) (gh_Rounds : PySem.W.hasDictIn K C_Rounds = true) (go_Rounds : PySem.W.plainOver K C_Rounds = true) (gs_Rounds : PySem.W.findIn K (.ref C_Rounds) "__setattr__" = some (some (.builtin "object.__setattr__")))
    {p41 p42 p43 p44 : Addr} {rs41 rs42 rs43 rs44 : List Value}
    {cc20 cda20 cc24 cda24 cc28 cda28 cc32 cda32 cc33 cda33 : Addr} {cl20 ccl20 cl24 ccl24 cl28 ccl28 cl32 ccl32 cl33 ccl33 : Value} {cld20 cdd20 cld24 cdd24 cld28 cdd28 cld32 cdd32 cld33 cdd33 : Option Addr} {csl20 ccs20 csl24 ccs24 csl28 ccs28 csl32 ccs32 csl33 ccs33 : Array (Option Value)} {cvs20 cvs24 cvs28 cvs32 cvs33 : Array Value} {file20 file24 file28 file32 file33 : Str} {tf20 tf24 tf28 tf32 tf33 : Tok}
    (a0 : PySem.W.nsIn K mainGlobals "_law_draw" = some (some (.ref f0))) (l0 : K.lookup f0 = some ⟨oc0, od0, .func (PySem.W.fnOf "_law_draw" "_law_draw" (defArgs s__law_draw) (defBody s__law_draw) (defScope s__law_draw) .none kV0 dc0 pm0 an0 cd0 ct0), sl0⟩) (c0 : PySem.W.codeIn K cd0 "_law_draw" = true) (k0 : PySem.W.keepIn K (.ref f0) = true)
    (a1 : PySem.W.nsIn K mainGlobals "_law_one" = some (some (.ref f1))) (l1 : K.lookup f1 = some ⟨oc1, od1, .func (PySem.W.fnOf "_law_one" "_law_one" (defArgs s__law_one) (defBody s__law_one) (defScope s__law_one) .none kV1 dc1 pm1 an1 cd1 ct1), sl1⟩) (c1 : PySem.W.codeIn K cd1 "_law_one" = true) (k1 : PySem.W.keepIn K (.ref f1) = true)
    (a2 : PySem.W.nsIn K mainGlobals "_law_plan" = some (some (.ref f2))) (l2 : K.lookup f2 = some ⟨oc2, od2, .func (PySem.W.fnOf "_law_plan" "_law_plan" (defArgs s__law_plan) (defBody s__law_plan) (defScope s__law_plan) .none kV2 dc2 pm2 an2 cd2 ct2), sl2⟩) (c2 : PySem.W.codeIn K cd2 "_law_plan" = true) (k2 : PySem.W.keepIn K (.ref f2) = true)
    (a3 : PySem.W.nsIn K mainGlobals "event_count" = some (some (.ref f3))) (l3 : K.lookup f3 = some ⟨oc3, od3, .func (PySem.W.fnOf "event_count" "event_count" (defArgs s_event_count) (defBody s_event_count) (defScope s_event_count) .none kV3 dc3 pm3 an3 cd3 ct3), sl3⟩) (c3 : PySem.W.codeIn K cd3 "event_count" = true) (k3 : PySem.W.keepIn K (.ref f3) = true)
    (a4 : PySem.W.nsIn K mainGlobals "shape_error" = some (some (.ref f4))) (l4 : K.lookup f4 = some ⟨oc4, od4, .func (PySem.W.fnOf "shape_error" "shape_error" (defArgs s_shape_error) (defBody s_shape_error) (defScope s_shape_error) .none kV4 dc4 pm4 an4 cd4 ct4), sl4⟩) (c4 : PySem.W.codeIn K cd4 "shape_error" = true) (k4 : PySem.W.keepIn K (.ref f4) = true)
    (a5 : PySem.W.nsIn K mainGlobals "placed_events" = some (some (.ref f5))) (l5 : K.lookup f5 = some ⟨oc5, od5, .func (PySem.W.fnOf "placed_events" "placed_events" (defArgs s_placed_events) (defBody s_placed_events) (defScope s_placed_events) .none kV5 dc5 pm5 an5 cd5 ct5), sl5⟩) (c5 : PySem.W.codeIn K cd5 "placed_events" = true) (k5 : PySem.W.keepIn K (.ref f5) = true)
    (a6 : PySem.W.nsIn K mainGlobals "is_number" = some (some (.ref f6))) (l6 : K.lookup f6 = some ⟨oc6, od6, .func (PySem.W.fnOf "is_number" "is_number" (defArgs s_is_number) (defBody s_is_number) (defScope s_is_number) .none kV6 dc6 pm6 an6 cd6 ct6), sl6⟩) (c6 : PySem.W.codeIn K cd6 "is_number" = true) (k6 : PySem.W.keepIn K (.ref f6) = true)
    (a7 : PySem.W.nsIn K mainGlobals "is_number_within" = some (some (.ref f7))) (l7 : K.lookup f7 = some ⟨oc7, od7, .func (PySem.W.fnOf "is_number_within" "is_number_within" (defArgs s_is_number_within) (defBody s_is_number_within) (defScope s_is_number_within) .none kV7 dc7 pm7 an7 cd7 ct7), sl7⟩) (c7 : PySem.W.codeIn K cd7 "is_number_within" = true) (k7 : PySem.W.keepIn K (.ref f7) = true)
    (a8 : PySem.W.nsIn K mainGlobals "event_error" = some (some (.ref f8))) (l8 : K.lookup f8 = some ⟨oc8, od8, .func (PySem.W.fnOf "event_error" "event_error" (defArgs s_event_error) (defBody s_event_error) (defScope s_event_error) .none kV8 dc8 pm8 an8 cd8 ct8), sl8⟩) (c8 : PySem.W.codeIn K cd8 "event_error" = true) (k8 : PySem.W.keepIn K (.ref f8) = true)
    (a9 : PySem.W.nsIn K mainGlobals "twice_error" = some (some (.ref f9))) (l9 : K.lookup f9 = some ⟨oc9, od9, .func (PySem.W.fnOf "twice_error" "twice_error" (defArgs s_twice_error) (defBody s_twice_error) (defScope s_twice_error) .none kV9 dc9 pm9 an9 cd9 ct9), sl9⟩) (c9 : PySem.W.codeIn K cd9 "twice_error" = true) (k9 : PySem.W.keepIn K (.ref f9) = true)
    (a10 : PySem.W.nsIn K mainGlobals "is_sent_by_another" = some (some (.ref f10))) (l10 : K.lookup f10 = some ⟨oc10, od10, .func (PySem.W.fnOf "is_sent_by_another" "is_sent_by_another" (defArgs s_is_sent_by_another) (defBody s_is_sent_by_another) (defScope s_is_sent_by_another) .none kV10 dc10 pm10 an10 cd10 ct10), sl10⟩) (c10 : PySem.W.codeIn K cd10 "is_sent_by_another" = true) (k10 : PySem.W.keepIn K (.ref f10) = true)
    (a11 : PySem.W.nsIn K mainGlobals "unsent_error" = some (some (.ref f11))) (l11 : K.lookup f11 = some ⟨oc11, od11, .func (PySem.W.fnOf "unsent_error" "unsent_error" (defArgs s_unsent_error) (defBody s_unsent_error) (defScope s_unsent_error) .none kV11 dc11 pm11 an11 cd11 ct11), sl11⟩) (c11 : PySem.W.codeIn K cd11 "unsent_error" = true) (k11 : PySem.W.keepIn K (.ref f11) = true)
    (a12 : PySem.W.nsIn K mainGlobals "ready_process" = some (some (.ref f12))) (l12 : K.lookup f12 = some ⟨oc12, od12, .func (PySem.W.fnOf "ready_process" "ready_process" (defArgs s_ready_process) (defBody s_ready_process) (defScope s_ready_process) .none kV12 dc12 pm12 an12 cd12 ct12), sl12⟩) (c12 : PySem.W.codeIn K cd12 "ready_process" = true) (k12 : PySem.W.keepIn K (.ref f12) = true)
    (a13 : PySem.W.nsIn K mainGlobals "some_order" = some (some (.ref f13))) (l13 : K.lookup f13 = some ⟨oc13, od13, .func (PySem.W.fnOf "some_order" "some_order" (defArgs s_some_order) (defBody s_some_order) (defScope s_some_order) .none kV13 dc13 pm13 an13 cd13 ct13), sl13⟩) (c13 : PySem.W.codeIn K cd13 "some_order" = true) (k13 : PySem.W.keepIn K (.ref f13) = true)
    (a14 : PySem.W.nsIn K mainGlobals "circle_error" = some (some (.ref f14))) (l14 : K.lookup f14 = some ⟨oc14, od14, .func (PySem.W.fnOf "circle_error" "circle_error" (defArgs s_circle_error) (defBody s_circle_error) (defScope s_circle_error) .none kV14 dc14 pm14 an14 cd14 ct14), sl14⟩) (c14 : PySem.W.codeIn K cd14 "circle_error" = true) (k14 : PySem.W.keepIn K (.ref f14) = true)
    (a15 : PySem.W.nsIn K mainGlobals "history_error" = some (some (.ref f15))) (l15 : K.lookup f15 = some ⟨oc15, od15, .func (PySem.W.fnOf "history_error" "history_error" (defArgs s_history_error) (defBody s_history_error) (defScope s_history_error) .none kV15 dc15 pm15 an15 cd15 ct15), sl15⟩) (c15 : PySem.W.codeIn K cd15 "history_error" = true) (k15 : PySem.W.keepIn K (.ref f15) = true)
    (a16 : PySem.W.nsIn K mainGlobals "is_history" = some (some (.ref f16))) (l16 : K.lookup f16 = some ⟨oc16, od16, .func (PySem.W.fnOf "is_history" "is_history" (defArgs s_is_history) (defBody s_is_history) (defScope s_is_history) .none kV16 dc16 pm16 an16 cd16 ct16), sl16⟩) (c16 : PySem.W.codeIn K cd16 "is_history" = true) (k16 : PySem.W.keepIn K (.ref f16) = true)
    (a17 : PySem.W.nsIn K mainGlobals "_law_same" = some (some (.ref f17))) (l17 : K.lookup f17 = some ⟨oc17, od17, .func (PySem.W.fnOf "_law_same" "_law_same" (defArgs s__law_same) (defBody s__law_same) (defScope s__law_same) .none kV17 dc17 pm17 an17 cd17 ct17), sl17⟩) (c17 : PySem.W.codeIn K cd17 "_law_same" = true) (k17 : PySem.W.keepIn K (.ref f17) = true)
    (a18 : PySem.W.findIn K (.ref C_Rule) "save" = some (some (.ref f18)))
    (l18 : K.lookup f18 = some ⟨oc18, od18, .func (PySem.W.fnOf "save" "Rule.save" (defArgs s_Rule__save) (defBody s_Rule__save) (defScope s_Rule__save) .none kV18 dc18 pm18 an18 cd18 ct18), sl18⟩) (c18 : PySem.W.codeIn K cd18 "Rule.save" = true) (k18 : PySem.W.keepIn K (.ref f18) = true)
    (a19 : PySem.W.findIn K (.ref C_SaveAfterSend) "save" = some (some (.ref f19)))
    (l19 : K.lookup f19 = some ⟨oc19, od19, .func (PySem.W.fnOf "save" "SaveAfterSend.save" (defArgs s_SaveAfterSend__save) (defBody s_SaveAfterSend__save) (defScope s_SaveAfterSend__save) .none kV19 dc19 pm19 an19 cd19 ct19), sl19⟩) (c19 : PySem.W.codeIn K cd19 "SaveAfterSend.save" = true) (k19 : PySem.W.keepIn K (.ref f19) = true)
    (a20 : PySem.W.findIn K (.ref C_SaveAlways) "save" = some (some (.ref f20)))
    (l20 : K.lookup f20 = some ⟨oc20, od20, .func (PySem.W.ksFn "save" "SaveAlways.save" (defArgs s_SaveAlways__save) (defBody s_SaveAlways__save) (defScope s_SaveAlways__save) .none kV20 dc20 pm20 an20 (.ref cda20) ct20 cc20), sl20⟩) (c20 : PySem.W.codeIn K (.ref cda20) "SaveAlways.save" = true) (k20 : PySem.W.keepIn K (.ref f20) = true)
    (x20 : K.lookup cc20 = some ⟨cl20, cld20, .cell (some (.ref C_SaveAlways)), csl20⟩) (y20 : K.lookup cda20 = some ⟨ccl20, cdd20, .fields cvs20, ccs20⟩) (u20 : cvs20[2]? = some (.str file20 tf20)) (v20 : ((l.prog.main.file : Str) == file20) = true)
    (a21 : PySem.W.findIn K (.ref C_Rounds) "save" = some (some (.ref f21)))
    (l21 : K.lookup f21 = some ⟨oc21, od21, .func (PySem.W.fnOf "save" "Rounds.save" (defArgs s_Rounds__save) (defBody s_Rounds__save) (defScope s_Rounds__save) .none kV21 dc21 pm21 an21 cd21 ct21), sl21⟩) (c21 : PySem.W.codeIn K cd21 "Rounds.save" = true) (k21 : PySem.W.keepIn K (.ref f21) = true)
    (a22 : PySem.W.findIn K (.ref C_Rule) "send" = some (some (.ref f22)))
    (l22 : K.lookup f22 = some ⟨oc22, od22, .func (PySem.W.fnOf "send" "Rule.send" (defArgs s_Rule__send) (defBody s_Rule__send) (defScope s_Rule__send) .none kV22 dc22 pm22 an22 cd22 ct22), sl22⟩) (c22 : PySem.W.codeIn K cd22 "Rule.send" = true) (k22 : PySem.W.keepIn K (.ref f22) = true)
    (a23 : PySem.W.findIn K (.ref C_SaveAfterSend) "send" = some (some (.ref f23)))
    (l23 : K.lookup f23 = some ⟨oc23, od23, .func (PySem.W.fnOf "send" "SaveAfterSend.send" (defArgs s_SaveAfterSend__send) (defBody s_SaveAfterSend__send) (defScope s_SaveAfterSend__send) .none kV23 dc23 pm23 an23 cd23 ct23), sl23⟩) (c23 : PySem.W.codeIn K cd23 "SaveAfterSend.send" = true) (k23 : PySem.W.keepIn K (.ref f23) = true)
    (a24 : PySem.W.findIn K (.ref C_SaveAlways) "send" = some (some (.ref f24)))
    (l24 : K.lookup f24 = some ⟨oc24, od24, .func (PySem.W.ksFn "send" "SaveAlways.send" (defArgs s_SaveAlways__send) (defBody s_SaveAlways__send) (defScope s_SaveAlways__send) .none kV24 dc24 pm24 an24 (.ref cda24) ct24 cc24), sl24⟩) (c24 : PySem.W.codeIn K (.ref cda24) "SaveAlways.send" = true) (k24 : PySem.W.keepIn K (.ref f24) = true)
    (x24 : K.lookup cc24 = some ⟨cl24, cld24, .cell (some (.ref C_SaveAlways)), csl24⟩) (y24 : K.lookup cda24 = some ⟨ccl24, cdd24, .fields cvs24, ccs24⟩) (u24 : cvs24[2]? = some (.str file24 tf24)) (v24 : ((l.prog.main.file : Str) == file24) = true)
    (a25 : PySem.W.findIn K (.ref C_Rounds) "send" = some (some (.ref f25)))
    (l25 : K.lookup f25 = some ⟨oc25, od25, .func (PySem.W.fnOf "send" "Rounds.send" (defArgs s_Rounds__send) (defBody s_Rounds__send) (defScope s_Rounds__send) .none kV25 dc25 pm25 an25 cd25 ct25), sl25⟩) (c25 : PySem.W.codeIn K cd25 "Rounds.send" = true) (k25 : PySem.W.keepIn K (.ref f25) = true)
    (a26 : PySem.W.findIn K (.ref C_Rule) "receive" = some (some (.ref f26)))
    (l26 : K.lookup f26 = some ⟨oc26, od26, .func (PySem.W.fnOf "receive" "Rule.receive" (defArgs s_Rule__receive) (defBody s_Rule__receive) (defScope s_Rule__receive) .none kV26 dc26 pm26 an26 cd26 ct26), sl26⟩) (c26 : PySem.W.codeIn K cd26 "Rule.receive" = true) (k26 : PySem.W.keepIn K (.ref f26) = true)
    (a27 : PySem.W.findIn K (.ref C_SaveAfterSend) "receive" = some (some (.ref f27)))
    (l27 : K.lookup f27 = some ⟨oc27, od27, .func (PySem.W.fnOf "receive" "SaveAfterSend.receive" (defArgs s_SaveAfterSend__receive) (defBody s_SaveAfterSend__receive) (defScope s_SaveAfterSend__receive) .none kV27 dc27 pm27 an27 cd27 ct27), sl27⟩) (c27 : PySem.W.codeIn K cd27 "SaveAfterSend.receive" = true) (k27 : PySem.W.keepIn K (.ref f27) = true)
    (a28 : PySem.W.findIn K (.ref C_SaveAlways) "receive" = some (some (.ref f28)))
    (l28 : K.lookup f28 = some ⟨oc28, od28, .func (PySem.W.ksFn "receive" "SaveAlways.receive" (defArgs s_SaveAlways__receive) (defBody s_SaveAlways__receive) (defScope s_SaveAlways__receive) .none kV28 dc28 pm28 an28 (.ref cda28) ct28 cc28), sl28⟩) (c28 : PySem.W.codeIn K (.ref cda28) "SaveAlways.receive" = true) (k28 : PySem.W.keepIn K (.ref f28) = true)
    (x28 : K.lookup cc28 = some ⟨cl28, cld28, .cell (some (.ref C_SaveAlways)), csl28⟩) (y28 : K.lookup cda28 = some ⟨ccl28, cdd28, .fields cvs28, ccs28⟩) (u28 : cvs28[2]? = some (.str file28 tf28)) (v28 : ((l.prog.main.file : Str) == file28) = true)
    (a29 : PySem.W.findIn K (.ref C_Rounds) "receive" = some (some (.ref f29)))
    (l29 : K.lookup f29 = some ⟨oc29, od29, .func (PySem.W.fnOf "receive" "Rounds.receive" (defArgs s_Rounds__receive) (defBody s_Rounds__receive) (defScope s_Rounds__receive) .none kV29 dc29 pm29 an29 cd29 ct29), sl29⟩) (c29 : PySem.W.codeIn K cd29 "Rounds.receive" = true) (k29 : PySem.W.keepIn K (.ref f29) = true)
    (a30 : PySem.W.nsIn K mainGlobals "run_plan" = some (some (.ref f30))) (l30 : K.lookup f30 = some ⟨oc30, od30, .func (PySem.W.fnOf "run_plan" "run_plan" (defArgs s_run_plan) (defBody s_run_plan) (defScope s_run_plan) .none kV30 dc30 pm30 an30 cd30 ct30), sl30⟩) (c30 : PySem.W.codeIn K cd30 "run_plan" = true) (k30 : PySem.W.keepIn K (.ref f30) = true)
    (a31 : PySem.W.findIn K (.ref C_Rule) "__init__" = some (some (.ref f31)))
    (l31 : K.lookup f31 = some ⟨oc31, od31, .func (PySem.W.fnOf "__init__" "Rule.__init__" (defArgs s_Rule____init__) (defBody s_Rule____init__) (defScope s_Rule____init__) .none kV31 dc31 pm31 an31 cd31 ct31), sl31⟩) (c31 : PySem.W.codeIn K cd31 "Rule.__init__" = true) (k31 : PySem.W.keepIn K (.ref f31) = true)
    (a32 : PySem.W.findIn K (.ref C_SaveAfterSend) "__init__" = some (some (.ref f32)))
    (l32 : K.lookup f32 = some ⟨oc32, od32, .func (PySem.W.ksFn "__init__" "SaveAfterSend.__init__" (defArgs s_SaveAfterSend____init__) (defBody s_SaveAfterSend____init__) (defScope s_SaveAfterSend____init__) .none kV32 dc32 pm32 an32 (.ref cda32) ct32 cc32), sl32⟩) (c32 : PySem.W.codeIn K (.ref cda32) "SaveAfterSend.__init__" = true) (k32 : PySem.W.keepIn K (.ref f32) = true)
    (x32 : K.lookup cc32 = some ⟨cl32, cld32, .cell (some (.ref C_SaveAfterSend)), csl32⟩) (y32 : K.lookup cda32 = some ⟨ccl32, cdd32, .fields cvs32, ccs32⟩) (u32 : cvs32[2]? = some (.str file32 tf32)) (v32 : ((l.prog.main.file : Str) == file32) = true)
    (a33 : PySem.W.findIn K (.ref C_Rounds) "__init__" = some (some (.ref f33)))
    (l33 : K.lookup f33 = some ⟨oc33, od33, .func (PySem.W.ksFn "__init__" "Rounds.__init__" (defArgs s_Rounds____init__) (defBody s_Rounds____init__) (defScope s_Rounds____init__) .none kV33 dc33 pm33 an33 (.ref cda33) ct33 cc33), sl33⟩) (c33 : PySem.W.codeIn K (.ref cda33) "Rounds.__init__" = true) (k33 : PySem.W.keepIn K (.ref f33) = true)
    (x33 : K.lookup cc33 = some ⟨cl33, cld33, .cell (some (.ref C_Rounds)), csl33⟩) (y33 : K.lookup cda33 = some ⟨ccl33, cdd33, .fields cvs33, ccs33⟩) (u33 : cvs33[2]? = some (.str file33 tf33)) (v33 : ((l.prog.main.file : Str) == file33) = true)
    (a34 : PySem.W.nsIn K mainGlobals "_law_rule" = some (some (.ref f34))) (l34 : K.lookup f34 = some ⟨oc34, od34, .func (PySem.W.fnOf "_law_rule" "_law_rule" (defArgs s__law_rule) (defBody s__law_rule) (defScope s__law_rule) .none kV34 dc34 pm34 an34 cd34 ct34), sl34⟩) (c34 : PySem.W.codeIn K cd34 "_law_rule" = true) (k34 : PySem.W.keepIn K (.ref f34) = true)
    (a35 : PySem.W.nsIn K mainGlobals "_law_wants" = some (some (.ref f35))) (l35 : K.lookup f35 = some ⟨oc35, od35, .func (PySem.W.fnOf "_law_wants" "_law_wants" (defArgs s__law_wants) (defBody s__law_wants) (defScope s__law_wants) .none kV35 dc35 pm35 an35 cd35 ct35), sl35⟩) (c35 : PySem.W.codeIn K cd35 "_law_wants" = true) (k35 : PySem.W.keepIn K (.ref f35) = true)
    (a36 : PySem.W.nsIn K mainGlobals "_law_sent" = some (some (.ref f36))) (l36 : K.lookup f36 = some ⟨oc36, od36, .func (PySem.W.fnOf "_law_sent" "_law_sent" (defArgs s__law_sent) (defBody s__law_sent) (defScope s__law_sent) .none kV36 dc36 pm36 an36 cd36 ct36), sl36⟩) (c36 : PySem.W.codeIn K cd36 "_law_sent" = true) (k36 : PySem.W.keepIn K (.ref f36) = true)
    (a37 : PySem.W.nsIn K mainGlobals "_law_saved" = some (some (.ref f37))) (l37 : K.lookup f37 = some ⟨oc37, od37, .func (PySem.W.fnOf "_law_saved" "_law_saved" (defArgs s__law_saved) (defBody s__law_saved) (defScope s__law_saved) .none kV37 dc37 pm37 an37 cd37 ct37), sl37⟩) (c37 : PySem.W.codeIn K cd37 "_law_saved" = true) (k37 : PySem.W.keepIn K (.ref f37) = true)
    (a38 : PySem.W.nsIn K mainGlobals "_law_fresh" = some (some (.ref f38))) (l38 : K.lookup f38 = some ⟨oc38, od38, .func (PySem.W.fnOf "_law_fresh" "_law_fresh" (defArgs s__law_fresh) (defBody s__law_fresh) (defScope s__law_fresh) .none kV38 dc38 pm38 an38 cd38 ct38), sl38⟩) (c38 : PySem.W.codeIn K cd38 "_law_fresh" = true) (k38 : PySem.W.keepIn K (.ref f38) = true)
    (a39 : PySem.W.nsIn K mainGlobals "_law_built" = some (some (.ref f39))) (l39 : K.lookup f39 = some ⟨oc39, od39, .func (PySem.W.fnOf "_law_built" "_law_built" (defArgs s__law_built) (defBody s__law_built) (defScope s__law_built) .none kV39 dc39 pm39 an39 cd39 ct39), sl39⟩) (c39 : PySem.W.codeIn K cd39 "_law_built" = true) (k39 : PySem.W.keepIn K (.ref f39) = true)
    (a40 : PySem.W.nsIn K mainGlobals "_law_deck" = some (some (.ref f40))) (l40 : K.lookup f40 = some ⟨oc40, od40, .func (PySem.W.fnOf "_law_deck" "_law_deck" (defArgs s__law_deck) (defBody s__law_deck) (defScope s__law_deck) .none kV40 dc40 pm40 an40 cd40 ct40), sl40⟩) (c40 : PySem.W.codeIn K cd40 "_law_deck" = true) (k40 : PySem.W.keepIn K (.ref f40) = true)
    (pa41 : PySem.W.findIn K (.ref C_Rule) "forced" = some (some (.ref p41))) (a41 : PySem.W.recIn K p41 "property" = some (.ref f41 :: rs41))
    (l41 : K.lookup f41 = some ⟨oc41, od41, .func (PySem.W.fnOf "forced" "Rule.forced" (defArgs s_Rule__forced) (defBody s_Rule__forced) (defScope s_Rule__forced) .none kV41 dc41 pm41 an41 cd41 ct41), sl41⟩) (c41 : PySem.W.codeIn K cd41 "Rule.forced" = true) (k41 : PySem.W.keepIn K (.ref f41) = true)
    (pa42 : PySem.W.findIn K (.ref C_SaveAfterSend) "forced" = some (some (.ref p42))) (a42 : PySem.W.recIn K p42 "property" = some (.ref f42 :: rs42))
    (l42 : K.lookup f42 = some ⟨oc42, od42, .func (PySem.W.fnOf "forced" "SaveAfterSend.forced" (defArgs s_SaveAfterSend__forced) (defBody s_SaveAfterSend__forced) (defScope s_SaveAfterSend__forced) .none kV42 dc42 pm42 an42 cd42 ct42), sl42⟩) (c42 : PySem.W.codeIn K cd42 "SaveAfterSend.forced" = true) (k42 : PySem.W.keepIn K (.ref f42) = true)
    (pa43 : PySem.W.findIn K (.ref C_SaveAlways) "forced" = some (some (.ref p43))) (a43 : PySem.W.recIn K p43 "property" = some (.ref f43 :: rs43))
    (l43 : K.lookup f43 = some ⟨oc43, od43, .func (PySem.W.fnOf "forced" "SaveAlways.forced" (defArgs s_SaveAlways__forced) (defBody s_SaveAlways__forced) (defScope s_SaveAlways__forced) .none kV43 dc43 pm43 an43 cd43 ct43), sl43⟩) (c43 : PySem.W.codeIn K cd43 "SaveAlways.forced" = true) (k43 : PySem.W.keepIn K (.ref f43) = true)
    (pa44 : PySem.W.findIn K (.ref C_Rounds) "forced" = some (some (.ref p44))) (a44 : PySem.W.recIn K p44 "property" = some (.ref f44 :: rs44))
    (l44 : K.lookup f44 = some ⟨oc44, od44, .func (PySem.W.fnOf "forced" "Rounds.forced" (defArgs s_Rounds__forced) (defBody s_Rounds__forced) (defScope s_Rounds__forced) .none kV44 dc44 pm44 an44 cd44 ct44), sl44⟩) (c44 : PySem.W.codeIn K cd44 "Rounds.forced" = true) (k44 : PySem.W.keepIn K (.ref f44) = true)
    (a45 : PySem.W.nsIn K mainGlobals "law" = some (some (.ref f45))) (l45 : K.lookup f45 = some ⟨oc45, od45, .func (PySem.W.fnOf "law" "law" (defArgs s_law) (defBody s_law) (defScope s_law) .none kV45 dc45 pm45 an45 cd45 ct45), sl45⟩) (c45 : PySem.W.codeIn K cd45 "law" = true) (k45 : PySem.W.keepIn K (.ref f45) = true)
    (n_SaveAfterSend__busy : PySem.W.findIn K (.ref C_SaveAfterSend) "busy" = some none)
    (n_SaveAlways__busy : PySem.W.findIn K (.ref C_SaveAlways) "busy" = some none)
    (s1_SaveAlways__save__SaveAlways : PySem.W.mroIn K C_SaveAlways (.ref C_SaveAlways) = some true)
    (s2_SaveAlways__save__SaveAlways__save : PySem.W.ks_superIn K C_SaveAlways C_SaveAlways "save" = some (some (.ref f19)))
    (s3_19 : PySem.W.typeIn K (.ref f19) = some (.type "function"))
    (s4 : PySem.W.nsIn K PySem.cStatics "thirdparty.any" = some none)
    (s5_19 : PySem.W.fnIn K f19 = true)
    (n_Rounds__numbers : PySem.W.findIn K (.ref C_Rounds) "numbers" = some none)
    (s1_SaveAlways__send__SaveAlways : PySem.W.mroIn K C_SaveAlways (.ref C_SaveAlways) = some true)
    (s2_SaveAlways__send__SaveAlways__send : PySem.W.ks_superIn K C_SaveAlways C_SaveAlways "send" = some (some (.ref f23)))
    (s3_23 : PySem.W.typeIn K (.ref f23) = some (.type "function"))
    (s5_23 : PySem.W.fnIn K f23 = true)
    (n_SaveAfterSend__wanted : PySem.W.findIn K (.ref C_SaveAfterSend) "wanted" = some none)
    (n_SaveAlways__wanted : PySem.W.findIn K (.ref C_SaveAlways) "wanted" = some none)
    (s1_SaveAlways__receive__SaveAlways : PySem.W.mroIn K C_SaveAlways (.ref C_SaveAlways) = some true)
    (s2_SaveAlways__receive__SaveAlways__receive : PySem.W.ks_superIn K C_SaveAlways C_SaveAlways "receive" = some (some (.ref f27)))
    (s3_27 : PySem.W.typeIn K (.ref f27) = some (.type "function"))
    (s5_27 : PySem.W.fnIn K f27 = true)
    (n_Rounds__wanted : PySem.W.findIn K (.ref C_Rounds) "wanted" = some none)
    (bf18 : PySem.W.isFn K (.ref f18) = true)
    (bf19 : PySem.W.isFn K (.ref f19) = true)
    (bf20 : PySem.W.isFn K (.ref f20) = true)
    (bf21 : PySem.W.isFn K (.ref f21) = true)
    (bf22 : PySem.W.isFn K (.ref f22) = true)
    (bf23 : PySem.W.isFn K (.ref f23) = true)
    (bf24 : PySem.W.isFn K (.ref f24) = true)
    (bf25 : PySem.W.isFn K (.ref f25) = true)
    (bf26 : PySem.W.isFn K (.ref f26) = true)
    (bf27 : PySem.W.isFn K (.ref f27) = true)
    (bf28 : PySem.W.isFn K (.ref f28) = true)
    (bf29 : PySem.W.isFn K (.ref f29) = true)
    (n_Rule__processes : PySem.W.findIn K (.ref C_Rule) "processes" = some none)
    (n_SaveAfterSend__processes : PySem.W.findIn K (.ref C_SaveAfterSend) "processes" = some none)
    (n_SaveAlways__processes : PySem.W.findIn K (.ref C_SaveAlways) "processes" = some none)
    (n_Rounds__processes : PySem.W.findIn K (.ref C_Rounds) "processes" = some none)
    (n_Rule__wanted : PySem.W.findIn K (.ref C_Rule) "wanted" = some none)
    (s1_SaveAfterSend____init____SaveAfterSend : PySem.W.mroIn K C_SaveAfterSend (.ref C_SaveAfterSend) = some true)
    (s2_SaveAfterSend____init____SaveAfterSend____init__ : PySem.W.ks_superIn K C_SaveAfterSend C_SaveAfterSend "__init__" = some (some (.ref f31)))
    (s3_31 : PySem.W.typeIn K (.ref f31) = some (.type "function"))
    (s5_31 : PySem.W.fnIn K f31 = true)
    (s1_SaveAfterSend____init____SaveAlways : PySem.W.mroIn K C_SaveAlways (.ref C_SaveAfterSend) = some true)
    (s2_SaveAfterSend____init____SaveAlways____init__ : PySem.W.ks_superIn K C_SaveAlways C_SaveAfterSend "__init__" = some (some (.ref f31)))
    (s1_Rounds____init____Rounds : PySem.W.mroIn K C_Rounds (.ref C_Rounds) = some true)
    (s2_Rounds____init____Rounds____init__ : PySem.W.ks_superIn K C_Rounds C_Rounds "__init__" = some (some (.ref f31)))
    (b_SaveAlways____init__ : PySem.W.findIn K (.ref C_SaveAlways) "__init__" = some (some (.ref f32)))
    (bf32 : PySem.W.isFn K (.ref f32) = true)
    (bm_SaveAlways : PySem.W.makesIn K C_SaveAlways = true)
    (bk_SaveAlways : PySem.W.keepIn K (.ref C_SaveAlways) = true)
    (bf33 : PySem.W.isFn K (.ref f33) = true)
    (bm_Rounds : PySem.W.makesIn K C_Rounds = true)
    (bk_Rounds : PySem.W.keepIn K (.ref C_Rounds) = true)
    (bm_SaveAfterSend : PySem.W.makesIn K C_SaveAfterSend = true)
    (bk_SaveAfterSend : PySem.W.keepIn K (.ref C_SaveAfterSend) = true)
    (bf31 : PySem.W.isFn K (.ref f31) = true)
    (bm_Rule : PySem.W.makesIn K C_Rule = true)
    (bk_Rule : PySem.W.keepIn K (.ref C_Rule) = true)
    (pg41 : PySem.W.specialIn K (.ref p41) "__get__" = some (some (.builtin "property.__get__")))
    (pt41 : PySem.W.takesIn K (.ref p41) = some true)
    (pg42 : PySem.W.specialIn K (.ref p42) "__get__" = some (some (.builtin "property.__get__")))
    (pt42 : PySem.W.takesIn K (.ref p42) = some true)
    (pg43 : PySem.W.specialIn K (.ref p43) "__get__" = some (some (.builtin "property.__get__")))
    (pt43 : PySem.W.takesIn K (.ref p43) = some true)
    (pg44 : PySem.W.specialIn K (.ref p44) "__get__" = some (some (.builtin "property.__get__")))
    (pt44 : PySem.W.takesIn K (.ref p44) = some true)
    (s7 : PySem.W.nsIn K mainGlobals "super" = some none)
    (s8 : (l.prog.main.scope.names.lookup ("super" : Str)).isSome = false)
    {tM0 : Tok} (m0 : PySem.W.nsIn K mainGlobals "MAX_EVENTS" = some (some (.int 60 tM0)))
    {tM1 : Tok} (m1 : PySem.W.nsIn K mainGlobals "MAX_PROCESSES" = some (some (.int 6 tM1)))
    {tM2 : Tok} (m2 : PySem.W.nsIn K mainGlobals "MAX_MESSAGES" = some (some (.int 24 tM2)))
    (z0 : PySem.W.nsIn K mainGlobals "len" = some none) (z1 : PySem.W.nsIn K mainGlobals "tuple" = some none) (z2 : PySem.W.nsIn K mainGlobals "range" = some none) (z3 : PySem.W.nsIn K mainGlobals "sum" = some none) (z4 : PySem.W.nsIn K mainGlobals "enumerate" = some none) (z5 : PySem.W.nsIn K mainGlobals "isinstance" = some none) (z6 : PySem.W.nsIn K mainGlobals "int" = some none) (z7 : PySem.W.nsIn K mainGlobals "bool" = some none) (z8 : PySem.W.nsIn K mainGlobals "set" = some none) (z9 : PySem.W.nsIn K mainGlobals "any" = some none) (z10 : PySem.W.nsIn K mainGlobals "list" = some none) (z11 : PySem.W.nsIn K mainGlobals "str" = some none) (z12 : PySem.W.nsIn K mainGlobals "dict" = some none) (z13 : PySem.W.nsIn K mainGlobals "max" = some none) (z14 : PySem.W.nsIn K mainGlobals "abs" = some none) (z15 : PySem.W.nsIn K mainGlobals "repr" = some none) :
    ∃ fd : FuncData, (∀ (s : Shared) (v : Value), BindsTo s fd ⟨[v], []⟩ [("_law_script", v)]) ∧ ∀ base : Heap, K.In base → base.Ns mainGlobals mg → FnG l.prog w K mg base 7 fa fd ["_law_script"] (spLawD K) := by
  have e := hfa.symm.trans (PySem.W.mg_of X G a45)
  cases e
  have c_Rule : Cls K C_Rule := ⟨gp_Rule, gh_Rule, go_Rule, gs_Rule⟩
  have c_SaveAfterSend : Cls K C_SaveAfterSend := ⟨gp_SaveAfterSend, gh_SaveAfterSend, go_SaveAfterSend, gs_SaveAfterSend⟩
  have c_SaveAlways : Cls K C_SaveAlways := ⟨gp_SaveAlways, gh_SaveAlways, go_SaveAlways, gs_SaveAlways⟩
  have c_Rounds : Cls K C_Rounds := ⟨gp_Rounds, gh_Rounds, go_Rounds, gs_Rounds⟩
  have F0 := fun_mk (st := s__law_draw) l0 c0 k0
  have F1 := fun_mk (st := s__law_one) l1 c1 k1
  have F2 := fun_mk (st := s__law_plan) l2 c2 k2
  have F3 := fun_mk (st := s_event_count) l3 c3 k3
  have F4 := fun_mk (st := s_shape_error) l4 c4 k4
  have F5 := fun_mk (st := s_placed_events) l5 c5 k5
  have F6 := fun_mk (st := s_is_number) l6 c6 k6
  have F7 := fun_mk (st := s_is_number_within) l7 c7 k7
  have F8 := fun_mk (st := s_event_error) l8 c8 k8
  have F9 := fun_mk (st := s_twice_error) l9 c9 k9
  have F10 := fun_mk (st := s_is_sent_by_another) l10 c10 k10
  have F11 := fun_mk (st := s_unsent_error) l11 c11 k11
  have F12 := fun_mk (st := s_ready_process) l12 c12 k12
  have F13 := fun_mk (st := s_some_order) l13 c13 k13
  have F14 := fun_mk (st := s_circle_error) l14 c14 k14
  have F15 := fun_mk (st := s_history_error) l15 c15 k15
  have F16 := fun_mk (st := s_is_history) l16 c16 k16
  have F17 := fun_mk (st := s__law_same) l17 c17 k17
  have F18 := fun_mk (st := s_Rule__save) l18 c18 k18
  have F19 := fun_mk (st := s_SaveAfterSend__save) l19 c19 k19
  have F20 : FunS l.prog K mg _ _ s_SaveAlways__save f20 _ C_SaveAlways cda20 cc20 := funS_mk l20 c20 x20 y20 u20 v20 s8 (PySem.W.mg_none_of X G s7) c_SaveAlways
  have F21 := fun_mk (st := s_Rounds__save) l21 c21 k21
  have F22 := fun_mk (st := s_Rule__send) l22 c22 k22
  have F23 := fun_mk (st := s_SaveAfterSend__send) l23 c23 k23
  have F24 : FunS l.prog K mg _ _ s_SaveAlways__send f24 _ C_SaveAlways cda24 cc24 := funS_mk l24 c24 x24 y24 u24 v24 s8 (PySem.W.mg_none_of X G s7) c_SaveAlways
  have F25 := fun_mk (st := s_Rounds__send) l25 c25 k25
  have F26 := fun_mk (st := s_Rule__receive) l26 c26 k26
  have F27 := fun_mk (st := s_SaveAfterSend__receive) l27 c27 k27
  have F28 : FunS l.prog K mg _ _ s_SaveAlways__receive f28 _ C_SaveAlways cda28 cc28 := funS_mk l28 c28 x28 y28 u28 v28 s8 (PySem.W.mg_none_of X G s7) c_SaveAlways
  have F29 := fun_mk (st := s_Rounds__receive) l29 c29 k29
  have F30 := fun_mk (st := s_run_plan) l30 c30 k30
  have F31 := fun_mk (st := s_Rule____init__) l31 c31 k31
  have F32 : FunS l.prog K mg _ _ s_SaveAfterSend____init__ f32 _ C_SaveAfterSend cda32 cc32 := funS_mk l32 c32 x32 y32 u32 v32 s8 (PySem.W.mg_none_of X G s7) c_SaveAfterSend
  have F33 : FunS l.prog K mg _ _ s_Rounds____init__ f33 _ C_Rounds cda33 cc33 := funS_mk l33 c33 x33 y33 u33 v33 s8 (PySem.W.mg_none_of X G s7) c_Rounds
  have F34 := fun_mk (st := s__law_rule) l34 c34 k34
  have F35 := fun_mk (st := s__law_wants) l35 c35 k35
  have F36 := fun_mk (st := s__law_sent) l36 c36 k36
  have F37 := fun_mk (st := s__law_saved) l37 c37 k37
  have F38 := fun_mk (st := s__law_fresh) l38 c38 k38
  have F39 := fun_mk (st := s__law_built) l39 c39 k39
  have F40 := fun_mk (st := s__law_deck) l40 c40 k40
  have F41 := fun_mk (st := s_Rule__forced) l41 c41 k41
  have F42 := fun_mk (st := s_SaveAfterSend__forced) l42 c42 k42
  have F43 := fun_mk (st := s_SaveAlways__forced) l43 c43 k43
  have F44 := fun_mk (st := s_Rounds__forced) l44 c44 k44
  have F45 := fun_mk (st := s_law) l45 c45 k45
  refine ⟨(PySem.W.fnOf "law" "law" (defArgs s_law) (defBody s_law) (defScope s_law) .none kV45 dc45 pm45 an45 cd45 ct45), fun s v => .of_eq rfl, fun base _ _ => ?_⟩
  have D__law_draw : DFo l.prog w K mg base 1 "_law_draw" 2 (dFn 5 B_law_draw_ebff) := .mk' (der__law_draw F0 (PySem.W.mg_none_of X G z0)) (PySem.W.mg_of X G a0) F0.kp (F0.binds (ps := ["_law_deck_here", "_law_many"]) fun _ _ _ _ _ _ us hl => match us, hl with | [_, _], _ => rfl)
  have D__law_one : DFo l.prog w K mg base 2 "_law_one" 2 (dFn 2 B_law_one_b6e1) := .mk' (der__law_one F1 D__law_draw (PySem.W.mg_none_of X G z0)) (PySem.W.mg_of X G a1) F1.kp (F1.binds (ps := ["_law_deck_here", "_law_items"]) fun _ _ _ _ _ _ us hl => match us, hl with | [_, _], _ => rfl)
  have D__law_plan : DFo l.prog w K mg base 3 "_law_plan" 3 (dFn 11 B_law_plan_4754) := .mk' (der__law_plan F2 D__law_one D__law_draw (PySem.W.mg_none_of X G z1) (PySem.W.mg_none_of X G z2)) (PySem.W.mg_of X G a2) F2.kp (F2.binds (ps := ["_law_deck_here", "_law_count", "_law_many"]) fun _ _ _ _ _ _ us hl => match us, hl with | [_, _, _], _ => rfl)
  have D_event_count : DFo l.prog w K mg base 1 "event_count" 1 (dFn 2 B_event_count_1213) := .mk' (der_event_count F3 (PySem.W.mg_none_of X G z0) (PySem.W.mg_none_of X G z3)) (PySem.W.mg_of X G a3) F3.kp (F3.binds (ps := ["rows"]) fun _ _ _ _ _ _ us hl => match us, hl with | [_], _ => rfl)
  have D_shape_error : DFo l.prog w K mg base 2 "shape_error" 1 (dFn 3 B_shape_error_72a0) := .mk' (der_shape_error F4 D_event_count (PySem.W.mg_none_of X G z4) (PySem.W.mg_none_of X G z1) (PySem.W.mg_none_of X G z5) (PySem.W.mg_none_of X G z0) (PySem.W.mg_of X G m0) (PySem.W.mg_of X G m1)) (PySem.W.mg_of X G a4) F4.kp (F4.binds (ps := ["value"]) fun _ _ _ _ _ _ us hl => match us, hl with | [_], _ => rfl)
  have D_placed_events : DGf l.prog w K mg base 0 "placed_events" (dGfn 1 5 B_placed_events_e217) := ⟨_, der_placed_events F5 (PySem.W.mg_none_of X G z4) (F5.binds (ps := ["rows"]) fun _ _ _ _ _ _ us hl => match us, hl with | [_], _ => rfl), PySem.W.mg_of X G a5, F5.kp⟩
  have D_is_number : DFo l.prog w K mg base 1 "is_number" 1 (dFn 1 B_is_number_52f5) := .mk' (der_is_number F6 (PySem.W.mg_none_of X G z6) (PySem.W.mg_none_of X G z5) (PySem.W.mg_none_of X G z7)) (PySem.W.mg_of X G a6) F6.kp (F6.binds (ps := ["value"]) fun _ _ _ _ _ _ us hl => match us, hl with | [_], _ => rfl)
  have D_is_number_within : DFo l.prog w K mg base 2 "is_number_within" 3 (dFn 3 B_is_number_within_7f04) := .mk' (der_is_number_within F7 D_is_number) (PySem.W.mg_of X G a7) F7.kp (F7.binds (ps := ["value", "low", "high"]) fun _ _ _ _ _ _ us hl => match us, hl with | [_, _, _], _ => rfl)
  have D_event_error : DFo l.prog w K mg base 3 "event_error" 1 (dFn 4 B_event_error_3c54) := .mk' (der_event_error F8 D_placed_events D_is_number_within (PySem.W.mg_of X G m2)) (PySem.W.mg_of X G a8) F8.kp (F8.binds (ps := ["rows"]) fun _ _ _ _ _ _ us hl => match us, hl with | [_], _ => rfl)
  have D_twice_error : DFo l.prog w K mg base 3 "twice_error" 1 (dFn 5 B_twice_error_125f) := .mk' (der_twice_error F9 D_placed_events (PySem.W.mg_none_of X G z8)) (PySem.W.mg_of X G a9) F9.kp (F9.binds (ps := ["rows"]) fun _ _ _ _ _ _ us hl => match us, hl with | [_], _ => rfl)
  have D_is_sent_by_another : DFo l.prog w K mg base 1 "is_sent_by_another" 3 (dFn 5 B_is_sent_by_another_87f2) := .mk' (der_is_sent_by_another F10 (PySem.W.mg_none_of X G z4) (PySem.W.mg_none_of X G z9)) (PySem.W.mg_of X G a10) F10.kp (F10.binds (ps := ["rows", "process", "message"]) fun _ _ _ _ _ _ us hl => match us, hl with | [_, _, _], _ => rfl)
  have D_unsent_error : DFo l.prog w K mg base 3 "unsent_error" 1 (dFn 4 B_unsent_error_5d57) := .mk' (der_unsent_error F11 D_placed_events D_is_sent_by_another) (PySem.W.mg_of X G a11) F11.kp (F11.binds (ps := ["rows"]) fun _ _ _ _ _ _ us hl => match us, hl with | [_], _ => rfl)
  have D_ready_process : DFo l.prog w K mg base 1 "ready_process" 3 (dFn 6 B_ready_process_c75e) := .mk' (der_ready_process F12 (PySem.W.mg_none_of X G z4) (PySem.W.mg_none_of X G z0)) (PySem.W.mg_of X G a12) F12.kp (F12.binds (ps := ["history", "places", "happened"]) fun _ _ _ _ _ _ us hl => match us, hl with | [_, _, _], _ => rfl)
  have D_some_order : DGf l.prog w K mg base 1 "some_order" (dGfn 1 5 B_some_order_66e8) := ⟨_, der_some_order F13 D_ready_process (PySem.W.mg_none_of X G z0) (F13.binds (ps := ["history"]) fun _ _ _ _ _ _ us hl => match us, hl with | [_], _ => rfl), PySem.W.mg_of X G a13, F13.kp⟩
  have D_circle_error : DFo l.prog w K mg base 4 "circle_error" 1 (dFn 1 B_circle_error_0309) := .mk' (der_circle_error F14 D_some_order D_event_count (PySem.W.mg_none_of X G z10) (PySem.W.mg_none_of X G z0)) (PySem.W.mg_of X G a14) F14.kp (F14.binds (ps := ["rows"]) fun _ _ _ _ _ _ us hl => match us, hl with | [_], _ => rfl)
  have D_history_error : DFo l.prog w K mg base 5 "history_error" 1 (dFn 1 B_history_error_d6f4) := .mk' (der_history_error F15 D_shape_error D_event_error D_twice_error D_unsent_error D_circle_error) (PySem.W.mg_of X G a15) F15.kp (F15.binds (ps := ["value"]) fun _ _ _ _ _ _ us hl => match us, hl with | [_], _ => rfl)
  have D_is_history : DFo l.prog w K mg base 6 "is_history" 1 (dFn 1 B_is_history_be67) := .mk' (der_is_history F16 D_history_error) (PySem.W.mg_of X G a16) F16.kp (F16.binds (ps := ["value"]) fun _ _ _ _ _ _ us hl => match us, hl with | [_], _ => rfl)
  have D__law_same : DFo l.prog w K mg base 1 "_law_same" 2 (dFn 4 dStop) := .mk' (fn_stop F17 sc__law_same rfl) (PySem.W.mg_of X G a17) F17.kp (F17.binds (ps := ["_law_found", "_law_due"]) fun _ _ _ _ _ _ us hl => match us, hl with | [_, _], _ => rfl)
  have D__law_same : DFo l.prog w K mg base 2 "_law_same" 2 (dFn 4 (Bs_law_same_9d8a dStop)) := .mk' (der__law_same_1 F17 D__law_same (PySem.W.mg_none_of X G z6) (PySem.W.mg_none_of X G z5) (PySem.W.mg_none_of X G z7) (PySem.W.mg_none_of X G z11) (PySem.W.mg_none_of X G z12) (PySem.W.mg_none_of X G z1) (PySem.W.mg_none_of X G z10) (PySem.W.mg_none_of X G z0) (PySem.W.mg_none_of X G z2)) (PySem.W.mg_of X G a17) F17.kp (F17.binds (ps := ["_law_found", "_law_due"]) fun _ _ _ _ _ _ us hl => match us, hl with | [_, _], _ => rfl)
  have D__law_same : DFo l.prog w K mg base 3 "_law_same" 2 (dFn 4 (Bs_law_same_9d8a (Bs_law_same_9d8a dStop))) := .mk' (der__law_same_2 F17 D__law_same (PySem.W.mg_none_of X G z6) (PySem.W.mg_none_of X G z5) (PySem.W.mg_none_of X G z7) (PySem.W.mg_none_of X G z11) (PySem.W.mg_none_of X G z12) (PySem.W.mg_none_of X G z1) (PySem.W.mg_none_of X G z10) (PySem.W.mg_none_of X G z0) (PySem.W.mg_none_of X G z2)) (PySem.W.mg_of X G a17) F17.kp (F17.binds (ps := ["_law_found", "_law_due"]) fun _ _ _ _ _ _ us hl => match us, hl with | [_, _], _ => rfl)
  have D__law_same : DFo l.prog w K mg base 4 "_law_same" 2 (dFn 4 (Bs_law_same_9d8a (Bs_law_same_9d8a (Bs_law_same_9d8a dStop)))) := .mk' (der__law_same_3 F17 D__law_same (PySem.W.mg_none_of X G z6) (PySem.W.mg_none_of X G z5) (PySem.W.mg_none_of X G z7) (PySem.W.mg_none_of X G z11) (PySem.W.mg_none_of X G z12) (PySem.W.mg_none_of X G z1) (PySem.W.mg_none_of X G z10) (PySem.W.mg_none_of X G z0) (PySem.W.mg_none_of X G z2)) (PySem.W.mg_of X G a17) F17.kp (F17.binds (ps := ["_law_found", "_law_due"]) fun _ _ _ _ _ _ us hl => match us, hl with | [_, _], _ => rfl)
  have D__law_same : DFo l.prog w K mg base 5 "_law_same" 2 (dFn 4 B_law_same_9d8a) := .mk' (der__law_same_4 F17 D__law_same (PySem.W.mg_none_of X G z6) (PySem.W.mg_none_of X G z5) (PySem.W.mg_none_of X G z7) (PySem.W.mg_none_of X G z11) (PySem.W.mg_none_of X G z12) (PySem.W.mg_none_of X G z1) (PySem.W.mg_none_of X G z10) (PySem.W.mg_none_of X G z0) (PySem.W.mg_none_of X G z2)) (PySem.W.mg_of X G a17) F17.kp (F17.binds (ps := ["_law_found", "_law_due"]) fun _ _ _ _ _ _ us hl => match us, hl with | [_, _], _ => rfl)
  have hb18 : Binds K (PySem.W.fnOf "save" "Rule.save" (defArgs s_Rule__save) (defBody s_Rule__save) (defScope s_Rule__save) .none kV18 dc18 pm18 an18 cd18 ct18) ["self", "process"] [] := .all fun us hl => match us, hl with | [_, _], _ => rfl
  have O18 := der_Rule__save (P := l.prog) (w := w) (mg := mg) (base := base) F18 
  have A_SaveAfterSend__busy : ClsF K "SaveAfterSend" "busy" := .of g_SaveAfterSend c_SaveAfterSend n_SaveAfterSend__busy
  have A_SaveAlways__busy : ClsF K "SaveAlways" "busy" := .of g_SaveAlways c_SaveAlways n_SaveAlways__busy
  have hb19 : Binds K (PySem.W.fnOf "save" "SaveAfterSend.save" (defArgs s_SaveAfterSend__save) (defBody s_SaveAfterSend__save) (defScope s_SaveAfterSend__save) .none kV19 dc19 pm19 an19 cd19 ct19) ["self", "process"] [] := .all fun us hl => match us, hl with | [_, _], _ => rfl
  have O19 := der_SaveAfterSend__save (P := l.prog) (w := w) (mg := mg) (base := base) F19 A_SaveAfterSend__busy A_SaveAlways__busy
  have S_SaveAlways__save__SaveAlways__save : DSup l.prog w K mg base 1 C_SaveAlways "SaveAlways" "save" 2 (dFn 2 B_SaveAfterSend__save_1876) := .of g_SaveAlways s1_SaveAlways__save__SaveAlways s2_SaveAlways__save__SaveAlways__save s3_19 s4 s5_19 (by decide) (O19) hb19
  have hb20 : Binds K (PySem.W.ksFn "save" "SaveAlways.save" (defArgs s_SaveAlways__save) (defBody s_SaveAlways__save) (defScope s_SaveAlways__save) .none kV20 dc20 pm20 an20 (.ref cda20) ct20 cc20) ["self", "process"] [] := .all fun us hl => match us, hl with | [_, _], _ => rfl
  have O20 := der_SaveAlways__save (P := l.prog) (w := w) (mg := mg) (base := base) F20 S_SaveAlways__save__SaveAlways__save
  have A_Rounds__numbers : ClsF K "Rounds" "numbers" := .of g_Rounds c_Rounds n_Rounds__numbers
  have hb21 : Binds K (PySem.W.fnOf "save" "Rounds.save" (defArgs s_Rounds__save) (defBody s_Rounds__save) (defScope s_Rounds__save) .none kV21 dc21 pm21 an21 cd21 ct21) ["self", "process"] [] := .all fun us hl => match us, hl with | [_, _], _ => rfl
  have O21 := der_Rounds__save (P := l.prog) (w := w) (mg := mg) (base := base) F21 A_Rounds__numbers
  have hb22 : Binds K (PySem.W.fnOf "send" "Rule.send" (defArgs s_Rule__send) (defBody s_Rule__send) (defScope s_Rule__send) .none kV22 dc22 pm22 an22 cd22 ct22) ["self", "process"] [] := .all fun us hl => match us, hl with | [_, _], _ => rfl
  have O22 := der_Rule__send (P := l.prog) (w := w) (mg := mg) (base := base) F22 
  have hb23 : Binds K (PySem.W.fnOf "send" "SaveAfterSend.send" (defArgs s_SaveAfterSend__send) (defBody s_SaveAfterSend__send) (defScope s_SaveAfterSend__send) .none kV23 dc23 pm23 an23 cd23 ct23) ["self", "process"] [] := .all fun us hl => match us, hl with | [_, _], _ => rfl
  have O23 := der_SaveAfterSend__send (P := l.prog) (w := w) (mg := mg) (base := base) F23 A_SaveAfterSend__busy A_SaveAlways__busy
  have S_SaveAlways__send__SaveAlways__send : DSup l.prog w K mg base 1 C_SaveAlways "SaveAlways" "send" 2 (dFn 2 B_SaveAfterSend__send_b8d5) := .of g_SaveAlways s1_SaveAlways__send__SaveAlways s2_SaveAlways__send__SaveAlways__send s3_23 s4 s5_23 (by decide) (O23) hb23
  have hb24 : Binds K (PySem.W.ksFn "send" "SaveAlways.send" (defArgs s_SaveAlways__send) (defBody s_SaveAlways__send) (defScope s_SaveAlways__send) .none kV24 dc24 pm24 an24 (.ref cda24) ct24 cc24) ["self", "process"] [] := .all fun us hl => match us, hl with | [_, _], _ => rfl
  have O24 := der_SaveAlways__send (P := l.prog) (w := w) (mg := mg) (base := base) F24 S_SaveAlways__send__SaveAlways__send
  have hb25 : Binds K (PySem.W.fnOf "send" "Rounds.send" (defArgs s_Rounds__send) (defBody s_Rounds__send) (defScope s_Rounds__send) .none kV25 dc25 pm25 an25 cd25 ct25) ["self", "process"] [] := .all fun us hl => match us, hl with | [_, _], _ => rfl
  have O25 := der_Rounds__send (P := l.prog) (w := w) (mg := mg) (base := base) F25 A_Rounds__numbers
  have hb26 : Binds K (PySem.W.fnOf "receive" "Rule.receive" (defArgs s_Rule__receive) (defBody s_Rule__receive) (defScope s_Rule__receive) .none kV26 dc26 pm26 an26 cd26 ct26) ["self", "process", "note"] [] := .all fun us hl => match us, hl with | [_, _, _], _ => rfl
  have O26 := der_Rule__receive (P := l.prog) (w := w) (mg := mg) (base := base) F26 
  have A_SaveAfterSend__wanted : ClsF K "SaveAfterSend" "wanted" := .of g_SaveAfterSend c_SaveAfterSend n_SaveAfterSend__wanted
  have A_SaveAlways__wanted : ClsF K "SaveAlways" "wanted" := .of g_SaveAlways c_SaveAlways n_SaveAlways__wanted
  have hb27 : Binds K (PySem.W.fnOf "receive" "SaveAfterSend.receive" (defArgs s_SaveAfterSend__receive) (defBody s_SaveAfterSend__receive) (defScope s_SaveAfterSend__receive) .none kV27 dc27 pm27 an27 cd27 ct27) ["self", "process", "note"] [] := .all fun us hl => match us, hl with | [_, _, _], _ => rfl
  have O27 := der_SaveAfterSend__receive (P := l.prog) (w := w) (mg := mg) (base := base) F27 A_SaveAfterSend__busy A_SaveAlways__busy A_SaveAfterSend__wanted A_SaveAlways__wanted
  have S_SaveAlways__receive__SaveAlways__receive : DSup l.prog w K mg base 1 C_SaveAlways "SaveAlways" "receive" 3 (dFn 4 B_SaveAfterSend__receive_3625) := .of g_SaveAlways s1_SaveAlways__receive__SaveAlways s2_SaveAlways__receive__SaveAlways__receive s3_27 s4 s5_27 (by decide) (O27) hb27
  have hb28 : Binds K (PySem.W.ksFn "receive" "SaveAlways.receive" (defArgs s_SaveAlways__receive) (defBody s_SaveAlways__receive) (defScope s_SaveAlways__receive) .none kV28 dc28 pm28 an28 (.ref cda28) ct28 cc28) ["self", "process", "note"] [] := .all fun us hl => match us, hl with | [_, _, _], _ => rfl
  have O28 := der_SaveAlways__receive (P := l.prog) (w := w) (mg := mg) (base := base) F28 A_SaveAlways__busy S_SaveAlways__receive__SaveAlways__receive
  have A_Rounds__wanted : ClsF K "Rounds" "wanted" := .of g_Rounds c_Rounds n_Rounds__wanted
  have hb29 : Binds K (PySem.W.fnOf "receive" "Rounds.receive" (defArgs s_Rounds__receive) (defBody s_Rounds__receive) (defScope s_Rounds__receive) .none kV29 dc29 pm29 an29 cd29 ct29) ["self", "process", "note"] [] := .all fun us hl => match us, hl with | [_, _, _], _ => rfl
  have O29 := der_Rounds__receive (P := l.prog) (w := w) (mg := mg) (base := base) F29 A_Rounds__numbers A_Rounds__wanted
  have M_Rule__save : DMet l.prog w K mg base 1 "Rule" "save" 2 (dFn 2 B_Rule__save_1a8c) := .of g_Rule c_Rule a18 bf18 k18 (O18) hb18
  have M_SaveAfterSend__save : DMet l.prog w K mg base 1 "SaveAfterSend" "save" 2 (dFn 2 B_SaveAfterSend__save_1876) := .of g_SaveAfterSend c_SaveAfterSend a19 bf19 k19 (O19) hb19
  have M_SaveAlways__save : DMet l.prog w K mg base 2 "SaveAlways" "save" 2 (dFn 3 B_SaveAlways__save_ec49) := .of g_SaveAlways c_SaveAlways a20 bf20 k20 (O20) hb20
  have M_Rounds__save : DMet l.prog w K mg base 1 "Rounds" "save" 2 (dFn 2 B_Rounds__save_512a) := .of g_Rounds c_Rounds a21 bf21 k21 (O21) hb21
  have M_Rule__send : DMet l.prog w K mg base 1 "Rule" "send" 2 (dFn 2 B_Rule__send_4f02) := .of g_Rule c_Rule a22 bf22 k22 (O22) hb22
  have M_SaveAfterSend__send : DMet l.prog w K mg base 1 "SaveAfterSend" "send" 2 (dFn 2 B_SaveAfterSend__send_b8d5) := .of g_SaveAfterSend c_SaveAfterSend a23 bf23 k23 (O23) hb23
  have M_SaveAlways__send : DMet l.prog w K mg base 2 "SaveAlways" "send" 2 (dFn 3 B_SaveAlways__send_496d) := .of g_SaveAlways c_SaveAlways a24 bf24 k24 (O24) hb24
  have M_Rounds__send : DMet l.prog w K mg base 1 "Rounds" "send" 2 (dFn 2 B_Rounds__send_2628) := .of g_Rounds c_Rounds a25 bf25 k25 (O25) hb25
  have M_Rule__receive : DMet l.prog w K mg base 1 "Rule" "receive" 3 (dFn 3 B_Rule__receive_a200) := .of g_Rule c_Rule a26 bf26 k26 (O26) hb26
  have M_SaveAfterSend__receive : DMet l.prog w K mg base 1 "SaveAfterSend" "receive" 3 (dFn 4 B_SaveAfterSend__receive_3625) := .of g_SaveAfterSend c_SaveAfterSend a27 bf27 k27 (O27) hb27
  have M_SaveAlways__receive : DMet l.prog w K mg base 2 "SaveAlways" "receive" 3 (dFn 5 B_SaveAlways__receive_2317) := .of g_SaveAlways c_SaveAlways a28 bf28 k28 (O28) hb28
  have M_Rounds__receive : DMet l.prog w K mg base 1 "Rounds" "receive" 3 (dFn 4 B_Rounds__receive_9908) := .of g_Rounds c_Rounds a29 bf29 k29 (O29) hb29
  have A_Rule__processes : ClsF K "Rule" "processes" := .of g_Rule c_Rule n_Rule__processes
  have A_SaveAfterSend__processes : ClsF K "SaveAfterSend" "processes" := .of g_SaveAfterSend c_SaveAfterSend n_SaveAfterSend__processes
  have A_SaveAlways__processes : ClsF K "SaveAlways" "processes" := .of g_SaveAlways c_SaveAlways n_SaveAlways__processes
  have A_Rounds__processes : ClsF K "Rounds" "processes" := .of g_Rounds c_Rounds n_Rounds__processes
  have D_run_plan : DFo l.prog w K mg base 3 "run_plan" 2 (dFn 9 B_run_plan_ed6f) := .mk' (der_run_plan F30 M_Rule__save M_SaveAfterSend__save M_SaveAlways__save M_Rounds__save M_Rule__send M_SaveAfterSend__send M_SaveAlways__send M_Rounds__send M_Rule__receive M_SaveAfterSend__receive M_SaveAlways__receive M_Rounds__receive A_Rule__processes A_SaveAfterSend__processes A_SaveAlways__processes A_Rounds__processes (PySem.W.mg_none_of X G z1) (PySem.W.mg_none_of X G z0) (PySem.W.mg_none_of X G z2)) (PySem.W.mg_of X G a30) F30.kp (F30.binds (ps := ["rule", "plan"]) fun _ _ _ _ _ _ us hl => match us, hl with | [_, _], _ => rfl)
  have A_Rule__wanted : ClsF K "Rule" "wanted" := .of g_Rule c_Rule n_Rule__wanted
  have hb31 : Binds K (PySem.W.fnOf "__init__" "Rule.__init__" (defArgs s_Rule____init__) (defBody s_Rule____init__) (defScope s_Rule____init__) .none kV31 dc31 pm31 an31 cd31 ct31) ["self", "processes"] [] := .all fun us hl => match us, hl with | [_, _], _ => rfl
  have O31 := der_Rule____init__ (P := l.prog) (w := w) (mg := mg) (base := base) F31 A_Rule__wanted A_SaveAfterSend__wanted A_SaveAlways__wanted A_Rounds__wanted A_Rule__processes A_SaveAfterSend__processes A_SaveAlways__processes A_Rounds__processes
  have S_SaveAfterSend____init____SaveAfterSend____init__ : DSup l.prog w K mg base 1 C_SaveAfterSend "SaveAfterSend" "__init__" 2 (dFn 2 B_Rule____init___2563) := .of g_SaveAfterSend s1_SaveAfterSend____init____SaveAfterSend s2_SaveAfterSend____init____SaveAfterSend____init__ s3_31 s4 s5_31 (by decide) (O31) hb31
  have S_SaveAfterSend____init____SaveAlways____init__ : DSup l.prog w K mg base 1 C_SaveAfterSend "SaveAlways" "__init__" 2 (dFn 2 B_Rule____init___2563) := .of g_SaveAlways s1_SaveAfterSend____init____SaveAlways s2_SaveAfterSend____init____SaveAlways____init__ s3_31 s4 s5_31 (by decide) (O31) hb31
  have hb32 : Binds K (PySem.W.ksFn "__init__" "SaveAfterSend.__init__" (defArgs s_SaveAfterSend____init__) (defBody s_SaveAfterSend____init__) (defScope s_SaveAfterSend____init__) .none kV32 dc32 pm32 an32 (.ref cda32) ct32 cc32) ["self", "processes"] [] := .all fun us hl => match us, hl with | [_, _], _ => rfl
  have O32 := der_SaveAfterSend____init__ (P := l.prog) (w := w) (mg := mg) (base := base) F32 A_SaveAfterSend__busy A_SaveAlways__busy S_SaveAfterSend____init____SaveAfterSend____init__ S_SaveAfterSend____init____SaveAlways____init__
  have S_Rounds____init____Rounds____init__ : DSup l.prog w K mg base 1 C_Rounds "Rounds" "__init__" 2 (dFn 2 B_Rule____init___2563) := .of g_Rounds s1_Rounds____init____Rounds s2_Rounds____init____Rounds____init__ s3_31 s4 s5_31 (by decide) (O31) hb31
  have hb33 : Binds K (PySem.W.ksFn "__init__" "Rounds.__init__" (defArgs s_Rounds____init__) (defBody s_Rounds____init__) (defScope s_Rounds____init__) .none kV33 dc33 pm33 an33 (.ref cda33) ct33 cc33) ["self", "processes"] [] := .all fun us hl => match us, hl with | [_, _], _ => rfl
  have O33 := der_Rounds____init__ (P := l.prog) (w := w) (mg := mg) (base := base) F33 A_Rounds__numbers S_Rounds____init____Rounds____init__
  have K_SaveAlways : DMk l.prog w K mg base 2 "SaveAlways" 2 (dFn 3 B_SaveAfterSend____init___fcad) := .of g_SaveAlways (PySem.W.mg_of X G g_SaveAlways) bm_SaveAlways b_SaveAlways____init__ bf32 bk_SaveAlways (O32) hb32
  have K_Rounds : DMk l.prog w K mg base 2 "Rounds" 2 (dFn 3 B_Rounds____init___8e81) := .of g_Rounds (PySem.W.mg_of X G g_Rounds) bm_Rounds a33 bf33 bk_Rounds (O33) hb33
  have K_SaveAfterSend : DMk l.prog w K mg base 2 "SaveAfterSend" 2 (dFn 3 B_SaveAfterSend____init___fcad) := .of g_SaveAfterSend (PySem.W.mg_of X G g_SaveAfterSend) bm_SaveAfterSend a32 bf32 bk_SaveAfterSend (O32) hb32
  have K_Rule : DMk l.prog w K mg base 1 "Rule" 2 (dFn 2 B_Rule____init___2563) := .of g_Rule (PySem.W.mg_of X G g_Rule) bm_Rule a31 bf31 bk_Rule (O31) hb31
  have D__law_rule : DFo l.prog w K mg base 4 "_law_rule" 2 (dFn 2 B_law_rule_b694) := .mk' (der__law_rule F34 K_SaveAlways K_Rounds K_SaveAfterSend K_Rule) (PySem.W.mg_of X G a34) F34.kp (F34.binds (ps := ["_law_name", "_law_count"]) fun _ _ _ _ _ _ us hl => match us, hl with | [_, _], _ => rfl)
  have D__law_wants : DFo l.prog w K mg base 1 "_law_wants" 3 (dFn 9 B_law_wants_1866) := .mk' (der__law_wants F35 (PySem.W.mg_none_of X G z13)) (PySem.W.mg_of X G a35) F35.kp (F35.binds (ps := ["_law_model", "_law_process", "_law_note"]) fun _ _ _ _ _ _ us hl => match us, hl with | [_, _, _], _ => rfl)
  have D__law_sent : DFo l.prog w K mg base 1 "_law_sent" 2 (dFn 7 B_law_sent_854b) := .mk' (der__law_sent F36 ) (PySem.W.mg_of X G a36) F36.kp (F36.binds (ps := ["_law_model", "_law_process"]) fun _ _ _ _ _ _ us hl => match us, hl with | [_, _], _ => rfl)
  have D__law_saved : DFo l.prog w K mg base 1 "_law_saved" 2 (dFn 7 B_law_saved_f511) := .mk' (der__law_saved F37 ) (PySem.W.mg_of X G a37) F37.kp (F37.binds (ps := ["_law_model", "_law_process"]) fun _ _ _ _ _ _ us hl => match us, hl with | [_, _], _ => rfl)
  have D__law_fresh : DFo l.prog w K mg base 1 "_law_fresh" 2 (dFn 2 B_law_fresh_213b) := .mk' (der__law_fresh F38 ) (PySem.W.mg_of X G a38) F38.kp (F38.binds (ps := ["_law_name", "_law_count"]) fun _ _ _ _ _ _ us hl => match us, hl with | [_, _], _ => rfl)
  have D__law_built : DFo l.prog w K mg base 2 "_law_built" 3 (dFn 9 B_law_built_25f7) := .mk' (der__law_built F39 D__law_wants D__law_sent D__law_saved D__law_fresh (PySem.W.mg_none_of X G z1) (PySem.W.mg_none_of X G z6) (PySem.W.mg_none_of X G z0)) (PySem.W.mg_of X G a39) F39.kp (F39.binds (ps := ["_law_name", "_law_count", "_law_acts"]) fun _ _ _ _ _ _ us hl => match us, hl with | [_, _, _], _ => rfl)
  have D__law_deck : DFo l.prog w K mg base 1 "_law_deck" 1 (dFn 2 B_law_deck_e528) := .mk' (der__law_deck F40 (PySem.W.mg_none_of X G z14)) (PySem.W.mg_of X G a40) F40.kp (F40.binds (ps := ["_law_script"]) fun _ _ _ _ _ _ us hl => match us, hl with | [_], _ => rfl)
  have hb41 : Binds K (PySem.W.fnOf "forced" "Rule.forced" (defArgs s_Rule__forced) (defBody s_Rule__forced) (defScope s_Rule__forced) .none kV41 dc41 pm41 an41 cd41 ct41) ["self"] [] := .all fun us hl => match us, hl with | [_], _ => rfl
  have O41 := der_Rule__forced (P := l.prog) (w := w) (mg := mg) (base := base) F41 A_Rule__wanted A_SaveAfterSend__wanted A_SaveAlways__wanted A_Rounds__wanted
  have hb42 : Binds K (PySem.W.fnOf "forced" "SaveAfterSend.forced" (defArgs s_SaveAfterSend__forced) (defBody s_SaveAfterSend__forced) (defScope s_SaveAfterSend__forced) .none kV42 dc42 pm42 an42 cd42 ct42) ["self"] [] := .all fun us hl => match us, hl with | [_], _ => rfl
  have O42 := der_SaveAfterSend__forced (P := l.prog) (w := w) (mg := mg) (base := base) F42 A_SaveAfterSend__wanted A_SaveAlways__wanted
  have hb43 : Binds K (PySem.W.fnOf "forced" "SaveAlways.forced" (defArgs s_SaveAlways__forced) (defBody s_SaveAlways__forced) (defScope s_SaveAlways__forced) .none kV43 dc43 pm43 an43 cd43 ct43) ["self"] [] := .all fun us hl => match us, hl with | [_], _ => rfl
  have O43 := der_SaveAlways__forced (P := l.prog) (w := w) (mg := mg) (base := base) F43 A_SaveAlways__wanted
  have hb44 : Binds K (PySem.W.fnOf "forced" "Rounds.forced" (defArgs s_Rounds__forced) (defBody s_Rounds__forced) (defScope s_Rounds__forced) .none kV44 dc44 pm44 an44 cd44 ct44) ["self"] [] := .all fun us hl => match us, hl with | [_], _ => rfl
  have O44 := der_Rounds__forced (P := l.prog) (w := w) (mg := mg) (base := base) F44 A_Rounds__wanted
  have P_Rule__forced : DPr l.prog w K mg base 1 "Rule" "forced" (dFn 1 B_Rule__forced_5d3c) := .of g_Rule c_Rule pa41 pg41 pt41 a41 (O41) hb41
  have P_SaveAfterSend__forced : DPr l.prog w K mg base 1 "SaveAfterSend" "forced" (dFn 1 B_SaveAfterSend__forced_8095) := .of g_SaveAfterSend c_SaveAfterSend pa42 pg42 pt42 a42 (O42) hb42
  have P_SaveAlways__forced : DPr l.prog w K mg base 1 "SaveAlways" "forced" (dFn 1 B_SaveAlways__forced_1710) := .of g_SaveAlways c_SaveAlways pa43 pg43 pt43 a43 (O43) hb43
  have P_Rounds__forced : DPr l.prog w K mg base 1 "Rounds" "forced" (dFn 1 B_Rounds__forced_8628) := .of g_Rounds c_Rounds pa44 pg44 pt44 a44 (O44) hb44
  exact (der_law F45 D__law_plan D__law_draw D_is_history D__law_same D_run_plan D__law_rule D__law_built D__law_deck P_Rule__forced P_SaveAfterSend__forced P_SaveAlways__forced P_Rounds__forced (PySem.W.mg_none_of X G z2) (PySem.W.mg_none_of X G z15)).lawD rfl law_k65
end Sv
open PySem PySem.W PyProof.Rows in
set_option maxRecDepth 100000 in
set_option maxHeartbeats 0 in
theorem PySem.Challenge.cw_savelines_k65_plans_under_rules_holds : PySem.Challenge.rw_savelines_k65_plans_under_rules.Holds := by
  w_on; o_law; k_head; (case hw => w_witness2)
  k_fill
  refine Sv.walkG (l := PySem.Challenge.rw_savelines_k65_plans_under_rules) (n := 63) (k := 7) (x := "_law_script") (sp := Sv.spLawD) rfl (by decide) rfl ⟨rfl, by decide, by decide⟩ (fun w h Y => PySem.W.kIn_of Y) ?F (fun K H a ns hl hO hS => ⟨a, ns, rfl, hO, hS, hl, fun _ => rfl⟩)
  case F =>
    intro w mg fa h KX G hmg
    refine' Sv.all_mk KX G hmg ?g_Rule ?gp_Rule ?gh_Rule ?go_Rule ?gs_Rule ?g_SaveAfterSend ?gp_SaveAfterSend ?gh_SaveAfterSend ?go_SaveAfterSend ?gs_SaveAfterSend ?g_SaveAlways ?gp_SaveAlways ?gh_SaveAlways ?go_SaveAlways ?gs_SaveAlways ?g_Rounds ?gp_Rounds ?gh_Rounds ?go_Rounds ?gs_Rounds ?a0 ?l0 ?c0 ?k0 ?a1 ?l1 ?c1 ?k1 ?a2 ?l2 ?c2 ?k2 ?a3 ?l3 ?c3 ?k3 ?a4 ?l4 ?c4 ?k4 ?a5 ?l5 ?c5 ?k5 ?a6 ?l6 ?c6 ?k6 ?a7 ?l7 ?c7 ?k7 ?a8 ?l8 ?c8 ?k8 ?a9 ?l9 ?c9 ?k9 ?a10 ?l10 ?c10 ?k10 ?a11 ?l11 ?c11 ?k11 ?a12 ?l12 ?c12 ?k12 ?a13 ?l13 ?c13 ?k13 ?a14 ?l14 ?c14 ?k14 ?a15 ?l15 ?c15 ?k15 ?a16 ?l16 ?c16 ?k16 ?a17 ?l17 ?c17 ?k17 ?a18 ?l18 ?c18 ?k18 ?a19 ?l19 ?c19 ?k19 ?a20 ?l20 ?c20 ?k20 ?x20 ?y20 ?u20 ?v20 ?a21 ?l21 ?c21 ?k21 ?a22 ?l22 ?c22 ?k22 ?a23 ?l23 ?c23 ?k23 ?a24 ?l24 ?c24 ?k24 ?x24 ?y24 ?u24 ?v24 ?a25 ?l25 ?c25 ?k25 ?a26 ?l26 ?c26 ?k26 ?a27 ?l27 ?c27 ?k27 ?a28 ?l28 ?c28 ?k28 ?x28 ?y28 ?u28 ?v28 ?a29 ?l29 ?c29 ?k29 ?a30 ?l30 ?c30 ?k30 ?a31 ?l31 ?c31 ?k31 ?a32 ?l32 ?c32 ?k32 ?x32 ?y32 ?u32 ?v32 ?a33 ?l33 ?c33 ?k33 ?x33 ?y33 ?u33 ?v33 ?a34 ?l34 ?c34 ?k34 ?a35 ?l35 ?c35 ?k35 ?a36 ?l36 ?c36 ?k36 ?a37 ?l37 ?c37 ?k37 ?a38 ?l38 ?c38 ?k38 ?a39 ?l39 ?c39 ?k39 ?a40 ?l40 ?c40 ?k40 ?pa41 ?a41 ?l41 ?c41 ?k41 ?pa42 ?a42 ?l42 ?c42 ?k42 ?pa43 ?a43 ?l43 ?c43 ?k43 ?pa44 ?a44 ?l44 ?c44 ?k44 ?a45 ?l45 ?c45 ?k45 ?n_SaveAfterSend__busy ?n_SaveAlways__busy ?s1_SaveAlways__save__SaveAlways ?s2_SaveAlways__save__SaveAlways__save ?s3_19 ?s4 ?s5_19 ?n_Rounds__numbers ?s1_SaveAlways__send__SaveAlways ?s2_SaveAlways__send__SaveAlways__send ?s3_23 ?s5_23 ?n_SaveAfterSend__wanted ?n_SaveAlways__wanted ?s1_SaveAlways__receive__SaveAlways ?s2_SaveAlways__receive__SaveAlways__receive ?s3_27 ?s5_27 ?n_Rounds__wanted ?bf18 ?bf19 ?bf20 ?bf21 ?bf22 ?bf23 ?bf24 ?bf25 ?bf26 ?bf27 ?bf28 ?bf29 ?n_Rule__processes ?n_SaveAfterSend__processes ?n_SaveAlways__processes ?n_Rounds__processes ?n_Rule__wanted ?s1_SaveAfterSend____init____SaveAfterSend ?s2_SaveAfterSend____init____SaveAfterSend____init__ ?s3_31 ?s5_31 ?s1_SaveAfterSend____init____SaveAlways ?s2_SaveAfterSend____init____SaveAlways____init__ ?s1_Rounds____init____Rounds ?s2_Rounds____init____Rounds____init__ ?b_SaveAlways____init__ ?bf32 ?bm_SaveAlways ?bk_SaveAlways ?bf33 ?bm_Rounds ?bk_Rounds ?bm_SaveAfterSend ?bk_SaveAfterSend ?bf31 ?bm_Rule ?bk_Rule ?pg41 ?pt41 ?pg42 ?pt42 ?pg43 ?pt43 ?pg44 ?pt44 ?s7 ?s8 ?m0 ?m1 ?m2 ?z0 ?z1 ?z2 ?z3 ?z4 ?z5 ?z6 ?z7 ?z8 ?z9 ?z10 ?z11 ?z12 ?z13 ?z14 ?z15
    (case g_Rule => k_is)
    (case gp_Rule => k_is)
    (case gh_Rule => k_is)
    (case go_Rule => k_is)
    (case gs_Rule => k_is)
    (case g_SaveAfterSend => k_is)
    (case gp_SaveAfterSend => k_is)
    (case gh_SaveAfterSend => k_is)
    (case go_SaveAfterSend => k_is)
    (case gs_SaveAfterSend => k_is)
    (case g_SaveAlways => k_is)
    (case gp_SaveAlways => k_is)
    (case gh_SaveAlways => k_is)
    (case go_SaveAlways => k_is)
    (case gs_SaveAlways => k_is)
    (case g_Rounds => k_is)
    (case gp_Rounds => k_is)
    (case gh_Rounds => k_is)
    (case go_Rounds => k_is)
    (case gs_Rounds => k_is)
    (case a0 => k_is)
    (case l0 => k_is)
    (case c0 => k_is)
    (case k0 => k_is)
    (case a1 => k_is)
    (case l1 => k_is)
    (case c1 => k_is)
    (case k1 => k_is)
    (case a2 => k_is)
    (case l2 => k_is)
    (case c2 => k_is)
    (case k2 => k_is)
    (case a3 => k_is)
    (case l3 => k_is)
    (case c3 => k_is)
    (case k3 => k_is)
    (case a4 => k_is)
    (case l4 => k_is)
    (case c4 => k_is)
    (case k4 => k_is)
    (case a5 => k_is)
    (case l5 => k_is)
    (case c5 => k_is)
    (case k5 => k_is)
    (case a6 => k_is)
    (case l6 => k_is)
    (case c6 => k_is)
    (case k6 => k_is)
    (case a7 => k_is)
    (case l7 => k_is)
    (case c7 => k_is)
    (case k7 => k_is)
    (case a8 => k_is)
    (case l8 => k_is)
    (case c8 => k_is)
    (case k8 => k_is)
    (case a9 => k_is)
    (case l9 => k_is)
    (case c9 => k_is)
    (case k9 => k_is)
    (case a10 => k_is)
    (case l10 => k_is)
    (case c10 => k_is)
    (case k10 => k_is)
    (case a11 => k_is)
    (case l11 => k_is)
    (case c11 => k_is)
    (case k11 => k_is)
    (case a12 => k_is)
    (case l12 => k_is)
    (case c12 => k_is)
    (case k12 => k_is)
    (case a13 => k_is)
    (case l13 => k_is)
    (case c13 => k_is)
    (case k13 => k_is)
    (case a14 => k_is)
    (case l14 => k_is)
    (case c14 => k_is)
    (case k14 => k_is)
    (case a15 => k_is)
    (case l15 => k_is)
    (case c15 => k_is)
    (case k15 => k_is)
    (case a16 => k_is)
    (case l16 => k_is)
    (case c16 => k_is)
    (case k16 => k_is)
    (case a17 => k_is)
    (case l17 => k_is)
    (case c17 => k_is)
    (case k17 => k_is)
    (case a18 => k_is)
    (case l18 => k_is)
    (case c18 => k_is)
    (case k18 => k_is)
    (case a19 => k_is)
    (case l19 => k_is)
    (case c19 => k_is)
    (case k19 => k_is)
    (case a20 => k_is)
    (case l20 => k_is)
    (case c20 => k_is)
    (case k20 => k_is)
    (case x20 => k_is)
    (case y20 => k_is)
    (case u20 => rfl)
    (case v20 => rfl)
    (case a21 => k_is)
    (case l21 => k_is)
    (case c21 => k_is)
    (case k21 => k_is)
    (case a22 => k_is)
    (case l22 => k_is)
    (case c22 => k_is)
    (case k22 => k_is)
    (case a23 => k_is)
    (case l23 => k_is)
    (case c23 => k_is)
    (case k23 => k_is)
    (case a24 => k_is)
    (case l24 => k_is)
    (case c24 => k_is)
    (case k24 => k_is)
    (case x24 => k_is)
    (case y24 => k_is)
    (case u24 => rfl)
    (case v24 => rfl)
    (case a25 => k_is)
    (case l25 => k_is)
    (case c25 => k_is)
    (case k25 => k_is)
    (case a26 => k_is)
    (case l26 => k_is)
    (case c26 => k_is)
    (case k26 => k_is)
    (case a27 => k_is)
    (case l27 => k_is)
    (case c27 => k_is)
    (case k27 => k_is)
    (case a28 => k_is)
    (case l28 => k_is)
    (case c28 => k_is)
    (case k28 => k_is)
    (case x28 => k_is)
    (case y28 => k_is)
    (case u28 => rfl)
    (case v28 => rfl)
    (case a29 => k_is)
    (case l29 => k_is)
    (case c29 => k_is)
    (case k29 => k_is)
    (case a30 => k_is)
    (case l30 => k_is)
    (case c30 => k_is)
    (case k30 => k_is)
    (case a31 => k_is)
    (case l31 => k_is)
    (case c31 => k_is)
    (case k31 => k_is)
    (case a32 => k_is)
    (case l32 => k_is)
    (case c32 => k_is)
    (case k32 => k_is)
    (case x32 => k_is)
    (case y32 => k_is)
    (case u32 => rfl)
    (case v32 => rfl)
    (case a33 => k_is)
    (case l33 => k_is)
    (case c33 => k_is)
    (case k33 => k_is)
    (case x33 => k_is)
    (case y33 => k_is)
    (case u33 => rfl)
    (case v33 => rfl)
    (case a34 => k_is)
    (case l34 => k_is)
    (case c34 => k_is)
    (case k34 => k_is)
    (case a35 => k_is)
    (case l35 => k_is)
    (case c35 => k_is)
    (case k35 => k_is)
    (case a36 => k_is)
    (case l36 => k_is)
    (case c36 => k_is)
    (case k36 => k_is)
    (case a37 => k_is)
    (case l37 => k_is)
    (case c37 => k_is)
    (case k37 => k_is)
    (case a38 => k_is)
    (case l38 => k_is)
    (case c38 => k_is)
    (case k38 => k_is)
    (case a39 => k_is)
    (case l39 => k_is)
    (case c39 => k_is)
    (case k39 => k_is)
    (case a40 => k_is)
    (case l40 => k_is)
    (case c40 => k_is)
    (case k40 => k_is)
    (case pa41 => k_is)
    (case a41 => k_is)
    (case l41 => k_is)
    (case c41 => k_is)
    (case k41 => k_is)
    (case pa42 => k_is)
    (case a42 => k_is)
    (case l42 => k_is)
    (case c42 => k_is)
    (case k42 => k_is)
    (case pa43 => k_is)
    (case a43 => k_is)
    (case l43 => k_is)
    (case c43 => k_is)
    (case k43 => k_is)
    (case pa44 => k_is)
    (case a44 => k_is)
    (case l44 => k_is)
    (case c44 => k_is)
    (case k44 => k_is)
    (case a45 => k_is)
    (case l45 => k_is)
    (case c45 => k_is)
    (case k45 => k_is)
    (case n_SaveAfterSend__busy => k_is)
    (case n_SaveAlways__busy => k_is)
    (case s1_SaveAlways__save__SaveAlways => k_is)
    (case s2_SaveAlways__save__SaveAlways__save => ks_is)
    (case s3_19 => k_is)
    (case s4 => k_is)
    (case s5_19 => k_is)
    (case n_Rounds__numbers => k_is)
    (case s1_SaveAlways__send__SaveAlways => k_is)
    (case s2_SaveAlways__send__SaveAlways__send => ks_is)
    (case s3_23 => k_is)
    (case s5_23 => k_is)
    (case n_SaveAfterSend__wanted => k_is)
    (case n_SaveAlways__wanted => k_is)
    (case s1_SaveAlways__receive__SaveAlways => k_is)
    (case s2_SaveAlways__receive__SaveAlways__receive => ks_is)
    (case s3_27 => k_is)
    (case s5_27 => k_is)
    (case n_Rounds__wanted => k_is)
    (case bf18 => k_is)
    (case bf19 => k_is)
    (case bf20 => k_is)
    (case bf21 => k_is)
    (case bf22 => k_is)
    (case bf23 => k_is)
    (case bf24 => k_is)
    (case bf25 => k_is)
    (case bf26 => k_is)
    (case bf27 => k_is)
    (case bf28 => k_is)
    (case bf29 => k_is)
    (case n_Rule__processes => k_is)
    (case n_SaveAfterSend__processes => k_is)
    (case n_SaveAlways__processes => k_is)
    (case n_Rounds__processes => k_is)
    (case n_Rule__wanted => k_is)
    (case s1_SaveAfterSend____init____SaveAfterSend => k_is)
    (case s2_SaveAfterSend____init____SaveAfterSend____init__ => ks_is)
    (case s3_31 => k_is)
    (case s5_31 => k_is)
    (case s1_SaveAfterSend____init____SaveAlways => k_is)
    (case s2_SaveAfterSend____init____SaveAlways____init__ => ks_is)
    (case s1_Rounds____init____Rounds => k_is)
    (case s2_Rounds____init____Rounds____init__ => ks_is)
    (case b_SaveAlways____init__ => k_is)
    (case bf32 => k_is)
    (case bm_SaveAlways => k_is)
    (case bk_SaveAlways => k_is)
    (case bf33 => k_is)
    (case bm_Rounds => k_is)
    (case bk_Rounds => k_is)
    (case bm_SaveAfterSend => k_is)
    (case bk_SaveAfterSend => k_is)
    (case bf31 => k_is)
    (case bm_Rule => k_is)
    (case bk_Rule => k_is)
    (case pg41 => k_is)
    (case pt41 => k_is)
    (case pg42 => k_is)
    (case pt42 => k_is)
    (case pg43 => k_is)
    (case pt43 => k_is)
    (case pg44 => k_is)
    (case pt44 => k_is)
    (case s7 => k_is)
    (case s8 => first | rfl | decide +kernel | kernel_rfl)
    (case m0 => k_is)
    (case m1 => k_is)
    (case m2 => k_is)
    (case z0 => k_is)
    (case z1 => k_is)
    (case z2 => k_is)
    (case z3 => k_is)
    (case z4 => k_is)
    (case z5 => k_is)
    (case z6 => k_is)
    (case z7 => k_is)
    (case z8 => k_is)
    (case z9 => k_is)
    (case z10 => k_is)
    (case z11 => k_is)
    (case z12 => k_is)
    (case z13 => k_is)
    (case z14 => k_is)
    (case z15 => k_is)
